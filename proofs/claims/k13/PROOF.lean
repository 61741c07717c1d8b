import PyProof.Rows.All
import Wide.All
import OpenK.AllK
import Wide.FinOn
import Lean
import PyProof.EqAt
import PyProof.EqKinds
import PyProof.TupleCall
import PyProof.NeKinds
import PyProof.ConsumeWalk
import PyProof.ZipIter
import PyProof.EnumMake
import PyProof.EnumFor
import PyProof.StrWalks
import PyProof.ListStr
import PyProof.SliceStr2
import PyProof.StrBlockI
import PyProof.Rows.StrWeight2
import PyProof.Rows.ZipGen
import PyProof.Rows.StrIndexOr
import PyProof.Draws
import PyProof.RaisesStr
import PyProof.Rows.StrCountLaw
import PyProof.SumWalk
import PyProof.ReprRoads
import PyProof.ReprLen
import PyProof.CallFns
import PyProof.SumAny
import PyProof.SumAnyB
import KE.KRevIter
import PyProof.Rows.SetFrom
import PySem.Challenge.RW_wordrules_k13_least_ones_are_as_told
set_option Elab.async false
set_option linter.all false
set_option maxRecDepth 100000
section
open PySem PyProof.Rows
def zaa:=@Option.bind_eq_some_iff
def zab:=@Option.map_eq_some_iff
def zac:=@List.length_cons
def zad:=@List.length_map
def zae:=@List.length_append
def zaf:=@Heap.get?_push_of_some
def zag:=@Nat.lt_of_lt_of_le
def zah:=@List.getElem?_eq_some_iff
def zai:=@List.size_toArray
def zaj:=@List.mem_cons_of_mem
def zak:=@List.getElem?_eq_getElem
def zal:=@Heap.lt_size
def zam:=@wpAny_bind
def zan:=@Heap.get?_push_size
def zao:=@List.getElem?_map
def zaq:=@List.mem_cons_self
def zar:=@List.map_cons
def zas:=@List.lookup_cons
def zat:=@Option.some.inj
def zau:=@Nat.le_trans
def zav:=@Nat.le_refl
def zaw:=@Nat.ne_of_lt
def zax:=@List.mem_append
def zay:=@List.mem_cons
def zaz:=@List.mem_map
def zaA:=@decide_eq_false
def zaB:=@decide_eq_true
def zaC:=@List.map_append
def zaD:=@List.append_assoc
def zaE:=@List.length_take
def zaF:=@List.length_drop
def zaG:=@Bool.true_and
def zaH:=@List.mem_singleton
def zaI:=@Nat.lt_irrefl
def zaJ:=@Nat.lt_succ_self
def zaK:=@Int.toNat_natCast
def zaL:=@Int.eq_ofNat_of_zero_le
def zaM:=@List.length_replicate
def zaN:=@List.getElem?_set_ne
def zaO:=@List.getElem?_set_self
def zaP:=@List.take_length
def zaQ:=@List.map_map
def zaR:=@List.getElem?_append_left
def zaS:=@wpAny_pure
def zaT:=@PySem.mem_of_lookup
def zaU:=@List.length_set
def zaW:=@List.mem_of_getElem?
def zaX:=@Array.length_toList
def zaY:=@List.cons_append
def zaZ:=@List.map_nil
def za0:=@Prod.mk.injEq
def za2:=@Nat.zero_add
def za9:=@List.nodup_cons
def zba:=@List.nodup_append
def zbb:=@Option.some.injEq
def zbc:=@List.length_range
def zbd:=@List.mem_append_left
def zbe:=@List.mem_append_right
def zbf:=@List.getD_eq_getElem?_getD
def zbg:=@decide_eq_true_iff
def zbh:=@Nat.zero_le
def zbi:=@Bool.and_self
def zbj:=@List.getElem?_eq_none
def zbk:=@Bool.and_eq_true
def zbl:=@Bool.false_ne_true
def zbm:=@List.find?_cons
def zbo:=@List.getElem?_of_mem
def zbp:=@List.mem_range
def zbq:=@List.append_nil
def zbt:=@Heap.size_push
def zbu:=@List.map_congr_left
def zby:=@wpAny_truthy_bool
def zbz:=@wpAny_callSpecial?_slot
def zbA:=@List.filter_map
def zbB:=@List.mem_filter
def zbC:=@List.length_filter_le
def zbI:=@List.getElem?_append_right
def zbK:=@List.count_cons_of_ne
def zbM:=@Int.zero_add
def zbO:=@List.mem_or_eq_of_mem_set
def zbP:=@List.drop_eq_getElem_cons
def zbR:=@beq_eq_false_iff_ne
def zbT:=@wpAny_holding
def zbV:=@List.filter_congr
def zbW:=@Bool.and_true
abbrev zbY:=PySem.W.Frag
end
namespace PySem.W.Fast
def tw10268099759656093421:=0
def tw10358703079378560480:=0
def tw10479616300051747942:=0
def tw10760633931485544413:=0
def tw10943989220658956875:=0
def tw11048639933469415444:=0
def tw11070436133765052840:=0
def tw11074772146841428693:=0
def tw11231836730485077274:=0
def tw11255887275819729434:=0
def tw11395852450110702616:=0
def tw11981672077745799680:=0
def tw12027381014239895697:=0
def tw12105367038383329396:=0
def tw12588692262002451900:=0
def tw12688837427857119775:=0
def tw12828386713307738507:=0
def tw13010907461890233128:=0
def tw13117317608531056744:=0
def tw13192060031565991627:=0
def tw13203522437921598351:=0
def tw13424096938970743778:=0
def tw1369595666643297726:=0
def tw14206036067380857572:=0
def tw14264195129213407801:=0
def tw14454545623913438539:=0
def tw14475738113197682288:=0
def tw14496000965488993803:=0
def tw14785203817508544106:=0
def tw14863823591425300490:=0
def tw1515226332555307543:=0
def tw15533529645345185383:=0
def tw15536997698241582435:=0
def tw15592054469452062214:=0
def tw15638684918042962103:=0
def tw15712930757457057824:=0
def tw15743650108079803864:=0
def tw15757424117564427137:=0
def tw15965334963877167971:=0
def tw15988980493997722715:=0
def tw16013221140730260470:=0
def tw161102024683314882:=0
def tw16180656152873055579:=0
def tw16321556352056052990:=0
def tw16352021521125759621:=0
def tw16360799780030219540:=0
def tw16378850791270985720:=0
def tw16496984674611231700:=0
def tw16608406989694113751:=0
def tw16699112182975744015:=0
def tw17123355848717809428:=0
def tw1712623322821966869:=0
def tw17137774990123916248:=0
def tw17145021650844988736:=0
def tw17255856024274658667:=0
def tw17287758987965547044:=0
def tw17302401060248891884:=0
def tw17441373798683224374:=0
def tw17520581214057073286:=0
def tw17639586415001260850:=0
def tw17721143165955185795:=0
def tw1774817040497512614:=0
def tw17774095329500682110:=0
def tw18089483275637786223:=0
def tw18125727819127521862:=0
def tw18181350410402370072:=0
def tw18240057475382940961:=0
def tw18253750859520422604:=0
def tw18303912499341532712:=0
def tw18356200430551711896:=0
def tw1841750222096972101:=0
def tw18437696116828875515:=0
def tw20538016540023195:=0
def tw2074221284518751279:=0
def tw2157469892153133162:=0
def tw2483167592463077789:=0
def tw2579029927452457492:=0
def tw2880335643408067488:=0
def tw3181121938215818089:=0
def tw32357120051878865:=0
def tw3264523267689952932:=0
def tw3603489925360023036:=0
def tw3832793165138001598:=0
def tw4156787590377314314:=0
def tw4195706887955704517:=0
def tw4448045698911730556:=0
def tw467623231320639702:=0
def tw4781335268187039974:=0
def tw4968766890923194197:=0
def tw5036968654744511843:=0
def tw5063430591092544339:=0
def tw520911208848247543:=0
def tw5264678256301804496:=0
def tw5317063171705126074:=0
def tw5492981423410321437:=0
def tw562869901713509918:=0
def tw563271028688615178:=0
def tw5724257947274330159:=0
def tw5929685644596279521:=0
def tw598423397281861852:=0
def tw6045737801247868818:=0
def tw6146127412135180096:=0
def tw6157596697586837413:=0
def tw6233513374034276264:=0
def tw6350943575410616925:=0
def tw6411679493036433981:=0
def tw6454830533826822468:=0
def tw645753942210820512:=0
def tw6567397607461200553:=0
def tw6610446009924959600:=0
def tw6661760046969424862:=0
def tw7129475208585574421:=0
def tw7140883592131986571:=0
def tw727505376702163686:=0
def tw7303423083888025360:=0
def tw7606951357760895301:=0
def tw769715309770489180:=0
def tw7726615868916809574:=0
def tw8015683356446199929:=0
def tw8024808208276749045:=0
def tw8167020586532225498:=0
def tw8416443530402809603:=0
def tw8417468395295095301:=0
def tw8500574941747088399:=0
def tw8950391042315129659:=0
def tw9061312683294664181:=0
def tw91194436832772032:=0
def tw9179446646218019885:=0
def tw9292249997127022637:=0
def tw9415744212963119376:=0
def tw9485492100441826715:=0
def tw9672624398882836261:=0
def tw9705173796320410612:=0
def tw9766988902799420557:=0
def tw9783629786661983863:=0
def tw9879986453319836153:=0
def tw989245558667279480:=0
def tw9929901765526015215:=0
def tw99921257332720016:=0
end PySem.W.Fast
namespace L2
variable{a b dx C f:Addr}{u:Value}{h h':Heap}{P:Program}{w:World}{x qual:Str}{e c tg:Expr}{ρ:List (Addr×Obj)}{s s':Shared}{g':Array GenState}{t' i j k n:Nat}{d':Drawn}{ch fp:List Addr}{N ps:List Str}{M:Model}{A:Around}{E Q:Value->Shared->Prop}{pos p:Pos}{op:CmpOp}{K:zbY}{es:List Expr}{g:Int->Int->Int}{body:List Stmt}{us:List Value}{mA mg:Str->Option Value}{fd:FuncData}{scope:Scope}
open PySem PySem.Spec PyProof.Rows
abbrev Key:=Sum Int Str
def kE:Key->Value->Bool
 |.inl k,v=>Value.isInt k v
 |.inr x,v=>Value.isStrOf x v
def Hw(w:World):Key->Int
 |.inl k=>hashInt k
 |.inr x=>hashStr w x
def bt:∀{k:Key} {v:Value},kE k v=true->(∃i t,k=Sum.inl i/\v=Value.int i t)\/(∃x t,k=Sum.inr x/\v=Value.str x t)
 |.inl i,v,h=>by
  obtain⟨t,e⟩:=Value.isInt_shape (k:=i) (v:=v) h;exact .inl ⟨i,t,rfl,e⟩
 |.inr x,v,h=>by
  obtain⟨t,e⟩:=Value.isStrOf_shape (x:=x) (v:=v) h;exact .inr ⟨x,t,rfl,e⟩
def xz(i:Int)(t:Tok):kE (.inl i) (.int i t)=true:=by simp[kE,Value.isInt]
def xy(x:Str)(t:Tok):kE (.inr x) (.str x t)=true:=by simp[kE,Value.isStrOf]
def xw(a b:Int):decide ((Sum.inl a:Key)=Sum.inl b)=(a==b):=by
 by_cases e:a=b
 ·subst e;simp
 ·have h:¬(Sum.inl a:Key)=Sum.inl b:=fun q=>e (Sum.inl.inj q);rw[zaA h];exact(zbR.mpr e).symm
def xt(a b:Str):decide ((Sum.inr a:Key)=Sum.inr b)=decide (a=b):=by
 by_cases e:a=b
 ·subst e;simp
 ·have h:¬(Sum.inr a:Key)=Sum.inr b:=fun q=>e (Sum.inr.inj q);rw[zaA h,zaA e]
def xv(a:Int)(b:Str):decide ((Sum.inl a:Key)=Sum.inr b)=false:=zaA (fun q=>nomatch q)
def xu(a:Str)(b:Int):decide ((Sum.inr a:Key)=Sum.inl b)=false:=zaA (fun q=>nomatch q)
def aO(prog:Program)(w:World):PySem.KeyKind prog w Key where
 is:=kE
 hash:=Hw w
 inj:=fun v a b ha hb=>by
  rcases bt ha with⟨i,t,rfl,rfl⟩|⟨x,t,rfl,rfl⟩
  ·rcases bt hb with⟨j,u,rfl,e⟩|⟨y,u,rfl,e⟩
   ·injection e with e1 _;rw[e1]
   ·exact nomatch e
  ·rcases bt hb with⟨j,u,rfl,e⟩|⟨y,u,rfl,e⟩
   ·exact nomatch e
   ·injection e with e1 _;rw[e1]
 byValue:=fun k v h=>by
  rcases bt h with⟨i,t,rfl,rfl⟩|⟨x,t,rfl,rfl⟩<;>rfl
 pyHash:=fun hv h=>by
  rcases bt hv with⟨i,t,rfl,rfl⟩|⟨x,t,rfl,rfl⟩
  ·exact wpAny_pyHash_int h
  ·exact wpAny_pyHash_str h
 eqBool:=fun hu hv h=>by
  rcases bt hu with⟨i,t,rfl,rfl⟩|⟨x,t,rfl,rfl⟩
  ·rcases bt hv with⟨j,u,rfl,rfl⟩|⟨y,u,rfl,rfl⟩
   ·rw[xw]at h;exact wpAny_eqBool_int h
   ·rw[xv]at h;exact SeqAt.EqAt.int_str i t y u _ _ _ _ h
  ·rcases bt hv with⟨j,u,rfl,rfl⟩|⟨y,u,rfl,rfl⟩
   ·rw[xu]at h;exact SeqAt.EqAt.str_int x t j u _ _ _ _ h
   ·rw[xt]at h;exact wpAny_eqBool_str h
 «strs»:=fun k x t v h=>by
  rcases bt h with⟨i,u,rfl,e⟩|⟨y,u,rfl,e⟩
  ·exact nomatch e
  ·injection e with e1 _
   subst e1;cases v<;>rfl
def uo(prog:Program)(w:World)(i:Int)(t:Tok):(aO prog w).is (.inl i) (.int i t)=true:=xz i t
def um(prog:Program)(w:World)(x:Str)(t:Tok):(aO prog w).is (.inr x) (.str x t)=true:=xy x t
inductive V where
 |non|bl (b:Bool)|int (i:Int)|str (x:Str)|byt (b:Array UInt8)|flt (b:UInt64)|ref (a:Addr)|ty (n:String)
 deriving DecidableEq
variable{v y:V}{vs:List V}
def RelV:V->Value->Prop
 |.non,u=>u=Value.none
 |.bl b,u=>u=Value.bool b
 |.int i,u=>∃t,u=Value.int i t
 |.str x,u=>∃t,u=Value.str x t
 |.byt b,u=>∃t,u=Value.bytes b t
 |.flt b,u=>∃t,u=Value.float b t
 |.ref a,u=>u=Value.ref a
 |.ty n,u=>u=Value.type n
abbrev Vals:List V->List Value->Prop:=Paired RelV
def Vals.length{xs:List V}{us:List Value}(r:Vals xs us):xs.length=us.length:=Paired.length r
theorem Vals.get:∀{xs:List V} {us:List Value} {i:Nat} {x:V},Vals xs us->xs[i]?=some x->∃u,us[i]?=some u/\RelV x u
 |_,_,_,_,.nil,e=>by simp at e
 |_,_,0,_,.cons r _,e=>by simp at e;subst e;exact⟨_,rfl,r⟩
 |_,_,i+1,x,.cons _ t,e=>by
  obtain⟨u,h1,h2⟩:=Vals.get (i:=i) (x:=x) t (by simpa using e);exact⟨u,by simpa using h1,h2⟩
theorem Vals.set{x:V}{u:Value}(r:RelV x u):∀{xs:List V} {us:List Value} (i:Nat),Vals xs us->Vals (xs.set i x) (us.set i u)
 |_,_,_,.nil=>.nil
 |_,_,0,.cons _ t=>.cons r t
 |_,_,i+1,.cons q t=>.cons q (Vals.set r i t)
theorem Vals.append:∀{xs ys:List V} {us ws:List Value},Vals xs us->Vals ys ws->Vals (xs++ys) (us++ws)
 |_,_,_,_,.nil,s=>s
 |_,_,_,_,.cons r t,s=>.cons r (Vals.append t s)
def RelO:Option V->Option Value->Prop
 |some v,some u=>RelV v u
 |none,none=>True
 |_,_=>False
def KV{κ:Type}:List (κ×V)->List (κ×Value)->Prop:=Paired fun(p:κ×V) (q:κ×Value)=>p.1=q.1/\RelV p.2 q.2
def kV:Key->V
 |.inl i=>.int i
 |.inr x=>.str x
inductive HO where
 |lst (xs:List V)
 |tup (xs:List V)
 |dK (kvs:List (Key×V))|dT (kvs:List (List Key×V))
 |set (S:Int->Bool) (n:Nat)
 |ins (C dx:Addr) (fs:List (Str×V))
 |own (x:Addr)
 |xd (fs:List (Str×V))
 |met (f x:Addr)
 |rng (lo hi:Int)
 |frz (o:Obj) (u:HO)
 |tbl (ps:Array Value)
 |ext (φ:Heap->Prop)
variable{o:HO}
abbrev Hp:=Addr->Option HO
variable{H H':Hp}
def upd(H:Hp)(a:Addr)(o:HO):Hp:=fun b=>if b=a then some o else H b
def av:upd H a o a=some o:=by unfold upd;rw[if_pos rfl]
def az(h:b≠a):upd H a o b=H b:=by unfold upd;rw[if_neg h]
def JU{u:HO}(h:H a=some o)(h':H b=some u)(d:o≠u):a≠b:=by
 intro e;subst e;rw[h]at h';exact d (zat h')
def bP(h:H a=some o)(h':H b=none):a≠b:=by
 intro e;subst e;rw[h]at h';cases h'
def IsTupN(h:Heap)(a:Addr)(its:Array Value):Prop:=∃o,h.get? a=some o/\o.cls=.type "tuple"/\∃n,o.data=.seq its n/\o.dict=none
def IsTupN.tup{h:Heap}{a:Addr}{its:Array Value}(x:IsTupN h a its):IsTup h a its:=by
 obtain⟨o,h1,h2,n,h3,_⟩:=x;exact⟨o,h1,h2,n,h3⟩
def IsTupN.lt{its:Array Value}(x:IsTupN h a its):a<h.objs.size:=zal x.choose_spec.1
section
variable(P:Program)(w:World)
def ObjOk(H:Hp)(h:Heap)(a:Addr):HO->Prop
 |.lst xs=>xs.length<=sizeLine/\∃(its:List Value) (n:Nat),Vals xs its/\h.get? a=some { cls:=.type "list",data:=.seq its.toArray n }
 |.tup xs=>xs.length<=sizeLine/\∃its:List Value,Vals xs its/\IsTupN h a its.toArray
 |.dK kvs=>kvs.length<=sizeLine/\(a==sysModules)=false/\∃vs,KV kvs vs/\h.DictOf (aO P w) a vs
 |.dT kvs=>kvs.length<=sizeLine/\(a==sysModules)=false/\∃xs:List (List Key×Addr×Value),
   Paired (fun(p:List Key×V) (q:List Key×Addr×Value)=>p.1=q.1/\H q.2.1=some (.tup (p.1.map kV))/\RelV p.2 q.2.2) kvs xs /\
   ∃o es ep,h.get? a=some o/\o.ExactDict/\o.data=.dict es ep/\es.toList=xs.map (entryOfKey (tupleKind (aO P w)))/\(xs.map (·.1)).Nodup
 |.set S n=>h.SetOf (intKind P w) a S n
 |.ins C dx fs=>H dx=some (.own a)/\fs.length<=1000/\dx≠a/\h.get? a=some (PySem.W.instObj C dx) /\
   ∃mA,h.Ns1 dx mA/\(∀f,RelO (fs.lookup f) (mA f))/\PySem.Within mA (fs.map (·.1))
 |.own _=>∃o,h.get? a=some o
 |.xd fs=>∃mA,h.Ns1 a mA/\∀f,RelO (fs.lookup f) (mA f)
 |.rng lo hi=>∃t u v,h.get? a=some { cls:=.type "range",data:=.fields #[.int lo t,.int hi u,.int 1 v] }
 |.frz o u=>h.get? a=some o/\ObjOk H h a u
 |.tbl ps=>h.get? a=some { cls:=.none,data:=.fields ps }
 |.met f x=>h.get? a=some (PySem.W.methodObj (.ref f) (.ref x))
 |.ext φ=>φ h/\(∃o,h.get? a=some o)/\∀h1 h2:Heap,φ h1->(∀o,h1.get? a=some o->h2.get? a=some o)->φ h2
def HOk(H:Hp)(h:Heap):Prop:=∀a o,H a=some o->ObjOk P w H h a o
end
theorem ObjOk.lt(x:ObjOk P w H h a o):a<h.objs.size:=by
 cases o with
 |lst xs=>obtain⟨_,_,_,_,e⟩:=x;exact zal e
 |tup xs=>obtain⟨_,_,_,p⟩:=x;exact p.lt
 |dK kvs=>obtain⟨_,_,_,_,o,_,_,e,_⟩:=x;exact zal e
 |dT kvs=>obtain⟨_,_,_,_,o,_,_,e,_⟩:=x;exact zal e
 |set S n=>obtain⟨o,_,_,_,e,_⟩:=x;exact zal e
 |ins C dx fs=>obtain⟨_,_,_,e,_⟩:=x;exact zal e
 |own y=>obtain⟨_,e⟩:=x;exact zal e
 |xd fs=>obtain⟨_,⟨_,_,_,e,_⟩,_⟩:=x;exact zal e
 |rng lo hi=>obtain⟨_,_,_,e⟩:=x;exact zal e
 |frz ob u=>obtain⟨e,_⟩:=x;exact zal e
 |tbl ps=>exact zal (show h.get? a=some _ from x)
 |met f y=>exact zal (show h.get? a=some _ from x)
 |ext φ=>obtain⟨_,⟨_,e⟩,_⟩:=x;exact zal e
theorem Paired.mapP{α β:Type}{F G:α->β->Prop}:∀{l₁:List α} {l₂:List β},Paired F l₁ l₂->(∀a b,F a b->G a b)->Paired G l₁ l₂
 |_,_,.nil,_=>.nil
 |_,_,.cons r t,f=>.cons (f _ _ r) (Paired.mapP t f)
def ObjOk.stay(x:ObjOk P w H h a o)(k:∀b u,(b=a\/H b=some (.own a))->h.get? b=some u->h'.get? b=some u)
  (ho:∀b,H b=some (.own a)->H' b=some (.own a)) (ht:∀b xs,H b=some (.tup xs)->H' b=some (.tup xs)):ObjOk P w H' h' a o:=by
 induction o with
 |lst xs=>obtain⟨z,its,n,r,e⟩:=x;exact⟨z,its,n,r,k _ _ (.inl rfl) e⟩
 |tup xs=>obtain⟨z,its,r,ob,e,c⟩:=x;exact⟨z,its,r,ob,k _ _ (.inl rfl) e,c⟩
 |dK kvs=>obtain⟨z,y,vs,r,ob,es,ep,e,c⟩:=x;exact⟨z,y,vs,r,ob,es,ep,k _ _ (.inl rfl) e,c⟩
 |dT kvs=>
  obtain⟨z,y,xs,r,ob,es,ep,e,c⟩:=x;exact⟨z,y,xs,Paired.mapP r fun p q z=>⟨z.1,ht _ _ z.2.1,z.2.2⟩,ob,es,ep,k _ _ (.inl rfl) e,c⟩
 |set S n=>obtain⟨ob,es,ep,t,e,c⟩:=x;exact⟨ob,es,ep,t,k _ _ (.inl rfl) e,c⟩
 |ins C dx fs=>
  obtain⟨d,z,ne,e,mA,⟨od,es,ep,e2,c⟩,r⟩:=x;exact⟨ho _ d,z,ne,k _ _ (.inl rfl) e,mA,⟨od,es,ep,k _ _ (.inr d) e2,c⟩,r⟩
 |own y=>obtain⟨ob,e⟩:=x;exact⟨ob,k _ _ (.inl rfl) e⟩
 |xd fs=>obtain⟨mA,⟨od,es,ep,e,c⟩,r⟩:=x;exact⟨mA,⟨od,es,ep,k _ _ (.inl rfl) e,c⟩,r⟩
 |rng lo hi=>obtain⟨t,u,v,e⟩:=x;exact⟨t,u,v,k _ _ (.inl rfl) e⟩
 |frz ob u ih=>obtain⟨e,q⟩:=x;exact⟨k _ _ (.inl rfl) e,ih q⟩
 |tbl ps=>
  have e:h.get? a=some { cls:=.none,data:=.fields ps }:=x;show h'.get? a=some { cls:=.none,data:=.fields ps };exact k a _ (.inl rfl) e
 |met f y=>
  have e:h.get? a=some (PySem.W.methodObj (.ref f) (.ref y)):=x;show h'.get? a=some (PySem.W.methodObj (.ref f) (.ref y));exact k a _ (.inl rfl) e
 |ext φ=>obtain⟨p,⟨o,e⟩,st⟩:=x;exact⟨st _ _ p fun o q=>k _ _ (.inl rfl) q,⟨o,k _ _ (.inl rfl) e⟩,st⟩
def HOk.lt(x:HOk P w H h)(e:H a=some o):a<h.objs.size:=(x a o e).lt
def HOk.fresh(x:HOk P w H h)(e:h.objs.size<=a):H a=none:=by
 cases q:H a with
 |none=>rfl
 |some u=>exact absurd (zag (x.lt q) e) (zaI _)
def HOk.kept(x:HOk P w H h)(k:∀b u,h.get? b=some u->h'.get? b=some u):HOk P w H h':=fun a o e=>
 (x a o e).stay (fun b u _ q=>k b u q) (fun _ q=>q) fun _ _ q=>q
def HOk.laid(x:HOk P w H h)(k:∀b u,h.get? b=some u->h'.get? b=some u)(hp:h.objs.size<=a)(new:ObjOk P w (upd H a o) h' a o):HOk P w (upd H a o) h':=fun b u e=>by
 have hn:=x.fresh hp;by_cases hb:b=a
 ·subst hb;rw[av]at e;cases e;exact new
 ·rw[az hb]at e;exact(x b u e).stay (fun c v _ q=>k c v q) (fun c q=>by rw[az (bP q hn)];exact q) fun c xs q=>by rw[az (bP q hn)];exact q
def Rd(H:Hp)(a:Addr)(u:HO):Prop:=H a=some u\/∃o,H a=some (.frz o u)
def Rd.ok{u:HO}(r:Rd H a u)(x:HOk P w H h):ObjOk P w H h a u:=by
 rcases r with r|⟨o,r⟩
 ·exact x a u r
 ·obtain⟨_,q⟩:=x a _ r;exact q
def Mut:Option HO->Prop
 |some (.lst _)=>True
 |some (.dK _)=>True
 |some (.dT _)=>True
 |some (.set _ _)=>True
 |some (.ins _ _ _)=>True
 |some (.ext _)=>True
 |_=>False
section
variable{x e:Addr}{o':HO}
def HOk.write(ok:HOk P w H h)(mu:Mut (H x))(he:e=x\/H e=some (.own x))(k:∀b u,b≠e->h.get? b=some u->h'.get? b=some u)(heo:∃u,h'.get? e=some u)
  (new:ObjOk P w (upd H x o') h' x o'):HOk P w (upd H x o') h':=fun b u q=>by
 have nown:∀c y,H c=some (.own y)->c≠x:=fun c y r z=>by subst z;rw[r]at mu;exact mu
 have ntup:∀c xs,H c=some (.tup xs)->c≠x:=fun c xs r z=>by subst z;rw[r]at mu;exact mu
 by_cases hb:b=x
 ·subst hb;rw[av]at q;cases q;exact new
 ·rw[az hb]at q;by_cases hbe:b=e
  ·have q':H b=some (.own x):=by
    rcases he with z|z
    ·exact absurd (hbe.trans z) hb
    ·rw[hbe];exact z
   rw[q]at q';cases q';obtain⟨v,hv⟩:=heo;exact⟨v,by rw[hbe];exact hv⟩
  ·refine(ok b u q).stay (fun c v hc r=>k c v ?_ r) (fun c r=>by rw[az (nown c b r)];exact r) fun c xs r=>by rw[az (ntup c xs r)];exact r
   rcases hc with rfl|hc
   ·exact hbe
   ·rintro rfl;rcases he with z|z
    ·exact nown c b hc z
    ·rw[hc]at z;cases z;exact hb rfl
end
structure Un(fs ex:List Addr)(H H':Hp)(h h':Heap):Prop where
 keep:∀b o,h.get? b=some o->H b=none->b∉fs->b∉ex->h'.get? b=some o
 slot:∀b o,h.get? b=some o->H b=none->b∈fs->b∉ex->∃sl,h'.get? b=some { o with slots:=sl }
 free:∀b o,h.get? b=some o->H b=none->b∉ex->H' b=none
 there:∀b o,h.get? b=some o->b∉ex->∃o',h'.get? b=some o'
 tups:∀b xs,H b=some (.tup xs)->H' b=some (.tup xs)
 frzs:∀b o u,H b=some (.frz o u)->H' b=some (.frz o u)
 tbls:∀b ps,H b=some (.tbl ps)->∃more,H' b=some (.tbl (ps++more))
section
variable{fs fs' ex ex':List Addr}{H1 H2:Hp}{h1 h2:Heap}{x e:Addr} 
def Un.any(u:Un fs ex H H1 h h1){ob:Obj}(q:h.get? b=some ob)(n:H b=none)(hx:b∉ex):∃sl,h1.get? b=some { ob with slots:=sl }:=by
 by_cases hb:b∈fs
 ·exact u.slot b ob q n hb hx
 ·exact⟨ob.slots,u.keep b ob q n hb hx⟩
def Un.trans(a:Un fs ex H H1 h h1)(b:Un fs ex H1 H2 h1 h2):Un fs ex H H2 h h2 where
 keep:=fun c ob q n hc hx=>b.keep c ob (a.keep c ob q n hc hx) (a.free c ob q n hx) hc hx
 slot:=fun c ob q n hc hx=>by
  obtain⟨sl,e1⟩:=a.slot c ob q n hc hx;obtain⟨sl',e2⟩:=b.slot c _ e1 (a.free c ob q n hx) hc hx;exact⟨sl',e2⟩
 free:=fun c ob q n hx=>by
  obtain⟨o',e1⟩:=a.there c ob q hx;exact b.free c o' e1 (a.free c ob q n hx) hx
 there:=fun c ob q hx=>by
  obtain⟨o',e1⟩:=a.there c ob q hx;exact b.there c o' e1 hx
 tups:=fun c xs q=>b.tups c xs (a.tups c xs q)
 frzs:=fun c ob xs q=>b.frzs c ob xs (a.frzs c ob xs q)
 tbls:=fun c ps q=>by
  obtain⟨m1,e1⟩:=a.tbls c ps q;obtain⟨m2,e2⟩:=b.tbls c _ e1;exact⟨m1++m2,by rw[e2,Array.append_assoc]⟩
def Un.kept(k:∀b u,h.get? b=some u->h'.get? b=some u):Un fs ex H H h h':=
 ⟨fun b ob q _ _ _=>k b ob q,fun b ob q _ _ _=>⟨ob.slots,k b ob q⟩,fun _ _ _ n _=>n,fun b ob q _=>⟨ob,k b ob q⟩,fun _ _ q=>q,fun _ _ _ q=>q,fun _ ps q=>⟨#[],by rw[q];simp⟩⟩
def Un.refl:Un fs ex H H h h:=Un.kept fun _ _ q=>q
def Un.laid(k:∀b u,h.get? b=some u->h'.get? b=some u)(hp:h.objs.size<=a)(hn:H a=none):Un fs ex H (upd H a o) h h' where
 keep:=fun b u q _ _ _=>k b u q
 slot:=fun b u q _ _ _=>⟨u.slots,k b u q⟩
 free:=fun b u q n _=>by rw[az (zaw (zag (zal q) hp))];exact n
 there:=fun b u q _=>⟨u,k b u q⟩
 tups:=fun b xs q=>by rw[az (bP q hn)];exact q
 frzs:=fun b u xs q=>by rw[az (bP q hn)];exact q
 tbls:=fun b ps q=>⟨#[],by rw[az (bP q hn),q];simp⟩
def Un.write(mu:Mut (H x))(he:e=x\/H e=some (.own x))(k:∀b u,b≠e->h.get? b=some u->h'.get? b=some u)(heo:∃u,h'.get? e=some u):Un fs ex H (upd H x o) h h':=by
 have hx:∀b,H b=none->b≠x:=fun b n z=>by subst z;rw[n]at mu;exact mu
 have hb:∀b,H b=none->b≠e:=fun b n z=>by
  subst z;rcases he with r|r
  ·exact hx b n r
  ·rw[n]at r;cases r
 have hm:∀b u,H b=some u->¬Mut (some u)->b≠x:=fun b u q nm z=>by subst z;rw[q]at mu;exact nm mu
 refine⟨fun b u q n _ _=>k b u (hb b n) q,fun b u q n _ _=>⟨u.slots,k b u (hb b n) q⟩,fun b u q n _=>by rw[az (hx b n)];exact n,fun b u q _=>?_,
  fun b xs q=>by rw[az (hm b _ q fun z=>z)];exact q,fun b u xs q=>by rw[az (hm b _ q fun z=>z)];exact q,fun b ps q=>⟨#[],by rw[az (hm b _ q fun z=>z),q];simp⟩⟩
 by_cases hbe:b=e
 ·subst hbe;exact heo
 ·exact⟨u,k b u hbe q⟩
end
def trk(h:Heap)(H:Hp):List Addr:=(List.range h.objs.size).filter fun a=>(H a).isSome
def kI(h:Heap)(H:Hp):Heap:=PySem.W.hideAll h (trk h H)
def xG(h:Heap)(H:Hp):(kI h H).objs.size=h.objs.size:=PySem.W.hideAll_size _ _
def zr{o:Obj}(e:h.get? b=some o)(n:H b=none):(kI h H).get? b=some o:=
 PySem.W.hideAll_get _ e fun hm=>by
  have q:(H b).isSome=true:=(zbB.mp hm).2;rw[n]at q;simp at q
def Dh{o:Obj}(e:(kI h H).get? b=some o):h.get? b=some o/\H b=none:=by
 have e':h.get? b=some o:=PySem.W.of_hideAll (trk h H) e;refine⟨e',?_⟩;cases q:H b with
 |none=>rfl
 |some x=>
  have hm:b∈trk h H:=zbB.mpr ⟨zbp.mpr (zal e'),by simp[q]⟩;have z:(kI h H).get? b=none:=PySem.W.hideAll_none (trk h H) hm;rw[z]at e;cases e
def EF(g h:Heap)(L:Addr):List (Addr×Obj):=(List.range h.objs.size).filterMap fun a=>if a=L\/(g.get? a).isSome=true then none else(h.get? a).map fun o=>(a,o)
def rest(g h:Heap)(L d:Addr):List (Addr×Obj):=(EF g h L).filter fun p=>decide (p.1≠d)
structure Mod(K:zbY)(mg:Str->Option Value)(base:Heap):Prop where
 kin:K.In base
 glob:base.Ns mainGlobals mg
 blt:∃mb,base.Ns builtinsNs mb/\∀x:Str,x≠"__name__"->mb x=bootBuiltins x
 nolimit:base.NoLimit
 mods:∃mm,base.Ns sysModules mm
structure Cx where
 prog:Program
 w:World
 K:zbY
 mg:Str->Option Value
 base:Heap
 A:Around
 N:List Str
 s₀:Shared
 H₀:Hp
 env:Env
 outer:List Env
 stack:List Env
 ex:List Addr
 fn:Str->Bool
 calm:Bool
 pn:List (Addr×Obj)
 xe:Value->Shared->Prop
variable{X:Cx}
def frs(l:List Env):List Addr:=l.filterMap (·.frame)
abbrev Cx.fs(X:Cx):List Addr:=frs X.outer
def Vis(sc:Scope)(x:Str):Prop:=sc.names.lookup x=some .local\/sc.names.lookup x=some .cell\/sc.names.lookup x=some .free
def Loc(sc:Scope)(x:Str):Prop:=sc.names.lookup x=some .local\/sc.names.lookup x=some .cell
def Ll(env:Env)(h:Heap)(m:Str->Option Value)(x:Str)(u:Value):Prop:=
 (env.kindOf x=some .local/\m x=some u)\/((env.kindOf x=some .cell\/env.kindOf x=some .free)/\∃c,env.cells.lookup x=some c/\h.IsCell c (some u))
structure Cx.Ok(X:Cx):Prop where
 mod:Mod X.K X.mg X.base
 kind:X.env.scope.kind=.function
 glob:X.env.globals=mainGlobals
 blt:X.env.builtins=builtinsNs
 above:X.s₀.heap.objs.size<=X.env.locals
 inj:∀x y c,X.env.cells.lookup x=some c->X.env.cells.lookup y=some c->x=y
 has:∀x,(X.env.kindOf x=some .cell\/X.env.kindOf x=some .free)->∃c,X.env.cells.lookup x=some c
 cab:∀x c,X.fn x=true->X.env.cells.lookup x=some c->X.s₀.heap.objs.size<=c
 hd:X.calm=true->X.A.handled=none
 frames:X.A.frames=some X.stack
 stk:X.stack=X.outer\/(X.stack=X.env::X.outer/\X.env.frame=some X.env.locals)
 exf:∀b∈X.ex,b≠X.env.locals/\∀x c,X.env.cells.lookup x=some c->c≠b
 bs:∀b o,X.base.get? b=some o->X.s₀.heap.get? b=some o/\X.H₀ b=none
 bsz:X.base.objs.size<=X.s₀.heap.objs.size
 noex:∀b o,X.base.get? b=some o->b∉X.ex
 exfs:∀b∈X.ex,b∉X.fs
 funs:X.s₀.heap.FunFrames X.base X.outer
 frf:∀b∈X.fs,X.H₀ b=none
structure Inv(X:Cx)(ρ:List (Addr×Obj))(σ:List (Option V))(H:Hp)(s:Shared):Prop where
 ok:X.Ok
 os:s.os=X.s₀.os
 bare:AllBare s.gens
 base:Un X.fs X.ex X.H₀ H X.s₀.heap s.heap
 loc:∃m,s.heap.Ns X.env.locals m/\∀(i:Nat) (x:Str) (v:V),X.N[i]?=some x->σ[i]?=some (some v)->Vis X.env.scope x->∃u,RelV v u/\Ll X.env s.heap m x u
 cell:∀x c,X.env.cells.lookup x=some c->∃v,s.heap.IsCell c v
 free:H X.env.locals=none
 freeC:∀x c,X.env.cells.lookup x=some c->H c=none
 pin:∀p∈X.pn++ρ,s.heap.get? p.1=some p.2/\H p.1=none/\p.1≠X.env.locals/\p.1∉X.fs/\∀v,p.2.data≠.cell v
 hok:HOk X.prog X.w H s.heap
 len:σ.length=X.N.length
section
variable{σ:List (Option V)}  
def Cx.Ok.nofr(ok:X.Ok){o:Obj}(e:X.base.get? b=some o):b∉X.fs:=fun hb=>by
 have:=(ok.funs.mem hb).1;rw[e]at this;cases this
def Inv.bs(I:Inv X ρ σ H s):∀b o,X.base.get? b=some o->s.heap.get? b=some o/\H b=none:=fun b o e=>
 ⟨I.base.keep b o (I.ok.bs b o e).1 (I.ok.bs b o e).2 (I.ok.nofr e) (I.ok.noex b o e),I.base.free b o (I.ok.bs b o e).1 (I.ok.bs b o e).2 (I.ok.noex b o e)⟩
def Inv.bk(I:Inv X ρ σ H s):∀b o,X.base.get? b=some o->s.heap.get? b=some o:=fun b o e=>(I.bs b o e).1
def Inv.mod(I:Inv X ρ σ H s):Mod X.K X.mg X.base:=I.ok.mod
def Inv.kIn(I:Inv X ρ σ H s):X.K.In s.heap:=I.ok.mod.kin.keeps I.bk
def Inv.lt(I:Inv X ρ σ H s):X.env.locals<s.heap.objs.size:=let⟨_,hn,_⟩:=I.loc;hn.lt
def Inv.sz(I:Inv X ρ σ H s):X.s₀.heap.objs.size<=s.heap.objs.size:=zau I.ok.above (Nat.le_of_lt I.lt)
def Inv.nofs(I:Inv X ρ σ H s)(h:s.heap.objs.size<=a):a∉X.fs:=fun hb=>by
 obtain⟨_,o,ho,_⟩:=I.ok.funs.mem hb;exact absurd (zag (zal ho) (zau I.sz h)) (zaI _)
def Inv.cne(I:Inv X ρ σ H s):∀x c,X.env.cells.lookup x=some c->c≠X.env.locals:=fun x c e z=>by
 obtain⟨v,o,ho,hd⟩:=I.cell x c e;obtain⟨m,⟨o',es,ep,ho',hd',_⟩,_⟩:=I.loc;rw[z,ho']at ho;cases ho;rw[hd']at hd;cases hd
theorem Inv.funs(I:Inv X ρ σ H s):s.heap.FunFrames X.base X.outer:=by
 have all:∀(l:List Env),(∀b∈frs l,b∈X.fs)->X.s₀.heap.FunFrames X.base l->s.heap.FunFrames X.base l:=by
  intro l
  induction l with
  |nil=>intro _ _;trivial
  |cons env r ih=>
   intro hs hl;obtain⟨hk,⟨L,o,hf,hn,ho,hd⟩,hr⟩:=hl;have hL:L∈X.fs:=hs L (by unfold frs;rw[List.filterMap_cons,hf];exact zaq);obtain⟨sl,e⟩:=I.base.slot L o ho (I.ok.frf L hL) hL fun z=>I.ok.exfs L z hL;exact⟨hk,⟨L,_,hf,hn,e,hd⟩,ih (fun b hb=>hs b (by unfold frs;rw[List.filterMap_cons,hf];exact zaj _ hb)) hr⟩
 exact all X.outer (fun _ hb=>hb) I.ok.funs
def Inv.stack(I:Inv X ρ σ H s):s.heap.FunFrames X.base X.stack:=by
 rcases I.ok.stk with e|⟨e,hf⟩
 ·rw[e];exact I.funs
 ·rw[e];obtain⟨m,hn,_⟩:=I.loc;refine .cons (by rw[I.ok.kind];decide) hf hn ?_ I.funs;exact Heap.get?_none_of_le (zau I.ok.bsz I.ok.above)
def Inv.stkSub(I:Inv X ρ σ H s):∀b∈frs X.stack,b∈X.env.locals::X.fs:=fun b hb=>by
 rcases I.ok.stk with e|⟨e,hf⟩
 ·rw[e]at hb;exact zaj _ hb
 ·rw[e]at hb;unfold frs at hb;rw[List.filterMap_cons,hf]at hb;exact hb
def Inv.stkFree(I:Inv X ρ σ H s):∀b∈frs X.stack,H b=none:=fun b hb=>by
 rcases zay.mp (I.stkSub b hb)with e|hb
 ·rw[e];exact I.free
 ·obtain⟨_,o,ho,_⟩:=I.ok.funs.mem hb;exact I.base.free b o ho (I.ok.frf b hb) fun z=>I.ok.exfs b z hb
def Inv.step(I:Inv X ρ σ H s)
  (hch:∀b∈ch,(b∈X.ex\/X.s₀.heap.objs.size<=b)/\b≠X.env.locals/\(∀x c,X.env.cells.lookup x=some c->c≠b)/\∀p∈X.pn++ρ,p.1≠b)
  (keep:∀b o,b≠X.env.locals->b∉X.fs->b∉ch->s.heap.get? b=some o->H b=none->h'.get? b=some o)
  (slot:∀b o,b≠X.env.locals->b∈X.fs->b∉ch->s.heap.get? b=some o->H b=none->∃sl,h'.get? b=some { o with slots:=sl }) (free:∀b o,b∉ch->s.heap.get? b=some o->H b=none->H' b=none)
  (there:∀b o,b∉ch->s.heap.get? b=some o->∃o',h'.get? b=some o')
  (tups:∀b xs,H b=some (.tup xs)->H' b=some (.tup xs)) (frzs:∀b o u,H b=some (.frz o u)->H' b=some (.frz o u)) (tbls:∀b ps,H b=some (.tbl ps)->∃more,H' b=some (.tbl (ps++more)))
  (ns:∀m,s.heap.Ns X.env.locals m->h'.Ns X.env.locals m) (hok:HOk X.prog X.w H' h') (hg:AllBare g'):
  Inv X ρ σ H' { s with heap:=h',gens:=g',drawn:=d',toks:=t' }:=by
 have neL:∀b o,X.s₀.heap.get? b=some o->b≠X.env.locals:=fun b o e=>zaw (zag (zal e) I.ok.above);have neC:∀b o,X.s₀.heap.get? b=some o->b∉X.ex->b∉ch:=fun b o e hx hb=>by
  rcases(hch b hb).1 with z|z
  ·exact hx z
  ·exact absurd (zag (zal e) z) (zaI _)
 have cellK:∀x c,X.env.cells.lookup x=some c->∀v,s.heap.IsCell c v->h'.IsCell c v:=fun x c e v ⟨o,ho,hd⟩=>by
  have nch:c∉ch:=fun z=>(hch c z).2.2.1 x c e rfl;by_cases hc:c∈X.fs
  ·obtain⟨sl,q⟩:=slot c o (I.cne x c e) hc nch ho (I.freeC x c e);exact⟨_,q,hd⟩
  ·exact⟨o,keep c o (I.cne x c e) hc nch ho (I.freeC x c e),hd⟩
 refine⟨I.ok,I.os,hg,⟨fun b o e n hb hx=>?_,fun b o e n hb hx=>?_,fun b o e n hx=>?_,fun b o e hx=>?_,fun b xs e=>tups b xs (I.base.tups b xs e),fun b o xs e=>frzs b o xs (I.base.frzs b o xs e),fun b ps e=>?_⟩,?_,fun x c e=>?_,?_,fun x c e=>?_,fun p hp=>?_,hok,I.len⟩
 ·exact keep b o (neL b o e) hb (neC b o e hx) (I.base.keep b o e n hb hx) (I.base.free b o e n hx)
 ·obtain⟨sl,e1⟩:=I.base.slot b o e n hb hx;obtain⟨sl',e2⟩:=slot b _ (neL b o e) hb (neC b o e hx) e1 (I.base.free b o e n hx);exact⟨sl',e2⟩
 ·obtain⟨o',e1⟩:=I.base.there b o e hx;exact free b o' (neC b o e hx) e1 (I.base.free b o e n hx)
 ·obtain⟨o',e1⟩:=I.base.there b o e hx;exact there b o' (neC b o e hx) e1
 ·obtain⟨m1,e1⟩:=I.base.tbls b ps e;obtain⟨m2,e2⟩:=tbls b _ e1;exact⟨m1++m2,by rw[e2,Array.append_assoc]⟩
 ·obtain⟨m,hn,hl⟩:=I.loc;refine⟨m,ns m hn,fun i x v e1 e2 e3=>?_⟩;obtain⟨u,r,l⟩:=hl i x v e1 e2 e3;refine⟨u,r,?_⟩;rcases l with l|⟨k,c,e,z⟩
  ·exact .inl l
  ·exact .inr ⟨k,c,e,cellK x c e _ z⟩
 ·obtain⟨v,z⟩:=I.cell x c e;exact⟨v,cellK x c e v z⟩
 ·obtain⟨m,⟨o,_,_,ho,_⟩,_⟩:=I.loc;exact free _ o (fun z=>(hch _ z).2.1 rfl) ho I.free
 ·obtain⟨v,o,ho,hd⟩:=I.cell x c e;exact free c o (fun z=>(hch c z).2.2.1 x c e rfl) ho (I.freeC x c e)
 ·obtain⟨e,n,ne,nf,d⟩:=I.pin p hp;have nch:p.1∉ch:=fun z=>(hch p.1 z).2.2.2 p hp rfl;exact⟨keep p.1 p.2 ne nf nch e n,free p.1 p.2 nch e n,ne,nf,d⟩
def Inv.un(I:Inv X ρ σ H s)(u:Un X.fs [] H H' s.heap h')(hok:HOk X.prog X.w H' h'):Inv X ρ σ H' { s with heap:=h',toks:=t' }:=by
 obtain⟨m,⟨o,es,ep,ho,r⟩,_⟩:=id I.loc;obtain⟨sl,hL⟩:=u.any ho I.free (by simp);exact I.step (g':=s.gens) (d':=s.drawn) (ch:=[]) (fun _ z=>nomatch z) (fun b o _ hb _ e n=>u.keep b o e n hb (by simp)) (fun b o _ hb _ e n=>u.slot b o e n hb (by simp)) (fun b o _ e n=>u.free b o e n (by simp)) (fun b o _ e=>u.there b o e (by simp)) u.tups u.frzs u.tbls (fun m' hm=>by
  obtain⟨o',es',ep',ho',r'⟩:=hm;rw[ho]at ho';cases ho';exact⟨_,es',ep',hL,r'⟩) hok I.bare
def Inv.call(I:Inv X ρ σ H s)(u:Un (frs X.stack) ch H H' s.heap h')(hok:HOk X.prog X.w H' h')(hg:AllBare g')
  (hch:∀b∈ch,(b∈X.ex\/X.s₀.heap.objs.size<=b)/\b≠X.env.locals/\(∀x c,X.env.cells.lookup x=some c->c≠b)/\∀p∈X.pn++ρ,p.1≠b):
  Inv X ρ σ H' { s with heap:=h',gens:=g',drawn:=d',toks:=t' }:=by
 obtain⟨m,⟨o,es,ep,ho,r⟩,_⟩:=id I.loc;obtain⟨sl,hL⟩:=u.any ho I.free fun z=>(hch _ z).2.1 rfl;exact I.step (ch:=ch) hch (fun b o hL hb hc e n=>u.keep b o e n (fun z=>(zay.mp (I.stkSub b z)).elim hL hb) hc) (fun b o _ _ hc e n=>u.any e n hc) (fun b o hc e n=>u.free b o e n hc) (fun b o hc e=>u.there b o e hc) u.tups u.frzs u.tbls (fun m' hm=>by
  obtain⟨o',es',ep',ho',r'⟩:=hm;rw[ho]at ho';cases ho';exact⟨_,es',ep',hL,r'⟩) hok hg
def Inv.turned{it:Addr}(I:Inv X ρ σ H s)(k:∀b o,b≠it->s.heap.get? b=some o->h'.get? b=some o)(hn:H it=none)(hL:it≠X.env.locals)
  (h1:it∈X.ex\/X.s₀.heap.objs.size<=it) (h2:∀x c,X.env.cells.lookup x=some c->c≠it) (h3:∀p∈X.pn++ρ,p.1≠it):Inv X ρ σ H { s with heap:=h',toks:=t' }:=by
 have nit:∀b u,H b=some u->b≠it:=fun b u e z=>by rw[z,hn]at e;cases e
 refine I.step (g':=s.gens) (d':=s.drawn) (ch:=[it]) (fun b hb=>?_) (fun b o _ _ hc e _=>k b o (fun z=>hc (by simp[z])) e) (fun b o _ _ hc e _=>⟨o.slots,k b o (fun z=>hc (by simp[z])) e⟩) (fun _ _ _ _ n=>n)
  (fun b o hc e=>⟨o,k b o (fun z=>hc (by simp[z])) e⟩) (fun _ _ e=>e) (fun _ _ _ e=>e) (fun b ps e=>⟨#[],by rw[e];simp⟩) (fun m hm=>?_) (fun b u e=>?_) I.bare
 ·have e:b=it:=by simpa using hb
  subst e;exact⟨h1,hL,h2,h3⟩
 ·obtain⟨o,es,ep,ho,r⟩:=hm;exact⟨o,es,ep,k _ o (Ne.symm hL) ho,r⟩
 ·refine(I.hok b u e).stay (fun c v hc q=>k c v ?_ q) (fun _ q=>q) fun _ _ q=>q;rcases hc with z|z
  ·rw[z];exact nit b u e
  ·exact nit c _ z
def Inv.tok(I:Inv X ρ σ H s)(t:Nat):Inv X ρ σ H { s with toks:=t }:=I.un (h':=s.heap) (t':=t) Un.refl I.hok
def Inv.kept{t':Nat}(I:Inv X ρ σ H s)(k:∀b u,s.heap.get? b=some u->h'.get? b=some u):Inv X ρ σ H { s with heap:=h',toks:=t' }:=I.un (Un.kept k) (I.hok.kept k)
def Inv.laid{a:Addr}{o:HO}{t':Nat}(I:Inv X ρ σ H s)(k:∀b u,s.heap.get? b=some u->h'.get? b=some u)(hp:s.heap.objs.size<=a)(new:ObjOk X.prog X.w (upd H a o) h' a o):
  Inv X ρ σ (upd H a o) { s with heap:=h',toks:=t' }:=I.un (Un.laid k hp (I.hok.fresh hp)) (I.hok.laid k hp new)
def Inv.write{x e:Addr}{o:HO}{t':Nat}(I:Inv X ρ σ H s)(mu:Mut (H x))(he:e=x\/H e=some (.own x))(k:∀b u,b≠e->s.heap.get? b=some u->h'.get? b=some u)(heo:∃u,h'.get? e=some u)
  (new:ObjOk X.prog X.w (upd H x o) h' x o):Inv X ρ σ (upd H x o) { s with heap:=h',toks:=t' }:=I.un (Un.write mu he k heo) (I.hok.write mu he k heo new)
def Inv.pins_of{pins':List (Addr×Obj)}(I:Inv X ρ σ H s)(h:∀p∈pins',s.heap.get? p.1=some p.2/\H p.1=none/\p.1≠X.env.locals/\p.1∉X.fs/\∀v,p.2.data≠.cell v):Inv X pins' σ H s:=
 ⟨I.ok,I.os,I.bare,I.base,I.loc,I.cell,I.free,I.freeC,fun p hp=>(zax.mp hp).elim (fun z=>I.pin p (zbd _ z)) (h p),I.hok,I.len⟩
def sD(hN:N.Nodup)(a:N[i]?=some x)(b:N[j]?=some x):i=j:=by
 obtain⟨h1,e1⟩:=zah.mp a;obtain⟨h2,e2⟩:=zah.mp b;exact(List.getElem_inj hN).mp (e1.trans e2.symm)
def qA{Q:Unit->Shared->Prop}(I:Inv X ρ σ H s)(hN:X.N.Nodup)(hi:X.N[i]?=some x)(hx:Loc X.env.scope x)(r:RelV v u)
  (h:∀s',Inv X ρ (σ.set i (some v)) H s'->(∃a,Heap.SameBut a s.heap s'.heap/\(a=X.env.locals\/X.env.cells.lookup x=some a))->Q () s') (hf:X.fn x=true\/X.env.scope.names.lookup x=some .local:=by first|exact .inl rfl|exact .inr rfl|assumption):wpAny M A (storeName X.env x u) Q E s:=by
 obtain⟨m,hn,hl⟩:=id I.loc;have hcls:(X.env.scope.kind==.class || (X.env.scope.kind==.module&&X.env.locals != X.env.globals))=false:=by rw[I.ok.kind];rfl
 have hiσ:i<σ.length:=by rw[I.len];exact(zah.mp hi).1
 have cne:=I.cne;have oS:∀{a:Addr} {h':Heap},(∃o,s.heap.get? a=some o/\H a=none)->Heap.SameBut a s.heap h'->HOk X.prog X.w H h':=fun {a h'} ha hs b ob e=>by
  obtain⟨_,_,hfree⟩:=ha;refine(I.hok b ob e).stay (fun c w' hc q=>(hs.2 c ?_).trans q) (fun _ q=>q) fun _ _ q=>q;rintro rfl;rcases hc with rfl|hc
  ·rw[hfree]at e;cases e
  ·rw[hfree]at hc;cases hc
 rcases hx with hk|hk
 ·refine wpAny_storeName_local hk hn (fun h' hn' hs=>?_) hcls;obtain⟨oL,_,_,hoL,_⟩:=id hn;refine h _ ⟨I.ok,I.os,I.bare,⟨fun b o e n hb hx=>?_,fun b o e n hb hx=>?_,I.base.free,fun b o e hx=>?_,I.base.tups,I.base.frzs,I.base.tbls⟩,⟨_,hn',fun j y v' e1 e2 e3=>?_⟩,fun y c e=>?_,I.free,I.freeC,fun p hp=>?_,oS ⟨oL,hoL,I.free⟩ hs,by simpa using I.len⟩ ⟨_,hs,.inl rfl⟩
  ·exact(hs.2 b (zaw (zag (zal e) I.ok.above))).trans (I.base.keep b o e n hb hx)
  ·obtain⟨sl,e1⟩:=I.base.slot b o e n hb hx;exact⟨sl,(hs.2 b (zaw (zag (zal e) I.ok.above))).trans e1⟩
  ·obtain⟨o',e1⟩:=I.base.there b o e hx;exact⟨o',(hs.2 b (zaw (zag (zal e) I.ok.above))).trans e1⟩
  ·by_cases hj:j=i
   ·subst hj;rw[hi]at e1;cases e1;rw[zaO hiσ]at e2;cases e2;exact⟨u,r,.inl ⟨hk,by simp⟩⟩
   ·rw[zaN (Ne.symm hj)]at e2;obtain⟨u',r',q⟩:=hl j y v' e1 e2 e3;refine⟨u',r',?_⟩;rcases q with⟨k,e⟩|⟨k,c,e,z⟩
    ·refine .inl ⟨k,?_⟩
     have:y≠x:=fun e=>hj (sD hN e1 (e▸hi));simp[this,e]
    ·exact .inr ⟨k,c,e,z.sameBut hs (cne y c e)⟩
  ·obtain⟨w',z⟩:=I.cell y c e;exact⟨w',z.sameBut hs (cne y c e)⟩
  ·obtain⟨e,n,ne,nf,d⟩:=I.pin p hp;exact⟨(hs.2 p.1 ne).trans e,n,ne,nf,d⟩
 ·have hfn:X.fn x=true:=by
   rcases hf with z|z
   ·exact z
   ·rw[z]at hk;cases hk
  obtain⟨c,hc⟩:=I.ok.has x (.inl hk);obtain⟨w',z⟩:=I.cell x c hc;refine wpAny_storeName_cell I.ok.kind hk hc z (fun h' hc' hs=>?_);obtain⟨oc,hoc,hocd⟩:=id z;refine h { s with heap:=h' } ⟨I.ok,I.os,I.bare,⟨fun b o e n hb hx=>?_,fun b o e n hb hx=>?_,I.base.free,fun b o e hx=>?_,I.base.tups,I.base.frzs,I.base.tbls⟩,⟨m,hn.sameBut hs (Ne.symm (cne x c hc)),fun j y v' e1 e2 e3=>?_⟩,fun y c' e=>?_,I.free,I.freeC,fun p hp=>?_,oS ⟨oc,hoc,I.freeC x c hc⟩ hs,by simpa using I.len⟩ ⟨c,hs,.inr hc⟩
  ·exact(hs.2 b (zaw (zag (zal e) (I.ok.cab x c hfn hc)))).trans (I.base.keep b o e n hb hx)
  ·obtain⟨sl,e1⟩:=I.base.slot b o e n hb hx;exact⟨sl,(hs.2 b (zaw (zag (zal e) (I.ok.cab x c hfn hc)))).trans e1⟩
  ·obtain⟨o',e1⟩:=I.base.there b o e hx;exact⟨o',(hs.2 b (zaw (zag (zal e) (I.ok.cab x c hfn hc)))).trans e1⟩
  ·by_cases hj:j=i
   ·subst hj;rw[hi]at e1;cases e1;rw[zaO hiσ]at e2;cases e2;exact⟨u,r,.inr ⟨.inl hk,c,hc,hc'⟩⟩
   ·rw[zaN (Ne.symm hj)]at e2;obtain⟨u',r',q⟩:=hl j y v' e1 e2 e3;refine⟨u',r',?_⟩;rcases q with q|⟨k,c',e,z'⟩
    ·exact .inl q
    ·refine .inr ⟨k,c',e,z'.sameBut hs ?_⟩;rintro rfl;exact hj (sD hN e1 (I.ok.inj _ _ _ e hc▸hi))
  ·by_cases hcc:c'=c
   ·subst hcc;exact⟨_,hc'⟩
   ·obtain⟨w2,z2⟩:=I.cell y c' e;exact⟨w2,z2.sameBut hs hcc⟩
  ·obtain⟨e,n,ne,nf,d⟩:=I.pin p hp;refine⟨(hs.2 p.1 ?_).trans e,n,ne,nf,d⟩;intro q;rw[q,hoc]at e;have q':oc=p.2:=zat e;exact d w' (by rw[<-q'];exact hocd)
def rQ{Q:Unit->Shared->Prop}(I:Inv X ρ σ H s)(hN:X.N.Nodup)(hi:X.N[i]?=some x)(hx:Loc X.env.scope x)(r:RelV v u)
  (h:∀s',Inv X ρ (σ.set i (some v)) H s'->Q () s') (hf:X.fn x=true\/X.env.scope.names.lookup x=some .local:=by first|exact .inl rfl|exact .inr rfl|assumption):wpAny M A (storeName X.env x u) Q E s:=
 qA I hN hi hx r (fun s' I' _=>h s' I') hf
def Inv.call'(I:Inv X ρ σ H s)(ho:s'.os=s.os)(u:Un (frs X.stack) ch H H' s.heap s'.heap)(hok:HOk X.prog X.w H' s'.heap)(hg:AllBare s'.gens)
  (hch:∀b∈ch,(b∈X.ex\/X.s₀.heap.objs.size<=b)/\b≠X.env.locals/\(∀x c,X.env.cells.lookup x=some c->c≠b)/\∀p∈X.pn++ρ,p.1≠b):Inv X ρ σ H' s':=by
 obtain⟨h',g',d',t',o'⟩:=s';have e:o'=s.os:=ho;subst e;exact I.call (g':=g') (t':=t') (d':=d') u hok hg hch
end
abbrev XK:=Value->Option Addr->Hp->Prop
abbrev St:=List (Option V)
variable{σ:St}
abbrev VK:=V->Hp->Prop
abbrev TE:=St->Hp->VK->Prop
variable{ta tb t te:TE}
abbrev TT:=St->Hp->(Bool->Hp->Prop)->Prop
variable{tc:TT}
abbrev TA:=St->Hp->(List V->Hp->Prop)->Prop
structure Ends where
 nx:St->Hp->Prop
 rt:VK
 bk:St->Hp->Prop:=fun _ _=>False
 ct:St->Hp->Prop:=fun _ _=>False
abbrev TS:=Ends->St->Hp->Prop
def EP(X:Cx)(ρ:List (Addr×Obj))(σ:St)(Q:VK)(u:Value)(s':Shared):Prop:=∃v H',Inv X ρ σ H' s'/\RelV v u/\Q v H'
def TP(X:Cx)(ρ:List (Addr×Obj))(σ:St)(Q:Bool->Hp->Prop)(b:Bool)(s':Shared):Prop:=∃H',Inv X ρ σ H' s'/\Q b H'
def AP(X:Cx)(ρ:List (Addr×Obj))(σ:St)(Q:List V->Hp->Prop)(us:List Value)(s':Shared):Prop:=∃vs H',Inv X ρ σ H' s'/\Vals vs us/\Q vs H'
def SP(X:Cx)(ρ:List (Addr×Obj))(D:Ends)(f:Flow)(s':Shared):Prop:=
 match f with
 |.next=>∃σ' H',Inv X ρ σ' H' s'/\D.nx σ' H'
 |.brk=>∃σ' H',Inv X ρ σ' H' s'/\D.bk σ' H'
 |.cont=>∃σ' H',Inv X ρ σ' H' s'/\D.ct σ' H'
 |.ret u=>∃v σ' H',Inv X ρ σ' H' s'/\RelV v u/\D.rt v H'
def PE(X:Cx)(e:Expr)(t:TE):Prop:=
 ∀(ρ:List (Addr×Obj)) (s:Shared) (σ:St) (H:Hp) (Q:VK),Inv X ρ σ H s->t σ H Q->wpAny (model X.prog X.w) X.A (eval e X.env) (EP X ρ σ Q) X.xe s
def PT(X:Cx)(e:Expr)(t:TT):Prop:=
 ∀(ρ:List (Addr×Obj)) (s:Shared) (σ:St) (H:Hp) (Q:Bool->Hp->Prop),Inv X ρ σ H s->t σ H Q->wpAny (model X.prog X.w) X.A (isTrue e X.env (eval e X.env)) (TP X ρ σ Q) X.xe s
def PW(X:Cx)(e:Expr)(t:TT):Prop:=
 ∀(χ:Sem Value) (ρ:List (Addr×Obj)) (s:Shared) (σ:St) (H:Hp) (Q:Bool->Hp->Prop),Inv X ρ σ H s->t σ H Q->wpAny (model X.prog X.w) X.A (isTrue e X.env χ) (TP X ρ σ Q) X.xe s
def PW.pt{t:TT}(h:PW X e t):PT X e t:=h _
def PA(X:Cx)(es:List Expr)(t:TA):Prop:=
 ∀(pos:Pos) (ρ:List (Addr×Obj)) (s:Shared) (σ:St) (H:Hp) (Q:List V->Hp->Prop),Inv X ρ σ H s->t σ H Q->wpAny (model X.prog X.w) X.A (spliced (backTo pos (starEach es X.env))) (AP X ρ σ Q) X.xe s
def PS(X:Cx)(st:Stmt)(t:TS):Prop:=
 ∀(ρ:List (Addr×Obj)) (s:Shared) (σ:St) (H:Hp) (D:Ends),Inv X ρ σ H s->t D σ H->wpAny (model X.prog X.w) X.A (exec st X.env) (SP X ρ D) X.xe s
def PSs(X:Cx)(st:List Stmt)(t:TS):Prop:=
 ∀(ρ:List (Addr×Obj)) (s:Shared) (σ:St) (H:Hp) (D:Ends),Inv X ρ σ H s->t D σ H->wpAny (model X.prog X.w) X.A (execs st X.env) (SP X ρ D) X.xe s
def thn{α:Type}{t:Sem α}{Q Q':α->Shared->Prop}(h:wpAny M A t Q E s)(hQ:∀a s,Q a s->Q' a s):wpAny M A t Q' E s:=wpAny_mono h hQ fun _ _ x=>x
section
def gp(i:Nat):TE:=fun σ H Q=>∃v,σ[i]?=some (some v)/\Q v H
def tC(v:V):TE:=fun _ H Q=>Q v H
def cv(hN:X.N[i]?=some x)(hv:Vis X.env.scope x)(hd:(x==("__debug__":Str))=false:=by decide)(hcd:(x==("__classdict__":Str))=false:=by decide):PE X (.Name x pos) (gp i):=by
 intro ρ s σ H Q I h;obtain⟨v,e,h⟩:=h;obtain⟨m,hn,hl⟩:=I.loc;obtain⟨u,r,l⟩:=hl i x v hN e hv;have fin:EP X ρ σ Q u s:=⟨v,H,I,r,h⟩;rcases l with⟨hk,hm⟩|⟨hk,c,hc,hcell⟩
 ·exact wpAny_Name (wpAny_loadName_local I.ok.kind hk hn hm fin) hd
 ·rcases hk with hk|hk
  ·exact wpAny_Name (wpAny_loadName_cell I.ok.kind hk hc hcell fin) hd
  ·exact wpAny_Name (wpAny_loadName_free I.ok.kind hk hc hcell fin hcd) hd
def pe_int{i j pos}:PE X (.Constant (.int i) j pos) (tC (.int i)):=fun _ _ _ H _ I h=>wpAny_Constant_int ⟨.int i,H,I.tok _,⟨_,rfl⟩,h⟩
def pe_bl{b j pos}:PE X (.Constant (.bool b) j pos) (tC (.bl b)):=fun _ _ _ H _ I h=>Constant_bool ⟨.bl b,H,I,rfl,h⟩
def pe_non{j pos}:PE X (.Constant .none j pos) (tC .non):=fun _ _ _ H _ I h=>Constant_none ⟨.non,H,I,rfl,h⟩
def Gl(X:Cx)(x:Str):Prop:=X.env.kindOf x=some .globalImplicit
def Dq(I:Inv X ρ σ H s)(hg:Gl X x)(hm:X.mg x=some u)(h:Q u s)
  (hd:(x==("__debug__":Str))=false:=by decide):wpAny (model X.prog X.w) X.A (eval (.Name x pos) X.env) Q E s:=
 Calls.Name_function_global I.ok.kind hg (Calls.loadGlobal_global (by rw[I.ok.glob];exact I.mod.glob.keeps I.bk) hm h) hd
def ie(I:Inv X ρ σ H s)(hg:Gl X x)(hm:X.mg x=none)(hv:bootBuiltins x=some u)(h:Q u s)
  (hn:x≠"__name__":=by decide) (hd:(x==("__debug__":Str))=false:=by decide):wpAny (model X.prog X.w) X.A (eval (.Name x pos) X.env) Q E s:=by
 obtain⟨mb,h1,h2⟩:=I.mod.blt;exact Calls.Name_function_global I.ok.kind hg (Calls.loadGlobal_builtin (by rw[I.ok.glob];exact I.mod.glob.keeps I.bk) hm (by rw[I.ok.blt];exact h1.keeps I.bk) ((h2 x hn).trans hv) h) hd
def Db(hg:Gl X x)(hm:X.mg x=none)(hv:bootBuiltins x=some u)(r:RelV v u)(hn:x≠"__name__":=by decide)(hd:(x==("__debug__":Str))=false:=by decide):PE X (.Name x pos) (tC v):=
 fun _ _ _ H _ I h=>ie I hg hm hv ⟨v,H,I,r,h⟩ hn hd
variable{a b:Expr} 
def PC(X:Cx)(op:CmpOp)(a b:Expr)(t:TE):Prop:=
 ∀(ρ:List (Addr×Obj)) (s:Shared) (σ:St) (H:Hp) (Q:VK),Inv X ρ σ H s->t σ H Q ->
  wpAny (model X.prog X.w) X.A (eval a X.env) (fun v s₁=>wpAny (model X.prog X.w) X.A (eval b X.env) (fun u s₂=>wpAny (model X.prog X.w) X.A (compareOp op v u) (EP X ρ σ Q) X.xe s₂) X.xe s₁) X.xe s
def yY(b:Expr)(h:op≠.In)(h2:op≠.NotIn):behindInMarks op b=false:=by
 have e1:(op==CmpOp.In)=false:=by cases op<;>first|rfl|exact absurd rfl h
 have e2:(op==CmpOp.NotIn)=false:=by cases op<;>first|rfl|exact absurd rfl h2
 cases b<;>simp[behindInMarks,e1,e2]
def tB(t:TE):TT:=fun σ H Q=>t σ H fun x H1=>∃c,x=.bl c/\Q c H1
def sk(h:PC X op a b t)(h1:behindInMarks op b=false:=by first|exact yY _ (by decide) (by decide)|rfl):PT X (.Compare a [op] [b] pos) (tB t):=by
 intro ρ s σ H Q I hw;refine wpAny_isTrue_Compare1 (thn (h ρ s σ H _ I hw) fun v s1 h1=>thn h1 fun u s2 h2=>thn h2 fun c s3 ⟨x,H1,I1,r1,q1⟩=>?_) h1;obtain⟨d,rfl,q⟩:=q1;cases r1;exact zby ⟨H1,I1,q⟩
def GZ(h:PE X e t)(he:∀χ,isTrue e X.env χ=(do let v <-χ;standAt e.pos;holding [v] (truthy v)):=by intro _;rfl):PT X e (tB t):=by
 intro ρ s σ H Q I hw;refine isTrue_plain (thn (h ρ s σ H _ I hw) fun v s1 ⟨x,H1,I1,r1,q1⟩=>?_) (he _);obtain⟨d,rfl,q⟩:=q1;cases r1;exact zby ⟨H1,I1,q⟩
variable{tA tB':TT}{rest:List Expr}
def GP(t u:TT):TT:=fun σ H Q=>t σ H fun c H1=>if c=true then u σ H1 Q else Q false H1
def tOr(t u:TT):TT:=fun σ H Q=>t σ H fun c H1=>if c=true then Q true H1 else u σ H1 Q
def GI(t:TT):TT:=fun σ H Q=>t σ H fun c H1=>Q (!c) H1
def CY(ha:PT X a tA):PW X (.BoolOp .And [a] pos) tA:=by
 intro wh ρ s σ H Q I h;refine isTrue_and (thn (ha ρ s σ H Q I h) fun c s1 e=>?_);cases c with
 |true=>exact isTrue_and_nil e
 |false=>exact e
def GX(ha:PT X a tA):PW X (.BoolOp .Or [a] pos) tA:=by
 intro wh ρ s σ H Q I h;refine isTrue_or (thn (ha ρ s σ H Q I h) fun c s1 e=>?_);cases c with
 |false=>exact isTrue_or_nil e
 |true=>exact e
def GY(ha:PT X a tA)(hb:PW X (.BoolOp .And (b::rest) pos) tB'):PW X (.BoolOp .And (a::b::rest) pos) (GP tA tB'):=by
 intro wh ρ s σ H Q I h;refine isTrue_and (thn (ha ρ s σ H _ I h) fun c s1 ⟨H1,I1,q1⟩=>?_);cases c with
 |true=>exact hb wh ρ s1 σ H1 Q I1 q1
 |false=>exact⟨H1,I1,q1⟩
def JH(ha:PT X a tA)(hb:PW X (.BoolOp .Or (b::rest) pos) tB'):PW X (.BoolOp .Or (a::b::rest) pos) (tOr tA tB'):=by
 intro wh ρ s σ H Q I h;refine isTrue_or (thn (ha ρ s σ H _ I h) fun c s1 ⟨H1,I1,q1⟩=>?_);cases c with
 |true=>exact⟨H1,I1,q1⟩
 |false=>exact hb wh ρ s1 σ H1 Q I1 q1
def G0(ha:PT X a tA):PT X (.UnaryOp .Not a pos) (GI tA):=by
 intro ρ s σ H Q I h;exact isTrue_not (ha ρ s σ H (fun c H1=>Q (!c) H1) I h)
def Ci(ta tb:TE):TE:=fun σ H Q=>ta σ H fun x H1=>∃c,x=.bl c/\if c=true then tb σ H1 Q else Q (.bl false) H1
def GG(ta tb:TE):TE:=fun σ H Q=>ta σ H fun x H1=>∃c,x=.bl c/\if c=true then Q (.bl true) H1 else tb σ H1 Q
def Ce(ta:TE):TE:=fun σ H Q=>ta σ H fun x H1=>∃c,x=.bl c/\Q (.bl (!c)) H1
def Hc{op}(h:PE X a t):PE X (.BoolOp op [a] pos) t:=fun ρ s σ H Q I hw=>BoolOp_one (h ρ s σ H Q I hw)
def Hh(ha:PE X a ta)(hb:PE X (.BoolOp .And (b::rest) pos) tb):PE X (.BoolOp .And (a::b::rest) pos) (Ci ta tb):=by
 intro ρ s σ H Q I h;refine BoolOp_and (thn (ha ρ s σ H _ I h) fun v s1 ⟨x,H1,I1,r1,q1⟩=>?_);obtain⟨c,rfl,q1⟩:=q1;cases r1;refine zby ?_;cases c with
 |true=>exact hb ρ s1 σ H1 Q I1 q1
 |false=>exact⟨.bl false,H1,I1,rfl,q1⟩
def JM(ha:PE X a ta)(hb:PE X (.BoolOp .Or (b::rest) pos) tb):PE X (.BoolOp .Or (a::b::rest) pos) (GG ta tb):=by
 intro ρ s σ H Q I h;refine BoolOp_or (thn (ha ρ s σ H _ I h) fun v s1 ⟨x,H1,I1,r1,q1⟩=>?_);obtain⟨c,rfl,q1⟩:=q1;cases r1;refine zby ?_;cases c with
 |false=>exact hb ρ s1 σ H1 Q I1 q1
 |true=>exact⟨.bl true,H1,I1,rfl,q1⟩
def Hd(ha:PE X a ta):PE X (.UnaryOp .Not a pos) (Ce ta):=by
 intro ρ s σ H Q I h;refine UnaryOp_ (thn (ha ρ s σ H _ I h) fun v s1 ⟨x,H1,I1,r1,q1⟩=>?_);obtain⟨c,rfl,q1⟩:=q1;cases r1;exact not_of (zby ⟨.bl (!c),H1,I1,rfl,q1⟩)
def tIf(t:TT)(ta tb:TE):TE:=fun σ H Q=>t σ H fun c H1=>if c=true then ta σ H1 Q else tb σ H1 Q
def yQ(hc:PT X c tA)(ha:PE X a ta)(hb:PE X b tb):PE X (.IfExp c a b pos) (tIf tA ta tb):=by
 intro ρ s σ H Q I h;refine wpAny_IfExp (thn (hc ρ s σ H _ I h) fun d s1 ⟨H1,I1,q1⟩=>?_);cases d with
 |true=>exact ha ρ s1 σ H1 Q I1 q1
 |false=>exact hb ρ s1 σ H1 Q I1 q1
end
def SqL(K:zbY)(H:Hp)(a:Addr)(xs:List V):Prop:=
 Rd H a (.lst xs) \/
  ∃(o:Obj) (its:Array Value) (n:Nat),K.lookup a=some o/\o.cls=.type "list"/\o.dict=none/\o.data=.seq its n/\its.size<=sizeLine/\Vals xs its.toList
def SqT(K:zbY)(H:Hp)(a:Addr)(xs:List V):Prop:=
 Rd H a (.tup xs) \/
  ∃(o:Obj) (its:Array Value) (n:Nat),K.lookup a=some o/\o.cls=.type "tuple"/\o.data=.seq its n/\its.size<=sizeLine/\Vals xs its.toList
def Lf:Value->Option V
 |.none=>some .non
 |.bool b=>some (.bl b)
 |.int i _=>some (.int i)
 |.str x _=>some (.str x)
 |.bytes b _=>some (.byt b)
 |.float b _=>some (.flt b)
 |.ref a=>some (.ref a)
 |.type n=>some (.ty n)
 |_=>none
def RelV.abs{x:V}(r:RelV x u):Lf u=some x:=by
 cases x with
 |non=>cases r;rfl
 |bl _=>cases r;rfl
 |int _=>obtain⟨t,rfl⟩:=r;rfl
 |str _=>obtain⟨t,rfl⟩:=r;rfl
 |byt _=>obtain⟨t,rfl⟩:=r;rfl
 |flt _=>obtain⟨t,rfl⟩:=r;rfl
 |ref _=>cases r;rfl
 |ty _=>cases r;rfl
def RelV.inj{x:V}(r:RelV x u)(q:RelV y u):x=y:=zat (r.abs.symm.trans q.abs)
theorem Vals.inj:∀{xs ys:List V} {us:List Value},Vals xs us->Vals ys us->xs=ys
 |_,_,_,.nil,.nil=>rfl
 |_,_,_,.cons r t,.cons r' t'=>by rw[r.inj r',Vals.inj t t']
section
variable{xs ys:List V}
def SqL.of(h:H a=some (.lst xs)):SqL K H a xs:=.inl (.inl h)
def SqT.of(h:H a=some (.tup xs)):SqT K H a xs:=.inl (.inl h)
def Inv.list(I:Inv X ρ σ H s)(h:SqL X.K H a xs):∃its:List Value,Vals xs its/\PlainL s.heap a its.toArray/\xs.length<=sizeLine:=by
 rcases h with h|⟨o,its,n,hk,hc,hd,hs,hz,r⟩
 ·obtain⟨z,its,n,r,e⟩:=h.ok I.hok;exact⟨its,r,⟨_,n,e,rfl,rfl,rfl⟩,z⟩
 ·refine⟨its.toList,r,⟨o,n,I.kIn a o hk,hc,hd,by simpa using hs⟩,?_⟩;have e:=r.length;simp only[zaX]at e;omega
def Inv.tuple(I:Inv X ρ σ H s)(h:SqT X.K H a xs):∃its:List Value,Vals xs its/\IsTup s.heap a its.toArray/\xs.length<=sizeLine:=by
 rcases h with h|⟨o,its,n,hk,hc,hs,hz,r⟩
 ·obtain⟨z,its,r,p⟩:=h.ok I.hok;exact⟨its,r,p.tup,z⟩
 ·refine⟨its.toList,r,⟨o,I.kIn a o hk,hc,n,by simpa using hs⟩,?_⟩;have e:=r.length;simp only[zaX]at e;omega
def Inv.list_inj(I:Inv X ρ σ H s)(h:SqL X.K H a xs)(h':SqL X.K H a ys):xs=ys:=by
 obtain⟨its,r,⟨o,n,e,_,_,d⟩,_⟩:=I.list h;obtain⟨its',r',⟨o',n',e',_,_,d'⟩,_⟩:=I.list h';rw[e]at e';cases e';rw[d]at d';injection d' with d1 _
 have:its=its':=by simpa using congrArg Array.toList d1
 subst this;exact r.inj r'
def Inv.tuple_inj(I:Inv X ρ σ H s)(h:SqT X.K H a xs)(h':SqT X.K H a ys):xs=ys:=by
 obtain⟨its,r,⟨o,e,_,n,d⟩,_⟩:=I.tuple h;obtain⟨its',r',⟨o',e',_,n',d'⟩,_⟩:=I.tuple h';rw[e]at e';cases e';rw[d]at d';injection d' with d1 _
 have:its=its':=by simpa using congrArg Array.toList d1
 subst this;exact r.inj r'
end
abbrev Cx.wish(X:Cx)(E:Value->Shared->Prop):Cx:={ X with xe:=E }
abbrev Cx.nox(X:Cx):Cx:=X.wish fun _ _=>False
def Cx.Ok.wish(ok:X.Ok)(E:Value->Shared->Prop):(X.wish E).Ok:=
 ⟨ok.mod,ok.kind,ok.glob,ok.blt,ok.above,ok.inj,ok.has,ok.cab,ok.hd,ok.frames,ok.stk,ok.exf,ok.bs,ok.bsz,ok.noex,ok.exfs,ok.funs,ok.frf⟩
def Cx.Ok.unwish(ok:(X.wish E).Ok):X.Ok:=
 ⟨ok.mod,ok.kind,ok.glob,ok.blt,ok.above,ok.inj,ok.has,ok.cab,ok.hd,ok.frames,ok.stk,ok.exf,ok.bs,ok.bsz,ok.noex,ok.exfs,ok.funs,ok.frf⟩
def Inv.wish(I:Inv X ρ σ H s)(E:Value->Shared->Prop):Inv (X.wish E) ρ σ H s:=⟨I.ok.wish E,I.os,I.bare,I.base,I.loc,I.cell,I.free,I.freeC,I.pin,I.hok,I.len⟩
def Inv.unwish(I:Inv (X.wish E) ρ σ H s):Inv X ρ σ H s:=⟨I.ok.unwish,I.os,I.bare,I.base,I.loc,I.cell,I.free,I.freeC,I.pin,I.hok,I.len⟩
theorem SP.unwish{D:Ends}{f:Flow}{s':Shared}(h:SP (X.wish E) ρ D f s'):SP X ρ D f s':=by
 cases f with
 |next=>obtain⟨σ',H',I,q⟩:=h;exact⟨σ',H',I.unwish,q⟩
 |brk=>obtain⟨σ',H',I,q⟩:=h;exact⟨σ',H',I.unwish,q⟩
 |cont=>obtain⟨σ',H',I,q⟩:=h;exact⟨σ',H',I.unwish,q⟩
 |ret u=>obtain⟨v,σ',H',I,r,q⟩:=h;exact⟨v,σ',H',I.unwish,r,q⟩
def PSs.nox{st:List Stmt}{t:TS}(h:PSs X.nox st t):PSs X st t:=fun ρ s σ H D I hw=>
 wpAny_mono (h ρ s σ H D (I.wish _) hw) (fun _ _ q=>q.unwish) fun _ _ z=>False.elim z
section
variable{st:Stmt}{rest:List Stmt}{t u:TS}  
def Cf:TS:=fun D σ H=>D.nx σ H
def GE(t u:TS):TS:=fun D σ H=>t { D with nx:=u D } σ H
def pss_nil:PSs X [] Cf:=fun _ _ σ H _ I h=>wpAny_execs_nil ⟨σ,H,I,h⟩
def yM(h1:PS X st t)(h2:PSs X rest u):PSs X (st::rest) (GE t u):=by
 intro ρ s σ H D I h;refine wpAny_execs_cons (thn (h1 ρ s σ H { D with nx:=u D } I h) fun f s1 q=>?_);cases f with
 |next=>
  obtain⟨σ',H',I',q⟩:=q;exact h2 ρ s1 σ' H' D I' q
 |ret v=>exact q
 |brk=>exact q
 |cont=>exact q
def C1(h1:PS X st t):PSs X [st] t:=by
 intro ρ s σ H D I h;refine wpAny_execs_cons (thn (h1 ρ s σ H D I h) fun f s1 q=>?_);cases f with
 |next=>exact wpAny_execs_nil q
 |ret v=>exact q
 |brk=>exact q
 |cont=>exact q
def Ch:TS:=fun D σ H=>D.ct σ H
def ps_continue:PS X (.Continue pos) Ch:=fun _ _ σ H _ I h=>wpAny_Continue ⟨σ,H,I,h⟩
def Inv.quiet(I:Inv X ρ σ H s):interactive X.env=false:=by simp[interactive,I.ok.kind]
def rC(te:TE):TS:=fun D σ H=>te σ H fun _ H1=>D.nx σ H1
def pW(he:PE X e te)(hs:swapsWith e none pos.line X.env=pure false:=by rfl):PS X (.Expr e pos) (rC te):=by
 intro ρ s σ H D I h;exact wpAny_Expr_any (thn (he ρ s σ H _ I h) fun v s1 ⟨x,H1,I1,r1,q1⟩=>⟨σ,H1,I1,q1⟩) I.quiet hs
def GF(te:TE):TS:=fun D σ H=>te σ H D.rt
def G4(he:PE X e te):PS X (.Return (some e) pos) (GF te):=by
 intro ρ s σ H D I h;exact wpAny_Return_some (thn (he ρ s σ H _ I h) fun v s1 ⟨x,H1,I1,r1,q1⟩=>⟨x,σ,H1,I1,r1,q1⟩)
def GK(c:TT)(t u:TS):TS:=fun D σ H=>c σ H fun b H1=>if b=true then t D σ H1 else u D σ H1
def JJ{a b:List Stmt}(hc:PT X c tc)(ha:PSs X a t)(hb:PSs X b u):PS X (.If c a b pos) (GK tc t u):=by
 intro ρ s σ H D I h;refine wpAny_If (thn (hc ρ s σ H _ I h) fun d s1 ⟨H1,I1,q1⟩=>?_);cases d with
 |true=>exact ha ρ s1 σ H1 D I1 q1
 |false=>exact hb ρ s1 σ H1 D I1 q1
end
abbrev TG:=V->St->Hp->(St->Hp->Prop)->Prop
abbrev TGs:=List V->St->Hp->(St->Hp->Prop)->Prop
def PG(X:Cx)(target:Expr)(t:TG):Prop:=
 ∀(ρ:List (Addr×Obj)) (s:Shared) (σ:St) (H:Hp) (v:V) (u:Value) (Q:St->Hp->Prop),Inv X ρ σ H s->RelV v u->t v σ H Q ->
  wpAny (model X.prog X.w) X.A (assign target X.env u) (fun _ s'=>∃σ' H',Inv X ρ σ' H' s'/\Q σ' H') X.xe s
def PGs(X:Cx)(ts:List Expr)(t:TGs):Prop:=
 ∀(ρ:List (Addr×Obj)) (s:Shared) (σ:St) (H:Hp) (vs:List V) (us:List Value) (Q:St->Hp->Prop),Inv X ρ σ H s->Vals vs us->t vs σ H Q ->
  wpAny (model X.prog X.w) X.A (assignInOrder ((assignEach ts X.env).map (·.2)) us) (fun _ s'=>∃σ' H',Inv X ρ σ' H' s'/\Q σ' H') X.xe s
abbrev Ag:=V->V->V->Hp->(Hp->Prop)->Prop
def Jm(X:Cx)(t:Ag):Prop:=
 ∀(ρ:List (Addr×Obj)) (s:Shared) (σ:St) (H:Hp) (o i v:V) (ov iv u:Value) (Q:Hp->Prop),Inv X ρ σ H s->RelV o ov->RelV i iv->RelV v u->t o i v H Q ->
  wpAny (model X.prog X.w) X.A (setItem ov iv u) (fun _ s'=>∃H',Inv X ρ σ H' s'/\Q H') X.xe s
def oW(i:Nat):TG:=fun v σ H Q=>Q (σ.set i (some v)) H
def C5(hN:X.N.Nodup)(hi:X.N[i]?=some x)(hx:Loc X.env.scope x)(hf:X.fn x=true\/X.env.scope.names.lookup x=some .local:=by first|exact .inl rfl|exact .inr rfl|assumption):PG X (.Name x pos) (oW i):=by
 intro ρ s σ H v u Q I r h;exact wpAny_assign_Name (rQ I hN hi hx r (fun s' I'=>⟨_,H,I',h⟩) hf)
def HS:TGs:=fun vs σ H Q=>vs=[]/\Q σ H
def CB(t:TG)(u:TGs):TGs:=fun vs σ H Q=>∃v r,vs=v::r/\t v σ H fun σ' H'=>u r σ' H' Q
def pgs_nil:PGs X [] HS:=by
 intro ρ s σ H vs us Q I r h;obtain⟨e,h⟩:=h;subst e;cases r;exact assignInOrder_nil ⟨σ,H,I,h⟩
def yP{t:TG}{u:TGs}(h1:PG X e t)(h2:PGs X es u)
  (hs:(assignEach (e::es) X.env).map (·.2)=assign e X.env::(assignEach es X.env).map (·.2):=by rfl):PGs X (e::es) (CB t u):=by
 intro ρ s σ H vs us Q I r h;obtain⟨v,vr,e1,h⟩:=h;subst e1;cases r with
 |cons r rr=>
  rw[hs];refine assignInOrder_cons (thn (h1 ρ s σ H _ _ _ I r h) fun _ s1 ⟨σ1,H1,I1,q1⟩=>?_);exact h2 ρ s1 σ1 H1 _ _ Q I1 rr q1
def HQ(K:zbY)(n:Nat)(t:TGs):TG:=fun v σ H Q=>∃a xs,v=.ref a/\SqT K H a xs/\xs.length=n/\t xs σ H Q
def G7{t:TGs}(hc:X.calm=true)(h:PGs X es t)
  (hn:(assignEach es X.env).length=n:=by rfl) (hst:(assignEach es X.env).findIdx? (·.1)=none:=by rfl):PG X (.Tuple es k pos) (HQ X.K n t):=by
 intro ρ s σ H v u Q I r hw;obtain⟨a,xs,e1,hq,hl,hw⟩:=hw;subst e1;cases r;obtain⟨its,rv,ht,hz⟩:=I.tuple hq;refine assign_Tuple_tuple (I.ok.hd hc) ht (by simp[hn,<-hl,rv.length]) hst fun h' hx=>?_;have I1:Inv X ρ σ H { s with heap:=h' }:=I.kept (t':=s.toks) fun b o e=>hx b o (zaw (zal e)) e;exact h ρ _ σ H xs _ Q I1 (by simpa using rv) hw
def HR(to ti:TE)(t:Ag):TG:=fun v σ H Q=>to σ H fun o H1=>ti σ H1 fun i H2=>t o i v H2 fun H3=>Q σ H3
def G8{o i:Expr}{to ti:TE}{t:Ag}(ho:PE X o to)(hi:PE X i ti)(hs:Jm X t)
  (ha:∀v,assign (.Subscript o i pos) X.env v=(do
   let ov <-holding [v] (eval o X.env);let iv <-holding [v,ov] (eval i X.env)
   standAt pos
   holding [v,ov,iv] (setItem ov iv v)
   release [v,ov,iv] []):=by intro _;rfl):PG X (.Subscript o i pos) (HR to ti t):=by
 intro ρ s σ H v u Q I r h;rw[ha];refine zam (zbT (thn (ho ρ s σ H _ I h) fun ov s1 ⟨x,H1,I1,r1,q1⟩=>?_));refine zam (zbT (thn (hi ρ s1 σ H1 _ I1 q1) fun iv s2 ⟨y,H2,I2,r2,q2⟩=>?_));refine zam (wpAny_standAt (zam (zbT (thn (hs ρ s2 σ H2 x y v ov iv u _ I2 r1 r2 r q2) fun _ s3 ⟨H3,I3,q3⟩=>?_))));exact wpAny_release ⟨σ,H3,I3,q3⟩
def pQ(te:TE)(g:TG):TS:=fun D σ H=>te σ H fun x H1=>g x σ H1 D.nx
def w4{g:TG}(he:PE X e te)(hg:PG X tg g)(hs:swapsWithSole [tg] e pos.line X.env=pure false:=by rfl)(hw:swappedStores [tg] e X.env=pure none:=by rfl)
  (h1:(assignEach [tg] X.env).map (·.2)=[assign tg X.env]:=by rfl):PS X (.Assign [tg] e pos) (pQ te g):=by
 intro ρ s σ H D I h;refine wpAny_Assign_stores (thn (he ρ s σ H _ I h) fun v s1 ⟨x,H1,I1,r1,q1⟩=>?_) hs hw;rw[h1];exact thn (hg ρ s1 σ H1 x v _ I1 r1 q1) fun _ s2 q=>q
def G3{pos':Pos}(hN:X.N.Nodup)(hi:X.N[i]?=some x)(hx:Loc X.env.scope x)(he:PE X e te)(hs:swapsWith e (some (.Name x pos')) pos.line X.env=pure false:=by rfl)(hf:X.fn x=true\/X.env.scope.names.lookup x=some .local:=by first|exact .inl rfl|exact .inr rfl|assumption):
  PS X (.Assign [.Name x pos'] e pos) (pQ te (oW i)):=by
 intro ρ s σ H D I h;refine wpAny_Assign_Name (thn (he ρ s σ H _ I h) fun v s1 ⟨y,H1,I1,r1,q1⟩=>?_) hs;exact rQ I1 hN hi hx r1 (fun s2 I2=>⟨_,H1,I2,q1⟩) hf
def wL(c:TT)(tb:TS):TS:=fun D σ H=>∃W:Nat->St->Hp->Prop,(∃m,W m σ H)/\∀m σ H,W m σ H ->
 c σ H fun b H1=>if b=true then ∃N:St->Hp->Prop,(∀σ' H',N σ' H'->∃m',m'<m/\W m' σ' H')/\tb { D with nx:=N,ct:=N,bk:=D.nx } σ H1 else D.nx σ H1
def yN{tb:TS}(hp:PassesOwn (model X.prog X.w) X.A X.env X.xe)(hc:PT X c tc)(hb:PSs X body tb):PS X (.While c body [] pos) (wL tc tb):=by
 intro ρ s σ H D I h;obtain⟨W,⟨m0,w0⟩,turn⟩:=h;refine wpAny_While (codeAny_whileLoop (fun n s'=>∃σ' H',Inv X ρ σ' H' s'/\W n σ' H') ?_ m0 ⟨σ,H,I,w0⟩);rintro n s1 ⟨σ1,H1,I1,w1⟩;refine wpAny_passesOwn hp (thn (hc ρ s1 σ1 H1 _ I1 (turn n σ1 H1 w1)) fun b s2 ⟨H2,I2,q2⟩=>?_);cases b with
 |true=>
  obtain⟨N,hN,q2⟩:=q2;rw[if_pos rfl];refine wpAny_passesOwn hp (thn (hb ρ s2 σ1 H2 _ I2 q2) fun f s3 q3=>?_);cases f with
  |next=>
   obtain⟨σ3,H3,I3,n3⟩:=q3;obtain⟨m',hm,w3⟩:=hN σ3 H3 n3;exact⟨m',hm,σ3,H3,I3,w3⟩
  |cont=>
   obtain⟨σ3,H3,I3,n3⟩:=q3;obtain⟨m',hm,w3⟩:=hN σ3 H3 n3;exact⟨m',hm,σ3,H3,I3,w3⟩
  |brk=>exact q3
  |ret v=>exact q3
 |false=>
  rw[if_neg zbl];exact wpAny_execs_nil ⟨σ1,H2,I2,q2⟩
structure It where
 go:Nat->Hp->Prop
 yld:Nat->Hp->V->Hp->Prop
 stop:Nat->Hp->Prop
def ji(X:Cx)(ρ:List (Addr×Obj))(H:Hp)(b:Addr):Prop:=
 H b=none/\b≠X.env.locals/\b∉X.fs/\(b∈X.ex\/X.s₀.heap.objs.size<=b)/\(∀x c,X.env.cells.lookup x=some c->c≠b)/\∀p∈X.pn++ρ,p.1≠b
def Inv.fpOk(I:Inv X ρ σ H s)(hb:s.heap.objs.size<=b)(hn:H' b=none):ji X ρ H' b:=by
 refine⟨hn,Nat.ne_of_gt (zag I.lt hb),I.nofs hb,.inr (zau I.sz hb),fun x c e z=>?_,fun p hp z=>?_⟩
 ·obtain⟨v,q⟩:=I.cell x c e;exact absurd (zag q.lt (by rw[z];exact hb)) (zaI _)
 ·exact absurd (zag (zal (I.pin p hp).1) (by rw[z];exact hb)) (zaI _)
structure Turn(P:Program)(w:World)(K:zbY)(tg:Expr)(J:It)(fp:List Addr)(it:Addr)(tn:Nat->Heap->Prop):Prop where
 mem:it∈fp
 obj:∀i h,tn i h->∀b∈fp,∃o,h.get? b=some o/\∀v,o.data≠.cell v
 keep:∀i h h',tn i h->(∀b∈fp,∀o,h.get? b=some o->h'.get? b=some o)->tn i h'
 item:∀(X:Cx),X.prog=P->X.w=w->X.K=K->X.calm=true->∀(i:Nat) (ρ:List (Addr×Obj)) (s:Shared) (σ:St) (H:Hp) (E:Value->Shared->Prop),Inv X ρ σ H s->(∀b∈fp,ji X ρ H b)->tn i s.heap->J.go i H ->
  wpAny (model P w) X.A (pyNext (.ref it)) (fun r s1=>∃u,r=some u /\
   wpAny (model P w) X.A (letOwnedTupleGo tg (.ref it) u) (fun _ s2=>∃x H',Inv X ρ σ H' s2/\RelV x u/\J.yld i H x H'/\tn (i+1) s2.heap/\∀b∈fp,H' b=none) E s1) E s
 done:∀(X:Cx),X.prog=P->X.w=w->X.K=K->X.calm=true->∀(i:Nat) (ρ:List (Addr×Obj)) (s:Shared) (σ:St) (H:Hp) (E:Value->Shared->Prop),Inv X ρ σ H s->(∀b∈fp,ji X ρ H b)->tn i s.heap->J.stop i H ->
  wpAny (model P w) X.A (pyNext (.ref it)) (fun r s1=>r=none/\Inv X ρ σ H s1) E s
 self:∀(A:Around) (i:Nat) (s:Shared) (Q:Value->Shared->Prop) (E:Value->Shared->Prop),tn i s.heap->Q (.ref it) s->wpAny (model P w) A (pyIter (.ref it)) Q E s
abbrev TI:=St->Hp->(It->Hp->Prop)->Prop
def PIE(X:Cx)(ρ:List (Addr×Obj))(σ:St)(tg:Expr)(R:It->Hp->Prop)(itv:Value)(s2:Shared):Prop:=
 ∃(it:Addr) (fp:List Addr) (tn:Nat->Heap->Prop) (J:It) (H':Hp),itv=.ref it/\Inv X ρ σ H' s2/\Turn X.prog X.w X.K tg J fp it tn/\tn 0 s2.heap/\(∀b∈fp,ji X ρ H' b)/\R J H'
def PI(X:Cx)(tg iter:Expr)(wi:TI):Prop:=
 ∀(ρ:List (Addr×Obj)) (s:Shared) (σ:St) (H:Hp) (R:It->Hp->Prop),Inv X ρ σ H s->wi σ H R ->
  wpAny (model X.prog X.w) X.A (eval iter X.env) (fun v s1=>wpAny (model X.prog X.w) X.A (pyIter v) (PIE X ρ σ tg R) X.xe s1) X.xe s
def oU{it:Addr}{o:Obj}{n:String}{vs:Array Value}{Q:Unit->Shared->Prop}(ho:s.heap.get? it=some o)(hc:o.cls=.type n)(hd:o.data=.fields vs)
  (hn:["enumerate","zip","dict_itemiterator","dict_reverseitemiterator","odict_iterator","itertools.zip_longest","itertools.pairwise"].contains n=false) (hQ:Q () s):wpAny M A (letOwnedTupleGo tg (.ref it) u) Q E s:=by
 unfold letOwnedTupleGo;cases tg<;>first
  |exact zaS hQ
  | (cases u<;>first
    |exact zaS hQ
    | (refine zam (wpAny_load ho ?_)
       rw[hc,hd];show wpAny M A (if(["enumerate","zip","dict_itemiterator","dict_reverseitemiterator","odict_iterator","itertools.zip_longest","itertools.pairwise"].contains n&&vs[0]?==some (rawInt _))=true then _ else _) Q E s;rw[if_neg (by intro h;rw[hn,Bool.false_and]at h;cases h)];exact zaS hQ))
def Itl(K:zbY)(a:Addr):It:=
 ⟨fun i H=>∃xs x,SqL K H a xs/\xs[i]?=some x,fun i H x H'=>H'=H/\∀xs,SqL K H a xs->xs[i]?=some x,fun i H=>∃xs,SqL K H a xs/\xs.length<=i⟩
def Itt(K:zbY)(a:Addr):It:=
 ⟨fun i H=>∃xs x,SqT K H a xs/\xs[i]?=some x,fun i H x H'=>H'=H/\∀xs,SqT K H a xs->xs[i]?=some x,fun i H=>∃xs,SqT K H a xs/\xs.length<=i⟩
def Itr(lo:Int)(n:Nat):It:=⟨fun i _=>i<n,fun i H x H'=>H'=H/\x=.int (lo+i),fun i _=>n<=i⟩
def wJ(a it:Addr):Turn P w K tg (Itl K a) [it] it (fun i h=>h.IsListIter it a i) where
 mem:=by simp
 obj:=fun i h st b hb=>by
  have e:b=it:=by simpa using hb
  subst e;obtain⟨o,e,c,d⟩:=st;exact⟨o,e,fun v z=>by rw[d]at z;cases z⟩
 keep:=fun i h h' st k=>st.at fun o e=>k it (by simp) o e
 item:=by
  intro X hP hw hK hc i ρ s σ H E I hf st hg;subst hP hw hK;obtain⟨xs,x,hq,hx⟩:=hg;obtain⟨its,rv,p,hz⟩:=I.list hq;obtain⟨u,hu,ru⟩:=rv.get hx;obtain⟨f0,f1,f2,f3,f4,f5⟩:=hf it (by simp);refine wpAny_pyNext_list_item st p.isList (x:=u) (by simpa using hu) fun h' st' sb=>?_;have I1:Inv X ρ σ H { s with heap:=h' }:=I.turned (t':=s.toks) (fun b o hb e=>(sb.2 b hb).trans e) f0 f1 f3 f4 f5;obtain⟨o,e,c,d⟩:=id st';exact⟨u,rfl,oU (s:={ s with heap:=h' }) e c d (by decide) ⟨x,H,I1,ru,⟨rfl,fun ys hy=>by rw[I.list_inj hy hq];exact hx⟩,st',fun b hb=>(hf b hb).1⟩⟩
 done:=by
  intro X hP hw hK hc i ρ s σ H E I hf st hg;subst hP hw hK;obtain⟨xs,hq,hx⟩:=hg;obtain⟨its,rv,p,hz⟩:=I.list hq;obtain⟨f0,f1,f2,f3,f4,f5⟩:=hf it (by simp);have hl:=rv.length;exact wpAny_pyNext_list_end (I.ok.hd hc) st p.isList (by simp;omega) fun h' eb=>⟨rfl,I.turned (t':=s.toks) (fun b o hb e=>eb b o hb e) f0 f1 f3 f4 f5⟩
 self:=fun _ _ _ _ _ st h=>wpAny_pyIter_listiter st h
def vp(a it:Addr):Turn P w K tg (Itt K a) [it] it (fun i h=>h.IsTupleIter it a i) where
 mem:=by simp
 obj:=fun i h st b hb=>by
  have e:b=it:=by simpa using hb
  subst e;obtain⟨o,e,c,d⟩:=st;exact⟨o,e,fun v z=>by rw[d]at z;cases z⟩
 keep:=fun i h h' st k=>st.at fun o e=>k it (by simp) o e
 item:=by
  intro X hP hw hK hc i ρ s σ H E I hf st hg;subst hP hw hK;obtain⟨xs,x,hq,hx⟩:=hg;obtain⟨its,rv,p,hz⟩:=I.tuple hq;obtain⟨u,hu,ru⟩:=rv.get hx;obtain⟨f0,f1,f2,f3,f4,f5⟩:=hf it (by simp);refine wpAny_pyNext_tuple_item st (show s.heap.IsTuple a its.toArray from p) (x:=u) (by simpa using hu) fun h' st' sb=>?_;have I1:Inv X ρ σ H { s with heap:=h' }:=I.turned (t':=s.toks) (fun b o hb e=>(sb.2 b hb).trans e) f0 f1 f3 f4 f5;obtain⟨o,e,c,d⟩:=id st';exact⟨u,rfl,oU (s:={ s with heap:=h' }) e c d (by decide) ⟨x,H,I1,ru,⟨rfl,fun ys hy=>by rw[I.tuple_inj hy hq];exact hx⟩,st',fun b hb=>(hf b hb).1⟩⟩
 done:=by
  intro X hP hw hK hc i ρ s σ H E I hf st hg;subst hP hw hK;obtain⟨xs,hq,hx⟩:=hg;obtain⟨its,rv,p,hz⟩:=I.tuple hq;obtain⟨f0,f1,f2,f3,f4,f5⟩:=hf it (by simp);have hl:=rv.length;exact wpAny_pyNext_tuple_end (I.ok.hd hc) st (show s.heap.IsTuple a its.toArray from p) (by simp;omega) fun h' eb=>⟨rfl,I.turned (t':=s.toks) (fun b o hb e=>eb b o hb e) f0 f1 f3 f4 f5⟩
 self:=fun _ _ _ _ _ st h=>wpAny_pyIter_tupleiter st h
def vq(it:Addr)(lo:Int)(n:Nat):Turn P w K tg (Itr lo n) [it] it (fun i h=>IsRangeIter h it (lo+(i:Nat)*1) ((n:Int)-(i:Nat)) 1) where
 mem:=by simp
 obj:=fun i h st b hb=>by
  have e:b=it:=by simpa using hb
  subst e;exact⟨_,st,fun v z=>by
   have z':Data.fields _=Data.cell v:=z;cases z'⟩
 keep:=fun i h h' st k=>k it (by simp) _ st
 item:=by
  intro X hP hw hK hc i ρ s σ H E I hf st hg;subst hP hw hK;obtain⟨f0,f1,f2,f3,f4,f5⟩:=hf it (by simp);have W:=Walks.range (prog:=X.prog) (w:=X.w) (I.ok.hd hc) it lo 1 n;refine W.item i s _ _ hg st fun v h' tk hv st' kk=>?_;obtain⟨t,rfl⟩:=hv;have I1:Inv X ρ σ H { s with heap:=h',toks:=tk }:=I.turned (fun b o hb e=>kk b o (by simpa using hb) e) f0 f1 f3 f4 f5;refine⟨_,rfl,oU (s:={ s with heap:=h',toks:=tk }) (n:="range_iterator") st' rfl rfl (by decide) ⟨.int (lo+i),H,I1,⟨t,?_⟩,⟨rfl,rfl⟩,st',fun b hb=>(hf b hb).1⟩⟩;rw[Int.mul_one]
 done:=by
  intro X hP hw hK hc i ρ s σ H E I hf st hg;subst hP hw hK;obtain⟨f0,f1,f2,f3,f4,f5⟩:=hf it (by simp);exact wpAny_pyNext_range_end (I.ok.hd hc) st (by have:n<=i:=hg;omega) fun h' eb=>⟨rfl,I.turned (t':=s.toks) (fun b o hb e=>eb b o hb e) f0 f1 f3 f4 f5⟩
 self:=fun _ _ _ _ _ st h=>wpAny_pyIter_rangeiter st h
def sd{R:It->Hp->Prop}{lo hi:Int}{t u v:Tok}{tk:Nat}(I:Inv X ρ σ H s)(h1:-(2 ^ 62)<=lo)(h2:lo<2 ^ 62)(h3:-(2 ^ 62)<=hi)(h4:hi<2 ^ 62)
  (q:R (Itr lo (hi-lo).toNat) H):wpAny (model X.prog X.w) X.A (pyIter (.ref s.heap.objs.size)) (PIE X ρ σ tg R) E { s with heap:=s.heap.push { cls:=.type "range",data:=.fields #[.int lo t,.int hi u,.int 1 v] },toks:=tk }:=by
 refine wpAny_pyIter_range (IsRange.new ..) (small_one h1 h2 h3 h4) ?_;have I1:Inv X ρ σ H { s with heap:=s.heap.push { cls:=.type "range",data:=.fields #[.int lo t,.int hi u,.int 1 v] },toks:=tk }:=I.kept fun b o e=>zaf _ e;refine⟨(s.heap.push { cls:=.type "range",data:=.fields #[.int lo t,.int hi u,.int 1 v] }).objs.size,[(s.heap.push { cls:=.type "range",data:=.fields #[.int lo t,.int hi u,.int 1 v] }).objs.size],_,_,H,rfl,
  I1.kept (t':=tk) fun b o e=>zaf _ e,vq _ lo (hi-lo).toNat,?_,fun b hb=>?_,q⟩
 ·have e1:lo+((0:Nat):Int)*1=lo:=by simp
  have e2:(((hi-lo).toNat:Nat):Int)-((0:Nat):Int)=Builtin.Range.rangeSize lo hi 1:=by rw[rangeSize_one];split<;>omega
  show IsRangeIter _ _ (lo+((0:Nat):Int)*1) ((((hi-lo).toNat:Nat):Int)-((0:Nat):Int)) 1;rw[e1,e2];exact zan _ rfl
 ·have e:b=(s.heap.push { cls:=.type "range",data:=.fields #[.int lo t,.int hi u,.int 1 v] }).objs.size:=by simpa using hb
  subst e;exact I1.fpOk (zav _) (I1.hok.fresh (zav _))
def J1(ta:TA):TI:=fun σ H R=>ta σ H fun vs H1=>∃j:Int,vs=[.int j]/\-(2 ^ 62)<=j/\j<2 ^ 62/\R (Itr 0 j.toNat) H1
def JZ(ta:TA):TI:=fun σ H R=>ta σ H fun vs H1=>∃i j:Int,vs=[.int i,.int j]/\(-(2 ^ 62)<=i/\i<2 ^ 62/\-(2 ^ 62)<=j/\j<2 ^ 62)/\R (Itr i (j-i).toNat) H1
def xa{a:Expr}{ta:TA}(hg:Gl X "range")(hm:X.mg "range"=none)(ha:PA X [a] ta)(hs:starEach [a] X.env=[(false,eval a X.env)]:=by rfl):PI X tg (.Call (.Name "range" p) [a] [] pos) (J1 ta):=by
 intro ρ s σ H R I h;refine Call_ (ie I hg hm boot_range (PyProof.Rows.callWith_type1 (thn (ha pos ρ s σ H _ I h) fun us s1 ⟨vs,H1,I1,r1,q1⟩=>?_) hs rfl));obtain⟨j,e,q1,q2,q⟩:=q1;subst e;cases r1 with
 |cons r rr=>
  cases rr;obtain⟨t,rfl⟩:=r;exact call_range_1 (sd I1 (by omega) (by omega) q1 q2 (by simpa using q))
def w8{a b:Expr}{ta:TA}(hg:Gl X "range")(hm:X.mg "range"=none)(ha:PA X [a,b] ta)(hs:starEach [a,b] X.env=[(false,eval a X.env),(false,eval b X.env)]:=by rfl)(hs2:starEach [b] X.env=[(false,eval b X.env)]:=by rfl):
  PI X tg (.Call (.Name "range" p) [a,b] [] pos) (JZ ta):=by
 intro ρ s σ H R I h;refine Call_ (ie I hg hm boot_range (PyProof.Rows.callWith_type1 (thn (ha pos ρ s σ H _ I h) fun us s1 ⟨vs,H1,I1,r1,q1⟩=>?_) (by rw[hs,hs2]) (by rw[hs2];rfl)));obtain⟨i,j,e,⟨q1,q2,q3,q4⟩,q⟩:=q1;subst e;cases r1 with
 |cons r rr=>
  cases rr with
  |cons r' rr=>
   cases rr;obtain⟨t,rfl⟩:=r;obtain⟨t',rfl⟩:=r';exact call_range_2 (sd I1 q1 q2 q3 q4 q)
def yB(wi:TI)(g:TG)(tb:TS):TS:=fun D σ H=>wi σ H fun J H1=>∃W:Nat->Nat->St->Hp->Prop,(∃m,W 0 m σ H1)/\∀i m σ H,W i m σ H ->
 (J.stop i H/\D.nx σ H)\/(J.go i H/\∃N:St->Hp->Prop,(∀σ' H',N σ' H'->∃m',m'<m/\W (i+1) m' σ' H')/\∀x H',J.yld i H x H'->g x σ H' fun σ2 H2=>tb { D with nx:=N,ct:=N,bk:=D.nx } σ2 H2)
def lJ(fp:List Addr)(h:Heap):List (Addr×Obj):=fp.filterMap fun b=>(h.get? b).map fun o=>(b,o)
def iS{o:Obj}(hb:b∈fp)(e:h.get? b=some o):(b,o)∈lJ fp h:=List.mem_filterMap.mpr ⟨b,hb,by rw[e];rfl⟩
def xf{p:Addr×Obj}(hp:p∈lJ fp h):p.1∈fp/\h.get? p.1=some p.2:=by
 obtain⟨b,hb,e⟩:=List.mem_filterMap.mp hp;cases q:h.get? b with
 |none=>rw[q]at e;cases e
 |some o=>
  rw[q]at e;have e':(b,o)=p:=zat e;subst e';exact⟨hb,q⟩
def Inv.pinned(I:Inv X ρ σ H s)(hf:∀b∈fp,ji X ρ H b)(ho:∀b∈fp,∃o,s.heap.get? b=some o/\∀v,o.data≠.cell v):Inv X (ρ++lJ fp s.heap) σ H s:=
 I.pins_of fun p hp=>(zax.mp hp).elim (fun z=>I.pin p (zbe _ z)) fun z=>by
  obtain⟨hb,e⟩:=xf z;obtain⟨f0,f1,f2,_⟩:=hf p.1 hb;obtain⟨o,e',d⟩:=ho p.1 hb;rw[e]at e';cases e';exact⟨e,f0,f1,f2,d⟩
def Inv.unpinned{pl:List (Addr×Obj)}(I:Inv X (ρ++pl) σ H s):Inv X ρ σ H s:=I.pins_of fun p hp=>I.pin p (zbe _ (zbd _ hp))
def wZ{iter:Expr}{wi:TI}{g:TG}{tb:TS}(hp:PassesOwn (model X.prog X.w) X.A X.env X.xe)(hc:X.calm=true)(hi:PI X tg iter wi)(hg:PG X tg g)(hb:PSs X body tb)
  (hs:∀x,foldedSetIterable iter X.env x=pure x:=by intro _;rfl):PS X (.For tg iter body [] pos) (yB wi g tb):=by
 intro ρ s σ H D I h;refine wpAny_For (thn (hi ρ s σ H _ I h) fun v s1 h1=>thn h1 fun itv s2 h2=>?_) hs;obtain⟨it,fp,tn,J,H2,e,I2,T,st2,f2,W,⟨m0,w0⟩,turn⟩:=h2;subst e;have stat:∀{H':Hp},(∀b∈fp,H' b=none)->∀b∈fp,ji X ρ H' b:=fun hn b hb=>⟨hn b hb,(f2 b hb).2⟩;refine codeAny_forLoop_any (fun n s'=>∃i σ' H',Inv X ρ σ' H' s'/\tn i s'.heap/\(∀b∈fp,H' b=none)/\W i n σ' H') ?_ m0 ⟨0,σ,H2,I2,st2,fun b hb=>(f2 b hb).1,w0⟩;rintro n s3 ⟨i,σ3,H3,I3,st3,fr3,w3⟩;rcases turn i n σ3 H3 w3 with⟨stop,qn⟩|⟨go,N,hN,step⟩
 ·refine wpAny_passesOwn hp (thn (T.done X rfl rfl rfl hc i ρ s3 σ3 H3 X.xe I3 (stat fr3) st3 stop) fun r s4 ⟨hr,I4⟩=>?_);subst hr;exact wpAny_execs_nil ⟨σ3,H3,I4,qn⟩
 ·refine wpAny_passesOwn hp (thn (T.item X rfl rfl rfl hc i ρ s3 σ3 H3 X.xe I3 (stat fr3) st3 go) fun r s4 ⟨u,hr,h4⟩=>?_);subst hr;refine wpAny_passesOwn hp (thn h4 fun _ s5 ⟨x,H5,I5,r5,y5,st5,fr5⟩=>?_);have I5':=I5.pinned (stat fr5) (T.obj _ _ st5);refine wpAny_passesOwn hp (thn (hg _ s5 σ3 H5 x u _ I5' r5 (step x H5 y5)) fun _ s6 ⟨σ6,H6,I6,q6⟩=>?_);refine wpAny_passesOwn hp (thn (hb _ s6 σ6 H6 _ I6 q6) fun f s7 q7=>?_);have again:∀{σ7:St} {H7:Hp},Inv X (ρ++lJ fp s5.heap) σ7 H7 s7->N σ7 H7->∃m,m<n/\∃i σ' H',Inv X ρ σ' H' s7/\tn i s7.heap/\(∀b∈fp,H' b=none)/\W i m σ' H':=fun {σ7 H7} I7 n7=>by
   obtain⟨m',hm,w7⟩:=hN σ7 H7 n7;refine⟨m',hm,i+1,σ7,H7,I7.unpinned,T.keep _ _ _ st5 fun b hb o e=>(I7.pin (b,o) (zbe _ (zbe _ (iS hb e)))).1,fun b hb=>?_,w7⟩;obtain⟨o,e,d⟩:=T.obj _ _ st5 b hb;exact(I7.pin (b,o) (zbe _ (zbe _ (iS hb e)))).2.1
  cases f with
  |next=>obtain⟨σ7,H7,I7,n7⟩:=q7;exact again I7 n7
  |cont=>obtain⟨σ7,H7,I7,n7⟩:=q7;exact again I7 n7
  |brk=>obtain⟨σ7,H7,I7,q7⟩:=q7;exact⟨σ7,H7,I7.unpinned,q7⟩
  |ret v=>obtain⟨x7,σ7,H7,I7,r7,q7⟩:=q7;exact⟨x7,σ7,H7,I7.unpinned,r7,q7⟩
abbrev R2:=V->V->Hp->VK->Prop
variable{r:R2}
def OpR(X:Cx)(f:Value->Value->Sem Value)(r:R2):Prop:=
 ∀(ρ:List (Addr×Obj)) (s:Shared) (σ:St) (H:Hp) (x y:V) (v u:Value) (Q:VK),Inv X ρ σ H s->RelV x v->RelV y u->r x y H Q ->
  wpAny (model X.prog X.w) X.A (f v u) (EP X ρ σ Q) X.xe s
def UnR(X:Cx)(f:Value->Sem Value)(r:V->Hp->VK->Prop):Prop:=
 ∀(ρ:List (Addr×Obj)) (s:Shared) (σ:St) (H:Hp) (x:V) (v:Value) (Q:VK),Inv X ρ σ H s->RelV x v->r x H Q ->
  wpAny (model X.prog X.w) X.A (f v) (EP X ρ σ Q) X.xe s
def CallR(X:Cx)(f:Value)(r:List V->Hp->VK->Prop):Prop:=
 ∀(ρ:List (Addr×Obj)) (s:Shared) (σ:St) (H:Hp) (xs:List V) (us:List Value) (Q:VK),Inv X ρ σ H s->Vals xs us->r xs H Q ->
  wpAny (model X.prog X.w) X.A (call f us) (EP X ρ σ Q) X.xe s
def Li(X:Cx)(r:V->Hp->(Bool->Hp->Prop)->Prop):Prop:=
 ∀(ρ:List (Addr×Obj)) (s:Shared) (σ:St) (H:Hp) (x:V) (v:Value) (Q:Bool->Hp->Prop),Inv X ρ σ H s->RelV x v->r x H Q ->
  wpAny (model X.prog X.w) X.A (truthy v) (TP X ρ σ Q) X.xe s
def tOp(r:R2)(ta tb:TE):TE:=fun σ H Q=>ta σ H fun x H1=>tb σ H1 fun y H2=>r x y H2 Q
def tUn(r:V->Hp->VK->Prop)(ta:TE):TE:=fun σ H Q=>ta σ H fun x H1=>r x H1 Q
def rI(C:Int->Int->Prop)(g:Int->Int->V):R2:=fun x y H Q=>∃i j,x=.int i/\y=.int j/\C i j/\Q (g i j) H
def rI0(g:Int->Int->V):R2:=fun x y H Q=>∃i j,x=.int i/\y=.int j/\Q (g i j) H
def rU(g:Int->V):V->Hp->VK->Prop:=fun x H Q=>∃i,x=.int i/\Q (g i) H
section
variable{a b:Expr}{tc:TE} 
def Ae(ha:PE X a ta)(hb:PE X b tb){R:V->V->Hp->Prop}(I:Inv X ρ σ H s)
  (h:ta σ H fun x H1=>tb σ H1 fun y H2=>R x y H2) {f:Value->Value->Sem Value}
  (hf:∀v u s2 x y H2,Inv X ρ σ H2 s2->RelV x v->RelV y u->R x y H2->wpAny (model X.prog X.w) X.A (f v u) Q X.xe s2):
  wpAny (model X.prog X.w) X.A (eval a X.env) (fun v s₁=>wpAny (model X.prog X.w) X.A (eval b X.env) (fun u s₂=>wpAny (model X.prog X.w) X.A (f v u) Q X.xe s₂) X.xe s₁) X.xe s:=by
 refine thn (ha ρ s σ H _ I h) ?_;rintro v s1 ⟨x,H1,I1,r1,q1⟩;refine thn (hb ρ s1 σ H1 _ I1 q1) ?_;rintro u s2 ⟨y,H2,I2,r2,q2⟩;exact hf v u s2 x y H2 I2 r1 r2 q2
def JN{op:Operator}(ho:OpR X (binaryOp op) r)(ha:PE X a ta)(hb:PE X b tb):PE X (.BinOp a op b pos) (tOp r ta tb):=by
 intro ρ s σ H Q I h;exact wpAny_BinOp (Ae ha hb I h fun v u s2 x y H2 I2 rx ry q=>ho ρ s2 σ H2 x y v u Q I2 rx ry q)
def JL{op:UnaryOp}{r:V->Hp->VK->Prop}(ho:UnR X (unaryOp op) r)(ha:PE X a ta):PE X (.UnaryOp op a pos) (tUn r ta):=by
 intro ρ s σ H Q I h;exact UnaryOp_ (thn (ha ρ s σ H _ I h) fun v s1 ⟨x,H1,I1,r1,q1⟩=>ho ρ s1 σ H1 x v Q I1 r1 q1)
def opI{f:Value->Value->Sem Value}{C:Int->Int->Prop} 
  (rule:∀(i j:Int) (t u:Tok) (s:Shared) (Q:Value->Shared->Prop) (E:Value->Shared->Prop),C i j->Q (.int (g i j) s.toks) { s with toks:=s.toks+1 }->wpAny (model X.prog X.w) X.A (f (.int i t) (.int j u)) Q E s):
  OpR X f (rI C fun i j=>.int (g i j)):=by
 intro ρ s σ H x y v u Q I rx ry h;obtain⟨i,j,rfl,rfl,hc,q⟩:=h;obtain⟨t,rfl⟩:=rx;obtain⟨t',rfl⟩:=ry;exact rule i j t t' s _ _ hc ⟨.int (g i j),H,I.tok _,⟨_,rfl⟩,q⟩
def Hj{f:Value->Value->Sem Value} 
  (rule:∀(i j:Int) (t u:Tok) (s:Shared) (Q:Value->Shared->Prop) (E:Value->Shared->Prop),Q (.int (g i j) s.toks) { s with toks:=s.toks+1 }->wpAny (model X.prog X.w) X.A (f (.int i t) (.int j u)) Q E s):
  OpR X f (rI0 fun i j=>.int (g i j)):=by
 intro ρ s σ H x y v u Q I rx ry h;obtain⟨i,j,rfl,rfl,q⟩:=h;obtain⟨t,rfl⟩:=rx;obtain⟨t',rfl⟩:=ry;exact rule i j t t' s _ _ ⟨.int (g i j),H,I.tok _,⟨_,rfl⟩,q⟩
def vI{f:Value->Value->Sem Value}{g:Int->Int->Bool}
  (rule:∀(i j:Int) (t u:Tok) (s:Shared) (Q:Value->Shared->Prop) (E:Value->Shared->Prop),Q (.bool (g i j)) s->wpAny (model X.prog X.w) X.A (f (.int i t) (.int j u)) Q E s):
  OpR X f (rI0 fun i j=>.bl (g i j)):=by
 intro ρ s σ H x y v u Q I rx ry h;obtain⟨i,j,rfl,rfl,q⟩:=h;obtain⟨t,rfl⟩:=rx;obtain⟨t',rfl⟩:=ry;exact rule i j t t' s _ _ ⟨.bl (g i j),H,I,rfl,q⟩
def oB(i j:Int):Prop:=0<j/\j<1073741824
def jK(i j:Int):Prop:=0<=j/\j<=1000000/\i.natAbs<2 ^ 64
def CMul(i j:Int):Prop:=(-(2 ^ 64)<i/\i<2 ^ 64)\/(-(2 ^ 64)<j/\j<2 ^ 64)
def CMul.ok{i j:Int}(h:CMul i j):IntMulOk i j:=by
 rcases h with⟨h1,h2⟩|⟨h1,h2⟩
 ·exact .of_left (intBits_le_64 h1 h2)
 ·exact .of_right (intBits_le_64 h1 h2)
def op_add:OpR X (binaryOp .Add) (rI0 fun i j=>.int (i+j)):=Hj fun _ _ _ _ _ _ _ q=>add_int q
def op_sub:OpR X (binaryOp .Sub) (rI0 fun i j=>.int (i-j)):=Hj fun _ _ _ _ _ _ _ q=>sub_int q
def op_mul:OpR X (binaryOp .Mult) (rI CMul fun i j=>.int (i*j)):=opI fun _ _ _ _ _ _ _ hc q=>mul_int q hc.ok
def op_fdiv:OpR X (binaryOp .FloorDiv) (rI oB fun i j=>.int (i / j)):=opI fun i j _ _ _ _ _ hc q=>by
 have h1:(0:Int)<j:=hc.1;have h2:j<1073741824:=hc.2;exact floordiv_int (by omega) (by rw[Int.fdiv_eq_ediv_of_nonneg i (by omega)];exact q) (.inl (PyProof.noPylong_small (by omega)))
def op_mod:OpR X (binaryOp .Mod) (rI (fun _ j=>0<j) fun i j=>.int (i % j)):=opI fun i j _ _ _ _ _ hc q=>by
 have h1:(0:Int)<j:=hc;exact mod_int' (by omega) (by rw[Int.fmod_eq_emod_of_nonneg i (by omega)];exact q)
def op_pow:OpR X (binaryOp .Pow) (rI jK fun i j=>.int (i ^ j.toNat)):=opI fun _ _ _ _ _ _ _ hc q=>pow_int_small hc.1 hc.2.1 hc.2.2 q
def unI{f:Value->Sem Value}{g:Int->Int}
  (rule:∀(i:Int) (t:Tok) (s:Shared) (Q:Value->Shared->Prop) (E:Value->Shared->Prop),Q (.int (g i) s.toks) { s with toks:=s.toks+1 }->wpAny (model X.prog X.w) X.A (f (.int i t)) Q E s):
  UnR X f (rU fun i=>.int (g i)):=by
 intro ρ s σ H x v Q I rx h;obtain⟨i,rfl,q⟩:=h;obtain⟨t,rfl⟩:=rx;exact rule i t s _ _ ⟨.int (g i),H,I.tok _,⟨_,rfl⟩,q⟩
def un_neg:UnR X (unaryOp .USub) (rU fun i=>.int (-i)):=unI fun _ _ _ _ _ q=>neg_int q
def Iu{Q:VK}{k k':Bool}(I:Inv X ρ σ H s)(q:Q (.bl k) H)(e:k=k'):EP X ρ σ Q (.bool k') s:=by
 subst e;exact⟨.bl k,H,I,rfl,q⟩
def op_lt:OpR X (compareOp .Lt) (rI0 fun i j=>.bl (decide (i<j))):=vI fun _ _ _ _ _ _ _ q=>lt_int q
def op_le:OpR X (compareOp .LtE) (rI0 fun i j=>.bl (decide (i<=j))):=vI fun _ _ _ _ _ _ _ q=>le_int q
def op_gt:OpR X (compareOp .Gt) (rI0 fun i j=>.bl (decide (j<i))):=vI fun _ _ _ _ _ _ _ q=>gt_int q
def op_ge:OpR X (compareOp .GtE) (rI0 fun i j=>.bl (decide (j<=i))):=vI fun _ _ _ _ _ _ _ q=>ge_int q
def op_notN:OpR X (compareOp .IsNot) (fun x y H Q=>y=.non/\Q (.bl (!decide (x=.non))) H):=by
 intro ρ s σ H x y v u Q I rx ry h;obtain⟨rfl,q⟩:=h;cases ry;refine isnot_none_gen (Iu I q ?_);cases x<;>first
  | (cases rx;rfl)
  | (obtain⟨t,rfl⟩:=rx;rfl)
def a9(b:Expr)(h:op≠.In:=by decide)(h2:op≠.NotIn:=by decide):behindInMarks op b=false:=by
 have e1:(op==CmpOp.In)=false:=by cases op<;>first|rfl|exact absurd rfl h
 have e2:(op==CmpOp.NotIn)=false:=by cases op<;>first|rfl|exact absurd rfl h2
 cases b<;>simp[behindInMarks,e1,e2]
def C9(ho:OpR X (compareOp op) r)(ha:PE X a ta)(hb:PE X b tb)(hm:behindInMarks op b=false):PE X (.Compare a [op] [b] pos) (tOp r ta tb):=by
 intro ρ s σ H Q I h;exact wpAny_Compare1 (Ae ha hb I h fun v u s2 x y H2 I2 rx ry q=>ho ρ s2 σ H2 x y v u Q I2 rx ry q) hm
def Cc(t:TE):TT:=fun σ H Q=>t σ H fun x H'=>∃k,x=.bl k/\Q k H'
def C0(ho:OpR X (compareOp op) r)(ha:PE X a ta)(hb:PE X b tb)(hm:behindInMarks op b=false):PT X (.Compare a [op] [b] pos) (Cc (tOp r ta tb)):=by
 intro ρ s σ H Q I h;refine wpAny_isTrue_Compare1 (thn (ha ρ s σ H _ I h) fun v s1 ⟨x,H1,I1,r1,q1⟩=>thn (hb ρ s1 σ H1 _ I1 q1) fun u s2 ⟨y,H2,I2,r2,q2⟩=>
  thn (ho ρ s2 σ H2 x y v u _ I2 r1 r2 q2) fun c s3 ⟨z,H3,I3,r3,k,e,q3⟩=>?_) hm
 subst e;cases r3;exact zby ⟨H3,I3,q3⟩
def wP(r r':R2)(ta tb tc:TE):TE:=fun σ H Q=>ta σ H fun x H1=>tb σ H1 fun y H2=>r x y H2 fun z H3=>∃k,z=.bl k /\
 (if k=true then tc σ H3 fun w' H4=>r' y w' H4 Q else Q (.bl false) H3)
def yL{op':CmpOp}{r':R2}(ho:OpR X (compareOp op) r)(ho':OpR X (compareOp op') r')(ha:PE X a ta)(hb:PE X b tb)(hc:PE X c tc)
  (hm:lastMarks [op,op'] [b,c]=false:=by with_unfolding_all rfl):PT X (.Compare a [op,op'] [b,c] pos) (Cc (wP r r' ta tb tc)):=by
 intro ρ s σ H Q I h;refine isTrue_chain (thn (ha ρ s σ H _ I h) fun v s1 ⟨x,H1,I1,r1,q1⟩=>test_link (thn (hb ρ s1 σ H1 _ I1 q1) fun u s2 ⟨y,H2,I2,r2,q2⟩=>
  thn (ho ρ s2 σ H2 x y v u _ I2 r1 r2 q2) fun d s3 ⟨z,H3,I3,r3,k,e,q3⟩=>?_)) hm
 subst e;cases r3;refine zby ?_;cases k with
 |false=>
  obtain⟨k',e',q'⟩:=q3;cases e';exact ite_ff ⟨H3,I3,q'⟩
 |true=>
  refine ite_tt (test_last (thn (hc ρ s3 σ H3 _ I3 q3) fun w' s4 ⟨z',H4,I4,r4,q4⟩=>thn (ho' ρ s4 σ H4 y z' u w' _ I4 r2 r4 q4) fun d' s5 ⟨z2,H5,I5,r5,k2,e2,q5⟩=>?_));subst e2;cases r5;exact zby ⟨H5,I5,q5⟩
def Lh(K:zbY)(x:V)(H:Hp)(k:Bool):Prop:=
 match x with
 |.non=>k=false
 |.bl b=>k=b
 |.int i=>k=(i != 0)
 |.str y=>y.length<=sizeLine/\k=((y.length:Int) != 0)
 |.byt y=>y.size<=sizeLine/\k=((y.size:Int) != 0)
 |.ref p=>(∃xs,SqL K H p xs/\k=!xs.isEmpty)\/(∃xs,SqT K H p xs/\k=!xs.isEmpty)\/∃kvs,H p=some (.dK kvs)/\k=!kvs.isEmpty
 |_=>False
def jS:(sizeLine:Nat)<2 ^ 63:=by rw[sizeLine_eq];decide
def vH:OpR X (binaryOp .Add) (fun x y H Q=>∃i j,x=.str i/\y=.str j/\i.length+j.length<=sizeLine/\Q (.str (i++j)) H):=by
 intro ρ s σ H x y v u Q I rx ry h;obtain⟨i,j,rfl,rfl,hz,q⟩:=h;obtain⟨t,rfl⟩:=rx;obtain⟨t',rfl⟩:=ry;exact add_str (fun t' tk=>⟨.str (i++j),H,I.tok _,⟨_,rfl⟩,q⟩) hz
def eg{x:V}(r:Vals [x] us):∃u,us=[u]/\RelV x u:=by
 cases r with
 |cons r1 r2=>cases r2;exact⟨_,rfl,r1⟩
def vo{x:V}(r:Vals [x,y] us):∃u w',us=[u,w']/\RelV x u/\RelV y w':=by
 cases r with
 |cons r1 r2=>
  cases r2 with
  |cons r3 r4=>cases r4;exact⟨_,_,rfl,r1,r3⟩
def call_abs:CallR X (.builtin "abs") (fun xs H Q=>∃i,xs=[.int i]/\Q (.int (if i<0 then -i else i)) H):=by
 intro ρ s σ H xs us Q I r h;obtain⟨i,rfl,q⟩:=h;obtain⟨u,rfl,t,rfl⟩:=eg r;exact call_abs_int fun u tk=>⟨.int (if i<0 then -i else i),H,I.tok _,⟨_,rfl⟩,q⟩
def yi(hc:X.calm=true):CallR X (.builtin "max") (fun xs H Q=>∃i j,xs=[.int i,.int j]/\Q (.int (if j>i then j else i)) H):=by
 intro ρ s σ H xs us Q I r h;obtain⟨i,j,rfl,q⟩:=h;obtain⟨u,w',rfl,⟨t,rfl⟩,⟨t',rfl⟩⟩:=vo r;refine max_two_ints (I.ok.hd hc) fun h' tk k=>⟨_,H,I.kept k,?_,q⟩;by_cases hj:j>i
 ·rw[if_pos hj,if_pos hj];exact⟨_,rfl⟩
 ·rw[if_neg hj,if_neg hj];exact⟨_,rfl⟩
def call_int1:CallR X (.type "int") (fun xs H Q=>(∃i,xs=[.int i]/\Q (.int i) H)\/∃k,xs=[.bl k]/\Q (.int (if k then 1 else 0)) H):=by
 intro ρ s σ H xs us Q I r h;rcases h with⟨i,rfl,q⟩|⟨k,rfl,q⟩
 ·obtain⟨u,rfl,t,rfl⟩:=eg r;exact call_int_int ⟨.int i,H,I,⟨_,rfl⟩,q⟩
 ·obtain⟨u,rfl,r1⟩:=eg r;cases r1;exact call_int_bool ⟨.int (if k then 1 else 0),H,I.tok _,⟨_,rfl⟩,q⟩
def Jn(K:zbY)(x:V)(H:Hp)(n:Nat):Prop:=
 match x with
 |.str y=>y.length<=sizeLine/\n=y.length
 |.byt y=>y.size<=sizeLine/\n=y.size
 |.ref p=>(∃xs,SqL K H p xs/\n=xs.length)\/∃xs,SqT K H p xs/\n=xs.length
 |_=>False
def Aa:CallR X (.builtin "len") (fun xs H Q=>∃x n,xs=[x]/\Jn X.K x H n/\Q (.int n) H):=by
 intro ρ s σ H xs us Q I r h;obtain⟨x,n,rfl,e,q⟩:=h;obtain⟨u,rfl,rx⟩:=eg r;have hl:=jS;have hs:sizeLine=16777216:=sizeLine_eq;cases x with
 |str y=>
  obtain⟨t,rfl⟩:=rx;obtain⟨hy,e'⟩:y.length<=sizeLine/\n=y.length:=e;subst e';exact len_str (by omega) ⟨.int _,H,I.tok _,⟨_,rfl⟩,q⟩
 |byt y=>
  obtain⟨t,rfl⟩:=rx;obtain⟨hy,e'⟩:y.size<=sizeLine/\n=y.size:=e;subst e';exact PySem.W.len_bytes (by omega) ⟨.int _,H,I.tok _,⟨_,rfl⟩,q⟩
 |ref p=>
  cases rx;have e':(∃xs,SqL X.K H p xs/\n=xs.length)\/∃xs,SqT X.K H p xs/\n=xs.length:=e;rcases e' with⟨xs,hx,e'⟩|⟨xs,hx,e'⟩
  ·subst e';obtain⟨its,r',pl,hz⟩:=I.list hx;have ξ:=r'.length;exact Calls.call_len_list pl.isList (by simp only[zai];omega) ⟨.int xs.length,H,I.tok _,⟨_,by simp only[zai];rw[ξ]⟩,q⟩
  ·subst e';obtain⟨its,r',pl,hz⟩:=I.tuple hx;have ξ:=r'.length;exact len_tuple pl (by simp only[zai];omega) ⟨.int xs.length,H,I.tok _,⟨_,by simp only[zai];rw[ξ]⟩,q⟩
 |_=>exact(show False from e).elim
end
structure ObjM(h:Heap)(x dx C:Addr)(mA:Str->Option Value):Prop where
 obj:h.get? x=some (PySem.W.instObj C dx)
 ns:h.Ns1 dx mA
 ne:dx≠x
def xm(n:h.Ns1 dx mA):∃od,h.get? dx=some od/\∀name,PySem.W.lookIn name od=some (mA name):=by
 obtain⟨o,es,ep,ho,hd,hk,_,hm⟩:=n;refine⟨o,ho,fun name=>?_⟩;have e:=hm name;unfold nsFind findBy at e;rw[<-Array.find?_toList]at e;unfold PySem.W.lookIn;rw[hd]
 dsimp only
 split
 ·rename_i y q;rw[q]at e;exact congrArg some e
 ·rename_i q;rw[q]at e;have a:es.toList.any (·.refKey)=false:=by
   rw[List.any_eq_false];intro y hy;obtain⟨z,t,hkey⟩:=hk y (Array.mem_toList_iff.mp hy);simp[DictEntry.refKey,hkey]
  have a':¬es.toList.any (·.refKey)=true:=by rw[a];exact zbl
  rw[if_neg a'];exact congrArg some e
def ObjM.look{x:Addr}(I:ObjM h x dx C mA):∃od,PySem.W.InstAt h x (PySem.W.instObj C dx) C (some od)/\∀name,PySem.W.lookIn name od=some (mA name):=
 let⟨od,ho,hl⟩:=xm I.ns
 ⟨od,⟨I.obj,rfl,rfl,ho⟩,hl⟩
def RelO.some_of{o:Option Value}(r:RelO (some v) o):∃u,o=some u/\RelV v u:=by
 cases o with
 |none=>exact(show False from r).elim
 |some u=>exact⟨u,rfl,r⟩
section
variable{fs fs':List (Str×V)}
def Dy(hok:HOk P w H h)(e:H a=some (.ins C dx fs)):∃mA,ObjM h a dx C mA/\(∀f,RelO (fs.lookup f) (mA f))/\PySem.Within mA (fs.map (·.1))/\fs.length<=1000/\H dx=some (.own a):=by
 obtain⟨d,z,ne,ob,mA,n,r,q⟩:=(show ObjOk P w H h a (.ins C dx fs)from hok a _ e);exact⟨mA,⟨ob,n,ne⟩,r,q,z,d⟩
end
structure Cls(K:zbY)(C:Addr):Prop where
 pg:PySem.W.plainGet K C Str.empty=true
 hd:PySem.W.hasDictIn K C=true
 po:PySem.W.plainOver K C=true
 sa:PySem.W.findIn K (.ref C) "__setattr__"=some (some (.builtin "object.__setattr__"))
def Cls.get(c:Cls K C)(f:Str):PySem.W.plainGet K C f=true:=c.pg
section
variable{c:Value}{b:Bool}
inductive TyOf(K:zbY)(H:Hp):V->Value->Prop where
 |non:TyOf K H .non (.type "NoneType")
 |bl (x:Bool):TyOf K H (.bl x) (.type "bool")
 |int (i:Int):TyOf K H (.int i) (.type "int")
 |str (x:Str):TyOf K H (.str x) (.type "str")
 |flt (x:UInt64):TyOf K H (.flt x) (.type "float")
 |lst {a:Addr} {xs:List V} (e:H a=some (.lst xs)):TyOf K H (.ref a) (.type "list")
 |frz {a:Addr} {o:Obj} {xs:List V} (e:H a=some (.frz o (.lst xs))):TyOf K H (.ref a) (.type "list")
 |tup {a:Addr} {xs:List V} (e:H a=some (.tup xs)):TyOf K H (.ref a) (.type "tuple")
 |dK {a:Addr} {kvs:List (Key×V)} (e:Rd H a (.dK kvs)):TyOf K H (.ref a) (.type "dict")
 |dT {a:Addr} {kvs:List (List Key×V)} (e:H a=some (.dT kvs)):TyOf K H (.ref a) (.type "dict")
 |ins {a C dx:Addr} {fs:List (Str×V)} (e:H a=some (.ins C dx fs)) (cl:Cls K C) (ha:PySem.W.findIn K (.ref C) "__class__"=some (some (.builtin "object.__class__")))
   (hn:PySem.W.specialIn K (.builtin "object.__class__") "__get__"=some (some (.builtin "getset_descriptor.__get__"))) (htk:PySem.W.takesIn K (.builtin "object.__class__")=some true)
   (hm:PySem.W.mroIn K C (.type "object")=some true):TyOf K H (.ref a) (.ref C)
def xC{x:V}{t:Value}(I:Inv X ρ σ H s)(rx:RelV x u)(ty:TyOf X.K H x t)(e:PySem.W.kitOne X.K t c=some b)(h:∀tk,Q (.bool b) { s with toks:=tk }):
  wpAny (model X.prog X.w) A (call (.builtin "isinstance") [u,c]) Q E s:=by
 cases ty with
 |non=>cases(show u=Value.none from rx);exact PySem.W.kia_one PySem.W.kitx_none I.kIn True.intro e (fun z=>nomatch z) h
 |bl y=>cases(show u=Value.bool y from rx);exact PySem.W.kia_one PySem.W.kitx_bool I.kIn True.intro e (fun z=>nomatch z) h
 |int i=>obtain⟨t,q⟩:=(show ∃t,u=Value.int i t from rx);cases q;exact PySem.W.kia_one PySem.W.kitx_int I.kIn True.intro e (fun z=>nomatch z) h
 |str y=>obtain⟨t,q⟩:=(show ∃t,u=Value.str y t from rx);cases q;exact PySem.W.kia_one PySem.W.kitx_str I.kIn True.intro e (fun z=>nomatch z) h
 |flt y=>obtain⟨t,q⟩:=(show ∃t,u=Value.float y t from rx);cases q;exact PySem.W.kia_one PySem.W.kitx_float I.kIn True.intro e (fun z=>nomatch z) h
 |@lst a xs ea=>
  cases(show u=Value.ref a from rx);obtain⟨_,_,n,_,h1⟩:=(show ObjOk X.prog X.w H s.heap a (.lst xs)from I.hok a _ ea);exact PySem.W.kia_one PySem.W.kitx_list I.kIn ⟨_,h1,rfl⟩ e (fun z=>nomatch z) h
 |@frz a ob xs ea=>
  cases(show u=Value.ref a from rx);obtain⟨_,_,_,n,_,h1⟩:=(show ObjOk X.prog X.w H s.heap a (.frz ob (.lst xs))from I.hok a _ ea);exact PySem.W.kia_one PySem.W.kitx_list I.kIn ⟨_,h1,rfl⟩ e (fun z=>nomatch z) h
 |@tup a xs ea=>
  cases(show u=Value.ref a from rx);obtain⟨_,_,_,p⟩:=(show ObjOk X.prog X.w H s.heap a (.tup xs)from I.hok a _ ea);obtain⟨o,h1,h2,_⟩:=p;exact PySem.W.kia_one PySem.W.kitx_tuple I.kIn ⟨o,h1,h2⟩ e (fun z=>nomatch z) h
 |@dK a kvs ea=>
  cases(show u=Value.ref a from rx);obtain⟨_,_,vs,_,p⟩:=(show ObjOk X.prog X.w H s.heap a (.dK kvs)from ea.ok I.hok);obtain⟨o,es,ep,h1,h2,_⟩:=p;exact PySem.W.kia_one PySem.W.kitx_dict I.kIn ⟨o,h1,h2.1⟩ e (fun z=>nomatch z) h
 |@dT a kvs ea=>
  cases(show u=Value.ref a from rx);obtain⟨_,_,xs,_,o,es,ep,h1,h2,_⟩:=(show ObjOk X.prog X.w H s.heap a (.dT kvs)from I.hok a _ ea);exact PySem.W.kia_one PySem.W.kitx_dict I.kIn ⟨o,h1,h2.1⟩ e (fun z=>nomatch z) h
 |@ins a C dx fs ea cl ha hn htk hm=>
  cases(show u=Value.ref a from rx);obtain⟨mA,O,_⟩:=Dy I.hok ea;obtain⟨od,J,_⟩:=O.look;exact PySem.W.kia_one (PySem.W.kitx_own (cl.get _) cl.hd ha hn htk hm) I.kIn J e (fun z=>nomatch z) h
end
structure Room(k:Nat)(A:Around):Prop where
 hd:A.handled=none
 dp:A.depth+3*k+5<recursionLimit
 un:A.units+16*k+200<cLine
 gd:A.guards=some []
def Room.mono(r:Room k A)(h:j<=k):Room j A:=⟨r.hd,by have:=r.dp;omega,by have:=r.un;omega,r.gd⟩
def Room.deeper(r:Room (k+1) A)(env:Env):Room k (A.deeper env):=
 ⟨r.hd,by have:=r.dp;show A.depth+1+3*k+5<_;omega,by have:=r.un;show A.units+3+16*k+200<_;omega,r.gd⟩
def Room.depth(r:Room k A):A.depth<recursionLimit:=by have:=r.dp;omega
def Room.units(r:Room k A):A.units+64<cLine:=by have:=r.un;omega
def nI:TA:=fun _ H Q=>Q [] H
def iP(ta:TE)(tr:TA):TA:=fun σ H Q=>ta σ H fun x H1=>tr σ H1 fun xs H2=>Q (x::xs) H2
section
variable{t:TA} 
def pa_nil:PA X [] nI:=fun _ _ _ _ H Q I h=>Calls.spliced_nil ⟨[],H,I,.nil,h⟩
def cq(ha:PE X e te)(hr:PA X es t)(hs:starEach (e::es) X.env=(false,eval e X.env)::starEach es X.env:=by rfl):PA X (e::es) (iP te t):=by
 intro pos ρ s σ H Q I h;rw[hs];show wpAny _ _ (spliced ((false,eval e X.env)::backTo pos (starEach es X.env))) _ _ s;refine Calls.spliced_cons (thn (ha ρ s σ H _ I h) fun u s1 ⟨x,H1,I1,r1,q1⟩=>?_);exact thn (hr pos ρ s1 σ H1 _ I1 q1) fun us s2 ⟨xs,H2,I2,r2,q2⟩=>⟨x::xs,H2,I2,.cons r1 r2,q2⟩
def GC(t:TA):TE:=fun σ H Q=>t σ H fun xs H1=>xs.length<=sizeLine/\∀p,H1 p=none->Q (.ref p) (upd H1 p (.tup xs))
def GJ(t:TA):TE:=fun σ H Q=>t σ H fun xs H1=>xs.length<=sizeLine/\∀p,H1 p=none->Q (.ref p) (upd H1 p (.lst xs))
def Ha{x1}(h:PA X es t):PE X (.Tuple es x1 pos) (GC t):=by
 intro ρ s σ H Q I hq;refine wpAny_Tuple_spliced (thn (h pos ρ s σ H _ I hq) fun us s1 ⟨xs,H1,I1,r,z,q⟩=>⟨by rw[<-r.length];exact z,?_⟩);have hf:H1 s1.heap.objs.size=none:=I1.hok.fresh (zav _);refine⟨.ref s1.heap.objs.size,upd H1 s1.heap.objs.size (.tup xs),I1.laid (t':=s1.toks) (fun b u e=>zaf _ e) (zav _) ?_,rfl,q _ hf⟩;exact⟨z,us,r,⟨_,zan _ rfl,rfl,_,rfl,rfl⟩⟩
def He(h:PA X es t):PE X (.List es pos) (GJ t):=by
 intro ρ s σ H Q I hq;refine wpAny_List_spliced (thn (h pos ρ s σ H _ I hq) fun us s1 ⟨xs,H1,I1,r,z,q⟩=>⟨by rw[<-r.length];exact z,?_⟩);have hf:H1 s1.heap.objs.size=none:=I1.hok.fresh (zav _);refine⟨.ref s1.heap.objs.size,upd H1 s1.heap.objs.size (.lst xs),I1.laid (t':=s1.toks) (fun b u e=>zaf _ e) (zav _) ?_,rfl,q _ hf⟩;exact⟨z,us,0,r,zan _ rfl⟩
end
abbrev Sp:=List V->Hp->VK->XK->Prop
variable{sp:Sp}
abbrev CXT:=List Env->Hp->Shared->XK->Value->Shared->Prop
variable{CX:CXT}
structure Env0(P:Program)(w:World)(K:zbY)(mg:Str->Option Value)(base:Heap)(A:Around)(outer:List Env)(s:Shared)(H:Hp):Prop where
 frames:A.frames=some outer
 mod:Mod K mg base
 bs:∀b o,base.get? b=some o->s.heap.get? b=some o/\H b=none
 bsz:base.objs.size<=s.heap.objs.size
 funs:s.heap.FunFrames base outer
 frf:∀b∈frs outer,H b=none
 hok:HOk P w H s.heap
 bare:AllBare s.gens
def CE(outer:List Env)(P:Program)(w:World)(H:Hp)(s:Shared)(Q:VK)(u:Value)(s':Shared):Prop:=
 ∃v H',s'.os=s.os/\AllBare s'.gens/\Un (frs outer) [] H H' s.heap s'.heap/\HOk P w H' s'.heap/\RelV v u/\Q v H'
def CR(CX:CXT)(outer:List Env)(P:Program)(w:World)(H:Hp)(s:Shared)(Q:VK)(E:XK)(r:Result)(s':Shared):Prop:=
 match r with
 |.ok (.ret u)=>CE outer P w H s Q u s'
 |.ok _=>False
 |.error e=>CX outer H s E e s'
structure FnOk(P:Program)(w:World)(K:zbY)(mg:Str->Option Value)(base:Heap)(CX:CXT)(k:Nat)(f:Addr)(fd:FuncData)(ps:List Str)(sp:Sp):Prop where
 len:∀vs H Q E,sp vs H Q E->vs.length=ps.length
 run:∀(A:Around) (outer:List Env) (s:Shared) (H:Hp) (args:Args) (us:List Value) (vs:List V) (Q:VK) (E:XK),Room k A->Env0 P w K mg base A outer s H->BindsTo s fd args (ps.zip us)->Vals vs us->sp vs H Q E ->
  codeAny (model P w) A (.call (.ref f) args) (CR CX outer P w H s Q E) s
def FnOk.mono{P:Program}{w:World}{K:zbY}{mg:Str->Option Value}{base:Heap}{CX:CXT}{j k:Nat}{f:Addr}{fd:FuncData}{ps:List Str}{sp:Sp}(F:FnOk P w K mg base CX j f fd ps sp)(h:j<=k):
  FnOk P w K mg base CX k f fd ps sp:=⟨F.len,fun A outer s H args us vs Q E hr=>F.run A outer s H args us vs Q E (hr.mono h)⟩
def FnOk.imp{base:Heap}{sp':Sp}(F:FnOk P w K mg base CX k f fd ps sp)
  (h:∀vs H Q E,sp' vs H Q E->sp vs H Q E):FnOk P w K mg base CX k f fd ps sp':=
 ⟨fun vs H Q E q=>F.len vs H Q E (h _ _ _ _ q),fun A outer s H args us vs Q E hr he hb hv hs=>F.run A outer s H args us vs Q E hr he hb hv (h _ _ _ _ hs)⟩
def Inv.env0(I:Inv X ρ σ H s):Env0 X.prog X.w X.K X.mg X.base X.A X.stack s H:=
 ⟨I.ok.frames,I.ok.mod,I.bs,zau I.ok.bsz I.sz,I.stack,I.stkFree,I.hok,I.bare⟩
def Inv.after{Q:VK}(I:Inv X ρ σ H s)(h:CE X.stack X.prog X.w H s Q u s'):EP X ρ σ Q u s':=by
 obtain⟨v,H',os,bare,un,hok,r,q⟩:=h;obtain⟨hh,g,d,t,os'⟩:=s';obtain rfl:os'=s.os:=os;exact⟨v,H',I.call (h':=hh) (g':=g) (d':=d) (t':=t) (ch:=[]) un hok bare (fun b z=>absurd z (by simp)),r,q⟩
def rD(sp:Sp)(dvs:List V)(E:XK)(t:TA):TE:=fun σ H Q=>t σ H fun vs H1=>sp (vs++dvs) H1 Q E
def Binds(K:zbY)(fd:FuncData)(ps:List Str)(ds:List Value):Prop:=
 ∀(s:Shared) (us:List Value),K.In s.heap->(us++ds).length=ps.length->BindsTo s fd ⟨us,[]⟩ (ps.zip (us++ds))
def Binds.all(h:∀us:List Value,us.length=ps.length->bindArgs fd ⟨us,[]⟩=pure (ps.zip us)):Binds K fd ps []:=fun s us _ hl=>by
 rw[zbq]at hl ⊢;exact .of_eq (h us hl)
def tR(CX:CXT)(X:Cx)(E:XK):Prop:=∀(ρ:List (Addr×Obj)) (σ:St) (H:Hp) (s:Shared) (e:Value) (s':Shared),Inv X ρ σ H s->CX X.stack H s E e s'->X.xe e s'
section
variable{dvs:List V}{ds:List Value}{E:XK}{m:Str}{μ:Pos}{o:Expr}{t:TA}
def GT{Q:VK}(F:FnOk X.prog X.w X.K X.mg X.base CX k f fd ps sp)(hr:Room k X.A)(hb:Binds X.K fd ps ds)(hd:Vals dvs ds)(hx:tR CX X E)
  (I:Inv X ρ σ H s) (r:Vals vs us) (h:sp (vs++dvs) H Q E):wpAny (model X.prog X.w) X.A (call (.ref f) us) (EP X ρ σ Q) X.xe s:=by
 have r2:Vals (vs++dvs) (us++ds):=r.append hd;have hl:(us++ds).length=ps.length:=by rw[<-r2.length];exact F.len _ _ _ _ h
 refine wpAny_call (codeAny_mono (F.run X.A X.stack s H ⟨us,[]⟩ (us++ds) (vs++dvs) Q E hr I.env0 (hb s us I.kIn hl) r2 h) fun r s' hq=>?_);cases r with
 |error e=>exact hx ρ σ H s e s' I hq
 |ok fl=>
  cases fl with
  |ret u=>exact I.after hq
  |next=>exact False.elim hq
  |brk=>exact False.elim hq
  |cont=>exact False.elim hq
def Da(F:FnOk X.prog X.w X.K X.mg X.base CX k f fd ps sp)(hr:Room k X.A)(hg:Gl X x)(hm:X.mg x=some (.ref f))(hk:PySem.W.keepIn X.K (.ref f)=true)(hb:Binds X.K fd ps ds)(hd:Vals dvs ds)(hx:tR CX X E)
  (ha:PA X (e::es) t) (hdb:(x==("__debug__":Str))=false:=by decide) (he:starEach (e::es) X.env=(false,eval e X.env)::starEach es X.env:=by rfl) (hpl:(backTo pos (starEach es X.env)).any (·.1)=false:=by rfl):
  PE X (.Call (.Name x p) (e::es) [] pos) (rD sp dvs E t):=by
 intro ρ s σ H Q I h;refine wpAny_Call_Name_kw (Dq I hg hm ?_ hdb);refine PySem.W.callWith_K (h₀:=X.base) I.ok.mod.kin hk (thn (ha pos ρ s σ H _ I h) fun us s1 ⟨vs,H1,I1,r,q⟩=>⟨I1.kIn,?_⟩) he hpl;exact GT F hr hb hd hx I1 r q
end
structure FnScope(N P:List Str)(sc:Scope):Prop where
 kind:sc.kind=.function
 co:sc.isCoroutine=false
 gen:sc.isGenerator=false
 nd:N.Nodup
 pre:N.take P.length=P
 par:∀x∈P,sc.names.lookup x=some .local\/sc.names.lookup x=some .cell
 nofree:∀y∈sc.names,y.2≠.free
theorem qQ{kindOf:Str->Option NameKind}{x:Str}:∀{binds:List (Str×Value)} {m:Str->Option Value},(∀v,(x,v)∉binds)->bindL kindOf binds m x=m x
 |[],_,_=>rfl
 | (n,v)::r,m,h=>by
  unfold bindL;rw[qQ fun w hw=>h w (zaj _ hw)];split
  ·have:x≠n:=by rintro rfl;exact h v zaq
   simp[this]
  ·rfl
theorem qS{kindOf:Str->Option NameKind}{x:Str}:∀{binds:List (Str×Value)} {m:Str->Option Value},(∀v,(x,v)∉binds)->bindC kindOf binds m x=m x
 |[],_,_=>rfl
 | (n,v)::r,m,h=>by
  unfold bindC;rw[qS fun w hw=>h w (zaj _ hw)];split
  ·rfl
  ·have:x≠n:=by rintro rfl;exact h v zaq
   simp[this]
theorem qR{kindOf:Str->Option NameKind}{x:Str}{v:Value}:∀{P:List Str} {vs:List Value} {i:Nat} {m:Str->Option Value},P.Nodup->P[i]?=some x->vs[i]?=some v->kindOf x=some .local ->
  bindL kindOf (P.zip vs) m x=some v
 |[],_,_,_,_,h,_,_=>by simp at h
 |_::_,[],_,_,_,_,h,_=>by simp at h
 |p::P,w::vs,0,m,nd,h1,h2,hk=>by
  simp at h1 h2;subst h1;subst h2;show bindL kindOf ((p,w)::P.zip vs) m p=_;unfold bindL;rw[qQ fun v hv=>(za9.mp nd).1 (List.of_mem_zip hv).1,if_pos hk];simp
 |p::P,w::vs,i+1,m,nd,h1,h2,hk=>by
  show bindL kindOf ((p,w)::P.zip vs) m x=_;unfold bindL;exact qR (i:=i) (za9.mp nd).2 (by simpa using h1) (by simpa using h2) hk
theorem qT{kindOf:Str->Option NameKind}{x:Str}{v:Value}:∀{P:List Str} {vs:List Value} {i:Nat} {m:Str->Option Value},P.Nodup->P[i]?=some x->vs[i]?=some v->kindOf x≠some .local ->
  bindC kindOf (P.zip vs) m x=some v
 |[],_,_,_,_,h,_,_=>by simp at h
 |_::_,[],_,_,_,_,h,_=>by simp at h
 |p::P,w::vs,0,m,nd,h1,h2,hk=>by
  simp at h1 h2;subst h1;subst h2;show bindC kindOf ((p,w)::P.zip vs) m p=_;unfold bindC;rw[qS fun v hv=>(za9.mp nd).1 (List.of_mem_zip hv).1,if_neg hk];simp
 |p::P,w::vs,i+1,m,nd,h1,h2,hk=>by
  show bindC kindOf ((p,w)::P.zip vs) m x=_;unfold bindC;exact qT (i:=i) (za9.mp nd).2 (by simpa using h1) (by simpa using h2) hk
def start(N:List Str)(vs:List V):St:=vs.map some++List.replicate (N.length-vs.length) none
def l9(CX:CXT)(P:Program)(w:World)(K:zbY)(mg:Str->Option Value)(base:Heap)(N:List Str)(qual:Str)(scope:Scope)(f:Addr)(cd:Value)(A:Around)(outer:List Env)(s:Shared)(H:Hp)(E:XK):Cx where
 prog:=P
 w:=w
 K:=K
 mg:=mg
 base:=base
 A:=A.deeper (envOfC qual scope s.heap.objs.size f cd)
 N:=N
 s₀:=s
 H₀:=H
 env:=envOfC qual scope s.heap.objs.size f cd
 outer:=outer
 stack:=envOfC qual scope s.heap.objs.size f cd::outer
 ex:=[]
 calm:=true
 fn:=fun _=>true
 pn:=[]
 xe:=fun e s'=>wpAny (model P w) (A.deeper (envOfC qual scope s.heap.objs.size f cd)) (leaving (envOfC qual scope s.heap.objs.size f cd) e) (fun _ s''=>CX outer H s E e s'') (fun e' s''=>CX outer H s E e' s'') s'
def tL{sc:Scope}(h:sc.names.lookup x=some .cell):∃c,(cellsFrom n sc.names []).lookup x=some c:=by
 have q:=PySem.W.cellsFrom_some sc.names n [] (.inl h);exact Option.isSome_iff_exists.mp q
def xD{base:Heap}{cd:Value}{outer:List Env}{s1:Shared}{E:XK} 
  (S:FnScope N ps scope) (hd:A.handled=none) (e0:Env0 P w K mg base A outer s H) (hl:vs.length=ps.length) (r:Vals vs us)
  (x:InCallC s s.heap.objs.size (bindL (envOfC qual scope s.heap.objs.size f cd).kindOf (ps.zip us) fun _=>none) (cellsFrom (s.heap.objs.size+1) scope.names []) (bindC (envOfC qual scope s.heap.objs.size f cd).kindOf (ps.zip us) fun _=>none) s1):
  Inv (l9 CX P w K mg base N qual scope f cd A outer s H E) [] (start N vs) H s1:=by
 have hpl:ps.length<=N.length:=by have:=congrArg List.length S.pre;rw[zaE]at this;omega
 obtain⟨h1,tk,rfl,hk⟩:=x.done;have noA:∀b:Addr,b∉(l9 CX P w K mg base N qual scope f cd A outer s H E).ex:=fun b z=>absurd (show b∈([]:List Addr)from z) (by simp);refine⟨⟨e0.mod,S.kind,rfl,rfl,zav _,fun y z c h1 h2=>?_,fun y hy=>?_,fun y c _ h=>?_,fun _=>hd,Around.frames_deeper e0.frames,.inr ⟨rfl,rfl⟩,fun b z=>absurd z (noA b),e0.bs,e0.bsz,fun b _ _=>noA b,fun b z=>absurd z (noA b),e0.funs,e0.frf⟩,
  rfl,e0.bare,Un.kept hk,⟨_,x.toInCall.ns,fun i y v h1 h2 h3=>?_⟩,fun y c h=>⟨_,x.cell y c h⟩,e0.hok.fresh (zav _),fun y c h=>?_,fun p hp=>absurd (show p∈([]:List (Addr×Obj))from hp) (by simp),e0.hok.kept hk,?_⟩
 ·exact name_of_addr x.apart (zaT h1) (zaT h2)
 ·have hy:scope.names.lookup y=some .cell\/scope.names.lookup y=some .free:=hy;rcases hy with hy|hy
  ·exact tL hy
  ·exact absurd rfl (S.nofree _ (zaT hy))
 ·exact Nat.le_of_lt (x.above y c (zaT h))
 ·have hi:i<vs.length:=by
   unfold start at h2;by_cases hi:i<vs.length
   ·exact hi
   ·rw[zbI (by simpa using hi)]at h2;rw[List.getElem?_replicate]at h2;split at h2<;>cases h2
  have ha:vs[i]?=some v:=by
   unfold start at h2;rw[zaR (by simpa using hi),zao]at h2;cases e:vs[i]? with
   |none=>rw[e]at h2;cases h2
   |some a=>rw[e]at h2;cases h2;rfl
  obtain⟨u,hu,rv⟩:=r.get ha;have hp:ps[i]?=some y:=by
   rw[<-S.pre,List.getElem?_take_of_lt (by omega)];exact h1
  have ndP:ps.Nodup:=by rw[<-S.pre];exact S.nd.sublist (List.take_sublist _ _)
  refine⟨u,rv,?_⟩;rcases S.par y (zaW hp)with k|k
  ·exact .inl ⟨k,qR ndP hp hu k⟩
  ·obtain⟨c,e⟩:=tL (n:=s.heap.objs.size+1) k;refine .inr ⟨.inl k,c,e,?_⟩;have q:=x.cell y c e;rw[qT ndP hp hu (by show scope.names.lookup y≠_;rw[k];decide)]at q;exact q
 ·exact e0.hok.fresh (Nat.le_of_lt (x.above y c (zaT h)))
 ·unfold start;show _=N.length;rw[zae,zad,zaM];omega
def J9{base:Heap}{name:Str}{params:Arguments}{dV kV doc pm cdv ct oc:Value}{an od:Option Addr}
  {osl:Array (Option Value)}  (lk:K.lookup f=some ⟨oc,od,.func (PySem.W.fnOf name qual params body scope dV kV doc pm an cdv ct),osl⟩) (hcd:PySem.W.codeIn K cdv qual=true) (S:FnScope N ps scope)
  (len:∀vs H Q E,sp vs H Q E->vs.length=ps.length)
  (hbody:∀(A:Around) (outer:List Env) (s:Shared) (H:Hp) (vs:List V) (Q:VK) (E:XK),Room k (A.deeper (envOfC qual scope s.heap.objs.size f cdv))->sp vs H Q E ->
   ∃t,PSs (l9 CX P w K mg base N qual scope f cdv A outer s H E) body t/\t { nx:=fun _ H'=>Q .non H',rt:=Q } (start N vs) H):
  FnOk P w K mg base CX (k+1) f (PySem.W.fnOf name qual params body scope dV kV doc pm an cdv ct) ps sp:=by
 refine⟨len,fun A outer s H args us vs Q E hr e0 hb r hsp=>?_⟩;have hl:=len _ _ _ _ hsp;have KX:K.In s.heap:=e0.mod.kin.keeps fun b o e=>(e0.bs b o e).1;have lim:s.heap.NoLimit:=e0.mod.nolimit.keeps fun b o e=>(e0.bs b o e).1;have hkind:∀y∈ps.zip us,scope.names.lookup y.1=some .local\/(scope.names.lookup y.1=some .cell/\((cellsFrom (s.heap.objs.size+1) scope.names []).lookup y.1).isSome=true):=fun⟨n,v⟩ hy=>by
  rcases S.par n (List.of_mem_zip hy).1 with q|q
  ·exact .inl q
  ·exact .inr ⟨q,PySem.W.cellsFrom_some _ _ _ (.inl q)⟩
 refine codeAny_call_function hr.depth (KX _ _ lk) rfl S.co S.gen rfl (PySem.W.codeRec_of KX hcd) (hb _ _ _ _ ?_);refine wpAny_newFunctionEnv_cells S.kind hkind fun env he s1 x=>?_;subst he;refine⟨lim.keeps x.toInCall.keep,codeAny_func ?_⟩;obtain⟨t,ht,hq⟩:=hbody A outer s H vs Q E (hr.deeper _) hsp;have I:Inv (l9 CX P w K mg base N qual scope f cdv A outer s H E) [] (start N vs) H s1:=xD S hr.hd e0 hl r x;refine wpAny_mono (ht [] s1 (start N vs) H _ I hq) (fun fl s' hs=>?_) fun e s' hs=>hs;have fin:∀{σ':St} {H':Hp} {v:V} {u:Value},Inv (l9 CX P w K mg base N qual scope f cdv A outer s H E) [] σ' H' s'->RelV v u->Q v H'->CE outer P w H s Q u s':=
  fun {σ' H' v u} J rv q=>⟨v,H',J.os,J.bare,J.base,J.hok,rv,q⟩
 cases fl with
 |ret u=>
  obtain⟨v,σ',H',J,rv,q⟩:=hs;exact fin J rv q
 |next=>
  obtain⟨σ',H',J,q⟩:=hs;exact fin (v:=V.non) (u:=Value.none) J rfl q
 |brk=>
  obtain⟨_,_,_,q⟩:=hs;exact False.elim q
 |cont=>
  obtain⟨_,_,_,q⟩:=hs;exact False.elim q
section
variable{t:TA}{id T:String}{r:List V->Hp->VK->Prop}
def tCB(r:List V->Hp->VK->Prop)(t:TA):TE:=fun σ H Q=>t σ H fun vs H1=>r vs H1 Q
def nV(hc:CallR X (.builtin id) r)(hg:Gl X x)(hm:X.mg x=none)(hv:bootBuiltins x=some (.builtin id))(ha:PA X (e::es) t)(hn:x≠"__name__":=by decide)(hdb:(x==("__debug__":Str))=false:=by decide)
  (he:starEach (e::es) X.env=(false,eval e X.env)::starEach es X.env:=by rfl) (hpl:(backTo pos (starEach es X.env)).any (·.1)=false:=by rfl):PE X (.Call (.Name x p) (e::es) [] pos) (tCB r t):=by
 intro ρ s σ H Q I h;refine wpAny_Call_Name_kw (ie I hg hm hv ?_ hn hdb);exact PyProof.Rows.callWith_builtin1 (thn (ha pos ρ s σ H _ I h) fun us s1 ⟨vs,H1,I1,r1,q1⟩=>hc ρ s1 σ H1 vs us Q I1 r1 q1) he hpl
def qE(hc:CallR X (.type T) r)(hg:Gl X x)(hm:X.mg x=none)(hv:bootBuiltins x=some (.type T))(ha:PA X (e::es) t)(hn:x≠"__name__":=by decide)(hdb:(x==("__debug__":Str))=false:=by decide)
  (he:starEach (e::es) X.env=(false,eval e X.env)::starEach es X.env:=by rfl) (hpl:(backTo pos (starEach es X.env)).any (·.1)=false:=by rfl):PE X (.Call (.Name x p) (e::es) [] pos) (tCB r t):=by
 intro ρ s σ H Q I h;refine wpAny_Call_Name_kw (ie I hg hm hv ?_ hn hdb);exact PyProof.Rows.callWith_type1 (thn (ha pos ρ s σ H _ I h) fun us s1 ⟨vs,H1,I1,r1,q1⟩=>hc ρ s1 σ H1 vs us Q I1 r1 q1) he hpl
end
end L2
namespace HT
open PySem PyProof.Rows
section
open PySem.SeqAt
open PySem.AutoSeq1 (wpAny_loadPart')
open PySem.MeetsSeq PySem.MeetsSeq2 PySem.MeetsSeq3
end
section
variable{prog:Program}{w:World}{A:Around}{E:Value->Shared->Prop}{s:Shared}
def sIx(n d:Nat):Option Int->Nat
 |none=>d
 |some v=>if v<0 then(v+(n:Int)).toNat else min v.toNat n
end
end HT
namespace L2
variable{X:Cx}{e:Expr}{pos:Pos}{n t':Nat}{i:Int}{r:R2}{ρ:List (Addr×Obj)}{σ:St}{H:Hp}{s:Shared}{xs ys:List V}{its its' us:List Value}{T:String}{x:V}
open PySem PySem.Spec PyProof.Rows
abbrev TO:=St->Hp->(Option Int->Hp->Prop)->Prop
def v9{ns:List Int}:∀{us:List Value},Vals (ns.map V.int) us->IntsAre us ns:=by
 induction ns with
 |nil=>intro us r;rw[zaZ]at r;cases r;exact .nil
 |cons n ns ih=>
  intro us r;rw[zar]at r;cases r with
  |cons r1 r2=>
   obtain⟨t,e⟩:=r1;subst e;exact .cons n t (ih r2)
section
variable{te:TE}{lo hi:Option Expr}{tl th:TO}{p2:Pos}
def SlR(X:Cx)(r:V->Option Int->Option Int->Hp->VK->Prop):Prop:=
 ∀(ρ:List (Addr×Obj)) (s:Shared) (σ:St) (H:Hp) (x:V) (v vl vu:Value) (lo hi:Option Int) (sl:Addr) (Q:VK),Inv X ρ σ H s->RelV x v->s.heap.IsSliceOf sl vl vu .none->IsPart vl lo->IsPart vu hi->r x lo hi H Q ->
  ∃T id,typeLookup (.type T) "__getitem__"=pure (some (.builtin id))/\s.TypeIs v T/\wpAny (model X.prog X.w) X.A (getItem v (.ref sl)) (EP X ρ σ Q) X.xe s
def wt(xs:List V)(lo hi:Option Int):List V:=(xs.drop (HT.sIx xs.length 0 lo)).take (HT.sIx xs.length xs.length hi-HT.sIx xs.length 0 lo)
end
def ixN(n:Nat)(i:Int):Option Nat:=if 0<=i then(if i<n then some i.toNat else none)else if -(n:Int)<=i then some (i+n).toNat else none
def atI{α:Type}(xs:List α)(i:Int):Option α:=(ixN xs.length i).bind fun j=>xs[j]?
def uV{j:Nat}(h:ixN n i=some j):seqIndex? i n=some j/\j<n/\-(n:Int)<=i/\i<n:=by
 unfold ixN at h;by_cases h0:0<=i
 ·rw[if_pos h0]at h;by_cases h1:i<n
  ·rw[if_pos h1]at h;have e:i.toNat=j:=zat h;exact⟨by rw[seqIndex_of h0 h1,e],by omega,by omega,h1⟩
  ·rw[if_neg h1]at h;cases h
 ·rw[if_neg h0]at h;by_cases h1:-(n:Int)<=i
  ·rw[if_pos h1]at h;have e:(i+n).toNat=j:=zat h;exact⟨by rw[seqIndex_neg (by omega) h1,e],by omega,h1,by omega⟩
  ·rw[if_neg h1]at h;cases h
def qo{α:Type}{xs:List α}{v:α}(h:atI xs i=some v):∃j,seqIndex? i xs.length=some j/\xs[j]?=some v/\j<xs.length/\-(xs.length:Int)<=i/\i<xs.length:=by
 unfold atI at h;cases e:ixN xs.length i with
 |none=>rw[e]at h;cases h
 |some j=>
  rw[e]at h;obtain⟨h1,h2,h3,h4⟩:=uV e;exact⟨j,h1,h,h2,h3,h4⟩
def gO(b:Expr):Prop:=∀o i,subscripted b false o i=operate [o,i] (getItem o i)
def IxR(X:Cx)(r:R2):Prop:=
 ∀(value slice:Expr) (ρ:List (Addr×Obj)) (s:Shared) (σ:St) (H:Hp) (x y:V) (v u:Value) (Q:VK),Inv X ρ σ H s->RelV x v->RelV y u->r x y H Q ->
  subscripted slice false v u=operate [v,u] (getItem v u)->wpAny (model X.prog X.w) X.A (subscriptTail value slice v u) (EP X ρ σ Q) X.xe s
def MtR(X:Cx)(id:String)(r:V->List V->Hp->VK->Prop):Prop:=
 ∀(ρ:List (Addr×Obj)) (s:Shared) (σ:St) (H:Hp) (x:V) (xs:List V) (v:Value) (us:List Value) (Q:VK),Inv X ρ σ H s->RelV x v->Vals xs us->r x xs H Q ->
  wpAny (model X.prog X.w) X.A (call (.builtin id) (v::us)) (EP X ρ σ Q) X.xe s
section
variable{a b:Expr}{ta tb:TE} 
def IxR.or{r':R2}(h:IxR X r)(h':IxR X r'):IxR X (fun x y H Q=>r x y H Q\/r' x y H Q):=by
 intro value slice ρ s σ H x y v u Q I rx ry q hs;rcases q with q|q
 ·exact h value slice ρ s σ H x y v u Q I rx ry q hs
 ·exact h' value slice ρ s σ H x y v u Q I rx ry q hs
def vF(hr:IxR X r)(ha:PE X a ta)(hb:PE X b tb)(hs:gO b):PE X (.Subscript a b pos) (tOp r ta tb):=by
 intro ρ s σ H Q I h;exact Subscript_ (Ae ha hb I h fun v u s2 x y H2 I2 rx ry q=>hr a b ρ s2 σ H2 x y v u Q I2 rx ry q (hs _ _))
def vE(K:zbY):R2:=fun x y H Q=>∃p xs i v,x=.ref p/\y=.int i/\SqL K H p xs/\atI xs i=some v/\Q v H
def GV(K:zbY):R2:=fun x y H Q=>∃p xs i v,x=.ref p/\y=.int i/\SqT K H p xs/\atI xs i=some v/\Q v H
def GW:R2:=fun x y H Q=>∃z i c,x=.str z/\y=.int i/\z.length<=sizeLine/\atI z.cps.toList i=some c/\Q (.str ⟨#[c]⟩) H
def ix_list:IxR X (vE X.K):=by
 intro value slice ρ s σ H x y v u Q I rx ry h hs;obtain⟨p,xs,i,z,rfl,rfl,hq,he,q⟩:=h;cases rx;obtain⟨t,rfl⟩:=ry;obtain⟨its,r,pl,hz⟩:=I.list hq;obtain⟨j,h1,h2,h3,h4,h5⟩:=qo he;obtain⟨w,ew,rw'⟩:=r.get h2;have hl:=r.length;have hn:=jS;have fin:EP X ρ σ Q w s:=⟨z,H,I,rw',q⟩;by_cases h0:0<=i
 ·have hj:i.toNat=j:=by
   rw[seqIndex_of h0 h5]at h1;exact zat h1
  exact item_listR pl.isList h0 (by omega) (by rw[hj];simpa using ew) fin hs
 ·have hj:(i+(its.toArray.size:Int)).toNat=j:=by
   rw[seqIndex_neg (by omega) h4]at h1;rw[zai,<-hl];exact zat h1
  exact subscriptTail_builtinR (x:=w) pl.isList.typeIs slot_list_getitem.lookup
   (wpAny_getItem_list_neg (Q:=fun r s'=>r=w/\EP X ρ σ Q r s') pl.isList (by omega) (by rw[zai]<;>omega) (by omega) (by rw[hj];simpa using ew) ⟨rfl,fin⟩) hs
def ix_tup:IxR X (GV X.K):=by
 intro value slice ρ s σ H x y v u Q I rx ry h hs;obtain⟨p,xs,i,z,rfl,rfl,hq,he,q⟩:=h;cases rx;obtain⟨t,rfl⟩:=ry;obtain⟨its,r,pl,hz⟩:=I.tuple hq;obtain⟨j,h1,h2,h3,h4,h5⟩:=qo he;obtain⟨w,ew,rw'⟩:=r.get h2;have hl:=r.length;have hn:=jS;have fin:EP X ρ σ Q w s:=⟨z,H,I,rw',q⟩;exact subscriptTail_builtinR (x:=w) pl.typeIs slot_tuple_getitem.lookup
  (getItem_tuple (j:=j) (Q:=fun r s'=>r=w/\EP X ρ σ Q r s') pl (by omega) (by omega) (by rw[zai,<-hl];exact h1) (by simpa using ew) ⟨rfl,fin⟩) hs
def HM:IxR X GW:=by
 intro value slice ρ s σ H x y v u Q I rx ry h hs;obtain⟨z,i,c,rfl,rfl,hz,he,q⟩:=h;obtain⟨t,rfl⟩:=rx;obtain⟨t',rfl⟩:=ry;obtain⟨j,h1,h2,h3,h4,h5⟩:=qo he;have hl:z.cps.toList.length=z.length:=by simp[Str.length]
 rw[hl]at h1 h4 h5;have hn:=jS;exact tail_any (typeIs_str s z t) slot_str_getitem.lookup (getItem_str (c:=c) (by
  have e1:decide (i < -(2 ^ 63:Int))=false:=zaA (by omega);have e2:decide (i >= 2 ^ 63)=false:=zaA (by omega);rw[e1,e2,Bool.or_false]) (by rw[h1];simpa using h2) ⟨.str ⟨#[c]⟩,H,I.tok _,⟨_,rfl⟩,q⟩) hs
def rIx(K:zbY):R2:=fun x y H Q=>vE K x y H Q\/GV K x y H Q\/GW x y H Q
def ix_seq:IxR X (rIx X.K):=ix_list.or (ix_tup.or HM)
def vQ(its:List Value)(n j:Nat)(u:Value):Obj.mapSeq (·.setIfInBounds j u) { cls:=.type "list",data:=.seq its.toArray n }={ cls:=.type "list",data:=.seq (its.set j u).toArray n }:=by
 simp[Obj.mapSeq]
def Inv.lst{ρ:List (Addr×Obj)}{σ:St}{H:Hp}{s:Shared}{p:Addr}{xs:List V}(I:Inv X ρ σ H s)(h:H p=some (.lst xs)):
  ∃(its:List Value) (n:Nat),Vals xs its/\s.heap.get? p=some { cls:=.type "list",data:=.seq its.toArray n }/\xs.length<=sizeLine:=by
 obtain⟨z,its,n,r,e⟩:=I.hok p _ h;exact⟨its,n,r,e,z⟩
def Inv.lstUpd{p:Addr}{n':Nat}{f:Obj->Obj}(I:Inv X ρ σ H s)(h:H p=some (.lst xs))
  (ho:s.heap.get? p=some { cls:=.type "list",data:=.seq its.toArray n }) (hf:f { cls:=.type "list",data:=.seq its.toArray n }={ cls:=.type "list",data:=.seq its'.toArray n' }) (r:Vals ys its') (hz:ys.length<=sizeLine) (t:Nat):
  Inv X ρ σ (upd H p (.lst ys)) { s with heap:=s.heap.update p f,toks:=t }:=by
 have e:(s.heap.update p f).get? p=some { cls:=.type "list",data:=.seq its'.toArray n' }:=by
  rw[Heap.get?_update_self f ho (by rw[hf]<;>rfl),hf]
 refine I.write (x:=p) (e:=p) (by rw[h];trivial) (.inl rfl) (fun b u hb q=>(Heap.get?_update_other _ _ (Ne.symm hb)).trans q) ⟨_,e⟩ ?_;exact⟨hz,its',n',r,e⟩
def Cm:V->V->V->Hp->(Hp->Prop)->Prop:=fun o i v H Q=>∃p xs k j,o=.ref p/\i=.int k/\H p=some (.lst xs)/\ixN xs.length k=some j/\Q (upd H p (.lst (xs.set j v)))
def yF:Jm X Cm:=by
 intro ρ s σ H o i v ov iv u Q I ro ri rv h;obtain⟨p,xs,k,j,rfl,rfl,hp,hj,q⟩:=h;cases ro;obtain⟨t,rfl⟩:=ri;obtain⟨its,n,r,ho,hz⟩:=I.lst hp;obtain⟨h1,h2,h3,h4⟩:=uV hj;have hl:=r.length;have hn:=jS;have I':Inv X ρ σ (upd H p (.lst (xs.set j v))) { s with heap:=s.heap.update p (Obj.mapSeq (·.setIfInBounds j u)) }:=
  I.lstUpd hp ho (vQ its n j u) (r.set rv j) (by rw[zaU];exact hz) s.toks
 by_cases h0:0<=k
 ·have hk:k.toNat=j:=by
   rw[seqIndex_of h0 h4]at h1;exact zat h1
  exact PySem.W.ki_setAt ho h0 (by omega) (by rw[zai,<-hl];exact h4) (by rw[hk];exact⟨_,I',q⟩)
 ·have hk:(k+(its.toArray.size:Int)).toNat=j:=by
   rw[seqIndex_neg (by omega) h3]at h1;rw[zai,<-hl];exact zat h1
  exact PySem.W.ki_setBack ho (by omega) (by rw[zai,<-hl];exact h3) (by omega) (by rw[hk];exact⟨_,I',q⟩)
def KR(K:zbY):V->Option Int->Option Int->Hp->VK->Prop:=fun x lo hi H Q=>∃a xs,x=.ref a/\SqL K H a xs/\∀p,H p=none->Q (.ref p) (upd H p (.lst (wt xs lo hi)))
def eqV:V->V->Bool
 |.non,.non=>true
 |.bl a,.bl b=>a==b
 |.bl a,.int b=>(if a then 1 else 0)==b
 |.int a,.bl b=>a==(if b then 1 else 0)
 |.int a,.int b=>a==b
 |.str a,.str b=>a==b
 |_,_=>false
def eqU(x:V)(u:Value):Bool:=match u with
 |.none=>eqV .non x
 |.bool b=>eqV (.bl b) x
 |.int i _=>eqV (.int i) x
 |.str z _=>eqV (.str z) x
 |_=>false
def tN:CallR X (.type "list") (fun xs H Q=>∃p ys,xs=[.ref p]/\(SqL X.K H p ys\/SqT X.K H p ys)/\∀l,H l=none->Q (.ref l) (upd H l (.lst ys))):=by
 intro ρ s σ H xs us Q I r h;obtain⟨p,ys,rfl,hq,q⟩:=h;obtain⟨u,rfl,rx⟩:=eg r;cases rx;have fin:∀(its:List Value),Vals ys its->ys.length<=sizeLine->∀(h':Heap) (c':Nat),(∀b o',s.heap.get? b=some o'->h'.get? b=some o') ->
   h'.get? s.heap.objs.size=some { cls:=.type "list",dict:=none,data:=.seq its.toArray c',slots:=#[] }->EP X ρ σ Q (.ref s.heap.objs.size) { s with heap:=h' }:=fun its r' hz h' c' kp e=>
  ⟨.ref s.heap.objs.size,_,I.laid (t':=s.toks) kp (zav _) (show ObjOk X.prog X.w _ h' _ (.lst ys)from⟨hz,its,c',r',e⟩),rfl,q _ (I.hok.fresh (zav _))⟩
 rcases hq with hq|hq
 ·obtain⟨its,r',pl,hz⟩:=I.list hq;have ξ:=r'.length;obtain⟨o,ho,hc,n,hd⟩:=pl.isList;exact call_list_seq p (.inl rfl) ho hc hd (fun h' c' kp e=>fin its r' hz h' c' kp e) (by simp only[zai]<;>omega)
 ·obtain⟨its,r',pl,hz⟩:=I.tuple hq;have ξ:=r'.length;obtain⟨o,ho,hc,n,hd⟩:=pl;exact call_list_seq p (.inr rfl) ho hc hd (fun h' c' kp e=>fin its r' hz h' c' kp e) (by simp only[zai]<;>omega)
def tyV(K:zbY)(T:String)(x:V)(H:Hp):Prop:=match x with
 |.str _=>T="str"
 |.int _=>T="int"
 |.ref p=>(T="list"/\∃xs,SqL K H p xs)\/(T="tuple"/\∃o,K.lookup p=some o/\o.cls=.type "tuple"/\o.dict=none) \/
   (T="dict"/\((∃kvs,H p=some (.dK kvs))\/∃kvs,H p=some (.dT kvs)))\/(T="set"/\∃S n,H p=some (.set S n))
 |_=>False
def wI{v:Value}(I:Inv X ρ σ H s)(r:RelV x v)(ty:tyV X.K T x H):
  s.TypeIs v T/\∀a,v=.ref a->∃ob,s.heap.get? a=some ob/\ob.dict=none:=by
 cases x with
 |str z=>
  obtain⟨t,rfl⟩:=r;cases(show T="str" from ty);exact⟨typeIs_str s z t,fun _ e=>nomatch e⟩
 |int i=>
  obtain⟨t,rfl⟩:=r;cases(show T="int" from ty);exact⟨typeIs_int s i t,fun _ e=>nomatch e⟩
 |ref p=>
  cases r;rcases ty with⟨rfl,xs,hq⟩|⟨rfl,o,hk,hc,hd⟩|⟨rfl,hk⟩|⟨rfl,S,n,hk⟩
  ·obtain⟨its,_,pl,_⟩:=I.list hq;refine⟨pl.isList.typeIs,fun a e=>?_⟩;cases e;obtain⟨o,n,e,c,hd,_⟩:=pl;exact⟨o,e,hd⟩
  ·refine⟨⟨o,I.kIn p o hk,hc⟩,fun a e=>?_⟩;cases e;exact⟨o,I.kIn _ o hk,hd⟩
  ·have z:∃o,s.heap.get? p=some o/\o.ExactDict:=by
    rcases hk with⟨kvs,hk⟩|⟨kvs,hk⟩
    ·obtain⟨_,_,_,_,o,_,_,e,ex,_⟩:=I.hok p _ hk;exact⟨o,e,ex⟩
    ·obtain⟨_,_,_,_,o,_,_,e,ex,_⟩:=I.hok p _ hk;exact⟨o,e,ex⟩
   obtain⟨o,e,ex⟩:=z;refine⟨⟨o,e,ex.1⟩,fun a e2=>?_⟩;cases e2;exact⟨o,e,ex.2.1⟩
  ·obtain⟨o,_,_,_,e,ex,_⟩:=I.hok p _ hk;refine⟨⟨o,e,ex.1⟩,fun a e2=>?_⟩;cases e2;exact⟨o,e,ex.2.1⟩
 |_=>exact False.elim ty
def GO(K:zbY)(T:String)(r:V->List V->Hp->VK->Prop)(to:TE):TE:=fun σ H Q=>to σ H fun x H1=>tyV K T x H1/\r x [] H1 Q
def tBM(K:zbY)(T:String)(r:V->List V->Hp->VK->Prop)(to:TE)(t:TA):TE:=fun σ H Q=>to σ H fun x H1=>tyV K T x H1/\t σ H1 fun xs H2=>r x xs H2 Q
variable{o:Expr}{es:List Expr}{to:TE}{t:TA}{name:Str}{μ ω:Pos}{id:String}{r:V->List V->Hp->VK->Prop}
def Hg(pa:PlainAttrs T)(slot:Slot T name id)(hty:typeOf (.builtin id)=pure (.type "method_descriptor"))(hm:MtR X id r)(ho:PE X o to)
  (η:attributeBase o name X.env (eval o X.env)=eval o X.env:=by rfl) (θ:(μ.endLine==ω.line)=true:=by rfl):PE X (.Call (.Attribute o name μ) [] [] ω) (GO X.K T r to):=by
 intro ρ s σ H Q I h;refine wpAny_Call_method0_late η θ (thn (ho ρ s σ H _ I h) fun v s1 ⟨x,H1,I1,r1,ty,q1⟩=>?_);obtain⟨h1,h2⟩:=wI I1 r1 ty;exact⟨T,id,pa,slot,hty,h1,h2,Calls.callWith_builtin rfl (PySem.evalArgs_none (hm ρ s1 σ H1 x [] v [] Q I1 r1 .nil q1))⟩
def rF(pa:PlainAttrs T)(slot:Slot T name id)(hty:typeOf (.builtin id)=pure (.type "method_descriptor"))(hm:MtR X id r)(ho:PE X o to)(ha:PA X (e::es) t)
  (η:attributeBase o name X.env (eval o X.env)=eval o X.env:=by rfl)
  (x':((backTo ω (starEach (e::es) X.env)).all (fun x=>!x.1)&&(backToKw ω (keywordEach [] X.env)).all (fun x=>x.1.isSome)
  &&decide ((e::es).length+([]:List Keyword).length+(if([]:List Keyword).isEmpty then 0 else 1)<30))=true:=by rfl)
  (θ:(μ.endLine==ω.line)=true:=by rfl) (hs:starEach (e::es) X.env=(false,eval e X.env)::starEach es X.env:=by rfl) (ι:(backTo ω (starEach es X.env)).any (·.1)=false:=by rfl):
  PE X (.Call (.Attribute o name μ) (e::es) [] ω) (tBM X.K T r to t):=by
 intro ρ s σ H Q I h;refine wpAny_Call_method_late η x' θ rfl (thn (ho ρ s σ H _ I h) fun v s1 ⟨x,H1,I1,r1,ty,q1⟩=>?_);obtain⟨h1,h2⟩:=wI I1 r1 ty;refine⟨T,id,pa,slot,hty,h1,h2,?_⟩;have hA:=ha ω ρ s1 σ H1 _ I1 q1;rw[hs]at hA ⊢;refine Calls.callWith_builtin (by show(false || (backTo ω (starEach es X.env)).any (·.1))=false;rw[ι]<;>rfl) (Calls.evalArgs_plain ?_);exact thn hA fun us s2 ⟨vs,H2,I2,r2,q2⟩=>hm ρ s2 σ H2 x vs v us Q I2 r1 r2 q2
end
def MtM(X:Cx)(id:String)(r:V->List V->Hp->VK->Prop):Prop:=
 ∀(ρ:List (Addr×Obj)) (s:Shared) (σ:St) (H:Hp) (x:V) (xs:List V) (v:Value) (us:List Value) (Q:VK),Inv X ρ σ H s->RelV x v->Vals xs us->r x xs H Q ->
  wpAny (model X.prog X.w) X.A (call (.builtin id) (v::us)) (EP X ρ σ Q) X.xe s
def Vals.one:∀{x:V} {us:List Value},Vals [x] us->∃u,us=[u]/\RelV x u
 |_,_,.cons r .nil=>⟨_,rfl,r⟩
def Vals.two{y:V}(h:Vals [x,y] us):∃u v,us=[u,v]/\RelV x u/\RelV y v:=by
 cases h with
 |cons r t=>
  cases t with
  |cons q n=>
   cases n;exact⟨_,_,rfl,r,q⟩
def Vals.zero:∀{us:List Value},Vals [] us->us=[]
 |_,.nil=>rfl
theorem Vals.dropLast(h:Vals xs us):Vals xs.dropLast us.dropLast:=by
 induction h with
 |nil=>exact .nil
 |cons r t ih=>
  cases t with
  |nil=>exact .nil
  |cons q t'=>exact .cons r ih
theorem Vals.rep{xs:List V}{us:List Value}(h:Vals xs us):∀k:Nat,Vals (List.replicate k xs).flatten (List.replicate k us).flatten
 |0=>.nil
 |k+1=>by
  rw[List.replicate_succ,List.replicate_succ,List.flatten_cons,List.flatten_cons];exact Vals.append h (Vals.rep h k)
def kQ{α:Type}(l:List α):l.eraseIdx (l.length-1)=l.dropLast:=by
 induction l with
 |nil=>rfl
 |cons a r ih=>
  cases r with
  |nil=>rfl
  |cons b r=>
   have e:(a::b::r).length-1=((b::r).length-1)+1:=by
    have h1:(a::b::r).length=r.length+2:=rfl;have h2:(b::r).length=r.length+1:=rfl;omega
   rw[e,List.eraseIdx_cons_succ,ih]
   all_goals rfl
section
variable{l b:Addr}{zs:List V}
def Inv.lset{f:Array Value->Array Value}(I:Inv X ρ σ H s)(hH:H l=some (.lst xs))
  (e:s.heap.get? l=some { cls:=.type "list",data:=.seq its.toArray n }) (hf:f its.toArray=its'.toArray) (hv:Vals ys its') (hz:ys.length<=sizeLine):
  Inv X ρ σ (upd H l (.lst ys)) { s with heap:=s.heap.update l (Obj.mapSeq f),toks:=t' }:=by
 have q:=PySem.IsL.update e f;rw[hf]at q;refine I.write (x:=l) (e:=l) (by rw[hH];exact trivial) (.inl rfl) (fun b' u hb hu=>(Heap.get?_update_other s.heap (Obj.mapSeq f) (Ne.symm hb)).trans hu) ⟨_,q⟩ ?_;exact⟨hz,its',_,hv,q⟩
def Inv.lnew(I:Inv X ρ σ H s)(hv:Vals ys its)(hz:ys.length<=sizeLine):
  Inv X ρ σ (upd H s.heap.objs.size (.lst ys)) { s with heap:=s.heap.push { cls:=.type "list",data:=.seq its.toArray },toks:=t' }:=
 I.laid (fun _ _ q=>zaf _ q) (zav _) ⟨hz,its,0,hv,zan _ rfl⟩
def Inv.fresh(I:Inv X ρ σ H s):H s.heap.objs.size=none:=I.hok.fresh (zav _)
def Inv.lstM(I:Inv X ρ σ H s)(hH:H l=some (.lst xs)):xs.length<=sizeLine/\∃(its:List Value) (n:Nat),Vals xs its/\xs.length=its.length/\s.heap.get? l=some { cls:=.type "list",data:=.seq its.toArray n }:=by
 obtain⟨z,its,n,r,e⟩:=I.hok l _ hH;exact⟨z,its,n,r,r.length,e⟩
def yW(h:n<=sizeLine):Builtin.List.listTooLong n=false:=by
 unfold Builtin.List.listTooLong;exact zaA (by omega)
end
def jQ:V->List V->Hp->VK->Prop:=fun x vs H Q=>∃l xs y,x=.ref l/\vs=[y]/\H l=some (.lst xs)/\xs.length<sizeLine/\Q .non (upd H l (.lst (xs++[y])))
def jr:MtM X "list.append" jQ:=by
 intro ρ s σ H x vs v us Q I rx rv h;obtain⟨l,xs,y,rfl,rfl,hH,hz,q⟩:=h;cases rx;obtain⟨u,rfl,ru⟩:=rv.one;obtain⟨z,its,n,r,hl,e⟩:=I.lstM hH;refine call_meets F.slot_list_append ⟨_,e,rfl⟩ F.entry_list_append (F.args_list_append_2 _ _) (PySem.list_append l its.toArray n u (by rw[zai];omega)) ⟨e,?_⟩;refine⟨.non,_,I.lset (its':=its++[u]) hH e (by simp) (r.append (.cons ru .nil)) ?_,rfl,q⟩;rw[zae,List.length_singleton];omega
def GU:V->List V->Hp->VK->Prop:=fun x vs H Q=>∃l xs y,x=.ref l/\vs=[]/\H l=some (.lst xs)/\xs[xs.length-1]?=some y/\Q y (upd H l (.lst xs.dropLast))
def Hq:MtM X "list.pop" GU:=by
 intro ρ s σ H x vs v us Q I rx rv h;obtain⟨l,xs,y,rfl,rfl,hH,hy,q⟩:=h;cases rx;have hus:=rv.zero;subst hus;obtain⟨z,its,n,r,hl,e⟩:=I.lstM hH;obtain⟨u,hu,ru⟩:=r.get hy;have hy':its.toArray[its.toArray.size-1]?=some u:=by
  show its.toArray[its.length-1]?=some u;rw[<-Array.getElem?_toList,<-hl];exact hu
 refine call_meets F.slot_list_pop ⟨_,e,rfl⟩ F.entry_list_pop (F.args_list_pop_1 _) (MeetsSeq.list_pop_last l its.toArray n u hy' (by rw[zai];omega)) ⟨e,?_⟩;refine⟨y,_,I.lset (its':=its.dropLast) hH e ?_ r.dropLast ?_,ru,q⟩
 ·show its.toArray.eraseIdxIfInBounds (its.toArray.size-1)=its.dropLast.toArray;rw[zai,List.eraseIdxIfInBounds_toArray,kQ]
 ·rw[List.length_dropLast];omega
def Do{α:Type}(xs:List α)(k:Nat):(List.replicate k xs).flatten.length=k*xs.length:=by
 induction k with
 |zero=>simp
 |succ k ih=>rw[List.replicate_succ,List.flatten_cons,zae,ih,Nat.succ_mul,Nat.add_comm]
end L2
namespace Att
variable{P:Params}{h:Heap}{l:OpenLaw}{n:Nat}
open PySem PySem.W PySem.Calls PyProof.Rows
def oT:∀(ns:List Int) (vs:List Value),WellAll P h vs (ns.map WData.int)->IntsAre vs ns:=by
 intro ns
 induction ns with
 |nil=>
  intro vs w;rw[zaZ]at w;cases w;exact .nil
 |cons n ns ih=>
  intro vs w;rw[zar]at w;cases w with
  |cons a b=>
   cases a;exact .cons _ _ (ih _ b)
def wU(hn:l.most=some n){args:List WData}{vals:List Value}
  (hpre:l.row.toRowW.claim.pre args=true) (hwl:WellAll P h vals args):
  ∃a vs ns,vals=[Value.ref a]/\args=[WData.list (ns.map WData.int)]/\h.get? a=some { cls:=.type "list",data:=.seq vs.toArray }/\IntsAre vs ns/\ns.length<=n:=by
 have hsh:WShape.hasAll [] args [.list .int]=true:=(pre_splitW hpre).1;have hc:l.pre.holds [] { args:=args }=true:=(pre_splitW hpre).2;obtain⟨d,r,rfl,h1,h2⟩:=hasAllW_cons hsh;obtain rfl:=hasAllW_nil h2;obtain⟨xs,rfl,h3⟩:=hasW_list h1;obtain⟨ns,rfl⟩:=items_int h3;have ξ:ns.length<=n:=by
  unfold OpenLaw.pre at hc;have h4:(WTm.not (.lt (.lit (.int (n:Int))) (.len (.arg 0)))).holds [] { args:=[.list (ns.map .int)] }=true:=by
   have h4:=(holds_andW hc).1;rw[hn]at h4;exact h4
  have h5:=condW_of h4 (w_not (w_lt w_lit (w_len_list (w_arg rfl))));rw[zad]at h5;refine Nat.le_of_not_lt fun q=>?_;have q':(n:Int)<((ns.length:Nat):Int):=by omega
  first
   | (rw[zaB q']at h5;exact absurd h5 (by decide))
   | (simp at h5;omega)
 cases hwl with
 |cons w1 w2=>
  cases w2;cases w1 with
  |list ho hall=>exact⟨_,_,ns,rfl,rfl,ho,oT ns _ hall,ξ⟩
def w6(l:OpenLaw)(args:List WData):l.row.toRowW.claim.post args (.bool true) args=true:=
 postW_of (r:=l.row.toRowW) (X:=(true==true))
  (show WShape.has [] (.bool true) .bool=true by first|rfl|decide|simp[WShape.has,WShape.arms,WShape.armsAll])
  (show(WTm.eq .res (.lit (.bool true))).value [] { args:=args,res:=some (.bool true),after:=args }=some (.bool (true==true))from w_eq_bool (w_res rfl) w_lit) rfl
def attach_call{q:Program}{f':List Str}{XP:(Str->Option Value)->Heap->Prop}{YP:World->Heap->Prop}{d:DefRec}
  (hn:l.most=some n) (hdf:d.params.defaults=[])
  (call:∀(w:World) (s₀ s₁:Shared) (mg mb:Str->Option Value) (fa:Addr) (o:Obj) (pm cd doc:Value) (a:Addr) (vs:List Value) (ns:List Int),
   Ground q f' [] XP w s₀ mg mb s₁.heap->YP w s₁.heap ->
   s₁.heap.get? fa=some o->o.data=.func (docDef d.name d.params d.body d.scope pm cd doc)->s₁.heap.CodeRec cd d.name->mg d.name=some (.ref fa) ->
   s₁.heap.get? a=some { cls:=.type "list",data:=.seq vs.toArray }->IntsAre vs ns->ns.length<=n->s₁.gens=#[] ->
   codeAny (model l.prog w) callerA (.call (.ref fa) ⟨[.ref a],[]⟩) (fun r s'=>r=.ok (.ret (.bool true))/\OldK s₁.heap s'.heap/\s'.os=s₁.os/\AllBare s'.gens) s₁):
  WalkO q f' XP YP l.row.toRowW d [] (fun f vs=>PySem.call f vs):=by
 intro w s₀ s₁ mg mb G Y fa o pm cd doc dV kV ho hd hcd hD hmg hg args vals as hpre hlay hrd hwl hlo;obtain rfl:dV=.none:=Dflts.none hD hdf;obtain rfl:kV=.none:=Dflts.noKw hD;obtain⟨a,vs,ns,rfl,rfl,hobj,xY,ξ⟩:=wU hn hpre hwl;refine enter_call (codeAny_mono (call w s₀ s₁ mg mb fa o pm cd doc a vs ns G Y ho (fd_plain hd) hcd hmg hobj xY ξ hg) fun r s' hq=>?_);obtain⟨rfl,h2,h3,h4⟩:=hq;exact⟨.inl ⟨.bool true,.bool true,[],rfl,fun _=>rfl,.bool true,w6 l _,fun _=>⟨List.Pairwise.nil,fun _ hm=>(nomatch hm)⟩⟩,h2,h3,h4⟩
end Att
namespace L2
variable{P:Program}{w:World}{K:zbY}{mg:Str->Option Value}{a f:Addr}{fd:FuncData}{x qual:Str}{sp:Sp}{X:Cx}{st:Stmt}{ps:List Str}{A:Around}{pos:Pos}{o:Option V}{u r:Value}{d y v:V}{H H':Hp}{kvs:List (List Key×V)}{xs:List (List Key×Addr×Value)}{ρ:List (Addr×Obj)}{σ:St}{s:Shared}{E Q:Value->Shared->Prop}{h':Heap}{value e:Expr}{td ty tv:TE}
open PySem PySem.Spec PyProof.Rows
theorem qw:∀{vs:List Value} {ns:List Int},IntsAre vs ns->Vals (ns.map V.int) vs
 |_,_,.nil=>.nil
 |_,_,.cons n t h=>.cons ⟨t,rfl⟩ (qw h)
def Ai(H:Hp):Prop:=∀b,H b=none\/∃o xs,H b=some (.frz o (.lst xs))
def y9{mb:Str->Option Value}{CX:CXT}{k:Nat}{fa:Addr}{s₁:Shared}{vs:List Value}{ns:List Int}
  (KX:K.In s₁.heap) (hns:s₁.heap.Ns mainGlobals mg) (hb:s₁.heap.Ns builtinsNs mb) (hbb:∀x:Str,x≠"__name__"->mb x=bootBuiltins x) (hlim:s₁.heap.NoLimit) (hmods:∃mm,s₁.heap.Ns sysModules mm) (hg:s₁.gens=#[])
  (ha:s₁.heap.get? a=some { cls:=.type "list",data:=.seq vs.toArray }) (hi:IntsAre vs ns) (hl:ns.length<=sizeLine) (hr:Room k callerA)
  (F:∀base:Heap,K.In base->base.Ns mainGlobals mg->FnOk P w K mg base CX k fa fd [x] sp) (hbind:∀(s:Shared) (u:Value),BindsTo s fd ⟨[u],[]⟩ [(x,u)])
  (hsp:∀H:Hp,Ai H->SqL K H a (ns.map V.int)->sp [.ref a] H (fun v _=>v=.bl true) fun _ _ _=>False)
  (hCX:∀H e s',CX [] H s₁ (fun _ _ _=>False) e s'->False):
  codeAny (model P w) callerA (.call (.ref fa) ⟨[.ref a],[]⟩) (fun r s'=>r=.ok (.ret (.bool true))/\OldK s₁.heap s'.heap/\s'.os=s₁.os/\AllBare s'.gens) s₁:=by
 have rv:=qw hi;have lenV:=hi.length;have core:∀H:Hp,Ai H->SqL K H a (ns.map V.int)->HOk P w H s₁.heap->(∀b,H b≠none->b=a)->(H a≠none->K.lookup a=none) ->
   codeAny (model P w) callerA (.call (.ref fa) ⟨[.ref a],[]⟩) (fun r s'=>r=.ok (.ret (.bool true))/\OldK s₁.heap s'.heap/\s'.os=s₁.os/\AllBare s'.gens) s₁:=by
  intro H hO hS hok hA hK;have base_of:∀{b:Addr} {o:Obj},s₁.heap.get? b=some o->H b=none->(kI s₁.heap H).get? b=some o:=fun e n=>zr e n;have noA:∀{b:Addr} {o:Obj} {es:Array DictEntry} {ep:Nat},s₁.heap.get? b=some o->o.data=.dict es ep->H b=none:=fun {b o es ep} e d=>by
   cases q:H b with
   |none=>rfl
   |some u=>
    have e':b=a:=hA b (by rw[q];simp);subst e';rw[ha]at e;cases e;have d':Data.seq vs.toArray _=Data.dict es ep:=d;cases d'
  have nsK:∀{b:Addr} {m:Str->Option Value},s₁.heap.Ns b m->(kI s₁.heap H).Ns b m:=fun {b m} ⟨o,es,ep,e,d,r⟩=>⟨o,es,ep,base_of e (noA e d),d,r⟩;have hKb:K.In (kI s₁.heap H):=fun b o e=>base_of (KX b o e) (by
   cases q:H b with
   |none=>rfl
   |some u=>
    have e':b=a:=hA b (by rw[q];simp);subst e';rw[hK (by rw[q];simp)]at e;cases e)
  have hM:Mod K mg (kI s₁.heap H):=⟨hKb,nsK hns,⟨mb,nsK hb,hbb⟩,let⟨mc,h1,h2⟩:=hlim;⟨mc,nsK h1,h2⟩,let⟨mm,h1⟩:=hmods;⟨mm,nsK h1⟩⟩;have e0:Env0 P w K mg (kI s₁.heap H) callerA [] s₁ H:=⟨rfl,hM,fun b o e=>Dh e,Nat.le_of_eq (xG _ _),trivial,fun b hb=>absurd (show b∈([]:List Addr)from hb) (by simp),hok,.of_eq hg⟩;refine codeAny_mono ((F _ hKb (nsK hns)).run callerA [] s₁ H ⟨[.ref a],[]⟩ [.ref a] [.ref a] _ _ hr e0 (hbind s₁ (.ref a)) (.cons rfl .nil) (hsp H hO hS)) fun r s' h=>?_;cases r with
  |error e=>exact(hCX H e s' h).elim
  |ok fl=>
   cases fl with
   |next=>exact False.elim h
   |brk=>exact False.elim h
   |cont=>exact False.elim h
   |ret u=>
    obtain⟨v,H',os,bare,un,hok',r',q⟩:=h;have q':v=.bl true:=q;subst q';obtain rfl:u=Value.bool true:=r';refine⟨rfl,OldK.of_keep fun b o e=>?_,os,bare⟩;cases q:H b with
    |none=>exact un.keep b o e q (by intro z;exact absurd (show b∈([]:List Addr)from z) (by simp)) (by simp)
    |some u=>
     rcases hO b with z|⟨ob,xs,z⟩
     ·rw[q]at z;cases z
     ·have z2:=un.frzs b ob _ z;obtain⟨e1,_⟩:=hok b _ z;obtain⟨e2,_⟩:=hok' b _ z2;rw[e]at e1;cases e1;exact e2
 cases hk:K.lookup a with
 |some o=>
  have e:=KX a o hk;rw[ha]at e;cases e;refine core (fun _=>none) (fun _=>.inl rfl) (.inr ⟨_,vs.toArray,_,hk,rfl,rfl,rfl,by rw[zai,lenV];exact hl,by simpa using rv⟩) (fun b u z=>by have z':(none:Option HO)=some u:=z;cases z') (fun b z=>absurd rfl z) fun z=>absurd rfl z
 |none=>
  refine core (fun b=>if b=a then some (.frz { cls:=.type "list",data:=.seq vs.toArray } (.lst (ns.map V.int)))else none) (fun b=>?_) (.inl (.inr ⟨{ cls:=.type "list",data:=.seq vs.toArray },if_pos rfl⟩)) (fun b u z=>?_) (fun b z=>?_) fun _=>hk
  ·by_cases hb:b=a
   ·exact .inr ⟨_,_,if_pos hb⟩
   ·exact .inl (if_neg hb)
  ·by_cases hb:b=a
   ·have z':=(if_pos hb).symm.trans z;cases z';subst hb;exact⟨ha,by rw[zad];exact hl,vs,_,rv,ha⟩
   ·have z':=(if_neg hb).symm.trans z;cases z'
  ·by_cases hb:b=a
   ·exact hb
   ·exact absurd (if_neg hb) z
def walk_of{l:PySem.W.OpenLaw}{n k:Nat}{q:Program}{f':List Str}{XP:(Str->Option Value)->Heap->Prop}{YP:World->Heap->Prop}{d:DefRec}{K:Params->zbY}{CX:World->CXT}{sp:World->Sp} 
  (hn:l.most=some n) (hn2:n<=sizeLine) (hdf:d.params.defaults=[]) (hr:Room k callerA)
  (hq:importsNone q=true) (hY:∀(w:World) (h:Heap),YP w h->(K w.params).In h)
  (F:∀(w:World) (mg:Str->Option Value) (fa:Addr) (h:Heap),(K w.params).In h->h.Ns mainGlobals mg->mg d.name=some (.ref fa) ->
   ∃fd:FuncData,(∀(s:Shared) (u:Value),BindsTo s fd ⟨[u],[]⟩ [(x,u)]) /\
    ∀base:Heap,(K w.params).In base->base.Ns mainGlobals mg->FnOk l.prog w (K w.params) mg base (CX w) k fa fd [x] (sp w))
  (hsp:∀(w:World) (H:Hp) (a:Addr) (ns:List Int),ns.length<=n->Ai H->SqL (K w.params) H a (ns.map V.int)->sp w [.ref a] H (fun v _=>v=.bl true) fun _ _ _=>False)
  (hCX:∀(w:World) (H:Hp) (s:Shared) (e:Value) (s':Shared),CX w [] H s (fun _ _ _=>False) e s'->False):
  PySem.W.WalkO q f' XP YP l.row.toRowW d [] (fun f vs=>PySem.call f vs):=by
 refine Att.attach_call hn hdf fun w s₀ s₁ mg mb fa o pm cd doc a vs ns G Y ho hd hcd hmg hobj xY ξ hg=>?_;have KX:=hY w _ Y;obtain⟨fd,hb,hF⟩:=F w mg fa _ KX G.T.g hmg;exact y9 KX G.T.g G.T.b G.T.builtins G.T.nolimit (let⟨mm,hm,_⟩:=(G.T.seer hq).mods;⟨mm,hm⟩) hg hobj xY (zau ξ hn2) hr hF hb (fun H hO hS=>hsp w H a ns ξ hO hS) fun H e s'=>hCX w H s₁ e s'
def eF(s:Stmt):Arguments:=match s with
 |.FunctionDef _ a _ _ _ _ _ _ _ _=>a
 |_=>{ posonlyargs:=[],args:=[],vararg:=none,kwonlyargs:=[],kw_defaults:=[],kwarg:=none,defaults:=[] }
def cr(s:Stmt):List Stmt:=match s with
 |.FunctionDef _ _ b _ _ _ _ _ _ _=>b
 |_=>[]
def am(s:Stmt):Scope:=match s with
 |.FunctionDef _ _ _ _ _ _ sc _ _ _=>sc
 |_=>{ kind:=.function,names:=[],isGenerator:=false,isCoroutine:=false }
abbrev CX0:CXT:=fun _ _ _ _ _ _=>False
abbrev E0:XK:=fun _ _ _=>False
def JO:tR CX0 X E0:=fun _ _ _ _ _ _ _ h=>h.elim
structure Fun(K:zbY)(x qual:Str)(st:Stmt)(f:Addr)(fd:FuncData):Prop where
 ex:∃(oc:Value) (od:Option Addr) (kV doc pm:Value) (an:Option Addr) (cdv ct:Value) (osl:Array (Option Value)),
  fd=PySem.W.fnOf x qual (eF st) (cr st) (am st) .none kV doc pm an cdv ct/\K.lookup f=some ⟨oc,od,.func fd,osl⟩/\PySem.W.codeIn K cdv qual=true
 kp:PySem.W.keepIn K (.ref f)=true
section
variable{base:Heap}
def Fun.ok{N:List Str}{k:Nat}(F:Fun K x qual st f fd)(S:FnScope N ps (am st))(len:∀vs H Q E,sp vs H Q E->vs.length=ps.length)
  (hbody:∀(cdv:Value) (A:Around) (outer:List Env) (s:Shared) (H:Hp) (vs:List V) (Q:VK) (E:XK),Room k (A.deeper (envOfC qual (am st) s.heap.objs.size f cdv))->sp vs H Q E ->
   ∃t,PSs (l9 CX0 P w K mg base N qual (am st) f cdv A outer s H E).nox (cr st) t/\t { nx:=fun _ H'=>Q .non H',rt:=Q } (start N vs) H):FnOk P w K mg base CX0 (k+1) f fd ps sp:=by
 obtain⟨oc,od,kV,doc,pm,an,cdv,ct,osl,rfl,lk,hcd⟩:=F.ex;refine J9 lk hcd S len fun A outer s H vs Q E hr hsp=>?_;obtain⟨t,h,q⟩:=hbody cdv A outer s H vs Q E hr hsp;exact⟨t,h.nox,q⟩
def Fun.binds(F:Fun K x qual st f fd)
  (h:∀(kV doc pm:Value) (an:Option Addr) (cdv ct:Value) (us:List Value),us.length=ps.length->bindArgs (PySem.W.fnOf x qual (eF st) (cr st) (am st) .none kV doc pm an cdv ct) ⟨us,[]⟩=pure (ps.zip us)):Binds K fd ps []:=by
 obtain⟨oc,od,kV,doc,pm,an,cdv,ct,osl,rfl,lk,hcd⟩:=F.ex;exact .all (h kV doc pm an cdv ct)
def xJ{oc:Value}{od an:Option Addr}{osl:Array (Option Value)}{kV doc pm cdv ct:Value}(l:K.lookup f=some ⟨oc,od,.func (PySem.W.fnOf x qual (eF st) (cr st) (am st) .none kV doc pm an cdv ct),osl⟩)
  (c:PySem.W.codeIn K cdv qual=true) (k:PySem.W.keepIn K (.ref f)=true):Fun K x qual st f (PySem.W.fnOf x qual (eF st) (cr st) (am st) .none kV doc pm an cdv ct):=⟨⟨oc,od,kV,doc,pm,an,cdv,ct,osl,rfl,l,c⟩,k⟩
end
def bZ{k:Nat}(hr:Room k A):A.units+1<cLine:=Nat.lt_of_le_of_lt (Nat.add_le_add_left (by decide:1<=64) _) hr.units
def pv(i:Nat)(hN:X.N[i]?=some x:=by rfl)(hv:Vis X.env.scope x:=by first|exact Or.inl rfl|exact Or.inr (Or.inl rfl)|exact Or.inr (Or.inr rfl))(hd:(x==("__debug__":Str))=false:=by decide)
  (hcd:(x==("__classdict__":Str))=false:=by decide):PE X (.Name x pos) (gp i):=cv hN hv hd hcd
section
variable{κ:Type}[DecidableEq κ]
def bx(kvs:List (κ×V))(k:κ):Option V:=(kvs.find? fun kv=>decide (kv.1=k)).map (·.2)
def b5(kvs:List (κ×V))(k:κ)(v:V):List (κ×V):=
 if(kvs.any fun kv=>decide (kv.1=k))=true then kvs.map (fun kv=>if kv.1=k then(kv.1,v)else kv)else kvs++[(k,v)]
def dz(kvs:List (κ×V))(k:κ):List (κ×V):=kvs.filter fun kv=>decide (kv.1≠k)
def cS{p:κ×V}{r:List (κ×V)}{k:κ}(e:p.1=k):bx (p::r) k=some p.2:=by simp[bx,zbm,e]
def cT{p:κ×V}{r:List (κ×V)}{k:κ}(e:¬p.1=k):bx (p::r) k=bx r k:=by simp[bx,zbm,e]
theorem rP(k:κ):∀kvs:List (κ×V),(kvs.any fun kv=>decide (kv.1=k))=(bx kvs k).isSome
 |[]=>rfl
 |p::r=>by
  rw[List.any_cons];by_cases e:p.1=k
  ·simp only[cS e,zaB e,Bool.true_or,Option.isSome_some]
  ·rw[cT e,zaA e,Bool.false_or];exact rP k r
theorem qx(k j:κ)(y:V):∀kvs:List (κ×V),bx kvs k=none->bx (kvs++[(k,y)]) j=if j=k then some y else bx kvs j
 |[],_=>by
  by_cases e:k=j
  ·rw[if_pos e.symm];exact cS (p:=(k,y)) e
  ·rw[if_neg (fun z=>e z.symm)];exact cT (p:=(k,y)) e
 |p::r,hn=>by
  rw[zaY];have hk:¬p.1=k:=fun z=>by rw[cS z]at hn;cases hn
  rw[cT hk]at hn;have ih:=qx k j y r hn;by_cases e:p.1=j
  ·rw[cS e,cS e,if_neg (fun z=>hk (e.trans z))]
  ·rw[cT e,cT e,ih]
def gX(kvs:List (κ×V))(k:κ)(v:V):(b5 kvs k v).length<=kvs.length+1:=by
 unfold b5;split
 ·rw[zad];omega
 ·rw[zae,zac,List.length_nil];omega
def RelO.isSome_eq{u:Option Value}(r:RelO o u):o.isSome=u.isSome:=by
 cases o with
 |none=>cases u with
  |none=>rfl
  |some _=>exact(show False from r).elim
 |some _=>cases u with
  |none=>exact(show False from r).elim
  |some _=>rfl
theorem RelO.getD{u:Option Value}{d':Value}(r:RelO o u)(rd:RelV d d'):RelV (o.getD d) (u.getD d'):=by
 cases o with
 |none=>cases u with
  |none=>exact rd
  |some _=>exact(show False from r).elim
 |some _=>cases u with
  |none=>exact(show False from r).elim
  |some _=>exact r
def KV.val{kvs:List (κ×V)}{vs:List (κ×Value)}(r:KV kvs vs)(k:κ):RelO (bx kvs k) (valueAt vs k):=by
 unfold KV at r
 induction r with
 |nil=>exact True.intro
 |@cons p q ps qs h t ih=>
  obtain⟨h1,h2⟩:=h;by_cases e:p.1=k
  ·have e':q.1=k:=h1.symm.trans e;have b:valueAt (q::qs) k=some q.2:=by simp[valueAt,zbm,e']
   rw[cS e,b];exact h2
  ·have e':¬q.1=k:=fun z=>e (h1.trans z);have b:valueAt (q::qs) k=valueAt qs k:=by simp[valueAt,zbm,e']
   rw[cT e,b];exact ih
theorem KV.any{kvs:List (κ×V)}{vs:List (κ×Value)}(r:KV kvs vs)(k:κ):(kvs.any fun kv=>decide (kv.1=k))=vs.any fun kv=>decide (kv.1=k):=by
 unfold KV at r
 induction r with
 |nil=>rfl
 |cons h t ih=>rw[List.any_cons,List.any_cons,ih,h.1]
def KV.repl{kvs:List (κ×V)}{vs:List (κ×Value)}(r:KV kvs vs)(k:κ)(ry:RelV y u):
  KV (kvs.map fun kv=>if kv.1=k then(kv.1,y)else kv) (vs.map fun kv=>if kv.1=k then(kv.1,u)else kv):=by
 unfold KV at r ⊢
 induction r with
 |nil=>exact .nil
 |@cons p q ps qs h t ih=>
  rw[zar,zar];refine .cons ?_ ih;obtain⟨h1,h2⟩:=h;by_cases e:p.1=k
  ·rw[if_pos e,if_pos (h1.symm.trans e)];exact⟨h1,ry⟩
  ·rw[if_neg e,if_neg (fun z=>e (h1.trans z))];exact⟨h1,h2⟩
def KV.put{kvs:List (κ×V)}{vs:List (κ×Value)}(r:KV kvs vs)(k:κ)(ry:RelV y u):KV (b5 kvs k y) (stored vs k u):=by
 unfold b5 stored;rw[r.any k];by_cases e:(vs.any fun kv=>decide (kv.1=k))=true
 ·rw[if_pos e,if_pos e];exact r.repl k ry
 ·rw[if_neg e,if_neg e];exact Paired.snoc r ⟨rfl,ry⟩
def KV.drop{kvs:List (κ×V)}{vs:List (κ×Value)}(r:KV kvs vs)(k:κ):KV (dz kvs k) (without vs k):=by
 unfold KV at r ⊢;unfold dz without
 induction r with
 |nil=>exact .nil
 |@cons p q ps qs h t ih=>
  obtain⟨h1,h2⟩:=h;rw[List.filter_cons,List.filter_cons];by_cases e:p.1=k
  ·have a:¬decide (p.1≠k)=true:=by simp[e]
   have b:¬decide (q.1≠k)=true:=by simp[h1.symm.trans e]
   rw[if_neg a,if_neg b];exact ih
  ·have e':¬q.1=k:=fun z=>e (h1.trans z);have a:decide (p.1≠k)=true:=by simp[e]
   have b:decide (q.1≠k)=true:=by simp[e']
   rw[if_pos a,if_pos b];exact .cons ⟨h1,h2⟩ ih
def KV.keys{kvs:List (κ×V)}{vs:List (κ×Value)}(r:KV kvs vs):kvs.map (·.1)=vs.map (·.1):=by
 unfold KV at r
 induction r with
 |nil=>rfl
 |cons h t ih=>rw[zar,zar,ih,h.1]
def KV.length{kvs:List (κ×V)}{vs:List (κ×Value)}(r:KV kvs vs):kvs.length=vs.length:=Paired.length r
def tD(kvs:List (κ×V))(k:κ):(dz kvs k).length<=kvs.length:=zbC _ _
end
def gY{k:Key}(r:RelV (kV k) u):(aO P w).is k u=true:=by
 cases k with
 |inl i=>obtain⟨t,e⟩:=(show ∃t,u=Value.int i t from r);subst e;exact uo P w i t
 |inr x=>obtain⟨t,e⟩:=(show ∃t,u=Value.str x t from r);subst e;exact um P w x t
def Hx{a b:Key}(e:kV a=kV b):a=b:=by
 cases a with
 |inl i=>cases b with
  |inl j=>have e':V.int i=V.int j:=e;injection e' with e';rw[e']
  |inr y=>exact nomatch (show V.int i=V.str y from e)
 |inr x=>cases b with
  |inl j=>exact nomatch (show V.str x=V.int j from e)
  |inr y=>have e':V.str x=V.str y:=e;injection e' with e';rw[e']
theorem qI{P:Program}{w:World}:∀{ks:List Key} {us:List Value},Vals (ks.map kV) us->ItemsAre (aO P w) ks us
 |[],_,r=>by rw[zaZ]at r;cases r;exact .nil
 |k::ks,_,r=>by
  rw[zar]at r;cases r with
  |cons h t=>exact .cons (gY h) (qI t)
abbrev KT(H:Hp):List (List Key×V)->List (List Key×Addr×Value)->Prop:=Paired fun p q=>p.1=q.1/\H q.2.1=some (.tup (p.1.map kV))/\RelV p.2 q.2.2
def KT.val(r:KT H kvs xs)(k:List Key):RelO (bx kvs k) ((atKey xs k).map (·.2)):=by
 induction r with
 |nil=>exact True.intro
 |@cons p q ps qs h t ih=>
  obtain⟨h1,_,h2⟩:=h;by_cases e:p.1=k
  ·have e':q.1=k:=h1.symm.trans e;have b:atKey (q::qs) k=some q.2:=by simp[atKey,zbm,e']
   rw[cS e,b];exact h2
  ·have e':¬q.1=k:=fun z=>e (h1.trans z);have b:atKey (q::qs) k=atKey qs k:=by simp[atKey,zbm,e']
   rw[cT e,b];exact ih
def KT.repl(r:KT H kvs xs)(k:List Key)(ry:RelV y u):
  KT H (kvs.map fun kv=>if kv.1=k then(kv.1,y)else kv) (xs.map (putAt k u)):=by
 induction r with
 |nil=>exact .nil
 |@cons p q ps qs h t ih=>
  rw[zar,zar];refine .cons ?_ ih;obtain⟨h1,h2,h3⟩:=h;unfold putAt;by_cases e:p.1=k
  ·rw[if_pos e,if_pos (h1.symm.trans e)];exact⟨h1,h2,ry⟩
  ·rw[if_neg e,if_neg (fun z=>e (h1.trans z))];exact⟨h1,h2,h3⟩
def KT.put(r:KT H kvs xs)(k:List Key){b:Addr}(hb:H b=some (.tup (k.map kV)))(ry:RelV y u):
  KT H (b5 kvs k y) (storedH xs k b u):=by
 have e:(kvs.any fun kv=>decide (kv.1=k))=(atKey xs k).isSome:=by
  rw[rP,(r.val k).isSome_eq,Option.isSome_map]
 unfold b5 storedH;rw[e];by_cases q:(atKey xs k).isSome=true
 ·rw[if_pos q,if_pos q];exact r.repl k ry
 ·rw[if_neg q,if_neg q];exact Paired.snoc r ⟨rfl,hb,ry⟩
def KT.keeps(r:KT H kvs xs)(ht:∀b ys,H b=some (.tup ys)->H' b=some (.tup ys)):KT H' kvs xs:=
 Paired.mapP r fun _ _ z=>⟨z.1,ht _ _ z.2.1,z.2.2⟩
section
variable{h:Heap} 
def Cl{u:HO}(ok:HOk P w H h)(e:Rd H a u):ObjOk P w H h a u:=e.ok ok
def fj{kvs:List (Key×V)}(ok:HOk P w H h)(e:Rd H a (.dK kvs)):kvs.length<=sizeLine/\(a==sysModules)=false/\∃vs,KV kvs vs/\h.DictOf (aO P w) a vs:=
 show ObjOk P w H h a (.dK kvs)from Cl ok e
def mX{kvs:List (Key×V)}(ok:HOk P w H h)(e:H a=some (.dK kvs)):kvs.length<=sizeLine/\(a==sysModules)=false/\∃vs,KV kvs vs/\h.DictOf (aO P w) a vs:=fj ok (.inl e)
def jT{ks:List Key}(ok:HOk P w H h)(e:H a=some (.tup (ks.map kV))):(tupleKind (aO P w)).is h ks a:=by
 obtain⟨_,its,r,o,h1,h2,n,h3⟩:=(show ObjOk P w H h a (.tup (ks.map kV))from ok a _ e);exact⟨o,its.toArray,n,h1,h2,h3.1,by simpa using qI r⟩
def kR(ok:HOk P w H h)(e:Rd H a (.dT kvs)):kvs.length<=sizeLine/\(a==sysModules)=false /\
  ∃xs,KT H kvs xs/\h.DictOfH (tupleKind (aO P w)) a xs:=by
 obtain⟨z,y,xs,r,o,es,ep,h1,h2,h3,h4,h5⟩:=(show ObjOk P w H h a (.dT kvs)from Cl ok e);refine⟨z,y,xs,r,o,es,ep,h1,h2,h3,h4,fun x hx=>?_,h5⟩;have all:∀{l:List (List Key×V)} {m:List (List Key×Addr×Value)},KT H l m->∀x∈m,(tupleKind (aO P w)).is h x.1 x.2.1:=by
  intro l m q
  induction q with
  |nil=>intro x hx;exact nomatch hx
  |@cons p q ps qs hq t ih=>
   intro x hx;rcases zay.mp hx with e|hx
   ·subst e;exact jT ok (by rw[<-hq.1];exact hq.2.1)
   ·exact ih x hx
 exact all r x hx
def CF(ok:HOk P w H h)(e:H a=some (.dT kvs)):kvs.length<=sizeLine/\(a==sysModules)=false /\
  ∃xs,KT H kvs xs/\h.DictOfH (tupleKind (aO P w)) a xs:=kR ok (.inl e)
end
def DGet(H:Hp)(a:Addr)(y:V)(r:Option V):Prop:=
 (∃kvs k,Rd H a (.dK kvs)/\y=kV k/\r=bx kvs k)\/∃kvs k b,Rd H a (.dT kvs)/\y=.ref b/\H b=some (.tup (k.map kV))/\r=bx kvs k
def DPut(H:Hp)(a:Addr)(y v:V)(H':Hp):Prop:=
 (∃kvs k,H a=some (.dK kvs)/\y=kV k/\kvs.length<sizeLine/\H'=upd H a (.dK (b5 kvs k v))) \/
 ∃kvs k b,H a=some (.dT kvs)/\y=.ref b/\H b=some (.tup (k.map kV))/\kvs.length<sizeLine/\H'=upd H a (.dT (b5 kvs k v))
def DGet.k{H:Hp}{a:Addr}{kvs:List (Key×V)}{k:Key}(e:H a=some (.dK kvs)):DGet H a (kV k) (bx kvs k):=.inl ⟨kvs,k,.inl e,rfl,rfl⟩
def DPut.k{H:Hp}{a:Addr}{kvs:List (Key×V)}{k:Key}{v:V}(e:H a=some (.dK kvs))(hl:kvs.length<sizeLine):DPut H a (kV k) v (upd H a (.dK (b5 kvs k v))):=.inl ⟨kvs,k,e,rfl,hl,rfl⟩
def Inv.big(I:Inv X ρ σ H s):sysModules<s.heap.objs.size:=by
 have h:mainGlobals<s.heap.objs.size:=(I.mod.glob.keeps I.bk).lt;exact Nat.lt_trans (by decide) h
def yf(hu:A.units+1<cLine)(I:Inv X ρ σ H s)(g:DGet H a y (some v))(ry:RelV y u)(h:∀w' s',Inv X ρ σ H s'->RelV v w'->Q w' s'):
  wpAny (model X.prog X.w) A (getItem (.ref a) u) Q E s:=by
 rcases g with⟨kvs,k,e,ey,l⟩|⟨kvs,k,b,e,ey,eb,l⟩
 ·subst ey;obtain⟨z,hd,vs,rel,dd⟩:=fj I.hok e;obtain⟨w',hw,rw'⟩:=RelO.some_of (v:=v) (o:=valueAt vs k) (by rw[l];exact rel.val k);exact wpAny_getItem_of (gY ry) dd.mapOf hw (h w' _ (I.tok _) rw')
 ·subst ey;cases(show u=Value.ref b from ry);obtain⟨z,hd,xs,rel,dd⟩:=kR I.hok e;obtain⟨w',hw,rw'⟩:=RelO.some_of (v:=v) (o:=(atKey xs k).map (·.2)) (by rw[l];exact rel.val k);obtain⟨p,hp,hp2⟩:=zab.mp hw;refine wpAny_getItem_heap (tupleKind_room_in1 hu) (jT I.hok eb) dd hp ?_;rw[hp2];exact h w' _ (I.tok _) rw'
def Lc(hu:A.units+1<cLine)(I:Inv X ρ σ H s)(g:DGet H a y o)(ry:RelV y u)(h:∀s',Inv X ρ σ H s'->Q (.bool o.isSome) s'):
  wpAny (model X.prog X.w) A (compareOp .In u (.ref a)) Q E s:=by
 rcases g with⟨kvs,k,e,ey,l⟩|⟨kvs,k,b,e,ey,eb,l⟩
 ·subst ey;obtain⟨z,hd,vs,rel,dd⟩:=fj I.hok e;refine wpAny_in_of (gY ry) hd dd.mapOf ?_;rw[<-(rel.val k).isSome_eq,<-l];exact h _ (I.tok _)
 ·subst ey;cases(show u=Value.ref b from ry);obtain⟨z,hd,xs,rel,dd⟩:=kR I.hok e;refine wpAny_in_heap (tupleKind_room_in1 hu) (jT I.hok eb) hd dd ?_;have q:=(rel.val k).isSome_eq;rw[Option.isSome_map]at q;rw[<-q,<-l];exact h _ (I.tok _)
def vb(hu:A.units+1<cLine)(I:Inv X ρ σ H s)(g:DGet H a y o)(ry:RelV y u)(h:∀s',Inv X ρ σ H s'->Q (.bool (!o.isSome)) s'):
  wpAny (model X.prog X.w) A (compareOp .NotIn u (.ref a)) Q E s:=by
 rcases g with⟨kvs,k,e,ey,l⟩|⟨kvs,k,b,e,ey,eb,l⟩
 ·subst ey;obtain⟨z,hd,vs,rel,dd⟩:=fj I.hok e;refine wpAny_notIn_of (gY ry) hd dd.mapOf ?_;rw[<-(rel.val k).isSome_eq,<-l];exact h _ (I.tok _)
 ·subst ey;cases(show u=Value.ref b from ry);obtain⟨z,hd,xs,rel,dd⟩:=kR I.hok e;refine wpAny_notIn_heap (tupleKind_room_in1 hu) (jT I.hok eb) hd dd ?_;have q:=(rel.val k).isSome_eq;rw[Option.isSome_map]at q;rw[<-q,<-l];exact h _ (I.tok _)
def iY{t':Nat}{ob:HO}(I:Inv X ρ σ H s)(mu:Mut (H a))(hs:Heap.SameBut a s.heap h')(he:∃q,h'.get? a=some q)(new:ObjOk X.prog X.w (upd H a ob) h' a ob):
  Inv X ρ σ (upd H a ob) { s with heap:=h',toks:=t' }:=
 I.write (x:=a) (e:=a) mu (.inl rfl) (fun b q hb z=>(hs.2 b hb).trans z) he new
def l8{kvs:List (Key×V)}{vs:List (Key×Value)}(z:kvs.length<=sizeLine)(hd:(a==sysModules)=false)(rel:KV kvs vs)(dd:h'.DictOf (aO P w) a vs):
  ObjOk P w H' h' a (.dK kvs):=⟨z,hd,vs,rel,dd⟩
def yd{Q:Unit->Shared->Prop}(hu:A.units+1<cLine)(I:Inv X ρ σ H s)(g:DPut H a y v H')(ry:RelV y u)(rv:RelV v r)(h:∀s',Inv X ρ σ H' s'->Q () s'):
  wpAny (model X.prog X.w) A (setItem (.ref a) u r) Q E s:=by
 rcases g with⟨kvs,k,e,ey,l,eH⟩|⟨kvs,k,b,e,ey,eb,l,eH⟩
 ·subst ey eH;obtain⟨z,hd,vs,rel,dd⟩:=mX I.hok e;have hz:vs.length<=sizeLine:=by rw[<-rel.length];exact z
  have hl:(b5 kvs k v).length<=sizeLine:=by have:=gX kvs k v;omega
  refine wpAny_setItem_pairs (hsz:=hz) (gY ry) dd fun h' dd' hs=>h _ ?_;have he:∃q,h'.get? a=some q:=let⟨q,_,_,hq,_⟩:=dd';⟨q,hq⟩;exact iY I (by rw[e];exact True.intro) hs he (l8 hl hd (rel.put k rv) dd')
 ·subst ey eH;cases(show u=Value.ref b from ry);obtain⟨z,hd,xs,rel,dd⟩:=CF I.hok e;have hz:xs.length<=sizeLine:=by rw[<-Paired.length rel];exact z
  have hl:(b5 kvs k v).length<=sizeLine:=by have:=gX kvs k v;omega
  refine wpAny_setItem_heap (hsz:=hz) (tupleKind_room_in1 hu) (jT I.hok eb) dd fun h' dd' hs=>h _ ?_;obtain⟨q,es,ep,hq,h2,h3,h4,_,h5⟩:=dd';refine iY I (by rw[e];exact True.intro) hs ⟨q,hq⟩ ⟨hl,hd,_,(rel.put k eb rv).keeps fun c ys ec=>?_,q,es,ep,hq,h2,h3,h4,h5⟩;rw[az (JU ec e (fun z=>nomatch z))];exact ec
section
variable{kvs:List (Key×V)}{k:Key}  
def KG{more:List Value}(I:Inv X ρ σ H s)(e:H a=some (.dK kvs))(ry:RelV (kV k) u)(l:bx kvs k=some v)(hm:more=[]\/∃x,more=[x])
  (h:∀w' s',Inv X ρ σ (upd H a (.dK (dz kvs k))) s'->RelV v w'->Q w' s'):wpAny (model X.prog X.w) A (call (.builtin "dict.pop") (.ref a::u::more)) Q E s:=by
 obtain⟨z,hd,vs,rel,dd⟩:=mX I.hok e;obtain⟨w',hw,rw'⟩:=RelO.some_of (v:=v) (o:=valueAt vs k) (by rw[<-l];exact rel.val k);have hp:(keyPart u).isSome=true:=by
  cases k with
  |inl i=>obtain⟨t,q⟩:=(show ∃t,u=Value.int i t from ry);subst q;rfl
  |inr x=>obtain⟨t,q⟩:=(show ∃t,u=Value.str x t from ry);subst q;rfl
 have ha:argsOk "dict.pop" ⟨.ref a::u::more,[]⟩:=by
  rcases hm with q|⟨x,q⟩
  ·subst q;exact PySem.F.args_dict_pop_2 _ _
  ·subst q;exact PySem.F.args_dict_pop_3 _ _ _
 refine call_meetsIn PySem.F.slot_dict_pop dd.typeIs PySem.F.entry_dict_pop ha (meets_dict_pop_there (aO X.prog X.w) a (gY ry) more hm hp)
  ⟨vs,w',dd,by rw[<-rel.length];exact z,hw,fun h' dd' hs=>h w' _ ?_ rw'⟩
 have he:∃q,h'.get? a=some q:=let⟨q,_,_,hq,_⟩:=dd';⟨q,hq⟩;exact iY I (by rw[e];exact True.intro) hs he (l8 (zau (tD kvs k) z) hd (rel.drop k) dd')
end
def qu(i:Expr):Prop:=∀ov iv,subscripted i false ov iv=operate [ov,iv] (getItem ov iv)
def CL{prog:Program}{env:Env}{slice:Expr}{T id:String} 
  (hl:typeLookup (.type T) "__getitem__"=pure (some (.builtin id))) (hs:qu slice)
  (h:wpAny (model prog w) A (eval value env) (fun o s₁=>wpAny (model prog w) A (eval slice env) (fun i s₂=>s₂.TypeIs o T/\wpAny (model prog w) A (getItem o i) Q E s₂) E s₁) E s):
  wpAny (model prog w) A (eval (.Subscript value slice pos) env) Q E s:=by
 refine Subscript_ (wpAny_mono h (fun o s₁ h₁=>wpAny_mono h₁ (fun i s₂ h₂=>?_) fun _ _ x=>x) fun _ _ x=>x);obtain⟨hT,h₂⟩:=h₂;unfold subscriptTail;refine zam ?_;rw[getitemInPython_of_ne hT.not_modules];refine zam (wpAny_specialOf hT hl ?_);have fin:wpAny (model prog w) A (subscripted slice false o i) (fun r s₃=>wpAny (model prog w) A (letTemporaryGo value o r >>= fun _=>pure r) Q E s₃) E s₂:=by
  rw[hs o i];exact wpAny_operating (wpAny_mono h₂ (fun r s₃ h₃=>zam (wpAny_letTemporaryGo (zaS h₃))) fun _ _ x=>x)
 first
  |exact zaS (zam fin)
  |exact zam (zaS (zam fin))
  |exact zam fin
def uu(I:Inv X ρ σ H s)(g:DGet H a y o):s.TypeIs (.ref a) "dict":=by
 rcases g with⟨kvs,k,e,_,_⟩|⟨kvs,k,b,e,_,_,_⟩
 ·obtain⟨_,_,vs,_,dd⟩:=fj I.hok e;exact dd.typeIs
 ·obtain⟨_,_,xs,_,dd⟩:=kR I.hok e;exact dd.typeIs
def vx(td ty:TE):TE:=fun σ H Q=>td σ H fun x H1=>ty σ H1 fun y H2=>∃a v,x=.ref a/\DGet H2 a y (some v)/\Q v H2
def GN(ty td:TE):TE:=fun σ H Q=>ty σ H fun y H1=>td σ H1 fun x H2=>∃a o,x=.ref a/\DGet H2 a y o/\Q (.bl o.isSome) H2
def uC(ty td:TE):TE:=fun σ H Q=>ty σ H fun y H1=>td σ H1 fun x H2=>∃a o,x=.ref a/\DGet H2 a y o/\Q (.bl (!o.isSome)) H2
def vC(td ty tv:TE):TS:=fun D σ H=>tv σ H fun v H1=>td σ H1 fun x H2=>ty σ H2 fun y H3=>∃a H4,x=.ref a/\DPut H3 a y v H4/\D.nx σ H4
section
variable{o i:Expr}{pos' tpos:Pos} 
def uI(hu:X.A.units+1<cLine)(ho:PE X o td)(hi:PE X i ty)(hs:qu i):PE X (.Subscript o i pos) (vx td ty):=by
 intro ρ s σ H Q I h;refine CL PySem.F.slot_dict_getitem.lookup hs (thn (ho ρ s σ H _ I h) fun u s1 ⟨x,H1,I1,rx,q1⟩=>thn (hi ρ s1 σ H1 _ I1 q1) fun iv s2 ⟨y,H2,I2,ry,a,v,ex,g,q2⟩=>?_);subst ex;obtain rfl:u=Value.ref a:=rx;exact⟨uu I2 g,yf hu I2 g ry fun w' s3 I3 rw'=>⟨v,H2,I3,rw',q2⟩⟩
def Hi(hu:X.A.units+1<cLine)(hi:PE X i ty)(ho:PE X o td):PC X .In i o (GN ty td):=by
 intro ρ s σ H Q I h;refine thn (hi ρ s σ H _ I h) fun iv s1 ⟨y,H1,I1,ry,q1⟩=>thn (ho ρ s1 σ H1 _ I1 q1) fun u s2 ⟨x,H2,I2,rx,a,ov,ex,g,q2⟩=>?_;subst ex;obtain rfl:u=Value.ref a:=rx;exact Lc hu I2 g ry fun s3 I3=>⟨.bl ov.isSome,H2,I3,rfl,q2⟩
def xb(hu:X.A.units+1<cLine)(hi:PE X i ty)(ho:PE X o td):PC X .NotIn i o (uC ty td):=by
 intro ρ s σ H Q I h;refine thn (hi ρ s σ H _ I h) fun iv s1 ⟨y,H1,I1,ry,q1⟩=>thn (ho ρ s1 σ H1 _ I1 q1) fun u s2 ⟨x,H2,I2,rx,a,ov,ex,g,q2⟩=>?_;subst ex;obtain rfl:u=Value.ref a:=rx;exact vb hu I2 g ry fun s3 I3=>⟨.bl (!ov.isSome),H2,I3,rfl,q2⟩
def uH(hu:X.A.units+1<cLine)(ho:PE X o td)(hi:PE X i ty)(hv:PE X value tv)(hs:swapsWith value (some (.Subscript o i pos')) pos.line X.env=pure false):
  PS X (.Assign [.Subscript o i pos'] value pos) (vC td ty tv):=by
 intro ρ s σ H D I h;refine wpAny_Assign_Subscript (thn (hv ρ s σ H _ I h) fun r s1 ⟨v,H1,I1,rv,q1⟩=>thn (ho ρ s1 σ H1 _ I1 q1) fun u s2 ⟨x,H2,I2,rx,q2⟩=>thn (hi ρ s2 σ H2 _ I2 q2) fun iv s3 ⟨y,H3,I3,ry,a,H4,ex,g,q3⟩=>?_) hs;subst ex;obtain rfl:u=Value.ref a:=rx;exact yd hu I3 g ry rv fun s4 I4=>⟨σ,H4,I4,q3⟩
end
def tH(h:Heap)(hb:sysModules<h.objs.size):ObjOk P w H (h.push { cls:=.type "dict",data:=.dict #[] }) h.objs.size (.dK []):=
 ⟨zbh _,zbR.mpr (Ne.symm (zaw hb)),[],.nil,Heap.DictOf.new h⟩
def GM:TE:=fun _ H Q=>∀p,H p=none->Q (.ref p) (upd H p (.dK []))
def pe_dnewK:PE X (.Dict [] [] pos) GM:=fun ρ s σ H Q I h=>
 wpAny_Dict_empty ⟨.ref s.heap.objs.size,_,I.laid (a:=s.heap.objs.size) (o:=.dK []) (t':=s.toks) (fun _ _ q=>zaf _ q) (zav _) (tH s.heap I.big),rfl,h _ (I.hok.fresh (zav _))⟩
def oC:List (TE×TE)->St->Hp->(List (V×V)->Hp->Prop)->Prop
 |[],_,H,Q=>Q [] H
 | (tk,tv)::r,σ,H,Q=>tk σ H fun x H1=>tv σ H1 fun y H2=>oC r σ H2 fun ps H3=>Q ((x,y)::ps) H3
abbrev VV:List (V×V)->List (Value×Value)->Prop:=Paired fun p q=>RelV p.1 q.1/\RelV p.2 q.2
def PPs(X:Cx)(pos:Pos)(keys:List (Option Expr))(values:List Expr)(trs:List (TE×TE)):Prop:=
 ∀(ρ:List (Addr×Obj)) (s:Shared) (σ:St) (H:Hp) (Q:List (V×V)->Hp->Prop),Inv X ρ σ H s->oC trs σ H Q ->
  wpAny (model X.prog X.w) X.A (evalPairs (pairTrees keys values X.env pos)) (fun vs s'=>∃ps H',Inv X ρ σ H' s'/\VV ps vs/\Q ps H') X.xe s
def C3:PPs X pos [] [] []:=fun ρ s σ H Q I h=>pairTrees_nil_walk ⟨[],H,I,.nil,h⟩
def yO{k v:Expr}{ks:List (Option Expr)}{vs:List Expr}{tk:TE}{trs:List (TE×TE)}(hk:PE X k tk)(hv:PE X v tv)(hr:PPs X pos ks vs trs):
  PPs X pos (some k::ks) (v::vs) ((tk,tv)::trs):=fun ρ s σ H Q I h=>
 pairTrees_cons_walk (thn (hk ρ s σ H _ I h) fun u s1 ⟨x,H1,I1,rx,q1⟩=>thn (hv ρ s1 σ H1 _ I1 q1) fun w2 s2 ⟨y,H2,I2,ry,q2⟩=>
  thn (hr ρ s2 σ H2 _ I2 q2) fun ws s3 ⟨ps,H3,I3,rel,q3⟩=>⟨(x,y)::ps,H3,I3,.cons ⟨rx,ry⟩ rel,q3⟩)
def ic(kvs more:List (Key×V)):List (Key×V):=more.foldl (fun acc kv=>b5 acc kv.1 kv.2) kvs
def KV.merge:∀{more:List (Key×V)} {rs:List (Key×Value)} {kvs:List (Key×V)} {vs:List (Key×Value)},KV more rs->KV kvs vs->KV (ic kvs more) (merged vs rs):=by
 intro more rs kvs vs r;unfold KV at r
 induction r generalizing kvs vs with
 |nil=>intro q;exact q
 |@cons p q ps qs h t ih=>
  intro r0;have e:KV (b5 kvs p.1 p.2) (stored vs q.1 q.2):=by
   have:=r0.put p.1 h.2;rw[<-h.1];exact this
  exact ih e
theorem k5:∀(more kvs:List (Key×V)),(ic kvs more).length<=kvs.length+more.length
 |[],kvs=>by show kvs.length<=kvs.length+0;omega
 |p::r,kvs=>by
  have h1:=k5 r (b5 kvs p.1 p.2);have h2:=gX kvs p.1 p.2;show(ic (b5 kvs p.1 p.2) r).length<=_;rw[zac];omega
theorem pB{P:Program}{w:World}:∀{kvs:List (Key×V)} {ws:List (Value×Value)},VV (kvs.map fun kv=>(kV kv.1,kv.2)) ws->∃rs,Carries (aO P w) ws rs/\KV kvs rs
 |[],_,r=>by rw[zaZ]at r;cases r;exact⟨[],True.intro,.nil⟩
 |p::kvs,_,r=>by
  rw[zar]at r;cases r with
  |@cons a b as bs h t=>
   obtain⟨rs,c,q⟩:=pB (P:=P) (w:=w) t;obtain⟨b1,b2⟩:=b;exact⟨(p.1,b2)::rs,⟨gY h.1,rfl,c⟩,.cons ⟨rfl,h.2⟩ q⟩
def Cg(trs:List (TE×TE)):TE:=fun σ H Q=>∀p,H p=none->oC trs σ (upd H p (.dK [])) fun ps H2=>H2 p=some (.dK [])/\∃kvs:List (Key×V),ps=kvs.map (fun kv=>(kV kv.1,kv.2))/\kvs.length<=15/\Q (.ref p) (upd H2 p (.dK (ic [] kvs)))
def C8{keys:List (Option Expr)}{values:List Expr}{trs:List (TE×TE)}(h:PPs X pos keys values trs)(hall:keys.all (·.isSome)=true)(hl:keys.length=values.length)(h0:keys≠[])
  (h15:keys.length<=15):PE X (.Dict keys values pos) (Cg trs):=by
 intro ρ s σ H Q I q;have hn:=I.hok.fresh (zav s.heap.objs.size);have I1:=I.laid (a:=s.heap.objs.size) (o:=.dK []) (h':=s.heap.push { cls:=.type "dict",data:=.dict #[] }) (t':=s.toks) (fun _ _ q=>zaf _ q) (zav _) (tH s.heap I.big);refine wpAny_Dict_walk (knd:=aO X.prog X.w) hall hl h0 h15 (thn (h ρ _ σ _ _ I1 (q _ hn)) fun ws s2 ⟨ps,H2,I2,rel,e,kvs,ep,lk,q2⟩=>?_);subst ep;obtain⟨rs,c,rk⟩:=pB (P:=X.prog) (w:=X.w) rel;obtain⟨z,hd,vs0,r0,dd⟩:=mX I2.hok e;cases r0;refine⟨rs,c,dd,fun h' dd' hs=>⟨.ref s.heap.objs.size,_,?_,rfl,q2⟩⟩;have hz:(ic [] kvs).length<=sizeLine:=by
  have h1:=k5 kvs [];rw[List.length_nil]at h1;rw[sizeLine_eq];omega
 have he:∃q,h'.get? s.heap.objs.size=some q:=let⟨q,_,_,hq,_⟩:=dd';⟨q,hq⟩;exact iY I2 (by rw[e];exact True.intro) hs he (l8 hz hd (rk.merge .nil) dd')
structure M1(X:Cx)(o:Expr)(m:Str)(μ:Pos)(e:Expr)(ω:Pos):Prop where
 base:attributeBase o m X.env (eval o X.env)=eval o X.env
 few:((backTo ω (starEach [e] X.env)).all (fun x=>!x.1)&&(backToKw ω (keywordEach [] X.env)).all (fun x=>x.1.isSome)
 &&decide (([e]:List Expr).length+([]:List Keyword).length+(if([]:List Keyword).isEmpty then 0 else 1)<30))=true
 line:(μ.endLine==ω.line)=true
 trees:backTo ω (starEach [e] X.env)=[(false,eval e X.env)]
structure M2(X:Cx)(o:Expr)(m:Str)(μ:Pos)(e f:Expr)(ω:Pos):Prop where
 base:attributeBase o m X.env (eval o X.env)=eval o X.env
 few:((backTo ω (starEach [e,f] X.env)).all (fun x=>!x.1)&&(backToKw ω (keywordEach [] X.env)).all (fun x=>x.1.isSome)
 &&decide (([e,f]:List Expr).length+([]:List Keyword).length+(if([]:List Keyword).isEmpty then 0 else 1)<30))=true
 line:(μ.endLine==ω.line)=true
 trees:backTo ω (starEach [e,f] X.env)=[(false,eval e X.env),(false,eval f X.env)]
def IsD(H:Hp)(a:Addr):Prop:=(∃kvs,Rd H a (.dK kvs))\/∃kvs,Rd H a (.dT kvs)
def sU(I:Inv X ρ σ H s)(d:IsD H a):
  s.TypeIs (.ref a) "dict"/\(∀b,Value.ref a=.ref b->∃ob,s.heap.get? b=some ob/\ob.dict=none)/\(a==sysModules)=false:=by
 rcases d with⟨kvs,e⟩|⟨kvs,e⟩
 ·obtain⟨_,hd,vs,_,dd⟩:=fj I.hok e;refine⟨dd.typeIs,fun b q=>?_,hd⟩;cases q;obtain⟨ob,_,_,h1,h2,_⟩:=dd;exact⟨ob,h1,h2.2.1⟩
 ·obtain⟨_,hd,xs,_,dd⟩:=kR I.hok e;refine⟨dd.typeIs,fun b q=>?_,hd⟩;cases q;obtain⟨ob,_,_,h1,h2,_⟩:=dd;exact⟨ob,h1,h2.2.1⟩
def Jg(hu:A.units+1<cLine)(I:Inv X ρ σ H s)(g:DGet H a y o)(ry:RelV y u)(rd:RelV d r)(h:∀w' s',Inv X ρ σ H s'->RelV (o.getD d) w'->Q w' s'):
  wpAny (model X.prog X.w) A (call (.builtin "dict.get") [.ref a,u,r]) Q E s:=by
 rcases g with⟨kvs,k,e,ey,l⟩|⟨kvs,k,b,e,ey,eb,l⟩
 ·subst ey;obtain⟨z,hd,vs,rel,dd⟩:=fj I.hok e;refine call_meetsIn PySem.F.slot_dict_get dd.typeIs PySem.F.entry_dict_get (PySem.F.args_dict_get_3 _ _ _) (meets_dict_get_default (aO X.prog X.w) a (gY ry) hd r) ⟨_,dd.mapOf,h _ _ (I.tok _) ?_⟩;rw[l];exact(rel.val k).getD rd
 ·subst ey;cases(show u=Value.ref b from ry);obtain⟨z,hd,xs,rel,dd⟩:=kR I.hok e;refine call_meetsIn PySem.F.slot_dict_get dd.typeIs PySem.F.entry_dict_get (PySem.F.args_dict_get_3 _ _ _) (meetsH_dict_get_default (tupleKind (aO X.prog X.w)) a b hd r) ⟨tupleKind_room_in1 hu,k,xs,jT I.hok eb,dd,h _ _ (I.tok _) ?_⟩;rw[l];exact(rel.val k).getD rd
def wO(td ty tx:TE):TE:=fun σ H Q=>td σ H fun x H1=>∃a,x=.ref a/\IsD H1 a/\ty σ H1 fun y H2=>tx σ H2 fun z H3=>∃o,DGet H3 a y o/\Q (o.getD z) H3
def wM(td ty:TE):TE:=fun σ H Q=>td σ H fun x H1=>∃a,x=.ref a/\IsD H1 a/\ty σ H1 fun y H2=>∃kvs k v,H2 a=some (.dK kvs)/\y=kV k/\bx kvs k=some v/\Q v (upd H2 a (.dK (dz kvs k)))
section
variable{o f:Expr}{μ ω:Pos}{tx:TE}
def yS(hu:X.A.units+1<cLine)(ho:PE X o td)(he:PE X e ty)(hf:PE X f tx)(m:M2 X o "get" μ e f ω):PE X (.Call (.Attribute o "get" μ) [e,f] [] ω) (wO td ty tx):=by
 intro ρ s σ H Q I h;refine wpAny_Call_method m.base m.few m.line PySem.F.plainAttrs_dict PySem.F.slot_dict_get PySem.F.type_dict_get (thn (ho ρ s σ H _ I h) fun u s1 ⟨x,H1,I1,rx,a,ex,d,q1⟩=>?_);subst ex;obtain rfl:u=Value.ref a:=rx;obtain⟨t1,t2,_⟩:=sU I1 d;refine⟨t1,t2,?_⟩;rw[m.trees];refine Calls.callWith_builtin rfl (Calls.evalArgs_plain (Calls.spliced_cons (thn (he ρ s1 σ H1 _ I1 q1) fun iv s2 ⟨y,H2,I2,ry,q2⟩=>
  Calls.spliced_cons (thn (hf ρ s2 σ H2 _ I2 q2) fun fv s3 ⟨z,H3,I3,rz,ov,g,q3⟩=>Calls.spliced_nil ?_))))
 exact Jg hu I3 g ry rz fun w' s4 I4 rw'=>⟨_,H3,I4,rw',q3⟩
def yR(ho:PE X o td)(he:PE X e ty)(m:M1 X o "pop" μ e ω):PE X (.Call (.Attribute o "pop" μ) [e] [] ω) (wM td ty):=by
 intro ρ s σ H Q I h;refine wpAny_Call_method m.base m.few m.line PySem.F.plainAttrs_dict PySem.F.slot_dict_pop PySem.F.type_dict_pop (thn (ho ρ s σ H _ I h) fun u s1 ⟨x,H1,I1,rx,a,ex,d,q1⟩=>?_);subst ex;obtain rfl:u=Value.ref a:=rx;obtain⟨t1,t2,_⟩:=sU I1 d;refine⟨t1,t2,?_⟩;rw[m.trees];refine Calls.callWith_builtin rfl (Calls.evalArgs_plain (Calls.spliced_cons (thn (he ρ s1 σ H1 _ I1 q1) fun iv s2 ⟨y,H2,I2,ry,kvs,k,v,ea,ey,l,q2⟩=>Calls.spliced_nil ?_)));subst ey;exact KG I2 ea ry l (.inl rfl) fun w' s3 I3 rw'=>⟨v,_,I3,rw',q2⟩
end
section
variable{κ:Type}[DecidableEq κ]
theorem mN:∀{l:List κ} {k:κ},l.Nodup->¬k∈l->(l++[k]).Nodup
 |[],k,_,_=>by simp
 |a::r,k,h,hk=>by
  obtain⟨h1,h2⟩:=za9.mp h;show(a::(r++[k])).Nodup;refine za9.mpr ⟨fun m=>?_,mN h2 fun m=>hk (zay.mpr (Or.inr m))⟩;rcases zax.mp m with q|q
  ·exact h1 q
  ·exact hk (zay.mpr (Or.inl (zaH.mp q).symm))
end
end L2
set_option maxHeartbeats 4000000
namespace L2
variable{scope:Scope}{env:Env}{names:List (Str×NameKind)}{n c k i j d d1 d2 d' dr cd:Nat}{X:Cx}{M:Model}{A:Around}{E:Value->Shared->Prop}{ρ:List (Addr×Obj)}{σ σ':St}{H H2 H' H1 H0:Hp}{fp:List Addr}{p p2 p1 q:Bool}{o u:HO}{P prog:Program}{w:World}{K:zbY}{elts es ifs:List Expr}{tp pos ω μ ζ pos' px:Pos}{x z:Str}{ps N ns:List Str}{e tg elt iter b:Expr}{l jt tu a:Addr}{js:List (Option Nat)}{vs:List V}{v y:V}{ds ds1 ds2 ds' ds0 dps lk dsi:List Nat}{Q Q':VK}{t':TT}{op:CmpOp}{T:String}{Dn:Ends}{st:Stmt}{r r':List V->Hp->VK->Prop}
open PySem PySem.Spec PyProof.Rows
def D0{α β:Type}{l:List α}{f:α->β->Sem (ForInStep β)}{g:β->α->β}(h:∀x∈l,∀c,f x c=pure (.yield (g c x))):∀c,forIn l c f=pure (l.foldl g c):=by
 induction l with
 |nil=>intro c;rfl
 |cons x l ih=>
  intro c;rw[List.forIn_cons,h x zaq,pure_bind];exact ih (fun y hy=>h y (zaj _ hy)) (g c x)
def eY(env:Env)(acc:List (Str×Addr))(x:Str×NameKind):List (Str×Addr):=
 if x.2==NameKind.free then(x.1,(env.cells.lookup x.1).getD 0)::acc else acc
def dM(env:Env)(names:List (Str×NameKind)):List (Str×Addr):=names.foldl (eY env) []
def pk(h:∀y∈scope.names,y.2=.free->∃c,env.cells.lookup y.1=some c):closureFor scope env=pure (dM env scope.names):=by
 simp only[closureFor];rw[D0 (g:=eY env) (fun x hx c=>by
  obtain⟨n,kind⟩:=x;by_cases hk:kind=.free
  ·obtain⟨a,e⟩:=h _ hx hk;subst hk;have e':env.cells.lookup n=some a:=e;simp[cellOf,eY,e']
  ·have hb:(kind==NameKind.free)=false:=by simpa using hk
   simp[eY,hb])]
 rfl
theorem pz{env:Env}:∀(names:List (Str×NameKind)) (acc:List (Str×Addr)) (p:Str×Addr),
  p∈names.foldl (eY env) acc->p∈acc\/((p.1,NameKind.free)∈names/\p.2=(env.cells.lookup p.1).getD 0)
 |[],_,_,h=>.inl h
 | (n,k)::r,acc,p,h=>by
  rw[List.foldl_cons]at h;rcases pz r _ p h with q|⟨q,e⟩
  ·unfold eY at q;by_cases hk:(k==NameKind.free)=true
   ·rw[if_pos hk]at q;rcases zay.mp q with z|z
    ·subst z;have hk':k=NameKind.free:=by simpa using hk
     subst hk';exact .inr ⟨zaq,rfl⟩
    ·exact .inl z
   ·rw[if_neg hk]at q;exact .inl q
  ·exact .inr ⟨zaj _ q,e⟩
theorem ng{env:Env}:∀(names:List (Str×NameKind)) (acc:List (Str×Addr)) (p:Str×Addr),p∈acc->p∈names.foldl (eY env) acc
 |[],_,_,h=>h
 |x::r,acc,p,h=>by
  rw[List.foldl_cons];refine ng r _ p ?_;unfold eY;split
  ·exact zaj _ h
  ·exact h
theorem pA{env:Env}{n:Str}:∀(names:List (Str×NameKind)) (acc:List (Str×Addr)),(n,NameKind.free)∈names->∃c,(n,c)∈names.foldl (eY env) acc
 | (m,k)::r,acc,h=>by
  rw[List.foldl_cons];rcases zay.mp h with e|e
  ·cases e;exact⟨(env.cells.lookup n).getD 0,ng r _ _ (by unfold eY;rw[if_pos (show(((n,NameKind.free):Str×NameKind).2==NameKind.free)=true from rfl)];exact zaq)⟩
  ·exact pA r _ e
theorem iE{α:Type}:∀{l:List (Str×α)} {n:Str} {c:α},(n,c)∈l->∃c',l.lookup n=some c'
 | (m,d)::r,n,c,h=>by
  rw[zas];cases hb:n==m with
  |true=>exact⟨d,rfl⟩
  |false=>
   rcases zay.mp h with e|e
   ·cases e;simp at hb
   ·exact iE e
def tJ{n:Str}(h:(n,NameKind.free)∈names):∃c,(dM env names).lookup n=some c:=
 let⟨_,e⟩:=pA (env:=env) names [] h
 iE e
def qP{n:Str}{c:Addr}(h:∀y∈names,y.2=.free->∃c,env.cells.lookup y.1=some c)(e:(dM env names).lookup n=some c):env.cells.lookup n=some c:=by
 rcases pz names [] (n,c) (zaT e)with q|⟨q,z⟩
 ·simp at q
 ·obtain⟨a,ea⟩:=h _ q rfl;have z':c=(env.cells.lookup n).getD 0:=z;have ea':env.cells.lookup n=some a:=ea;rw[ea']at z';rw[ea',z'];rfl
theorem kq{env:Env}:∀{names:List (Str×NameKind)} {x:Str} {k:NameKind},
  (names.map fun(n,k)=>if(k==NameKind.free&&env.scope.kind==.function&&env.kindOf n==some .cell)then(n,NameKind.cell)else(n,k)).lookup x=some k ->
  names.lookup x=some k\/(names.lookup x=some .free/\k=.cell)
 |[],_,_,h=>by simp at h
 | (n,k0)::r,x,k,h=>by
  rw[zar]at h;cases hx:x==n with
  |true=>
   rcases Bool.eq_false_or_eq_true (k0==NameKind.free&&env.scope.kind==.function&&env.kindOf n==some .cell)with hc|hc
   ·simp only[hc,if_true,zas,hx]at h;have hk:k0=.free:=by
     simp only[zbk,beq_iff_eq]at hc;exact hc.1.1
    refine .inr ⟨?_,?_⟩
    ·simp only[zas,hx,hk]
    ·exact(zat h).symm
   ·simp only[hc,Bool.false_eq_true,if_false,zas,hx]at h;refine .inl ?_;simp only[zas,hx];exact h
  |false=>
   have h':(r.map fun(n,k)=>if(k==NameKind.free&&env.scope.kind==.function&&env.kindOf n==some .cell)then(n,NameKind.cell)else(n,k)).lookup x=some k:=by
    rcases Bool.eq_false_or_eq_true (k0==NameKind.free&&env.scope.kind==.function&&env.kindOf n==some .cell)with hc|hc
    ·simp only[hc,if_true,zas,hx]at h;exact h
    ·simp only[hc,Bool.false_eq_true,if_false,zas,hx]at h;exact h
   simp only[zas,hx];exact kq h'
theorem oG{env:Env}:∀{names:List (Str×NameKind)} {x:Str},names.lookup x=some .free ->
  (names.map fun(n,k)=>if(k==NameKind.free&&env.scope.kind==.function&&env.kindOf n==some .cell)then(n,NameKind.cell)else(n,k)).lookup x=some .cell \/
  (names.map fun(n,k)=>if(k==NameKind.free&&env.scope.kind==.function&&env.kindOf n==some .cell)then(n,NameKind.cell)else(n,k)).lookup x=some .free
 |[],_,h=>by simp at h
 | (n,k0)::r,x,h=>by
  rw[zar];cases hx:x==n with
  |true=>
   simp only[zas,hx]at h;rcases Bool.eq_false_or_eq_true (k0==NameKind.free&&env.scope.kind==.function&&env.kindOf n==some .cell)with hc|hc
   ·refine .inl ?_;simp only[hc,if_true,zas,hx]
   ·refine .inr ?_;simp only[hc,Bool.false_eq_true,if_false,zas,hx];exact h
  |false=>
   simp only[zas,hx]at h;have ih:=oG (env:=env) h;rcases Bool.eq_false_or_eq_true (k0==NameKind.free&&env.scope.kind==.function&&env.kindOf n==some .cell)with hc|hc
   ·simp only[hc,if_true,zas,hx];exact ih
   ·simp only[hc,Bool.false_eq_true,if_false,zas,hx];exact ih
def eI(js:List (Option Nat))(σ:St):St:=js.map fun j=>match j with
 |some j=>(σ[j]?).join
 |none=>none
def PTs(X:Cx)(ifs:List Expr)(tt:TT):Prop:=
 ∀(ρ:List (Addr×Obj)) (s:Shared) (σ:St) (H:Hp) (Q:Bool->Hp->Prop),Inv X ρ σ H s->tt σ H Q ->
  wpAny (model X.prog X.w) X.A (forIn ifs true fun c r=>if r=true then do let ok <-isTrue c X.env (eval c X.env);pure (ForInStep.yield ok)else pure (ForInStep.yield r)) (TP X ρ σ Q) X.xe s
def KP:TT:=fun _ H Q=>Q true H
def pts_nil:PTs X [] KP:=fun _ _ _ H _ I h=>wpAny_tests_nil ⟨H,I,h⟩
def CZ{c:Expr}{tc:TT}(hc:PT X c tc):PTs X [c] tc:=fun ρ s σ H Q I h=>wpAny_tests_one (hc ρ s σ H Q I h)
def Ht(g:TG)(tt:TT)(te:TE)(D:Addr)(x:V)(τ:St)(H:Hp)(N:St->Hp->Prop):Prop:=
 g x τ H fun τ4 H4=>tt τ4 H4 fun b H5=>if b=true then te τ4 H5 fun v H6=>∃xs,H6 D=some (.lst xs)/\xs.length<sizeLine/\N τ4 (upd H6 D (.lst (xs++[v])))else N τ4 H5
def vT(J:It)(g:TG)(tt:TT)(te:TE)(σ0:St)(H1:Hp)(D:Addr)(Q:VK):Prop:=
 ∃W:Nat->Nat->St->Hp->Prop,(∃m,W 0 m σ0 (upd H1 D (.lst []))) /\
  ∀i m τ H2,W i m τ H2->(J.stop i H2/\Q (.ref D) H2)\/(J.go i H2/\∃N:St->Hp->Prop,(∀τ' H',N τ' H'->∃m',m'<m/\W (i+1) m' τ' H')/\∀x H3,J.yld i H2 x H3->Ht g tt te D x τ H3 N)
def tLC(wi:TI)(g:TG)(tt:TT)(te:TE)(js:List (Option Nat)):TE:=fun σ H Q=>
 wi σ H fun J H1=>∀D,H1 D=none->vT J g tt te (eI js σ) H1 D Q
def thF{α:Type}{t:Sem α}{Q Q':α->Shared->Prop}{s:Shared}(h:wpAny M A t Q (fun _ _=>False) s)(hQ:∀a s,Q a s->Q' a s):wpAny M A t Q' E s:=
 wpAny_mono h hQ fun _ _ x=>x.elim
def Ab:CallR X (.builtin "isinstance") (fun xs H Q=>∃x t n b,xs=[x,.ty n]/\TyOf X.K H x t/\PySem.W.kitOne X.K t (.type n)=some b/\Q (.bl b) H):=by
 intro ρ s σ H xs us Q I r h;obtain⟨x,t,n,b,rfl,ty,e,q⟩:=h;obtain⟨u,w',rfl,r1,r2⟩:=vo r;cases r2;exact xC I r1 ty e fun tk=>⟨.bl b,H,I.tok _,rfl,q⟩
section
open PySem.SeqAt
variable{s:Shared}
end
def Inv.turnedLaid{s:Shared}{h':Heap}{t':Nat}{p:Addr}(I:Inv X ρ σ H s)(f:∀b∈fp,ji X ρ H b)(hp:s.heap.objs.size<=p)
  (k:∀b ob,b∉fp->s.heap.get? b=some ob->h'.get? b=some ob) (th:∀b∈fp,∃ob,h'.get? b=some ob) (new:ObjOk X.prog X.w (upd H p o) h' p o):Inv X ρ σ (upd H p o) { s with heap:=h',toks:=t' }:=by
 have hn:H p=none:=I.hok.fresh hp;have ne:∀b ob,s.heap.get? b=some ob->b≠p:=fun b ob e=>zaw (zag (zal e) hp);have nf:∀b u,H b=some u->b∉fp:=fun b u e z=>by rw[(f b z).1]at e;cases e
 refine I.step (g':=s.gens) (d':=s.drawn) (ch:=fp) (fun b hb=>⟨(f b hb).2.2.2.1,(f b hb).2.1,(f b hb).2.2.2.2.1,(f b hb).2.2.2.2.2⟩) (fun b ob _ _ hc e _=>k b ob hc e) (fun b ob _ _ hc e _=>⟨ob.slots,k b ob hc e⟩)
  (fun b ob _ e n=>by rw[az (ne b ob e)];exact n) (fun b ob hc e=>⟨ob,k b ob hc e⟩) (fun b xs e=>by rw[az (bP e hn)];exact e) (fun b ob u e=>by rw[az (bP e hn)];exact e)
  (fun b ps e=>⟨#[],by rw[az (bP e hn),e];simp⟩) (fun m hm=>?_) (fun b u e=>?_) I.bare
 ·obtain⟨ob,es,ep,ho,r⟩:=hm;exact⟨ob,es,ep,k _ ob (fun z=>(f _ z).2.1 rfl) ho,r⟩
 ·by_cases hb:b=p
  ·subst hb;rw[av]at e;cases e;exact new
  ·rw[az hb]at e;refine(I.hok b u e).stay (fun c v hc q=>k c v ?_ q) (fun c q=>by rw[az (bP q hn)];exact q) fun c xs q=>by rw[az (bP q hn)];exact q
   rcases hc with z|z
   ·rw[z];exact nf b u e
   ·exact nf c _ z
def Ite(K:zbY)(a:Addr):It:=
 ⟨fun i H=>∃xs x,SqL K H a xs/\xs[i]?=some x,
  fun i H y H'=>∃p x,y=.ref p/\H p=none/\H'=upd H p (.tup [.int i,x])/\∀xs,SqL K H a xs->xs[i]?=some x,
  fun i H=>∃xs,SqL K H a xs/\xs.length<=i⟩
def wK(a e it:Addr)(hei:e≠it):
  Turn P w K (.Tuple elts k tp) (Ite K a) [e,it] e (fun i h=>(∃old,IsEnum h e it i old)/\h.IsListIter it a i) where
 mem:=by simp
 obj:=fun i h st b hb=>by
  obtain⟨⟨old,he⟩,o,ho,hc,hd⟩:=st;have hb':b=e\/b=it:=by simpa using hb
  rcases hb' with rfl|rfl
  ·exact⟨_,he,fun v z=>by
    have z':Data.fields _=Data.cell v:=z;cases z'⟩
  ·exact⟨o,ho,fun v z=>by rw[hd]at z;cases z⟩
 keep:=fun i h h' st kp=>⟨let⟨old,he⟩:=st.1;⟨old,kp e (by simp) _ he⟩,st.2.at fun o q=>kp it (by simp) o q⟩
 item:=by
  intro X hP hw hK hc i ρ s σ H E I hf st hg;subst hP hw hK;obtain⟨xs,x,hq,hx⟩:=hg;obtain⟨its,rv,p,hz⟩:=I.list hq;obtain⟨u,hu,ru⟩:=rv.get hx;obtain⟨⟨old,he⟩,hit⟩:=st;refine wpAny_pyNext_enum_item he hit p.isList (x:=u) (by simpa using hu) hei fun h1 ho1 hit1 ht1 hz1 hk1=>?_;refine⟨_,rfl,wpAny_letOwnedTupleGo_enum ho1 fun h2 he2 hs2=>?_⟩;have eL:e<s.heap.objs.size:=zal he;have ht2:h2.get? s.heap.objs.size=some { cls:=.type "tuple",data:=.seq #[.int i s.toks,u] }:=(hs2.2 _ (Nat.ne_of_gt eL)).trans ht1;have hit2:h2.IsListIter it a (i+1):=hit1.extBut hs2.extBut hei.symm;have I2:Inv X ρ σ (upd H s.heap.objs.size (.tup [.int i,x])) { s with heap:=h2,toks:=s.toks+1 }:=by
   refine I.turnedLaid (fp:=[e,it]) hf (zav _) (fun b ob hb q=>?_) (fun b hb=>?_) ?_
   ·have h1:b≠e:=fun z=>hb (by simp[z]);have h2':b≠it:=fun z=>hb (by simp[z]);exact(hs2.2 b h1).trans (hk1 b ob h1 h2' q)
   ·have hb':b=e\/b=it:=by simpa using hb
    rcases hb' with rfl|rfl
    ·exact⟨_,he2⟩
    ·obtain⟨o,ho,_⟩:=hit2;exact⟨o,ho⟩
   ·refine⟨(by show 2<=sizeLine;decide),[.int i s.toks,u],.cons ⟨_,rfl⟩ (.cons ru .nil),?_⟩;exact⟨_,ht2,rfl,_,rfl,rfl⟩
  have fr:∀b∈[e,it],upd H s.heap.objs.size (.tup [.int i,x]) b=none:=fun b hb=>by
   have hlt:b<s.heap.objs.size:=by
    have hb':b=e\/b=it:=by simpa using hb
    rcases hb' with rfl|rfl
    ·exact eL
    ·obtain⟨o,ho,_⟩:=hit;exact zal ho
   rw[az (zaw hlt)];exact(hf b hb).1
  exact⟨.ref s.heap.objs.size,_,I2,rfl,⟨_,x,rfl,I.fresh,rfl,fun ys hy=>by rw[I.list_inj hy hq];exact hx⟩,⟨⟨_,he2⟩,hit2⟩,fr⟩
 done:=by
  intro X hP hw hK hc i ρ s σ H E I hf st hg;subst hP hw hK;obtain⟨xs,hq,hx⟩:=hg;obtain⟨its,rv,p,hz⟩:=I.list hq;obtain⟨⟨old,he⟩,hit⟩:=st;obtain⟨f0,f1,f2,f3,f4,f5⟩:=hf it (by simp);have hl:=rv.length;exact wpAny_pyNext_enum_end (I.ok.hd hc) he hit p.isList (by simp;omega) fun h' eb=>⟨rfl,I.turned (t':=s.toks) (fun b o hb q=>eb b o hb q) f0 f1 f3 f4 f5⟩
 self:=fun _ _ _ _ _ st h=>let⟨⟨_,he⟩,_⟩:=st;wpAny_pyIter_enum he h
def Kn(P:Program)(w:World)(K:zbY)(mg:Str->Option Value)(base:Heap)(k:Nat)(x:Str)(ps:List Str)(sp:Sp):Prop:=
 ∃f fd,FnOk P w K mg base CX0 k f fd ps sp/\mg x=some (.ref f)/\PySem.W.keepIn K (.ref f)=true/\Binds K fd ps []
def Kn.mono{P:Program}{w:World}{K:zbY}{mg:Str->Option Value}{base:Heap}{j k:Nat}{x:Str}{ps:List Str}{sp:Sp}(G:Kn P w K mg base j x ps sp)(h:j<=k):Kn P w K mg base k x ps sp:=
 let⟨f,fd,a,b,c,d⟩:=G
 ⟨f,fd,a.mono h,b,c,d⟩
section
variable{sp:Sp}{p:Pos}{t:TA}
def Co(G:Kn X.prog X.w X.K X.mg X.base k x ps sp)(hr:Room k X.A)(hg:Gl X x)(ha:PA X (e::es) t)(hdb:(x==("__debug__":Str))=false:=by decide)
  (he:starEach (e::es) X.env=(false,eval e X.env)::starEach es X.env:=by rfl) (hpl:(backTo pos (starEach es X.env)).any (·.1)=false:=by rfl):
  PE X (.Call (.Name x p) (e::es) [] pos) (rD sp [] E0 t):=by
 obtain⟨f,fd,F,hm,hk,hb⟩:=G;exact Da F hr hg hm hk hb .nil JO ha hdb he hpl
end
def KS(K:zbY):List V->Hp->VK->Prop:=fun xs H Q=>∃x n,xs=[x]/\Jn K x H n/\Q (.int n) H
def CW(K:zbY):List V->Hp->VK->Prop:=fun xs H Q=>∃p ys,xs=[.ref p]/\(SqL K H p ys\/SqT K H p ys)/\∀l,H l=none->Q (.ref l) (upd H l (.lst ys))
section
def K4(hK:X.K=K):CallR X (.builtin "len") (KS K):=by subst hK;exact Aa
def Dt(hK:X.K=K):CallR X (.type "list") (CW K):=by subst hK;exact tN
def K5(hK:X.K=K):IxR X (vE K):=by subst hK;exact ix_list
variable{l:Expr}{tl:TE}{t:TGs}{p p2:Pos}
end
def sgn(c:Nat):V:=.str ⟨#[c]⟩
def Its(z:Str):It:=⟨fun i _=>i<z.cps.size,fun i H x H'=>H'=H/\∃c,z.cps[i]?=some c/\x=sgn c,fun i _=>z.cps.size<=i⟩
def yz(it:Addr)(z:Str)(t:Tok)(ty:String)(hty:ty="str_ascii_iterator"\/ty="str_iterator"):
  Turn P w K tg (Its z) [it] it (fun i h=>h.IsStrIter it ty z t i) where
 mem:=by simp
 obj:=fun i h st b hb=>by
  have e:b=it:=by simpa using hb
  subst e;obtain⟨o,e,c,d⟩:=st;exact⟨o,e,fun v q=>by rw[d]at q;cases q⟩
 keep:=fun i h h' st k=>let⟨o,e,r⟩:=st;⟨o,k it (by simp) o e,r⟩
 item:=by
  intro X hP hw hK hc i ρ s σ H E I hf st hg;subst hP hw hK;obtain⟨f0,f1,f2,f3,f4,f5⟩:=hf it (by simp);have W:Walks X.prog X.w X.A it [it] [it] z.cps.size (SignAt z) (fun i h=>h.IsStrIter it ty z t i):=by
   rcases hty with rfl|rfl
   ·exact Walks.strAscii (I.ok.hd hc) it z t
   ·exact Walks.strWide (I.ok.hd hc) it z t
  refine W.item i s _ _ hg st fun v h' tk hv st' kk=>?_;obtain⟨c,u,hcv,rfl⟩:=hv;have I1:Inv X ρ σ H { s with heap:=h',toks:=tk }:=I.turned (fun b o hb e=>kk b o (by simpa using hb) e) f0 f1 f3 f4 f5;obtain⟨o,e,ec,ed⟩:=id st';refine⟨_,rfl,oU (s:={ s with heap:=h',toks:=tk }) (n:=ty) e ec ed (by rcases hty with rfl|rfl<;>decide) ⟨sgn c,H,I1,⟨u,rfl⟩,⟨rfl,c,hcv,rfl⟩,st',fun b hb=>(hf b hb).1⟩⟩
 done:=by
  intro X hP hw hK hc i ρ s σ H E I hf st hg;subst hP hw hK;obtain⟨f0,f1,f2,f3,f4,f5⟩:=hf it (by simp);have hle:z.cps.size<=i:=hg;rcases hty with rfl|rfl
  ·exact wpAny_pyNext_ascii_end (I.ok.hd hc) st (by simpa using hle) fun h' he=>⟨rfl,I.turned (t':=s.toks) (fun b o hb e=>he b o hb e) f0 f1 f3 f4 f5⟩
  ·exact wpAny_pyNext_wide_end (I.ok.hd hc) st (by simpa using hle) fun h' he=>⟨rfl,I.turned (t':=s.toks) (fun b o hb e=>he b o hb e) f0 f1 f3 f4 f5⟩
 self:=fun A i s Q E st h=>by
  rcases hty with rfl|rfl
  ·exact wpAny_pyIter_striter_ascii st h
  ·exact wpAny_pyIter_striter_wide st h
def eo(z:Str):List V:=z.cps.toList.map sgn
theorem eQ:∀{xs:List V} {us:List Value},xs.length=us.length->(∀(i:Nat) x u,xs[i]?=some x->us[i]?=some u->RelV x u)->Vals xs us
 |[],[],_,_=>.nil
 |[],_::_,h,_=>by cases h
 |_::_,[],h,_=>by cases h
 |x::xs,u::us,h,f=>.cons (f 0 x u rfl rfl) (eQ (Nat.succ.inj h) fun i y v a b=>f (i+1) y v (by simpa using a) (by simpa using b))
def qm(hc:X.calm=true):CallR X (.type "list") (fun xs H Q=>∃z,xs=[.str z]/\z.cps.size<=sizeLine/\∀l,H l=none->Q (.ref l) (upd H l (.lst (eo z)))):=by
 intro ρ s σ H xs us Q I r h;obtain⟨z,rfl,hz,q⟩:=h;obtain⟨u,rfl,t,rfl⟩:=eg r;refine call_list_str (I.ok.hd hc) z t (fun h' tk acc c' hk ho hi=>?_) hz;have hl:(eo z).length=acc.toList.length:=by
  unfold eo;rw[zad,zaX,zaX,hi.1]
 have rv:Vals (eo z) acc.toList:=eQ hl fun i x v a b=>by
  obtain⟨c,tk',hcv,rfl⟩:=hi.2 i v (by simpa using b);unfold eo at a;rw[zao]at a;have e:z.cps.toList[i]?=some c:=by simpa using hcv
  rw[e]at a;cases a;exact⟨_,rfl⟩
 refine⟨.ref s.heap.objs.size,_,I.laid (t':=tk) (o:=.lst (eo z)) hk (zav _) ⟨?_,acc.toList,c',rv,by simpa using ho⟩,rfl,q _ I.fresh⟩;unfold eo;rw[zad,zaX];exact hz
def Ld(xs:List Nat)(lo hi:Option Int):List Nat:=(xs.drop (HT.sIx xs.length 0 lo)).take (HT.sIx xs.length xs.length hi-HT.sIx xs.length 0 lo)
abbrev li(z:Str):List Nat:=z.cps.toList
def mk1(c:Nat):Str:=⟨#[c]⟩
def Sub(x z:List Nat):Prop:=∀c∈x,c∈z
def xF(z y:Str):Bool:=!(Builtin.Str.occurrences z y 0 z.length 1).isEmpty
section
open PySem.SeqAt
end
theorem fq:∀(names:List (Str×NameKind)) (n:Nat) (acc:List (Str×Addr)),cellsFrom n names acc=cellsFrom n names []++acc
 |[],_,_=>rfl
 | (x,k)::r,n,acc=>by
  unfold cellsFrom;split
  ·rw[fq r (n+1) ((x,n)::acc),fq r (n+1) [(x,n)],zaD];rfl
  ·exact fq r n acc
theorem iG:∀(names:List (Str×NameKind)) (n:Nat) (acc:List (Str×Addr)) {x:Str} {c:Addr},(x,c)∈cellsFrom n names acc->(x,c)∈acc\/(x,NameKind.cell)∈names
 |[],_,_,_,_,h=>.inl h
 | (y,k)::r,n,acc,x,c,h=>by
  unfold cellsFrom at h;split at h
  ·rename_i hk;rcases iG r _ _ h with h|h
   ·rcases zay.mp h with e|e
    ·have hk':k=.cell:=by simpa using hk
     have e':=(Prod.mk.inj e).1;rw[e',<-hk'];exact .inr zaq
    ·exact .inl e
   ·exact .inr (zaj _ h)
  ·rcases iG r _ _ h with h|h
   ·exact .inl h
   ·exact .inr (zaj _ h)
theorem gC:∀(names:List (Str×NameKind)) (n:Nat) (acc:List (Str×Addr)) {p:Str×Addr},p∈acc->p∈cellsFrom n names acc
 |[],_,_,_,h=>h
 | (y,k)::r,n,acc,p,h=>by
  unfold cellsFrom;split
  ·exact gC r _ _ (zaj _ h)
  ·exact gC r _ _ h
theorem iH:∀(names:List (Str×NameKind)) (n:Nat) (acc:List (Str×Addr)) {x:Str},(x,NameKind.cell)∈names->∃c,(x,c)∈cellsFrom n names acc
 |[],_,_,_,h=>by simp at h
 | (y,k)::r,n,acc,x,h=>by
  unfold cellsFrom;rcases zay.mp h with e|e
  ·cases e;rw[if_pos (by rfl)];exact⟨n,gC r _ _ zaq⟩
  ·split
   ·exact iH r _ _ e
   ·exact iH r _ _ e
theorem sI{α:Type}:∀{a b:List (Str×α)} {x:Str} {c:α},(a++b).lookup x=some c->a.lookup x=some c\/(a.lookup x=none/\b.lookup x=some c)
 |[],_,_,_,h=>.inr ⟨rfl,h⟩
 | (n,v)::r,b,x,c,h=>by
  rw[zaY,zas]at h;rw[zas];cases e:x==n with
  |true=>rw[e]at h;exact .inl h
  |false=>rw[e]at h;exact sI h
theorem lV{α:Type}:∀{a b:List (Str×α)} {x:Str} {c:α},a.lookup x=some c->(a++b).lookup x=some c
 |[],_,_,_,h=>by simp at h
 | (n,v)::r,b,x,c,h=>by
  rw[zaY,zas];rw[zas]at h;cases e:x==n with
  |true=>rw[e]at h;exact h
  |false=>rw[e]at h;exact lV h
theorem kC{α:Type}:∀{a b:List (Str×α)} {x:Str} {c:α},a.lookup x=none->b.lookup x=some c->(a++b).lookup x=some c
 |[],_,_,_,_,h=>h
 | (n,v)::r,b,x,c,hn,h=>by
  rw[zaY,zas];rw[zas]at hn;cases e:x==n with
  |true=>rw[e]at hn;cases hn
  |false=>rw[e]at hn;exact kC hn h
abbrev aX(X:Cx)(scope:Scope)(ns:List Str)(C:Addr)(cl:List (Str×Addr))(s₀:Shared)(H₀:Hp)(fp:List Addr):Cx:=
 { X with N:=ns,s₀:=s₀,H₀:=H₀,env:=compEnvC scope cl C X.env,outer:=X.stack,ex:=fp,fn:=fun x=>scope.names.lookup x==some NameKind.cell,pn:=[],xe:=fun _ _=>False }
structure BlkOkC(X:Cx)(scope:Scope)(ns:List Str)(js:List (Option Nat)):Prop where
 kind:scope.kind=.function
 uniq:∀y∈scope.names,y.2=.cell->scope.names.lookup y.1=some .cell
 names:∀y∈scope.names,y.2=.local->scope.names.lookup y.1=some .local
 free:∀y∈scope.names,y.2=.free->X.env.kindOf y.1=some .cell\/X.env.kindOf y.1=some .free
 nd:ns.Nodup
 len:js.length=ns.length
 out:∀(i:Nat) (x:Str) (j:Nat),ns[i]?=some x->js[i]?=some (some j)->X.N[j]?=some x/\scope.names.lookup x=some .free
def vf(N:List Str)(sc scope:Scope)(ns:List Str)(js:List (Option Nat)):Bool:=
 decide (scope.kind=.function)&&scope.names.all (fun y=>decide (y.2=.cell->scope.names.lookup y.1=some .cell))&&scope.names.all (fun y=>decide (y.2=.local->scope.names.lookup y.1=some .local)) &&
 scope.names.all (fun y=>decide (y.2=.free->sc.names.lookup y.1=some .cell\/sc.names.lookup y.1=some .free))&&decide ns.Nodup&&decide (js.length=ns.length) &&
 (List.range ns.length).all (fun i=>match js[i]?,ns[i]? with
  |some (some j),some x=>decide (N[j]?=some x)&&decide (scope.names.lookup x=some .free)
  |_,_=>true)
def Ez(h7:∀i<ns.length,(match js[i]?,ns[i]? with
  |some (some j),some x=>decide (N[j]?=some x)&&decide (scope.names.lookup x=some .free)
  |_,_=>true)=true)(e1:ns[i]?=some x)(e2:js[i]?=some (some j)):N[j]?=some x/\scope.names.lookup x=some .free:=by
 have q:=h7 i (zah.mp e1).1;rw[e1,e2]at q;simpa using q
def BlkOkC.of{N0:List Str}{sc0:Scope}(hN:X.N=N0)(hS:X.env.scope=sc0)(h:vf N0 sc0 scope ns js=true):BlkOkC X scope ns js:=by
 unfold vf at h;simp only[zbk,List.all_eq_true,decide_eq_true_eq,zbp]at h;obtain⟨⟨⟨⟨⟨⟨h1,h2⟩,h3⟩,h4⟩,h5⟩,h6⟩,h7⟩:=h;refine⟨h1,fun y hy=>h2 y hy,fun y hy=>h3 y hy,fun y hy hk=>?_,h5,h6,fun i x j e1 e2=>?_⟩
 ·have q:=h4 y hy hk;rw[<-hS]at q;exact q
 ·rw[hN];exact Ez h7 e1 e2
section
variable{s:Shared}
def jo{globals:Addr}{closure:List (Str×Addr)}{qual:Str}{outer:Env}{builtins:Addr}{Q:Env->Shared->Prop}
  (hQ:Q (newEnv scope s.heap.objs.size globals (cellsFrom (s.heap.objs.size+1) scope.names closure) qual none .none (some outer) builtins) { s with heap:=pushCells (s.heap.push { cls:=.type "dict",data:=.dict #[] }) scope.names }):
  wpAny M A (newFunctionEnv scope globals closure [] qual none .none (some outer) builtins) Q E s:=by
 simp only[newFunctionEnv,Option.isSome_some,if_true];refine zam (wpAny_alloc ?_);refine zam (wpAny_layCells _ (fun name kind cells=>by cases hkc:kind==NameKind.cell<;>simp[hkc]) _ _ _ _ ?_);rw[show({ s with heap:=s.heap.push { cls:=.type "dict",data:=.dict #[] } }:Shared).heap.objs.size=s.heap.objs.size+1 from zbt ..];rw[List.forIn_nil];exact zam (zaS (zaS hQ))
end
section
variable{wi:TI}{g:TG}{tt:TT}{te:TE}
def Ad{s3:Shared}{H3:Hp}{h₁:Heap}{tk:Nat}(B:BlkOkC X scope ns js)(I3:Inv X ρ σ H3 s3)
  (f3:∀b∈fp,ji X ρ H3 b) (lt3:∀b∈fp,b<s3.heap.objs.size) (hns:h₁.Ns s3.heap.objs.size (fun _=>none)) (old:∀b u,s3.heap.get? b=some u->h₁.get? b=some u)
  (cok:CellsOk h₁ (s3.heap.objs.size+1) (cellsFrom (s3.heap.objs.size+1) scope.names [])):
  Inv (aX X scope ns s3.heap.objs.size (cellsFrom (s3.heap.objs.size+1) scope.names (dM X.env scope.names)) s3 H3 fp) [] (eI js σ) H3 { s3 with heap:=h₁,toks:=tk }:=by
 rw[fq];have hmem:∀{x:Str} {c:Addr},(x,c)∈cellsFrom (s3.heap.objs.size+1) scope.names []->scope.names.lookup x=some .cell:=fun {x c} h=>by
  rcases iG _ _ _ h with h|h
  ·simp at h
  ·exact B.uniq _ h rfl
 have hhas:∀{x:Str},scope.names.lookup x=some .cell->∃c,(cellsFrom (s3.heap.objs.size+1) scope.names []).lookup x=some c:=fun {x} h=>by
  obtain⟨c,hc⟩:=iH scope.names (s3.heap.objs.size+1) [] (zaT h);exact iE hc
 generalize cellsFrom (s3.heap.objs.size+1) scope.names []=CS at cok hmem hhas;have has:∀y∈scope.names,y.2=.free->∃c,X.env.cells.lookup y.1=some c:=fun y hy hk=>I3.ok.has y.1 (B.free y hy hk);have look:∀{n:Str} {c:Addr},(CS++dM X.env scope.names).lookup n=some c->(CS.lookup n=some c/\h₁.IsCell c none/\s3.heap.objs.size+1<=c)\/(CS.lookup n=none/\X.env.cells.lookup n=some c/\c<s3.heap.objs.size):=fun {n c} e=>by
  rcases sI e with e|⟨e1,e2⟩
  ·exact .inl ⟨e,cok.empty n c (zaT e)⟩
  ·have e3:=qP has e2;obtain⟨v,hv⟩:=I3.cell n c e3;exact .inr ⟨e1,e3,hv.lt⟩
 refine⟨⟨I3.ok.mod,B.kind,I3.ok.glob,I3.ok.blt,zav _,fun y z c h1 h2=>?_,fun y hy=>?_,fun y c hf h=>?_,I3.ok.hd,I3.ok.frames,.inl rfl,fun b hb=>?_,I3.bs,zau I3.ok.bsz I3.sz,
   fun b o e hb=>?_,fun b hb z=>?_,I3.stack,I3.stkFree⟩,
  rfl,I3.bare,Un.kept old,⟨_,hns,fun i x v h1 h2 h3=>?_⟩,fun y c h=>?_,I3.fresh,fun y c h=>?_,fun p hp=>absurd (show p∈([]:List (Addr×Obj))from hp) (by simp),I3.hok.kept old,?_⟩
 ·rcases look h1 with⟨a1,_,a3⟩|⟨_,a2,a3⟩<;>rcases look h2 with⟨b1,_,b3⟩|⟨_,b2,b3⟩
  ·exact name_of_addr cok.apart (zaT a1) (zaT b1)
  ·exact absurd (zag (zag b3 (Nat.le_succ _)) a3) (zaI _)
  ·exact absurd (zag (zag a3 (Nat.le_succ _)) b3) (zaI _)
  ·exact I3.ok.inj y z c a2 b2
 ·have hf:scope.names.lookup y=some .cell\/scope.names.lookup y=some .free:=by
   rcases hy with hy|hy
   ·rcases kq (env:=X.env) hy with q|q
    ·exact .inl q
    ·exact .inr q.1
   ·rcases kq (env:=X.env) hy with q|q
    ·exact .inr q
    ·exact .inr q.1
  show ∃c,(CS++dM X.env scope.names).lookup y=some c;rcases hf with hf|hf
  ·obtain⟨c,hc⟩:=hhas hf;exact⟨c,lV hc⟩
  ·obtain⟨c,hc⟩:=tJ (env:=X.env) (zaT hf);cases e:CS.lookup y with
   |none=>exact⟨c,kC e hc⟩
   |some d=>exact⟨d,lV e⟩
 ·rcases look h with⟨_,_,a3⟩|⟨a1,_,_⟩
  ·show s3.heap.objs.size<=c;omega
  ·have hf':(scope.names.lookup y==some NameKind.cell)=true:=hf;obtain⟨d,hd⟩:=hhas (by simpa using hf');rw[a1]at hd;cases hd
 ·refine⟨zaw (lt3 b hb),fun x c e=>?_⟩;rcases look e with⟨_,_,a3⟩|⟨_,a2,_⟩
  ·have:=lt3 b hb;intro z;subst z;exact zaI _ (zag (zag this (Nat.le_succ _)) a3)
  ·exact(f3 b hb).2.2.2.2.1 x c a2
 ·rcases(f3 b hb).2.2.2.1 with z|z
  ·exact I3.ok.noex b o e z
  ·exact absurd (zag (zag (zal e) I3.ok.bsz) z) (zaI _)
 ·rcases zay.mp (I3.stkSub b z)with q|q
  ·exact(f3 b hb).2.1 q
  ·exact(f3 b hb).2.2.1 q
 ·have h2':(js.map fun j=>match j with|some j=>(σ[j]?).join|none=>none)[i]?=some (some v):=h2;rw[zao]at h2';obtain⟨j,hj,hσ⟩:∃j,js[i]?=some (some j)/\σ[j]?=some (some v):=by
   cases e:js[i]? with
   |none=>rw[e]at h2';simp at h2'
   |some oj=>
    rw[e]at h2';cases oj with
    |none=>simp at h2'
    |some j=>
     refine⟨j,rfl,?_⟩;have q:(σ[j]?).join=some v:=by simpa using h2'
     cases e2:σ[j]? with
     |none=>rw[e2]at q;simp at q
     |some ov=>
      rw[e2]at q;simp at q;rw[q]
  obtain⟨hN,hfr⟩:=B.out i x j h1 hj;have hf:=B.free (x,.free) (zaT hfr) rfl;have hf':X.env.kindOf x=some .cell\/X.env.kindOf x=some .free:=hf;obtain⟨m,hn,hl⟩:=I3.loc;obtain⟨u,r,l⟩:=hl j x v hN hσ (by
   rcases hf' with z|z
   ·exact .inr (.inl z)
   ·exact .inr (.inr z))
  refine⟨u,r,?_⟩;rcases l with⟨hk,_⟩|⟨hk,c,hc,hcell⟩
  ·rcases hf' with z|z
   ·rw[z]at hk;cases hk
   ·rw[z]at hk;cases hk
  ·obtain⟨c',hc'⟩:=tJ (env:=X.env) (zaT hfr);have e':=qP has hc';rw[hc]at e';cases e';obtain⟨o,ho,hd⟩:=hcell;have hno:CS.lookup x=none:=by
    cases e:CS.lookup x with
    |none=>rfl
    |some d=>
     have q:=hmem (zaT e);rw[hfr]at q;cases q
   exact .inr ⟨oG (env:=X.env) hfr,c,kC hno hc',⟨o,old c o ho,hd⟩⟩
 ·rcases look h with⟨_,a2,_⟩|⟨_,a2,_⟩
  ·exact⟨_,a2⟩
  ·obtain⟨v,o,ho,hd⟩:=I3.cell y c a2;exact⟨v,o,old c o ho,hd⟩
 ·rcases look h with⟨_,_,a3⟩|⟨_,a2,_⟩
  ·exact I3.hok.fresh (by omega)
  ·exact I3.freeC y c a2
 ·show(js.map _).length=ns.length;rw[zad];exact B.len
def sK{s2:Shared}{Qv:VK}{J:It}{it:Addr}{tn:Nat->Heap->Prop}{RR:Value->Addr->Result->Shared->Prop}
  (B:BlkOkC X scope ns js) (hc:X.calm=true) (I2:Inv X ρ σ H2 s2) (T:Turn X.prog X.w X.K tg J fp it tn) (st2:tn 0 s2.heap) (f2:∀b∈fp,ji X ρ H2 b)
  (hg:∀C cl s₀ H₀ fp,PG (aX X scope ns C cl s₀ H₀ fp) tg g) (ht:∀C cl s₀ H₀ fp,PTs (aX X scope ns C cl s₀ H₀ fp) ifs tt) (he:∀C cl s₀ H₀ fp,PE (aX X scope ns C cl s₀ H₀ fp) elt te)
  (hw:∀D,H2 D=none->vT J g tt te (eI js σ) H2 D Qv)
  (hRR:∀D C s' H',Inv X ρ σ H' s'->Qv (.ref D) H'->(∃m,s'.heap.Ns C m)->H' C=none->C≠X.env.locals->X.s₀.heap.objs.size<=C->(∀x c,X.env.cells.lookup x=some c->c≠C)->(∀p∈X.pn++ρ,p.1≠C)->RR (.ref D) C (.ok .next) s'):
  wpAny (model X.prog X.w) X.A (newList []) (fun acc s₃=>wpAny (model X.prog X.w) X.A (newFunctionEnv scope X.env.globals (dM X.env scope.names) [] X.env.qual none .none (some X.env)) (fun cenv s₄=>
   codeAny (model X.prog X.w) X.A (.compStart (.ListComp elt [⟨tg,iter,ifs,0⟩] scope pos) 0 (.ref it) acc { cenv with scope:=relabel scope X.env }) (RR acc cenv.locals) s₄) X.xe s₃) X.xe s2:=by
 refine wpAny_newObj_type (jo ?_)
 dsimp only
 have I3:Inv X ρ σ (upd H2 s2.heap.objs.size (.lst [])) { s2 with heap:=s2.heap.push { cls:=.type "list",data:=.seq ([]:List Value).toArray },toks:=s2.toks }:=I2.lnew .nil (zbh _);generalize hs3:({ s2 with heap:=s2.heap.push { cls:=.type "list",data:=.seq ([]:List Value).toArray },toks:=s2.toks }:Shared)=s3 at I3;have e3:s3.heap=s2.heap.push { cls:=.type "list",data:=.seq ([]:List Value).toArray }:=by rw[<-hs3]
 have k3:∀b u,s2.heap.get? b=some u->s3.heap.get? b=some u:=fun b u e=>by rw[e3];exact zaf _ e
 have sz3:s3.heap.objs.size=s2.heap.objs.size+1:=by rw[e3,zbt]
 have hD:H2 s2.heap.objs.size=none:=I2.fresh;obtain⟨h₁,hh₁⟩:∃h₁,h₁=pushCells (s3.heap.push { cls:=.type "dict",data:=.dict #[] }) scope.names:=⟨_,rfl⟩;have old:∀b u,s3.heap.get? b=some u->h₁.get? b=some u:=fun b u e=>by
  rw[hh₁];exact pushCells_keeps _ _ b u (zaf _ e)
 have hns:h₁.Ns s3.heap.objs.size (fun _=>none):=by
  rw[hh₁];exact(Heap.Ns.new s3.heap (.type "dict")).keeps (pushCells_keeps _ _)
 have cok:CellsOk h₁ (s3.heap.objs.size+1) (cellsFrom (s3.heap.objs.size+1) scope.names []):=by
  have q:=cellsFrom_ok scope.names (s3.heap.push { cls:=.type "dict",data:=.dict #[] }) (s3.heap.objs.size+1) [] ⟨fun _ _ hm=>(nomatch hm),List.Pairwise.nil⟩ (by rw[zbt];exact zav _);rw[zbt,<-hh₁]at q;exact q
 have obj2:∀b∈fp,b<s2.heap.objs.size:=fun b hb=>let⟨o,e,_⟩:=T.obj 0 _ st2 b hb;zal e;have f3:∀b∈fp,ji X ρ (upd H2 s2.heap.objs.size (.lst [])) b:=fun b hb=>⟨by rw[az (zaw (obj2 b hb))];exact(f2 b hb).1,(f2 b hb).2⟩;have lt3:∀b∈fp,b<s3.heap.objs.size:=fun b hb=>by rw[sz3];exact Nat.lt_succ_of_lt (obj2 b hb)
 obtain⟨W,⟨m0,w0⟩,turn⟩:=hw _ hD;have J0:=fun tk=>Ad (tk:=tk) B I3 f3 lt3 hns old cok;have has:∀y∈scope.names,y.2=.free->∃c,X.env.cells.lookup y.1=some c:=fun y hy hk=>I2.ok.has y.1 (B.free y hy hk);have stat:∀{H':Hp},(∀b∈fp,H' b=none)->∀b∈fp,ji (aX X scope ns s3.heap.objs.size (cellsFrom (s3.heap.objs.size+1) scope.names (dM X.env scope.names)) s3 (upd H2 s2.heap.objs.size (.lst [])) fp) [] H' b:=fun hn b hb=>
  ⟨hn b hb,zaw (lt3 b hb),(J0 0).ok.exfs b hb,.inl hb,fun x c e=>(J0 0).ok.exf b hb |>.2 x c e,fun p hp=>absurd (show p∈([]:List (Addr×Obj))from hp) (by simp)⟩
 have fin:∀{τ:St} {H':Hp} {s':Shared},Inv (aX X scope ns s3.heap.objs.size (cellsFrom (s3.heap.objs.size+1) scope.names (dM X.env scope.names)) s3 (upd H2 s2.heap.objs.size (.lst [])) fp) [] τ H' s'->Qv (.ref s2.heap.objs.size) H'->RR (.ref s2.heap.objs.size) s3.heap.objs.size (.ok .next) s':=fun {τ H' s'} I6 q=>by
  have u1:Un (frs X.stack) fp H2 (upd H2 s2.heap.objs.size (.lst [])) s2.heap s3.heap:=Un.laid k3 (zav _) hD;have os3:s3.os=s2.os:=by rw[<-hs3]
  have I7:Inv X ρ σ H' s':=I2.call' (ch:=fp) (I6.os.trans os3) (u1.trans I6.base) I6.hok I6.bare fun b hb=>⟨(f2 b hb).2.2.2.1,(f2 b hb).2.1,(f2 b hb).2.2.2.2.1,(f2 b hb).2.2.2.2.2⟩;have le2:s2.heap.objs.size<=s3.heap.objs.size:=by rw[sz3];exact Nat.le_succ _
  refine hRR _ _ s' H' I7 q ?_ I6.free (Nat.ne_of_gt (zag I2.lt le2)) (zau I2.sz le2) (fun x c e z=>?_) fun p hp z=>?_
  ·obtain⟨m,hn,_⟩:=I6.loc;exact⟨m,hn⟩
  ·obtain⟨v,hv⟩:=I2.cell x c e;exact absurd (zag hv.lt (by rw[z];exact le2)) (zaI _)
  ·exact absurd (zag (zal (I2.pin p hp).1) (by rw[z];exact le2)) (zaI _)
 rw[<-e3,<-hh₁];have loop:∀tk,codeAny (model X.prog X.w) X.A (.compLoop (.ListComp elt [⟨tg,iter,ifs,0⟩] scope pos) 0 (.ref it) (.ref s2.heap.objs.size) (compEnvC scope (cellsFrom (s3.heap.objs.size+1) scope.names (dM X.env scope.names)) s3.heap.objs.size X.env))
   (RR (.ref s2.heap.objs.size) s3.heap.objs.size) { s3 with heap:=h₁,toks:=tk }:=fun tk=>by
  refine codeAny_loop rfl (fun n s'=>∃i τ H',Inv (aX X scope ns s3.heap.objs.size (cellsFrom (s3.heap.objs.size+1) scope.names (dM X.env scope.names)) s3 (upd H2 s2.heap.objs.size (.lst [])) fp) [] τ H' s'/\tn i s'.heap/\(∀b∈fp,H' b=none)/\W i n τ H') (fun n s5 hI=>?_) m0
   ⟨0,_,_,J0 tk,T.keep _ _ _ st2 fun b _ o e=>old b o (k3 b o e),fun b hb=>(f3 b hb).1,w0⟩
  obtain⟨i,τ,H5,I5,st5,fr5,w5⟩:=hI;show wpAny _ X.A ((compTurn (.ListComp elt [⟨tg,iter,ifs,0⟩] scope pos) 0 (.ref it) (.ref s2.heap.objs.size) (compEnvC scope (cellsFrom (s3.heap.objs.size+1) scope.names (dM X.env scope.names)) s3.heap.objs.size X.env)).onRaise (fun x=>do noteFrame x (compEnvC scope (cellsFrom (s3.heap.objs.size+1) scope.names (dM X.env scope.names)) s3.heap.objs.size X.env);theTreesLotGoes x)) _ _ s5;refine wpAny_noted ?_;rw[compTurn_list];refine zam (wpAny_standAt (zam ?_));rcases turn i n τ H5 w5 with⟨stop,qn⟩|⟨go,N,hN,step⟩
  ·refine thn (T.done (aX X scope ns s3.heap.objs.size (cellsFrom (s3.heap.objs.size+1) scope.names (dM X.env scope.names)) s3 (upd H2 s2.heap.objs.size (.lst [])) fp) rfl rfl rfl hc i [] s5 τ H5 _ I5 (stat fr5) st5 stop) ?_;rintro r s6 ⟨hr,I6⟩;subst hr;exact zaS (fin I6 qn)
  ·refine thn (T.item (aX X scope ns s3.heap.objs.size (cellsFrom (s3.heap.objs.size+1) scope.names (dM X.env scope.names)) s3 (upd H2 s2.heap.objs.size (.lst [])) fp) rfl rfl rfl hc i [] s5 τ H5 _ I5 (stat fr5) st5 go) ?_;rintro r s6 ⟨u,hr,h6⟩;subst hr
   dsimp only
   refine zam (thn h6 fun _ s7 ⟨x,H7,I7,r7,y7,st7,fr7⟩=>?_);have I7':=I7.pinned (stat fr7) (T.obj _ _ st7);have back:∀{τ9:St} {H9:Hp} {s9:Shared},Inv (aX X scope ns s3.heap.objs.size (cellsFrom (s3.heap.objs.size+1) scope.names (dM X.env scope.names)) s3 (upd H2 s2.heap.objs.size (.lst [])) fp) ([]++lJ fp s7.heap) τ9 H9 s9 ->
     Inv (aX X scope ns s3.heap.objs.size (cellsFrom (s3.heap.objs.size+1) scope.names (dM X.env scope.names)) s3 (upd H2 s2.heap.objs.size (.lst [])) fp) [] τ9 H9 s9/\tn (i+1) s9.heap/\∀b∈fp,H9 b=none:=fun {τ9 H9 s9} I9=>by
    refine⟨I9.unpinned,T.keep _ _ _ st7 fun b hb o e=>(I9.pin (b,o) (zbe _ (zbe _ (iS hb e)))).1,fun b hb=>?_⟩;obtain⟨o,e,d⟩:=T.obj _ _ st7 b hb;exact(I9.pin (b,o) (zbe _ (zbe _ (iS hb e)))).2.1
   refine zam (thF (hg _ _ _ _ _ _ s7 τ H7 x u _ I7' r7 (step x H7 y7)) fun _ s8 ⟨τ8,H8,I8,q8⟩=>?_);refine zam (thF (ht _ _ _ _ _ _ s8 τ8 H8 _ I8 q8) fun b s9 ⟨H9,I9,q9⟩=>?_);cases b with
   |false=>
    rw[if_neg zbl]at q9;obtain⟨m',hm,w9⟩:=hN _ _ q9;obtain⟨a1,a2,a3⟩:=back I9;exact zaS ⟨rfl,m',hm,i+1,τ8,H9,a1,a2,a3,w9⟩
   |true=>
    rw[if_pos rfl]at q9;refine zam (zam (thF (he _ _ _ _ _ _ s9 τ8 H9 _ I9 q9) fun v s10 ⟨y,H10,I10,r10,q10⟩=>?_));obtain⟨xs,hx,hz,n10⟩:=q10;obtain⟨m',hm,w10⟩:=hN _ _ n10;refine zam (thF (jr _ s10 τ8 H10 (.ref s2.heap.objs.size) [y] (.ref s2.heap.objs.size) [v] (fun _ H11=>W (i+1) m' τ8 H11) I10 rfl (.cons r10 .nil) ⟨_,xs,y,rfl,rfl,hx,hz,w10⟩) fun _ s11 ⟨_,H11,I11,_,q11⟩=>?_);obtain⟨a1,a2,a3⟩:=back I11;exact zaS (zaS ⟨rfl,m',hm,i+1,τ8,H11,a1,a2,a3,q11⟩)
 have hst1:tn 0 h₁:=T.keep _ _ _ st2 fun b _ o e=>old b o (k3 b o e);subst hs3;exact codeAny_compStart_list (loop _) (T.self _ 0 _ _ _ hst1 (loop _))
def Hf(B:BlkOkC X scope ns js)(hc:X.calm=true)(hi:PI X tg iter wi)
  (hg:∀C cl s₀ H₀ fp,PG (aX X scope ns C cl s₀ H₀ fp) tg g) (ht:∀C cl s₀ H₀ fp,PTs (aX X scope ns C cl s₀ H₀ fp) ifs tt) (he:∀C cl s₀ H₀ fp,PE (aX X scope ns C cl s₀ H₀ fp) elt te)
  (hs:∀x,foldedSetIterable iter X.env x=pure x:=by intro _;rfl):PE X (.ListComp elt [⟨tg,iter,ifs,0⟩] scope pos) (tLC wi g tt te js):=by
 intro ρ s σ H Q I h;rw[eval_ListComp];have xZ:=pk (scope:=scope) (env:=X.env) (fun y hy hk=>I.ok.has y.1 (B.free y hy hk));refine wpAny_comprehension_free (use:=none) rfl hs xZ B.kind B.names (thn (hi ρ s σ H _ I h) fun v s1 h1=>thn h1 fun itv s2 h2=>?_);obtain⟨it,fp,tn,J,H2,e,I2,T,st2,f2,hw⟩:=h2;subst e;refine sK (RR:=fun acc C=>compPost (model X.prog X.w) X.A X.xe none (EP X ρ σ Q) acc C) B hc I2 T st2 f2 hg ht he hw ?_;intro D C s' H' I' q hm c0 c1 c2 c3 c4;obtain⟨m,hn⟩:=hm;exact⟨m,hn,fun h' hs'=>⟨.ref D,H',I'.turned (t':=s'.toks) (fun b o hb e=>(hs'.2 b hb).trans e) c0 c1 (.inr c2) c3 c4,rfl,q⟩⟩
def qC(hN:X.N.Nodup)(hi':X.N[i]?=some x)(hx:X.env.scope.names.lookup x=some .local)(B:BlkOkC X scope ns js)(hc:X.calm=true)(hi:PI X tg iter wi)
  (hg:∀C cl s₀ H₀ fp,PG (aX X scope ns C cl s₀ H₀ fp) tg g) (ht:∀C cl s₀ H₀ fp,PTs (aX X scope ns C cl s₀ H₀ fp) ifs tt) (he:∀C cl s₀ H₀ fp,PE (aX X scope ns C cl s₀ H₀ fp) elt te)
  (hsw:swapsWith (.ListComp elt [⟨tg,iter,ifs,0⟩] scope pos) (some (.Name x pos')) ζ.line X.env=pure true:=by rfl)
  (hs:∀x,foldedSetIterable iter X.env x=pure x:=by intro _;rfl):PS X (.Assign [.Name x pos'] (.ListComp elt [⟨tg,iter,ifs,0⟩] scope pos) ζ) (pQ (tLC wi g tt te js) (oW i)):=by
 intro ρ s σ H D I h;rw[exec_Assign_Name_used _ _ _ _ hsw];have xZ:=pk (scope:=scope) (env:=X.env) (fun y hy hk=>I.ok.has y.1 (B.free y hy hk));refine zam (wpAny_standAt (zam ?_));show wpAny _ X.A (do let _ <-comprehension (.ListComp elt [⟨tg,iter,ifs,0⟩] scope pos) scope X.env _ (newList []) false (eval iter X.env) (some (assign (.Name x pos') X.env))) _ _ s;refine zam (wpAny_mono (wpAny_comprehension_free (use:=some (assign (.Name x pos') X.env)) (Q:=fun _ s'=>SP X ρ D .next s') rfl hs xZ B.kind B.names
  (thn (hi ρ s σ H _ I h) fun v s1 h1=>thn h1 fun itv s2 h2=>?_)) (fun _ s' hq=>zaS (zaS hq)) fun _ _ e=>e)
 obtain⟨it,fp,tn,J,H2,e,I2,T,st2,f2,hw⟩:=h2;subst e;refine sK (RR:=fun acc C=>compPost (model X.prog X.w) X.A X.xe (some (assign (.Name x pos') X.env)) (fun _ s'=>SP X ρ D .next s') acc C) B hc I2 T st2 f2 hg ht he hw ?_;intro D' C s' H' I' q hm c0 c1 c2 c3 c4;obtain⟨m,hn⟩:=hm;show wpAny _ X.A (assign (.Name x pos') X.env (.ref D')) _ _ _;refine wpAny_assign_Name (qA (v:=.ref D') I' hN hi' (.inl hx) rfl (fun s4 I4 ⟨a,hsb,ha⟩=>?_) (.inr hx));have ne:C≠a:=by
  rcases ha with z|z
  ·rw[z];exact c1
  ·exact(c3 x a z).symm
 exact⟨m,hn.sameBut hsb ne,fun h' hs'=>⟨_,H',I4.turned (t':=s4.toks) (fun b o hb e=>(hs'.2 b hb).trans e) c0 c1 (.inr c2) c3 c4,q⟩⟩
end
mutual
def DV(H:Hp):V->PyData->Prop
 |v,.none=>v=.non
 |v,.bool b=>v=.bl b
 |v,.int i=>v=.int i
 |v,.str x=>v=.str x
 |v,.list ds=>∃a xs,v=.ref a/\H a=some (.lst xs)/\DVs H xs ds
 |v,.tuple ds=>∃a xs,v=.ref a/\H a=some (.tup xs)/\DVs H xs ds
 |_,.dict _=>False
def DVs(H:Hp):List V->List PyData->Prop
 |vs,[]=>vs=[]
 |vs,d::ds=>∃v r,vs=v::r/\DV H v d/\DVs H r ds
end
section
variable{s:Shared}
def vw{vals:Array Value}{y:Value}{R:Value->Shared->Prop}(a1:s.heap.IsTupleIter jt tu n)(a2:s.heap.IsTuple tu vals)(a3:vals[n]?=some y)
  (q:∀g,g.IsTupleIter jt tu (n+1)->Heap.SameBut jt s.heap g->R y { s with heap:=g }):wpAny (model prog w) A (Builtin.SmallTypes.nextOf (.ref jt)) R E s:=by
 obtain⟨ob,b1,b2,b3⟩:=id a1;obtain⟨ot,c1,_,m,c2⟩:=a2;unfold Builtin.SmallTypes.nextOf;refine zam (zbz (name:=Str.ofString "__next__") a1.typeIs F.slot_tuple_iterator_next (wpAny_call_entry F.slot_tuple_iterator_next a1.typeIs F.entry_tuple_iterator_next ?_ (F.args_tuple_iterator_next_1 _)));show wpAny _ _ (field (.ref jt) 0 >>= _) _ _ s;refine zam (wpAny_field b1 b3 (x:=.ref tu) rfl ?_);show wpAny _ _ (if(Value.ref tu==Value.none)=true then _ else _) _ _ s;rw[if_neg (show ¬((Value.ref tu==Value.none)=true)from zbl)];show wpAny _ _ (field (.ref jt) 1 >>= _) _ _ s;refine zam (wpAny_field b1 b3 (x:=.int n 0) rfl ?_);show wpAny _ _ (seqItems? (.ref tu) >>= _) _ _ s;refine zam (wpAny_seqItems c1 c2 ?_);simp only[zaK,a3];refine zam (wpAny_setField b1 b3 (by simp) (zaS ⟨y,rfl,zaS (q _ ?_ (Heap.SameBut.update ..))⟩));refine⟨_,Heap.get?_update_self _ b1 (Obj.isFreed_of_fields (Obj.data_mapFields b3 _)),(Obj.cls_mapFields ..).trans b2,?_⟩;rw[Obj.data_mapFields b3];simp[rawInt]
def qz{vals:Array Value}{R:Value->Shared->Prop}(hh:A.handled=none)(a1:s.heap.IsTupleIter jt tu n)(a2:s.heap.IsTuple tu vals)(a3:vals[n]?=none)
  (q:∀g e,Heap.ExtBut jt s.heap g->(∃o,g.get? e=some o/\o.cls=.type "StopIteration")->E (.ref e) { s with heap:=g }):wpAny (model prog w) A (Builtin.SmallTypes.nextOf (.ref jt)) R E s:=by
 obtain⟨ob,b1,b2,b3⟩:=id a1;obtain⟨ot,c1,_,m,c2⟩:=a2;unfold Builtin.SmallTypes.nextOf;refine zam (zbz (name:=Str.ofString "__next__") a1.typeIs F.slot_tuple_iterator_next (wpAny_call_entry F.slot_tuple_iterator_next a1.typeIs F.entry_tuple_iterator_next ?_ (F.args_tuple_iterator_next_1 _)));show wpAny _ _ (field (.ref jt) 0 >>= _) _ _ s;refine zam (wpAny_field b1 b3 (x:=.ref tu) rfl ?_);show wpAny _ _ (if(Value.ref tu==Value.none)=true then _ else _) _ _ s;rw[if_neg (show ¬((Value.ref tu==Value.none)=true)from zbl)];show wpAny _ _ (field (.ref jt) 1 >>= _) _ _ s;refine zam (wpAny_field b1 b3 (x:=.int n 0) rfl ?_);show wpAny _ _ (seqItems? (.ref tu) >>= _) _ _ s;refine zam (wpAny_seqItems c1 c2 ?_);simp only[zaK,a3];refine zam (wpAny_rule (zam (wpAny_setField b1 b3 (by simp) ?_)));show wpAny _ _ (newExc (.type "StopIteration") [] >>= _) _ _ _;refine zam ?_;simp only[newExc,newTuple];refine zam (wpAny_newObj_type ?_ (by show(0:Nat)<=_;exact zbh _));refine zam (m:=firstArgMember _ _) (wpAny_of_eq (a:=Value.none) (by first|rfl | (simp only[firstArgMember];rfl)) ?_);refine wpAny_newObj_type ?_;simp only[raiseNew];refine zam (wpAny_handled ?_)
 first|rw[show A.in1.handled=none from hh]|rw[hh]
 refine zam (zaS (wpAny_throw ?_));exact q _ _ (((Heap.SameBut.update ..).extBut.push _).push _) ⟨_,zan _ rfl,rfl⟩
def yc(hh:A.handled=none)(jt tu:Addr)(hne:tu≠jt)(vals:Array Value):Draws prog w A jt [jt,tu] vals.size (fun i v=>vals[i]?=some v) (fun i h=>h.IsTupleIter jt tu i/\h.IsTuple tu vals) where
 live:=fun _ _ st=>let⟨o,ho,_⟩:=st.1;⟨o,ho⟩
 frame:=fun _ _ _ st hk=>⟨st.1.at fun o e=>hk jt (by simp) o e,let⟨o,ho,r⟩:=st.2;⟨o,hk tu (by simp) o ho,r⟩⟩
 item:=fun i s Q E hi st hQ=>by
  refine vw st.1 st.2 (y:=vals[i]) (by simp[hi]) fun g st' sb=>?_;exact hQ _ g s.toks (by simp[hi]) ⟨st',let⟨o,ho,r⟩:=st.2;⟨o,sb.extBut _ _ hne ho,r⟩⟩ sb
 done:=fun s Q E st hE=>qz hh st.1 st.2 (by simp) hE
end
def p7(tu:Addr)(vals:Array Value)(n:Nat)(dct:Option Addr)(sl:Array (Option Value)):
  Meets (Builtin.«enumerate.__new__» ⟨[.type "enumerate",.ref tu],[]⟩) (fun _ R s=>s.heap.get? tu=some { cls:=.type "tuple",dict:=dct,data:=.seq vals n,slots:=sl } /\
   R (.ok (.ret (.ref (s.heap.push { cls:=.type "tuple_iterator",data:=.fields #[.ref tu,.int 0 0] }).objs.size)))
    { s with heap:=(s.heap.push { cls:=.type "tuple_iterator",data:=.fields #[.ref tu,.int 0 0] }).push { cls:=.type "enumerate",data:=.fields #[.none,.bool false,.ref s.heap.objs.size,rawInt 0,.none,.none] } }):=
 .of_wp fun prog w A R s h=>by
  obtain⟨hp,g,d,tk,os⟩:=s;obtain⟨ht,h⟩:=h;have hsub:=sub_enumerate;have hT:Heap.IsTuple (Shared.heap ⟨hp,g,d,tk,os⟩) tu vals:=⟨_,ht,rfl,n,rfl⟩
  wp_walk using AutoSeq1.wpAny_loadPart' ht
  refine wpAny_stack_any fun st=>zaS ?_;split
  ·rename_i c _ _ _ _ _;cases(c==Value.type "enumerate")
   ·wp_walk using AutoSeq1.wpAny_loadPart' ht,wpAny_pyIter_tuple hT
    exact⟨_,rfl,h⟩
   ·wp_walk using AutoSeq1.wpAny_loadPart' ht,wpAny_pyIter_tuple hT
    exact⟨_,rfl,h⟩
  ·wp_walk using AutoSeq1.wpAny_loadPart' ht,wpAny_pyIter_tuple hT
   exact⟨_,rfl,h⟩
section
variable{s:Shared}
def rp{vals:Array Value}{Q:Value->Shared->Prop}(hT:s.heap.IsTuple tu vals)
  (h:∀g,IsEnum g (s.heap.objs.size+1) s.heap.objs.size 0 .none->g.IsTupleIter s.heap.objs.size tu 0->g.objs.size=s.heap.objs.size+2 ->
   (∀b o,s.heap.get? b=some o->g.get? b=some o)->Q (.ref (s.heap.objs.size+1)) { s with heap:=g }):
  wpAny (model prog w) A (call (.type "enumerate") [.ref tu]) Q E s:=by
 obtain⟨⟨c,dct,dt,sl⟩,hl,hc,n,hd⟩:=hT;have hc':c=.type "tuple":=hc;have hd':dt=.seq vals n:=hd;subst hc' hd';refine callType_new F.called_enumerate (by decide) (F.typeCall_enumerate_1 _) (F.newCall_enumerate_1 _) (fun ob=>F.args_object_init_2 ob _) F.entry_enumerate_new (p7 tu vals n dct sl) ⟨hl,?_⟩;have sz1:(s.heap.push { cls:=.type "tuple_iterator",data:=.fields #[.ref tu,.int 0 0] }).objs.size=s.heap.objs.size+1:=zbt ..;show _/\_;rw[sz1];have g2:=zan (s.heap.push { cls:=.type "tuple_iterator",data:=.fields #[.ref tu,.int 0 0] }) (o:={ cls:=.type "enumerate",data:=.fields #[.none,.bool false,.ref s.heap.objs.size,rawInt 0,.none,.none] }) rfl;rw[sz1]at g2;refine⟨⟨_,g2,rfl⟩,h _ g2 ⟨_,zaf _ (zan _ rfl),rfl,rfl⟩ (by rw[zbt,sz1]) fun b o x=>zaf _ (zaf _ x)⟩
def yb{e it:Addr}{i:Int}{vals:Array Value}{old:Value}{Q:Option Value->Shared->Prop}(hh:A.handled=none)(he:IsEnum s.heap e it i old)(a1:s.heap.IsTupleIter it tu n)(a2:s.heap.IsTuple tu vals)(a3:vals[n]?=none)
  (q:∀g,Heap.ExtBut it s.heap g->Q none { s with heap:=g }):wpAny (model prog w) A (pyNext (.ref e)) Q E s:=by
 have ty:s.TypeIs (.ref e) "enumerate":=⟨_,he,rfl⟩;unfold pyNext;refine zam (wpAny_attempt (zbz (name:=Str.ofString "__next__") ty F.slot_enumerate_next (wpAny_call_entry F.slot_enumerate_next ty F.entry_enumerate_next ?_ (F.args_enumerate_next_1 _))));show wpAny _ _ (field (.ref e) 2 >>= _) _ _ _;refine zam (wpAny_field he rfl (x:=.ref it) rfl ?_);refine zam (qz hh a1 a2 a3 fun g x k hx=>?_);obtain⟨o,ho,hc⟩:=hx;exact zam (wpAny_isInstance (T:="StopIteration") (b:=true) ⟨o,ho,hc⟩ isSubtype_stop (zaS (q _ k)))
end
def ItT(K:zbY)(a:Addr):It:=
 ⟨fun i H=>∃xs x,SqT K H a xs/\xs[i]?=some x,
  fun i H y H'=>∃p x,y=.ref p/\H p=none/\H'=upd H p (.tup [.int i,x])/\∀xs,SqT K H a xs->xs[i]?=some x,
  fun i H=>∃xs,SqT K H a xs/\xs.length<=i⟩
def vv(a e it:Addr)(hei:e≠it)(hai:a≠it):
  Turn P w K (.Tuple elts k tp) (ItT K a) [e,it] e (fun i h=>(∃old,IsEnum h e it i old)/\h.IsTupleIter it a i) where
 mem:=by simp
 obj:=fun i h st b hb=>by
  obtain⟨⟨old,he⟩,o,ho,hc,hd⟩:=st;have hb':b=e\/b=it:=by simpa using hb
  rcases hb' with rfl|rfl
  ·exact⟨_,he,fun v z=>by
    have z':Data.fields _=Data.cell v:=z;cases z'⟩
  ·exact⟨o,ho,fun v z=>by rw[hd]at z;cases z⟩
 keep:=fun i h h' st kp=>⟨let⟨old,he⟩:=st.1;⟨old,kp e (by simp) _ he⟩,st.2.at fun o q=>kp it (by simp) o q⟩
 item:=by
  intro X hP hw hK hc i ρ s σ H E I hf st hg;subst hP hw hK;obtain⟨xs,x,hq,hx⟩:=hg;obtain⟨its,rv,pt,hz⟩:=I.tuple hq;obtain⟨u,hu,ru⟩:=rv.get hx;obtain⟨⟨old,he⟩,hit⟩:=st;have hT:s.heap.IsTuple a its.toArray:=pt;have hea:e≠a:=fun z=>by
   subst z;obtain⟨o,e1,e2,_⟩:=id hT;have he':s.heap.get? e=some _:=he;rw[e1]at he';cases he';simp at e2
  have hu':its.toArray[i]?=some u:=by simpa using hu
  have hlt:i<its.toArray.size:=(Array.getElem?_eq_some_iff.mp hu').1;refine wpAny_pyNext_enum_itemD (yc (A:=X.A.in1) (show X.A.in1.handled=none from I.ok.hd hc) it a hai its.toArray) he ⟨hit,hT⟩ hlt hei (by simp[hei,hea]) fun y h1 tk hy ho1 st1 ht1 hz1 hk1=>?_;rw[hu']at hy;cases hy;refine⟨_,rfl,wpAny_letOwnedTupleGo_enum ho1 fun h2 he2 hs2=>?_⟩;have eL:e<s.heap.objs.size:=zal he;have ht2:h2.get? s.heap.objs.size=some { cls:=.type "tuple",data:=.seq #[.int i tk,u] }:=(hs2.2 _ (Nat.ne_of_gt eL)).trans ht1;have hit2:h2.IsTupleIter it a (i+1):=st1.1.at fun o q=>hs2.extBut _ _ hei.symm q;have I2:Inv X ρ σ (upd H s.heap.objs.size (.tup [.int i,x])) { s with heap:=h2,toks:=tk+1 }:=by
   refine I.turnedLaid (fp:=[e,it]) hf (zav _) (fun b ob hb q=>?_) (fun b hb=>?_) ?_
   ·have h1:b≠e:=fun z=>hb (by simp[z]);have h2':b≠it:=fun z=>hb (by simp[z]);exact(hs2.2 b h1).trans (hk1 b ob h1 h2' q)
   ·have hb':b=e\/b=it:=by simpa using hb
    rcases hb' with rfl|rfl
    ·exact⟨_,he2⟩
    ·obtain⟨o,ho,_⟩:=hit2;exact⟨o,ho⟩
   ·refine⟨(by show 2<=sizeLine;decide),[.int i tk,u],.cons ⟨_,rfl⟩ (.cons ru .nil),?_⟩;exact⟨_,ht2,rfl,_,rfl,rfl⟩
  have fr:∀b∈[e,it],upd H s.heap.objs.size (.tup [.int i,x]) b=none:=fun b hb=>by
   have hlt:b<s.heap.objs.size:=by
    have hb':b=e\/b=it:=by simpa using hb
    rcases hb' with rfl|rfl
    ·exact eL
    ·obtain⟨o,ho,_⟩:=hit;exact zal ho
   rw[az (zaw hlt)];exact(hf b hb).1
  exact⟨.ref s.heap.objs.size,_,I2,rfl,⟨_,x,rfl,I.fresh,rfl,fun ys hy=>by rw[I.tuple_inj hy hq];exact hx⟩,⟨⟨_,he2⟩,hit2⟩,fr⟩
 done:=by
  intro X hP hw hK hc i ρ s σ H E I hf st hg;subst hP hw hK;obtain⟨xs,hq,hx⟩:=hg;obtain⟨its,rv,pt,hz⟩:=I.tuple hq;obtain⟨⟨old,he⟩,hit⟩:=st;obtain⟨f0,f1,f2,f3,f4,f5⟩:=hf it (by simp);have hl:=rv.length;have hT:s.heap.IsTuple a its.toArray:=pt;exact yb (I.ok.hd hc) he hit hT (by simp;omega) fun h' eb=>⟨rfl,I.turned (t':=s.toks) (fun b o hb q=>eb b o hb q) f0 f1 f3 f4 f5⟩
 self:=fun _ _ _ _ _ st h=>let⟨⟨_,he⟩,_⟩:=st;wpAny_pyIter_enum he h
section
open PySem.SeqAt
end
def Rp(H:Hp)(v:V)(txt:Str):Prop:=(∃d,DV H v d/\d.showable=true/\d.depth<=60/\d.shown.length<=sizeLine/\txt=d.shown)\/∃a,v=.ref a/\Rd H a (.dK [])/\txt=("{}":Str)
abbrev D:=PyData
variable{t t1 t2:D}{ks:List (D×D)}{g g':D->D->Option D}{ts us:List D}
abbrev En:=List (Option D)
variable{en en' en1 en2:En}
abbrev AS:=Addr->Prop
variable{R R' R1:Nat->AS}{O O' G F2 Ox Ox' F1 F0 F' O1:AS}
def dn:Nat->Nat
 |0=>0
 |1=>0
 |2=>1
 |n+3=>n+3
def qk:∀{a b:Nat},a<=b->dn a<=dn b
 |0,_,_=>zbh _
 |1,_,_=>zbh _
 |2,2,_=>zav _
 |2,b+3,_=>by show 1<=b+3;omega
 |a+3,b+3,h=>h
 |a+3,0,h=>by omega
 |a+3,1,h=>by omega
 |a+3,2,h=>by omega
 |2,0,h=>by omega
 |2,1,h=>by omega
def kD:Key->D
 |.inl i=>.int i
 |.inr x=>.str x
def FzL(K:zbY)(O:AS)(H:Hp)(a:Addr)(vs:List V):Prop:=(Rd H a (.lst vs)/\¬O a)\/∀H',SqL K H' a vs
def FzT(K:zbY)(O:AS)(H:Hp)(a:Addr)(vs:List V):Prop:=H a=some (.tup vs)/\¬O a
def FzL.sq(h:FzL K O H a vs):SqL K H a vs:=h.elim (fun h=>.inl h.1) fun h=>h H
def FzT.sq(h:FzT K O H a vs):SqT K H a vs:=SqT.of h.1
def IZ(a C:Addr):Heap->Prop:=fun h=>∃o,h.get? a=some o/\o.cls=.ref C/\∀c,o.data≠.cls c
def TupD(K:zbY)(H:Hp)(O:AS)(ks:List (D×D))(a:Addr):Prop:=(∃(kk:List Key) (b:Bool),ks=[(.tuple (kk.map kD),.bool b)]/\H a=some (.dT [(kk,.bl b)])/\¬O a) \/
 ∃(x:Str) (C:Addr),ks=[(.none,.str x)]/\PySem.W.nsIn K mainGlobals x=some (some (.ref C))/\H a=some (.ext (IZ a C))/\¬O a
def TupD.to(h:TupD K H O ks a)(k:∀o,H a=some o->¬O a->H' a=some o/\¬O' a):TupD K H' O' ks a:=by
 rcases h with⟨kk,b,h1,h2,h3⟩|⟨x,C,h1,h0,h2,h3⟩
 ·obtain⟨g1,g2⟩:=k _ h2 h3;exact .inl ⟨kk,b,h1,g1,g2⟩
 ·obtain⟨g1,g2⟩:=k _ h2 h3;exact .inr ⟨x,C,h1,h0,g1,g2⟩
mutual
def Ow(K:zbY)(O:AS)(H:Hp):D->Nat->V->AS->Prop
 |.none,_,v,_=>v=.non
 |.bool b,_,v,_=>v=.bl b
 |.int i,_,v,_=>v=.int i
 |.str x,_,v,_=>v=.str x
 |.tuple ts,d,v,F=>∃a vs,v=.ref a/\((d=0/\FzT K O H a vs/\Ows K O H ts 0 vs F)\/(d≠0/\H a=some (.tup vs)/\F a/\∃F':AS,(∀b,F' b->F b/\b≠a)/\Ows K O H ts (dn d) vs F'))
 |.list ts,d,v,F=>∃a vs,v=.ref a/\((d=0/\FzL K O H a vs/\Ows K O H ts 0 vs F)\/(d≠0/\H a=some (.lst vs)/\F a/\∃F':AS,(∀b,F' b->F b/\b≠a)/\Ows K O H ts (dn d) vs F'))
 |.dict ks,d,v,F=>∃a vs,v=.ref a/\((d=0/\Rd H a (.dK vs)/\¬O a/\Owd K O H ks 0 vs F)\/(d≠0/\H a=some (.dK vs)/\F a/\∃F':AS,(∀b,F' b->F b/\b≠a)/\Owd K O H ks (dn d) vs F')\/(d=0/\TupD K H O ks a))
def Ows(K:zbY)(O:AS)(H:Hp):List D->Nat->List V->AS->Prop
 |[],_,vs,_=>vs=[]
 |t::ts,d,vs,F=>∃v r,∃F1 F2:AS,vs=v::r/\(∀b,F1 b->F b)/\(∀b,F2 b->F b)/\(∀b,F1 b->¬F2 b)/\Ow K O H t d v F1/\Ows K O H ts d r F2
def Owd(K:zbY)(O:AS)(H:Hp):List (D×D)->Nat->List (Key×V)->AS->Prop
 |[],_,vs,_=>vs=[]
 | (k,t)::ts,d,vs,F=>∃q v r,∃F1 F2:AS,vs=(q,v)::r/\k=kD q/\(∀b,F1 b->F b)/\(∀b,F2 b->F b)/\(∀b,F1 b->¬F2 b)/\Ow K O H t d v F1/\Owd K O H ts d r F2
end
def Rd.mv(hk:∀o,H a=some o->H' a=some o)(h:Rd H a u):Rd H' a u:=by
 rcases h with h|⟨o,h⟩
 ·exact .inl (hk _ h)
 ·exact .inr ⟨o,hk _ h⟩
def Rd.there(h:Rd H a u):H a≠none:=by
 rcases h with h|⟨o,h⟩<;>rw[h]<;>exact fun z=>nomatch z
structure Mv(O O':AS)(G:AS)(H H':Hp):Prop where
 k:∀a o,H a=some o->(¬O a\/G a)->H' a=some o
 o:∀a,O' a->O a\/H a=none
def FzL.mv{G:AS}{a:Addr}{vs:List V}(m:Mv O O' G H H')(h:FzL K O H a vs):FzL K O' H' a vs:=by
 rcases h with⟨h,n⟩|h
 ·refine .inl ⟨h.mv fun o e=>m.k _ _ e (.inl n),fun z=>?_⟩;rcases m.o _ z with z|z
  ·exact n z
  ·exact h.there z
 ·exact .inr h
def FzT.mv(m:Mv O O' G H H')(h:FzT K O H a vs):FzT K O' H' a vs:=by
 obtain⟨h,n⟩:=h;refine⟨m.k _ _ h (.inl n),fun z=>?_⟩;rcases m.o _ z with z|z
 ·exact n z
 ·rw[h]at z;cases z
mutual
theorem Ow.mv{G:AS}(m:Mv O O' G H H'):∀(t:D) {d:Nat} {v:V} {F:AS},(∀b,F b->G b)->Ow K O H t d v F->Ow K O' H' t d v F
 |.none,_,_,_,_,h=>h
 |.bool _,_,_,_,_,h=>h
 |.int _,_,_,_,_,h=>h
 |.str _,_,_,_,_,h=>h
 |.tuple ts,_,_,_,g,h=>by
  obtain⟨a,vs,e,⟨h0,h1,h2⟩|⟨h0,h1,h2,F',hf,h3⟩⟩:=h
  ·exact⟨a,vs,e,.inl ⟨h0,h1.mv m,Ows.mv m ts g h2⟩⟩
  ·exact⟨a,vs,e,.inr ⟨h0,m.k _ _ h1 (.inr (g _ h2)),h2,F',hf,Ows.mv m ts (fun b hb=>g _ (hf b hb).1) h3⟩⟩
 |.list ts,_,_,_,g,h=>by
  obtain⟨a,vs,e,⟨h0,h1,h2⟩|⟨h0,h1,h2,F',hf,h3⟩⟩:=h
  ·exact⟨a,vs,e,.inl ⟨h0,h1.mv m,Ows.mv m ts g h2⟩⟩
  ·exact⟨a,vs,e,.inr ⟨h0,m.k _ _ h1 (.inr (g _ h2)),h2,F',hf,Ows.mv m ts (fun b hb=>g _ (hf b hb).1) h3⟩⟩
 |.dict ks,_,_,_,g,h=>by
  obtain⟨a,vs,e,⟨h0,h1,hn,h2⟩|⟨h0,h1,h2,F',hf,h3⟩|⟨h0,ht⟩⟩:=h
  ·refine⟨a,vs,e,.inl ⟨h0,h1.mv fun o e=>m.k _ _ e (.inl hn),fun z=>?_,Owd.mv m ks g h2⟩⟩;rcases m.o _ z with z|z
   ·exact hn z
   ·exact h1.there z
  ·exact⟨a,vs,e,.inr (.inl ⟨h0,m.k _ _ h1 (.inr (g _ h2)),h2,F',hf,Owd.mv m ks (fun b hb=>g _ (hf b hb).1) h3⟩)⟩
  ·refine⟨a,vs,e,.inr (.inr ⟨h0,ht.to fun o h2 hn=>⟨m.k _ _ h2 (.inl hn),fun z=>?_⟩⟩)⟩;rcases m.o _ z with z|z
   ·exact hn z
   ·rw[h2]at z;cases z
theorem Ows.mv{G:AS}(m:Mv O O' G H H'):∀(ts:List D) {d:Nat} {vs:List V} {F:AS},(∀b,F b->G b)->Ows K O H ts d vs F->Ows K O' H' ts d vs F
 |[],_,_,_,_,h=>h
 |t::ts,_,_,_,g,h=>by
  obtain⟨v,r,F1,F2,e,h1,h2,h3,h4,h5⟩:=h;exact⟨v,r,F1,F2,e,h1,h2,h3,Ow.mv m t (fun b hb=>g _ (h1 b hb)) h4,Ows.mv m ts (fun b hb=>g _ (h2 b hb)) h5⟩
theorem Owd.mv{G:AS}(m:Mv O O' G H H'):∀(ts:List (D×D)) {d:Nat} {vs:List (Key×V)} {F:AS},(∀b,F b->G b)->Owd K O H ts d vs F->Owd K O' H' ts d vs F
 |[],_,_,_,_,h=>h
 | (k,t)::ts,_,_,_,g,h=>by
  obtain⟨q,v,r,F1,F2,e,e2,h1,h2,h3,h4,h5⟩:=h;exact⟨q,v,r,F1,F2,e,e2,h1,h2,h3,Ow.mv m t (fun b hb=>g _ (h1 b hb)) h4,Owd.mv m ts (fun b hb=>g _ (h2 b hb)) h5⟩
end
def FzL.sub(ho:∀a,O' a->O a)(h:FzL K O H a vs):FzL K O' H a vs:=h.imp (fun h=>⟨h.1,fun z=>h.2 (ho _ z)⟩) id
def FzT.sub(ho:∀a,O' a->O a)(h:FzT K O H a vs):FzT K O' H a vs:=⟨h.1,fun z=>h.2 (ho _ z)⟩
mutual
theorem Ow.cut:∀(t:D) {d d':Nat} {v:V} {F:AS},d'<=d->Ow K O H t d v F->∃F':AS,(∀b,F' b->F b)/\∀O':AS,(∀a,O' a->O a)->(∀a,F a->O' a->F' a)->Ow K O' H t d' v F'
 |.none,_,_,_,F,_,h=>⟨F,fun _ z=>z,fun _ _ _=>h⟩
 |.bool _,_,_,_,F,_,h=>⟨F,fun _ z=>z,fun _ _ _=>h⟩
 |.int _,_,_,_,F,_,h=>⟨F,fun _ z=>z,fun _ _ _=>h⟩
 |.str _,_,_,_,F,_,h=>⟨F,fun _ z=>z,fun _ _ _=>h⟩
 |.tuple ts,d,d',_,F,hd,h=>by
  obtain⟨a,vs,e,⟨h0,h1,h2⟩|⟨h0,h1,h2,G,hg,h3⟩⟩:=h
  ·subst h0;have e0:d'=0:=by omega
   subst e0;obtain⟨F',s1,s2⟩:=Ows.cut ts (zav _) h2;exact⟨F',s1,fun O' ho hx=>⟨a,vs,e,.inl ⟨rfl,h1.sub ho,s2 O' ho hx⟩⟩⟩
  ·by_cases e0:d'=0
   ·subst e0;obtain⟨F',s1,s2⟩:=Ows.cut ts (zbh _) h3;refine⟨F',fun b hb=>(hg _ (s1 b hb)).1,fun O' ho hx=>⟨a,vs,e,.inl ⟨rfl,⟨h1,fun z=>(hg _ (s1 _ (hx _ h2 z))).2 rfl⟩,s2 O' ho fun b hb=>hx b (hg b hb).1⟩⟩⟩
   ·obtain⟨F',s1,s2⟩:=Ows.cut ts (qk hd) h3;refine⟨fun b=>b=a\/F' b,fun b hb=>hb.elim (fun z=>z▸h2) fun z=>(hg _ (s1 b z)).1,fun O' ho hx=>⟨a,vs,e,.inr ⟨e0,h1,.inl rfl,F',fun b hb=>⟨.inr hb,(hg _ (s1 b hb)).2⟩,s2 O' ho fun b hb hz=>?_⟩⟩⟩;exact(hx b (hg b hb).1 hz).elim (fun z=>absurd z (hg b hb).2) id
 |.list ts,d,d',_,F,hd,h=>by
  obtain⟨a,vs,e,⟨h0,h1,h2⟩|⟨h0,h1,h2,G,hg,h3⟩⟩:=h
  ·subst h0;have e0:d'=0:=by omega
   subst e0;obtain⟨F',s1,s2⟩:=Ows.cut ts (zav _) h2;exact⟨F',s1,fun O' ho hx=>⟨a,vs,e,.inl ⟨rfl,h1.sub ho,s2 O' ho hx⟩⟩⟩
  ·by_cases e0:d'=0
   ·subst e0;obtain⟨F',s1,s2⟩:=Ows.cut ts (zbh _) h3;refine⟨F',fun b hb=>(hg _ (s1 b hb)).1,fun O' ho hx=>⟨a,vs,e,.inl ⟨rfl,.inl ⟨.inl h1,fun z=>(hg _ (s1 _ (hx _ h2 z))).2 rfl⟩,s2 O' ho fun b hb=>hx b (hg b hb).1⟩⟩⟩
   ·obtain⟨F',s1,s2⟩:=Ows.cut ts (qk hd) h3;refine⟨fun b=>b=a\/F' b,fun b hb=>hb.elim (fun z=>z▸h2) fun z=>(hg _ (s1 b z)).1,fun O' ho hx=>⟨a,vs,e,.inr ⟨e0,h1,.inl rfl,F',fun b hb=>⟨.inr hb,(hg _ (s1 b hb)).2⟩,s2 O' ho fun b hb hz=>?_⟩⟩⟩;exact(hx b (hg b hb).1 hz).elim (fun z=>absurd z (hg b hb).2) id
 |.dict ts,d,d',_,F,hd,h=>by
  obtain⟨a,vs,e,⟨h0,h1,hn,h2⟩|⟨h0,h1,h2,G,hg,h3⟩|⟨h0,ht⟩⟩:=h
  ·subst h0;have e0:d'=0:=by omega
   subst e0;obtain⟨F',s1,s2⟩:=Owd.cut ts (zav _) h2;exact⟨F',s1,fun O' ho hx=>⟨a,vs,e,.inl ⟨rfl,h1,fun z=>hn (ho _ z),s2 O' ho hx⟩⟩⟩
  ·by_cases e0:d'=0
   ·subst e0;obtain⟨F',s1,s2⟩:=Owd.cut ts (zbh _) h3;refine⟨F',fun b hb=>(hg _ (s1 b hb)).1,fun O' ho hx=>⟨a,vs,e,.inl ⟨rfl,.inl h1,fun z=>(hg _ (s1 _ (hx _ h2 z))).2 rfl,s2 O' ho fun b hb=>hx b (hg b hb).1⟩⟩⟩
   ·obtain⟨F',s1,s2⟩:=Owd.cut ts (qk hd) h3;refine⟨fun b=>b=a\/F' b,fun b hb=>hb.elim (fun z=>z▸h2) fun z=>(hg _ (s1 b z)).1,fun O' ho hx=>⟨a,vs,e,.inr (.inl ⟨e0,h1,.inl rfl,F',fun b hb=>⟨.inr hb,(hg _ (s1 b hb)).2⟩,s2 O' ho fun b hb hz=>?_⟩)⟩⟩;exact(hx b (hg b hb).1 hz).elim (fun z=>absurd z (hg b hb).2) id
  ·subst h0;have e0:d'=0:=by omega
   subst e0;exact⟨F,fun _ z=>z,fun O' ho hx=>⟨a,vs,e,.inr (.inr ⟨rfl,ht.to fun o h2 hn=>⟨h2,fun z=>hn (ho _ z)⟩⟩)⟩⟩
theorem Ows.cut:∀(ts:List D) {d d':Nat} {vs:List V} {F:AS},d'<=d->Ows K O H ts d vs F->∃F':AS,(∀b,F' b->F b)/\∀O':AS,(∀a,O' a->O a)->(∀a,F a->O' a->F' a)->Ows K O' H ts d' vs F'
 |[],_,_,_,F,_,h=>⟨F,fun _ z=>z,fun _ _ _=>h⟩
 |t::ts,_,_,_,F,hd,h=>by
  obtain⟨v,r,F1,F2,e,h1,h2,h3,h4,h5⟩:=h;obtain⟨G1,a1,a2⟩:=Ow.cut t hd h4;obtain⟨G2,b1,b2⟩:=Ows.cut ts hd h5;refine⟨fun b=>G1 b\/G2 b,fun b hb=>hb.elim (fun z=>h1 _ (a1 _ z)) fun z=>h2 _ (b1 _ z),fun O' ho hx=>⟨v,r,G1,G2,e,fun b=>.inl,fun b=>.inr,fun b z1 z2=>h3 b (a1 b z1) (b1 b z2),a2 O' ho fun b hb hz=>?_,b2 O' ho fun b hb hz=>?_⟩⟩
  ·exact(hx b (h1 b hb) hz).elim id fun z=>absurd (b1 b z) (h3 b hb)
  ·exact(hx b (h2 b hb) hz).elim (fun z=>absurd hb (h3 b (a1 b z))) id
theorem Owd.cut:∀(ts:List (D×D)) {d d':Nat} {vs:List (Key×V)} {F:AS},d'<=d->Owd K O H ts d vs F->∃F':AS,(∀b,F' b->F b)/\∀O':AS,(∀a,O' a->O a)->(∀a,F a->O' a->F' a)->Owd K O' H ts d' vs F'
 |[],_,_,_,F,_,h=>⟨F,fun _ z=>z,fun _ _ _=>h⟩
 | (k,t)::ts,_,_,_,F,hd,h=>by
  obtain⟨q,v,r,F1,F2,e,e2,h1,h2,h3,h4,h5⟩:=h;obtain⟨G1,a1,a2⟩:=Ow.cut t hd h4;obtain⟨G2,b1,b2⟩:=Owd.cut ts hd h5;refine⟨fun b=>G1 b\/G2 b,fun b hb=>hb.elim (fun z=>h1 _ (a1 _ z)) fun z=>h2 _ (b1 _ z),fun O' ho hx=>⟨q,v,r,G1,G2,e,e2,fun b=>.inl,fun b=>.inr,fun b z1 z2=>h3 b (a1 b z1) (b1 b z2),a2 O' ho fun b hb hz=>?_,b2 O' ho fun b hb hz=>?_⟩⟩
  ·exact(hx b (h1 b hb) hz).elim id fun z=>absurd (b1 b z) (h3 b hb)
  ·exact(hx b (h2 b hb) hz).elim (fun z=>absurd hb (h3 b (a1 b z))) id
end
mutual
theorem Ow.grow(ho:∀a,O' a->O a):∀(t:D) {d:Nat} {v:V} {F F':AS},(∀b,F b->F' b)->Ow K O H t d v F->Ow K O' H t d v F'
 |.none,_,_,_,_,_,h=>h
 |.bool _,_,_,_,_,_,h=>h
 |.int _,_,_,_,_,_,h=>h
 |.str _,_,_,_,_,_,h=>h
 |.tuple ts,_,_,_,_,hf,h=>by
  obtain⟨a,vs,e,⟨h0,h1,h2⟩|⟨h0,h1,h2,G,hg,h3⟩⟩:=h
  ·exact⟨a,vs,e,.inl ⟨h0,h1.sub ho,Ows.grow ho ts hf h2⟩⟩
  ·exact⟨a,vs,e,.inr ⟨h0,h1,hf _ h2,G,fun b hb=>⟨hf _ (hg b hb).1,(hg b hb).2⟩,Ows.grow ho ts (fun _ z=>z) h3⟩⟩
 |.list ts,_,_,_,_,hf,h=>by
  obtain⟨a,vs,e,⟨h0,h1,h2⟩|⟨h0,h1,h2,G,hg,h3⟩⟩:=h
  ·exact⟨a,vs,e,.inl ⟨h0,h1.sub ho,Ows.grow ho ts hf h2⟩⟩
  ·exact⟨a,vs,e,.inr ⟨h0,h1,hf _ h2,G,fun b hb=>⟨hf _ (hg b hb).1,(hg b hb).2⟩,Ows.grow ho ts (fun _ z=>z) h3⟩⟩
 |.dict ts,_,_,_,_,hf,h=>by
  obtain⟨a,vs,e,⟨h0,h1,hn,h2⟩|⟨h0,h1,h2,G,hg,h3⟩|⟨h0,ht⟩⟩:=h
  ·exact⟨a,vs,e,.inl ⟨h0,h1,fun z=>hn (ho _ z),Owd.grow ho ts hf h2⟩⟩
  ·exact⟨a,vs,e,.inr (.inl ⟨h0,h1,hf _ h2,G,fun b hb=>⟨hf _ (hg b hb).1,(hg b hb).2⟩,Owd.grow ho ts (fun _ z=>z) h3⟩)⟩
  ·exact⟨a,vs,e,.inr (.inr ⟨h0,ht.to fun o h2 hn=>⟨h2,fun z=>hn (ho _ z)⟩⟩)⟩
theorem Ows.grow(ho:∀a,O' a->O a):∀(ts:List D) {d:Nat} {vs:List V} {F F':AS},(∀b,F b->F' b)->Ows K O H ts d vs F->Ows K O' H ts d vs F'
 |[],_,_,_,_,_,h=>h
 |t::ts,_,_,_,_,hf,h=>by
  obtain⟨v,r,F1,F2,e,h1,h2,h3,h4,h5⟩:=h;exact⟨v,r,F1,F2,e,fun b z=>hf _ (h1 b z),fun b z=>hf _ (h2 b z),h3,Ow.grow ho t (fun _ z=>z) h4,Ows.grow ho ts (fun _ z=>z) h5⟩
theorem Owd.grow(ho:∀a,O' a->O a):∀(ts:List (D×D)) {d:Nat} {vs:List (Key×V)} {F F':AS},(∀b,F b->F' b)->Owd K O H ts d vs F->Owd K O' H ts d vs F'
 |[],_,_,_,_,_,h=>h
 | (k,t)::ts,_,_,_,_,hf,h=>by
  obtain⟨q,v,r,F1,F2,e,e2,h1,h2,h3,h4,h5⟩:=h;exact⟨q,v,r,F1,F2,e,e2,fun b z=>hf _ (h1 b z),fun b z=>hf _ (h2 b z),h3,Ow.grow ho t (fun _ z=>z) h4,Owd.grow ho ts (fun _ z=>z) h5⟩
end
mutual
theorem Ow.full:∀(t:D) {d:Nat} {v:V} {F:AS},Ow K O H t (d+3) v F->Ow K O' H t (d+3) v F
 |.none,_,_,_,h=>h
 |.bool _,_,_,_,h=>h
 |.int _,_,_,_,h=>h
 |.str _,_,_,_,h=>h
 |.tuple ts,_,_,_,h=>by
  obtain⟨a,vs,e,⟨h0,h1,h2⟩|⟨h0,h1,h2,G,hg,h3⟩⟩:=h
  ·cases h0
  ·exact⟨a,vs,e,.inr ⟨h0,h1,h2,G,hg,Ows.full ts h3⟩⟩
 |.list ts,_,_,_,h=>by
  obtain⟨a,vs,e,⟨h0,h1,h2⟩|⟨h0,h1,h2,G,hg,h3⟩⟩:=h
  ·cases h0
  ·exact⟨a,vs,e,.inr ⟨h0,h1,h2,G,hg,Ows.full ts h3⟩⟩
 |.dict ts,_,_,_,h=>by
  obtain⟨a,vs,e,⟨h0,h1,hn,h2⟩|⟨h0,h1,h2,G,hg,h3⟩|⟨h0,_⟩⟩:=h
  ·cases h0
  ·exact⟨a,vs,e,.inr (.inl ⟨h0,h1,h2,G,hg,Owd.full ts h3⟩)⟩
  ·cases h0
theorem Ows.full:∀(ts:List D) {d:Nat} {vs:List V} {F:AS},Ows K O H ts (d+3) vs F->Ows K O' H ts (d+3) vs F
 |[],_,_,_,h=>h
 |t::ts,_,_,_,h=>by
  obtain⟨v,r,F1,F2,e,h1,h2,h3,h4,h5⟩:=h;exact⟨v,r,F1,F2,e,h1,h2,h3,Ow.full t h4,Ows.full ts h5⟩
theorem Owd.full:∀(ts:List (D×D)) {d:Nat} {vs:List (Key×V)} {F:AS},Owd K O H ts (d+3) vs F->Owd K O' H ts (d+3) vs F
 |[],_,_,_,h=>h
 | (k,t)::ts,_,_,_,h=>by
  obtain⟨q,v,r,F1,F2,e,e2,h1,h2,h3,h4,h5⟩:=h;exact⟨q,v,r,F1,F2,e,e2,h1,h2,h3,Ow.full t h4,Owd.full ts h5⟩
end
mutual
theorem Ow.any0:∀(t:D) {v:V} {F F':AS},Ow K O H t 0 v F->Ow K O H t 0 v F'
 |.none,_,_,_,h=>h
 |.bool _,_,_,_,h=>h
 |.int _,_,_,_,h=>h
 |.str _,_,_,_,h=>h
 |.tuple ts,_,_,_,h=>by
  obtain⟨a,vs,e,⟨h0,h1,h2⟩|⟨h0,_⟩⟩:=h
  ·exact⟨a,vs,e,.inl ⟨rfl,h1,Ows.any0 ts h2⟩⟩
  ·exact absurd rfl h0
 |.list ts,_,_,_,h=>by
  obtain⟨a,vs,e,⟨h0,h1,h2⟩|⟨h0,_⟩⟩:=h
  ·exact⟨a,vs,e,.inl ⟨rfl,h1,Ows.any0 ts h2⟩⟩
  ·exact absurd rfl h0
 |.dict ts,_,_,_,h=>by
  obtain⟨a,vs,e,⟨h0,h1,hn,h2⟩|⟨h0,_⟩|⟨_,ht⟩⟩:=h
  ·exact⟨a,vs,e,.inl ⟨rfl,h1,hn,Owd.any0 ts h2⟩⟩
  ·exact absurd rfl h0
  ·exact⟨a,vs,e,.inr (.inr ⟨rfl,ht⟩)⟩
theorem Ows.any0:∀(ts:List D) {vs:List V} {F F':AS},Ows K O H ts 0 vs F->Ows K O H ts 0 vs F'
 |[],_,_,_,h=>h
 |t::ts,_,_,_,h=>by
  obtain⟨v,r,F1,F2,e,_,_,_,h4,h5⟩:=h;exact⟨v,r,fun _=>False,fun _=>False,e,fun _ z=>z.elim,fun _ z=>z.elim,fun _ z=>z.elim,Ow.any0 t h4,Ows.any0 ts h5⟩
theorem Owd.any0:∀(ts:List (D×D)) {vs:List (Key×V)} {F F':AS},Owd K O H ts 0 vs F->Owd K O H ts 0 vs F'
 |[],_,_,_,h=>h
 | (k,t)::ts,_,_,_,h=>by
  obtain⟨q,v,r,F1,F2,e,e2,_,_,_,h4,h5⟩:=h;exact⟨q,v,r,fun _=>False,fun _=>False,e,e2,fun _ z=>z.elim,fun _ z=>z.elim,fun _ z=>z.elim,Ow.any0 t h4,Owd.any0 ts h5⟩
end
def Ow.fz{F:AS}(ho:∀a,O' a->O a)(hn:∀a,F a->¬O' a)(h:Ow K O H t d v F):Ow K O' H t 0 v F2:=by
 obtain⟨F',s1,s2⟩:=Ow.cut t (zbh d) h;exact Ow.any0 t (s2 O' ho fun a z1 z2=>absurd z2 (hn a z1))
def U(A B:AS):AS:=fun a=>A a\/B a
def Own(R:Nat->AS)(Ox:AS):AS:=fun a=>(∃i,R i a)\/Ox a
def eJ{A B:AS}(h:∀a,A a↔B a):A=B:=funext fun a=>propext (h a)
structure EnvOk(K:zbY)(ds:List Nat)(Ox:AS)(H:Hp)(σ:St)(en:En)(R:Nat->AS):Prop where
 at_:∀(i:Nat) (t:D),en[i]?=some (some t)->∃v d,σ[i]?=some (some v)/\ds[i]?=some d/\Ow K (Own R Ox) H t d v (R i)
 dj:∀i j a,R i a->R j a->i=j
 dx:∀i a,R i a->¬Ox a
 dom:∀a,Own R Ox a->∃o,H a=some o
 l1:en.length=σ.length
 l2:ds.length=σ.length
structure Post(K:zbY)(p:Bool)(ds':List Nat)(Ox:AS)(σ:St)(H:Hp)(en:En)(R:Nat->AS)(en':En)(H':Hp)(R':Nat->AS)(F:AS):Prop where
 env:EnvOk K ds' (U F Ox) H' σ en' R'
 fx:∀a,F a->¬Ox a
 keep:∀a o,H a=some o->(∀i,¬R i a)->H' a=some o
 own:∀a,(F a\/∃i,R' i a)->(∃i,R i a)\/H a=none
 dom:∀a o,H a=some o->∃o',H' a=some o'
 pure:p=true->en'=en/\R'=R/\∀a o,H a=some o->H' a=some o
def EnvOk.grow(e:EnvOk K ds Ox H σ en R)(hk:∀a o,H a=some o->H' a=some o){F:AS}(hf:∀a,F a->H a=none/\∃o,H' a=some o):EnvOk K ds (U F Ox) H' σ en R:=by
 have fo:∀a,F a->¬Own R Ox a:=fun a z z2=>by
  obtain⟨o,q⟩:=e.dom a z2;rw[(hf a z).1]at q;cases q
 refine⟨fun i t h=>?_,e.dj,fun i a h z=>?_,fun a h=>?_,e.l1,e.l2⟩
 ·obtain⟨v,d,h1,h2,h3⟩:=e.at_ i t h;refine⟨v,d,h1,h2,Ow.mv (G:=R i) ⟨fun a o q _=>hk a o q,fun a z=>?_⟩ t (fun _ z=>z) h3⟩;rcases z with z|z|z
  ·exact .inl (.inl z)
  ·exact .inr (hf a z).1
  ·exact .inl (.inr z)
 ·rcases z with z|z
  ·exact fo a z (.inl ⟨i,h⟩)
  ·exact e.dx i a h z
 ·rcases h with h|h|h
  ·obtain⟨o,q⟩:=e.dom a (.inl h);exact⟨o,hk a o q⟩
  ·exact(hf a h).2
  ·obtain⟨o,q⟩:=e.dom a (.inr h);exact⟨o,hk a o q⟩
def EnvOk.fewer(e:EnvOk K ds Ox H σ en R)(h:∀a,Ox' a->Ox a):EnvOk K ds Ox' H σ en R:=by
 refine⟨fun i t q=>?_,e.dj,fun i a z1 z2=>e.dx i a z1 (h a z2),fun a z=>e.dom a (z.imp id (h a)),e.l1,e.l2⟩;obtain⟨v,d,h1,h2,h3⟩:=e.at_ i t q;exact⟨v,d,h1,h2,Ow.grow (fun a z=>z.imp id (h a)) t (fun _ z=>z) h3⟩
def tF(K:zbY)(p:Bool)(ds ds':List Nat)(d:Nat)(f:En->Option (D×En)):TE:=fun σ H Q=>
 ∃Ox en R t en',EnvOk K ds Ox H σ en R/\f en=some (t,en')/\∀v H' R' F,Post K p ds' Ox σ H en R en' H' R' F->Ow K (Own R' (U F Ox)) H' t d v F->Q v H'
def Post.refl(e:EnvOk K ds Ox H σ en R):Post K p ds Ox σ H en R en H R (fun _=>False):=by
 have eq:U (fun _=>False) Ox=Ox:=eJ fun a=>⟨fun z=>z.elim (fun z=>z.elim) id,.inr⟩;exact⟨eq.symm▸e,fun _ z=>z.elim,fun _ _ q _=>q,fun a z=>z.elim (fun z=>z.elim) .inl,fun a o q=>⟨o,q⟩,fun _=>⟨rfl,rfl,fun _ _ q=>q⟩⟩
def Post.new(e:EnvOk K ds Ox H σ en R)(hk:∀a o,H a=some o->H' a=some o){F:AS}(hf:∀a,F a->H a=none/\∃o,H' a=some o):Post K p ds Ox σ H en R en H' R F:=by
 refine⟨e.grow hk hf,fun a z z2=>?_,fun a o q _=>hk a o q,fun a z=>z.elim (fun z=>.inr (hf a z).1) .inl,fun a o q=>⟨o,hk a o q⟩,fun _=>⟨rfl,rfl,hk⟩⟩;obtain⟨o,q⟩:=e.dom a (.inr z2);rw[(hf a z).1]at q;cases q
theorem Post.trans{H1 H2:Hp}{R1 R2:Nat->AS}{F1 F2:AS}(P1:Post K p1 ds1 Ox σ H en R en1 H1 R1 F1)(P2:Post K p2 ds2 (U F1 Ox) σ H1 en1 R1 en2 H2 R2 F2):
  Post K (p1&&p2) ds2 Ox σ H en R en2 H2 R2 (U F1 F2):=by
 have eq:U F2 (U F1 Ox)=U (U F1 F2) Ox:=eJ fun a=>by unfold U;exact⟨fun z=>by rcases z with z|z|z;exact .inl (.inr z);exact .inl (.inl z);exact .inr z,fun z=>by rcases z with (z|z)|z;exact .inr (.inl z);exact .inl z;exact .inr (.inr z)⟩
 have n1:∀a,H1 a=none->H a=none:=fun a z=>by
  cases q:H a with
  |none=>rfl
  |some o=>
   obtain⟨o',q'⟩:=P1.dom a o q;rw[z]at q';cases q'
 refine⟨eq▸P2.env,fun a z z2=>?_,fun a o q n=>?_,fun a z=>?_,fun a o q=>?_,fun hp=>?_⟩
 ·rcases z with z|z
  ·exact P1.fx a z z2
  ·exact P2.fx a z (.inr z2)
 ·refine P2.keep a o (P1.keep a o q n) fun i z=>?_;rcases P1.own a (.inr ⟨i,z⟩)with⟨j,z⟩|z
  ·exact n j z
  ·rw[q]at z;cases z
 ·rcases z with (z|z)|z
  ·exact P1.own a (.inl z)
  ·rcases P2.own a (.inl z)with z|z
   ·exact P1.own a (.inr z)
   ·exact .inr (n1 a z)
  ·rcases P2.own a (.inr z)with z|z
   ·exact P1.own a (.inr z)
   ·exact .inr (n1 a z)
 ·obtain⟨o',q'⟩:=P1.dom a o q;exact P2.dom a o' q'
 ·have h1:p1=true:=by cases p1<;>simp_all
  have h2:p2=true:=by cases p2<;>simp_all
  obtain⟨a1,a2,a3⟩:=P1.pure h1;obtain⟨b1,b2,b3⟩:=P2.pure h2;exact⟨b1.trans a1,b2.trans a2,fun a o q=>b3 a o (a3 a o q)⟩
def Ow.over{R2:Nat->AS}(P1:EnvOk K ds1 (U F1 Ox) H1 σ en1 R1)(P2:Post K p2 ds2 (U F1 Ox) σ H1 en1 R1 en2 H2 R2 F2)(h:Ow K (Own R1 (U F1 Ox)) H1 t d v F1):
  Ow K (Own R2 (U (U F1 F2) Ox)) H2 t d v F1:=by
 refine Ow.mv (G:=F1) ⟨fun a o q z=>P2.keep a o q fun i zi=>?_,fun a z=>?_⟩ t (fun _ z=>z) h
 ·rcases z with z|z
  ·exact z (.inl ⟨i,zi⟩)
  ·exact P1.dx i a zi (.inl z)
 ·rcases z with z | (z|z)|z
  ·rcases P2.own a (.inr z)with z|z
   ·exact .inl (.inl z)
   ·exact .inr z
  ·exact .inl (.inr (.inl z))
  ·rcases P2.own a (.inl z)with z|z
   ·exact .inl (.inl z)
   ·exact .inr z
  ·exact .inl (.inr (.inr z))
def j5:U F2 (U F1 Ox)=U (U F1 F2) Ox:=eJ fun a=>by unfold U;exact⟨fun z=>by rcases z with z|z|z;exact .inl (.inr z);exact .inl (.inl z);exact .inr z,fun z=>by rcases z with (z|z)|z;exact .inr (.inl z);exact .inl z;exact .inr (.inr z)⟩
def two{f g:En->Option (D×En)}{Q:V->V->Hp->Prop}(e:EnvOk K ds Ox H σ en R)(h1:f en=some (t1,en1))(h2:g en1=some (t2,en2))
  (k:∀x y H2 R2 F1 F2,Post K (p1&&p2) ds2 Ox σ H en R en2 H2 R2 (U F1 F2)->Ow K (Own R2 (U (U F1 F2) Ox)) H2 t1 d1 x F1->Ow K (Own R2 (U (U F1 F2) Ox)) H2 t2 d2 y F2->Q x y H2):
  tF K p1 ds ds1 d1 f σ H fun x H1=>tF K p2 ds1 ds2 d2 g σ H1 fun y H2=>Q x y H2:=by
 refine⟨Ox,en,R,t1,en1,e,h1,fun x H1 R1 F1 P1 o1=>?_⟩;refine⟨U F1 Ox,en1,R1,t2,en2,P1.env,h2,fun y H2 R2 F2 P2 o2=>?_⟩;exact k x y H2 R2 F1 F2 (P1.trans P2) (Ow.over P1.env P2 o1) (j5▸o2)
abbrev ME:=En->Option (D×En)
variable{f f1 f2 fk fe:ME}{fs:List (ME×ME)}
abbrev MT:=En->Option (Bool×En)
variable{c1 c2:MT}
abbrev MA:=En->Option (List (D ⊕ Nat)×En)
variable{fa:MA}
def aa(i:Nat):ME:=fun en=>(en[i]?).join.map fun t=>(t,en)
def eMv(i:Nat):ME:=fun en=>(en[i]?).join.map fun t=>(t,en.set i none)
def eC(t:D):ME:=fun en=>some (t,en)
def e1(g:D->Option D)(f:ME):ME:=fun en=>(f en).bind fun r=>(g r.1).map fun t=>(t,r.2)
def e2(g:D->D->Option D)(f1 f2:ME):ME:=fun en=>(f1 en).bind fun r=>(f2 r.2).bind fun q=>(g r.1 q.1).map fun t=>(t,q.2)
def l6(f g:ME):ME:=fun en=>(f en).bind fun r=>match r.1 with
 |.bool true=>g r.2
 |.bool false=>some (.bool false,r.2)
 |_=>none
def eOr(f g:ME):ME:=fun en=>(f en).bind fun r=>match r.1 with
 |.bool true=>some (.bool true,r.2)
 |.bool false=>g r.2
 |_=>none
def qi(f:ME):ME:=fun en=>(f en).bind fun r=>match r.1 with
 |.bool b=>some (.bool (!b),r.2)
 |_=>none
def eIf(c:MT)(f g:ME):ME:=fun en=>(c en).bind fun r=>if r.1 then f r.2 else g r.2
def tV(f:ME):MT:=fun en=>(f en).bind fun r=>match r.1 with
 |.bool b=>some (b,r.2)
 |_=>none
def dv(f g:MT):MT:=fun en=>(f en).bind fun r=>if r.1 then g r.2 else some (false,r.2)
def bOr(f g:MT):MT:=fun en=>(f en).bind fun r=>if r.1 then some (true,r.2)else g r.2
def fU(f:MT):MT:=fun en=>(f en).map fun r=>(!r.1,r.2)
def af:MA:=fun en=>some ([],en)
def ae(f:ME)(r:MA):MA:=fun en=>(f en).bind fun x=>(r x.2).map fun y=>(.inl x.1::y.1,y.2)
def bo(i:Nat)(r:MA):MA:=fun en=>(en[i]?).join.bind fun _=>(r en).map fun y=>(.inr i::y.1,y.2)
def vals:List (D ⊕ Nat)->Option (List D)
 |[]=>some []
 |.inl t::r=>(vals r).map (t::·)
 |.inr _::_=>none
def eN(g:List D->Option D)(fa:MA):ME:=fun en=>(fa en).bind fun r=>(vals r.1).bind fun ts=>(g ts).map fun t=>(t,r.2)
def NewTo(H H':Hp)(F:AS):Prop:=(∀a o,H a=some o->H' a=some o)/\∀a,F a->H a=none/\∃o,H' a=some o
def NoA:AS:=fun _=>False
def fW{A:AS}:U NoA A=A:=eJ fun a=>⟨fun z=>z.elim (fun z=>z.elim) id,.inr⟩
def rF1(K:zbY)(g:D->Option D)(d:Nat):V->Hp->VK->Prop:=fun x H Q=>∃(O:AS) (a t:D),Ow K O H a 0 x NoA/\(∀a,O a->∃o,H a=some o)/\g a=some t/\∀v H' F,NewTo H H' F->Ow K (U F O) H' t d v F->Q v H'
def rF2(K:zbY)(g:D->D->Option D)(d:Nat):R2:=fun x y H Q=>∃(O:AS) (a b t:D),Ow K O H a 0 x NoA/\Ow K O H b 0 y NoA/\(∀a,O a->∃o,H a=some o)/\g a b=some t/\∀v H' F,NewTo H H' F->Ow K (U F O) H' t d v F->Q v H'
def rFn(K:zbY)(g:List D->Option D)(d:Nat):List V->Hp->VK->Prop:=fun xs H Q=>∃(O:AS) (ts:List D) (t:D),Ows K O H ts 0 xs NoA/\(∀a,O a->∃o,H a=some o)/\g ts=some t/\∀v H' F,NewTo H H' F->Ow K (U F O) H' t d v F->Q v H'
section
variable{fa fb:ME}
def pG{F:AS}:U F (Own R Ox)=Own R (U F Ox):=eJ fun a=>by
 unfold U Own;exact⟨fun z=>by rcases z with z|z|z;exact .inr (.inl z);exact .inl z;exact .inr (.inr z),fun z=>by rcases z with z|z|z;exact .inr (.inl z);exact .inl z;exact .inr (.inr z)⟩
def Post.fin{F:AS}(P:Post K p ds' Ox σ H en R en' H1 R' F0)(n:NewTo H1 H' F):Post K p ds' Ox σ H en R en' H' R' F:=by
 have e:=P.env.fewer (Ox':=Ox) fun a z=>.inr z;have n1:∀a,H1 a=none->H a=none:=fun a z=>by
  cases q:H a with
  |none=>rfl
  |some o=>
   obtain⟨o',q'⟩:=P.dom a o q;rw[z]at q';cases q'
 refine⟨e.grow n.1 n.2,fun a z z2=>?_,fun a o q nn=>n.1 a o (P.keep a o q nn),fun a z=>?_,fun a o q=>?_,fun hp=>?_⟩
 ·obtain⟨o,q⟩:=e.dom a (.inr z2);rw[(n.2 a z).1]at q;cases q
 ·rcases z with z|z
  ·exact .inr (n1 a (n.2 a z).1)
  ·exact P.own a (.inr z)
 ·obtain⟨o',q'⟩:=P.dom a o q;exact⟨o',n.1 a o' q'⟩
 ·obtain⟨a1,a2,a3⟩:=P.pure hp;exact⟨a1,a2,fun a o q=>n.1 a o (a3 a o q)⟩
def Post.less{F:AS}(P:Post K p ds' Ox σ H en R en' H' R' F)(h:∀a,F' a->F a):Post K p ds' Ox σ H en R en' H' R' F':=
 ⟨P.env.fewer fun a z=>z.imp (h a) id,fun a z=>P.fx a (h a z),P.keep,fun a z=>P.own a (z.imp (h a) id),P.dom,P.pure⟩
def Ow.letgo{F:AS}(P:Post K p ds' Ox σ H en R en' H' R' F0)(hf:∀a,F a->F0 a)(h:Ow K (Own R' (U F0 Ox)) H' t d v F):Ow K (Own R' Ox) H' t 0 v NoA:=by
 refine Ow.fz (fun a z=>z.imp id .inr) (fun a z z2=>?_) h;rcases z2 with⟨i,z2⟩|z2
 ·exact P.env.dx i a z2 (.inl (hf a z))
 ·exact P.fx a (hf a z) z2
def Post.doms(P:Post K p ds' Ox σ H en R en' H' R' F0):∀a,Own R' Ox a->∃o,H' a=some o:=fun a z=>P.env.dom a (z.imp id .inr)
def Kl(hd:ds[i]?=some 0)(h:tF K true ds ds 0 (aa i) σ H Q):gp i σ H Q:=by
 obtain⟨Ox,en,R,t,en',e,hf,k⟩:=h;unfold aa at hf;cases q:en[i]? with
 |none=>rw[q]at hf;cases hf
 |some o=>
  rw[q]at hf;cases o with
  |none=>cases hf
  |some t'=>
   cases hf;obtain⟨v,d,h1,h2,h3⟩:=e.at_ i t q;rw[hd]at h2;cases h2;exact⟨v,h1,k v H R NoA (Post.refl e) (by rw[fW];exact Ow.any0 t h3)⟩
def K9(hd:ds[i]?=some d)(h:tF K false ds (ds.set i 0) d (eMv i) σ H Q):gp i σ H Q:=by
 obtain⟨Ox,en,R,t,en',e,hf,k⟩:=h;unfold eMv at hf;cases q:en[i]? with
 |none=>rw[q]at hf;cases hf
 |some o=>
  rw[q]at hf;cases o with
  |none=>cases hf
  |some t'=>
   cases hf;obtain⟨v,d',h1,h2,h3⟩:=e.at_ i t q;rw[hd]at h2;cases h2;have eq:Own (fun j=>if j=i then NoA else R j) (U (R i) Ox)=Own R Ox:=eJ fun a=>by
    unfold Own U;constructor
    ·rintro (⟨j,z⟩|z|z)
     ·by_cases hj:j=i
      ·rw[if_pos hj]at z;exact z.elim
      ·rw[if_neg hj]at z;exact .inl ⟨j,z⟩
     ·exact .inl ⟨i,z⟩
     ·exact .inr z
    ·rintro (⟨j,z⟩|z)
     ·by_cases hj:j=i
      ·subst hj;exact .inr (.inl z)
      ·exact .inl ⟨j,by show(if j=i then NoA else R j) a;rw[if_neg hj];exact z⟩
     ·exact .inr (.inr z)
   refine⟨v,h1,k v H (fun j=>if j=i then NoA else R j) (R i) ⟨⟨fun j u hu=>?_,fun j j' a z z'=>?_,fun j a z=>?_,fun a z=>e.dom a (eq▸z),?_,?_⟩,e.dx i,fun a o q _=>q,fun a z=>?_,fun a o q=>⟨o,q⟩,fun z=>nomatch z⟩ (eq.symm▸h3)⟩
   ·by_cases hj:j=i
    ·subst hj;rw[List.getElem?_set_self' ]at hu;rw[q]at hu;cases hu
    ·rw[zaN (Ne.symm hj)]at hu;obtain⟨v',d',a1,a2,a3⟩:=e.at_ j u hu;refine⟨v',d',a1,by rw[zaN (Ne.symm hj)];exact a2,?_⟩;rw[if_neg hj,eq];exact a3
   ·by_cases hj:j=i
    ·rw[if_pos hj]at z;exact z.elim
    ·rw[if_neg hj]at z;by_cases hj':j'=i
     ·rw[if_pos hj']at z';exact z'.elim
     ·rw[if_neg hj']at z';exact e.dj j j' a z z'
   ·by_cases hj:j=i
    ·rw[if_pos hj]at z;exact z.elim
    ·rw[if_neg hj]at z;rintro (z2|z2)
     ·exact hj (e.dj j i a z z2)
     ·exact e.dx j a z z2
   ·rw[zaU];exact e.l1
   ·rw[zaU];exact e.l2
   ·rcases z with z|⟨j,z⟩
    ·exact .inl ⟨i,z⟩
    ·by_cases hj:j=i
     ·rw[if_pos hj]at z;exact z.elim
     ·rw[if_neg hj]at z;exact .inl ⟨j,z⟩
def f_c(hv:∀K O H F,Ow K O H t 3 v F)(h:tF K true ds ds 3 (eC t) σ H Q):tC v σ H Q:=by
 obtain⟨Ox,en,R,t',en',e,hf,k⟩:=h;cases hf;exact k v H R NoA (Post.refl e) (hv _ _ _ _)
def Ko(hd:d'<=d)(h:tF K p ds ds' d' f σ H Q):tF K p ds ds' d f σ H Q:=by
 obtain⟨Ox,en,R,t,en',e,hf,k⟩:=h;refine⟨Ox,en,R,t,en',e,hf,fun v H' R' F P o=>?_⟩;obtain⟨F',s1,s2⟩:=Ow.cut t hd o;refine k v H' R' F' (P.less s1) (s2 _ (fun a z=>z.imp id fun z=>z.imp (s1 a) id) fun a z z2=>?_);rcases z2 with⟨i,z2⟩|z2|z2
 ·exact absurd (.inl z) (P.env.dx i a z2)
 ·exact z2
 ·exact absurd z2 (P.fx a z)
def pf(hp:p'=true->p=true)(h:tF K p' ds ds' d f σ H Q):tF K p ds ds' d f σ H Q:=by
 obtain⟨Ox,en,R,t,en',e,hf,k⟩:=h;exact⟨Ox,en,R,t,en',e,hf,fun v H' R' F P o=>k v H' R' F ⟨P.env,P.fx,P.keep,P.own,P.dom,fun z=>P.pure (hp z)⟩ o⟩
theorem EnvOk.cut(e:EnvOk K ds Ox H σ en R)(hl:ds0.length=ds.length)(hd:∀(i:Nat) a b,ds0[i]?=some a->ds[i]?=some b->a<=b):∃R',(∀i a,R' i a->R i a)/\EnvOk K ds0 Ox H σ en R':=by
 have ch:∀i,∃F':AS,(∀b,F' b->R i b)/\∀t v d0,en[i]?=some (some t)->σ[i]?=some (some v)->ds0[i]?=some d0->∀O':AS,(∀a,O' a->Own R Ox a)->(∀a,R i a->O' a->F' a)->Ow K O' H t d0 v F':=fun i=>by
  by_cases h:∃t,en[i]?=some (some t)
  ·obtain⟨t,ht⟩:=h;obtain⟨v,d,h1,h2,h3⟩:=e.at_ i t ht;cases q:ds0[i]? with
   |none=>exact⟨NoA,fun _ z=>z.elim,fun _ _ _ _ _ z=>nomatch z⟩
   |some d0=>
    obtain⟨F',s1,s2⟩:=Ow.cut t (hd i d0 d q h2) h3;refine⟨F',s1,fun t' v' d0' h1' h2' h3' O'=>?_⟩;rw[ht]at h1';cases h1';rw[h1]at h2';cases h2';cases h3';exact s2 O'
  ·exact⟨NoA,fun _ z=>z.elim,fun t _ _ ht=>absurd ⟨t,ht⟩ h⟩
 refine⟨fun i=>(ch i).choose,fun i=>(ch i).choose_spec.1,fun i t ht=>?_,fun i j a z1 z2=>e.dj i j a ((ch i).choose_spec.1 a z1) ((ch j).choose_spec.1 a z2),fun i a z=>e.dx i a ((ch i).choose_spec.1 a z),fun a z=>e.dom a (z.imp (fun⟨i,z⟩=>⟨i,(ch i).choose_spec.1 a z⟩) id),e.l1,hl.trans e.l2⟩;obtain⟨v,d,h1,h2,h3⟩:=e.at_ i t ht;have hi:i<ds0.length:=by rw[hl];exact(zah.mp h2).1
 refine⟨v,ds0[i],h1,zak hi,(ch i).choose_spec.2 t v _ ht h1 (zak hi) _ (fun a z=>z.imp (fun⟨j,z⟩=>⟨j,(ch j).choose_spec.1 a z⟩) id) fun a z z2=>?_⟩;rcases z2 with⟨j,z2⟩|z2
 ·have:=e.dj i j a z ((ch j).choose_spec.1 a z2);subst this;exact z2
 ·exact absurd z2 (e.dx i a z)
def leD:List Nat->List Nat->Bool
 |[],[]=>true
 |a::r,b::s=>decide (a<=b)&&leD r s
 |_,_=>false
theorem er:∀{a b:List Nat},leD a b=true->a.length=b.length/\∀(i:Nat) x y,a[i]?=some x->b[i]?=some y->x<=y
 |[],[],_=>⟨rfl,fun i x y h=>by simp at h⟩
 |a::r,b::s,h=>by
  unfold leD at h;rw[zbk]at h;obtain⟨h1,h2⟩:=h;obtain⟨h3,h4⟩:=er h2;refine⟨by rw[zac,zac,h3],fun i x y e1 e2=>?_⟩;cases i with
  |zero=>cases e1;cases e2;exact of_decide_eq_true h1
  |succ i=>exact h4 i x y e1 e2
 |[],_::_,h=>nomatch h
 |_::_,[],h=>nomatch h
def Lb(hd:leD ds0 ds=true)(h:tF K false ds ds' d f σ H Q):tF K p ds0 ds' d f σ H Q:=by
 obtain⟨Ox,en,R,t,en',e,hf,k⟩:=h;obtain⟨R1,s1,e1⟩:=e.cut (er hd).1 (er hd).2;refine⟨Ox,en,R1,t,en',e1,hf,fun v H' R' F P o=>k v H' R' F ⟨P.env,P.fx,fun a o q n=>P.keep a o q fun i z=>n i (s1 i a z),fun a z=>(P.own a z).imp (fun⟨i,z⟩=>⟨i,s1 i a z⟩) id,P.dom,fun z=>nomatch z⟩ o⟩
def KB(hd:leD ds0 ds=true)(h:tF K true ds ds 3 f σ H Q):tF K true ds0 ds0 3 f σ H Q:=by
 obtain⟨Ox,en,R,t,en',e,hf,k⟩:=h;obtain⟨R1,s1,e1⟩:=e.cut (er hd).1 (er hd).2;refine⟨Ox,en,R1,t,en',e1,hf,fun v H' R' F P o=>?_⟩;obtain⟨a1,a2,a3⟩:=P.pure rfl;subst a1 a2;have nf:∀a,F a->H a=none:=fun a z=>by
  rcases P.own a (.inl z)with⟨i,z2⟩|z2
  ·exact absurd (.inl z) (P.env.dx i a z2)
  ·exact z2
 have nt:NewTo H H' F:=⟨a3,fun a z=>⟨nf a z,P.env.dom a (.inr (.inl z))⟩⟩;exact k v H' R F (Post.new e nt.1 nt.2) (Ow.full t o)
def Ku{g:D->Option D}(h:tF K p ds ds1 d (e1 g f) σ H Q):tUn (rF1 K g d) (tF K p ds ds1 d1 f) σ H Q:=by
 obtain⟨Ox,en,R,t,en',e,hf,k⟩:=h;unfold e1 at hf;obtain⟨⟨t1,en1⟩,h1,hf⟩:=zaa.mp hf;obtain⟨t',h3,hf⟩:=zab.mp hf;cases hf;refine⟨Ox,en,R,t1,en1,e,h1,fun v H' R' F P o=>?_⟩;refine⟨Own R' Ox,t1,t,Ow.letgo P (fun _ z=>z) o,P.doms,h3,fun v2 H2 F2 n o2=>k v2 H2 R' F2 (P.fin n) (pG▸o2)⟩
def rK(h:tF K (p1&&p2) ds ds2 d (e2 g f1 f2) σ H Q):tOp (rF2 K g d) (tF K p1 ds ds1 d1 f1) (tF K p2 ds1 ds2 d2 f2) σ H Q:=by
 obtain⟨Ox,en,R,t,en',e,hf,k⟩:=h;unfold e2 at hf;obtain⟨⟨t1,en1⟩,h1,hf⟩:=zaa.mp hf;obtain⟨⟨t2,en2⟩,h2,hf⟩:=zaa.mp hf;obtain⟨t',h3,hf⟩:=zab.mp hf;cases hf;refine two e h1 h2 fun x y H2 R2 F1 F2 P o1 o2=>?_;exact⟨Own R2 Ox,t1,t2,t,Ow.letgo P (fun _=>.inl) o1,Ow.letgo P (fun _=>.inr) o2,P.doms,h3,fun v2 H3 F3 n o3=>k v2 H3 R2 F3 (P.fin n) (pG▸o3)⟩
def Post.after{R2:Nat->AS}{F:AS}(P1:Post K p1 ds1 Ox σ H en R en1 H1 R1 F1)(P2:Post K p2 ds2 Ox σ H1 en1 R1 en2 H' R2 F):Post K (p1&&p2) ds2 Ox σ H en R en2 H' R2 F:=by
 have P1':=P1.less (F':=NoA) fun _ z=>z.elim;have P2':Post K p2 ds2 (U NoA Ox) σ H1 en1 R1 en2 H' R2 F:=by rw[fW];exact P2
 have:=P1'.trans P2';rw[fW]at this;exact this
def Post.env0{F:AS}(P:Post K p ds' Ox σ H en R en' H' R' F):EnvOk K ds' Ox H' σ en' R':=P.env.fewer fun a z=>.inr z
def KD(h:tF K (p1&&p2) ds ds1 d (l6 f1 f2) σ H Q):Ci (tF K p1 ds ds1 d1 f1) (tF K p2 ds1 ds1 d f2) σ H Q:=by
 obtain⟨Ox,en,R,t,en',e,hf,k⟩:=h;unfold l6 at hf;obtain⟨⟨t1,en1⟩,h1,hf⟩:=zaa.mp hf;refine⟨Ox,en,R,t1,en1,e,h1,fun v H1 R1 F1 P1 o1=>?_⟩;cases t1 with
 |bool b=>
  have ev:v=.bl b:=o1;refine⟨b,ev,?_⟩;cases b with
  |true=>
   rw[if_pos rfl];exact⟨Ox,en1,R1,t,en',P1.env0,hf,fun v2 H2 R2 F2 P2 o2=>k v2 H2 R2 F2 (P1.after P2) o2⟩
  |false=>
   cases hf;rw[if_neg zbl];refine k _ H1 R1 NoA ?_ rfl
   have:=(P1.less (F':=NoA) fun _ z=>z.elim);exact⟨this.env,this.fx,this.keep,this.own,this.dom,fun hp=>this.pure (by cases p1<;>simp_all)⟩
 |_=>cases hf
def K8(h:tF K (p1&&p2) ds ds1 d (eOr f1 f2) σ H Q):GG (tF K p1 ds ds1 d1 f1) (tF K p2 ds1 ds1 d f2) σ H Q:=by
 obtain⟨Ox,en,R,t,en',e,hf,k⟩:=h;unfold eOr at hf;obtain⟨⟨t1,en1⟩,h1,hf⟩:=zaa.mp hf;refine⟨Ox,en,R,t1,en1,e,h1,fun v H1 R1 F1 P1 o1=>?_⟩;cases t1 with
 |bool b=>
  have ev:v=.bl b:=o1;refine⟨b,ev,?_⟩;cases b with
  |false=>
   rw[if_neg zbl];exact⟨Ox,en1,R1,t,en',P1.env0,hf,fun v2 H2 R2 F2 P2 o2=>k v2 H2 R2 F2 (P1.after P2) o2⟩
  |true=>
   cases hf;rw[if_pos rfl];refine k _ H1 R1 NoA ?_ rfl
   have:=(P1.less (F':=NoA) fun _ z=>z.elim);exact⟨this.env,this.fx,this.keep,this.own,this.dom,fun hp=>this.pure (by cases p1<;>simp_all)⟩
 |_=>cases hf
def Kv(h:tF K p ds ds1 3 (qi f) σ H Q):Ce (tF K p ds ds1 d1 f) σ H Q:=by
 obtain⟨Ox,en,R,t,en',e,hf,k⟩:=h;unfold qi at hf;obtain⟨⟨t1,en1⟩,h1,hf⟩:=zaa.mp hf;refine⟨Ox,en,R,t1,en1,e,h1,fun v H1 R1 F1 P1 o1=>?_⟩;cases t1 with
 |bool b=>
  cases hf;exact⟨b,o1,k _ H1 R1 NoA (P1.less fun _ z=>z.elim) rfl⟩
 |_=>cases hf
def tFT(K:zbY)(p:Bool)(ds ds':List Nat)(f:MT):TT:=fun σ H Q=>
 ∃Ox en R b en',EnvOk K ds Ox H σ en R/\f en=some (b,en')/\∀H' R',Post K p ds' Ox σ H en R en' H' R' NoA->Q b H'
variable{c:MT}{QT:Bool->Hp->Prop}
def jU(h:tFT K p ds ds' (tV f) σ H QT):tB (tF K p ds ds' d f) σ H QT:=by
 obtain⟨Ox,en,R,b,en',e,hf,k⟩:=h;unfold tV at hf;obtain⟨⟨t1,en1⟩,h1,hf⟩:=zaa.mp hf;refine⟨Ox,en,R,t1,en1,e,h1,fun v H1 R1 F1 P1 o1=>?_⟩;cases t1 with
 |bool b=>
  cases hf;exact⟨_,o1,k H1 R1 (P1.less fun _ z=>z.elim)⟩
 |_=>cases hf
def HZ(h:tFT K (p1&&p2) ds ds1 (dv c1 c2) σ H QT):GP (tFT K p1 ds ds1 c1) (tFT K p2 ds1 ds1 c2) σ H QT:=by
 obtain⟨Ox,en,R,b,en',e,hf,k⟩:=h;unfold dv at hf;obtain⟨⟨b1,en1⟩,h1,hf⟩:=zaa.mp hf;refine⟨Ox,en,R,b1,en1,e,h1,fun H1 R1 P1=>?_⟩;cases b1 with
 |true=>
  rw[if_pos rfl];exact⟨Ox,en1,R1,b,en',P1.env0,hf,fun H2 R2 P2=>k H2 R2 (P1.after P2)⟩
 |false=>
  cases hf;rw[if_neg zbl];exact k H1 R1 ⟨P1.env,P1.fx,P1.keep,P1.own,P1.dom,fun hp=>P1.pure (by cases p1<;>simp_all)⟩
def J3(h:tFT K (p1&&p2) ds ds1 (bOr c1 c2) σ H QT):tOr (tFT K p1 ds ds1 c1) (tFT K p2 ds1 ds1 c2) σ H QT:=by
 obtain⟨Ox,en,R,b,en',e,hf,k⟩:=h;unfold bOr at hf;obtain⟨⟨b1,en1⟩,h1,hf⟩:=zaa.mp hf;refine⟨Ox,en,R,b1,en1,e,h1,fun H1 R1 P1=>?_⟩;cases b1 with
 |false=>
  rw[if_neg zbl];exact⟨Ox,en1,R1,b,en',P1.env0,hf,fun H2 R2 P2=>k H2 R2 (P1.after P2)⟩
 |true=>
  cases hf;rw[if_pos rfl];exact k H1 R1 ⟨P1.env,P1.fx,P1.keep,P1.own,P1.dom,fun hp=>P1.pure (by cases p1<;>simp_all)⟩
def HW(h:tFT K p ds ds1 (fU c) σ H QT):GI (tFT K p ds ds1 c) σ H QT:=by
 obtain⟨Ox,en,R,b,en',e,hf,k⟩:=h;unfold fU at hf;obtain⟨⟨b1,en1⟩,h1,hf⟩:=zab.mp hf;cases hf;exact⟨Ox,en,R,b1,_,e,h1,fun H1 R1 P1=>k H1 R1 P1⟩
def HY(hd:leD ds0 ds=true)(h:tFT K true ds ds c σ H QT):tFT K true ds0 ds0 c σ H QT:=by
 obtain⟨Ox,en,R,t,en',e,hf,k⟩:=h;obtain⟨R1,s1,e1⟩:=e.cut (er hd).1 (er hd).2;refine⟨Ox,en,R1,t,en',e1,hf,fun H' R' P=>?_⟩;obtain⟨a1,a2,a3⟩:=P.pure rfl;subst a1 a2;exact k H' R (Post.new e a3 fun _ z=>z.elim)
def La(h:tF K (p&&(p1&&p2)) ds ds2 d (eIf c f1 f2) σ H Q):tIf (tFT K p ds ds1 c) (tF K p1 ds1 ds2 d f1) (tF K p2 ds1 ds2 d f2) σ H Q:=by
 obtain⟨Ox,en,R,t,en',e,hf,k⟩:=h;unfold eIf at hf;obtain⟨⟨b1,en1⟩,h1,hf⟩:=zaa.mp hf;refine⟨Ox,en,R,b1,en1,e,h1,fun H1 R1 P1=>?_⟩;cases b1 with
 |true=>
  rw[if_pos rfl];refine⟨Ox,en1,R1,t,en',P1.env0,hf,fun v H2 R2 F2 P2 o2=>k v H2 R2 F2 ?_ o2⟩
  have:=P1.after P2;exact⟨this.env,this.fx,this.keep,this.own,this.dom,fun hp=>this.pure (by cases p<;>cases p1<;>simp_all)⟩
 |false=>
  rw[if_neg zbl];refine⟨Ox,en1,R1,t,en',P1.env0,hf,fun v H2 R2 F2 P2 o2=>k v H2 R2 F2 ?_ o2⟩
  have:=P1.after P2;exact⟨this.env,this.fx,this.keep,this.own,this.dom,fun hp=>this.pure (by cases p<;>cases p1<;>simp_all)⟩
end
abbrev Sh:=List (Nat ⊕ Nat)
variable{sh:Sh}
def OwA(K:zbY)(O:AS)(H:Hp)(σ:St):List (D ⊕ Nat)->Sh->List V->AS->Prop
 |[],ds,vs,_=>ds=[]/\vs=[]
 |.inl t::as,ds,vs,F=>∃v r d dr,∃F1 F2:AS,vs=v::r/\ds=.inl d::dr/\(∀b,F1 b->F b)/\(∀b,F2 b->F b)/\(∀b,F1 b->¬F2 b)/\Ow K O H t d v F1/\OwA K O H σ as dr r F2
 |.inr i::as,ds,vs,F=>∃v r dr,vs=v::r/\ds=.inr i::dr/\σ[i]?=some (some v)/\OwA K O H σ as dr r F
def tFA(K:zbY)(p:Bool)(ds ds':List Nat)(sh:Sh)(f:MA):TA:=fun σ H Q=>
 ∃Ox en R as en',EnvOk K ds Ox H σ en R/\f en=some (as,en')/\∀vs H' R' F,Post K p ds' Ox σ H en R en' H' R' F->OwA K (Own R' (U F Ox)) H' σ as sh vs F->Q vs H'
def aV(fa:MA):ME:=fun en=>(fa en).bind fun r=>(vals r.1).bind fun ts=>if ts.length<=sizeLine then some (.list ts,r.2)else none
def iF(fa:MA):ME:=fun en=>(fa en).bind fun r=>(vals r.1).bind fun ts=>if ts.length<=sizeLine then some (.tuple ts,r.2)else none
section
variable{QA:List V->Hp->Prop} 
def IQ(h:tFA K true ds ds [] af σ H QA):nI σ H QA:=by
 obtain⟨Ox,en,R,as,en',e,hf,k⟩:=h;cases hf;exact k [] H R NoA (Post.refl e) ⟨rfl,rfl⟩
def Eo(h:tFA K (p1&&p2) ds ds2 (.inl d::sh) (ae f fa) σ H QA):iP (tF K p1 ds ds1 d f) (tFA K p2 ds1 ds2 sh fa) σ H QA:=by
 obtain⟨Ox,en,R,as,en',e,hf,k⟩:=h;unfold ae at hf;obtain⟨⟨t1,en1⟩,h1,hf⟩:=zaa.mp hf;obtain⟨⟨as2,en2⟩,h2,hf⟩:=zab.mp hf;cases hf;refine⟨Ox,en,R,t1,en1,e,h1,fun x H1 R1 F1 P1 o1=>?_⟩;refine⟨U F1 Ox,en1,R1,as2,en2,P1.env,h2,fun vs H2 R2 F2 P2 o2=>?_⟩;refine k (x::vs) H2 R2 (U F1 F2) (P1.trans P2) ⟨x,vs,d,sh,F1,F2,rfl,rfl,fun _=>.inl,fun _=>.inr,fun b z1 z2=>P2.fx b z2 (.inl z1),Ow.over P1.env P2 o1,?_⟩;rw[<-j5];exact o2
def El(h:tFA K p ds ds2 (.inr i::sh) (bo i fa) σ H QA):iP (gp i) (tFA K p ds ds2 sh fa) σ H QA:=by
 obtain⟨Ox,en,R,as,en',e,hf,k⟩:=h;unfold bo at hf;obtain⟨t0,h0,hf⟩:=zaa.mp hf;obtain⟨⟨as2,en2⟩,h2,hf⟩:=zab.mp hf;cases hf;have q:en[i]?=some (some t0):=by
  cases q:en[i]? with
  |none=>rw[q]at h0;cases h0
  |some o=>rw[q]at h0;exact congrArg some h0
 obtain⟨v,d,h1,_⟩:=e.at_ i t0 q;exact⟨v,h1,Ox,en,R,as2,en2,e,h2,fun vs H2 R2 F2 P2 o2=>k (v::vs) H2 R2 F2 P2 ⟨v,vs,sh,rfl,rfl,h1,o2⟩⟩
def b8(c:Nat):Sh->Bool
 |[]=>true
 |.inl d::r=>decide (c<=d)&&b8 c r
 |.inr _::_=>false
theorem OwA.ows:∀{as:List (D ⊕ Nat)} {sh:Sh} {vs:List V} {F:AS} {ts:List D} {c:Nat},b8 c sh=true->vals as=some ts->OwA K O H σ as sh vs F ->
  ∃F':AS,(∀b,F' b->F b)/\∀O':AS,(∀a,O' a->O a)->(∀a,F a->O' a->F' a)->Ows K O' H ts c vs F'
 |[],_,_,F,ts,c,_,hv,h=>by
  cases hv;exact⟨F,fun _ z=>z,fun _ _ _=>h.2⟩
 |.inl t::as,_,_,F,ts,c,hs,hv,h=>by
  obtain⟨v,r,d,dr,F1,F2,e1,e2,s1,s2,s3,h1,h2⟩:=h;subst e1 e2;unfold vals at hv;obtain⟨ts',hv',e⟩:=zab.mp hv;subst e;unfold b8 at hs;rw[zbk]at hs;obtain⟨G1,a1,a2⟩:=Ow.cut t (of_decide_eq_true hs.1) h1;obtain⟨G2,b1,b2⟩:=OwA.ows hs.2 hv' h2;refine⟨fun b=>G1 b\/G2 b,fun b hb=>hb.elim (fun z=>s1 _ (a1 _ z)) fun z=>s2 _ (b1 _ z),fun O' ho hx=>⟨v,r,G1,G2,rfl,fun b=>.inl,fun b=>.inr,fun b z1 z2=>s3 b (a1 b z1) (b1 b z2),a2 O' ho fun b hb hz=>?_,b2 O' ho fun b hb hz=>?_⟩⟩
  ·exact(hx b (s1 b hb) hz).elim id fun z=>absurd (b1 b z) (s3 b hb)
  ·exact(hx b (s2 b hb) hz).elim (fun z=>absurd hb (s3 b (a1 b z))) id
 |.inr i::as,_,_,F,ts,c,_,hv,_=>by cases hv
theorem OwA.len:∀{as:List (D ⊕ Nat)} {sh:Sh} {vs:List V} {F:AS},OwA K O H σ as sh vs F->vs.length=as.length
 |[],_,_,_,h=>by rw[h.2];rfl
 |.inl t::as,_,_,_,h=>by
  obtain⟨v,r,d,dr,F1,F2,e1,e2,s1,s2,s3,h1,h2⟩:=h;rw[e1,zac,zac,h2.len]
 |.inr i::as,_,_,_,h=>by
  obtain⟨v,r,dr,e1,e2,e3,h2⟩:=h;rw[e1,zac,zac,h2.len]
theorem nH:∀{as:List (D ⊕ Nat)} {ts:List D},vals as=some ts->ts.length=as.length
 |[],_,h=>by cases h;rfl
 |.inl t::as,_,h=>by
  unfold vals at h;obtain⟨ts',hv',e⟩:=zab.mp h;subst e;rw[zac,zac,nH hv']
 |.inr _::_,_,h=>by cases h
def tw{g:List D->Option D}(hs:b8 0 sh=true)(h:tF K p ds ds1 d (eN g fa) σ H Q):tCB (rFn K g d) (tFA K p ds ds1 sh fa) σ H Q:=by
 obtain⟨Ox,en,R,t,en',e,hf,k⟩:=h;unfold eN at hf;obtain⟨⟨as,en1⟩,h1,hf⟩:=zaa.mp hf;obtain⟨ts,h2,hf⟩:=zaa.mp hf;obtain⟨t',h3,hf⟩:=zab.mp hf;cases hf;refine⟨Ox,en,R,as,en1,e,h1,fun vs H1 R1 F P o=>?_⟩;obtain⟨F',s1,s2⟩:=OwA.ows hs h2 o;have o2:Ows K (Own R1 Ox) H1 ts 0 vs F':=s2 _ (fun a z=>z.imp id .inr) fun a z z2=>by
  rcases z2 with⟨i,z2⟩|z2
  ·exact absurd (.inl z) (P.env.dx i a z2)
  ·exact absurd z2 (P.fx a z)
 exact⟨Own R1 Ox,ts,t,Ows.any0 ts o2,P.doms,h3,fun v2 H2 F2 n o2=>k v2 H2 R1 F2 (P.fin n) (pG▸o2)⟩
def Post.add{F:AS}(P:Post K p ds' Ox σ H en R en' H1 R' F)(n:NewTo H1 H' G):Post K p ds' Ox σ H en R en' H' R' (U F G):=by
 have P2:Post K true ds' (U F Ox) σ H1 en' R' en' H' R' G:=Post.new P.env n.1 n.2
 have:=P.trans P2;rw[zbW]at this;exact this
def bX(hl:H l=none):NewTo H (upd H l o) (fun b=>b=l):=by
 refine⟨fun a u q=>?_,fun a z=>?_⟩
 ·rw[az]
  ·exact q
  ·intro z;subst z;rw[hl]at q;cases q
 ·subst z;exact⟨hl,_,av⟩
def Kw(hs:b8 c sh=true)(hd:dn d=c)(hz:d≠0)(h:tF K p ds ds1 d (aV fa) σ H Q):GJ (tFA K p ds ds1 sh fa) σ H Q:=by
 obtain⟨Ox,en,R,t,en',e,hf,k⟩:=h;unfold aV at hf;obtain⟨⟨as,en1⟩,h1,hf⟩:=zaa.mp hf;obtain⟨ts,h2,hf⟩:=zaa.mp hf;by_cases ξ:ts.length<=sizeLine
 case neg=>rw[if_neg ξ]at hf;cases hf
 rw[if_pos ξ]at hf;cases hf;refine⟨Ox,en,R,as,en1,e,h1,fun vs H1 R1 F P o=>⟨?_,fun l hl=>?_⟩⟩
 ·rw[o.len,<-nH h2];exact ξ
 obtain⟨F',s1,s2⟩:=OwA.ows hs h2 o;have o2:=s2 (Own R1 (U F' Ox)) (fun a z=>z.imp id fun z=>z.imp (s1 a) id) fun a z z2=>by
  rcases z2 with⟨i,z2⟩|z2|z2
  ·exact absurd (.inl z) (P.env.dx i a z2)
  ·exact z2
  ·exact absurd z2 (P.fx a z)
 have P':=(P.less s1).add (bX (o:=.lst vs) hl);have nl:∀a,F' a->a≠l:=fun a z z2=>by
  subst z2;obtain⟨o',q⟩:=P.env.dom a (.inr (.inl (s1 a z)));rw[hl]at q;cases q
 refine k (.ref l) (upd H1 l (.lst vs)) R1 _ P' ⟨l,vs,rfl,.inr ⟨hz,av,.inr rfl,F',fun b z=>⟨.inl z,nl b z⟩,?_⟩⟩;rw[hd];refine Ows.mv (G:=F') ⟨fun a o q _=>(bX (o:=.lst vs) hl).1 a o q,fun a z=>?_⟩ ts (fun _ z=>z) o2;rcases z with z | (z|z)|z
 ·exact .inl (.inl z)
 ·exact .inl (.inr (.inl z))
 ·exact .inr (by rw[show a=l from z];exact hl)
 ·exact .inl (.inr (.inr z))
def Km(hs:b8 c sh=true)(hd:dn d=c)(h:tF K p ds ds1 d (iF fa) σ H Q):GC (tFA K p ds ds1 sh fa) σ H Q:=by
 obtain⟨Ox,en,R,t,en',e,hf,k⟩:=h;unfold iF at hf;obtain⟨⟨as,en1⟩,h1,hf⟩:=zaa.mp hf;obtain⟨ts,h2,hf⟩:=zaa.mp hf;by_cases ξ:ts.length<=sizeLine
 case neg=>rw[if_neg ξ]at hf;cases hf
 rw[if_pos ξ]at hf;cases hf;refine⟨Ox,en,R,as,en1,e,h1,fun vs H1 R1 F P o=>⟨?_,fun l hl=>?_⟩⟩
 ·rw[o.len,<-nH h2];exact ξ
 obtain⟨F',s1,s2⟩:=OwA.ows hs h2 o;have o2:=s2 (Own R1 (U F' Ox)) (fun a z=>z.imp id fun z=>z.imp (s1 a) id) fun a z z2=>by
  rcases z2 with⟨i,z2⟩|z2|z2
  ·exact absurd (.inl z) (P.env.dx i a z2)
  ·exact z2
  ·exact absurd z2 (P.fx a z)
 have nl:∀a,Own R1 (U F' Ox) a->a≠l:=fun a z z2=>by
  subst z2;obtain⟨o',q⟩:=P.env.dom a (z.imp id fun z=>z.imp (s1 a) id);rw[hl]at q;cases q
 by_cases hz:d=0
 ·subst hz;have P':=(P.less s1).add (G:=NoA) (H':=upd H1 l (.tup vs)) ⟨(bX (o:=.tup vs) hl).1,fun _ z=>z.elim⟩;have eq:U F' NoA=F':=eJ fun a=>⟨fun z=>z.elim id fun z=>z.elim,.inl⟩;rw[eq]at P';refine k (.ref l) (upd H1 l (.tup vs)) R1 _ P' ⟨l,vs,rfl,.inl ⟨rfl,⟨av,fun z=>nl l z rfl⟩,?_⟩⟩;have hc:c=0:=hd.symm;subst hc;exact Ows.mv (G:=F') ⟨fun a o q _=>(bX (o:=.tup vs) hl).1 a o q,fun a z=>.inl z⟩ ts (fun _ z=>z) o2
 ·have P':=(P.less s1).add (bX (o:=.tup vs) hl);refine k (.ref l) (upd H1 l (.tup vs)) R1 _ P' ⟨l,vs,rfl,.inr ⟨hz,av,.inr rfl,F',fun b z=>⟨.inl z,nl b (.inr (.inl z))⟩,?_⟩⟩;rw[hd];refine Ows.mv (G:=F') ⟨fun a o q _=>(bX (o:=.tup vs) hl).1 a o q,fun a z=>?_⟩ ts (fun _ z=>z) o2;rcases z with z | (z|z)|z
  ·exact .inl (.inl z)
  ·exact .inl (.inr (.inl z))
  ·exact .inr (by rw[show a=l from z];exact hl)
  ·exact .inl (.inr (.inr z))
end
def spF(K:zbY)(dps:List Nat)(dr:Nat)(F:List D->Option (D×En)):Sp:=fun vs H Q _=>
 ∃Ox ts R r ψ,EnvOk K dps Ox H (vs.map some) (ts.map some) R/\F ts=some (r,ψ) /\
  ∀v H' R' Fr,Post K false dps Ox (vs.map some) H (ts.map some) R ψ H' R' Fr->Ow K (Own R' (U Fr Ox)) H' r dr v Fr->Q v H'
def fV:List (D ⊕ Nat)->En->Option (List D)
 |[],_=>some []
 |.inl t::r,en=>(fV r en).map (t::·)
 |.inr i::r,en=>(en[i]?).join.bind fun t=>(fV r en).map (t::·)
def wb:List (D ⊕ Nat)->En->En->En
 |.inr i::r,o::ψ,en=>wb r ψ (en.set i o)
 |.inl _::r,_::ψ,en=>wb r ψ en
 |_,_,en=>en
def aE(F:List D->Option (D×En))(fa:MA):ME:=fun en=>(fa en).bind fun r=>(fV r.1 r.2).bind fun ts=>(F ts).map fun q=>(q.1,wb r.1 q.2 r.2)
def jM:Sh->List Nat
 |[]=>[]
 |.inl _::r=>jM r
 |.inr i::r=>i::jM r
def eG(ds:List Nat):Sh->List Nat->Bool
 |[],[]=>true
 |.inl d::r,q::s=>decide (d=q)&&eG ds r s
 |.inr i::r,q::s=>decide (ds[i]?=some q)&&(decide (i∉jM r)&&eG ds r s)
 |_,_=>false
def ia:Sh->Bool
 |[]=>true
 |.inl _::r=>ia r
 |.inr _::_=>false
section
variable{QA:List V->Hp->Prop} 
theorem OwA.parts:∀{as:List (D ⊕ Nat)} {sh:Sh} {vs:List V} {F:AS},OwA K O H σ as sh vs F ->
  ∃Rp:Nat->AS,(∀(j:Nat) t,as[j]?=some (.inl t)->∃v d,vs[j]?=some v/\sh[j]?=some (.inl d)/\Ow K O H t d v (Rp j))/\(∀(j i:Nat),as[j]?=some (.inr i)->∃v,vs[j]?=some v/\sh[j]?=some (.inr i)/\σ[i]?=some (some v)) /\
   (∀j a,Rp j a->F a)/\(∀j j' a,Rp j a->Rp j' a->j=j')
 |[],sh,vs,F,h=>⟨fun _=>NoA,fun j t z=>by simp at z,fun j i z=>by simp at z,fun _ _ z=>z.elim,fun _ _ _ z=>z.elim⟩
 |.inl t::as,sh,vs,F,h=>by
  obtain⟨v,r,d,dr,F1,F2,e1,e2,s1,s2,s3,h1,h2⟩:=h;subst e1 e2;obtain⟨Rp,a1,a2,a3,a4⟩:=h2.parts;refine⟨fun j=>match j with|0=>F1|j+1=>Rp j,fun j u hj=>?_,fun j i hj=>?_,fun j a z=>?_,fun j j' a z z'=>?_⟩
  ·cases j with
   |zero=>
    have:t=u:=by simpa using hj
    subst this;exact⟨v,d,rfl,rfl,h1⟩
   |succ j=>exact a1 j u (by simpa using hj)
  ·cases j with
   |zero=>simp at hj
   |succ j=>exact a2 j i (by simpa using hj)
  ·cases j with
   |zero=>exact s1 a z
   |succ j=>exact s2 a (a3 j a z)
  ·cases j with
   |zero=>
    cases j' with
    |zero=>rfl
    |succ j'=>exact absurd (a3 j' a z') (s3 a z)
   |succ j=>
    cases j' with
    |zero=>exact absurd (a3 j a z) (s3 a z')
    |succ j'=>rw[a4 j j' a z z']
 |.inr i::as,sh,vs,F,h=>by
  obtain⟨v,r,dr,e1,e2,e3,h2⟩:=h;subst e1 e2;obtain⟨Rp,a1,a2,a3,a4⟩:=h2.parts;refine⟨fun j=>match j with|0=>NoA|j+1=>Rp j,fun j u hj=>?_,fun j i' hj=>?_,fun j a z=>?_,fun j j' a z z'=>?_⟩
  ·cases j with
   |zero=>simp at hj
   |succ j=>exact a1 j u (by simpa using hj)
  ·cases j with
   |zero=>
    have:i=i':=by simpa using hj
    subst this;exact⟨v,rfl,rfl,e3⟩
   |succ j=>exact a2 j i' (by simpa using hj)
  ·cases j with
   |zero=>exact z.elim
   |succ j=>exact a3 j a z
  ·cases j with
   |zero=>exact z.elim
   |succ j=>
    cases j' with
    |zero=>exact z'.elim
    |succ j'=>rw[a4 j j' a z z']
theorem oe:∀{as:List (D ⊕ Nat)} {en:En} {ts:List D},fV as en=some ts->ts.length=as.length/\∀(j:Nat) t,ts[j]?=some t->as[j]?=some (.inl t)\/∃i,as[j]?=some (.inr i)/\en[i]?=some (some t)
 |[],_,_,h=>by cases h;exact⟨rfl,fun j t z=>by simp at z⟩
 |.inl t::as,en,_,h=>by
  unfold fV at h;obtain⟨ts',h',e⟩:=zab.mp h;subst e;obtain⟨l,g⟩:=oe h';refine⟨by rw[zac,zac,l],fun j u z=>?_⟩;cases j with
  |zero=>simp at z;subst z;exact .inl rfl
  |succ j=>exact g j u (by simpa using z)
 |.inr i::as,en,_,h=>by
  unfold fV at h;obtain⟨t,ht,h⟩:=zaa.mp h;obtain⟨ts',h',e⟩:=zab.mp h;subst e;obtain⟨l,g⟩:=oe h';refine⟨by rw[zac,zac,l],fun j u z=>?_⟩;cases j with
  |zero=>
   simp at z;subst z;refine .inr ⟨i,rfl,?_⟩;cases q:en[i]? with
   |none=>rw[q]at ht;cases ht
   |some o=>rw[q]at ht;exact congrArg some ht
  |succ j=>exact g j u (by simpa using z)
theorem ma:∀{sh:Sh} {dps:List Nat},eG ds sh dps=true->sh.length=dps.length/\(∀(j d:Nat),sh[j]?=some (.inl d)->dps[j]?=some d)/\(∀(j i:Nat),sh[j]?=some (.inr i)->∃q,dps[j]?=some q/\ds[i]?=some q) /\
   (∀(j j' i:Nat),sh[j]?=some (.inr i)->sh[j']?=some (.inr i)->j=j')
 |[],[],_=>⟨rfl,fun j d z=>by simp at z,fun j d z=>by simp at z,fun j j' d z=>by simp at z⟩
 |.inl d::r,q::s,h=>by
  unfold eG at h;rw[zbk]at h;obtain⟨h1,h2⟩:=h;have h1':=of_decide_eq_true h1;subst h1';obtain⟨l,a,b,c⟩:=ma h2;refine⟨by rw[zac,zac,l],fun j u z=>?_,fun j i z=>?_,fun j j' i z z'=>?_⟩
  ·cases j with
   |zero=>simp at z;subst z;rfl
   |succ j=>exact a j u (by simpa using z)
  ·cases j with
   |zero=>simp at z
   |succ j=>exact b j i (by simpa using z)
  ·cases j with
   |zero=>simp at z
   |succ j=>
    cases j' with
    |zero=>simp at z'
    |succ j'=>rw[c j j' i (by simpa using z) (by simpa using z')]
 |.inr i0::r,q::s,h=>by
  unfold eG at h;rw[zbk,zbk]at h;obtain⟨h1,h2,h3⟩:=h;have h1':=of_decide_eq_true h1;have h2':=of_decide_eq_true h2;obtain⟨l,a,b,c⟩:=ma h3;have mem:∀{r:Sh} {j i:Nat},r[j]?=some (.inr i)->i∈jM r:=fun {r}=>by
   induction r with
   |nil=>intro j i z;simp at z
   |cons x r ih=>
    intro j i z;cases j with
    |zero=>
     simp at z;subst z;unfold jM;exact zaq
    |succ j=>
     have:=ih (j:=j) (i:=i) (by simpa using z);cases x with
     |inl _=>exact this
     |inr _=>exact zaj _ this
  refine⟨by rw[zac,zac,l],fun j u z=>?_,fun j i z=>?_,fun j j' i z z'=>?_⟩
  ·cases j with
   |zero=>simp at z
   |succ j=>exact a j u (by simpa using z)
  ·cases j with
   |zero=>simp at z;subst z;exact⟨q,rfl,h1'⟩
   |succ j=>exact b j i (by simpa using z)
  ·cases j with
   |zero=>
    simp at z;subst z;cases j' with
    |zero=>rfl
    |succ j'=>exact absurd (mem (by simpa using z')) h2'
   |succ j=>
    cases j' with
    |zero=>
     simp at z';subst z';exact absurd (mem (by simpa using z)) h2'
    |succ j'=>rw[c j j' i (by simpa using z) (by simpa using z')]
 |[],_::_,h=>nomatch h
 |.inl _::_,[],h=>nomatch h
 |.inr _::_,[],h=>nomatch h
theorem rL:∀(as:List (D ⊕ Nat)) (ψ en:En),(wb as ψ en).length=en.length
 |[],_,_=>by unfold wb;rfl
 |.inl _::as,[],_=>by unfold wb;rfl
 |.inr _::as,[],_=>by unfold wb;rfl
 |.inl _::as,o::ψ,en=>by unfold wb;exact rL as ψ en
 |.inr i::as,o::ψ,en=>by unfold wb;rw[rL as ψ _,zaU]
theorem jL:∀(as:List (D ⊕ Nat)) (ψ en:En) (i:Nat),(∀j:Nat,as[j]?≠some (.inr i))->(wb as ψ en)[i]?=en[i]?
 |[],_,_,_,_=>by unfold wb;rfl
 |.inl _::as,[],_,_,_=>by unfold wb;rfl
 |.inr _::as,[],_,_,_=>by unfold wb;rfl
 |.inl _::as,o::ψ,en,i,h=>by unfold wb;exact jL as ψ en i fun j=>h (j+1)
 |.inr k::as,o::ψ,en,i,h=>by
  unfold wb;rw[jL as ψ _ i fun j=>h (j+1),zaN];intro e;subst e;exact h 0 rfl
theorem vk:∀(as:List (D ⊕ Nat)) (ψ en:En) (i j:Nat),as[j]?=some (.inr i)->(∀j':Nat,as[j']?=some (.inr i)->j'=j)->ψ.length=as.length->i<en.length->(wb as ψ en)[i]?=ψ[j]?
 |[],_,_,_,_,h,_,_,_=>by simp at h
 |.inl _::as,[],_,_,_,_,_,h,_=>by simp at h
 |.inr _::as,[],_,_,_,_,_,h,_=>by simp at h
 |.inl _::as,o::ψ,en,i,j,h,u,l,b=>by
  unfold wb;cases j with
  |zero=>simp at h
  |succ j=>exact vk as ψ en i j (by simpa using h) (fun j' z=>by have:=u (j'+1) (by simpa using z);omega) (by simpa using l) b
 |.inr k::as,o::ψ,en,i,j,h,u,l,b=>by
  unfold wb;cases j with
  |zero=>
   have e:k=i:=by simpa using h
   subst e;rw[jL as ψ _ k fun j' z=>by have:=u (j'+1) (by simpa using z);omega];rw[zaO b];rfl
  |succ j=>exact vk as ψ _ i j (by simpa using h) (fun j' z=>by have:=u (j'+1) (by simpa using z);omega) (by simpa using l) (by rw[zaU];exact b)
theorem OwA.shl:∀{as:List (D ⊕ Nat)} {sh:Sh} {vs:List V} {F:AS},OwA K O H σ as sh vs F->sh.length=as.length
 |[],_,_,_,h=>by rw[h.1];rfl
 |.inl t::as,_,_,_,h=>by
  obtain⟨v,r,d,dr,F1,F2,e1,e2,s1,s2,s3,h1,h2⟩:=h;rw[e2,zac,zac,h2.shl]
 |.inr i::as,_,_,_,h=>by
  obtain⟨v,r,dr,e1,e2,e3,h2⟩:=h;rw[e2,zac,zac,h2.shl]
theorem oI:∀{sh:Sh},ia sh=true->∀(j i:Nat),sh[j]?≠some (.inr i)
 |[],_,j,i,z=>by simp at z
 |.inl _::r,h,j,i,z=>by
  cases j with
  |zero=>simp at z
  |succ j=>exact oI (sh:=r) h j i (by simpa using z)
 |.inr _::r,h,_,_,_=>nomatch h
def KA{E:XK}{F:List D->Option (D×En)}(hc:eG ds1 sh dps=true)(h:∃Ox en R t en',EnvOk K ds Ox H σ en R/\aE F fa en=some (t,en')/\∀v H' R' F,Post K (p&&ia sh) ds1 Ox σ H en R en' H' R' F->(p=true->∀i0:Nat,(∀j:Nat,sh[j]?≠some (.inr i0))->(∀a o,H a=some o->R i0 a->H' a=some o)/\en'[i0]?=en[i0]?)->Ow K (Own R' (U F Ox)) H' t dr v F->Q v H'):rD (spF K dps dr F) [] E (tFA K p ds ds1 sh fa) σ H Q:=by
 obtain⟨Ox,en,R,t,en',e,hf,k⟩:=h;unfold aE at hf;obtain⟨⟨as,en1⟩,h1,hf⟩:=zaa.mp hf;obtain⟨ts,h2,hf⟩:=zaa.mp hf;obtain⟨⟨r,ψ⟩,h3,hf⟩:=zab.mp hf;cases hf;refine⟨Ox,en,R,as,en1,e,h1,fun vs H1 R1 F0 P o=>?_⟩;obtain⟨cl,c1,c2,c3⟩:=ma hc;obtain⟨Rp,a1,a2,a3,a4⟩:=o.parts;obtain⟨tl,tg⟩:=oe h2;have ol:=o.len;have asl:∀(j i:Nat),as[j]?=some (.inr i)->sh[j]?=some (.inr i):=fun j i z=>(a2 j i z).choose_spec.2.1;have asr:∀(j i:Nat),sh[j]?=some (.inr i)->as[j]?=some (.inr i):=fun j i z=>by
  cases q:as[j]? with
  |none=>
   have e1:as.length<=j:=List.getElem?_eq_none_iff.mp q;have e2:j<sh.length:=(zah.mp z).1
   have:=o.shl;omega
  |some x=>
   cases x with
   |inl t=>
    obtain⟨_,_,_,e2,_⟩:=a1 j t q;rw[z]at e2;cases e2
   |inr i'=>
    have:=asl j i' q;rw[z]at this;cases this;rfl
 let Rq:Nat->AS:=fun j=>match sh[j]? with|some (.inr i)=>R1 i|_=>Rp j
 have rq1:∀j i:Nat,sh[j]?=some (.inr i)->Rq j=R1 i:=fun j i z=>by show(match sh[j]? with|some (.inr i)=>R1 i|_=>Rp j)=R1 i;rw[z]
 have rq2:∀j:Nat,(∀i:Nat,sh[j]?≠some (.inr i))->Rq j=Rp j:=fun j z=>by
  show(match sh[j]? with|some (.inr i)=>R1 i|_=>Rp j)=Rp j;split
  ·next i q=>exact absurd q (z i)
  ·rfl
 have rqc:∀(j:Nat) a,Rq j a->(∃i,sh[j]?=some (.inr i)/\R1 i a)\/Rp j a:=fun j a z=>by
  by_cases q:∃i,sh[j]?=some (.inr i)
  ·obtain⟨i,q⟩:=q;rw[rq1 j i q]at z;exact .inl ⟨i,q,z⟩
  ·rw[rq2 j fun i z=>q ⟨i,z⟩]at z;exact .inr z
 let Oxp:AS:=fun a=>Ox a\/∃i,R1 i a/\∀j:Nat,sh[j]?≠some (.inr i);have sub:∀a,Own Rq Oxp a->Own R1 (U F0 Ox) a:=fun a z=>by
  rcases z with⟨j,z⟩|z|⟨i,z,_⟩
  ·rcases rqc j a z with⟨i,_,z⟩|z
   ·exact .inl ⟨i,z⟩
   ·exact .inr (.inl (a3 j a z))
  ·exact .inr (.inr z)
  ·exact .inl ⟨i,z⟩
 have ec:EnvOk K dps Oxp H1 (vs.map some) (ts.map some) Rq:=by
  refine⟨fun j u hu=>?_,fun j j' a z z'=>?_,fun j a z z2=>?_,fun a z=>P.env.dom a (sub a z),by rw[zad,zad,tl,ol],?_⟩
  ·rw[zao]at hu;obtain⟨u',hu,eu⟩:=zab.mp hu;cases eu;rcases tg j u hu with q|⟨i,q,qe⟩
   ·obtain⟨v,d,b1,b2,b3⟩:=a1 j u q;refine⟨v,d,by rw[zao,b1];rfl,c1 j d b2,?_⟩;rw[rq2 j fun i z=>by rw[b2]at z;cases z];exact Ow.grow sub u (fun _ z=>z) b3
   ·obtain⟨v,b1,b2,b3⟩:=a2 j i q;obtain⟨v',d,g1,g2,g3⟩:=P.env.at_ i u qe;rw[b3]at g1;cases g1;obtain⟨qd,q1,q2⟩:=c2 j i b2;rw[g2]at q2;cases q2;refine⟨v,d,by rw[zao,b1];rfl,q1,?_⟩;rw[rq1 j i b2];exact Ow.grow sub u (fun _ z=>z) g3
  ·rcases rqc j a z with⟨i,q,z⟩|z<;>rcases rqc j' a z' with⟨i',q',z'⟩|z'
   ·have:=P.env.dj i i' a z z';subst this;exact c3 j j' i q q'
   ·exact absurd (.inl (a3 j' a z')) (P.env.dx i a z)
   ·exact absurd (.inl (a3 j a z)) (P.env.dx i' a z')
   ·exact a4 j j' a z z'
  ·rcases rqc j a z with⟨i,q,z⟩|z
   ·rcases z2 with z2|⟨i',z2,n⟩
    ·exact P.env.dx i a z (.inr z2)
    ·have:=P.env.dj i i' a z z2;subst this;exact n j q
   ·rcases z2 with z2|⟨i',z2,n⟩
    ·exact P.fx a (a3 j a z) z2
    ·exact P.env.dx i' a z2 (.inl (a3 j a z))
  ·have:=o.shl;rw[zad];omega
 rw[zbq];refine⟨Oxp,ts,Rq,r,ψ,ec,h3,fun v H2 R2 Fr Pc oc=>?_⟩;have outl:ψ.length=as.length:=by rw[Pc.env.l1,zad];exact ol
 classical
 let R3:Nat->AS:=fun i=>if q:∃j:Nat,sh[j]?=some (.inr i)then R2 q.choose else R1 i
 have r31:∀(i j:Nat),sh[j]?=some (.inr i)->R3 i=R2 j:=fun i j z=>by
  have q:∃j:Nat,sh[j]?=some (.inr i):=⟨j,z⟩
  have:q.choose=j:=c3 _ _ i q.choose_spec z;show(if q:∃j:Nat,sh[j]?=some (.inr i)then R2 q.choose else R1 i)=R2 j;rw[dif_pos q,this]
 have r32:∀i:Nat,(∀j:Nat,sh[j]?≠some (.inr i))->R3 i=R1 i:=fun i z=>by
  show(if q:∃j:Nat,sh[j]?=some (.inr i)then R2 q.choose else R1 i)=R1 i;rw[dif_neg fun⟨j,q⟩=>z j q]
 have r3c:∀(i:Nat) a,R3 i a->(∃j:Nat,sh[j]?=some (.inr i)/\R2 j a)\/((∀j:Nat,sh[j]?≠some (.inr i))/\R1 i a):=fun i a z=>by
  by_cases q:∃j:Nat,sh[j]?=some (.inr i)
  ·obtain⟨j,q⟩:=q;rw[r31 i j q]at z;exact .inl ⟨j,q,z⟩
  ·rw[r32 i fun j z=>q ⟨j,z⟩]at z;exact .inr ⟨fun j z=>q ⟨j,z⟩,z⟩
 have kP:∀a,Own R3 (U Fr Ox) a->Own R2 (U Fr Oxp) a:=fun a z=>by
  rcases z with⟨i,z⟩|z|z
  ·rcases r3c i a z with⟨j,_,z⟩|⟨n,z⟩
   ·exact .inl ⟨j,z⟩
   ·exact .inr (.inr (.inr ⟨i,z,n⟩))
  ·exact .inr (.inl z)
  ·exact .inr (.inr (.inl z))
 have back:∀a,(Fr a\/∃j,R2 j a)->Own R1 (U F0 Ox) a\/H1 a=none:=fun a z=>by
  rcases Pc.own a z with⟨j,z⟩|z
  ·exact .inl (sub a (.inl ⟨j,z⟩))
  ·exact .inr z
 have qY:∀a,(Fr a\/∃j,R2 j a)->(F0 a\/∃i,R1 i a)\/H1 a=none:=fun a z=>by
  rcases Pc.own a z with⟨j,z⟩|z
  ·rcases rqc j a z with⟨i,_,z⟩|z
   ·exact .inl (.inr ⟨i,z⟩)
   ·exact .inl (.inl (a3 j a z))
  ·exact .inr z
 have n1:∀a,H1 a=none->H a=none:=fun a z=>by
  cases q:H a with
  |none=>rfl
  |some o=>
   obtain⟨o',q'⟩:=P.dom a o q;rw[z]at q';cases q'
 have y':∀j a,Rq j a->Own R1 (U F0 Ox) a:=fun j a z=>sub a (.inl ⟨j,z⟩);have env3:EnvOk K ds1 (U Fr Ox) H2 σ (wb as ψ en1) R3:=by
  refine⟨fun i u hu=>?_,fun i i' a z z'=>?_,fun i a z z2=>?_,fun a z=>Pc.env.dom a (kP a z),by rw[rL];exact P.env.l1,P.env.l2⟩
  ·by_cases q:∃j:Nat,as[j]?=some (.inr i)
   ·obtain⟨j,q⟩:=q;obtain⟨v,b1,b2,b3⟩:=a2 j i q;have hil:i<en1.length:=by rw[P.env.l1];exact(zah.mp b3).1
    rw[vk as ψ en1 i j q (fun j' z=>c3 j' j i (asl j' i z) b2) outl hil]at hu;obtain⟨v',d,g1,g2,g3⟩:=Pc.env.at_ j u hu;rw[zao,b1]at g1;cases g1;obtain⟨qd,q1,q2⟩:=c2 j i b2;rw[g2]at q1;cases q1;refine⟨v,d,b3,q2,?_⟩;rw[r31 i j b2];exact Ow.grow kP u (fun _ z=>z) g3
   ·rw[jL as ψ en1 i fun j z=>q ⟨j,z⟩]at hu;have ns:∀j:Nat,sh[j]?≠some (.inr i):=fun j z=>q ⟨j,asr j i z⟩;obtain⟨v,d,g1,g2,g3⟩:=P.env.at_ i u hu;refine⟨v,d,g1,g2,?_⟩;rw[r32 i ns];refine Ow.mv (G:=R1 i) ⟨fun a o q z=>Pc.keep a o q fun j zj=>?_,fun a z=>?_⟩ u (fun _ z=>z) g3
    ·rcases z with z|z
     ·exact z (y' j a zj)
     ·rcases rqc j a zj with⟨i',q',z'⟩|z'
      ·have:=P.env.dj i i' a z z';subst this;exact ns j q'
      ·exact P.env.dx i a z (.inl (a3 j a z'))
    ·rcases z with⟨i',z⟩|z|z
     ·rcases r3c i' a z with⟨j,_,z⟩|⟨n,z⟩
      ·exact back a (.inr ⟨j,z⟩)
      ·exact .inl (.inl ⟨i',z⟩)
     ·exact back a (.inl z)
     ·exact .inl (.inr (.inr z))
  ·rcases r3c i a z with⟨j,q,z⟩|⟨n,z⟩<;>rcases r3c i' a z' with⟨j',q',z'⟩|⟨n',z'⟩
   ·have:=Pc.env.dj j j' a z z';subst this;rw[q]at q';cases q';rfl
   ·exact absurd (.inr (.inr ⟨i',z',n'⟩)) (Pc.env.dx j a z)
   ·exact absurd (.inr (.inr ⟨i,z,n⟩)) (Pc.env.dx j' a z')
   ·exact P.env.dj i i' a z z'
  ·rcases r3c i a z with⟨j,q,z⟩|⟨n,z⟩
   ·exact Pc.env.dx j a z (z2.imp id .inl)
   ·rcases z2 with z2|z2
    ·exact Pc.fx a z2 (.inr ⟨i,z,n⟩)
    ·exact P.env.dx i a z (.inr z2)
 refine k v H2 R3 Fr ⟨env3,fun a z z2=>Pc.fx a z (.inl z2),fun a o q n=>?_,fun a z=>?_,fun a o q=>?_,fun hp=>?_⟩ (fun hp i0 hi0=>⟨fun a o q z=>?_,?_⟩) (Ow.grow kP r (fun _ z=>z) oc)
 ·refine Pc.keep a o (P.keep a o q n) fun j z=>?_;have nn:∀i,¬R1 i a:=fun i z=>by
   rcases P.own a (.inr ⟨i,z⟩)with⟨i',z⟩|z
   ·exact n i' z
   ·rw[q]at z;cases z
  rcases rqc j a z with⟨i,_,z⟩|z
  ·exact nn i z
  ·rcases P.own a (.inl (a3 j a z))with⟨i',z⟩|z
   ·exact n i' z
   ·rw[q]at z;cases z
 ·have:(F0 a\/∃i,R1 i a)\/H1 a=none:=by
   rcases z with z|⟨i,z⟩
   ·exact qY a (.inl z)
   ·rcases r3c i a z with⟨j,_,z⟩|⟨n,z⟩
    ·exact qY a (.inr ⟨j,z⟩)
    ·exact .inl (.inr ⟨i,z⟩)
  rcases this with z|z
  ·exact P.own a z
  ·exact .inr (n1 a z)
 ·obtain⟨o',q'⟩:=P.dom a o q;exact Pc.dom a o' q'
 ·obtain⟨hp1,hp2⟩:=(zbk _ _▸hp:p=true/\ia sh=true);obtain⟨b1,b2,b3⟩:=P.pure hp1;have ns:=oI hp2;refine⟨?_,?_,fun a o q=>?_⟩
  ·show wb as ψ en1=en;rw[<-b1];refine List.ext_getElem? fun i=>?_;exact jL as ψ en1 i fun j z=>ns j i (asl j i z)
  ·rw[<-b2]
   funext i
   exact r32 i fun j=>ns j i
  ·refine Pc.keep a o (b3 a o q) fun j z=>?_;rcases rqc j a z with⟨i,z,_⟩|z
   ·exact ns j i z
   ·have zf:=a3 j a z;rcases P.own a (.inl zf)with⟨i,z2⟩|z2
    ·rw[<-b2]at z2;exact P.env.dx i a z2 (.inl zf)
    ·rw[q]at z2;cases z2
 ·obtain⟨b1,b2,b3⟩:=P.pure hp;rw[<-b2]at z;refine Pc.keep a o (b3 a o q) fun j zj=>?_;rcases rqc j a zj with⟨i',q',z'⟩|z'
  ·have:=P.env.dj i0 i' a z z';subst this;exact hi0 j q'
  ·exact P.env.dx i0 a z (.inl (a3 j a z'))
 ·obtain⟨b1,b2,b3⟩:=P.pure hp;rw[jL as ψ en1 i0 fun j z=>hi0 j (asl j i0 z),b1]
def IV{E:XK}{F:List D->Option (D×En)}(hc:eG ds1 sh dps=true)(h:tF K (p&&ia sh) ds ds1 dr (aE F fa) σ H Q):rD (spF K dps dr F) [] E (tFA K p ds ds1 sh fa) σ H Q:=
 let⟨Ox,en,R,t,en',e,hf,k⟩:=h
 KA hc ⟨Ox,en,R,t,en',e,hf,fun v H' R' F P _ o=>k v H' R' F P o⟩
end
inductive Fl where
 |nx (en:En)|rt (t:D) (en:En)|ct (en:En)
abbrev MS:=En->Option Fl
variable{m m1 m2:MS}
structure Jd where
 lk:List Nat
 dsr:List Nat
 dr:Nat
 dsl:List Nat
variable{J:Jd}
structure PostS(K:zbY)(lk:List Nat)(ds':List Nat)(Ox:AS)(σ:St)(H:Hp)(R:Nat->AS)(σ':St)(en':En)(H':Hp)(R':Nat->AS)(F:AS):Prop where
 env:EnvOk K ds' (U F Ox) H' σ' en' R'
 fx:∀a,F a->¬Ox a
 keep:∀a o,H a=some o->(∀i,¬R i a)->H' a=some o
 own:∀a,(F a\/∃i,R' i a)->(∃i,R i a)\/H a=none
 dom:∀a o,H a=some o->∃o',H' a=some o'
 lk:∀j∈lk,σ'[j]?=σ[j]?
def tFS(K:zbY)(J:Jd)(ds ds':List Nat)(f:MS):TS:=fun D σ H=>
 ∃Ox en R fl,EnvOk K ds Ox H σ en R/\f en=some fl/\match fl with
  |.nx en'=>∀σ' H' R',PostS K J.lk ds' Ox σ H R σ' en' H' R' NoA->D.nx σ' H'
  |.ct en'=>∀σ' H' R',PostS K J.lk J.dsl Ox σ H R σ' en' H' R' NoA->D.ct σ' H'
  |.rt t en'=>∀v σ' H' R' F,PostS K J.lk J.dsr Ox σ H R σ' en' H' R' F->Ow K (Own R' (U F Ox)) H' t J.dr v F->D.rt v H'
def ak(f g:MS):MS:=fun en=>(f en).bind fun fl=>match fl with
 |.nx en1=>g en1
 |.rt t en1=>some (.rt t en1)
 |.ct en1=>some (.ct en1)
def aw(i:Nat)(f:ME):MS:=fun en=>(f en).map fun r=>.nx (r.2.set i (some r.1))
def b4(f:ME):MS:=fun en=>(f en).map fun r=>.nx r.2
def aS(f:ME):MS:=fun en=>(f en).map fun r=>.rt r.1 r.2
def LG:MS:=fun en=>some (.rt .none en)
def bd:MS:=fun en=>some (.nx en)
def oF:MS:=fun en=>some (.ct en)
def Lx:MS:=fun _=>none
def sIf(c:MT)(f g:MS):MS:=fun en=>(c en).bind fun r=>if r.1 then f r.2 else g r.2
section
variable{c:MT}{D:Ends}
def PostS.refl(e:EnvOk K ds Ox H σ en R):PostS K lk ds Ox σ H R σ en H R NoA:=
 ⟨by rw[fW];exact e,fun _ z=>z.elim,fun _ _ q _=>q,fun a z=>z.elim (fun z=>z.elim) .inl,fun a o q=>⟨o,q⟩,fun _ _=>rfl⟩
def PostS.env0{F:AS}(P:PostS K lk ds' Ox σ H R σ' en' H' R' F):EnvOk K ds' Ox H' σ' en' R':=P.env.fewer fun a z=>.inr z
def PostS.less{F:AS}(P:PostS K lk ds' Ox σ H R σ' en' H' R' F)(h:∀a,F' a->F a):PostS K lk ds' Ox σ H R σ' en' H' R' F':=
 ⟨P.env.fewer fun a z=>z.imp (h a) id,fun a z=>P.fx a (h a z),P.keep,fun a z=>P.own a (z.imp (h a) id),P.dom,P.lk⟩
def PostS.after{σ1 σ2:St}{R2:Nat->AS}{F:AS}(P1:PostS K lk ds1 Ox σ H R σ1 en1 H1 R1 NoA)(P2:PostS K lk ds2 Ox σ1 H1 R1 σ2 en2 H' R2 F):PostS K lk ds2 Ox σ H R σ2 en2 H' R2 F:=by
 have n1:∀a,H1 a=none->H a=none:=fun a z=>by
  cases q:H a with
  |none=>rfl
  |some o=>
   obtain⟨o',q'⟩:=P1.dom a o q;rw[z]at q';cases q'
 refine⟨P2.env,P2.fx,fun a o q n=>?_,fun a z=>?_,fun a o q=>?_,fun j hj=>(P2.lk j hj).trans (P1.lk j hj)⟩
 ·refine P2.keep a o (P1.keep a o q n) fun i z=>?_;rcases P1.own a (.inr ⟨i,z⟩)with⟨j,z⟩|z
  ·exact n j z
  ·rw[q]at z;cases z
 ·rcases P2.own a z with z|z
  ·exact P1.own a (.inr z)
  ·exact .inr (n1 a z)
 ·obtain⟨o',q'⟩:=P1.dom a o q;exact P2.dom a o' q'
def Post.s{F:AS}(P:Post K p ds' Ox σ H en R en' H' R' F):PostS K lk ds' Ox σ H R σ en' H' R' F:=⟨P.env,P.fx,P.keep,P.own,P.dom,fun _ _=>rfl⟩
def PostS.cut{F:AS}(P:PostS K lk ds1 Ox σ H R σ' en' H' R' F)(hd:leD ds2 ds1=true):∃R2,(∀i a,R2 i a->R' i a)/\PostS K lk ds2 Ox σ H R σ' en' H' R2 F:=by
 obtain⟨R2,s1,e2⟩:=P.env.cut (er hd).1 (er hd).2;exact⟨R2,s1,e2,P.fx,P.keep,fun a z=>P.own a (z.imp id fun⟨i,z⟩=>⟨i,s1 i a z⟩),P.dom,P.lk⟩
def Ig(h:tFS K J ds ds bd D σ H):Cf D σ H:=by
 obtain⟨Ox,en,R,fl,e,hf,k⟩:=h;cases hf;exact k σ H R (PostS.refl e)
def DQ(hd:leD J.dsl ds=true)(h:tFS K J ds ds' oF D σ H):Ch D σ H:=by
 obtain⟨Ox,en,R,fl,e,hf,k⟩:=h;cases hf;obtain⟨R2,_,P⟩:=(PostS.refl (lk:=J.lk) e).cut hd;exact k σ H R2 P
def Ib(h:tFS K J ds ds2 (ak m1 m2) D σ H):GE (tFS K J ds ds1 m1) (tFS K J ds1 ds2 m2) D σ H:=by
 obtain⟨Ox,en,R,fl,e,hf,k⟩:=h;unfold ak at hf;obtain⟨fl1,h1,hf⟩:=zaa.mp hf;refine⟨Ox,en,R,fl1,e,h1,?_⟩;cases fl1 with
 |nx en1=>
  intro σ1 H1 R1 P1;refine⟨Ox,en1,R1,fl,P1.env0,hf,?_⟩;cases fl with
  |nx en2=>exact fun σ2 H2 R2 P2=>k σ2 H2 R2 (P1.after P2)
  |ct en2=>exact fun σ2 H2 R2 P2=>k σ2 H2 R2 (P1.after P2)
  |rt t en2=>exact fun v σ2 H2 R2 F P2 o=>k v σ2 H2 R2 F (P1.after P2) o
 |ct en1=>cases hf;exact k
 |rt t en1=>cases hf;exact k
def Ia(hd:leD ds1 ds2=true)(h:tFS K J ds ds1 m D σ H):tFS K J ds ds2 m D σ H:=by
 obtain⟨Ox,en,R,fl,e,hf,k⟩:=h;refine⟨Ox,en,R,fl,e,hf,?_⟩;cases fl with
 |nx en2=>
  intro σ2 H2 R2 P2;obtain⟨R3,_,P3⟩:=P2.cut hd;exact k σ2 H2 R3 P3
 |ct en2=>exact k
 |rt t en2=>exact k
def Ii(h:tFS K J ds ds1 (b4 f) D σ H):rC (tF K p ds ds1 d f) D σ H:=by
 obtain⟨Ox,en,R,fl,e,hf,k⟩:=h;unfold b4 at hf;obtain⟨⟨t,en1⟩,h1,hf⟩:=zab.mp hf;cases hf;exact⟨Ox,en,R,t,en1,e,h1,fun v H1 R1 F P o=>k σ H1 R1 (P.s.less fun _ z=>z.elim)⟩
def Ie(hd:leD J.dsr ds1=true)(h:tFS K J ds ds' (aS f) D σ H):GF (tF K p ds ds1 J.dr f) D σ H:=by
 obtain⟨Ox,en,R,fl,e,hf,k⟩:=h;unfold aS at hf;obtain⟨⟨t,en1⟩,h1,hf⟩:=zab.mp hf;cases hf;refine⟨Ox,en,R,t,en1,e,h1,fun v H1 R1 F P o=>?_⟩;obtain⟨R2,s1,P2⟩:=(P.s (lk:=J.lk)).cut hd;exact k v σ H1 R2 F P2 (Ow.grow (fun a z=>z.imp (fun⟨i,z⟩=>⟨i,s1 i a z⟩) id) t (fun _ z=>z) o)
def J4(h:tFS K J ds ds2 (sIf c m1 m2) D σ H):GK (tFT K p ds ds1 c) (tFS K J ds1 ds2 m1) (tFS K J ds1 ds2 m2) D σ H:=by
 obtain⟨Ox,en,R,fl,e,hf,k⟩:=h;unfold sIf at hf;obtain⟨⟨b,en1⟩,h1,hf⟩:=zaa.mp hf;refine⟨Ox,en,R,b,en1,e,h1,fun H1 R1 P1=>?_⟩;have fin:∀m,m en1=some fl->tFS K J ds1 ds2 m D σ H1:=fun m hm=>by
  refine⟨Ox,en1,R1,fl,P1.env0,hm,?_⟩;cases fl with
  |nx en2=>exact fun σ2 H2 R2 P2=>k σ2 H2 R2 (P1.s.after P2)
  |ct en2=>exact fun σ2 H2 R2 P2=>k σ2 H2 R2 (P1.s.after P2)
  |rt t en2=>exact fun v σ2 H2 R2 F P2 o=>k v σ2 H2 R2 F (P1.s.after P2) o
 cases b with
 |true=>exact fin m1 hf
 |false=>exact fin m2 hf
def PostS.store{F:AS}(P:Post K p ds1 Ox σ H en R en1 H' R' F)(o:Ow K (Own R' (U F Ox)) H' t d v F)(hi:i<ds1.length)(hl:i∉lk):
  PostS K lk (ds1.set i d) Ox σ H R (σ.set i (some v)) (en1.set i (some t)) H' (fun j=>if j=i then F else R' j) NoA:=by
 have l1:=P.env.l1;have l2:=P.env.l2;have sub:∀a,Own (fun j=>if j=i then F else R' j) Ox a->Own R' (U F Ox) a:=fun a z=>by
  rcases z with⟨j,z⟩|z
  ·by_cases hj:j=i
   ·rw[if_pos hj]at z;exact .inr (.inl z)
   ·rw[if_neg hj]at z;exact .inl ⟨j,z⟩
  ·exact .inr (.inr z)
 refine⟨?_,fun _ z=>z.elim,P.keep,fun a z=>?_,P.dom,fun j hj=>?_⟩
 ·rw[fW];refine⟨fun j u hu=>?_,fun j j' a z z'=>?_,fun j a z z2=>?_,fun a z=>P.env.dom a (sub a z),by rw[zaU,zaU];exact l1,by rw[zaU,zaU];exact l2⟩
  ·by_cases hj:j=i
   ·subst hj;rw[zaO (by omega)]at hu;cases hu;refine⟨v,d,zaO (by omega),zaO hi,?_⟩;rw[if_pos rfl];exact Ow.grow sub t (fun _ z=>z) o
   ·rw[zaN (Ne.symm hj)]at hu;obtain⟨v',d',g1,g2,g3⟩:=P.env.at_ j u hu;refine⟨v',d',by rw[zaN (Ne.symm hj)];exact g1,by rw[zaN (Ne.symm hj)];exact g2,?_⟩;rw[if_neg hj];exact Ow.grow sub u (fun _ z=>z) g3
  ·by_cases hj:j=i<;>by_cases hj':j'=i
   ·rw[hj,hj']
   ·rw[if_pos hj]at z;rw[if_neg hj']at z';exact absurd (.inl z) (P.env.dx j' a z')
   ·rw[if_neg hj]at z;rw[if_pos hj']at z';exact absurd (.inl z') (P.env.dx j a z)
   ·rw[if_neg hj]at z;rw[if_neg hj']at z';exact P.env.dj j j' a z z'
  ·by_cases hj:j=i
   ·rw[if_pos hj]at z;exact P.fx a z z2
   ·rw[if_neg hj]at z;exact P.env.dx j a z (.inr z2)
 ·rcases z with z|⟨j,z⟩
  ·exact z.elim
  ·by_cases hj:j=i
   ·rw[if_pos hj]at z;exact P.own a (.inl z)
   ·rw[if_neg hj]at z;exact P.own a (.inr ⟨j,z⟩)
 ·rw[zaN];intro z;subst z;exact hl hj
def sY(hi:i<ds1.length)(hl:i∉J.lk)(h:tFS K J ds (ds1.set i d) (aw i f) D σ H):pQ (tF K p ds ds1 d f) (oW i) D σ H:=by
 obtain⟨Ox,en,R,fl,e,hf,k⟩:=h;unfold aw at hf;obtain⟨⟨t,en1⟩,h1,hf⟩:=zab.mp hf;cases hf;exact⟨Ox,en,R,t,en1,e,h1,fun v H1 R1 F P o=>k _ H1 _ (PostS.store P o hi hl)⟩
abbrev MG:=PyData->En->Option En
def tFG(K:zbY)(lk:List Nat)(ds ds':List Nat)(g:MG):TG:=fun v σ H Q=>
 ∃Ox en R t en',EnvOk K ds Ox H σ en R/\Ow K (Own R Ox) H t 0 v NoA/\g t en=some en'/\∀σ' R',PostS K lk ds' Ox σ H R σ' en' H R' NoA->(∀j∈lk,R' j=R j)->Q σ' H
def iB(K:zbY)(lk:List Nat)(ds ds':List Nat)(g:List PyData->En->Option En):TGs:=fun vs σ H Q=>
 ∃Ox en R ts en',EnvOk K ds Ox H σ en R/\Ows K (Own R Ox) H ts 0 vs NoA/\g ts en=some en'/\∀σ' R',PostS K lk ds' Ox σ H R σ' en' H R' NoA->(∀j∈lk,R' j=R j)->Q σ' H
def gN(i:Nat):MG:=fun t en=>some (en.set i (some t))
def gs0:List PyData->En->Option En:=fun ts en=>match ts with
 |[]=>some en
 |_=>none
def gsC(g:MG)(r:List PyData->En->Option En):List PyData->En->Option En:=fun ts en=>match ts with
 |t::ts=>(g t en).bind fun en1=>r ts en1
 |[]=>none
def gT(g:List PyData->En->Option En):MG:=fun t en=>match t with
 |.tuple ts=>g ts en
 |_=>none
variable{g g1:MG}{gs:List PyData->En->Option En}{QS:St->Hp->Prop}
def Ec(hi:i<ds.length)(hl:i∉lk)(h:tFG K lk ds (ds.set i 0) (gN i) v σ H QS):oW i v σ H QS:=by
 obtain⟨Ox,en,R,t,en',e,o,hf,k⟩:=h;cases hf;exact k _ _ (PostS.store (p:=true) (Post.refl e) (by rw[show(fun _=>False:AS)=NoA from rfl,fW];exact o) hi hl) fun j hj=>if_neg (fun(z:j=i)=>hl (by rw[<-z];exact hj))
def Ea(h:iB K lk ds ds gs0 vs σ H QS):HS vs σ H QS:=by
 obtain⟨Ox,en,R,ts,en',e,o,hf,k⟩:=h;cases ts with
 |nil=>cases hf;exact⟨o,k σ R (PostS.refl e) fun _ _=>rfl⟩
 |cons t ts=>cases hf
def zM(h:iB K lk ds ds2 (gsC g gs) vs σ H QS):CB (tFG K lk ds ds1 g) (iB K lk ds1 ds2 gs) vs σ H QS:=by
 obtain⟨Ox,en,R,ts,en',e,o,hf,k⟩:=h;cases ts with
 |nil=>cases hf
 |cons t ts=>
  obtain⟨en1,h1,h2⟩:=zaa.mp hf;obtain⟨v,r,F1,F2,e1,s1,s2,s3,o1,o2⟩:=o;refine⟨v,r,e1,Ox,en,R,t,en1,e,Ow.any0 t o1,h1,fun σ1 R1 P1 r1=>?_⟩;refine⟨Ox,en1,R1,ts,en',P1.env0,Ows.any0 ts (Ows.mv (G:=NoA) ⟨fun a o q _=>q,fun a z=>?_⟩ ts (F:=NoA) (fun _ z=>z) (Ows.any0 ts o2)),h2,fun σ2 R2 P2 r2=>k σ2 R2 (P1.after P2) fun j hj=>(r2 j hj).trans (r1 j hj)⟩;rcases z with z|z
  ·exact(P1.own a (.inr z)).imp .inl id
  ·exact .inl (.inr z)
def Ix(hn:∀ts en,(∃en',gs ts en=some en')->ts.length=n)(h:tFG K lk ds ds1 (gT gs) v σ H QS):HQ K n (iB K lk ds ds1 gs) v σ H QS:=by
 obtain⟨Ox,en,R,t,en',e,o,hf,k⟩:=h;cases t with
 |tuple ts=>
  have hf':gs ts en=some en':=hf;obtain⟨a,vs,e1,⟨_,h1,h2⟩|⟨z,_⟩⟩:=o
  ·refine⟨a,vs,e1,h1.sq,?_,Ox,en,R,ts,en',e,h2,hf',k⟩;rw[<-hn ts en ⟨en',hf'⟩]
   have:∀{ts:List PyData} {vs:List V} {F:AS},Ows K (Own R Ox) H ts 0 vs F->vs.length=ts.length:=fun {ts}=>by
    induction ts with
    |nil=>intro vs F h;rw[show vs=[]from h];rfl
    |cons t ts ih=>
     intro vs F h;obtain⟨v,r,F1,F2,e,h1,h2,h3,h4,h5⟩:=h;rw[e,zac,zac,ih h5]
   exact this h2
  ·exact absurd rfl z
 |_=>cases hf
abbrev MI:=En->Option (List PyData×En)
def jd(K:zbY)(O:AS)(H0:Hp)(J:It)(ts:List PyData):Prop:=
 ∀(i:Nat) (H:Hp) (O1:AS),(∀a o,H0 a=some o->¬O a->H a=some o)->(∀a,O1 a->O a\/H0 a=none)->(∀a,O1 a->∃o,H a=some o) ->
  (∀t,ts[i]?=some t->J.go i H/\∀x H1,J.yld i H x H1->(∀a o,H a=some o->H1 a=some o)/\Ow K O1 H1 t 0 x NoA)/\(ts.length=i->J.stop i H)
def tFI(K:zbY)(p:Bool)(ds ds':List Nat)(f:MI):TI:=fun σ H RJ=>
 ∃Ox en R ts en',EnvOk K ds Ox H σ en R/\f en=some (ts,en')/\∀J H' R',Post K p ds' Ox σ H en R en' H' R' NoA->jd K (Own R' Ox) H' J ts->RJ J H'
def ck(g:MG)(b:MS):List PyData->En->Option Fl
 |[],en=>some (.nx en)
 |t::ts,en=>(g t en).bind fun en1=>(b en1).bind fun fl=>match fl with
  |.nx en2=>ck g b ts en2
  |.ct en2=>ck g b ts en2
  |.rt r en2=>some (.rt r en2)
def bq(fi:MI)(g:MG)(b:MS):MS:=fun en=>(fi en).bind fun r=>ck g b r.1 r.2
def Ih{fi:MI}(h:tFS K J ds ds1 (bq fi g m) D σ H):yB (tFI K p ds ds1 fi) (tFG K J.lk ds1 ds2 g) (tFS K { J with dsl:=ds1 } ds2 ds1 m) D σ H:=by
 obtain⟨Ox,en,R,fl,e,hf,k⟩:=h;unfold bq at hf;obtain⟨⟨ts,en1⟩,h1,hf⟩:=zaa.mp hf;refine⟨Ox,en,R,ts,en1,e,h1,fun Jt H1 R1 P1 wk=>?_⟩;refine⟨fun i n σ' H'=>∃en' R',n=ts.length-i/\i<=ts.length/\PostS K J.lk ds1 Ox σ H1 R1 σ' en' H' R' NoA/\ck g m (ts.drop i) en'=some fl,⟨_,en1,R1,rfl,zbh _,PostS.refl P1.env0,hf⟩,?_⟩;rintro i n σ2 H2 ⟨en2,R2,rfl,hi,P2,hr⟩;obtain⟨w1,w2⟩:=wk i H2 (Own R2 Ox) (fun a o q z=>P2.keep a o q fun j zj=>z (.inl ⟨j,zj⟩)) (fun a z=>by
  rcases z with z|z
  ·exact(P2.own a (.inr z)).imp .inl id
  ·exact .inl (.inr z)) fun a z=>P2.env0.dom a z
 by_cases hlt:i<ts.length
 ·obtain⟨go,yl⟩:=w1 ts[i] (zak hlt);have hd:ts.drop i=ts[i]::ts.drop (i+1):=zbP hlt;rw[hd]at hr;obtain⟨en3,h3,hr⟩:=zaa.mp hr;obtain⟨fl2,h4,hr⟩:=zaa.mp hr;refine .inr ⟨go,fun σ' H'=>∃en' R',PostS K J.lk ds1 Ox σ H1 R1 σ' en' H' R' NoA/\ck g m (ts.drop (i+1)) en'=some fl,fun σ' H' ⟨en',R',P',h'⟩=>⟨ts.length-(i+1),by omega,en',R',rfl,hlt,P',h'⟩,fun x H3 y=>?_⟩;obtain⟨gr,ox⟩:=yl x H3 y;have P3:Post K true ds1 Ox σ2 H2 en2 R2 en2 H3 R2 NoA:=Post.new P2.env0 gr fun _ z=>z.elim;refine⟨Ox,en2,R2,ts[i],en3,P3.env0,ox,h3,fun σ4 R4 P4 _=>?_⟩;have P4':=(P2.after P3.s).after P4;refine⟨Ox,en3,R4,fl2,P4.env0,h4,?_⟩;cases fl2 with
  |nx en5=>exact fun σ5 H5 R5 P5=>⟨en5,R5,P4'.after P5,hr⟩
  |ct en5=>exact fun σ5 H5 R5 P5=>⟨en5,R5,P4'.after P5,hr⟩
  |rt t en5=>
   cases hr;exact fun v σ5 H5 R5 F P5 o=>k v σ5 H5 R5 F (P1.s.after (P4'.after P5)) o
 ·have e2:i=ts.length:=by omega
  subst e2;rw[List.drop_length]at hr;cases hr;exact .inl ⟨w2 rfl,k σ2 H2 R2 (P1.s.after P2)⟩
def whN(c:MT)(b:MS):Nat->En->Option Fl
 |0,_=>none
 |n+1,en=>(c en).bind fun r=>if r.1 then(b r.2).bind fun fl=>match fl with
   |.nx en2=>whN c b n en2
   |.ct en2=>whN c b n en2
   |.rt t en2=>some (.rt t en2)
  else some (.nx r.2)
open Classical in
noncomputable def b6(c:MT)(b:MS):MS:=fun en=>if h:∃n fl,whN c b n en=some fl then some h.choose_spec.choose else none
def jC{b:MS}{fl:Fl}(h:b6 c b en=some fl):∃n,whN c b n en=some fl:=by
 unfold b6 at h;split at h
 ·next q=>
  cases h;exact⟨q.choose,q.choose_spec.choose_spec⟩
 ·cases h
def zx(h:tFS K J ds ds1 (b6 c m) D σ H):wL (tFT K p ds ds1 c) (tFS K { J with dsl:=ds } ds1 ds m) D σ H:=by
 obtain⟨Ox,en,R,fl,e,hf,k⟩:=h;obtain⟨n0,hn⟩:=jC hf;refine⟨fun n σ' H'=>∃en' R',PostS K J.lk ds Ox σ H R σ' en' H' R' NoA/\whN c m n en'=some fl,⟨n0,en,R,PostS.refl e,hn⟩,?_⟩;rintro n σ2 H2 ⟨en2,R2,P2,hr⟩;cases n with
 |zero=>cases hr
 |succ n=>
  unfold whN at hr;obtain⟨⟨b,en3⟩,h3,hr⟩:=zaa.mp hr;refine⟨Ox,en2,R2,b,en3,P2.env0,h3,fun H3 R3 P3=>?_⟩;cases b with
  |false=>
   cases hr;rw[if_neg zbl];exact k σ2 H3 R3 (P2.after P3.s)
  |true=>
   rw[if_pos rfl]at hr ⊢;obtain⟨fl2,h4,hr⟩:=zaa.mp hr;refine⟨fun σ' H'=>∃en' R',PostS K J.lk ds Ox σ H R σ' en' H' R' NoA/\whN c m n en'=some fl,fun σ' H' q=>⟨n,zaJ _,q⟩,Ox,en3,R3,fl2,P3.env0,h4,?_⟩;have P3':=P2.after (P3.s (lk:=J.lk));cases fl2 with
   |nx en5=>exact fun σ5 H5 R5 P5=>⟨en5,R5,P3'.after P5,hr⟩
   |ct en5=>exact fun σ5 H5 R5 P5=>⟨en5,R5,P3'.after P5,hr⟩
   |rt t en5=>
    cases hr;exact fun v σ5 H5 R5 F P5 o=>k v σ5 H5 R5 F (P3'.after P5) o
end
variable{g1:MG}{fi:MI}
def lcF(g:MG)(c:MT)(f:ME):List D->List D->En->Option (List D×En)
 |[],acc,en=>some (acc,en)
 |t::ts,acc,en=>(g t en).bind fun en1=>(c en1).bind fun r=>if r.1 then(f r.2).bind fun q=>if acc.length<sizeLine then lcF g c f ts (acc++[q.1]) q.2 else none else lcF g c f ts acc r.2
def cC(js:List (Option Nat))(en:En):En:=js.map fun j=>match j with
 |some j=>(en[j]?).join
 |none=>none
def wbB:List (Option Nat)->En->En->En
 |some j::js,o::r,en=>wbB js r (en.set j o)
 |none::js,_::r,en=>wbB js r en
 |_,_,en=>en
def eLC(q:Bool)(fi:MI)(g:MG)(c:MT)(f:ME)(js:List (Option Nat)):ME:=fun en=>(fi en).bind fun r=>(lcF g c f r.1 [] (cC js r.2)).map fun z=>(.list z.1,if q then r.2 else wbB js z.2 r.2)
def gH(ds:List Nat):List (Option Nat)->List Nat->Bool
 |[],[]=>true
 |some j::js,d::r=>decide (ds[j]?=some d)&&(decide (some j∉js)&&gH ds js r)
 |none::js,_::r=>gH ds js r
 |_,_=>false
section
variable{c:MT}{g:MG}  
theorem n8:∀{js:List (Option Nat)} {dsi:List Nat},gH ds js dsi=true->dsi.length=js.length/\(∀(k j:Nat),js[k]?=some (some j)->∃d,dsi[k]?=some d/\ds[j]?=some d)/\(∀(k k' j:Nat),js[k]?=some (some j)->js[k']?=some (some j)->k=k')
 |[],[],_=>⟨rfl,fun k j z=>by simp at z,fun k k' j z=>by simp at z⟩
 |some j0::js,d::r,h=>by
  unfold gH at h;rw[zbk,zbk]at h;obtain⟨h1,h2,h3⟩:=h;obtain⟨a,b,c⟩:=n8 h3;have n:=of_decide_eq_true h2;refine⟨by rw[zac,zac,a],fun k j z=>?_,fun k k' j z z'=>?_⟩
  ·cases k with
   |zero=>simp at z;subst z;exact⟨d,rfl,of_decide_eq_true h1⟩
   |succ k=>exact b k j (by simpa using z)
  ·cases k with
   |zero=>
    simp at z;subst z;cases k' with
    |zero=>rfl
    |succ k'=>exact absurd (zaW (by simpa using z':js[k']?=some (some j0))) n
   |succ k=>
    cases k' with
    |zero=>
     simp at z';subst z';exact absurd (zaW (by simpa using z:js[k]?=some (some j0))) n
    |succ k'=>rw[c k k' j (by simpa using z) (by simpa using z')]
 |none::js,d::r,h=>by
  unfold gH at h;obtain⟨a,b,c⟩:=n8 h;refine⟨by rw[zac,zac,a],fun k j z=>?_,fun k k' j z z'=>?_⟩
  ·cases k with
   |zero=>simp at z
   |succ k=>exact b k j (by simpa using z)
  ·cases k with
   |zero=>simp at z
   |succ k=>
    cases k' with
    |zero=>simp at z'
    |succ k'=>rw[c k k' j (by simpa using z) (by simpa using z')]
 |[],_::_,h=>nomatch h
 |some _::_,[],h=>nomatch h
 |none::_,[],h=>nomatch h
theorem pP:∀(js:List (Option Nat)) (r en:En),(wbB js r en).length=en.length
 |[],_,_=>by unfold wbB;rfl
 |some _::_,[],_=>by unfold wbB;rfl
 |none::_,[],_=>by unfold wbB;rfl
 |some j::js,o::r,en=>by unfold wbB;rw[pP js r _,zaU]
 |none::js,o::r,en=>by unfold wbB;exact pP js r _
theorem mJ:∀(js:List (Option Nat)) (r en:En) (i:Nat),(∀k:Nat,js[k]?≠some (some i))->(wbB js r en)[i]?=en[i]?
 |[],_,_,_,_=>by unfold wbB;rfl
 |some _::_,[],_,_,_=>by unfold wbB;rfl
 |none::_,[],_,_,_=>by unfold wbB;rfl
 |none::js,o::r,en,i,h=>by unfold wbB;exact mJ js r en i fun j=>h (j+1)
 |some k::js,o::r,en,i,h=>by
  unfold wbB;rw[mJ js r _ i fun j=>h (j+1),zaN];intro e;subst e;exact h 0 rfl
theorem rM:∀(js:List (Option Nat)) (r en:En) (i k:Nat),js[k]?=some (some i)->(∀k':Nat,js[k']?=some (some i)->k'=k)->r.length=js.length->i<en.length->(wbB js r en)[i]?=r[k]?
 |[],_,_,_,_,h,_,_,_=>by simp at h
 |some _::js,[],_,_,_,_,_,h,_=>by simp at h
 |none::js,[],_,_,_,_,_,h,_=>by simp at h
 |none::js,o::r,en,i,k,h,u,l,b=>by
  unfold wbB;cases k with
  |zero=>simp at h
  |succ k=>exact rM js r en i k (by simpa using h) (fun j' z=>by have:=u (j'+1) (by simpa using z);omega) (by simpa using l) b
 |some j::js,o::r,en,i,k,h,u,l,b=>by
  unfold wbB;cases k with
  |zero=>
   have e:j=i:=by simpa using h
   subst e;rw[mJ js r _ j fun j' z=>by have:=u (j'+1) (by simpa using z);omega];rw[zaO b];rfl
  |succ k=>exact rM js r _ i k (by simpa using h) (fun j' z=>by have:=u (j'+1) (by simpa using z);omega) (by simpa using l) (by rw[zaU];exact b)
theorem Ows.snoc:∀{ts:List D} {vs:List V} {F1 F2:AS} {v:V},Ows K O H ts d vs F1->Ow K O H t d v F2->(∀b,F1 b->¬F2 b)->Ows K O H (ts++[t]) d (vs++[v]) (U F1 F2)
 |[],vs,F1,F2,v,h,h2,_=>by
  have e:vs=[]:=h;subst e;exact⟨v,[],F2,NoA,rfl,fun _ z=>.inr z,fun _ z=>z.elim,fun _ _ z=>z.elim,h2,rfl⟩
 |u::ts,vs,F1,F2,v,h,h2,hd=>by
  obtain⟨w,r,G1,G2,e,s1,s2,s3,h4,h5⟩:=h;subst e;refine⟨w,r++[v],G1,U G2 F2,rfl,fun b z=>.inl (s1 b z),fun b z=>z.imp (s2 b) id,fun b z z2=>?_,h4,Ows.snoc h5 h2 fun b z=>hd b (s2 b z)⟩;rcases z2 with z2|z2
  ·exact s3 b z z2
  ·exact hd b (s1 b z) z2
theorem Ows.len:∀{ts:List D} {vs:List V} {F:AS},Ows K O H ts d vs F->vs.length=ts.length
 |[],_,_,h=>by rw[show _=[]from h];rfl
 |t::ts,_,_,h=>by
  obtain⟨v,r,F1,F2,e,h1,h2,h3,h4,h5⟩:=h;rw[e,zac,zac,h5.len]
def gE:List (Option Nat)->Nat->List Nat
 |[],_=>[]
 |some _::r,n=>n::gE r (n+1)
 |none::r,n=>gE r (n+1)
theorem kB:∀{js:List (Option Nat)} {n k j:Nat},js[k]?=some (some j)->n+k∈gE js n
 |[],n,k,j,h=>by simp at h
 |some x::r,n,k,j,h=>by
  unfold gE;cases k with
  |zero=>exact zaq
  |succ k=>
   refine zaj _ ?_
   have:=kB (n:=n+1) (k:=k) (j:=j) (by simpa using h);rw[show n+(k+1)=n+1+k by omega];exact this
 |none::r,n,k,j,h=>by
  unfold gE;cases k with
  |zero=>simp at h
  |succ k=>
   have:=kB (n:=n+1) (k:=k) (j:=j) (by simpa using h);rw[show n+(k+1)=n+1+k by omega];exact this
def tM(js:List (Option Nat))(R1:Nat->AS):Nat->AS:=fun k=>match js[k]? with
 |some (some j)=>R1 j
 |_=>NoA
def EC(h:js[k]?=some (some j)):tM js R1 k=R1 j:=by unfold tM;rw[h]
def EB(h:tM js R1 k a):∃j,js[k]?=some (some j)/\R1 j a:=by
 unfold tM at h;cases q:js[k]? with
 |none=>rw[q]at h;exact h.elim
 |some o=>
  rw[q]at h;cases o with
  |none=>exact h.elim
  |some j=>exact⟨j,rfl,h⟩
def nX{J:It}{fin:List D}{enf:En}{D:Addr}(hc:gH ds1 js dsi=true)(hd:dn d=cd)(hz:d≠0)(hl:lk=gE js 0)(P1:Post K p ds1 Ox σ H en R en1 H1 R1 NoA)(wk:jd K (Own R1 Ox) H1 J ts)(hD:H1 D=none)(h2:lcF g c f ts [] (cC js en1)=some (fin,enf))
  (k:∀v H' R' F,Post K (p&&q) ds1 Ox σ H en R (if q then en1 else wbB js enf en1) H' R' F->Ow K (Own R' (U F Ox)) H' (.list fin) d v F->Q v H'):vT J (tFG K lk dsi dsi g) (tFT K q dsi dsi c) (tF K q dsi dsi cd f) (eI js σ) H1 D Q:=by
 obtain⟨cl,c1,c2⟩:=n8 hc;have E1:=P1.env0;generalize hRI:tM js R1=RI;have ri1:∀k j:Nat,js[k]?=some (some j)->RI k=R1 j:=fun k j z=>by rw[<-hRI];exact EC z
 have ric:∀(k:Nat) a,RI k a->∃j,js[k]?=some (some j)/\R1 j a:=fun k a z=>by rw[<-hRI]at z;exact EB z
 let OxI:AS:=fun a=>Ox a\/a=D\/∃i,R1 i a/\∀k:Nat,js[k]?≠some (some i);have nD:∀a,Own R1 Ox a->a≠D:=fun a z z2=>by
  subst z2;obtain⟨o,q⟩:=E1.dom a z;rw[hD]at q;cases q
 have lI:(cC js en1).length=js.length:=by unfold cC;rw[zad]
 have lS:(eI js σ).length=js.length:=by unfold eI;rw[zad]
 have aH:∀(k:Nat) t,(cC js en1)[k]?=some (some t)->∃j,js[k]?=some (some j)/\en1[j]?=some (some t):=fun k t z=>by
  unfold cC at z;rw[zao]at z;obtain⟨oj,h1,h2⟩:=zab.mp z;cases oj with
  |none=>cases h2
  |some j=>
   refine⟨j,h1,?_⟩;have h2':(en1[j]?).join=some t:=h2;cases q:en1[j]? with
   |none=>rw[q]at h2';cases h2'
   |some o=>rw[q]at h2';exact congrArg some h2'
 have getS:∀(k j:Nat) v,js[k]?=some (some j)->σ[j]?=some (some v)->(eI js σ)[k]?=some (some v):=fun k j v z1 z2=>by
  unfold eI;rw[zao,z1];show some ((σ[j]?).join)=_;rw[z2];rfl
 have u2:∀a o,H1 a=some o->upd H1 D (.lst []) a=some o:=fun a o q=>(bX (o:=.lst []) hD).1 a o q;have EI:EnvOk K dsi OxI (upd H1 D (.lst [])) (eI js σ) (cC js en1) RI:=by
  refine⟨fun k t hk=>?_,fun k k' a z z'=>?_,fun k a z z2=>?_,fun a z=>?_,by rw[lI,lS],by rw[cl,lS]⟩
  ·obtain⟨j,hj,ht⟩:=aH k t hk;obtain⟨v,d,g1,g2,g3⟩:=E1.at_ j t ht;obtain⟨d',q1,q2⟩:=c1 k j hj;rw[g2]at q2;cases q2;refine⟨v,d,getS k j v hj g1,q1,?_⟩;rw[ri1 k j hj];refine Ow.mv (G:=R1 j) ⟨fun a o q _=>u2 a o q,fun a z=>?_⟩ t (fun _ z=>z) g3;rcases z with⟨k',z⟩|z|z|⟨i,z,_⟩
   ·obtain⟨j',_,z⟩:=ric k' a z;exact .inl (.inl ⟨j',z⟩)
   ·exact .inl (.inr z)
   ·exact .inr (z▸hD)
   ·exact .inl (.inl ⟨i,z⟩)
  ·obtain⟨j,hj,z⟩:=ric k a z;obtain⟨j',hj',z'⟩:=ric k' a z'
   have:=E1.dj j j' a z z';subst this;exact c2 k k' j hj hj'
  ·obtain⟨j,hj,z⟩:=ric k a z;rcases z2 with z2|z2|⟨i,z2,n⟩
   ·exact E1.dx j a z z2
   ·exact nD a (.inl ⟨j,z⟩) z2
   ·have:=E1.dj j i a z z2;subst this;exact n k hj
  ·rcases z with⟨k,z⟩|z|z|⟨i,z,_⟩
   ·obtain⟨j,hj,z⟩:=ric k a z;obtain⟨o,q⟩:=E1.dom a (.inl ⟨j,z⟩);exact⟨o,u2 a o q⟩
   ·obtain⟨o,q⟩:=E1.dom a (.inr z);exact⟨o,u2 a o q⟩
   ·subst z;exact⟨_,av⟩
   ·obtain⟨o,q⟩:=E1.dom a (.inl ⟨i,z⟩);exact⟨o,u2 a o q⟩
 refine⟨fun i n τ H'=>∃eni RI' acc vs Fa,n=ts.length-i/\i<=ts.length/\PostS K lk dsi OxI (eI js σ) H1 RI τ eni H' RI' Fa/\H' D=some (.lst vs)/\Ows K (Own RI' (U Fa OxI)) H' acc cd vs Fa/\lcF g c f (ts.drop i) acc eni=some (fin,enf) /\
   (q=true->(∀k j:Nat,js[k]?=some (some j)->RI' k=RI k)/\(∀a o,H1 a=some o->H' a=some o)),
  ⟨_,cC js en1,RI,[],[],NoA,rfl,zbh _,⟨by rw[fW];exact EI,fun _ z=>z.elim,fun a o q _=>u2 a o q,fun a z=>z.elim (fun z=>z.elim) .inl,fun a o q=>⟨o,u2 a o q⟩,fun _ _=>rfl⟩,av,rfl,h2,fun _=>⟨fun _ _ _=>rfl,u2⟩⟩,?_⟩
 rintro i n τ H2 ⟨eni,RI2,acc,vs,Fa,rfl,hi,P2,hDl,oacc,hr,pu⟩;have pS:∀a,Own RI2 (U Fa OxI) a->Own R1 Ox a\/H1 a=none:=fun a z=>by
  rcases z with z|z|z|z|⟨i,z,_⟩
  ·rcases P2.own a (.inr z)with⟨k,z⟩|z
   ·obtain⟨j,_,z⟩:=ric k a z;exact .inl (.inl ⟨j,z⟩)
   ·exact .inr z
  ·rcases P2.own a (.inl z)with⟨k,z⟩|z
   ·obtain⟨j,_,z⟩:=ric k a z;exact .inl (.inl ⟨j,z⟩)
   ·exact .inr z
  ·exact .inl (.inr z)
  ·exact .inr (z▸hD)
  ·exact .inl (.inl ⟨i,z⟩)
 obtain⟨w1,w2⟩:=wk i H2 (Own RI2 (U Fa OxI)) (fun a o q z=>P2.keep a o q fun k zk=>by
  obtain⟨j,_,zj⟩:=ric k a zk;exact z (.inl ⟨j,zj⟩)) pS fun a z=>P2.env.dom a z
 have DO:OxI D:=.inr (.inl rfl);by_cases hlt:i<ts.length
 ·obtain⟨go,yl⟩:=w1 ts[i] (zak hlt);rw[zbP hlt]at hr;obtain⟨en3,h3,hr⟩:=zaa.mp hr;obtain⟨⟨b,en4⟩,h4,hr⟩:=zaa.mp hr;refine .inr ⟨go,fun τ' H'=>∃eni RI' acc vs Fa,PostS K lk dsi OxI (eI js σ) H1 RI τ' eni H' RI' Fa/\H' D=some (.lst vs)/\Ows K (Own RI' (U Fa OxI)) H' acc cd vs Fa/\lcF g c f (ts.drop (i+1)) acc eni=some (fin,enf)/\(q=true->(∀k j:Nat,js[k]?=some (some j)->RI' k=RI k)/\(∀a o,H1 a=some o->H' a=some o)),
   fun τ' H' ⟨eni,RI',acc,vs,Fa,P',x1,x2,x3,x4⟩=>⟨_,by omega,eni,RI',acc,vs,Fa,rfl,hlt,P',x1,x2,x3,x4⟩,fun x H3 y=>?_⟩
  obtain⟨gr,ox⟩:=yl x H3 y;have P3:Post K true dsi (U Fa OxI) τ H2 eni RI2 eni H3 RI2 NoA:=Post.new P2.env gr fun _ z=>z.elim;have chain:∀{τ5 en5 H5 RI5 F5},PostS K lk dsi (U Fa OxI) τ H2 RI2 τ5 en5 H5 RI5 F5->PostS K lk dsi OxI (eI js σ) H1 RI τ5 en5 H5 RI5 (U Fa F5):=fun {τ5 en5 H5 RI5 F5} P5=>by
   have n1:∀a,H2 a=none->H1 a=none:=fun a z=>by
    cases q:H1 a with
    |none=>rfl
    |some o=>
     obtain⟨o',q'⟩:=P2.dom a o q;rw[z]at q';cases q'
   refine⟨j5▸P5.env,fun a z z2=>?_,fun a o q n=>?_,fun a z=>?_,fun a o q=>?_,fun j hj=>(P5.lk j hj).trans (P2.lk j hj)⟩
   ·rcases z with z|z
    ·exact P2.fx a z z2
    ·exact P5.fx a z (.inr z2)
   ·refine P5.keep a o (P2.keep a o q n) fun i z=>?_;rcases P2.own a (.inr ⟨i,z⟩)with⟨j,z⟩|z
    ·exact n j z
    ·rw[q]at z;cases z
   ·rcases z with (z|z)|z
    ·exact P2.own a (.inl z)
    ·rcases P5.own a (.inl z)with z|z
     ·exact P2.own a (.inr z)
     ·exact .inr (n1 a z)
    ·rcases P5.own a (.inr z)with z|z
     ·exact P2.own a (.inr z)
     ·exact .inr (n1 a z)
   ·obtain⟨o',q'⟩:=P2.dom a o q;exact P5.dom a o' q'
  have carry:∀{τ5 en5 H5 RI5 F5},PostS K lk dsi (U Fa OxI) τ H2 RI2 τ5 en5 H5 RI5 F5->Ows K (Own RI5 (U (U Fa F5) OxI)) H5 acc cd vs Fa:=fun {τ5 en5 H5 RI5 F5} P5=>by
   refine Ows.mv (G:=Fa) ⟨fun a o q z=>P5.keep a o q fun i zi=>?_,fun a z=>?_⟩ acc (fun _ z=>z) oacc
   ·rcases z with z|z
    ·exact z (.inl ⟨i,zi⟩)
    ·exact P2.env.dx i a zi (.inl z)
   ·rcases z with z | (z|z)|z
    ·exact(P5.own a (.inr z)).imp .inl id
    ·exact .inl (.inr (.inl z))
    ·exact(P5.own a (.inl z)).imp .inl id
    ·exact .inl (.inr (.inr z))
  have UFN:U Fa NoA=Fa:=eJ fun a=>⟨fun z=>z.elim id fun z=>z.elim,.inl⟩;refine⟨U Fa OxI,eni,RI2,ts[i],en3,P3.env0,ox,h3,fun τ4 R4 P4 r4=>?_⟩;have P4':=(P3.s (lk:=lk)).after P4;refine⟨U Fa OxI,en3,R4,b,en4,P4.env0,h4,fun H5 R5 P5=>?_⟩;have P5':=P4'.after (P5.s (lk:=lk));have pu5:q=true->(∀k j:Nat,js[k]?=some (some j)->R5 k=RI k)/\(∀a o,H1 a=some o->H5 a=some o):=fun hq=>by
   obtain⟨_,b2,b3⟩:=P5.pure hq;obtain⟨e1,e2⟩:=pu hq;refine⟨fun k j z=>?_,fun a o qq=>b3 a o (gr a o (e2 a o qq))⟩;rw[b2,r4 k (by rw[hl];have:=kB (n:=0) z;rw[za2]at this;exact this)];exact e1 k j z
  cases b with
  |false=>
   dsimp only
   rw[if_neg zbl];have c5:=chain P5';have o5:=carry P5';rw[UFN]at c5 o5;exact⟨en4,R5,acc,vs,Fa,c5,P5'.keep D _ hDl fun k z=>P2.env.dx k D z (.inr DO),o5,hr,pu5⟩
  |true=>
   dsimp only
   rw[if_pos rfl];obtain⟨⟨t6,en6⟩,h6,hr⟩:=zaa.mp (show((f en4).bind fun q=>if acc.length<sizeLine then lcF g c f (ts.drop (i+1)) (acc++[q.1]) q.2 else none)=some (fin,enf)from hr);refine⟨U Fa OxI,en4,R5,t6,en6,P5.env0,h6,fun v H6 R6 F6 P6 o6=>?_⟩;have P6':=P5'.after (P6.s (lk:=lk));by_cases ξ:acc.length<sizeLine
   case neg=>rw[if_neg ξ]at hr;cases hr
   rw[if_pos ξ]at hr;have hD6:=P6'.keep D _ hDl fun k z=>P2.env.dx k D z (.inr DO);refine⟨vs,hD6,by rw[oacc.len];exact ξ,en6,R6,acc++[t6],vs++[v],U Fa F6,?_,av,?_,hr,?_⟩
   ·have c6:=chain P6';have uD:∀a o,H6 a=some o->a≠D->upd H6 D (.lst (vs++[v])) a=some o:=fun a o q n=>by rw[az n];exact q
    refine⟨⟨fun k t hk=>?_,c6.env.dj,c6.env.dx,fun a z=>?_,c6.env.l1,c6.env.l2⟩,c6.fx,fun a o q n=>?_,c6.own,fun a o q=>?_,c6.lk⟩
    ·obtain⟨v',d',g1,g2,g3⟩:=c6.env.at_ k t hk;refine⟨v',d',g1,g2,Ow.mv (G:=R6 k) ⟨fun a o q z=>uD a o q fun zD=>?_,fun a z=>.inl z⟩ t (fun _ z=>z) g3⟩;subst zD;rcases z with z|z
     ·exact z (.inr (.inr DO))
     ·exact c6.env.dx k a z (.inr DO)
    ·by_cases ha:a=D
     ·subst ha;exact⟨_,av⟩
     ·obtain⟨o,q⟩:=c6.env.dom a z;exact⟨o,uD a o q ha⟩
    ·refine uD a o (c6.keep a o q n) fun zD=>?_;subst zD;rw[hD]at q;cases q
    ·obtain⟨o',q'⟩:=c6.dom a o q;by_cases ha:a=D
     ·subst ha;exact⟨_,av⟩
     ·exact⟨o',uD a o' q' ha⟩
   ·have o1:=carry P6';have o2:Ow K (Own R6 (U (U Fa F6) OxI)) H6 t6 cd v F6:=j5▸o6
    have:=Ows.snoc o1 o2 fun b z1 z2=>P6.fx b z2 (.inl z1);refine Ows.mv (G:=U Fa F6) ⟨fun a o q z=>?_,fun a z=>.inl z⟩ _ (fun _ z=>z) this;rw[az]
    ·exact q
    ·intro zD;subst zD;rcases z with z|z|z
     ·exact z (.inr (.inr DO))
     ·exact P2.fx a z DO
     ·exact P6.fx a z (.inr DO)
   ·intro hq;obtain⟨_,b2,b3⟩:=P6.pure hq;obtain⟨e1,e2⟩:=pu5 hq;refine⟨fun k j z=>by rw[b2];exact e1 k j z,fun a o qq=>?_⟩;rw[az]
    ·exact b3 a o (e2 a o qq)
    ·intro zD;subst zD;rw[hD]at qq;cases qq
 ·have e2:i=ts.length:=by omega
  subst e2;rw[List.drop_length]at hr;obtain⟨e3,e4⟩:acc=fin/\eni=enf:=by cases hr;exact⟨rfl,rfl⟩
  subst e3 e4;refine .inl ⟨w2 rfl,?_⟩;have fD:∀a,Fa a->a≠D:=fun a z z2=>by
   subst z2;exact P2.fx a z DO
  cases hq:q with
  |true=>
   obtain⟨e1,e2⟩:=pu hq;subst hq;have fn:∀a,Fa a->H1 a=none:=fun a z=>by
    rcases P2.own a (.inl z)with⟨k,z2⟩|z2
    ·obtain⟨j,hj,z3⟩:=ric k a z2;rw[<-e1 k j hj]at z2;exact absurd (.inl z) (P2.env.dx k a z2)
    ·exact z2
   have nt:NewTo H1 H2 (fun a=>a=D\/Fa a):=⟨e2,fun a z=>by
    rcases z with z|z
    ·subst z;exact⟨hD,_,hDl⟩
    ·exact⟨fn a z,P2.env.dom a (.inr (.inl z))⟩⟩
   have PF:=P1.fin nt;rw[zbW]at k;refine k (.ref D) H2 R1 _ PF ⟨D,vs,rfl,.inr ⟨hz,hDl,.inl rfl,Fa,fun b z=>⟨.inr z,fD b z⟩,?_⟩⟩;rw[hd];refine Ows.grow (fun a z=>?_) _ (fun _ z=>z) oacc;rcases z with⟨i,z⟩ | (z|z)|z
   ·by_cases hc2:∃kk:Nat,js[kk]?=some (some i)
    ·obtain⟨kk,hk⟩:=hc2;refine .inl ⟨kk,?_⟩;rw[e1 kk i hk,ri1 kk i hk];exact z
    ·exact .inr (.inr (.inr (.inr ⟨i,z,fun kk hk=>hc2 ⟨kk,hk⟩⟩)))
   ·exact .inr (.inr (z▸DO))
   ·exact .inr (.inl z)
   ·exact .inr (.inr (.inl z))
  |false=>
   subst hq;rw[Bool.and_false]at k
   classical
   let R3:Nat->AS:=fun i=>if hh:∃kk:Nat,js[kk]?=some (some i)then RI2 hh.choose else R1 i
   have r31:∀(i kk:Nat),js[kk]?=some (some i)->R3 i=RI2 kk:=fun i kk z=>by
    have hh:∃kk:Nat,js[kk]?=some (some i):=⟨kk,z⟩
    have:hh.choose=kk:=c2 _ _ i hh.choose_spec z;show(if hh:∃kk:Nat,js[kk]?=some (some i)then RI2 hh.choose else R1 i)=RI2 kk;rw[dif_pos hh,this]
   have r32:∀i:Nat,(∀kk:Nat,js[kk]?≠some (some i))->R3 i=R1 i:=fun i z=>by
    show(if hh:∃kk:Nat,js[kk]?=some (some i)then RI2 hh.choose else R1 i)=R1 i;rw[dif_neg fun⟨j,q⟩=>z j q]
   have r3c:∀(i:Nat) a,R3 i a->(∃kk:Nat,js[kk]?=some (some i)/\RI2 kk a)\/((∀kk:Nat,js[kk]?≠some (some i))/\R1 i a):=fun i a z=>by
    by_cases hh:∃kk:Nat,js[kk]?=some (some i)
    ·obtain⟨kk,hk⟩:=hh;rw[r31 i kk hk]at z;exact .inl ⟨kk,hk,z⟩
    ·rw[r32 i fun j z=>hh ⟨j,z⟩]at z;exact .inr ⟨fun j z=>hh ⟨j,z⟩,z⟩
   have kP:∀a,Own R3 (U (fun a=>a=D\/Fa a) Ox) a->Own RI2 (U Fa OxI) a:=fun a z=>by
    rcases z with⟨i,z⟩ | (z|z)|z
    ·rcases r3c i a z with⟨j,_,z⟩|⟨n,z⟩
     ·exact .inl ⟨j,z⟩
     ·exact .inr (.inr (.inr (.inr ⟨i,z,n⟩)))
    ·exact .inr (.inr (z▸DO))
    ·exact .inr (.inl z)
    ·exact .inr (.inr (.inl z))
   have el:eni.length=js.length:=by rw[P2.env.l1,<-P2.env.l2];exact cl
   have riO:∀(kk:Nat) a,RI kk a->Own R1 Ox a:=fun kk a z=>by
    obtain⟨j,_,z⟩:=ric kk a z;exact .inl ⟨j,z⟩
   have env3:EnvOk K ds1 (U (fun a=>a=D\/Fa a) Ox) H2 σ (wbB js eni en1) R3:=by
    refine⟨fun i u hu=>?_,fun i i' a z z'=>?_,fun i a z z2=>?_,fun a z=>P2.env.dom a (kP a z),by rw[pP];exact E1.l1,E1.l2⟩
    ·by_cases hh:∃kk:Nat,js[kk]?=some (some i)
     ·obtain⟨kk,hk⟩:=hh;obtain⟨dd,q1,q2⟩:=c1 kk i hk;have hil:i<en1.length:=by rw[E1.l1,<-E1.l2];exact(zah.mp q2).1
      rw[rM js eni en1 i kk hk (fun k' z=>c2 k' kk i z hk) el hil]at hu;obtain⟨v,d',g1,g2,g3⟩:=P2.env.at_ kk u hu;rw[q1]at g2;cases g2;have hlk:=P2.lk kk (by rw[hl];have:=kB (n:=0) hk;rw[za2]at this;exact this);rw[hlk]at g1;refine⟨v,dd,?_,q2,?_⟩
      ·unfold eI at g1;rw[zao,hk]at g1;have g1':(σ[i]?).join=some v:=zat g1;cases q3:σ[i]? with
       |none=>rw[q3]at g1';cases g1'
       |some o=>rw[q3]at g1';exact congrArg some g1'
      ·rw[r31 i kk hk];exact Ow.grow kP u (fun _ z=>z) g3
     ·rw[mJ js eni en1 i fun j z=>hh ⟨j,z⟩]at hu;have ns:∀j:Nat,js[j]?≠some (some i):=fun j z=>hh ⟨j,z⟩;obtain⟨v,d',g1,g2,g3⟩:=E1.at_ i u hu;refine⟨v,d',g1,g2,?_⟩;rw[r32 i ns];refine Ow.mv (G:=R1 i) ⟨fun a o q z=>P2.keep a o q fun j zj=>?_,fun a z=>pS a (kP a z)⟩ u (fun _ z=>z) g3;obtain⟨j',hj',zj⟩:=ric j a zj;rcases z with z|z
      ·exact z (.inl ⟨j',zj⟩)
      ·have:=E1.dj i j' a z zj;subst this;exact ns j hj'
    ·rcases r3c i a z with⟨j,q,z⟩|⟨n,z⟩<;>rcases r3c i' a z' with⟨j',q',z'⟩|⟨n',z'⟩
     ·have:=P2.env.dj j j' a z z';subst this;rw[q]at q';cases q';rfl
     ·exact absurd (.inr (.inr (.inr ⟨i',z',n'⟩))) (P2.env.dx j a z)
     ·exact absurd (.inr (.inr (.inr ⟨i,z,n⟩))) (P2.env.dx j' a z')
     ·exact E1.dj i i' a z z'
    ·rcases r3c i a z with⟨j,q,z⟩|⟨n,z⟩
     ·refine P2.env.dx j a z ?_;rcases z2 with (z2|z2)|z2
      ·exact .inr (z2▸DO)
      ·exact .inl z2
      ·exact .inr (.inl z2)
     ·rcases z2 with (z2|z2)|z2
      ·exact nD a (.inl ⟨i,z⟩) z2
      ·exact P2.fx a z2 (.inr (.inr ⟨i,z,n⟩))
      ·exact E1.dx i a z z2
   have n1:∀a,H1 a=none->H a=none:=fun a z=>by
    cases q:H a with
    |none=>rfl
    |some o=>
     obtain⟨o',q'⟩:=P1.dom a o q;rw[z]at q';cases q'
   refine k (.ref D) H2 R3 (fun a=>a=D\/Fa a) ⟨env3,fun a z z2=>?_,fun a o q n=>?_,fun a z=>?_,fun a o q=>?_,fun z=>nomatch z⟩ ⟨D,vs,rfl,.inr ⟨hz,hDl,.inl rfl,Fa,fun b z=>⟨.inr z,fD b z⟩,?_⟩⟩
   ·rcases z with z|z
    ·exact nD a (.inr z2) z
    ·exact P2.fx a z (.inl z2)
   ·refine P2.keep a o (P1.keep a o q n) fun kk z=>?_;obtain⟨j,_,z⟩:=ric kk a z;rcases P1.own a (.inr ⟨j,z⟩)with⟨i',z⟩|z
    ·exact n i' z
    ·rw[q]at z;cases z
   ·have h3:(∃i,R1 i a)\/H1 a=none:=by
     have h4:(Fa a\/∃kk,RI2 kk a)->(∃i,R1 i a)\/H1 a=none:=fun z=>by
      rcases P2.own a z with⟨kk,z⟩|z
      ·obtain⟨j,_,z⟩:=ric kk a z;exact .inl ⟨j,z⟩
      ·exact .inr z
     rcases z with (z|z)|⟨i,z⟩
     ·exact .inr (z▸hD)
     ·exact h4 (.inl z)
     ·rcases r3c i a z with⟨j,_,z⟩|⟨n,z⟩
      ·exact h4 (.inr ⟨j,z⟩)
      ·exact .inl ⟨i,z⟩
    rcases h3 with h3|h3
    ·exact P1.own a (.inr h3)
    ·exact .inr (n1 a h3)
   ·obtain⟨o',q'⟩:=P1.dom a o q;exact P2.dom a o' q'
   ·rw[hd];exact Ows.grow kP _ (fun _ z=>z) oacc
def IU(hc:gH ds1 js dsi=true)(hd:dn d=cd)(hz:d≠0)(hl:lk=gE js 0)(h:tF K (p&&q) ds ds1 d (eLC q fi g c f js) σ H Q):
  tLC (tFI K p ds ds1 fi) (tFG K lk dsi dsi g) (tFT K q dsi dsi c) (tF K q dsi dsi cd f) js σ H Q:=by
 obtain⟨Ox,en,R,t,en',e,hf,k⟩:=h;unfold eLC at hf;obtain⟨⟨ts,en1⟩,h1,hf⟩:=zaa.mp hf;obtain⟨⟨fin,enf⟩,h2,hf⟩:=zab.mp hf;cases hf;exact⟨Ox,en,R,ts,en1,e,h1,fun J H1 R1 P1 wk D hD=>nX hc hd hz hl P1 wk hD h2 k⟩
end
def msk:List Nat->En->En
 |d::ds,o::en=>(if d=0 then none else o)::msk ds en
 |_,_=>[]
def fnF(n:Nat)(dps:List Nat)(b:MS):List PyData->Option (PyData×En):=fun ts=>(b (ts.map some++List.replicate n none)).bind fun fl=>match fl with
 |.rt t en=>some (t,msk dps en)
 |.nx en=>some (.none,msk dps en)
 |.ct _=>none
def p9(dps:List Nat):List Nat:=(List.range dps.length).filter fun j=>dps[j]? != some 0
section
variable{t t1 t2:PyData}{D:Ends}
theorem uO:∀{dps:List Nat} {en:En} {j:Nat} {u:PyData},(msk dps en)[j]?=some (some u)->∃d,dps[j]?=some d/\d≠0/\en[j]?=some (some u)
 |[],en,j,u,h=>by unfold msk at h;simp at h
 |d::ds,[],j,u,h=>by unfold msk at h;simp at h
 |d::ds,o::en,j,u,h=>by
  unfold msk at h;cases j with
  |zero=>
   by_cases hd:d=0
   ·simp[hd]at h
   ·refine⟨d,rfl,hd,?_⟩;simpa[hd]using h
  |succ j=>
   have:=uO (dps:=ds) (en:=en) (j:=j) (u:=u) (by simpa using h);simpa using this
theorem uN:∀{dps:List Nat} {en:En},dps.length<=en.length->(msk dps en).length=dps.length
 |[],en,_=>by unfold msk;rfl
 |d::ds,[],h=>by simp at h
 |d::ds,o::en,h=>by
  unfold msk;rw[zac,zac,uN (by simpa using h)]
def D5{E:XK}{b:MS}(hn:N.length-dps.length=n)(h:spF K dps dr (fnF n dps b) vs H Q E):
  tFS K ⟨p9 dps,dps++List.replicate n 0,dr,[]⟩ (dps++List.replicate n 0) (dps++List.replicate n 0) b { nx:=fun _ H'=>Q .non H',rt:=Q } (start N vs) H:=by
 obtain⟨Ox,ts,R,r,ψ,e,hf,k⟩:=h;have lv:dps.length=vs.length:=by have:=e.l2;rw[zad]at this;exact this
 have lt:ts.length=vs.length:=by have:=e.l1;rw[zad,zad]at this;exact this
 have hs:start N vs=vs.map some++List.replicate n none:=by unfold start;rw[<-lv,hn]
 unfold fnF at hf;obtain⟨fl,h1,hf⟩:=zaa.mp hf;have get0:∀{α:Type} (xs:List α) (i:Nat) (u:α),(xs.map some++List.replicate n none)[i]?=some (some u)->(xs.map some)[i]?=some (some u)/\i<xs.length:=fun xs i u z=>by
  by_cases hi:i<xs.length
  ·rw[zaR (by rw[zad];exact hi)]at z;exact⟨z,hi⟩
  ·rw[zbI (by rw[zad];omega),List.getElem?_replicate]at z;split at z
   ·cases z
   ·cases z
 have e0:EnvOk K (dps++List.replicate n 0) Ox H (start N vs) (ts.map some++List.replicate n none) R:=by
  rw[hs];refine⟨fun i u hu=>?_,e.dj,e.dx,e.dom,by simp[lt],by simp[lv]⟩;obtain⟨hu',hi⟩:=get0 ts i u hu;obtain⟨v,d,g1,g2,g3⟩:=e.at_ i u hu';refine⟨v,d,?_,?_,g3⟩
  ·rw[zaR (by rw[zad];omega)];exact g1
  ·rw[zaR (by omega)];exact g2
 have back:∀{σ' en' H' R' F},PostS K (p9 dps) (dps++List.replicate n 0) Ox (start N vs) H R σ' en' H' R' F->Post K false dps Ox (vs.map some) H (ts.map some) R (msk dps en') H' R' F:=fun {σ' en' H' R' F} P=>by
  have l1:=P.env.l1;have l2:=P.env.l2;rw[zae,zaM]at l2;refine⟨⟨fun j u hu=>?_,P.env.dj,P.env.dx,P.env.dom,by rw[uN (by omega),zad];exact lv,by rw[zad];exact lv⟩,P.fx,P.keep,P.own,P.dom,fun z=>nomatch z⟩;obtain⟨d,a1,a2,a3⟩:=uO hu;obtain⟨v,d',g1,g2,g3⟩:=P.env.at_ j u a3;have hj:j<dps.length:=(zah.mp a1).1;have hlk:j∈p9 dps:=by
   unfold p9;rw[zbB,zbp];refine⟨hj,?_⟩;rw[a1];simpa using a2
  rw[P.lk j hlk,hs,zaR (by rw[zad];omega)]at g1;rw[zaR hj]at g2;exact⟨v,d',g1,g2,g3⟩
 refine⟨Ox,_,R,fl,e0,h1,?_⟩;cases fl with
 |nx en2=>
  cases hf;exact fun σ2 H2 R2 P2=>k .non H2 R2 NoA (back P2) rfl
 |ct en2=>cases hf
 |rt t en2=>
  cases hf;exact fun v σ2 H2 R2 F P2 o=>k v H2 R2 F (back P2) o
def Post.slot{F:AS}{o2:HO}(P:Post K p ds1 Ox σ H en R en1 H1 R1 F)(hl:R1 i l)(hi:i<en1.length)(hv:σ[i]?=some (some v))(hd:ds1[i]?=some d)
  (hg:∀a,G a->R1 i a\/F a) (hf:∀a,F' a->R1 i a\/F a) (hx:∀a,G a->¬F' a)
  (ho:Ow K (Own (fun j=>if j=i then G else R1 j) (U F' Ox)) (upd H1 l o2) t d v G):
  Post K false ds1 Ox σ H en R (en1.set i (some t)) (upd H1 l o2) (fun j=>if j=i then G else R1 j) F':=by
 have rc:∀(j:Nat) a,(if j=i then G else R1 j) a->R1 j a\/(j=i/\F a):=fun j a z=>by
  by_cases hj:j=i
  ·rw[if_pos hj]at z;rcases hg a z with z|z
   ·exact .inl (hj▸z)
   ·exact .inr ⟨hj,z⟩
  ·rw[if_neg hj]at z;exact .inl z
 have sub:∀a,Own (fun j=>if j=i then G else R1 j) (U F' Ox) a->Own R1 (U F Ox) a:=fun a z=>by
  rcases z with⟨j,z⟩|z|z
  ·rcases rc j a z with z|⟨_,z⟩
   ·exact .inl ⟨j,z⟩
   ·exact .inr (.inl z)
  ·rcases hf a z with z|z
   ·exact .inl ⟨i,z⟩
   ·exact .inr (.inl z)
  ·exact .inr (.inr z)
 have dom2:∀a o,H1 a=some o->∃o',upd H1 l o2 a=some o':=fun a o q=>by
  by_cases ha:a=l
  ·subst ha;exact⟨_,av⟩
  ·exact⟨o,by rw[az ha];exact q⟩
 have nl:∀a o,H1 a=some o->a≠l->upd H1 l o2 a=some o:=fun a o q n=>by rw[az n];exact q
 refine⟨⟨fun j u hu=>?_,fun j j' a z z'=>?_,fun j a z z2=>?_,fun a z=>?_,by rw[zaU];exact P.env.l1,P.env.l2⟩,fun a z z2=>?_,fun a o q n=>?_,fun a z=>?_,fun a o q=>?_,fun z=>nomatch z⟩
 ·by_cases hj:j=i
  ·subst hj;rw[zaO hi]at hu;cases hu;refine⟨v,d,hv,hd,?_⟩;rw[if_pos rfl];exact ho
  ·rw[zaN (Ne.symm hj)]at hu;obtain⟨v',d',g1,g2,g3⟩:=P.env.at_ j u hu;refine⟨v',d',g1,g2,?_⟩;rw[if_neg hj];refine Ow.mv (G:=R1 j) ⟨fun a o q z=>nl a o q fun za=>?_,fun a z=>.inl (sub a z)⟩ u (fun _ z=>z) g3;subst za;rcases z with z|z
   ·exact z (.inl ⟨i,hl⟩)
   ·exact hj (P.env.dj j i a z hl)
 ·have z0:=z;have z0':=z';by_cases hj:j=i<;>by_cases hj':j'=i
  ·rw[hj,hj']
  ·rw[if_pos hj]at z0;rw[if_neg hj']at z0';rcases hg a z0 with z1|z1
   ·exact absurd (P.env.dj i j' a z1 z0') (fun e=>hj' e.symm)
   ·exact absurd (.inl z1) (P.env.dx j' a z0')
  ·rw[if_neg hj]at z0;rw[if_pos hj']at z0';rcases hg a z0' with z1|z1
   ·exact absurd (P.env.dj j i a z0 z1) hj
   ·exact absurd (.inl z1) (P.env.dx j a z0)
  ·rw[if_neg hj]at z0;rw[if_neg hj']at z0';exact P.env.dj j j' a z0 z0'
 ·have z0:=z;by_cases hj:j=i
  ·rw[if_pos hj]at z0;rcases z2 with z2|z2
   ·exact hx a z0 z2
   ·rcases hg a z0 with z1|z1
    ·exact P.env.dx i a z1 (.inr z2)
    ·exact P.fx a z1 z2
  ·rw[if_neg hj]at z0;rcases z2 with z2|z2
   ·rcases hf a z2 with z1|z1
    ·exact hj (P.env.dj j i a z0 z1)
    ·exact P.env.dx j a z0 (.inl z1)
   ·exact P.env.dx j a z0 (.inr z2)
 ·obtain⟨o,q⟩:=P.env.dom a (sub a z);exact dom2 a o q
 ·rcases hf a z with z1|z1
  ·exact P.env.dx i a z1 (.inr z2)
  ·exact P.fx a z1 z2
 ·refine nl a o (P.keep a o q n) fun za=>?_;subst za;rcases P.own a (.inr ⟨i,hl⟩)with⟨j,z⟩|z
  ·exact n j z
  ·rw[q]at z;cases z
 ·have:F a\/∃j,R1 j a:=by
   rcases z with z|⟨j,z⟩
   ·rcases hf a z with z|z
    ·exact .inr ⟨i,z⟩
    ·exact .inl z
   ·rcases rc j a z with z|⟨_,z⟩
    ·exact .inr ⟨j,z⟩
    ·exact .inl z
  exact P.own a this
 ·obtain⟨o',q'⟩:=P.dom a o q;exact dom2 a o' q'
def jg{F:AS}(hg:∀a,G a->R1 i a\/F a)(hf:∀a,F' a->R1 i a\/F a):∀a,Own (fun j=>if j=i then G else R1 j) (U F' Ox) a->Own R1 (U F Ox) a:=fun a z=>by
 rcases z with⟨j,z⟩|z|z
 ·by_cases hj:j=i
  ·rw[if_pos hj]at z;rcases hg a z with z|z
   ·exact .inl ⟨i,z⟩
   ·exact .inr (.inl z)
  ·rw[if_neg hj]at z;exact .inl ⟨j,z⟩
 ·rcases hf a z with z|z
  ·exact .inl ⟨i,z⟩
  ·exact .inr (.inl z)
 ·exact .inr (.inr z)
def aM{α:Type}{en:List (Option α)}{t:α}(h:(en[i]?).join=some t):en[i]?=some (some t):=by
 cases q:en[i]? with
 |none=>rw[q]at h;cases h
 |some o=>rw[q]at h;exact congrArg some h
def Ow.sqL{ts:List PyData}{F:AS}(h:Ow K O H (.list ts) d v F):∃a vs,v=.ref a/\SqL K H a vs:=by
 obtain⟨a,vs,e,⟨_,h1,_⟩|⟨_,h1,_⟩⟩:=h
 ·exact⟨a,vs,e,h1.sq⟩
 ·exact⟨a,vs,e,SqL.of h1⟩
def Ow.ownL{ts:List PyData}{F:AS}(hd:d≠0)(h:Ow K O H (.list ts) d v F):∃a vs,v=.ref a/\H a=some (.lst vs)/\F a/\∃F':AS,(∀b,F' b->F b/\b≠a)/\Ows K O H ts (dn d) vs F':=by
 obtain⟨a,vs,e,⟨h0,_⟩|⟨_,h1,h2,h3⟩⟩:=h
 ·exact absurd h0 hd
 ·exact⟨a,vs,e,h1,h2,h3⟩
def Ows.past{ts:List PyData}{F:AS}(ho:∀a,O' a->O a)(hl:O l)(hf:∀b,F b->b≠l)(h:Ows K O H ts d vs F):Ows K O' (upd H l o) ts d vs F:=
 Ows.mv (G:=F) ⟨fun a u q z=>by
  rw[az]
  ·exact q
  ·intro za;subst za;rcases z with z|z
   ·exact z hl
   ·exact hf a z rfl,fun a z=>.inl (ho a z)⟩ ts (fun _ z=>z) h
def Ow.past{F:AS}(ho:∀a,O' a->O a)(hl:O l)(hf:∀b,F b->b≠l)(h:Ow K O H t d v F):Ow K O' (upd H l o) t d v F:=
 Ow.mv (G:=F) ⟨fun a u q z=>by
  rw[az]
  ·exact q
  ·intro za;subst za;rcases z with z|z
   ·exact z hl
   ·exact hf a z rfl,fun a z=>.inl (ho a z)⟩ t (fun _ z=>z) h
def b9(i:Nat)(f:ME):ME:=fun en=>match (en[i]?).join with
 |some (.list _)=>(f en).bind fun r=>match (r.2[i]?).join with
  |some (.list ts)=>if ts.length<sizeLine then some (.none,r.2.set i (some (.list (ts++[r.1]))))else none
  |_=>none
 |_=>none
def KC(hd:ds1[i]?=some d)(hz:d≠0)(hc:dn d=c)(h:tF K false ds ds1 3 (b9 i f) σ H Q):tBM K "list" jQ (gp i) (iP (tF K p ds ds1 c f) nI) σ H Q:=by
 obtain⟨Ox,en,R,t,en',e,hf,k⟩:=h;unfold b9 at hf;split at hf
 case h_2=>cases hf
 next ts0 h0=>
 obtain⟨⟨t1,en1⟩,h1,hf⟩:=zaa.mp hf
 dsimp only at hf
 split at hf
 case h_2=>cases hf
 next ts h2=>
 by_cases ξ:ts.length<sizeLine
 case neg=>rw[if_neg ξ]at hf;cases hf
 rw[if_pos ξ]at hf;cases hf;obtain⟨v,d0,a1,_,a3⟩:=e.at_ i _ (aM h0);obtain⟨l0,vs0,e0,sq⟩:=a3.sqL;refine⟨v,a1,?_,Ox,en,R,t1,en1,e,h1,fun x H1 R1 F P o=>?_⟩
 ·rw[e0];exact .inl ⟨rfl,vs0,sq⟩
 obtain⟨v',d',b1,b2,b3⟩:=P.env.at_ i _ (aM h2);rw[a1]at b1;cases b1;rw[hd]at b2;cases b2;obtain⟨l,vs,el,hl,hr,F',hf',ow⟩:=b3.ownL hz;refine⟨l,vs,x,el,rfl,hl,by rw[ow.len];exact ξ,?_⟩;have hi:i<en1.length:=(zah.mp (aM h2)).1;have Fn:∀a,F a->a≠l:=fun a z z2=>by
  subst z2;exact P.env.dx i a hr (.inl z)
 have sub:=jg (i:=i) (R1:=R1) (Ox:=Ox) (G:=fun a=>R1 i a\/F a) (F':=NoA) (F:=F) (fun _ z=>z) (fun _ z=>z.elim);have Ol:Own R1 (U F Ox) l:=.inl ⟨i,hr⟩;refine k .non (upd H1 l (.lst (vs++[x]))) _ NoA (P.slot (G:=fun a=>R1 i a\/F a) hr hi a1 hd (fun _ z=>z) (fun _ z=>z.elim) (fun _ _ z=>z) ?_) rfl;refine⟨l,vs++[x],el,.inr ⟨hz,av,.inl hr,U F' F,fun b z=>?_,?_⟩⟩
 ·rcases z with z|z
  ·exact⟨.inl (hf' b z).1,(hf' b z).2⟩
  ·exact⟨.inr z,Fn b z⟩
 ·refine Ows.snoc (Ows.past sub Ol (fun b z=>(hf' b z).2) ow) ?_ fun b z1 z2=>P.env.dx i b (hf' b z1).1 (.inl z2);rw[hc];exact Ow.past sub Ol Fn o
theorem Ows.out:∀{ts:List PyData} {vs:List V} {F:AS} {k:Nat} {t:PyData},Ows K O H ts d vs F->ts[k]?=some t ->
  ∃v,∃F1 F2:AS,vs[k]?=some v/\(∀b,F1 b->F b)/\(∀b,F2 b->F b)/\(∀b,F1 b->¬F2 b)/\Ow K O H t d v F1/\Ows K O H (ts.eraseIdx k) d (vs.eraseIdx k) F2
 |[],_,_,k,t,_,h=>by simp at h
 |u::ts,_,F,k,t,h,hk=>by
  obtain⟨v,r,F1,F2,e,s1,s2,s3,h4,h5⟩:=h;subst e;cases k with
  |zero=>
   have:u=t:=by simpa using hk
   subst this;exact⟨v,F1,F2,rfl,s1,s2,s3,h4,h5⟩
  |succ k=>
   obtain⟨w,G1,G2,g1,g2,g3,g4,g5,g6⟩:=Ows.out (k:=k) h5 (by simpa using hk);refine⟨w,G1,U F1 G2,by simpa using g1,fun b z=>s2 b (g2 b z),fun b z=>z.elim (s1 b) fun z=>s2 b (g3 b z),fun b z z2=>?_,g5,v,r.eraseIdx k,F1,G2,rfl,fun b=>.inl,fun b=>.inr,fun b z1 z2=>s3 b z1 (g3 b z2),h4,g6⟩;rcases z2 with z2|z2
   ·exact s3 b z2 (g2 b z)
   ·exact g4 b z z2
def i8(i:Nat):ME:=fun en=>match (en[i]?).join with
 |some (.list ts)=>(ts[ts.length-1]?).map fun t=>(t,en.set i (some (.list ts.dropLast)))
 |_=>none
def Kq(hd:ds[i]?=some d)(hz:d≠0)(hc:dn d=c)(h:tF K false ds ds c (i8 i) σ H Q):GO K "list" GU (gp i) σ H Q:=by
 obtain⟨Ox,en,R,t,en',e,hf,k⟩:=h;unfold i8 at hf;split at hf
 case h_2=>cases hf
 next ts h0=>
 obtain⟨t',h1,hf⟩:=zab.mp hf;cases hf;obtain⟨v,d',a1,a2,a3⟩:=e.at_ i _ (aM h0);rw[hd]at a2;cases a2;obtain⟨l,vs,el,hl,hr,F',hf',ow⟩:=a3.ownL hz;have len:=ow.len;obtain⟨w,F1,F2,g1,g2,g3,g4,g5,g6⟩:=ow.out h1;refine⟨v,a1,by rw[el];exact .inl ⟨rfl,vs,SqL.of hl⟩,l,vs,w,el,rfl,hl,by rw[len];exact g1,?_⟩;have hi:i<en.length:=(zah.mp (aM h0)).1;have P:=Post.refl (p:=true) e;have eqU:U (fun _=>False) Ox=Ox:=fW;have hO:Own R (U (fun _=>False) Ox)=Own R Ox:=by rw[eqU]
 have gG:∀a,(fun a=>R i a/\¬F1 a) a->R i a\/False:=fun a z=>.inl z.1;have gF:∀a,F1 a->R i a\/False:=fun a z=>.inl (hf' a (g2 a z)).1;have sub:∀a,Own (fun j=>if j=i then(fun a=>R i a/\¬F1 a)else R j) (U F1 Ox) a->Own R Ox a:=fun a z=>hO▸jg gG gF a z;have Ol:Own R Ox l:=.inl ⟨i,hr⟩;have F1l:¬F1 l:=fun z=>(hf' l (g2 l z)).2 rfl;have ed:ts.eraseIdx (ts.length-1)=ts.dropLast:=kQ ts;have ed2:vs.eraseIdx (ts.length-1)=vs.dropLast:=by rw[<-len];exact kQ vs
 rw[ed,ed2]at g6;rw[hc]at g5;refine k w (upd H l (.lst vs.dropLast)) _ F1 (P.slot (G:=fun a=>R i a/\¬F1 a) (F:=fun _=>False) hr hi a1 hd gG gF (fun a z z2=>z.2 z2) ?_) (Ow.past sub Ol (fun b z=>(hf' b (g2 b z)).2) g5);exact⟨l,vs.dropLast,el,.inr ⟨hz,av,⟨hr,F1l⟩,F2,fun b z=>⟨⟨(hf' b (g3 b z)).1,fun z1=>g4 b z1 z⟩,(hf' b (g3 b z)).2⟩,Ows.past sub Ol (fun b z=>(hf' b (g3 b z)).2) g6⟩⟩
def LD(i:Nat)(f:ME):ME:=fun en=>match (en[i]?).join with
 |some (.list _)=>(f en).bind fun r=>match r.1,(r.2[i]?).join with
  |.int n,some (.list ts)=>if -(2 ^ 63)<=n/\n<2 ^ 63 then(seqIndex? n ts.length).bind fun k=>(ts[k]?).map fun t=>(t,r.2.set i (some (.list (ts.eraseIdx k))))else none
  |_,_=>none
 |_=>none
theorem Ows.setAt:∀{ts:List PyData} {vs:List V} {F F2:AS} {k:Nat} {t:PyData} {v:V},Ows K O H ts d vs F->Ow K O H t d v F2->(∀b,F b->¬F2 b)->Ows K O H (ts.set k t) d (vs.set k v) (U F F2)
 |[],_,_,_,_,_,_,h,_,_=>by rw[show _=[]from h];rfl
 |u::ts,_,F,F2,k,t,v,h,h2,hd=>by
  obtain⟨w,r,G1,G2,e,s1,s2,s3,h4,h5⟩:=h;subst e;cases k with
  |zero=>exact⟨v,r,F2,G2,rfl,fun _ z=>.inr z,fun b z=>.inl (s2 b z),fun b z z2=>hd b (s2 b z2) z,h2,h5⟩
  |succ k=>
   refine⟨w,r.set k v,G1,U G2 F2,rfl,fun b z=>.inl (s1 b z),fun b z=>z.imp (s2 b) id,fun b z z2=>?_,h4,Ows.setAt h5 h2 fun b z=>hd b (s2 b z)⟩;rcases z2 with z2|z2
   ·exact s3 b z z2
   ·exact hd b (s1 b z) z2
def gU(i:Nat)(fk fe:ME):MS:=fun en=>(fe en).bind fun r=>match (r.2[i]?).join with
 |some _=>(fk r.2).bind fun q=>match q.1,(q.2[i]?).join with
  |.int n,some (.list ts)=>(ixN ts.length n).map fun k=>.nx (q.2.set i (some (.list (ts.set k r.1))))
  |_,_=>none
 |none=>none
def DL(hd:ds2[i]?=some d)(hz:d≠0)(hc:dn d=c)(h:tFS K J ds ds2 (gU i fk fe) D σ H):
  pQ (tF K p1 ds ds1 c fe) (HR (gp i) (tF K p2 ds1 ds2 d2 fk) Cm) D σ H:=by
 obtain⟨Ox,en,R,fl,e,hf,k⟩:=h;unfold gU at hf;obtain⟨⟨t1,en1⟩,h1,hf⟩:=zaa.mp hf
 dsimp only at hf
 split at hf
 case h_2=>cases hf
 next tt h0=>
 obtain⟨⟨t2,en2⟩,h2,hf⟩:=zaa.mp hf
 dsimp only at hf
 split at hf
 case h_2=>cases hf
 next n ts h3=>
 obtain⟨kk,h4,hf⟩:=zab.mp hf;cases hf;refine⟨Ox,en,R,t1,en1,e,h1,fun x H1 R1 F1 P1 o1=>?_⟩;obtain⟨v0,d0,a1,_,_⟩:=P1.env.at_ i tt (aM h0);refine⟨v0,a1,?_⟩;refine⟨U F1 Ox,en1,R1,.int n,en2,P1.env,h2,fun y H2 R2 F2 P2 o2=>?_⟩;have P:=P1.trans P2;have o1':=Ow.over P1.env P2 o1;obtain⟨v',d',b1,b2,b3⟩:=P.env.at_ i _ (aM h3);rw[a1]at b1;cases b1;rw[hd]at b2;cases b2;obtain⟨l,vs,el,hl,hr,F',hf',ow⟩:=b3.ownL hz;refine⟨l,vs,n,kk,el,o2,hl,by rw[ow.len];exact h4,?_⟩;have hi:i<en2.length:=(zah.mp (aM h3)).1;have Fn:∀a,F1 a->a≠l:=fun a z z2=>by
  subst z2;exact P.env.dx i a hr (.inl (.inl z))
 have gG:∀a,(fun a=>R2 i a\/F1 a) a->R2 i a\/U F1 F2 a:=fun a z=>z.imp id .inl;have sub:=jg (i:=i) (R1:=R2) (Ox:=Ox) (G:=fun a=>R2 i a\/F1 a) (F':=NoA) (F:=U F1 F2) gG (fun _ z=>z.elim);have Ol:Own R2 (U (U F1 F2) Ox) l:=.inl ⟨i,hr⟩;have PS:=P.slot (G:=fun a=>R2 i a\/F1 a) (F':=NoA) (o2:=.lst (vs.set kk x)) (t:=.list (ts.set kk t1)) hr hi a1 hd gG (fun _ z=>z.elim) (fun _ _ z=>z) ?_
 ·exact k σ _ _ PS.s
 refine⟨l,vs.set kk x,el,.inr ⟨hz,av,.inl hr,U F' F1,fun b z=>?_,?_⟩⟩
 ·rcases z with z|z
  ·exact⟨.inl (hf' b z).1,(hf' b z).2⟩
  ·exact⟨.inr z,Fn b z⟩
 ·refine Ows.setAt (Ows.past sub Ol (fun b z=>(hf' b z).2) ow) ?_ fun b z1 z2=>P.env.dx i b (hf' b z1).1 (.inl (.inl z2));rw[hc];exact Ow.past sub Ol Fn o1'
theorem Ows.get:∀{ts:List PyData} {vs:List V} {F:AS} {k:Nat} {t:PyData},Ows K O H ts d vs F->ts[k]?=some t->∃v,vs[k]?=some v/\Ow K O H t d v F
 |[],_,_,k,t,_,h=>by simp at h
 |u::ts,_,F,k,t,h,hk=>by
  obtain⟨v,r,F1,F2,e,s1,s2,s3,h4,h5⟩:=h;subst e;cases k with
  |zero=>
   have:u=t:=by simpa using hk
   subst this;exact⟨v,rfl,Ow.grow (fun _ z=>z) u s1 h4⟩
  |succ k=>
   obtain⟨w,g1,g2⟩:=Ows.get (k:=k) h5 (by simpa using hk);exact⟨w,by simpa using g1,Ow.grow (fun _ z=>z) t s2 g2⟩
def Ows.atI{ts:List PyData}{vs:List V}{F:AS}{n:Int}{t:PyData}(h:Ows K O H ts d vs F)(ht:L2.atI ts n=some t):∃v,L2.atI vs n=some v/\Ow K O H t d v F:=by
 unfold L2.atI at ht ⊢;rw[h.len];obtain⟨k,h1,h2⟩:=zaa.mp ht;obtain⟨v,g1,g2⟩:=h.get h2;exact⟨v,by rw[h1];exact g1,g2⟩
def i9(i:Nat)(f:ME):ME:=fun en=>(en[i]?).join.bind fun _=>(f en).bind fun r=>match r.1,(r.2[i]?).join with
 |.int n,some (.list ts)=>(atI ts n).map fun t=>(t,r.2)
 |_,_=>none
def Ky(hd:ds1[i]?=some 1)(h:tF K p ds ds1 0 (i9 i f) σ H Q):tOp (vE K) (gp i) (tF K p ds ds1 d1 f) σ H Q:=by
 obtain⟨Ox,en,R,t,en',e,hf,k⟩:=h;unfold i9 at hf;obtain⟨t0,h0,hf⟩:=zaa.mp hf;obtain⟨⟨t1,en1⟩,h1,hf⟩:=zaa.mp hf
 dsimp only at hf
 split at hf
 case h_2=>cases hf
 next n ts h2=>
 obtain⟨t',h3,hf⟩:=zab.mp hf;cases hf;obtain⟨v,d0,a1,_,a3⟩:=e.at_ i _ (aM h0);refine⟨v,a1,Ox,en,R,.int n,_,e,h1,fun x H1 R1 F P o=>?_⟩;obtain⟨v',d',b1,b2,b3⟩:=P.env.at_ i _ (aM h2);rw[a1]at b1;cases b1;rw[hd]at b2;cases b2;obtain⟨l,vs,el,hl,hr,F',hf',ow⟩:=b3.ownL (by decide);obtain⟨w,g1,g2⟩:=ow.atI h3;refine⟨l,vs,n,w,el,o,SqL.of hl,g1,k w H1 R1 NoA (P.less fun _ z=>z.elim) ?_⟩;exact Ow.any0 _ (Ow.grow (fun a z=>z.imp id fun z=>z.elim (fun z=>False.elim z) Or.inr) _ (fun _ z=>z) g2)
end
def PE.imp{t t':TE}(h:PE X e t)(hi:∀σ H Q,t' σ H Q->t σ H Q):PE X e t':=fun ρ s σ H Q I hw=>h ρ s σ H Q I (hi _ _ _ hw)
def PT.imp{t:TT}(h:PT X e t)(hi:∀σ H Q,t' σ H Q->t σ H Q):PT X e t':=fun ρ s σ H Q I hw=>h ρ s σ H Q I (hi _ _ _ hw)
def PW.imp{t:TT}(h:PW X e t)(hi:∀σ H Q,t' σ H Q->t σ H Q):PW X e t':=fun wh ρ s σ H Q I hw=>h wh ρ s σ H Q I (hi _ _ _ hw)
def PA.imp{e:List Expr}{t t':TA}(h:PA X e t)(hi:∀σ H Q,t' σ H Q->t σ H Q):PA X e t':=fun pos ρ s σ H Q I hw=>h pos ρ s σ H Q I (hi _ _ _ hw)
def PS.imp{e:Stmt}{t t':TS}(h:PS X e t)(hi:∀D σ H,t' D σ H->t D σ H):PS X e t':=fun ρ s σ H D I hw=>h ρ s σ H D I (hi _ _ _ hw)
def PSs.imp{e:List Stmt}{t t':TS}(h:PSs X e t)(hi:∀D σ H,t' D σ H->t D σ H):PSs X e t':=fun ρ s σ H D I hw=>h ρ s σ H D I (hi _ _ _ hw)
def PG.imp{t t':TG}(h:PG X e t)(hi:∀v σ H Q,t' v σ H Q->t v σ H Q):PG X e t':=fun ρ s σ H v u Q I r hw=>h ρ s σ H v u Q I r (hi _ _ _ _ hw)
def PGs.imp{e:List Expr}{t t':TGs}(h:PGs X e t)(hi:∀v σ H Q,t' v σ H Q->t v σ H Q):PGs X e t':=fun ρ s σ H v u Q I r hw=>h ρ s σ H v u Q I r (hi _ _ _ _ hw)
def PI.imp{t t':TI}(h:PI X tg e t)(hi:∀σ H R,t' σ H R->t σ H R):PI X tg e t':=fun ρ s σ H R I hw=>h ρ s σ H R I (hi _ _ _ hw)
def PTs.imp{e:List Expr}{t:TT}(h:PTs X e t)(hi:∀σ H Q,t' σ H Q->t σ H Q):PTs X e t':=fun ρ s σ H Q I hw=>h ρ s σ H Q I (hi _ _ _ hw)
def aQ:Expr->Bool
 |.Starred _ _=>false
 |_=>true
def bj(h:aQ e=true):starEach (e::es) env=(false,eval e env)::starEach es env:=by
 cases e<;>first|rfl|cases h
theorem i3{pos:Pos}{env:Env}:∀{es:List Expr},es.all aQ=true->(backTo pos (starEach es env)).any (·.1)=false
 |[],_=>rfl
 |e::es,h=>by
  rw[List.all_cons,zbk]at h;rw[bj h.1];show(false || (backTo pos (starEach es env)).any (·.1))=false;rw[i3 h.2];rfl
section
variable{a c:Expr}{m:MT}    
def Iy(hN:X.N[i]?=some x)(hv:Vis X.env.scope x)(h0:ds[i]?=some 0)(hd:(x==("__debug__":Str))=false)(hcd:(x==("__classdict__":Str))=false):PE X (.Name x pos) (tF K p ds ds 0 (aa i)):=
 (cv hN hv hd hcd).imp fun _ _ _ h=>Kl h0 (pf (fun _=>rfl) h)
def Ke(hN:X.N[i]?=some x)(hv:Vis X.env.scope x)(h0:ds[i]?=some d)(hds:ds.set i 0=ds')(hd:(x==("__debug__":Str))=false)(hcd:(x==("__classdict__":Str))=false):PE X (.Name x pos) (tF K false ds ds' d (eMv i)):=by
 subst hds;exact(cv hN hv hd hcd).imp fun _ _ _=>K9 h0
def IJ{n:Int}{j}:PE X (.Constant (.int n) j pos) (tF K p ds ds 3 (eC (.int n))):=pe_int.imp fun _ _ _ h=>f_c (t:=.int n) (fun _ _ _ _=>rfl) (pf (fun _=>rfl) h)
def Kk{n:Bool}{j}:PE X (.Constant (.bool n) j pos) (tF K p ds ds 3 (eC (.bool n))):=pe_bl.imp fun _ _ _ h=>f_c (t:=.bool n) (fun _ _ _ _=>rfl) (pf (fun _=>rfl) h)
def IE{j}:PE X (.Constant .none j pos) (tF K p ds ds 3 (eC .none)):=pe_non.imp fun _ _ _ h=>f_c (t:=.none) (fun _ _ _ _=>rfl) (pf (fun _=>rfl) h)
def IA(h:PE X e (tF K p ds ds' d f))(hd:d'<=d):PE X e (tF K p ds ds' d' f):=h.imp fun _ _ _=>Ko hd
def Ki(h:PE X e (tF K p ds0 ds' d f))(hd:leD ds0 ds=true):PE X e (tF K false ds ds' d f):=h.imp fun _ _ _=>Lb hd
def IM(h:PE X e (tF K true ds0 ds0 3 f))(hd:leD ds0 ds=true):PE X e (tF K p ds ds 3 f):=h.imp fun _ _ _ h=>KB hd (pf (fun _=>rfl) h)
def Kc{op:Operator}(ho:OpR X (binaryOp op) (rF2 K g d))(ha:PE X a (tF K p ds ds1 d1 f1))(hb:PE X b (tF K p ds1 ds2 d2 f2)):PE X (.BinOp a op b pos) (tF K p ds ds2 d (e2 g f1 f2)):=
 (JN ho ha hb).imp fun _ _ _ h=>rK (by rw[zbi];exact h)
def Ka{op:UnaryOp}{g:D->Option D}(ho:UnR X (unaryOp op) (rF1 K g d))(ha:PE X a (tF K p ds ds1 d1 f1)):PE X (.UnaryOp op a pos) (tF K p ds ds1 d (e1 g f1)):=
 (JL ho ha).imp fun _ _ _=>Ku
def IL(ho:OpR X (compareOp op) (rF2 K g d))(ha:PE X a (tF K p ds ds1 d1 f1))(hb:PE X b (tF K p ds1 ds2 d2 f2))(hm:behindInMarks op b=false):PE X (.Compare a [op] [b] pos) (tF K p ds ds2 d (e2 g f1 f2)):=
 (C9 ho ha hb hm).imp fun _ _ _ h=>rK (by rw[zbi];exact h)
def DH(ho:OpR X (compareOp op) (rF2 K g d))(ha:PE X a (tF K p ds ds1 d1 f1))(hb:PE X b (tF K p ds1 ds2 d2 f2))(hm:behindInMarks op b=false):PT X (.Compare a [op] [b] pos) (tFT K p ds ds2 (tV (e2 g f1 f2))):=
 (C0 ho ha hb hm).imp fun σ H Q h=>by
  obtain⟨Ox,en,R,t,en',e,hf,k⟩:=jU (d:=d) h;exact rK (by rw[zbi];exact⟨Ox,en,R,t,en',e,hf,k⟩)
def DE(h:PE X e (tF K p ds ds' d f))(he:∀χ,isTrue e X.env χ=(do let v <-χ;standAt e.pos;holding [v] (truthy v))):PT X e (tFT K p ds ds' (tV f)):=(GZ h he).imp fun _ _ _=>jU
def DB(ha:PT X a (tFT K p ds ds1 c1)):PW X (.BoolOp .And [a] pos) (tFT K p ds ds1 c1):=CY ha
def HU(ha:PT X a (tFT K p ds ds1 c1)):PW X (.BoolOp .Or [a] pos) (tFT K p ds ds1 c1):=GX ha
def HV{rest:List Expr}(ha:PT X a (tFT K p ds ds1 c1))(hb:PW X (.BoolOp .And (b::rest) pos) (tFT K p ds1 ds1 c2)):PW X (.BoolOp .And (a::b::rest) pos) (tFT K p ds ds1 (dv c1 c2)):=(GY ha hb).imp fun _ _ _ h=>HZ (by rw[zbi];exact h)
def J2{rest:List Expr}(ha:PT X a (tFT K p ds ds1 c1))(hb:PW X (.BoolOp .Or (b::rest) pos) (tFT K p ds1 ds1 c2)):PW X (.BoolOp .Or (a::b::rest) pos) (tFT K p ds ds1 (bOr c1 c2)):=(JH ha hb).imp fun _ _ _ h=>J3 (by rw[zbi];exact h)
def DF(ha:PT X a (tFT K p ds ds1 c1)):PT X (.UnaryOp .Not a pos) (tFT K p ds ds1 (fU c1)):=(G0 ha).imp fun _ _ _=>HW
def DI(h:PT X e (tFT K true ds0 ds0 c1))(hd:leD ds0 ds=true):PT X e (tFT K p ds ds c1):=h.imp fun _ _ _ ⟨Ox,en,R,t,en',e,hf,k⟩=>HY hd ⟨Ox,en,R,t,en',e,hf,fun H' R' P=>k H' R' ⟨P.env,P.fx,P.keep,P.own,P.dom,fun _=>P.pure rfl⟩⟩
def IC{op}(h:PE X a (tF K p ds ds1 d f)):PE X (.BoolOp op [a] pos) (tF K p ds ds1 d f):=Hc h
def IP{rest:List Expr}(ha:PE X a (tF K p ds ds1 d1 f1))(hb:PE X (.BoolOp .And (b::rest) pos) (tF K p ds1 ds1 d f2)):PE X (.BoolOp .And (a::b::rest) pos) (tF K p ds ds1 d (l6 f1 f2)):=(Hh ha hb).imp fun _ _ _ h=>KD (by rw[zbi];exact h)
def Kb{rest:List Expr}(ha:PE X a (tF K p ds ds1 d1 f1))(hb:PE X (.BoolOp .Or (b::rest) pos) (tF K p ds1 ds1 d f2)):PE X (.BoolOp .Or (a::b::rest) pos) (tF K p ds ds1 d (eOr f1 f2)):=(JM ha hb).imp fun _ _ _ h=>K8 (by rw[zbi];exact h)
def ID(ha:PE X a (tF K p ds ds1 d1 f)):PE X (.UnaryOp .Not a pos) (tF K p ds ds1 3 (qi f)):=(Hd ha).imp fun _ _ _=>Kv
def Kh(hc:PT X c (tFT K p ds ds1 c1))(ha:PE X a (tF K p ds1 ds2 d f1))(hb:PE X b (tF K p ds1 ds2 d f2)):PE X (.IfExp c a b pos) (tF K p ds ds2 d (eIf c1 f1 f2)):=(yQ hc ha hb).imp fun _ _ _ h=>La (by rw[zbi,zbi];exact h)
def Em:PA X [] (tFA K p ds ds [] af):=pa_nil.imp fun _ _ _ ⟨Ox,en,R,t,en',e,hf,k⟩=>IQ ⟨Ox,en,R,t,en',e,hf,fun vs H' R' F P=>k vs H' R' F ⟨P.env,P.fx,P.keep,P.own,P.dom,fun _=>P.pure rfl⟩⟩
def zX(ha:PE X e (tF K p ds ds1 d f))(hr:PA X es (tFA K p ds1 ds2 sh fa))(hs:aQ e=true):PA X (e::es) (tFA K p ds ds2 (.inl d::sh) (ae f fa)):=(cq ha hr (bj hs)).imp fun _ _ _ h=>Eo (by rw[zbi];exact h)
def zW(hN:X.N[i]?=some x)(hv:Vis X.env.scope x)(hr:PA X es (tFA K p ds ds2 sh fa))(hd:(x==("__debug__":Str))=false)(hcd:(x==("__classdict__":Str))=false):
  PA X (.Name x pos::es) (tFA K p ds ds2 (.inr i::sh) (bo i fa)):=(cq (cv hN hv hd hcd) hr (bj rfl)).imp fun _ _ _=>El
def IG{c:Nat}(h:PA X es (tFA K p ds ds1 sh fa))(hs:b8 c sh=true)(hd:dn d=c)(hz:d≠0):PE X (.List es pos) (tF K p ds ds1 d (aV fa)):=(He h).imp fun _ _ _=>Kw hs hd hz
def Iz{c:Nat}{x1}(h:PA X es (tFA K p ds ds1 sh fa))(hs:b8 c sh=true)(hd:dn d=c):PE X (.Tuple es x1 pos) (tF K p ds ds1 d (iF fa)):=(Ha h).imp fun _ _ _=>Km hs hd
def zV{id:String}{g:List D->Option D}(hc:CallR X (.builtin id) (rFn K g d))(hg:Gl X x)(hm:X.mg x=none)(hv:bootBuiltins x=some (.builtin id))(ha:PA X (e::es) (tFA K p ds ds1 sh fa))(hsh:b8 0 sh=true)(hn:x≠"__name__")(hdb:(x==("__debug__":Str))=false)
  (he:aQ e=true) (hpl:es.all aQ=true):PE X (.Call (.Name x px) (e::es) [] pos) (tF K p ds ds1 d (eN g fa)):=
 (nV hc hg hm hv ha hn hdb (bj he) (i3 hpl)).imp fun _ _ _=>tw hsh
def xV{g:List D->Option D}(hc:CallR X (.type T) (rFn K g d))(hg:Gl X x)(hm:X.mg x=none)(hv:bootBuiltins x=some (.type T))(ha:PA X (e::es) (tFA K p ds ds1 sh fa))(hsh:b8 0 sh=true)(hn:x≠"__name__")(hdb:(x==("__debug__":Str))=false)
  (he:aQ e=true) (hpl:es.all aQ=true):PE X (.Call (.Name x px) (e::es) [] pos) (tF K p ds ds1 d (eN g fa)):=
 (qE hc hg hm hv ha hn hdb (bj he) (i3 hpl)).imp fun _ _ _=>tw hsh
def Kj{F:List D->Option (D×En)}(G:Kn X.prog X.w X.K X.mg X.base k x ps (spF K dps dr F))(hr:Room k X.A)(hg:Gl X x)(ha:PA X (e::es) (tFA K p ds ds1 sh fa))(hns:ia sh=true)(hcd:eG ds1 sh dps=true)(hdb:(x==("__debug__":Str))=false)
  (he:aQ e=true) (hpl:es.all aQ=true):
  PE X (.Call (.Name x px) (e::es) [] pos) (tF K p ds ds1 dr (aE F fa)):=(Co G hr hg ha hdb (bj he) (i3 hpl)).imp fun _ _ _ h=>IV hcd (by rw[hns,zbW];exact h)
def IK{F:List D->Option (D×En)}(G:Kn X.prog X.w X.K X.mg X.base k x ps (spF K dps dr F))(hr:Room k X.A)(hg:Gl X x)(ha:PA X (e::es) (tFA K false ds ds1 sh fa))(hcd:eG ds1 sh dps=true)(hdb:(x==("__debug__":Str))=false)
  (he:aQ e=true) (hpl:es.all aQ=true):
  PE X (.Call (.Name x px) (e::es) [] pos) (tF K false ds ds1 dr (aE F fa)):=(Co G hr hg ha hdb (bj he) (i3 hpl)).imp fun _ _ _ h=>IV hcd h
def Kg(ho:IxR X (rF2 K g d))(ha:PE X a (tF K p ds ds1 d1 f1))(hb:PE X b (tF K p ds1 ds2 d2 f2))(hs:gO b):PE X (.Subscript a b pos) (tF K p ds ds2 d (e2 g f1 f2)):=
 (vF ho ha hb hs).imp fun _ _ _ h=>rK (by rw[zbi];exact h)
def IH(hK:X.K=K)(hN:X.N[i]?=some x)(hv:Vis X.env.scope x)(h1:ds1[i]?=some 1)(hb:PE X b (tF K p ds ds1 d1 f))(hs:gO b)(hd:(x==("__debug__":Str))=false)(hcd:(x==("__classdict__":Str))=false):
  PE X (.Subscript (.Name x px) b pos) (tF K p ds ds1 0 (i9 i f)):=(vF (K5 hK) (cv hN hv hd hcd) hb hs).imp fun _ _ _=>Ky h1
def IN{c:Nat}(hK:X.K=K)(hN:X.N[i]?=some x)(hv:Vis X.env.scope x)(h1:ds1[i]?=some d)(he:PE X e (tF K false ds ds1 c f))(hz:d≠0)(hc:dn d=c)
  (hd:(x==("__debug__":Str))=false) (hcd:(x==("__classdict__":Str))=false)
  (η:attributeBase (.Name x px) "append" X.env (eval (.Name x px) X.env)=eval (.Name x px) X.env)
  (x':((backTo ω (starEach [e] X.env)).all (fun x=>!x.1)&&(backToKw ω (keywordEach [] X.env)).all (fun x=>x.1.isSome)&&decide (([e]:List Expr).length+([]:List Keyword).length+(if([]:List Keyword).isEmpty then 0 else 1)<30))=true)
  (θ:(μ.endLine==ω.line)=true) (hs:starEach [e] X.env=[(false,eval e X.env)]) (ι:(backTo ω (starEach [] X.env)).any (·.1)=false):
  PE X (.Call (.Attribute (.Name x px) "append" μ) [e] [] ω) (tF K false ds ds1 3 (b9 i f)):=by
 subst hK;exact(rF PySem.F.plainAttrs_list PySem.F.slot_list_append PySem.F.type_list_append jr (cv hN hv hd hcd) (cq he pa_nil hs) η x' θ hs ι).imp fun _ _ _=>KC h1 hz hc
def IB{c:Nat}(hK:X.K=K)(hN:X.N[i]?=some x)(hv:Vis X.env.scope x)(h1:ds[i]?=some d)(hz:d≠0)(hc:dn d=c)
  (hd:(x==("__debug__":Str))=false) (hcd:(x==("__classdict__":Str))=false)
  (η:attributeBase (.Name x px) "pop" X.env (eval (.Name x px) X.env)=eval (.Name x px) X.env) (θ:(μ.endLine==ω.line)=true):
  PE X (.Call (.Attribute (.Name x px) "pop" μ) [] [] ω) (tF K false ds ds c (i8 i)):=by
 subst hK;exact(Hg PySem.F.plainAttrs_list PySem.F.slot_list_pop PySem.F.type_list_pop Hq (cv hN hv hd hcd) η θ).imp fun _ _ _=>Kq h1 hz hc
def cY:MT:=fun en=>some (true,en)
def DD:PTs X [] (tFT K p ds ds cY):=pts_nil.imp fun σ H Q ⟨Ox,en,R,b,en',e,hf,k⟩=>by
 cases hf;exact k H R (Post.refl e)
def DC(hc:PT X c (tFT K p ds ds1 c1)):PTs X [c] (tFT K p ds ds1 c1):=CZ hc
def Kf{g:MG}(B:BlkOkC X scope ns js)(hc:X.calm=true)(hi:PI X tg iter (tFI K p ds ds1 fi))
  (hg:∀C cl s₀ H₀ fp,PG (aX X scope ns C cl s₀ H₀ fp) tg (tFG K lk dsi dsi g)) (ht:∀C cl s₀ H₀ fp,PTs (aX X scope ns C cl s₀ H₀ fp) ifs (tFT K true dsi dsi c1)) (he:∀C cl s₀ H₀ fp,PE (aX X scope ns C cl s₀ H₀ fp) elt (tF K true dsi dsi cd f))
  (xX:gH ds1 js dsi=true) (hd:dn d=cd) (hz:d≠0) (hlk:lk=gE js 0)
  (hs:∀x,foldedSetIterable iter X.env x=pure x):PE X (.ListComp elt [⟨tg,iter,ifs,0⟩] scope pos) (tF K p ds ds1 d (eLC true fi g c1 f js)):=
 (Hf B hc hi hg ht he hs).imp fun _ _ _ h=>IU xX hd hz hlk (by rw[zbW];exact h)
end
def nL(f:ME)(g:MG):MS:=fun en=>(f en).bind fun r=>(g r.1 r.2).map .nx
section
variable{g:MG}   
def Ij(h:tFS K J ds ds2 (nL f g) Dn σ H):pQ (tF K p ds ds1 0 f) (tFG K J.lk ds1 ds2 g) Dn σ H:=by
 obtain⟨Ox,en,R,fl,e,hf,k⟩:=h;unfold nL at hf;obtain⟨⟨t,en1⟩,h1,hf⟩:=zaa.mp hf;obtain⟨en2,h2,hf⟩:=zab.mp hf;cases hf;refine⟨Ox,en,R,t,en1,e,h1,fun v H1 R1 F P o=>?_⟩;exact⟨Ox,en1,R1,t,en2,P.env0,Ow.letgo P (fun _ z=>z) o,h2,fun σ2 R2 P2 _=>k σ2 H1 R2 ((P.s.less fun _ z=>z.elim).after P2)⟩
end
section
variable{a c:Expr}{rest body qO:List Stmt}{g:MG}{gs:List D->En->Option En} 
def DK:PSs X [] (tFS K J ds ds bd):=pss_nil.imp fun _ _ _=>Ig
def zw(h1:PS X st (tFS K J ds ds1 m1))(h2:PSs X rest (tFS K J ds1 ds2 m2)):PSs X (st::rest) (tFS K J ds ds2 (ak m1 m2)):=(yM h1 h2).imp fun _ _ _=>Ib
def DJ(h1:PS X st (tFS K J ds ds1 m1)):PSs X [st] (tFS K J ds ds1 m1):=C1 h1
def DW(he:PE X e (tF K false ds ds1 d f))(hs:swapsWith e none pos.line X.env=pure false):PS X (.Expr e pos) (tFS K J ds ds1 (b4 f)):=(pW he hs).imp fun _ _ _=>Ii
def DT(he:PE X e (tF K false ds ds1 J.dr f))(hd:leD J.dsr ds1=true):PS X (.Return (some e) pos) (tFS K J ds ds' (aS f)):=(G4 he).imp fun _ _ _=>Ie hd
def zC(hd:leD J.dsl ds=true):PS X (.Continue pos) (tFS K J ds ds' oF):=ps_continue.imp fun _ _ _=>DQ hd
def Ik(hc:PT X c (tFT K false ds ds1 c1))(ha:PSs X body (tFS K J ds1 ds2 m1))(hb:PSs X qO (tFS K J ds1 ds2 m2)):PS X (.If c body qO pos) (tFS K J ds ds2 (sIf c1 m1 m2)):=(JJ hc ha hb).imp fun _ _ _=>J4
def DS(hN:X.N.Nodup)(hi:X.N[i]?=some x)(hx:Loc X.env.scope x)(he:PE X e (tF K false ds ds1 d f))(hds:ds1.set i d=ds')(hl:i<ds1.length)(hk:i∉J.lk)
  (hs:swapsWith e (some (.Name x pos')) pos.line X.env=pure false) (hf:X.fn x=true\/X.env.scope.names.lookup x=some .local):
  PS X (.Assign [.Name x pos'] e pos) (tFS K J ds ds' (aw i f)):=by
 subst hds;exact(G3 hN hi hx he hs hf).imp fun _ _ _=>sY hl hk
def xL(hN:X.N.Nodup)(hi':X.N[i]?=some x)(hx:X.env.scope.names.lookup x=some .local)(B:BlkOkC X scope ns js)(hc:X.calm=true)(hi:PI X tg iter (tFI K false ds ds1 fi))
  (hg:∀C cl s₀ H₀ fp,PG (aX X scope ns C cl s₀ H₀ fp) tg (tFG K lk dsi dsi g)) (ht:∀C cl s₀ H₀ fp,PTs (aX X scope ns C cl s₀ H₀ fp) ifs (tFT K q dsi dsi c1)) (he:∀C cl s₀ H₀ fp,PE (aX X scope ns C cl s₀ H₀ fp) elt (tF K q dsi dsi cd f))
  (hds:ds1.set i d=ds') (xX:gH ds1 js dsi=true) (hd:dn d=cd) (hz:d≠0) (hlk:lk=gE js 0) (hl:i<ds1.length) (hk:i∉J.lk)
  (hsw:swapsWith (.ListComp elt [⟨tg,iter,ifs,0⟩] scope pos) (some (.Name x pos')) ζ.line X.env=pure true)
  (hs:∀x,foldedSetIterable iter X.env x=pure x):PS X (.Assign [.Name x pos'] (.ListComp elt [⟨tg,iter,ifs,0⟩] scope pos) ζ) (tFS K J ds ds' (aw i (eLC q fi g c1 f js))):=by
 subst hds;exact(qC hN hi' hx B hc hi hg ht he hsw hs).imp fun D σ H h=>IU (p:=false) xX hd hz hlk (sY (p:=false&&q) hl hk h)
def DX(hc:X.calm=true)(he:PE X e (tF K false ds ds1 0 f))(hg:PG X tg (tFG K J.lk ds1 ds2 g))(hs:swapsWithSole [tg] e pos.line X.env=pure false)(hw:swappedStores [tg] e X.env=pure none)
  (h1:(assignEach [tg] X.env).map (·.2)=[assign tg X.env]):PS X (.Assign [tg] e pos) (tFS K J ds ds2 (nL f g)):=(w4 he hg hs hw h1).imp fun _ _ _=>Ij
def zA{c:Nat}{k:Expr}(hN:X.N[i]?=some x)(hv:Vis X.env.scope x)(he:PE X e (tF K false ds ds1 c fe))(hk:PE X k (tF K false ds1 ds2 d2 fk))(h1:ds2[i]?=some d)(hz:d≠0)(hc:dn d=c)
  (hdb:(x==("__debug__":Str))=false) (hcd:(x==("__classdict__":Str))=false)
  (ha:∀v,assign (.Subscript (.Name x px) k ζ) X.env v=(do
   let ov <-holding [v] (eval (.Name x px) X.env);let iv <-holding [v,ov] (eval k X.env)
   standAt ζ
   holding [v,ov,iv] (setItem ov iv v)
   release [v,ov,iv] []))
  (hs:swapsWithSole [.Subscript (.Name x px) k ζ] e pos.line X.env=pure false) (hw:swappedStores [.Subscript (.Name x px) k ζ] e X.env=pure none)
  (h2:(assignEach [.Subscript (.Name x px) k ζ] X.env).map (·.2)=[assign (.Subscript (.Name x px) k ζ) X.env]):
  PS X (.Assign [.Subscript (.Name x px) k ζ] e pos) (tFS K J ds ds2 (gU i fk fe)):=
 (w4 he (G8 (cv hN hv hdb hcd) hk yF ha) hs hw h2).imp fun _ _ _=>DL h1 hz hc
def zO(hN:X.N.Nodup)(hi:X.N[i]?=some x)(hx:Loc X.env.scope x)(hds:ds.set i 0=ds')(hl:i<ds.length)(hk:i∉lk)(hf:X.fn x=true\/X.env.scope.names.lookup x=some .local):
  PG X (.Name x pos) (tFG K lk ds ds' (gN i)):=by
 subst hds;exact(C5 hN hi hx hf).imp fun _ _ _ _=>Ec hl hk
def zL:PGs X [] (iB K lk ds ds gs0):=pgs_nil.imp fun _ _ _ _=>Ea
def xT(h1:PG X e (tFG K lk ds ds1 g))(h2:PGs X es (iB K lk ds1 ds2 gs))(hs:(assignEach (e::es) X.env).map (·.2)=assign e X.env::(assignEach es X.env).map (·.2)):PGs X (e::es) (iB K lk ds ds2 (gsC g gs)):=(yP h1 h2 hs).imp fun _ _ _ _=>zM
def fI{g2:MG}:∀ts en,(∃en',gsC g1 (gsC g2 gs0) ts en=some en')->ts.length=2:=fun ts en ⟨en',h⟩=>by
 match ts,h with
 |[],h=>cases h
 |[_],h=>
  obtain⟨_,_,h⟩:=zaa.mp h;cases h
 |[_,_],_=>rfl
 |a::b::c::r,h=>
  obtain⟨_,_,h⟩:=zaa.mp h;obtain⟨_,_,h⟩:=zaa.mp h;cases h
def Eb(hK:X.K=K)(hc:X.calm=true)(h:PGs X es (iB K lk ds ds1 gs))(hl:∀ts en,(∃en',gs ts en=some en')->ts.length=n)(hn:(assignEach es X.env).length=n)(hst:(assignEach es X.env).findIdx? (·.1)=none):
  PG X (.Tuple es k pos) (tFG K lk ds ds1 (gT gs)):=by
 subst hK;exact(G7 hc h hn hst).imp fun _ _ _ _=>Ix hl
def DU(hc:X.calm=true)(hi:PI X tg iter (tFI K false ds ds1 fi))(hg:PG X tg (tFG K J.lk ds1 ds2 g))(hb:PSs X body (tFS K { J with dsl:=ds1 } ds2 ds1 m))(hp:PassesOwn (model X.prog X.w) X.A X.env X.xe)
  (hs:∀x,foldedSetIterable iter X.env x=pure x):PS X (.For tg iter body [] pos) (tFS K J ds ds1 (bq fi g m)):=(wZ hp hc hi hg hb hs).imp fun _ _ _=>Ih
def xK(hc:PT X c (tFT K false ds ds1 c1))(hb:PSs X body (tFS K { J with dsl:=ds } ds1 ds m))(hp:PassesOwn (model X.prog X.w) X.A X.env X.xe):PS X (.While c body [] pos) (tFS K J ds ds1 (b6 c1 m)):=(yN hp hc hb).imp fun _ _ _=>zx
end
def Ck:D->Option (List D)
 |.list ts=>some ts
 |.tuple ts=>some ts
 |.str z=>some ((li z).map fun c=>.str (mk1 c))
 |_=>none
def bh(f:ME):MI:=fun en=>(f en).bind fun r=>(Ck r.1).map fun ts=>(ts,r.2)
section
variable{F:AS}
def dZ(h1:∀a o,H0 a=some o->¬O a->H a=some o)(h2:∀a,O1 a->O a\/H0 a=none):Mv O O1 NoA H0 H:=⟨fun a o q z=>z.elim (h1 a o q) fun z=>z.elim,h2⟩
def wF(h:FzL K O H0 a vs)(ho:Ows K O H0 ts 0 vs NoA):jd K O H0 (Itl K a) ts:=fun i H O1 h1 h2 h3=>by
 have sq:=(h.mv (dZ h1 h2)).sq;refine⟨fun t ht=>?_,fun hl=>⟨vs,sq,by rw[ho.len];omega⟩⟩;obtain⟨v,hv,ov⟩:=ho.get ht;refine⟨⟨vs,v,sq,hv⟩,fun x H1 ⟨e,y⟩=>?_⟩;subst e;have e2:=y vs sq;rw[hv]at e2;cases e2;exact⟨fun _ _ q=>q,Ow.mv (dZ h1 h2) t (fun _ z=>z) ov⟩
def yx(h:FzT K O H0 a vs)(ho:Ows K O H0 ts 0 vs NoA):jd K O H0 (Itt K a) ts:=fun i H O1 h1 h2 h3=>by
 have sq:=(h.mv (dZ h1 h2)).sq;refine⟨fun t ht=>?_,fun hl=>⟨vs,sq,by rw[ho.len];omega⟩⟩;obtain⟨v,hv,ov⟩:=ho.get ht;refine⟨⟨vs,v,sq,hv⟩,fun x H1 ⟨e,y⟩=>?_⟩;subst e;have e2:=y vs sq;rw[hv]at e2;cases e2;exact⟨fun _ _ q=>q,Ow.mv (dZ h1 h2) t (fun _ z=>z) ov⟩
def yy:jd K O H0 (Its z) ((li z).map fun c=>.str (mk1 c)):=fun i H O1 h1 h2 h3=>by
 refine⟨fun t ht=>?_,fun hl=>?_⟩
 ·rw[zao]at ht;obtain⟨c,hc,e⟩:=zab.mp ht;have hi:i<z.cps.size:=by
   have:=(zah.mp hc).1;simpa[li]using this
  have hc':z.cps[i]?=some c:=by
   have:z.cps.toList[i]?=some c:=hc;simpa using this
  refine⟨hi,fun x H1 ⟨e1,c',e2,e3⟩=>?_⟩;subst e1 e e3;rw[hc']at e2;cases e2;exact⟨fun _ _ q=>q,rfl⟩
 ·have:z.cps.size=i:=by
   rw[zad]at hl;simpa[li]using hl
  show z.cps.size<=i;omega
def rN{lo:Int}:jd K O H0 (Itr lo n) ((List.range n).map fun k=>.int (lo+(k:Nat))):=fun i H O1 h1 h2 h3=>by
 refine⟨fun t ht=>?_,fun hl=>?_⟩
 ·rw[zao]at ht;obtain⟨c,hc,e⟩:=zab.mp ht;have hi:=(zah.mp hc).1;rw[zbc]at hi;rw[List.getElem?_range hi]at hc;cases hc;refine⟨hi,fun x H1 ⟨e1,e2⟩=>?_⟩;subst e1 e e2;exact⟨fun _ _ q=>q,rfl⟩
 ·rw[zad,zbc]at hl;show n<=i;omega
def uL{p:Addr}(hp:H p=none)(h3:∀a,O1 a->∃o,H a=some o)(ov:Ow K O1 H t 0 v NoA):(∀a o,H a=some o->upd H p (.tup [.int i,v]) a=some o)/\Ow K O1 (upd H p (.tup [.int (i:Nat),v])) (.tuple [.int i,t]) 0 (.ref p) NoA:=by
 have g:=(bX (o:=.tup [.int i,v]) hp).1;refine⟨g,p,[.int i,v],rfl,.inl ⟨rfl,⟨av,fun z=>?_⟩,.int i,[v],NoA,NoA,rfl,fun _ z=>z,fun _ z=>z,fun _ z=>z.elim,rfl,v,[],NoA,NoA,rfl,fun _ z=>z,fun _ z=>z,fun _ z=>z.elim,?_,rfl⟩⟩
 ·obtain⟨o,q⟩:=h3 p z;rw[hp]at q;cases q
 ·exact Ow.mv (G:=NoA) ⟨fun a o q _=>g a o q,fun a z=>.inl z⟩ t (fun _ z=>z) ov
def fh(ts:List D):List D:=ts.zipIdx.map fun p=>.tuple [.int (p.2:Nat),p.1]
def dI{u:D}(h:(fh ts)[i]?=some u):∃t,ts[i]?=some t/\u=.tuple [.int (i:Nat),t]:=by
 unfold fh at h;rw[zao]at h;obtain⟨⟨t,k⟩,h1,h2⟩:=zab.mp h;rw[List.getElem?_zipIdx]at h1;obtain⟨t',h3,h4⟩:=zab.mp h1;cases h4;refine⟨t,h3,?_⟩;rw[<-h2,za2]
def dH:(fh ts).length=ts.length:=by unfold fh;rw[zad,List.length_zipIdx]
def wG(h:FzL K O H0 a vs)(ho:Ows K O H0 ts 0 vs NoA):jd K O H0 (Ite K a) (fh ts):=fun i H O1 h1 h2 h3=>by
 have sq:=(h.mv (dZ h1 h2)).sq;refine⟨fun u hu=>?_,fun hl=>⟨vs,sq,by rw[dH]at hl;rw[ho.len];omega⟩⟩;obtain⟨t,ht,rfl⟩:=dI hu;obtain⟨v,hv,ov⟩:=ho.get ht;refine⟨⟨vs,v,sq,hv⟩,fun x H1 ⟨p,v',e1,hp,e2,y⟩=>?_⟩;have e3:=y vs sq;rw[hv]at e3;cases e3;subst e1 e2;exact uL hp h3 (Ow.mv (dZ h1 h2) t (fun _ z=>z) ov)
def vn(h:FzT K O H0 a vs)(ho:Ows K O H0 ts 0 vs NoA):jd K O H0 (ItT K a) (fh ts):=fun i H O1 h1 h2 h3=>by
 have sq:=(h.mv (dZ h1 h2)).sq;refine⟨fun u hu=>?_,fun hl=>⟨vs,sq,by rw[dH]at hl;rw[ho.len];omega⟩⟩;obtain⟨t,ht,rfl⟩:=dI hu;obtain⟨v,hv,ov⟩:=ho.get ht;refine⟨⟨vs,v,sq,hv⟩,fun x H1 ⟨p,v',e1,hp,e2,y⟩=>?_⟩;have e3:=y vs sq;rw[hv]at e3;cases e3;subst e1 e2;exact uL hp h3 (Ow.mv (dZ h1 h2) t (fun _ z=>z) ov)
end
def da(fa:MA):MI:=fun en=>(fa en).bind fun r=>match r.1 with
 |[.inl (.int j)]=>if -(2 ^ 62)<=j/\j<2 ^ 62 then some ((List.range j.toNat).map fun k=>.int (0+(k:Nat)),r.2)else none
 |_=>none
def lX(fa:MA):MI:=fun en=>(fa en).bind fun r=>match r.1 with
 |[.inl (.int i),.inl (.int j)]=>if -(2 ^ 62)<=i/\i<2 ^ 62/\-(2 ^ 62)<=j/\j<2 ^ 62 then some ((List.range (j-i).toNat).map fun k=>.int (i+(k:Nat)),r.2)else none
 |_=>none
def fQ(fa:MA):MI:=fun en=>(fa en).bind fun r=>match r.1 with
 |[.inl (.list ts)]=>some (fh ts,r.2)
 |[.inl (.tuple ts)]=>some (fh ts,r.2)
 |_=>none
section
variable{l:Expr}  
def Iw(hK:X.K=K)(hl:PE X l (tF K p ds ds1 d f)):PI X tg l (tFI K p ds ds1 (bh f)):=by
 subst hK;intro ρ s σ H R I h;obtain⟨Ox,en,Rg,ts,en',e,hf,k⟩:=h;unfold bh at hf;obtain⟨⟨t,en1⟩,h1,hf⟩:=zaa.mp hf;obtain⟨ts',h2,hf⟩:=zab.mp hf;cases hf;refine thn (hl ρ s σ H (fun v H1=>∃R1,Post X.K p ds1 Ox σ H en Rg en1 H1 R1 NoA/\Ow X.K (Own R1 Ox) H1 t 0 v NoA) I ⟨Ox,en,Rg,t,en1,e,h1,fun v H1 R1 F P o=>⟨R1,P.less fun _ z=>z.elim,Ow.letgo P (fun _ z=>z) o⟩⟩) fun v s1 ⟨x,H1,I1,r1,R1,P,o⟩=>?_;cases t with
 |list ts0=>
  cases h2;obtain⟨a,vs,e1,⟨_,fz,ow⟩|⟨z,_⟩⟩:=o
  ·subst e1;cases r1;obtain⟨its,rv,pl,hz⟩:=I1.list fz.sq;refine wpAny_pyIter_list pl.isList ?_;refine⟨s1.heap.objs.size,[s1.heap.objs.size],_,_,H1,rfl,I1.kept (t':=s1.toks) fun b o e=>zaf _ e,wJ a _,⟨_,zan _ rfl,rfl,rfl⟩,fun b hb=>?_,k _ H1 R1 P (wF fz ow)⟩;have e:b=s1.heap.objs.size:=by simpa using hb
   subst e;exact I1.fpOk (zav _) (I1.hok.fresh (zav _))
  ·exact absurd rfl z
 |tuple ts0=>
  cases h2;obtain⟨a,vs,e1,⟨_,fz,ow⟩|⟨z,_⟩⟩:=o
  ·subst e1;cases r1;obtain⟨its,rv,pl,hz⟩:=I1.tuple fz.sq;refine wpAny_pyIter_tuple (show s1.heap.IsTuple a its.toArray from pl) ?_;refine⟨s1.heap.objs.size,[s1.heap.objs.size],_,_,H1,rfl,I1.kept (t':=s1.toks) fun b o e=>zaf _ e,vp a _,⟨_,zan _ rfl,rfl,rfl⟩,fun b hb=>?_,k _ H1 R1 P (yx fz ow)⟩;have e:b=s1.heap.objs.size:=by simpa using hb
   subst e;exact I1.fpOk (zav _) (I1.hok.fresh (zav _))
  ·exact absurd rfl z
 |str z=>
  cases h2;have e1:x=.str z:=o;subst e1;obtain⟨t,rfl⟩:=r1;have fin:∀(ty:String) (o:Obj),(ty="str_ascii_iterator"\/ty="str_iterator")->(s1.heap.push o).IsStrIter s1.heap.objs.size ty z t 0->PIE X ρ σ tg R (.ref s1.heap.objs.size) { s1 with heap:=s1.heap.push o }:=fun ty o hty st=>by
   refine⟨s1.heap.objs.size,[s1.heap.objs.size],_,_,H1,rfl,I1.kept (t':=s1.toks) fun b o e=>zaf _ e,yz _ z t ty hty,st,fun b hb=>?_,k _ H1 R1 P yy⟩;have e:b=s1.heap.objs.size:=by simpa using hb
   subst e;exact I1.fpOk (zav _) (I1.hok.fresh (zav _))
  cases ha:z.cps.all (·<128)
  ·exact wpAny_pyIter_wide ha (fin _ _ (.inr rfl) ⟨_,zan _ rfl,rfl,rfl⟩)
  ·exact wpAny_pyIter_ascii ha (fin _ _ (.inl rfl) ⟨_,zan _ rfl,rfl,rfl⟩)
 |_=>cases h2
def D7{a:Expr}(hg:Gl X "range")(hm:X.mg "range"=none)(ha:PA X [a] (tFA K p ds ds1 sh fa))(hs:aQ a=true):PI X tg (.Call (.Name "range" px) [a] [] pos) (tFI K p ds ds1 (da fa)):=
 (xa hg hm ha (bj hs)).imp fun σ H R ⟨Ox,en,Rg,ts,en',e,hf,k⟩=>by
  unfold da at hf;obtain⟨⟨as,en1⟩,h1,hf⟩:=zaa.mp hf;refine⟨Ox,en,Rg,as,en1,e,h1,fun vs H1 R1 F P o=>?_⟩
  dsimp only at hf
  split at hf
  case h_2=>cases hf
  next j=>
  by_cases hj:-(2 ^ 62)<=j/\j<2 ^ 62
  case neg=>rw[if_neg hj]at hf;cases hf
  rw[if_pos hj]at hf;cases hf;obtain⟨v,r,d,dr,F1,F2,e1,e2,_,_,_,o1,o2⟩:=o;obtain⟨_,o2⟩:=o2;subst e1 o2;have ev:v=.int j:=o1;subst ev;exact⟨j,rfl,hj.1,hj.2,k _ H1 R1 (P.less fun _ z=>z.elim) rN⟩
def D6{a:Expr}(hg:Gl X "range")(hm:X.mg "range"=none)(ha:PA X [a,b] (tFA K p ds ds1 sh fa))(hs:aQ a=true)(hs2:aQ b=true):PI X tg (.Call (.Name "range" px) [a,b] [] pos) (tFI K p ds ds1 (lX fa)):=
 (w8 hg hm ha (by rw[bj hs,bj hs2];rfl) (bj hs2)).imp fun σ H R ⟨Ox,en,Rg,ts,en',e,hf,k⟩=>by
  unfold lX at hf;obtain⟨⟨as,en1⟩,h1,hf⟩:=zaa.mp hf;refine⟨Ox,en,Rg,as,en1,e,h1,fun vs H1 R1 F P o=>?_⟩
  dsimp only at hf
  split at hf
  case h_2=>cases hf
  next i j=>
  by_cases hj:-(2 ^ 62)<=i/\i<2 ^ 62/\-(2 ^ 62)<=j/\j<2 ^ 62
  case neg=>rw[if_neg hj]at hf;cases hf
  rw[if_pos hj]at hf;cases hf;obtain⟨v,r,d,dr,F1,F2,e1,e2,_,_,_,o1,v2,r2,d2,dr2,G1,G2,e3,e4,_,_,_,o2,o3⟩:=o;obtain⟨_,o3⟩:=o3;subst e1 e3 o3;have ev:v=.int i:=o1;have ev2:v2=.int j:=o2;subst ev ev2;exact⟨i,j,rfl,hj,k _ H1 R1 (P.less fun _ z=>z.elim) rN⟩
def D8(hK:X.K=K)(hg:Gl X "enumerate")(hm:X.mg "enumerate"=none)(ha:PA X [l] (tFA K p ds ds1 sh fa))(hs:starEach [l] X.env=[(false,eval l X.env)]):
  PI X (.Tuple elts k tp) (.Call (.Name "enumerate" px) [l] [] pos) (tFI K p ds ds1 (fQ fa)):=by
 subst hK;intro ρ s σ H R I h;obtain⟨Ox,en,Rg,ts,en',e,hf,k⟩:=h;unfold fQ at hf;obtain⟨⟨as,en1⟩,h1,hf⟩:=zaa.mp hf;refine Call_ (ie I hg hm boot_enumerate (PyProof.Rows.callWith_type1 (thn (ha pos ρ s σ H (fun vs H1=>∃R1 t v,as=[.inl t]/\vs=[v]/\Post X.K p ds1 Ox σ H en Rg en1 H1 R1 NoA/\Ow X.K (Own R1 Ox) H1 t 0 v NoA) I ⟨Ox,en,Rg,as,en1,e,h1,fun vs H1 R1 F P o=>?_⟩) fun us s1 ⟨vs,H1,I1,r1,R1,t,v,ea,ev,P,o⟩=>?_) hs rfl))
 ·have one:∃t,as=[.inl t]:=by
   dsimp only at hf
   split at hf
   ·exact⟨_,rfl⟩
   ·exact⟨_,rfl⟩
   ·cases hf
  obtain⟨t,rfl⟩:=one;obtain⟨v,r,d,dr,F1,F2,e1,e2,s1,_,_,o1,o2⟩:=o;obtain⟨_,o2⟩:=o2;subst o2;exact⟨R1,t,v,rfl,e1,P.less fun _ z=>z.elim,Ow.letgo P s1 o1⟩
 subst ea ev;obtain⟨u,rfl,ru⟩:=eg r1;cases t with
 |list ts0=>
  cases hf;obtain⟨a,vs,e1,⟨_,fz,ow⟩|⟨z,_⟩⟩:=o
  ·subst e1;cases ru;obtain⟨its,rv,pl,hz⟩:=I1.list fz.sq;refine call_enumerate_list pl.isList fun h' hE hI hsz hk=>?_;refine wpAny_pyIter_enum hE ?_;have I2:Inv X ρ σ H1 { s1 with heap:=h' }:=I1.kept (t':=s1.toks) hk;refine⟨s1.heap.objs.size+1,[s1.heap.objs.size+1,s1.heap.objs.size],_,_,H1,rfl,I2,wK a _ _ (Nat.succ_ne_self _),⟨⟨_,hE⟩,hI⟩,fun b hb=>?_,k _ H1 R1 P (wG fz ow)⟩;have hb':b=s1.heap.objs.size+1\/b=s1.heap.objs.size:=by simpa using hb
   rcases hb' with rfl|rfl
   ·exact I1.fpOk (Nat.le_succ _) (I1.hok.fresh (Nat.le_succ _))
   ·exact I1.fpOk (zav _) (I1.hok.fresh (zav _))
  ·exact absurd rfl z
 |tuple ts0=>
  cases hf;obtain⟨a,vs,e1,⟨_,fz,ow⟩|⟨z,_⟩⟩:=o
  ·subst e1;cases ru;obtain⟨its,rv,pt,hz⟩:=I1.tuple fz.sq;have hT:s1.heap.IsTuple a its.toArray:=pt;have hlt:a<s1.heap.objs.size:=by
    obtain⟨o,e1,_⟩:=id hT;exact zal e1
   refine rp hT fun h' hE hI hsz hk=>?_;refine wpAny_pyIter_enum hE ?_;have I2:Inv X ρ σ H1 { s1 with heap:=h' }:=I1.kept (t':=s1.toks) hk;refine⟨s1.heap.objs.size+1,[s1.heap.objs.size+1,s1.heap.objs.size],_,_,H1,rfl,I2,vv a _ _ (Nat.succ_ne_self _) (zaw hlt),⟨⟨_,hE⟩,hI⟩,fun b hb=>?_,k _ H1 R1 P (vn fz ow)⟩;have hb':b=s1.heap.objs.size+1\/b=s1.heap.objs.size:=by simpa using hb
   rcases hb' with rfl|rfl
   ·exact I1.fpOk (Nat.le_succ _) (I1.hok.fresh (Nat.le_succ _))
   ·exact I1.fpOk (zav _) (I1.hok.fresh (zav _))
  ·exact absurd rfl z
 |_=>cases hf
end
def NewTo.refl:NewTo H H NoA:=⟨fun _ _ q=>q,fun _ z=>z.elim⟩
def OpR.imp{fn:Value->Value->Sem Value}{r r':R2}(h:OpR X fn r)(hi:∀x y H Q,r' x y H Q->r x y H Q):OpR X fn r':=fun ρ s σ H x y v u Q I rx ry q=>h ρ s σ H x y v u Q I rx ry (hi _ _ _ _ q)
def OpR.or'{fn:Value->Value->Sem Value}{r r':R2}(h:OpR X fn r)(h':OpR X fn r'):OpR X fn (fun x y H Q=>r x y H Q\/r' x y H Q):=fun ρ s σ H x y v u Q I rx ry q=>q.elim (h ρ s σ H x y v u Q I rx ry) (h' ρ s σ H x y v u Q I rx ry)
def UnR.imp{fn:Value->Sem Value}{r r':V->Hp->VK->Prop}(h:UnR X fn r)(hi:∀x H Q,r' x H Q->r x H Q):UnR X fn r':=fun ρ s σ H x v Q I rx q=>h ρ s σ H x v Q I rx (hi _ _ _ q)
def CallR.imp{fn:Value}(h:CallR X fn r)(hi:∀x H Q,r' x H Q->r x H Q):CallR X fn r':=fun ρ s σ H x v Q I rx q=>h ρ s σ H x v Q I rx (hi _ _ _ q)
def CallR.or'{fn:Value}(h:CallR X fn r)(h':CallR X fn r'):CallR X fn (fun x H Q=>r x H Q\/r' x H Q):=fun ρ s σ H x v Q I rx q=>q.elim (h ρ s σ H x v Q I rx) (h' ρ s σ H x v Q I rx)
def IxR.imp{r r':R2}(h:IxR X r)(hi:∀x y H Q,r' x y H Q->r x y H Q):IxR X r':=fun value slice ρ s σ H x y v u Q I rx ry q=>h value slice ρ s σ H x y v u Q I rx ry (hi _ _ _ _ q)
section
variable{ws:List V}{x:V} 
def bW(hl:H l=none)(hd:∀a,O a->∃o,H a=some o)(h:Ows K O H ts 0 vs NoA):NewTo H (upd H l (.lst vs)) (fun b=>b=l)/\Ow K (U (fun b=>b=l) O) (upd H l (.lst vs)) (.list ts) 1 (.ref l) (fun b=>b=l):=by
 refine⟨bX hl,l,vs,rfl,.inr ⟨by decide,av,rfl,NoA,fun _ z=>z.elim,?_⟩⟩;refine Ows.mv (G:=NoA) ⟨fun a o q _=>(bX (o:=.lst vs) hl).1 a o q,fun a z=>?_⟩ ts (fun _ z=>z) h;rcases z with z|z
 ·exact .inr (by rw[show a=l from z];exact hl)
 ·exact .inl z
theorem Ows.app:∀{ts:List D} {vs:List V},Ows K O H ts 0 vs NoA->Ows K O H us 0 ws NoA->Ows K O H (ts++us) 0 (vs++ws) NoA
 |[],_,h,h2=>by rw[show _=[]from h];exact h2
 |t::ts,_,h,h2=>by
  obtain⟨v,r,F1,F2,e,_,_,_,h4,h5⟩:=h;subst e;exact⟨v,r++ws,NoA,NoA,rfl,fun _ z=>z,fun _ z=>z,fun _ z=>z.elim,Ow.any0 t h4,Ows.app (Ows.any0 ts h5) h2⟩
theorem Ows.drop:∀{ts:List D} {vs:List V} (n:Nat),Ows K O H ts 0 vs NoA->Ows K O H (ts.drop n) 0 (vs.drop n) NoA
 |ts,vs,0,h=>h
 |[],_,n+1,h=>by rw[show _=[]from h];rfl
 |t::ts,_,n+1,h=>by
  obtain⟨v,r,F1,F2,e,_,_,_,h4,h5⟩:=h;subst e;exact Ows.drop n (Ows.any0 ts h5)
theorem Ows.take:∀{ts:List D} {vs:List V} (n:Nat),Ows K O H ts 0 vs NoA->Ows K O H (ts.take n) 0 (vs.take n) NoA
 |ts,vs,0,h=>rfl
 |[],_,n+1,h=>by rw[show _=[]from h];rfl
 |t::ts,_,n+1,h=>by
  obtain⟨v,r,F1,F2,e,_,_,_,h4,h5⟩:=h;subst e;exact⟨v,r.take n,NoA,NoA,rfl,fun _ z=>z,fun _ z=>z,fun _ z=>z.elim,Ow.any0 t h4,Ows.take n (Ows.any0 ts h5)⟩
def Ow.lst0(h:Ow K O H (.list ts) 0 v NoA):∃a vs,v=.ref a/\FzL K O H a vs/\Ows K O H ts 0 vs NoA:=by
 obtain⟨a,vs,e,⟨_,h1,h2⟩|⟨z,_⟩⟩:=h
 ·exact⟨a,vs,e,h1,h2⟩
 ·exact absurd rfl z
def Ow.tup0(h:Ow K O H (.tuple ts) 0 v NoA):∃a vs,v=.ref a/\FzT K O H a vs/\Ows K O H ts 0 vs NoA:=by
 obtain⟨a,vs,e,⟨_,h1,h2⟩|⟨z,_⟩⟩:=h
 ·exact⟨a,vs,e,h1,h2⟩
 ·exact absurd rfl z
def Ows.one(h:Ows K O H [t] 0 vs NoA):∃v,vs=[v]/\Ow K O H t 0 v NoA:=by
 obtain⟨v,r,F1,F2,e,_,_,_,h4,h5⟩:=h;rw[show r=[]from h5]at e;exact⟨v,e,Ow.any0 t h4⟩
def Ows.two(h:Ows K O H [t,t2] 0 vs NoA):∃v w,vs=[v,w]/\Ow K O H t 0 v NoA/\Ow K O H t2 0 w NoA:=by
 obtain⟨v,r,F1,F2,e,_,_,_,h4,h5⟩:=h;obtain⟨w,e2,h6⟩:=Ows.one (Ows.any0 [t2] h5);subst e2;exact⟨v,w,e,Ow.any0 t h4,h6⟩
def bH:D->D->Option D
 |.int a,.int b=>some (.int (a+b))
 |.str a,.str b=>if a.length+b.length<=sizeLine then some (.str (a++b))else none
 |_,_=>none
def cJ:OpR X (binaryOp .Add) (rF2 K bH 3):=(op_add.or' vH).imp fun x y H Q ⟨O,a,b,t,oa,ob,hd,hg,k⟩=>by
 cases a with
 |int i=>cases b with
  |int j=>cases hg;exact .inl ⟨i,j,oa,ob,k _ H NoA .refl rfl⟩
  |_=>cases hg
 |str i=>cases b with
  |str j=>
   dsimp only[bH]at hg
   by_cases hl:i.length+j.length<=sizeLine
   ·rw[if_pos hl]at hg;cases hg;exact .inr ⟨i,j,oa,ob,hl,k _ H NoA .refl rfl⟩
   ·rw[if_neg hl]at hg;cases hg
  |_=>cases hg
 |_=>cases hg
def jF(g:Int->Int->Option D):D->D->Option D
 |.int a,.int b=>g a b
 |_,_=>none
def cU{g:Int->Int->Option D}{a b:D}(h:jF g a b=some t):∃i j,a=.int i/\b=.int j/\g i j=some t:=by
 cases a with
 |int i=>cases b with
  |int j=>exact⟨i,j,rfl,rfl,h⟩
  |_=>cases h
 |_=>cases h
def pS:D->D->Option D:=jF fun a b=>some (.int (a-b))
def Io:OpR X (binaryOp .Sub) (rF2 K pS 3):=op_sub.imp fun x y H Q ⟨O,a,b,t,oa,ob,hd,hg,k⟩=>by
 obtain⟨i,j,rfl,rfl,h⟩:=cU hg;cases h;exact⟨i,j,oa,ob,k _ H NoA .refl rfl⟩
instance (i j:Int):Decidable (CMul i j):=by unfold CMul;exact inferInstance
instance (i j:Int):Decidable (oB i j):=by unfold oB;exact inferInstance
instance (i j:Int):Decidable (jK i j):=by unfold jK;exact inferInstance
def cg:D->D->Option D:=jF fun a b=>if CMul a b then some (.int (a*b))else none
def eX:OpR X (binaryOp .Mult) (rF2 K cg 3):=op_mul.imp fun x y H Q ⟨O,a,b,t,oa,ob,hd,hg,k⟩=>by
 obtain⟨i,j,rfl,rfl,h⟩:=cU hg;by_cases hc:CMul i j
 ·rw[if_pos hc]at h;cases h;exact⟨i,j,oa,ob,hc,k _ H NoA .refl rfl⟩
 ·rw[if_neg hc]at h;cases h
def jv:D->D->Option D:=jF fun a b=>if oB a b then some (.int (a / b))else none
def mU:OpR X (binaryOp .FloorDiv) (rF2 K jv 3):=op_fdiv.imp fun x y H Q ⟨O,a,b,t,oa,ob,hd,hg,k⟩=>by
 obtain⟨i,j,rfl,rfl,h⟩:=cU hg;by_cases hc:oB i j
 ·rw[if_pos hc]at h;cases h;exact⟨i,j,oa,ob,hc,k _ H NoA .refl rfl⟩
 ·rw[if_neg hc]at h;cases h
def bR:D->D->Option D:=jF fun a b=>if 0<b then some (.int (a % b))else none
def db:OpR X (binaryOp .Mod) (rF2 K bR 3):=op_mod.imp fun x y H Q ⟨O,a,b,t,oa,ob,hd,hg,k⟩=>by
 obtain⟨i,j,rfl,rfl,h⟩:=cU hg;by_cases hc:0<j
 ·rw[if_pos hc]at h;cases h;exact⟨i,j,oa,ob,hc,k _ H NoA .refl rfl⟩
 ·rw[if_neg hc]at h;cases h
def pX:D->D->Option D:=jF fun a b=>if jK a b then some (.int (a ^ b.toNat))else none
def Ip:OpR X (binaryOp .Pow) (rF2 K pX 3):=op_pow.imp fun x y H Q ⟨O,a,b,t,oa,ob,hd,hg,k⟩=>by
 obtain⟨i,j,rfl,rfl,h⟩:=cU hg;by_cases hc:jK i j
 ·rw[if_pos hc]at h;cases h;exact⟨i,j,oa,ob,hc,k _ H NoA .refl rfl⟩
 ·rw[if_neg hc]at h;cases h
def ltI:D->D->Option D:=jF fun a b=>some (.bool (decide (a<b)))
def leI:D->D->Option D:=jF fun a b=>some (.bool (decide (a<=b)))
def gtI:D->D->Option D:=jF fun a b=>some (.bool (decide (b<a)))
def geI:D->D->Option D:=jF fun a b=>some (.bool (decide (b<=a)))
def oY:OpR X (compareOp .Lt) (rF2 K ltI 3):=op_lt.imp fun x y H Q ⟨O,a,b,t,oa,ob,hd,hg,k⟩=>by
 obtain⟨i,j,rfl,rfl,h⟩:=cU hg;cases h;exact⟨i,j,oa,ob,k _ H NoA .refl rfl⟩
def J5:OpR X (compareOp .LtE) (rF2 K leI 3):=op_le.imp fun x y H Q ⟨O,a,b,t,oa,ob,hd,hg,k⟩=>by
 obtain⟨i,j,rfl,rfl,h⟩:=cU hg;cases h;exact⟨i,j,oa,ob,k _ H NoA .refl rfl⟩
def kM:OpR X (compareOp .Gt) (rF2 K gtI 3):=op_gt.imp fun x y H Q ⟨O,a,b,t,oa,ob,hd,hg,k⟩=>by
 obtain⟨i,j,rfl,rfl,h⟩:=cU hg;cases h;exact⟨i,j,oa,ob,k _ H NoA .refl rfl⟩
def J7:OpR X (compareOp .GtE) (rF2 K geI 3):=op_ge.imp fun x y H Q ⟨O,a,b,t,oa,ob,hd,hg,k⟩=>by
 obtain⟨i,j,rfl,rfl,h⟩:=cU hg;cases h;exact⟨i,j,oa,ob,k _ H NoA .refl rfl⟩
def qc:D->Bool
 |.none=>true
 |_=>false
def zo{a:D}{F:AS}(h:Ow K O H a d x F):decide (x=.non)=qc a:=by
 cases a with
 |none=>rw[show x=.non from h];rfl
 |bool b=>rw[show x=.bl b from h];rfl
 |int b=>rw[show x=.int b from h];rfl
 |str b=>rw[show x=.str b from h];rfl
 |list ts=>obtain⟨a,vs,e,_⟩:=h;rw[e];rfl
 |tuple ts=>obtain⟨a,vs,e,_⟩:=h;rw[e];rfl
 |dict ts=>obtain⟨a,vs,e,_⟩:=h;rw[e];rfl
def isN:D->D->Option D
 |a,.none=>some (.bool (qc a))
 |_,_=>none
def iC:D->D->Option D
 |a,.none=>some (.bool (!qc a))
 |_,_=>none
def eD:OpR X (compareOp .IsNot) (rF2 K iC 3):=op_notN.imp fun x y H Q ⟨O,a,b,t,oa,ob,hd,hg,k⟩=>by
 cases b with
 |none=>cases hg;exact⟨ob,by rw[zo oa];exact k _ H NoA .refl rfl⟩
 |_=>cases hg
def L3:D->D->Option D
 |.str a,.str b=>some (.bool (xF b a))
 |_,_=>none
def Lq:D->D->Option D
 |.str a,.str b=>some (.bool (!xF b a))
 |_,_=>none
def ixA:D->D->Option D
 |.list ts,.int n=>atI ts n
 |.tuple ts,.int n=>atI ts n
 |.str z,.int n=>if z.length<=sizeLine then(atI z.cps.toList n).map fun c=>.str (mk1 c)else none
 |_,_=>none
def bF(hK:X.K=K):IxR X (rF2 K ixA 0):=by
 subst hK;refine ix_seq.imp ?_;rintro x y H Q ⟨O,a,b,t,oa,ob,hd,hg,k⟩;cases b with
 |int n=>
  cases a with
  |list ts=>
   obtain⟨a,vs,e,fz,ow⟩:=oa.lst0;obtain⟨v,h1,h2⟩:=ow.atI hg;exact .inl ⟨a,vs,n,v,e,ob,fz.sq,h1,k v H NoA .refl (by rw[fW];exact h2)⟩
  |tuple ts=>
   obtain⟨a,vs,e,fz,ow⟩:=oa.tup0;obtain⟨v,h1,h2⟩:=ow.atI hg;exact .inr (.inl ⟨a,vs,n,v,e,ob,fz.sq,h1,k v H NoA .refl (by rw[fW];exact h2)⟩)
  |str z=>
   dsimp only[ixA]at hg
   by_cases hl:z.length<=sizeLine
   ·rw[if_pos hl]at hg;obtain⟨c,h1,h2⟩:=zab.mp hg;cases h2;exact .inr (.inr ⟨z,n,c,oa,ob,hl,h1,k _ H NoA .refl rfl⟩)
   ·rw[if_neg hl]at hg;cases hg
  |_=>cases hg
 |_=>cases a<;>cases hg
def ixT:D->D->Option D
 |.str z,.int n=>if z.length<=sizeLine then(atI z.cps.toList n).map fun c=>.str (mk1 c)else none
 |_,_=>none
def wu:D->D->Option D
 |.list a,.list b=>if a.length+b.length<=sizeLine then some (.list (a++b))else none
 |_,_=>none
def L8:D->D->Option D
 |.tuple a,.tuple b=>if a.length+b.length<=sizeLine then some (.tuple (a++b))else none
 |_,_=>none
end
def grd{α:Type}(c:Prop)[Decidable c](t:α):Option α:=if c then some t else none
def bA{α:Type}{c:Prop}[Decidable c]{t u:α}(h:grd c t=some u):c/\t=u:=by
 unfold grd at h;by_cases hc:c
 ·rw[if_pos hc]at h;exact⟨hc,zat h⟩
 ·rw[if_neg hc]at h;cases h
section
variable{ws:List V}{x:V} 
def JG(K:zbY):R2:=fun x y H Q=>∃l b xs zs,x=.ref l/\y=.ref b/\SqL K H l xs/\SqL K H b zs/\xs.length+zs.length<=sizeLine/\∀p,H p=none->Q (.ref p) (upd H p (.lst (xs++zs)))
def op_catL:OpR X (binaryOp .Add) (JG X.K):=by
 intro ρ s σ H x y v u Q I rx ry h;obtain⟨l,b,xs,zs,rfl,rfl,hH,hB,hz,q⟩:=h;cases rx;cases ry;obtain⟨its,r,⟨⟨c1,dd,da1,sl⟩,n,ho,hc,hdd,hda⟩,_⟩:=I.list hH;obtain⟨ν,r2,⟨⟨c2,dd2,da2,sl2⟩,n2,ho2,hc2,hdd2,hda2⟩,_⟩:=I.list hB;have hl:=r.length;have hl2:=r2.length;simp only at hc hda hc2 hda2;subst hc hda hc2 hda2;refine concat_meets ⟨_,ho,rfl⟩ ⟨_,ho2,rfl⟩ noFill_list_add seq_list_add PySem.F.slot_list_add PySem.F.entry_list_add (PySem.F.args_list_add_2 _ _) (list_addW l b its.toArray ν.toArray n n2 dd dd2 sl sl2 (by simp only[zai];omega)) ⟨ho,ho2,?_⟩;have ea:its.toArray++ν.toArray=(its++ν).toArray:=by simp
 rw[ea];exact⟨.ref _,_,I.lnew (t':=s.toks) (r.append r2) (by rw[zae];omega),rfl,q _ I.fresh⟩
def D3(hK:X.K=K):OpR X (binaryOp .Add) (rF2 K wu 1):=by
 subst hK;refine op_catL.imp ?_;rintro x y H Q ⟨O,a,b,t,oa,ob,hd,hg,k⟩;cases a with
 |list ts=>cases b with
  |list us=>
   dsimp only[wu]at hg
   by_cases hl:ts.length+us.length<=sizeLine
   case neg=>rw[if_neg hl]at hg;cases hg
   rw[if_pos hl]at hg;cases hg;obtain⟨a,vs,e1,f1,w1⟩:=oa.lst0;obtain⟨b,ws,e2,f2,w2⟩:=ob.lst0;refine⟨a,b,vs,ws,e1,e2,f1.sq,f2.sq,by rw[w1.len,w2.len];exact hl,fun p hp=>?_⟩;obtain⟨n1,n2⟩:=bW hp hd (w1.app w2);exact k _ _ _ n1 n2
  |_=>cases hg
 |_=>cases hg
def JD(K:zbY):R2:=fun x y H Q=>∃l k xs,x=.ref l/\y=.int k/\SqL K H l xs/\-(2 ^ 63)<=k/\k<2 ^ 63/\xs.length*k.toNat<=sizeLine/\∀p,H p=none->Q (.ref p) (upd H p (.lst (List.replicate k.toNat xs).flatten))
def op_repL:OpR X (binaryOp .Mult) (JD X.K):=by
 intro ρ s σ H x y v u Q I rx ry h;obtain⟨l,k,xs,rfl,rfl,hH,h1,h2,hz,q⟩:=h;cases rx;obtain⟨t,rfl⟩:=ry;obtain⟨its,r,⟨⟨c1,dd,da1,sl⟩,n,ho,hc,hdd,hda⟩,_⟩:=I.list hH;have hl:=r.length;simp only at hc hda;subst hc hda;have ξ:its.toArray.size*k.toNat<=sizeLine:=by rw[zai,<-hl];exact hz
 have xX:¬its.toArray.size*k.toNat>(2 ^ 63-1) / 8:=by
  have:(sizeLine:Nat)<=(2 ^ 63-1) / 8:=by decide
  omega
 have hfit:¬(!Builtin.List.listFitsIndex k)=true:=by
  rw[fitsIndex_both h1 h2];exact zbl
 have hlong:¬Builtin.List.listTooLong (its.toArray.size*k.toNat)=true:=by
  rw[yW ξ];exact zbl
 refine wpAny_binaryOp_repeat_ref (T:="list") (U:="int") (by decide) ⟨_,ho,rfl⟩ (fun s'=>typeIs_int s' k t) noFill_list_mul F.fills_int_mul F.slot_int_rmul repeat_list F.slot_int_index.lookup
  (call_meets F.slot_int_rmul (typeIs_int s k t) F.entry_int_rmul (F.args_int_rmul_2 _ _) (lm_int_rmul_list_any k t l its.toArray n dd sl)
   ⟨ho,rfl,⟨_,ho,rfl⟩,call_meets F.slot_list_mul ⟨_,ho,rfl⟩ F.entry_list_mul (F.args_list_mul_2 _ _)
    (lm_list_mul_any l its.toArray n dd sl k t hfit xX hlong) ⟨ho,?_⟩⟩)
 rw[listMul_foldl_if];exact⟨.ref _,_,I.lnew (t':=s.toks) (r.rep k.toNat) (by rw[Do,Nat.mul_comm];exact hz),rfl,q _ I.fresh⟩
theorem Ows.rep(h:Ows K O H ts 0 vs NoA):∀n:Nat,Ows K O H (List.replicate n ts).flatten 0 (List.replicate n vs).flatten NoA
 |0=>rfl
 |n+1=>by
  rw[List.replicate_succ,List.replicate_succ,List.flatten_cons,List.flatten_cons];exact h.app (Ows.rep h n)
def y0:D->D->Option D
 |.list ts,.int k=>grd (-(2 ^ 63)<=k/\k<2 ^ 63/\ts.length*k.toNat<=sizeLine) (.list (List.replicate k.toNat ts).flatten)
 |_,_=>none
def D1(hK:X.K=K):OpR X (binaryOp .Mult) (rF2 K y0 1):=by
 subst hK;refine op_repL.imp ?_;rintro x y H Q ⟨O,a,b,t,oa,ob,hd,hg,k⟩;cases a with
 |list ts=>cases b with
  |int n=>
   obtain⟨⟨c1,c2,c3⟩,rfl⟩:=bA hg;obtain⟨a,vs,e1,f1,w1⟩:=oa.lst0;refine⟨a,n,vs,e1,ob,f1.sq,c1,c2,by rw[w1.len];exact c3,fun p hp=>?_⟩;obtain⟨n1,n2⟩:=bW hp hd (w1.rep n.toNat);exact k _ _ _ n1 n2
  |_=>cases hg
 |_=>cases hg
def L1:D->D->Option D
 |.str z,.int k=>grd (z.length<=4000/\-(2 ^ 63)<=k/\k<=4000) (.str (Txt.mul z k))
 |_,_=>none
def yZ:D->Option D
 |.int i=>some (.int (-i))
 |_=>none
def Iq:UnR X (unaryOp .USub) (rF1 K yZ 3):=un_neg.imp fun x H Q ⟨O,a,t,oa,hd,hg,k⟩=>by
 cases a with
 |int i=>cases hg;exact⟨i,oa,k _ H NoA .refl rfl⟩
 |_=>cases hg
def aZ:List D->Option D
 |[.list ts]=>some (.int ts.length)
 |[.tuple ts]=>some (.int ts.length)
 |[.str z]=>grd (z.length<=sizeLine) (.int z.length)
 |_=>none
def Ir(hK:X.K=K):CallR X (.builtin "len") (rFn K aZ 3):=(K4 hK).imp fun xs H Q ⟨O,as,t,oa,hd,hg,k⟩=>by
 match as,hg with
 |[.list ts],hg=>
  cases hg;obtain⟨v,rfl,o⟩:=oa.one;obtain⟨a,vs,rfl,fz,w⟩:=o.lst0;exact⟨_,_,rfl,.inl ⟨vs,fz.sq,rfl⟩,by rw[w.len];exact k _ H NoA .refl rfl⟩
 |[.tuple ts],hg=>
  cases hg;obtain⟨v,rfl,o⟩:=oa.one;obtain⟨a,vs,rfl,fz,w⟩:=o.tup0;exact⟨_,_,rfl,.inr ⟨vs,fz.sq,rfl⟩,by rw[w.len];exact k _ H NoA .refl rfl⟩
 |[.str z],hg=>
  obtain⟨c,rfl⟩:=bA hg;obtain⟨v,rfl,o⟩:=oa.one;exact⟨_,_,rfl,by rw[show v=.str z from o];exact⟨c,rfl⟩,k _ H NoA .refl rfl⟩
def kW:List D->Option D
 |[.int i]=>some (.int (if i<0 then -i else i))
 |_=>none
def xP:CallR X (.builtin "abs") (rFn K kW 3):=call_abs.imp fun xs H Q ⟨O,as,t,oa,hd,hg,k⟩=>by
 match as,hg with
 |[.int i],hg=>
  cases hg;obtain⟨v,rfl,o⟩:=oa.one;exact⟨i,by rw[show v=.int i from o],k _ H NoA .refl rfl⟩
def vP:List D->Option D
 |[.int i,.int j]=>some (.int (if j>i then j else i))
 |_=>none
def LM:List D->Option D
 |[.int i,.int j]=>some (.int (if j<i then j else i))
 |_=>none
def D2(hc:X.calm=true):CallR X (.builtin "max") (rFn K vP 3):=(yi hc).imp fun xs H Q ⟨O,as,t,oa,hd,hg,k⟩=>by
 match as,hg with
 |[.int i,.int j],hg=>
  cases hg;obtain⟨v,w,rfl,o,o2⟩:=oa.two;exact⟨i,j,by rw[show v=.int i from o,show w=.int j from o2],k _ H NoA .refl rfl⟩
def qf:List D->Option D
 |[.int i]=>some (.int i)
 |[.bool b]=>some (.int (if b then 1 else 0))
 |_=>none
def xO:CallR X (.type "int") (rFn K qf 3):=call_int1.imp fun xs H Q ⟨O,as,t,oa,hd,hg,k⟩=>by
 match as,hg with
 |[.int i],hg=>
  cases hg;obtain⟨v,rfl,o⟩:=oa.one;exact .inl ⟨i,by rw[show v=.int i from o],k _ H NoA .refl rfl⟩
 |[.bool i],hg=>
  cases hg;obtain⟨v,rfl,o⟩:=oa.one;exact .inr ⟨i,by rw[show v=.bl i from o],k _ H NoA .refl rfl⟩
def mK(z:Str):List D:=(li z).map fun c=>.str (mk1 c)
def su:Ows K O H (mK z) 0 (eo z) NoA:=by
 unfold mK eo;show Ows K O H ((li z).map fun c=>.str (mk1 c)) 0 ((li z).map sgn) NoA;generalize li z=l
 induction l with
 |nil=>rfl
 |cons c r ih=>exact⟨sgn c,r.map sgn,NoA,NoA,rfl,fun _ z=>z,fun _ z=>z,fun _ z=>z.elim,rfl,ih⟩
def fP:List D->Option D
 |[.list ts]=>some (.list ts)
 |[.tuple ts]=>some (.list ts)
 |[.str z]=>grd (z.cps.size<=sizeLine) (.list (mK z))
 |_=>none
def jV(hK:X.K=K)(hc:X.calm=true):CallR X (.type "list") (rFn K fP 1):=((Dt hK).or' (qm hc)).imp fun xs H Q ⟨O,as,t,oa,hd,hg,k⟩=>by
 match as,hg with
 |[.list ts],hg=>
  cases hg;obtain⟨v,rfl,o⟩:=oa.one;obtain⟨a,vs,rfl,fz,w⟩:=o.lst0;exact .inl ⟨a,vs,rfl,.inl fz.sq,fun l hl=>k _ _ _ (bW hl hd w).1 (bW hl hd w).2⟩
 |[.tuple ts],hg=>
  cases hg;obtain⟨v,rfl,o⟩:=oa.one;obtain⟨a,vs,rfl,fz,w⟩:=o.tup0;exact .inl ⟨a,vs,rfl,.inr fz.sq,fun l hl=>k _ _ _ (bW hl hd w).1 (bW hl hd w).2⟩
 |[.str z],hg=>
  obtain⟨c,rfl⟩:=bA hg;obtain⟨v,rfl,o⟩:=oa.one;exact .inr ⟨z,by rw[show v=.str z from o],c,fun l hl=>k _ _ _ (bW (K:=K) hl hd su).1 (bW hl hd su).2⟩
def LV:List D->Option D
 |[.list ts]=>some (.tuple ts)
 |[.tuple ts]=>some (.tuple ts)
 |_=>none
def ve:List D->Option (List Bool)
 |[]=>some []
 |.bool b::r=>(ve r).map (b::·)
 |_::_=>none
def L7:List D->Option D
 |[.list ts]=>(ve ts).map fun bs=>.bool (bs.all id)
 |_=>none
def tyN:D->String
 |.none=>"NoneType" |.bool _=>"bool" |.int _=>"int" |.str _=>"str" |.list _=>"list" |.tuple _=>"tuple" |.dict _=>"dict"
def kH(n T:String):Bool:=n==T || (n=="bool"&&T=="int")
def uT(hT:T∈["int","bool","str","list","tuple","dict"])(a:D):PySem.W.kitOne K (.type (tyN a)) (.type T)=some (kH (tyN a) T):=by
 simp only[zay,List.not_mem_nil,or_false]at hT;rcases hT with rfl|rfl|rfl|rfl|rfl|rfl<;>cases a<;>rfl
def isX:D->Bool
 |.dict [(.none,.str _)]=>true
 |_=>false
def JF(K:zbY):List V->Hp->VK->Prop:=fun xs H Q=>∃x T,∃(O:AS) (a:D),xs=[x,.ty T]/\Ow K O H a 0 x NoA/\isX a=false/\T∈["int","bool","str","list","tuple","dict"]/\Q (.bl (kH (tyN a) T)) H
def yk:CallR X (.builtin "isinstance") (JF X.K):=by
 intro ρ s σ H xs us Q I r h;obtain⟨x,T,O,a,rfl,oa,hX,hT,q⟩:=h;have base:∀ty,TyOf X.K H x (.type ty)->tyN a=ty->wpAny (model X.prog X.w) X.A (call (.builtin "isinstance") us) (EP X ρ σ Q) X.xe s:=fun ty h1 h2=>by
  refine Ab ρ s σ H _ us Q I r ⟨x,.type ty,T,kH (tyN a) T,rfl,h1,?_,q⟩;rw[<-h2];exact uT hT a
 cases a with
 |none=>exact base _ (by rw[show x=.non from oa];exact .non) rfl
 |bool b=>exact base _ (by rw[show x=.bl b from oa];exact .bl b) rfl
 |int b=>exact base _ (by rw[show x=.int b from oa];exact .int b) rfl
 |str b=>exact base _ (by rw[show x=.str b from oa];exact .str b) rfl
 |tuple ts=>
  obtain⟨p,vs,rfl,fz,w⟩:=oa.tup0;exact base _ (.tup fz.1) rfl
 |dict ts=>
  obtain⟨p,vs,rfl,⟨_,h1,_⟩|⟨_,h1,_⟩|⟨_,⟨kk,b,_,h1,_⟩|⟨cn,C,h0,_⟩⟩⟩:=oa
  ·exact base _ (.dK h1) rfl
  ·exact base _ (.dK (.inl h1)) rfl
  ·exact base _ (.dT h1) rfl
  ·subst h0;cases hX
 |list ts=>
  obtain⟨p,vs,rfl,fz,w⟩:=oa.lst0;obtain⟨u,u2,rfl,r1,r2⟩:=r.two;cases r1;cases r2;obtain⟨its,rv,pl,_⟩:=I.list fz.sq;have e:=uT (K:=X.K) hT (.list ts);obtain⟨o,n,h1,h2,_⟩:=pl;exact PySem.W.kia_one PySem.W.kitx_list I.kIn ⟨o,h1,h2⟩ e (fun z=>nomatch z) fun tk=>⟨.bl _,H,I.tok tk,rfl,q⟩
end
def fy(T:String):D->Option D:=fun a=>if isX a=true then none else some (.bool (kH (tyN a) T))
def II{T:Str}{n:String}{pt:Pos}(hK:X.K=K)(hg:Gl X "isinstance")(hm:X.mg "isinstance"=none)(hgT:Gl X T)(hmT:X.mg T=none)(hbT:bootBuiltins T=some (.type n))(hT:n∈["int","bool","str","list","tuple","dict"])(he:PE X e (tF K p ds ds1 d1 f))
  (hnT:T≠"__name__") (hdT:(T==("__debug__":Str))=false)
  (hs1:starEach [e,.Name T pt] X.env=(false,eval e X.env)::starEach [.Name T pt] X.env) (hs2:starEach [.Name T pt] X.env=(false,eval (.Name T pt) X.env)::starEach [] X.env) (hpl:(backTo pos (starEach [.Name T pt] X.env)).any (·.1)=false):
  PE X (.Call (.Name "isinstance" px) [e,.Name T pt] [] pos) (tF K p ds ds1 3 (e1 (fy n) f)):=by
 subst hK;refine(nV yk hg hm boot_isinstance (cq he (cq (Db (v:=.ty n) hgT hmT hbT rfl hnT hdT) pa_nil hs2) hs1) (by decide) (by decide) hs1 hpl).imp fun σ H Q h=>?_;obtain⟨Ox,en,R,t,en',e,hf,k⟩:=h;unfold e1 at hf;obtain⟨⟨t1,en1⟩,h1,hf⟩:=zaa.mp hf;obtain⟨t',h3,hf⟩:=zab.mp hf;cases hf;unfold fy at h3;by_cases hX:isX t1=true
 ·rw[if_pos hX]at h3;cases h3
 rw[if_neg hX]at h3;cases h3;refine⟨Ox,en,R,t1,en1,e,h1,fun v H' R' F P o=>?_⟩;exact⟨v,n,Own R' Ox,t1,rfl,Ow.letgo P (fun _ z=>z) o,Bool.eq_false_iff.mpr hX,hT,k _ H' R' NoA (P.less fun _ z=>z.elim) rfl⟩
mutual
def peq:D->D->Bool
 |.none,.none=>true
 |.bool a,.bool b=>a==b
 |.bool a,.int b=>(if a then(1:Int)else 0)==b
 |.int a,.bool b=>a==(if b then(1:Int)else 0)
 |.int a,.int b=>a==b
 |.str a,.str b=>a==b
 |.list a,.list b=>dB a b
 |.tuple a,.tuple b=>dB a b
 |_,_=>false
def dB:List D->List D->Bool
 |[],[]=>true
 |a::r,b::s=>peq a b&&dB r s
 |_,_=>false
end
mutual
def noDict:D->Bool
 |.dict _=>false
 |.list ts=>aC ts
 |.tuple ts=>aC ts
 |_=>true
def aC:List D->Bool
 |[]=>true
 |t::r=>noDict t&&aC r
end
mutual
theorem kw:∀a:D,noDict a=true->peq a a=true
 |.none,_=>rfl
 |.bool b,_=>by cases b<;>rfl
 |.int i,_=>by simp[peq]
 |.str i,_=>by simp[peq]
 |.list ts,h=>by simp only[peq];exact lK ts (by simpa[noDict]using h)
 |.tuple ts,h=>by simp only[peq];exact lK ts (by simpa[noDict]using h)
 |.dict _,h=>by simp[noDict]at h
theorem lK:∀a:List D,aC a=true->dB a a=true
 |[],_=>rfl
 |t::r,h=>by
  have h':noDict t=true/\aC r=true:=by simpa[aC]using h
  simp only[dB,kw t h'.1,lK r h'.2,zbi]
end
mutual
def cK:D->Nat
 |.list ts=>bJ ts+1
 |.tuple ts=>bJ ts+1
 |_=>0
def bJ:List D->Nat
 |[]=>0
 |t::r=>max (cK t) (bJ r)
end
theorem l7:∀{ts:List D} {i:Nat} {t:D},ts[i]?=some t->cK t<=bJ ts
 |[],_,_,h=>by simp at h
 |u::r,i,t,h=>by
  simp only[bJ];cases i with
  |zero=>simp at h;subst h;exact Nat.le_max_left _ _
  |succ i=>exact zau (l7 (by simpa using h)) (Nat.le_max_right _ _)
theorem eV:∀{ts:List D} {i:Nat} {t:D},aC ts=true->ts[i]?=some t->noDict t=true
 |[],_,_,_,h=>by simp at h
 |u::r,i,t,hn,h=>by
  have h':noDict u=true/\aC r=true:=by simpa[aC]using hn
  cases i with
  |zero=>simp at h;subst h;exact h'.1
  |succ i=>exact eV h'.2 (by simpa using h)
theorem nP:∀{a b:List D},a.length≠b.length->dB a b=false
 |[],[],h=>absurd rfl h
 |[],_::_,_=>rfl
 |_::_,[],_=>rfl
 |a::r,b::s,h=>by
  simp only[dB,nP (a:=r) (b:=s) (fun z=>h (by rw[zac,zac,z])),Bool.and_false]
def eAt(a b:List D)(j:Nat):Bool:=match a[j]?,b[j]? with
 |some x,some y=>peq x y
 |_,_=>true
def qr(n:Nat)(f:Nat->Bool):(List.range (n+1)).all f=(f 0&&(List.range n).all fun j=>f (j+1)):=by
 rw[List.range_succ_eq_map,List.all_cons,List.all_map];rfl
theorem nT:∀{a b:List D},a.length=b.length->(List.range a.length).all (eAt a b)=dB a b
 |[],[],_=>rfl
 |a::r,b::s,h=>by
  rw[zac,qr];have e:(List.range r.length).all (fun j=>eAt (a::r) (b::s) (j+1))=(List.range r.length).all (eAt r s):=by
   congr 1
  rw[e,nT (by simpa using h)];rfl
 |[],_::_,h=>by simp at h
 |_::_,[],h=>by simp at h
section
open PySem.SeqAt
variable{s:Shared} 
def Cp{p:Addr}{ws:List V}(I:Inv X ρ σ H s)(h:SqL X.K H p vs)(g:SqT X.K H p ws):False:=by
 obtain⟨its,_,p1,_⟩:=I.list h;obtain⟨ν,_,p2,_⟩:=I.tuple g;exact ne_of_list_tuple p1.isList (show s.heap.IsTuple p ν.toArray from p2) rfl
def Hl{p:Addr}{ks:List (List Key×V)}(I:Inv X ρ σ H s)(h:SqL X.K H p vs)(g:H p=some (.dT ks)):False:=by
 obtain⟨its,_,⟨o,n,e1,e2,_⟩,_⟩:=I.list h;obtain⟨_,_,_,_,o',_,_,g1,g2,_⟩:=CF I.hok g;rw[e1]at g1;cases g1;rw[g2.1]at e2;simp at e2
def JS{p:Addr}{ks:List (Key×V)}(I:Inv X ρ σ H s)(h:SqL X.K H p vs)(g:Rd H p (.dK ks)):False:=by
 obtain⟨its,_,⟨o,n,e1,e2,_⟩,_⟩:=I.list h;obtain⟨_,_,_,_,o',_,_,g1,g2,_⟩:=fj I.hok g;rw[e1]at g1;cases g1;rw[g2.1]at e2;simp at e2
mutual
theorem Ow.inj(I:Inv X ρ σ H s):∀(a b:D) {x:V},Ow X.K O H a 0 x NoA->Ow X.K O H b 0 x NoA->noDict a=true->a=b
 |.none,b,_,h,g,_=>by
  cases(show _=_ from h);cases b with
  |none=>rfl
  |list ts=>obtain⟨_,_,z,_⟩:=g;cases z
  |tuple ts=>obtain⟨_,_,z,_⟩:=g;cases z
  |dict ts=>obtain⟨_,_,z,_⟩:=g;cases z
  |bool c=>cases(show V.non=V.bl c from g)
  |int c=>cases(show V.non=V.int c from g)
  |str c=>cases(show V.non=V.str c from g)
 |.bool c,b,_,h,g,_=>by
  cases(show _=_ from h);cases b with
  |none=>cases(show V.bl c=V.non from g)
  |list ts=>obtain⟨_,_,z,_⟩:=g;cases z
  |tuple ts=>obtain⟨_,_,z,_⟩:=g;cases z
  |dict ts=>obtain⟨_,_,z,_⟩:=g;cases z
  |bool c'=>cases(show V.bl c=V.bl c' from g);rfl
  |int c'=>cases(show V.bl c=V.int c' from g)
  |str c'=>cases(show V.bl c=V.str c' from g)
 |.int c,b,_,h,g,_=>by
  cases(show _=_ from h);cases b with
  |none=>cases(show V.int c=V.non from g)
  |list ts=>obtain⟨_,_,z,_⟩:=g;cases z
  |tuple ts=>obtain⟨_,_,z,_⟩:=g;cases z
  |dict ts=>obtain⟨_,_,z,_⟩:=g;cases z
  |bool c'=>cases(show V.int c=V.bl c' from g)
  |int c'=>cases(show V.int c=V.int c' from g);rfl
  |str c'=>cases(show V.int c=V.str c' from g)
 |.str c,b,_,h,g,_=>by
  cases(show _=_ from h);cases b with
  |none=>cases(show V.str c=V.non from g)
  |list ts=>obtain⟨_,_,z,_⟩:=g;cases z
  |tuple ts=>obtain⟨_,_,z,_⟩:=g;cases z
  |dict ts=>obtain⟨_,_,z,_⟩:=g;cases z
  |bool c'=>cases(show V.str c=V.bl c' from g)
  |int c'=>cases(show V.str c=V.int c' from g)
  |str c'=>cases(show V.str c=V.str c' from g);rfl
 |.list ts,b,_,h,g,hn=>by
  obtain⟨p,vs,rfl,fz,w⟩:=h.lst0;cases b with
  |none=>cases(show V.ref p=V.non from g)
  |bool c'=>cases(show V.ref p=V.bl c' from g)
  |int c'=>cases(show V.ref p=V.int c' from g)
  |str c'=>cases(show V.ref p=V.str c' from g)
  |list us=>
   obtain⟨p',vs',e,fz',w'⟩:=g.lst0;cases e
   have:=I.list_inj fz.sq fz'.sq;subst this;rw[Ows.inj I ts us w w' (by simpa[noDict]using hn)]
  |tuple us=>
   obtain⟨p',vs',e,fz',w'⟩:=g.tup0;cases e;exact(Cp I fz.sq fz'.sq).elim
  |dict us=>
   obtain⟨p',vs',e,⟨_,g1,_⟩|⟨z,_⟩|⟨_,⟨_,_,_,g1,_⟩|⟨_,C,_,_,g1,_⟩⟩⟩:=g
   ·cases e;exact(JS I fz.sq g1).elim
   ·exact absurd rfl z
   ·cases e;exact(Hl I fz.sq g1).elim
   ·cases e;obtain⟨its,rv,⟨o,n,e1,e2,_⟩,_⟩:=I.list fz.sq;obtain⟨⟨o',x1,x2,_⟩,_⟩:=(show ObjOk X.prog X.w H s.heap p (.ext (IZ p C))from I.hok p _ g1);rw[e1]at x1;cases x1;rw[e2]at x2;cases x2
 |.tuple ts,b,_,h,g,hn=>by
  obtain⟨p,vs,rfl,fz,w⟩:=h.tup0;cases b with
  |none=>cases(show V.ref p=V.non from g)
  |bool c'=>cases(show V.ref p=V.bl c' from g)
  |int c'=>cases(show V.ref p=V.int c' from g)
  |str c'=>cases(show V.ref p=V.str c' from g)
  |tuple us=>
   obtain⟨p',vs',e,fz',w'⟩:=g.tup0;cases e
   have:=fz.1.symm.trans fz'.1;cases this;rw[Ows.inj I ts us w w' (by simpa[noDict]using hn)]
  |list us=>
   obtain⟨p',vs',e,fz',w'⟩:=g.lst0;cases e;exact(Cp I fz'.sq fz.sq).elim
  |dict us=>
   obtain⟨p',vs',e,⟨_,g1,_⟩|⟨z,_⟩|⟨_,⟨_,_,_,g1,_⟩|⟨_,C,_,_,g1,_⟩⟩⟩:=g
   ·cases e;rcases g1 with g1|⟨_,g1⟩<;>rw[fz.1]at g1<;>cases g1
   ·exact absurd rfl z
   ·cases e;rw[fz.1]at g1;cases g1
   ·cases e;rw[fz.1]at g1;cases g1
 |.dict _,_,_,_,_,hn=>by simp[noDict]at hn
theorem Ows.inj(I:Inv X ρ σ H s):∀(a b:List D) {x:List V},Ows X.K O H a 0 x NoA->Ows X.K O H b 0 x NoA->aC a=true->a=b
 |[],b,_,h,g,_=>by
  cases(show _=_ from h);cases b with
  |nil=>rfl
  |cons u us=>obtain⟨_,_,_,_,e,_⟩:=g;cases e
 |t::ts,b,_,h,g,hn=>by
  obtain⟨v,r,F1,F2,e,_,_,_,h4,h5⟩:=h;subst e;have hn':noDict t=true/\aC ts=true:=by simpa[aC]using hn
  cases b with
  |nil=>cases(show v::r=[]from g)
  |cons u us=>
   obtain⟨v',r',G1,G2,e,_,_,_,g4,g5⟩:=g;cases e;rw[Ow.inj I t u (Ow.any0 t h4) (Ow.any0 u g4) hn'.1,Ows.inj I ts us (Ows.any0 ts h5) (Ows.any0 us g5) hn'.2]
end
def sS{ws:List V}{its ν:List Value}(w:Ows X.K O H ts 0 vs NoA)(w2:Ows X.K O H us 0 ws NoA)(rv:Vals vs its)(rv2:Vals ws ν)
  (ih:∀(j:Nat) a b x y v u,ts[j]?=some a->us[j]?=some b->Ow X.K O H a 0 x NoA->Ow X.K O H b 0 y NoA->RelV x v->RelV y u->EqAt A s v u (peq a b)):
  ∀j (h1:j<its.toArray.size) (h2:j<ν.toArray.size),EqAt A s its.toArray[j] ν.toArray[j] (eAt ts us j):=fun j h1 h2=>by
 have h1':j<its.length:=by simpa using h1
 have h2':j<ν.length:=by simpa using h2
 have l1:=rv.length;have l2:=rv2.length;have m1:=w.len;have m2:=w2.len;have e1:ts[j]?=some ts[j]:=zak (by omega);have e2:us[j]?=some us[j]:=zak (by omega);obtain⟨x,g1,o1⟩:=w.get e1;obtain⟨y,g2,o2⟩:=w2.get e2;obtain⟨u1,f1,q1⟩:=rv.get g1;obtain⟨u2,f2,q2⟩:=rv2.get g2;have z:=ih j _ _ x y u1 u2 e1 e2 o1 o2 q1 q2;rw[zak h1']at f1;rw[zak h2']at f2;have i1:its.toArray[j]=u1:=by simpa using zat f1
 have i2:ν.toArray[j]=u2:=by simpa using zat f2
 rw[i1,i2];unfold eAt;rw[e1,e2];exact z
inductive Kd(s:Shared):D->Value->Prop
 |n:Kd s .none .none
 |b (c:Bool):Kd s (.bool c) (.bool c)
 |i (c:Int) (t:Nat):Kd s (.int c) (.int c t)
 |t (c:Str) (t:Nat):Kd s (.str c) (.str c t)
 |l {c:List D} {p:Addr} {z:Array Value} (h:s.heap.IsList p z):Kd s (.list c) (.ref p)
 |u {c:List D} {p:Addr} {z:Array Value} (h:s.heap.IsTuple p z):Kd s (.tuple c) (.ref p)
def rJ(I:Inv X ρ σ H s){a:D}{x:V}{v:Value}(hn:noDict a=true)(o:Ow X.K O H a 0 x NoA)(r:RelV x v):Kd s a v:=by
 cases a with
 |none=>cases(show x=V.non from o);cases r;exact .n
 |bool c=>cases(show x=V.bl c from o);cases r;exact .b c
 |int c=>cases(show x=V.int c from o);obtain⟨t,rfl⟩:=r;exact .i c t
 |str c=>cases(show x=V.str c from o);obtain⟨t,rfl⟩:=r;exact .t c t
 |list c=>
  obtain⟨p,vs,rfl,fz,w⟩:=o.lst0;cases r;obtain⟨its,rv,pl,_⟩:=I.list fz.sq;exact .l pl.isList
 |tuple c=>
  obtain⟨p,vs,rfl,fz,w⟩:=o.tup0;cases r;obtain⟨its,rv,pl,_⟩:=I.tuple fz.sq;have hl:s.heap.IsTuple p its.toArray:=pl;exact .u hl
 |dict c=>simp[noDict]at hn
def sqB:D->D->Bool
 |.list _,.list _=>true
 |.tuple _,.tuple _=>true
 |_,_=>false
def Cs:∀{a b:D} {v u:Value},Kd s a v->Kd s b u->sqB a b=false->A.units<cLine->EqAt A s v u (peq a b)/\RcAt A s v u (peq a b)/\RcNeAt A s v u (!peq a b)
 |_,_,_,_,.n,.n,_,_=>⟨.same _,.none_none,.none_none⟩
 |_,_,_,_,.n,.b _,_,_=>⟨.none_bool _,.none_bool _,.none_bool _⟩
 |_,_,_,_,.n,.i _ _,_,_=>⟨.none_int _ _,.none_int _ _,.none_int _ _⟩
 |_,_,_,_,.n,.t _ _,_,_=>⟨.none_str _ _,.none_str _ _,.none_str _ _⟩
 |_,_,_,_,.n,.l h2,_,hu=>⟨.none_list h2 hu,.none_list h2 hu,.none_list h2 hu⟩
 |_,_,_,_,.n,.u h2,_,hu=>⟨.none_tuple h2 hu,.none_tuple h2 hu,.none_tuple h2 hu⟩
 |_,_,_,_,.b _,.n,_,_=>⟨.bool_none _,.bool_none _,.bool_none _⟩
 |_,_,_,_,.b _,.b _,_,_=>⟨.bool_bool _ _,.bool_bool _ _,.bool_bool _ _⟩
 |_,_,_,_,.b _,.i _ _,_,_=>⟨.bool_int _ _ _,.bool_int _ _ _,.bool_int _ _ _⟩
 |_,_,_,_,.b _,.t _ _,_,_=>⟨.bool_str _ _ _,.bool_str _ _ _,.bool_str _ _ _⟩
 |_,_,_,_,.b _,.l h2,_,hu=>⟨.bool_list _ h2 hu,.bool_list _ h2 hu,.bool_list _ h2 hu⟩
 |_,_,_,_,.b _,.u h2,_,hu=>⟨.bool_tuple _ h2 hu,.bool_tuple _ h2 hu,.bool_tuple _ h2 hu⟩
 |_,_,_,_,.i _ _,.n,_,_=>⟨.int_none _ _,.int_none _ _,.int_none _ _⟩
 |_,_,_,_,.i _ _,.b _,_,_=>⟨.int_bool _ _ _,.int_bool _ _ _,.int_bool _ _ _⟩
 |_,_,_,_,.i _ _,.i _ _,_,_=>⟨.int_int _ _ _ _,.int_int _ _ _ _,.int_int _ _ _ _⟩
 |_,_,_,_,.i _ _,.t _ _,_,_=>⟨.int_str _ _ _ _,.int_str _ _ _ _,.int_str _ _ _ _⟩
 |_,_,_,_,.i _ _,.l h2,_,hu=>⟨.int_list _ _ h2 hu,.int_list _ _ h2 hu,.int_list _ _ h2 hu⟩
 |_,_,_,_,.i _ _,.u h2,_,hu=>⟨.int_tuple _ _ h2 hu,.int_tuple _ _ h2 hu,.int_tuple _ _ h2 hu⟩
 |_,_,_,_,.t _ _,.n,_,_=>⟨.str_none _ _,.str_none _ _,.str_none _ _⟩
 |_,_,_,_,.t _ _,.b _,_,_=>⟨.str_bool _ _ _,.str_bool _ _ _,.str_bool _ _ _⟩
 |_,_,_,_,.t _ _,.i _ _,_,_=>⟨.str_int _ _ _ _,.str_int _ _ _ _,.str_int _ _ _ _⟩
 |_,_,_,_,.t _ _,.t _ _,_,_=>⟨.str_str _ _ _ _,.str_str _ _ _ _,.str_str _ _ _ _⟩
 |_,_,_,_,.t _ _,.l h2,_,hu=>⟨.str_list _ _ h2 hu,.str_list _ _ h2 hu,.str_list _ _ h2 hu⟩
 |_,_,_,_,.t _ _,.u h2,_,hu=>⟨.str_tuple _ _ h2 hu,.str_tuple _ _ h2 hu,.str_tuple _ _ h2 hu⟩
 |_,_,_,_,.l h1,.n,_,hu=>⟨.list_none h1 hu,.list_none h1 hu,.list_none h1 hu⟩
 |_,_,_,_,.l h1,.b _,_,hu=>⟨.list_bool _ h1 hu,.list_bool _ h1 hu,.list_bool _ h1 hu⟩
 |_,_,_,_,.l h1,.i _ _,_,hu=>⟨.list_int _ _ h1 hu,.list_int _ _ h1 hu,.list_int _ _ h1 hu⟩
 |_,_,_,_,.l h1,.t _ _,_,hu=>⟨.list_str _ _ h1 hu,.list_str _ _ h1 hu,.list_str _ _ h1 hu⟩
 |_,_,_,_,.l h1,.u h2,_,hu=>⟨.list_tuple h1 h2 hu,.list_tuple h1 h2 hu,.list_tuple h1 h2 hu⟩
 |_,_,_,_,.u h1,.n,_,hu=>⟨.tuple_none h1 hu,.tuple_none h1 hu,.tuple_none h1 hu⟩
 |_,_,_,_,.u h1,.b _,_,hu=>⟨.tuple_bool _ h1 hu,.tuple_bool _ h1 hu,.tuple_bool _ h1 hu⟩
 |_,_,_,_,.u h1,.i _ _,_,hu=>⟨.tuple_int _ _ h1 hu,.tuple_int _ _ h1 hu,.tuple_int _ _ h1 hu⟩
 |_,_,_,_,.u h1,.t _ _,_,hu=>⟨.tuple_str _ _ h1 hu,.tuple_str _ _ h1 hu,.tuple_str _ _ h1 hu⟩
 |_,_,_,_,.u h1,.l h2,_,hu=>⟨.tuple_list h1 h2 hu,.tuple_list h1 h2 hu,.tuple_list h1 h2 hu⟩
 |_,_,_,_,.l _,.l _,hq,_=>nomatch (show true=false from hq)
 |_,_,_,_,.u _,.u _,hq,_=>nomatch (show true=false from hq)
def wp(I:Inv X ρ σ H s):∀(n:Nat) (a b:D) (A:Around) (x y:V) (v u:Value),cK a<=n->noDict a=true->noDict b=true->Ow X.K O H a 0 x NoA->Ow X.K O H b 0 y NoA->RelV x v->RelV y u->A.units+n+1<cLine ->
  EqAt A s v u (peq a b)/\RcAt A s v u (peq a b)/\RcNeAt A s v u (!peq a b):=by
 intro n
 induction n with
 |zero=>
  intro a b A x y v u hdp hna hnb o1 o2 r1 r2 hun;refine Cs (rJ I hna o1 r1) (rJ I hnb o2 r2) ?_ (by omega);cases a with
  |list c=>simp only[cK]at hdp;omega
  |tuple c=>simp only[cK]at hdp;omega
  |_=>rfl
 |succ n ih=>
  intro a b A x y v u hdp hna hnb o1 o2 r1 r2 hun;have hu:A.units<cLine:=by omega
  have hu1:A.in1.units+n+1<cLine:=by
   show A.units+1+n+1<cLine;omega
  cases hq:sqB a b with
  |false=>exact Cs (rJ I hna o1 r1) (rJ I hnb o2 r2) hq hu
  |true=>
   cases a with
   |list c1=>
    cases b with
    |list c2=>
     obtain⟨p1,vs1,rfl,fz1,w1⟩:=o1.lst0;cases r1;obtain⟨rS,rv1,pl1,_⟩:=I.list fz1.sq;have hl1:=pl1.isList;obtain⟨p2,vs2,rfl,fz2,w2⟩:=o2.lst0;cases r2;obtain⟨ν,rv2,pl2,_⟩:=I.list fz2.sq;have hl2:=pl2.isList;have dl:bJ c1<=n:=by simp only[cK]at hdp;omega
     have nd1:aC c1=true:=by simpa[noDict]using hna
     have nd2:aC c2=true:=by simpa[noDict]using hnb
     have el:=sS (A:=A.in1) w1 w2 rv1 rv2 fun j a b x y v u e1 e2 q1 q2 q3 q4=>(ih a b A.in1 x y v u (zau (l7 e1) dl) (eV nd1 e1) (eV nd2 e2) q1 q2 q3 q4 hu1).1;have l1:=rv1.length;have l2:=rv2.length;have m1:=w1.len;have m2:=w2.len;have rc:RcAt A s (.ref p1) (.ref p2) (dB c1 c2)/\RcNeAt A s (.ref p1) (.ref p2) (!dB c1 c2):=by
      by_cases hz:c1.length=c2.length
      ·have hs1:rS.toArray.size=ν.toArray.size:=by rw[zai,zai];omega
       have hs2:rS.toArray.size=c1.length:=by rw[zai];omega
       have z1:=RcAt.lists hl1 hl2 hs1 hu el;have z2:=RcNeAt.lists hl1 hl2 hs1 hu el;rw[hs2,nT hz]at z1 z2;exact⟨z1,z2⟩
      ·have hs1:(rS.toArray.size != ν.toArray.size)=true:=by rw[zai,zai,bne_iff_ne];omega
       rw[nP hz];exact⟨RcAt.lists_lengths hl1 hl2 hs1 hu,RcNeAt.lists_lengths hl1 hl2 hs1 hu⟩
     have pe:peq (.list c1) (.list c2)=dB c1 c2:=by simp only[peq]
     refine⟨?_,by rw[pe];exact rc.1,by rw[pe];exact rc.2⟩;by_cases hp:p1=p2
     ·subst hp
      have:=Ow.inj I _ _ o1 o2 hna;cases this;rw[kw _ hna];exact EqAt.same _
     ·rw[pe];exact EqAt.of_refs hp rc.1
    |_=>cases(show false=true from hq)
   |tuple c1=>
    cases b with
    |tuple c2=>
     obtain⟨p1,vs1,rfl,fz1,w1⟩:=o1.tup0;cases r1;obtain⟨rS,rv1,pl1,_⟩:=I.tuple fz1.sq;have hl1:s.heap.IsTuple p1 rS.toArray:=pl1;obtain⟨p2,vs2,rfl,fz2,w2⟩:=o2.tup0;cases r2;obtain⟨ν,rv2,pl2,_⟩:=I.tuple fz2.sq;have hl2:s.heap.IsTuple p2 ν.toArray:=pl2;have dl:bJ c1<=n:=by simp only[cK]at hdp;omega
     have nd1:aC c1=true:=by simpa[noDict]using hna
     have nd2:aC c2=true:=by simpa[noDict]using hnb
     have el:=sS (A:=A.in1) w1 w2 rv1 rv2 fun j a b x y v u e1 e2 q1 q2 q3 q4=>(ih a b A.in1 x y v u (zau (l7 e1) dl) (eV nd1 e1) (eV nd2 e2) q1 q2 q3 q4 hu1).1;have l1:=rv1.length;have l2:=rv2.length;have m1:=w1.len;have m2:=w2.len;have rc:RcAt A s (.ref p1) (.ref p2) (dB c1 c2)/\RcNeAt A s (.ref p1) (.ref p2) (!dB c1 c2):=by
      have z1:=RcAt.tuples hl1 hl2 hu el;have z2:=RcNeAt.tuples hl1 hl2 hu el;have ez:((List.range (min rS.toArray.size ν.toArray.size)).all (eAt c1 c2)&&rS.toArray.size==ν.toArray.size)=dB c1 c2:=by
       rw[zai,zai];by_cases hz:c1.length=c2.length
       ·have h3:rS.length=ν.length:=by omega
        have h4:min rS.length ν.length=c1.length:=by omega
        rw[h4,nT hz,h3,beq_self_eq_true,zbW]
       ·have h3:(rS.length==ν.length)=false:=by rw[zbR];omega
        rw[h3,Bool.and_false,nP hz]
      rw[ez]at z1 z2;exact⟨z1,z2⟩
     have pe:peq (.tuple c1) (.tuple c2)=dB c1 c2:=by simp only[peq]
     refine⟨?_,by rw[pe];exact rc.1,by rw[pe];exact rc.2⟩;by_cases hp:p1=p2
     ·subst hp
      have:=Ow.inj I _ _ o1 o2 hna;cases this;rw[kw _ hna];exact EqAt.same _
     ·rw[pe];exact EqAt.of_refs hp rc.1
    |_=>cases(show false=true from hq)
   |_=>cases(show false=true from hq)
end
def eqD(a b:D):Option D:=grd (noDict a=true/\noDict b=true/\cK a<=60) (.bool (peq a b))
def neD(a b:D):Option D:=grd (noDict a=true/\noDict b=true/\cK a<=60) (.bool (!peq a b))
def mV(hK:X.K=K)(hu:X.A.units+64<cLine):OpR X (compareOp .Eq) (rF2 K eqD 3):=by
 subst hK;intro ρ s σ H x y v u Q I rx ry ⟨O,a,b,t,oa,ob,hd,hg,k⟩;obtain⟨⟨c1,c2,c3⟩,rfl⟩:=bA hg;exact(wp I 60 a b X.A x y v u c3 c1 c2 oa ob rx ry (by omega)).2.1 X.prog X.w _ _ ⟨.bl _,H,I,rfl,k _ H NoA .refl rfl⟩
def CC(hK:X.K=K)(hu:X.A.units+64<cLine):OpR X (compareOp .NotEq) (rF2 K neD 3):=by
 subst hK;intro ρ s σ H x y v u Q I rx ry ⟨O,a,b,t,oa,ob,hd,hg,k⟩;obtain⟨⟨c1,c2,c3⟩,rfl⟩:=bA hg;exact(wp I 60 a b X.A x y v u c3 c1 c2 oa ob rx ry (by omega)).2.2 X.prog X.w _ _ ⟨.bl _,H,I,rfl,k _ H NoA .refl rfl⟩
def CN{F:List D->Option (D×En)}{E:XK}(hn:dps.length=n)(h:spF K dps dr F vs H Q E):vs.length=n:=by
 obtain⟨Ox,ts,R,r,ψ,e,_⟩:=h
 have:=e.l2;rw[zad]at this;omega
section
variable{ds3:List Nat}{d3:Nat}{a c:Expr}{f3:ME}{p2:Pos}
def DR(h:PS X st (tFS K J ds ds2 m))(hd:leD ds1 ds2=true):PS X st (tFS K J ds ds1 m):=h.imp fun _ _ _=>Ia hd
def jW(g g':D->D->Option D)(f1 f2 f3:ME):ME:=fun en=>(f1 en).bind fun r=>(f2 r.2).bind fun q=>(g r.1 q.1).bind fun t=>match t with
 |.bool true=>(f3 q.2).bind fun z=>(g' q.1 z.1).map fun t=>(t,z.2)
 |.bool false=>some (.bool false,q.2)
 |_=>none
def Et(h:tF K p ds ds1 3 (jW g g' f1 f2 f3) σ H Q):
  wP (rF2 K g 3) (rF2 K g' 3) (tF K p ds ds0 d1 f1) (tF K p ds0 ds1 d2 f2) (tF K p ds1 ds1 d3 f3) σ H Q:=by
 obtain⟨Ox,en,R,t,en',e,hf,k⟩:=h;unfold jW at hf;obtain⟨⟨t1,en1⟩,h1,hf⟩:=zaa.mp hf;obtain⟨⟨t2,en2⟩,h2,hf⟩:=zaa.mp hf;obtain⟨tb,h3,hf⟩:=zaa.mp hf;refine two (p1:=p) (p2:=p) e h1 h2 fun x y H2 R2 F1 F2 P o1 o2=>?_;rw[zbi]at P;have oy:=Ow.letgo P (fun _=>.inr) o2;refine⟨Own R2 Ox,t1,t2,tb,Ow.letgo P (fun _=>.inl) o1,oy,P.doms,h3,fun v3 H3 F3 n3 o3=>?_⟩;have P3:=P.fin n3;cases tb with
 |bool bb=>
  refine⟨bb,o3,?_⟩;cases bb with
  |false=>
   cases hf;exact k _ H3 R2 NoA (P3.less fun _ z=>z.elim) rfl
  |true=>
   obtain⟨⟨t4,en4⟩,h4,hf⟩:=zaa.mp hf;obtain⟨t5,h5,hf⟩:=zab.mp hf;cases hf;have P30:=P3.less (F':=NoA) fun _ z=>z.elim;refine⟨Ox,en2,R2,t4,en4,P30.env0,h4,fun v4 H4 R4 F4 P4 o4=>?_⟩;have P34:=P30.after P4;rw[zbi]at P34;have oy3:Ow K (Own R2 Ox) H3 t2 0 y NoA:=Ow.mv (G:=NoA) ⟨fun a o q _=>n3.1 a o q,fun a z=>.inl z⟩ t2 (fun _ z=>z) oy;have oy4:Ow K (Own R4 Ox) H4 t2 0 y NoA:=by
    refine Ow.mv (G:=NoA) ⟨fun a o q z=>P4.keep a o q fun i zi=>?_,fun a z=>?_⟩ t2 (fun _ z=>z) oy3
    ·rcases z with z|z
     ·exact z (.inl ⟨i,zi⟩)
     ·exact z
    ·rcases z with z|z
     ·exact(P4.own a (.inr z)).imp .inl id
     ·exact .inl (.inr z)
   exact⟨Own R4 Ox,t2,t4,_,oy4,Ow.letgo P4 (fun _ z=>z) o4,P4.doms,h5,fun v5 H5 F5 n5 o5=>k v5 H5 R4 F5 (P34.fin n5) (pG▸o5)⟩
 |_=>cases hf
def zv{op':CmpOp}(ho:OpR X (compareOp op) (rF2 K g 3))(ho':OpR X (compareOp op') (rF2 K g' 3))(ha:PE X a (tF K p ds ds0 d1 f1))(hb:PE X b (tF K p ds0 ds1 d2 f2))(hc:PE X c (tF K p ds1 ds1 d3 f3))
  (hm:lastMarks [op,op'] [b,c]=false):PT X (.Compare a [op,op'] [b,c] pos) (tFT K p ds ds1 (tV (jW g g' f1 f2 f3))):=
 (yL ho ho' ha hb hc hm).imp fun σ H Q h=>by
  obtain⟨Ox,en,R,t,en',e,hf,k⟩:=jU (d:=3) h;exact Et ⟨Ox,en,R,t,en',e,hf,k⟩
abbrev MO:=En->Option (Option Int×En)
def LK:MO:=fun en=>some (none,en)
def LJ(f:ME):MO:=fun en=>(f en).bind fun r=>match r.1 with
 |.int i=>some (some i,r.2)
 |_=>none
def eSl(g:D->Option Int->Option Int->Option D)(f:ME)(lo hi:MO):ME:=fun en=>(f en).bind fun r=>(lo r.2).bind fun l=>(hi l.2).bind fun h=>(g r.1 l.1 h.1).map fun t=>(t,h.2)
variable{lo hi:MO}
def tI{α:Type}(xs:List α)(lo hi:Option Int):List α:=(xs.drop (HT.sIx xs.length 0 lo)).take (HT.sIx xs.length xs.length hi-HT.sIx xs.length 0 lo)
def LT:D->Option Int->Option Int->Option D
 |.list ts,lo,hi=>some (.list (tI ts lo hi))
 |_,_,_=>none
def L6:D->Option Int->Option Int->Option D
 |.str z,lo,hi=>grd (z.length<=sizeLine) (.str ⟨(Ld z.cps.toList lo hi).toArray⟩)
 |_,_,_=>none
end
def kEq:D->D->Bool
 |.int a,.int b=>a==b
 |.str a,.str b=>a==b
 |_,_=>false
def dD(a b:Key):kEq (kD a) (kD b)=decide (a=b):=by
 cases a with
 |inl i=>cases b with
  |inl j=>rw[xw];rfl
  |inr j=>rw[xv];rfl
 |inr i=>cases b with
  |inl j=>rw[xu];rfl
  |inr j=>
   rw[xt];show(i==j)=_;by_cases h:i=j
   ·subst h;simp
   ·rw[zaA h,zbR];exact h
def kOf:D->Option Key
 |.int i=>some (.inl i)
 |.str x=>some (.inr x)
 |_=>none
def c9{a:D}{q:Key}(h:kOf a=some q):a=kD q:=by
 cases a<;>cases h<;>rfl
def dC{a:D}{q:Key}{F:AS}(h:kOf a=some q)(o:Ow K O H a d v F):v=kV q:=by
 cases a with
 |int i=>cases h;exact o
 |str i=>cases h;exact o
 |_=>cases h
def aG(ks:List (D×D))(q:D):Option D:=(ks.find? fun kv=>kEq kv.1 q).map (·.2)
def cZ(ks:List (D×D))(q t:D):List (D×D):=if ks.any (fun kv=>kEq kv.1 q)then ks.map (fun kv=>if kEq kv.1 q then(kv.1,t)else kv)else ks++[(q,t)]
theorem Owd.look:∀{ks:List (D×D)} {vs:List (Key×V)} {F:AS} (q:Key),Owd K O H ks d vs F->(∃t v,aG ks (kD q)=some t/\bx vs q=some v/\Ow K O H t d v F)\/(aG ks (kD q)=none/\bx vs q=none)
 |[],_,_,q,h=>by rw[show _=[]from h];exact .inr ⟨rfl,rfl⟩
 | (k,t)::ks,_,F,q,h=>by
  obtain⟨q',v,r,F1,F2,e,e2,s1,s2,_,h4,h5⟩:=h;subst e e2;by_cases hq:q'=q
  ·subst hq;refine .inl ⟨t,v,?_,cS rfl,Ow.grow (fun _ z=>z) t s1 h4⟩;unfold aG;rw[zbm,dD,zaB rfl];rfl
  ·have e1:aG ((kD q',t)::ks) (kD q)=aG ks (kD q):=by
    unfold aG;rw[zbm,dD,zaA hq]
   have e2:bx ((q',v)::r) q=bx r q:=cT hq;rw[e1,e2];rcases Owd.look q h5 with⟨t',v',a1,a2,a3⟩|z
   ·exact .inl ⟨t',v',a1,a2,Ow.grow (fun _ z=>z) t' s2 a3⟩
   ·exact .inr z
theorem Owd.any:∀{ks:List (D×D)} {vs:List (Key×V)} {F:AS} (q:Key),Owd K O H ks d vs F->ks.any (fun kv=>kEq kv.1 (kD q))=vs.any (fun kv=>decide (kv.1=q))
 |[],_,_,q,h=>by rw[show _=[]from h];rfl
 | (k,t)::ks,_,F,q,h=>by
  obtain⟨q',v,r,F1,F2,e,e2,_,_,_,_,h5⟩:=h;subst e e2;rw[List.any_cons,List.any_cons,dD,Owd.any q h5]
theorem Owd.len:∀{ks:List (D×D)} {vs:List (Key×V)} {F:AS},Owd K O H ks d vs F->vs.length=ks.length
 |[],_,_,h=>by rw[show _=[]from h];rfl
 | (k,t)::ks,_,F,h=>by
  obtain⟨q',v,r,F1,F2,e,e2,_,_,_,_,h5⟩:=h;rw[e,zac,zac,h5.len]
theorem Owd.rep0{t:D}{v:V}{q:Key}(ht:Ow K O H t 0 v NoA):∀{ks:List (D×D)} {vs:List (Key×V)},Owd K O H ks 0 vs NoA->Owd K O H (ks.map fun kv=>if kEq kv.1 (kD q)then(kv.1,t)else kv) 0 (vs.map fun kv=>if kv.1=q then(kv.1,v)else kv) NoA
 |[],_,h=>by rw[show _=[]from h];rfl
 | (k,u)::ks,_,h=>by
  obtain⟨q',w,r,F1,F2,e,e2,_,_,_,h4,h5⟩:=h;subst e e2;rw[zar,zar];have ih:=Owd.rep0 (q:=q) ht (Owd.any0 ks h5)
  dsimp only
  rw[dD];by_cases hq:q'=q
  ·rw[if_pos hq,if_pos (zaB hq)];exact⟨q',v,_,NoA,NoA,rfl,rfl,fun _ z=>z,fun _ z=>z,fun _ z=>z.elim,ht,ih⟩
  ·rw[if_neg hq,if_neg (by rw[zaA hq];exact zbl)];exact⟨q',w,_,NoA,NoA,rfl,rfl,fun _ z=>z,fun _ z=>z,fun _ z=>z.elim,Ow.any0 u h4,ih⟩
theorem Owd.snoc0{t:D}{v:V}{q:Key}(ht:Ow K O H t 0 v NoA):∀{ks:List (D×D)} {vs:List (Key×V)},Owd K O H ks 0 vs NoA->Owd K O H (ks++[(kD q,t)]) 0 (vs++[(q,v)]) NoA
 |[],_,h=>by
  rw[show _=[]from h];exact⟨q,v,[],NoA,NoA,rfl,rfl,fun _ z=>z,fun _ z=>z,fun _ z=>z.elim,ht,rfl⟩
 | (k,u)::ks,_,h=>by
  obtain⟨q',w,r,F1,F2,e,e2,_,_,_,h4,h5⟩:=h;subst e e2;exact⟨q',w,_,NoA,NoA,rfl,rfl,fun _ z=>z,fun _ z=>z,fun _ z=>z.elim,Ow.any0 u h4,Owd.snoc0 ht (Owd.any0 ks h5)⟩
def Owd.put0{q:Key}{vs:List (Key×V)}(h:Owd K O H ks 0 vs NoA)(ht:Ow K O H t 0 v NoA):Owd K O H (cZ ks (kD q) t) 0 (b5 vs q v) NoA:=by
 unfold cZ b5;rw[h.any q];by_cases hq:(vs.any fun kv=>decide (kv.1=q))=true
 ·rw[if_pos hq,if_pos hq];exact Owd.rep0 ht h
 ·rw[if_neg hq,if_neg hq];exact Owd.snoc0 ht h
def Owd.past{vs:List (Key×V)}{F:AS}(ho:∀a,O' a->O a)(hl:O l)(hf:∀b,F b->b≠l)(h:Owd K O H ks d vs F):Owd K O' (upd H l o) ks d vs F:=by
 refine Owd.mv (G:=F) ⟨fun a u q z=>?_,fun a z=>.inl (ho a z)⟩ ks (fun _ z=>z) h;rw[az]
 ·exact q
 ·intro za;subst za;rcases z with z|z
  ·exact z hl
  ·exact hf a z rfl
def noT:List (D×D)->Bool
 | (.tuple _,_)::_=>false
 | (.none,_)::_=>false
 |_=>true
def DGet.kr{kvs:List (Key×V)}{k:Key}(e:Rd H a (.dK kvs)):DGet H a (kV k) (bx kvs k):=.inl ⟨kvs,k,e,rfl,rfl⟩
def Ow.dict0(hk:noT ks=true)(h:Ow K O H (.dict ks) 0 v NoA):∃a vs,v=.ref a/\Rd H a (.dK vs)/\Owd K O H ks 0 vs NoA:=by
 obtain⟨a,vs,e,⟨_,h1,_,h2⟩|⟨z,_⟩|⟨_,⟨kk,b,h1,_⟩|⟨cn,C,h1,_⟩⟩⟩:=h
 ·exact⟨a,vs,e,h1,h2⟩
 ·exact absurd rfl z
 ·rw[h1]at hk;cases hk
 ·rw[h1]at hk;cases hk
def Ow.dict1{F:AS}(hd:d≠0)(h:Ow K O H (.dict ks) d v F):∃a vs,v=.ref a/\H a=some (.dK vs)/\F a/\∃F':AS,(∀b,F' b->F b/\b≠a)/\Owd K O H ks (dn d) vs F':=by
 obtain⟨a,vs,e,⟨z,_⟩|⟨_,h1,h2,h3⟩|⟨z,_⟩⟩:=h
 ·exact absurd z hd
 ·exact⟨a,vs,e,h1,h2,h3⟩
 ·exact absurd z hd
def cG:ME:=eC (.dict [])
def cL:D->D->Option D
 |.dict ks,q=>(kOf q).bind fun _=>aG ks q
 |_,_=>none
def dIn:D->D->Option D
 |q,.dict ks=>if noT ks=true then(kOf q).map fun _=>.bool (aG ks q).isSome else none
 |_,_=>none
def dL:D->D->Option D
 |q,.dict ks=>if noT ks=true then(kOf q).map fun _=>.bool (!(aG ks q).isSome)else none
 |_,_=>none
section
variable{a c o k:Expr}      
def Eh:PE X (.Dict [] [] pos) (tF K p ds ds 3 cG):=pe_dnewK.imp fun σ H Q ⟨Ox,en,R,t,en',e,hf,k⟩=>by
 cases hf;intro l hl;have n:NewTo H (upd H l (.dK [])) (fun b=>b=l):=bX hl;exact k (.ref l) _ R _ (Post.new e n.1 n.2) ⟨l,[],rfl,.inr (.inl ⟨by decide,av,rfl,NoA,fun _ z=>z.elim,rfl⟩)⟩
def IX(h:tF K p ds ds2 0 (e2 cL f1 f2) σ H Q):vx (tF K p ds ds1 d1 f1) (tF K p ds1 ds2 d2 f2) σ H Q:=by
 obtain⟨Ox,en,R,t,en',e,hf,k⟩:=h;unfold e2 at hf;obtain⟨⟨t1,en1⟩,h1,hf⟩:=zaa.mp hf;obtain⟨⟨t2,en2⟩,h2,hf⟩:=zaa.mp hf;obtain⟨t',h3,hf⟩:=zab.mp hf;cases hf;refine two (p1:=p) (p2:=p) e h1 h2 fun x y H2 R2 F1 F2 P o1 o2=>?_;rw[zbi]at P;have w1:=Ow.letgo P (fun _=>.inl) o1;cases t1 with
 |dict ks=>
  obtain⟨q,hq,h3⟩:=zaa.mp h3;have hk:noT ks=true:=by
   cases ks with
   |nil=>rfl
   |cons kv r=>
    obtain⟨k1,x1⟩:=kv;have go:(∃(kk:List Key) (b:Bool),(k1,x1)::r=[(.tuple (kk.map kD),.bool b)])\/(∃cn,(k1,x1)::r=[(.none,.str cn)])->False:=by
     rintro (⟨kk,b,h1⟩|⟨cn,h1⟩)
     ·cases h1;rw[c9 hq]at h3
      have:kEq (.tuple (kk.map kD)) (kD q)=false:=by cases q<;>rfl
      have e:aG [(PyData.tuple (kk.map kD),PyData.bool b)] (kD q)=none:=by
       unfold aG;rw[zbm,this];rfl
      rw[e]at h3;cases h3
     ·cases h1;rw[c9 hq]at h3
      have:kEq .none (kD q)=false:=by cases q<;>rfl
      have e:aG [(PyData.none,PyData.str cn)] (kD q)=none:=by
       unfold aG;rw[zbm,this];rfl
      rw[e]at h3;cases h3
    obtain⟨a,vs,_,⟨_,_,_,h2⟩|⟨z,_⟩|⟨_,⟨kk,b,h1,_⟩|⟨cn,C,h1,_⟩⟩⟩:=w1
    ·obtain⟨q',_,_,_,_,_,e2,_⟩:=h2;rw[e2];cases q'<;>rfl
    ·exact absurd rfl z
    ·exact(go (.inl ⟨kk,b,h1⟩)).elim
    ·exact(go (.inr ⟨cn,h1⟩)).elim
  obtain⟨a,vs,ex,ha,ow⟩:=w1.dict0 hk;rw[c9 hq]at h3;rcases ow.look q with⟨t',v,a1,a2,a3⟩|⟨z,_⟩
  ·rw[h3]at a1;cases a1;refine⟨a,v,ex,?_,k v H2 R2 NoA (P.less fun _ z=>z.elim) (by rw[fW];exact a3)⟩;rw[<-a2,dC hq o2];exact DGet.kr ha
  ·rw[h3]at z;cases z
 |_=>cases h3
def Ej(hu:X.A.units+1<cLine)(ho:PE X o (tF K p ds ds1 d1 f1))(hi:PE X k (tF K p ds1 ds2 d2 f2))(hs:qu k):PE X (.Subscript o k pos) (tF K p ds ds2 0 (e2 cL f1 f2)):=(uI hu ho hi hs).imp fun _ _ _=>IX
def dJ(i:Nat)(f:ME):ME:=fun en=>(en[i]?).join.bind fun _=>(f en).bind fun r=>match (r.2[i]?).join with
 |some (.dict ks)=>(kOf r.1).bind fun _=>(aG ks r.1).map fun t=>(t,r.2)
 |_=>none
def Er(hd:ds1[i]?=some 1)(h:tF K p ds ds1 0 (dJ i f) σ H Q):vx (gp i) (tF K p ds ds1 d1 f) σ H Q:=by
 obtain⟨Ox,en,R,t,en',e,hf,k⟩:=h;unfold dJ at hf;obtain⟨t0,h0,hf⟩:=zaa.mp hf;obtain⟨⟨t1,en1⟩,h1,hf⟩:=zaa.mp hf
 dsimp only at hf
 split at hf
 case h_2=>cases hf
 next ks h2=>
 obtain⟨q,hq,hf⟩:=zaa.mp hf;obtain⟨t',h3,hf⟩:=zab.mp hf;cases hf;obtain⟨v,d0,a1,_,a3⟩:=e.at_ i _ (aM h0);refine⟨v,a1,Ox,en,R,t1,_,e,h1,fun x H1 R1 F P o=>?_⟩;obtain⟨v',d',b1,b2,b3⟩:=P.env.at_ i _ (aM h2);rw[a1]at b1;cases b1;rw[hd]at b2;cases b2;obtain⟨l,vs,el,hl,hr,F',hf',ow⟩:=b3.dict1 (by decide);rw[c9 hq]at h3;rcases ow.look q with⟨t'',w,c1,c2,c3⟩|⟨z,_⟩
 ·rw[h3]at c1;cases c1;refine⟨l,w,el,?_,k w H1 R1 NoA (P.less fun _ z=>z.elim) ?_⟩
  ·rw[<-c2,dC hq o];exact DGet.k hl
  ·exact Ow.any0 _ (Ow.grow (fun a z=>z.imp id fun z=>z.elim (fun z=>False.elim z) Or.inr) _ (fun _ z=>z) c3)
 ·rw[h3]at z;cases z
def zT(hu:X.A.units+1<cLine)(hN:X.N[i]?=some x)(hv:Vis X.env.scope x)(h1:ds1[i]?=some 1)(hi:PE X k (tF K p ds ds1 d1 f))(hs:qu k)(hd:(x==("__debug__":Str))=false)(hcd:(x==("__classdict__":Str))=false):
  PE X (.Subscript (.Name x px) k pos) (tF K p ds ds1 0 (dJ i f)):=(uI hu (cv hN hv hd hcd) hi hs).imp fun _ _ _=>Er h1
def CD{neg:Bool}(h:tF K p ds ds2 3 (e2 (if neg then dL else dIn) f1 f2) σ H Q):(if neg then uC else GN) (tF K p ds ds1 d1 f1) (tF K p ds1 ds2 d2 f2) σ H Q:=by
 obtain⟨Ox,en,R,t,en',e,hf,k⟩:=h;unfold e2 at hf;obtain⟨⟨t1,en1⟩,h1,hf⟩:=zaa.mp hf;obtain⟨⟨t2,en2⟩,h2,hf⟩:=zaa.mp hf;obtain⟨t',h3,hf⟩:=zab.mp hf;cases hf;have go:∀(b:Bool->Bool),(∃q ks,t2=.dict ks/\noT ks=true/\kOf t1=some q/\t=.bool (b (aG ks t1).isSome))->tF K p ds ds1 d1 f1 σ H fun y H1=>tF K p ds1 ds2 d2 f2 σ H1 fun x H2=>∃a o,x=.ref a/\DGet H2 a y o/\Q (.bl (b o.isSome)) H2:=fun b ⟨q,ks,e1,hk,e2,e3⟩=>by
  subst e1 e3;refine two (p1:=p) (p2:=p) e h1 h2 fun x y H2 R2 F1 F2 P o1 o2=>?_;rw[zbi]at P;obtain⟨a,vs,ex,ha,ow⟩:=(Ow.letgo P (fun _=>.inr) o2).dict0 hk;rw[c9 e2]at k;rcases ow.look q with⟨t',v,a1,a2,a3⟩|⟨z1,z2⟩
  ·rw[a1]at k;refine⟨a,some v,ex,?_,k _ H2 R2 NoA (P.less fun _ z=>z.elim) rfl⟩;rw[<-a2,dC e2 o1];exact DGet.kr ha
  ·rw[z1]at k;refine⟨a,none,ex,?_,k _ H2 R2 NoA (P.less fun _ z=>z.elim) rfl⟩;rw[<-z2,dC e2 o1];exact DGet.kr ha
 cases neg with
 |true=>
  refine go (fun b=>!b) ?_;cases t2 with
  |dict ks=>
   have h4:(if noT ks=true then(kOf t1).map (fun _=>PyData.bool (!(aG ks t1).isSome))else none)=some t:=h3;by_cases hk:noT ks=true
   ·rw[if_pos hk]at h4;obtain⟨q,hq,e⟩:=zab.mp h4;exact⟨q,ks,rfl,hk,hq,e.symm⟩
   ·rw[if_neg hk]at h4;cases h4
  |_=>cases t1<;>cases h3
 |false=>
  refine go (fun b=>b) ?_;cases t2 with
  |dict ks=>
   have h4:(if noT ks=true then(kOf t1).map (fun _=>PyData.bool (aG ks t1).isSome)else none)=some t:=h3;by_cases hk:noT ks=true
   ·rw[if_pos hk]at h4;obtain⟨q,hq,e⟩:=zab.mp h4;exact⟨q,ks,rfl,hk,hq,e.symm⟩
   ·rw[if_neg hk]at h4;cases h4
  |_=>cases t1<;>cases h3
def PC.imp{t t':TE}(h:PC X op a b t)(hi:∀σ H Q,t' σ H Q->t σ H Q):PC X op a b t':=fun ρ s σ H Q I hw=>h ρ s σ H Q I (hi _ _ _ hw)
def HX(hu:X.A.units+1<cLine)(ha:PE X a (tF K p ds ds1 d1 f1))(hb:PE X b (tF K p ds1 ds2 d2 f2))(h1:behindInMarks .In b=false):PT X (.Compare a [.In] [b] pos) (tFT K p ds ds2 (tV (e2 dIn f1 f2))):=
 (sk ((Hi hu ha hb).imp fun _ _ _=>CD (neg:=false)) h1).imp fun _ _ _=>jU
def DG(hu:X.A.units+1<cLine)(ha:PE X a (tF K p ds ds1 d1 f1))(hb:PE X b (tF K p ds1 ds2 d2 f2))(h1:behindInMarks .NotIn b=false):PT X (.Compare a [.NotIn] [b] pos) (tFT K p ds ds2 (tV (e2 dL f1 f2))):=
 (sk ((xb hu ha hb).imp fun _ _ _=>CD (neg:=true)) h1).imp fun _ _ _=>jU
def bO(i:Nat)(fk fe:ME):MS:=fun en=>(fe en).bind fun r=>match (r.2[i]?).join with
 |some _=>(fk r.2).bind fun q=>match (q.2[i]?).join with
  |some (.dict ks)=>(kOf q.1).bind fun _=>if ks.length<sizeLine then some (.nx (q.2.set i (some (.dict (cZ ks q.1 r.1)))))else none
  |_=>none
 |none=>none
def DP(hd:ds2[i]?=some 1)(h:tFS K J ds ds2 (bO i fk fe) Dn σ H):vC (gp i) (tF K false ds1 ds2 d2 fk) (tF K false ds ds1 0 fe) Dn σ H:=by
 obtain⟨Ox,en,R,fl,e,hf,k⟩:=h;unfold bO at hf;obtain⟨⟨t1,en1⟩,h1,hf⟩:=zaa.mp hf
 dsimp only at hf
 split at hf
 case h_2=>cases hf
 next tt h0=>
 obtain⟨⟨t2,en2⟩,h2,hf⟩:=zaa.mp hf
 dsimp only at hf
 split at hf
 case h_2=>cases hf
 next ks h3=>
 obtain⟨q,hq,hf⟩:=zaa.mp hf;by_cases ξ:ks.length<sizeLine
 case neg=>rw[if_neg ξ]at hf;cases hf
 rw[if_pos ξ]at hf;cases hf;refine⟨Ox,en,R,t1,en1,e,h1,fun x H1 R1 F1 P1 o1=>?_⟩;obtain⟨v0,d0,a1,_,_⟩:=P1.env.at_ i tt (aM h0);refine⟨v0,a1,?_⟩;refine⟨U F1 Ox,en1,R1,t2,en2,P1.env,h2,fun y H2 R2 F2 P2 o2=>?_⟩;have P:=P1.trans P2;have o1':=Ow.over P1.env P2 o1;have w1:=Ow.letgo P (fun _=>.inl) o1';obtain⟨v',d',b1,b2,b3⟩:=P.env.at_ i _ (aM h3);rw[a1]at b1;cases b1;rw[hd]at b2;cases b2;obtain⟨l,vs,el,hl,hr,F',hf',ow⟩:=b3.dict1 (by decide);have eq:=dC hq o2;subst eq;refine⟨l,_,el,DPut.k hl (by rw[ow.len];exact ξ),?_⟩;have hi:i<en2.length:=(zah.mp (aM h3)).1;have gG:∀a,(fun a=>R2 i a) a->R2 i a\/U F1 F2 a:=fun a z=>.inl z;have sub:=jg (i:=i) (R1:=R2) (Ox:=Ox) (G:=fun a=>R2 i a) (F':=NoA) (F:=U F1 F2) gG (fun _ z=>z.elim);have Ol:Own R2 (U (U F1 F2) Ox) l:=.inl ⟨i,hr⟩;have PS:=P.slot (G:=fun a=>R2 i a) (F':=NoA) (o2:=.dK (b5 vs q x)) (t:=.dict (cZ ks t2 t1)) hr hi a1 hd gG (fun _ z=>z.elim) (fun _ _ z=>z) ?_
 ·exact k σ _ _ PS.s
 refine⟨l,b5 vs q x,el,.inr (.inl ⟨by decide,av,hr,NoA,fun _ z=>z.elim,?_⟩)⟩;rw[c9 hq];refine Owd.put0 (Owd.past sub Ol (fun _ z=>z.elim) (Owd.any0 ks ow)) ?_;refine Ow.past (O:=Own R2 Ox) (fun a z=>?_) (.inl ⟨i,hr⟩) (fun _ z=>z.elim) w1;rcases z with⟨j,z⟩|z|z
 ·by_cases hj:j=i
  ·rw[if_pos hj]at z;exact .inl ⟨i,z⟩
  ·rw[if_neg hj]at z;exact .inl ⟨j,z⟩
 ·exact z.elim
 ·exact .inr z
def zB(hu:X.A.units+1<cLine)(hN:X.N[i]?=some x)(hv:Vis X.env.scope x)(he:PE X e (tF K false ds ds1 0 fe))(hk:PE X k (tF K false ds1 ds2 d2 fk))(h1:ds2[i]?=some 1)
  (hdb:(x==("__debug__":Str))=false) (hcd:(x==("__classdict__":Str))=false) (hs:swapsWith e (some (.Subscript (.Name x px) k ζ)) pos.line X.env=pure false):
  PS X (.Assign [.Subscript (.Name x px) k ζ] e pos) (tFS K J ds ds2 (bO i fk fe)):=(uH hu (cv hN hv hdb hcd) hk he hs).imp fun _ _ _=>DP h1
end
def evP:List (ME×ME)->En->Option (List (D×D)×En)
 |[],en=>some ([],en)
 | (fk,fv)::r,en=>(fk en).bind fun x=>(fv x.2).bind fun y=>(evP r y.2).bind fun z=>(kOf x.1).map fun _=>((x.1,y.1)::z.1,z.2)
def Hs(ks:List (D×D)):List (D×D):=ks.foldl (fun acc kv=>cZ acc kv.1 kv.2) []
def jw(fs:List (ME×ME)):ME:=fun en=>(evP fs en).bind fun r=>if r.1.length<=15 then some (.dict (Hs r.1),r.2)else none
def OwP(K:zbY)(O:AS)(H:Hp):List (D×D)->List (V×V)->Prop
 |[],ps=>ps=[]
 | (k,t)::r,ps=>∃q v s,ps=(kV q,v)::s/\k=kD q/\Ow K O H t 0 v NoA/\OwP K O H r s
section
variable{a c o k:Expr}         
theorem OwP.mv{O O':AS}{H H':Hp}(m:Mv O O' NoA H H'):∀{ks:List (D×D)} {ps:List (V×V)},OwP K O H ks ps->OwP K O' H' ks ps
 |[],_,h=>h
 | (k,t)::r,_,h=>by
  obtain⟨q,v,s,e1,e2,o,h⟩:=h;exact⟨q,v,s,e1,e2,Ow.mv m t (fun _ z=>z) o,OwP.mv m h⟩
def trs(K:zbY)(p:Bool)(ds:List Nat)(fs:List (ME×ME)):List (TE×TE):=fs.map fun q=>(tF K p ds ds 3 q.1,tF K p ds ds 0 q.2)
def C4{F:AS}(P:Post K p ds1 Ox σ H en R en1 H1 R1 F):Mv (Own R Ox) (Own R1 Ox) NoA H H1:=by
 refine⟨fun a o q z=>P.keep a o q fun i zi=>?_,fun a z=>?_⟩
 ·rcases z with z|z
  ·exact z (.inl ⟨i,zi⟩)
  ·exact z
 ·rcases z with z|z
  ·exact(P.own a (.inr z)).imp .inl id
  ·exact .inl (.inr z)
theorem u7:∀{fs:List (ME×ME)} {σ:St} {H:Hp} {Ox:AS} {en en':En} {R:Nat->AS} {ks:List (D×D)} {QP:List (V×V)->Hp->Prop},EnvOk K ds Ox H σ en R->evP fs en=some (ks,en') ->
  (∀ps H' R',Post K p ds Ox σ H en R en' H' R' NoA->OwP K (Own R' Ox) H' ks ps->QP ps H')->oC (trs K p ds fs) σ H QP
 |[],σ,H,Ox,en,en',R,ks,QP,e,hf,k=>by
  cases hf;exact k [] H R (Post.refl e) rfl
 | (fk,fv)::r,σ,H,Ox,en,en',R,ks,QP,e,hf,k=>by
  unfold evP at hf;obtain⟨⟨t1,en1⟩,h1,hf⟩:=zaa.mp hf;obtain⟨⟨t2,en2⟩,h2,hf⟩:=zaa.mp hf;obtain⟨⟨ks3,en3⟩,h3,hf⟩:=zaa.mp hf;obtain⟨q,hq,hf⟩:=zab.mp hf;cases hf;refine⟨Ox,en,R,t1,en1,e,h1,fun x H1 R1 F1 P1 o1=>?_⟩;refine⟨Ox,en1,R1,t2,en2,P1.env0,h2,fun y H2 R2 F2 P2 o2=>?_⟩;refine u7 P2.env0 h3 fun ps H3 R3 P3 op=>?_;have PP:=(P1.after P2).after P3;rw[zbi,zbi]at PP;refine k _ H3 R3 PP ⟨q,y,ps,?_,c9 hq,?_,op⟩
  ·rw[dC hq o1]
  ·exact Ow.mv (C4 P3) t2 (fun _ z=>z) (Ow.letgo P2 (fun _ z=>z) o2)
theorem sH{O:AS}:∀{ks:List (D×D)} {kvs:List (Key×V)} {acc:List (D×D)} {avs:List (Key×V)},OwP K O H ks (kvs.map fun kv=>(kV kv.1,kv.2))->Owd K O H acc 0 avs NoA->Owd K O H (ks.foldl (fun acc kv=>cZ acc kv.1 kv.2) acc) 0 (ic avs kvs) NoA
 |[],kvs,acc,avs,h,ha=>by
  have:kvs=[]:=List.map_eq_nil_iff.mp h;subst this;exact ha
 | (k,t)::r,kvs,acc,avs,h,ha=>by
  obtain⟨q,v,s,e1,e2,o,h⟩:=h;cases kvs with
  |nil=>cases e1
  |cons kv kvs=>
   rw[zar]at e1;injection e1 with e3 e4
   injection e3 with e5 e6
   have:=Hx e5;subst this e6 e4 e2;exact sH (ks:=r) (kvs:=kvs) h (ha.put0 o)
theorem uJ{O:AS}:∀{ks:List (D×D)} {ps:List (V×V)},OwP K O H ks ps->∃kvs:List (Key×V),ps=kvs.map (fun kv=>(kV kv.1,kv.2))/\kvs.length=ks.length
 |[],_,h=>⟨[],h,rfl⟩
 | (k,t)::r,_,h=>by
  obtain⟨q,v,s,e1,e2,o,h⟩:=h;obtain⟨kvs,e3,e4⟩:=uJ h;exact⟨(q,v)::kvs,by rw[e1,e3];rfl,by rw[zac,zac,e4]⟩
def IW(h:tF K p ds ds 1 (jw fs) σ H Q):Cg (trs K p ds fs) σ H Q:=by
 obtain⟨Ox,en,R,t,en',e,hf,k⟩:=h;unfold jw at hf;obtain⟨⟨ks,en1⟩,h1,hf⟩:=zaa.mp hf;by_cases hl:ks.length<=15
 case neg=>rw[if_neg hl]at hf;cases hf
 rw[if_pos hl]at hf;cases hf;intro l hl0;have n0:=bX (o:=.dK []) hl0;have P0:Post K true ds Ox σ H en R en (upd H l (.dK [])) R (fun b=>b=l):=Post.new e n0.1 n0.2;refine u7 P0.env h1 fun ps H2 R2 P op=>?_;obtain⟨kvs,e1,e2⟩:=uJ op;have lO:U (fun b=>b=l) Ox l:=.inl rfl;have hl2:H2 l=some (.dK []):=P.keep l _ av fun i z=>by
  obtain⟨o,q⟩:=e.dom l (.inl ⟨i,z⟩);rw[hl0]at q;cases q
 have nl2:∀i,¬R2 i l:=fun i z=>P.env.dx i l z (.inr lO);refine⟨hl2,kvs,e1,by omega,?_⟩;have PP:=P0.trans P;rw[zaG]at PP;have eU:U (fun b=>b=l) NoA=(fun b=>b=l):=eJ fun a=>⟨fun z=>z.elim id fun z=>z.elim,.inl⟩;rw[eU]at PP;have gV:∀a o,H2 a=some o->a≠l->upd H2 l (.dK (ic [] kvs)) a=some o:=fun a o q n=>by rw[az n];exact q
 have OO:∀a,Own R2 (U (fun b=>b=l) Ox) a->Own R2 (U (U (fun b=>b=l) Ox) NoA) a:=fun a z=>z.imp id .inl;refine k (.ref l) _ R2 (fun b=>b=l) ⟨⟨fun j u hu=>?_,PP.env.dj,PP.env.dx,fun a z=>?_,PP.env.l1,PP.env.l2⟩,PP.fx,fun a o q n=>?_,PP.own,fun a o q=>?_,fun hp=>?_⟩ ⟨l,_,rfl,.inr (.inl ⟨by decide,av,rfl,NoA,fun _ z=>z.elim,?_⟩)⟩
 ·obtain⟨v',d',g1,g2,g3⟩:=PP.env.at_ j u hu;refine⟨v',d',g1,g2,Ow.mv (G:=R2 j) ⟨fun a o q z=>gV a o q fun za=>?_,fun a z=>.inl z⟩ u (fun _ z=>z) g3⟩;subst za;rcases z with z|z
  ·exact z (.inr lO)
  ·exact nl2 j z
 ·by_cases ha:a=l
  ·subst ha;exact⟨_,av⟩
  ·obtain⟨o,q⟩:=PP.env.dom a z;exact⟨o,gV a o q ha⟩
 ·refine gV a o (PP.keep a o q n) fun za=>?_;subst za;rw[hl0]at q;cases q
 ·obtain⟨o',q'⟩:=PP.dom a o q;by_cases ha:a=l
  ·subst ha;exact⟨_,av⟩
  ·exact⟨o',gV a o' q' ha⟩
 ·obtain⟨b1,b2,b3⟩:=PP.pure hp;refine⟨b1,b2,fun a o q=>gV a o (b3 a o q) fun za=>?_⟩;subst za;rw[hl0]at q;cases q
 ·have op2:OwP K (Own R2 (U (fun b=>b=l) Ox)) (upd H2 l (.dK (ic [] kvs))) ks (kvs.map fun kv=>(kV kv.1,kv.2)):=by
   rw[e1]at op;refine OwP.mv ⟨fun a o q z=>gV a o q fun za=>?_,fun a z=>.inl z⟩ op;subst za;rcases z with z|z
   ·exact z (.inr lO)
   ·exact z
  exact sH op2 rfl
def Ei{keys:List (Option Expr)}{values:List Expr}(h:PPs X pos keys values (trs K p ds fs))(hall:keys.all (·.isSome)=true)(hl:keys.length=values.length)(h0:keys≠[])(h15:keys.length<=15):
  PE X (.Dict keys values pos) (tF K p ds ds 1 (jw fs)):=(C8 h hall hl h0 h15).imp fun _ _ _=>IW
def Im:PPs X pos [] [] (trs K p ds []):=C3
def DZ{k v:Expr}{ks:List (Option Expr)}{vs:List Expr}{fv:ME}(hk:PE X k (tF K p ds ds 3 fk))(hv:PE X v (tF K p ds ds 0 fv))(hr:PPs X pos ks vs (trs K p ds fs)):PPs X pos (some k::ks) (v::vs) (trs K p ds ((fk,fv)::fs)):=yO hk hv hr
def LX(i j:Nat)(fa:MA):MS:=fun en=>(fa en).bind fun r=>match r.1 with
 |[.inl a,.inl b]=>some (.nx ((r.2.set i (some a)).set j (some b)))
 |_=>none
end
section
variable{ws:List V}{x:V} 
def b7:List D->Option (List Int)
 |[]=>some []
 |.int i::r=>(b7 r).map (i::·)
 |_::_=>none
theorem nW:∀{ts:List D} {vs:List V} {bs:List Int},Ows K O H ts 0 vs NoA->b7 ts=some bs->vs=bs.map V.int
 |[],_,_,h,hb=>by cases hb;exact h
 |.int b::r,_,_,h,hb=>by
  obtain⟨v,w,F1,F2,e,_,_,_,h4,h5⟩:=h;obtain⟨bs',h6,h7⟩:=zab.mp hb;subst e h7;rw[show v=.int b from h4,nW (Ows.any0 r h5) h6];rfl
 |.none::_,_,_,_,hb=>by cases hb
 |.bool _::_,_,_,_,hb=>by cases hb
 |.str _::_,_,_,_,hb=>by cases hb
 |.list _::_,_,_,_,hb=>by cases hb
 |.tuple _::_,_,_,_,hb=>by cases hb
 |.dict _::_,_,_,_,hb=>by cases hb
def LW:List D->Option D
 |[.list ts]=>(b7 ts).map fun ns=>.int ns.sum
 |_=>none
end
section
variable{ws:List V}{b:Addr}
def yv(ts us:List D):List D:=List.zipWith (fun x y=>.tuple [x,y]) ts us
def LO(fa:MA):MI:=fun en=>(fa en).bind fun r=>match r.1 with
 |[.inl (.list ts),.inl (.list us)]=>some (yv ts us,r.2)
 |_=>none
end
def eM(g:Str->List D->Option D)(f:ME)(fa:MA):ME:=fun en=>(f en).bind fun r=>match r.1 with
 |.str z=>(fa r.2).bind fun q=>(vals q.1).bind fun ts=>(g z ts).map fun t=>(t,q.2)
 |_=>none
def LN:Str->List D->Option D
 |sep,[.list ts]=>(strsOf ts).bind fun ys=>if sep.length<=16/\(ys.map (·.length)).sum+ys.length<=1048576 then some (.str (Txt.join sep ys))else none
 |sep,[.tuple ts]=>(strsOf ts).bind fun ys=>if sep.length<=16/\(ys.map (·.length)).sum+ys.length<=1048576 then some (.str (Txt.join sep ys))else none
 |_,_=>none
where strsOf:List D->Option (List Str)
 |[]=>some []
 |.str z::r=>(strsOf r).map (z::·)
 |_::_=>none
def Lo:Str->List D->Option D
 |z,[.str y]=>some (.bool (Txt.startswith z y))
 |_,_=>none
def LP:Str->List D->Option D
 |z,[.str y]=>some (.bool (Txt.endswith z y))
 |_,_=>none
section
variable{s:Shared} 
mutual
theorem Ow.reads(I:Inv X ρ σ H s):∀(t:D) {v:V} {u:Value},noDict t=true->Ow X.K O H t 0 v NoA->RelV v u->∃as,Reads s.heap u t as
 |.none,_,_,_,h,r=>by
  cases(show _=V.non from h);cases r;exact⟨_,.none⟩
 |.bool b,_,_,_,h,r=>by
  cases(show _=V.bl b from h);cases r;exact⟨_,.bool _⟩
 |.int i,_,_,_,h,r=>by
  cases(show _=V.int i from h);obtain⟨t,rfl⟩:=r;exact⟨_,.int _ _⟩
 |.str x,_,_,_,h,r=>by
  cases(show _=V.str x from h);obtain⟨t,rfl⟩:=r;exact⟨_,.str _ _⟩
 |.list ts,_,_,hn,h,r=>by
  obtain⟨p,vs,rfl,fz,w⟩:=h.lst0;cases r;obtain⟨its,rv,⟨o,n,e1,e2,_,e3⟩,_⟩:=I.list fz.sq;obtain⟨as,ra⟩:=Ows.reads I ts (by simpa[noDict]using hn) w rv;exact⟨_,.list e1 e2 e3 (by simpa using ra)⟩
 |.tuple ts,_,_,hn,h,r=>by
  obtain⟨p,vs,rfl,fz,w⟩:=h.tup0;cases r;obtain⟨its,rv,⟨o,e1,e2,n,e3⟩,_⟩:=I.tuple fz.sq;obtain⟨as,ra⟩:=Ows.reads I ts (by simpa[noDict]using hn) w rv;exact⟨_,.tuple e1 e2 e3 (by simpa using ra)⟩
 |.dict _,_,_,hn,_,_=>by simp[noDict]at hn
theorem Ows.reads(I:Inv X ρ σ H s):∀(ts:List D) {vs:List V} {us:List Value},aC ts=true->Ows X.K O H ts 0 vs NoA->Vals vs us->∃as,ReadsAll s.heap us ts as
 |[],_,_,_,h,r=>by
  cases(show _=[]from h);cases r;exact⟨_,.nil⟩
 |t::ts,_,_,hn,h,r=>by
  obtain⟨v,q,F1,F2,e,_,_,_,h4,h5⟩:=h;subst e;have hn':noDict t=true/\aC ts=true:=by simpa[aC]using hn
  cases r with
  |cons ru rr=>
   obtain⟨as,a1⟩:=Ow.reads I t hn'.1 (Ow.any0 t h4) ru;obtain⟨bs,a2⟩:=Ows.reads I ts hn'.2 (Ows.any0 ts h5) rr;exact⟨_,.cons a1 a2⟩
end
end
section
open PySem.SeqAt Classical
variable{s:Shared} 
noncomputable def eqF(X:Cx)(O:AS)(H:Hp)(a:D)(u:Value):Bool:=decide (∃d v,RelV v u/\noDict d=true/\Ow X.K O H d 0 v NoA/\peq d a=true)
def pj(I:Inv X ρ σ H s){a d:D}{u:Value}(r:RelV v u)(hn:noDict d=true)(o:Ow X.K O H d 0 v NoA):eqF X O H a u=peq d a:=by
 unfold eqF;cases h:peq d a with
 |true=>exact zaB ⟨d,v,r,hn,o,h⟩
 |false=>
  refine zaA fun⟨d',v',r',hn',o',h'⟩=>?_;have e:=r.inj r';subst e
  have:=Ow.inj I d d' o o' hn;subst this;rw[h]at h';cases h'
theorem jY(I:Inv X ρ σ H s){a:D}:∀{ts:List D} {vs:List V} {us:List Value},aC ts=true->Ows X.K O H ts 0 vs NoA->Vals vs us->us.any (eqF X O H a)=ts.any fun t=>peq t a
 |[],_,_,_,h,r=>by
  cases(show _=[]from h);cases r;rfl
 |t::ts,_,_,hn,h,r=>by
  obtain⟨v,q,F1,F2,e,_,_,_,h4,h5⟩:=h;subst e;have hn':noDict t=true/\aC ts=true:=by simpa[aC]using hn
  cases r with
  |cons ru rr=>rw[List.any_cons,List.any_cons,pj I ru hn'.1 (Ow.any0 t h4),jY I hn'.2 (Ows.any0 ts h5) rr]
theorem gt(I:Inv X ρ σ H s){A:Around}{a:D}{x:V}{v:Value}(hna:noDict a=true)(oa:Ow X.K O H a 0 x NoA)(ra:RelV x v)(hu:A.units+60+1<cLine):∀{ts:List D} {vs:List V} {us:List Value},aC ts=true->bJ ts<=60->Ows X.K O H ts 0 vs NoA->Vals vs us->∀u∈us,EqAt A s u v (eqF X O H a u)
 |[],_,_,_,_,h,r=>by
  cases(show _=[]from h);cases r;exact fun u hu=>by cases hu
 |t::ts,_,_,hn,hdp,h,r=>by
  obtain⟨w,q,F1,F2,e,_,_,_,h4,h5⟩:=h;subst e;have hn':noDict t=true/\aC ts=true:=by simpa[aC]using hn
  have hd':cK t<=60/\bJ ts<=60:=by simp only[bJ]at hdp;omega
  cases r with
  |cons ru rr=>
   intro u' hu';rcases zay.mp hu' with rfl|hu'
   ·rw[pj I ru hn'.1 (Ow.any0 t h4)];exact(wp I 60 t a A w x _ v hd'.1 hn'.1 hna (Ow.any0 t h4) oa ru ra hu).1
   ·exact gt I hna oa ra hu hn'.2 hd'.2 (Ows.any0 ts h5) rr u' hu'
def inL:D->D->Option D
 |x,.list ts=>grd (noDict x=true/\aC ts=true/\bJ ts<=60) (.bool (ts.any fun t=>peq t x))
 |x,.tuple ts=>grd (noDict x=true/\aC ts=true/\bJ ts<=60) (.bool (ts.any fun t=>peq t x))
 |_,_=>none
def sC:D->D->Option D
 |x,.list ts=>grd (noDict x=true/\aC ts=true/\bJ ts<=60) (.bool (!ts.any fun t=>peq t x))
 |x,.tuple ts=>grd (noDict x=true/\aC ts=true/\bJ ts<=60) (.bool (!ts.any fun t=>peq t x))
 |_,_=>none
def J6(hK:X.K=K)(hu:X.A.units+64<cLine):OpR X (compareOp .In) (rF2 K inL 3):=by
 subst hK;intro ρ s σ H x y v u Q I rx ry ⟨O,a,b,t,oa,ob,hd,hg,k⟩;have hu1:X.A.in1.units+60+1<cLine:=by show X.A.units+1+60+1<cLine;omega
 cases b with
 |list ts=>
  obtain⟨⟨c1,c2,c3⟩,rfl⟩:=bA hg;obtain⟨p,vs,rfl,fz,w⟩:=ob.lst0;cases ry;obtain⟨its,r,pl,hz⟩:=I.list fz.sq;refine SeqAt.in_listAt (eqF X O H a) pl.isList (fun z hz=>gt I c1 oa rx hu1 c2 c3 w r z (by simpa using hz)) ⟨.bl _,H,I,rfl,?_⟩;rw[show its.toArray.any (eqF X O H a)=its.any (eqF X O H a)by simp,jY I c2 w r];exact k _ H NoA .refl rfl
 |tuple ts=>
  obtain⟨⟨c1,c2,c3⟩,rfl⟩:=bA hg;obtain⟨p,vs,rfl,fz,w⟩:=ob.tup0;cases ry;obtain⟨its,r,pl,hz⟩:=I.tuple fz.sq;refine SeqAt.in_tupleAt (eqF X O H a) pl (fun z hz=>gt I c1 oa rx hu1 c2 c3 w r z (by simpa using hz)) ⟨.bl _,H,I,rfl,?_⟩;rw[show its.toArray.any (eqF X O H a)=its.any (eqF X O H a)by simp,jY I c2 w r];exact k _ H NoA .refl rfl
 |_=>cases hg
def zG(hK:X.K=K)(hu:X.A.units+64<cLine):OpR X (compareOp .NotIn) (rF2 K sC 3):=by
 subst hK;intro ρ s σ H x y v u Q I rx ry ⟨O,a,b,t,oa,ob,hd,hg,k⟩;have hu1:X.A.in1.units+60+1<cLine:=by show X.A.units+1+60+1<cLine;omega
 cases b with
 |list ts=>
  obtain⟨⟨c1,c2,c3⟩,rfl⟩:=bA hg;obtain⟨p,vs,rfl,fz,w⟩:=ob.lst0;cases ry;obtain⟨its,r,pl,hz⟩:=I.list fz.sq;refine SeqAt.notIn_listAt (eqF X O H a) pl.isList (fun z hz=>gt I c1 oa rx hu1 c2 c3 w r z (by simpa using hz)) ⟨.bl _,H,I,rfl,?_⟩;rw[show its.toArray.any (eqF X O H a)=its.any (eqF X O H a)by simp,jY I c2 w r];exact k _ H NoA .refl rfl
 |tuple ts=>
  obtain⟨⟨c1,c2,c3⟩,rfl⟩:=bA hg;obtain⟨p,vs,rfl,fz,w⟩:=ob.tup0;cases ry;obtain⟨its,r,pl,hz⟩:=I.tuple fz.sq;refine SeqAt.notIn_tupleAt (eqF X O H a) pl (fun z hz=>gt I c1 oa rx hu1 c2 c3 w r z (by simpa using hz)) ⟨.bl _,H,I,rfl,?_⟩;rw[show its.toArray.any (eqF X O H a)=its.any (eqF X O H a)by simp,jY I c2 w r];exact k _ H NoA .refl rfl
 |_=>cases hg
end
def dns:Nat->Nat->Nat
 |0,d=>d
 |m+1,d=>dns m (dn d)
theorem tG:∀m,dns m 0=0
 |0=>rfl
 |m+1=>tG m
def Jf{m:Nat}(h:dns m d≠0):d≠0:=fun z=>h (by rw[z];exact tG m)
def aW:D->List Nat->Option D
 |t,[]=>some t
 |.list ts,k::π=>(ts[k]?).bind fun u=>aW u π
 |.tuple ts,k::π=>(ts[k]?).bind fun u=>aW u π
 |_,_::_=>none
def ao:D->List Nat->D->D
 |_,[],u=>u
 |.list ts,k::π,u=>.list (ts.set k ((ts[k]?).elim .none fun c=>ao c π u))
 |.tuple ts,k::π,u=>.tuple (ts.set k ((ts[k]?).elim .none fun c=>ao c π u))
 |t,_::_,_=>t
def PathV(H:Hp):V->List Nat->V->Prop
 |v,[],w=>v=w
 |v,k::π,w=>∃a vs u,v=.ref a/\(H a=some (.lst vs)\/H a=some (.tup vs))/\vs[k]?=some u/\PathV H u π w
theorem PathV.mono{H H':Hp}(hk:∀a o,H a=some o->H' a=some o):∀{π:List Nat} {v w:V},PathV H v π w->PathV H' v π w
 |[],_,_,h=>h
 |_::_,_,_,⟨a,vs,u,e,h1,h2,h3⟩=>⟨a,vs,u,e,h1.imp (hk _ _) (hk _ _),h2,h3.mono hk⟩
theorem PathV.det{H:Hp}:∀{π:List Nat} {v w w':V},PathV H v π w->PathV H v π w'->w=w'
 |[],_,_,_,h,g=>h.symm.trans g
 |_::_,_,_,_,⟨a,vs,u,e,h1,h2,h3⟩,⟨a',vs',u',e',g1,g2,g3⟩=>by
  rw[e]at e';cases e'
  have:vs=vs':=by
   rcases h1 with h1|h1<;>rcases g1 with g1|g1<;>rw[h1]at g1<;>cases g1<;>rfl
  subst this;rw[h2]at g2;cases g2;exact h3.det g3
theorem PathV.snoc{H:Hp}{a:Addr}{vs:List V}{u:V}{k:Nat}(h1:H a=some (.lst vs)\/H a=some (.tup vs))(h2:vs[k]?=some u):∀{π:List Nat} {v:V},PathV H v π (.ref a)->PathV H v (π++[k]) u
 |[],_,h=>⟨a,vs,u,h,h1,h2,rfl⟩
 |_::_,_,⟨a',vs',u',e,g1,g2,g3⟩=>⟨a',vs',u',e,g1,g2,PathV.snoc h1 h2 g3⟩
theorem Ows.zoom{d:Nat}:∀{ts:List D} {vs:List V} {F:AS} {k:Nat} {u:D},Ows K O H ts d vs F->ts[k]?=some u ->
  ∃w,∃F1 F2:AS,vs[k]?=some w/\(∀b,F1 b->F b)/\(∀b,F2 b->F b)/\(∀b,F1 b->¬F2 b)/\Ow K O H u d w F1 /\
   ∀(O':AS) (H':Hp) (u':D) (G:AS),Mv O O' F2 H H'->(∀b,G b->¬F2 b)->Ow K O' H' u' d w G->Ows K O' H' (ts.set k u') d vs (fun b=>F2 b\/G b)
 |[],_,_,k,u,_,h=>by simp at h
 |t::ts,_,F,k,u,h,hk=>by
  obtain⟨v,r,F1,F2,e,s1,s2,s3,h4,h5⟩:=h;subst e;cases k with
  |zero=>
   have:t=u:=by simpa using hk
   subst this;refine⟨v,F1,F2,rfl,s1,s2,s3,h4,fun O' H' u' G m hd o=>?_⟩;exact⟨v,r,G,F2,rfl,fun _ z=>.inr z,fun _ z=>.inl z,hd,o,Ows.mv m ts (fun _ z=>z) h5⟩
  |succ k=>
   obtain⟨w,G1,G2,g1,g2,g3,g4,g5,g6⟩:=Ows.zoom (k:=k) h5 (by simpa using hk);refine⟨w,G1,fun b=>F1 b\/G2 b,by simpa using g1,fun b z=>s2 b (g2 b z),fun b z=>z.elim (s1 b) fun z=>s2 b (g3 b z),fun b z z2=>?_,g5,fun O' H' u' G m hd o=>?_⟩
   ·rcases z2 with z2|z2
    ·exact s3 b z2 (g2 b z)
    ·exact g4 b z z2
   ·refine⟨v,r,F1,fun b=>G2 b\/G b,rfl,fun b z=>.inl (.inl z),fun b z=>z.imp .inr id,fun b z z2=>?_,Ow.mv ⟨m.k,m.o⟩ t (fun b z=>.inl z) h4,g6 O' H' u' G ⟨fun a o q z=>m.k a o q (z.imp id .inr),m.o⟩ (fun b z z2=>hd b z (.inr z2)) o⟩;rcases z2 with z2|z2
    ·exact s3 b z (g3 b z2)
    ·exact hd b z2 (.inl z)
theorem Ow.zoom:∀{π:List Nat} {t u:D} {d:Nat} {v:V} {F:AS},Ow K O H t d v F->aW t π=some u->dns π.length d≠0 ->
  ∃w,∃F1 Fr:AS,PathV H v π w/\(∀b,F1 b->F b)/\(∀b,Fr b->F b)/\(∀b,F1 b->¬Fr b)/\Ow K O H u (dns π.length d) w F1 /\
   ∀(O':AS) (H':Hp) (u':D) (G:AS),Mv O O' Fr H H'->(∀b,G b->¬Fr b)->Ow K O' H' u' (dns π.length d) w G->Ow K O' H' (ao t π u') d v (fun b=>Fr b\/G b)
 |[],t,u,d,v,F,h,hp,hz=>by
  cases hp;refine⟨v,F,NoA,rfl,fun _ z=>z,fun _ z=>z.elim,fun _ _ z=>z,h,fun O' H' u' G m hd o=>?_⟩;have e:(fun b=>NoA b\/G b)=G:=eJ fun b=>⟨fun z=>z.elim (fun z=>z.elim) id,.inr⟩;rw[e];exact o
 |k::π,t,u,d,v,F,h,hp,hz=>by
  have hz1:dns π.length (dn d)≠0:=hz;have hd0:d≠0:=Jf (m:=π.length+1) hz;cases t with
  |list ts=>
   obtain⟨c,p1,p2⟩:=zaa.mp hp;obtain⟨a,vs,e,⟨h0,_⟩|⟨_,h1,h2,F',hf,h3⟩⟩:=h
   ·exact absurd h0 hd0
   obtain⟨w,G1,G2,g1,g2,g3,g4,g5,g6⟩:=h3.zoom p1;obtain⟨w2,F1,Fr,q1,q2,q3,q4,q5,q6⟩:=Ow.zoom g5 p2 hz1;refine⟨w2,F1,fun b=>b=a\/G2 b\/Fr b,⟨a,vs,w,e,.inl h1,g1,q1⟩,fun b z=>(hf b (g2 b (q2 b z))).1,fun b z=>?_,fun b z z2=>?_,q5,fun O' H' u' G m hd o=>?_⟩
   ·rcases z with z|z|z
    ·rw[z];exact h2
    ·exact(hf b (g3 b z)).1
    ·exact(hf b (g2 b (q3 b z))).1
   ·rcases z2 with z2|z2|z2
    ·exact(hf b (g2 b (q2 b z))).2 z2
    ·exact g4 b (q2 b z) z2
    ·exact q4 b z z2
   ·have o1:=q6 O' H' u' G ⟨fun x y q z=>m.k x y q (z.imp id fun z=>.inr (.inr z)),m.o⟩ (fun b z z2=>hd b z (.inr (.inr z2))) o;have o2:=g6 O' H' (ao c π u') (fun b=>Fr b\/G b) ⟨fun x y q z=>m.k x y q (z.imp id fun z=>.inr (.inl z)),m.o⟩ (fun b z z2=>?_) o1
    ·refine⟨a,vs,e,.inr ⟨hd0,m.k _ _ h1 (.inr (.inl rfl)),.inl (.inl rfl),fun b=>G2 b\/Fr b\/G b,fun b z=>?_,?_⟩⟩
     ·rcases z with z|z|z
      ·exact⟨.inl (.inr (.inl z)),(hf b (g3 b z)).2⟩
      ·exact⟨.inl (.inr (.inr z)),(hf b (g2 b (q3 b z))).2⟩
      ·exact⟨.inr z,fun ze=>hd b z (.inl ze)⟩
     ·rw[p1];exact o2
    ·rcases z with z|z
     ·exact g4 b (q3 b z) z2
     ·exact hd b z (.inr (.inl z2))
  |tuple ts=>
   obtain⟨c,p1,p2⟩:=zaa.mp hp;obtain⟨a,vs,e,⟨h0,_⟩|⟨_,h1,h2,F',hf,h3⟩⟩:=h
   ·exact absurd h0 hd0
   obtain⟨w,G1,G2,g1,g2,g3,g4,g5,g6⟩:=h3.zoom p1;obtain⟨w2,F1,Fr,q1,q2,q3,q4,q5,q6⟩:=Ow.zoom g5 p2 hz1;refine⟨w2,F1,fun b=>b=a\/G2 b\/Fr b,⟨a,vs,w,e,.inr h1,g1,q1⟩,fun b z=>(hf b (g2 b (q2 b z))).1,fun b z=>?_,fun b z z2=>?_,q5,fun O' H' u' G m hd o=>?_⟩
   ·rcases z with z|z|z
    ·rw[z];exact h2
    ·exact(hf b (g3 b z)).1
    ·exact(hf b (g2 b (q3 b z))).1
   ·rcases z2 with z2|z2|z2
    ·exact(hf b (g2 b (q2 b z))).2 z2
    ·exact g4 b (q2 b z) z2
    ·exact q4 b z z2
   ·have o1:=q6 O' H' u' G ⟨fun x y q z=>m.k x y q (z.imp id fun z=>.inr (.inr z)),m.o⟩ (fun b z z2=>hd b z (.inr (.inr z2))) o;have o2:=g6 O' H' (ao c π u') (fun b=>Fr b\/G b) ⟨fun x y q z=>m.k x y q (z.imp id fun z=>.inr (.inl z)),m.o⟩ (fun b z z2=>?_) o1
    ·refine⟨a,vs,e,.inr ⟨hd0,m.k _ _ h1 (.inr (.inl rfl)),.inl (.inl rfl),fun b=>G2 b\/Fr b\/G b,fun b z=>?_,?_⟩⟩
     ·rcases z with z|z|z
      ·exact⟨.inl (.inr (.inl z)),(hf b (g3 b z)).2⟩
      ·exact⟨.inl (.inr (.inr z)),(hf b (g2 b (q3 b z))).2⟩
      ·exact⟨.inr z,fun ze=>hd b z (.inl ze)⟩
     ·rw[p1];exact o2
    ·rcases z with z|z
     ·exact g4 b (q3 b z) z2
     ·exact hd b z (.inr (.inl z2))
  |_=>cases hp
abbrev MP:=En->Option (List Nat×En)
def tP(K:zbY)(p:Bool)(ds ds':List Nat)(i m:Nat)(mp:MP):TE:=fun σ H Q=>
 ∃Ox en R π en',EnvOk K ds Ox H σ en R/\mp en=some (π,en')/\∀v w H' R',Post K p ds' Ox σ H en R en' H' R' NoA->π.length=m->σ[i]?=some (some v)->PathV H' v π w->Q w H'
def du(i:Nat):MP:=fun en=>((en[i]?).join).map fun _=>([],en)
def pIx(i:Nat)(mp:MP)(f:ME):MP:=fun en=>(mp en).bind fun r=>(f r.2).bind fun q=>match q.1,(q.2[i]?).join with
 |.int n,some t=>(aW t r.1).bind fun u=>match u with
  |.list ts=>(ixN ts.length n).bind fun k=>if k<ts.length then some (r.1++[k],q.2)else none
  |.tuple ts=>(ixN ts.length n).bind fun k=>if k<ts.length then some (r.1++[k],q.2)else none
  |_=>none
 |_,_=>none
section
variable{m:Nat}{mp:MP}{o:Expr} 
def IR(h:tP K true ds ds i 0 (du i) σ H Q):gp i σ H Q:=by
 obtain⟨Ox,en,R,π,en',e,hf,k⟩:=h;unfold du at hf;obtain⟨t,h1,h2⟩:=zab.mp hf;cases h2;obtain⟨v,d,a1,_,_⟩:=e.at_ i t (aM h1);exact⟨v,a1,k v v H R (Post.refl e) rfl a1 rfl⟩
def Kr(hpu:p2=true\/m=0)(hd:ds2[i]?=some d)(hz:dns m d≠0)(h:tP K (p1&&p2) ds ds2 i (m+1) (pIx i mp f) σ H Q):tOp (rIx K) (tP K p1 ds ds1 i m mp) (tF K p2 ds1 ds2 d1 f) σ H Q:=by
 obtain⟨Ox,en,R,π,en',e,hf,k⟩:=h;unfold pIx at hf;obtain⟨⟨π0,en1⟩,h1,hf⟩:=zaa.mp hf;obtain⟨⟨t1,en2⟩,h2,hf⟩:=zaa.mp hf
 dsimp only at hf
 split at hf
 case h_2=>cases hf
 next n t h3=>
 obtain⟨u,h4,hf⟩:=zaa.mp hf;refine⟨Ox,en,R,π0,en1,e,h1,fun v w H1 R1 P1 hl hv pv=>?_⟩;refine⟨Ox,en1,R1,.int n,en2,P1.env0,h2,fun y H2 R2 F P2 o=>?_⟩;have ey:y=.int n:=o;subst ey;have P:=P1.after P2;obtain⟨v',d',b1,b2,b3⟩:=P.env.at_ i t (aM h3);rw[hv]at b1;cases b1;rw[hd]at b2;cases b2;have pv2:PathV H2 v π0 w:=by
  rcases hpu with hp|hm
  ·exact pv.mono (P2.pure hp).2.2
  ·have e0:π0=[]:=List.length_eq_zero_iff.mp (hl.trans hm);subst e0;exact pv
 obtain⟨w2,F1,Fr,q1,q2,q3,q4,q5,_⟩:=b3.zoom h4 (by rw[hl];exact hz);have ew:=pv2.det q1;subst ew;rw[hl]at q5;cases u with
 |list ts=>
  obtain⟨kk,h5,hf⟩:=zaa.mp hf;by_cases hk:kk<ts.length
  case neg=>rw[if_neg hk]at hf;cases hf
  rw[if_pos hk]at hf;cases hf;obtain⟨a,vs,ea,ha,_,F',_,ow⟩:=q5.ownL hz;obtain⟨x,g1,_⟩:=ow.get (zak hk);refine .inl ⟨a,vs,n,x,ea,rfl,SqL.of ha,by unfold atI;rw[ow.len,h5];exact g1,?_⟩;subst ea;exact k v x H2 R2 (P.less fun _ z=>z.elim) (by rw[zae,hl];rfl) hv (PathV.snoc (.inl ha) g1 q1)
 |tuple ts=>
  obtain⟨kk,h5,hf⟩:=zaa.mp hf;by_cases hk:kk<ts.length
  case neg=>rw[if_neg hk]at hf;cases hf
  rw[if_pos hk]at hf;cases hf;obtain⟨a,vs,ea,⟨h0,_⟩|⟨_,ha,_,F',_,ow⟩⟩:=q5
  ·exact absurd h0 hz
  obtain⟨x,g1,_⟩:=ow.get (zak hk);refine .inr (.inl ⟨a,vs,n,x,ea,rfl,SqT.of ha,by unfold atI;rw[ow.len,h5];exact g1,?_⟩);subst ea;exact k v x H2 R2 (P.less fun _ z=>z.elim) (by rw[zae,hl];rfl) hv (PathV.snoc (.inr ha) g1 q1)
 |_=>cases hf
def DY(hN:X.N[i]?=some x)(hv:Vis X.env.scope x)(hd:(x==("__debug__":Str))=false)(hcd:(x==("__classdict__":Str))=false):PE X (.Name x px) (tP K true ds ds i 0 (du i)):=
 (cv hN hv hd hcd).imp fun _ _ _=>IR
def Il(hK:X.K=K)(hd:ds2[i]?=some d)(ho:PE X o (tP K p1 ds ds1 i m mp))(hb:PE X b (tF K p2 ds1 ds2 d1 f))(hz:dns m d≠0)(hpu:p2=true\/m=0)(hs:gO b):PE X (.Subscript o b pos) (tP K (p1&&p2) ds ds2 i (m+1) (pIx i mp f)):=by
 subst hK;exact(vF ix_seq ho hb hs).imp fun _ _ _=>Kr hpu hd hz
def Post.place{F:AS}{π:List Nat}{w:V}(P:Post K p ds1 Ox σ H en R en1 H1 R1 F)(hi:en1[i]?=some (some t))(hv:σ[i]?=some (some v))(hd:ds1[i]?=some d)(hg:aW t π=some (.list ts))(hz:dns π.length d≠0)(pv:PathV H1 v π w):
  ∃l vs,∃F1:AS,w=.ref l/\H1 l=some (.lst vs)/\R1 i l/\(∀b,F1 b->R1 i b/\b≠l)/\Ows K (Own R1 (U F Ox)) H1 ts (dn (dns π.length d)) vs F1 /\
   ∀(ts':List D) (vs':List V) (G:AS),(∀b,G b->F1 b\/F b)->(∀O',(∀a,O' a->Own R1 (U F Ox) a)->Ows K O' (upd H1 l (.lst vs')) ts' (dn (dns π.length d)) vs' G) ->
    ∃R',Post K false ds1 Ox σ H en R (en1.set i (some (ao t π (.list ts')))) (upd H1 l (.lst vs')) R' NoA:=by
 obtain⟨v',d',b1,b2,b3⟩:=P.env.at_ i t hi;rw[hv]at b1;cases b1;rw[hd]at b2;cases b2;obtain⟨w2,F1,Fr,q1,q2,q3,q4,q5,q6⟩:=b3.zoom hg hz;have ew:=pv.det q1;subst ew;obtain⟨l,vs,el,hl,hr,F',hf',ow⟩:=q5.ownL hz;refine⟨l,vs,F',el,hl,q2 l hr,fun b z=>⟨q2 b (hf' b z).1,(hf' b z).2⟩,ow,fun ts' vs' G hG hO=>?_⟩;have ξ:i<en1.length:=(zah.mp hi).1;have gl:∀b,F b->b≠l:=fun b z ze=>by
  subst ze;exact P.env.dx i b (q2 b hr) (.inl z)
 have gG:∀a,(fun b=>Fr b\/(b=l\/G b)) a->R1 i a\/F a:=fun a z=>by
  rcases z with z|z|z
  ·exact .inl (q3 a z)
  ·rw[z];exact .inl (q2 l hr)
  ·rcases hG a z with z|z
   ·exact .inl (q2 a (hf' a z).1)
   ·exact .inr z
 have sub:=jg (i:=i) (R1:=R1) (Ox:=Ox) (G:=fun b=>Fr b\/(b=l\/G b)) (F':=NoA) (F:=F) gG (fun _ z=>z.elim);have Ol:Own R1 (U F Ox) l:=.inl ⟨i,q2 l hr⟩;refine⟨_,P.slot (G:=fun b=>Fr b\/(b=l\/G b)) (q2 l hr) ξ hv hd gG (fun _ z=>z.elim) (fun _ _ z=>z) ?_⟩;refine q6 _ _ (.list ts') (fun b=>b=l\/G b) ⟨fun a o q z=>?_,fun a z=>.inl (sub a z)⟩ (fun b z z2=>?_) ?_
 ·rw[az]
  ·exact q
  ·intro za;subst za;rcases z with z|z
   ·exact z Ol
   ·exact q4 a hr z
 ·rcases z with z|z
  ·rw[z]at z2;exact q4 l hr z2
  ·rcases hG b z with z|z
   ·exact q4 b (hf' b z).1 z2
   ·exact P.env.dx i b (q3 b z2) (.inl z)
 ·refine⟨l,vs',el,.inr ⟨hz,av,.inl rfl,G,fun b z=>⟨.inr z,?_⟩,hO _ sub⟩⟩;rcases hG b z with z|z
  ·exact(hf' b z).2
  ·exact gl b z
def jx(i:Nat)(mp:MP)(f:ME):ME:=fun en=>(mp en).bind fun r=>match (r.2[i]?).join with
 |some t=>(aW t r.1).bind fun u=>match u with
  |.list ts=>(f r.2).bind fun q=>if ts.length<sizeLine then some (.none,q.2.set i (some (ao t r.1 (.list (ts++[q.1])))))else none
  |_=>none
 |none=>none
def ss(h:H l=some (.lst vs)):tyV K "list" (.ref l) H:=.inl ⟨rfl,vs,SqL.of h⟩
def IY(hd1:ds1[i]?=some d)(hd:ds2[i]?=some d)(hz:dns m d≠0)(hc:dn (dns m d)=c)(h:tF K false ds ds2 3 (jx i mp f) σ H Q):tBM K "list" jQ (tP K p1 ds ds1 i m mp) (iP (tF K true ds1 ds2 c f) nI) σ H Q:=by
 obtain⟨Ox,en,R,t0,en',e,hf,k⟩:=h;unfold jx at hf;obtain⟨⟨π,en1⟩,h1,hf⟩:=zaa.mp hf
 dsimp only at hf
 split at hf
 case h_2=>cases hf
 next t h3=>
 obtain⟨u,h4,hf⟩:=zaa.mp hf;cases u with
 |list ts=>
  dsimp only at hf
  obtain⟨⟨t1,en2⟩,h2,hf⟩:=zaa.mp hf;by_cases ξ:ts.length<sizeLine
  case neg=>rw[if_neg ξ]at hf;cases hf
  rw[if_pos ξ]at hf;cases hf;refine⟨Ox,en,R,π,en1,e,h1,fun v w H1 R1 P1 hl hv pv=>?_⟩;subst hl;obtain⟨l,vs,F1,el,hl1,_⟩:=P1.place (aM h3) hv hd1 h4 hz pv;subst el;refine⟨ss hl1,Ox,en1,R1,t1,en2,P1.env0,h2,fun x H2 R2 F P2 o=>?_⟩;obtain⟨pe,pR,ph⟩:=P2.pure rfl;have P:=P1.after P2;have h3':en2[i]?=some (some t):=by rw[pe];exact aM h3
  obtain⟨l',vs',F1,el,hl2,hr,hf1,ow,fin⟩:=P.place h3' hv hd h4 hz (pv.mono ph);cases el;refine⟨l,vs',x,rfl,rfl,hl2,by rw[ow.len];exact ξ,?_⟩;have Fn:∀a,F a->a≠l:=fun a z z2=>by
   subst z2;exact P.env.dx i a hr (.inl z)
  have Ol:Own R2 (U F Ox) l:=.inl ⟨i,hr⟩;obtain⟨R',PF⟩:=fin (ts++[t1]) (vs'++[x]) (U F1 F) (fun _ z=>z) fun O' ho=>by
   refine Ows.snoc (Ows.past ho Ol (fun b z=>(hf1 b z).2) ow) ?_ fun b z1 z2=>P.env.dx i b (hf1 b z1).1 (.inl z2);rw[hc];exact Ow.past ho Ol Fn o
  exact k .non _ R' NoA PF rfl
 |_=>cases hf
def Ek(hK:X.K=K)(hd1:ds1[i]?=some d)(hd:ds2[i]?=some d)(ho:PE X o (tP K p1 ds ds1 i m mp))(he:PE X e (tF K true ds1 ds2 c f))(hz:dns m d≠0)(hc:dn (dns m d)=c)
  (η:attributeBase o "append" X.env (eval o X.env)=eval o X.env)
  (x':((backTo ω (starEach [e] X.env)).all (fun x=>!x.1)&&(backToKw ω (keywordEach [] X.env)).all (fun x=>x.1.isSome)&&decide (([e]:List Expr).length+([]:List Keyword).length+(if([]:List Keyword).isEmpty then 0 else 1)<30))=true)
  (θ:(μ.endLine==ω.line)=true) (hs:starEach [e] X.env=[(false,eval e X.env)]) (ι:(backTo ω (starEach [] X.env)).any (·.1)=false):
  PE X (.Call (.Attribute o "append" μ) [e] [] ω) (tF K false ds ds2 3 (jx i mp f)):=by
 subst hK;exact(rF PySem.F.plainAttrs_list PySem.F.slot_list_append PySem.F.type_list_append jr ho (cq he pa_nil hs) η x' θ hs ι).imp fun _ _ _=>IY hd1 hd hz hc
end
def vN(f:Nat->Str):Nat->List Str
 |0=>[]
 |i+1=>if(vN f i).any (·==f i)=true then vN f i else vN f i++[f i]
section
variable{s:Shared}
def Jw(z:Str)(i:Nat):Str:=match z.cps[i]? with
 |some c=>mk1 c
 |none=>""
end
section
variable{k:Expr}{pos2 py:Pos}
def GL(h:∀v H,Q v H->Q' v H):tF K p ds ds1 d f σ H Q->tF K p ds ds1 d f σ H Q'
 |⟨Ox,en,R,t,en',e,hf,k⟩=>⟨Ox,en,R,t,en',e,hf,fun v H' R' F P o=>h _ _ (k v H' R' F P o)⟩
def Lz:D->Option D
 |.str z=>grd (z.length<4000) (.int (vN (Jw z) z.length).length)
 |_=>none
def LY:D->D->Option D
 |.list ts,.int (-1)=>some (.list ts.reverse)
 |_,_=>none
def LH:D->D->Option D
 |.tuple ts,.int (-1)=>some (.tuple ts.reverse)
 |_,_=>none
def LI:D->D->Option D
 |.str z,.int (-1)=>grd (z.length<=sizeLine) (.str ⟨z.cps.toList.reverse.toArray⟩)
 |_,_=>none
def LB(fa:MA):MI:=fun en=>(fa en).bind fun r=>match r.1 with
 |[.inl (.str x),.inl (.str y)]=>some (yv (mK x) (mK y),r.2)
 |_=>none
def isB:D->D->Option D
 |.bool a,.bool b=>some (.bool (a==b))
 |_,_=>none
end
section
variable{a:Expr}{ta tb:TE}{rest:List Expr}
def L5:D->Option Int->Option Int->Option D
 |.tuple ts,lo,hi=>grd (¬(HT.sIx ts.length 0 lo=0/\HT.sIx ts.length ts.length hi=ts.length)) (.tuple (tI ts lo hi))
 |_,_,_=>none
def KO:D->Option Bool
 |.none=>some false
 |.bool b=>some b
 |.list ts=>some (!ts.isEmpty)
 |.tuple ts=>some (!ts.isEmpty)
 |_=>none
def L4(f g:ME):ME:=fun en=>(f en).bind fun r=>(KO r.1).bind fun c=>if c then some r else g r.2
end
section
variable{a:Expr}    
def nZ(x:Int):List Int->List Int
 |[]=>[x]
 |y::r=>if x<=y then x::y::r else y::nZ x r
def ff:List Int->List Int
 |[]=>[]
 |x::r=>nZ x (ff r)
theorem lW(x:Int):∀l,(nZ x l).Perm (x::l)
 |[]=>.refl _
 |y::r=>by
  unfold nZ;split
  ·exact .refl _
  ·exact(List.Perm.cons y (lW x r)).trans (List.Perm.swap x y r)
theorem ei:∀l,(ff l).Perm l
 |[]=>.refl _
 |x::r=>(lW x _).trans (List.Perm.cons x (ei r))
theorem nc(x:Int):∀l:List Int,l.Pairwise (·<=·)->(nZ x l).Pairwise (·<=·)
 |[],_=>by simp[nZ]
 |y::r,h=>by
  obtain⟨h1,h2⟩:=List.pairwise_cons.mp h;unfold nZ;split
  ·next hx=>
   refine List.pairwise_cons.mpr ⟨fun z hz=>?_,h⟩;rcases zay.mp hz with rfl|hz
   ·exact hx
   ·exact Int.le_trans hx (h1 z hz)
  ·next hx=>
   refine List.pairwise_cons.mpr ⟨fun z hz=>?_,nc x r h2⟩;rcases zay.mp ((lW x r).mem_iff.mp hz)with rfl|hz
   ·omega
   ·exact h1 z hz
theorem dA:∀l,(ff l).Pairwise (·<=·)
 |[]=>.nil
 |x::r=>nc x _ (dA r)
theorem kj:∀{l m:List Int},l.Perm m->l.Pairwise (·<=·)->m.Pairwise (·<=·)->l=m
 |[],m,h,_,_=>(List.nil_perm.mp h).symm
 |x::l,m,h,hl,hm=>by
  cases m with
  |nil=>exact absurd h.length_eq (by simp)
  |cons y m=>
   obtain⟨l1,l2⟩:=List.pairwise_cons.mp hl;obtain⟨m1,m2⟩:=List.pairwise_cons.mp hm;have e:x=y:=by
    have a1:x∈y::m:=h.mem_iff.mp zaq;have a2:y∈x::l:=h.mem_iff.mpr zaq;rcases zay.mp a1 with e|a1
    ·exact e
    ·rcases zay.mp a2 with e|a2
     ·exact e.symm
     ·exact Int.le_antisymm (l1 y a2) (m1 x a1)
   subst e;rw[kj (List.perm_cons x |>.mp h) l2 m2]
def rO{us:List Value}{ns:List Int}(h:IntsAre us ns):Vals (ns.map V.int) us:=by
 induction us generalizing ns with
 |nil=>cases ns with
  |nil=>exact .nil
  |cons n r=>exact absurd h.length (by simp)
 |cons u us ih=>
  cases ns with
  |nil=>exact absurd h.length (by simp)
  |cons n r=>
   obtain⟨t,ht⟩:=IntsAre.int_at h 0 u rfl;refine .cons ⟨t,ht⟩ (ih ?_);cases h
   assumption
end
end L2
namespace L2
variable{X:Cx}{K:zbY}{g:D->D->Option D}{Ty:V->Hp->Prop}
open PySem PySem.Spec PyProof.Rows PySem.SeqAt PySem.MeetsSeq
def L0:D->D->Option D
 |.tuple ts,.int k=>grd (1<=k/\k<=1000/\ts.length<=1000) (.tuple (List.replicate k.toNat ts).flatten)
 |_,_=>none
def LL:D->D->Option D
 |.int k,.str z=>grd (z.length<=4000/\1<=k/\k<=4000) (.str (Txt.mul z k))
 |_,_=>none
section
variable{p p1 p2:Bool}{ds ds1 ds2:List Nat}{d d1 d2:Nat}{e:Expr}{f f1 f2:ME}{σ:St}{H:Hp}{Q Q':VK}
def IS(ht:∀a b t O x H F,g a b=some t->Ow K O H a d1 x F->Ty x H)(h:tF K (p1&&p2) ds ds2 d (e2 g f1 f2) σ H Q):
  tF K p1 ds ds1 d1 f1 σ H fun x H1=>Ty x H1/\tF K p2 ds1 ds2 d2 f2 σ H1 fun y H2=>rF2 K g d x y H2 Q:=by
 obtain⟨Ox,en,R,t,en',e,hf,k⟩:=h;unfold e2 at hf;obtain⟨⟨t1,en1⟩,h1,hf⟩:=zaa.mp hf;obtain⟨⟨t2,en2⟩,h2,hf⟩:=zaa.mp hf;obtain⟨t',h3,hf⟩:=zab.mp hf;cases hf;refine⟨Ox,en,R,t1,en1,e,h1,fun x H1 R1 F1 P1 o1=>⟨ht _ _ _ _ _ _ _ h3 o1,U F1 Ox,en1,R1,t2,en2,P1.env,h2,fun y H2 R2 F2 P2 o2=>?_⟩⟩;have P:=P1.trans P2;have o1':=Ow.over P1.env P2 o1;have o2':Ow K (Own R2 (U (U F1 F2) Ox)) H2 t2 d2 y F2:=j5▸o2;exact⟨Own R2 Ox,t1,t2,t,Ow.letgo P (fun _=>.inl) o1',Ow.letgo P (fun _=>.inr) o2',P.doms,h3,fun v2 H3 F3 n o3=>k v2 H3 R2 F3 (P.fin n) (pG▸o3)⟩
def TyL(K:zbY)(x:V)(H:Hp):Prop:=∃a vs,x=.ref a/\SqL K H a vs
def GB{O F:AS}{ts:List D}{x:V}(h:Ow K O H (.list ts) d x F):TyL K x H:=by
 obtain⟨a,vs,rfl,⟨_,fz,_⟩|⟨_,g1,_⟩⟩:=h
 ·exact⟨a,vs,rfl,fz.sq⟩
 ·exact⟨a,vs,rfl,.inl (.inl g1)⟩
def IF{T:String}{o:Expr}{name:Str}{id:String}{μ ω:Pos}(pa:PlainAttrs T)(slot:Slot T name id)(hty:typeOf (.builtin id)=pure (.type "method_descriptor"))
  (ht:∀a b t O x H F,g a b=some t->Ow K O H a d1 x F->Ty x H) (hT:∀ρ s σ H x v,Inv X ρ σ H s->RelV x v->Ty x H->s.TypeIs v T/\∀a,v=.ref a->∃ob,s.heap.get? a=some ob/\ob.dict=none)
  (hm:OpR X (fun v u=>call (.builtin id) [v,u]) (rF2 K g 3)) (ho:PE X o (tF K p ds ds1 d1 f1)) (he:PE X e (tF K p ds1 ds2 d2 f2))
  (η:attributeBase o name X.env (eval o X.env)=eval o X.env)
  (x':((backTo ω (starEach [e] X.env)).all (fun x=>!x.1)&&(backToKw ω (keywordEach [] X.env)).all (fun x=>x.1.isSome)&&decide (([e]:List Expr).length+([]:List Keyword).length+(if([]:List Keyword).isEmpty then 0 else 1)<30))=true)
  (θ:(μ.endLine==ω.line)=true) (hs:starEach [e] X.env=[(false,eval e X.env)]) (ι:(backTo ω (starEach [] X.env)).any (·.1)=false):
  PE X (.Call (.Attribute o name μ) [e] [] ω) (tF K p ds ds2 3 (e2 g f1 f2)):=by
 intro ρ s σ H Q I h;have h':=IS (p1:=p) (p2:=p) (ds1:=ds1) (d1:=d1) (d2:=d2) (Ty:=Ty) ht (by rw[zbi];exact h);refine wpAny_Call_method_late η x' θ rfl (thn (ho ρ s σ H _ I h') fun v s1 ⟨x,H1,I1,r1,ty,q1⟩=>?_);obtain⟨h1,h2⟩:=hT ρ s1 σ H1 x v I1 r1 ty;refine⟨T,id,pa,slot,hty,h1,h2,?_⟩;have hA:=cq he pa_nil hs ω ρ s1 σ H1 (fun xs H2=>∃y,xs=[y]/\rF2 K g 3 x y H2 Q) I1 (GL (fun y H2 q=>⟨y,rfl,q⟩) q1);rw[hs]at hA ⊢;refine Calls.callWith_builtin (by show(false || (backTo ω (starEach [] X.env)).any (·.1))=false;rw[ι]<;>rfl) (Calls.evalArgs_plain ?_);refine thn hA ?_;rintro us s2 ⟨vs,H2,I2,r2,y,e2,q2⟩;subst e2;obtain⟨u,rfl,ru⟩:=eg r2;exact hm ρ s2 σ H2 x y v u Q I2 r1 ru q2
end
def LE:D->D->Option D
 |.tuple ts,b=>grd (noDict b=true/\aC ts=true/\bJ ts<=60) (.int (ts.countP fun t=>peq t b:Nat))
 |_,_=>none
end L2
namespace L2
open PySem PySem.Spec PyProof.Rows HT
def LS:D->Option Int->Option Int->Option D
 |.tuple ts,lo,hi=>some (.tuple (tI ts lo hi))
 |_,_,_=>none
end L2
namespace L2
open PySem PySem.Spec PyProof.Rows
end L2
namespace L2
open PySem PySem.Spec PyProof.Rows PySem.SeqAt PySem.MeetsSeq
end L2
namespace L2
variable{X:Cx}{K:zbY}{p p1 p2 q:Bool}{ds ds1 ds0 ds2 ds' dsi dps lk:List Nat}{d d' d1 d2 c i dr cd n:Nat}{fa:MA}{sh:Sh}{O:AS}{H:Hp}{ts us:List D}{vs:List V}{k v e a b elt tg iter o:Expr}{fk f f1 f2 fe:ME}{pos px μ ω pos' ζ:Pos}{σ:St}{Q:VK}{es ifs:List Expr}{c1 c2:MT}{x:Str}{g:D->D->Option D}{op:CmpOp}{ps ns:List Str}{F:List D->Option (D×En)}{scope:Scope}{js:List (Option Nat)}{fi:MI}{J:Jd}{st:Stmt}{m m1 m2:MS}{Dn:Ends}{fs:List (ME×ME)}{en en1 en2:En}{fl:Fl}{t:D}
open PySem PySem.Spec PyProof.Rows
section
variable{O1:AS}{H0:Hp}{ws:List V}{a b:Addr}
def LA(fa:MA):MI:=fun en=>(fa en).bind fun r=>match r.1 with
 |[.inl (.tuple ts),.inl (.tuple us)]=>some (yv ts us,r.2)
 |_=>none
end
def cx:List D->Option (List Key)
 |[]=>some []
 |t::ts=>(kOf t).bind fun k=>(cx ts).map (k::·)
section
variable{fv:ME}    
def LF:List D->Option D
 |[.str z]=>grd (z.cps.size<=sizeLine) (.tuple (mK z))
 |_=>none
def call_len_dk:CallR X (.builtin "len") (fun xs H Q=>∃a kvs,xs=[.ref a]/\Rd H a (.dK kvs)/\Q (.int (kvs.length:Nat)) H):=by
 intro ρ s σ H xs us Q I r h;obtain⟨a,kvs,rfl,ha,q⟩:=h;obtain⟨u,rfl,ru⟩:=eg r;cases ru;obtain⟨z,hd,vs,rel,dd⟩:=fj I.hok ha;refine call_len_dict hd dd ?_ ⟨.int (kvs.length:Nat),H,I.tok _,⟨_,by rw[rel.length]⟩,q⟩;rw[<-rel.length]
 have:sizeLine=16777216:=by decide
 omega
def rH:List D->Option D
 |[.dict ks]=>grd (noT ks=true) (.int (ks.length:Nat))
 |_=>none
theorem uK:∀{ks:List (D×D)} {vs:List (Key×V)} {F:AS} {d:Nat},Owd K O H ks d vs F->vs.length=ks.length
 |[],_,_,_,h=>by rw[show _=[]from h];rfl
 | (k,t)::ks,_,_,_,h=>by
  obtain⟨q,v,r,F1,F2,e,_,_,_,_,_,h5⟩:=h;rw[e,zac,zac,uK h5]
def tf(hK:X.K=K):CallR X (.builtin "len") (rFn K rH 3):=by
 subst hK;refine call_len_dk.imp ?_;rintro xs H Q ⟨O,as,t,oa,hd,hg,k⟩
 match as,hg with
 |[.dict ks],hg=>
  obtain⟨c,rfl⟩:=bA hg;obtain⟨v,rfl,o⟩:=oa.one;obtain⟨a,vs,rfl,ha,ow⟩:=o.dict0 c;exact⟨a,vs,rfl,ha,by rw[uK ow];exact k _ H NoA .refl rfl⟩
end
structure QE(X:Cx)(e:Expr)(t:TE):Prop where
 h:PE X e t
structure QT(X:Cx)(e:Expr)(t:TT):Prop where
 h:PT X e t
structure QW(X:Cx)(e:Expr)(t:TT):Prop where
 h:PW X e t
structure QA(X:Cx)(e:List Expr)(t:TA):Prop where
 h:PA X e t
structure QS(X:Cx)(e:Stmt)(t:TS):Prop where
 h:PS X e t
structure QSs(X:Cx)(e:List Stmt)(t:TS):Prop where
 h:PSs X e t
structure QG(X:Cx)(e:Expr)(t:TG):Prop where
 h:PG X e t
structure QGs(X:Cx)(e:List Expr)(t:TGs):Prop where
 h:PGs X e t
structure QI(X:Cx)(tg e:Expr)(t:TI):Prop where
 h:PI X tg e t
structure QTs(X:Cx)(e:List Expr)(t:TT):Prop where
 h:PTs X e t
structure QPs(X:Cx)(pos:Pos)(ks:List (Option Expr))(vs:List Expr)(t:List (TE×TE)):Prop where
 h:PPs X pos ks vs t
def qpt{t:TT}(h:QW X e t):QT X e t:=⟨h.h.pt⟩
section
variable{c:Expr}{m:MT}    
def bn(hN:X.N[i]?=some x)(hv:Vis X.env.scope x)(h0:ds[i]?=some 0)(hd:(x==("__debug__":Str))=false)(hcd:(x==("__classdict__":Str))=false):QE X (.Name x pos) (tF K p ds ds 0 (aa i)):=⟨Iy hN hv h0 hd hcd⟩
def mW(hN:X.N[i]?=some x)(hv:Vis X.env.scope x)(h0:ds[i]?=some d)(hds:ds.set i 0=ds')(hd:(x==("__debug__":Str))=false)(hcd:(x==("__classdict__":Str))=false):QE X (.Name x pos) (tF K false ds ds' d (eMv i)):=⟨Ke hN hv h0 hds hd hcd⟩
def ah{n:Int}{j}:QE X (.Constant (.int n) j pos) (tF K p ds ds 3 (eC (.int n))):=⟨IJ⟩
def bv{n:Bool}{j}:QE X (.Constant (.bool n) j pos) (tF K p ds ds 3 (eC (.bool n))):=⟨Kk⟩
def bL{j}:QE X (.Constant .none j pos) (tF K p ds ds 3 (eC .none)):=⟨IE⟩
def bg(h:QE X e (tF K p ds ds' d f))(hd:d'<=d):QE X e (tF K p ds ds' d' f):=⟨IA h.h hd⟩
def bG(h:QE X e (tF K p ds0 ds' d f))(hd:leD ds0 ds=true):QE X e (tF K false ds ds' d f):=⟨Ki h.h hd⟩
def dG(h:QE X e (tF K true ds0 ds0 3 f))(hd:leD ds0 ds=true):QE X e (tF K p ds ds 3 f):=⟨IM h.h hd⟩
def aD{op:Operator}(ho:OpR X (binaryOp op) (rF2 K g d))(ha:QE X a (tF K p ds ds1 d1 f1))(hb:QE X b (tF K p ds1 ds2 d2 f2)):QE X (.BinOp a op b pos) (tF K p ds ds2 d (e2 g f1 f2)):=⟨Kc ho ha.h hb.h⟩
def Ed{op:UnaryOp}{g:D->Option D}(ho:UnR X (unaryOp op) (rF1 K g d))(ha:QE X a (tF K p ds ds1 d1 f1)):QE X (.UnaryOp op a pos) (tF K p ds ds1 d (e1 g f1)):=⟨Ka ho ha.h⟩
def cX(ho:OpR X (compareOp op) (rF2 K g d))(ha:QE X a (tF K p ds ds1 d1 f1))(hb:QE X b (tF K p ds1 ds2 d2 f2))(hm:behindInMarks op b=false):QE X (.Compare a [op] [b] pos) (tF K p ds ds2 d (e2 g f1 f2)):=⟨IL ho ha.h hb.h hm⟩
def aT(ho:OpR X (compareOp op) (rF2 K g d))(ha:QE X a (tF K p ds ds1 d1 f1))(hb:QE X b (tF K p ds1 ds2 d2 f2))(hm:behindInMarks op b=false):QT X (.Compare a [op] [b] pos) (tFT K p ds ds2 (tV (e2 g f1 f2))):=⟨DH ho ha.h hb.h hm⟩
def bC(h:QE X e (tF K p ds ds' d f))(he:∀χ,isTrue e X.env χ=(do let v <-χ;standAt e.pos;holding [v] (truthy v))):QT X e (tFT K p ds ds' (tV f)):=⟨DE h.h he⟩
def fJ(ha:QT X a (tFT K p ds ds1 c1)):QW X (.BoolOp .And [a] pos) (tFT K p ds ds1 c1):=⟨DB ha.h⟩
def i5(ha:QT X a (tFT K p ds ds1 c1)):QW X (.BoolOp .Or [a] pos) (tFT K p ds ds1 c1):=⟨HU ha.h⟩
def gx{rest:List Expr}(ha:QT X a (tFT K p ds ds1 c1))(hb:QW X (.BoolOp .And (b::rest) pos) (tFT K p ds1 ds1 c2)):QW X (.BoolOp .And (a::b::rest) pos) (tFT K p ds ds1 (dv c1 c2)):=⟨HV ha.h hb.h⟩
def gw{rest:List Expr}(ha:QT X a (tFT K p ds ds1 c1))(hb:QW X (.BoolOp .Or (b::rest) pos) (tFT K p ds1 ds1 c2)):QW X (.BoolOp .Or (a::b::rest) pos) (tFT K p ds ds1 (bOr c1 c2)):=⟨J2 ha.h hb.h⟩
def cy(ha:QT X a (tFT K p ds ds1 c1)):QT X (.UnaryOp .Not a pos) (tFT K p ds ds1 (fU c1)):=⟨DF ha.h⟩
def cz(h:QT X e (tFT K true ds0 ds0 c1))(hd:leD ds0 ds=true):QT X e (tFT K p ds ds c1):=⟨DI h.h hd⟩
def i7{op}(h:QE X a (tF K p ds ds1 d f)):QE X (.BoolOp op [a] pos) (tF K p ds ds1 d f):=⟨IC h.h⟩
def n6{rest:List Expr}(ha:QE X a (tF K p ds ds1 d1 f1))(hb:QE X (.BoolOp .And (b::rest) pos) (tF K p ds1 ds1 d f2)):QE X (.BoolOp .And (a::b::rest) pos) (tF K p ds ds1 d (l6 f1 f2)):=⟨IP ha.h hb.h⟩
def Ee{rest:List Expr}(ha:QE X a (tF K p ds ds1 d1 f1))(hb:QE X (.BoolOp .Or (b::rest) pos) (tF K p ds1 ds1 d f2)):QE X (.BoolOp .Or (a::b::rest) pos) (tF K p ds ds1 d (eOr f1 f2)):=⟨Kb ha.h hb.h⟩
def zQ(ha:QE X a (tF K p ds ds1 d1 f)):QE X (.UnaryOp .Not a pos) (tF K p ds ds1 3 (qi f)):=⟨ID ha.h⟩
def Ef(hc:QT X c (tFT K p ds ds1 c1))(ha:QE X a (tF K p ds1 ds2 d f1))(hb:QE X b (tF K p ds1 ds2 d f2)):QE X (.IfExp c a b pos) (tF K p ds ds2 d (eIf c1 f1 f2)):=⟨Kh hc.h ha.h hb.h⟩
def ac: QA X [] (tFA K p ds ds [] af):=⟨Em⟩
def wl(ha:QE X e (tF K p ds ds1 d f))(hr:QA X es (tFA K p ds1 ds2 sh fa))(hs:aQ e=true):QA X (e::es) (tFA K p ds ds2 (.inl d::sh) (ae f fa)):=⟨zX ha.h hr.h hs⟩
def pd(hN:X.N[i]?=some x)(hv:Vis X.env.scope x)(hr:QA X es (tFA K p ds ds2 sh fa))(hd:(x==("__debug__":Str))=false)(hcd:(x==("__classdict__":Str))=false):QA X (.Name x pos::es) (tFA K p ds ds2 (.inr i::sh) (bo i fa)):=⟨zW hN hv hr.h hd hcd⟩
def aI{c:Nat}(h:QA X es (tFA K p ds ds1 sh fa))(hs:b8 c sh=true)(hd:dn d=c)(hz:d≠0):QE X (.List es pos) (tF K p ds ds1 d (aV fa)):=⟨IG h.h hs hd hz⟩
def gz{c:Nat}{x1}(h:QA X es (tFA K p ds ds1 sh fa))(hs:b8 c sh=true)(hd:dn d=c):QE X (.Tuple es x1 pos) (tF K p ds ds1 d (iF fa)):=⟨Iz h.h hs hd⟩
def pc{id:String}{g:List D->Option D}(hc:CallR X (.builtin id) (rFn K g d))(hg:Gl X x)(hm:X.mg x=none)(hv:bootBuiltins x=some (.builtin id))(ha:QA X (e::es) (tFA K p ds ds1 sh fa))(hsh:b8 0 sh=true)(hn:x≠"__name__")(hdb:(x==("__debug__":Str))=false)(he:aQ e=true)(hpl:es.all aQ=true):QE X (.Call (.Name x px) (e::es) [] pos) (tF K p ds ds1 d (eN g fa)):=⟨zV hc hg hm hv ha.h hsh hn hdb he hpl⟩
def ut{T:String}{g:List D->Option D}(hc:CallR X (.type T) (rFn K g d))(hg:Gl X x)(hm:X.mg x=none)(hv:bootBuiltins x=some (.type T))(ha:QA X (e::es) (tFA K p ds ds1 sh fa))(hsh:b8 0 sh=true)(hn:x≠"__name__")(hdb:(x==("__debug__":Str))=false)(he:aQ e=true)(hpl:es.all aQ=true):QE X (.Call (.Name x px) (e::es) [] pos) (tF K p ds ds1 d (eN g fa)):=⟨xV hc hg hm hv ha.h hsh hn hdb he hpl⟩
def Eg{k:Nat}(G:Kn X.prog X.w X.K X.mg X.base k x ps (spF K dps dr F))(hr:Room k X.A)(hg:Gl X x)(ha:QA X (e::es) (tFA K p ds ds1 sh fa))(hns:ia sh=true)(hcd:eG ds1 sh dps=true)(hdb:(x==("__debug__":Str))=false)(he:aQ e=true)(hpl:es.all aQ=true):QE X (.Call (.Name x px) (e::es) [] pos) (tF K p ds ds1 dr (aE F fa)):=⟨Kj G hr hg ha.h hns hcd hdb he hpl⟩
def zS{k:Nat}(G:Kn X.prog X.w X.K X.mg X.base k x ps (spF K dps dr F))(hr:Room k X.A)(hg:Gl X x)(ha:QA X (e::es) (tFA K false ds ds1 sh fa))(hcd:eG ds1 sh dps=true)(hdb:(x==("__debug__":Str))=false)(he:aQ e=true)(hpl:es.all aQ=true):QE X (.Call (.Name x px) (e::es) [] pos) (tF K false ds ds1 dr (aE F fa)):=⟨IK G hr hg ha.h hcd hdb he hpl⟩
def bc(ho:IxR X (rF2 K g d))(ha:QE X a (tF K p ds ds1 d1 f1))(hb:QE X b (tF K p ds1 ds2 d2 f2))(hs:gO b):QE X (.Subscript a b pos) (tF K p ds ds2 d (e2 g f1 f2)):=⟨Kg ho ha.h hb.h hs⟩
def gA(hK:X.K=K)(hN:X.N[i]?=some x)(hv:Vis X.env.scope x)(h1:ds1[i]?=some 1)(hb:QE X b (tF K p ds ds1 d1 f))(hs:gO b)(hd:(x==("__debug__":Str))=false)(hcd:(x==("__classdict__":Str))=false):QE X (.Subscript (.Name x px) b pos) (tF K p ds ds1 0 (i9 i f)):=⟨IH hK hN hv h1 hb.h hs hd hcd⟩
def bM{c:Nat}(hK:X.K=K)(hN:X.N[i]?=some x)(hv:Vis X.env.scope x)(h1:ds1[i]?=some d)(he:QE X e (tF K false ds ds1 c f))(hz:d≠0)(hc:dn d=c)(hd:(x==("__debug__":Str))=false)(hcd:(x==("__classdict__":Str))=false)(η:attributeBase (.Name x px) "append" X.env (eval (.Name x px) X.env)=eval (.Name x px) X.env)(x':((backTo ω (starEach [e] X.env)).all (fun x=>!x.1)&&(backToKw ω (keywordEach [] X.env)).all (fun x=>x.1.isSome)&&decide (([e]:List Expr).length+([]:List Keyword).length+(if([]:List Keyword).isEmpty then 0 else 1)<30))=true)(θ:(μ.endLine==ω.line)=true)(hs:starEach [e] X.env=[(false,eval e X.env)])(ι:(backTo ω (starEach [] X.env)).any (·.1)=false):QE X (.Call (.Attribute (.Name x px) "append" μ) [e] [] ω) (tF K false ds ds1 3 (b9 i f)):=⟨IN hK hN hv h1 he.h hz hc hd hcd η x' θ hs ι⟩
def tm{c:Nat}(hK:X.K=K)(hN:X.N[i]?=some x)(hv:Vis X.env.scope x)(h1:ds[i]?=some d)(hz:d≠0)(hc:dn d=c)(hd:(x==("__debug__":Str))=false)(hcd:(x==("__classdict__":Str))=false)(η:attributeBase (.Name x px) "pop" X.env (eval (.Name x px) X.env)=eval (.Name x px) X.env)(θ:(μ.endLine==ω.line)=true):QE X (.Call (.Attribute (.Name x px) "pop" μ) [] [] ω) (tF K false ds ds c (i8 i)):=⟨IB hK hN hv h1 hz hc hd hcd η θ⟩
def bS: QTs X [] (tFT K p ds ds cY):=⟨DD⟩
def cN(hc:QT X c (tFT K p ds ds1 c1)):QTs X [c] (tFT K p ds ds1 c1):=⟨DC hc.h⟩
def b0{g:MG}(B:BlkOkC X scope ns js)(hc:X.calm=true)(hi:QI X tg iter (tFI K p ds ds1 fi))(hg:∀C cl s₀ H₀ fp,QG (aX X scope ns C cl s₀ H₀ fp) tg (tFG K lk dsi dsi g))(ht:∀C cl s₀ H₀ fp,QTs (aX X scope ns C cl s₀ H₀ fp) ifs (tFT K true dsi dsi c1))(he:∀C cl s₀ H₀ fp,QE (aX X scope ns C cl s₀ H₀ fp) elt (tF K true dsi dsi cd f))(xX:gH ds1 js dsi=true)(hd:dn d=cd)(hz:d≠0)(hlk:lk=gE js 0)(hs:∀x,foldedSetIterable iter X.env x=pure x):QE X (.ListComp elt [⟨tg,iter,ifs,0⟩] scope pos) (tF K p ds ds1 d (eLC true fi g c1 f js)):=⟨Kf B hc hi.h (fun C cl s₀ H₀ fp=>(hg C cl s₀ H₀ fp).h) (fun C cl s₀ H₀ fp=>(ht C cl s₀ H₀ fp).h) (fun C cl s₀ H₀ fp=>(he C cl s₀ H₀ fp).h) xX hd hz hlk hs⟩
end
section
variable{c:Expr}{rest body qO:List Stmt}{g:MG}{gs:List D->En->Option En} 
def aJ: QSs X [] (tFS K J ds ds bd):=⟨DK⟩
def ad(h1:QS X st (tFS K J ds ds1 m1))(h2:QSs X rest (tFS K J ds1 ds2 m2)):QSs X (st::rest) (tFS K J ds ds2 (ak m1 m2)):=⟨zw h1.h h2.h⟩
def ar(h1:QS X st (tFS K J ds ds1 m1)):QSs X [st] (tFS K J ds ds1 m1):=⟨DJ h1.h⟩
def bm(he:QE X e (tF K false ds ds1 d f))(hs:swapsWith e none pos.line X.env=pure false):QS X (.Expr e pos) (tFS K J ds ds1 (b4 f)):=⟨DW he.h hs⟩
def xM(he:QE X e (tF K false ds ds1 J.dr f))(hd:leD J.dsr ds1=true):QS X (.Return (some e) pos) (tFS K J ds ds' (aS f)):=⟨DT he.h hd⟩
def we(hd:leD J.dsl ds=true):QS X (.Continue pos) (tFS K J ds ds' oF):=⟨zC hd⟩
def aR(hc:QT X c (tFT K false ds ds1 c1))(ha:QSs X body (tFS K J ds1 ds2 m1))(hb:QSs X qO (tFS K J ds1 ds2 m2)):QS X (.If c body qO pos) (tFS K J ds ds2 (sIf c1 m1 m2)):=⟨Ik hc.h ha.h hb.h⟩
def bT(hN:X.N.Nodup)(hi:X.N[i]?=some x)(hx:Loc X.env.scope x)(he:QE X e (tF K false ds ds1 d f))(hds:ds1.set i d=ds')(hl:i<ds1.length)(hk:i∉J.lk)(hs:swapsWith e (some (.Name x pos')) pos.line X.env=pure false)(hf:X.fn x=true\/X.env.scope.names.lookup x=some .local):QS X (.Assign [.Name x pos'] e pos) (tFS K J ds ds' (aw i f)):=⟨DS hN hi hx he.h hds hl hk hs hf⟩
def gZ(hN:X.N.Nodup)(hi':X.N[i]?=some x)(hx:X.env.scope.names.lookup x=some .local)(B:BlkOkC X scope ns js)(hc:X.calm=true)(hi:QI X tg iter (tFI K false ds ds1 fi))(hg:∀C cl s₀ H₀ fp,QG (aX X scope ns C cl s₀ H₀ fp) tg (tFG K lk dsi dsi g))(ht:∀C cl s₀ H₀ fp,QTs (aX X scope ns C cl s₀ H₀ fp) ifs (tFT K q dsi dsi c1))(he:∀C cl s₀ H₀ fp,QE (aX X scope ns C cl s₀ H₀ fp) elt (tF K q dsi dsi cd f))(hds:ds1.set i d=ds')(xX:gH ds1 js dsi=true)(hd:dn d=cd)(hz:d≠0)(hlk:lk=gE js 0)(hl:i<ds1.length)(hk:i∉J.lk)(hsw:swapsWith (.ListComp elt [⟨tg,iter,ifs,0⟩] scope pos) (some (.Name x pos')) ζ.line X.env=pure true)(hs:∀x,foldedSetIterable iter X.env x=pure x):QS X (.Assign [.Name x pos'] (.ListComp elt [⟨tg,iter,ifs,0⟩] scope pos) ζ) (tFS K J ds ds' (aw i (eLC q fi g c1 f js))):=⟨xL hN hi' hx B hc hi.h (fun C cl s₀ H₀ fp=>(hg C cl s₀ H₀ fp).h) (fun C cl s₀ H₀ fp=>(ht C cl s₀ H₀ fp).h) (fun C cl s₀ H₀ fp=>(he C cl s₀ H₀ fp).h) hds xX hd hz hlk hl hk hsw hs⟩
def qL(hc:X.calm=true)(he:QE X e (tF K false ds ds1 0 f))(hg:QG X tg (tFG K J.lk ds1 ds2 g))(hs:swapsWithSole [tg] e pos.line X.env=pure false)(hw:swappedStores [tg] e X.env=pure none)(h1:(assignEach [tg] X.env).map (·.2)=[assign tg X.env]):QS X (.Assign [tg] e pos) (tFS K J ds ds2 (nL f g)):=⟨DX hc he.h hg.h hs hw h1⟩
def iU{c:Nat}(hN:X.N[i]?=some x)(hv:Vis X.env.scope x)(he:QE X e (tF K false ds ds1 c fe))(hk:QE X k (tF K false ds1 ds2 d2 fk))(h1:ds2[i]?=some d)(hz:d≠0)(hc:dn d=c)(hdb:(x==("__debug__":Str))=false)(hcd:(x==("__classdict__":Str))=false)(ha:∀v,assign (.Subscript (.Name x px) k ζ) X.env v=(do
   let ov <-holding [v] (eval (.Name x px) X.env);let iv <-holding [v,ov] (eval k X.env)
   standAt ζ
   holding [v,ov,iv] (setItem ov iv v)
   release [v,ov,iv] []))(hs:swapsWithSole [.Subscript (.Name x px) k ζ] e pos.line X.env=pure false)(hw:swappedStores [.Subscript (.Name x px) k ζ] e X.env=pure none)(h2:(assignEach [.Subscript (.Name x px) k ζ] X.env).map (·.2)=[assign (.Subscript (.Name x px) k ζ) X.env]):QS X (.Assign [.Subscript (.Name x px) k ζ] e pos) (tFS K J ds ds2 (gU i fk fe)):=⟨zA hN hv he.h hk.h h1 hz hc hdb hcd ha hs hw h2⟩
def oZ(hN:X.N.Nodup)(hi:X.N[i]?=some x)(hx:Loc X.env.scope x)(hds:ds.set i 0=ds')(hl:i<ds.length)(hk:i∉lk)(hf:X.fn x=true\/X.env.scope.names.lookup x=some .local):QG X (.Name x pos) (tFG K lk ds ds' (gN i)):=⟨zO hN hi hx hds hl hk hf⟩
def cA: QGs X [] (iB K lk ds ds gs0):=⟨zL⟩
def a8(h1:QG X e (tFG K lk ds ds1 g))(h2:QGs X es (iB K lk ds1 ds2 gs))(hs:(assignEach (e::es) X.env).map (·.2)=assign e X.env::(assignEach es X.env).map (·.2)):QGs X (e::es) (iB K lk ds ds2 (gsC g gs)):=⟨xT h1.h h2.h hs⟩
def cO{k:Nat}(hK:X.K=K)(hc:X.calm=true)(h:QGs X es (iB K lk ds ds1 gs))(hl:∀ts en,(∃en',gs ts en=some en')->ts.length=n)(hn:(assignEach es X.env).length=n)(hst:(assignEach es X.env).findIdx? (·.1)=none):QG X (.Tuple es k pos) (tFG K lk ds ds1 (gT gs)):=⟨Eb hK hc h.h hl hn hst⟩
def aP(hc:X.calm=true)(hi:QI X tg iter (tFI K false ds ds1 fi))(hg:QG X tg (tFG K J.lk ds1 ds2 g))(hb:QSs X body (tFS K { J with dsl:=ds1 } ds2 ds1 m))(hp:PassesOwn (model X.prog X.w) X.A X.env X.xe)(hs:∀x,foldedSetIterable iter X.env x=pure x):QS X (.For tg iter body [] pos) (tFS K J ds ds1 (bq fi g m)):=⟨DU hc hi.h hg.h hb.h hp hs⟩
def eW(hc:QT X c (tFT K false ds ds1 c1))(hb:QSs X body (tFS K { J with dsl:=ds } ds1 ds m))(hp:PassesOwn (model X.prog X.w) X.A X.env X.xe):QS X (.While c body [] pos) (tFS K J ds ds1 (b6 c1 m)):=⟨xK hc.h hb.h hp⟩
end
section
variable{l:Expr}  
def aN(hK:X.K=K)(hl:QE X l (tF K p ds ds1 d f)):QI X tg l (tFI K p ds ds1 (bh f)):=⟨Iw hK hl.h⟩
def fL(hg:Gl X "range")(hm:X.mg "range"=none)(ha:QA X [a] (tFA K p ds ds1 sh fa))(hs:aQ a=true):QI X tg (.Call (.Name "range" px) [a] [] pos) (tFI K p ds ds1 (da fa)):=⟨D7 hg hm ha.h hs⟩
def xS(hg:Gl X "range")(hm:X.mg "range"=none)(ha:QA X [a,b] (tFA K p ds ds1 sh fa))(hs:aQ a=true)(hs2:aQ b=true):QI X tg (.Call (.Name "range" px) [a,b] [] pos) (tFI K p ds ds1 (lX fa)):=⟨D6 hg hm ha.h hs hs2⟩
def ij{elts:List Expr}{k:Nat}{tp:Pos}(hK:X.K=K)(hg:Gl X "enumerate")(hm:X.mg "enumerate"=none)(ha:QA X [l] (tFA K p ds ds1 sh fa))(hs:starEach [l] X.env=[(false,eval l X.env)]):QI X (.Tuple elts k tp) (.Call (.Name "enumerate" px) [l] [] pos) (tFI K p ds ds1 (fQ fa)):=⟨D8 hK hg hm ha.h hs⟩
end
def fB{T:Str}{n:String}{pt:Pos}(hK:X.K=K)(hg:Gl X "isinstance")(hm:X.mg "isinstance"=none)(hgT:Gl X T)(hmT:X.mg T=none)(hbT:bootBuiltins T=some (.type n))(hT:n∈["int","bool","str","list","tuple","dict"])(he:QE X e (tF K p ds ds1 d1 f))(hnT:T≠"__name__")(hdT:(T==("__debug__":Str))=false)(hs1:starEach [e,.Name T pt] X.env=(false,eval e X.env)::starEach [.Name T pt] X.env)(hs2:starEach [.Name T pt] X.env=(false,eval (.Name T pt) X.env)::starEach [] X.env)(hpl:(backTo pos (starEach [.Name T pt] X.env)).any (·.1)=false):QE X (.Call (.Name "isinstance" px) [e,.Name T pt] [] pos) (tF K p ds ds1 3 (e1 (fy n) f)):=⟨II hK hg hm hgT hmT hbT hT he.h hnT hdT hs1 hs2 hpl⟩
section
variable{ds3:List Nat}{d3:Nat}{c:Expr}{f3:ME}{p2:Pos}
def fK(h:QS X st (tFS K J ds ds2 m))(hd:leD ds1 ds2=true):QS X st (tFS K J ds ds1 m):=⟨DR h.h hd⟩
def wc{op':CmpOp}{g':D->D->Option D}(ho:OpR X (compareOp op) (rF2 K g 3))(ho':OpR X (compareOp op') (rF2 K g' 3))(ha:QE X a (tF K p ds ds0 d1 f1))(hb:QE X b (tF K p ds0 ds1 d2 f2))(hc:QE X c (tF K p ds1 ds1 d3 f3))(hm:lastMarks [op,op'] [b,c]=false):QT X (.Compare a [op,op'] [b,c] pos) (tFT K p ds ds1 (tV (jW g g' f1 f2 f3))):=⟨zv ho ho' ha.h hb.h hc.h hm⟩
variable{lo hi:MO}
end
section
variable{c:Expr}      
def dF: QE X (.Dict [] [] pos) (tF K p ds ds 3 cG):=⟨Eh⟩
def ik(hu:X.A.units+1<cLine)(ho:QE X o (tF K p ds ds1 d1 f1))(hi:QE X k (tF K p ds1 ds2 d2 f2))(hs:qu k):QE X (.Subscript o k pos) (tF K p ds ds2 0 (e2 cL f1 f2)):=⟨Ej hu ho.h hi.h hs⟩
def wg(hu:X.A.units+1<cLine)(hN:X.N[i]?=some x)(hv:Vis X.env.scope x)(h1:ds1[i]?=some 1)(hi:QE X k (tF K p ds ds1 d1 f))(hs:qu k)(hd:(x==("__debug__":Str))=false)(hcd:(x==("__classdict__":Str))=false):QE X (.Subscript (.Name x px) k pos) (tF K p ds ds1 0 (dJ i f)):=⟨zT hu hN hv h1 hi.h hs hd hcd⟩
def zu(hu:X.A.units+1<cLine)(ha:QE X a (tF K p ds ds1 d1 f1))(hb:QE X b (tF K p ds1 ds2 d2 f2))(h1:behindInMarks .In b=false):QT X (.Compare a [.In] [b] pos) (tFT K p ds ds2 (tV (e2 dIn f1 f2))):=⟨HX hu ha.h hb.h h1⟩
def lY(hu:X.A.units+1<cLine)(ha:QE X a (tF K p ds ds1 d1 f1))(hb:QE X b (tF K p ds1 ds2 d2 f2))(h1:behindInMarks .NotIn b=false):QT X (.Compare a [.NotIn] [b] pos) (tFT K p ds ds2 (tV (e2 dL f1 f2))):=⟨DG hu ha.h hb.h h1⟩
def eB(hu:X.A.units+1<cLine)(hN:X.N[i]?=some x)(hv:Vis X.env.scope x)(he:QE X e (tF K false ds ds1 0 fe))(hk:QE X k (tF K false ds1 ds2 d2 fk))(h1:ds2[i]?=some 1)(hdb:(x==("__debug__":Str))=false)(hcd:(x==("__classdict__":Str))=false)(hs:swapsWith e (some (.Subscript (.Name x px) k ζ)) pos.line X.env=pure false):QS X (.Assign [.Subscript (.Name x px) k ζ] e pos) (tFS K J ds ds2 (bO i fk fe)):=⟨zB hu hN hv he.h hk.h h1 hdb hcd hs⟩
end
section
variable{c:Expr}{j:Nat}   
def xU{keys:List (Option Expr)}{values:List Expr}(h:QPs X pos keys values (trs K p ds fs))(hall:keys.all (·.isSome)=true)(hl:keys.length=values.length)(h0:keys≠[])(h15:keys.length<=15):QE X (.Dict keys values pos) (tF K p ds ds 1 (jw fs)):=⟨Ei h.h hall hl h0 h15⟩
def zE: QPs X pos [] [] (trs K p ds []):=⟨Im⟩
def xN{ks:List (Option Expr)}{vs:List Expr}{fv:ME}(hk:QE X k (tF K p ds ds 3 fk))(hv:QE X v (tF K p ds ds 0 fv))(hr:QPs X pos ks vs (trs K p ds fs)):QPs X pos (some k::ks) (v::vs) (trs K p ds ((fk,fv)::fs)):=⟨DZ hk.h hv.h hr.h⟩
end
section
variable{m:Nat}{mp:MP} 
def ig(hN:X.N[i]?=some x)(hv:Vis X.env.scope x)(hd:(x==("__debug__":Str))=false)(hcd:(x==("__classdict__":Str))=false):QE X (.Name x px) (tP K true ds ds i 0 (du i)):=⟨DY hN hv hd hcd⟩
def kL(hK:X.K=K)(hd:ds2[i]?=some d)(ho:QE X o (tP K p1 ds ds1 i m mp))(hb:QE X b (tF K p2 ds1 ds2 d1 f))(hz:dns m d≠0)(hpu:p2=true\/m=0)(hs:gO b):QE X (.Subscript o b pos) (tP K (p1&&p2) ds ds2 i (m+1) (pIx i mp f)):=⟨Il hK hd ho.h hb.h hz hpu hs⟩
def xW(hK:X.K=K)(hd1:ds1[i]?=some d)(hd:ds2[i]?=some d)(ho:QE X o (tP K p1 ds ds1 i m mp))(he:QE X e (tF K true ds1 ds2 c f))(hz:dns m d≠0)(hc:dn (dns m d)=c)(η:attributeBase o "append" X.env (eval o X.env)=eval o X.env)(x':((backTo ω (starEach [e] X.env)).all (fun x=>!x.1)&&(backToKw ω (keywordEach [] X.env)).all (fun x=>x.1.isSome)&&decide (([e]:List Expr).length+([]:List Keyword).length+(if([]:List Keyword).isEmpty then 0 else 1)<30))=true)(θ:(μ.endLine==ω.line)=true)(hs:starEach [e] X.env=[(false,eval e X.env)])(ι:(backTo ω (starEach [] X.env)).any (·.1)=false):QE X (.Call (.Attribute o "append" μ) [e] [] ω) (tF K false ds ds2 3 (jx i mp f)):=⟨Ek hK hd1 hd ho.h he.h hz hc η x' θ hs ι⟩
end
def Fun.okQ{P:Program}{w:World}{mg:Str->Option Value}{base:Heap}{qual:Str}{f:Addr}{fd:FuncData}{N:List Str}{k:Nat}{b:MS}
  (F:Fun K x qual st f fd) (S:FnScope N ps (am st)) (hl:dps.length=ps.length) (hn:N.length-dps.length=n) (hJ:J=⟨p9 dps,dps++List.replicate n 0,dr,[]⟩) (hd:ds0=dps++List.replicate n 0)
  (hb:∀(cdv:Value) (A:Around) (outer:List Env) (s:Shared) (H:Hp) (E:XK),Room k (A.deeper (envOfC qual (am st) s.heap.objs.size f cdv)) ->
   QSs (l9 CX0 P w K mg base N qual (am st) f cdv A outer s H E).nox (cr st) (tFS K J ds0 ds0 b)):FnOk P w K mg base CX0 (k+1) f fd ps (spF K dps dr (fnF n dps b)):=by
 subst hJ hd;exact F.ok S (fun vs H Q E h=>CN hl h) fun cdv A outer s H vs Q E hr h=>⟨_,(hb cdv A outer s H E hr).h,D5 hn h⟩
def Hv(F:List D->Option (D×En)):Prop:=∀ns:List Int,ns.length<=63->∃ψ,F [.list (ns.map .int)]=some (.bool true,ψ)
def oD(K:zbY):Sp:=fun vs H Q _=>∃(a:Addr) (ns:List Int),vs=[.ref a]/\SqL K H a (ns.map V.int)/\(∀b,H b=none\/∃o xs,H b=some (.frz o (.lst xs)))/\ns.length<=63/\∀H':Hp,Q (.bl true) H'
theorem m9{K:zbY}{O:AS}{H:Hp}:∀ns:List Int,Ows K O H (ns.map .int) 0 (ns.map V.int) NoA
 |[]=>rfl
 |n::r=>⟨.int n,r.map V.int,NoA,NoA,rfl,fun _ z=>z,fun _ z=>z,fun _ z=>z.elim,rfl,m9 r⟩
def Hu(h:Hv F){E:XK}(q:oD K vs H Q E):spF K [0] dr F vs H Q E:=by
 obtain⟨a,ns,rfl,hs,_,hl,q⟩:=q;obtain⟨ψ,e⟩:=h ns hl;have fz:FzL K (fun _=>False) H a (ns.map V.int):=by
  rcases hs with hs|hs
  ·exact .inl ⟨hs,fun z=>z⟩
  ·exact .inr fun H'=>.inr hs
 have eO:Own (fun _=>NoA) NoA=(fun _=>False):=eJ fun b=>⟨fun z=>z.elim (fun⟨_,z⟩=>z) fun z=>z,fun z=>z.elim⟩;refine⟨NoA,[.list (ns.map .int)],fun _=>NoA,.bool true,ψ,⟨fun i t hi=>?_,fun _ _ _ z=>z.elim,fun _ _ z=>z.elim,fun b z=>?_,rfl,rfl⟩,e,fun v H' R' Fr _ o=>?_⟩
 ·cases i with
  |zero=>
   have:t=.list (ns.map .int):=by
    have h2:some (some (PyData.list (ns.map .int)))=some (some t):=hi;injection h2 with h3
    injection h3 with h4
    exact h4.symm
   subst this;refine⟨.ref a,0,rfl,rfl,?_⟩;rw[eO];exact⟨a,ns.map V.int,rfl,.inl ⟨rfl,fz,m9 ns⟩⟩
  |succ i=>simp at hi
 ·rw[eO]at z;exact z.elim
 ·rw[show v=.bl true from o];exact q H'
section
variable{c:MT}{b:MS}  
theorem ki:∀{n m:Nat} {en:En} {fl:Fl},whN c b n en=some fl->n<=m->whN c b m en=some fl
 |0,_,_,_,h,_=>by cases h
 |n+1,0,_,_,_,h=>by omega
 |n+1,m+1,en,fl,h,hm=>by
  unfold whN at h ⊢;obtain⟨r,h1,h⟩:=zaa.mp h;rw[h1];show(if r.1=true then _ else _)=_;by_cases hr:r.1=true
  ·rw[if_pos hr]at h ⊢;obtain⟨f1,h2,h⟩:=zaa.mp h;rw[h2];cases f1 with
   |nx e=>exact ki (n:=n) (m:=m) h (by omega)
   |ct e=>exact ki (n:=n) (m:=m) h (by omega)
   |rt t e=>exact h
  ·rw[if_neg hr]at h ⊢;exact h
def jp(h:whN c b n en=some fl):b6 c b en=some fl:=by
 have q:∃n fl,whN c b n en=some fl:=⟨n,fl,h⟩;unfold b6;rw[dif_pos q];have h2:=q.choose_spec.choose_spec;have h3:=ki h (Nat.le_max_left n q.choose);have h4:=ki h2 (Nat.le_max_right n q.choose);rw[h3]at h4;exact h4.symm
def ud(h:c en=some (false,en1)):b6 c b en=some (.nx en1):=by
 refine jp (n:=1) ?_;unfold whN;rw[h];rfl
def uf(h:c en=some (true,en1))(h1:b en1=some (.nx en2))(h2:b6 c b en2=some fl):b6 c b en=some fl:=by
 obtain⟨n,h3⟩:=jC h2;refine jp (n:=n+1) ?_;unfold whN;rw[h];show(b en1).bind _=_;rw[h1];exact h3
theorem iT{c:MT}{f:ME}{p:D->Bool}{F:D->D}{rest:En}:∀(ts acc:List D) (o:Option D),(∀t∈ts,c (some t::rest)=some (p t,some t::rest))->(∀t∈ts,p t=true->f (some t::rest)=some (F t,some t::rest))->acc.length+ts.length<=sizeLine ->
  ∃o',lcF (gN 0) c f ts acc (o::rest)=some (acc++(ts.filter p).map F,o'::rest)
 |[],acc,o,_,_,_=>⟨o,by simp[lcF]⟩
 |t::ts,acc,o,hc,hf,hl=>by
  have hl':acc.length+(ts.length+1)<=sizeLine:=hl;cases hp:p t with
  |true=>
   obtain⟨o',h⟩:=iT (c:=c) (f:=f) (p:=p) (F:=F) ts (acc++[F t]) (some t) (fun x hx=>hc x (zaj _ hx)) (fun x hx=>hf x (zaj _ hx)) (by rw[zae];show acc.length+1+_<=_;omega);refine⟨o',?_⟩;unfold lcF;show((c (some t::rest)).bind _)=_;rw[hc t zaq,hp];show((f (some t::rest)).bind _)=_;rw[hf t zaq hp];show(if acc.length<sizeLine then _ else _)=_;rw[if_pos (by omega)]
   dsimp only
   rw[h,List.filter_cons_of_pos hp];simp
  |false=>
   obtain⟨o',h⟩:=iT (c:=c) (f:=f) (p:=p) (F:=F) ts acc (some t) (fun x hx=>hc x (zaj _ hx)) (fun x hx=>hf x (zaj _ hx)) (by omega);refine⟨o',?_⟩;unfold lcF;show((c (some t::rest)).bind _)=_;rw[hc t zaq,hp];show lcF (gN 0) c f ts acc (some t::rest)=_;rw[h,List.filter_cons_of_neg (by rw[hp];decide)]
def uS{F:D->D}{rest:En}(ts acc:List D)(o:Option D)(hf:∀t∈ts,f (some t::rest)=some (F t,some t::rest))(hl:acc.length+ts.length<=sizeLine):
  ∃o',lcF (gN 0) cY f ts acc (o::rest)=some (acc++ts.map F,o'::rest):=by
 obtain⟨o',h⟩:=iT (c:=cY) (f:=f) (p:=fun _=>true) (F:=F) ts acc o (fun _ _=>rfl) (fun t ht _=>hf t ht) hl;rw[List.filter_eq_self.mpr (fun _ _=>rfl)]at h;exact⟨o',h⟩
end
section
variable{c:MT}{b:MS}{t1 t2 u:D}{x y:Bool}{as:List (D ⊕ Nat)}{ψ:En} 
def wm(h:f en=some (t,en1)):aS f en=some (.rt t en1):=by unfold aS;rw[h];rfl
def fS(h1:f1 en=some (t1,en1))(h2:f2 en1=some (t2,en2))(h:g t1 t2=some u):e2 g f1 f2 en=some (u,en2):=by
 unfold e2;rw[h1];show(f2 en1).bind _=_;rw[h2];show(g t1 t2).map _=_;rw[h];rfl
def KF{g:MG}{ex:En}(h1:fi en=some (ts,en1))(h2:lcF g c f ts [] (cC js en1)=some (us,ex))(he:(if q then en1 else wbB js ex en1)=en2):eLC q fi g c f js en=some (.list us,en2):=by
 unfold eLC;rw[h1];show(lcF g c f ts [] (cC js en1)).map _=_;rw[h2,<-he];rfl
def oE:100<=sizeLine:=by rw[sizeLine_eq];decide
def tj(h:b (ts.map some++List.replicate n none)=some (.rt t en)):fnF n dps b ts=some (t,msk dps en):=by
 unfold fnF;rw[h];rfl
end
namespace Pen2
def cQ:MS:=(aS (jw [((eC (.str "script")),(aa 0)),((eC (.str "at")),(aa 1)),((eC (.str "left")),(eC (.int 0)))]))
def F_law_pen:List D->Option (D×En):=fnF 0 [0,0] cQ
def uB:MS:=(ak (aw 2 (e2 bR (e2 cg (e2 bH (e2 bH (e2 bR (aa 0) (eC (.int 2147483629))) (e2 cg (eC (.int 40503)) (aa 1))) (eC (.int 24691))) (eC (.int 48271))) (eC (.int 2147483647))))
 (ak (aw 3 (e2 bR (e2 bH (e2 bH (e2 cg (aa 2) (aa 2)) (e2 cg (eC (.int 69621)) (aa 2))) (aa 1)) (eC (.int 2147483629))))
 (aS (e2 jv (e2 bR (e2 bH (e2 bH (e2 cg (aa 3) (aa 3)) (e2 cg (eC (.int 16807)) (aa 3))) (e2 cg (eC (.int 31)) (aa 1))) (eC (.int 1073741789))) (eC (.int 64))))))
def uA:List D->Option (D×En):=fnF 2 [0,0] uB
def gk:MS:=(ak (aw 2 (dJ 0 (eC (.str "at"))))
 (ak (aw 3 (dJ 0 (eC (.str "script"))))
 (ak (sIf (tV (e2 eqD (dJ 0 (eC (.str "left"))) (eC (.int 0)))) (ak (bO 0 (eC (.str "at")) (e2 bH (aa 2) (eC (.int 1))))
 (ak (aw 4 (eC (.int 0)))
 (ak (sIf (tV (e2 gtI (eN aZ (ae (aa 3) af)) (eC (.int 0)))) (aw 4 (e2 ixA (aa 3) (e2 bR (aa 2) (eN aZ (ae (aa 3) af))))) bd)
 (ak (sIf (bOr (tV (e2 geI (aa 2) (eN aZ (ae (aa 3) af)))) (tV (e2 ltI (eN kW (ae (aa 4) af)) (e2 pX (eC (.int 10)) (eC (.int 18)))))) (aS (e2 bR (aE uA (ae (aa 4) (ae (aa 2) af))) (aa 1))) bd)
 (bO 0 (eC (.str "left")) (eN kW (ae (aa 4) af))))))) bd)
 (ak (aw 5 (e2 bR (dJ 0 (eC (.str "left"))) (aa 1)))
 (ak (bO 0 (eC (.str "left")) (e2 jv (dJ 0 (eC (.str "left"))) (aa 1)))
 (aS (aa 5)))))))
def aK:List D->Option (D×En):=fnF 4 [1,0] gk
end Pen2
end L2
namespace L2
variable{P:Program}{w:World}{K:zbY}{mg:Str->Option Value}{k dr:Nat}{x:Str}{ps N:List Str}{dps:List Nat}{st:Stmt}{id:String}
open PySem PySem.Spec PyProof.Rows
def Jc(a b:Int):eqD (.int a) (.int b)=some (.bool (a==b)):=by
 show grd _ _=_;unfold grd;rw[if_pos ⟨rfl,rfl,zbh _⟩];simp only[peq]
def Ho(a b:Int):neD (.int a) (.int b)=some (.bool (!(a==b))):=by
 show grd _ _=_;unfold grd;rw[if_pos ⟨rfl,rfl,zbh _⟩];simp only[peq]
structure Df(K:zbY)(x:Str)(st:Stmt)(f:Addr):Prop where
 a:PySem.W.nsIn K mainGlobals x=some (some (.ref f))
 l:∃oc od kV dc pm an cd ct sl,K.lookup f=some ⟨oc,od,.func (PySem.W.fnOf x x (eF st) (cr st) (am st) .none kV dc pm an cd ct),sl⟩/\PySem.W.codeIn K cd x=true
 k:PySem.W.keepIn K (.ref f)=true
section
variable{base h:Heap}{f:Addr}{sp:Sp}
def Df.mk'{oc:Value}{od an:Option Addr}{sl:Array (Option Value)}{kV dc pm cd ct:Value}(a:PySem.W.nsIn K mainGlobals x=some (some (.ref f)))(l:K.lookup f=some ⟨oc,od,.func (PySem.W.fnOf x x (eF st) (cr st) (am st) .none kV dc pm an cd ct),sl⟩)(c:PySem.W.codeIn K cd x=true)(k:PySem.W.keepIn K (.ref f)=true):Df K x st f:=
 ⟨a,⟨oc,od,kV,dc,pm,an,cd,ct,sl,l,c⟩,k⟩
def Df.kn(d:Df K x st f)(X:K.In h)(G:h.Ns mainGlobals mg)(b:∀(kV doc pm:Value) (an:Option Addr) (cdv ct:Value) (us:List Value),us.length=ps.length->bindArgs (PySem.W.fnOf x x (eF st) (cr st) (am st) .none kV doc pm an cdv ct) ⟨us,[]⟩=pure (ps.zip us))
  (ok:∀fd,Fun K x x st f fd->FnOk P w K mg base CX0 k f fd ps sp):Kn P w K mg base k x ps sp:=by
 obtain⟨_,_,_,_,_,_,_,_,_,l,c⟩:=d.l;have F:=xJ (st:=st) l c d.k;exact⟨_,_,ok _ F,PySem.W.mg_of X G d.a,d.k,F.binds b⟩
end
section
variable{X:Cx}{p:Bool}{ds ds1 ds2 ds':List Nat}{d d1 d2:Nat}{a b e:Expr}{es:List Expr}{f f1 f2:ME}{fa:MA}{sh:Sh}{pos px:Pos}{J:Jd}{F:List D->Option (D×En)}{g:List D->Option D}
abbrev vck(X:Cx)(x:Str)(i:Nat)(n:NameKind):Prop:=(X.N[i]?,X.env.scope.names.lookup x,x==("__debug__":Str),x==("__classdict__":Str))=(some x,some n,false,false)
def fv(i:Nat)(h:vck X x i .local:=by rfl)(h0:ds[i]?=some 0:=by rfl):QE X (.Name x pos) (tF K p ds ds 0 (aa i)):=by
 simp only[vck,za0]at h;exact bn h.1 (.inl h.2.1) h0 h.2.2.1 h.2.2.2
def fvc(i:Nat)(h:vck X x i .cell:=by rfl)(h0:ds[i]?=some 0:=by rfl):QE X (.Name x pos) (tF K p ds ds 0 (aa i)):=by
 simp only[vck,za0]at h;exact bn h.1 (.inr (.inl h.2.1)) h0 h.2.2.1 h.2.2.2
def fsl(i:Nat)(hr:QA X es (tFA K p ds ds2 sh fa))(h:vck X x i .local:=by rfl):QA X (.Name x pos::es) (tFA K p ds ds2 (.inr i::sh) (bo i fa)):=by
 simp only[vck,za0]at h;exact pd h.1 (.inl h.2.1) hr h.2.2.1 h.2.2.2
def lZ(i:Nat)(hr:QA X es (tFA K p ds ds2 sh fa))(h:vck X x i .cell:=by rfl):QA X (.Name x pos::es) (tFA K p ds ds2 (.inr i::sh) (bo i fa)):=by
 simp only[vck,za0]at h;exact pd h.1 (.inr (.inl h.2.1)) hr h.2.2.1 h.2.2.2
def fs0(h:QE X e (tF K p ds ds' d f)):QE X e (tF K p ds ds' 0 f):=bg h (zbh _)
def frt(he:QE X e (tF K false ds ds1 J.dr f))(hd:leD J.dsr ds1=true:=by rfl):QSs X [.Return (some e) pos] (tFS K J ds ds' (aS f)):=ar (xM he hd)
abbrev cck(X:Cx)(x:Str)(e:Expr)(es:List Expr):Prop:=(X.env.kindOf x,x==("__debug__":Str),aQ e,es.all aQ)=(some .globalImplicit,false,true,true)
def fnn(G:Kn X.prog X.w X.K X.mg X.base k x ps (spF K dps dr F))(hr:Room k X.A)(ha:QA X (e::es) (tFA K p ds ds1 sh fa))(h:cck X x e es:=by rfl)(h2:(ia sh,eG ds1 sh dps)=(true,true):=by rfl):QE X (.Call (.Name x px) (e::es) [] pos) (tF K p ds ds1 dr (aE F fa)):=by
 simp only[cck,za0]at h h2;exact Eg G hr h.1 ha h2.1 h2.2 h.2.1 h.2.2.1 h.2.2.2
def fns(G:Kn X.prog X.w X.K X.mg X.base k x ps (spF K dps dr F))(hr:Room k X.A)(ha:QA X (e::es) (tFA K false ds ds1 sh fa))(h:cck X x e es:=by rfl)(h2:eG ds1 sh dps=true:=by rfl):QE X (.Call (.Name x px) (e::es) [] pos) (tF K false ds ds1 dr (aE F fa)):=by
 simp only[cck,za0]at h;exact zS G hr h.1 ha h2 h.2.1 h.2.2.1 h.2.2.2
def fcb(hc:CallR X (.builtin id) (rFn K g d))(hm:X.mg x=none)(hv:bootBuiltins x=some (.builtin id))(ha:QA X (e::es) (tFA K p ds ds1 sh fa))(h:cck X x e es:=by rfl)(h2:(b8 0 sh,x==("__name__":Str))=(true,false):=by rfl):QE X (.Call (.Name x px) (e::es) [] pos) (tF K p ds ds1 d (eN g fa)):=by
 simp only[cck,za0]at h h2;exact pc hc h.1 hm hv ha h2.1 (by simpa using h2.2) h.2.1 h.2.2.1 h.2.2.2
def fct(hc:CallR X (.type id) (rFn K g d))(hm:X.mg x=none)(hv:bootBuiltins x=some (.type id))(ha:QA X (e::es) (tFA K p ds ds1 sh fa))(h:cck X x e es:=by rfl)(h2:(b8 0 sh,x==("__name__":Str))=(true,false):=by rfl):QE X (.Call (.Name x px) (e::es) [] pos) (tF K p ds ds1 d (eN g fa)):=by
 simp only[cck,za0]at h h2;exact ut hc h.1 hm hv ha h2.1 (by simpa using h2.2) h.2.1 h.2.2.1 h.2.2.2
def fln(hK:X.K=K)(hm:X.mg "len"=none)(ha:QA X (e::es) (tFA K p ds ds1 sh fa))(h:cck X "len" e es:=by rfl)(h2:b8 0 sh=true:=by rfl):QE X (.Call (.Name "len" px) (e::es) [] pos) (tF K p ds ds1 3 (eN aZ fa)):=by
 simp only[cck,za0]at h;exact pc (Ir hK) h.1 hm (by decide +kernel) ha h2 (by decide) h.2.1 h.2.2.1 h.2.2.2
def fte(hK:X.K=K)(hu:X.A.units+64<cLine)(ha:QE X a (tF K p ds ds1 d1 f1))(hb:QE X b (tF K p ds1 ds2 d2 f2)):QT X (.Compare a [.Eq] [b] pos) (tFT K p ds ds2 (tV (e2 eqD f1 f2))):=aT (mV hK hu) ha hb (a9 _)
def ftn(hK:X.K=K)(hu:X.A.units+64<cLine)(ha:QE X a (tF K p ds ds1 d1 f1))(hb:QE X b (tF K p ds1 ds2 d2 f2)):QT X (.Compare a [.NotEq] [b] pos) (tFT K p ds ds2 (tV (e2 neD f1 f2))):=aT (CC hK hu) ha hb (a9 _)
def fxi{n:Int}{j:Nat}{q:Pos}(hK:X.K=K)(ha:QE X a (tF K p ds ds1 d1 f1)):QE X (.Subscript a (.Constant (.int n) j q) pos) (tF K p ds ds1 0 (e2 ixA f1 (eC (.int n)))):=bc (bF hK) ha ah fun _ _=>rfl
def aU(i:Nat)(ds':List Nat){pos':Pos}(hN:X.N.Nodup)(he:QE X e (tF K false ds ds1 d f))(h:(X.N[i]?,X.env.scope.names.lookup x,X.fn x)=(some x,some .local,true):=by rfl)(h2:(ds1.set i d,decide (i<ds1.length),J.lk.contains i)=(ds',true,false):=by rfl)(hs:swapsWith e (some (.Name x pos')) pos.line X.env=pure false:=by rfl):QS X (.Assign [.Name x pos'] e pos) (tFS K J ds ds' (aw i f)):=by
 simp only[za0,decide_eq_true_eq]at h h2;exact bT hN h.1 (.inl h.2.1) he h2.1 h2.2.1 (by simpa using h2.2.2) hs (.inl h.2.2)
def fsc{P:List Str}{sc:Scope}(a:sc.kind=.function:=by rfl)(b:sc.isCoroutine=false:=by rfl)(c:sc.isGenerator=false:=by rfl)(d:N.Nodup:=by decide +kernel)(e:N.take P.length=P:=by rfl)(f:∀x∈P,sc.names.lookup x=some .local\/sc.names.lookup x=some .cell:=by decide +kernel)(g:∀y∈sc.names,y.2≠.free:=by decide +kernel):FnScope N P sc:=⟨a,b,c,d,e,f,g⟩
def Fun.okR{base:Heap}{q:Str}{fa:Addr}{fd:FuncData}{n:Nat}{b:MS}(F:Fun K x q st fa fd)(S:FnScope N ps (am st))(J:Jd)(ds0:List Nat)
  (hb:N.Nodup->∀(cdv:Value) (A:Around) (outer:List Env) (s:Shared) (H:Hp) (E:XK),Room k (A.deeper (envOfC q (am st) s.heap.objs.size fa cdv))->QSs (l9 CX0 P w K mg base N q (am st) fa cdv A outer s H E).nox (cr st) (tFS K J ds0 ds0 b)) (hl:dps.length=ps.length:=by rfl) (hn:N.length-dps.length=n:=by rfl) (hJ:J=⟨p9 dps,dps++List.replicate n 0,dr,[]⟩:=by rfl) (hd:ds0=dps++List.replicate n 0:=by rfl):FnOk P w K mg base CX0 (k+1) fa fd ps (spF K dps dr (fnF n dps b)):=F.okQ S hl hn hJ hd (hb S.nd)
def ndk(l:List Str)(h:l.Nodup:=by decide +kernel):l.Nodup:=h
def fgn(i:Nat)(ds':List Nat){lk:List Nat}(hN:X.N.Nodup)(hi:X.N[i]?=some x:=by rfl)(hx:Loc X.env.scope x:=by exact .inl rfl)(hds:ds.set i 0=ds':=by rfl)(hl:i<ds.length:=by decide)(hk:i∉lk:=by decide)(hf:X.fn x=true\/X.env.scope.names.lookup x=some .local:=by first|exact .inl rfl|exact .inr rfl):QG X (.Name x pos) (tFG K lk ds ds' (gN i)):=oZ hN hi hx hds hl hk hf
def fac(ha:QE X e (tF K p ds ds1 d f))(hr:QA X es (tFA K p ds1 ds2 sh fa))(hs:aQ e=true:=by rfl):QA X (e::es) (tFA K p ds ds2 (.inl d::sh) (ae f fa)):=wl ha hr hs
end
abbrev MX:=En->Option Unit
abbrev MN:=En->Option Str
end L2
namespace L2
open PySem PySem.Spec PyProof.Rows Builtin Builtin.ObjectAttr Builtin.Getset_descriptor
end L2
namespace L2
variable{w:World}{prog:Program}{A:Around}{E:Value->Shared->Prop}{s:Shared}{st:SortSt}{Q:Option Nat->SortSt->Prop}{n:Nat}
open PySem PySem.Spec PyProof.Rows
def oO{P:Program}{k:Key}{v:Value}(h:(aO P w).is k v=true):RelV (kV k) v:=by
 rcases bt h with⟨i,t,e1,e2⟩|⟨x,t,e1,e2⟩
 ·have e:k=Sum.inl i:=e1;rw[e,e2];exact⟨t,rfl⟩
 ·have e:k=Sum.inr x:=e1;rw[e,e2];exact⟨t,rfl⟩
section
variable{X:Cx}{K:zbY}{O:AS}{H:Hp}
def tO(hc:X.calm=true):CallR X (.type "list") (fun xs H Q=>∃a kvs,xs=[.ref a]/\Rd H a (.dK kvs)/\∀l,H l=none->Q (.ref l) (upd H l (.lst (kvs.map fun q=>kV q.1)))):=by
 intro ρ s σ H xs us Q I r h;obtain⟨a,kvs,rfl,ha,q⟩:=h;obtain⟨u,rfl,ru⟩:=eg r;cases ru;obtain⟨z,hd,vs,rel,dd⟩:=fj I.hok ha;obtain⟨o,es,ep,dr⟩:=dd;have hl:kvs.length=vs.length:=rel.length;refine PySem.W.kdl_call (PySem.W.kdl_dict (knd:=aO X.prog X.w) (kvs:=vs) (ep:=ep) hd) (I.ok.hd hc) ⟨o,es,dr⟩ (by omega) fun h' tk acc c' hk ho hi=>?_;have la:acc.toList.length=vs.length:=by rw[zaX];exact hi.1
 have rv:Vals (kvs.map fun q=>kV q.1) acc.toList:=eQ (by rw[zad];omega) fun i x v e1 e2=>by
  obtain⟨k,y,hky,hv⟩:=hi.2 i v (by simpa using e2);rw[zao]at e1;obtain⟨p,hp,rfl⟩:=zab.mp e1;have hkeys:=congrArg (fun l=>l[i]?) rel.keys;simp only[zao,hp,hky,Option.map_some,zbb]at hkeys;rw[hkeys];exact oO hv
 exact⟨.ref s.heap.objs.size,_,I.laid (t':=tk) (o:=.lst (kvs.map fun q=>kV q.1)) hk (zav _) ⟨by rw[zad];exact z,acc.toList,c',rv,by simpa using ho⟩,rfl,q _ I.fresh⟩
def sJ:List D->Option D
 |[.dict ks]=>grd (noT ks=true) (.list (ks.map fun q=>q.1))
 |_=>none
theorem jq:∀{ks:List (D×D)} {vs:List (Key×V)} {F:AS} {d:Nat},Owd K O H ks d vs F->Ows K O H (ks.map fun q=>q.1) 0 (vs.map fun q=>kV q.1) NoA
 |[],_,_,_,h=>by rw[show _=[]from h];rfl
 | (k,t)::ks,_,_,_,h=>by
  obtain⟨q,v,r,F1,F2,e,e2,_,_,_,_,h5⟩:=h;subst e e2;refine⟨kV q,_,NoA,NoA,rfl,fun _ z=>z,fun _ z=>z,fun _ z=>z.elim,?_,jq h5⟩;cases q<;>rfl
def zH(hK:X.K=K)(hc:X.calm=true):CallR X (.type "list") (rFn K sJ 1):=by
 subst hK;refine(tO hc).imp ?_;rintro xs H Q ⟨O,as,t,oa,hd,hg,k⟩
 match as,hg with
 |[.dict ks],hg=>
  obtain⟨c,rfl⟩:=bA hg;obtain⟨v,rfl,o⟩:=oa.one;obtain⟨a,vs,rfl,ha,ow⟩:=o.dict0 c;exact⟨a,vs,rfl,ha,fun l hl=>k _ _ _ (bW hl hd (jq ow)).1 (bW hl hd (jq ow)).2⟩
end
def Falls(xs:Array Keyed)(k:Nat):Prop:=∀i,i+1<k->K xs (i+1)<K xs i
def Falls.nonInc{xs:Array Keyed}{k:Nat}(h:Falls xs k):NonInc xs k:=by
 have key:∀d i,i+d<k->K xs (i+d)<=K xs i:=by
  intro d
  induction d with
  |zero=>intro i _;exact Int.le_refl _
  |succ d ih=>
   intro i hi;have a:=h (i+d) (by omega);have b:=ih i (by omega);rw[show i+(d+1)=i+d+1 by omega];omega
 intro i j hij hj
 have:=key (j-i) i (by omega);rw[show i+(j-i)=j by omega]at this;exact this
section
variable{b₀:Array Keyed}
def GS(hk:IntKeys b₀)(h1:1<=b₀.size)(hB:SBase b₀ st)(hs:SortedTo (arrOf st) b₀.size)(q:Q (some b₀.size) st):wpS (model prog w) A E s (countRun' 0 b₀.size) Q st:=by
 rw[countRun0_eq];refine wpS_bind (wpS_ascLoop hk (zav _) (zav 1) h1 hB (fun i j a b=>hs i j a (by omega)) fun n n1 n2 _ e=>?_);have en:n=b₀.size:=by
  rcases e with e|e
  ·exact e
  ·by_cases z:n=b₀.size
   ·exact z
   ·have:=hs (n-1) n (by omega) (by omega);omega
 subst en
 dsimp only
 rw[if_pos (by simp)];exact wpS_pure q
def yJ{m:Nat}{Q:DescSt->SortSt->Prop}(hk:IntKeys b₀)(hm:m<=b₀.size)(h1:1<=n)(hn:n<=m)(hB:SBase b₀ st)(hf:Falls (arrOf st) m)(q:Q (none,m,0) st):wpS (model prog w) A E s (descLoop n m) Q st:=by
 unfold descLoop;refine wpS_forRange (I:=fun x c st'=>st'=st/\c=(none,x,0)) ?step ?fin ⟨rfl,rfl⟩
 case fin=>
  rintro c st' ⟨rfl,rfl⟩;rw[show max n m=m by omega];exact q
 case step=>
  rintro x c st' a b ⟨rfl,rfl⟩
  dsimp only
  refine wpS_bind (wpS_ltK hB hk (by omega) (by omega) ?_)
  have:=hf (x-1) (by omega);rw[show x-1+1=x by omega]at this;simp only[this,decide_true,if_true];rw[if_neg (by omega)];exact wpS_pure ⟨rfl,rfl⟩
def yI(hk:IntKeys b₀)(h1:2<=b₀.size)(hB:SBase b₀ st)(hf:Falls (arrOf st) b₀.size)(q:∀st',SBase b₀ st'->SortedTo (arrOf st') b₀.size->Q (some b₀.size) st'):wpS (model prog w) A E s (countRun' 0 b₀.size) Q st:=by
 rw[countRun0_eq];refine wpS_bind (wpS_ascLoop hk (zav _) (zav 1) (by omega) hB (fun i j a b=>by rw[show i=j by omega];exact Int.le_refl _) fun n n1 n2 so e=>?_);have en:n=1:=by
  by_cases z:n=1
  ·exact z
  ·have:=so 0 1 (by omega) (by omega)
   have:K (arrOf st) 1<K (arrOf st) 0:=hf 0 (by omega);omega
 subst en
 dsimp only
 rw[if_neg (by simp;omega),if_neg (by omega)];unfold descPart;refine wpS_bind (wpS_lift (wpAny_rule ⟨rfl,?_⟩));refine wpS_bind (yJ hk (zav _) (by omega) h1 hB hf ?_)
 dsimp only
 rw[if_neg (by omega)];unfold tail3;have hz:b₀.size<=(arrOf st).size:=by rw[hB.size];exact zav _
 refine wpS_bind (wpS_reverse ?_);have hB':SBase b₀ (setArr st (mirror (arrOf st) 0 b₀.size ((b₀.size-0) / 2))):=hB.setArr (mirror_perm _ _ _ _);have hs':SortedTo (arrOf (setArr st (mirror (arrOf st) 0 b₀.size ((b₀.size-0) / 2)))) b₀.size:=by
  intro i j a b;show K (mirror (arrOf st) 0 b₀.size ((b₀.size-0) / 2)) i<=K (mirror (arrOf st) 0 b₀.size ((b₀.size-0) / 2)) j;rw[K_mirror hz,K_mirror hz,if_pos (by omega),if_pos (by omega)];exact hf.nonInc _ _ (by omega) (by omega)
 refine wpS_bind (wpS_ascLoop hk (zav _) (by omega) (zav _) hB' hs' fun n n1 n2 _ _=>?_);have en:n=b₀.size:=by omega
 subst en;exact wpS_pure (q _ hB' hs')
theorem qF:∀f n r,minRun' f n r<=n+r
 |0,n,r=>zav _
 |f+1,n,r=>by
  rw[minRun'_succ];split
  ·exact zav _
  ·have:=qF f (n / 2) (max r (n % 2))
   have:max r (n % 2)<=r+1:=Nat.max_le.mpr ⟨by omega,by omega⟩;omega
def pH(xs:Array Keyed):Prop:=SortedTo xs xs.size\/Falls xs xs.size
def yH{Q:Unit->SortSt->Prop}(hk:IntKeys b₀)(hB:SBase b₀ st)(ha:arrOf st=b₀)(h2:2<=b₀.size)(ho:pH b₀)
  (q:∀st',(arrOf st').Perm b₀->failedOf st'=none->SortedTo (arrOf st') b₀.size->Q () st'):wpS (model prog w) A E s sortRuns' Q st:=by
 rw[sortRuns'_eq];refine wpS_bind (wpS_get ?_)
 dsimp only
 have ml:minRun' b₀.size b₀.size 0<=b₀.size:=qF _ _ _;rw[hB.size];refine wpS_bind (wpS_mono (wpS_forRange
  (I:=fun x c st'=>(x=0/\c=(none,0)/\st'=st)\/(1<=x/\c=(none,b₀.size)/\SDone b₀ st'))
  (Q:=fun c st'=>c=(none,b₀.size)/\SDone b₀ st') ?step ?fin (.inl ⟨rfl,rfl,rfl⟩)) ?post)
 case fin=>
  rintro c st' (⟨z,_⟩|⟨_,a,b⟩)
  ·omega
  ·exact⟨a,b⟩
 case step=>
  rintro x c st' _ _ (⟨rfl,rfl,rfl⟩|⟨_,rfl,D⟩)
  ·dsimp only
   rw[if_neg (by omega)];simp only[Nat.sub_zero,za2];have fin:∀st2,SBase b₀ st2->SortedTo (arrOf st2) b₀.size->_:=fun st2 B2 s2=>B2.done s2;have go:wpS (model prog w) A E s (countRun' 0 b₀.size) (fun r st2=>r=some b₀.size/\SBase b₀ st2/\SortedTo (arrOf st2) b₀.size) st':=by
    rcases ho with ho|ho
    ·exact GS hk (by omega) hB (by rw[ha];exact ho) ⟨rfl,hB,by rw[ha];exact ho⟩
    ·exact yI hk h2 hB (by rw[ha];exact ho) fun st2 B2 s2=>⟨rfl,B2,s2⟩
   refine wpS_bind (wpS_mono go ?_);rintro _ st2 ⟨rfl,B2,s2⟩
   dsimp only
   rw[if_neg (by omega)];refine wpS_bind (wpS_get ?_);have hb:(pendingOf st2).back?=none:=by rw[B2.pend];rfl
   rw[hb]
   dsimp only
   exact wpS_bind (wpS_modify (wpS_pure (.inr ⟨by omega,rfl,fin st2 B2 s2⟩)))
  ·dsimp only
   rw[if_pos (zav _)];exact wpS_pure ⟨rfl,D⟩
 case post=>
  rintro c st' ⟨rfl,D⟩
  dsimp only
  refine wpS_bind (wpS_mono (wpS_forRange (I:=fun _ c st2=>st2=st'/\c=(none,())) (Q:=fun c st2=>st2=st'/\c=(none,())) ?_ (fun _ _ z=>z) ⟨rfl,rfl⟩) ?_)
  ·rintro x c st2 _ _ ⟨rfl,rfl⟩;refine wpS_bind (wpS_get ?_);rw[if_pos (by rw[D.2.2.1];exact zav 1)];exact wpS_pure ⟨rfl,rfl⟩
  ·rintro c st2 ⟨rfl,rfl⟩;exact wpS_pure (q _ D.1 D.2.1 D.2.2.2)
end
def yE{a:Addr}{vs:List Value}{ns:List Int}{P:Fin->Shared->Prop}(ho:s.heap.get? a=some (seqObj "list" vs.toArray n))(hI:IntsAre vs ns)(hz:vs.length<=100000)(h1:vs.length<64\/pH (pairsOf vs))
  (q:∀(out:Array Value) (ns':List Int),IntsAre out.toList ns'->ns'.Perm ns->ns'.Pairwise (·<=·)->P (.done (.ret .none)) { s with heap:=sortedHeap s.heap a vs out }):
  wpAny (model prog w) A (Builtin.«list.sort» ⟨[.ref a],[]⟩) P E s:=by
 rcases Nat.lt_or_ge vs.length 64 with lt|ge
 ·exact list_sort_tree ho hI lt q
 have o1:pH (pairsOf vs):=h1.resolve_left (by omega);obtain⟨v₁,v₂,rest,rfl⟩:∃x y r,vs=x::y::r:=by
  match vs,ge with
  |x::y::r,_=>exact⟨x,y,r,rfl⟩
 rw[list_sort_plain];have la:a<s.heap.objs.size:=zal ho;refine zam (listItems_at ho rfl (zam (listUpdate_at ho rfl ?_)));obtain⟨e1,ho1⟩:∃e1,(s.heap.update a (Obj.mapSeq fun _=>#[])).get? a=some (seqObj "list" #[] e1):=⟨_,get?_update_seq ho (fun _=>#[])⟩;refine zam (seqEpoch_at ho1 rfl (zam (wpAny_newTuple (zam (wpAny_newList (zbT ?_))))));have ho6:(((s.heap.update a (Obj.mapSeq fun _=>#[])).push (seqObj "tuple" (v₁::v₂::rest).toArray 0)).push (seqObj "list" #[] 0)).get? a=some (seqObj "list" #[] e1):=by
  rw[Heap.get?_push_ne _ _ _ (zaw (by rw[size_push',Heap.size_update];exact Nat.lt_succ_of_lt la)),Heap.get?_push_ne _ _ _ (zaw (by rw[Heap.size_update];exact la)),ho1]
 show wpAny (model prog w) A _ P E { s with heap:=((s.heap.update a (Obj.mapSeq fun _=>#[])).push (seqObj "tuple" (v₁::v₂::rest).toArray 0)).push (seqObj "list" #[] 0) }
 dsimp only
 have two:¬(v₁::v₂::rest).toArray.size<2:=by simp
 rw[if_neg two,if_neg two,keyKind_ints hI];refine zam (zaS (zam (wpAny_mono (yH (b₀:=pairsOf (v₁::v₂::rest)) (st:=SortSt.mk' oneType' ((v₁::v₂::rest).toArray.zip (v₁::v₂::rest).toArray) #[] 7 none)
   (Q:=fun _ st'=>(arrOf st').Perm (pairsOf (v₁::v₂::rest))/\failedOf st'=none/\SortedTo (arrOf st') (pairsOf (v₁::v₂::rest)).size)
   hI.intKeys ⟨Array.Perm.refl _,rfl,rfl,rfl⟩ rfl (by rw[pairsOf_size];simp) o1 fun st' b1 b2 b3=>⟨b1,b2,b3⟩) ?_ fun _ _ e=>e)))
 rintro⟨⟨⟩,st'⟩ s' ⟨rfl,hp,hf,hs⟩
 dsimp only
 refine zam (seqEpoch_at ho6 rfl ?_);have hsz:((arrOf st').map (·.2)).size<=100000:=by
  rw[Array.size_map,hp.size_eq,pairsOf_size];exact hz
 refine zam (listUpdate_at ho6 rfl ?_ (hsz2:=zau hsz (by rw[sizeLine_eq];decide)));rw[hf];simp only[bne_self_eq_false,Bool.false_eq_true,if_false];obtain⟨ns',c1,c2,c3⟩:=sorted_out hI hp hs;exact zaS (q _ ns' c1 c2 c3)
end L2
namespace L2
variable{vs:List Value}{ns:List Int}
open PySem PySem.Spec PyProof.Rows Builtin
theorem uM:∀{vs:List Value} {ns:List Int},IntsAre vs ns->∀i,(match vs[i]? with|some v=>numOf v|none=>0)=ns.getD i 0
 |_,_,.nil,i=>rfl
 |_,_,.cons n t h,0=>rfl
 |_,_,.cons n t h,i+1=>by
  have:=uM h i;simpa using this
def mZ(h:IntsAre vs ns)(i:Nat):K (pairsOf vs) i=ns.getD i 0:=by
 rw[<-uM h i];have e:(pairsOf vs)[i]?=vs[i]?.map fun v=>(v,v):=by
  rw[<-Array.getElem?_toList,pairsOf_toList];clear h
  induction vs generalizing i with
  |nil=>rfl
  |cons v r ih=>
   cases i with
   |zero=>rfl
   |succ i=>simpa using ih i
 unfold K;rw[e];cases vs[i]?<;>rfl
def oneB:List Int->Bool
 |[]=>true
 |x::r=>go x r true || go x r false
where go (x:Int):List Int->Bool->Bool
 |[],_=>true
 |y::r,true=>decide (x<=y)&&go y r true
 |y::r,false=>decide (y<x)&&go y r false
theorem CA:∀{r:List Int} {x:Int},oneB.go x r true=true->∀i,i+1<(x::r).length->(x::r).getD i 0<=(x::r).getD (i+1) 0
 |[],x,_,i,h=>by simp at h
 |y::r,x,g,i,h=>by
  have g':(decide (x<=y)&&oneB.go y r true)=true:=g;rw[zbk,zbg]at g';cases i with
  |zero=>exact g'.1
  |succ i=>exact CA g'.2 i (by simpa using h)
theorem uZ:∀{r:List Int} {x:Int},oneB.go x r false=true->∀i,i+1<(x::r).length->(x::r).getD (i+1) 0<(x::r).getD i 0
 |[],x,_,i,h=>by simp at h
 |y::r,x,g,i,h=>by
  have g':(decide (y<x)&&oneB.go y r false)=true:=g;rw[zbk,zbg]at g';cases i with
  |zero=>exact g'.1
  |succ i=>exact uZ g'.2 i (by simpa using h)
def Dd(h:IntsAre vs ns)(o:oneB ns=true):pH (pairsOf vs):=by
 have hl:(pairsOf vs).size=ns.length:=by rw[pairsOf_size];exact h.length
 cases ns with
 |nil=>
  refine .inl fun i j a b=>?_;rw[hl]at b;simp at b
 |cons x r=>
  have o':(oneB.go x r true || oneB.go x r false)=true:=o;rcases Bool.or_eq_true_iff.mp o' with o'|o'
  ·refine .inl ?_;have key:∀d i,i+d<(x::r).length->(x::r).getD i 0<=(x::r).getD (i+d) 0:=by
    intro d
    induction d with
    |zero=>intro i _;exact Int.le_refl _
    |succ d ih=>
     intro i hi;exact Int.le_trans (ih i (by omega)) (CA o' (i+d) (by omega))
   intro i j a b;rw[mZ h,mZ h]
   have:=key (j-i) i (by omega);rw[show i+(j-i)=j by omega]at this;exact this
  ·refine .inr fun i b=>?_;rw[mZ h,mZ h];exact uZ o' i (by omega)
def iX(ns:List Int):Prop:=ns.length<64\/(oneB ns=true/\ns.length<=5000)
instance (ns:List Int):Decidable (iX ns):=by unfold iX;exact inferInstance
section
variable{X:Cx}{K:zbY}{O:AS}{H:Hp}
def ql(hc:X.calm=true):CallR X (.builtin "sorted") (fun xs H Q=>∃a kvs ns,xs=[.ref a]/\Rd H a (.dK kvs)/\(kvs.map fun q=>kV q.1)=ns.map V.int/\iX ns/\∀l,H l=none->Q (.ref l) (upd H l (.lst ((ff ns).map V.int)))):=by
 intro ρ s σ H xs us Q I r h;obtain⟨a,kvs,ns,rfl,ha,ek,cs,q⟩:=h;obtain⟨u,rfl,ru⟩:=eg r;cases ru;obtain⟨z,hd,vs,rel,dd⟩:=fj I.hok ha;obtain⟨o,es,ep,dr⟩:=dd;have hl:kvs.length=vs.length:=rel.length;have hn:ns.length=kvs.length:=by have:=congrArg List.length ek;simpa using this.symm
 have n5:ns.length<=5000:=by
  rcases cs with c|c
  ·omega
  ·exact c.2
 refine Calls.call_function_entry kind_sorted plain_sorted entry_sorted (args_sorted1 _) ?_;unfold Builtin.«sorted»;refine zam (m:=checkCount "sorted" 1 1 _) (zaS ?_);refine zam (PySem.W.kdu_collect (PySem.W.kdl_dict (knd:=aO X.prog X.w) (kvs:=vs) (ep:=ep) hd) (I.ok.hd hc) ⟨o,es,dr⟩ (by omega) fun h1 tk acc hk hi=>?_);have la:acc.toList.length=vs.length:=by rw[zaX];exact hi.1
 have rv:Vals (ns.map V.int) acc.toList:=by
  rw[<-ek];exact eQ (by rw[zad];omega) fun i x v e1 e2=>by
   obtain⟨k,y,hky,hv⟩:=hi.2 i v (by simpa using e2);rw[zao]at e1;obtain⟨p,hp,rfl⟩:=zab.mp e1;have hkeys:=congrArg (fun l=>l[i]?) rel.keys;simp only[zao,hp,hky,Option.map_some,zbb]at hkeys;rw[hkeys];exact oO hv
 have hI:IntsAre acc.toList ns:=v9 rv;have l5:acc.toList.length<=5000:=by omega
 refine zam (wpAny_newList ?_ (zau l5 (by decide)));have hoL:(h1.push (seqObj "list" acc.toList.toArray 0)).get? h1.objs.size=some (seqObj "list" acc.toList.toArray 0):=zan _ rfl;refine zam (zbT (wpAny_call_entry slot_list_sort ⟨_,hoL,rfl⟩ entry_list_sort (yE hoL hI (by omega) (cs.imp (fun c=>by omega) fun c=>Dd hI c.1) fun out ns' a1 a2 a3=>⟨_,rfl,?_⟩) (args_list_sort _)));refine zaS ⟨_,rfl,?_⟩;have e1:ns'=ff ns:=kj (a2.trans (ei ns).symm) a3 (dA ns);subst e1;obtain⟨e,he⟩:=sortedHeap_at (out:=out) hoL;have I1:=I.kept (t':=tk) hk;have k2:∀b o,h1.get? b=some o->(sortedHeap (h1.push (seqObj "list" acc.toList.toArray 0)) h1.objs.size acc.toList out).get? b=some o:=fun b o q=>by
  have hb:=zal q;rw[sortedHeap_old (zaw hb) (by rw[size_push'];exact Nat.lt_succ_of_lt hb)];exact zaf _ q
 have hsl:(ff ns).length=ns.length:=(ei ns).length_eq;refine⟨.ref _,_,I1.laid (a:=h1.objs.size) (o:=.lst ((ff ns).map V.int)) (t':=tk) k2 (zav _) ⟨by rw[zad,hsl];omega,out.toList,e,rO a1,?_⟩,rfl,q _ (I1.hok.fresh (zav _))⟩;rw[show out.toList.toArray=out from rfl];exact he
def rR:List D->Option D
 |[.dict ks]=>if noT ks=true then(b7 (ks.map fun q=>q.1)).bind fun ns=>grd (iX ns) (.list ((ff ns).map .int))else none
 |_=>none
theorem hZ{O:AS}{H:Hp}:∀l:List Int,Ows K O H (l.map .int) 0 (l.map V.int) NoA
 |[]=>rfl
 |n::r=>⟨.int n,r.map V.int,NoA,NoA,rfl,fun _ z=>z,fun _ z=>z,fun _ z=>z.elim,rfl,hZ r⟩
def zF(hK:X.K=K)(hc:X.calm=true):CallR X (.builtin "sorted") (rFn K rR 1):=by
 subst hK;refine(ql hc).imp ?_;rintro xs H Q ⟨O,as,t,oa,hd,hg,k⟩
 match as,hg with
 |[.dict ks],hg=>
  by_cases c:noT ks=true
  ·have hg':((b7 (ks.map fun q=>q.1)).bind fun ns=>grd (iX ns) (.list ((ff ns).map .int)))=some t:=by rw[<-hg];exact(if_pos c).symm
   obtain⟨ns,h1,h2⟩:=zaa.mp hg';obtain⟨cs,rfl⟩:=bA h2;obtain⟨v,rfl,o⟩:=oa.one;obtain⟨a,vs,rfl,ha,ow⟩:=o.dict0 c;exact⟨a,vs,ns,rfl,ha,nW (jq ow) h1,cs,fun l hl=>k _ _ _ (bW hl hd (hZ (K:=X.K) _)).1 (bW hl hd (hZ (K:=X.K) _)).2⟩
  ·exact absurd (show(none:Option D)=some t by rw[<-hg];exact(if_neg c).symm) (by simp)
end
end L2
namespace PySem
end PySem
namespace L2
variable{X:Cx}{K:zbY}{p:Bool}{ds ds0 ds1 ds2:List Nat}{d d1 i:Nat}{k c o e:Expr}{f fk fd:ME}{px μ ω pos p1 p2 q1:Pos}{σ:St}{H:Hp}{Q:VK}
open PySem PySem.Spec PyProof.Rows
def Lu(i:Nat)(fk fd:ME):ME:=fun en=>match (en[i]?).join with
 |some (.dict _)=>(fk en).bind fun r=>(fd r.2).bind fun q=>match (q.2[i]?).join with
  |some (.dict ks)=>(kOf r.1).map fun _=>((aG ks r.1).getD q.1,q.2)
  |_=>none
 |_=>none
def ja(f fk fd:ME):ME:=fun en=>(f en).bind fun z=>(fk z.2).bind fun r=>(fd r.2).bind fun q=>match z.1 with
 |.dict ks=>if noT ks=true then(kOf r.1).map fun _=>((aG ks r.1).getD q.1,q.2)else none
 |_=>none
def Es(h:tF K p ds ds2 0 (ja f fk fd) σ H Q):wO (tF K p ds ds0 d f) (tF K p ds0 ds1 d1 fk) (tF K p ds1 ds2 0 fd) σ H Q:=by
 obtain⟨Ox,en,R,t,en',e,hf,k⟩:=h;unfold ja at hf;obtain⟨⟨t1,en1⟩,h1,hf⟩:=zaa.mp hf;obtain⟨⟨t2,en2⟩,h2,hf⟩:=zaa.mp hf;obtain⟨⟨t3,en3⟩,h3,hf⟩:=zaa.mp hf;cases t1 with
 |dict ks=>
  have hf':(if noT ks=true then(kOf t2).map (fun _=>((aG ks t2).getD t3,en3))else none)=some (t,en'):=hf;by_cases hk:noT ks=true
  ·rw[if_pos hk]at hf';obtain⟨q,hq,ee⟩:=zab.mp hf';cases ee;refine⟨Ox,en,R,.dict ks,en1,e,h1,fun x H1 R1 F1 P1 o1=>?_⟩;obtain⟨a,vs,ex,ha,_⟩:=(Ow.letgo P1 (fun _ z=>z) o1).dict0 hk;refine⟨a,ex,.inl ⟨_,ha⟩,two (p1:=p) (p2:=p) P1.env h2 h3 fun y z H3 R3 F2 F3 P o2 o3=>?_⟩;rw[zbi]at P;have PP:=P1.trans P;rw[zbi]at PP;obtain⟨a',vs',ex',ha',ow⟩:=(Ow.letgo PP (fun _=>.inl) (Ow.over P1.env P o1)).dict0 hk;have ea:a'=a:=by rw[ex]at ex';cases ex';rfl
   subst ea;have w3:=Ow.letgo PP (fun _ z=>.inr (.inr z)) (j5▸o3);rw[c9 hq]at k;refine⟨bx vs' q,by rw[dC hq o2];exact DGet.kr ha',?_⟩;rcases ow.look q with⟨t'',w,c1,c2,c3⟩|⟨c1,c2⟩
   ·rw[c1]at k;rw[c2];exact k w H3 R3 NoA (PP.less fun _ z=>z.elim) (by rw[fW];exact c3)
   ·rw[c1]at k;rw[c2];exact k z H3 R3 NoA (PP.less fun _ z=>z.elim) (by rw[fW];exact w3)
  ·rw[if_neg hk]at hf';cases hf'
 |_=>cases hf
def zU(hu:X.A.units+1<cLine)(ho:PE X o (tF K p ds ds0 d f))(hk:PE X k (tF K p ds0 ds1 d1 fk))(hc:PE X c (tF K p ds1 ds2 0 fd))(m:M2 X o "get" μ k c ω):
  PE X (.Call (.Attribute o "get" μ) [k,c] [] ω) (tF K p ds ds2 0 (ja f fk fd)):=(yS hu ho hk hc m).imp fun _ _ _=>Es
section
variable{prog:Program}{w:World}{A:Around}{E:Value->Shared->Prop}{s:Shared}
def xH{Q:Int->Shared->Prop}(h:Q (reduceHash 0xFCA86420) { s with toks:=s.toks+1 }):wpAny (model prog w) A (pyHash .none) Q E s:=by
 have ty:s.TypeIs .none "NoneType":=rfl;show wpAny _ _ (pyHashByItsType .none) Q E s;refine PySem.W.pyHash_slot ty F.slot_NoneType_hash F.entry_NoneType_hash (F.args_NoneType_hash_1 _) (by decide) (.inl rfl) ?_;obtain⟨hp,g,d,tk,os⟩:=s;unfold Builtin.«NoneType.__hash__»
 wp_walk
 exact⟨_,_,rfl,h⟩
def rG:Option Key->Value->Bool
 |none,.none=>true
 |none,_=>false
 |some k,v=>kE k v
def cw{v:Value}(h:rG none v=true):v=.none:=by
 cases v<;>first|rfl|cases h
def Dc(prog:Program)(w:World):PySem.KeyKind prog w (Option Key) where
 is:=rG
 hash:=fun k=>match k with
  |none=>reduceHash 0xFCA86420
  |some k=>Hw w k
 inj:=fun v a b ha hb=>by
  cases a with
  |none=>
   cases b with
   |none=>rfl
   |some k=>
    rw[cw ha]at hb;cases k<;>cases hb
  |some k=>
   cases b with
   |none=>
    rw[cw hb]at ha;cases k<;>cases ha
   |some j=>rw[(aO prog w).inj v k j ha hb]
 byValue:=fun k v h=>by
  cases k with
  |none=>rw[cw h];rfl
  |some k=>exact(aO prog w).byValue k v h
 pyHash:=fun {A E s k v Q} hv h=>by
  cases k with
  |none=>rw[cw hv];exact xH h
  |some k=>exact(aO prog w).pyHash (k:=k) hv h
 eqBool:=fun {A E s a b u v Q} hu hv h=>by
  cases a with
  |none=>
   rw[cw hu];cases b with
   |none=>
    rw[cw hv];unfold PySem.eqBool;exact zam (wpAny_rule (zaS (by simpa using h)))
   |some k=>
    have e:decide ((none:Option Key)=some k)=false:=rfl;rw[e]at h;rcases bt hv with⟨i,t,rfl,rfl⟩|⟨x,t,rfl,rfl⟩
    ·exact SeqAt.EqAt.none_int i t _ _ _ _ h
    ·exact SeqAt.EqAt.none_str x t _ _ _ _ h
  |some k=>
   cases b with
   |none=>
    rw[cw hv];have e:decide (some k=(none:Option Key))=false:=rfl;rw[e]at h;rcases bt hu with⟨i,t,rfl,rfl⟩|⟨x,t,rfl,rfl⟩
    ·exact SeqAt.EqAt.int_none i t _ _ _ _ h
    ·exact SeqAt.EqAt.str_none x t _ _ _ _ h
   |some j=>
    refine(aO prog w).eqBool (a:=k) (b:=j) hu hv ?_;have e:decide (k=j)=decide (some k=some j):=by
     rw[decide_eq_decide];exact⟨fun z=>by rw[z],fun z=>zat z⟩
    rw[e];exact h
 «strs»:=fun k x t v h=>by
  cases k with
  |none=>cases h
  |some k=>exact(aO prog w).strs k x t v h
end
section
variable{d2:Nat}{a b:Expr}{f1 f2:ME} 
def wj(hu:X.A.units+1<cLine)(ho:QE X o (tF K p ds ds0 d f))(hk:QE X k (tF K p ds0 ds1 d1 fk))(hc:QE X c (tF K p ds1 ds2 0 fd))(m:M2 X o "get" μ k c ω):QE X (.Call (.Attribute o "get" μ) [k,c] [] ω) (tF K p ds ds2 0 (ja f fk fd)):=⟨zU hu ho.h hk.h hc.h m⟩
end
def lH(n:Nat):List V:=(List.range n).map fun k:Nat=>V.int (k:Int)
def tLR(ta:TA):TE:=fun σ H Q=>ta σ H fun vs H1=>∃j:Int,vs=[.int j]/\-5000<=j/\j<=5000/\∀l,H1 l=none->Q (.ref l) (upd H1 l (.lst (lH j.toNat)))
def C7{ta:TA}(hc:X.calm=true)(hgl:Gl X "list")(hml:X.mg "list"=none)(hg:Gl X "range")(hm:X.mg "range"=none)(ha:PA X [e] ta)(hs:starEach [e] X.env=[(false,eval e X.env)]:=by rfl):
  PE X (.Call (.Name "list" p1) [.Call (.Name "range" p2) [e] [] q1] [] pos) (tLR ta):=by
 intro ρ s σ H Q I h;refine wpAny_Call_Name_kw (ie I hgl hml (show bootBuiltins "list"=some (.type "list")by decide +kernel) (PyProof.Rows.callWith_type1 ?_ rfl rfl) (by decide) (by decide));show wpAny _ _ (spliced ((false,eval (.Call (.Name "range" p2) [e] [] q1) X.env)::backTo pos (starEach [] X.env))) _ _ s;refine Calls.spliced_cons (Call_ (ie I hg hm boot_range (PyProof.Rows.callWith_type1 (thn (ha q1 ρ s σ H _ I h) fun us s1 ⟨vs,H1,I1,r1,q1⟩=>?_) hs rfl)));obtain⟨j,e,b1,b2,q⟩:=q1;subst e;cases r1 with
 |cons r rr=>
  cases rr;obtain⟨t,rfl⟩:=r;refine call_range_1 (Calls.spliced_nil ?_);have I2:Inv X ρ σ H1 { s1 with heap:=s1.heap.push { cls:=.type "range",data:=.fields #[.int 0 s1.toks,.int j t,.int 1 (s1.toks+1)] },toks:=s1.toks+1+1 }:=I1.kept fun b o e=>zaf _ e;refine call_list_range (n:=j.toNat) (I2.ok.hd hc) (IsRange.new ..) (small_one (by omega) (by omega) (by omega) (by omega)) (by rw[rangeSize_one];split<;>omega) (by omega) fun h' tk acc c' hk ho hi=>?_;have rv:Vals (lH j.toNat) acc.toList:=eQ (by unfold lH;rw[zad,zbc,zaX];exact hi.1.symm) fun i x v e1 e2=>by
   obtain⟨t',rfl⟩:=hi.2 i v (by simpa using e2);unfold lH at e1;rw[zao]at e1;obtain⟨k,hk,rfl⟩:=zab.mp e1;have ek:k=i:=by
    obtain⟨h1,h2⟩:=zah.mp hk;rw[<-h2,List.getElem_range]
   subst ek;exact⟨t',by rw[Int.mul_one,zbM]⟩
  exact⟨.ref _,_,I2.laid (t':=tk) (o:=.lst (lH j.toNat)) hk (zav _) ⟨by unfold lH;rw[zad,zbc];exact zau (show j.toNat<=5000 by omega) (by decide),acc.toList,c',rv,by simpa using ho⟩,rfl,q _ I2.fresh⟩
def mO:List D->Option D
 |[.int j]=>grd (-5000<=j/\j<=5000) (.list ((List.range j.toNat).map fun k:Nat=>.int (k:Int)))
 |_=>none
section
variable{sh:List (Nat ⊕ Nat)}{fa:MA}  
def IT(hs:b8 0 sh=true)(h:tF K p ds ds1 1 (eN mO fa) σ H Q):tLR (tFA K p ds ds1 sh fa) σ H Q:=by
 obtain⟨Ox,en,R,as,en1,e,h1,k⟩:=tw hs h;refine⟨Ox,en,R,as,en1,e,h1,fun vs H1 R1 F P o=>?_⟩;obtain⟨O,ts,t,oa,hd,hg,k2⟩:=k vs H1 R1 F P o
 match ts,hg with
 |[.int j],hg=>
  obtain⟨c,rfl⟩:=bA hg;obtain⟨v,rfl,ov⟩:=oa.one;have ev:v=.int j:=ov;subst ev;refine⟨j,rfl,c.1,c.2,fun l hl=>?_⟩;have e1:lH j.toNat=((List.range j.toNat).map fun k:Nat=>(k:Int)).map V.int:=by unfold lH;rw[zaQ];rfl
  have e2:((List.range j.toNat).map fun k:Nat=>PyData.int (k:Int))=((List.range j.toNat).map fun k:Nat=>(k:Int)).map .int:=by rw[zaQ];rfl
  rw[e1];rw[e2]at k2;exact k2 _ _ _ (bW hl hd (hZ (K:=K) _)).1 (bW hl hd (hZ (K:=K) _)).2
def qN(hc:X.calm=true)(hgl:Gl X "list")(hml:X.mg "list"=none)(hg:Gl X "range")(hm:X.mg "range"=none)(ha:QA X [e] (tFA K p ds ds1 sh fa))(hsh:b8 0 sh=true)(hs:aQ e=true):
  QE X (.Call (.Name "list" p1) [.Call (.Name "range" p2) [e] [] q1] [] pos) (tF K p ds ds1 1 (eN mO fa)):=⟨(C7 hc hgl hml hg hm ha.h (bj hs)).imp fun _ _ _=>IT hsh⟩
end
end L2
namespace L2
open PySem PySem.Spec PyProof.Rows Builtin
end L2
namespace L2
open PySem PySem.Spec PyProof.Rows PySem.Calls
end L2
namespace L2
variable{K:zbY}{O:AS}{H:Hp}{t:D}{d ep i k:Nat}{X:Cx}{ds ds1:List Nat}{σ:St}{s:Shared}{a:Addr}{P:Program}{w:World}{tg:Expr}{elts:List Expr}{tp:Pos}{u:HO}{ks:List (D×D)}{vs:List (Key×V)}
open PySem PySem.Spec PyProof.Rows
def scaD:D->Bool
 |.none=>true
 |.bool _=>true
 |.int _=>true
 |.str _=>true
 |_=>false
def eS3(f:ME):ME:=fun en=>(f en).bind fun r=>if scaD r.1=true then some r else none
def Ow.scaD{O':AS}{H':Hp}{d':Nat}{v:V}{F F':AS}(hs:L2.scaD t=true)(h:Ow K O H t d v F):Ow K O' H' t d' v F':=by
 cases t<;>first|exact h|cases hs
section
variable{p:Bool}{f:ME}{e:Expr}{Q:VK}
def K7(h:tF K p ds ds1 3 (eS3 f) σ H Q):tF K p ds ds1 d f σ H Q:=by
 obtain⟨Ox,en,R,t,en',e,hf,k⟩:=h;unfold eS3 at hf;obtain⟨⟨t1,en1⟩,h1,hf⟩:=zaa.mp hf;by_cases hs:scaD t1=true
 ·dsimp only at hf
  rw[if_pos hs]at hf;cases hf;exact⟨Ox,en,R,_,_,e,h1,fun v H' R' F P o=>k v H' R' F P (o.scaD hs)⟩
 ·dsimp only at hf
  rw[if_neg hs]at hf;cases hf
def u6(h:QE X e (tF K p ds ds1 d f)):QE X e (tF K p ds ds1 3 (eS3 f)):=⟨h.h.imp fun _ _ _=>K7⟩
end
def Jr(o:Obj)(ep:Nat):Prop:=∃es,o.data=.dict es ep
def FzD(H:Hp)(d:Addr)(kvs:List (Key×V))(ep:Nat):Prop:=∃o,H d=some (.frz o (.dK kvs))/\Jr o ep
def Itk(d:Addr)(kvs:List (Key×V))(ep:Nat):It:=
 ⟨fun i H=>FzD H d kvs ep/\i<kvs.length,fun i H x H'=>H'=H/\∃kv,kvs[i]?=some kv/\x=kV kv.1,fun i H=>FzD H d kvs ep/\kvs.length<=i⟩
def Itm(d:Addr)(kvs:List (Key×V))(ep:Nat):It:=
 ⟨fun i H=>FzD H d kvs ep/\i<kvs.length,fun i H y H'=>∃p kv,y=.ref p/\H p=none/\H'=upd H p (.tup [kV kv.1,kv.2])/\kvs[i]?=some kv,fun i H=>FzD H d kvs ep/\kvs.length<=i⟩
section
variable{ρ:List (Addr×Obj)}{kvs:List (Key×V)} 
def i6(I:Inv X ρ σ H s)(h:FzD H a kvs ep):(a==sysModules)=false/\∃vs,KV kvs vs/\s.heap.DictAt (aO X.prog X.w) a vs ep:=by
 obtain⟨o,h1,es0,h2⟩:=h;obtain⟨g1,_,hd,vs,rel,o',es,ep',g2,g3,g4,g5⟩:=(show ObjOk X.prog X.w H s.heap a (.frz o (.dK kvs))from I.hok a _ h1);rw[g1]at g2;cases g2;have e:=g4.symm.trans h2;injection e with e1 e2
 subst e2;exact⟨hd,vs,rel,o,es,g1,g3,g4,g5⟩
def Inv.freeze(I:Inv X ρ σ H s)(e:H a=some (.dK kvs)):∃o ep,Jr o ep/\Inv X ρ σ (upd H a (.frz o (.dK kvs))) s:=by
 obtain⟨z,hd,vs,rel,o,es,ep,g1,g2,g3,g4⟩:=mX I.hok e;refine⟨o,ep,⟨es,g3⟩,?_⟩;exact I.write (x:=a) (e:=a) (h':=s.heap) (t':=s.toks) (by rw[e];exact True.intro) (.inl rfl) (fun b u _ q=>q) ⟨o,g1⟩ ⟨g1,z,hd,vs,rel,o,es,ep,g1,g2,g3,g4⟩
def Ct{vs:List (Key×Value)}(rel:KV kvs vs)(hi:i<kvs.length):∃kv v,kvs[i]?=some kv/\vs[i]?=some (kv.1,v)/\RelV kv.2 v:=by
 induction rel generalizing i with
 |nil=>simp at hi
 |@cons p q r t hpq hr ih=>
  cases i with
  |zero=>exact⟨p,q.2,rfl,by rw[hpq.1];rfl,hpq.2⟩
  |succ j=>exact ih (by simpa using hi)
def qy(d it:Addr)(kvs:List (Key×V))(ep:Nat):Turn P w K tg (Itk d kvs ep) [it] it (fun i h=>h.IsKeyIter it d i kvs.length ep) where
 mem:=by simp
 obj:=fun i h st b hb=>by
  have e:b=it:=by simpa using hb
  subst e;obtain⟨o,e,c,d⟩:=st;exact⟨o,e,fun v z=>by rw[d]at z;cases z⟩
 keep:=fun i h h' st k=>st.at fun o e=>k it (by simp) o e
 item:=by
  intro X hP hw hK hc i ρ s σ H E I hf st hg;subst hP hw hK;obtain⟨fz,hi⟩:=hg;obtain⟨hd,vs,rel,dd⟩:=i6 I fz;obtain⟨f0,f1,f2,f3,f4,f5⟩:=hf it (by simp);have hl:kvs.length=vs.length:=rel.length;obtain⟨kv,x,hkv,hx,_⟩:=Ct rel hi;rw[hl]at st;refine wpAny_pyNext_dict_item st dd hx fun key h' hkey hit' hs'=>?_;have I1:Inv X ρ σ H { s with heap:=h' }:=I.turned (t':=s.toks) (fun b o hb e=>hs'.extBut b o hb e) f0 f1 f3 f4 f5;obtain⟨o',e',c',d'⟩:=id hit';exact⟨key,rfl,oU (s:={ s with heap:=h' }) e' c' d' (by decide) ⟨kV kv.1,H,I1,oO hkey,⟨rfl,kv,hkv,rfl⟩,(by rw[hl];exact hit'),fun b hb=>(hf b hb).1⟩⟩
 done:=by
  intro X hP hw hK hc i ρ s σ H E I hf st hg;subst hP hw hK;obtain⟨fz,hi⟩:=hg;obtain⟨hd,vs,rel,dd⟩:=i6 I fz;obtain⟨f0,f1,f2,f3,f4,f5⟩:=hf it (by simp);have hl:kvs.length=vs.length:=rel.length;rw[hl]at st;exact wpAny_pyNext_dict_end (I.ok.hd hc) st dd (zbj (by omega)) fun h' eb=>⟨rfl,I.turned (t':=s.toks) (fun b o hb e=>eb b o hb e) f0 f1 f3 f4 f5⟩
 self:=fun _ _ _ _ _ st h=>wpAny_pyIter_keyiter st h
def gB:entryFor table "dict_itemiterator.__iter__"=some Builtin.«dict_keyiterator.__iter__»:=
 entryFor_alias (id':="dict_keyiterator.__iter__") (by kernel_rfl) rfl (by decide +kernel) (by kernel_rfl)
def oH{A:Around}{E:Value->Shared->Prop}{it d:Addr}{n:Nat}{ok ov:Value}{Q:Value->Shared->Prop}(hit:IsItemIter s.heap it d i n ep ok ov)(h:Q (.ref it) s):wpAny (model P w) A (pyIter (.ref it)) Q E s:=by
 have hT:s.TypeIs (.ref it) "dict_itemiterator":=⟨_,hit,rfl⟩;refine wpAny_pyIter_slot hT F.slot_dict_itemiterator_iter (wpAny_call_entry F.slot_dict_itemiterator_iter hT gB ?_ (F.args_dict_itemiterator_iter_1 _));show wpAny _ _ (ret (.ref it)) _ _ s;exact zaS ⟨_,rfl,"dict_itemiterator",_,hT,F.slot_dict_itemiterator_next.lookup,h⟩
def vt(d it:Addr)(kvs:List (Key×V))(ep:Nat):Turn P w K (.Tuple elts k tp) (Itm d kvs ep) [it] it (fun i h=>∃ok ov,IsItemIter h it d i kvs.length ep ok ov) where
 mem:=by simp
 obj:=fun i h st b hb=>by
  have e:b=it:=by simpa using hb
  subst e;obtain⟨ok,ov,st⟩:=st;exact⟨_,st,fun v z=>by
   have z':Data.fields _=Data.cell v:=z;cases z'⟩
 keep:=fun i h h' st k=>let⟨ok,ov,e⟩:=st;⟨ok,ov,k it (by simp) _ e⟩
 item:=by
  intro X hP hw hK hc i ρ s σ H E I hf st hg;subst hP hw hK;obtain⟨fz,hi⟩:=hg;obtain⟨hd,vs,rel,dd⟩:=i6 I fz;have hl:kvs.length=vs.length:=rel.length;obtain⟨kv,x,hkv,hx,rx⟩:=Ct rel hi;obtain⟨ok,ov,st⟩:=st;have iL:it<s.heap.objs.size:=zal st;rw[hl]at st;refine wpAny_pyNext_items_item st dd hx fun key h1 hkey ho1 ht1 hz1 hk1=>?_;refine⟨_,rfl,wpAny_letOwnedTupleGo_items ho1 fun h2 he2 hs2=>?_⟩;have ht2:h2.get? s.heap.objs.size=some { cls:=.type "tuple",data:=.seq #[key,x] }:=(hs2.2 _ (Nat.ne_of_gt iL)).trans ht1;have I2:Inv X ρ σ (upd H s.heap.objs.size (.tup [kV kv.1,kv.2])) { s with heap:=h2 }:=by
   refine I.turnedLaid (t':=s.toks) (fp:=[it]) hf (zav _) (fun b ob hb q=>?_) (fun b hb=>?_) ?_
   ·have h1:b≠it:=fun z=>hb (by simp[z]);exact(hs2.2 b h1).trans (hk1 b ob h1 q)
   ·have e:b=it:=by simpa using hb
    subst e;exact⟨_,he2⟩
   ·refine⟨(by show 2<=sizeLine;decide),[key,x],.cons (oO hkey) (.cons rx .nil),?_⟩;exact⟨_,ht2,rfl,_,rfl,rfl⟩
  have fr:∀b∈[it],upd H s.heap.objs.size (.tup [kV kv.1,kv.2]) b=none:=fun b hb=>by
   have e:b=it:=by simpa using hb
   subst e;rw[az (zaw iL)];exact(hf b hb).1
  exact⟨.ref s.heap.objs.size,_,I2,rfl,⟨_,kv,rfl,I.fresh,rfl,hkv⟩,⟨key,x,by rw[hl];exact he2⟩,fr⟩
 done:=by
  intro X hP hw hK hc i ρ s σ H E I hf st hg;subst hP hw hK;obtain⟨fz,hi⟩:=hg;obtain⟨hd,vs,rel,dd⟩:=i6 I fz;obtain⟨f0,f1,f2,f3,f4,f5⟩:=hf it (by simp);have hl:kvs.length=vs.length:=rel.length;obtain⟨ok,ov,st⟩:=st;rw[hl]at st;exact wpAny_pyNext_items_end (I.ok.hd hc) st dd (zbj (by omega)) fun h' eb=>⟨rfl,I.turned (t':=s.toks) (fun b o hb e=>eb b o hb e) f0 f1 f3 f4 f5⟩
 self:=fun _ _ _ _ _ st h=>let⟨_,_,e⟩:=st;oH e h
end
section
variable{l:Addr}{ws:List (Key×V)}{ob:Obj}
def wY(hl:H l=some (.dK ws))(h:Rd H a u):Rd (upd H l (.frz ob (.dK ws))) a u:=by
 by_cases e:a=l
 ·subst e;rcases h with h|⟨o,h⟩
  ·rw[hl]at h;cases h;exact .inr ⟨ob,av⟩
  ·rw[hl]at h;cases h
 ·exact h.mv fun o q=>by rw[az e];exact q
def lM(hl:H l=some (.dK ws))(h:H a=some u)(n:u≠.dK ws):upd H l (.frz ob (.dK ws)) a=some u:=by
 rw[az fun e=>?_]
 ·exact h
 ·subst e;rw[hl]at h;cases h;exact n rfl
mutual
theorem Ow.frzd(hl:H l=some (.dK ws)):∀(t:D) {d:Nat} {v:V} {F:AS},¬F l->Ow K O H t d v F->Ow K O (upd H l (.frz ob (.dK ws))) t d v F
 |.none,_,_,_,_,h=>h
 |.bool _,_,_,_,_,h=>h
 |.int _,_,_,_,_,h=>h
 |.str _,_,_,_,_,h=>h
 |.tuple ts,_,_,_,g,h=>by
  obtain⟨a,vs,e,⟨h0,h1,h2⟩|⟨h0,h1,h2,F',hf,h3⟩⟩:=h
  ·exact⟨a,vs,e,.inl ⟨h0,⟨lM hl h1.1 (fun z=>nomatch z),h1.2⟩,Ows.frzd hl ts g h2⟩⟩
  ·exact⟨a,vs,e,.inr ⟨h0,lM hl h1 (fun z=>nomatch z),h2,F',hf,Ows.frzd hl ts (fun z=>g (hf _ z).1) h3⟩⟩
 |.list ts,_,_,_,g,h=>by
  obtain⟨a,vs,e,⟨h0,h1,h2⟩|⟨h0,h1,h2,F',hf,h3⟩⟩:=h
  ·exact⟨a,vs,e,.inl ⟨h0,h1.imp (fun h=>⟨wY hl h.1,h.2⟩) id,Ows.frzd hl ts g h2⟩⟩
  ·exact⟨a,vs,e,.inr ⟨h0,lM hl h1 (fun z=>nomatch z),h2,F',hf,Ows.frzd hl ts (fun z=>g (hf _ z).1) h3⟩⟩
 |.dict ks,_,_,_,g,h=>by
  obtain⟨a,vs,e,⟨h0,h1,hn,h2⟩|⟨h0,h1,h2,F',hf,h3⟩|⟨h0,ht⟩⟩:=h
  ·exact⟨a,vs,e,.inl ⟨h0,wY hl h1,hn,Owd.frzd hl ks g h2⟩⟩
  ·refine⟨a,vs,e,.inr (.inl ⟨h0,?_,h2,F',hf,Owd.frzd hl ks (fun z=>g (hf _ z).1) h3⟩)⟩;have na:a≠l:=fun z=>g (by rw[<-z];exact h2);rw[az na];exact h1
  ·refine⟨a,vs,e,.inr (.inr ⟨h0,?_⟩)⟩;rcases ht with⟨kk,b,h1,h2,h3⟩|⟨x,C,h1,h0',h2,h3⟩
   ·exact .inl ⟨kk,b,h1,lM hl h2 (fun z=>nomatch z),h3⟩
   ·exact .inr ⟨x,C,h1,h0',lM hl h2 (fun z=>nomatch z),h3⟩
theorem Ows.frzd(hl:H l=some (.dK ws)):∀(ts:List D) {d:Nat} {vs:List V} {F:AS},¬F l->Ows K O H ts d vs F->Ows K O (upd H l (.frz ob (.dK ws))) ts d vs F
 |[],_,_,_,_,h=>h
 |t::ts,_,_,_,g,h=>by
  obtain⟨v,r,F1,F2,e,h1,h2,h3,h4,h5⟩:=h;exact⟨v,r,F1,F2,e,h1,h2,h3,Ow.frzd hl t (fun z=>g (h1 _ z)) h4,Ows.frzd hl ts (fun z=>g (h2 _ z)) h5⟩
theorem Owd.frzd(hl:H l=some (.dK ws)):∀(ts:List (D×D)) {d:Nat} {vs:List (Key×V)} {F:AS},¬F l->Owd K O H ts d vs F->Owd K O (upd H l (.frz ob (.dK ws))) ts d vs F
 |[],_,_,_,_,h=>h
 | (k,t)::ts,_,_,_,g,h=>by
  obtain⟨q,v,r,F1,F2,e,e2,h1,h2,h3,h4,h5⟩:=h;exact⟨q,v,r,F1,F2,e,e2,h1,h2,h3,Ow.frzd hl t (fun z=>g (h1 _ z)) h4,Owd.frzd hl ts (fun z=>g (h2 _ z)) h5⟩
end
def Owd.get{k:D}(h:Owd K O H ks 0 vs NoA)(hi:ks[i]?=some (k,t)):∃q v,vs[i]?=some (q,v)/\k=kD q/\Ow K O H t 0 v NoA:=by
 induction ks generalizing vs i with
 |nil=>simp at hi
 |cons p ks ih=>
  obtain⟨k',t'⟩:=p;obtain⟨q,v,r,F1,F2,e,e2,h1,h2,h3,h4,h5⟩:=h;subst e;cases i with
  |zero=>
   cases hi;exact⟨q,v,rfl,e2,Ow.any0 _ h4⟩
  |succ j=>
   obtain⟨q',v',g1,g2,g3⟩:=ih (vs:=r) (i:=j) (Owd.any0 ks h5) (by simpa using hi);exact⟨q',v',by simpa using g1,g2,g3⟩
end
def kys(ks:List (D×D)):List D:=ks.map fun q=>q.1
def prs(ks:List (D×D)):List D:=ks.map fun q=>.tuple [q.1,q.2]
theorem kz{K:zbY}{O:AS}{H:Hp}:∀{ks:List (D×D)} {vs:List (Key×V)} {d:Nat} {F:AS},Owd K O H ks d vs F->vs.length=ks.length
 |[],_,_,_,h=>by rw[show _=[]from h];rfl
 | (k,t)::ks,_,_,_,h=>by
  obtain⟨q,v,r,F1,F2,e,_,_,_,_,_,h5⟩:=h;rw[e,zac,zac,kz h5]
def qv(hf:FzD H a vs ep)(hn:¬O a)(ow:Owd K O H ks 0 vs NoA):jd K O H (Itk a vs ep) (kys ks):=fun i H1 O1 h1 h2 h3=>by
 have fz:FzD H1 a vs ep:=let⟨o,e,q⟩:=hf;⟨o,h1 a _ e hn,q⟩;have hl:=kz ow;refine⟨fun t ht=>?_,fun hl2=>⟨fz,by unfold kys at hl2;rw[zad]at hl2;omega⟩⟩;unfold kys at ht;rw[zao]at ht;obtain⟨⟨k,u⟩,h4,rfl⟩:=zab.mp ht;obtain⟨q,v,h5,rfl,_⟩:=ow.get h4;refine⟨⟨fz,(zah.mp h5).1⟩,fun x H2 ⟨e,kv,h6,h7⟩=>?_⟩;rw[h5]at h6;cases h6;subst e h7;refine⟨fun _ _ q=>q,?_⟩;cases q<;>exact rfl
def vm(hf:FzD H a vs ep)(hn:¬O a)(ow:Owd K O H ks 0 vs NoA):jd K O H (Itm a vs ep) (prs ks):=fun i H1 O1 h1 h2 h3=>by
 have fz:FzD H1 a vs ep:=let⟨o,e,q⟩:=hf;⟨o,h1 a _ e hn,q⟩;have hl:=kz ow;refine⟨fun t ht=>?_,fun hl2=>⟨fz,by unfold prs at hl2;rw[zad]at hl2;omega⟩⟩;unfold prs at ht;rw[zao]at ht;obtain⟨⟨k,u⟩,h4,rfl⟩:=zab.mp ht;obtain⟨q,v,h5,rfl,ov⟩:=ow.get h4;refine⟨⟨fz,(zah.mp h5).1⟩,fun x H2 ⟨p,kv,e,hp,h6,h7⟩=>?_⟩;rw[h5]at h7;cases h7;subst e h6;have g:=(bX (o:=.tup [kV q,v]) hp).1;refine⟨g,p,[kV q,v],rfl,.inl ⟨rfl,⟨av,fun z=>?_⟩,kV q,[v],NoA,NoA,rfl,fun _ z=>z,fun _ z=>z,fun _ z=>z.elim,?_,v,[],NoA,NoA,rfl,fun _ z=>z,fun _ z=>z,fun _ z=>z.elim,?_,rfl⟩⟩
 ·obtain⟨o,q⟩:=h3 p z;rw[hp]at q;cases q
 ·cases q<;>exact rfl
 ·exact Ow.mv (G:=NoA) ⟨fun a o q _=>g a o q,fun a z=>.inl z⟩ u (fun _ z=>z) (Ow.mv (dZ h1 h2) u (fun _ z=>z) ov)
def iDk(kp:Bool)(i:Nat):MI:=fun en=>match (en[i]?).join with
 |some (.dict ks)=>some (kys ks,if kp then en else en.set i none)
 |_=>none
def iDm(kp:Bool)(i:Nat):MI:=fun en=>match (en[i]?).join with
 |some (.dict ks)=>some (prs ks,if kp then en else en.set i none)
 |_=>none
section
variable{Ox:AS}{en:En}{R:Nat->AS} 
def sr(e:EnvOk K ds Ox H σ en R)(g0:en[i]?=some (some (.dict ks)))(hi:ds[i]?=some d)(hd:d≠0)(kp:Bool)(h1:(if kp then ds.set i 0 else ds)=ds1):
  ∃a vs,σ[i]?=some (some (.ref a))/\H a=some (.dK vs)/\∀ob,Post K false ds1 Ox σ H en R (if kp then en else en.set i none) (upd H a (.frz ob (.dK vs))) (fun s b=>s≠i/\R s b) NoA/\¬Own (fun s b=>s≠i/\R s b) Ox a/\Owd K (Own (fun s b=>s≠i/\R s b) Ox) (upd H a (.frz ob (.dK vs))) ks 0 vs NoA:=by
 obtain⟨v,d0,a1,a2,a3⟩:=e.at_ i _ g0;rw[hi]at a2;cases a2;obtain⟨a,vs,rfl,ha,Fa,F',hF,ow⟩:=a3.dict1 hd;have sub:∀b,Own (fun s b=>s≠i/\R s b) Ox b->Own R Ox b:=fun b z=>z.imp (fun⟨s,z⟩=>⟨s,z.2⟩) id;have nR:∀b,R i b->¬Own (fun s b=>s≠i/\R s b) Ox b:=fun b z z2=>by
  rcases z2 with⟨s,z2⟩|z2
  ·exact z2.1 (e.dj s i b z2.2 z)
  ·exact e.dx i b z z2
 refine⟨a,vs,a1,ha,fun ob=>?_⟩;have dm:∀b o,H b=some o->∃o',upd H a (.frz ob (.dK vs)) b=some o':=fun b o q=>by
  by_cases z:b=a
  ·subst z;exact⟨_,av⟩
  ·exact⟨o,by rw[az z];exact q⟩
 have oi:Ow K (Own (fun s b=>s≠i/\R s b) Ox) H (.dict ks) 0 (.ref a) NoA:=Ow.fz sub nR a3;have oi2:=Ow.frzd (ob:=ob) ha (.dict ks) (fun z=>z) oi;have ow2:Owd K (Own (fun s b=>s≠i/\R s b) Ox) (upd H a (.frz ob (.dK vs))) ks 0 vs NoA:=by
  obtain⟨p,ws,ep,⟨_,q1,_,q2⟩|⟨z,_⟩|⟨_,⟨_,_,_,q1,_⟩|⟨_,_,_,_,q1,_⟩⟩⟩:=oi2
  ·cases ep;rcases q1 with q1|⟨o,q1⟩
   ·rw[av]at q1;cases q1
   ·rw[av]at q1;cases q1;exact q2
  ·exact absurd rfl z
  ·cases ep;rw[av]at q1;cases q1
  ·cases ep;rw[av]at q1;cases q1
 have il:i<ds.length:=(zah.mp hi).1;have env:EnvOk K ds1 (U NoA Ox) (upd H a (.frz ob (.dK vs))) σ (if kp then en else en.set i none) (fun s b=>s≠i/\R s b):=by
  rw[fW];refine⟨fun s t h=>?_,fun s s' b z z'=>e.dj s s' b z.2 z'.2,fun s b z=>e.dx s b z.2,fun b z=>?_,?_,?_⟩
  ·by_cases hs:s=i
   ·subst hs;cases kp with
    |true=>
     have h':en[s]?=some (some t):=h;rw[g0]at h';cases h';refine⟨.ref a,0,a1,?_,?_⟩
     ·rw[<-h1];exact zaO il
     ·exact Ow.any0 _ oi2
    |false=>
     have h':(en.set s none)[s]?=some (some t):=h;by_cases hl:s<en.length
     ·rw[zaO hl]at h';cases h'
     ·rw[zbj (by rw[zaU];omega)]at h';cases h'
   ·have h':en[s]?=some (some t):=by
     cases kp with
     |true=>exact h
     |false=>
      have h2:(en.set i none)[s]?=some (some t):=h;rw[zaN (Ne.symm hs)]at h2;exact h2
    obtain⟨v,d',g1,g2,g3⟩:=e.at_ s t h';refine⟨v,d',g1,?_,Ow.frzd ha t (fun z=>hs (e.dj s i a z.2 Fa)) (Ow.grow sub t (fun b z=>⟨hs,z⟩) g3)⟩;rw[<-h1];cases kp with
    |true=>
     show(ds.set i 0)[s]?=_;rw[zaN (Ne.symm hs)];exact g2
    |false=>exact g2
  ·obtain⟨o,q⟩:=e.dom b (sub b z);exact dm b o q
  ·cases kp with
   |true=>exact e.l1
   |false=>show(en.set i none).length=_;rw[zaU];exact e.l1
  ·rw[<-h1];cases kp with
   |true=>show(ds.set i 0).length=_;rw[zaU];exact e.l2
   |false=>exact e.l2
 refine⟨⟨env,fun _ z=>z.elim,fun b o q n=>?_,fun b z=>?_,dm,fun z=>nomatch z⟩,nR a Fa,ow2⟩
 ·have na:b≠a:=fun z=>n i (by rw[z];exact Fa);rw[az na];exact q
 ·rcases z with z|⟨s,z⟩
  ·exact z.elim
  ·exact .inl ⟨s,z.2⟩
end
section
variable{px μ ω:Pos}
def D9{x:Str}(kp:Bool)(hK:X.K=K)(hN:X.N[i]?=some x)(hv:Vis X.env.scope x)(hi:ds[i]?=some d)(hd:d≠0)(h1:(if kp then ds.set i 0 else ds)=ds1)
  (hb:attributeBase (.Name x px) "items" X.env (eval (.Name x px) X.env)=eval (.Name x px) X.env) (θ:(μ.endLine==ω.line)=true) (hdb:(x==("__debug__":Str))=false) (hcd:(x==("__classdict__":Str))=false):
  QI X (.Tuple elts k tp) (.Call (.Attribute (.Name x px) "items" μ) [] [] ω) (tFI K false ds ds1 (iDm kp i)):=by
 subst hK;refine⟨?_⟩;intro ρ s σ H R I h;obtain⟨Ox,en,Rg,ts,en',e,hf,k⟩:=h;unfold iDm at hf;split at hf
 case h_2=>cases hf
 next ks g0=>
 cases hf;obtain⟨a,vs,a1,ha,kk⟩:=sr e (aM g0) hi hd kp h1;refine wpAny_Call_method (T:="dict") (id:="dict.items") hb rfl θ F.plainAttrs_dict F.slot_dict_items F.type_dict_items (thn (cv hN hv hdb hcd ρ s σ H (fun v H1=>v=.ref a/\H1=H) I ⟨.ref a,a1,rfl,rfl⟩) fun v s1 ⟨y,H1,I1,r1,ey,eH⟩=>?_);subst ey eH;cases r1;obtain⟨o,ep,he,I2⟩:=I1.freeze ha;obtain⟨P,nO,ow⟩:=kk o;have fz:FzD (upd H1 a (.frz o (.dK vs))) a vs ep:=⟨o,av,he⟩;obtain⟨hds,us,rel,dd⟩:=i6 I2 fz;refine⟨dd.dictOf.typeIs,dd.dictOf.mapOf.noDict,?_⟩;show wpAny _ _ (callWith ω (.builtin "dict.items") [.ref a] [] []) _ _ s1;refine method_meetsIn F.slot_dict_items F.entry_dict_items rfl (PySem.evalArgs_none ⟨rfl,dd.dictOf.typeIs,F.args_dict_items_1 _,_,meets_dict_items (aO X.prog X.w) a hds,⟨us,dd.dictOf⟩,?_⟩);refine wpAny_pyIter_items (knd:=aO X.prog X.w) (d:=a) (kvs:=us) (ep:=ep) ⟨_,zan _ rfl,rfl,rfl⟩ (dd.push _) ?_;have I3:Inv X ρ σ (upd H1 a (.frz o (.dK vs))) { s1 with heap:=s1.heap.push { cls:=.type "dict_items",data:=.fields #[.ref a] } }:=I2.kept (t':=s1.toks) fun b o e=>zaf _ e;refine⟨_,[(s1.heap.push { cls:=.type "dict_items",data:=.fields #[.ref a] }).objs.size],_,_,_,rfl,I3.kept (t':=s1.toks) fun b o e=>zaf _ e,vt a _ vs ep,⟨.none,.none,?_⟩,fun b hb=>?_,k _ _ _ P (vm fz nO ow)⟩
 ·rw[rel.length];exact zan _ rfl
 ·have e:b=(s1.heap.push { cls:=.type "dict_items",data:=.fields #[.ref a] }).objs.size:=by simpa using hb
  subst e;exact I3.fpOk (zav _) (I3.hok.fresh (zav _))
end
def bs(val:Nat->Int):Nat->Int
 |0=>0
 |k+1=>if k=0\/val k>bs val k then val k else bs val k
end L2
namespace PySem
end PySem
namespace PySem
open PySem.SeqAt
end PySem
namespace L2
open PySem PySem.Spec PyProof.Rows
def vc:D->D->Option D
 |.list ts,b=>grd (noDict b=true/\aC ts=true/\bJ ts<=60) (.int (ts.countP fun t=>peq t b:Nat))
 |_,_=>none
def gu:D->D->Option D
 |.list ts,b=>if noDict b=true/\aC ts=true/\bJ ts<=60/\ts.length<=sizeLine then(ts.findIdx? fun t=>peq t b).map fun j=>.int (j:Nat)else none
 |_,_=>none
section
variable{X:Cx}{K:zbY}{p:Bool}{ds ds1 ds2:List Nat}{d d1 d2:Nat}{e:Expr}{f f1 f2:ME}{σ:St}{H:Hp}{Q Q':VK}{O:AS}{ρ:List (Addr×Obj)}{s:Shared}
theorem ya(I:Inv X ρ σ H s){a:D}:∀{ts:List D} {vs:List V} {us:List Value},aC ts=true->Ows X.K O H ts 0 vs NoA->Vals vs us->us.length=ts.length/\∀(i:Nat) t u,ts[i]?=some t->us[i]?=some u->eqF X O H a u=peq t a
 |[],_,_,_,h,r=>by
  cases(show _=[]from h);cases r;exact⟨rfl,fun i t u z=>by simp at z⟩
 |t::ts,_,_,hn,h,r=>by
  obtain⟨v,q,F1,F2,e,_,_,_,h4,h5⟩:=h;subst e;have hn':noDict t=true/\aC ts=true:=by simpa[aC]using hn
  cases r with
  |cons ru rr=>
   obtain⟨l,g⟩:=ya I (a:=a) hn'.2 (Ows.any0 ts h5) rr;refine⟨by rw[zac,zac,l],fun i t' u' z1 z2=>?_⟩;cases i with
   |zero=>
    cases z1;cases z2;exact pj I ru hn'.1 (Ow.any0 t h4)
   |succ i=>exact g i t' u' (by simpa using z1) (by simpa using z2)
def wf(hK:X.K=K)(hu:X.A.units+64<cLine):OpR X (fun v u=>call (.builtin "list.index") [v,u]) (rF2 K gu 3):=by
 subst hK;intro ρ s σ H x y v u Q I rx ry ⟨O,a,b,t,oa,ob,hd,hg,k⟩;have hu1:X.A.in1.units+60+1<cLine:=by show X.A.units+1+60+1<cLine;omega
 unfold gu at hg;split at hg
 case h_2=>cases hg
 next ts=>
 by_cases hc:noDict b=true/\aC ts=true/\bJ ts<=60/\ts.length<=sizeLine
 case neg=>rw[if_neg hc]at hg;cases hg
 rw[if_pos hc]at hg;obtain⟨c1,c2,c3,c4⟩:=hc;obtain⟨j,hj,rfl⟩:=zab.mp hg;obtain⟨j1,j2,j3⟩:=List.findIdx?_eq_some_iff_getElem.mp hj;obtain⟨q,vs,rfl,fz,w⟩:=oa.lst0;cases rx;obtain⟨its,r,⟨o,n,ho,hc,hdd,hda⟩,hz⟩:=I.list fz.sq;obtain⟨cls,dd,data,sl⟩:=o;simp only at hc hda;subst hc hda;obtain⟨l,g⟩:=ya I (a:=b) c2 w r;have sl0:sizeLine=16777216:=by decide
 refine call_meets F.slot_list_index ⟨_,ho,rfl⟩ F.entry_list_index (F.args_list_index_2 _ _) (SeqAt.list_indexAt q its.toArray n dd sl u (eqF X O H b) j (by rw[zai];omega) (by omega) ?_ fun m hm hmj=>?_) ⟨ho,fun z hz=>gt I c1 ob ry hu1 c2 c3 w r z (by simpa using hz),?_⟩
 ·rw[g j ts[j] _ (zak j1) (by simp[show j<its.length by omega])];exact j2
 ·rw[zai]at hm;rw[g m (ts[m]'(by omega)) _ (zak (by omega)) (by simp[hm])];exact Bool.eq_false_iff.mpr (j3 m hmj)
 ·exact⟨.int _,H,I.tok _,⟨_,rfl⟩,k _ H NoA .refl rfl⟩
def o0{o:Expr}{μ ω:Pos}(hK:X.K=K)(hu:X.A.units+64<cLine)(ho:QE X o (tF K p ds ds1 d1 f1))(he:QE X e (tF K p ds1 ds2 d2 f2))
  (η:attributeBase o "index" X.env (eval o X.env)=eval o X.env)
  (x':((backTo ω (starEach [e] X.env)).all (fun x=>!x.1)&&(backToKw ω (keywordEach [] X.env)).all (fun x=>x.1.isSome)&&decide (([e]:List Expr).length+([]:List Keyword).length+(if([]:List Keyword).isEmpty then 0 else 1)<30))=true)
  (θ:(μ.endLine==ω.line)=true) (hs:starEach [e] X.env=[(false,eval e X.env)]) (ι:(backTo ω (starEach [] X.env)).any (·.1)=false):
  QE X (.Call (.Attribute o "index" μ) [e] [] ω) (tF K p ds ds2 3 (e2 gu f1 f2)):=by
 subst hK;refine⟨IF (Ty:=TyL X.K) F.plainAttrs_list F.slot_list_index F.type_list_index (fun a b t O x H F hg o=>?_) (fun ρ s σ H x v I r ty=>?_) (wf rfl hu) ho.h he.h η x' θ hs ι⟩
 ·unfold gu at hg;split at hg
  ·exact GB o
  ·cases hg
 ·obtain⟨a,vs,rfl,hs⟩:=ty;cases r;obtain⟨its,rv,⟨o,n,ho,hc,hdd,hda⟩,_⟩:=I.list hs;exact⟨⟨o,ho,hc⟩,fun b e=>by cases e;exact⟨o,ho,hdd⟩⟩
end
end L2
namespace L2
open PySem PySem.Spec PyProof.Rows Builtin
end L2
namespace L2
variable{prog:Program}{w:World}{A:Around}{E Q:Value->Shared->Prop}{s:Shared}{key:Value}{X:Cx}{o e b k tg:Expr}{td ty:TE}{μ ω px pos ζ bpos epos:Pos}{K:zbY}{ds ds1 ds2 π ds0 lk ds':List Nat}{i d1 d2 d c m:Nat}{f f1 f2 fk fe f0:ME}{σ σ':St}{H H1 H' H2:Hp}{p1 p2 p:Bool}{x:Str}{a l:Addr}{O Ox:AS}{v:V}{T:D->D}{t:D}{u:HO}{ks:List (D×D)}{q:Key}{J:Jd}{mp:MP}{en en1 en':En}{R R1 R':Nat->AS}{Dn:Ends}{vs:List (Key×V)}{ρ:List (Addr×Obj)}{ob:Obj}{st:Stmt}{g:MG}
open PySem PySem.Spec PyProof.Rows
section
variable{κ:Type}[DecidableEq κ]{knd:KeyKind prog w κ}  
def nJ{d:Addr}{kvs:List (κ×Value)}{k:κ}{dflt:Value}(hkey:knd.is k key=true)(hm:s.heap.DictOf knd d kvs)(hsz:kvs.length<=sizeLine)
  (h1:∀v,valueAt kvs k=some v->Q v { s with toks:=s.toks+1 }) (h2:valueAt kvs k=none->∀h',h'.DictOf knd d (stored kvs k dflt)->Heap.SameBut d s.heap h'->Q dflt { s with heap:=h',toks:=s.toks+1 }):
  wpAny (model prog w) A (dictSetDefault d key dflt) Q E s:=by
 obtain⟨o,es,ep,ho,hc,hd,hk,hp,hn⟩:=hm;have hes:es.size<=sizeLine:=by
  have e1:=hp.length;have e2:es.toList.length=es.size:=by simp
  omega
 unfold dictSetDefault
 try with_reducible refine zbT ?_
 refine zam (knd.pyHash hkey ?_);refine zam (wpAny_dictFind_of (s:={ s with toks:=s.toks+1 }) hkey ho hd hk ?_);have hidx:(es.findIdx? fun e=>knd.is k e.key)=kvs.findIdx? fun kv=>decide (kv.1=k):=by
  rw[<-hp.findIdx k];obtain⟨l⟩:=es;simp
 cases hi:es.findIdx? fun e=>knd.is k e.key with
 |some i=>
  have hl:(es.toList.findIdx? fun e=>knd.is k e.key)=some i:=by
   rw[<-hi];obtain⟨l⟩:=es;simp
  obtain⟨e,he,_,hv⟩:=hp.at hl;have he':es[i]?=some e:=by simpa using he
  refine zam (wpAny_dictEntries (s:={ s with toks:=s.toks+1 }) ho hd ?_);rw[he'];exact zam (wpAny_rule (zaS (h1 e.val hv)))
 |none=>
  have hnot:k∉kvs.map (·.1):=not_mem_of_findIdx_none (hidx▸hi);have hany:¬(kvs.any fun kv=>decide (kv.1=k))=true:=by
   rw[List.any_eq_true];rintro⟨kv,hkv,he⟩;exact hnot (zaz.mpr ⟨kv,hkv,of_decide_eq_true he⟩)
  have hv:valueAt kvs k=none:=by
   unfold valueAt;rw[Option.map_eq_none_iff,List.find?_eq_none];intro kv hkv z;exact hnot (zaz.mpr ⟨kv,hkv,of_decide_eq_true z⟩)
  refine zam (wpAny_rule (zam (wpAny_updateDictKeys (hz:=hes) (s:={ s with toks:=s.toks+1 }) ho hd (zaS (h2 hv _ ⟨_,_,ep+1,Heap.get?_update_self _ ho (Obj.isFreed_of_dict (Obj.data_mapDictKeys hd _)),
   hc.mapDictKeys _,Obj.data_mapDictKeys hd _,hk.push hkey _,?_,?_⟩ (Heap.SameBut.update ..))))))
  ·rw[stored,if_neg hany]
   have:=hp.append hkey (knd.hash k) dflt;obtain⟨l⟩:=es;simpa using this
  ·rw[stored,if_neg hany,zaC,zba];refine⟨hn,by simp,?_⟩;intro a ha b hb;simp only[zar,zaZ,zaH]at hb;subst hb;exact fun e=>hnot (e▸ha)
def vO(knd:KeyKind prog w κ){k:κ}(d:Addr)(hkey:knd.is k key=true)(hd:(d==sysModules)=false)(dflt:Value):
  MeetsIn prog w (Builtin.«dict.setdefault» ⟨[.ref d,key,dflt],[]⟩) (fun _ R s=>∃kvs,s.heap.DictOf knd d kvs/\kvs.length<=sizeLine /\
   (∀v,valueAt kvs k=some v->R (.ok (.ret v)) { s with toks:=s.toks+1 }) /\
   (valueAt kvs k=none->∀h',h'.DictOf knd d (stored kvs k dflt)->Heap.SameBut d s.heap h'->R (.ok (.ret dflt)) { s with heap:=h',toks:=s.toks+1 })):=
 .of_wp fun A R s ⟨kvs,hm,hz,h1,h2⟩=>by
  unfold Builtin.«dict.setdefault»;refine zam ?_;unfold Builtin.Dict.keyAndDefault;refine zam (wpAny_notOrdered_dict hm.typeIs ?_);show wpAny _ _ (pure (d,key,some dflt)) _ _ s;refine zaS ?_;show wpAny _ _ (if(d==sysModules)=true then _ else(dictSetDefault d key dflt >>= _)) _ _ s;rw[if_neg (by rw[hd];exact zbl)];exact zam (nJ hkey hm hz (fun v hv=>zaS ⟨v,rfl,h1 v hv⟩) fun hn h' hm' hs'=>zaS ⟨dflt,rfl,h2 hn h' hm' hs'⟩)
end
def Cd(td ty tv:TE):TE:=fun σ H Q=>td σ H fun x H1=>∃a,x=.ref a/\IsD H1 a/\ty σ H1 fun y H2=>tv σ H2 fun v H3=>∃kvs k,H3 a=some (.dK kvs)/\y=kV k/\kvs.length<sizeLine /\
 ((∃x,bx kvs k=some x/\Q x H3)\/(bx kvs k=none/\Q v (upd H3 a (.dK (b5 kvs k v)))))
section
variable{f:Expr}{tx:TE} 
def C6(ho:PE X o td)(he:PE X e ty)(hf:PE X f tx)(m:M2 X o "setdefault" μ e f ω):PE X (.Call (.Attribute o "setdefault" μ) [e,f] [] ω) (Cd td ty tx):=by
 intro ρ s σ H Q I h;refine wpAny_Call_method m.base m.few m.line PySem.F.plainAttrs_dict PySem.F.slot_dict_setdefault PySem.F.type_dict_setdefault (thn (ho ρ s σ H _ I h) fun u s1 ⟨x,H1,I1,rx,a,ex,d,q1⟩=>?_);subst ex;obtain rfl:u=Value.ref a:=rx;obtain⟨t1,t2,_⟩:=sU I1 d;refine⟨t1,t2,?_⟩;rw[m.trees];refine Calls.callWith_builtin rfl (Calls.evalArgs_plain (Calls.spliced_cons (thn (he ρ s1 σ H1 _ I1 q1) fun iv s2 ⟨y,H2,I2,ry,q2⟩=>
  Calls.spliced_cons (thn (hf ρ s2 σ H2 _ I2 q2) fun fv s3 ⟨z,H3,I3,rz,kvs,k,e3,ey,hl,q3⟩=>Calls.spliced_nil ?_))))
 subst ey;obtain⟨z1,hd,vs,rel,dd⟩:=mX I3.hok e3;have hz:vs.length<=sizeLine:=by rw[<-rel.length];exact z1
 have hl2:(b5 kvs k z).length<=sizeLine:=by have:=gX kvs k z;omega
 refine call_meetsIn PySem.F.slot_dict_setdefault dd.typeIs PySem.F.entry_dict_setdefault (PySem.F.args_dict_setdefault_3 _ _ _) (vO (aO X.prog X.w) a (gY ry) hd fv) ⟨vs,dd,hz,fun v hv=>?_,fun hv h' dd' hs=>?_⟩
 ·rcases q3 with⟨x,g1,g2⟩|⟨g1,g2⟩
  ·have r:=rel.val k;rw[g1,hv]at r;exact⟨x,H3,I3.tok _,r,g2⟩
  ·have r:=rel.val k;rw[g1,hv]at r;cases r
 ·rcases q3 with⟨x,g1,g2⟩|⟨g1,g2⟩
  ·have r:=rel.val k;rw[g1,hv]at r;cases r
  ·have he:∃q,h'.get? a=some q:=let⟨q,_,_,hq,_⟩:=dd';⟨q,hq⟩;exact⟨z,_,iY I3 (by rw[e3];exact True.intro) hs he (l8 hl2 hd (rel.put k rz) dd'),rz,g2⟩
end
def cV{α:Type}(xs:List α)(n:Nat)(y:α):List α:=xs.take n++y::xs.drop n
def sW{α:Type}(xs:List α)(n:Nat)(y:α):(cV xs n y).length=xs.length+1:=by
 unfold cV;rw[zae,zac,zaE,zaF];omega
def uG:V->List V->Hp->VK->Prop:=fun x vs H Q=>∃l xs i y,x=.ref l/\vs=[.int i,y]/\H l=some (.lst xs)/\0<=i/\i<2 ^ 63/\xs.length<sizeLine/\Q .non (upd H l (.lst (cV xs i.toNat y)))
theorem Vals.takeV:∀{xs:List V} {us:List Value} (n:Nat),Vals xs us->Vals (xs.take n) (us.take n)
 |_,_,0,_=>by rw[List.take_zero,List.take_zero];exact .nil
 |_,_,n+1,.nil=>.nil
 |_,_,n+1,.cons r h=>.cons r (Vals.takeV n h)
theorem Vals.dropV:∀{xs:List V} {us:List Value} (n:Nat),Vals xs us->Vals (xs.drop n) (us.drop n)
 |_,_,0,h=>h
 |_,_,n+1,.nil=>.nil
 |_,_,n+1,.cons r h=>Vals.dropV n h
def xk:MtM X "list.insert" uG:=by
 intro ρ s σ H x vs v us Q I rx rv h;obtain⟨l,xs,i,y,rfl,rfl,hH,h1,h2,hz,q⟩:=h;cases rx;obtain⟨u,w,rfl,ru,rw'⟩:=vo rv;obtain⟨t,rfl⟩:=ru;obtain⟨z,its,n,r,hl,e⟩:=I.lstM hH;have hf:¬(!Builtin.List.listFitsIndex i)=true:=by rw[fitsIndex_both (by omega) h2];decide
 refine call_meets F.slot_list_insert ⟨_,e,rfl⟩ F.entry_list_insert (F.args_list_insert_3 _ _ _) (AutoSeq1.list_insert_list_int_val_1 l its.toArray n i t w hf (by rw[zai];omega)) ⟨e,?_⟩;refine⟨.non,_,I.lset (its':=cV its i.toNat w) hH e ?_ ?_ ?_,rfl,q⟩
 ·show(its.toArray.extract 0 (if i<0 then _ else min i.toNat its.toArray.size)).push w++its.toArray.extract (if i<0 then _ else min i.toNat its.toArray.size)=_;rw[if_neg (by omega)];apply Array.ext';rw[zai];by_cases hm:i.toNat<=its.length
  ·rw[Nat.min_eq_left hm];have tk:List.take (its.length-i.toNat) (List.drop i.toNat its)=List.drop i.toNat its:=List.take_of_length_le (by rw[zaF];exact zav _);simp[cV,tk]
  ·rw[Nat.min_eq_right (by omega)];simp[cV,List.take_of_length_le (show its.length<=i.toNat by omega),List.drop_of_length_le (show its.length<=i.toNat by omega)]
 ·exact(Vals.takeV _ r).append (.cons rw' (Vals.dropV _ r))
 ·rw[sW];omega
def qj(i:Nat)(f g:ME):ME:=fun en=>match (en[i]?).join with
 |some (.list _)=>(f en).bind fun r=>(g r.2).bind fun q=>match r.1,(q.2[i]?).join with
  |.int n,some (.list ts)=>if(0<=n/\n<2 ^ 63)/\ts.length<sizeLine then some (.none,q.2.set i (some (.list (cV ts n.toNat q.1))))else none
  |_,_=>none
 |_=>none
section
variable{g:ME}{Q:VK}{e2:Expr} 
def Kz(hd:ds2[i]?=some 1)(h:tF K false ds ds2 3 (qj i f g) σ H Q):tBM K "list" uG (gp i) (iP (tF K p1 ds ds1 d1 f) (iP (tF K p2 ds1 ds2 0 g) nI)) σ H Q:=by
 obtain⟨Ox,en,R,t,en',e,hf,k⟩:=h;unfold qj at hf;split at hf
 case h_2=>cases hf
 next ts0 h0=>
 obtain⟨⟨t1,en1⟩,h1,hf⟩:=zaa.mp hf;obtain⟨⟨t2,en2⟩,h2,hf⟩:=zaa.mp hf;obtain⟨n,rfl⟩:∃n,t1=.int n:=by
  cases t1 with
  |int n=>exact⟨n,rfl⟩
  |_=>cases hf
 dsimp only at hf
 split at hf
 case h_2=>cases hf
 next m ts h9 h3=>
 cases h9;by_cases hn:(0<=n/\n<2 ^ 63)/\ts.length<sizeLine
 case neg=>rw[if_neg hn]at hf;cases hf
 rw[if_pos hn]at hf;cases hf;obtain⟨v,d0,a1,_,a3⟩:=e.at_ i _ (aM h0);obtain⟨l0,vs0,e0,sq⟩:=a3.sqL;refine⟨v,a1,by rw[e0];exact .inl ⟨rfl,vs0,sq⟩,?_⟩;refine two (p1:=p1) (p2:=p2) e h1 h2 fun x y H2 R2 F1 F2 P o1 o2=>?_;obtain⟨v',d',b1,b2,b3⟩:=P.env.at_ i _ (aM h3);rw[a1]at b1;cases b1;rw[hd]at b2;cases b2;obtain⟨l,vs,el,hl,hr,F',hf',ow⟩:=b3.ownL (by decide);have ex:x=.int n:=o1;have w2:=Ow.letgo P (fun _=>.inr) o2;refine⟨l,vs,n,y,el,by rw[ex],hl,hn.1.1,hn.1.2,by rw[ow.len];exact hn.2,?_⟩;have hi:i<en2.length:=(zah.mp (aM h3)).1;have gG:∀a,(fun a=>R2 i a) a->R2 i a\/U F1 F2 a:=fun a z=>.inl z;have sub:=jg (i:=i) (R1:=R2) (Ox:=Ox) (G:=fun a=>R2 i a) (F':=NoA) (F:=U F1 F2) gG (fun _ z=>z.elim);have Ol:Own R2 (U (U F1 F2) Ox) l:=.inl ⟨i,hr⟩;have PS:=P.slot (G:=fun a=>R2 i a) (F':=NoA) (o2:=.lst (cV vs n.toNat y)) (t:=.list (cV ts n.toNat t2)) hr hi a1 hd gG (fun _ z=>z.elim) (fun _ _ z=>z) ?_
 ·exact k .non _ _ NoA PS rfl
 refine⟨l,cV vs n.toNat y,el,.inr ⟨by decide,av,hr,NoA,fun _ z=>z.elim,?_⟩⟩;have ow0:Ows K (Own R2 (U (U F1 F2) Ox)) H2 ts 0 vs NoA:=Ows.any0 ts ow;have pt:Ows K (Own (fun j=>if j=i then(fun a=>R2 i a)else R2 j) (U NoA Ox)) (upd H2 l (.lst (cV vs n.toNat y))) ts 0 vs NoA:=Ows.past sub Ol (fun _ z=>z.elim) ow0;have py:Ow K (Own (fun j=>if j=i then(fun a=>R2 i a)else R2 j) (U NoA Ox)) (upd H2 l (.lst (cV vs n.toNat y))) t2 0 y NoA:=by
  refine Ow.past (O:=Own R2 Ox) (fun a z=>?_) (.inl ⟨i,hr⟩) (fun _ z=>z.elim) w2;rcases z with⟨j,z⟩|z|z
  ·by_cases hj:j=i
   ·rw[if_pos hj]at z;exact .inl ⟨i,z⟩
   ·rw[if_neg hj]at z;exact .inl ⟨j,z⟩
  ·exact z.elim
  ·exact .inr z
 exact Ows.app (Ows.take _ pt) (Ows.app (ts:=[t2]) (vs:=[y]) ⟨y,[],NoA,NoA,rfl,fun _ z=>z,fun _ z=>z,fun _ z=>z.elim,py,rfl⟩ (Ows.drop _ pt))
def zR(hK:X.K=K)(hN:X.N[i]?=some x)(hv:Vis X.env.scope x)(h1:ds2[i]?=some 1)(he:QE X e (tF K false ds ds1 d1 f))(he2:QE X e2 (tF K false ds1 ds2 0 g))
  (hd:(x==("__debug__":Str))=false) (hcd:(x==("__classdict__":Str))=false)
  (η:attributeBase (.Name x px) "insert" X.env (eval (.Name x px) X.env)=eval (.Name x px) X.env)
  (x':((backTo ω (starEach [e,e2] X.env)).all (fun x=>!x.1)&&(backToKw ω (keywordEach [] X.env)).all (fun x=>x.1.isSome)&&decide (([e,e2]:List Expr).length+([]:List Keyword).length+(if([]:List Keyword).isEmpty then 0 else 1)<30))=true)
  (θ:(μ.endLine==ω.line)=true) (hs:starEach [e,e2] X.env=(false,eval e X.env)::starEach [e2] X.env) (hs2:starEach [e2] X.env=[(false,eval e2 X.env)]) (ι:(backTo ω (starEach [e2] X.env)).any (·.1)=false):
  QE X (.Call (.Attribute (.Name x px) "insert" μ) [e,e2] [] ω) (tF K false ds ds2 3 (qj i f g)):=by
 subst hK;exact⟨(rF PySem.F.plainAttrs_list PySem.F.slot_list_insert PySem.F.type_list_insert xk (cv hN hv hd hcd) (cq he.h (cq he2.h pa_nil hs2) hs) η x' θ hs ι).imp fun _ _ _=>Kz h1⟩
end
def yX{vs:List (Key×Value)}(hd:(a==sysModules)=false)(dd:s.heap.DictOf (aO prog w) a vs)(h:Q (.bool true) { s with toks:=s.toks+1 }):wpAny (model prog w) A (compareOp .NotIn .none (.ref a)) Q E s:=by
 obtain⟨o,es,ep,ho,hc,hdat,hk,hp,_⟩:=dd;refine wpAny_notIn_of (knd:=Dc prog w) (k:=none) (f:=fun k=>findBy rG es k) rfl hd ⟨o,es,ep,ho,hc,hdat,fun e he=>?_,fun k=>rfl⟩ ?_
 ·obtain⟨k,h1,h2⟩:=hk e he;exact⟨some k,h1,h2⟩
 ·have e:findBy rG es none=none:=by
   unfold findBy;rw[Array.find?_eq_none.mpr]
   ·rfl
   ·intro x hx z;obtain⟨k,h1,_⟩:=hk x hx;rw[cw z]at h1;cases k<;>cases h1
  rw[e];exact h
def wN(ty td:TE):TE:=fun σ H Q=>ty σ H fun y H1=>td σ H1 fun x H2=>∃a,x=.ref a/\((y=.non/\∃kvs,Rd H2 a (.dK kvs)/\Q (.bl true) H2)\/∃o,DGet H2 a y o/\Q (.bl (!o.isSome)) H2)
def kS:D->D->Option D
 |.none,.dict ks=>if noT ks=true then some (.bool true)else none
 |q,t=>dL q t
section
variable{a i:Expr}{Q:VK} 
def yT(hu:X.A.units+1<cLine)(hi:PE X i ty)(ho:PE X o td):PC X .NotIn i o (wN ty td):=by
 intro ρ s σ H Q I h;refine thn (hi ρ s σ H _ I h) fun iv s1 ⟨y,H1,I1,ry,q1⟩=>thn (ho ρ s1 σ H1 _ I1 q1) fun u s2 ⟨x,H2,I2,rx,a,ex,q2⟩=>?_;subst ex;obtain rfl:u=Value.ref a:=rx;rcases q2 with⟨rfl,kvs,e,q2⟩|⟨ov,g,q2⟩
 ·obtain rfl:iv=Value.none:=ry;obtain⟨z,hd,vs,rel,dd⟩:=fj I2.hok e;exact yX hd dd ⟨.bl true,H2,I2.tok _,rfl,q2⟩
 ·exact vb hu I2 g ry fun s3 I3=>⟨.bl (!ov.isSome),H2,I3,rfl,q2⟩
def Ep(h:tF K p ds ds2 3 (e2 kS f1 f2) σ H Q):wN (tF K p ds ds1 d1 f1) (tF K p ds1 ds2 d2 f2) σ H Q:=by
 obtain⟨Ox,en,R,t,en',e,hf,k⟩:=h;unfold e2 at hf;obtain⟨⟨t1,en1⟩,h1,hf⟩:=zaa.mp hf;obtain⟨⟨t2,en2⟩,h2,hf⟩:=zaa.mp hf;obtain⟨t',h3,hf⟩:=zab.mp hf;cases hf;refine two (p1:=p) (p2:=p) e h1 h2 fun x y H2 R2 F1 F2 P o1 o2=>?_;rw[zbi]at P;have w2:=Ow.letgo P (fun _=>.inr) o2;by_cases hn:t1=.none
 ·subst hn;cases t2 with
  |dict ks=>
   have h4:(if noT ks=true then some (PyData.bool true)else none)=some t:=h3;by_cases hk:noT ks=true
   ·rw[if_pos hk]at h4;cases h4;obtain⟨a,vs,ex,ha,ow⟩:=w2.dict0 hk;exact⟨a,ex,.inl ⟨o1,vs,ha,k _ H2 R2 NoA (P.less fun _ z=>z.elim) rfl⟩⟩
   ·rw[if_neg hk]at h4;cases h4
  |_=>cases h3
 ·have h3':dL t1 t2=some t:=by
   cases t1 with
   |none=>exact absurd rfl hn
   |_=>cases t2<;>exact h3
  cases t2 with
  |dict ks=>
   have h4:(if noT ks=true then(kOf t1).map (fun _=>PyData.bool (!(aG ks t1).isSome))else none)=some t:=h3';by_cases hk:noT ks=true
   ·rw[if_pos hk]at h4;obtain⟨q,hq,e⟩:=zab.mp h4;subst e;obtain⟨a,vs,ex,ha,ow⟩:=w2.dict0 hk;refine⟨a,ex,.inr ⟨bx vs q,by rw[dC hq o1];exact DGet.kr ha,?_⟩⟩;rw[c9 hq]at k;rcases ow.look q with⟨t',v,a1,a2,a3⟩|⟨z1,z2⟩
    ·rw[a1]at k;rw[a2];exact k _ H2 R2 NoA (P.less fun _ z=>z.elim) rfl
    ·rw[z1]at k;rw[z2];exact k _ H2 R2 NoA (P.less fun _ z=>z.elim) rfl
   ·rw[if_neg hk]at h4;cases h4
  |_=>cases t1<;>cases h3'
def zt(hu:X.A.units+1<cLine)(ha:PE X a (tF K p ds ds1 d1 f1))(hb:PE X b (tF K p ds1 ds2 d2 f2))(h1:behindInMarks .NotIn b=false):PT X (.Compare a [.NotIn] [b] pos) (tFT K p ds ds2 (tV (e2 kS f1 f2))):=
 (sk ((yT hu ha hb).imp fun _ _ _=>Ep) h1).imp fun _ _ _=>jU
def oX(hu:X.A.units+1<cLine)(ha:QE X a (tF K p ds ds1 d1 f1))(hb:QE X b (tF K p ds1 ds2 d2 f2))(h1:behindInMarks .NotIn b=false):QT X (.Compare a [.NotIn] [b] pos) (tFT K p ds ds2 (tV (e2 kS f1 f2))):=⟨zt hu ha.h hb.h h1⟩
end
def kA(ns:List Int):List Int:=firstMet (fun i=>ns.getD i 0) ns.length
def rE(ns:List Int):HO:=.set (fun k=>(kA ns).any (·==k)) (kA ns).length
def JC(K:zbY):List V->Hp->VK->Prop:=fun xs H Q=>∃p ns,xs=[.ref p]/\SqL K H p (ns.map V.int)/\ns.length+1<scanBound/\∀a,H a=none->Q (.ref a) (upd H a (rE ns))
def qa:D->Option D
 |.list ts=>(b7 ts).bind fun ns=>grd (ns.length<4000) (.int (kA ns).length)
 |_=>none
section
variable{pos2 py:Pos}
def zp{us:List Value}:∀{ns:List Int},Vals (ns.map V.int) us->IntsAre us ns:=by
 induction us with
 |nil=>
  intro ns h;cases ns with
  |nil=>exact .nil
  |cons n ns=>cases h
 |cons u us ih=>
  intro ns h;cases ns with
  |nil=>cases h
  |cons n ns=>
   cases h with
   |cons r h=>
    obtain⟨t,rfl⟩:=r;exact .cons n t (ih h)
def yh(hc:X.calm=true):CallR X (.type "set") (JC X.K):=by
 intro ρ s σ H xs us Q I r ⟨p,ns,e,hs,hb,q⟩;subst e;obtain⟨u,rfl,ru⟩:=eg r;cases ru;obtain⟨its,rv,pl,hz⟩:=I.list hs;have hl:its.toArray.size=ns.length:=by rw[zai,<-rv.length,zad]
 refine PySem.call_set_list (ns:=ns) (I.ok.hd hc) pl.isList (by simpa using zp rv) (by rw[hl];exact hb) fun h' tk hS hk=>?_;rw[hl]at hS;exact⟨.ref _,_,I.laid (a:=s.heap.objs.size) (o:=rE ns) (t':=tk) (fun b o e=>hk b o (zal e) e) (zav _) hS,rfl,q _ (I.hok.fresh (zav _))⟩
def JE:List V->Hp->VK->Prop:=fun xs H Q=>∃a ns,xs=[.ref a]/\H a=some (rE ns)/\(kA ns).length<4096/\Q (.int (kA ns).length) H
def yj:CallR X (.builtin "len") JE:=by
 intro ρ s σ H xs us Q I r ⟨a,ns,e,ha,hz,q⟩;subst e;obtain⟨u,rfl,ru⟩:=eg r;cases ru;obtain⟨o,es,ep,t,g1,g2,g3,_,_,_,g5,g6⟩:=(show s.heap.SetOf (intKind X.prog X.w) a _ _ from I.hok a _ ha);have e:(es.size:Int)=((kA ns).length:Nat):=by rw[g6]
 refine call_len_set g1 g2 g3 g5 (by omega) ⟨.int es.size,H,(I.tok _).tok _,⟨_,rfl⟩,?_⟩;rw[e];exact q
def tq(hK:X.K=K)(hc:X.calm=true)(hg:Gl X "len")(hm:X.mg "len"=none)(hg2:Gl X "set")(hm2:X.mg "set"=none)(hb:bootBuiltins "len"=some (.builtin "len"))(hb2:bootBuiltins "set"=some (.type "set"))(he:QE X e (tF K p ds ds1 0 f))(hs:aQ e=true):
  QE X (.Call (.Name "len" px) [.Call (.Name "set" py) [e] [] pos2] [] pos) (tF K p ds ds1 3 (e1 qa f)):=by
 subst hK;refine⟨(nV yj hg hm hb (cq (qE (yh hc) hg2 hm2 hb2 (cq he.h pa_nil (bj hs)) (by decide) (by decide) (bj hs) rfl) pa_nil (bj rfl)) (by decide) (by decide) (bj rfl) rfl).imp fun σ H Q h=>?_⟩;obtain⟨Ox,en,R,t,en',e,hf,k⟩:=h;unfold e1 at hf;obtain⟨⟨t1,en1⟩,h1,hf⟩:=zaa.mp hf;obtain⟨t',h3,hf⟩:=zab.mp hf;cases hf;cases t1 with
 |list ts=>
  obtain⟨ys,h4,h5⟩:=zaa.mp h3;obtain⟨c,rfl⟩:=bA h5;refine⟨Ox,en,R,.list ts,en1,e,h1,fun v H' R' F P o=>?_⟩;obtain⟨a,vs,rfl,fz,w⟩:=(Ow.any0 _ o).lst0;have e6:=nW w h4;subst e6;refine⟨a,ys,rfl,fz.sq,by unfold scanBound;omega,fun a ha=>?_⟩;refine⟨a,ys,rfl,av,by have:=firstMet_length_le (fun i=>ys.getD i 0) ys.length;unfold kA;omega,?_⟩;have n:NewTo H' (upd H' a (rE ys)) NoA:=⟨(bX ha).1,fun _ z=>z.elim⟩;exact k _ _ R' NoA (P.fin n) rfl
 |_=>cases h3
end
def eE:List (D×D)->D->D->List (D×D)
 |[],_,_=>[]
 | (k,v)::r,q,t=>if kEq k q then(k,t)::r else(k,v)::eE r q t
def fm(ks:List (D×D))(q:D):List (D×D):=ks.filter fun kv=>!kEq kv.1 q
def Zm(K:zbY)(O:AS)(H:Hp)(d:Nat)(v:V)(F:AS)(u:D)(c:Nat)(w:V)(T:D->D):Prop:=
 ∃F1 Fr:AS,(∀b,F1 b->F b)/\(∀b,Fr b->F b)/\(∀b,F1 b->¬Fr b)/\Ow K O H u c w F1 /\
  ∀(O':AS) (H':Hp) (u':D) (G:AS),Mv O O' Fr H H'->(∀b,G b->¬Fr b)->Ow K O' H' u' c w G->Ow K O' H' (T u') d v (fun b=>Fr b\/G b)
section
variable{w:V}{F:AS} 
theorem Owd.zoomk{d:Nat}:∀{ks:List (D×D)} {vs:List (Key×V)} {F:AS} {q:Key} {u:D},Owd K O H ks d vs F->aG ks (kD q)=some u ->
  ∃w,∃F1 F2:AS,bx vs q=some w/\(∀b,F1 b->F b)/\(∀b,F2 b->F b)/\(∀b,F1 b->¬F2 b)/\Ow K O H u d w F1 /\
   ∀(O':AS) (H':Hp) (u':D) (G:AS),Mv O O' F2 H H'->(∀b,G b->¬F2 b)->Ow K O' H' u' d w G->Owd K O' H' (eE ks (kD q) u') d vs (fun b=>F2 b\/G b)
 |[],_,_,q,u,_,h=>by cases h
 | (k,t)::ks,_,F,q,u,h,hk=>by
  obtain⟨q',v,r,F1,F2,e,e2,s1,s2,s3,h4,h5⟩:=h;subst e e2;by_cases hq:q'=q
  ·subst hq;have e1:aG ((kD q',t)::ks) (kD q')=some t:=by
    unfold aG;rw[zbm,dD,zaB rfl];rfl
   rw[e1]at hk;cases hk;refine⟨v,F1,F2,cS rfl,s1,s2,s3,h4,fun O' H' u' G m hd o=>?_⟩;unfold eE;rw[dD,zaB rfl,if_pos rfl];exact⟨q',v,r,G,F2,rfl,rfl,fun _ z=>.inr z,fun _ z=>.inl z,hd,o,Owd.mv m ks (fun _ z=>z) h5⟩
  ·have e1:aG ((kD q',t)::ks) (kD q)=aG ks (kD q):=by
    unfold aG;rw[zbm,dD,zaA hq]
   rw[e1]at hk;obtain⟨w,G1,G2,g1,g2,g3,g4,g5,g6⟩:=Owd.zoomk h5 hk;refine⟨w,G1,fun b=>F1 b\/G2 b,(cT hq).trans g1,fun b z=>s2 b (g2 b z),fun b z=>z.elim (s1 b) fun z=>s2 b (g3 b z),fun b z z2=>?_,g5,fun O' H' u' G m hd o=>?_⟩
   ·rcases z2 with z2|z2
    ·exact s3 b z2 (g2 b z)
    ·exact g4 b z z2
   ·unfold eE;rw[dD,zaA hq,if_neg (by decide)];refine⟨q',v,r,F1,fun b=>G2 b\/G b,rfl,rfl,fun b z=>.inl (.inl z),fun b z=>z.imp .inr id,fun b z z2=>?_,Ow.mv ⟨m.k,m.o⟩ t (fun b z=>.inl z) h4,g6 O' H' u' G ⟨fun a o q z=>m.k a o q (z.imp id .inr),m.o⟩ (fun b z z2=>hd b z (.inr z2)) o⟩;rcases z2 with z2|z2
    ·exact s3 b z (g3 b z2)
    ·exact hd b z2 (.inl z)
def Zm.path{u:D}(h:Ow K O H t d v F)(hg:aW t π=some u)(hz:dns π.length d≠0):∃w,PathV H v π w/\Zm K O H d v F u (dns π.length d) w (ao t π):=by
 obtain⟨w,F1,Fr,q1,q2,q3,q4,q5,q6⟩:=h.zoom hg hz;exact⟨w,q1,F1,Fr,q2,q3,q4,q5,q6⟩
def Zm.dk{u:D}(z:Zm K O H d v F (.dict ks) c w T)(hz:c≠0)(hk:aG ks (kD q)=some u):
  ∃a vs w2,w=.ref a/\H a=some (.dK vs)/\bx vs q=some w2/\Zm K O H d v F u (dn c) w2 (fun u'=>T (.dict (eE ks (kD q) u'))):=by
 obtain⟨F1,Fr,q2,q3,q4,q5,q6⟩:=z;obtain⟨a,vs,e,ha,hr,F',hf,ow⟩:=q5.dict1 hz;obtain⟨w2,G1,G2,g1,g2,g3,g4,g5,g6⟩:=ow.zoomk hk;refine⟨a,vs,w2,e,ha,g1,G1,fun b=>Fr b\/b=a\/G2 b,fun b y=>q2 b (hf b (g2 b y)).1,fun b y=>?_,fun b y y2=>?_,g5,fun O' H' u' G m hd o=>?_⟩
 ·rcases y with y|y|y
  ·exact q3 b y
  ·rw[y];exact q2 a hr
  ·exact q2 b (hf b (g3 b y)).1
 ·rcases y2 with y2|y2|y2
  ·exact q4 b (hf b (g2 b y)).1 y2
  ·exact(hf b (g2 b y)).2 y2
  ·exact g4 b y y2
 ·have o2:=g6 O' H' u' G ⟨fun x y q z=>m.k x y q (z.imp id fun z=>.inr (.inr z)),m.o⟩ (fun b y y2=>hd b y (.inr (.inr y2))) o;have o3:=q6 O' H' (.dict (eE ks (kD q) u')) (fun b=>b=a\/G2 b\/G b) ⟨fun x y q z=>m.k x y q (z.imp id .inl),m.o⟩ (fun b y y2=>?_) ?_
  ·have e1:(fun b=>Fr b\/(fun b=>b=a\/G2 b\/G b) b)=(fun b=>(Fr b\/b=a\/G2 b)\/G b):=eJ fun b=>⟨fun y=>by
    rcases y with y|y|y|y
    ·exact .inl (.inl y)
    ·exact .inl (.inr (.inl y))
    ·exact .inl (.inr (.inr y))
    ·exact .inr y,fun y=>by
    rcases y with (y|y|y)|y
    ·exact .inl y
    ·exact .inr (.inl y)
    ·exact .inr (.inr (.inl y))
    ·exact .inr (.inr (.inr y))⟩
   rw[<-e1];exact o3
  ·rcases y with y|y|y
   ·rw[y]at y2;exact q4 a hr y2
   ·exact q4 b (hf b (g3 b y)).1 y2
   ·exact hd b y (.inl y2)
  ·refine⟨a,vs,e,.inr (.inl ⟨hz,m.k _ _ ha (.inr (.inr (.inl rfl))),.inl rfl,fun b=>G2 b\/G b,fun b y=>⟨.inr y,?_⟩,o2⟩)⟩;rcases y with y|y
   ·exact(hf b (g3 b y)).2
   ·exact fun ye=>hd b y (.inr (.inl ye))
end
def Post.zoomO{F F1 Fr:AS}{u':D}{w:V}{ob:HO}{G:AS}(P:Post K p ds1 Ox σ H en R en1 H1 R1 F)(hi:en1[i]?=some (some t))(hv:σ[i]?=some (some v))(hd:ds1[i]?=some d)
  (q2:∀b,F1 b->R1 i b) (q3:∀b,Fr b->R1 i b) (q4:∀b,F1 b->¬Fr b)
  (q6:∀(O':AS) (H':Hp) (u':D) (G:AS),Mv (Own R1 (U F Ox)) O' Fr H1 H'->(∀b,G b->¬Fr b)->Ow K O' H' u' c w G->Ow K O' H' (T u') d v (fun b=>Fr b\/G b))
  (hl:F1 l) (hG:∀b,G b->F1 b\/F b) (hO:∀O',(∀a,O' a->Own R1 (U F Ox) a)->Ow K O' (upd H1 l ob) u' c w G):
  ∃R',Post K false ds1 Ox σ H en R (en1.set i (some (T u'))) (upd H1 l ob) R' NoA:=by
 have ξ:i<en1.length:=(zah.mp hi).1;have gG:∀a,(fun b=>Fr b\/G b) a->R1 i a\/F a:=fun a z=>by
  rcases z with z|z
  ·exact .inl (q3 a z)
  ·exact(hG a z).imp (q2 a) id
 have sub:=jg (i:=i) (R1:=R1) (Ox:=Ox) (G:=fun b=>Fr b\/G b) (F':=NoA) (F:=F) gG (fun _ z=>z.elim);have Ol:Own R1 (U F Ox) l:=.inl ⟨i,q2 l hl⟩;refine⟨_,P.slot (G:=fun b=>Fr b\/G b) (q2 l hl) ξ hv hd gG (fun _ z=>z.elim) (fun _ _ z=>z) ?_⟩;refine q6 _ _ u' G ⟨fun a o q z=>?_,fun a z=>.inl (sub a z)⟩ (fun b z z2=>?_) (hO _ sub)
 ·rw[az]
  ·exact q
  ·intro za;subst za;rcases z with z|z
   ·exact z Ol
   ·exact q4 a hl z
 ·rcases hG b z with z|z
  ·exact q4 b z z2
  ·exact P.env.dx i b (q3 b z2) (.inl z)
def Post.placeD{F:AS}{w:V}(P:Post K p ds1 Ox σ H en R en1 H1 R1 F)(hi:en1[i]?=some (some t))(hv:σ[i]?=some (some v))(hd:ds1[i]?=some d)(hg:aW t π=some (.dict ks))(hz:dns π.length d≠0)(pv:PathV H1 v π w):
  ∃l vs,∃F1:AS,w=.ref l/\H1 l=some (.dK vs)/\R1 i l/\(∀b,F1 b->R1 i b/\b≠l)/\Owd K (Own R1 (U F Ox)) H1 ks (dn (dns π.length d)) vs F1 /\
   ∀(ks':List (D×D)) (vs':List (Key×V)) (G:AS),(∀b,G b->F1 b\/F b)->(∀O',(∀a,O' a->Own R1 (U F Ox) a)->Owd K O' (upd H1 l (.dK vs')) ks' (dn (dns π.length d)) vs' G) ->
    ∃R',Post K false ds1 Ox σ H en R (en1.set i (some (ao t π (.dict ks')))) (upd H1 l (.dK vs')) R' NoA:=by
 obtain⟨v',d',b1,b2,b3⟩:=P.env.at_ i t hi;rw[hv]at b1;cases b1;rw[hd]at b2;cases b2;obtain⟨w2,F1,Fr,q1,q2,q3,q4,q5,q6⟩:=b3.zoom hg hz;have ew:=pv.det q1;subst ew;obtain⟨l,vs,el,hl,hr,F',hf',ow⟩:=q5.dict1 hz;refine⟨l,vs,F',el,hl,q2 l hr,fun b z=>⟨q2 b (hf' b z).1,(hf' b z).2⟩,ow,fun ks' vs' G hG hO=>?_⟩;refine P.zoomO (G:=fun b=>b=l\/G b) (u':=.dict ks') hi hv hd q2 q3 q4 q6 hr (fun b z=>?_) fun O' ho=>⟨l,vs',el,.inr (.inl ⟨hz,av,.inl rfl,G,fun b z=>⟨.inr z,?_⟩,hO O' ho⟩)⟩
 ·rcases z with z|z
  ·rw[z];exact .inl hr
  ·exact(hG b z).imp (fun z=>(hf' b z).1) id
 ·rcases hG b z with z|z
  ·exact(hf' b z).2
  ·intro ze;subst ze;exact P.env.dx i b (q2 b hr) (.inl z)
def lG(i:Nat)(mp:MP)(fk fe:ME):MS:=fun en=>(fe en).bind fun r=>(mp r.2).bind fun w=>(fk w.2).bind fun q=>match (q.2[i]?).join with
 |some t=>(aW t w.1).bind fun u=>match u with
  |.dict ks=>(kOf q.1).bind fun _=>if ks.length<sizeLine then some (.nx (q.2.set i (some (ao t w.1 (.dict (cZ ks q.1 r.1))))))else none
  |_=>none
 |none=>none
section
variable{c:Expr} 
def zy(hpu:p2=true\/m=0)(hd:ds2[i]?=some d)(hz:dns m d=1)(h:tFS K J ds ds2 (lG i mp fk fe) Dn σ H):vC (tP K p1 ds0 ds1 i m mp) (tF K p2 ds1 ds2 d2 fk) (tF K p ds ds0 0 fe) Dn σ H:=by
 obtain⟨Ox,en,R,fl,e,hf,k⟩:=h;unfold lG at hf;obtain⟨⟨t1,en1⟩,h1,hf⟩:=zaa.mp hf;obtain⟨⟨π,en2⟩,h2,hf⟩:=zaa.mp hf;obtain⟨⟨t3,en3⟩,h3,hf⟩:=zaa.mp hf
 dsimp only at hf
 split at hf
 case h_2=>cases hf
 next t h4=>
 obtain⟨u,h5,hf⟩:=zaa.mp hf;cases u with
 |dict ks=>
  obtain⟨q,hq,hf⟩:=zaa.mp hf;by_cases ξ:ks.length<sizeLine
  case neg=>rw[if_neg ξ]at hf;cases hf
  rw[if_pos ξ]at hf;cases hf;refine⟨Ox,en,R,t1,en1,e,h1,fun x H1 R1 F1 P1 o1=>?_⟩;refine⟨U F1 Ox,en1,R1,π,en2,P1.env,h2,fun v w H2 R2 P2 hl hv pv=>?_⟩;have P12:=P1.trans P2;have o12:=Ow.over P1.env P2 o1;have e0:U F1 NoA=F1:=eJ fun a=>⟨fun z=>z.elim id fun z=>z.elim,.inl⟩;rw[e0]at P12 o12;refine⟨U F1 Ox,en2,R2,t3,en3,P12.env,h3,fun y H3 R3 F3 P3 o3=>?_⟩;have P:=P12.trans P3;have o1':=Ow.over P12.env P3 o12;have eq:=dC hq o3;subst eq;subst hl;have hz0:dns π.length d≠0:=by rw[hz];decide
  have pv3:PathV H3 v π w:=by
   rcases hpu with hp|hm
   ·exact pv.mono (P3.pure hp).2.2
   ·have e0:π=[]:=List.length_eq_zero_iff.mp hm;subst e0;exact pv
  obtain⟨l,vs,G1,el,hl1,hr,hf1,ow,fin⟩:=P.placeD (aM h4) hv hd h5 hz0 pv3;subst el;refine⟨l,_,rfl,DPut.k hl1 (by rw[ow.len];exact ξ),?_⟩;have Fn:∀a,F1 a->a≠l:=fun a z z2=>by
   subst z2;exact P.env.dx i a hr (.inl (.inl z))
  have Ol:Own R3 (U (U F1 F3) Ox) l:=.inl ⟨i,hr⟩;have edn:dn (dns π.length d)=0:=by rw[hz];rfl
  rw[edn]at ow fin;obtain⟨R',PF⟩:=fin (cZ ks (kD q) t1) (b5 vs q x) NoA (fun _ z=>z.elim) fun O' ho=>
   Owd.put0 (Owd.past ho Ol (fun _ z=>z.elim) (Owd.any0 ks ow)) (Ow.any0 t1 (Ow.past ho Ol Fn o1'))
  rw[<-c9 hq]at PF;exact k σ _ _ PF.s
 |_=>cases hf
def uq(hu:X.A.units+1<cLine)(he:QE X e (tF K p ds ds0 0 fe))(ho:QE X o (tP K p1 ds0 ds1 i m mp))(hk:QE X k (tF K p2 ds1 ds2 d2 fk))(hd:ds2[i]?=some d)(hz:dns m d=1)(hpu:p2=true\/m=0)(hs:swapsWith e (some (.Subscript o k ζ)) pos.line X.env=pure false):
  QS X (.Assign [.Subscript o k ζ] e pos) (tFS K J ds ds2 (lG i mp fk fe)):=⟨(uH hu ho.h hk.h he.h hs).imp fun _ _ _=>zy hpu hd hz⟩
end
theorem i4{u:D}:∀{π:List Nat} {t:D},aW t π=some u->ao t π u=t
 |[],t,h=>by cases h;rfl
 |k::π,t,h=>by
  cases t with
  |list ts=>
   obtain⟨c,g1,g2⟩:=zaa.mp h;have e:ao (.list ts) (k::π) u=.list (ts.set k ((ts[k]?).elim .none fun c=>ao c π u)):=rfl;rw[e,g1];show PyData.list (ts.set k (ao c π u))=_;rw[i4 g2];congr 1;apply List.ext_getElem?;intro j;by_cases hj:k=j
   ·subst hj;rw[zaO (zah.mp g1).1,g1]
   ·rw[zaN hj]
  |tuple ts=>
   obtain⟨c,g1,g2⟩:=zaa.mp h;have e:ao (.tuple ts) (k::π) u=.tuple (ts.set k ((ts[k]?).elim .none fun c=>ao c π u)):=rfl;rw[e,g1];show PyData.tuple (ts.set k (ao c π u))=_;rw[i4 g2];congr 1;apply List.ext_getElem?;intro j;by_cases hj:k=j
   ·subst hj;rw[zaO (zah.mp g1).1,g1]
   ·rw[zaN hj]
  |_=>cases h
theorem jE{u u':D}:∀{π:List Nat} {t:D},aW t π=some u->aW (ao t π u') π=some u'
 |[],t,h=>rfl
 |k::π,t,h=>by
  cases t with
  |list ts=>
   obtain⟨c,g1,g2⟩:=zaa.mp h;have e:ao (.list ts) (k::π) u'=.list (ts.set k ((ts[k]?).elim .none fun c=>ao c π u')):=rfl;rw[e,g1];show((ts.set k (ao c π u'))[k]?).bind _=_;rw[zaO (zah.mp g1).1];exact jE g2
  |tuple ts=>
   obtain⟨c,g1,g2⟩:=zaa.mp h;have e:ao (.tuple ts) (k::π) u'=.tuple (ts.set k ((ts[k]?).elim .none fun c=>ao c π u')):=rfl;rw[e,g1];show((ts.set k (ao c π u'))[k]?).bind _=_;rw[zaO (zah.mp g1).1];exact jE g2
  |_=>cases h
theorem PathV.updD{H:Hp}{a:Addr}{kvs:List (Key×V)}{o:HO}(ha:H a=some (.dK kvs)):∀{π:List Nat} {v w:V},PathV H v π w->PathV (upd H a o) v π w
 |[],_,_,h=>h
 |_::_,_,_,⟨b,vs,u,e,h1,h2,h3⟩=>by
  have ne:b≠a:=fun z=>by
   subst z;rcases h1 with h1|h1<;>rw[ha]at h1<;>cases h1
  exact⟨b,vs,u,e,by rw[az ne];exact h1,h2,h3.updD ha⟩
theorem Owd.drop0{q:Key}:∀{ks:List (D×D)} {vs:List (Key×V)},Owd K O H ks 0 vs NoA->Owd K O H (fm ks (kD q)) 0 (dz vs q) NoA
 |[],_,h=>by rw[show _=[]from h];rfl
 | (k,t)::ks,_,h=>by
  obtain⟨q',v,r,F1,F2,e,e2,_,_,_,h4,h5⟩:=h;subst e e2;have ih:=Owd.drop0 (q:=q) (Owd.any0 ks h5);by_cases hq:q'=q
  ·have e1:fm ((kD q',t)::ks) (kD q)=fm ks (kD q):=by
    unfold fm;rw[List.filter_cons,dD,zaB hq];rfl
   have e2:dz ((q',v)::r) q=dz r q:=by
    unfold dz;rw[List.filter_cons,if_neg (by simp[hq])]
   rw[e1,e2];exact ih
  ·have e1:fm ((kD q',t)::ks) (kD q)=(kD q',t)::fm ks (kD q):=by
    unfold fm;rw[List.filter_cons,dD,zaA hq];rfl
   have e2:dz ((q',v)::r) q=(q',v)::dz r q:=by
    unfold dz;rw[List.filter_cons,if_pos (by simp[hq])]
   rw[e1,e2];exact⟨q',v,_,NoA,NoA,rfl,rfl,fun _ z=>z,fun _ z=>z,fun _ z=>z.elim,Ow.any0 t h4,ih⟩
def jO(i:Nat)(mp:MP)(f:ME):MS:=fun en=>(mp en).bind fun w=>match (w.2[i]?).join with
 |some t=>(aW t w.1).bind fun u=>match u with
  |.dict ks=>(f w.2).bind fun q=>(kOf q.1).bind fun _=>if(aG ks q.1).isSome=true then some (.nx (q.2.set i (some (ao t w.1 (.dict (fm ks q.1))))))else none
  |_=>none
 |none=>none
section
variable{c:Expr} 
def zz(hd1:ds1[i]?=some d)(hd:ds2[i]?=some d)(hz:dns m d=1)(h:tFS K J ds ds2 (jO i mp f) Dn σ H):rC (wM (tP K p1 ds ds1 i m mp) (tF K true ds1 ds2 d2 f)) Dn σ H:=by
 obtain⟨Ox,en,R,fl,e,hf,k⟩:=h;unfold jO at hf;obtain⟨⟨π,en1⟩,h1,hf⟩:=zaa.mp hf
 dsimp only at hf
 split at hf
 case h_2=>cases hf
 next t h3=>
 obtain⟨u,h4,hf⟩:=zaa.mp hf;cases u with
 |dict ks=>
  dsimp only at hf
  obtain⟨⟨t1,en2⟩,h2,hf⟩:=zaa.mp hf;obtain⟨q,hq,hf⟩:=zaa.mp hf
  dsimp only at hf
  by_cases hs:(aG ks t1).isSome=true
  case neg=>rw[if_neg hs]at hf;cases hf
  rw[if_pos hs]at hf;cases hf;refine⟨Ox,en,R,π,en1,e,h1,fun v w H1 R1 P1 hl hv pv=>?_⟩;subst hl;have hz0:dns π.length d≠0:=by rw[hz];decide
  have edn:dn (dns π.length d)=0:=by rw[hz];rfl
  obtain⟨l,vs,F1,el,hl1,_⟩:=P1.placeD (aM h3) hv hd1 h4 hz0 pv;subst el;refine⟨l,rfl,.inl ⟨_,.inl hl1⟩,Ox,en1,R1,t1,en2,P1.env0,h2,fun x H2 R2 F P2 o=>?_⟩;obtain⟨pe,pR,ph⟩:=P2.pure rfl;have P:=P1.after P2;have h3':en2[i]?=some (some t):=by rw[pe];exact aM h3
  obtain⟨l',vs',F1,el,hl2,hr,hf1,ow,fin⟩:=P.placeD h3' hv hd h4 hz0 (pv.mono ph);cases el;rw[edn]at ow fin;have eq:=dC hq o;subst eq;have ek:=c9 hq;subst ek;have Ol:Own R2 (U F Ox) l:=.inl ⟨i,hr⟩;rcases ow.look q with⟨t'',w,c1,c2,c3⟩|⟨c1,c2⟩
  ·obtain⟨R',PF⟩:=fin (fm ks (kD q)) (dz vs' q) NoA (fun _ z=>z.elim) fun O' ho=>Owd.drop0 (Owd.past ho Ol (fun _ z=>z.elim) (Owd.any0 ks ow));exact⟨vs',q,w,hl2,rfl,c2,k σ _ _ PF.s⟩
  ·rw[c1]at hs;cases hs
 |_=>cases hf
def ur(ho:QE X o (tP K p1 ds ds1 i m mp))(hk:QE X k (tF K true ds1 ds2 d2 f))(hd1:ds1[i]?=some d)(hd:ds2[i]?=some d)(hz:dns m d=1)(m':M1 X o "pop" μ k ω)
  (hs:swapsWith (.Call (.Attribute o "pop" μ) [k] [] ω) none pos.line X.env=pure false):QS X (.Expr (.Call (.Attribute o "pop" μ) [k] [] ω) pos) (tFS K J ds ds2 (jO i mp f)):=
 ⟨(pW (yR ho.h hk.h m') hs).imp fun _ _ _=>zz hd1 hd hz⟩
end
theorem Owd.snocG{t:D}{v:V}{q:Key}{G:AS}(ht:Ow K O H t d v G):∀{ks:List (D×D)} {vs:List (Key×V)} {F:AS},Owd K O H ks d vs F->(∀b,F b->¬G b)->Owd K O H (ks++[(kD q,t)]) d (vs++[(q,v)]) (U F G)
 |[],_,F,h,_=>by
  rw[show _=[]from h];exact⟨q,v,[],G,NoA,rfl,rfl,fun _ z=>.inr z,fun _ z=>z.elim,fun _ _ z=>z,ht,rfl⟩
 | (k,u)::ks,_,F,h,hd=>by
  obtain⟨q',w,r,F1,F2,e,e2,s1,s2,s3,h4,h5⟩:=h;subst e e2;refine⟨q',w,_,F1,U F2 G,rfl,rfl,fun b z=>.inl (s1 b z),fun b z=>z.imp (s2 b) id,fun b z z2=>?_,h4,Owd.snocG ht h5 fun b z=>hd b (s2 b z)⟩;rcases z2 with z2|z2
  ·exact s3 b z z2
  ·exact hd b (s1 b z) z2
def qB(h:bx vs q=none):b5 vs q v=vs++[(q,v)]:=by
 unfold b5;unfold bx at h;rw[Option.map_eq_none_iff,List.find?_eq_none]at h;rw[if_neg];rw[List.any_eq_true];rintro⟨kv,hk,e⟩;exact h kv hk e
def wq(h:aG ks (kD q)=none):aG (ks++[(kD q,t)]) (kD q)=some t:=by
 unfold aG at h ⊢;rw[Option.map_eq_none_iff]at h;rw[List.find?_append,h];rw[Option.none_or,zbm,dD,zaB rfl];rfl
def ko(ks:List (D×D))(q z:D):Option (List (D×D)×List D):=match aG ks q with
 |some (.list ts)=>some (ks,ts)
 |some _=>none
 |none=>match z with
  |.list ts=>some (ks++[(q,.list ts)],ts)
  |_=>none
def nK(i:Nat)(mp:MP)(fk f0 fe:ME):MS:=fun en=>(mp en).bind fun w=>match (w.2[i]?).join with
 |some t=>(aW t w.1).bind fun u=>match u with
  |.dict ks=>(fk w.2).bind fun q=>(f0 q.2).bind fun z=>(kOf q.1).bind fun _=>if ks.length<sizeLine then(ko ks q.1 z.1).bind fun r=>
    (fe (z.2.set i (some (ao t w.1 (.dict r.1))))).bind fun y=>if r.2.length<sizeLine then some (.nx (y.2.set i (some (ao (ao t w.1 (.dict r.1)) w.1 (.dict (eE r.1 q.1 (.list (r.2++[y.1]))))))) )else none
   else none
  |_=>none
 |none=>none
section
variable{ds3 ds4:List Nat}{c2:Nat}{z:Expr} 
def uF{en5 en6:En}{R5:Nat->AS}{H5:Hp}{y:D}{ts:List D}{w:V}{pp:Bool}(P5:Post K pp ds3 Ox σ H en R en5 H5 R5 NoA)(hi:en5[i]?=some (some t))(hv:σ[i]?=some (some v))(hd3:ds3[i]?=some d)(hd4:ds4[i]?=some d)
  (hg:aW t π=some (.dict ks)) (hz:dns π.length d≠0) (hz2:dn (dns π.length d)≠0) (hc2:dn (dn (dns π.length d))=c2) (pv:PathV H5 v π (.ref l)) (hl:H5 l=some (.dK vs)) (hw:bx vs q=some w) (hk:aG ks (kD q)=some (.list ts)) (hf:fe en5=some (y,en6)) (ξ:ts.length<sizeLine)
  (k:∀H' R',Post K false ds4 Ox σ H en R (en6.set i (some (ao t π (.dict (eE ks (kD q) (.list (ts++[y]))))))) H' R' NoA->Dn.nx σ H'):
  tyV K "list" w H5/\iP (tF K true ds3 ds4 c2 fe) nI σ H5 fun xs H6=>jQ w xs H6 fun _ H7=>Dn.nx σ H7:=by
 have zm:∀{p:Bool} {ds1:List Nat} {en1:En} {H1:Hp} {R1:Nat->AS} {F:AS},Post K p ds1 Ox σ H en R en1 H1 R1 F->en1[i]?=some (some t)->ds1[i]?=some d->PathV H1 v π (.ref l)->H1 l=some (.dK vs)->Zm K (Own R1 (U F Ox)) H1 d v (R1 i) (.list ts) (dn (dns π.length d)) w (fun u'=>ao t π (.dict (eE ks (kD q) u'))):=fun P hi hd pv hl=>by
  obtain⟨v',d',b1,b2,b3⟩:=P.env.at_ i t hi;rw[hv]at b1;cases b1;rw[hd]at b2;cases b2;obtain⟨w1,q1,z1⟩:=Zm.path b3 hg hz;have ew:=pv.det q1;subst ew;obtain⟨a,vs',w2,ea,ha,hw2,z2⟩:=z1.dk hz hk;cases ea;rw[hl]at ha;cases ha;rw[hw]at hw2;cases hw2;exact z2
 obtain⟨F1,Fr,_,_,_,q5,_⟩:=zm P5 hi hd3 pv hl;obtain⟨l',us,el,hl',hr,F',hf',ow⟩:=q5.ownL hz2;subst el;refine⟨ss hl',Ox,en5,R5,y,en6,P5.env0,hf,fun x H6 R6 F P6 o6=>?_⟩;obtain⟨pe,pR,ph⟩:=P6.pure rfl;have P:=P5.after P6;have hi6:en6[i]?=some (some t):=by rw[pe];exact hi
 obtain⟨F1,Fr,q2,q3,q4,q5,q6⟩:=zm P hi6 hd4 (pv.mono ph) (ph _ _ hl);obtain⟨l2,us2,el,hl2,hr,F',hf',ow⟩:=q5.ownL hz2;cases el;have Fn:∀a,F a->a≠l':=fun a z z2=>by
  subst z2;exact P.env.dx i a (q2 _ hr) (.inl z)
 have Ol:Own R6 (U F Ox) l':=.inl ⟨i,q2 _ hr⟩;refine⟨l',us2,x,rfl,rfl,hl2,by rw[ow.len];exact ξ,?_⟩;have hg1:∀b,(fun b=>b=l'\/U F' F b) b->F1 b\/F b:=fun b z=>by
  rcases z with z|z|z
  ·rw[z];exact .inl hr
  ·exact .inl (hf' b z).1
  ·exact .inr z
 have ho1:∀O':AS,(∀a,O' a->Own R6 (U F Ox) a)->Ow K O' (upd H6 l' (.lst (us2++[x]))) (.list (ts++[y])) (dn (dns π.length d)) (.ref l') (fun b=>b=l'\/U F' F b):=fun O' ho=>by
  refine⟨l',us2++[x],rfl,.inr ⟨hz2,av,.inl rfl,U F' F,fun b z=>⟨.inr z,?_⟩,?_⟩⟩
  ·rcases z with z|z
   ·exact(hf' b z).2
   ·exact Fn b z
  ·refine Ows.snoc (Ows.past ho Ol (fun b z=>(hf' b z).2) ow) ?_ fun b z1 z2=>P.env.dx i b (q2 b (hf' b z1).1) (.inl z2);rw[hc2];exact Ow.past ho Ol Fn o6
 obtain⟨R',PF⟩:=P.zoomO hi6 hv hd4 q2 q3 q4 q6 hr hg1 ho1;exact k _ _ PF
def Ic(hd1:ds1[i]?=some d)(hd3:ds3[i]?=some d)(hd4:ds4[i]?=some d)(hz:dns m d≠0)(hc:dn (dns m d)=c)(hc0:c≠0)(hc2:dn c=c2)(h:tFS K J ds ds4 (nK i mp fk f0 fe) Dn σ H):
  rC (tBM K "list" jQ (Cd (tP K p1 ds ds1 i m mp) (tF K true ds1 ds2 d2 fk) (tF K true ds2 ds3 c f0)) (iP (tF K true ds3 ds4 c2 fe) nI)) Dn σ H:=by
 obtain⟨Ox,en,R,fl,e,hf,k⟩:=h;unfold nK at hf;obtain⟨⟨π,en1⟩,h1,hf⟩:=zaa.mp hf
 dsimp only at hf
 split at hf
 case h_2=>cases hf
 next t g3=>
 obtain⟨u,h4,hf⟩:=zaa.mp hf;cases u with
 |dict ks=>
  dsimp only at hf
  obtain⟨⟨t1,en2⟩,h2,hf⟩:=zaa.mp hf;obtain⟨⟨z,en3⟩,h3,hf⟩:=zaa.mp hf;obtain⟨q,hq,hf⟩:=zaa.mp hf
  dsimp only at hf
  by_cases ξ:ks.length<sizeLine
  case neg=>rw[if_neg ξ]at hf;cases hf
  rw[if_pos ξ]at hf;obtain⟨⟨ks1,ts⟩,h5,hf⟩:=zaa.mp hf;obtain⟨⟨y,en6⟩,h6,hf⟩:=zaa.mp hf
  dsimp only at hf h6
  by_cases hts:ts.length<sizeLine
  case neg=>rw[if_neg hts]at hf;cases hf
  rw[if_pos hts]at hf;cases hf;have ek:=c9 hq;subst ek;refine⟨Ox,en,R,π,en1,e,h1,fun v w H1 R1 P1 hl hv pv=>?_⟩;subst hl;obtain⟨l,vs,F1,el,hl1,_⟩:=P1.placeD (aM g3) hv hd1 h4 hz pv;subst el;refine⟨l,rfl,.inl ⟨_,.inl hl1⟩,Ox,en1,R1,_,en2,P1.env0,h2,fun x2 H2 R2 F2 P2 o2=>?_⟩;obtain⟨pe2,_,ph2⟩:=P2.pure rfl;have P12:=(P1.after P2).less (F':=NoA) fun _ z=>z.elim;refine⟨Ox,en2,R2,z,en3,P12.env0,h3,fun x3 H3 R3 F3 P3 o3=>?_⟩;obtain⟨pe3,_,ph3⟩:=P3.pure rfl;have P:=P12.after P3;have g3':en3[i]?=some (some t):=by rw[pe3,pe2];exact aM g3
  have pv3:=(pv.mono ph2).mono ph3;obtain⟨l',vs',F1,el,hl3,hr,hf1,ow,fin⟩:=P.placeD g3' hv hd3 h4 hz pv3;cases el;have eq:=dC hq o2;subst eq;refine⟨vs',q,hl3,rfl,by rw[ow.len];exact ξ,?_⟩;have il:i<en3.length:=(zah.mp g3').1;rcases ow.look q with⟨t'',w,c1,w1,_⟩|⟨c1,w1⟩
  ·left
   refine⟨w,w1,?_⟩;unfold ko at h5;rw[c1]at h5;cases t'' with
   |list ts'=>
    cases h5;rw[i4 h4]at h6 k;have ee:en3.set i (some t)=en3:=by
     apply List.ext_getElem?;intro j;by_cases hj:i=j
     ·subst hj;rw[zaO il,g3']
     ·rw[zaN hj]
    rw[ee]at h6;refine uF (c2:=c2) (P.less (F':=NoA) fun _ z=>z.elim) g3' hv hd3 hd4 h4 hz (by rw[hc];exact hc0) (by rw[hc];exact hc2) pv3 hl3 w1 c1 h6 hts fun H' R' PF=>k σ _ _ PF.s
   |_=>cases h5
  ·right
   refine⟨w1,?_⟩;unfold ko at h5;rw[c1]at h5;cases z with
   |list ts'=>
    cases h5;have Fn:∀a,F3 a->a≠l:=fun a z z2=>by
     subst z2;exact P.env.dx i a hr (.inl z)
    have Ol:Own R3 (U F3 Ox) l:=.inl ⟨i,hr⟩;obtain⟨R',PF⟩:=fin (ks++[(kD q,.list ts)]) (b5 vs' q x3) (U F1 F3) (fun _ z=>z) fun O' ho=>by
     rw[qB w1];refine Owd.snocG ?_ (Owd.past ho Ol (fun b z=>(hf1 b z).2) ow) fun b z1 z2=>P.env.dx i b (hf1 b z1).1 (.inl z2);rw[hc];exact Ow.past ho Ol Fn o3
    refine uF (c2:=c2) PF (zaO il) hv hd3 hd4 (jE h4) hz (by rw[hc];exact hc0) (by rw[hc];exact hc2) (pv3.updD hl3) av (by rw[qB w1];exact(qx q q _ _ w1).trans (if_pos rfl)) (wq c1) h6 hts fun H' R' PF=>k σ _ _ PF.s
   |_=>cases h5
 |_=>cases hf
def qK(hK:X.K=K)(ho:QE X o (tP K p1 ds ds1 i m mp))(hk:QE X k (tF K true ds1 ds2 d2 fk))(h0:QE X z (tF K true ds2 ds3 c f0))(he:QE X e (tF K true ds3 ds4 c2 fe))(hd1:ds1[i]?=some d)(hd3:ds3[i]?=some d)(hd4:ds4[i]?=some d)(hz:dns m d≠0)(hc:dn (dns m d)=c)(hc0:c≠0)(hc2:dn c=c2)(m2:M2 X o "setdefault" μ k z ω)
  (η:attributeBase (.Call (.Attribute o "setdefault" μ) [k,z] [] ω) "append" X.env (eval (.Call (.Attribute o "setdefault" μ) [k,z] [] ω) X.env)=eval (.Call (.Attribute o "setdefault" μ) [k,z] [] ω) X.env)
  (x':((backTo epos (starEach [e] X.env)).all (fun x=>!x.1)&&(backToKw epos (keywordEach [] X.env)).all (fun x=>x.1.isSome)&&decide (([e]:List Expr).length+([]:List Keyword).length+(if([]:List Keyword).isEmpty then 0 else 1)<30))=true)
  (θ:(bpos.endLine==epos.line)=true) (hs:starEach [e] X.env=[(false,eval e X.env)]) (ι:(backTo epos (starEach [] X.env)).any (·.1)=false)
  (hsw:swapsWith (.Call (.Attribute (.Call (.Attribute o "setdefault" μ) [k,z] [] ω) "append" bpos) [e] [] epos) none pos.line X.env=pure false):
  QS X (.Expr (.Call (.Attribute (.Call (.Attribute o "setdefault" μ) [k,z] [] ω) "append" bpos) [e] [] epos) pos) (tFS K J ds ds4 (nK i mp fk f0 fe)):=by
 subst hK;exact⟨(pW (rF PySem.F.plainAttrs_list PySem.F.slot_list_append PySem.F.type_list_append jr (C6 ho.h hk.h h0.h m2) (cq he.h pa_nil hs) η x' θ hs ι) hsw).imp fun _ _ _=>Ic hd1 hd3 hd4 hz hc hc0 hc2⟩
end
section
variable{kvs:List (Key×V)} 
def Inv.thaw(I:Inv X ρ σ H s)(e:H a=some (.frz ob (.dK kvs)))(hb:∀o u,X.H₀ a≠some (.frz o u)):Inv X ρ σ (upd H a (.dK kvs)) s:=by
 have nn:∀b,H b=none->upd H a (.dK kvs) b=none:=fun b q=>by
  rw[az fun z=>?_]
  ·exact q
  ·subst z;rw[e]at q;cases q
 have ns:∀b u,H b=some u->(∀o w,u≠.frz o w)->upd H a (.dK kvs) b=some u:=fun b u q n=>by
  rw[az fun z=>?_]
  ·exact q
  ·subst z;rw[e]at q;cases q;exact n _ _ rfl
 refine⟨I.ok,I.os,I.bare,⟨I.base.keep,I.base.slot,fun b o q n x=>nn b (I.base.free b o q n x),I.base.there,fun b xs q=>ns b _ (I.base.tups b xs q) (fun _ _ z=>nomatch z),fun b o u q=>?_,fun b ps q=>?_⟩,I.loc,I.cell,nn _ I.free,fun x c q=>nn _ (I.freeC x c q),fun p hp=>?_,fun b o q=>?_,I.len⟩
 ·rw[az fun z=>?_]
  ·exact I.base.frzs b o u q
  ·subst z;exact hb _ _ q
 ·obtain⟨more,q2⟩:=I.base.tbls b ps q;exact⟨more,ns b _ q2 (fun _ _ z=>nomatch z)⟩
 ·obtain⟨h1,h2,h3⟩:=I.pin p hp;exact⟨h1,nn _ h2,h3⟩
 ·by_cases hba:b=a
  ·subst hba;rw[av]at q;cases q;obtain⟨_,q2⟩:=(show ObjOk X.prog X.w H s.heap b (.frz ob (.dK kvs))from I.hok b _ e);exact ObjOk.stay q2 (fun _ _ _ z=>z) (fun c z=>ns c _ z (fun _ _ z=>nomatch z)) (fun c xs z=>ns c _ z (fun _ _ z=>nomatch z))
  ·rw[az hba]at q;exact ObjOk.stay (I.hok b o q) (fun _ _ _ z=>z) (fun c z=>ns c _ z (fun _ _ z=>nomatch z)) (fun c xs z=>ns c _ z (fun _ _ z=>nomatch z))
end
def Th(H H':Hp)(Q:Hp->Prop):Prop:=Q H'\/∃a o kvs,H' a=some (.frz o (.dK kvs))/\(∀o u,H a≠some (.frz o u))/\Q (upd H' a (.dK kvs))
def Ends.thaw(D:Ends)(H:Hp):Ends:=⟨fun σ' H'=>Th H H' (D.nx σ'),fun v H'=>Th H H' (D.rt v),fun σ' H'=>Th H H' (D.bk σ'),fun σ' H'=>Th H H' (D.ct σ')⟩
def GD(t:TS):TS:=fun D σ H=>t (D.thaw H) σ H
def KQ(t:TE):TE:=fun σ H Q=>t σ H fun v H'=>Th H H' (Q v)
def Inv.th{s':Shared}{Q:Hp->Prop}(I:Inv X ρ σ H s)(I':Inv X ρ σ' H' s')(h:Th H H' Q):∃H2,Inv X ρ σ' H2 s'/\Q H2:=by
 rcases h with h|⟨a,o,kvs,e,n,h⟩
 ·exact⟨H',I',h⟩
 ·exact⟨_,I'.thaw e fun o u q=>n o u (I.base.frzs a o u q),h⟩
def Cn{t:TS}(h:PS X st t):PS X st (GD t):=by
 intro ρ s σ H D I q;refine thn (h ρ s σ H (D.thaw H) I q) fun f s' r=>?_;cases f with
 |next=>obtain⟨σ',H',I',r⟩:=r;obtain⟨H2,I2,r⟩:=I.th I' r;exact⟨σ',H2,I2,r⟩
 |brk=>obtain⟨σ',H',I',r⟩:=r;obtain⟨H2,I2,r⟩:=I.th I' r;exact⟨σ',H2,I2,r⟩
 |cont=>obtain⟨σ',H',I',r⟩:=r;obtain⟨H2,I2,r⟩:=I.th I' r;exact⟨σ',H2,I2,r⟩
 |ret u=>obtain⟨v,σ',H',I',e,r⟩:=r;obtain⟨H2,I2,r⟩:=I.th I' r;exact⟨v,σ',H2,I2,e,r⟩
section
variable{ws:List (Key×V)} 
def wX(hl:H l=some (.frz ob (.dK ws)))(n:∀o w,u≠.frz o w)(h:Rd H a u):Rd (upd H l (.dK ws)) a u:=by
 by_cases e:a=l
 ·subst e;rcases h with h|⟨o,h⟩
  ·rw[hl]at h;cases h;exact absurd rfl (n _ _)
  ·rw[hl]at h;cases h;exact .inl av
 ·exact h.mv fun o q=>by rw[az e];exact q
def jR(hl:H l=some (.frz ob (.dK ws)))(h:H a=some u)(n:∀o w,u≠.frz o w):upd H l (.dK ws) a=some u:=by
 rw[az fun e=>?_]
 ·exact h
 ·subst e;rw[hl]at h;cases h;exact n _ _ rfl
mutual
theorem Ow.thw(hl:H l=some (.frz ob (.dK ws))):∀(t:D) {d:Nat} {v:V} {F:AS},Ow K O H t d v F->Ow K O (upd H l (.dK ws)) t d v F
 |.none,_,_,_,h=>h
 |.bool _,_,_,_,h=>h
 |.int _,_,_,_,h=>h
 |.str _,_,_,_,h=>h
 |.tuple ts,_,_,_,h=>by
  obtain⟨a,vs,e,⟨h0,h1,h2⟩|⟨h0,h1,h2,F',hf,h3⟩⟩:=h
  ·exact⟨a,vs,e,.inl ⟨h0,⟨jR hl h1.1 (fun _ _ z=>nomatch z),h1.2⟩,Ows.thw hl ts h2⟩⟩
  ·exact⟨a,vs,e,.inr ⟨h0,jR hl h1 (fun _ _ z=>nomatch z),h2,F',hf,Ows.thw hl ts h3⟩⟩
 |.list ts,_,_,_,h=>by
  obtain⟨a,vs,e,⟨h0,h1,h2⟩|⟨h0,h1,h2,F',hf,h3⟩⟩:=h
  ·exact⟨a,vs,e,.inl ⟨h0,h1.imp (fun h=>⟨wX hl (fun _ _ z=>nomatch z) h.1,h.2⟩) id,Ows.thw hl ts h2⟩⟩
  ·exact⟨a,vs,e,.inr ⟨h0,jR hl h1 (fun _ _ z=>nomatch z),h2,F',hf,Ows.thw hl ts h3⟩⟩
 |.dict ks,_,_,_,h=>by
  obtain⟨a,vs,e,⟨h0,h1,hn,h2⟩|⟨h0,h1,h2,F',hf,h3⟩|⟨h0,ht⟩⟩:=h
  ·exact⟨a,vs,e,.inl ⟨h0,wX hl (fun _ _ z=>nomatch z) h1,hn,Owd.thw hl ks h2⟩⟩
  ·exact⟨a,vs,e,.inr (.inl ⟨h0,jR hl h1 (fun _ _ z=>nomatch z),h2,F',hf,Owd.thw hl ks h3⟩)⟩
  ·refine⟨a,vs,e,.inr (.inr ⟨h0,?_⟩)⟩;rcases ht with⟨kk,b,h1,h2,h3⟩|⟨x,C,h1,h0',h2,h3⟩
   ·exact .inl ⟨kk,b,h1,jR hl h2 (fun _ _ z=>nomatch z),h3⟩
   ·exact .inr ⟨x,C,h1,h0',jR hl h2 (fun _ _ z=>nomatch z),h3⟩
theorem Ows.thw(hl:H l=some (.frz ob (.dK ws))):∀(ts:List D) {d:Nat} {vs:List V} {F:AS},Ows K O H ts d vs F->Ows K O (upd H l (.dK ws)) ts d vs F
 |[],_,_,_,h=>h
 |t::ts,_,_,_,h=>by
  obtain⟨v,r,F1,F2,e,h1,h2,h3,h4,h5⟩:=h;exact⟨v,r,F1,F2,e,h1,h2,h3,Ow.thw hl t h4,Ows.thw hl ts h5⟩
theorem Owd.thw(hl:H l=some (.frz ob (.dK ws))):∀(ts:List (D×D)) {d:Nat} {vs:List (Key×V)} {F:AS},Owd K O H ts d vs F->Owd K O (upd H l (.dK ws)) ts d vs F
 |[],_,_,_,h=>h
 | (k,t)::ts,_,_,_,h=>by
  obtain⟨q,v,r,F1,F2,e,e2,h1,h2,h3,h4,h5⟩:=h;exact⟨q,v,r,F1,F2,e,e2,h1,h2,h3,Ow.thw hl t h4,Owd.thw hl ts h5⟩
end
def Ow.dict0n{F:AS}(hk:noT ks=true)(h:Ow K O H (.dict ks) 0 v F):∃a vs,v=.ref a/\Rd H a (.dK vs)/\¬O a/\Owd K O H ks 0 vs NoA:=by
 obtain⟨a,vs,e,rd,ow⟩:=Ow.dict0 hk (Ow.any0 _ h);obtain⟨a',vs',e',⟨_,h1,hn,h2⟩|⟨z,_⟩|⟨_,ht⟩⟩:=h
 ·rw[e]at e';cases e';exact⟨a,vs,e,rd,hn,ow⟩
 ·exact absurd rfl z
 ·rw[e]at e';cases e';rcases ht with⟨kk,b,h1,h2,h3⟩|⟨x,C,h1,h0',h2,h3⟩
  ·rcases rd with rd|⟨o,rd⟩<;>rw[h2]at rd<;>cases rd
  ·rcases rd with rd|⟨o,rd⟩<;>rw[h2]at rd<;>cases rd
end
section
variable{F:AS}  
def EnvOk.frzd(e:EnvOk K ds Ox H1 σ en R)(ha:H1 a=some (.dK vs))(na:∀i,¬R i a):EnvOk K ds Ox (upd H1 a (.frz ob (.dK vs))) σ en R:=by
 refine⟨fun i t h=>?_,e.dj,e.dx,fun b z=>?_,e.l1,e.l2⟩
 ·obtain⟨v,d,g1,g2,g3⟩:=e.at_ i t h;exact⟨v,d,g1,g2,Ow.frzd ha t (na i) g3⟩
 ·by_cases hb:b=a
  ·subst hb;exact⟨_,av⟩
  ·rw[az hb];exact e.dom b z
def PostS.thw(ha:H1 a=some (.dK vs))(na:∀i,¬R i a)(P:PostS K lk ds' Ox σ (upd H1 a (.frz ob (.dK vs))) R σ' en' H' R' F):H' a=some (.frz ob (.dK vs))/\PostS K lk ds' Ox σ H1 R σ' en' (upd H' a (.dK vs)) R' F:=by
 have hl:H' a=some (.frz ob (.dK vs)):=P.keep a _ av na;refine⟨hl,⟨fun i t h=>?_,P.env.dj,P.env.dx,fun b z=>?_,P.env.l1,P.env.l2⟩,P.fx,fun b o q n=>?_,fun b z=>?_,fun b o q=>?_,P.lk⟩
 ·obtain⟨v,d,g1,g2,g3⟩:=P.env.at_ i t h;exact⟨v,d,g1,g2,Ow.thw hl t g3⟩
 ·by_cases hb:b=a
  ·subst hb;exact⟨_,av⟩
  ·rw[az hb];exact P.env.dom b z
 ·by_cases hb:b=a
  ·subst hb;rw[ha]at q;cases q;exact av
  ·rw[az hb];exact P.keep b o (by rw[az hb];exact q) n
 ·rcases P.own b z with z|z
  ·exact .inl z
  ·right
   by_cases hb:b=a
   ·subst hb;rw[av]at z;cases z
   ·rw[az hb]at z;exact z
 ·by_cases hb:b=a
  ·subst hb;exact⟨_,av⟩
  ·rw[az hb];exact P.dom b o (by rw[az hb];exact q)
end
def Fz(H1:Hp)(a:Addr)(vs:List (Key×V))(H2:Hp):Prop:=(∃ob,H1 a=some (.dK vs)/\H2=upd H1 a (.frz ob (.dK vs)))\/H2=H1
def yC(K:zbY)(ds:List Nat)(f:ME):TI:=fun σ H RJ=>
 ∃Ox en R ks en',EnvOk K ds Ox H σ en R/\f en=some (.dict ks,en')/\noT ks=true/\∀J H1 a vs H2,Post K true ds Ox σ H en R en' H1 R NoA->¬Own R Ox a->Fz H1 a vs H2->jd K (Own R Ox) H2 J (kys ks)->RJ J H2
def iDz(f:ME):MI:=fun en=>(f en).bind fun r=>match r.1 with
 |.dict ks=>if noT ks=true then some (kys ks,r.2)else none
 |_=>none
section
variable{it:Expr}{m:MS}{D:Ends}{body:List Stmt} 
def Iv(hK:X.K=K)(he:PE X it (tF K true ds ds 0 f)):PI X tg it (yC K ds f):=by
 subst hK;intro ρ s σ H R I h;obtain⟨Ox,en,Rg,ks,en',e,hf,hT,k⟩:=h;refine thn (he ρ s σ H (fun v H1=>∃R1 F,Post X.K true ds Ox σ H en Rg en' H1 R1 F/\Ow X.K (Own R1 (U F Ox)) H1 (.dict ks) 0 v F) I ⟨Ox,en,Rg,.dict ks,en',e,hf,fun v H1 R1 F P o=>⟨R1,F,P,o⟩⟩) fun v s1 ⟨y,H1,I1,r1,R1,F,P,o⟩=>?_;obtain⟨a,vs,ey,rd,na,ow⟩:=Ow.dict0n hT o;subst ey;cases r1;have eR:=(P.pure rfl).2.1;subst eR;have sub:∀b,Own R1 Ox b->Own R1 (U F Ox) b:=fun b z=>z.imp id .inr;have nO:¬Own R1 Ox a:=fun z=>na (sub a z);have ow1:Owd X.K (Own R1 Ox) H1 ks 0 vs NoA:=Owd.grow sub ks (fun _ z=>z) ow;have P':=P.less (F':=NoA) fun _ z=>z.elim;obtain⟨H2,ep,fz,F2,I2,ow2⟩:∃H2 ep,FzD H2 a vs ep/\Fz H1 a vs H2/\Inv X ρ σ H2 s1/\Owd X.K (Own R1 Ox) H2 ks 0 vs NoA:=by
  rcases rd with hd|⟨ob,hd⟩
  ·obtain⟨o,ep,he,I2⟩:=I1.freeze hd;exact⟨_,ep,⟨o,av,he⟩,.inl ⟨o,hd,rfl⟩,I2,Owd.frzd hd ks (fun z=>z) ow1⟩
  ·obtain⟨g1,_,_,_,_,o',es,ep,g2,_,g4,_⟩:=(show ObjOk X.prog X.w H1 s1.heap a (.frz ob (.dK vs))from I1.hok a _ hd);rw[g1]at g2;cases g2;exact⟨H1,ep,⟨ob,hd,es,g4⟩,.inr rfl,I1,ow1⟩
 obtain⟨hds,us,rel,dd⟩:=i6 I2 fz;refine wpAny_pyIter_dict hds dd ?_;refine⟨s1.heap.objs.size,[s1.heap.objs.size],_,_,_,rfl,I2.kept (t':=s1.toks) fun b o e=>zaf _ e,qy a _ vs ep,⟨_,zan _ rfl,rfl,by rw[rel.length];rfl⟩,fun b hb=>?_,k _ H1 a vs H2 P' nO F2 (qv fz nO ow2)⟩;have e:b=s1.heap.objs.size:=by simpa using hb
 subst e;exact I2.fpOk (zav _) (I2.hok.fresh (zav _))
def DN(h:tFS K J ds ds (bq (iDz f) g m) D σ H):GD (yB (yC K ds f) (tFG K J.lk ds ds2 g) (tFS K { J with dsl:=ds } ds2 ds m)) D σ H:=by
 obtain⟨Ox,en,R,fl,e,hf,k⟩:=h;unfold bq iDz at hf;obtain⟨⟨ts,en1⟩,h1,hf2⟩:=zaa.mp hf;obtain⟨⟨t,en0⟩,h0,h1⟩:=zaa.mp h1;cases t with
 |dict ks=>
  dsimp only at h1
  by_cases hT:noT ks=true
  case neg=>rw[if_neg hT]at h1;cases h1
  rw[if_pos hT]at h1;cases h1;refine⟨Ox,en,R,ks,en1,e,h0,hT,fun Jt H0 a vs H1 P0 na F1 wk=>?_⟩;have pe:=(P0.pure rfl).1;subst pe;have naR:∀i,¬R i a:=fun i z=>na (.inl ⟨i,z⟩);have hfz:∀o u,H0 a=some (.dK vs)->H a≠some (.frz o u):=fun o u z q=>by
   have:=(P0.pure rfl).2.2 a _ q;rw[z]at this;cases this
  have E1:EnvOk K ds Ox H1 σ en1 R:=by
   rcases F1 with⟨ob,hd,rfl⟩|rfl
   ·exact P0.env0.frzd hd naR
   ·exact P0.env0
  have endN:∀{σ2:St} {en2:En} {H3:Hp} {R2:Nat->AS} {ds':List Nat} {Q:Hp->Prop},PostS K J.lk ds' Ox σ H1 R σ2 en2 H3 R2 NoA->(∀H4,PostS K J.lk ds' Ox σ H R σ2 en2 H4 R2 NoA->Q H4)->Th H H3 Q:=fun P q=>by
   rcases F1 with⟨ob,hd,rfl⟩|rfl
   ·obtain⟨g1,g2⟩:=P.thw hd naR;exact .inr ⟨a,ob,vs,g1,fun o u=>hfz o u hd,q _ (P0.s.after g2)⟩
   ·exact .inl (q _ (P0.s.after P))
  refine⟨fun i n σ' H'=>∃en' R',n=(kys ks).length-i/\i<=(kys ks).length/\PostS K J.lk ds Ox σ H1 R σ' en' H' R' NoA/\ck g m ((kys ks).drop i) en'=some fl,⟨_,en1,R,rfl,zbh _,PostS.refl E1,hf2⟩,?_⟩;rintro i n σ2 H2 ⟨en2,R2,rfl,hi,P2,hr⟩;obtain⟨w1,w2⟩:=wk i H2 (Own R2 Ox) (fun a o q z=>P2.keep a o q fun j zj=>z (.inl ⟨j,zj⟩)) (fun a z=>by
   rcases z with z|z
   ·exact(P2.own a (.inr z)).imp .inl id
   ·exact .inl (.inr z)) fun a z=>P2.env0.dom a z
  by_cases hlt:i<(kys ks).length
  ·obtain⟨go,yl⟩:=w1 (kys ks)[i] (zak hlt);have hd:(kys ks).drop i=(kys ks)[i]::(kys ks).drop (i+1):=zbP hlt;rw[hd]at hr;obtain⟨en3,h3,hr⟩:=zaa.mp hr;obtain⟨fl2,h4,hr⟩:=zaa.mp hr;refine .inr ⟨go,fun σ' H'=>∃en' R',PostS K J.lk ds Ox σ H1 R σ' en' H' R' NoA/\ck g m ((kys ks).drop (i+1)) en'=some fl,fun σ' H' ⟨en',R',P',h'⟩=>⟨(kys ks).length-(i+1),by omega,en',R',rfl,hlt,P',h'⟩,fun x H3 y=>?_⟩;obtain⟨gr,ox⟩:=yl x H3 y;have P3:Post K true ds Ox σ2 H2 en2 R2 en2 H3 R2 NoA:=Post.new P2.env0 gr fun _ z=>z.elim;refine⟨Ox,en2,R2,(kys ks)[i],en3,P3.env0,ox,h3,fun σ4 R4 P4 _=>?_⟩;have P4':=(P2.after P3.s).after P4;refine⟨Ox,en3,R4,fl2,P4.env0,h4,?_⟩;cases fl2 with
   |nx en5=>exact fun σ5 H5 R5 P5=>⟨en5,R5,P4'.after P5,hr⟩
   |ct en5=>exact fun σ5 H5 R5 P5=>⟨en5,R5,P4'.after P5,hr⟩
   |rt t en5=>
    cases hr;intro v σ5 H5 R5 F P5 o;have PF:=P4'.after P5;rcases F1 with⟨ob,hd,rfl⟩|rfl
    ·obtain⟨g1,g2⟩:=PF.thw hd naR;exact .inr ⟨a,ob,vs,g1,fun o u=>hfz o u hd,k v σ5 _ R5 F (P0.s.after g2) (Ow.thw g1 _ o)⟩
    ·exact .inl (k v σ5 H5 R5 F (P0.s.after PF) o)
  ·have e2:i=(kys ks).length:=by omega
   subst e2;rw[List.drop_length]at hr;cases hr;exact .inl ⟨w2 rfl,endN P2 fun H4 P4=>k σ2 H4 R2 P4⟩
 |_=>cases h1
def wd(hK:X.K=K)(hc:X.calm=true)(hi:QE X it (tF K true ds ds 0 f))(hg:QG X tg (tFG K J.lk ds ds2 g))(hb:QSs X body (tFS K { J with dsl:=ds } ds2 ds m))(hp:PassesOwn (model X.prog X.w) X.A X.env X.xe)(hs:∀x,foldedSetIterable it X.env x=pure x):
  QS X (.For tg it body [] pos) (tFS K J ds ds (bq (iDz f) g m)):=
 ⟨PS.imp (Cn (wZ hp hc (Iv hK hi.h) hg.h hb.h hs)) fun _ _ _=>DN⟩
end
mutual
def cf:Nat->D->Bool
 |_,.none=>true
 |_,.bool _=>true
 |_,.int _=>true
 |_,.str _=>true
 |d,.tuple ts=>d != 0&&eT (dn d) ts
 |d,.list ts=>d != 0&&eT (dn d) ts
 |d,.dict ks=>d != 0&&fM (dn d) ks
def eT:Nat->List D->Bool
 |_,[]=>true
 |d,t::ts=>cf d t&&eT d ts
def fM:Nat->List (D×D)->Bool
 |_,[]=>true
 |d,(_,t)::ts=>cf d t&&fM d ts
end
section
variable{O':AS} 
mutual
theorem Ow.self:∀(t:D) {d:Nat} {v:V} {F:AS},cf d t=true->Ow K O H t d v F->Ow K O' H t d v F
 |.none,_,_,_,_,h=>h
 |.bool _,_,_,_,_,h=>h
 |.int _,_,_,_,_,h=>h
 |.str _,_,_,_,_,h=>h
 |.tuple ts,d,_,_,g,h=>by
  unfold cf at g;rw[zbk]at g;have hd:d≠0:=by simpa using g.1
  obtain⟨a,vs,e,⟨h0,_⟩|⟨h0,h1,h2,F',hf,h3⟩⟩:=h
  ·exact absurd h0 hd
  ·exact⟨a,vs,e,.inr ⟨h0,h1,h2,F',hf,Ows.self ts g.2 h3⟩⟩
 |.list ts,d,_,_,g,h=>by
  unfold cf at g;rw[zbk]at g;have hd:d≠0:=by simpa using g.1
  obtain⟨a,vs,e,⟨h0,_⟩|⟨h0,h1,h2,F',hf,h3⟩⟩:=h
  ·exact absurd h0 hd
  ·exact⟨a,vs,e,.inr ⟨h0,h1,h2,F',hf,Ows.self ts g.2 h3⟩⟩
 |.dict ks,d,_,_,g,h=>by
  unfold cf at g;rw[zbk]at g;have hd:d≠0:=by simpa using g.1
  obtain⟨a,vs,e,⟨h0,_⟩|⟨h0,h1,h2,F',hf,h3⟩|⟨h0,_⟩⟩:=h
  ·exact absurd h0 hd
  ·exact⟨a,vs,e,.inr (.inl ⟨h0,h1,h2,F',hf,Owd.self ks g.2 h3⟩)⟩
  ·exact absurd h0 hd
theorem Ows.self:∀(ts:List D) {d:Nat} {vs:List V} {F:AS},eT d ts=true->Ows K O H ts d vs F->Ows K O' H ts d vs F
 |[],_,_,_,_,h=>h
 |t::ts,_,_,_,g,h=>by
  unfold eT at g;rw[zbk]at g;obtain⟨v,r,F1,F2,e,h1,h2,h3,h4,h5⟩:=h;exact⟨v,r,F1,F2,e,h1,h2,h3,Ow.self t g.1 h4,Ows.self ts g.2 h5⟩
theorem Owd.self:∀(ts:List (D×D)) {d:Nat} {vs:List (Key×V)} {F:AS},fM d ts=true->Owd K O H ts d vs F->Owd K O' H ts d vs F
 |[],_,_,_,_,h=>h
 | (k,t)::ts,_,_,_,g,h=>by
  unfold fM at g;rw[zbk]at g;obtain⟨q,v,r,F1,F2,e,e2,h1,h2,h3,h4,h5⟩:=h;exact⟨q,v,r,F1,F2,e,e2,h1,h2,h3,Ow.self t g.1 h4,Owd.self ts g.2 h5⟩
end
end
def dw(d:Nat):Option D->Option D
 |some t=>if cf d t=true then some t else none
 |none=>none
def bY:List Bool->List Nat->En->En->En
 |b::bs,d::ds,x::en,y::en'=>(if b then x else dw d y)::bY bs ds en en'
 |_,_,_,_=>[]
theorem qH:∀{bs:List Bool} {ds:List Nat} {en en':En} {s:Nat} {t:D},(bY bs ds en en')[s]?=some (some t)->(bs[s]?=some true/\en[s]?=some (some t))\/(bs[s]?=some false/\en'[s]?=some (some t)/\∃d,ds[s]?=some d/\cf d t=true)
 |[],_,_,_,_,_,h=>by simp[bY]at h
 |_::_,[],_,_,_,_,h=>by simp[bY]at h
 |_::_,_::_,[],_,_,_,h=>by simp[bY]at h
 |_::_,_::_,_::_,[],_,_,h=>by simp[bY]at h
 |b::bs,d::ds,x::en,y::en',0,t,h=>by
  have h':(if b then x else dw d y)=some t:=by simpa[bY]using h
  cases b with
  |true=>exact .inl ⟨rfl,congrArg some h'⟩
  |false=>
   cases y with
   |none=>cases h'
   |some u=>
    have h2:(if cf d u=true then some u else none)=some t:=h';by_cases hs:cf d u=true
    ·rw[if_pos hs]at h2;cases h2;exact .inr ⟨rfl,rfl,d,rfl,hs⟩
    ·rw[if_neg hs]at h2;cases h2
 |b::bs,d::ds,x::en,y::en',s+1,t,h=>by
  have h':(bY bs ds en en')[s]?=some (some t):=by simpa[bY]using h
  simpa using qH h'
theorem qG:∀{bs:List Bool} {ds:List Nat} {en en':En},bs.length=ds.length->en.length=ds.length->en'.length=ds.length->(bY bs ds en en').length=ds.length
 |[],[],_,_,_,_,_=>rfl
 |_::_,_::ds,[],_,_,h,_=>by cases h
 |_::_,_::ds,_::_,[],_,_,h=>by cases h
 |b::bs,d::ds,x::en,y::en',h1,h2,h3=>by
  show(bY bs ds en en').length+1=ds.length+1;rw[qG (Nat.succ.inj h1) (Nat.succ.inj h2) (Nat.succ.inj h3)]
 |[],_::_,_,_,h,_,_=>by cases h
 |_::_,[],_,_,h,_,_=>by cases h
def fN(bs:List Bool)(ds':List Nat)(m:MS):MS:=fun en=>(m en).bind fun fl=>match fl with
 |.nx en'=>some (.nx (bY bs ds' en en'))
 |_=>none
def oK(i:Nat)(bs:List Bool)(ds:List Nat)(lk:List Nat):Bool:=bs[i]?==some true&&bs.length==ds.length&&(List.range bs.length).all fun s=>!(bs[s]?==some true) || (lk.contains s&&(s==i || ds[s]?==some 0))
section
variable{J':Jd}{bs:List Bool}{m:MS}{D:Ends}  
def DM(hi:ds[i]?=some d)(h0:ds.set i 0=ds0)(h1:ds1.set i d=ds')(hb:oK i bs ds J'.lk=true)(hlk:∀j∈J.lk,j∈J'.lk)(hk:∀s:Nat,bs[s]?=some true->ds'[s]?=ds[s]?)(hl:ds'.length=ds.length)
  (h:tFS K J ds ds' (fN bs ds' m) D σ H):tFS K J' ds0 ds1 m D σ H:=by
 obtain⟨Ox,en,R,fl,e,hf,k⟩:=h;unfold fN at hf;obtain⟨fl0,hm,hf⟩:=zaa.mp hf;cases fl0 with
 |ct _=>cases hf
 |rt _ _=>cases hf
 |nx en'=>
  cases hf;unfold oK at hb;rw[zbk,zbk,List.all_eq_true]at hb;obtain⟨⟨b1,b2⟩,b3⟩:=hb;have bi:bs[i]?=some true:=by simpa using b1
  have bl:bs.length=ds.length:=by simpa using b2
  have bz:∀s:Nat,bs[s]?=some true->s∈J'.lk/\(s=i\/ds[s]?=some 0):=fun s q=>by
   have hs:s<bs.length:=(zah.mp q).1
   have:=b3 s (zbp.mpr hs);rw[q]at this;simpa using this
  have il:i<ds.length:=(zah.mp hi).1;have sub:∀b,Own (fun s b=>s≠i/\R s b) Ox b->Own R Ox b:=fun b z=>z.imp (fun⟨s,z⟩=>⟨s,z.2⟩) id;have nR:∀b,R i b->¬Own (fun s b=>s≠i/\R s b) Ox b:=fun b z z2=>by
   rcases z2 with⟨s,z2⟩|z2
   ·exact z2.1 (e.dj s i b z2.2 z)
   ·exact e.dx i b z z2
  have E0:EnvOk K ds0 Ox H σ en (fun s b=>s≠i/\R s b):=by
   refine⟨fun s t h=>?_,fun s s' b z z'=>e.dj s s' b z.2 z'.2,fun s b z=>e.dx s b z.2,fun b z=>e.dom b (sub b z),e.l1,by rw[<-h0,zaU];exact e.l2⟩;obtain⟨v,d',g1,g2,g3⟩:=e.at_ s t h;by_cases hs:s=i
   ·subst hs;refine⟨v,0,g1,?_,Ow.fz sub nR g3⟩;rw[<-h0];exact zaO il
   ·refine⟨v,d',g1,?_,Ow.grow sub t (fun b z=>⟨hs,z⟩) g3⟩;rw[<-h0,zaN (Ne.symm hs)];exact g2
  refine⟨Ox,en,_,.nx en',E0,hm,fun σ' H' R' P=>?_⟩;have kp:∀a o,H a=some o->(¬Own R Ox a\/R i a)->H' a=some o:=fun a o q z=>by
   refine P.keep a o q fun s zs=>?_;rcases z with z|z
   ·exact z (.inl ⟨s,zs.2⟩)
   ·exact zs.1 (e.dj s i a zs.2 z)
  have ow':∀s b,R' s b->(∃j,R j b/\j≠i)\/H b=none:=fun s b z=>(P.own b (.inr ⟨s,z⟩)).imp (fun⟨j,z⟩=>⟨j,z.2,z.1⟩) id;have nRi:∀s b,R' s b->¬R i b:=fun s b z z2=>by
   rcases ow' s b z with⟨j,z3,z4⟩|z3
   ·exact z4 (e.dj j i b z3 z2)
   ·obtain⟨o,q⟩:=e.dom b (.inl ⟨i,z2⟩);rw[z3]at q;cases q
  have oo:∀a,Own (fun s b=>(s=i/\R i b)\/(bs[s]?=some false/\R' s b)) (U NoA Ox) a->Own R Ox a\/H a=none:=fun a z=>by
   rcases z with⟨s,⟨_,z⟩|⟨_,z⟩⟩|z|z
   ·exact .inl (.inl ⟨i,z⟩)
   ·exact(ow' s a z).imp (fun⟨j,z,_⟩=>.inl ⟨j,z⟩) id
   ·exact z.elim
   ·exact .inl (.inr z)
  refine k σ' H' (fun s b=>(s=i/\R i b)\/(bs[s]?=some false/\R' s b)) ⟨⟨fun s t h=>?_,fun s s' b z z'=>?_,fun s b z=>?_,fun b z=>?_,?_,?_⟩,fun _ z=>z.elim,fun a o q n=>P.keep a o q fun s z=>n s z.2,fun a z=>?_,P.dom,fun j hj=>P.lk j (hlk j hj)⟩
  ·rcases qH h with⟨c1,c2⟩|⟨c1,c2,dd,c3,c4⟩
   ·obtain⟨l1,l2⟩:=bz s c1;obtain⟨v,d',g1,g2,g3⟩:=e.at_ s t c2;refine⟨v,d',(P.lk s l1).trans g1,(hk s c1).trans g2,?_⟩;rcases l2 with l2|l2
    ·subst l2;exact Ow.grow (fun _ z=>z) t (fun b z=>.inl ⟨rfl,z⟩) (Ow.mv (G:=R s) ⟨kp,oo⟩ t (fun _ z=>z) g3)
    ·rw[g2]at l2;cases l2;exact Ow.any0 t (Ow.mv (G:=NoA) ⟨fun a o q z=>kp a o q (.inl (z.elim id fun z=>z.elim)),oo⟩ t (fun _ z=>z) (Ow.any0 (F':=NoA) t g3))
   ·obtain⟨v,d',g1,g2,g3⟩:=P.env.at_ s t c2;have si:s≠i:=fun z=>by
     subst z;rw[bi]at c1;cases c1
    have ed:ds'[s]?=ds1[s]?:=by rw[<-h1,zaN (Ne.symm si)]
    have e2:d'=dd:=by
     rw[ed,g2]at c3;cases c3;rfl
    subst e2;exact⟨v,d',g1,c3,Ow.grow (fun _ z=>z) t (fun b z=>.inr ⟨c1,z⟩) (Ow.self t c4 g3)⟩
  ·rcases z with⟨z1,z⟩|⟨z1,z⟩<;>rcases z' with⟨z2,z'⟩|⟨z2,z'⟩
   ·rw[z1,z2]
   ·exact absurd z (nRi s' b z')
   ·exact absurd z' (nRi s b z)
   ·exact P.env.dj s s' b z z'
  ·rcases z with⟨z1,z⟩|⟨z1,z⟩
   ·exact fun z2=>e.dx i b z (z2.elim (fun z=>z.elim) id)
   ·exact P.env.dx s b z
  ·rcases z with⟨s,⟨z1,z⟩|⟨z1,z⟩⟩|z
   ·obtain⟨o,q⟩:=e.dom b (.inl ⟨i,z⟩);exact P.dom b o q
   ·exact P.env.dom b (.inl ⟨s,z⟩)
   ·exact P.env.dom b (.inr z)
  ·have q1:=P.env.l1;have q2:=P.env.l2;have q3:=e.l1;have q4:=e.l2;have l':ds'.length=ds1.length:=by rw[<-h1,zaU]
   have hσ:σ'.length=σ.length:=by
    omega
   rw[qG (by omega) (by omega) (by omega)];omega
  ·rw[<-h1,zaU];exact P.env.l2
  ·rcases z with z|⟨s,⟨z1,z⟩|⟨z1,z⟩⟩
   ·exact z.elim
   ·exact .inl ⟨i,z⟩
   ·exact(ow' s a z).imp (fun⟨j,z,_⟩=>⟨j,z⟩) id
end
section
variable{F:AS}  
def Post.thw(ha:H1 a=some (.dK vs))(na:∀i,¬R i a)(P:Post K p ds' Ox σ (upd H1 a (.frz ob (.dK vs))) en R en' H' R' F):H' a=some (.frz ob (.dK vs))/\Post K p ds' Ox σ H1 en R en' (upd H' a (.dK vs)) R' F:=by
 obtain⟨hl,PS⟩:=PostS.thw (lk:=[]) ha na P.s;refine⟨hl,PS.env,PS.fx,PS.keep,PS.own,PS.dom,fun hp=>?_⟩;obtain⟨g1,g2,g3⟩:=P.pure hp;refine⟨g1,g2,fun b o q=>?_⟩;by_cases hb:b=a
 ·subst hb;rw[ha]at q;cases q;exact av
 ·rw[az hb];exact g3 b o (by rw[az hb];exact q)
end
section
variable{q:Bool}{dsi:List Nat}{Q:VK}{cd:Nat}{c:MT}{js:List (Option Nat)} 
def Kx(hc:gH ds js dsi=true)(hd:dn d=cd)(hz:d≠0)(hl:lk=gE js 0)(h:tF K q ds ds d (eLC q (iDz f0) g c f js) σ H Q):
  KQ (tLC (yC K ds f0) (tFG K lk dsi dsi g) (tFT K q dsi dsi c) (tF K q dsi dsi cd f) js) σ H Q:=by
 obtain⟨Ox,en,R,t,en',e,hf,k⟩:=h;unfold eLC iDz at hf;obtain⟨⟨ts,en1⟩,h1,hf2⟩:=zaa.mp hf;obtain⟨⟨t,en0⟩,h0,h1⟩:=zaa.mp h1;obtain⟨⟨fin,enf⟩,h2,hf3⟩:=zab.mp hf2;cases t with
 |dict ks=>
  dsimp only at h1
  by_cases hT:noT ks=true
  case neg=>rw[if_neg hT]at h1;cases h1
  rw[if_pos hT]at h1;cases h1;cases hf3;clear hf hf2;refine⟨Ox,en,R,ks,_,e,h0,hT,fun Jt H0 a vs H1 P0 na F1 wk D hD=>?_⟩;have pe:=(P0.pure rfl).1;subst pe;have naR:∀i,¬R i a:=fun i z=>na (.inl ⟨i,z⟩);have hfz:∀o u,H0 a=some (.dK vs)->H a≠some (.frz o u):=fun o u z q=>by
   have:=(P0.pure rfl).2.2 a _ q;rw[z]at this;cases this
  rcases F1 with⟨ob,hd0,rfl⟩|rfl
  ·have E1:=P0.env0.frzd (ob:=ob) hd0 naR;refine nX (p:=true) hc hd hz hl (Post.refl E1) wk hD h2 fun v H' R' F P o=>?_;rw[zaG]at P;obtain⟨g1,g2⟩:=P.thw hd0 naR;exact .inr ⟨a,ob,vs,g1,fun o u=>hfz o u hd0,k v _ R' F (by have:=P0.after g2;rw[zaG]at this;exact this) (Ow.thw g1 _ o)⟩
  ·refine nX (p:=true) hc hd hz hl P0 wk hD h2 fun v H' R' F P o=>?_;rw[zaG]at P;exact .inl (k v H' R' F P o)
 |_=>cases h1
def sZ{elt iter:Expr}{ifs:List Expr}{scope:Scope}{ns:List Str}{pos':Pos}(hK:X.K=K)(hN:X.N.Nodup)(hi':X.N[i]?=some x)(hx:X.env.scope.names.lookup x=some .local)(B:BlkOkC X scope ns js)(hc:X.calm=true)(hi:QE X iter (tF K true ds ds 0 f0))(hg:∀C cl s₀ H₀ fp,QG (aX X scope ns C cl s₀ H₀ fp) tg (tFG K lk dsi dsi g))(ht:∀C cl s₀ H₀ fp,QTs (aX X scope ns C cl s₀ H₀ fp) ifs (tFT K q dsi dsi c))(he:∀C cl s₀ H₀ fp,QE (aX X scope ns C cl s₀ H₀ fp) elt (tF K q dsi dsi cd f))(hds:ds.set i d=ds')(xX:gH ds js dsi=true)(hd:dn d=cd)(hz:d≠0)(hlk:lk=gE js 0)(hl:i<ds.length)(hk:i∉J.lk)(hsw:swapsWith (.ListComp elt [⟨tg,iter,ifs,0⟩] scope pos) (some (.Name x pos')) ζ.line X.env=pure true)(hs:∀x,foldedSetIterable iter X.env x=pure x):
  QS X (.Assign [.Name x pos'] (.ListComp elt [⟨tg,iter,ifs,0⟩] scope pos) ζ) (tFS K J ds ds' (aw i (eLC q (iDz f0) g c f js))):=by
 subst hds;exact⟨PS.imp (Cn (qC hN hi' hx B hc (Iv hK hi.h) (fun C cl s₀ H₀ fp=>(hg C cl s₀ H₀ fp).h) (fun C cl s₀ H₀ fp=>(ht C cl s₀ H₀ fp).h) (fun C cl s₀ H₀ fp=>(he C cl s₀ H₀ fp).h) hsw hs)) fun D σ H h=>Kx xX hd hz hlk (sY (p:=q) hl hk h)⟩
end
def vS(bs:List Bool)(ds ds':List Nat):Bool:=ds'.length==ds.length&&(List.range bs.length).all fun s=>!(bs[s]?==some true) || ds'[s]?==ds[s]?
def xo{bs:List Bool}(h:vS bs ds ds'=true):ds'.length=ds.length/\∀s:Nat,bs[s]?=some true->ds'[s]?=ds[s]?:=by
 unfold vS at h;rw[zbk,List.all_eq_true]at h;refine⟨by simpa using h.1,fun s q=>?_⟩
 have:=h.2 s (zbp.mpr (zah.mp q).1);rw[q]at this;simpa using this
def fR{bs:List Bool}{m:MS}(hs:QS X st (tFS K { J with lk:=lk++J.lk } ds0 ds1 m))(hi:ds[i]?=some d)(h0:ds.set i 0=ds0)(h1:ds1.set i d=ds')(hb:oK i bs ds lk=true)(hd:vS bs ds ds'=true):
  QS X st (tFS K J ds ds' (fN bs ds' m)):=by
 obtain⟨hl,hk⟩:=xo hd;refine⟨PS.imp hs.h fun _ _ _=>DM hi h0 h1 ?_ (fun j z=>zbe _ z) hk hl⟩;unfold oK at hb ⊢;rw[zbk,List.all_eq_true]at hb ⊢;refine⟨hb.1,fun s hs=>?_⟩
 have:=hb.2 s hs;rw[Bool.or_eq_true,zbk]at this ⊢;refine this.imp id fun z=>⟨?_,z.2⟩;rw[List.contains_iff_mem]at z ⊢;exact zbd _ z.1
section
variable{a:Expr}{Q Q':VK}{ta tb:TE}{rest:List Expr}
def GH(ta tb:TE):TE:=fun σ H Q=>ta σ H fun x H1=>(x=.non/\tb σ H1 Q)\/∃i,x=.int i/\if i=0 then tb σ H1 Q else Q x H1
def Hb(ha:PE X a ta)(hb:PE X (.BoolOp .Or (b::rest) pos) tb):PE X (.BoolOp .Or (a::b::rest) pos) (GH ta tb):=by
 intro ρ s σ H Q I h;refine BoolOp_or (thn (ha ρ s σ H _ I h) fun v s1 ⟨x,H1,I1,r1,q1⟩=>?_);rcases q1 with⟨rfl,q1⟩|⟨i,rfl,q1⟩
 ·cases r1;exact truthy_none (hb ρ _ σ H1 Q I1 q1)
 ·obtain⟨t,rfl⟩:=r1;refine P.truthy_int ?_;by_cases c:i=0
  ·rw[if_pos c]at q1;subst c;exact hb ρ _ σ H1 Q I1 q1
  ·rw[if_neg c]at q1;have e:(i != 0)=true:=by rw[bne_iff_ne];exact c
   rw[e];exact⟨.int i,H1,I1,⟨t,rfl⟩,q1⟩
def qh(f g:ME):ME:=fun en=>(f en).bind fun r=>match r.1 with
 |.none=>g r.2
 |.int i=>if i=0 then g r.2 else some r
 |_=>none
def Ks(h:tF K (p1&&p2) ds ds1 0 (qh f1 f2) σ H Q):GH (tF K p1 ds ds1 0 f1) (tF K p2 ds1 ds1 0 f2) σ H Q:=by
 obtain⟨Ox,en,R,t,en',e,hf,k⟩:=h;unfold qh at hf;obtain⟨⟨t1,en1⟩,h1,hf⟩:=zaa.mp hf;refine⟨Ox,en,R,t1,en1,e,h1,fun v H1 R1 F1 P1 o1=>?_⟩;have go:f2 en1=some (t,en')->tF K p2 ds1 ds1 0 f2 σ H1 Q:=fun hf=>⟨Ox,en1,R1,t,en',P1.env0,hf,fun v2 H2 R2 F2 P2 o2=>k v2 H2 R2 F2 (P1.after P2) o2⟩;cases t1 with
 |none=>exact .inl ⟨o1,go hf⟩
 |int i=>
  refine .inr ⟨i,o1,?_⟩;have hf:(if i=0 then f2 en1 else some (.int i,en1))=some (t,en'):=hf;by_cases c:i=0
  ·rw[if_pos c]at hf ⊢;exact go hf
  ·rw[if_neg c]at hf ⊢;cases hf;exact k _ H1 R1 F1 ⟨P1.env,P1.fx,P1.keep,P1.own,P1.dom,fun hp=>P1.pure (by cases p1<;>simp_all)⟩ o1
 |_=>cases hf
def zP(ha:QE X a (tF K p ds ds1 0 f1))(hb:QE X (.BoolOp .Or (b::rest) pos) (tF K p ds1 ds1 0 f2)):QE X (.BoolOp .Or (a::b::rest) pos) (tF K p ds ds1 0 (qh f1 f2)):=⟨(Hb ha.h hb.h).imp fun _ _ _ h=>Ks (by rw[zbi];exact h)⟩
end
end L2
namespace W13
noncomputable section
variable{k:Nat}
open PySem L2
def top(i:Nat):Stmt:=PySem.Challenge.pw_wordrules_k13_least_ones_are_as_told.main.body.getD i (.Pass ⟨0,0,0,0⟩)
structure Bl(mg:Str->Option Value):Prop where
 abs0:mg "abs"=none
 bool0:mg "bool"=none
 enumerate0:mg "enumerate"=none
 int0:mg "int"=none
 isinstance0:mg "isinstance"=none
 len0:mg "len"=none
 list0:mg "list"=none
 max0:mg "max"=none
 range0:mg "range"=none
 set0:mg "set"=none
 sorted0:mg "sorted"=none
 tuple0:mg "tuple"=none
section
variable{P:Program}{w:World}{K:zbY}{mg:Str->Option Value}{base:Heap}{f:Addr}{fd:FuncData}
abbrev me:Stmt:=top 16
abbrev yq:List Str:=["_law_script","_law_k","_law_cell","_law_far"]
def vB:FnScope yq ["_law_script","_law_k"] (am me):=fsc
def cQ:MS:=(ak (aw 2 (e2 bH (e2 cg (eC (.int 40009)) (aa 1)) (eC (.int 7))))
 (ak (sIf (tV (e2 gtI (eN aZ (ae (aa 0) af)) (eC (.int 0)))) (aw 2 (e2 bH (e2 ixA (aa 0) (e2 bR (aa 1) (eN aZ (ae (aa 0) af)))) (e2 cg (eC (.int 65003)) (e2 jv (aa 1) (eN aZ (ae (aa 0) af)))))) bd)
 (ak (aw 3 (eC (.int 0)))
 (ak (sIf (tV (e2 geI (eN kW (ae (aa 2) af)) (e2 pX (eC (.int 10)) (eC (.int 18))))) (aw 3 (eN kW (ae (aa 2) af))) bd)
 (aS (aV (ae (aa 3) (ae (e2 bR (e2 bH (e2 bH (e2 cg (e2 bR (aa 2) (eC (.int 2147483629))) (eC (.int 48271))) (e2 cg (eC (.int 69621)) (aa 1))) (eC (.int 1))) (eC (.int 2147483647))) af))))))))
def F_law_pen:List D->Option (D×En):=fnF 2 [0,0] cQ
abbrev kY:Stmt:=top 17
abbrev ww:List Str:=["_law_pen_here","_law_many","_law_digit","_law_one"]
def ua:FnScope ww ["_law_pen_here","_law_many"] (am kY):=fsc
def gk:MS:=(ak (sIf (tV (e2 gtI (i9 0 (eC (.int 0))) (eC (.int 0)))) (ak (aw 2 (e2 bR (i9 0 (eC (.int 0))) (aa 1)))
 (ak (gU 0 (eC (.int 0)) (e2 jv (i9 0 (eC (.int 0))) (aa 1)))
 (aS (aa 2)))) bd)
 (ak (aw 3 (e2 bR (e2 bH (e2 cg (i9 0 (eC (.int 1))) (eC (.int 69621))) (eC (.int 11))) (eC (.int 2147483629))))
 (ak (gU 0 (eC (.int 1)) (aa 3))
 (aS (e2 bR (e2 jv (e2 bR (e2 bH (e2 cg (aa 3) (e2 bH (e2 bR (aa 3) (eC (.int 65519))) (eC (.int 3)))) (e2 jv (aa 3) (eC (.int 65519)))) (eC (.int 2147483587))) (eC (.int 64))) (aa 1))))))
def aK:List D->Option (D×En):=fnF 2 [1,0] gk
abbrev ft:Stmt:=top 18
abbrev lj:List Str:=["_law_pen_here","_law_most","_law_signs","_law_many","_law_nones","_law_shape","_law_goes","_law_stand","_law_row","_law_number","_law_there","_law_way","_law_ends"]
def pV:FnScope lj ["_law_pen_here","_law_most","_law_signs"] (am ft):=fsc
def gf:MS:=(ak (aw 10 (aE aK (bo 0 (ae (aa 3) af))))
 (ak (sIf (dv (tV (e2 eqD (aa 5) (eC (.int 1)))) (tV (e2 eqD (aa 9) (eC (.int 0))))) (aw 10 (e2 bR (e2 bH (aa 7) (eC (.int 1))) (aa 3))) bd)
 (ak (sIf (tV (e2 eqD (aa 5) (eC (.int 2)))) (aw 10 (eN vP (ae (eC (.int 0)) (ae (e2 pS (aa 7) (e2 bR (aa 10) (eC (.int 3)))) af)))) bd)
 (ak (sIf (tV (e2 ltI (aE aK (bo 0 (ae (eC (.int 12)) af))) (aa 4))) (aw 10 (eC .none)) bd)
 (b4 (b9 8 (aa 10)))))))
def gc:MS:=(ak (aw 8 (aV af))
 (ak (bq (da (ae (aa 2) af)) (gN 9) gf)
 (b4 (b9 6 (aa 8)))))
def jB:ME:=(eOr (e2 eqD (aa 2) (eC (.int 1))) (l6 (e2 gtI (aa 2) (eC (.int 2))) (e2 eqD (aE aK (bo 1 (ae (aa 2) af))) (eC (.int 0)))))
def fw:MS:=(ak (aw 3 (e2 bH (eC (.int 1)) (aE aK (bo 0 (ae (aa 1) af)))))
 (ak (aw 4 (e2 ixA (aV (ae (eC (.int 0)) (ae (eC (.int 1)) (ae (eC (.int 5)) (ae (eC (.int 9)) af))))) (aE aK (bo 0 (ae (eC (.int 4)) af)))))
 (ak (aw 5 (aE aK (bo 0 (ae (eC (.int 4)) af))))
 (ak (aw 6 (aV af))
 (ak (bq (da (ae (aa 3) af)) (gN 7) gc)
 (ak (aw 11 (aE aK (bo 0 (ae (eC (.int 7)) af))))
 (ak (aw 12 (eLC false (da (ae (aa 3) af)) (gN 0) cY jB [none,some 0,some 11]))
 (ak (sIf (tV (e2 eqD (aa 11) (eC (.int 2)))) (gU 12 (aE aK (bo 0 (ae (aa 3) af))) (eC (.bool true))) bd)
 (aS (iF (ae (aa 12) (ae (aa 6) af))))))))))))
def cu:List D->Option (D×En):=fnF 10 [1,0,0] fw
abbrev iW:Stmt:=top 20
abbrev pJ:List Str:=["_law_machine_here"]
def ub:FnScope pJ ["_law_machine_here"] (am iW):=fsc
def mE:ME:=(eN fP (ae (aa 0) af))
def pN:MS:=(aS (iF (ae (eN fP (ae (e2 ixA (aa 0) (eC (.int 0))) af)) (ae (eLC true (bh (e2 ixA (aa 0) (eC (.int 1)))) (gN 0) cY mE [none]) af))))
def gi:List D->Option (D×En):=fnF 0 [0] pN
abbrev jf:Stmt:=top 10
abbrev tS:List Str:=["ends","kept","parts","stand"]
def rb:FnScope tS ["ends","kept"] (am jf):=fsc
def ka:MS:=(lG 2 (pIx 2 (du 2) (eIf (tV (e2 ixA (aa 0) (aa 3))) (eC (.int 0)) (eC (.int 1)))) (aa 3) (eC (.bool true)))
def mG:MS:=(ak (aw 2 (aV (ae cG (ae cG af))))
 (ak (bq (bh (aa 1)) (gN 3) ka)
 (aS (eMv 2))))
def dW:List D->Option (D×En):=fnF 2 [0,0] mG
abbrev cD:Stmt:=top 11
abbrev im:List Str:=["goes","kept","backs","stand","sign","there"]
def lD:FnScope im ["goes","kept"] (am cD):=fsc
def gj:ME:=cG
def c8:MS:=(sIf (tV (e2 iC (aa 5) (eC .none))) (nK 2 (pIx 2 (du 2) (aa 4)) (aa 5) (aV af) (eS3 (aa 3))) bd)
def ga:MS:=(bq (fQ (ae (e2 ixA (aa 0) (aa 3)) af)) (gT (gsC (gN 4) (gsC (gN 5) gs0))) c8)
def iA:MS:=(ak (aw 2 (eLC true (bh (e2 ixA (aa 0) (eC (.int 0)))) (gN 0) cY gj [none]))
 (ak (bq (bh (aa 1)) (gN 3) ga)
 (aS (aa 2))))
def bV:List D->Option (D×En):=fnF 4 [0,0] iA
abbrev iJ:Stmt:=top 12
abbrev rq:List Str:=["settled","back","part_of","found","there","stand"]
def pU:FnScope rq ["settled","back","part_of"] (am iJ):=fsc
def jA:MS:=(nK 3 (du 3) (e2 cL (aa 2) (aa 5)) (aV af) (aa 5))
def jz:MS:=(bq (bh (ja (aa 1) (aa 4) (aV af))) (gN 5) jA)
def lC:MS:=(ak (aw 3 cG)
 (ak (bq (bh (aa 0)) (gN 4) jz)
 (aS (eMv 3))))
def df:List D->Option (D×En):=fnF 3 [0,0,0] lC
abbrev qt:Stmt:=top 4
abbrev EG:List Str:=["things","marks","thing"]
def yG:FnScope EG ["things"] (am qt):=fsc
def qV:MS:=(bO 1 (aa 2) (eC (.bool true)))
def vj:MS:=(ak (aw 1 cG)
 (ak (bq (bh (aa 0)) (gN 2) qV)
 (aS (eMv 1))))
def gQ:List D->Option (D×En):=fnF 2 [0] vj
abbrev hC:Stmt:=top 13
abbrev nr:List Str:=["parts","part_of","number","leading","moved","staying","new","stand"]
def rY:FnScope nr ["parts","part_of","number","leading"] (am hC):=fsc
def k6:MT:=(tV (e2 dL (aa 0) (aa 1)))
def ly:ME:=(aa 0)
def lu:MS:=(aw 4 (eLC true (iDz (e2 ixA (aa 0) (aa 2))) (gN 0) k6 ly [none,some 5]))
def fu:MS:=(ak (jO 0 (pIx 0 (du 0) (aa 2)) (aa 7))
 (ak (bO 6 (aa 7) (eC (.bool true)))
 (bO 1 (aa 7) (eN aZ (ae (aa 0) af)))))
def nC:MS:=(ak (aw 4 (aa 3))
 (ak (sIf (tV (e2 gtI (e2 cg (eN aZ (ae (aa 3) af)) (eC (.int 2))) (eN rH (ae (e2 ixA (aa 0) (aa 2)) af)))) (ak (aw 5 (aE gQ (ae (aa 3) af)))
 (fN [true,false,true,true,false,true,true,false] [2,1,0,0,1,0,0,0] lu)) bd)
 (ak (aw 6 cG)
 (ak (bq (bh (aa 4)) (gN 7) fu)
 (b4 (b9 0 (eMv 6)))))))
def e8:List D->Option (D×En):=fnF 4 [2,1,0,0] nC
abbrev fF:Stmt:=top 9
abbrev on:List Str:=["machine","kept","parts","part_of","number","part","stand","backs","unsettled","settled","back","found","leading"]
def m3:FnScope on ["machine","kept"] (am fF):=fsc
def ir:MS:=(bO 3 (aa 6) (aa 4))
def iq:MS:=(bq (iDz (aa 5)) (gN 6) ir)
def dR:MS:=(bq (fQ (ae (aa 2) af)) (gT (gsC (gN 4) (gsC (gN 5) gs0))) iq)
def ip:MS:=(aw 9 (eN sJ (ae (e2 ixA (aa 2) (i8 8)) af)))
def io:MS:=(aw 11 (aE df (ae (aa 9) (ae (aa 10) (ae (aa 3) af)))))
def dQ:MS:=(sIf (tV (e2 ltI (eN aZ (ae (aa 12) af)) (eN rH (ae (e2 ixA (aa 2) (aa 4)) af)))) (ak (b4 (b9 8 (eN aZ (ae (aa 2) af))))
 (b4 (aE e8 (bo 2 (bo 3 (ae (aa 4) (ae (aa 12) af))))))) bd)
def dP:MS:=(ak (fN [true,true,false,true,true,true,true,true,false,true,true,false,true] [0,0,2,1,0,0,0,0,1,0,0,2,0] io)
 (bq (iDm true 11) (gT (gsC (gN 4) (gsC (gN 12) gs0))) dQ))
def dO:MS:=(ak (fN [true,true,true,false,true,true,true,true,false,false,true,true,true] [0,0,2,1,0,0,0,0,1,1,0,0,0] ip)
 (bq (bh (aa 7)) (gN 10) dP))
def dN:MT:=(tV (e2 gtI (eN aZ (ae (aa 8) af)) (eC (.int 0))))
def jj:MS:=(ak (aw 2 (aE dW (ae (e2 ixA (aa 0) (eC (.int 0))) (ae (aa 1) af))))
 (ak (aw 3 cG)
 (ak (fN [true,true,true,false,false,false,false,true,true,true,true,true,true] [0,0,2,1,0,0,0,0,0,0,0,0,0] dR)
 (ak (aw 7 (aE bV (ae (e2 ixA (aa 0) (eC (.int 1))) (ae (aa 1) af))))
 (ak (aw 8 (eN mO (ae (eN aZ (ae (aa 2) af)) af)))
 (ak (b6 dN dO)
 (aS (aa 3))))))))
def cc:List D->Option (D×En):=fnF 11 [0,0] jj
abbrev jy:Stmt:=top 14
abbrev qU:List Str:=["machine","part_of","numbers","firsts","goes","stand","ways","there"]
def vA:FnScope qU ["machine","part_of"] (am jy):=fsc
def dg:MS:=(ak (sIf (tV (e2 kS (aa 7) (aa 1))) (ak (b4 (b9 6 (eC .none)))
 oF) bd)
 (ak (sIf (tV (e2 kS (e2 cL (aa 1) (aa 7)) (aa 2))) (ak (bO 2 (e2 cL (aa 1) (aa 7)) (eN aZ (ae (aa 3) af)))
 (b4 (b9 3 (aa 7)))) bd)
 (b4 (b9 6 (dJ 2 (e2 cL (aa 1) (aa 7)))))))
def ny:MS:=(ak (aw 5 (i9 3 (eN aZ (ae (aa 4) af))))
 (ak (aw 6 (aV af))
 (ak (bq (bh (e2 ixA (e2 ixA (aa 0) (eC (.int 1))) (aa 5))) (gN 7) dg)
 (b4 (b9 4 (aa 6))))))
def jH:MT:=(tV (e2 ltI (eN aZ (ae (aa 4) af)) (eN aZ (ae (aa 3) af))))
def nB:ME:=(e2 ixA (e2 ixA (aa 1) (eC (.int 0))) (aa 0))
def qX:MS:=(ak (aw 2 (jw [((eS3 (e2 cL (aa 1) (eC (.int 0)))),(eC (.int 0)))]))
 (ak (aw 3 (aV (ae (eC (.int 0)) af)))
 (ak (aw 4 (aV af))
 (ak (b6 jH ny)
 (aS (iF (ae (eLC true (bh (aa 3)) (gN 0) cY nB [none,some 0]) (ae (aa 4) af))))))))
def iw:List D->Option (D×En):=fnF 6 [0,0] qX
abbrev oh:Stmt:=top 5
abbrev Aj:List Str:=["first","goes","seen","ahead","here","there"]
def wV:FnScope Aj ["first","goes"] (am oh):=fsc
def gb:MS:=(sIf (dv (tV (e2 iC (aa 5) (eC .none))) (tV (e2 dL (aa 5) (aa 2)))) (ak (bO 2 (aa 5) (eC (.bool true)))
 (b4 (b9 3 (aa 5)))) bd)
def pK:MS:=(ak (aw 4 (i8 3))
 (bq (bh (e2 ixA (aa 1) (aa 4))) (gN 5) gb))
def kX:MT:=(tV (e2 gtI (eN aZ (ae (aa 3) af)) (eC (.int 0))))
def t8:MS:=(ak (aw 2 (aE gQ (ae (aa 0) af)))
 (ak (aw 3 (eN fP (ae (aa 0) af)))
 (ak (b6 kX pK)
 (aS (eN rR (ae (aa 2) af))))))
def fG:List D->Option (D×En):=fnF 4 [0,0] t8
abbrev iV:Stmt:=top 3
abbrev pI:List Str:=["goes","backs","stand","ways","there"]
def t9:FnScope pI ["goes"] (am iV):=fsc
def mC:ME:=(aV af)
def jh:MS:=(sIf (tV (e2 iC (aa 4) (eC .none))) (b4 (jx 1 (pIx 1 (du 1) (aa 4)) (aa 2))) bd)
def mw:MS:=(bq (bh (aa 3)) (gN 4) jh)
def pM:MS:=(ak (aw 1 (eLC true (bh (aa 0)) (gN 0) cY mC [none]))
 (ak (bq (fQ (ae (aa 0) af)) (gT (gsC (gN 2) (gsC (gN 3) gs0))) mw)
 (aS (aa 1))))
def gh:List D->Option (D×En):=fnF 4 [0] pM
abbrev pD:Stmt:=top 2
abbrev yo:List Str:=["machine","ends"]
def CV:FnScope yo ["machine"] (am pD):=fsc
def tQ:MT:=(tV (e2 ixA (aa 1) (aa 0)))
def t7:ME:=(aa 0)
def yu:MS:=(ak (aw 1 (e2 ixA (aa 0) (eC (.int 0))))
 (aS (aE fG (ae (eLC true (da (ae (eN aZ (ae (aa 1) af)) af)) (gN 0) tQ t7 [none,some 1]) (ae (aE gh (ae (e2 ixA (aa 0) (eC (.int 1))) af)) af)))))
def mB:List D->Option (D×En):=fnF 1 [0] yu
abbrev Ah:Stmt:=top 1
abbrev Lj:List Str:=["machine"]
def Jx:FnScope Lj ["machine"] (am Ah):=fsc
def Ju:MS:=(aS (aE fG (ae (aV (ae (eC (.int 0)) af)) (ae (e2 ixA (aa 0) (eC (.int 1))) af))))
def tY:List D->Option (D×En):=fnF 0 [0] Ju
abbrev fX:Stmt:=top 8
abbrev mo:List Str:=["machine","living"]
def qZ:FnScope mo ["machine"] (am fX):=fsc
def j6:MT:=(tV (e2 dIn (aa 0) (aa 1)))
def kf:ME:=(aa 0)
def mF:MS:=(ak (aw 1 (aE gQ (ae (aE mB (ae (aa 0) af)) af)))
 (aS (eLC true (bh (aE tY (ae (aa 0) af))) (gN 0) j6 kf [none,some 1])))
def dU:List D->Option (D×En):=fnF 1 [0] mF
abbrev pC:Stmt:=top 7
abbrev yn:List Str:=["machine","part_of"]
def CU:FnScope yn ["machine"] (am pC):=fsc
def tZ:ME:=(eC .none)
def yt:MS:=(ak (aw 1 (aE cc (ae (aa 0) (ae (aE dU (ae (aa 0) af)) af))))
 (ak (sIf (tV (e2 dL (eC (.int 0)) (aa 1))) (aS (iF (ae (aV (ae (eC (.bool false)) af)) (ae (aV (ae (eLC true (bh (e2 ixA (e2 ixA (aa 0) (eC (.int 1))) (eC (.int 0)))) (gN 0) cY tZ [none]) af)) af)))) bd)
 (aS (aE iw (ae (aa 0) (ae (aa 1) af))))))
def mz:List D->Option (D×En):=fnF 1 [0] yt
abbrev jI:Stmt:=top 19
abbrev uw:List Str:=["_law_thing"]
def rZ:FnScope uw ["_law_thing"] (am jI):=fsc
def nE:MS:=(aS (l6 (e1 (fy "int") (aa 0)) (qi (e1 (fy "bool") (aa 0)))))
def e9:List D->Option (D×En):=fnF 0 [0] nE
abbrev cM:Stmt:=top 22
abbrev fZ:List Str:=["_law_found","_law_signs","_law_ends","_law_goes","_law_row"]
def rg:FnScope fZ ["_law_found","_law_signs"] (am cM):=fsc
def j7:MT:=(fU (tV (e1 (fy "bool") (aa 0))))
def gS:ME:=(aa 0)
def gM:MT:=(dv (tV (e2 iC (aa 0) (eC .none))) (fU (tV (aE e9 (ae (aa 0) af)))))
def gL:MT:=(dv (tV (e2 iC (aa 0) (eC .none))) (fU (tV (jW leI ltI (eC (.int 0)) (aa 0) (eN aZ (ae (aa 1) af))))))
def kd:MS:=(ak (sIf (bOr (fU (tV (e1 (fy "list") (aa 4)))) (tV (e2 neD (eN aZ (ae (aa 4) af)) (aa 1)))) (aS (eC (.bool false))) bd)
 (ak (sIf (tV (e2 neD (eLC true (bh (aa 4)) (gN 0) gM gS [none]) (aV af))) (aS (eC (.bool false))) bd)
 (sIf (tV (e2 neD (eLC true (bh (aa 4)) (gN 0) gL gS [none,some 2]) (aV af))) (aS (eC (.bool false))) bd)))
def mI:MS:=(ak (sIf (bOr (fU (tV (e1 (fy "tuple") (aa 0)))) (bOr (tV (e2 neD (eN aZ (ae (aa 0) af)) (eC (.int 2)))) (fU (tV (e1 (fy "list") (e2 ixA (aa 0) (eC (.int 0)))))))) (aS (eC (.bool false))) bd)
 (ak (nL (aa 0) (gT (gsC (gN 2) (gsC (gN 3) gs0))))
 (ak (sIf (bOr (fU (tV (e1 (fy "list") (aa 3)))) (tV (e2 neD (eN aZ (ae (aa 3) af)) (eN aZ (ae (aa 2) af))))) (aS (eC (.bool false))) bd)
 (ak (sIf (tV (e2 neD (eLC true (bh (aa 2)) (gN 0) j7 gS [none]) (aV af))) (aS (eC (.bool false))) bd)
 (ak (bq (bh (aa 3)) (gN 4) kd)
 (aS (e2 gtI (eN aZ (ae (aa 2) af)) (eC (.int 0)))))))))
def dY:List D->Option (D×En):=fnF 3 [0,0] mI
abbrev kZ:Stmt:=top 23
abbrev wx:List Str:=["_law_machine_here","_law_found","_law_at","_law_there"]
def uc:FnScope wx ["_law_machine_here"] (am kZ):=fsc
def gg:MS:=(sIf (dv (tV (e2 iC (aa 3) (eC .none))) (tV (e2 sC (aa 3) (aa 1)))) (b4 (b9 1 (aa 3))) bd)
def mx:MS:=(ak (bq (bh (e2 ixA (e2 ixA (aa 0) (eC (.int 1))) (i9 1 (aa 2)))) (gN 3) gg)
 (aw 2 (e2 bH (aa 2) (eC (.int 1)))))
def je:MT:=(tV (e2 ltI (aa 2) (eN aZ (ae (aa 1) af))))
def pO:MS:=(ak (aw 1 (aV (ae (eC (.int 0)) af)))
 (ak (aw 2 (eC (.int 0)))
 (ak (b6 je mx)
 (aS (aa 1)))))
def eK:List D->Option (D×En):=fnF 3 [0] pO
abbrev fY:Stmt:=top 24
abbrev mq:List Str:=["_law_machine_here","_law_found","_law_more","_law_ahead","_law_stand","_law_row"]
def re:FnScope mq ["_law_machine_here"] (am fY):=fsc
def kc:MS:=(aw 3 (eN fP (ae (aa 1) af)))
def gK:MT:=(dv (tV (e2 iC (aa 0) (eC .none))) (tV (e2 ixA (aa 1) (aa 0))))
def kh:ME:=(aa 0)
def gP:MS:=(sIf (tV (e2 neD (eLC true (bh (aa 5)) (gN 0) gK kh [none,some 3]) (aV af))) (gU 1 (aa 4) (eC (.bool true))) bd)
def kb:MS:=(ak (fN [true,true,true,false,true,true] [0,1,0,1,0,0] kc)
 (ak (bq (fQ (ae (e2 ixA (aa 0) (eC (.int 1))) af)) (gT (gsC (gN 4) (gsC (gN 5) gs0))) gP)
 (aw 2 (e2 neD (aa 1) (aa 3)))))
def gJ:MT:=(tV (aa 2))
def mH:MS:=(ak (aw 1 (eN fP (ae (e2 ixA (aa 0) (eC (.int 0))) af)))
 (ak (aw 2 (eC (.bool true)))
 (ak (b6 gJ kb)
 (aS (aa 1)))))
def dX:List D->Option (D×En):=fnF 5 [0] mH
abbrev bN:Stmt:=top 25
abbrev c7:List Str:=["_law_machine_here","_law_ends","_law_goes","_law_signs","_law_turn","_law_keys","_law_k","_law_row"]
def m4:FnScope c7 ["_law_machine_here"] (am bN):=fsc
def iz:ME:=(eN qf (ae (aa 0) af))
def cE:ME:=(e2 ixA (aV (ae (e1 yZ (eC (.int 1))) (ae (e2 ixA (aa 1) (qh (aa 0) (eC (.int 0)))) af))) (eN qf (ae (e2 iC (aa 0) (eC .none)) af)))
def iu:MS:=(b4 (b9 5 (e2 wu (aV (ae (e2 ixA (aa 3) (aa 6)) af)) (eLC true (bh (aa 7)) (gN 0) cY cE [none,some 3]))))
def iy:ME:=(e2 gu (aa 1) (aa 0))
def dS:MS:=(ak (aw 5 (aV af))
 (ak (bq (fQ (ae (aa 2) af)) (gT (gsC (gN 6) (gsC (gN 7) gs0))) iu)
 (aw 3 (eLC true (bh (aa 5)) (gN 0) cY iy [none,some 5]))))
def jm:MS:=(ak (nL (aa 0) (gT (gsC (gN 1) (gsC (gN 2) gs0))))
 (ak (aw 3 (eLC true (bh (aa 1)) (gN 0) cY iz [none]))
 (ak (bq (da (ae (eN aZ (ae (aa 1) af)) af)) (gN 4) dS)
 (aS (e2 eqD (e1 qa (aa 3)) (eN aZ (ae (aa 1) af)))))))
def ce:List D->Option (D×En):=fnF 7 [0] jm
abbrev hV:Stmt:=top 26
abbrev nw:List Str:=["_law_machine_here","_law_signs","_law_handed","_law_found"]
def r6:FnScope nw ["_law_machine_here"] (am hV):=fsc
def iI:MT:=(tV (e2 ixA (e2 ixA (aa 1) (eC (.int 0))) (aa 0)))
def iM:ME:=(aa 0)
def nF:MS:=(ak (aw 1 (eN aZ (ae (e2 ixA (e2 ixA (aa 0) (eC (.int 1))) (eC (.int 0))) af)))
 (ak (aw 2 (aE gi (ae (aa 0) af)))
 (ak (aw 3 (aE mz (ae (aa 2) af)))
 (ak (sIf (bOr (fU (tV (aE dY (ae (aa 3) (ae (aa 1) af))))) (tV (e2 neD (aa 2) (aa 0)))) (aS (eC (.bool false))) bd)
 (ak (sIf (tV (e2 eqD (eLC true (bh (aE eK (ae (aa 0) af))) (gN 0) iI iM [none,some 0]) (aV af))) (aS (e2 eqD (aa 3) (iF (ae (aV (ae (eC (.bool false)) af)) (ae (aV (ae (e2 y0 (aV (ae (eC .none) af)) (aa 1)) af)) af))))) bd)
 (ak (sIf (bOr (tV (e2 neD (aE eK (ae (aa 3) af)) (eN mO (ae (eN aZ (ae (e2 ixA (aa 3) (eC (.int 0))) af)) af)))) (bOr (tV (e2 inL (eC (.bool false)) (aE dX (ae (aa 3) af)))) (fU (tV (aE ce (ae (aa 3) af)))))) (aS (eC (.bool false))) bd)
 (aS (e2 eqD (e2 ixA (e2 ixA (aa 3) (eC (.int 0))) (eC (.int 0))) (e2 ixA (e2 ixA (aa 0) (eC (.int 0))) (eC (.int 0)))))))))))
def dh:List D->Option (D×En):=fnF 3 [0] nF
abbrev e7:Stmt:=top 21
abbrev jJ:List Str:=["_law_pen_here","_law_machine_here","_law_times","_law_many","_law_spots","_law_k","_law_places","_law_goes","_law_row","_law_there"]
def r8:FnScope jJ ["_law_pen_here","_law_machine_here","_law_times"] (am e7):=fsc
def lx:MS:=(b4 (qj 4 (e2 bH (eC (.int 1)) (aE aK (bo 0 (ae (eN aZ (ae (aa 4) af)) af)))) (aa 5)))
def lB:ME:=(e2 gu (aa 1) (aa 0))
def iK:MS:=(ak (sIf (tV (e2 iC (aa 9) (eC .none))) (aw 9 (e2 ixA (aa 6) (e2 bH (aa 9) (e2 cg (aa 3) (aE aK (bo 0 (ae (aa 2) af))))))) bd)
 (b4 (b9 8 (aa 9))))
def lw:MS:=(ak (aw 8 (aV af))
 (ak (bq (bh (e2 ixA (e2 ixA (aa 1) (eC (.int 1))) (e2 bR (aa 5) (aa 3)))) (gN 9) iK)
 (b4 (b9 7 (aa 8)))))
def lz:ME:=(e2 ixA (e2 ixA (aa 1) (eC (.int 0))) (e2 bR (aa 0) (aa 2)))
def nG:MS:=(ak (aw 3 (eN aZ (ae (e2 ixA (aa 1) (eC (.int 0))) af)))
 (ak (aw 4 (aV (ae (eC (.int 0)) af)))
 (ak (bq (lX (ae (eC (.int 1)) (ae (e2 cg (aa 3) (aa 2)) af))) (gN 5) lx)
 (ak (aw 6 (eLC true (da (ae (e2 cg (aa 3) (aa 2)) af)) (gN 0) cY lB [none,some 4]))
 (ak (aw 7 (aV af))
 (ak (bq (bh (aa 4)) (gN 5) lw)
 (aS (iF (ae (eLC true (bh (aa 4)) (gN 0) cY lz [none,some 1,some 3]) (ae (aa 7) af))))))))))
def fc:List D->Option (D×En):=fnF 7 [1,0,0] nG
abbrev om:Stmt:=top 27
abbrev Lk:List Str:=["_law_script","_law_pen_here","_law_machine_here","_law_times"]
def Jy:FnScope Lk ["_law_script"] (am om):=fsc
def Jv:MS:=(ak (aw 1 (aE F_law_pen (ae (aa 0) (ae (eC (.int 0)) af))))
 (ak (aw 2 (aE cu (bo 1 (ae (eC (.int 12)) (ae (e2 bH (eC (.int 1)) (aE aK (bo 1 (ae (eC (.int 12)) af)))) af)))))
 (ak (aw 3 (e2 ixA (aV (ae (eC (.int 1)) (ae (eC (.int 1)) (ae (eC (.int 2)) (ae (eC (.int 3)) af))))) (aE aK (bo 1 (ae (eC (.int 4)) af)))))
 (aS (l6 (aE dh (ae (aE fc (ae (aE F_law_pen (ae (aa 0) (ae (eC (.int 1)) af))) (ae (aa 2) (ae (aa 3) af)))) af)) (aE dh (ae (aa 2) af)))))))
def wB:List D->Option (D×En):=fnF 3 [0] Jv
section
variable(P:Program)(w:World)(K:zbY)(mg:Str->Option Value)(base:Heap)(k:Nat)
abbrev hW:Prop:=Kn P w K mg base k "_law_take" ["_law_pen_here","_law_many"] (spF K [1,0] 0 aK)
abbrev k4:Prop:=Kn P w K mg base k "marked" ["things"] (spF K [0] 1 gQ)
abbrev k8:Prop:=Kn P w K mg base k "first_parts" ["ends","kept"] (spF K [0,0] 2 dW)
abbrev gn:Prop:=Kn P w K mg base k "ways_back_by_sign" ["goes","kept"] (spF K [0,0] 0 bV)
abbrev j8:Prop:=Kn P w K mg base k "leading_into" ["settled","back","part_of"] (spF K [0,0,0] 2 df)
abbrev mf:Prop:=Kn P w K mg base k "split_part" ["parts","part_of","number","leading"] (spF K [2,1,0,0] 3 e8)
abbrev mh:Prop:=Kn P w K mg base k "reached" ["first","goes"] (spF K [0,0] 1 fG)
abbrev nh:Prop:=Kn P w K mg base k "ways_back" ["goes"] (spF K [0] 0 gh)
abbrev vh:Prop:=Kn P w K mg base k "alive" ["machine"] (spF K [0] 1 mB)
abbrev CG:Prop:=Kn P w K mg base k "met" ["machine"] (spF K [0] 1 tY)
abbrev iN:Prop:=Kn P w K mg base k "parts_of_stands" ["machine","kept"] (spF K [0,0] 0 cc)
abbrev pE:Prop:=Kn P w K mg base k "numbered" ["machine","part_of"] (spF K [0,0] 0 iw)
abbrev k7:Prop:=Kn P w K mg base k "kept_stands" ["machine"] (spF K [0] 1 dU)
abbrev mi:Prop:=Kn P w K mg base k "_law_whole" ["_law_thing"] (spF K [0] 3 e9)
abbrev nj:Prop:=Kn P w K mg base k "_law_copy" ["_law_machine_here"] (spF K [0] 2 gi)
abbrev vg:Prop:=Kn P w K mg base k "least" ["machine"] (spF K [0] 0 mz)
abbrev lh:Prop:=Kn P w K mg base k "_law_formed" ["_law_found","_law_signs"] (spF K [0,0] 3 dY)
abbrev no:Prop:=Kn P w K mg base k "_law_come" ["_law_machine_here"] (spF K [0] 0 eK)
abbrev k9:Prop:=Kn P w K mg base k "_law_living" ["_law_machine_here"] (spF K [0] 0 dX)
abbrev iO:Prop:=Kn P w K mg base k "_law_all_unlike" ["_law_machine_here"] (spF K [0] 3 ce)
abbrev pF:Prop:=Kn P w K mg base k "_law_pen" ["_law_script","_law_k"] (spF K [0,0] 1 F_law_pen)
abbrev j9:Prop:=Kn P w K mg base k "_law_machine" ["_law_pen_here","_law_most","_law_signs"] (spF K [1,0,0] 0 cu)
abbrev mj:Prop:=Kn P w K mg base k "_law_right" ["_law_machine_here"] (spF K [0] 3 dh)
abbrev mn:Prop:=Kn P w K mg base k "_law_blown" ["_law_pen_here","_law_machine_here","_law_times"] (spF K [1,0,0] 0 fc)
end
def vK(T:Bl mg)(F:Fun K "_law_pen" "_law_pen" me f fd):FnOk P w K mg base CX0 (k+1) f fd ["_law_script","_law_k"] (spF K [0,0] 1 F_law_pen):=
 F.okR vB ⟨[],[0,0,0,0],1,[]⟩ [0,0,0,0] fun nd _ _ _ _ _ _ hr=>(ad (aU 2 [0,0,0,0] nd (fs0 (aD cJ (aD eX ah (fv 1)) ah))) (ad (aR (ds2:=[0,0,0,0]) (aT kM (fln rfl T.len0 (fac (fv 0) ac)) ah (a9 _)) (ar (aU 2 [0,0,0,0] nd (fs0 (aD cJ (bc (bF (K:=K) rfl) (fv 0) (aD db (fv 1) (fln rfl T.len0 (fac (fv 0) ac))) (fun _ _=>rfl)) (aD eX ah (aD mU (fv 1) (fln rfl T.len0 (fac (fv 0) ac)))))))) aJ) (ad (aU 3 [0,0,0,0] nd (fs0 ah)) (ad (aR (ds2:=[0,0,0,0]) (aT J7 (fcb xP T.abs0 (by decide +kernel) (fac (fv 2) ac)) (aD Ip ah ah) (a9 _)) (ar (aU 3 [0,0,0,0] nd (fs0 (fcb xP T.abs0 (by decide +kernel) (fac (fv 2) ac))))) aJ) (frt (aI (d:=1) (c:=0) (fac (fv 3) (fac (aD db (aD cJ (aD cJ (aD eX (aD db (fv 2) ah) ah) (aD eX ah (fv 1))) ah) ah) ac)) rfl rfl (by decide)))))))
def uh(T:Bl mg)(F:Fun K "_law_take" "_law_take" kY f fd):FnOk P w K mg base CX0 (k+1) f fd ["_law_pen_here","_law_many"] (spF K [1,0] 0 aK):=
 F.okR ua ⟨[0],[1,0,0,0],0,[]⟩ [1,0,0,0] fun nd _ _ _ _ _ _ hr=>(ad (aR (ds2:=[1,0,0,0]) (aT kM (gA (K:=K) (i:=0) rfl rfl (.inl rfl) rfl ah (fun _ _=>rfl) rfl rfl) ah (a9 _)) (ad (aU 2 [1,0,0,0] nd (fs0 (aD db (gA (K:=K) (i:=0) rfl rfl (.inl rfl) rfl ah (fun _ _=>rfl) rfl rfl) (fv 1)))) (ad (iU (i:=0) (d:=1) (c:=0) rfl (.inl rfl) (fs0 (aD mU (gA (K:=K) (i:=0) rfl rfl (.inl rfl) rfl ah (fun _ _=>rfl) rfl rfl) (fv 1))) ah rfl (by decide) rfl rfl rfl (fun _=>rfl) rfl rfl rfl) (frt (fv 2)))) aJ) (ad (aU 3 [1,0,0,0] nd (fs0 (aD db (aD cJ (aD eX (gA (K:=K) (i:=0) rfl rfl (.inl rfl) rfl ah (fun _ _=>rfl) rfl rfl) ah) ah) ah))) (ad (iU (i:=0) (d:=1) (c:=0) rfl (.inl rfl) (fv 3) ah rfl (by decide) rfl rfl rfl (fun _=>rfl) rfl rfl rfl) (frt (fs0 (aD db (aD mU (aD db (aD cJ (aD eX (fv 3) (aD cJ (aD db (fv 3) ah) ah)) (aD mU (fv 3) ah)) ah) ah) (fv 1)))))))
def pZ(T:Bl mg)(bp:hW P w K mg base k)(F:Fun K "_law_machine" "_law_machine" ft f fd):FnOk P w K mg base CX0 (k+1) f fd ["_law_pen_here","_law_most","_law_signs"] (spF K [1,0,0] 0 cu):=
 F.okR pV ⟨[0],[1,0,0,0,0,0,0,0,0,0,0,0,0],0,[]⟩ [1,0,0,0,0,0,0,0,0,0,0,0,0] fun nd _ _ _ _ _ _ hr=>(ad (aU 3 [1,0,0,0,0,0,0,0,0,0,0,0,0] nd (fs0 (aD cJ ah (fns bp hr (lZ 0 (fac (fv 1) ac)))))) (ad (aU 4 [1,0,0,0,0,0,0,0,0,0,0,0,0] nd (bc (bF (K:=K) rfl) (aI (d:=3) (c:=3) (fac ah (fac ah (fac ah (fac ah ac)))) rfl rfl (by decide)) (fns bp hr (lZ 0 (fac (fs0 ah) ac))) (fun _ _=>rfl))) (ad (aU 5 [1,0,0,0,0,0,0,0,0,0,0,0,0] nd (fns bp hr (lZ 0 (fac (fs0 ah) ac)))) (ad (aU 6 [1,0,0,0,0,0,1,0,0,0,0,0,0] nd (bg (d':=1) (aI (d:=3) (c:=3) ac rfl rfl (by decide)) (by decide))) (ad (aP (ds1:=[1,0,0,0,0,0,1,0,0,0,0,0,0]) rfl (fL rfl T.range0 (fac (fv 3) ac) rfl) (fgn 7 [1,0,0,0,0,0,1,0,0,0,0,0,0] nd) (ad (aU 8 [1,0,0,0,0,0,1,0,1,0,0,0,0] nd (bg (d':=1) (aI (d:=3) (c:=3) ac rfl rfl (by decide)) (by decide))) (ad (aP (ds1:=[1,0,0,0,0,0,1,0,1,0,0,0,0]) rfl (fL rfl T.range0 (fac (fv 2) ac) rfl) (fgn 9 [1,0,0,0,0,0,1,0,1,0,0,0,0] nd) (ad (aU 10 [1,0,0,0,0,0,1,0,1,0,0,0,0] nd (fns bp hr (lZ 0 (fac (fv 3) ac)))) (ad (aR (ds2:=[1,0,0,0,0,0,1,0,1,0,0,0,0]) (qpt (gx (fte rfl hr.units (fv 5) ah) (fJ (fte rfl hr.units (fv 9) ah)))) (ar (aU 10 [1,0,0,0,0,0,1,0,1,0,0,0,0] nd (fs0 (aD db (aD cJ (fv 7) ah) (fv 3))))) aJ) (ad (aR (ds2:=[1,0,0,0,0,0,1,0,1,0,0,0,0]) (fte rfl hr.units (fv 5) ah) (ar (aU 10 [1,0,0,0,0,0,1,0,1,0,0,0,0] nd (fs0 (fcb (D2 rfl) T.max0 (by decide +kernel) (fac (fs0 ah) (fac (fs0 (aD Io (fv 7) (aD db (fv 10) ah))) ac)))))) aJ) (ad (aR (ds2:=[1,0,0,0,0,0,1,0,1,0,0,0,0]) (aT oY (fns bp hr (lZ 0 (fac (fs0 ah) ac))) (fv 4) (a9 _)) (ar (aU 10 [1,0,0,0,0,0,1,0,1,0,0,0,0] nd (fs0 bL))) aJ) (ar (bm (bM (K:=K) (i:=8) (d:=1) rfl rfl (.inl rfl) rfl (fv 10) (by decide) rfl rfl rfl rfl rfl rfl rfl rfl) rfl)))))) PassesOwn.never (fun _=>rfl)) (ar (bm (bM (K:=K) (i:=6) (d:=1) rfl rfl (.inl rfl) rfl (bG (ds0:=[1,0,0,0,0,0,1,0,0,0,0,0,0]) (bn (p:=false) (i:=8) rfl (.inl rfl) rfl rfl rfl) rfl) (by decide) rfl rfl rfl rfl rfl rfl rfl rfl) rfl)))) PassesOwn.never (fun _=>rfl)) (ad (bT (i:=11) (d:=0) (ds':=[1,0,0,0,0,0,1,0,0,0,0,0,0]) nd rfl (.inr rfl) (fns bp hr (lZ 0 (fac (fs0 ah) ac))) rfl (by decide) (by decide) rfl (.inl rfl)) (ad (fK (ds1:=[1,0,0,0,0,0,1,0,0,0,0,0,1]) (gZ (i:=12) (ds':=[1,0,0,0,0,0,1,0,0,0,0,0,3]) (cd:=3) (d:=3) (dsi:=[0,1,0]) (lk:=[1,2]) nd rfl rfl (BlkOkC.of (ns:=["_law_stand","_law_pen_here","_law_way"]) (js:=[none,some 0,some 11]) (N0:=lj) (sc0:=am ft) rfl rfl (by decide +kernel)) rfl (fL rfl T.range0 (fac (fv 3) ac) rfl) (fun _ _ _ _ _=>(fgn 0 [0,1,0] (ndk ["_law_stand","_law_pen_here","_law_way"]))) (fun _ _ _ _ _=>bS) (fun _ _ _ _ _=>(Ee (cX (mV (K:=K) rfl hr.units) (fvc 2) ah (a9 _)) (i7 (n6 (cX kM (fvc 2) ah (a9 _)) (i7 (cX (mV (K:=K) rfl hr.units) (fns bp hr (lZ 1 (fac (fvc 2) ac))) ah (a9 _))))))) rfl rfl rfl (by decide) rfl (by decide) (by decide) rfl (fun _=>rfl)) rfl) (ad (aR (ds2:=[1,0,0,0,0,0,1,0,0,0,0,0,1]) (fte rfl hr.units (fvc 11) ah) (ar (iU (i:=12) (d:=1) (c:=0) rfl (.inl rfl) (fs0 bv) (fns bp hr (lZ 0 (fac (fv 3) ac))) rfl (by decide) rfl rfl rfl (fun _=>rfl) rfl rfl rfl)) aJ) (frt (gz (d:=0) (c:=0) (fac (bG (ds0:=[1,0,0,0,0,0,1,0,0,0,0,0,0]) (bn (p:=false) (i:=12) rfl (.inl rfl) rfl rfl rfl) rfl) (fac (bG (ds0:=[1,0,0,0,0,0,0,0,0,0,0,0,0]) (bn (p:=false) (i:=6) rfl (.inl rfl) rfl rfl rfl) rfl) ac)) rfl rfl))))))))))
def ui(T:Bl mg)(F:Fun K "_law_copy" "_law_copy" iW f fd):FnOk P w K mg base CX0 (k+1) f fd ["_law_machine_here"] (spF K [0] 2 gi):=
 F.okR ub ⟨[],[0],2,[]⟩ [0] fun nd _ _ _ _ _ _ hr=>(frt (gz (d:=2) (c:=1) (fac (fct (jV (K:=K) rfl rfl) T.list0 (by decide +kernel) (fac (fxi rfl (fv 0)) ac)) (fac (bg (d':=1) (b0 (cd:=1) (d:=2) (dsi:=[0]) (lk:=[]) (BlkOkC.of (ns:=["_law_row"]) (js:=[none]) (N0:=pJ) (sc0:=am iW) rfl rfl (by decide +kernel)) rfl (aN (K:=K) rfl (fxi rfl (fv 0))) (fun _ _ _ _ _=>(fgn 0 [0] (ndk ["_law_row"]))) (fun _ _ _ _ _=>bS) (fun _ _ _ _ _=>(fct (jV (K:=K) rfl rfl) T.list0 (by decide +kernel) (fac (fv 0) ac))) rfl rfl (by decide) rfl (fun _=>rfl)) (by decide)) ac)) rfl rfl))
def rj(T:Bl mg)(F:Fun K "first_parts" "first_parts" jf f fd):FnOk P w K mg base CX0 (k+1) f fd ["ends","kept"] (spF K [0,0] 2 dW):=
 F.okR rb ⟨[],[0,0,0,0],2,[]⟩ [0,0,0,0] fun nd _ _ _ _ _ _ hr=>(ad (aU 2 [0,0,2,0] nd (aI (d:=2) (c:=1) (fac (bg (d':=1) dF (by decide)) (fac (bg (d':=1) dF (by decide)) ac)) rfl rfl (by decide))) (ad (aP (ds1:=[0,0,2,0]) rfl (aN (K:=K) rfl (fv 1)) (fgn 3 [0,0,2,0] nd) (ar (uq (K:=K) (p:=false) (i:=2) (d:=2) (bZ hr) (fs0 bv) (kL (i:=2) (d:=2) rfl rfl (ig (i:=2) rfl (.inl rfl) rfl rfl) (Ef (bC (bc (bF (K:=K) rfl) (fv 0) (fv 3) (fun _ _=>rfl)) (fun _=>rfl)) ah ah) (by decide) (by first|exact .inl rfl|exact .inr rfl) (fun _ _=>rfl)) (fv 3) rfl rfl (.inl rfl) rfl)) PassesOwn.never (fun _=>rfl)) (frt (mW (i:=2) (ds':=[0,0,0,0]) rfl (.inl rfl) rfl rfl rfl rfl))))
def lE(T:Bl mg)(F:Fun K "ways_back_by_sign" "ways_back_by_sign" cD f fd):FnOk P w K mg base CX0 (k+1) f fd ["goes","kept"] (spF K [0,0] 0 bV):=
 F.okR lD ⟨[],[0,0,0,0,0,0],0,[]⟩ [0,0,0,0,0,0] fun nd _ _ _ _ _ _ hr=>(ad (gZ (i:=2) (ds':=[0,0,3,0,0,0]) (cd:=3) (d:=3) (dsi:=[0]) (lk:=[]) nd rfl rfl (BlkOkC.of (ns:=["way"]) (js:=[none]) (N0:=im) (sc0:=am cD) rfl rfl (by decide +kernel)) rfl (aN (K:=K) rfl (fxi rfl (fv 0))) (fun _ _ _ _ _=>(fgn 0 [0] (ndk ["way"]))) (fun _ _ _ _ _=>bS) (fun _ _ _ _ _=>dF) rfl rfl rfl (by decide) rfl (by decide) (by decide) rfl (fun _=>rfl)) (ad (aP (ds1:=[0,0,3,0,0,0]) rfl (aN (K:=K) rfl (fv 1)) (fgn 3 [0,0,3,0,0,0] nd) (ar (aP (ds1:=[0,0,3,0,0,0]) rfl (ij (K:=K) rfl rfl T.enumerate0 (fac (bc (bF (K:=K) rfl) (fv 0) (fv 3) (fun _ _=>rfl)) ac) rfl) (cO (K:=K) rfl rfl (a8 (fgn 4 [0,0,3,0,0,0] nd) (a8 (fgn 5 [0,0,3,0,0,0] nd) cA rfl) rfl) fI rfl rfl) (ar (aR (ds2:=[0,0,3,0,0,0]) (aT eD (fv 5) bL (a9 _)) (ar (qK (K:=K) (i:=2) (d:=3) (c:=3) (c2:=3) rfl (kL (i:=2) (d:=3) rfl rfl (ig (i:=2) rfl (.inl rfl) rfl rfl) (fv 4) (by decide) (by first|exact .inl rfl|exact .inr rfl) (fun _ _=>rfl)) (fv 5) (aI (d:=3) (c:=3) ac rfl rfl (by decide)) (u6 (fv 3)) rfl rfl rfl (by decide) rfl (by decide) rfl ⟨rfl,rfl,rfl,rfl⟩ rfl rfl rfl rfl rfl rfl)) aJ)) PassesOwn.never (fun _=>rfl))) PassesOwn.never (fun _=>rfl)) (frt (bG (ds0:=[0,0,0,0,0,0]) (bn (p:=false) (i:=2) rfl (.inl rfl) rfl rfl rfl) rfl))))
def pY(T:Bl mg)(F:Fun K "leading_into" "leading_into" iJ f fd):FnOk P w K mg base CX0 (k+1) f fd ["settled","back","part_of"] (spF K [0,0,0] 2 df):=
 F.okR pU ⟨[],[0,0,0,0,0,0],2,[]⟩ [0,0,0,0,0,0] fun nd _ _ _ _ _ _ hr=>(ad (aU 3 [0,0,0,2,0,0] nd (bg (d':=2) dF (by decide))) (ad (aP (ds1:=[0,0,0,2,0,0]) rfl (aN (K:=K) rfl (fv 0)) (fgn 4 [0,0,0,2,0,0] nd) (ar (aP (ds1:=[0,0,0,2,0,0]) rfl (aN (K:=K) rfl (wj (K:=K) (bZ hr) (fv 1) (fv 4) (fs0 (aI (d:=3) (c:=3) ac rfl rfl (by decide))) ⟨rfl,rfl,rfl,rfl⟩)) (fgn 5 [0,0,0,2,0,0] nd) (ar (qK (K:=K) (i:=3) (d:=2) (c:=1) (c2:=0) rfl (ig (i:=3) rfl (.inl rfl) rfl rfl) (ik (bZ hr) (fv 2) (fv 5) (fun _ _=>rfl)) (bg (d':=1) (aI (d:=3) (c:=3) ac rfl rfl (by decide)) (by decide)) (fv 5) rfl rfl rfl (by decide) rfl (by decide) rfl ⟨rfl,rfl,rfl,rfl⟩ rfl rfl rfl rfl rfl rfl)) PassesOwn.never (fun _=>rfl))) PassesOwn.never (fun _=>rfl)) (frt (mW (i:=3) (ds':=[0,0,0,0,0,0]) rfl (.inl rfl) rfl rfl rfl rfl))))
def yV(T:Bl mg)(F:Fun K "marked" "marked" qt f fd):FnOk P w K mg base CX0 (k+1) f fd ["things"] (spF K [0] 1 gQ):=
 F.okR yG ⟨[],[0,0,0],1,[]⟩ [0,0,0] fun nd _ _ _ _ _ _ hr=>(ad (aU 1 [0,1,0] nd (bg (d':=1) dF (by decide))) (ad (aP (ds1:=[0,1,0]) rfl (aN (K:=K) rfl (fv 0)) (fgn 2 [0,1,0] nd) (ar (eB (i:=1) (bZ hr) rfl (.inl rfl) (fs0 bv) (fv 2) rfl rfl rfl rfl)) PassesOwn.never (fun _=>rfl)) (frt (mW (i:=1) (ds':=[0,0,0]) rfl (.inl rfl) rfl rfl rfl rfl))))
def sw(T:Bl mg)(ke:k4 P w K mg base k)(F:Fun K "split_part" "split_part" hC f fd):FnOk P w K mg base CX0 (k+1) f fd ["parts","part_of","number","leading"] (spF K [2,1,0,0] 3 e8):=
 F.okR rY ⟨[0,1],[2,1,0,0,0,0,0,0],3,[]⟩ [2,1,0,0,0,0,0,0] fun nd _ _ _ _ _ _ hr=>(ad (aU 4 [2,1,0,0,0,0,0,0] nd (fv 3)) (ad (aR (ds2:=[2,1,0,0,0,0,0,0]) (cz (ds0:=[0,1,0,0,0,0,0,0]) (aT kM (aD eX (fln rfl T.len0 (fac (fv 3) ac)) ah) (fcb (tf (K:=K) rfl) T.len0 (by decide +kernel) (fac (bc (bF (K:=K) rfl) (fv 0) (fv 2) (fun _ _=>rfl)) ac)) (a9 _)) rfl) (ad (bT (i:=5) (d:=0) (ds':=[2,1,0,0,0,0,0,0]) nd rfl (.inr rfl) (fs0 (fnn ke hr (fac (fv 3) ac))) rfl (by decide) (by decide) rfl (.inl rfl)) (ar (fK (ds1:=[2,1,0,0,0,0,0,0]) (fR (K:=K) (i:=0) (d:=2) (lk:=[0,2,3,5,6]) (ds0:=[0,1,0,0,0,0,0,0]) (ds1:=[0,1,0,0,1,0,0,0]) (bs:=[true,false,true,true,false,true,true,false]) (sZ (K:=K) (i:=4) (ds':=[0,1,0,0,1,0,0,0]) (cd:=0) (d:=1) (dsi:=[0,0]) (lk:=[1]) rfl nd rfl rfl (BlkOkC.of (ns:=["stand","staying"]) (js:=[none,some 5]) (N0:=nr) (sc0:=am hC) rfl rfl (by decide +kernel)) rfl (bc (bF (K:=K) rfl) (fv 0) (fv 2) (fun _ _=>rfl)) (fun _ _ _ _ _=>(fgn 0 [0,0] (ndk ["stand","staying"]))) (fun _ _ _ _ _=>(cN (lY (bZ hr) (fv 0) (fvc 1) (by with_unfolding_all rfl)))) (fun _ _ _ _ _=>(fv 0)) rfl rfl rfl (by decide) rfl (by decide) (by decide) rfl (fun _=>rfl)) rfl rfl rfl rfl rfl) rfl))) aJ) (ad (aU 6 [2,1,0,0,0,0,1,0] nd (bg (d':=1) dF (by decide))) (ad (aP (ds1:=[2,1,0,0,0,0,1,0]) rfl (aN (K:=K) rfl (fv 4)) (fgn 7 [2,1,0,0,0,0,1,0] nd) (ad (ur (K:=K) (i:=0) (d:=2) (kL (i:=0) (d:=2) rfl rfl (ig (i:=0) rfl (.inl rfl) rfl rfl) (fv 2) (by decide) (by first|exact .inl rfl|exact .inr rfl) (fun _ _=>rfl)) (fv 7) rfl rfl rfl ⟨rfl,rfl,rfl,rfl⟩ rfl) (ad (eB (i:=6) (bZ hr) rfl (.inl rfl) (fs0 bv) (fv 7) rfl rfl rfl rfl) (ar (eB (i:=1) (bZ hr) rfl (.inl rfl) (fs0 (dG (ds0:=[0,1,0,0,0,0,1,0]) (fln rfl T.len0 (fac (fv 0) ac)) rfl)) (fv 7) rfl rfl rfl rfl)))) PassesOwn.never (fun _=>rfl)) (ar (bm (bM (K:=K) (i:=0) (d:=2) rfl rfl (.inl rfl) rfl (mW (i:=6) (ds':=[2,1,0,0,0,0,0,0]) rfl (.inl rfl) rfl rfl rfl rfl) (by decide) rfl rfl rfl rfl rfl rfl rfl rfl) rfl))))))
def m5(T:Bl mg)(tU:k8 P w K mg base k)(my:gn P w K mg base k)(rA:j8 P w K mg base k)(ux:mf P w K mg base k)(F:Fun K "parts_of_stands" "parts_of_stands" fF f fd):FnOk P w K mg base CX0 (k+1) f fd ["machine","kept"] (spF K [0,0] 0 cc):=
 F.okR m3 ⟨[],[0,0,0,0,0,0,0,0,0,0,0,0,0],0,[]⟩ [0,0,0,0,0,0,0,0,0,0,0,0,0] fun nd _ _ _ _ _ _ hr=>(ad (aU 2 [0,0,2,0,0,0,0,0,0,0,0,0,0] nd (fnn tU hr (fac (fxi rfl (fv 0)) (fac (fv 1) ac)))) (ad (aU 3 [0,0,2,1,0,0,0,0,0,0,0,0,0] nd (bg (d':=1) dF (by decide))) (ad (fR (K:=K) (i:=2) (d:=2) (lk:=[0,1,2,7,8,9,10,11,12]) (ds0:=[0,0,0,1,0,0,0,0,0,0,0,0,0]) (ds1:=[0,0,0,1,0,0,0,0,0,0,0,0,0]) (bs:=[true,true,true,false,false,false,false,true,true,true,true,true,true]) (aP (ds1:=[0,0,0,1,0,0,0,0,0,0,0,0,0]) rfl (ij (K:=K) rfl rfl T.enumerate0 (fac (fv 2) ac) rfl) (cO (K:=K) rfl rfl (a8 (fgn 4 [0,0,0,1,0,0,0,0,0,0,0,0,0] nd) (a8 (fgn 5 [0,0,0,1,0,0,0,0,0,0,0,0,0] nd) cA rfl) rfl) fI rfl rfl) (ar (wd (K:=K) (ds:=[0,0,0,1,0,0,0,0,0,0,0,0,0]) rfl rfl (fv 5) (fgn 6 [0,0,0,1,0,0,0,0,0,0,0,0,0] nd) (ar (eB (i:=3) (bZ hr) rfl (.inl rfl) (fv 4) (fv 6) rfl rfl rfl rfl)) PassesOwn.never (fun _=>rfl))) PassesOwn.never (fun _=>rfl)) rfl rfl rfl rfl rfl) (ad (aU 7 [0,0,2,1,0,0,0,0,0,0,0,0,0] nd (fnn my hr (fac (fxi rfl (fv 0)) (fac (fv 1) ac)))) (ad (aU 8 [0,0,2,1,0,0,0,0,1,0,0,0,0] nd (qN (K:=K) rfl rfl T.list0 rfl T.range0 (fac (fs0 (dG (ds0:=[0,0,0,1,0,0,0,0,0,0,0,0,0]) (fln rfl T.len0 (fac (fv 2) ac)) rfl)) ac) rfl rfl)) (ad (eW (ds:=[0,0,2,1,0,0,0,0,1,0,0,0,0]) (cz (ds0:=[0,0,2,1,0,0,0,0,0,0,0,0,0]) (aT kM (fln rfl T.len0 (fac (fv 8) ac)) ah (a9 _)) rfl) (ad (fK (ds1:=[0,0,2,1,0,0,0,0,1,0,0,0,0]) (fR (K:=K) (i:=2) (d:=2) (lk:=[0,1,2,4,5,6,7,10,11,12]) (ds0:=[0,0,0,1,0,0,0,0,1,0,0,0,0]) (ds1:=[0,0,0,1,0,0,0,0,1,1,0,0,0]) (bs:=[true,true,true,false,true,true,true,true,false,false,true,true,true]) (aU 9 [0,0,0,1,0,0,0,0,1,1,0,0,0] nd (fct (zH (K:=K) rfl rfl) T.list0 (by decide +kernel) (fac (bc (bF (K:=K) rfl) (fv 2) (tm (K:=K) (i:=8) (d:=1) rfl rfl (.inl rfl) rfl (by decide) rfl rfl rfl rfl rfl) (fun _ _=>rfl)) ac))) rfl rfl rfl rfl rfl) rfl) (ar (aP (ds1:=[0,0,2,1,0,0,0,0,1,0,0,0,0]) rfl (aN (K:=K) rfl (fv 7)) (fgn 10 [0,0,2,1,0,0,0,0,1,0,0,0,0] nd) (ad (fR (K:=K) (i:=3) (d:=1) (lk:=[0,1,3,4,5,6,7,9,10,12]) (ds0:=[0,0,2,0,0,0,0,0,1,0,0,0,0]) (ds1:=[0,0,2,0,0,0,0,0,1,0,0,2,0]) (bs:=[true,true,false,true,true,true,true,true,false,true,true,false,true]) (aU 11 [0,0,2,0,0,0,0,0,1,0,0,2,0] nd (fnn rA hr (fac (fv 9) (fac (fv 10) (fac (fv 3) ac))))) rfl rfl rfl rfl rfl) (ar (aP (ds1:=[0,0,2,1,0,0,0,0,1,0,0,0,0]) rfl (D9 (K:=K) (i:=11) (d:=2) true rfl rfl (.inl rfl) rfl (by decide) rfl rfl rfl rfl rfl) (cO (K:=K) rfl rfl (a8 (fgn 4 [0,0,2,1,0,0,0,0,1,0,0,0,0] nd) (a8 (fgn 12 [0,0,2,1,0,0,0,0,1,0,0,0,0] nd) cA rfl) rfl) fI rfl rfl) (ar (aR (ds2:=[0,0,2,1,0,0,0,0,1,0,0,0,0]) (cz (ds0:=[0,0,0,1,0,0,0,0,1,0,0,0,0]) (aT oY (fln rfl T.len0 (fac (fv 12) ac)) (fcb (tf (K:=K) rfl) T.len0 (by decide +kernel) (fac (bc (bF (K:=K) rfl) (fv 2) (fv 4) (fun _ _=>rfl)) ac)) (a9 _)) rfl) (ad (bm (bM (K:=K) (i:=8) (d:=1) rfl rfl (.inl rfl) rfl (fs0 (dG (ds0:=[0,0,0,1,0,0,0,0,1,0,0,0,0]) (fln rfl T.len0 (fac (fv 2) ac)) rfl)) (by decide) rfl rfl rfl rfl rfl rfl rfl rfl) rfl) (ar (bm (fns ux hr (fsl 2 (fsl 3 (fac (fv 4) (fac (fv 12) ac))))) rfl))) aJ)) PassesOwn.never (fun _=>rfl)))) PassesOwn.never (fun _=>rfl)))) PassesOwn.never) (frt (bG (ds0:=[0,0,2,0,0,0,0,0,1,0,0,0,0]) (bn (p:=false) (i:=3) rfl (.inl rfl) rfl rfl rfl) rfl))))))))
def vJ(T:Bl mg)(F:Fun K "numbered" "numbered" jy f fd):FnOk P w K mg base CX0 (k+1) f fd ["machine","part_of"] (spF K [0,0] 0 iw):=
 F.okR vA ⟨[],[0,0,0,0,0,0,0,0],0,[]⟩ [0,0,0,0,0,0,0,0] fun nd _ _ _ _ _ _ hr=>(ad (aU 2 [0,0,1,0,0,0,0,0] nd (xU (fs:=[((eS3 (e2 cL (aa 1) (eC (.int 0)))),(eC (.int 0)))]) (xN (u6 (ik (bZ hr) (fv 1) ah (fun _ _=>rfl))) (fs0 ah) zE) rfl rfl (fun z=>nomatch z) (by decide))) (ad (aU 3 [0,0,1,1,0,0,0,0] nd (bg (d':=1) (aI (d:=3) (c:=3) (fac ah ac) rfl rfl (by decide)) (by decide))) (ad (aU 4 [0,0,1,1,1,0,0,0] nd (bg (d':=1) (aI (d:=3) (c:=3) ac rfl rfl (by decide)) (by decide))) (ad (eW (ds:=[0,0,1,1,1,0,0,0]) (cz (ds0:=[0,0,1,0,0,0,0,0]) (aT oY (fln rfl T.len0 (fac (fv 4) ac)) (fln rfl T.len0 (fac (fv 3) ac)) (a9 _)) rfl) (ad (aU 5 [0,0,1,1,1,0,0,0] nd (gA (K:=K) (i:=3) rfl rfl (.inl rfl) rfl (dG (ds0:=[0,0,1,1,0,0,0,0]) (fln rfl T.len0 (fac (fv 4) ac)) rfl) (fun _ _=>rfl) rfl rfl)) (ad (aU 6 [0,0,1,1,1,0,1,0] nd (bg (d':=1) (aI (d:=3) (c:=3) ac rfl rfl (by decide)) (by decide))) (ad (aP (ds1:=[0,0,1,1,1,0,1,0]) rfl (aN (K:=K) rfl (bc (bF (K:=K) rfl) (fxi rfl (fvc 0)) (fv 5) (fun _ _=>rfl))) (fgn 7 [0,0,1,1,1,0,1,0] nd) (ad (aR (ds2:=[0,0,1,1,1,0,1,0]) (oX (bZ hr) (fv 7) (fv 1) (by with_unfolding_all rfl)) (ad (bm (bM (K:=K) (i:=6) (d:=1) rfl rfl (.inl rfl) rfl (fs0 bL) (by decide) rfl rfl rfl rfl rfl rfl rfl rfl) rfl) (ar (we rfl))) aJ) (ad (aR (ds2:=[0,0,1,1,1,0,1,0]) (cz (ds0:=[0,0,0,1,1,0,1,0]) (oX (bZ hr) (ik (bZ hr) (fv 1) (fv 7) (fun _ _=>rfl)) (fv 2) (by with_unfolding_all rfl)) rfl) (ad (eB (i:=2) (bZ hr) rfl (.inl rfl) (fs0 (dG (ds0:=[0,0,1,0,1,0,1,0]) (fln rfl T.len0 (fac (fv 3) ac)) rfl)) (ik (bZ hr) (fv 1) (fv 7) (fun _ _=>rfl)) rfl rfl rfl rfl) (ar (bm (bM (K:=K) (i:=3) (d:=1) rfl rfl (.inl rfl) rfl (fv 7) (by decide) rfl rfl rfl rfl rfl rfl rfl rfl) rfl))) aJ) (ar (bm (bM (K:=K) (i:=6) (d:=1) rfl rfl (.inl rfl) rfl (wg (i:=2) (bZ hr) rfl (.inl rfl) rfl (ik (bZ hr) (fv 1) (fv 7) (fun _ _=>rfl)) (fun _ _=>rfl) rfl rfl) (by decide) rfl rfl rfl rfl rfl rfl rfl rfl) rfl)))) PassesOwn.never (fun _=>rfl)) (ar (bm (bM (K:=K) (i:=4) (d:=1) rfl rfl (.inl rfl) rfl (bG (ds0:=[0,0,1,1,1,0,0,0]) (bn (p:=false) (i:=6) rfl (.inl rfl) rfl rfl rfl) rfl) (by decide) rfl rfl rfl rfl rfl rfl rfl rfl) rfl))))) PassesOwn.never) (frt (gz (d:=0) (c:=0) (fac (b0 (cd:=0) (d:=1) (dsi:=[0,0]) (lk:=[1]) (BlkOkC.of (ns:=["stand","machine"]) (js:=[none,some 0]) (N0:=qU) (sc0:=am jy) rfl rfl (by decide +kernel)) rfl (aN (K:=K) rfl (bG (ds0:=[0,0,1,0,1,0,0,0]) (bn (p:=false) (i:=3) rfl (.inl rfl) rfl rfl rfl) rfl)) (fun _ _ _ _ _=>(fgn 0 [0,0] (ndk ["stand","machine"]))) (fun _ _ _ _ _=>bS) (fun _ _ _ _ _=>(bc (bF (K:=K) rfl) (fxi rfl (fvc 1)) (fv 0) (fun _ _=>rfl))) rfl rfl (by decide) rfl (fun _=>rfl)) (fac (bG (ds0:=[0,0,1,0,0,0,0,0]) (bn (p:=false) (i:=4) rfl (.inl rfl) rfl rfl rfl) rfl) ac)) rfl rfl))))))
def xc(T:Bl mg)(ke:k4 P w K mg base k)(F:Fun K "reached" "reached" oh f fd):FnOk P w K mg base CX0 (k+1) f fd ["first","goes"] (spF K [0,0] 1 fG):=
 F.okR wV ⟨[],[0,0,0,0,0,0],1,[]⟩ [0,0,0,0,0,0] fun nd _ _ _ _ _ _ hr=>(ad (aU 2 [0,0,1,0,0,0] nd (fnn ke hr (fac (fv 0) ac))) (ad (aU 3 [0,0,1,1,0,0] nd (fct (jV (K:=K) rfl rfl) T.list0 (by decide +kernel) (fac (fv 0) ac))) (ad (eW (ds:=[0,0,1,1,0,0]) (cz (ds0:=[0,0,1,0,0,0]) (aT kM (fln rfl T.len0 (fac (fv 3) ac)) ah (a9 _)) rfl) (ad (aU 4 [0,0,1,1,0,0] nd (tm (K:=K) (i:=3) (d:=1) rfl rfl (.inl rfl) rfl (by decide) rfl rfl rfl rfl rfl)) (ar (aP (ds1:=[0,0,1,1,0,0]) rfl (aN (K:=K) rfl (bc (bF (K:=K) rfl) (fv 1) (fv 4) (fun _ _=>rfl))) (fgn 5 [0,0,1,1,0,0] nd) (ar (aR (ds2:=[0,0,1,1,0,0]) (cz (ds0:=[0,0,0,1,0,0]) (qpt (gx (aT eD (fv 5) bL (a9 _)) (fJ (lY (bZ hr) (fv 5) (fv 2) (by with_unfolding_all rfl))))) rfl) (ad (eB (i:=2) (bZ hr) rfl (.inl rfl) (fs0 bv) (fv 5) rfl rfl rfl rfl) (ar (bm (bM (K:=K) (i:=3) (d:=1) rfl rfl (.inl rfl) rfl (fv 5) (by decide) rfl rfl rfl rfl rfl rfl rfl rfl) rfl))) aJ)) PassesOwn.never (fun _=>rfl)))) PassesOwn.never) (frt (fcb (zF (K:=K) rfl rfl) T.sorted0 (by decide +kernel) (fac (bG (ds0:=[0,0,0,1,0,0]) (bn (p:=false) (i:=2) rfl (.inl rfl) rfl rfl rfl) rfl) ac))))))
def ug(T:Bl mg)(F:Fun K "ways_back" "ways_back" iV f fd):FnOk P w K mg base CX0 (k+1) f fd ["goes"] (spF K [0] 0 gh):=
 F.okR t9 ⟨[],[0,0,0,0,0],0,[]⟩ [0,0,0,0,0] fun nd _ _ _ _ _ _ hr=>(ad (fK (ds1:=[0,2,0,0,0]) (gZ (i:=1) (ds':=[0,3,0,0,0]) (cd:=3) (d:=3) (dsi:=[0]) (lk:=[]) nd rfl rfl (BlkOkC.of (ns:=["ways"]) (js:=[none]) (N0:=pI) (sc0:=am iV) rfl rfl (by decide +kernel)) rfl (aN (K:=K) rfl (fv 0)) (fun _ _ _ _ _=>(fgn 0 [0] (ndk ["ways"]))) (fun _ _ _ _ _=>bS) (fun _ _ _ _ _=>(aI (d:=3) (c:=3) ac rfl rfl (by decide))) rfl rfl rfl (by decide) rfl (by decide) (by decide) rfl (fun _=>rfl)) rfl) (ad (aP (ds1:=[0,2,0,0,0]) rfl (ij (K:=K) rfl rfl T.enumerate0 (fac (fv 0) ac) rfl) (cO (K:=K) rfl rfl (a8 (fgn 2 [0,2,0,0,0] nd) (a8 (fgn 3 [0,2,0,0,0] nd) cA rfl) rfl) fI rfl rfl) (ar (aP (ds1:=[0,2,0,0,0]) rfl (aN (K:=K) rfl (fv 3)) (fgn 4 [0,2,0,0,0] nd) (ar (aR (ds2:=[0,2,0,0,0]) (aT eD (fv 4) bL (a9 _)) (ar (bm (xW (K:=K) (i:=1) (d:=2) rfl rfl rfl (kL (i:=1) (d:=2) rfl rfl (ig (i:=1) rfl (.inl rfl) rfl rfl) (fv 4) (by decide) (by first|exact .inl rfl|exact .inr rfl) (fun _ _=>rfl)) (fv 2) (by decide) rfl rfl rfl rfl rfl rfl) rfl)) aJ)) PassesOwn.never (fun _=>rfl))) PassesOwn.never (fun _=>rfl)) (frt (bG (ds0:=[0,0,0,0,0]) (bn (p:=false) (i:=1) rfl (.inl rfl) rfl rfl rfl) rfl))))
def Dg(T:Bl mg)(oq:mh P w K mg base k)(wz:nh P w K mg base k)(F:Fun K "alive" "alive" pD f fd):FnOk P w K mg base CX0 (k+1) f fd ["machine"] (spF K [0] 1 mB):=
 F.okR CV ⟨[],[0,0],1,[]⟩ [0,0] fun nd _ _ _ _ _ _ hr=>(ad (bT (i:=1) (d:=0) (ds':=[0,0]) nd rfl (.inr rfl) (fxi rfl (fv 0)) rfl (by decide) (by decide) rfl (.inl rfl)) (frt (fnn oq hr (fac (fs0 (b0 (cd:=0) (d:=1) (dsi:=[0,0]) (lk:=[1]) (BlkOkC.of (ns:=["stand","ends"]) (js:=[none,some 1]) (N0:=yo) (sc0:=am pD) rfl rfl (by decide +kernel)) rfl (fL rfl T.range0 (fac (fs0 (fln rfl T.len0 (fac (fvc 1) ac))) ac) rfl) (fun _ _ _ _ _=>(fgn 0 [0,0] (ndk ["stand","ends"]))) (fun _ _ _ _ _=>(cN (bC (bc (bF (K:=K) rfl) (fvc 1) (fv 0) (fun _ _=>rfl)) (fun _=>rfl)))) (fun _ _ _ _ _=>(fv 0)) rfl rfl (by decide) rfl (fun _=>rfl))) (fac (fnn wz hr (fac (fxi rfl (fv 0)) ac)) ac)))))
def JP(T:Bl mg)(oq:mh P w K mg base k)(F:Fun K "met" "met" Ah f fd):FnOk P w K mg base CX0 (k+1) f fd ["machine"] (spF K [0] 1 tY):=
 F.okR Jx ⟨[],[0],1,[]⟩ [0] fun nd _ _ _ _ _ _ hr=>(frt (fnn oq hr (fac (fs0 (aI (d:=3) (c:=3) (fac ah ac) rfl rfl (by decide))) (fac (fxi rfl (fv 0)) ac))))
def rh(T:Bl mg)(ke:k4 P w K mg base k)(Jp:vh P w K mg base k)(Ln:CG P w K mg base k)(F:Fun K "kept_stands" "kept_stands" fX f fd):FnOk P w K mg base CX0 (k+1) f fd ["machine"] (spF K [0] 1 dU):=
 F.okR qZ ⟨[],[0,0],1,[]⟩ [0,0] fun nd _ _ _ _ _ _ hr=>(ad (bT (i:=1) (d:=0) (ds':=[0,0]) nd rfl (.inr rfl) (fs0 (fnn ke hr (fac (fs0 (fnn Jp hr (fac (fv 0) ac))) ac))) rfl (by decide) (by decide) rfl (.inl rfl)) (frt (b0 (cd:=0) (d:=1) (dsi:=[0,0]) (lk:=[1]) (BlkOkC.of (ns:=["stand","living"]) (js:=[none,some 1]) (N0:=mo) (sc0:=am fX) rfl rfl (by decide +kernel)) rfl (aN (K:=K) rfl (fs0 (fnn Ln hr (fac (fv 0) ac)))) (fun _ _ _ _ _=>(fgn 0 [0,0] (ndk ["stand","living"]))) (fun _ _ _ _ _=>(cN (zu (bZ hr) (fv 0) (fvc 1) (by with_unfolding_all rfl)))) (fun _ _ _ _ _=>(fv 0)) rfl rfl (by decide) rfl (fun _=>rfl))))
def De(T:Bl mg)(ou:iN P w K mg base k)(yr:pE P w K mg base k)(tT:k7 P w K mg base k)(F:Fun K "least" "least" pC f fd):FnOk P w K mg base CX0 (k+1) f fd ["machine"] (spF K [0] 0 mz):=
 F.okR CU ⟨[],[0,0],0,[]⟩ [0,0] fun nd _ _ _ _ _ _ hr=>(ad (aU 1 [0,0] nd (fnn ou hr (fac (fv 0) (fac (fs0 (fnn tT hr (fac (fv 0) ac))) ac)))) (ad (aR (ds2:=[0,0]) (lY (bZ hr) ah (fv 1) (by with_unfolding_all rfl)) (frt (fs0 (gz (d:=3) (c:=3) (fac (aI (d:=3) (c:=3) (fac bv ac) rfl rfl (by decide)) (fac (aI (d:=3) (c:=3) (fac (b0 (cd:=3) (d:=3) (dsi:=[0]) (lk:=[]) (BlkOkC.of (ns:=["way"]) (js:=[none]) (N0:=yn) (sc0:=am pC) rfl rfl (by decide +kernel)) rfl (aN (K:=K) rfl (fxi rfl (fxi rfl (fv 0)))) (fun _ _ _ _ _=>(fgn 0 [0] (ndk ["way"]))) (fun _ _ _ _ _=>bS) (fun _ _ _ _ _=>bL) rfl rfl (by decide) rfl (fun _=>rfl)) ac) rfl rfl (by decide)) ac)) rfl rfl))) aJ) (frt (fnn yr hr (fac (fv 0) (fac (fv 1) ac))))))
def sy(T:Bl mg)(F:Fun K "_law_whole" "_law_whole" jI f fd):FnOk P w K mg base CX0 (k+1) f fd ["_law_thing"] (spF K [0] 3 e9):=
 F.okR rZ ⟨[],[0],3,[]⟩ [0] fun nd _ _ _ _ _ _ hr=>(frt (n6 (fB (K:=K) (n:="int") rfl rfl T.isinstance0 rfl T.int0 (by decide +kernel) (by decide) (fv 0) (by decide) rfl rfl rfl rfl) (i7 (zQ (fB (K:=K) (n:="bool") rfl rfl T.isinstance0 rfl T.bool0 (by decide +kernel) (by decide) (fv 0) (by decide) rfl rfl rfl rfl)))))
def rn(T:Bl mg)(uy:mi P w K mg base k)(F:Fun K "_law_formed" "_law_formed" cM f fd):FnOk P w K mg base CX0 (k+1) f fd ["_law_found","_law_signs"] (spF K [0,0] 3 dY):=
 F.okR rg ⟨[],[0,0,0,0,0],3,[]⟩ [0,0,0,0,0] fun nd _ _ _ _ _ _ hr=>(ad (aR (ds2:=[0,0,0,0,0]) (qpt (gw (cy (bC (fB (K:=K) (n:="tuple") rfl rfl T.isinstance0 rfl T.tuple0 (by decide +kernel) (by decide) (fv 0) (by decide) rfl rfl rfl rfl) (fun _=>rfl))) (gw (ftn rfl hr.units (fln rfl T.len0 (fac (fv 0) ac)) ah) (i5 (cy (bC (fB (K:=K) (n:="list") rfl rfl T.isinstance0 rfl T.list0 (by decide +kernel) (by decide) (fxi rfl (fv 0)) (by decide) rfl rfl rfl rfl) (fun _=>rfl))))))) (frt bv) aJ) (ad (qL rfl (fv 0) (cO (K:=K) rfl rfl (a8 (oZ (i:=2) (ds':=[0,0,0,0,0]) nd rfl (.inr rfl) rfl (by decide) (by decide) (.inl rfl)) (a8 (fgn 3 [0,0,0,0,0] nd) cA rfl) rfl) fI rfl rfl) rfl rfl rfl) (ad (aR (ds2:=[0,0,0,0,0]) (qpt (gw (cy (bC (fB (K:=K) (n:="list") rfl rfl T.isinstance0 rfl T.list0 (by decide +kernel) (by decide) (fv 3) (by decide) rfl rfl rfl rfl) (fun _=>rfl))) (i5 (ftn rfl hr.units (fln rfl T.len0 (fac (fv 3) ac)) (fln rfl T.len0 (fac (fvc 2) ac)))))) (frt bv) aJ) (ad (aR (ds2:=[0,0,0,0,0]) (ftn rfl hr.units (b0 (cd:=0) (d:=1) (dsi:=[0]) (lk:=[]) (BlkOkC.of (ns:=["_law_end"]) (js:=[none]) (N0:=fZ) (sc0:=am cM) rfl rfl (by decide +kernel)) rfl (aN (K:=K) rfl (fvc 2)) (fun _ _ _ _ _=>(fgn 0 [0] (ndk ["_law_end"]))) (fun _ _ _ _ _=>(cN (cy (bC (fB (K:=K) (n:="bool") rfl rfl T.isinstance0 rfl T.bool0 (by decide +kernel) (by decide) (fv 0) (by decide) rfl rfl rfl rfl) (fun _=>rfl))))) (fun _ _ _ _ _=>(fv 0)) rfl rfl (by decide) rfl (fun _=>rfl)) (aI (d:=3) (c:=3) ac rfl rfl (by decide))) (frt bv) aJ) (ad (aP (ds1:=[0,0,0,0,0]) rfl (aN (K:=K) rfl (fv 3)) (fgn 4 [0,0,0,0,0] nd) (ad (aR (ds2:=[0,0,0,0,0]) (qpt (gw (cy (bC (fB (K:=K) (n:="list") rfl rfl T.isinstance0 rfl T.list0 (by decide +kernel) (by decide) (fv 4) (by decide) rfl rfl rfl rfl) (fun _=>rfl))) (i5 (ftn rfl hr.units (fln rfl T.len0 (fac (fv 4) ac)) (fv 1))))) (frt bv) aJ) (ad (aR (ds2:=[0,0,0,0,0]) (ftn rfl hr.units (b0 (cd:=0) (d:=1) (dsi:=[0]) (lk:=[]) (BlkOkC.of (ns:=["_law_there"]) (js:=[none]) (N0:=fZ) (sc0:=am cM) rfl rfl (by decide +kernel)) rfl (aN (K:=K) rfl (fv 4)) (fun _ _ _ _ _=>(fgn 0 [0] (ndk ["_law_there"]))) (fun _ _ _ _ _=>(cN (qpt (gx (aT eD (fv 0) bL (a9 _)) (fJ (cy (bC (fnn uy hr (fac (fv 0) ac)) (fun _=>rfl)))))))) (fun _ _ _ _ _=>(fv 0)) rfl rfl (by decide) rfl (fun _=>rfl)) (aI (d:=3) (c:=3) ac rfl rfl (by decide))) (frt bv) aJ) (ar (aR (ds2:=[0,0,0,0,0]) (ftn rfl hr.units (b0 (cd:=0) (d:=1) (dsi:=[0,0]) (lk:=[1]) (BlkOkC.of (ns:=["_law_there","_law_ends"]) (js:=[none,some 2]) (N0:=fZ) (sc0:=am cM) rfl rfl (by decide +kernel)) rfl (aN (K:=K) rfl (fv 4)) (fun _ _ _ _ _=>(fgn 0 [0,0] (ndk ["_law_there","_law_ends"]))) (fun _ _ _ _ _=>(cN (qpt (gx (aT eD (fv 0) bL (a9 _)) (fJ (cy (wc J5 oY ah (fv 0) (fln rfl T.len0 (fac (fvc 1) ac)) (by with_unfolding_all rfl)))))))) (fun _ _ _ _ _=>(fv 0)) rfl rfl (by decide) rfl (fun _=>rfl)) (aI (d:=3) (c:=3) ac rfl rfl (by decide))) (frt bv) aJ)))) PassesOwn.never (fun _=>rfl)) (frt (cX kM (fln rfl T.len0 (fac (fvc 2) ac)) ah (a9 _))))))))
def uj(T:Bl mg)(F:Fun K "_law_come" "_law_come" kZ f fd):FnOk P w K mg base CX0 (k+1) f fd ["_law_machine_here"] (spF K [0] 0 eK):=
 F.okR uc ⟨[],[0,0,0,0],0,[]⟩ [0,0,0,0] fun nd _ _ _ _ _ _ hr=>(ad (aU 1 [0,1,0,0] nd (bg (d':=1) (aI (d:=3) (c:=3) (fac ah ac) rfl rfl (by decide)) (by decide))) (ad (aU 2 [0,1,0,0] nd (fs0 ah)) (ad (eW (ds:=[0,1,0,0]) (cz (ds0:=[0,0,0,0]) (aT oY (fv 2) (fln rfl T.len0 (fac (fv 1) ac)) (a9 _)) rfl) (ad (aP (ds1:=[0,1,0,0]) rfl (aN (K:=K) rfl (bc (bF (K:=K) rfl) (fxi rfl (fv 0)) (gA (K:=K) (i:=1) rfl rfl (.inl rfl) rfl (fv 2) (fun _ _=>rfl) rfl rfl) (fun _ _=>rfl))) (fgn 3 [0,1,0,0] nd) (ar (aR (ds2:=[0,1,0,0]) (cz (ds0:=[0,0,0,0]) (qpt (gx (aT eD (fv 3) bL (a9 _)) (fJ (aT (zG (K:=K) rfl hr.units) (fv 3) (fv 1) (by with_unfolding_all rfl))))) rfl) (ar (bm (bM (K:=K) (i:=1) (d:=1) rfl rfl (.inl rfl) rfl (fv 3) (by decide) rfl rfl rfl rfl rfl rfl rfl rfl) rfl)) aJ)) PassesOwn.never (fun _=>rfl)) (ar (aU 2 [0,1,0,0] nd (fs0 (aD cJ (fv 2) ah))))) PassesOwn.never) (frt (bG (ds0:=[0,0,0,0]) (bn (p:=false) (i:=1) rfl (.inl rfl) rfl rfl rfl) rfl)))))
def rm(T:Bl mg)(F:Fun K "_law_living" "_law_living" fY f fd):FnOk P w K mg base CX0 (k+1) f fd ["_law_machine_here"] (spF K [0] 0 dX):=
 F.okR re ⟨[],[0,0,0,0,0,0],0,[]⟩ [0,0,0,0,0,0] fun nd _ _ _ _ _ _ hr=>(ad (aU 1 [0,1,0,0,0,0] nd (fct (jV (K:=K) rfl rfl) T.list0 (by decide +kernel) (fac (fxi rfl (fv 0)) ac))) (ad (aU 2 [0,1,0,0,0,0] nd (fs0 bv)) (ad (eW (ds:=[0,1,0,0,0,0]) (bC (fv 2) (fun _=>rfl)) (ad (fK (ds1:=[0,1,0,0,0,0]) (fR (K:=K) (i:=1) (d:=1) (lk:=[0,1,2,4,5]) (ds0:=[0,0,0,0,0,0]) (ds1:=[0,0,0,1,0,0]) (bs:=[true,true,true,false,true,true]) (bT (i:=3) (d:=1) (ds':=[0,0,0,1,0,0]) nd rfl (.inr rfl) (fct (jV (K:=K) rfl rfl) T.list0 (by decide +kernel) (fac (fv 1) ac)) rfl (by decide) (by decide) rfl (.inl rfl)) rfl rfl rfl rfl rfl) rfl) (ad (aP (ds1:=[0,1,0,0,0,0]) rfl (ij (K:=K) rfl rfl T.enumerate0 (fac (fxi rfl (fv 0)) ac) rfl) (cO (K:=K) rfl rfl (a8 (fgn 4 [0,1,0,0,0,0] nd) (a8 (fgn 5 [0,1,0,0,0,0] nd) cA rfl) rfl) fI rfl rfl) (ar (aR (ds2:=[0,1,0,0,0,0]) (ftn rfl hr.units (b0 (cd:=0) (d:=1) (dsi:=[0,0]) (lk:=[1]) (BlkOkC.of (ns:=["_law_there","_law_ahead"]) (js:=[none,some 3]) (N0:=mq) (sc0:=am fY) rfl rfl (by decide +kernel)) rfl (aN (K:=K) rfl (fv 5)) (fun _ _ _ _ _=>(fgn 0 [0,0] (ndk ["_law_there","_law_ahead"]))) (fun _ _ _ _ _=>(cN (qpt (gx (aT eD (fv 0) bL (a9 _)) (fJ (bC (bc (bF (K:=K) rfl) (fvc 1) (fv 0) (fun _ _=>rfl)) (fun _=>rfl))))))) (fun _ _ _ _ _=>(fv 0)) rfl rfl (by decide) rfl (fun _=>rfl)) (aI (d:=3) (c:=3) ac rfl rfl (by decide))) (ar (iU (i:=1) (d:=1) (c:=0) rfl (.inl rfl) (fs0 bv) (fv 4) rfl (by decide) rfl rfl rfl (fun _=>rfl) rfl rfl rfl)) aJ)) PassesOwn.never (fun _=>rfl)) (ar (aU 2 [0,1,0,0,0,0] nd (fs0 (dG (ds0:=[0,0,0,0,0,0]) (cX (CC (K:=K) rfl hr.units) (fv 1) (fvc 3) (a9 _)) rfl)))))) PassesOwn.never) (frt (bG (ds0:=[0,0,0,0,0,0]) (bn (p:=false) (i:=1) rfl (.inl rfl) rfl rfl rfl) rfl)))))
def m6(T:Bl mg)(F:Fun K "_law_all_unlike" "_law_all_unlike" bN f fd):FnOk P w K mg base CX0 (k+1) f fd ["_law_machine_here"] (spF K [0] 3 ce):=
 F.okR m4 ⟨[],[0,0,0,0,0,0,0,0],3,[]⟩ [0,0,0,0,0,0,0,0] fun nd _ _ _ _ _ _ hr=>(ad (qL rfl (fv 0) (cO (K:=K) rfl rfl (a8 (fgn 1 [0,0,0,0,0,0,0,0] nd) (a8 (fgn 2 [0,0,0,0,0,0,0,0] nd) cA rfl) rfl) fI rfl rfl) rfl rfl rfl) (ad (bT (i:=3) (d:=0) (ds':=[0,0,0,0,0,0,0,0]) nd rfl (.inr rfl) (fs0 (b0 (cd:=3) (d:=3) (dsi:=[0]) (lk:=[]) (BlkOkC.of (ns:=["_law_end"]) (js:=[none]) (N0:=c7) (sc0:=am bN) rfl rfl (by decide +kernel)) rfl (aN (K:=K) rfl (fv 1)) (fun _ _ _ _ _=>(fgn 0 [0] (ndk ["_law_end"]))) (fun _ _ _ _ _=>bS) (fun _ _ _ _ _=>(fct xO T.int0 (by decide +kernel) (fac (fv 0) ac))) rfl rfl (by decide) rfl (fun _=>rfl))) rfl (by decide) (by decide) rfl (.inl rfl)) (ad (aP (ds1:=[0,0,0,0,0,0,0,0]) rfl (fL rfl T.range0 (fac (fs0 (fln rfl T.len0 (fac (fv 1) ac))) ac) rfl) (fgn 4 [0,0,0,0,0,0,0,0] nd) (ad (bT (i:=5) (d:=1) (ds':=[0,0,0,0,0,1,0,0]) nd rfl (.inr rfl) (bg (d':=1) (aI (d:=3) (c:=3) ac rfl rfl (by decide)) (by decide)) rfl (by decide) (by decide) rfl (.inl rfl)) (ad (aP (ds1:=[0,0,0,0,0,1,0,0]) rfl (ij (K:=K) rfl rfl T.enumerate0 (fac (fv 2) ac) rfl) (cO (K:=K) rfl rfl (a8 (fgn 6 [0,0,0,0,0,1,0,0] nd) (a8 (fgn 7 [0,0,0,0,0,1,0,0] nd) cA rfl) rfl) fI rfl rfl) (ar (bm (bM (K:=K) (i:=5) (d:=1) rfl rfl (.inr (.inl rfl)) rfl (fs0 (aD (D3 (K:=K) rfl) (aI (d:=1) (c:=0) (fac (bc (bF (K:=K) rfl) (fvc 3) (fv 6) (fun _ _=>rfl)) ac) rfl rfl (by decide)) (b0 (cd:=0) (d:=1) (dsi:=[0,0]) (lk:=[1]) (BlkOkC.of (ns:=["_law_there","_law_signs"]) (js:=[none,some 3]) (N0:=c7) (sc0:=am bN) rfl rfl (by decide +kernel)) rfl (aN (K:=K) rfl (fv 7)) (fun _ _ _ _ _=>(fgn 0 [0,0] (ndk ["_law_there","_law_signs"]))) (fun _ _ _ _ _=>bS) (fun _ _ _ _ _=>(bc (bF (K:=K) rfl) (aI (d:=1) (c:=0) (fac (Ed Iq ah) (fac (bc (bF (K:=K) rfl) (fvc 1) (zP (K:=K) (fv 0) (i7 (fs0 ah))) (fun _ _=>rfl)) ac)) rfl rfl (by decide)) (fct xO T.int0 (by decide +kernel) (fac (fs0 (cX eD (fv 0) bL (a9 _))) ac)) (fun _ _=>rfl))) rfl rfl (by decide) rfl (fun _=>rfl)))) (by decide) rfl rfl rfl rfl rfl rfl rfl rfl) rfl)) PassesOwn.never (fun _=>rfl)) (ar (bT (i:=3) (d:=0) (ds':=[0,0,0,0,0,0,0,0]) nd rfl (.inr rfl) (fs0 (b0 (cd:=3) (d:=3) (dsi:=[0,0]) (lk:=[1]) (BlkOkC.of (ns:=["_law_key","_law_keys"]) (js:=[none,some 5]) (N0:=c7) (sc0:=am bN) rfl rfl (by decide +kernel)) rfl (aN (K:=K) rfl (bG (ds0:=[0,0,0,0,0,0,0,0]) (bn (p:=false) (i:=5) rfl (.inr (.inl rfl)) rfl rfl rfl) rfl)) (fun _ _ _ _ _=>(fgn 0 [0,0] (ndk ["_law_key","_law_keys"]))) (fun _ _ _ _ _=>bS) (fun _ _ _ _ _=>(o0 (K:=K) rfl hr.units (fvc 1) (fv 0) rfl rfl rfl rfl rfl)) rfl rfl (by decide) rfl (fun _=>rfl))) rfl (by decide) (by decide) rfl (.inl rfl))))) PassesOwn.never (fun _=>rfl)) (frt (cX (mV (K:=K) rfl hr.units) (tq (K:=K) rfl rfl rfl T.len0 rfl T.set0 (by decide +kernel) (by decide +kernel) (fvc 3) rfl) (fln rfl T.len0 (fac (fv 1) ac)) (a9 _))))))
def sA(T:Bl mg)(wA:nj P w K mg base k)(Jo:vg P w K mg base k)(tX:lh P w K mg base k)(pL:no P w K mg base k)(tW:k9 P w K mg base k)(oz:iO P w K mg base k)(F:Fun K "_law_right" "_law_right" hV f fd):FnOk P w K mg base CX0 (k+1) f fd ["_law_machine_here"] (spF K [0] 3 dh):=
 F.okR r6 ⟨[],[0,0,0,0],3,[]⟩ [0,0,0,0] fun nd _ _ _ _ _ _ hr=>(ad (aU 1 [0,0,0,0] nd (fs0 (fln rfl T.len0 (fac (fxi rfl (fxi rfl (fvc 0))) ac)))) (ad (aU 2 [0,0,0,0] nd (fs0 (fnn wA hr (fac (fvc 0) ac)))) (ad (aU 3 [0,0,0,0] nd (fnn Jo hr (fac (fv 2) ac))) (ad (aR (ds2:=[0,0,0,0]) (qpt (gw (cy (bC (fnn tX hr (fac (fv 3) (fac (fv 1) ac))) (fun _=>rfl))) (i5 (ftn rfl hr.units (fv 2) (fvc 0))))) (frt bv) aJ) (ad (aR (ds2:=[0,0,0,0]) (fte rfl hr.units (b0 (cd:=0) (d:=1) (dsi:=[0,0]) (lk:=[1]) (BlkOkC.of (ns:=["_law_stand","_law_machine_here"]) (js:=[none,some 0]) (N0:=nw) (sc0:=am hV) rfl rfl (by decide +kernel)) rfl (aN (K:=K) rfl (fnn pL hr (fac (fvc 0) ac))) (fun _ _ _ _ _=>(fgn 0 [0,0] (ndk ["_law_stand","_law_machine_here"]))) (fun _ _ _ _ _=>(cN (bC (bc (bF (K:=K) rfl) (fxi rfl (fvc 1)) (fv 0) (fun _ _=>rfl)) (fun _=>rfl)))) (fun _ _ _ _ _=>(fv 0)) rfl rfl (by decide) rfl (fun _=>rfl)) (aI (d:=3) (c:=3) ac rfl rfl (by decide))) (frt (cX (mV (K:=K) rfl hr.units) (fv 3) (gz (d:=2) (c:=1) (fac (aI (d:=3) (c:=3) (fac bv ac) rfl rfl (by decide)) (fac (aI (d:=2) (c:=1) (fac (aD (D1 (K:=K) rfl) (aI (d:=3) (c:=3) (fac bL ac) rfl rfl (by decide)) (fv 1)) ac) rfl rfl (by decide)) ac)) rfl rfl) (a9 _))) aJ) (ad (aR (ds2:=[0,0,0,0]) (qpt (gw (ftn rfl hr.units (fnn pL hr (fac (fv 3) ac)) (qN (K:=K) rfl rfl T.list0 rfl T.range0 (fac (fs0 (fln rfl T.len0 (fac (fxi rfl (fv 3)) ac))) ac) rfl rfl)) (gw (aT (J6 (K:=K) rfl hr.units) bv (fnn tW hr (fac (fv 3) ac)) (by with_unfolding_all rfl)) (i5 (cy (bC (fnn oz hr (fac (fv 3) ac)) (fun _=>rfl))))))) (frt bv) aJ) (frt (cX (mV (K:=K) rfl hr.units) (fxi rfl (fxi rfl (fv 3))) (fxi rfl (fxi rfl (fvc 0))) (a9 _)))))))))
def sB(T:Bl mg)(bp:hW P w K mg base k)(F:Fun K "_law_blown" "_law_blown" e7 f fd):FnOk P w K mg base CX0 (k+1) f fd ["_law_pen_here","_law_machine_here","_law_times"] (spF K [1,0,0] 0 fc):=
 F.okR r8 ⟨[0],[1,0,0,0,0,0,0,0,0,0],0,[]⟩ [1,0,0,0,0,0,0,0,0,0] fun nd _ _ _ _ _ _ hr=>(ad (bT (i:=3) (d:=0) (ds':=[1,0,0,0,0,0,0,0,0,0]) nd rfl (.inr rfl) (fs0 (fln rfl T.len0 (fac (fxi rfl (fvc 1)) ac))) rfl (by decide) (by decide) rfl (.inl rfl)) (ad (bT (i:=4) (d:=1) (ds':=[1,0,0,0,1,0,0,0,0,0]) nd rfl (.inr rfl) (bg (d':=1) (aI (d:=3) (c:=3) (fac ah ac) rfl rfl (by decide)) (by decide)) rfl (by decide) (by decide) rfl (.inl rfl)) (ad (aP (ds1:=[1,0,0,0,1,0,0,0,0,0]) rfl (xS rfl T.range0 (fac (fs0 ah) (fac (fs0 (aD eX (fvc 3) (fv 2))) ac)) rfl rfl) (fgn 5 [1,0,0,0,1,0,0,0,0,0] nd) (ar (bm (zR (K:=K) (i:=4) rfl rfl (.inr (.inl rfl)) rfl (aD cJ ah (fns bp hr (fsl 0 (fac (fs0 (dG (ds0:=[1,0,0,0,0,0,0,0,0,0]) (fln rfl T.len0 (fac (fvc 4) ac)) rfl)) ac)))) (fv 5) rfl rfl rfl rfl rfl rfl rfl rfl) rfl)) PassesOwn.never (fun _=>rfl)) (ad (fK (ds1:=[1,0,0,0,1,0,0,0,0,0]) (gZ (i:=6) (ds':=[1,0,0,0,1,0,3,0,0,0]) (cd:=3) (d:=3) (dsi:=[0,1]) (lk:=[1]) nd rfl rfl (BlkOkC.of (ns:=["_law_k","_law_spots"]) (js:=[none,some 4]) (N0:=jJ) (sc0:=am e7) rfl rfl (by decide +kernel)) rfl (fL rfl T.range0 (fac (fs0 (aD eX (fvc 3) (fv 2))) ac) rfl) (fun _ _ _ _ _=>(fgn 0 [0,1] (ndk ["_law_k","_law_spots"]))) (fun _ _ _ _ _=>bS) (fun _ _ _ _ _=>(dG (ds0:=[0,0]) (o0 (K:=K) rfl hr.units (fvc 1) (fv 0) rfl rfl rfl rfl rfl) rfl)) rfl rfl rfl (by decide) rfl (by decide) (by decide) rfl (fun _=>rfl)) rfl) (ad (aU 7 [1,0,0,0,1,0,0,1,0,0] nd (bg (d':=1) (aI (d:=3) (c:=3) ac rfl rfl (by decide)) (by decide))) (ad (aP (ds1:=[1,0,0,0,0,0,0,1,0,0]) rfl (aN (K:=K) rfl (bG (ds0:=[1,0,0,0,0,0,0,1,0,0]) (bn (p:=false) (i:=4) rfl (.inr (.inl rfl)) rfl rfl rfl) rfl)) (fgn 5 [1,0,0,0,0,0,0,1,0,0] nd) (ad (aU 8 [1,0,0,0,0,0,0,1,1,0] nd (bg (d':=1) (aI (d:=3) (c:=3) ac rfl rfl (by decide)) (by decide))) (ad (aP (ds1:=[1,0,0,0,0,0,0,1,1,0]) rfl (aN (K:=K) rfl (bc (bF (K:=K) rfl) (fxi rfl (fvc 1)) (aD db (fv 5) (fvc 3)) (fun _ _=>rfl))) (fgn 9 [1,0,0,0,0,0,0,1,1,0] nd) (ad (aR (ds2:=[1,0,0,0,0,0,0,1,1,0]) (aT eD (fv 9) bL (a9 _)) (ar (aU 9 [1,0,0,0,0,0,0,1,1,0] nd (bc (bF (K:=K) rfl) (fv 6) (aD cJ (fv 9) (aD eX (fvc 3) (fns bp hr (fsl 0 (fac (fv 2) ac))))) (fun _ _=>rfl)))) aJ) (ar (bm (bM (K:=K) (i:=8) (d:=1) rfl rfl (.inl rfl) rfl (fv 9) (by decide) rfl rfl rfl rfl rfl rfl rfl rfl) rfl))) PassesOwn.never (fun _=>rfl)) (ar (bm (bM (K:=K) (i:=7) (d:=1) rfl rfl (.inl rfl) rfl (bG (ds0:=[1,0,0,0,0,0,0,1,0,0]) (bn (p:=false) (i:=8) rfl (.inl rfl) rfl rfl rfl) rfl) (by decide) rfl rfl rfl rfl rfl rfl rfl rfl) rfl)))) PassesOwn.never (fun _=>rfl)) (frt (gz (d:=0) (c:=0) (fac (b0 (cd:=0) (d:=1) (dsi:=[0,0,0]) (lk:=[1,2]) (BlkOkC.of (ns:=["_law_k","_law_machine_here","_law_many"]) (js:=[none,some 1,some 3]) (N0:=jJ) (sc0:=am e7) rfl rfl (by decide +kernel)) rfl (aN (K:=K) rfl (fvc 4)) (fun _ _ _ _ _=>(fgn 0 [0,0,0] (ndk ["_law_k","_law_machine_here","_law_many"]))) (fun _ _ _ _ _=>bS) (fun _ _ _ _ _=>(bc (bF (K:=K) rfl) (fxi rfl (fvc 1)) (aD db (fv 0) (fvc 2)) (fun _ _=>rfl))) rfl rfl (by decide) rfl (fun _=>rfl)) (fac (bG (ds0:=[1,0,0,0,0,0,0,0,0,0]) (bn (p:=false) (i:=7) rfl (.inl rfl) rfl rfl rfl) rfl) ac)) rfl rfl))))))))
def JQ(T:Bl mg)(qW:pF P w K mg base k)(rB:j9 P w K mg base k)(bp:hW P w K mg base k)(nz:mj P w K mg base k)(uz:mn P w K mg base k)(F:Fun K "law" "law" om f fd):FnOk P w K mg base CX0 (k+1) f fd ["_law_script"] (spF K [0] 3 wB):=
 F.okR Jy ⟨[],[0,0,0,0],3,[]⟩ [0,0,0,0] fun nd _ _ _ _ _ _ hr=>(ad (aU 1 [0,1,0,0] nd (fnn qW hr (fac (fv 0) (fac (fs0 ah) ac)))) (ad (aU 2 [0,1,0,0] nd (fns rB hr (fsl 1 (fac (fs0 ah) (fac (fs0 (aD cJ ah (fns bp hr (fsl 1 (fac (fs0 ah) ac))))) ac))))) (ad (aU 3 [0,1,0,0] nd (bc (bF (K:=K) rfl) (aI (d:=3) (c:=3) (fac ah (fac ah (fac ah (fac ah ac)))) rfl rfl (by decide)) (fns bp hr (fsl 1 (fac (fs0 ah) ac))) (fun _ _=>rfl))) (frt (n6 (fnn nz hr (fac (fnn uz hr (fac (fnn qW hr (fac (fv 0) (fac (fs0 ah) ac))) (fac (fv 2) (fac (fv 3) ac)))) ac)) (i7 (fnn nz hr (fac (fv 2) ac))))))))
end
end
end W13
namespace L2
open PySem PySem.Spec PyProof.Rows
structure W{α:Type}(x:Option α)(Q:α->Prop):Prop where
 ex:∃a,x=some a/\Q a
def aF{α:Type}(a:α)(Q:α->Prop):W (some a) Q=Q a:=propext ⟨fun⟨b,e,h⟩=>(zat e)▸h,fun h=>⟨a,rfl,h⟩⟩
def bK{α:Type}(Q:α->Prop):W (none:Option α) Q=False:=propext ⟨(fun⟨b,e,h⟩=>by cases e),(fun h=>h.elim)⟩
def W.use{α:Type}{x:Option α}{P Q:α->Prop}(h:W x P)(k:∀a,P a->Q a):W x Q:=
 let⟨a,e,h⟩:=h.ex
 ⟨a,e,k a h⟩
def W.of{α:Type}{x:Option α}{P:α->Prop}{a:α}(e:x=some a)(h:P a):W x P:=⟨a,e,h⟩
def aA{α β:Type}(x:Option α)(f:α->Option β)(Q:β->Prop):W (x.bind f) Q=W x (fun a=>W (f a) Q):=by
 cases x with
 |none=>show W none _=_;rw[bK,bK]
 |some a=>show W (f a) Q=_;rw[aF]
def bQ{α β:Type}(x:Option α)(f:α->β)(Q:β->Prop):W (x.map f) Q=W x (fun a=>Q (f a)):=by
 cases x with
 |none=>show W none _=_;rw[bK,bK]
 |some a=>show W (some (f a)) Q=_;rw[aF,aF]
def KM{α:Type}(c:Prop)[Decidable c](a:α)(Q:α->Prop):W (grd c a) Q=(c/\Q a):=by
 unfold grd;by_cases h:c
 ·rw[if_pos h,aF];exact propext ⟨fun z=>⟨h,z⟩,fun z=>z.2⟩
 ·rw[if_neg h,bK];exact propext ⟨fun z=>z.elim,fun z=>h z.1⟩
def jG{α:Type}(c:Prop)[Decidable c](a:α)(Q:α->Prop):W (if c then some a else none) Q=(c/\Q a):=KM c a Q
def gv(en:En)(i:Nat):Option D:=(en[i]?).join
def km(ts:List D)(n:Int)(t:D):Option (List D):=(ixN ts.length n).map fun k=>ts.set k t
def LZ(ts:List D)(n:Int):Option (D×List D):=(seqIndex? n ts.length).bind fun k=>(ts[k]?).map fun t=>(t,ts.eraseIdx k)
def jD(i:Int)(n:Nat):List D:=(List.range n).map fun k=>.int (i+(k:Nat))
section
variable{α β:Type}
def sO(b:MS)(Q:Fl->Prop):Fl->Prop:=fun fl=>W (match fl with|.nx en1=>b en1|.rt t en1=>some (.rt t en1)|.ct en1=>some (.ct en1)) Q
def Hz(i:Nat)(Q:Fl->Prop):D×En->Prop:=fun r=>Q (.nx (r.2.set i (some r.1)))
def HF(Q:Fl->Prop):D×En->Prop:=fun r=>Q (.nx r.2)
def HA(Q:Fl->Prop):D×En->Prop:=fun r=>Q (.rt r.1 r.2)
def kIf(f g:En->Option β)(Q:β->Prop):Bool×En->Prop:=fun r=>W (if r.1 then f r.2 else g r.2) Q
def HE(g:MG)(b:MS)(Q:Fl->Prop):List D×En->Prop:=fun r=>W (ck g b r.1 r.2) Q
def oQ(g:MG)(b:MS)(ts:List D)(Q:Fl->Prop):Fl->Prop:=fun fl=>W (match fl with|.nx en2=>ck g b ts en2|.ct en2=>ck g b ts en2|.rt r en2=>some (.rt r en2)) Q
def Cu(g:MG)(b:MS)(ts:List D)(Q:Fl->Prop):En->Prop:=fun en=>W (b en) (oQ g b ts Q)
def kNx(Q:Fl->Prop):En->Prop:=fun en=>Q (.nx en)
def HI(g:MG)(Q:Fl->Prop):D×En->Prop:=fun r=>W (g r.1 r.2) (kNx Q)
def zb(i:Nat)(en:En)(Q:Fl->Prop):List D->Prop:=fun ts=>Q (.nx (en.set i (some (.list ts))))
def oP(i:Nat)(t:D)(Q:Fl->Prop):D×En->Prop:=fun q=>W (match q.1,(q.2[i]?).join with|.int n,some (.list ts)=>(ixN ts.length n).map fun k=>.nx (q.2.set i (some (.list (ts.set k t))))|_,_=>none) Q
def vV(i:Nat)(fk:ME)(Q:Fl->Prop):D×En->Prop:=fun r=>W (match (r.2[i]?).join with|some _=>((fk r.2).bind fun q=>(match q.1,(q.2[i]?).join with|.int n,some (.list ts)=>(ixN ts.length n).map fun k=>.nx (q.2.set i (some (.list (ts.set k r.1))))|_,_=>none))|none=>none) Q
def xA(i:Nat)(t:D)(fk:ME)(en:En)(Q:Fl->Prop):D->Prop:=fun _x=>W (fk en) (oP i t Q)
def sN(i:Nat)(t:D)(n:Int)(en:En)(Q:Fl->Prop):D->Prop:=fun x=>W (match x with|.list ts=>(ixN ts.length n).map fun k=>.nx (en.set i (some (.list (ts.set k t))))|_=>none) Q
def kF(en:En)(Q:D×En->Prop):D->Prop:=fun t=>Q (t,en)
def kMv(i:Nat)(en:En)(Q:D×En->Prop):D->Prop:=fun t=>Q (t,en.set i none)
def k1(g:D->Option D)(Q:D×En->Prop):D×En->Prop:=fun r=>W (g r.1) (kF r.2 Q)
def k2b(g:D->D->Option D)(t:D)(Q:D×En->Prop):D×En->Prop:=fun q=>W (g t q.1) (kF q.2 Q)
def k2(g:D->D->Option D)(f:ME)(Q:D×En->Prop):D×En->Prop:=fun r=>W (f r.2) (k2b g r.1 Q)
def zh(g:ME)(Q:D×En->Prop):D×En->Prop:=fun r=>W (match r.1 with|.bool true=>g r.2|.bool false=>some (.bool false,r.2)|_=>none) Q
def kOr(g:ME)(Q:D×En->Prop):D×En->Prop:=fun r=>W (match r.1 with|.bool true=>some (.bool true,r.2)|.bool false=>g r.2|_=>none) Q
def HB(Q:D×En->Prop):D×En->Prop:=fun r=>W (match r.1 with|.bool b=>some (.bool (!b),r.2)|_=>none) Q
def kTV(Q:Bool×En->Prop):D×En->Prop:=fun r=>W (match r.1 with|.bool b=>some (b,r.2)|_=>none) Q
def v6(g:MT)(Q:Bool×En->Prop):Bool×En->Prop:=fun r=>W (if r.1 then g r.2 else some (false,r.2)) Q
def HH(g:MT)(Q:Bool×En->Prop):Bool×En->Prop:=fun r=>W (if r.1 then some (true,r.2)else g r.2) Q
def Cw(Q:Bool×En->Prop):Bool×En->Prop:=fun r=>Q (!r.1,r.2)
def zn(t:D)(Q:List (D ⊕ Nat)×En->Prop):List (D ⊕ Nat)×En->Prop:=fun y=>Q (.inl t::y.1,y.2)
def kAC(r:MA)(Q:List (D ⊕ Nat)×En->Prop):D×En->Prop:=fun x=>W (r x.2) (zn x.1 Q)
def zl(i:Nat)(Q:List (D ⊕ Nat)×En->Prop):List (D ⊕ Nat)×En->Prop:=fun y=>Q (.inr i::y.1,y.2)
def kAS(i:Nat)(r:MA)(en:En)(Q:List (D ⊕ Nat)×En->Prop):D->Prop:=fun _x=>W (r en) (zl i Q)
def kN2(g:List D->Option D)(en:En)(Q:D×En->Prop):List D->Prop:=fun ts=>W (g ts) (kF en Q)
def kN(g:List D->Option D)(Q:D×En->Prop):List (D ⊕ Nat)×En->Prop:=fun r=>W (vals r.1) (kN2 g r.2 Q)
def vW(en:En)(Q:D×En->Prop):List D->Prop:=fun ts=>W (if ts.length<=sizeLine then some (.list ts,en)else none) Q
def HC(Q:D×En->Prop):List (D ⊕ Nat)×En->Prop:=fun r=>W (vals r.1) (vW r.2 Q)
def vU(en:En)(Q:D×En->Prop):List D->Prop:=fun ts=>W (if ts.length<=sizeLine then some (.tuple ts,en)else none) Q
def Hy(Q:D×En->Prop):List (D ⊕ Nat)×En->Prop:=fun r=>W (vals r.1) (vU r.2 Q)
def sP(as:List (D ⊕ Nat))(en:En)(Q:D×En->Prop):D×En->Prop:=fun q=>Q (q.1,wb as q.2 en)
def sR(F:List D->Option (D×En))(as:List (D ⊕ Nat))(en:En)(Q:D×En->Prop):List D->Prop:=fun ts=>W (F ts) (sP as en Q)
def Cv(F:List D->Option (D×En))(Q:D×En->Prop):List (D ⊕ Nat)×En->Prop:=fun r=>W (fV r.1 r.2) (sR F r.1 r.2 Q)
def kFn(dps:List Nat)(Q:D×En->Prop):Fl->Prop:=fun fl=>W (match fl with|.rt t en=>some (t,msk dps en)|.nx en=>some (.none,msk dps en)|.ct _=>none) Q
def vY(q:Bool)(js:List (Option Nat))(en:En)(Q:D×En->Prop):List D×En->Prop:=fun z=>Q (.list z.1,if q then en else wbB js z.2 en)
def kLC(q:Bool)(g:MG)(c:MT)(f:ME)(js:List (Option Nat))(Q:D×En->Prop):List D×En->Prop:=fun r=>W (lcF g c f r.1 [] (cC js r.2)) (vY q js r.2 Q)
def HL(Q:List D×En->Prop):D×En->Prop:=fun r=>W ((Ck r.1).map fun ts=>(ts,r.2)) Q
def kR1(Q:List D×En->Prop):List (D ⊕ Nat)×En->Prop:=fun r=>W (match r.1 with|[.inl (.int j)]=>if -(2 ^ 62)<=j/\j<2 ^ 62 then some ((List.range j.toNat).map fun k=>.int (0+(k:Nat)),r.2)else none|_=>none) Q
def kR2(Q:List D×En->Prop):List (D ⊕ Nat)×En->Prop:=fun r=>W (match r.1 with|[.inl (.int i),.inl (.int j)]=>if -(2 ^ 62)<=i/\i<2 ^ 62/\-(2 ^ 62)<=j/\j<2 ^ 62 then some ((List.range (j-i).toNat).map fun k=>.int (i+(k:Nat)),r.2)else none|_=>none) Q
def kEn(Q:List D×En->Prop):List (D ⊕ Nat)×En->Prop:=fun r=>W (match r.1 with|[.inl (.list ts)]=>some (fh ts,r.2)|[.inl (.tuple ts)]=>some (fh ts,r.2)|_=>none) Q
def xr(n:Int)(en:En)(Q:D×En->Prop):D->Prop:=fun x=>W (match x with|.list ts=>(atI ts n).map fun t=>(t,en)|_=>none) Q
def oN(i:Nat)(Q:D×En->Prop):D×En->Prop:=fun r=>W (match r.1,(r.2[i]?).join with|.int n,some (.list ts)=>(atI ts n).map fun t=>(t,r.2)|_,_=>none) Q
def Cr(i:Nat)(f:ME)(en:En)(Q:D×En->Prop):D->Prop:=fun _x=>W (f en) (oN i Q)
def v7(i:Nat)(Q:D×En->Prop):D×En->Prop:=fun r=>W (match (r.2[i]?).join with|some (.list ts)=>if ts.length<sizeLine then some (PyData.none,r.2.set i (some (.list (ts++[r.1]))))else none|_=>none) Q
def Cy(i:Nat)(t:D)(en:En)(Q:D×En->Prop):D->Prop:=fun x=>W (match x with|.list ts=>if ts.length<sizeLine then some (PyData.none,en.set i (some (.list (ts++[t]))))else none|_=>none) Q
def HK(i:Nat)(f:ME)(en:En)(Q:D×En->Prop):D->Prop:=fun x=>W (match x with|.list _=>((f en).bind fun r=>(match (r.2[i]?).join with|some (.list ts)=>if ts.length<sizeLine then some (PyData.none,r.2.set i (some (.list (ts++[r.1]))))else none|_=>none))|_=>none) Q
def zd(g:D->D->Option D)(t:D)(f:ME)(en:En)(Q:D×En->Prop):D->Prop:=fun x=>W (match x with|.bool true=>(f en).bind fun z=>(g t z.1).map fun t=>(t,z.2)|.bool false=>some (.bool false,en)|_=>none) Q
def zg(g g2:D->D->Option D)(f3:ME)(t:D)(Q:D×En->Prop):D×En->Prop:=fun q=>W (g t q.1) (zd g2 q.1 f3 q.2 Q)
def kCh(g g2:D->D->Option D)(f2 f3:ME)(Q:D×En->Prop):D×En->Prop:=fun r=>W (f2 r.2) (zg g g2 f3 r.1 Q)
def vZ(i:Nat)(Q:D×En->Prop):D×En->Prop:=fun r=>W (match (r.2[i]?).join with|some (.dict ks)=>(kOf r.1).bind fun _=>(aG ks r.1).map fun t=>(t,r.2)|_=>none) Q
def HG(q:D)(en:En)(Q:D×En->Prop):D->Prop:=fun x=>W (match x with|.dict ks=>(kOf q).bind fun _=>(aG ks q).map fun t=>(t,en)|_=>none) Q
def kDg(f:ME)(i:Nat)(en:En)(Q:D×En->Prop):D->Prop:=fun _x=>W (f en) (vZ i Q)
def kIt(J:En->Prop)(Q:Fl->Prop):Fl->Prop:=fun fl=>match fl with|.nx e=>J e|.ct e=>J e|.rt t e=>Q (.rt t e)
def zc(us:List D)(J:List D->En->Prop):D×En->Prop:=fun r=>J (us++[r.1]) r.2
def vX(f:ME)(us:List D)(J:List D->En->Prop):Bool×En->Prop:=fun r=>if r.1 then W (f r.2) (zc us J)else J us r.2
def HD(c:MT)(f:ME)(us:List D)(J:List D->En->Prop):En->Prop:=fun en=>W (c en) (vX f us J)
def kWh(b:MS)(J:En->Prop)(Q:Fl->Prop):Bool×En->Prop:=fun r=>if r.1 then W (b r.2) (kIt J Q)else Q (.nx r.2)
def kFg(b:MS)(J:En->Prop)(Q:Fl->Prop):En->Prop:=fun en=>W (b en) (kIt J Q)
def kGs(q:List D->En->Option En)(ts:List D)(Q:En->Prop):En->Prop:=fun en=>W (q ts en) Q
def oR(t:D)(Q:List D->Prop):List D->Prop:=fun ts=>Q (t::ts)
def HJ(r:List (D ⊕ Nat))(en:En)(Q:List D->Prop):D->Prop:=fun t=>W (fV r en) (oR t Q)
def bu{α:Type}(ts:List α)(n:Nat):atI ts (n:Int)=ts[n]?:=by
 unfold atI ixN;rw[if_pos (by omega)];by_cases h:n<ts.length
 ·rw[if_pos (by omega)];rfl
 ·rw[if_neg (by omega),zbj (by omega)];rfl
def rW{ts:List D}{t:D}(n:Nat)(h:n<ts.length):km ts (n:Int) t=some (ts.set n t):=by
 unfold km ixN;rw[if_pos (by omega),if_pos (by omega)];rfl
def uX(a b:Int):(a==b)=decide (a=b):=by
 by_cases h:a=b
 ·rw[h,zaB rfl];exact beq_self_eq_true b
 ·rw[zaA h];exact zbR.mpr h
def Ev(a b:Bool):eqD (.bool a) (.bool b)=some (.bool (a==b)):=by
 show grd _ _=_;unfold grd;rw[if_pos ⟨rfl,rfl,zbh _⟩];simp only[peq]
def Jb:eqD (.list []) (.list [])=some (.bool true):=by
 show grd _ _=_;unfold grd;rw[if_pos ⟨rfl,rfl,by decide⟩];rfl
def Hn:neD (.list []) (.list [])=some (.bool false):=by
 show grd _ _=_;unfold grd;rw[if_pos ⟨rfl,rfl,by decide⟩];rfl
variable(en:En)(Qs:Fl->Prop)(Qe:D×En->Prop)(Qb:Bool×En->Prop)(Qa:List (D ⊕ Nat)×En->Prop)(Ql:List D×En->Prop)(Qd:D->Prop)(Qt:List D->Prop)(Qn:En->Prop)(f:ME)(g:MG)(fa:MA)(c:MT)(ts:List D)(i:Nat)
def ws0(α:Type)(a:α)(Q:α->Prop):W (some a) Q=Q a:=aF _ _
def ws1(a:Option D)(l:En):gv (a::l) 0=a:=rfl
def ws2(a:Option D)(l:En):gv (a::l) (i+1)=gv l i:=rfl
def ws3(a b:Option D)(l:En):List.set (a::l) 0 b=b::l:=rfl
def ws4(a b:Option D)(l:En):List.set (a::l) (i+1) b=a::List.set l i b:=rfl
def ws5(a b:MS):W (ak a b en) Qs=W (a en) (sO b Qs):=aA _ _ _
def ws6(b:MS):sO b Qs (.nx en)=W (b en) Qs:=rfl
def ws7(b:MS)(t:D):sO b Qs (.rt t en)=Qs (.rt t en):=aF _ _
def ws8(b:MS):sO b Qs (.ct en)=Qs (.ct en):=aF _ _
def ws9:W (aw i f en) Qs=W (f en) (Hz i Qs):=bQ _ _ _
def GA(t:D):Hz i Qs (t,en)=Qs (.nx (en.set i (some t))):=rfl
def Gz:W (b4 f en) Qs=W (f en) (HF Qs):=bQ _ _ _
def Gy(t:D):HF Qs (t,en)=Qs (.nx en):=rfl
def Gx:W (aS f en) Qs=W (f en) (HA Qs):=bQ _ _ _
def Gw(t:D):HA Qs (t,en)=Qs (.rt t en):=rfl
def Gv:W (bd en) Qs=Qs (.nx en):=aF _ _
def Gu:W (oF en) Qs=Qs (.ct en):=aF _ _
def Gs(a b:MS):W (sIf c a b en) Qs=W (c en) (kIf a b Qs):=aA _ _ _
def Gq(β:Type)(a b:En->Option β)(Q:β->Prop):kIf a b Q (true,en)=W (a en) Q:=rfl
def Gp(β:Type)(a b:En->Option β)(Q:β->Prop):kIf a b Q (false,en)=W (b en) Q:=rfl
def Go(fi:MI)(b:MS):W (bq fi g b en) Qs=W (fi en) (HE g b Qs):=aA _ _ _
def Gn(b:MS):HE g b Qs (ts,en)=W (ck g b ts en) Qs:=rfl
def Gm(b:MS):W (ck g b [] en) Qs=Qs (.nx en):=aF _ _
def Gk(b:MS)(t:D):W (ck g b (t::ts) en) Qs=W (g t en) (Cu g b ts Qs):=(aA _ _ _).trans (congrArg _ (funext fun z=>aA _ _ _))
def Gj(b:MS):Cu g b ts Qs en=W (b en) (oQ g b ts Qs):=rfl
def Gi(b:MS):oQ g b ts Qs (.nx en)=W (ck g b ts en) Qs:=rfl
def Gh(b:MS):oQ g b ts Qs (.ct en)=W (ck g b ts en) Qs:=rfl
def Gg(b:MS)(t:D):oQ g b ts Qs (.rt t en)=Qs (.rt t en):=aF _ _
def Gf:W (nL f g en) Qs=W (f en) (HI g Qs):=(aA _ _ _).trans (congrArg _ (funext fun z=>bQ _ _ _))
def Ge(t:D):HI g Qs (t,en)=W (g t en) (kNx Qs):=rfl
def Gd:kNx Qs en=Qs (.nx en):=rfl
def Gc(t:D):W (gN i t en) Qn=Qn (en.set i (some t)):=aF _ _
def Gb(g:List D->En->Option En):W (gT g (.tuple ts) en) Qn=W (g ts en) Qn:=rfl
def Ga(q:List D->En->Option En)(t:D):W (gsC g q (t::ts) en) Qn=W (g t en) (kGs q ts Qn):=aA _ _ _
def F9(q:List D->En->Option En):kGs q ts Qn en=W (q ts en) Qn:=rfl
def F8:W (gs0 [] en) Qn=Qn en:=aF _ _
def F7(fk fe:ME):W (gU i fk fe en) Qs=W (fe en) (vV i fk Qs):=aA _ _ _
def FZ(fk:ME)(t:D):vV i fk Qs (t,en)=W (gv en i) (xA i t fk en Qs):=by unfold vV gv;cases h:(en[i]?).join with|none=>simp only[h,bK]|some x=>simp only[h,aF];exact aA _ _ _
def FY(t:D)(fk:ME)(x:D):xA i t fk en Qs x=W (fk en) (oP i t Qs):=rfl
def FX(t:D)(n:Int):oP i t Qs (.int n,en)=W (gv en i) (sN i t n en Qs):=by unfold oP gv;cases h:(en[i]?).join with|none=>simp only[h,bK]|some x=>simp only[h,aF];cases x<;>first|rfl|exact(aF _ _).symm | (rw[aF];rfl) | (rw[aF];exact bK _)
def FW(t:D)(n:Int):sN i t n en Qs (.list ts)=W (km ts n t) (zb i en Qs):=by unfold sN km zb;dsimp only;rw[bQ,bQ]
def FV:zb i en Qs ts=Qs (.nx (en.set i (some (.list ts)))):=rfl
def FU(x0 t:D)(l:List D):km (x0::l) 0 t=some (t::l):=rW 0 (by simp only[zac];omega)
def FT(x0 x1 t:D)(l:List D):km (x0::x1::l) 1 t=some (x0::t::l):=rW 1 (by simp only[zac];omega)
def FS:W (aa i en) Qe=W (gv en i) (kF en Qe):=bQ _ _ _
def FR(t:D):kF en Qe t=Qe (t,en):=rfl
def FQ:W (eMv i en) Qe=W (gv en i) (kMv i en Qe):=bQ _ _ _
def FP(t:D):kMv i en Qe t=Qe (t,en.set i none):=rfl
def FO(t:D):W (eC t en) Qe=Qe (t,en):=aF _ _
def FN(g:D->Option D):W (e1 g f en) Qe=W (f en) (k1 g Qe):=(aA _ _ _).trans (congrArg _ (funext fun z=>bQ _ _ _))
def FM(g:D->Option D)(t:D):k1 g Qe (t,en)=W (g t) (kF en Qe):=rfl
def FK(g:D->D->Option D)(f1 f2:ME):W (e2 g f1 f2 en) Qe=W (f1 en) (k2 g f2 Qe):=(aA _ _ _).trans (congrArg _ (funext fun z=>(aA _ _ _).trans (congrArg _ (funext fun y=>bQ _ _ _))))
def FJ(g:D->D->Option D)(f2:ME)(t:D):k2 g f2 Qe (t,en)=W (f2 en) (k2b g t Qe):=rfl
def FI(g:D->D->Option D)(t u:D):k2b g t Qe (u,en)=W (g t u) (kF en Qe):=rfl
def FH(f g:ME):W (l6 f g en) Qe=W (f en) (zh g Qe):=aA _ _ _
def FG(g:ME):zh g Qe (.bool true,en)=W (g en) Qe:=rfl
def FF(g:ME):zh g Qe (.bool false,en)=Qe (.bool false,en):=aF _ _
def FE(f g:ME):W (eOr f g en) Qe=W (f en) (kOr g Qe):=aA _ _ _
def FD(g:ME):kOr g Qe (.bool true,en)=Qe (.bool true,en):=aF _ _
def FC(g:ME):kOr g Qe (.bool false,en)=W (g en) Qe:=rfl
def FA:W (qi f en) Qe=W (f en) (HB Qe):=aA _ _ _
def Fy(x:Bool):HB Qe (.bool x,en)=Qe (.bool (!x),en):=aF _ _
def Fx:W (tV f en) Qb=W (f en) (kTV Qb):=aA _ _ _
def Fw(x:Bool):kTV Qb (.bool x,en)=Qb (x,en):=aF _ _
def Fv(f g:MT):W (dv f g en) Qb=W (f en) (v6 g Qb):=aA _ _ _
def Fu(g:MT):v6 g Qb (true,en)=W (g en) Qb:=rfl
def Ft(g:MT):v6 g Qb (false,en)=Qb (false,en):=aF _ _
def Fs(f g:MT):W (bOr f g en) Qb=W (f en) (HH g Qb):=aA _ _ _
def Fq(g:MT):HH g Qb (false,en)=W (g en) Qb:=rfl
def Fp(f:MT):W (fU f en) Qb=W (f en) (Cw Qb):=bQ _ _ _
def Fo(x:Bool):Cw Qb (x,en)=Qb (!x,en):=rfl
def Fm:W (cY en) Qb=Qb (true,en):=aF _ _
def Fk:W (af en) Qa=Qa ([],en):=aF _ _
def Fj(r:MA):W (ae f r en) Qa=W (f en) (kAC r Qa):=(aA _ _ _).trans (congrArg _ (funext fun z=>bQ _ _ _))
def Fi(r:MA)(t:D):kAC r Qa (t,en)=W (r en) (zn t Qa):=rfl
def Fh(t:D)(as:List (D ⊕ Nat)):zn t Qa (as,en)=Qa (.inl t::as,en):=rfl
def Fg(r:MA):W (bo i r en) Qa=W (gv en i) (kAS i r en Qa):=(aA _ _ _).trans (congrArg _ (funext fun z=>bQ _ _ _))
def Ff(r:MA)(t:D):kAS i r en Qa t=W (r en) (zl i Qa):=rfl
def Fe(as:List (D ⊕ Nat)):zl i Qa (as,en)=Qa (.inr i::as,en):=rfl
def Fd:vals []=some []:=rfl
def Fc(t:D)(r:List (D ⊕ Nat)):W (vals (.inl t::r)) Qt=W (vals r) (oR t Qt):=bQ _ _ _
def Fb(t:D):oR t Qt ts=Qt (t::ts):=rfl
def E9:fV [] en=some []:=rfl
def E8(t:D)(r:List (D ⊕ Nat)):W (fV (.inl t::r) en) Qt=W (fV r en) (oR t Qt):=bQ _ _ _
def E7(r:List (D ⊕ Nat)):W (fV (.inr i::r) en) Qt=W (gv en i) (HJ r en Qt):=(aA _ _ _).trans (congrArg _ (funext fun z=>bQ _ _ _))
def E6(t:D)(r:List (D ⊕ Nat)):HJ r en Qt t=W (fV r en) (oR t Qt):=rfl
def E5(r:List (D ⊕ Nat))(o:Option D)(ψ:En):wb (.inr i::r) (o::ψ) en=wb r ψ (en.set i o):=rfl
def E4(t:D)(r:List (D ⊕ Nat))(o:Option D)(ψ:En):wb (.inl t::r) (o::ψ) en=wb r ψ en:=rfl
def E3(ψ:En):wb [] ψ en=en:=rfl
def E2(g:List D->Option D):W (eN g fa en) Qe=W (fa en) (kN g Qe):=(aA _ _ _).trans (congrArg _ (funext fun z=>(aA _ _ _).trans (congrArg _ (funext fun y=>bQ _ _ _))))
def EZ(g:List D->Option D)(as:List (D ⊕ Nat)):kN g Qe (as,en)=W (vals as) (kN2 g en Qe):=rfl
def EY(g:List D->Option D):kN2 g en Qe ts=W (g ts) (kF en Qe):=rfl
def EX:W (aV fa en) Qe=W (fa en) (HC Qe):=(aA _ _ _).trans (congrArg _ (funext fun z=>aA _ _ _))
def EW(as:List (D ⊕ Nat)):HC Qe (as,en)=W (vals as) (vW en Qe):=rfl
def EV:vW en Qe ts=(ts.length<=sizeLine/\Qe (.list ts,en)):=jG _ _ _
def EU:W (iF fa en) Qe=W (fa en) (Hy Qe):=(aA _ _ _).trans (congrArg _ (funext fun z=>aA _ _ _))
def ET(as:List (D ⊕ Nat)):Hy Qe (as,en)=W (vals as) (vU en Qe):=rfl
def ES:vU en Qe ts=(ts.length<=sizeLine/\Qe (.tuple ts,en)):=jG _ _ _
def ER:(([]:List D).length<=sizeLine)=True:=eq_true (zau (by show 0<=100;decide) oE)
def EQ(x0:D):(([x0]:List D).length<=sizeLine)=True:=eq_true (zau (by show 1<=100;decide) oE)
def Ca(x0 x1:D):(([x0,x1]:List D).length<=sizeLine)=True:=eq_true (zau (by show 2<=100;decide) oE)
def B9(x0 x1 x2 x3:D):(([x0,x1,x2,x3]:List D).length<=sizeLine)=True:=eq_true (zau (by show 4<=100;decide) oE)
def B8(F:List D->Option (D×En)):W (aE F fa en) Qe=W (fa en) (Cv F Qe):=(aA _ _ _).trans (congrArg _ (funext fun z=>(aA _ _ _).trans (congrArg _ (funext fun y=>bQ _ _ _))))
def B7(F:List D->Option (D×En))(as:List (D ⊕ Nat)):Cv F Qe (as,en)=W (fV as en) (sR F as en Qe):=rfl
def B6(F:List D->Option (D×En))(as:List (D ⊕ Nat)):sR F as en Qe ts=W (F ts) (sP as en Qe):=rfl
def B5(as:List (D ⊕ Nat))(t:D)(ψ:En):sP as en Qe (t,ψ)=Qe (t,wb as ψ en):=rfl
def B4(q:Bool)(fi:MI)(js:List (Option Nat)):W (eLC q fi g c f js en) Qe=W (fi en) (kLC q g c f js Qe):=(aA _ _ _).trans (congrArg _ (funext fun z=>bQ _ _ _))
def B3(q:Bool)(js:List (Option Nat)):kLC q g c f js Qe (ts,en)=W (lcF g c f ts [] (cC js en)) (vY q js en Qe):=rfl
def B1(js:List (Option Nat))(us:List D)(ex:En):vY true js en Qe (us,ex)=Qe (.list us,en):=rfl
def B0(js:List (Option Nat))(us:List D)(ex:En):vY false js en Qe (us,ex)=Qe (.list us,wbB js ex en):=rfl
def BZ:cC [] en=[]:=rfl
def BY(j:Nat)(js:List (Option Nat)):cC (some j::js) en=gv en j::cC js en:=rfl
def BX(js:List (Option Nat)):cC (none::js) en=none::cC js en:=rfl
def BW(j:Nat)(js:List (Option Nat))(o:Option D)(ex:En):wbB (some j::js) (o::ex) en=wbB js ex (en.set j o):=rfl
def BV(js:List (Option Nat))(o:Option D)(ex:En):wbB (none::js) (o::ex) en=wbB js ex en:=rfl
def BU(ex:En):wbB [] ex en=en:=rfl
def BT:W (lcF g c f [] acc en) Ql=Ql (acc,en):=aF _ _
def BS:W (bh f en) Ql=W (f en) (HL Ql):=aA _ _ _
def BR:HL Ql (.list ts,en)=Ql (ts,en):=aF _ _
def BQ:W (da fa en) Ql=W (fa en) (kR1 Ql):=aA _ _ _
def BP(j:Int):kR1 Ql ([.inl (.int j)],en)=((-(2 ^ 62)<=j/\j<2 ^ 62)/\Ql (jD 0 j.toNat,en)):=jG _ _ _
def BO:W (lX fa en) Ql=W (fa en) (kR2 Ql):=aA _ _ _
def BN(i j:Int):kR2 Ql ([.inl (.int i),.inl (.int j)],en)=((-(2 ^ 62)<=i/\i<2 ^ 62/\-(2 ^ 62)<=j/\j<2 ^ 62)/\Ql (jD i (j-i).toNat,en)):=jG _ _ _
def BM:W (fQ fa en) Ql=W (fa en) (kEn Ql):=aA _ _ _
def BL:kEn Ql ([.inl (.list ts)],en)=Ql (fh ts,en):=aF _ _
def BK:W (i9 i f en) Qe=W (gv en i) (Cr i f en Qe):=(aA _ _ _).trans (congrArg _ (funext fun z=>aA _ _ _))
def BJ(x:D):Cr i f en Qe x=W (f en) (oN i Qe):=rfl
def BI(n:Int):oN i Qe (.int n,en)=W (gv en i) (xr n en Qe):=by unfold oN gv;cases h:(en[i]?).join with|none=>simp only[h,bK]|some x=>simp only[h,aF];cases x<;>first|rfl|exact(aF _ _).symm | (rw[aF];rfl) | (rw[aF];exact bK _)
def BH(n:Int):xr n en Qe (.list ts)=W (atI ts n) (kF en Qe):=bQ _ _ _
def BG:W (b9 i f en) Qe=W (gv en i) (HK i f en Qe):=by unfold gv b9;cases(en[i]?).join with|none=>rw[bK,bK]|some x=>cases x<;>first|rfl|exact(aF _ _).symm | (rw[aF];rfl) | (rw[aF];exact bK _)
def BF:HK i f en Qe (.list ts)=W (f en) (v7 i Qe):=aA _ _ _
def BE(t:D):v7 i Qe (t,en)=W (gv en i) (Cy i t en Qe):=by unfold v7 gv;cases h:(en[i]?).join with|none=>simp only[h,bK]|some x=>simp only[h,aF];cases x<;>first|rfl|exact(aF _ _).symm | (rw[aF];rfl) | (rw[aF];exact bK _)
def BD(t:D):Cy i t en Qe (.list ts)=(ts.length<sizeLine/\Qe (.none,en.set i (some (.list (ts++[t]))))):=jG _ _ _
def BC(g g2:D->D->Option D)(f1 f2 f3:ME):W (jW g g2 f1 f2 f3 en) Qe=W (f1 en) (kCh g g2 f2 f3 Qe):=(aA _ _ _).trans (congrArg _ (funext fun z=>(aA _ _ _).trans (congrArg _ (funext fun y=>aA _ _ _))))
def BB(g g2:D->D->Option D)(f2 f3:ME)(t:D):kCh g g2 f2 f3 Qe (t,en)=W (f2 en) (zg g g2 f3 t Qe):=rfl
def BA(g g2:D->D->Option D)(f3:ME)(t u:D):zg g g2 f3 t Qe (u,en)=W (g t u) (zd g2 u f3 en Qe):=rfl
def Bz(g:D->D->Option D)(u:D)(f3:ME):zd g u f3 en Qe (.bool true)=W (f3 en) (k2b g u Qe):=(aA _ _ _).trans (congrArg _ (funext fun z=>bQ _ _ _))
def By:W (dJ i f en) Qe=W (gv en i) (kDg f i en Qe):=(aA _ _ _).trans (congrArg _ (funext fun z=>aA _ _ _))
def Bx(x:D):kDg f i en Qe x=W (f en) (vZ i Qe):=rfl
def Bw(q:D):vZ i Qe (q,en)=W (gv en i) (HG q en Qe):=by unfold vZ gv;cases h:(en[i]?).join with|none=>simp only[h,bK]|some x=>simp only[h,aF];cases x<;>first|rfl|exact(aF _ _).symm | (rw[aF];rfl) | (rw[aF];exact bK _)
def Bv(J:En->Prop):kIt J Qs (.nx en)=J en:=rfl
def Bu(J:En->Prop):kIt J Qs (.ct en)=J en:=rfl
def Bt(J:En->Prop)(t:D):kIt J Qs (.rt t en)=Qs (.rt t en):=rfl
def Br(b:MS)(J:En->Prop):kFg b J Qs en=W (b en) (kIt J Qs):=rfl
def Bq(b:MS)(J:En->Prop):kWh b J Qs (true,en)=W (b en) (kIt J Qs):=rfl
def Bp(b:MS)(J:En->Prop):kWh b J Qs (false,en)=Qs (.nx en):=rfl
def Bo(us:List D)(J:List D->En->Prop):HD c f us J en=W (c en) (vX f us J):=rfl
def Bn(us:List D)(J:List D->En->Prop):vX f us J (true,en)=W (f en) (zc us J):=rfl
def Bm(us:List D)(J:List D->En->Prop):vX f us J (false,en)=J us en:=rfl
def Bk(us:List D)(J:List D->En->Prop)(t:D):zc us J (t,en)=J (us++[t]) en:=rfl
def Bj(n:Nat)(dps:List Nat)(b:MS):W (fnF n dps b ts) Qe=W (b (ts.map some++List.replicate n none)) (kFn dps Qe):=aA _ _ _
def Bi(dps:List Nat)(t:D):kFn dps Qe (.rt t en)=Qe (t,msk dps en):=aF _ _
def Bh(dps:List Nat):kFn dps Qe (.nx en)=Qe (.none,msk dps en):=aF _ _
def Bg(d:Nat)(ds:List Nat)(o:Option D):msk ((d+1)::ds) (o::en)=o::msk ds en:=rfl
def Bf(ds:List Nat)(o:Option D):msk (0::ds) (o::en)=none::msk ds en:=rfl
def Be:msk [] en=[]:=rfl
def Bd(t:D):List.map some (t::ts)=some t::List.map some ts:=rfl
def Bc:List.map (some:D->Option D) []=[]:=rfl
def Bb(a:Option D)(l m:En):(a::l)++m=a::(l++m):=rfl
def Ba(m:En):([]:En)++m=m:=rfl
def A9(a:Option D):List.replicate 0 a=[]:=rfl
def A8(a:Option D)(n:Nat):List.replicate (n+1) a=a::List.replicate n a:=rfl
def A7(a b:Int):bH (.int a) (.int b)=some (.int (a+b)):=rfl
def A6(a b:Int):pS (.int a) (.int b)=some (.int (a-b)):=rfl
def A5(a b:Int):W (cg (.int a) (.int b)) Qd=(CMul a b/\Qd (.int (a*b))):=jG _ _ _
def A4(a b:Int):W (jv (.int a) (.int b)) Qd=(oB a b/\Qd (.int (a / b))):=jG _ _ _
def A3(a b:Int):W (bR (.int a) (.int b)) Qd=(0<b/\Qd (.int (a % b))):=jG _ _ _
def A2(a b:Int):W (pX (.int a) (.int b)) Qd=(jK a b/\Qd (.int (a ^ b.toNat))):=jG _ _ _
def A1(a b:Int):ltI (.int a) (.int b)=some (.bool (decide (a<b))):=rfl
def AZ(a b:Int):leI (.int a) (.int b)=some (.bool (decide (a<=b))):=rfl
def AY(a b:Int):gtI (.int a) (.int b)=some (.bool (decide (b<a))):=rfl
def AX(a b:Int):geI (.int a) (.int b)=some (.bool (decide (b<=a))):=rfl
def AW(a b:Int):eqD (.int a) (.int b)=some (.bool (decide (a=b))):=(Jc a b).trans (congrArg (fun q=>some (PyData.bool q)) (uX a b))
def AV(a b:Int):neD (.int a) (.int b)=some (.bool (!decide (a=b))):=(Ho a b).trans (congrArg (fun q=>some (PyData.bool (!q))) (uX a b))
def AU:iC .none .none=some (.bool false):=rfl
def AT(x:Int):iC (.int x) .none=some (.bool true):=rfl
def AR(x:Int):fy "int" (.int x)=some (.bool true):=(if_neg (fun z=>nomatch z)).trans (congrArg (fun b=>some (PyData.bool b)) (show kH "int" "int"=true by decide))
def AQ(x:Int):fy "bool" (.int x)=some (.bool false):=(if_neg (fun z=>nomatch z)).trans (congrArg (fun b=>some (PyData.bool b)) (show kH "int" "bool"=false by decide))
def AO(x:Bool):fy "bool" (.bool x)=some (.bool true):=(if_neg (fun z=>nomatch z)).trans (congrArg (fun b=>some (PyData.bool b)) (show kH "bool" "bool"=true by decide))
def AN(x:List D):fy "list" (.list x)=some (.bool true):=(if_neg (fun z=>nomatch z)).trans (congrArg (fun b=>some (PyData.bool b)) (show kH "list" "list"=true by decide))
def AM(x:List D):fy "tuple" (.tuple x)=some (.bool true):=(if_neg (fun z=>nomatch z)).trans (congrArg (fun b=>some (PyData.bool b)) (show kH "tuple" "tuple"=true by decide))
def AL(x0 x1:D):((([x0,x1]:List D).length:Nat):Int)=2:=rfl
def AK(α β:Type)(f:α->β)(l:List α):(l.map f).length=l.length:=zad f
def AJ:aZ [.list ts]=some (.int ts.length):=rfl
def AI:aZ [.tuple ts]=some (.int ts.length):=rfl
def AH(a:Int):kW [.int a]=some (.int (if a<0 then -a else a)):=rfl
def AG(a b:Int):vP [.int a,.int b]=some (.int (if b>a then b else a)):=rfl
def AF:qf [.bool true]=some (.int 1):=rfl
def AE:qf [.bool false]=some (.int 0):=rfl
def AD(a:Int):yZ (.int a)=some (.int (-a)):=rfl
def AC(n:Int):ixA (.list ts) (.int n)=atI ts n:=rfl
def AB(n:Int):ixA (.tuple ts) (.int n)=atI ts n:=rfl
def AA(ts us:List D):W (wu (.list ts) (.list us)) Qd=(ts.length+us.length<=sizeLine/\Qd (.list (ts++us))):=jG _ _ _
def Az:atI ts 0=ts[0]?:=bu ts _
def Ay:atI ts 1=ts[1]?:=bu ts _
def Ax(t:D):(t::ts)[0]?=some t:=rfl
def Aw(t:D):(t::ts)[i+1]?=ts[i]?:=List.getElem?_cons_succ
def Av(a b:Bool):eqD (.bool a) (.bool b)=some (.bool (a==b)):=Ev a b
def Au:neD (.list []) (.list [])=some (.bool false):=Hn
def At:eqD (.list []) (.list [])=some (.bool true):=Jb
def As(m:List D):([]++m:List D)=m:=rfl
def Ar(x:D)(l m:List D):((x::l)++m:List D)=x::(l++m):=rfl
def Aq:(!true)=false:=rfl
def Ap:(!false)=true:=rfl
def Ao(p:Prop):(True/\p)=p:=true_and p
def An(p:Prop):(p/\True)=p:=and_true p
def Am(_:Decidable True):decide True=true:=zaB trivial
def Ak(_:Decidable False):decide False=false:=zaA (fun z=>z)
end
def zzI{a b:Prop}(x:a)(y:b):a/\b:=⟨x,y⟩
def EO:=zzI @ws0 (zzI @ws1 (zzI @ws2 (zzI @ws3 (zzI @ws4 (zzI @ws5 (zzI @ws6 (zzI @ws7 (zzI @ws8 (zzI @ws9 (zzI @GA (zzI @Gz (zzI @Gy (zzI @Gx (zzI @Gw (zzI @Gv (zzI @Gu (zzI @Gs (zzI @Gq (zzI @Gp (zzI @Go (zzI @Gn (zzI @Gm (zzI @Gk (zzI @Gj (zzI @Gi (zzI @Gh (zzI @Gg (zzI @Gf (zzI @Ge (zzI @Gd (zzI @Gc (zzI @Gb (zzI @Ga (zzI @F9 (zzI @F8 (zzI @F7 (zzI @FZ (zzI @FY @FX))))))))))))))))))))))))))))))))))))))
def EN:=zzI @FW (zzI @FV (zzI @FU (zzI @FT (zzI @FS (zzI @FR (zzI @FQ (zzI @FP (zzI @FO (zzI @FN (zzI @FM (zzI @FK (zzI @FJ (zzI @FI (zzI @FH (zzI @FG (zzI @FF (zzI @FE (zzI @FD (zzI @FC (zzI @FA (zzI @Fy (zzI @Fx (zzI @Fw (zzI @Fv (zzI @Fu (zzI @Ft (zzI @Fs (zzI @Fq (zzI @Fp (zzI @Fo (zzI @Fm (zzI @Fk (zzI @Fj (zzI @Fi (zzI @Fh (zzI @Fg (zzI @Ff (zzI @Fe @Fd))))))))))))))))))))))))))))))))))))))
def EM:=zzI @Fc (zzI @Fb (zzI @E9 (zzI @E8 (zzI @E7 (zzI @E6 (zzI @E5 (zzI @E4 (zzI @E3 (zzI @E2 (zzI @EZ (zzI @EY (zzI @EX (zzI @EW (zzI @EV (zzI @EU (zzI @ET (zzI @ES (zzI @ER (zzI @EQ (zzI @Ca (zzI @B9 (zzI @B8 (zzI @B7 (zzI @B6 (zzI @B5 (zzI @B4 (zzI @B3 (zzI @B1 (zzI @B0 (zzI @BZ (zzI @BY (zzI @BX (zzI @BW (zzI @BV (zzI @BU (zzI @BT (zzI @BS (zzI @BR @BQ))))))))))))))))))))))))))))))))))))))
def EK:=zzI @BP (zzI @BO (zzI @BN (zzI @BM (zzI @BL (zzI @BK (zzI @BJ (zzI @BI (zzI @BH (zzI @BG (zzI @BF (zzI @BE (zzI @BD (zzI @BC (zzI @BB (zzI @BA (zzI @Bz (zzI @By (zzI @Bx (zzI @Bw (zzI @Bv (zzI @Bu (zzI @Bt (zzI @Br (zzI @Bq (zzI @Bp (zzI @Bo (zzI @Bn (zzI @Bm (zzI @Bk (zzI @Bj (zzI @Bi (zzI @Bh (zzI @Bg (zzI @Bf (zzI @Be (zzI @Bd (zzI @Bc (zzI @Bb @Ba))))))))))))))))))))))))))))))))))))))
def EJ:=zzI @A9 (zzI @A8 (zzI @A7 (zzI @A6 (zzI @A5 (zzI @A4 (zzI @A3 (zzI @A2 (zzI @A1 (zzI @AZ (zzI @AY (zzI @AX (zzI @AW (zzI @AV (zzI @AU (zzI @AT (zzI @AR (zzI @AQ (zzI @AO (zzI @AN (zzI @AM (zzI @AL (zzI @AK (zzI @AJ (zzI @AI (zzI @AH (zzI @AG (zzI @AF (zzI @AE (zzI @AD (zzI @AC (zzI @AB (zzI @AA (zzI @Az (zzI @Ay (zzI @Ax (zzI @Aw (zzI @Av (zzI @Au @At))))))))))))))))))))))))))))))))))))))
def EH:=zzI @As (zzI @Ar (zzI @Aq (zzI @Ap (zzI @Ao (zzI @An (zzI @Am @Ak))))))
def ws:=zzI @EO (zzI @EN (zzI @EM (zzI @EK (zzI @EJ @EH))))
end L2
namespace L2
namespace Pen3
open PySem L2
def sl1000:1000<=sizeLine:=by rw[sizeLine_eq];decide
end Pen3
end L2
namespace L2
variable{g:MG}{b:MS}{ts:List D}{en:En}{Q:List D×En->Prop}{c:MT}{f:ME}{n:Nat}{o:Option D}{i:Int}
open PySem PySem.Spec PyProof.Rows
def bw{Q:Fl->Prop}(I:Nat->En->Prop)(h0:I 0 en)
  (hs:∀i t en,ts[i]?=some t->I i en->W (g t en) (kFg b (I (i+1)) Q)) (hq:∀en,I ts.length en->Q (.nx en)):W (ck g b ts en) Q:=by
 suffices ∀(us:List D) (i:Nat) (en:En),ts.drop i=us->i<=ts.length->I i en->W (ck g b us en) Q from this ts 0 en rfl (zbh _) h0
 intro us
 induction us with
 |nil=>
  intro i en hu hi h
  have:ts.length-i=0:=by rw[<-zaF,hu];rfl
  simp only[ws];exact hq en (by rw[show ts.length=i by omega];exact h)
 |cons t us ih=>
  intro i en hu hi h;have ht:ts[i]?=some t:=by
   have:(ts.drop i)[0]?=some t:=by rw[hu];rfl
   rw[List.getElem?_drop]at this;exact this
  have hl:i<ts.length:=(zah.mp ht).1;have hd:ts.drop (i+1)=us:=by rw[<-List.drop_drop,hu];rfl
  simp only[ws];refine(hs i t en ht h).use fun en1 h1=>?_;simp only[ws]at h1 ⊢;refine h1.use fun fl h2=>?_;cases fl with
  |nx e=>simp only[ws]at h2 ⊢;exact ih (i+1) e hd hl h2
  |ct e=>simp only[ws]at h2 ⊢;exact ih (i+1) e hd hl h2
  |rt t e=>simp only[ws]at h2 ⊢;exact h2
def Lg(I:Nat->List D->En->Prop)(hz:ts.length<=sizeLine)(h0:I 0 [] en)
  (hs:∀i t us en,ts[i]?=some t->us.length<=i->I i us en->W (g t en) (HD c f us (I (i+1)))) (hq:∀us en,us.length<=ts.length->I ts.length us en->Q (us,en)):W (lcF g c f ts [] en) Q:=by
 suffices ∀(vs:List D) (i:Nat) (us:List D) (en:En),ts.drop i=vs->i<=ts.length->us.length<=i->I i us en->W (lcF g c f vs us en) Q from this ts 0 [] en rfl (zbh _) (zbh _) h0
 intro vs
 induction vs with
 |nil=>
  intro i us en hu hi hl h
  have:ts.length-i=0:=by rw[<-zaF,hu];rfl
  simp only[ws];exact hq us en (by omega) (by rw[show ts.length=i by omega];exact h)
 |cons t vs ih=>
  intro i us en hu hi hl h;have ht:ts[i]?=some t:=by
   have:(ts.drop i)[0]?=some t:=by rw[hu];rfl
   rw[List.getElem?_drop]at this;exact this
  have hlt:i<ts.length:=(zah.mp ht).1;have hd:ts.drop (i+1)=vs:=by rw[<-List.drop_drop,hu];rfl
  unfold lcF;rw[aA];refine(hs i t us en ht hl h).use fun en1 h1=>?_;simp only[ws]at h1;rw[aA];refine h1.use fun r h2=>?_;obtain⟨x,en2⟩:=r;cases x with
  |true=>
   simp only[ws]at h2;show W ((f en2).bind _) Q;rw[aA];refine h2.use fun q h3=>?_;obtain⟨u,en3⟩:=q;simp only[ws]at h3;show W (if us.length<sizeLine then _ else _) Q;rw[if_pos (by omega)];exact ih (i+1) _ _ hd hlt (by rw[zae];show _+1<=_;omega) h3
  |false=>
   simp only[ws]at h2;exact ih (i+1) _ _ hd hlt (by omega) h2
def j4{Q:Fl->Prop}(I:Nat->En->Prop)(hs:∀n en,I n en->W (c en) (kWh b (fun e=>∃m,m<n/\I m e) Q))(h0:I n en):W (b6 c b en) Q:=by
 induction n using Nat.strongRecOn generalizing en with
 |_ n ih=>
  obtain⟨⟨x,en1⟩,e1,h1⟩:=(hs n en h0).ex;cases x with
  |false=>simp only[ws]at h1;exact W.of (ud e1) h1
  |true=>
   simp only[ws]at h1;obtain⟨fl,e2,h2⟩:=h1.ex;cases fl with
   |nx e=>
    obtain⟨m,hm,hi⟩:∃m,m<n/\I m e:=h2;obtain⟨fl,e3,h3⟩:=(ih m hm hi).ex;exact W.of (uf e1 e2 e3) h3
   |ct e=>
    obtain⟨m,hm,hi⟩:∃m,m<n/\I m e:=h2;obtain⟨fl,e3,h3⟩:=(ih m hm hi).ex;obtain⟨k,h4⟩:=jC e3;refine W.of (jp (n:=k+1) ?_) h3;unfold whN;rw[e1];show(b en1).bind _=_;rw[e2];exact h4
   |rt t e=>
    refine W.of (jp (n:=1) ?_) (show Q (.rt t e)from h2);unfold whN;rw[e1];show(b en1).bind _=_;rw[e2];rfl
def eZ{rest:En}(F:D->D)(hz:ts.length<=sizeLine)(hf:∀t∈ts,W (f (some t::rest)) (fun r=>r=(F t,some t::rest)))(hq:∀o',Q (ts.map F,o'::rest)):W (lcF (gN 0) cY f ts [] (o::rest)) Q:=by
 obtain⟨o',e⟩:=uS (f:=f) (F:=F) (rest:=rest) ts [] o (fun t ht=>by
  obtain⟨r,e,h⟩:=(hf t ht).ex;rw[e,h]) (by simpa using hz)
 exact W.of e (hq o')
def cP{rest:En}(p:D->Bool)(F:D->D)(hz:ts.length<=sizeLine)(hc:∀t∈ts,W (c (some t::rest)) (fun r=>r=(p t,some t::rest)))(hf:∀t∈ts,p t=true->W (f (some t::rest)) (fun r=>r=(F t,some t::rest)))(hq:∀o',Q ((ts.filter p).map F,o'::rest)):W (lcF (gN 0) c f ts [] (o::rest)) Q:=by
 obtain⟨o',e⟩:=iT (c:=c) (f:=f) (p:=p) (F:=F) (rest:=rest) ts [] o (fun t ht=>by
  obtain⟨r,e,h⟩:=(hc t ht).ex;rw[e,h]) (fun t ht hp=>by
  obtain⟨r,e,h⟩:=(hf t ht hp).ex;rw[e,h]) (by simpa using hz)
 exact W.of e (hq o')
def Jk{Q:Fl->Prop}(J:En->Prop)(h0:J en)(hs:∀t∈ts,∀en,J en->W (g t en) (kFg b J Q))(hq:∀en,J en->Q (.nx en)):W (ck g b ts en) Q:=
 bw (fun _=>J) h0 (fun _ t en ht hj=>hs t (zaW ht) en hj) hq
def jP{k:Nat}{t:D}(h:(jD i n)[k]?=some t):k<n/\t=.int (i+(k:Nat)):=by
 unfold jD at h;rw[zao]at h;obtain⟨j,hj,rfl⟩:=zab.mp h;obtain⟨hl,e⟩:=zah.mp hj;rw[List.getElem_range]at e;rw[zbc]at hl;exact⟨hl,by rw[e]⟩
def fH(i:Int)(n:Nat):(jD i n).length=n:=by unfold jD;rw[zad,zbc]
def sz(h:n<=1000):n<=sizeLine:=zau h Pen3.sl1000
def szl(h:n<1000):n<sizeLine:=zag h Pen3.sl1000
def KH{α:Type}{ts:List α}{x:α}(h0:0<=i)(h:ts[i.toNat]?=some x):atI ts i=some x:=by
 obtain⟨n,rfl⟩:=zaL h0;rw[bu];exact h
end L2
set_option maxHeartbeats 1000000
namespace W13
variable{p a:D}{Q:D×En->Prop}{z sh st:Int}{N S:Nat}{G:List D}
open PySem L2
def uU{s u:MS}{K:Fl->Prop}{b:Bool}{en:En}(h1:kIf s u K (true,en))(h2:kIf s u K (false,en)):kIf s u K (b,en):=by
 cases b
 ·exact h2
 ·exact h1
def nU(a b:Int):D:=.list [.int a,.int b]
def IsPen(t:D):Prop:=∃a b,t=nU a b
def de{m:Int}(hp:IsPen p)(h3:0<m)(h4:m<1073741824)(h:∀r p',0<=r->r<m->IsPen p'->Q (.int r,[some p',none])):W (aK [p,.int m]) Q:=by
 obtain⟨a,b,rfl⟩:=hp;have m0:∀z:Int,0<=z % m:=fun z=>Int.emod_nonneg _ (by omega);have m1:∀z:Int,z % m<m:=fun z=>Int.emod_lt_of_pos _ h3;by_cases ha:0<a
 ·simp only[ws,aK,gk,nU,ha,h3,h4];exact⟨⟨h3,h4⟩,h _ _ (m0 _) (m1 _) ⟨_,_,rfl⟩⟩
 ·simp only[ws,aK,gk,nU,ha,h3,h4];refine⟨.inr (by decide),by decide,by decide,.inl ?_,⟨by decide,by decide⟩,by decide,⟨by decide,by decide⟩,h _ _ (m0 _) (m1 _) ⟨_,_,rfl⟩⟩;constructor<;>omega
def wv{ns:List Int}{k:Int}(h0:0<=k)(hl:ns.length<=63)(h:∀p,IsPen p->Q (p,[none,none])):W (F_law_pen [.list (ns.map .int),.int k]) Q:=by
 simp only[ws,F_law_pen,cQ];refine⟨.inl (by decide),?_⟩;have pw:jK 10 18:=by unfold jK;decide
 by_cases hn:(0:Int)<ns.length
 ·obtain⟨c,ec⟩:∃c,atI (ns.map PyData.int) (k % (ns.length:Int))=some (.int c):=by
   have q1:0<=k % (ns.length:Int):=Int.emod_nonneg _ (by omega);have q2:k % (ns.length:Int)<ns.length:=Int.emod_lt_of_pos _ (by omega);refine⟨ns[(k % (ns.length:Int)).toNat]'(by omega),KH q1 ?_⟩;rw[zao,zak (by omega)];rfl
  have cd:oB k (ns.length:Int):=⟨hn,by omega⟩;simp only[ws,hn,ec];refine⟨cd,.inl (by decide),pw,uU ?_ ?_⟩<;>simp only[ws]<;>exact⟨by decide,.inr (by decide),.inl (by decide),by decide,h _ ⟨_,_,rfl⟩⟩
 ·simp only[ws,hn];refine⟨pw,uU ?_ ?_⟩<;>simp only[ws]<;>exact⟨by decide,.inr (by decide),.inl (by decide),by decide,h _ ⟨_,_,rfl⟩⟩
def sT:D->Bool
 |.bool _=>true
 |_=>false
def ju(n:Nat):D->Bool
 |.none=>true
 |.int z=>decide (0<=z)&&decide (z<=(n:Int)-1)
 |_=>false
def mT(m:Int)(n:Nat):D->Bool
 |.list ts=>decide ((ts.length:Int)=m)&&ts.all (ju n)
 |_=>false
def Hk{n:Nat}(h0:0<=z)(h1:z<n):ju n (.int z)=true:=by
 simp only[ju,zbk,decide_eq_true_eq];omega
def EA{b:D}{nu:Int}{ts:List D}{th:Option D}{Q:Fl->Prop}(hp:IsPen p)(hN:1<=N)(hN2:N<=24)(h0:0<=st)(h1:st<N)(hl:ts.length<1000)(hs:0<=sh)
  (h:∀p' v,IsPen p'->ju N v=true->Q (.nx [some p',some a,some b,some (.int N),some (.int z),some (.int sh),some (.list G),some (.int st),some (.list (ts++[v])),some (.int nu),some v,none,none])):
  W (gf [some p,some a,some b,some (.int N),some (.int z),some (.int sh),some (.list G),some (.int st),some (.list ts),some (.int nu),th,none,none]) Q:=by
 simp only[ws,gf];refine de hp (by omega) (by omega) fun r p1 r0 r1 hp1=>?_;have fin:∀r:Int,0<=r->r<N->W ((ak (sIf (tV (e2 ltI (aE aK (bo 0 (ae (eC (.int 12)) af))) (aa 4))) (aw 10 (eC .none)) bd)
 (b4 (b9 8 (aa 10)))) [some p1,some a,some b,some (.int N),some (.int z),some (.int sh),some (.list G),some (.int st),some (.list ts),some (.int nu),some (.int r),none,none]) Q:=fun r r0 r1=>by
  simp only[ws];refine de hp1 (by decide) (by decide) fun x p2 x0 x1 hp2=>?_;have hz:=szl hl;by_cases hx:x<z
  ·simp only[ws,hx,hz];exact h p2 _ hp2 rfl
  ·simp only[ws,hx,hz];exact h p2 _ hp2 (Hk r0 r1)
 have hm:(0:Int)<(N:Int):=by omega
 by_cases c1:sh=1
 ·subst c1;by_cases c2:nu=0
  ·subst c2;simp only[ws,Int.reduceEq,hm]at fin ⊢;exact fin _ (Int.emod_nonneg _ (by omega)) (Int.emod_lt_of_pos _ hm)
  ·simp only[ws,Int.reduceEq,c2]at fin ⊢;exact fin _ r0 r1
 ·by_cases c3:sh=2
  ·subst c3;simp only[ws,Int.reduceEq]at fin ⊢;refine⟨by decide,fin _ ?_ ?_⟩<;>split<;>omega
  ·simp only[ws,c1,c3]at fin ⊢;exact fin _ r0 r1
def rV{us:List D}{k:Nat}{t:D}(h:k<us.length):km us (k:Int) t=some (us.set k t):=by
 unfold km ixN;rw[if_pos (by omega),if_pos (by omega)];rfl
structure Mc(S:Nat)(es gs:List D):Prop where
 s1:1<=S
 s2:S<=12
 ne:1<=es.length
 le:es.length<=12
 gl:gs.length=es.length
 eb:∀u∈es,sT u=true
 gr:∀u∈gs,mT S es.length u=true
def Jz{x y w:Option D}{Q:Fl->Prop}(hp:IsPen p)(hN:1<=N)(hN2:N<=24)(h0:0<=st)(h1:st<N)(hl:G.length<1000)(hs:0<=sh)(hS:S<=12)
  (h:∀p' v x y w,IsPen p'->mT S N v=true->Q (.nx [some p',some a,some (.int S),some (.int N),some (.int z),some (.int sh),some (.list (G++[v])),some (.int st),x,y,w,none,none])):
  W (gc [some p,some a,some (.int S),some (.int N),some (.int z),some (.int sh),some (.list G),some (.int st),x,y,w,none,none]) Q:=by
 simp only[ws,gc,zaK];refine⟨by omega,bw (fun i en=>∃ts p y w,en=[some p,some a,some (.int S),some (.int N),some (.int z),some (.int sh),some (.list G),some (.int st),some (.list ts),y,w,none,none]/\ts.length=i/\ts.all (ju N)=true/\IsPen p) ⟨[],p,y,w,rfl,rfl,rfl,hp⟩ ?_ ?_⟩
 ·rintro i t en ht ⟨ts,p,y,w,rfl,h2,h3,hp⟩;obtain⟨hi,rfl⟩:=jP ht;simp only[ws];refine EA hp hN hN2 h0 h1 (by omega) hs fun p' v hp' hv=>?_;simp only[ws];refine⟨ts++[v],p',_,_,rfl,by rw[zae,h2];rfl,?_,hp'⟩;rw[List.all_append,h3];simp[hv]
 ·rintro en ⟨ts,p,y,w,rfl,h2,h3,hp⟩;rw[fH]at h2;have hz:=szl hl;simp only[ws,hz];refine h p _ _ _ _ hp ?_;simp only[mT,h2,h3,decide_true,zbi]
def JW{M:Nat}(hp:IsPen p)(hM:1<=M)(hM2:M<=12)(hS:1<=S)(hS2:S<=12):
  W (cu [p,.int M,.int S]) (fun r=>∃es gs p',r=(.tuple [.list es,.list gs],[some p',none,none])/\Mc S es gs/\IsPen p'):=by
 simp only[ws,cu,fw];refine de hp (by omega) (by omega) fun r p1 r0 r1 hp1=>?_;obtain⟨N,hN⟩:∃N:Nat,(1+r)=(N:Int):=⟨(1+r).toNat,by omega⟩;simp only[ws,hN];refine de hp1 (by decide) (by decide) fun q p2 q0 q1 hp2=>?_;obtain⟨z,hz⟩:∃z:Int,atI [PyData.int 0,PyData.int 1,PyData.int 5,PyData.int 9] q=some (.int z):=by
  obtain⟨k,rfl⟩:=zaL q0;rw[bu]
  match k,q1 with
  |0,_=>exact⟨_,rfl⟩
  |1,_=>exact⟨_,rfl⟩
  |2,_=>exact⟨_,rfl⟩
  |3,_=>exact⟨_,rfl⟩
  |k+4,h=>exact absurd h (by omega)
 simp only[ws,hz];refine de hp2 (by decide) (by decide) fun sh p3 s0 s1 hp3=>?_;simp only[ws,zaK];refine⟨by omega,bw (fun i en=>∃G p st x y w,en=[some p,some (.int M),some (.int S),some (.int N),some (.int z),some (.int sh),some (.list G),st,x,y,w,none,none]/\G.length=i/\(∀u∈G,mT S N u=true)/\IsPen p) ⟨[],p3,_,_,_,_,rfl,rfl,fun _ h=>(by cases h),hp3⟩ ?_ ?_⟩
 ·rintro i t en ht ⟨G,p,st,x,y,w,rfl,h2,h3,hp⟩;obtain⟨hi,rfl⟩:=jP ht;simp only[ws];refine Jz hp (by omega) (by omega) (by omega) (by omega) (by omega) s0 hS2 fun p' v x y w hp' hv=>?_;simp only[ws];refine⟨G++[v],p',_,_,_,_,rfl,by rw[zae,h2];rfl,fun u hu=>?_,hp'⟩;rcases zax.mp hu with hu|hu
  ·exact h3 u hu
  ·rw[zaH.mp hu];exact hv
 ·rintro en ⟨G,p,st,x,y,w,rfl,h2,h3,hp⟩;rw[fH]at h2;simp only[ws];refine de hp (by decide) (by decide) fun wy p4 w0 w1 hp4=>?_;simp only[ws,zaK];refine⟨by omega,Lg (fun i us en=>∃o p,en=[o,some p,some (.int wy)]/\us.length=i/\(∀u∈us,sT u=true)/\IsPen p) (by rw[fH];exact sz (by omega)) ⟨none,p4,rfl,rfl,fun _ h=>(by cases h),hp4⟩ ?_ ?_⟩
  ·rintro i t us en ht hu ⟨o,p,rfl,h4,h5,hp⟩;have step:∀(b:Bool) (p':D),IsPen p'->∃o p,[some t,some p',some (PyData.int wy)]=[o,some p,some (.int wy)]/\(us++[PyData.bool b]).length=i+1/\(∀u∈us++[PyData.bool b],sT u=true)/\IsPen p:=fun b p' hp'=>by
    refine⟨_,_,rfl,by rw[zae,h4];rfl,fun u hu=>?_,hp'⟩;rcases zax.mp hu with hu|hu
    ·exact h5 u hu
    ·rw[zaH.mp hu];rfl
   simp only[ws,jB];by_cases c1:wy=1
   ·simp only[ws,c1]at step ⊢;exact step _ _ hp
   ·by_cases c2:2<wy
    ·simp only[ws,c1,c2];refine de hp (by omega) (by omega) fun v p' v0 v1 hp'=>?_;simp only[ws];exact step _ _ hp'
    ·simp only[ws,c1,c2];exact step _ _ hp
  ·rintro us en _ ⟨o,p,rfl,h4,h5,hp⟩;rw[fH]at h4;have mc:∀es:List D,es.length=N->(∀u∈es,sT u=true)->Mc S es G:=fun es e1 e2=>⟨hS,hS2,by omega,by omega,by omega,e2,by rw[e1];exact h3⟩;by_cases c1:wy=2
   ·simp only[ws,c1];refine de hp (by omega) (by omega) fun v p' v0 v1 hp'=>?_;obtain⟨k,rfl⟩:=zaL v0;simp only[ws];rw[rV (by omega)];simp only[ws];refine⟨_,_,_,rfl,mc _ (by rw[zaU];exact h4) (fun u hu=>?_),hp'⟩;rcases zbO hu with hu|rfl
    ·exact h5 u hu
    ·rfl
   ·simp only[ws,c1];exact⟨_,_,_,rfl,mc us h4 h5,hp⟩
end W13
set_option maxHeartbeats 4000000
namespace Mch
variable{n:Nat}{es:List Bool}{gs:List (List (Option Nat))}
open PySem L2 Pen2
def jk:MS:=(aS (eLC true (bh (e2 ixA (aa 0) (eC (.int 0)))) (gN 0) cY (eIf (tV (aa 0)) (eC (.int 1)) (eC (.int 0))) [none]))
def oA:List D->Option (D×En):=fnF 0 [0] jk
def wD:MS:=(ak (aw 4 (aE aK (bo 0 (ae (e2 bH (aa 2) (eC (.int 1))) af))))
 (ak (sIf (bOr (tV (e2 eqD (aa 4) (aa 2))) (dv (tV (e2 eqD (aa 3) (eC (.int 1)))) (tV (e2 leI (aa 4) (aa 1))))) (aS (eC .none)) bd)
 (aS (aa 4))))
def wC:List D->Option (D×En):=fnF 1 [1,0,0,0] wD
def fw:MS:=(ak (aw 3 (e2 bH (eC (.int 1)) (aE aK (bo 0 (ae (aa 2) af)))))
 (ak (aw 4 (aE aK (bo 0 (ae (eC (.int 4)) af))))
 (ak (aw 5 (e2 bH (eC (.int 1)) (aE aK (bo 0 (ae (aa 3) af)))))
 (ak (aw 6 (aV af))
 (ak (aw 7 (aV af))
 (ak (bq (da (ae (aa 3) af)) (gN 8) (ak (b4 (b9 6 (e2 eqD (aE aK (bo 0 (ae (eC (.int 3)) af))) (eC (.int 0)))))
 (ak (aw 9 (eLC false (da (ae (aa 1) af)) (gN 0) cY (aE wC (bo 1 (ae (aa 4) (ae (aa 2) (ae (aa 3) af))))) [none,some 0,some 3,some 4,some 8]))
 (ak (sIf (dv (tV (e2 eqD (aa 4) (eC (.int 2)))) (tV (e2 ltI (aa 8) (aa 5)))) (ak (gU 6 (aa 8) (eC (.bool false)))
 (aw 9 (eLC true (bh (aa 9)) (gN 0) cY (e2 ixA (aV (ae (aa 0) (ae (eC .none) af))) (eN qf (ae (eOr (e2 isN (aa 0) (eC .none)) (e2 geI (aa 0) (aa 1))) af))) [none,some 5]))) bd)
 (b4 (b9 7 (aa 9)))))))
 (aS (iF (ae (aa 6) (ae (aa 7) af))))))))))
def cu:List D->Option (D×En):=fnF 7 [1,0,0] fw
def goD:Option Nat->D
 |none=>.none
 |some j=>.int j
def aL(r:List (Option Nat)):D:=.list (r.map goD)
def y4(es:List Bool)(gs:List (List (Option Nat))):D:=.tuple [.list (es.map .bool),.list (gs.map aL)]
def RowOk(S W:Nat)(r:List (Option Nat)):Prop:=r.length=W/\∀o∈r,∀j,o=some j->j<S
def Du{j:Int}(h0:0<=j)(h1:j<n):ixN n j=some j.toNat:=by
 unfold ixN;rw[if_pos h0,if_pos h1]
def qb{i:Nat}(h:i<n):ixN n (i:Int)=some i:=by
 have e:=Du (n:=n) (j:=(i:Int)) (Int.natCast_nonneg i) (Int.ofNat_lt.mpr h);rw[zaK]at e;exact e
def Cz(v:List Int):D:=.list (v.map .int)
def K2(v:List Int):D->Option Int
 |.int j=>some (v.getD j.toNat 0)
 |_=>none
def rsD(v:List Int):D->Int
 |.list xs=>(xs.filterMap (K2 v)).sum
 |_=>0
def nxt(gs:List (List (Option Nat)))(v:List Int):List Int:=gs.map fun r=>rsD v (aL r)
def base(es:List Bool):List Int:=es.map fun b=>if b then 1 else 0
def it(gs:List (List (Option Nat)))(v:List Int):Nat->List Int
 |0=>v
 |n+1=>nxt gs (it gs v n)
def b1F:D->D
 |.bool b=>.int (if b then 1 else 0)
 |_=>.none
def ED{en:En}{f:ME}(h0:(aa 0) en=some (y4 es gs,en))(hf:∀b,f [some (.bool b)]=some (.int (if b then 1 else 0),[some (.bool b)]))(hl:es.length<=60):
  eLC true (bh (e2 ixA (aa 0) (eC (.int 0)))) (gN 0) cY f [none] en=some (Cz (base es),en):=by
 obtain⟨o',e⟩:=uS (f:=f) (F:=b1F) (rest:=[]) (es.map .bool) [] none
  (fun t ht=>by
   obtain⟨b,hb,rfl⟩:=zaz.mp ht;exact hf b)
  (by rw[zad];exact zau (by show 0+_<=100;omega) oE)
 have e2':(es.map PyData.bool).map b1F=(base es).map .int:=by
  unfold base;rw[zaQ,zaQ];rfl
 rw[List.nil_append,e2']at e;refine KF (ts:=es.map .bool) (en1:=en) ?_ e rfl
 have:e2 ixA (aa 0) (eC (.int 0)) en=some (.list (es.map .bool),en):=fS h0 rfl rfl;unfold bh;rw[this];rfl
structure MOk(S W:Nat)(es:List Bool)(gs:List (List (Option Nat))):Prop where
 s1:1<=S
 s2:S<=40
 w1:1<=W
 w2:W<=12
 le:es.length=S
 lg:gs.length=S
 ok:∀r∈gs,RowOk S W r
section
variable{S W:Nat} 
def p6(M:MOk S W es gs):oA [y4 es gs]=some (Cz (base es),[none]):=
 tj (b:=jk) (en:=[some (y4 es gs)]) (wm (ED rfl (fun b=>by cases b<;>rfl) (by rw[M.le];have:=M.s2;omega)))
end
end Mch
set_option maxHeartbeats 1000000
namespace L2
variable{i:Nat}{mp:MP}{f:ME}{en:En}{Q:List Nat×En->Prop}
open PySem PySem.Spec PyProof.Rows
def Jl{Q:D×En->Prop}(h:W (mp en) (fun r=>∃t ts,(r.2[i]?).join=some t/\aW t r.1=some (.list ts)/\W (f r.2) (fun q=>ts.length<sizeLine/\Q (.none,q.2.set i (some (ao t r.1 (.list (ts++[q.1])))))))):W (jx i mp f en) Q:=by
 unfold jx;rw[aA];refine W.use h ?_;rintro r ⟨t,ts,h1,h2,h3⟩;rw[h1];show W ((aW t r.1).bind _) Q;rw[h2];show W ((f r.2).bind _) Q;rw[aA];refine W.use h3 ?_;rintro q ⟨h4,h5⟩;rw[if_pos h4];exact⟨_,rfl,h5⟩
def KJ(h:W (mp en) (fun r=>W (f r.2) (fun q=>∃n t ts k,q.1=.int n/\(q.2[i]?).join=some t/\(aW t r.1=some (.list ts)\/aW t r.1=some (.tuple ts))/\ixN ts.length n=some k/\k<ts.length/\Q (r.1++[k],q.2)))):W (pIx i mp f en) Q:=by
 unfold pIx;rw[aA];refine W.use h fun r h2=>?_;rw[aA];refine W.use h2 ?_;rintro q ⟨n,t,ts,k,h3,h4,h5,h6,h7,h8⟩;rw[h3,h4];show W ((aW t r.1).bind _) Q;rcases h5 with h5|h5<;>rw[h5]<;>show W ((ixN ts.length n).bind _) Q<;>rw[h6]<;>show W (if k<ts.length then _ else none) Q<;>rw[if_pos h7]<;>exact⟨_,rfl,h8⟩
def Jj{t:D}(h:(en[i]?).join=some t)(hq:Q ([],en)):W (du i en) Q:=by
 unfold du;rw[h];exact⟨_,rfl,hq⟩
def KL{kp:Bool}{ks:List (D×D)}{Q:List D×En->Prop}(h:(en[i]?).join=some (.dict ks))(hq:Q (prs ks,if kp then en else en.set i none)):W (iDm kp i en) Q:=by
 unfold iDm;rw[h];exact⟨_,rfl,hq⟩
end L2
namespace W13
noncomputable section
variable{i n N k s t W0 j p:Nat}{P B:List (List Nat)}{l S Q:List Nat}{es:List Bool}{x0 x1 x3 x4 x5 x2 x6 x7 x8 x9 x10 x11 x12:Option D}{r:List (Option Nat)}{en:En}{R:Fl->Prop}
open PySem L2 Mch
def gm{α β:Type}{f:α->β}{l:List α}{t:β}(h:(l.map f)[i]?=some t):∃a,l[i]?=some a/\f a=t:=by
 rw[zao]at h;exact zab.mp h
def tk{α:Type}{l:List α}{s:α}(h:l[i]?=some s):l.take (i+1)=l.take i++[s]:=by
 rw[List.take_succ,h];rfl
def _root_.L2.W.ue{α:Type}{x:Option α}{a:α}{Q:α->Prop}(h:W x fun r=>r=a)(k:Q a):W x Q:=h.use fun _ e=>by
 rw[e];exact k
abbrev Gr:=List (List (Option Nat))
variable{G:Gr}
theorem cH:∀{cs A:List Nat},cs.Nodup->(∀c∈cs,c∈A)->cs.length<=A.length
 |[],_,_,_=>zbh _
 |c::cs,A,nd,h=>by
  have hc:=h c zaq;obtain⟨n1,n2⟩:=za9.mp nd;have ih:=cH (A:=A.erase c) n2 fun x hx=>(List.mem_erase_of_ne (fun z:x=c=>n1 (by rw[<-z];exact hx))).mpr (h x (zaj _ hx));rw[List.length_erase_of_mem hc]at ih
  have:=List.length_pos_of_mem hc;rw[zac];omega
structure GOk(G:Gr):Prop where
 n1:1<=G.length
 n:G.length<=1000
 w:∀r∈G,r.length<=12
 lt:∀r∈G,∀k,some k∈r->k<G.length
def iD(k:Nat):D:=.int (k:Int)
def nD(l:List Nat):D:=.list (l.map iD)
def kG(a b:Nat):kEq (iD a) (iD b)=decide (a=b):=by
 show((a:Int)==(b:Int))=_;rw[Bool.eq_iff_iff,beq_iff_eq,zbg];omega
def szB(h:n<=100000):n<=sizeLine:=zau h (by decide)
def cF(h:n<100000):n<sizeLine:=zag h (by decide)
def bI(G:Gr)(s t:Nat):Prop:=∃r,G[s]?=some r/\some t∈r
def led(G:Gr)(s i:Nat):Option Nat:=((G[s]?).bind (·[i]?)).join
def sel(N:Nat)(P:Nat->Prop):List Nat:=(List.range N).filter fun k=>@decide (P k) (Classical.propDecidable _)
def mem_sel{P:Nat->Prop}:k∈sel N P↔k<N/\P k:=by
 unfold sel;rw[zbB,zbp,@decide_eq_true_iff _ (Classical.propDecidable _)]
def rX(N:Nat)(P:Nat->Prop):(sel N P).Nodup:=List.nodup_range.filter _
def GR(N:Nat)(P:Nat->Prop):(sel N P).Pairwise (·<=·):=((List.pairwise_lt_range).imp fun h=>Nat.le_of_lt h).filter _
def mL(N:Nat)(P:Nat->Prop):(sel N P).length<=N:=by
 have:=zbC (fun k=>@decide (P k) (Classical.propDecidable _)) (List.range N)
 rwa[zbc]at this
def srt(S:List Nat):D:=.list ((ff (S.map fun k:Nat=>(k:Int))).map .int)
def wQ(h:l.Pairwise (·<=·)):srt l=nD l:=by
 unfold srt nD;have e:ff (l.map fun k:Nat=>(k:Int))=l.map fun k:Nat=>(k:Int):=kj (ei _) (dA _) (List.pairwise_map.mpr (h.imp fun {a b} h=>Int.ofNat_le.mpr h));rw[e,zaQ];rfl
def CM{P:Nat->Prop}(h1:S.Nodup)(h:∀s,s∈S↔s<N/\P s):srt S=nD (sel N P):=by
 have p:S.Perm (sel N P):=(List.perm_ext_iff_of_nodup h1 (rX N P)).mpr fun s=>by rw[h,mem_sel]
 rw[<-wQ (GR N P)];unfold srt;rw[kj ((ei _).trans ((p.map fun k:Nat=>(k:Int)).trans (ei _).symm)) (dA _) (dA _)]
inductive Rc(E:Nat->Nat->Prop)(l:List Nat):Nat->Prop
 |first {s:Nat} (h:s∈l):Rc E l s
 |next {s t:Nat} (h:Rc E l s) (e:E s t):Rc E l t
def Rc.inn{E:Nat->Nat->Prop}(h1:∀s∈l,s∈S)(h2:∀s∈S,∀t,E s t->t∈S)(h:Rc E l s):s∈S:=by
 induction h with
 |first h=>exact h1 _ h
 |next _ e ih=>exact h2 _ ih _ e
def Wk(es:List Bool)(G:Gr):Nat->Nat->Prop
 |s,0=>es[s]?=some true
 |s,n+1=>∃t,bI G s t/\Wk es G t n
def Al(es:List Bool)(G:Gr)(s:Nat):Prop:=∃n,Wk es G s n
def Kp(es:List Bool)(G:Gr)(s:Nat):Prop:=Rc (bI G) [0] s/\Al es G s
theorem wE{es:List Bool}{G:Gr}:∀{n s:Nat},Wk es G s n->∃t,Rc (bI G) [s] t/\es[t]?=some true
 |0,s,h=>⟨s,.first (by simp),h⟩
 |n+1,s,⟨t,e,h⟩=>by
  obtain⟨u,h1,h2⟩:=wE h;refine⟨u,?_,h2⟩;clear h2
  induction h1 with
  |first hs=>rw[zaH.mp hs];exact .next (.first (by simp)) e
  |next _ e ih=>exact .next ih e
def JA(h:Rc (bI G) [0] s)(hw:Wk es G s n):∃m,n<=m/\Wk es G 0 m:=by
 induction h generalizing n with
 |first hs=>rw[zaH.mp hs]at hw;exact⟨n,zav _,hw⟩
 |@next s t hs e ih=>
  obtain⟨m,h1,h2⟩:=ih (n:=n+1) ⟨t,e,hw⟩;exact⟨m,by omega,h2⟩
def kv(k:Nat):D×D:=(.int (k:Int),.bool true)
def aB(S:List Nat):D:=.dict (S.map kv)
def xB(a b:Nat):kEq (kv a).1 (iD b)=decide (a=b):=by
 show((a:Int)==(b:Int))=_;rw[Bool.eq_iff_iff,beq_iff_eq,zbg];omega
def kO(S:List Nat)(k:Nat):((S.map kv).find? fun q=>kEq q.1 (iD k)).isSome=decide (k∈S):=by
 induction S with
 |nil=>rfl
 |cons a S ih=>
  rw[zar,zbm,xB];by_cases h:a=k
  ·subst h;simp
  ·simp only[h,decide_false];rw[ih];simp[Ne.symm h]
def gq(S:List Nat):noT (S.map kv)=true:=by
 cases S<;>rfl
def Dk(S:List Nat)(k:Nat):dL (iD k) (aB S)=some (.bool (!decide (k∈S))):=by
 show(if noT (S.map kv)=true then some (PyData.bool (!(aG (S.map kv) (iD k)).isSome))else none)=_;rw[if_pos (gq S)];unfold aG;rw[Option.isSome_map,kO]
def sE(S:List Nat)(k:Nat):dL (.int (k:Int)) (aB S)=some (.bool (!decide (k∈S))):=Dk S k
def EE(S:List Nat)(k:Nat):((S.map kv).any fun q=>kEq q.1 (iD k))=decide (k∈S):=by
 rw[<-kO]
 induction S with
 |nil=>rfl
 |cons a S ih=>
  rw[zar,List.any_cons,zbm,ih];cases kEq (kv a).1 (iD k)<;>simp
def mM(h:k∉S):cZ (S.map kv) (iD k) (.bool true)=(S++[k]).map kv:=by
 unfold cZ;rw[if_neg (by rw[EE];simpa using h),zaC];rfl
def JI(h:k∉S)(hl:S.length<2000):
  bO 2 (aa 5) (eC (.bool true)) [x0,x1,some (aB S),x3,x4,some (iD k)]=some (.nx [x0,x1,some (aB (S++[k])),x3,x4,some (iD k)]):=by
 show(if(S.map kv).length<sizeLine then some (Fl.nx [x0,x1,some (.dict (cZ (S.map kv) (iD k) (.bool true))),x3,x4,some (iD k)])else none)=_;rw[if_pos (by rw[zad];exact cF (by omega)),mM h];rfl
def lT(hn:l.Nodup)(hl:l.length<=1000):W (gQ [nD l]) (fun r=>r=(aB l,[none])):=by
 simp only[gQ,vj,ws,nD];refine W.of (show cG _=some (.dict [],_)from rfl) ?_;simp only[ws];refine bw (fun i en=>∃o,en=[some (.list (l.map iD)),some (aB (l.take i)),o]) ⟨none,rfl⟩ ?_ ?_
 ·rintro i t en ht ⟨o,rfl⟩;obtain⟨k,hk,rfl⟩:=gm ht;obtain⟨hi,e⟩:=zah.mp hk;have et:=tk hk;have hk':k∉l.take i:=fun z=>by
   rw[<-List.take_append_drop (i+1) l,et]at hn
   have:=(zba.mp hn).1;exact(zba.mp this).2.2 k z k zaq rfl
  simp only[ws,qV];refine W.of (show bO 1 (aa 2) (eC (.bool true)) [some (.list (l.map iD)),some (aB (l.take i)),some (iD k)]=some (.nx [some (.list (l.map iD)),some (aB (l.take (i+1))),some (iD k)])from ?_) ?_
  ·show(if((l.take i).map kv).length<sizeLine then some (Fl.nx [some (.list (l.map iD)),some (.dict (cZ ((l.take i).map kv) (iD k) (.bool true))),some (iD k)])else none)=_;rw[if_pos (by rw[zad,zaE];exact cF (by omega)),mM hk',et];rfl
  ·simp only[ws];exact⟨_,rfl⟩
 ·rintro en ⟨o,rfl⟩;rw[zad,zaP];simp only[ws]
def gD(G:Gr):D:=.list (G.map aL)
def ib(h:S.Nodup)(hl:∀s∈S,s<N):S.length<=N:=by
 have:=cH (A:=List.range N) h fun c hc=>zbp.mpr (hl c hc)
 rwa[zbc]at this
def mN(h:S.Nodup)(hk:k∉S):(S++[k]).Nodup:=by
 rw[zba];exact⟨h,by simp,fun a ha b hb e=>hk (by rw[<-zaH.mp hb,<-e];exact ha)⟩
theorem uW:∀S:List Nat,b7 ((S.map kv).map fun q=>q.1)=some (S.map fun k:Nat=>(k:Int))
 |[]=>rfl
 |k::S=>by
  show(b7 ((S.map kv).map fun q=>q.1)).map ((k:Int)::·)=_;rw[uW S];rfl
def CO(h:iX (S.map fun k:Nat=>(k:Int))):rR [aB S]=some (srt S):=by
 show(if noT (S.map kv)=true then(b7 ((S.map kv).map fun q=>q.1)).bind fun ns=>grd (iX ns) (PyData.list ((ff ns).map .int))else none)=_;rw[if_pos (gq S),uW];show grd _ _=_;exact if_pos h
structure Keeps(G:Gr)(Q:List Nat->Prop):Prop where
 lt:∀s t,bI G s t->t<G.length
 step:∀S s t,Q S->s∈S->bI G s t->t∉S->Q (S++[t])
 cs:∀S,Q S->S.Nodup->(∀s∈S,s<G.length)->iX (S.map fun k:Nat=>(k:Int))
def zq{Q:List Nat->Prop}(kp:Keeps G Q)(hN:G.length<=1000){A:List Nat}{h:Nat}{P:Fl->Prop}(hr:G[h]?=some r)(hh:h∈S)(nd:S.Nodup)(lt:∀s∈S,s<G.length)(q:Q S)(hA:A.length<=S.length)
  (hP:∀new o,(S++new).Nodup->(∀s∈S++new,s<G.length)->Q (S++new)->(∀t,some t∈r->t∈S++new)->P (.nx [x0,x1,some (aB (S++new)),some (nD (A++new)),some (iD h),o])):
  W (ck (gN 5) gb (r.map goD) [x0,x1,some (aB S),some (nD A),some (iD h),x5]) P:=by
 refine bw (fun i en=>∃new o,en=[x0,x1,some (aB (S++new)),some (nD (A++new)),some (iD h),o]/\(S++new).Nodup/\(∀s∈S++new,s<G.length)/\Q (S++new)/\∀t,some t∈r.take i->t∈S++new) ⟨[],x5,by rw[zbq,zbq],by rw[zbq];exact nd,by rw[zbq];exact lt,by rw[zbq];exact q,fun t z=>by simp at z⟩ ?_ ?_
 ·rintro i t en ht ⟨new,o,rfl,g1,g2,g3,g4⟩;obtain⟨w,hw,rfl⟩:=gm ht;have et:=tk hw;cases w with
  |none=>
   simp only[ws,gb,goD];exact⟨new,_,rfl,g1,g2,g3,fun t z=>by
    rw[et]at z;rcases zax.mp z with z|z
    ·exact g4 t z
    ·simp at z⟩
  |some k=>
   have ed:bI G h k:=⟨r,hr,zaW hw⟩;by_cases hk:k∈S++new
   ·simp only[ws,gb,goD,iD,sE,hk];exact⟨new,_,rfl,g1,g2,g3,fun t z=>by
     rw[et]at z;rcases zax.mp z with z|z
     ·exact g4 t z
     ·rw[zat (zaH.mp z)];exact hk⟩
   ·simp only[ws,gb,goD,iD,sE,hk];have lN:=ib g1 g2;have lc:(S++new).length=S.length+new.length:=zae;refine W.of (JI hk (by omega)) ?_;simp only[ws,nD];have en':S++new++[k]=S++(new++[k]):=zaD ..;have e2:List.map iD (A++new)++[iD k]=List.map iD (A++(new++[k])):=by rw[<-zaD,zaC (l₁:=A++new)];rfl
    refine⟨cF (by rw[zae];omega),new++[k],_,by rw[en',e2],by rw[<-en'];exact mN g1 hk,fun s z=>?_,by rw[<-en'];exact kp.step _ h k g3 (zbd _ hh) ed hk,fun t z=>?_⟩
    ·rw[<-en']at z;rcases zax.mp z with z|z
     ·exact g2 s z
     ·rw[zaH.mp z];exact kp.lt h k ed
    ·rw[<-en'];rw[et]at z;rcases zax.mp z with z|z
     ·exact zbd _ (g4 t z)
     ·rw[zat (zaH.mp z)];exact zbe _ zaq
 ·rintro en ⟨new,o,rfl,g1,g2,g3,g4⟩;rw[zad,zaP]at g4;exact hP new o g1 g2 g3 g4
def JK(ts:List D)(t:D):i8 3 [x0,x1,x2,some (.list (ts++[t])),x4,x5]=some (t,[x0,x1,x2,some (.list ts),x4,x5]):=by
 unfold i8;simp
def vD{Q:List Nat->Prop}(kp:Keeps G Q)(hN:G.length<=1000)(nd:l.Nodup)(lt:∀s∈l,s<G.length)(q:Q l):
  W (fG [nD l,gD G]) (fun r=>∃S,r=(srt S,[none,none])/\S.Nodup/\Q S/\(∀s∈l,s∈S)/\(∀s∈S,s<G.length)/\∀s∈S,∀t,bI G s t->t∈S):=by
 have ll:=ib nd lt;simp only[fG,t8,ws];refine W.ue (lT nd (by omega)) ?_;have e1:fP [nD l]=some (nD l):=rfl;simp only[ws,e1];refine j4 (fun n en=>∃S A o4 o5,en=[some (nD l),some (gD G),some (aB S),some (nD A),o4,o5]/\S.Nodup/\Q S/\(∀s∈l,s∈S)/\(∀s∈S,s<G.length)/\(∀s∈A,s∈S)/\A.length<=S.length/\(∀s∈S,s∉A->∀t,bI G s t->t∈S)/\n=2*(G.length-S.length)+A.length) ?_ ⟨l,l,none,none,rfl,nd,q,fun _ z=>z,lt,fun _ z=>z,zav _,fun s z1 z2=>absurd z1 z2,rfl⟩;rintro n en ⟨S,A,o4,o5,rfl,g1,g2,g3,g4,g5,g6,g7,rfl⟩;have lS:=ib g1 g4;rcases List.eq_nil_or_concat A with rfl|⟨A0,h,e⟩
 ·have z0:decide ((0:Int)<(([]:List Nat).length:Nat))=false:=rfl;simp only[ws,kX,nD,z0,CO (kp.cs S g2 g1 g4)];exact⟨S,rfl,g1,g2,g3,g4,fun s hs t=>g7 s hs (fun z=>by cases z) t⟩
 ·rw[List.concat_eq_append]at e;subst e;have hh:h∈S:=g5 h (by simp);have hG:=g4 h hh;obtain⟨r,hr⟩:∃r,G[h]?=some r:=⟨_,zak hG⟩;have z1:decide ((0:Int)<((List.map iD A0++[PyData.int (h:Int)]).length:Nat))=true:=by
   rw[zbg,zae];show(0:Int)<(((List.map iD A0).length+1:Nat):Int);omega
  have e3:List.map iD (A0++[h])=List.map iD A0++[.int (h:Int)]:=by rw[zaC];rfl
  have e4:atI (G.map aL) (h:Int)=some (.list (r.map goD)):=by rw[bu,zao,hr];rfl
  simp only[ws,kX,pK,nD,gD,z1,e3];refine W.of (show i8 3 [some (.list (l.map iD)),some (.list (G.map aL)),some (aB S),some (.list (A0.map iD++[.int (h:Int)])),o4,o5]=some (.int (h:Int),[some (.list (l.map iD)),some (.list (G.map aL)),some (aB S),some (.list (A0.map iD)),o4,o5])from JK _ _) ?_;simp only[ws,e4];have la:(A0++[h]).length=A0.length+1:=zae;refine zq (A:=A0) kp hN hr hh g1 g4 g2 (by omega) fun new o n1 n2 n3 n4=>?_;have lS':=ib n1 n2;have l1:(S++new).length=S.length+new.length:=zae;have l2:(A0++new).length=A0.length+new.length:=zae;simp only[ws];refine⟨2*(G.length-(S++new).length)+(A0++new).length,by omega,S++new,A0++new,_,_,rfl,n1,n3,fun s z=>zbd _ (g3 s z),n2,fun s z=>?_,by omega,fun s z1 z2 t et=>?_,rfl⟩
  ·rcases zax.mp z with z|z
   ·exact zbd _ (g5 s (zbd _ z))
   ·exact zbe _ z
  ·rcases zax.mp z1 with z1|z1
   ·by_cases e:s=h
    ·subst e;obtain⟨r',hr',m⟩:=et;rw[hr]at hr';cases hr';exact n4 t m
    ·exact zbd _ (g7 s z1 (fun z=>(zax.mp z).elim (fun z=>z2 (zbd _ z)) fun z=>e (zaH.mp z)) t et)
   ·exact absurd (zbe _ z1) z2
def toG(B:List (List Nat)):Gr:=B.map fun l=>l.map some
def bD(B:List (List Nat)):gD (toG B)=.list (B.map nD):=by
 unfold gD toG;rw[zaQ];congr 1;refine zbu fun l _=>?_;show PyData.list _=PyData.list _;rw[zaQ];rfl
def rw_(G:Gr)(s:Nat):List (Option Nat):=(G[s]?).getD []
def fO(h:G[s]?=some r):rw_ G s=r:=by unfold rw_;rw[h];rfl
def edge_rw:bI G s t↔some t∈rw_ G s:=by
 unfold bI rw_;cases h:G[s]? with
 |none=>exact⟨(fun⟨r,z,_⟩=>nomatch z),(fun z=>by cases z)⟩
 |some r=>exact⟨fun⟨r',z,m⟩=>by cases z;exact m,fun m=>⟨r,rfl,m⟩⟩
def KI{b:List Nat}(hb:B[t]?=some b)(hl:b.length<50000){Q:D×En->Prop}(h:Q (.none,[x0,some (.list ((B.set t (b++[s])).map nD)),some (.int (s:Int)),x3,some (.int (t:Int))])):
  W (jx 1 (pIx 1 (du 1) (aa 4)) (aa 2) [x0,some (.list (B.map nD)),some (.int (s:Int)),x3,some (.int (t:Int))]) Q:=by
 have ht:t<B.length:=(zah.mp hb).1;have e2:(B.map nD)[t]?=some (.list (b.map iD)):=by rw[zao,hb];rfl
 refine Jl (KJ (Jj (t:=.list (B.map nD)) rfl ?_));simp only[ws];refine⟨_,_,B.map nD,t,rfl,rfl,.inl rfl,qb (by rw[zad];exact ht),by rw[zad];exact ht,.list (B.map nD),b.map iD,rfl,?_,?_⟩
 ·show((B.map nD)[t]?).bind _=_;rw[e2];rfl
 ·simp only[ws];refine⟨cF (by omega),?_⟩;have e3:(B.set t (b++[s])).map nD=(B.map nD).set t (.list (b.map iD++[.int (s:Int)])):=by
   rw[List.map_set];congr 1;show PyData.list _=_;rw[zaC];rfl
  have ep:ao (.list (B.map nD)) ([]++[t]) (.list (b.map iD++[.int (s:Int)]))=.list ((B.set t (b++[s])).map nD):=by
   rw[e3];show PyData.list ((B.map nD).set t (((B.map nD)[t]?).elim .none fun c=>ao c [] _))=_;rw[e2];rfl
  rw[ep];exact h
def cB(G:Gr)(i:Nat)(r:List (Option Nat))(t s:Nat):Nat:=if s<i then(rw_ G s).count (some t)else if s=i then r.count (some t)else 0
def CH(g:GOk G):W (gh [gD G]) (fun r=>∃B:List (List Nat),r=(gD (toG B),[none])/\B.length=G.length/\(∀b∈B,b.length<=12*G.length)/\∀t b,B[t]?=some b->∀s,b.count s=(rw_ G s).count (some t)):=by
 have n:=g.n;simp only[gh,pM,ws,gD];refine eZ (fun _=>.list []) (szB (by rw[zad];omega)) (fun t _=>by simp only[ws,mC]) fun o=>?_;simp only[ws];have e0:List.map (fun x=>PyData.list []) (List.map aL G)=(List.replicate G.length ([]:List Nat)).map nD:=by
  rw[zaQ,List.map_replicate];exact List.map_const' ..
 rw[e0];refine bw (fun i en=>∃(B:List (List Nat)) (o2 o3 o4:Option D),en=[some (.list (G.map aL)),some (.list (B.map nD)),o2,o3,o4]/\B.length=G.length/\(∀b∈B,b.length<=12*i)/\∀t b,B[t]?=some b->∀s,b.count s=cB G i [] t s) ⟨_,_,_,_,rfl,zaM,fun b z=>by rw[(List.mem_replicate.mp z).2];exact zbh _,fun t b hb s=>?_⟩ ?_ ?_
 ·have:b=[]:=(List.mem_replicate.mp (zaW hb)).2;subst this;unfold cB;simp
 ·rintro i t en ht ⟨B,o2,o3,o4,rfl,b1,b2,b3⟩;obtain⟨u,hu,rfl⟩:=dI ht;obtain⟨r,hr,rfl⟩:=gm hu;have hi:i<G.length:=(zah.mp hr).1;have rl:=g.w r (zaW hr);simp only[ws,mw,aL];refine bw (fun j en=>∃(B:List (List Nat)) (o4:Option D),en=[some (.list (G.map aL)),some (.list (B.map nD)),some (.int (i:Int)),some (.list (r.map goD)),o4]/\B.length=G.length/\(∀b∈B,b.length<=12*i+j)/\∀t b,B[t]?=some b->∀s,b.count s=cB G i (r.take j) t s) ⟨B,_,rfl,b1,fun b z=>by have:=b2 b z;omega,fun t b hb s=>by rw[b3 t b hb s,List.take_zero]⟩ ?_ ?_
  ·rintro j u en hu' ⟨B,o4,rfl,c1,c2,c3⟩;rw[zao]at hu';obtain⟨w,hw,rfl⟩:=zab.mp hu';have hj:j<r.length:=(zah.mp hw).1;have et:=tk hw;cases w with
   |none=>
    simp only[ws,jh,goD];refine⟨B,_,rfl,c1,fun b z=>by have:=c2 b z;omega,fun t b hb s=>?_⟩;rw[c3 t b hb s,et];unfold cB;rw[List.count_append];simp
   |some k=>
    have hk:k<G.length:=g.lt r (zaW hr) k (zaW hw);obtain⟨b,hb⟩:∃b,B[k]?=some b:=⟨_,zak (by omega)⟩;have lb:=c2 b (zaW hb);simp only[ws,jh,goD];refine KI (s:=i) hb (by omega) ?_;simp only[ws];refine⟨_,_,rfl,by rw[zaU];exact c1,fun b' z=>?_,fun t b' hb' s=>?_⟩
    ·rcases zbO z with z|z
     ·have:=c2 b' z;omega
     ·rw[z,zae];show b.length+1<=_;omega
    ·by_cases e:t=k
     ·subst e;rw[zaO (by omega)]at hb';cases hb';rw[List.count_append,c3 t b hb s,et];unfold cB;rw[List.count_append];by_cases q1:s<i
      ·rw[if_pos q1,if_pos q1]
       have:i≠s:=by omega
       simp[List.count_cons,this]
      ·rw[if_neg q1,if_neg q1];by_cases q2:s=i
       ·subst q2;simp
       ·rw[if_neg q2,if_neg q2]
        have:i≠s:=fun z=>q2 z.symm;simp[List.count_cons,this]
     ·rw[zaN (Ne.symm e)]at hb';rw[c3 t b' hb' s,et];unfold cB;rw[List.count_append]
      have:(some k:Option Nat)≠some t:=fun z=>e (zat z).symm;simp[List.count_cons,this]
  ·rintro en ⟨B,o4,rfl,c1,c2,c3⟩;rw[zad,zaP]at *;simp only[ws];refine⟨B,_,_,_,rfl,c1,fun b z=>by have:=c2 b z;omega,fun t b hb s=>?_⟩;rw[c3 t b hb s];unfold cB;by_cases q1:s<i
   ·rw[if_pos q1,if_pos (by omega)]
   ·rw[if_neg q1];by_cases q2:s=i
    ·subst q2;rw[if_pos rfl,if_pos (by omega),fO hr]
    ·rw[if_neg q2,if_neg (by omega)];simp
 ·rintro en ⟨B,o2,o3,o4,rfl,b1,b2,b3⟩;rw[dH,zad]at b2 b3;simp only[ws];refine⟨B,?_,b1,b2,fun t b hb s=>?_⟩
  ·rw[<-bD];rfl
  ·rw[b3 t b hb s];unfold cB;by_cases q1:s<G.length
   ·rw[if_pos q1]
   ·rw[if_neg q1];unfold rw_;rw[zbj (by omega)];simp
def ym(hl:B.length=G.length)(h:∀t b,B[t]?=some b->∀s,b.count s=(rw_ G s).count (some t))(g:GOk G)(s t:Nat):bI (toG B) s t↔bI G t s:=by
 rw[edge_rw (G:=G)];unfold bI toG;constructor
 ·rintro⟨r,h1,h2⟩;obtain⟨l,hl,rfl⟩:=gm h1;obtain⟨x,hx,e⟩:=zaz.mp h2;cases e
  have:=h s l hl t;exact List.count_pos_iff.mp (by rw[<-this];exact List.count_pos_iff.mpr hx)
 ·intro hm;have hs:s<G.length:=by
   obtain⟨r,hr,hm'⟩:=edge_rw.mpr hm;exact g.lt r (zaW hr) s hm'
  obtain⟨b,hb⟩:∃b,B[s]?=some b:=⟨_,zak (by omega)⟩;refine⟨b.map some,by rw[zao,hb];rfl,List.mem_map_of_mem ?_⟩;exact List.count_pos_iff.mp (by rw[h s b hb t];exact List.count_pos_iff.mpr hm)
def CK(G:Gr)(l:List Nat):Prop:=∃Q:List Nat->Prop,Q l/\(∀S s t,Q S->s∈S->bI G s t->t∉S->Q (S++[t]))/\∀S,Q S->S.Nodup->(∀s∈S,s<G.length)->iX (S.map fun k:Nat=>(k:Int))
def u5(lt:∀s t,bI G s t->t<G.length)(hN:G.length<=1000)(nd:l.Nodup)(hl:∀s∈l,s<G.length)(c:CK G l):W (fG [nD l,gD G]) (fun r=>r=(nD (sel G.length (Rc (bI G) l)),[none,none])):=by
 obtain⟨Q,q0,q1,q2⟩:=c;have kp:Keeps G (fun S=>Q S/\∀s∈S,Rc (bI G) l s):=by
  refine⟨lt,fun S s t ⟨h1,h2⟩ hs he ht=>⟨q1 S s t h1 hs he ht,fun u hu=>?_⟩,fun S ⟨h1,_⟩=>q2 S h1⟩;rcases zax.mp hu with hu|hu
  ·exact h2 u hu
  ·rw[zaH.mp hu];exact .next (h2 s hs) he
 refine W.use (vD kp hN nd hl ⟨q0,fun s hs=>.first hs⟩) ?_;rintro _ ⟨S,rfl,g1,⟨_,g2⟩,g3,g4,g5⟩;rw[CM (N:=G.length) (P:=Rc (bI G) l) g1 fun s=>⟨fun h=>⟨g4 s h,g2 s h⟩,fun h=>Rc.inn g3 g5 h.2⟩]
def mD(es:List Bool)(G:Gr):D:=.tuple [.list (es.map .bool),.list (G.map aL)]
def GOk.elt(g:GOk G)(s t:Nat)(h:bI G s t):t<G.length:=by
 obtain⟨r,hr,hm⟩:=h;exact g.lt r (zaW hr) t hm
def vM(G:Gr):List Nat:=sel G.length (Rc (bI G) [0])
def cI(es:List Bool)(G:Gr):List Nat:=sel G.length (Kp es G)
def Hr(g:GOk G)(c:CK G [0]):W (tY [mD es G]) (fun r=>r=(nD (vM G),[none])):=by
 have f:=u5 g.elt g.n (l:=[0]) (by simp) (fun s h=>by rw[zaH.mp h];exact g.n1) c;have e0:nD [0]=.list [.int 0]:=rfl;rw[e0]at f;simp only[tY,Ju,ws,mD];refine W.ue f ?_;simp only[ws];rfl
def fT(es:List Bool):List Nat:=(List.range es.length).filter fun k=>es.getD k false
def mem_ends:s∈fT es↔es[s]?=some true:=by
 unfold fT;rw[zbB,zbp,zbf];constructor
 ·rintro⟨h1,h2⟩;rw[zak h1]at h2 ⊢;exact congrArg some h2
 ·intro h;refine⟨(zah.mp h).1,?_⟩;rw[h];rfl
def JB{G':Gr}(h:∀s t,bI G' s t↔bI G t s)(s:Nat):Rc (bI G') (fT es) s↔Al es G s:=by
 constructor
 ·intro hr
  induction hr with
  |first hs=>exact⟨0,mem_ends.mp hs⟩
  |@next s t _ e ih=>
   obtain⟨n,hn⟩:=ih;exact⟨n+1,s,(h s t).mp e,hn⟩
 ·rintro⟨n,hn⟩
  induction n generalizing s with
  |zero=>exact .first (mem_ends.mpr hn)
  |succ n ih=>
   obtain⟨t,e,hw⟩:=hn;exact .next (ih t hw) ((h t s).mpr e)
def Af(g:GOk G)(he:es.length=G.length)(c:∀B:List (List Nat),B.length=G.length->(∀t b,B[t]?=some b->∀s,b.count s=(rw_ G s).count (some t))->CK (toG B) (fT es)):W (mB [mD es G]) (fun r=>r=(nD (sel G.length (Al es G)),[none])):=by
 have n:=g.n;simp only[mB,yu,ws,mD];refine⟨⟨by omega,by omega⟩,?_⟩;have en:((es.length:Nat):Int).toNat=es.length:=zaK _;rw[en];refine cP (fun t=>match t with|.int z=>es.getD z.toNat false|_=>false) (fun t=>t) (by rw[fH];exact szB (by omega)) (fun t ht=>?_) (fun t ht _=>by simp only[ws,t7]) fun o=>?_
 ·obtain⟨k,hk⟩:=zbo ht;obtain⟨hk',rfl⟩:=jP hk;have ea:atI (es.map PyData.bool) (k:Int)=some (.bool (es.getD k false)):=by
   rw[bu,zao,zak hk',zbf,zak hk'];rfl
  simp only[ws,tQ,ea,zbM,zaK]
 ·have el:List.map (fun t=>t) (List.filter (fun t=>match t with|PyData.int z=>es.getD z.toNat false|_=>false) (jD 0 es.length))=(fT es).map iD:=by
   rw[List.map_id'];unfold jD fT;rw[zbA];have e1:(fun k:Nat=>PyData.int (0+(k:Int)))=iD:=by
    funext k
    rw[zbM];rfl
   rw[e1];rfl
  rw[el];simp only[ws];refine W.use (CH g) ?_;rintro _ ⟨B,rfl,l1,l2,l3⟩;simp only[ws];have be:=ym l1 l3 g;have tl:(toG B).length=G.length:=by unfold toG;rw[zad,l1]
  have f:=u5 (G:=toG B) (l:=fT es) (fun s t h=>?_) (by rw[tl];exact n) (List.nodup_range.filter _) (fun s hs=>?_) (c B l1 l3)
  ·refine W.ue f ?_;simp only[ws,tl]
   have:sel G.length (Rc (bI (toG B)) (fT es))=sel G.length (Al es G):=by
    congr 1
    funext s
    exact propext (JB be s)
   rw[this]
  ·rw[tl];obtain⟨r,hr,_⟩:=(be s t).mp h;exact(zah.mp hr).1
  ·have:=(zah.mp (mem_ends.mp hs)).1;rw[tl];omega
def JY(S:List Nat)(k:Nat):dIn (.int (k:Int)) (aB S)=some (.bool (decide (k∈S))):=by
 show(if noT (S.map kv)=true then some (PyData.bool (aG (S.map kv) (iD k)).isSome)else none)=_;rw[if_pos (gq S)];unfold aG;rw[Option.isSome_map,kO]
structure Mx(W:Nat)(es:List Bool)(G:Gr):Prop where
 g:GOk G
 w1:1<=W
 w:∀r∈G,r.length=W
 le:es.length=G.length
 cm:CK G [0]
 ca:∀B:List (List Nat),B.length=G.length->(∀t b,B[t]?=some b->∀s,b.count s=(rw_ G s).count (some t))->CK (toG B) (fT es)
def Ds(M:Mx W0 es G):W (dU [mD es G]) (fun r=>r=(nD (cI es G),[none])):=by
 have n:=M.g.n;have al:=Af M.g M.le M.ca;have mt:=Hr (es:=es) M.g M.cm;simp only[mD]at al mt ⊢;simp only[dU,mF,ws];refine W.ue al ?_;simp only[ws];refine W.ue (lT (rX _ _) (by have:=mL G.length (Al es G);omega)) ?_;simp only[ws];refine W.ue mt ?_;simp only[ws,nD];have ml:(vM G).length<=G.length:=mL ..;refine cP (fun t=>match t with|.int z=>decide (z.toNat∈sel G.length (Al es G))|_=>false) (fun t=>t) (szB (by rw[zad];omega)) (fun t ht=>?_) (fun t ht _=>by simp only[ws,kf]) fun o=>?_
 ·obtain⟨k,_,rfl⟩:=zaz.mp ht;simp only[ws,j6,iD,JY,zaK]
 ·have e:List.map (fun t=>t) (List.filter (fun t=>match t with|PyData.int z=>decide (z.toNat∈sel G.length (Al es G))|_=>false) (List.map iD (vM G)))=(cI es G).map iD:=by
   rw[List.map_id',zbA];congr 1;unfold vM cI;unfold sel;rw[List.filter_filter];refine zbV fun k hk=>?_;rw[Bool.eq_iff_iff,zbk,@decide_eq_true_iff _ (Classical.propDecidable _),@decide_eq_true_iff _ (Classical.propDecidable _)];show decide (k∈sel G.length (Al es G))=true/\_↔_;rw[zbg,mem_sel];exact⟨fun h=>⟨h.2,h.1.2⟩,fun h=>⟨⟨zbp.mp hk,h.2⟩,h.1⟩⟩
  rw[e];simp only[ws]
def Dr(h:Kp es G s):Kp es G 0:=by
 obtain⟨h1,n,h2⟩:=h;obtain⟨m,_,hm⟩:=JA h1 h2;exact⟨.first (by simp),m,hm⟩
def au(P:List (List Nat)):D:=.list (P.map aB)
def JX(k:Nat):kOf (iD k)=some (.inl (k:Int)):=rfl
def tE{f:ME}(hf:f [x0,x1,some (au P),some (iD s)]=some (iD j,[x0,x1,some (au P),some (iD s)]))(hP:P[j]?=some S)(hs:s∉S)(hl:S.length<2000):
  lG 2 (pIx 2 (du 2) f) (aa 3) (eC (.bool true)) [x0,x1,some (au P),some (iD s)]=some (.nx [x0,x1,some (au (P.set j (S++[s]))),some (iD s)]):=by
 have hj:j<P.length:=(zah.mp hP).1;have hx:ixN (P.map aB).length (j:Int)=some j:=by
  unfold ixN;simp[hj]
 have e1:pIx 2 (du 2) f [x0,x1,some (au P),some (iD s)]=some ([j],[x0,x1,some (au P),some (iD s)]):=by
  show(f [x0,x1,some (au P),some (iD s)]).bind _=_;rw[hf];show(ixN (P.map aB).length (j:Int)).bind _=_;rw[hx];show(if j<(P.map aB).length then _ else _)=_;rw[if_pos (by rw[zad];exact hj)];rfl
 have e2:aW (au P) [j]=some (aB S):=by
  show((P.map aB)[j]?).bind _=_;rw[zao,hP];rfl
 have e3:ao (au P) [j] (aB (S++[s]))=au (P.set j (S++[s])):=by
  show PyData.list ((P.map aB).set j (((P.map aB)[j]?).elim _ _))=_;rw[zao,hP];show PyData.list ((P.map aB).set j (aB (S++[s])))=_;rw[<-List.map_set];rfl
 show(pIx 2 (du 2) f [x0,x1,some (au P),some (iD s)]).bind _=_;rw[e1];show(aW (au P) [j]).bind _=_;rw[e2];show(if(S.map kv).length<sizeLine then some (Fl.nx [x0,x1,some (ao (au P) [j] (.dict (cZ (S.map kv) (iD s) (.bool true)))),some (iD s)])else none)=_;rw[if_pos (by rw[zad];exact cF (by omega)),mM hs];show some (Fl.nx [x0,x1,some (ao (au P) [j] (aB (S++[s]))),some (iD s)])=_;rw[e3]
def ax(es:List Bool)(s:Nat):Bool:=es.getD s false
def zK(nd:l.Nodup)(hl:l.length<=1000)(lt:∀s∈l,s<es.length):W (dW [.list (es.map .bool),nD l]) (fun r=>r=(au [l.filter (ax es),l.filter fun s=>!ax es s],[none,none])):=by
 simp only[dW,mG,cG,ws,nD];refine bw (fun i en=>∃o3,en=[some (.list (es.map .bool)),some (.list (l.map iD)),some (au [(l.take i).filter (ax es),(l.take i).filter fun s=>!ax es s]),o3]) ⟨none,rfl⟩ ?_ ?_
 ·rintro i t en ht ⟨o3,rfl⟩;obtain⟨s,hs,rfl⟩:=gm ht;have hsl:s<es.length:=lt s (zaW hs);have ni:s∉l.take i:=fun z=>by
   obtain⟨k,hk⟩:=zbo z;rw[List.getElem?_take]at hk;split at hk
   next h=>
    have hk2:=(zah.mp hk).1
    have:=(List.getElem?_inj hk2 nd).mp (hk.trans hs.symm);omega
   next=>cases hk
  have ea:atI (es.map PyData.bool) (s:Int)=some (.bool (ax es s)):=by
   rw[bu,zao,zak hsl,ax,zbf,zak hsl];rfl
  have lt1:(l.take i).length<=1000:=by rw[zaE];omega
  simp only[ws,ka];have hf:∀P:D,(eIf (tV (e2 ixA (aa 0) (aa 3))) (eC (.int 0)) (eC (.int 1))) [some (.list (es.map .bool)),some (.list (l.map iD)),some P,some (iD s)]=some (iD (if ax es s then 0 else 1),[some (.list (es.map .bool)),some (.list (l.map iD)),some P,some (iD s)]):=fun P=>by
   have e1:(e2 ixA (aa 0) (aa 3)) [some (.list (es.map .bool)),some (.list (l.map iD)),some P,some (iD s)]=some (.bool (ax es s),[some (.list (es.map .bool)),some (.list (l.map iD)),some P,some (iD s)]):=by
    show(atI (es.map PyData.bool) (s:Int)).map _=_;rw[ea];rfl
   unfold eIf tV;rw[e1];cases ax es s<;>rfl
  rw[tk hs,List.filter_append,List.filter_append];cases hb:ax es s with
  |true=>
   refine W.of (tE (j:=0) (S:=(l.take i).filter (ax es)) (by rw[hf,hb];rfl) rfl (fun z=>ni (zbB.mp z).1) (by have:=zbC (ax es) (l.take i);omega)) ?_;exact⟨some (iD s),by simp[hb]⟩
  |false=>
   refine W.of (tE (j:=1) (S:=(l.take i).filter fun s=>!ax es s) (by rw[hf,hb];rfl) rfl (fun z=>ni (zbB.mp z).1) (by have:=zbC (fun s=>!ax es s) (l.take i);omega)) ?_;exact⟨some (iD s),by simp[hb]⟩
 ·rintro en ⟨o3,rfl⟩;rw[zad,zaP];simp only[ws]
abbrev EL:=List (Nat×List Nat)
variable{E:EL}{Bs:List EL}
def eb(q:Nat×List Nat):D×D:=(iD q.1,nD q.2)
def elD(E:EL):D:=.dict (E.map eb)
def bB:EL->Nat->Nat->EL
 |[],t,s=>[(t,[s])]
 | (k,l)::E,t,s=>if k=t then(k,l++[s])::E else(k,l)::bB E t s
def aH:EL->Nat->List Nat
 |[],_=>[]
 | (k,l)::E,t=>if k=t then l else aH E t
def sX(E:EL)(t s u:Nat):aH (bB E t s) u=if u=t then aH E t++[s]else aH E u:=by
 induction E with
 |nil=>
  by_cases h:u=t
  ·subst h;simp[bB,aH]
  ·have h':¬t=u:=fun z=>h z.symm;simp[bB,aH,h,h']
 |cons q E ih=>
  obtain⟨k,l⟩:=q;by_cases h:k=t
  ·subst h;by_cases h2:k=u
   ·subst h2;simp[bB,aH]
   ·have h2':¬u=k:=fun z=>h2 z.symm;simp[bB,aH,h2,h2']
  ·by_cases h2:k=u
   ·subst h2;simp[bB,aH,h]
   ·simp[bB,aH,h,h2,ih]
def sM(E:EL)(t s u:Nat):u∈(bB E t s).map (·.1)↔u∈E.map (·.1)\/u=t:=by
 induction E with
 |nil=>simp[bB]
 |cons q E ih=>
  obtain⟨k,l⟩:=q;by_cases h:k=t
  ·subst h;simp only[bB,if_pos,zar,zay];exact⟨.inl,fun z=>z.elim id .inl⟩
  ·simp only[bB,if_neg h,zar,zay,ih];constructor
   ·rintro (z|z|z)
    ·exact .inl (.inl z)
    ·exact .inl (.inr z)
    ·exact .inr z
   ·rintro ((z|z)|z)
    ·exact .inl z
    ·exact .inr (.inl z)
    ·exact .inr (.inr z)
def xi(h:(E.map (·.1)).Nodup):((bB E t s).map (·.1)).Nodup:=by
 induction E with
 |nil=>simp[bB]
 |cons q E ih=>
  obtain⟨k,l⟩:=q;rw[zar,za9]at h;by_cases e:k=t
  ·subst e;simp only[bB,if_pos,zar,za9];exact h
  ·simp only[bB,if_neg e,zar,za9];refine⟨fun z=>?_,ih h.2⟩;rcases(sM E t s k).mp z with z|z
   ·exact h.1 z
   ·exact e z
def uQ(E:EL)(t s:Nat):(bB E t s).length<=E.length+1:=by
 induction E with
 |nil=>simp[bB]
 |cons q E ih=>
  obtain⟨k,l⟩:=q;by_cases e:k=t
  ·simp[bB,e]
  ·simp only[bB,if_neg e,zac];omega
def Hm(E:EL):noT (E.map eb)=true:=by
 unfold noT;cases E with
 |nil=>rfl
 |cons q E=>rfl
theorem mP:∀(E:EL) (t:Nat),aG (E.map eb) (iD t)=if t∈E.map (·.1)then some (nD (aH E t))else none
 |[],t=>rfl
 | (k,l)::E,t=>by
  have e:aG (((k,l)::E).map eb) (iD t)=if k=t then some (nD l)else aG (E.map eb) (iD t):=by
   unfold aG;rw[zar,zbm]
   have:kEq (eb (k,l)).1 (iD t)=decide (k=t):=kG k t;rw[this];by_cases h:k=t
   ·simp[h,eb]
   ·simp[h]
  rw[e,mP E t];by_cases h:k=t
  ·simp[h,aH]
  ·have h':¬t=k:=fun z=>h z.symm;simp only[if_neg h,aH,zar,zay,h',false_or]
theorem va:∀(E:EL) (t s:Nat),t∈E.map (·.1)->eE (E.map eb) (iD t) (.list ((aH E t).map iD++[iD s]))=(bB E t s).map eb
 |[],t,s,h=>by cases h
 | (k,l)::E,t,s,h=>by
  rw[zar];show(if kEq (iD k) (iD t)then _ else _)=_;rw[kG];by_cases e:k=t
  ·subst e;simp[bB,aH,eb,nD]
  ·have h2:t∈E.map (·.1):=by
    rcases zay.mp h with z|z
    ·exact absurd z.symm e
    ·exact z
   simp only[e,decide_false,Bool.false_eq_true,if_false,aH,bB,zar];rw[va E t s h2];rfl
theorem tz:∀(E:EL) (t s:Nat),t∉E.map (·.1)->eE (E.map eb++[(iD t,.list [])]) (iD t) (.list [iD s])=(bB E t s).map eb
 |[],t,s,_=>by
  show(if kEq (iD t) (iD t)then _ else _)=_;rw[kG];simp[bB,eb,nD]
 | (k,l)::E,t,s,h=>by
  rw[zar,zay,not_or]at h;have e:¬k=t:=fun z=>h.1 z.symm;rw[zar,zaY];show(if kEq (iD k) (iD t)then _ else _)=_;rw[kG];simp only[e,decide_false,Bool.false_eq_true,if_false,bB,zar];rw[tz E t s h.2];rfl
theorem gW{u a b:D}:∀{π:List Nat} {t:D},aW t π=some u->ao (ao t π a) π b=ao t π b
 |[],t,h=>rfl
 |k::π,t,h=>by
  cases t with
  |list ts=>
   obtain⟨c,g1,g2⟩:=zaa.mp h;have e:∀x,ao (.list ts) (k::π) x=.list (ts.set k (ao c π x)):=fun x=>by
    show PyData.list (ts.set k ((ts[k]?).elim .none fun c=>ao c π x))=_;rw[g1];rfl
   rw[e,e];show PyData.list ((ts.set k (ao c π a)).set k (((ts.set k (ao c π a))[k]?).elim .none fun c=>ao c π b))=_;rw[zaO (zah.mp g1).1];show PyData.list ((ts.set k (ao c π a)).set k (ao (ao c π a) π b))=_;rw[gW g2,List.set_set]
  |tuple ts=>
   obtain⟨c,g1,g2⟩:=zaa.mp h;have e:∀x,ao (.tuple ts) (k::π) x=.tuple (ts.set k (ao c π x)):=fun x=>by
    show PyData.tuple (ts.set k ((ts[k]?).elim .none fun c=>ao c π x))=_;rw[g1];rfl
   rw[e,e];show PyData.tuple ((ts.set k (ao c π a)).set k (((ts.set k (ao c π a))[k]?).elim .none fun c=>ao c π b))=_;rw[zaO (zah.mp g1).1];show PyData.tuple ((ts.set k (ao c π a)).set k (ao (ao c π a) π b))=_;rw[gW g2,List.set_set]
  |_=>cases h
def wT{mp:MP}{fk fe:ME}{t:D}{π:List Nat}(hmp:mp en=some (π,en))(hi:(en[i]?).join=some t)(hg:aW t π=some (elD E))(hk:fk en=some (iD k,en))(he:∀u,fe (en.set i (some u))=some (iD s,en.set i (some u)))
  (hl:E.length<50000) (h2:(aH E k).length<50000):nK i mp fk (aV af) fe en=some (.nx (en.set i (some (ao t π (elD (bB E k s)))))):=by
 have e0:aV af en=some (.list [],en):=by
  show(if([]:List D).length<=sizeLine then some (PyData.list [],en)else none)=_;exact if_pos (by decide)
 have hg':aW t π=some (.dict (E.map eb)):=hg;simp only[nK,hmp,hi,hg',hk,e0,Option.bind_some,JX];rw[if_pos (by rw[zad];exact cF (by omega))];by_cases hm:k∈E.map (·.1)
 ·have e1:ko (E.map eb) (iD k) (.list [])=some (E.map eb,(aH E k).map iD):=by
   unfold ko;rw[mP,if_pos hm];rfl
  rw[e1];show(fe (en.set i (some (ao t π (.dict (E.map eb)))))).bind _=_;rw[he];show(if((aH E k).map iD).length<sizeLine then _ else _)=_;rw[if_pos (by rw[zad];exact cF (by omega))];show some (Fl.nx ((en.set i _).set i (some (ao (ao t π _) π (.dict (eE (E.map eb) (iD k) (.list ((aH E k).map iD++[iD s]))))))))=_;rw[List.set_set,gW hg,va E k s hm];rfl
 ·have e1:ko (E.map eb) (iD k) (.list [])=some (E.map eb++[(iD k,.list [])],[]):=by
   unfold ko;rw[mP,if_neg hm]
  rw[e1];show(fe (en.set i (some (ao t π (.dict (E.map eb++[(iD k,.list [])])))))).bind _=_;rw[he];simp only[Option.bind_some];rw[if_pos (show([]:List D).length<sizeLine by decide)];show some (Fl.nx ((en.set i _).set i (some (ao (ao t π _) π (.dict (eE (E.map eb++[(iD k,.list [])]) (iD k) (.list [iD s])))))))=_;rw[List.set_set,gW hg,tz E k s hm];rfl
def FB(G:Gr)(m:List Nat)(a t:Nat):List Nat:=m.filter fun s=>decide (led G s a=some t)
def Jq(G:Gr)(m:List Nat)(a t:Nat):(FB G m a t).length<=m.length:=zbC ..
def vi(G:Gr)(m:List Nat)(s a t:Nat):FB G (m++[s]) a t=if led G s a=some t then FB G m a t++[s]else FB G m a t:=by
 unfold FB;rw[List.filter_append];by_cases h:led G s a=some t
 ·simp[h]
 ·simp[h]
def fC(Bs:List EL):D:=.list (Bs.map elD)
def mR(h:G[s]?=some r)(a:Nat):led G s a=(r[a]?).join:=by
 unfold led;rw[h];rfl
def G6(hB:Bs[j]?=some E):pIx 2 (du 2) (aa 4) [x0,x1,some (fC Bs),x3,some (iD j),x5]=some ([j],[x0,x1,some (fC Bs),x3,some (iD j),x5]):=by
 have hj:j<Bs.length:=(zah.mp hB).1;show(ixN (Bs.map elD).length (j:Int)).bind _=_;rw[qb (by rw[zad];exact hj)];show(if j<(Bs.map elD).length then _ else none)=_;rw[if_pos (by rw[zad];exact hj)];rfl
def GQ{E':EL}(hB:Bs[j]?=some E):ao (fC Bs) [j] (elD E')=fC (Bs.set j E'):=by
 show PyData.list ((Bs.map elD).set j (((Bs.map elD)[j]?).elim .none fun c=>ao c [] (elD E')))=_;rw[zao,hB];show PyData.list ((Bs.map elD).set j (elD E'))=_;rw[<-List.map_set];rfl
def HP(hB:Bs[j]?=some E):aW (fC Bs) [j]=some (elD E):=by
 show((Bs.map elD)[j]?).bind _=_;rw[zao,hB];rfl
def Jh(g:GOk G)(hw:∀r∈G,r.length=W0)(hl:l.length<=1000)(lt:∀s∈l,s<G.length):
  W (bV [.list (G.map aL),nD l]) (fun r=>∃Bs:List EL,r=(fC Bs,[none,none])/\Bs.length=W0/\∀a E,Bs[a]?=some E->∀t,aH E t=FB G l a t):=by
 have n:=g.n;obtain⟨r0,h0⟩:∃r0,G[0]?=some r0:=⟨_,zak g.n1⟩;have w0:=hw r0 (zaW h0);have w12:=g.w r0 (zaW h0);have a0:atI (G.map aL) 0=some (aL r0):=by
  have:=bu (ts:=G.map aL) (n:=0);rw[show((0:Nat):Int)=0 from rfl]at this;rw[this,zao,h0];rfl
 simp only[bV,iA,ws,a0,aL];refine eZ (fun _=>.dict []) (szB (by rw[zad];omega)) (fun t _=>by simp only[ws,gj,cG]) fun o=>?_;have e0:PyData.list (List.map (fun x=>PyData.dict []) (List.map goD r0))=fC (List.replicate W0 ([]:EL)):=by
  unfold fC;rw[zaQ,List.map_replicate,<-w0];exact congrArg PyData.list (List.map_const' ..)
 simp only[ws,nD];rw[e0];refine bw (fun i en=>∃(Bs:List EL) (o3 o4 o5:Option D),en=[some (.list (G.map aL)),some (.list (l.map iD)),some (fC Bs),o3,o4,o5]/\Bs.length=W0/\∀a E,Bs[a]?=some E->E.length<=i/\∀t,aH E t=FB G (l.take i) a t) ⟨_,_,_,_,rfl,zaM,fun a E h=>?_⟩ ?_ ?_
 ·have:E=[]:=(List.mem_replicate.mp (zaW h)).2;subst this;exact⟨zbh _,fun t=>rfl⟩
 ·rintro i t en ht ⟨Bs,o3,o4,o5,rfl,b1,b2⟩;obtain⟨s,hs,rfl⟩:=gm ht;have hsl:=lt s (zaW hs);have hil:i<l.length:=(zah.mp hs).1;obtain⟨r,hr⟩:∃r,G[s]?=some r:=⟨_,zak hsl⟩;have rw0:=hw r (zaW hr);have as:atI (G.map aL) (s:Int)=some (.list (r.map goD)):=by rw[bu,zao,hr];rfl
  simp only[ws,ga,iD,as];refine bw (fun j en=>∃(Bs:List EL) (o4 o5:Option D),en=[some (.list (G.map aL)),some (.list (l.map iD)),some (fC Bs),some (.int (s:Int)),o4,o5]/\Bs.length=W0/\∀a E,Bs[a]?=some E->E.length<=(if a<j then i+1 else i)/\∀t,aH E t=if a<j then FB G (l.take i++[s]) a t else FB G (l.take i) a t) ⟨Bs,_,_,rfl,b1,fun a E h=>?_⟩ ?_ ?_
  ·obtain⟨h1,h2⟩:=b2 a E h;exact⟨by rw[if_neg (by omega)];exact h1,fun t=>by rw[if_neg (by omega)];exact h2 t⟩
  ·rintro j u en hu ⟨Bs,o4,o5,rfl,c1,c2⟩;obtain⟨w',hw',rfl⟩:=dI hu;obtain⟨w,hw2,rfl⟩:=gm hw';have hj:j<r.length:=(zah.mp hw2).1;have ld:led G s j=w:=by rw[mR hr,hw2];rfl
   cases w with
   |none=>
    simp only[ws,c8,goD];refine⟨Bs,_,_,rfl,c1,fun a E h=>?_⟩;obtain⟨h1,h2⟩:=c2 a E h;refine⟨zau h1 (by split<;>split<;>omega),fun t=>?_⟩;rw[h2 t];by_cases ea:a=j
    ·subst ea;rw[if_neg (by omega),if_pos (by omega),vi,ld,if_neg (by simp)]
    ·by_cases q:a<j
     ·rw[if_pos q,if_pos (by omega)]
     ·rw[if_neg q,if_neg (by omega)]
   |some k=>
    obtain⟨E,hE⟩:∃E,Bs[j]?=some E:=⟨_,zak (by omega)⟩;obtain⟨e1,e2⟩:=c2 j E hE;have gl:(aH E k).length<=1000:=by
     rw[e2 k,if_neg (by omega)]
     have:=Jq G (l.take i) j k;rw[zaE]at this;omega
    simp only[ws,c8,goD];refine W.of (wT (E:=E) (k:=k) (s:=s) (π:=[j]) (G6 hE) rfl (HP hE) rfl (fun u=>rfl) (by rw[if_neg (by omega)]at e1;omega) (by omega)) ?_;rw[GQ hE];refine⟨Bs.set j (bB E k s),_,_,rfl,by rw[zaU];exact c1,fun a E' h=>?_⟩;by_cases ea:a=j
    ·subst ea;rw[zaO (by omega)]at h;cases h;refine⟨?_,fun t=>?_⟩
     ·have:=uQ E k s;rw[if_neg (by omega)]at e1;rw[if_pos (by omega)];omega
     ·have e3:∀t,aH E t=FB G (l.take i) a t:=fun t=>by rw[e2 t,if_neg (zaI _)]
      refine Eq.trans ?_ (if_pos (zaJ a)).symm;rw[sX,vi,ld,e3 k,e3 t];by_cases q:t=k
      ·subst q;rw[if_pos rfl,if_pos rfl]
      ·rw[if_neg q,if_neg (fun z=>q (zat z).symm)]
    ·rw[zaN (Ne.symm ea)]at h;obtain⟨h1,h2⟩:=c2 a E' h;refine⟨zau h1 (by split<;>split<;>omega),fun t=>?_⟩;rw[h2 t];by_cases q:a<j
     ·rw[if_pos q,if_pos (by omega)]
     ·rw[if_neg q,if_neg (by omega)]
  ·rintro en ⟨Bs,o4,o5,rfl,c1,c2⟩;rw[dH,zad]at c2;refine⟨Bs,_,_,_,rfl,c1,fun a E h=>?_⟩;obtain⟨h1,h2⟩:=c2 a E h;have ha:a<Bs.length:=(zah.mp h).1;refine⟨by rw[if_pos (by omega)]at h1;exact h1,fun t=>?_⟩;rw[h2 t,if_pos (by omega),tk hs]
 ·rintro en ⟨Bs,o3,o4,o5,rfl,b1,b2⟩;rw[zad,zaP]at b2;simp only[ws];exact⟨Bs,rfl,b1,fun a E h=>(b2 a E h).2⟩
def fE(pt:Nat->Nat)(F:EL)(s:Nat):EL:=bB F (pt s) s
def gy(pt:Nat->Nat)(q:List Nat):EL:=q.foldl (fE pt) []
def zI(pt:Nat->Nat)(q:List Nat)(s:Nat):gy pt (q++[s])=bB (gy pt q) (pt s) s:=by
 unfold gy;rw[List.foldl_append];rfl
def D4(pt:Nat->Nat)(q:List Nat):(gy pt q).length<=q.length:=by
 suffices h:∀(q:List Nat) (F:EL),(q.foldl (fE pt) F).length<=F.length+q.length by
  have:=h q [];rw[List.length_nil,za2]at this;exact this
 intro q
 induction q with
 |nil=>intro F;simp
 |cons s q ih=>
  intro F;have h1:=ih (fE pt F s);have h2:=uQ F (pt s) s;have h3:(fE pt F s).length=(bB F (pt s) s).length:=rfl;show(q.foldl (fE pt) (fE pt F s)).length<=_;rw[zac];omega
def u4(pt:Nat->Nat)(p:Nat)(q:List Nat):aH (gy pt q) p=q.filter fun s=>decide (pt s=p):=by
 suffices h:∀(q:List Nat) (F:EL),aH (q.foldl (fE pt) F) p=aH F p++q.filter fun s=>decide (pt s=p)by
  have:=h q [];rw[show aH [] p=[]from rfl,List.nil_append]at this;exact this
 intro q
 induction q with
 |nil=>intro F;simp
 |cons s q ih=>
  intro F;show aH (q.foldl (fE pt) (fE pt F s)) p=_;rw[ih,fE,sX,List.filter_cons];by_cases h:p=pt s
  ·subst h;simp
  ·have h':¬pt s=p:=fun z=>h z.symm;simp[h,h']
def zJ(pt:Nat->Nat)(p:Nat)(q:List Nat):p∈(gy pt q).map (·.1)↔∃s∈q,pt s=p:=by
 suffices h:∀(q:List Nat) (F:EL),p∈(q.foldl (fE pt) F).map (·.1)↔p∈F.map (·.1)\/∃s∈q,pt s=p by
  refine(h q []).trans ⟨fun z=>z.elim (fun z=>nomatch z) id,.inr⟩
 intro q
 induction q with
 |nil=>intro F;simp
 |cons s q ih=>
  intro F;show p∈(q.foldl (fE pt) (fE pt F s)).map (·.1)↔_;rw[ih,fE,sM];constructor
  ·rintro ((h|h)|⟨u,h1,h2⟩)
   ·exact .inl h
   ·exact .inr ⟨s,zaq,h.symm⟩
   ·exact .inr ⟨u,zaj _ h1,h2⟩
  ·rintro (h|⟨u,h1,h2⟩)
   ·exact .inl (.inl h)
   ·rcases zay.mp h1 with e|h1
    ·subst e;exact .inl (.inr h2.symm)
    ·exact .inr ⟨u,h1,h2⟩
def Is(pt:Nat->Nat)(q:List Nat):((gy pt q).map (·.1)).Nodup:=by
 suffices h:∀(q:List Nat) (F:EL),(F.map (·.1)).Nodup->((q.foldl (fE pt) F).map (·.1)).Nodup from h q [] (by simp)
 intro q
 induction q with
 |nil=>exact fun F h=>h
 |cons s q ih=>exact fun F h=>ih _ (xi h)
theorem qJ{t:Nat}:∀{E:EL},t∉E.map (·.1)->aH E t=[]
 |[],_=>rfl
 | (k,l)::E,h=>by
  rw[zar,zay,not_or]at h;show(if k=t then l else aH E t)=[];rw[if_neg fun z=>h.1 z.symm];exact qJ h.2
def DA:ja (aa 1) (aa 4) (aV af) [x0,some (elD E),x2,x3,some (iD t),x5]=some (nD (aH E t),[x0,some (elD E),x2,x3,some (iD t),x5]):=by
 have e0:∀en:En,aV af en=some (.list [],en):=fun en=>by
  show(if([]:List D).length<=sizeLine then some (PyData.list [],en)else none)=_;exact if_pos (by decide)
 have e1:ja (aa 1) (aa 4) (aV af) [x0,some (elD E),x2,x3,some (iD t),x5]=(aV af [x0,some (elD E),x2,x3,some (iD t),x5]).bind fun q=>if noT (E.map eb)=true then some ((aG (E.map eb) (iD t)).getD q.1,q.2)else none:=rfl
 rw[e1,e0];show(if noT (E.map eb)=true then some ((aG (E.map eb) (iD t)).getD (.list []),_)else none)=_;rw[if_pos (Hm E),mP];by_cases h:t∈E.map (·.1)
 ·rw[if_pos h];rfl
 ·rw[if_neg h]
  have:aH E t=[]:=qJ h;rw[this];rfl
def Dp{po:D}{pt:Nat->Nat}(hq:(S.flatMap (aH E)).length<=1000)(hp:∀s∈S.flatMap (aH E),cL po (iD s)=some (iD (pt s))):
  W (df [nD S,elD E,po]) (fun r=>r=(elD (gy pt (S.flatMap (aH E))),[none,none,none])):=by
 simp only[df,lC,cG,ws,nD];refine bw (fun i en=>∃o4 o5,en=[some (.list (S.map iD)),some (elD E),some po,some (elD (gy pt ((S.take i).flatMap (aH E)))),o4,o5]) ⟨_,_,rfl⟩ ?_ ?_
 ·rintro i t en ht ⟨o4,o5,rfl⟩;obtain⟨t,hs,rfl⟩:=gm ht;simp only[ws,jz];refine W.of DA ?_;simp only[ws,nD];have eS:S.flatMap (aH E)=(S.take i).flatMap (aH E)++aH E t++(S.drop (i+1)).flatMap (aH E):=by
   conv=>lhs;rw[<-List.take_append_drop (i+1) S,tk hs]
   rw[List.flatMap_append,List.flatMap_append];simp
  have le:((S.take i).flatMap (aH E)).length+(aH E t).length<=1000:=by
   have:=congrArg List.length eS;rw[zae,zae]at this;omega
  refine bw (fun j en=>∃o5,en=[some (.list (S.map iD)),some (elD E),some po,some (elD (gy pt ((S.take i).flatMap (aH E)++(aH E t).take j))),some (iD t),o5]) ⟨_,by rw[List.take_zero,zbq]⟩ ?_ ?_
  ·rintro j u en hu ⟨o5,rfl⟩;obtain⟨s,hs2,rfl⟩:=gm hu;have ms:s∈S.flatMap (aH E):=by
    rw[eS];exact zbd _ (zbe _ (zaW hs2))
   have g1:=hp s ms;have hl:((S.take i).flatMap (aH E)++(aH E t).take j).length<=1000:=by
    rw[zae,zaE];omega
   have l1:=D4 pt ((S.take i).flatMap (aH E)++(aH E t).take j);have l2:(aH (gy pt ((S.take i).flatMap (aH E)++(aH E t).take j)) (pt s)).length<=1000:=by
    rw[u4];exact zau (zbC ..) hl
   simp only[ws,jA];refine W.of (wT (E:=gy pt ((S.take i).flatMap (aH E)++(aH E t).take j)) (k:=pt s) (s:=s) (π:=[]) rfl rfl rfl ?_ (fun u=>rfl) (by omega) (by omega)) ?_
   ·show(cL po (iD s)).map _=_;rw[g1];rfl
   ·rw[tk hs2,<-zaD,zI];exact⟨_,rfl⟩
  ·rintro en ⟨o5,rfl⟩;rw[zad,zaP,tk hs,List.flatMap_append];exact⟨some (iD t),o5,by simp⟩
 ·rintro en ⟨o4,o5,rfl⟩;rw[zad,zaP];simp only[ws]
abbrev PL:=List (Nat×Nat)
variable{m:PL}
def pb(q:Nat×Nat):D×D:=(iD q.1,iD q.2)
def poD(m:PL):D:=.dict (m.map pb)
def ay(m:PL)(s:Nat):Option Nat:=(m.find? fun q=>decide (q.1=s)).map (·.2)
def di(m:PL)(s v:Nat):PL:=if s∈m.map (·.1)then m.map (fun q=>if q.1=s then(q.1,v)else q)else m++[(s,v)]
def xj(m:PL):noT (m.map pb)=true:=by
 unfold noT;cases m with
 |nil=>rfl
 |cons q m=>rfl
def p8(m:PL)(s:Nat):aG (m.map pb) (iD s)=(ay m s).map iD:=by
 unfold aG ay
 induction m with
 |nil=>rfl
 |cons q m ih=>
  rw[zar,zbm,zbm]
  have:kEq (pb q).1 (iD s)=decide (q.1=s):=kG q.1 s;rw[this];by_cases h:q.1=s
  ·simp[h,pb]
  ·simp only[h,decide_false];exact ih
def xI(m:PL)(s:Nat):cL (poD m) (iD s)=(ay m s).map iD:=p8 m s
def mem_getP:(ay m s).isSome=true↔s∈m.map (·.1):=by
 unfold ay;rw[Option.isSome_map,List.find?_isSome];simp
def Ji(m:PL)(s:Nat):((m.map pb).any fun q=>kEq q.1 (iD s))=decide (s∈m.map (·.1)):=by
 induction m with
 |nil=>simp
 |cons q m ih=>
  rw[zar,List.any_cons,ih]
  have:kEq (pb q).1 (iD s)=decide (q.1=s):=kG q.1 s;rw[this];by_cases h:q.1=s
  ·simp[h]
  ·have h':¬s=q.1:=fun z=>h z.symm;simp[h,h']
def sj(m:PL)(s v:Nat):cZ (m.map pb) (iD s) (iD v)=(di m s v).map pb:=by
 unfold cZ di;rw[Ji];by_cases h:s∈m.map (·.1)
 ·simp only[h,decide_true,if_true];rw[zaQ,zaQ];apply zbu;intro q _;show(if kEq (iD q.1) (iD s)then _ else _)=pb (if q.1=s then _ else _);rw[kG];by_cases e:q.1=s
  ·simp[e,pb]
  ·simp[e]
 ·simp only[h,decide_false,Bool.false_eq_true,if_false];rw[zaC];rfl
def kJ(m:PL)(s v u:Nat):ay (di m s v) u=if u=s then some v else ay m u:=by
 unfold di;by_cases h:s∈m.map (·.1)
 ·rw[if_pos h]
  induction m with
  |nil=>cases h
  |cons q m ih=>
   unfold ay at ih ⊢;rw[zar,zbm,zbm];by_cases e:q.1=s
   ·rw[if_pos e];by_cases e2:q.1=u
    ·have:u=s:=e2.symm.trans e;simp[e2,this]
    ·have e3:¬u=s:=fun z=>e2 (e.trans z.symm);simp only[e2,decide_false,e3,if_false];by_cases h2:s∈m.map (·.1)
     ·have:=ih h2;rw[if_neg e3]at this;exact this
     ·have em:(m.map fun q=>if q.1=s then(q.1,v)else q)=m:=by
       conv=>rhs;rw[<-List.map_id m]
       apply zbu;intro x hx;rw[if_neg fun z=>h2 (zaz.mpr ⟨x,hx,z⟩)];rfl
      rw[em]
   ·rw[if_neg e];have h2:s∈m.map (·.1):=by
     rcases zay.mp h with z|z
     ·exact absurd z.symm e
     ·exact z
    by_cases e2:q.1=u
    ·have e3:¬u=s:=fun z=>e (e2.trans z);simp[e2,e3]
    ·simp only[e2,decide_false];exact ih h2
 ·rw[if_neg h];unfold ay;rw[List.find?_append];by_cases e:u=s
  ·subst e
   have:m.find? (fun q=>decide (q.1=u))=none:=by
    rw[List.find?_eq_none];intro x hx z;exact h (zaz.mpr ⟨x,hx,of_decide_eq_true z⟩)
   rw[this];simp
  ·have e':¬s=u:=fun z=>e z.symm;simp[e,e']
def Ew(Q:List Nat)(s:Nat):fm (Q.map kv) (iD s)=(Q.filter fun u=>decide (u≠s)).map kv:=by
 unfold fm;rw[zbA];congr 1;apply zbV;intro u _;show(!kEq (kv u).1 (iD s))=_;rw[xB];by_cases h:u=s
 ·simp[h]
 ·simp[h]
def Dm(h:s∈Q):(aG (Q.map kv) (iD s)).isSome=true:=by
 unfold aG;rw[Option.isSome_map,kO];exact zaB h
def Ex(hP:P[p]?=some Q)(hs:s∈Q):
  jO 0 (pIx 0 (du 0) (aa 2)) (aa 7) [some (au P),x1,some (iD p),x3,x4,x5,x6,some (iD s)]=some (.nx [some (au (P.set p (Q.filter fun u=>decide (u≠s)))),x1,some (iD p),x3,x4,x5,x6,some (iD s)]):=by
 have hj:p<P.length:=(zah.mp hP).1;have e1:pIx 0 (du 0) (aa 2) [some (au P),x1,some (iD p),x3,x4,x5,x6,some (iD s)]=some ([p],[some (au P),x1,some (iD p),x3,x4,x5,x6,some (iD s)]):=by
  show(ixN (P.map aB).length (p:Int)).bind _=_;rw[qb (by rw[zad];exact hj)];show(if p<(P.map aB).length then _ else none)=_;rw[if_pos (by rw[zad];exact hj)];rfl
 have e2:aW (au P) [p]=some (.dict (Q.map kv)):=by
  show((P.map aB)[p]?).bind _=_;rw[zao,hP];rfl
 have e3:∀Q':List Nat,ao (au P) [p] (.dict (Q'.map kv))=au (P.set p Q'):=fun Q'=>by
  show PyData.list ((P.map aB).set p (((P.map aB)[p]?).elim .none fun c=>ao c [] (.dict (Q'.map kv))))=_;rw[zao,hP];show PyData.list ((P.map aB).set p (aB Q'))=_;rw[<-List.map_set];rfl
 unfold jO;rw[e1];show(aW (au P) [p]).bind _=_;rw[e2];show(if(aG (Q.map kv) (iD s)).isSome=true then some (Fl.nx [some (ao (au P) [p] (.dict (fm (Q.map kv) (iD s)))),x1,some (iD p),x3,x4,x5,x6,some (iD s)])else none)=_;rw[if_pos (Dm hs),Ew,e3]
def ba(m:PL)(M:List Nat)(v:Nat):PL:=M.foldl (fun m s=>di m s v) m
def m7(m:PL)(M:List Nat)(s v:Nat):ba m (M++[s]) v=di (ba m M v) s v:=by
 unfold ba;rw[List.foldl_append];rfl
theorem kK(v u:Nat):∀(M:List Nat) (m:PL),ay (ba m M v) u=if u∈M then some v else ay m u
 |[],m=>by simp[ba]
 |s::M,m=>by
  show ay (ba (di m s v) M v) u=_;rw[kK v u M,kJ];by_cases h:u∈M
  ·simp[h]
  ·by_cases e:u=s
   ·simp[e]
   ·simp[h,e]
def rT(m:PL)(s v:Nat):(di m s v).length<=m.length+1:=by
 unfold di;split
 ·rw[zad];omega
 ·rw[zae];simp
theorem iR(v:Nat):∀(M:List Nat) (m:PL),(ba m M v).length<=m.length+M.length
 |[],m=>zav _
 |s::M,m=>by
  have h1:=iR v M (di m s v);have h2:=rT m s v;show(ba (di m s v) M v).length<=_;rw[zac];omega
def bE(Q M:List Nat):List Nat:=Q.filter fun u=>decide (u∉M)
def vG(Q M:List Nat)(s:Nat):(bE Q M).filter (fun u=>decide (u≠s))=bE Q (M++[s]):=by
 unfold bE;rw[List.filter_filter];apply zbV;intro u _;by_cases h1:u∈M<;>by_cases h2:u=s<;>simp[h1,h2]
def KW(h:k∉S)(hl:S.length<2000):
  bO 6 (aa 7) (eC (.bool true)) [x0,x1,x2,x3,x4,x5,some (aB S),some (iD k)]=some (.nx [x0,x1,x2,x3,x4,x5,some (aB (S++[k])),some (iD k)]):=by
 show(if(S.map kv).length<sizeLine then some (Fl.nx [x0,x1,x2,x3,x4,x5,some (.dict (cZ (S.map kv) (iD k) (.bool true))),some (iD k)])else none)=_;rw[if_pos (by rw[zad];exact cF (by omega)),mM h];rfl
def K0(hl:m.length<5000):
  bO 1 (aa 7) (eN aZ (ae (aa 0) af)) [some (au P),some (poD m),x2,x3,x4,x5,x6,some (iD k)]=some (.nx [some (au P),some (poD (di m k P.length)),x2,x3,x4,x5,x6,some (iD k)]):=by
 have e1:(eN aZ (ae (aa 0) af)) [some (au P),some (poD m),x2,x3,x4,x5,x6,some (iD k)]=some (iD P.length,[some (au P),some (poD m),x2,x3,x4,x5,x6,some (iD k)]):=by
  show some (PyData.int ((P.map aB).length:Nat),_)=_;rw[zad];rfl
 unfold bO;rw[e1];show(if(m.map pb).length<sizeLine then some (Fl.nx [some (au P),some (.dict (cZ (m.map pb) (iD k) (iD P.length))),x2,x3,x4,x5,x6,some (iD k)])else none)=_;rw[if_pos (by rw[zad];exact cF (by omega)),sj];rfl
def Dl{M:List Nat}(hP:P[p]?=some Q)(nM:M.Nodup)(sub:∀s∈M,s∈Q)(hQ:Q.length<=1000)(hM:M.length<=1000)(hm:m.length<=1000) 
  (h:∀o7,R (.nx [some (au (P.set p (bE Q M))),some (poD (ba m M P.length)),some (iD p),x3,some (nD M),x5,some (aB M),o7])):
  W (ck (gN 7) fu (M.map iD) [some (au P),some (poD m),some (iD p),x3,some (nD M),x5,some (aB []),x7]) R:=by
 have hj:p<P.length:=(zah.mp hP).1;refine bw (fun i en=>∃o7,en=[some (au (P.set p (bE Q (M.take i)))),some (poD (ba m (M.take i) P.length)),some (iD p),x3,some (nD M),x5,some (aB (M.take i)),o7]) ⟨x7,?_⟩ ?_ ?_
 ·have e:P.set p (bE Q [])=P:=by
   have:bE Q []=Q:=by unfold bE;simp
   rw[this];apply List.ext_getElem?;intro j;by_cases hh:p=j
   ·subst hh;rw[zaO hj,hP]
   ·rw[zaN hh]
  rw[List.take_zero,e];rfl
 ·rintro i t en ht ⟨o7,rfl⟩;obtain⟨s,hs,rfl⟩:=gm ht;have ni:s∉M.take i:=fun z=>by
   obtain⟨k,hk⟩:=zbo z;rw[List.getElem?_take]at hk;split at hk
   next h=>
    have hk2:=(zah.mp hk).1
    have:=(List.getElem?_inj hk2 nM).mp (hk.trans hs.symm);omega
   next=>cases hk
  have sQ:s∈bE Q (M.take i):=zbB.mpr ⟨sub s (zaW hs),zaB ni⟩;have lt:(M.take i).length<=1000:=by rw[zaE];omega
  have ls:=iR P.length (M.take i) m;simp only[ws,fu];refine W.of (Ex (P:=P.set p (bE Q (M.take i))) (Q:=bE Q (M.take i)) (zaO hj) sQ) ?_;simp only[ws];refine W.of (KW ni (by omega)) ?_;simp only[ws];refine W.of (K0 (by omega)) ?_;rw[List.set_set,vG,zaU,tk hs,m7];exact⟨_,rfl⟩
 ·rintro en ⟨o7,rfl⟩;rw[zad,zaP];exact h o7
def md{bs:List Bool}{ds':List Nat}{m:MS}{Q:Fl->Prop}(h:W (m en) (fun fl=>∃en',fl=.nx en'/\Q (.nx (bY bs ds' en en')))):W (fN bs ds' m en) Q:=by
 unfold fN;rw[aA];refine W.use h ?_;rintro fl ⟨en',e,q⟩;subst e;exact(aF _ _).mpr q
def xq(Q:List Nat):kys (Q.map kv)=Q.map iD:=by
 unfold kys;rw[zaQ];rfl
def kT(hP:P[p]?=some Q):atI (P.map aB) (p:Int)=some (aB Q):=by
 rw[bu,zao,hP];rfl
def HN(hP:P[p]?=some Q):iDz (e2 ixA (aa 0) (aa 2)) [some (au P),x1,some (iD p),x3,x4,x5,x6,x7]=some (Q.map iD,[some (au P),x1,some (iD p),x3,x4,x5,x6,x7]):=by
 have e1:(e2 ixA (aa 0) (aa 2)) [some (au P),x1,some (iD p),x3,x4,x5,x6,x7]=some (aB Q,[some (au P),x1,some (iD p),x3,x4,x5,x6,x7]):=by
  show(atI (P.map aB) (p:Int)).map _=_;rw[kT hP];rfl
 unfold iDz;rw[e1];show(if noT (Q.map kv)=true then some (kys (Q.map kv),_)else none)=_;rw[if_pos (gq Q),xq]
def oM(Q:List Nat):rH [aB Q]=some (.int (Q.length:Nat)):=by
 show grd (noT (Q.map kv)=true) (PyData.int ((Q.map kv).length:Nat))=_;unfold grd;rw[if_pos (gq Q),zad]
def jN(l:List Nat):cf 1 (nD l)=true:=by
 show(true&&eT 0 (l.map iD))=true;rw[zaG]
 induction l with
 |nil=>rfl
 |cons a l ih=>
  show(cf 0 (iD a)&&eT 0 (l.map iD))=true;rw[ih];rfl
def pT(m:PL):cf 1 (poD m)=true:=by
 show(true&&fM 0 (m.map pb))=true;rw[zaG]
 induction m with
 |nil=>rfl
 |cons a l ih=>
  show(cf 0 (iD a.2)&&fM 0 (l.map pb))=true;rw[ih];rfl
def yD{lead:List Nat}(hP:P[p]?=some Q)(hPl:P.length<=2000)(nQ:Q.Nodup)(nl:lead.Nodup)(sub:∀s∈lead,s∈Q)(hQ:Q.length<=1000)(hL:lead.length<=1000)(hm:m.length<=1000):
  W (e8 [au P,poD m,iD p,nD lead]) (fun r=>∃M:List Nat,(M=lead\/M=bE Q lead)/\r=(.none,[some (au (P.set p (bE Q M)++[M])),some (poD (ba m M P.length)),none,none])):=by
 have ap:=kT hP;have fin:∀{M:List Nat} {x5 x7:Option D},(M=lead\/M=bE Q lead)->M.Nodup->(∀s∈M,s∈Q)->M.length<=1000 ->
   W (bq (bh (aa 4)) (gN 7) fu [some (au P),some (poD m),some (iD p),some (nD lead),some (nD M),x5,some (.dict []),x7]) (sO (b4 (b9 0 (eMv 6))) (kFn [2,1,0,0] (fun r=>∃M:List Nat,(M=lead\/M=bE Q lead)/\r=(.none,[some (au (P.set p (bE Q M)++[M])),some (poD (ba m M P.length)),none,none])))):=fun h1 h2 h3 h4=>by
  simp only[ws,nD];refine Dl hP h2 h3 hQ h4 hm fun o7=>?_;simp only[ws,au];refine⟨cF (by rw[zaU];omega),_,h1,?_⟩;rw[zaC];rfl
 simp only[e8,nC,ws,nD,au,iD,ap,oM,zad];refine⟨.inr ⟨by omega,by decide⟩,?_⟩;by_cases hc:(Q.length:Int)<(lead.length:Int)*2
 ·simp only[ws,hc,decide_true];refine W.use (lT nl hL) ?_;rintro _ rfl;simp only[ws];refine md ?_;simp only[ws,lu];refine W.of (HN hP) ?_;simp only[ws];refine cP (fun t=>match t with|.int z=>decide (z.toNat∉lead)|_=>false) (fun t=>t) (by rw[zad];exact szB (by omega)) (fun t ht=>?_) (fun t ht _=>by simp only[ws,ly]) fun o=>?_
  ·obtain⟨k,_,rfl⟩:=zaz.mp ht;simp only[ws,k6,iD,sE,zaK];by_cases hk:k∈lead<;>simp[hk]
  ·have eM:List.map (fun t=>t) (List.filter (fun t=>match t with|PyData.int z=>decide (z.toNat∉lead)|_=>false) (Q.map iD))=(bE Q lead).map iD:=by
    rw[List.map_id',zbA];rfl
   rw[eM];simp only[ws];refine⟨_,rfl,?_⟩;have s1:=jN (bE Q lead);have s2:=pT m;unfold nD at s1;have eL:bY [true,false,true,true,false,true,true,false] [2,1,0,0,1,0,0,0] [some (PyData.list (List.map aB P)),some (poD m),some (PyData.int (p:Int)),some (PyData.list (List.map iD lead)),some (PyData.list (List.map iD lead)),some (aB lead),none,none] [some (au P),some (poD m),some (iD p),some (PyData.list (List.map iD lead)),some (PyData.list (List.map iD (bE Q lead))),some (aB lead),none,none]=[some (au P),some (poD m),some (iD p),some (nD lead),some (nD (bE Q lead)),some (aB lead),none,none]:=by
    simp[bY,dw,s1,s2,au,iD,nD]
   rw[eL];simp only[ws,cG,nD]
   have:=fin (x5:=some (aB lead)) (x7:=none) (.inr rfl) (nQ.filter _) (fun s z=>(zbB.mp z).1) (zau (zbC ..) hQ);simp only[ws,nD]at this;exact this
 ·simp only[ws,hc,decide_false,cG];exact fin (.inl rfl) nl sub hL
def dq:Nat->List (List Nat)->PL->PL
 |_,[],m=>m
 |k,Q::P,m=>dq (k+1) P (ba m Q k)
theorem qD:∀(P:List (List Nat)) (k:Nat) (Q:List Nat) (m:PL),dq k (P++[Q]) m=ba (dq k P m) Q (k+P.length)
 |[],k,Q,m=>rfl
 |Q0::P,k,Q,m=>by
  show dq (k+1) (P++[Q]) (ba m Q0 k)=_;rw[qD P (k+1) Q (ba m Q0 k)];show _=ba (dq (k+1) P (ba m Q0 k)) Q (k+(P.length+1));congr 1;omega
theorem nN:∀(P:List (List Nat)) (k:Nat) (m:PL),(dq k P m).length<=m.length+P.flatten.length
 |[],k,m=>zav _
 |Q::P,k,m=>by
  have h1:=nN P (k+1) (ba m Q k);have h2:=iR k Q m;show(dq (k+1) P (ba m Q k)).length<=_;rw[List.flatten_cons,zae];omega
def KY(hl:m.length<5000):
  bO 3 (aa 6) (aa 4) [x0,x1,x2,some (poD m),some (iD k),x5,some (iD s),x7,x8,x9,x10,x11,x12]=some (.nx [x0,x1,x2,some (poD (di m s k)),some (iD k),x5,some (iD s),x7,x8,x9,x10,x11,x12]):=by
 show(if(m.map pb).length<sizeLine then some (Fl.nx [x0,x1,x2,some (.dict (cZ (m.map pb) (iD s) (iD k))),some (iD k),x5,some (iD s),x7,x8,x9,x10,x11,x12])else none)=_;rw[if_pos (by rw[zad];exact cF (by omega)),sj];rfl
def K6:iDz (aa 5) [x0,x1,x2,x3,x4,some (aB Q),x6,x7,x8,x9,x10,x11,x12]=some (Q.map iD,[x0,x1,x2,x3,x4,some (aB Q),x6,x7,x8,x9,x10,x11,x12]):=by
 show(if noT (Q.map kv)=true then some (kys (Q.map kv),_)else none)=_;rw[if_pos (gq Q),xq]
def Dz(hP:P.flatten.length<=1000){d0 d1:D} 
  (h:∀o4 o5 o6,R (.nx [some d0,some d1,some (au P),some (poD (dq 0 P [])),o4,o5,o6,none,none,none,none,none,none])):
  W (fN [true,true,true,false,false,false,false,true,true,true,true,true,true] [0,0,2,1,0,0,0,0,0,0,0,0,0] dR [some d0,some d1,some (au P),some (.dict []),none,none,none,none,none,none,none,none,none]) R:=by
 refine md ?_;simp only[ws,dR,au];refine bw (fun i en=>∃o4 o5 o6,en=[some d0,some d1,some (.list (P.map aB)),some (poD (dq 0 (P.take i) [])),o4,o5,o6,none,none,none,none,none,none]) ⟨_,_,_,rfl⟩ ?_ ?_
 ·rintro i t en ht ⟨o4,o5,o6,rfl⟩;obtain⟨u,hu,rfl⟩:=dI ht;obtain⟨Q,hQ,rfl⟩:=gm hu;have hi:i<P.length:=(zah.mp hQ).1;have lQ:(P.take i).flatten.length+Q.length<=1000:=by
   have e:P.flatten=((P.take i++[Q])++P.drop (i+1)).flatten:=by rw[<-tk hQ,List.take_append_drop]
   have:=congrArg List.length e;rw[List.flatten_append,List.flatten_append,zae,zae]at this;have q1:[Q].flatten.length=Q.length:=by rw[List.flatten_cons,List.flatten_nil,zbq]
   omega
  have l0:=nN (P.take i) 0 [];simp only[ws,iq];refine W.of K6 ?_;simp only[ws];refine bw (fun j en=>∃o6,en=[some d0,some d1,some (.list (P.map aB)),some (poD (ba (dq 0 (P.take i) []) (Q.take j) i)),some (iD i),some (aB Q),o6,none,none,none,none,none,none]) ⟨_,rfl⟩ ?_ ?_
  ·rintro j u en hu2 ⟨o6,rfl⟩;obtain⟨s,hs,rfl⟩:=gm hu2;have l1:=iR i (Q.take j) (dq 0 (P.take i) []);rw[zaE]at l1;rw[List.length_nil]at l0;simp only[ws,ir];refine W.of (KY (by omega)) ?_;rw[tk hs,m7];exact⟨_,rfl⟩
  ·rintro en ⟨o6,rfl⟩;rw[zad,zaP,tk hQ,qD,zaE,Nat.min_eq_left (by omega),za2];exact⟨_,_,_,rfl⟩
 ·rintro en ⟨o4,o5,o6,rfl⟩;rw[dH,zad,zaP];refine⟨_,rfl,?_⟩;have s2:=pT (dq 0 P []);have eL:bY [true,true,true,false,false,false,false,true,true,true,true,true,true] [0,0,2,1,0,0,0,0,0,0,0,0,0] [some d0,some d1,some (au P),some (.dict []),none,none,none,none,none,none,none,none,none] [some d0,some d1,some (.list (P.map aB)),some (poD (dq 0 P [])),o4,o5,o6,none,none,none,none,none,none]=[some d0,some d1,some (au P),some (poD (dq 0 P [])),dw 0 o4,dw 0 o5,dw 0 o6,none,none,none,none,none,none]:=by
   simp only[bY,if_true,Bool.false_eq_true,if_false]
   have:dw 1 (some (poD (dq 0 P [])))=some (poD (dq 0 P [])):=if_pos s2;rw[this]
  exact eL▸h _ _ _
def CT(E:EL):cf 2 (elD E)=true:=by
 show(true&&fM 1 (E.map eb))=true;rw[zaG]
 induction E with
 |nil=>rfl
 |cons q E ih=>
  show(cf 1 (nD q.2)&&fM 1 (E.map eb))=true;rw[ih,jN];rfl
def G5(E:EL):prs (E.map eb)=E.map fun q=>.tuple [iD q.1,nD q.2]:=by
 unfold prs;rw[zaQ];rfl
end
end W13
namespace W13
variable{u:Nat}{ks:List Nat}
abbrev Pt:=Nat->Option Nat
def cl(G:Gr)(pt:Pt)(s a:Nat):Option Nat:=(led G s a).bind pt
def bU(G:Gr)(S:List Nat)(s a:Nat):Prop:=∃t,led G s a=some t/\t∈S
def Kt(G:Gr)(l:List Nat)(s a t:Nat):Prop:=led G s a=some t/\t∈l
def Dst(G:Gr)(B:Nat->Bool)(l:List Nat)(w:Nat):Nat->Nat->Nat->Prop
 |0,s,t=>B s≠B t
 |j+1,s,t=>Dst G B l w j s t\/∃a,a<w/\((∃u,Kt G l s a u/\∀v,Kt G l t a v->Dst G B l w j u v)\/∃v,Kt G l t a v/\∀u,Kt G l s a u->Dst G B l w j u v)
section
variable{G:Gr}{B:Nat->Bool}{l S M U:List Nat}{w n p a:Nat}{pt pt0:Pt}
structure Prt(G:Gr)(B:Nat->Bool)(l:List Nat)(w:Nat)(pt:Pt)(n:Nat):Prop where
 dom:∀s,s∈l↔∃p,pt s=some p
 lt:∀s p,pt s=some p->p<n
 two:2<=n
 en:∀s t p,pt s=some p->pt t=some p->B s=B t
 ds:∀s t,s∈l->t∈l->pt s≠pt t->Dst G B l w (n-2) s t
 ne:∀p,2<=p->p<n->∃s,pt s=some p
structure Trn(G:Gr)(l:List Nat)(w:Nat)(S:List Nat)(pt:Pt)(U:List Nat):Prop where
 inv:∀s t p a,pt s=some p->pt t=some p->a<w->(∀q∈U,cl G pt s a=some q↔cl G pt t a=some q)->(bU G S s a↔bU G S t a)->cl G pt s a=cl G pt t a
 un:∀s t p,pt s=some p->pt t=some p->s∈S->t∈S
 sl:∀s∈S,s∈l
def Agr(G:Gr)(S:List Nat)(pt:Pt)(a:Nat):Prop:=∀s t p,pt s=some p->pt t=some p->bU G S s a->bU G S t a
def eP(pt:Pt)(M:List Nat)(n:Nat):Pt:=fun s=>if s∈M then some n else pt s
def Trn.pop(hl:∀s∈S,s∈l)(h:Trn G l w [] pt (U++[u]))(hS:∀t,t∈S↔pt t=some u):Trn G l w S pt U:=by
 have e:∀s a,bU G S s a↔cl G pt s a=some u:=fun s a=>by
  unfold bU cl;rw[zaa];exact exists_congr fun t=>and_congr_right fun _=>hS t
 refine⟨fun s t p a h1 h2 ha h3 h4=>h.inv s t p a h1 h2 ha (fun q hq=>?_) (by unfold bU;simp),fun s t p h1 h2 h3=>(hS t).mpr (h2.trans (h1.symm.trans ((hS s).mp h3))),hl⟩;rcases zax.mp hq with hq|hq
 ·exact h3 q hq
 ·rw[zaH.mp hq,<-e,<-e];exact h4
def Trn.done(h:Trn G l w S pt U)(ag:∀a,a<w->Agr G S pt a):Trn G l w [] pt U:=
 ⟨fun s t p a h1 h2 ha h3 _=>h.inv s t p a h1 h2 ha h3 ⟨ag a ha s t p h1 h2,ag a ha t s p h2 h1⟩,(fun _ _ _ _ _ z=>by cases z),fun _ z=>by cases z⟩
structure Hlf(G:Gr)(S:List Nat)(pt:Pt)(p a:Nat)(M:List Nat):Prop where
 sub:∀s∈M,pt s=some p
 ne:∃s,s∈M
 st:∃s,pt s=some p/\s∉M
 ap:∀s t,pt s=some p->pt t=some p->(s∈M↔t∈M)->(bU G S s a↔bU G S t a)
 to:∀s t,pt s=some p->pt t=some p->(bU G S s a↔bU G S t a)->(s∈M↔t∈M)
def jb(hn:∀s p,pt s=some p->p<n)(hM:∀s∈M,pt s=some p){s t q:Nat}(h1:eP pt M n s=some q)(h2:eP pt M n t=some q):∃q',pt s=some q'/\pt t=some q'/\(s∈M↔t∈M):=by
 unfold eP at h1 h2;by_cases c1:s∈M
 ·rw[if_pos c1]at h1;by_cases c2:t∈M
  ·exact⟨p,hM s c1,hM t c2,fun _=>c2,fun _=>c1⟩
  ·rw[if_neg c2]at h2;cases h1;exact absurd (hn t n h2) (zaI _)
 ·rw[if_neg c1]at h1;by_cases c2:t∈M
  ·rw[if_pos c2]at h2;cases h2;exact absurd (hn s n h1) (zaI _)
  ·rw[if_neg c2]at h2;exact⟨q,h1,h2,fun z=>absurd z c1,fun z=>absurd z c2⟩
def C2(h:Prt G B l w pt n)(T:Trn G l w S pt U)(ha:a<w)(H:Hlf G S pt p a M):Prt G B l w (eP pt M n) (n+1):=by
 have two:=h.two;have e2:n+1-2=(n-2)+1:=by omega
 have ci:∀{s},s∈M->eP pt M n s=some n:=fun z=>if_pos z;have co:∀{s},s∉M->eP pt M n s=pt s:=fun z=>if_neg z;have ap:∀s t,bU G S s a->¬bU G S t a->∃u,Kt G l s a u/\∀v,Kt G l t a v->pt u≠pt v:=fun s t ⟨u,h1,h2⟩ h3=>by
  have hu:=T.sl u h2;refine⟨u,⟨h1,hu⟩,fun v hv e=>h3 ⟨v,hv.1,?_⟩⟩;obtain⟨q,hq⟩:=(h.dom u).mp hu;exact T.un u v q hq (e▸hq) h2
 refine⟨fun s=>?_,fun s q hq=>?_,by omega,fun s t q h1 h2=>?_,fun s t hs ht hn=>?_,fun q q2 q1=>?_⟩
 ·by_cases m:s∈M
  ·rw[ci m];exact⟨fun _=>⟨n,rfl⟩,fun _=>(h.dom s).mpr ⟨p,H.sub s m⟩⟩
  ·rw[co m];exact h.dom s
 ·by_cases m:s∈M
  ·rw[ci m]at hq;cases hq;omega
  ·rw[co m]at hq;have:=h.lt s q hq;omega
 ·obtain⟨q',g1,g2,_⟩:=jb h.lt H.sub h1 h2;exact h.en s t q' g1 g2
 ·rw[e2];by_cases c:pt s=pt t
  ·obtain⟨q,hq⟩:=(h.dom s).mp hs;have hqt:=c▸hq;have nm:¬(s∈M↔t∈M):=fun z=>hn (by
    by_cases m:s∈M
    ·rw[ci m,ci (z.mp m)]
    ·rw[co m,co fun y=>m (z.mpr y),c])
   have qp:q=p:=by
    by_cases m:s∈M
    ·exact zat (hq.symm.trans (H.sub s m))
    ·by_cases m2:t∈M
     ·exact zat (hqt.symm.trans (H.sub t m2))
     ·exact absurd ⟨fun z=>absurd z m,fun z=>absurd z m2⟩ nm
   subst qp;have ni:¬(bU G S s a↔bU G S t a):=fun z=>nm (H.to s t hq hqt z);have kl:∀{s u},Kt G l s a u->u∈l:=fun z=>z.2;by_cases i:bU G S s a
   ·obtain⟨u,k,f⟩:=ap s t i fun z=>ni ⟨fun _=>z,fun _=>i⟩;exact .inr ⟨a,ha,.inl ⟨u,k,fun v kv=>h.ds u v k.2 kv.2 (f v kv)⟩⟩
   ·by_cases i2:bU G S t a
    ·obtain⟨u,k,f⟩:=ap t s i2 i;exact .inr ⟨a,ha,.inr ⟨u,k,fun v kv=>h.ds v u kv.2 k.2 fun z=>f v kv z.symm⟩⟩
    ·exact absurd ⟨fun z=>absurd z i,fun z=>absurd z i2⟩ ni
  ·exact .inl (h.ds s t hs ht c)
 ·by_cases e:q=n
  ·subst e;obtain⟨s,hs⟩:=H.ne;exact⟨s,ci hs⟩
  ·by_cases e3:q=p
   ·subst e3;obtain⟨s,hs,m⟩:=H.st;exact⟨s,(co m).trans hs⟩
   ·obtain⟨s,hs⟩:=h.ne q q2 (by omega);exact⟨s,(co fun m=>e3 (zat (hs.symm.trans (H.sub s m)))).trans hs⟩
def CJ(hn:∀s p,pt s=some p->p<n)(h:Trn G l w S pt U)(H:Hlf G S pt p a M):Trn G l w S (eP pt M n) (U++[n]):=by
 refine⟨fun s t q b h1 h2 hb h3 h4=>?_,fun s t q h1 h2 h3=>?_,h.sl⟩
 ·obtain⟨q',g1,g2,_⟩:=jb hn H.sub h1 h2;have hi:=h3 n (zbe _ (by simp));by_cases c:cl G (eP pt M n) s b=some n
  ·rw[c,hi.mp c]
  ·have e:∀s,cl G (eP pt M n) s b≠some n->cl G (eP pt M n) s b=cl G pt s b:=fun s z=>by
    unfold cl at z ⊢;cases hl:led G s b with
    |none=>rfl
    |some u=>
     rw[hl]at z;have z':eP pt M n u≠some n:=z;exact if_neg fun m=>z' (if_pos m)
   have e1:=e s c;have e2:=e t fun z=>c (hi.mpr z);rw[e1,e2];refine h.inv s t q' b g1 g2 hb (fun q hq=>?_) h4
   have:=h3 q (zbd _ hq)
   rwa[e1,e2]at this
 ·obtain⟨q',g1,g2,_⟩:=jb hn H.sub h1 h2;exact h.un s t q' g1 g2 h3
structure Sgn(G:Gr)(S:List Nat)(pt0:Pt)(a:Nat)(pt:Pt)(ks:List Nat):Prop where
 old:∀s p,pt0 s=some p->p∉ks->pt s=some p
 rf:∀s t p,pt s=some p->pt t=some p->pt0 s=pt0 t
 ag:∀s t p q,pt s=some p->pt t=some p->pt0 s=some q->q∈ks->(bU G S s a↔bU G S t a)
def Sgn.start:Sgn G S pt0 a pt0 []:=⟨fun _ _ h _=>h,fun _ _ _ h1 h2=>h1.trans h2.symm,fun _ _ _ _ _ _ _ z=>by cases z⟩
def Sgn.is(h:Sgn G S pt0 a pt ks)(hp:p∉ks)(hu:pt0 u=some p)(s:Nat):pt s=some p↔pt0 s=some p:=
 ⟨fun z=>(h.rf s u p z (h.old u p hu hp)).trans hu,fun z=>h.old s p z hp⟩
def Sgn.stay(h:Sgn G S pt0 a pt ks)(hp:p∉ks)(hu:pt0 u=some p)(all:∀s,pt0 s=some p->bU G S s a):Sgn G S pt0 a pt (ks++[p]):=by
 refine⟨fun s q h1 h2=>h.old s q h1 fun z=>h2 (zbd _ z),h.rf,fun s t r q h1 h2 h3 h4=>?_⟩;rcases zax.mp h4 with h4|h4
 ·exact h.ag s t r q h1 h2 h3 h4
 ·rw[zaH.mp h4]at h3;exact⟨fun _=>all t ((h.rf s t r h1 h2).symm.trans h3),fun _=>all s h3⟩
def Sgn.cut(h:Sgn G S pt0 a pt ks)(hn:∀s p,pt s=some p->p<n)(H:Hlf G S pt p a M)(hp:p∉ks)(hu:pt0 u=some p):Sgn G S pt0 a (eP pt M n) (ks++[p]):=by
 refine⟨fun s q h1 h2=>?_,fun s t r h1 h2=>?_,fun s t r q h1 h2 h3 h4=>?_⟩
 ·have:=h.old s q h1 fun z=>h2 (zbd _ z);refine(if_neg fun m=>h2 (zbe _ ?_)).trans this;rw[zat (this.symm.trans (H.sub s m))];simp
 ·obtain⟨q',g1,g2,_⟩:=jb hn H.sub h1 h2;exact h.rf s t q' g1 g2
 ·obtain⟨q',g1,g2,g3⟩:=jb hn H.sub h1 h2;rcases zax.mp h4 with h4|h4
  ·exact h.ag s t q' q g1 g2 h3 h4
  ·rw[zaH.mp h4]at h3;have q1:=(h.is hp hu s).mpr h3;exact H.ap s t q1 ((zat (g1.symm.trans q1))▸g2) g3
def Sgn.agr(h:Sgn G S pt0 a pt ks)(D:∀s p,pt s=some p->∃q,pt0 s=some q)(hk:∀s q,pt0 s=some q->q∉ks->¬bU G S s a):Agr G S pt a:=fun s t p h1 h2 h3=>by
 obtain⟨q,hq⟩:=D s p h1;by_cases c:q∈ks
 ·exact(h.ag s t p q h1 h2 hq c).mp h3
 ·exact absurd h3 (hk s q hq c)
def Sgn.agr'{b:Nat}(h:Sgn G S pt0 a pt ks)(D:∀s p,pt s=some p->∃q,pt0 s=some q)(hb:Agr G S pt0 b):Agr G S pt b:=fun s t p h1 h2 h3=>by
 obtain⟨q,hq⟩:=D s p h1;exact hb s t q hq ((h.rf s t p h1 h2).symm.trans hq) h3
end
end W13
namespace W13
variable{G R:Gr}{B:Nat->Bool}{l F sg:List Nat}{w n p a s t u W0 i j:Nat}{pt:Pt}{P:List (List Nat)}{m N:PL}{x0 x1 x5 x6 x7 x9 x10 x11 x4 x12 x2:Option D}{es:List Bool}{r:List (Option Nat)}{x:Option Nat}{en:En}{Q:D×En->Prop}
open PySem L2 Mch
theorem u3{p:Nat}{L:List Nat}:∀{E:EL},(E.map (·.1)).Nodup->(p,L)∈E->aH E p=L
 |[],_,h=>by cases h
 | (k,l)::E,nd,h=>by
  rw[zar,za9]at nd;show(if k=p then l else aH E p)=L;rcases zay.mp h with e|h
  ·cases e;rw[if_pos rfl]
  ·rw[if_neg (fun e:k=p=>nd.1 (e▸zaz.mpr ⟨_,h,rfl⟩))];exact u3 nd.2 h
def full{A B:List Nat}(nA:A.Nodup)(sub:∀s∈A,s∈B)(le:B.length<=A.length):∀s∈B,s∈A:=fun s hs=>Classical.byContradiction fun n=>by
 have:=cH (cs:=s::A) (A:=B) (za9.mpr ⟨n,nA⟩) fun c hc=>(zay.mp hc).elim (fun e=>e▸hs) (sub c);rw[zac]at this;omega
theorem m8(v:Nat):∀(M:List Nat) (m:PL),(∀s∈M,(ay m s).isSome=true)->(ba m M v).length=m.length
 |[],m,_=>rfl
 |s::M,m,h=>by
  have e:(di m s v).length=m.length:=by
   unfold di;rw[if_pos (mem_getP.mp (h s zaq)),zad]
  refine(m8 v M (di m s v) fun u hu=>?_).trans e;rw[kJ];split
  ·rfl
  ·exact h u (zaj _ hu)
structure Stt(G:Gr)(B:Nat->Bool)(l:List Nat)(w:Nat)(S:List Nat)(P:List (List Nat))(m:PL)(U:List Nat):Prop where
 pr:Prt G B l w (ay m) P.length
 tr:Trn G l w S (ay m) U
 nd:∀Q∈P,Q.Nodup
 mem:∀p Q,P[p]?=some Q->∀s,s∈Q↔ay m s=some p
 ml:m.length<=1000
 ul:∀u∈U,u<P.length
section
variable{S M U Q L ks:List Nat}{pt0:Pt} 
def out_mem:s∈bE Q M↔s∈Q/\s∉M:=by
 unfold bE;rw[zbB,zbg]
def Prt.cnt(h:Prt G B l w pt n):n<=l.length+2:=by
 have:=cH (cs:=List.range' 2 (n-2)) (A:=l.map fun s=>(pt s).getD 0) (List.nodup_range' ..) fun p hp=>by
  obtain⟨h1,h2⟩:=List.mem_range'_1.mp hp;obtain⟨s,hs⟩:=h.ne p h1 (by omega);exact zaz.mpr ⟨s,(h.dom s).mpr ⟨p,hs⟩,by rw[hs];rfl⟩
 rw[List.length_range',zad]at this;omega
def Stt.cut(h:Stt G B l w S P m U)(ha:a<w)(hP:P[p]?=some Q)(H:Hlf G S (ay m) p a M)(nM:M.Nodup):ay (ba m M P.length)=eP (ay m) M P.length/\Stt G B l w S (P.set p (bE Q M)++[M]) (ba m M P.length) (U++[P.length]):=by
 have e:ay (ba m M P.length)=eP (ay m) M P.length:=funext fun u=>kK _ u M m;have hj:p<P.length:=(zah.mp hP).1;have lt:=h.pr.lt;have el:(P.set p (bE Q M)++[M]).length=P.length+1:=by rw[zae,zaU];rfl
 refine⟨e,by rw[e,el];exact C2 h.pr h.tr ha H,by rw[e];exact CJ lt h.tr H,fun R hR=>?_,fun r R hR s=>?_,?_,fun u hu=>?_⟩
 ·rcases zax.mp hR with hR|hR
  ·rcases zbO hR with hR|hR
   ·exact h.nd R hR
   ·rw[hR];exact(h.nd Q (zaW hP)).filter _
  ·rw[zaH.mp hR];exact nM
 ·rw[e];have ci:s∈M->eP (ay m) M P.length s=some P.length:=fun z=>if_pos z;have co:s∉M->eP (ay m) M P.length s=ay m s:=fun z=>if_neg z;by_cases c:r=P.length
  ·rw[c,zbI (by rw[zaU];exact zav _),zaU,Nat.sub_self]at hR;cases hR;subst c;by_cases i:s∈M
   ·rw[ci i];exact⟨fun _=>rfl,fun _=>i⟩
   ·rw[co i];exact⟨fun z=>absurd z i,fun z=>absurd (lt s _ z) (zaI _)⟩
  ·have rl:=(zah.mp hR).1;rw[el]at rl;rw[zaR (by rw[zaU];omega)]at hR;by_cases d:p=r
   ·subst d;rw[zaO hj]at hR;cases hR;rw[out_mem,h.mem p Q hP s];by_cases i:s∈M
    ·rw[ci i];exact⟨fun z=>absurd i z.2,fun z=>absurd (zat z).symm c⟩
    ·rw[co i];exact⟨fun z=>z.1,fun z=>⟨z,i⟩⟩
   ·rw[zaN d]at hR;rw[h.mem r R hR s];by_cases i:s∈M
    ·rw[ci i];exact⟨fun z=>absurd (zat ((H.sub s i).symm.trans z)) d,fun z=>absurd (zat z).symm c⟩
    ·rw[co i]
 ·rw[m8 _ M m fun s hs=>by rw[H.sub s hs];rfl];exact h.ml
 ·rw[el];rcases zax.mp hu with hu|hu
  ·have:=h.ul u hu;omega
  ·rw[zaH.mp hu];omega
def Dv(hl:l.length<=1000)(ha:a<w)(h:Stt G B l w S P m U)(g:Sgn G S pt0 a (ay m) ks)(hp:p∉ks)(f1:∀s,s∈L↔pt0 s=some p/\bU G S s a)(f2:L.Nodup)(f3:∃u,u∈L)(hU:U.length<=5000){R:Fl->Prop}
  (k:∀P' m' U',Stt G B l w S P' m' U'->Sgn G S pt0 a (ay m') (ks++[p])->U'.length+2*P.length<=U.length+2*P'.length->R (.nx [x0,x1,some (au P'),some (poD m'),some (iD p),x5,x6,x7,some (nD U'),x9,x10,x11,some (nD L)])):
  W (dQ [x0,x1,some (au P),some (poD m),some (iD p),x5,x6,x7,some (nD U),x9,x10,x11,some (nD L)]) R:=by
 obtain⟨u,hu⟩:=f3;have u0:=((f1 u).mp hu).1;have is:=g.is hp u0;have pl:=h.pr.lt u p ((is u).mpr u0);obtain⟨Q,hP⟩:∃Q,P[p]?=some Q:=⟨_,zak pl⟩;have mQ:=h.mem p Q hP;have nQ:=h.nd Q (zaW hP);have ap:=kT hP;have LQ:∀s∈L,s∈Q:=fun s hs=>(mQ s).mpr ((is s).mpr ((f1 s).mp hs).1);have iL:∀s,ay m s=some p->(s∈L↔bU G S s a):=fun s hs=>⟨fun z=>((f1 s).mp z).2,fun z=>(f1 s).mpr ⟨(is s).mp hs,z⟩⟩;have lQ:=cH nQ fun s hs=>(h.pr.dom s).mpr ⟨p,(mQ s).mp hs⟩;have lL:=cH f2 LQ;have pn:=h.pr.cnt;simp only[ws,dQ,nD,au,iD,ap,oM,zad];by_cases c:(L.length:Int)<(Q.length:Int)
 ·obtain⟨v,hv,nv⟩:∃v∈Q,v∉L:=Classical.byContradiction fun z=>by
   have:=cH nQ fun s hs=>Classical.byContradiction fun y=>z ⟨s,hs,y⟩;omega
  simp only[ws,c,decide_true];refine⟨cF (by omega),?_⟩;refine W.use (yD hP (by omega) nQ f2 LQ (by omega) (by omega) h.ml) ?_;rintro _ ⟨M,hM,rfl⟩;have H:Hlf G S (ay m) p a M/\M.Nodup:=by
   rcases hM with rfl|rfl
   ·refine⟨⟨fun s hs=>(mQ s).mp (LQ s hs),⟨u,hu⟩,⟨v,(mQ v).mp hv,nv⟩,fun s t h1 h2 z=>?_,fun s t h1 h2 z=>?_⟩,f2⟩
    ·rw[<-iL s h1,<-iL t h2];exact z
    ·rw[iL s h1,iL t h2];exact z
   ·refine⟨⟨fun s hs=>(mQ s).mp (out_mem.mp hs).1,⟨v,out_mem.mpr ⟨hv,nv⟩⟩,⟨u,(mQ u).mp (LQ u hu),fun z=>(out_mem.mp z).2 hu⟩,fun s t h1 h2 z=>?_,fun s t h1 h2 z=>?_⟩,nQ.filter _⟩
    ·rw[out_mem,out_mem,mQ,mQ,and_iff_right h1,and_iff_right h2,Decidable.not_iff_not]at z;rw[<-iL s h1,<-iL t h2];exact z
    ·rw[out_mem,out_mem,mQ,mQ,and_iff_right h1,and_iff_right h2,iL s h1,iL t h2,z]
  obtain⟨e,St⟩:=h.cut ha hP H.1 H.2;simp only[ws];have e2:List.map iD U++[PyData.int (P.length:Int)]=(U++[P.length]).map iD:=by rw[zaC];rfl
  rw[e2];refine k _ _ _ St (by rw[e];exact g.cut h.pr.lt H.1 hp u0) ?_;rw[zae,zae,zaU];simp only[zac,List.length_nil];omega
 ·simp only[ws,c,decide_false];refine k P m U h (g.stay hp u0 fun s hs=>((f1 s).mp (full f2 LQ (by omega) s ((mQ s).mpr ((is s).mpr hs)))).2) (zav _)
def fb_mem:s∈FB G l a t↔s∈l/\led G s a=some t:=by
 unfold FB;rw[zbB,zbg]
def q_mem:s∈S.flatMap (FB G l a)↔s∈l/\bU G S s a:=by
 rw[List.mem_flatMap];constructor
 ·rintro⟨t,h1,h2⟩;exact⟨(fb_mem.mp h2).1,t,(fb_mem.mp h2).2,h1⟩
 ·rintro⟨h1,t,h2,h3⟩;exact⟨t,h3,fb_mem.mpr ⟨h1,h2⟩⟩
def KU(nS:S.Nodup)(nl:l.Nodup):(S.flatMap (FB G l a)).Nodup:=List.pairwise_flatMap.mpr ⟨fun t _=>nl.filter _,nS.imp fun {t t'} ne x hx y hy e=>ne (by
 subst e;exact zat ((fb_mem.mp hx).2.symm.trans (fb_mem.mp hy).2))⟩
def vy(P:List (List Nat)):cf 2 (au P)=true:=by
 show(true&&eT 1 (P.map aB))=true;rw[zaG]
 induction P with
 |nil=>rfl
 |cons Q P ih=>
  show((true&&fM 0 (Q.map kv))&&eT 1 (P.map aB))=true;rw[ih,zaG,zbW]
  induction Q with
  |nil=>rfl
  |cons s Q ih=>exact ih
def CP(hl:l.length<=1000)(nl:l.Nodup)(nS:S.Nodup)(ha:a<w){E:EL}(hE:∀t,aH E t=FB G l a t)(h:Stt G B l w S P m U)(hU:U.length<=2*P.length){R:Fl->Prop}
  (k:∀P' m' U' o4 o11 o12,Stt G B l w S P' m' U'->Agr G S (ay m') a->(∀b,Agr G S (ay m) b->Agr G S (ay m') b)->U'.length+2*P.length<=U.length+2*P'.length->R (.nx [x0,x1,some (au P'),some (poD m'),o4,x5,x6,x7,some (nD U'),some (nD S),some (elD E),o11,o12])):
  W (dP [x0,x1,some (au P),some (poD m),x4,x5,x6,x7,some (nD U),some (nD S),some (elD E),x11,x12]) R:=by
 have eq:S.flatMap (aH E)=S.flatMap (FB G l a):=by rw[show aH E=FB G l a from funext hE]
 have nq:=KU (a:=a) (G:=G) nS nl;have lq:=cH nq fun s hs=>(q_mem.mp hs).1;have pq:∀s∈S.flatMap (FB G l a),ay m s=some ((ay m s).getD 0):=fun s hs=>by
  obtain⟨p,hp⟩:=(h.pr.dom s).mp (q_mem.mp hs).1;rw[hp];rfl
 simp only[ws,dP];refine md ?_;simp only[ws,io];refine W.use (Dp (S:=S) (E:=E) (po:=poD m) (pt:=fun s=>(ay m s).getD 0) (by rw[eq];omega) fun s hs=>?_) ?_
 ·rw[xI,pq s (eq▸hs)];rfl
 rintro _ rfl;rw[eq];have kn:=Is (fun s=>(ay m s).getD 0) (S.flatMap (FB G l a));have kg:=fun p=>u4 (fun s=>(ay m s).getD 0) p (S.flatMap (FB G l a));have kk:=fun p=>zJ (fun s=>(ay m s).getD 0) p (S.flatMap (FB G l a));generalize gy (fun s=>(ay m s).getD 0) (S.flatMap (FB G l a))=F at kn kg kk ⊢;simp only[ws];refine⟨_,rfl,?_⟩;have s1:dw 2 (some (au P))=some (au P):=if_pos (vy P);have s2:dw 1 (some (nD U))=some (nD U):=if_pos (jN U);have s3:dw 2 (some (elD F))=some (elD F):=if_pos (CT F);simp only[bY,if_true,Bool.false_eq_true,if_false,s1,s2,s3];refine KL (ks:=F.map eb) rfl ?_;rw[G5];simp only[ws];refine bw (fun i en=>∃P' m' U' o4 o12,en=[x0,x1,some (au P'),some (poD m'),o4,x5,x6,x7,some (nD U'),some (nD S),some (elD E),some (elD F),o12]/\Stt G B l w S P' m' U'/\Sgn G S (ay m) a (ay m') ((F.map (·.1)).take i)/\U'.length+2*P.length<=U.length+2*P'.length) ⟨P,m,U,_,_,rfl,h,.start,zav _⟩ ?_ ?_
 ·rintro i t en ht ⟨P',m',U',o4,o12,rfl,g1,g2,g3⟩;obtain⟨⟨p,L⟩,hi,rfl⟩:=gm ht;have pi:(F.map (·.1))[i]?=some p:=by rw[zao,hi];rfl
  have hL:=u3 kn (zaW hi);rw[kg p]at hL;have f1:∀s,s∈L↔ay m s=some p/\bU G S s a:=fun s=>by
   rw[<-hL,zbB,zbg,q_mem];constructor
   ·rintro⟨z,y⟩;rw[pq s (q_mem.mpr z),y];exact⟨rfl,z.2⟩
   ·rintro⟨z,y⟩;exact⟨⟨(h.pr.dom s).mpr ⟨p,z⟩,y⟩,by rw[z];rfl⟩
  have f3:∃u,u∈L:=by
   obtain⟨u,h1,h2⟩:=(kk p).mp (zaW pi);exact⟨u,(f1 u).mpr ⟨by rw[pq u h1,h2],(q_mem.mp h1).2⟩⟩
  have np:p∉(F.map (·.1)).take i:=fun z=>by
   obtain⟨j,hj⟩:=zbo z;rw[List.getElem?_take]at hj;split at hj
   next c=>
    have:=(List.getElem?_inj (zah.mp hj).1 kn).mp (hj.trans pi.symm);omega
   next=>cases hj
  have pn:=g1.pr.cnt;simp only[ws];refine Dv hl ha g1 g2 np f1 (by rw[<-hL];exact nq.filter _) f3 (by omega) fun P2 m2 U2 q1 q2 q3=>?_;rw[tk pi];exact⟨P2,m2,U2,_,_,rfl,q1,q2,by omega⟩
 ·rintro en ⟨P',m',U',o4,o12,rfl,g1,g2,g3⟩;rw[zad]at g2;have D:∀s p,ay m' s=some p->∃q,ay m s=some q:=fun s p hs=>(h.pr.dom s).mp ((g1.pr.dom s).mpr ⟨p,hs⟩);refine k P' m' U' _ _ _ g1 (g2.agr D fun s q h1 h2 h3=>h2 ?_) (fun b hb=>g2.agr' D hb) g3;rw[<-zad (f:=(·.1)),zaP];exact(kk q).mpr ⟨s,q_mem.mpr ⟨(h.pr.dom s).mpr ⟨q,h1⟩,h3⟩,by rw[h1];rfl⟩
end
section
variable{U:List Nat}  
def K1{x3:Option D}:i8 8 [x0,x1,x2,x3,x4,x5,x6,x7,some (nD (U++[u])),x9,x10,x11,x12]=some (iD u,[x0,x1,x2,x3,x4,x5,x6,x7,some (nD U),x9,x10,x11,x12]):=by
 unfold i8 nD;simp
def vR(Q:List Nat):sJ [aB Q]=some (nD Q):=by
 show(if noT (Q.map kv)=true then some (PyData.list ((Q.map kv).map fun q=>q.1))else none)=_;rw[if_pos (gq Q),zaQ];rfl
def CI(hl:l.length<=1000)(nl:l.Nodup){Bs:List EL}(hB:Bs.length=w)(hE:∀a E,Bs[a]?=some E->∀t,aH E t=FB G l a t)(h:Stt G B l w [] P m (U++[u]))(hU:(U++[u]).length<=2*P.length){R:Fl->Prop}
  (k:∀P' m' U' o4 o9 o10 o11 o12,Stt G B l w [] P' m' U'->U'.length+2*P.length<=U.length+2*P'.length->R (.nx [x0,x1,some (au P'),some (poD m'),o4,x5,x6,some (fC Bs),some (nD U'),o9,o10,o11,o12])):
  W (dO [x0,x1,some (au P),some (poD m),x4,x5,x6,some (fC Bs),some (nD (U++[u])),x9,x10,x11,x12]) R:=by
 have lU:(U++[u]).length=U.length+1:=zae;have ul:=h.ul u (by simp);obtain⟨S,hS⟩:∃S,P[u]?=some S:=⟨_,zak ul⟩;have nS:=h.nd S (zaW hS);have mS:=h.mem u S hS;have h1:Stt G B l w S P m U:=⟨h.pr,h.tr.pop (fun s hs=>(h.pr.dom s).mpr ⟨u,(mS s).mp hs⟩) mS,h.nd,h.mem,h.ml,fun v hv=>h.ul v (zbd _ hv)⟩;simp only[ws,dO];refine md ?_;simp only[ip,ws];have ap:=kT hS;refine W.of K1 ?_;simp only[ws,iD,au,ap,vR];refine⟨_,rfl,?_⟩;have s1:dw 1 (some (poD m))=some (poD m):=if_pos (pT m);have s2:dw 1 (some (nD U))=some (nD U):=if_pos (jN U);have s3:dw 1 (some (nD S))=some (nD S):=if_pos (jN S);simp only[bY,if_true,Bool.false_eq_true,if_false,s1,s2,s3];simp only[ws,fC];refine bw (fun i en=>∃P' m' U' o4 o10 o11 o12,en=[x0,x1,some (au P'),some (poD m'),o4,x5,x6,some (fC Bs),some (nD U'),some (nD S),o10,o11,o12]/\Stt G B l w S P' m' U'/\(∀a,a<i->Agr G S (ay m') a)/\U'.length+2*P.length<=U.length+2*P'.length) ⟨P,m,U,_,_,_,_,rfl,h1,(fun _ z=>absurd z (Nat.not_lt_zero _)),zav _⟩ ?_ ?_
 ·rintro i t en ht ⟨P',m',U',o4,o10,o11,o12,rfl,g1,g2,g3⟩;obtain⟨E,hi,rfl⟩:=gm ht;have il:=(zah.mp hi).1;simp only[ws];refine CP hl nl nS (by omega) (hE i E hi) g1 (by omega) fun P2 m2 U2 _ _ _ q1 q2 q3 q4=>?_;refine⟨P2,m2,U2,_,_,_,_,rfl,q1,fun a z=>?_,by omega⟩;by_cases c:a=i
  ·subst c;exact q2
  ·exact q3 a (g2 a (by omega))
 ·rintro en ⟨P',m',U',o4,o10,o11,o12,rfl,g1,g2,g3⟩;rw[zad,hB]at g2;exact k P' m' U' _ _ _ _ _ ⟨g1.pr,g1.tr.done g2,g1.nd,g1.mem,g1.ml,g1.ul⟩ g3
end
structure Pts(G:Gr)(es:List Bool)(l:List Nat)(w:Nat)(m:PL):Prop where
 pr:∃n,Prt G (ax es) l w (ay m) n
 st:∀s t p a,ay m s=some p->ay m t=some p->a<w->cl G (ay m) s a=cl G (ay m) t a
def xR(es:List Bool)(l:List Nat)(s:Nat):ay (dq 0 [l.filter (ax es),l.filter fun s=>!ax es s] []) s=if s∈l then some (if ax es s then 0 else 1)else none:=by
 show ay (ba (ba [] (l.filter (ax es)) 0) (l.filter fun s=>!ax es s) 1) s=_;rw[kK,kK];by_cases c:s∈l<;>cases e:ax es s<;>simp[c,e,ay]
theorem xQ(f:Nat->Bool):∀l:List Nat,(l.filter f).length+(l.filter fun s=>!f s).length=l.length
 |[]=>rfl
 |a::l=>by
  have:=xQ f l;cases h:f a<;>simp[h]<;>omega
def yU(M:Mx W0 es G):W (cc [mD es G,nD (cI es G)]) (fun r=>∃m,r=(poD m,[none,none])/\Pts G es (cI es G) W0 m):=by
 have n:=M.g.n;have kl:(cI es G).length<=G.length:=mL ..;have kn:(cI es G).Nodup:=rX ..;have lt:∀s∈cI es G,s<G.length:=fun s hs=>(mem_sel.mp hs).1;have le:=M.le;generalize cI es G=l at kl kn lt;simp only[cc,jj,ws,mD,cG];refine W.ue (zK kn (by omega) fun s hs=>by rw[le];exact lt s hs) ?_;simp only[ws];have lf:[l.filter (ax es),l.filter fun s=>!ax es s].flatten.length=l.length:=by
  have:=xQ (ax es) l;simp only[List.flatten_cons,List.flatten_nil,zae,List.length_nil];omega
 refine Dz (by omega) fun o4 o5 o6=>?_;simp only[ws];refine W.use (Jh M.g M.w (by omega) lt) ?_;rintro _ ⟨Bs,rfl,b1,b2⟩;have fg:=xR es l;have m1:=nN [l.filter (ax es),l.filter fun s=>!ax es s] 0 [];generalize dq 0 [l.filter (ax es),l.filter fun s=>!ax es s] []=m at fg m1 ⊢;have dm:∀s p,ay m s=some p->s∈l/\p=if ax es s then 0 else 1:=fun s p h=>by
  rw[fg s]at h;split at h
  next c=>exact⟨c,(zat h).symm⟩
  next=>cases h
 have ge:∀{s},s∈l->ay m s=some (if ax es s then 0 else 1):=fun c=>(fg _).trans (if_pos c);have St:Stt G (ax es) l W0 [] [l.filter (ax es),l.filter fun s=>!ax es s] m [0,1]:=by
  refine⟨⟨fun s=>⟨fun h=>⟨_,ge h⟩,fun⟨p,h⟩=>(dm s p h).1⟩,fun s p h=>?_,zav _,fun s t p h1 h2=>?_,fun s t h1 h2 h3=>?_,fun p h1 h2=>absurd h2 (by simp;omega)⟩,⟨fun s t p a h1 h2 ha h3 _=>?_,fun _ _ _ _ _ z=>(by cases z),fun _ z=>by cases z⟩,fun Q hQ=>?_,fun p Q hQ s=>?_,?_,fun u hu=>?_⟩
  ·rw[(dm s p h).2];split<;>simp
  ·have e:=(dm s p h1).2.symm.trans (dm t p h2).2;revert e;cases ax es s<;>cases ax es t<;>decide
  ·rw[ge h1,ge h2]at h3;exact fun e=>h3 (by rw[e])
  ·cases hc:cl G (ay m) s a with
   |none=>
    cases hd:cl G (ay m) t a with
    |none=>rfl
    |some q=>
     obtain⟨v,_,hv⟩:=zaa.mp hd
     have:=(h3 q (by rw[(dm v q hv).2];split<;>simp)).mpr hd;rw[hc]at this;exact this
   |some q=>
    obtain⟨v,_,hv⟩:=zaa.mp hc;exact((h3 q (by rw[(dm v q hv).2];split<;>simp)).mp hc).symm
  ·simp only[zay,List.not_mem_nil,or_false]at hQ;rcases hQ with rfl|rfl<;>exact kn.filter _
  ·rw[fg s]
   match p,hQ with
   |0,hQ=>
    cases hQ;rw[zbB];by_cases c:s∈l<;>cases e:ax es s<;>simp[c,e]
   |1,hQ=>
    cases hQ;rw[zbB];by_cases c:s∈l<;>cases e:ax es s<;>simp[c,e]
  ·rw[lf]at m1;simp only[List.length_nil]at m1;omega
  ·simp only[zay,List.not_mem_nil,or_false]at hu;rcases hu with rfl|rfl<;>simp
 have lP:[l.filter (ax es),l.filter fun s=>!ax es s].length=2:=rfl;generalize [l.filter (ax es),l.filter fun s=>!ax es s]=P at St lP;have lr:mO [.int ((2:Nat):Int)]=some (nD [0,1]):=by
  show grd _ _=_;exact if_pos (by decide)
 have lp:aZ [au P]=some (.int ((2:Nat):Int)):=by
  show some (PyData.int (((P.map aB).length:Nat):Int))=_;rw[zad,lP]
 simp only[ws,lp,lr];refine j4 (fun n en=>∃P m U o4 o5 o6 o9 o10 o11 o12,en=[some (.tuple [.list (es.map .bool),.list (G.map aL)]),some (nD l),some (au P),some (poD m),o4,o5,o6,some (fC Bs),some (nD U),o9,o10,o11,o12]/\Stt G (ax es) l W0 [] P m U/\U.length<=2*P.length/\n=2*(l.length+2-P.length)+U.length) ?_ ⟨P,m,[0,1],_,_,_,_,_,_,_,rfl,St,by rw[lP];decide,rfl⟩;rintro n en ⟨P,m,U,o4,o5,o6,o9,o10,o11,o12,rfl,g1,g2,rfl⟩;have pn:=g1.pr.cnt;rcases List.eq_nil_or_concat U with rfl|⟨U0,u,e⟩
 ·have z0:decide ((0:Int)<(([]:List Nat).length:Nat))=false:=rfl;simp only[ws,dN,nD,z0];exact⟨m,rfl,⟨_,g1.pr⟩,fun s t p a h1 h2 ha=>g1.tr.inv s t p a h1 h2 ha (fun _ z=>by cases z) (by unfold bU;simp)⟩
 ·rw[List.concat_eq_append]at e;subst e;have lU:(U0++[u]).length=U0.length+1:=zae;have z1:decide ((0:Int)<((U0++[u]).length:Nat))=true:=by
   rw[zbg];omega
  simp only[ws,dN,nD,z1];refine CI (by omega) kn b1 b2 g1 g2 fun P' m' U' _ _ _ _ _ q1 q2=>?_;have pn':=q1.pr.cnt;exact⟨2*(l.length+2-P'.length)+U'.length,by omega,P',m',U',_,_,_,_,_,_,_,rfl,q1,by omega,rfl⟩
def bf:Nat->List (Option Nat)->Option Nat
 |k,[]=>some k
 |k,none::r=>bf k r
 |k,some v::r=>if v<k then bf k r else if v=k then bf (k+1) r else none
theorem jX(q:List (Option Nat)):∀(r:List (Option Nat)) (k:Nat),bf k (r++q)=(bf k r).bind fun k=>bf k q
 |[],k=>rfl
 |none::r,k=>jX q r k
 |some v::r,k=>by
  show(if v<k then bf k (r++q)else if v=k then bf (k+1) (r++q)else none)=(if v<k then bf k r else if v=k then bf (k+1) r else none).bind _;rw[jX q r k,jX q r (k+1)];split
  ·rfl
  ·split<;>rfl
def bfs:Nat->Gr->Option Nat
 |k,[]=>some k
 |k,r::R=>(bf k r).bind fun k=>bfs k R
theorem n9(r:List (Option Nat)):∀(R:Gr) (k:Nat),bfs k (R++[r])=(bfs k R).bind fun k=>bf k r
 |[],k=>by
  show(bf k r).bind _=bf k r;cases bf k r<;>rfl
 |q::R,k=>by
  show(bf k q).bind (fun k=>bfs k (R++[r]))=((bf k q).bind fun k=>bfs k R).bind _;cases bf k q with
  |none=>rfl
  |some k=>exact n9 r R k
structure Nm(pt:Pt)(F:List Nat)(N:PL):Prop where
 f0:F[0]?=some 0
 num:∀p i,ay N p=some i↔∃s,F[i]?=some s/\pt s=some p
 fk:∀s∈F,∃p,pt s=some p
 nl:N.length<=F.length
def Nm.inj(h:Nm pt F N)(h1:F[i]?=some s)(h2:F[j]?=some t)(e:pt s=pt t):i=j:=by
 obtain⟨p,hp⟩:=h.fk s (zaW h1);exact zat (((h.num p i).mpr ⟨s,h1,hp⟩).symm.trans ((h.num p j).mpr ⟨t,h2,e▸hp⟩))
def Nm.nd(h:Nm pt F N):F.Nodup:=List.pairwise_iff_getElem.mpr fun i j hi hj c e=>by
 have:=h.inj (zak hi) (zak hj) (by rw[e]);omega
def Nm.len(h:Nm pt F N)(d:∀s p,pt s=some p->s∈l):F.length<=l.length:=cH h.nd fun s hs=>by
 obtain⟨p,hp⟩:=h.fk s hs;exact d s p hp
def Nm.more(h:Nm pt F N)(h1:pt t=some p)(h2:ay N p=none):Nm pt (F++[t]) (di N p F.length):=by
 refine⟨zaR (zah.mp h.f0).1▸h.f0,fun q i=>?_,fun s hs=>?_,?_⟩
 ·rw[kJ];by_cases c:q=p
  ·subst c;rw[if_pos rfl];constructor
   ·intro e;rw[<-zat e];exact⟨t,by simp,h1⟩
   ·rintro⟨s,e1,e2⟩;rcases Nat.lt_or_ge i F.length with c|c
    ·rw[zaR c]at e1;rw[(h.num q i).mpr ⟨s,e1,e2⟩]at h2;cases h2
    ·have:=(zah.mp e1).1;rw[zae]at this
     have:i=F.length:=by simp only[zac,List.length_nil]at this;omega
     rw[this]
  ·rw[if_neg c,h.num q i];constructor
   ·rintro⟨s,e1,e2⟩;exact⟨s,by rw[zaR (zah.mp e1).1];exact e1,e2⟩
   ·rintro⟨s,e1,e2⟩;rcases Nat.lt_or_ge i F.length with d|d
    ·rw[zaR d]at e1;exact⟨s,e1,e2⟩
    ·rw[zbI d]at e1
     have:=zaH.mp (zaW e1);subst this;exact absurd (zat (e2.symm.trans h1)) c
 ·rcases zax.mp hs with hs|hs
  ·exact h.fk s hs
  ·rw[zaH.mp hs];exact⟨p,h1⟩
 ·have:=rT N p F.length
  have:=h.nl;rw[zae];simp only[zac,List.length_nil];omega
def Js(G:Gr)(pt:Pt)(F:List Nat)(s a:Nat)(x:Option Nat):Prop:=(x=none/\cl G pt s a=none)\/∃j t p,x=some j/\F[j]?=some t/\pt t=some p/\cl G pt s a=some p
def RowOk(G:Gr)(pt:Pt)(F:List Nat)(s:Nat)(r:List (Option Nat)):Prop:=∀a x,r[a]?=some x->Js G pt F s a x
def RowOk.up(q:List Nat)(h:RowOk G pt F s r):RowOk G pt (F++q) s r:=fun a x hx=>(h a x hx).elim .inl fun⟨j,t,p,h1,h2,h3⟩=>.inr ⟨j,t,p,h1,by rw[zaR (zah.mp h2).1];exact h2,h3⟩
def RowOk.snoc(h:RowOk G pt F s r)(c:Js G pt F s r.length x):RowOk G pt F s (r++[x]):=fun a y hy=>by
 rcases Nat.lt_or_ge a r.length with d|d
 ·rw[zaR d]at hy;exact h a y hy
 ·have:=(zah.mp hy).1;rw[zae]at this;have e:a=r.length:=by simp only[zac,List.length_nil]at this;omega
  subst e;rw[zbI d]at hy;rw[zaH.mp (zaW hy)];exact c
structure Rs(G:Gr)(pt:Pt)(w:Nat)(F:List Nat)(R:Gr):Prop where
 f0:F[0]?=some 0
 fk:∀s∈F,∃p,pt s=some p
 fi:∀{i j s t:Nat},F[i]?=some s->F[j]?=some t->pt s=pt t->i=j
 le:R.length=F.length
 w:∀(i:Nat) r,R[i]?=some r->r.length=w/\∃s,F[i]?=some s/\RowOk G pt F s r
 bf:∀i:Nat,i<=R.length->∃k,bfs 1 (R.take i)=some k/\(i<R.length->i<k)/\(i=R.length->k=i)
def Dj(m:PL):kS .none (poD m)=some (.bool true):=if_pos (xj m)
def oJ(m:PL)(k:Nat):kS (.int (k:Int)) (poD m)=some (.bool (!(ay m k).isSome)):=by
 show(if noT (m.map pb)=true then some (PyData.bool (!(aG (m.map pb) (iD k)).isSome))else none)=_;rw[if_pos (xj m),p8,Option.isSome_map]
def oV(m:PL)(k:Nat):cL (poD m) (.int (k:Int))=(ay m k).map iD:=xI m k
def dg3(h:ay N p=some j)(k:Q (.int (j:Int),en)):HG (.int (p:Int)) en Q (poD N):=by
 show W ((aG (N.map pb) (iD p)).map fun t=>(t,en)) Q;rw[p8,h];exact⟨_,rfl,k⟩
def KZ(hp:ay m t=some p)(hl:N.length<5000):
  bO 2 (e2 cL (aa 1) (aa 7)) (eN aZ (ae (aa 3) af)) [x0,some (poD m),some (poD N),some (nD F),x4,x5,x6,some (.int (t:Int))]=some (.nx [x0,some (poD m),some (poD (di N p F.length)),some (nD F),x4,x5,x6,some (.int (t:Int))]):=by
 have e1:(e2 cL (aa 1) (aa 7)) [x0,some (poD m),some (poD N),some (nD F),x4,x5,x6,some (.int (t:Int))]=some (iD p,[x0,some (poD m),some (poD N),some (nD F),x4,x5,x6,some (.int (t:Int))]):=by
  show(cL (poD m) (.int (t:Int))).map _=_;rw[oV,hp];rfl
 have e2:(eN aZ (ae (aa 3) af)) [x0,some (poD m),some (poD N),some (nD F),x4,x5,x6,some (.int (t:Int))]=some (iD F.length,[x0,some (poD m),some (poD N),some (nD F),x4,x5,x6,some (.int (t:Int))]):=by
  show some (PyData.int ((F.map iD).length:Nat),_)=_;rw[zad];rfl
 unfold bO;rw[e2];show(((L2.e2 cL (aa 1) (aa 7)) [x0,some (poD m),some (poD N),some (nD F),x4,x5,x6,some (.int (t:Int))]).bind _)=_;rw[e1];show(if(N.map pb).length<sizeLine then some (Fl.nx [x0,some (poD m),some (.dict (cZ (N.map pb) (iD p) (iD F.length))),some (nD F),x4,x5,x6,some (.int (t:Int))])else none)=_;rw[if_pos (by rw[zad];exact cF (by omega)),sj];rfl
def Di(hl:l.length<=1000)(dm:∀s p,ay m s=some p->s∈l)(hr:G[s]?=some r)(nm:Nm (ay m) F N)(rl:r.length<=12){P:Fl->Prop}
  (k:∀new N' v o7,Nm (ay m) (F++new) N'->v.length=r.length->RowOk G (ay m) (F++new) s v->bf F.length v=some (F++new).length->P (.nx [x0,some (poD m),some (poD N'),some (nD (F++new)),x4,x5,some (aL v),o7])):
  W (ck (gN 7) dg (r.map goD) [x0,some (poD m),some (poD N),some (nD F),x4,x5,some (.list []),x7]) P:=by
 refine bw (fun i en=>∃new N' v o7,en=[x0,some (poD m),some (poD N'),some (nD (F++new)),x4,x5,some (.list (v.map goD)),o7]/\Nm (ay m) (F++new) N'/\v.length=i/\RowOk G (ay m) (F++new) s v/\bf F.length v=some (F++new).length) ⟨[],N,[],x7,by rw[zbq];rfl,by rw[zbq];exact nm,rfl,(fun a x z=>by cases z),by rw[zbq];rfl⟩ ?_ ?_
 ·rintro i t en ht ⟨new,N',v,o7,rfl,g1,g2,g3,g4⟩;obtain⟨o,ho,rfl⟩:=gm ht;have hi:=(zah.mp ho).1;have lF:=g1.len dm;have nl:=g1.nl;have ld:led G s i=o:=by rw[mR hr,ho];rfl
  have sv:v.length<sizeLine:=cF (by omega);have sF:(F++new).length<sizeLine:=cF (by omega);have p6:cl G (ay m) s i=none->∀o7,∃new' N'' v' o7',[x0,some (poD m),some (poD N'),some (nD (F++new)),x4,x5,some (.list (v.map goD++[.none])),o7]=[x0,some (poD m),some (poD N''),some (nD (F++new')),x4,x5,some (.list (v'.map goD)),o7']/\Nm (ay m) (F++new') N''/\v'.length=i+1/\RowOk G (ay m) (F++new') s v'/\bf F.length v'=some (F++new').length:=fun c o7=>by
   refine⟨new,N',v++[none],o7,by rw[zaC];rfl,g1,by rw[zae,g2];rfl,g3.snoc (.inl ⟨rfl,by rw[g2];exact c⟩),?_⟩;rw[jX,g4];rfl
  cases o with
  |none=>
   simp only[ws,dg,goD,Dj];exact⟨sv,p6 (by unfold cl;rw[ld];rfl) _⟩
  |some t=>
   cases hp:ay m t with
   |none=>
    simp only[ws,dg,goD,oJ,hp,Option.isSome_none,Bool.not_false];exact⟨sv,p6 (by unfold cl;rw[ld];exact hp) _⟩
   |some p=>
    have hc:cl G (ay m) s i=some p:=by unfold cl;rw[ld];exact hp
    cases hn:ay N' p with
    |none=>
     simp only[ws,dg,goD,oJ,oV,hp,hn,iD,Option.map_some,Option.isSome_none,Option.isSome_some,Bool.not_false,Bool.not_true];have sn:(F++(new++[t]))=(F++new)++[t]:=(zaD ..).symm;have g5:=g1.more hp hn;refine W.of (KZ hp (by omega)) ?_;simp only[ws,nD,zad,oV,hp,iD,Option.map_some];refine⟨sF,dg3 (j:=(F++new).length) (by rw[kJ,if_pos rfl]) ?_⟩;simp only[ws];refine⟨sv,new++[t],_,v++[some (F++new).length],_,by rw[sn,zaC (l₁:=F++new),zaC (l₁:=v)];rfl,by rw[sn];exact g5,by rw[zae,g2];rfl,by rw[sn];exact(g3.up [t]).snoc (.inr ⟨_,t,p,rfl,by simp,hp,by rw[g2];exact hc⟩),?_⟩;rw[jX,g4,sn,zae (as:=F++new)];show(if(F++new).length<(F++new).length then _ else if(F++new).length=(F++new).length then some ((F++new).length+1)else none)=_;rw[if_neg (zaI _),if_pos rfl];rfl
    |some j=>
     simp only[ws,dg,goD,oJ,oV,hp,hn,iD,Option.map_some,Option.isSome_none,Option.isSome_some,Bool.not_false,Bool.not_true];obtain⟨u,hu,pu⟩:=(g1.num p j).mp hn;have jl:=(zah.mp hu).1;refine dg3 hn ?_;simp only[ws];refine⟨sv,new,N',v++[some j],_,by rw[zaC];rfl,g1,by rw[zae,g2];rfl,g3.snoc (.inr ⟨_,u,p,rfl,hu,pu,by rw[g2];exact hc⟩),?_⟩;rw[jX,g4];exact if_pos jl
 ·rintro en ⟨new,N',v,o7,rfl,g1,g2,g3,g4⟩;rw[zad]at g2;exact k new N' v o7 g1 g2 g3 g4
def uk(M:Mx W0 es G)(hl:l.length<=1000)(dm:∀s p,ay m s=some p->s∈l)(lt:∀s∈l,s<G.length){p0:Nat}(h0:ay m 0=some p0):W (iw [mD es G,poD m]) (fun r=>∃F R,r=(mD (F.map (ax es)) R,[none,none])/\Rs G (ay m) W0 F R/\F.length<=1000):=by
 simp only[iw,qX,ws,mD];have n:=M.g.n;have w12:∀r∈G,r.length<=12:=M.g.w;have z1:0<G.length:=M.g.n1;generalize eA:[some (PyData.tuple [PyData.list (List.map PyData.bool es),PyData.list (List.map aL G)]),some (poD m),none,none,none,none,none,none]=en;have e1:eS3 (e2 cL (aa 1) (eC (.int 0))) en=some (iD p0,en):=by
  subst eA;show((cL (poD m) (.int ((0:Nat):Int))).map _).bind _=_;rw[oV,h0];rfl
 have e3:jw [(eS3 (e2 cL (aa 1) (eC (.int 0))),eC (.int 0))] en=some (poD [(p0,0)],en):=by
  unfold jw evP;rw[e1];rfl
 refine W.of e3 ?_;subst eA;simp only[ws];refine j4 (fun n en=>∃F N R o5 o6 o7,en=[some (.tuple [.list (es.map .bool),.list (G.map aL)]),some (poD m),some (poD N),some (nD F),some (.list (R.map aL)),o5,o6,o7]/\Nm (ay m) F N/\R.length<=F.length/\(∀(i:Nat) r,R[i]?=some r->r.length=W0/\∃s,F[i]?=some s/\RowOk G (ay m) F s r)/\bfs 1 R=some F.length/\(∀i:Nat,i<R.length->∃k,bfs 1 (R.take i)=some k/\i<k)/\n=l.length-R.length) ?_ ⟨[0],[(p0,0)],[],_,_,_,rfl,⟨rfl,fun p i=>?_,fun s hs=>⟨p0,by rw[zaH.mp hs];exact h0⟩,zav _⟩,zbh _,(fun i r z=>by cases z),rfl,(fun i z=>absurd z (Nat.not_lt_zero _)),rfl⟩
 ·rintro n' en ⟨F,N,R,o5,o6,o7,rfl,g1,g2,g3,g4,g5,rfl⟩;have lF:=g1.len dm;by_cases c:R.length<F.length
  ·obtain⟨s,hs⟩:∃s,F[R.length]?=some s:=⟨_,zak c⟩;obtain⟨p,hp⟩:=g1.fk s (zaW hs);have sl:=lt s (dm s p hp);obtain⟨r,hr⟩:∃r,G[s]?=some r:=⟨_,zak sl⟩;have a1:atI (F.map iD) (R.length:Int)=some (.int (s:Int)):=by rw[bu,zao,hs];rfl
   have a2:atI (G.map aL) (s:Int)=some (.list (r.map goD)):=by rw[bu,zao,hr];rfl
   have c1:decide ((R.length:Int)<(F.length:Int))=true:=by rw[zbg];omega
   simp only[ws,jH,ny,nD,c1,a1,a2];refine Di (l:=l) hl dm hr g1 (w12 r (zaW hr)) fun new N' v o7 q1 q2 q3 q4=>?_;simp only[ws];have lF':=q1.len dm;refine⟨cF (by omega),l.length-(R++[v]).length,?_,F++new,N',R++[v],_,_,_,by rw[zaC (l₁:=R)];rfl,q1,?_,fun i r' hr'=>?_,?_,fun i hi=>?_,rfl⟩
   ·rw[zae];simp only[zac,List.length_nil];omega
   ·rw[zae,zae];simp only[zac,List.length_nil];omega
   ·rcases Nat.lt_or_ge i R.length with d|d
    ·rw[zaR d]at hr';obtain⟨y1,t,y2,y3⟩:=g3 i r' hr';exact⟨y1,t,by rw[zaR (zah.mp y2).1];exact y2,y3.up new⟩
    ·have:=(zah.mp hr').1;rw[zae]at this;simp only[zac,List.length_nil]at this;have e:i=R.length:=by omega
     subst e;rw[zbI d]at hr';rw[zaH.mp (zaW hr')];exact⟨q2.trans (M.w r (zaW hr)),s,by rw[zaR c];exact hs,q3⟩
   ·rw[n9,g4];exact q4
   ·rw[zae]at hi;simp only[zac,List.length_nil]at hi;rcases Nat.lt_or_ge i R.length with d|d
    ·rw[List.take_append_of_le_length (by omega)];exact g5 i d
    ·have e:i=R.length:=by omega
     subst e;exact⟨F.length,by rw[List.take_left];exact g4,c⟩
  ·have c1:decide ((R.length:Int)<(F.length:Int))=false:=by rw[decide_eq_false_iff_not];omega
   have le:R.length=F.length:=by omega
   simp only[ws,jH,nD,c1];refine eZ (fun t=>match t with|.int z=>.bool (ax es z.toNat)|_=>.none) (szB (by rw[zad];omega)) (fun t ht=>?_) fun o=>?_
   ·obtain⟨s,hs,rfl⟩:=zaz.mp ht;obtain⟨p,hp⟩:=g1.fk s hs;have sl:s<es.length:=by rw[M.le];exact lt s (dm s p hp)
    have ea:atI (es.map PyData.bool) (s:Int)=some (.bool (ax es s)):=by
     rw[bu,zao,zak sl,ax,zbf,zak sl];rfl
    simp only[ws,nB,iD,ea,zaK]
   ·simp only[ws];refine⟨F,R,?_,⟨g1.f0,g1.fk,fun h1 h2 e=>g1.inj h1 h2 e,le,g3,fun i hi=>?_⟩,by omega⟩
    ·rw[zaQ,zaQ];rfl
    ·by_cases d:i=R.length
     ·subst d;exact⟨F.length,by rw[zaP];exact g4,fun z=>absurd z (zaI _),fun _=>le.symm⟩
     ·obtain⟨k,h1,h2⟩:=g5 i (by omega);exact⟨k,h1,fun _=>h2,fun z=>absurd z d⟩
 ·constructor
  ·intro h;unfold ay at h;rw[zbm]at h;by_cases c:p0=p
   ·subst c;simp at h;subst h;exact⟨0,rfl,h0⟩
   ·simp[c]at h
  ·rintro⟨s,h1,h2⟩
   have:=zaH.mp (zaW h1);subst this;have i0:i=0:=by
    have:=(zah.mp h1).1;simp only[zac,List.length_nil]at this;omega
   subst i0;rw[h0]at h2;cases h2;simp[ay]
structure Lst(es:List Bool)(G:Gr)(w:Nat)(F:List Nat)(R:Gr):Prop where
 ex:∃m n,Rs G (ay m) w F R/\Prt G (ax es) (cI es G) w (ay m) n/\∀s t p a,ay m s=some p->ay m t=some p->a<w->cl G (ay m) s a=cl G (ay m) t a
 le:F.length<=1000
def JT(m:PL)(k:Nat):dL (.int (k:Int)) (poD m)=some (.bool (!(ay m k).isSome)):=oJ m k
def y6(M:Mx W0 es G):W (mz [mD es G]) (fun r=>(¬Kp es G 0/\r=(mD [false] [List.replicate W0 none],[none]))\/(Kp es G 0/\∃F R,r=(mD (F.map (ax es)) R,[none])/\Lst es G W0 F R)):=by
 have n:=M.g.n;have z1:=M.g.n1;have kl:(cI es G).length<=G.length:=mL ..;have lt:∀s∈cI es G,s<G.length:=fun s hs=>(mem_sel.mp hs).1;obtain⟨r0,h0⟩:∃r0,G[0]?=some r0:=⟨_,zak z1⟩;have a0:(G.map aL)[0]?=some (.list (r0.map goD)):=by rw[zao,h0];rfl
 have w0:=M.w r0 (zaW h0);have w12:=M.g.w r0 (zaW h0);simp only[mz,yt,ws];refine W.ue (Ds M) ?_;simp only[ws];refine W.use (yU M) ?_;rintro _ ⟨m,rfl,⟨⟨k,pr⟩,st⟩⟩;have nk:=JT m 0;rw[Int.ofNat_zero]at nk;cases h:ay m 0 with
 |none=>
  rw[h]at nk;simp only[ws,nk,mD,a0,Option.isSome_none,Bool.not_false];refine eZ (fun _=>.none) (szB (by rw[zad];omega)) (fun t _=>by simp only[ws,tZ]) fun o=>?_;simp only[ws];refine .inl ⟨fun kp=>?_,?_⟩
  ·obtain⟨p,hp⟩:=(pr.dom 0).mp (mem_sel.mpr ⟨z1,kp⟩);rw[h]at hp;cases hp
  ·rw[zaQ,<-w0]
   have:(List.map ((fun x=>PyData.none)∘goD) r0)=(List.replicate r0.length none).map goD:=by
    rw[List.map_replicate];exact List.map_const' ..
   rw[this];rfl
 |some p=>
  rw[h]at nk;have k0:0∈cI es G:=(pr.dom 0).mpr ⟨p,h⟩;have nb:=uk M (m:=m) (l:=cI es G) (by omega) (fun s p hs=>(pr.dom s).mpr ⟨p,hs⟩) lt h;simp only[ws,nk,Option.isSome_some,Bool.not_true];refine W.use nb ?_;rintro _ ⟨F,R,rfl,rs,lF⟩;simp only[ws];exact .inr ⟨(mem_sel.mp k0).2,F,R,rfl,⟨m,k,rs,pr,st⟩,lF⟩
structure Cmp{α:Type}[DecidableEq α](f:α->D)(d:Nat):Prop where
 nd:∀a,noDict (f a)=true/\cK (f a)<=d
 eq:∀a b,peq (f a) (f b)=decide (a=b)
section
variable{α:Type}[DecidableEq α]{f:α->D}{d:Nat}
theorem cW(h:∀a,noDict (f a)=true/\cK (f a)<=d):∀l:List α,aC (l.map f)=true/\bJ (l.map f)<=d
 |[]=>⟨rfl,zbh _⟩
 |a::l=>by
  obtain⟨h1,h2⟩:=cW h l;obtain⟨g1,g2⟩:=h a;rw[zar];exact⟨by simp[aC,g1,h1],by simp only[bJ];omega⟩
theorem G9(h:Cmp f d):∀xs ys:List α,dB (xs.map f) (ys.map f)=decide (xs=ys)
 |[],[]=>rfl
 |[],_::_=>rfl
 |_::_,[]=>rfl
 |x::xs,y::ys=>by
  show(peq (f x) (f y)&&dB (xs.map f) (ys.map f))=_;rw[G9 h xs ys,h.eq];simp only[List.cons.injEq,Bool.decide_and]
def Cmp.lst(h:Cmp f d):Cmp (fun xs:List α=>PyData.list (xs.map f)) (d+1):=
 ⟨fun xs=>⟨by simp only[noDict];exact(cW h.nd xs).1,by simp only[cK];have:=(cW h.nd xs).2;omega⟩,fun xs ys=>by simp only[peq];exact G9 h xs ys⟩
def Cmp.eqD(h:Cmp f d)(hd:d<=60)(a b:α):L2.eqD (f a) (f b)=some (.bool (decide (a=b))):=by
 unfold L2.eqD;rw[grd,if_pos ⟨(h.nd a).1,(h.nd b).1,by have:=(h.nd a).2;omega⟩,h.eq]
def Cmp.neD(h:Cmp f d)(hd:d<=60)(a b:α):L2.neD (f a) (f b)=some (.bool (!decide (a=b))):=by
 unfold L2.neD;rw[grd,if_pos ⟨(h.nd a).1,(h.nd b).1,by have:=(h.nd a).2;omega⟩,h.eq]
theorem Cmp.any(h:Cmp f d)(a:α):∀xs:List α,((xs.map f).any fun t=>peq t (f a))=decide (a∈xs)
 |[]=>by simp
 |x::xs=>by
  rw[zar,List.any_cons,h.any a xs,h.eq];by_cases c:x=a
  ·simp[c]
  ·simp[c,Ne.symm c]
def Cmp.notIn(h:Cmp f d)(hd:d<=60)(a:α)(xs:List α):sC (f a) (.list (xs.map f))=some (.bool (!decide (a∈xs))):=by
 show grd _ _=_;unfold grd;rw[if_pos ⟨(h.nd a).1,(cW h.nd xs).1,zau (cW h.nd xs).2 hd⟩,h.any]
def Cmp.isIn(h:Cmp f d)(hd:d<=60)(a:α)(xs:List α):inL (f a) (.list (xs.map f))=some (.bool (decide (a∈xs))):=by
 show grd _ _=_;unfold grd;rw[if_pos ⟨(h.nd a).1,(cW h.nd xs).1,zau (cW h.nd xs).2 hd⟩,h.any]
def dE(l:List α)(a:α):Nat:=l.idxOf a
def nY{l:List α}{a:α}(h:a∈l):l[dE l a]?=some a:=by
 have:=List.idxOf_lt_length_of_mem h;rw[dE,zak this,List.getElem_idxOf]
def Cmp.index(h:Cmp f d)(hd:d<=60){a:α}{xs:List α}(ha:a∈xs)(hl:xs.length<=100000):gu (.list (xs.map f)) (f a)=some (iD (dE xs a)):=by
 show(if noDict (f a)=true/\aC (xs.map f)=true/\bJ (xs.map f)<=60/\(xs.map f).length<=sizeLine then((xs.map f).findIdx? fun t=>peq t (f a)).map (fun j=>PyData.int (j:Nat))else none)=_;rw[if_pos ⟨(h.nd a).1,(cW h.nd xs).1,zau (cW h.nd xs).2 hd,szB (by rw[zad];exact hl)⟩];have e:((xs.map f).findIdx? fun t=>peq t (f a))=some (dE xs a):=by
  clear hl
  induction xs with
  |nil=>cases ha
  |cons x xs ih=>
   rw[zar,List.findIdx?_cons,h.eq,dE,List.idxOf_cons];by_cases c:x=a
   ·simp[c]
   ·have:=ih ((zay.mp ha).resolve_left fun z=>c z.symm);have cb:(x==a)=false:=by simp[c]
    rw[this,cb];simp[c,dE]
 rw[e];rfl
end
def cmpN:Cmp iD 0:=⟨fun a=>⟨rfl,zav _⟩,fun a b=>by
 simp only[iD,peq];rw[Bool.eq_iff_iff,beq_iff_eq,zbg];omega⟩
def cmpI:Cmp PyData.int 0:=⟨fun a=>⟨rfl,zav _⟩,fun a b=>by
 simp only[peq];rw[Bool.eq_iff_iff,beq_iff_eq,zbg]⟩
def cmpB:Cmp PyData.bool 0:=⟨fun a=>⟨rfl,zav _⟩,fun a b=>by cases a<;>cases b<;>rfl⟩
def same{t:D}(h:noDict t=true)(h2:cK t<=60):eqD t t=some (.bool true)/\neD t t=some (.bool false):=by
 unfold eqD neD grd;rw[if_pos ⟨h,h,h2⟩,if_pos ⟨h,h,h2⟩,kw t h];exact⟨rfl,rfl⟩
def Cq(es:List Bool)(G:Gr):noDict (mD es G)=true/\cK (mD es G)<=60:=by
 obtain⟨a1,a2⟩:=cW cmpB.nd es;have go:∀o,noDict (goD o)=true/\cK (goD o)<=0:=fun o=>by cases o<;>exact⟨rfl,zav _⟩
 obtain⟨b1,b2⟩:=cW (f:=aL) (d:=1) (fun r=>⟨by simp only[aL,noDict];exact(cW go r).1,by simp only[aL,cK];have:=(cW go r).2;omega⟩) G;constructor
 ·simp[mD,noDict,aC,a1,b1]
 ·simp only[mD,cK,bJ];omega
def br:List Nat->List (Option Nat)->List Nat
 |A,[]=>A
 |A,none::r=>br A r
 |A,some t::r=>if t∈A then br A r else br (A++[t]) r
theorem og(q:List (Option Nat)):∀(r:List (Option Nat)) (A:List Nat),br A (r++q)=br (br A r) q
 |[],A=>rfl
 |none::r,A=>og q r A
 |some t::r,A=>by
  show(if t∈A then br A (r++q)else br (A++[t]) (r++q))=br (if t∈A then br A r else br (A++[t]) r) q;split<;>exact og q r _
theorem kU:∀(r:List (Option Nat)) (A:List Nat),∃new,br A r=A++new
 |[],A=>⟨[],(zbq A).symm⟩
 |none::r,A=>kU r A
 |some t::r,A=>by
  show ∃new,(if t∈A then br A r else br (A++[t]) r)=A++new;split
  ·exact kU r A
  ·obtain⟨new,e⟩:=kU r (A++[t]);exact⟨[t]++new,by rw[e,zaD]⟩
theorem gI(s:Nat):∀(r:List (Option Nat)) (A:List Nat),s∈br A r↔s∈A\/some s∈r
 |[],A=>by simp[br]
 |none::r,A=>by
  rw[show br A (none::r)=br A r from rfl,gI s r A];simp
 |some t::r,A=>by
  show s∈(if t∈A then br A r else br (A++[t]) r)↔_;split
  next c=>
   rw[gI s r A,zay,zbb];exact⟨fun z=>z.elim .inl fun y=>.inr (.inr y),fun z=>z.elim .inl fun y=>y.elim (fun e=>.inl (e▸c)) .inr⟩
  next c=>
   rw[gI s r (A++[t]),zax,zaH,zay,zbb,or_assoc]
theorem jZ:∀(r:List (Option Nat)) {A:List Nat},A.Nodup->(br A r).Nodup
 |[],A,h=>h
 |none::r,A,h=>jZ r h
 |some t::r,A,h=>by
  show(if t∈A then br A r else br (A++[t]) r).Nodup;split
  ·exact jZ r h
  next c=>exact jZ r (mN h c)
def aY(G:Gr):Nat->List Nat
 |0=>[0]
 |i+1=>br (aY G i) (rw_ G ((aY G i).getD i 0))
theorem iZ{G:Gr}(g:GOk G):∀i,(aY G i).Nodup/\∀s∈aY G i,s<G.length/\Rc (bI G) [0] s
 |0=>⟨by simp[aY],fun s hs=>by rw[zaH.mp hs];exact⟨g.n1,.first (by simp)⟩⟩
 |i+1=>by
  obtain⟨h1,h2⟩:=iZ g i;refine⟨jZ _ h1,fun s hs=>?_⟩;rcases(gI s _ _).mp hs with hs|hs
  ·exact h2 s hs
  ·have ed:=edge_rw.mpr hs;refine⟨g.elt _ _ ed,.next ?_ ed⟩;rw[zbf];cases e:(aY G i)[i]? with
   |none=>exact .first (by simp)
   |some t=>exact(h2 t (zaW e)).2
structure Come(G:Gr)(n:Nat):Prop where
 le:(aY G n).length=n
 lt:∀j,j<n->j<(aY G j).length
theorem jc(G:Gr)(i:Nat):∀k,∃new,aY G (i+k)=aY G i++new
 |0=>⟨[],(zbq _).symm⟩
 |k+1=>by
  obtain⟨n1,e1⟩:=jc G i k;obtain⟨n2,e2⟩:=kU (rw_ G ((aY G (i+k)).getD (i+k) 0)) (aY G (i+k));exact⟨n1++n2,by rw[<-zaD,<-e1];exact e2⟩
def Come.mem(g:GOk G)(c:Come G n)(s:Nat):s∈aY G n↔Rc (bI G) [0] s:=by
 refine⟨fun h=>((iZ g n).2 s h).2,fun h=>Rc.inn (fun s hs=>?_) (fun s hs t ed=>?_) h⟩
 ·obtain⟨new,e⟩:=jc G 0 n;rw[za2]at e;rw[e];exact zbd _ hs
 ·obtain⟨j,hj⟩:=zbo hs;have jn:=(zah.mp hj).1;rw[c.le]at jn;have jl:=c.lt j jn;obtain⟨n1,e1⟩:=jc G j (n-j);obtain⟨n2,e2⟩:=jc G (j+1) (n-(j+1));rw[show j+(n-j)=n by omega]at e1;rw[show j+1+(n-(j+1))=n by omega]at e2;rw[e1,zaR jl]at hj;rw[e2];refine zbd _ ((gI t _ _).mpr (.inr ?_));rw[zbf,hj];exact edge_rw.mp ed
def vd(g:GOk G):W (eK [mD es G]) (fun r=>∃n,r=(nD (aY G n),[none])/\Come G n):=by
 have n:=g.n;simp only[eK,pO,ws,mD];refine j4 (fun k en=>∃i o3,en=[some (.tuple [.list (es.map .bool),.list (G.map aL)]),some (nD (aY G i)),some (iD i),o3]/\(∀j,j<i->j<(aY G j).length)/\i<=(aY G i).length/\k=G.length-i) ?_ ⟨0,_,rfl,fun _ z=>absurd z (Nat.not_lt_zero _),zbh _,rfl⟩;rintro k en ⟨i,o3,rfl,g1,g2,rfl⟩;obtain⟨nd,lt⟩:=iZ g i;have le:=ib nd fun s hs=>(lt s hs).1;by_cases c:i<(aY G i).length
 ·obtain⟨s,hs⟩:∃s,(aY G i)[i]?=some s:=⟨_,zak c⟩;have sl:=(lt s (zaW hs)).1;obtain⟨r,hr⟩:∃r,G[s]?=some r:=⟨_,zak sl⟩;have rl:=g.w r (zaW hr);have a1:atI ((aY G i).map iD) (i:Int)=some (.int (s:Int)):=by rw[bu,zao,hs];rfl
  have a2:atI (G.map aL) (s:Int)=some (.list (r.map goD)):=by rw[bu,zao,hr];rfl
  have c1:decide ((i:Int)<((aY G i).length:Int))=true:=by rw[zbg];omega
  have es':aY G (i+1)=br (aY G i) r:=by
   show br (aY G i) (rw_ G ((aY G i).getD i 0))=_;rw[zbf,hs];exact congrArg _ (fO hr)
  simp only[ws,je,mx,nD,iD,c1,a1,a2];refine bw (fun j en=>∃o3,en=[some (.tuple [.list (es.map .bool),.list (G.map aL)]),some (nD (br (aY G i) (r.take j))),some (.int (i:Int)),o3]) ⟨_,rfl⟩ ?_ ?_
  ·rintro j t en ht ⟨o3,rfl⟩;obtain⟨o,ho,rfl⟩:=gm ht;rw[tk ho,og];have lA:(br (aY G i) (r.take j)).length<=G.length:=ib (jZ _ nd) fun s hs=>by
    rcases(gI s _ _).mp hs with hs|hs
    ·exact(lt s hs).1
    ·exact g.lt r (zaW hr) s (List.mem_of_mem_take hs)
   generalize br (aY G i) (r.take j)=A at lA;cases o with
   |none=>
    simp only[ws,gg,goD];exact⟨_,rfl⟩
   |some t=>
    have ni:=cmpN.notIn (by decide) t A;by_cases m:t∈A
    ·simp only[ws,gg,goD,nD,iD]at ni ⊢;simp only[ws,ni,m,decide_true,Bool.not_true];exact⟨_,by rw[show br A [some t]=A from if_pos m]⟩
    ·simp only[ws,gg,goD,nD,iD]at ni ⊢;simp only[ws,ni,m,decide_false,Bool.not_false];refine⟨cF (by omega),some (.int (t:Int)),?_⟩;rw[show br A [some t]=A++[t]from if_neg m,zaC];rfl
  ·rintro en ⟨o3,rfl⟩;rw[zad,zaP,<-es'];simp only[ws];obtain⟨q1,q2⟩:=iZ g (i+1);obtain⟨new,e⟩:=jc G i 1;refine⟨G.length-(i+1),by omega,i+1,_,rfl,fun j hj=>?_,by rw[e,zae];omega,rfl⟩;by_cases d:j=i
   ·rw[d];exact c
   ·exact g1 j (by omega)
 ·have c1:decide ((i:Int)<((aY G i).length:Int))=false:=by rw[decide_eq_false_iff_not];omega
  simp only[ws,je,nD,iD,c1];exact⟨i,rfl,by omega,g1⟩
theorem mY:∀(r:List (Option Nat)) {k k':Nat},bf k r=some k'->br (List.range k) r=List.range k'
 |[],k,k',h=>by cases h;rfl
 |none::r,k,k',h=>mY r (k:=k) h
 |some v::r,k,k',h=>by
  have h:(if v<k then bf k r else if v=k then bf (k+1) r else none)=some k':=h;show(if v∈List.range k then br (List.range k) r else br (List.range k++[v]) r)=_;by_cases c:v<k
  ·rw[if_pos c]at h;rw[if_pos (zbp.mpr c)];exact mY r h
  ·rw[if_neg c]at h;rw[if_neg (fun z=>c (zbp.mp z))];by_cases d:v=k
   ·subst d;rw[if_pos rfl]at h;rw[<-List.range_succ];exact mY r h
   ·rw[if_neg d]at h;cases h
theorem Rs.come{G R:Gr}{pt:Pt}{w:Nat}{F:List Nat}(h:Rs G pt w F R):∀i,i<=R.length->∃k,aY R i=List.range k/\bfs 1 (R.take i)=some k
 |0,_=>⟨1,rfl,rfl⟩
 |i+1,hi=>by
  obtain⟨k,h1,h2⟩:=h.come i (by omega);obtain⟨k',g1,g2,_⟩:=h.bf i (by omega);obtain⟨k2,g3,_⟩:=h.bf (i+1) hi;rw[h2]at g1;cases g1;obtain⟨r,hr⟩:∃r,R[i]?=some r:=⟨_,zak (by omega)⟩;refine⟨k2,?_,g3⟩;rw[tk hr,n9,h2]at g3;show br (aY R i) (rw_ R ((aY R i).getD i 0))=_;rw[h1,zbf,List.getElem?_range (g2 (by omega)),show(some i).getD 0=i from rfl,fO hr];exact mY r g3
def Rs.range(h:Rs G pt w F R)(c:Come R n):aY R n=List.range R.length:=by
 obtain⟨k,h1,h2⟩:=h.come R.length (zav _);obtain⟨k',g1,_,g2⟩:=h.bf R.length (zav _);rw[h2]at g1;cases g1;rw[g2 rfl]at h1
 have:n=R.length:=by
  rcases Nat.lt_trichotomy n R.length with d|d|d
  ·obtain⟨k,q1,q2⟩:=h.come n (by omega);obtain⟨k',q3,q4,_⟩:=h.bf n (by omega);rw[q2]at q3;cases q3
   have:=c.le;rw[q1,zbc]at this
   have:=q4 d;omega
  ·exact d
  ·have:=c.lt R.length d;rw[h1,zbc]at this;omega
 rw[this];exact h1
def yw(k:Nat):W (e9 [.int (k:Int)]) (fun r=>r=(.bool true,[none])):=by
 simp only[e9,nE,ws]
def fn{α:Type}{p:α->Bool}{l:List α}(h:∀x∈l,p x=false):l.filter p=[]:=List.filter_eq_nil_iff.mpr fun x hx=>by rw[h x hx];exact zbl
def qM{bs:List Bool}(h1:1<=bs.length)(h2:bs.length<=1000)(le:R.length=bs.length)(hw:∀r∈R,r.length=w)(w12:w<=12)(lt:∀r∈R,∀k,some k∈r->k<bs.length):W (dY [mD bs R,.int (w:Int)]) (fun r=>r=(.bool true,[none,none])):=by
 have e:((R.length:Nat):Int)=(bs.length:Nat):=by rw[le]
 simp only[dY,mI,ws,mD,e];refine cP (fun _=>false) (fun t=>t) (by rw[zad];exact szB (by omega)) (fun t ht=>?_) (fun t ht z=>by cases z) fun o=>?_
 ·obtain⟨b,_,rfl⟩:=zaz.mp ht;simp only[ws,j7]
 rw[fn fun _ _=>rfl,zaZ];simp only[ws];refine Jk (fun en=>∃o4,en=[some (.tuple [.list (bs.map .bool),.list (R.map aL)]),some (.int (w:Int)),some (.list (bs.map .bool)),some (.list (R.map aL)),o4]) ⟨_,rfl⟩ ?_ ?_
 ·rintro t ht en ⟨o4,rfl⟩;obtain⟨r,hr,rfl⟩:=zaz.mp ht;have rw0:=hw r hr;have rl:((r.length:Nat):Int)=(w:Nat):=by rw[rw0]
  simp only[ws,kd,aL,rl];refine cP (fun _=>false) (fun t=>t) (by rw[zad];exact szB (by omega)) (fun t ht=>?_) (fun t ht z=>by cases z) fun o=>?_
  ·obtain⟨o,_,rfl⟩:=zaz.mp ht;cases o with
   |none=>simp only[ws,gM,goD]
   |some k=>
    simp only[ws,gM,goD];refine W.ue (yw k) ?_;simp only[ws]
  rw[fn fun _ _=>rfl,zaZ];simp only[ws];refine cP (fun _=>false) (fun t=>t) (by rw[zad];exact szB (by omega)) (fun t ht=>?_) (fun t ht z=>by cases z) fun o=>?_
  ·obtain⟨o,ho,rfl⟩:=zaz.mp ht;cases o with
   |none=>simp only[ws,gL,goD]
   |some k=>
    have:=lt r hr k ho;have c1:(0:Int)<=(k:Int):=Int.natCast_nonneg k;have c2:(k:Int)<(bs.length:Int):=by omega
    simp only[ws,gL,goD,c1,c2]
  rw[fn fun _ _=>rfl,zaZ];simp only[ws];exact⟨_,rfl⟩
 ·rintro en ⟨o4,rfl⟩;have c:(0:Int)<(bs.length:Int):=by omega
  simp only[ws,c]
def wa(A:List Bool)(r:List (Option Nat)):Bool:=r.any fun o=>match o with|none=>false|some t=>A.getD t false
def iQ(R:Gr)(A:List Bool)(i:Nat):Bool:=A.getD i false || wa A (rw_ R i)
def uY(o:Option Nat):noDict (goD o)=true/\cK (goD o)<=0:=by cases o<;>exact⟨rfl,zav _⟩
def bOf(A:List Bool):Option Nat->Bool
 |none=>false
 |some t=>A.getD t false
def JV(r:List (Option Nat))(q:Option Nat->Bool):neD (.list ((r.filter q).map goD)) (.list [])=some (.bool (r.any q)):=by
 obtain⟨a1,a2⟩:=cW uY (r.filter q);unfold neD;rw[grd,if_pos ⟨by simp only[noDict];exact a1,rfl,by simp only[cK];omega⟩];have e:r.any q=!(r.filter q).isEmpty:=by
  induction r with
  |nil=>rfl
  |cons x r ih=>
   obtain⟨a1,a2⟩:=cW uY (r.filter q);cases h:q x with
   |true=>simp[h]
   |false=>simpa[h]using ih a1 a2
 rw[e];cases r.filter q<;>rfl
def yK{A:List Bool}(la:A.length=R.length)(hR:R.length<=1000)(w12:∀r∈R,r.length<=12)(lt:∀r∈R,∀k,some k∈r->k<R.length){Q:Fl->Prop}
  (k:∀(A':List Bool) o4 o5,A'.length=R.length->(∀i,i<R.length->A'.getD i false=iQ R A i)->Q (.nx [x0,some (.list (A'.map .bool)),x2,some (.list (A.map .bool)),o4,o5])):
  W (ck (gT (gsC (gN 4) (gsC (gN 5) gs0))) gP (fh (R.map aL)) [x0,some (.list (A.map .bool)),x2,some (.list (A.map .bool)),x4,x5]) Q:=by
 refine bw (fun i en=>∃(A':List Bool) (o4 o5:Option D),en=[x0,some (.list (A'.map .bool)),x2,some (.list (A.map .bool)),o4,o5]/\A'.length=R.length/\∀j,A'.getD j false=if j<i then iQ R A j else A.getD j false) ⟨A,_,_,rfl,la,fun j=>by rw[if_neg (Nat.not_lt_zero _)]⟩ ?_ ?_
 ·rintro i t en ht ⟨A',o4,o5,rfl,g1,g2⟩;obtain⟨u,hu,rfl⟩:=dI ht;obtain⟨r,hr,rfl⟩:=gm hu;have hi:=(zah.mp hr).1;have mr:=zaW hr;have rl:=w12 r mr;simp only[ws,gP,aL];refine cP (fun t=>match t with|.int z=>A.getD z.toNat false|_=>false) (fun t=>t) (by rw[zad];exact szB (by omega)) (fun t ht=>?_) (fun t ht _=>by simp only[ws,kh]) fun o=>?_
  ·obtain⟨o,ho,rfl⟩:=zaz.mp ht;cases o with
   |none=>simp only[ws,gK,goD]
   |some t=>
    have tl:=lt r mr t ho;have ea:atI (A.map PyData.bool) (t:Int)=some (.bool (A.getD t false)):=by
     rw[bu,zao,zak (by omega),zbf,zak (by omega)];rfl
    simp only[ws,gK,goD,ea,zaK]
  have ef:List.map (fun t=>t) (List.filter (fun t=>match t with|PyData.int z=>A.getD z.toNat false|_=>false) (r.map goD))=(r.filter (bOf A)).map goD:=by
   rw[List.map_id',zbA];congr 1;exact zbV fun o _=>by cases o<;>rfl
  have eh:r.any (bOf A)=wa A (rw_ R i):=by rw[fO hr];exact congrArg r.any (funext fun o=>by cases o<;>rfl)
  rw[ef];simp only[ws,JV,eh];cases h:wa A (rw_ R i)with
  |false=>
   simp only[ws];refine⟨A',_,_,rfl,g1,fun j=>?_⟩;rw[g2 j];by_cases c:j=i
   ·subst c;rw[if_neg (zaI _),if_pos (zaJ _),iQ,h,Bool.or_false]
   ·by_cases d:j<i
    ·rw[if_pos d,if_pos (by omega)]
    ·rw[if_neg d,if_neg (by omega)]
  |true=>
   have se:km (A'.map PyData.bool) (i:Int) (.bool true)=some ((A'.set i true).map .bool):=by
    rw[rV (by rw[zad];omega),List.map_set]
   simp only[ws,iD,se];refine⟨A'.set i true,_,_,rfl,by rw[zaU];exact g1,fun j=>?_⟩;rw[zbf];by_cases c:j=i
   ·subst c;rw[zaO (by omega),if_pos (zaJ _),iQ,h,Bool.or_true];rfl
   ·rw[zaN (Ne.symm c),<-zbf,g2 j];by_cases d:j<i
    ·rw[if_pos d,if_pos (by omega)]
    ·rw[if_neg d,if_neg (by omega)]
 ·rintro en ⟨A',o4,o5,rfl,g1,g2⟩;rw[dH,zad]at g2;exact k A' _ _ g1 fun i hi=>by rw[g2 i,if_pos hi]
theorem yg:∀{A B:List Bool},A.length=B.length->(∀i,A.getD i false=true->B.getD i false=true)->B.count false<=A.count false/\(B.count false=A.count false->B=A)
 |[],[],_,_=>⟨zav _,fun _=>rfl⟩
 |[],_::_,h,_=>by cases h
 |_::_,[],h,_=>by cases h
 |a::A,b::B,h,f=>by
  obtain⟨h1,h2⟩:=yg (A:=A) (B:=B) (Nat.succ.inj h) fun i=>f (i+1);have f0:a=true->b=true:=f 0;cases a with
  |false=>cases b with
   |false=>
    simp only[List.count_cons_self];exact⟨by omega,fun e=>by rw[h2 (by omega)]⟩
   |true=>
    rw[List.count_cons_self,zbK (by decide)];exact⟨by omega,fun e=>by omega⟩
  |true=>
   rw[f0 rfl,zbK (by decide),zbK (by decide)];exact⟨h1,fun e=>by rw[h2 e]⟩
def vz(l:List Bool):cf 1 (.list (l.map .bool))=true:=by
 show(true&&eT 0 (l.map .bool))=true;rw[zaG]
 induction l with
 |nil=>rfl
 |cons a l ih=>exact ih
def xn{bs:List Bool}(lb:bs.length=R.length)(hR:R.length<=1000)(w12:∀r∈R,r.length<=12)(lt:∀r∈R,∀k,some k∈r->k<R.length):
  W (dX [mD bs R]) (fun r=>∃A:List Bool,r=(.list (A.map .bool),[none])/\A.length=R.length/\(∀i,bs.getD i false=true->A.getD i false=true)/\∀i,i<R.length->iQ R A i=true->A.getD i false=true):=by
 have ld:fP [.list (bs.map .bool)]=some (.list (bs.map .bool)):=rfl;simp only[dX,mH,ws,mD,ld];refine j4 (fun n en=>∃(A:List Bool) (b:Bool) (o3 o4 o5:Option D),en=[some (.tuple [.list (bs.map .bool),.list (R.map aL)]),some (.list (A.map .bool)),some (.bool b),o3,o4,o5]/\A.length=R.length/\(∀i,bs.getD i false=true->A.getD i false=true)/\(b=false->∀i,i<R.length->iQ R A i=true->A.getD i false=true)/\n=if b=true then A.count false+1 else 0) ?_ ⟨bs,true,_,_,_,rfl,lb,fun _ z=>z,(fun z=>by cases z),rfl⟩;rintro n en ⟨A,b,o3,o4,o5,rfl,g1,g2,g3,rfl⟩;cases b with
 |false=>
  simp only[ws,gJ];exact⟨A,rfl,g1,g2,g3 rfl⟩
 |true=>
  simp only[ws,gJ,kb];refine md ?_;have lA:fP [.list (A.map .bool)]=some (.list (A.map .bool)):=rfl;simp only[ws,kc,lA];refine⟨_,rfl,?_⟩;have s1:dw 1 (some (.list (A.map .bool)))=some (.list (A.map .bool)):=if_pos (vz A);simp only[bY,if_true,Bool.false_eq_true,if_false,s1];simp only[ws];refine yK g1 hR w12 lt fun A' o4 o5 q1 q2=>?_;have up:∀i,A.getD i false=true->A'.getD i false=true:=fun i hi=>by
   by_cases c:i<R.length
   ·rw[q2 i c,iQ,hi,Bool.true_or]
   ·rw[zbf,zbj (by omega)]at hi;cases hi
  obtain⟨c1,c2⟩:=yg (g1.trans q1.symm) up;have ne:=cmpB.lst.neD (by decide) A' A;simp only[ws,ne];refine⟨if(!decide (A'=A))=true then A'.count false+1 else 0,?_,A',_,_,_,_,rfl,q1,fun i hi=>up i (g2 i hi),fun z i hi hs=>?_,rfl⟩
  ·by_cases e:A'=A
   ·simp[e]
   ·have:A'.count false≠A.count false:=fun z=>e (c2 z);simp only[e,decide_false,Bool.not_false,if_true];omega
  ·have e:A'=A:=by
    by_cases e:A'=A
    ·exact e
    ·simp[e]at z
   rw[q2 i hi,<-e];exact hs
structure Lm(es:List Bool)(G:Gr)(w:Nat)(F:List Nat)(R:Gr)(pt:Pt)(n:Nat):Prop where
 rs:Rs G pt w F R
 pr:Prt G (ax es) (cI es G) w pt n
 st:∀s t p a,pt s=some p->pt t=some p->a<w->cl G pt s a=cl G pt t a
def Lm.next(h:Lm es G w F R pt n){i u s p a:Nat}(hu:F[i]?=some u)(h1:pt u=some p)(h2:pt s=some p)(ha:a<w):∃r,R[i]?=some r/\((cl G pt s a=none/\r[a]?=some none)\/∃j v q,cl G pt s a=some q/\r[a]?=some (some j)/\F[j]?=some v/\pt v=some q):=by
 obtain⟨r,hr⟩:∃r,R[i]?=some r:=⟨_,zak (by rw[h.rs.le];exact(zah.mp hu).1)⟩;obtain⟨rl,u',hu',ro⟩:=h.rs.w i r hr;rw[hu]at hu';cases hu';obtain⟨x,hx⟩:∃x,r[a]?=some x:=⟨_,zak (by omega)⟩;refine⟨r,hr,?_⟩;rw[h.st s u p a h2 h1 ha];rcases ro a x hx with⟨rfl,e⟩|⟨j,v,q,rfl,e1,e2,e3⟩
 ·exact .inl ⟨e,hx⟩
 ·exact .inr ⟨j,v,q,e3,hx,e1,e2⟩
theorem Lm.live(h:Lm es G w F R pt n)(hw:∀r∈G,r.length=w)(hg:GOk G){A:List Bool}(a1:∀i,(F.map (ax es)).getD i false=true->A.getD i false=true)(a2:∀i,i<R.length->iQ R A i=true->A.getD i false=true):
  ∀(k s i u p:Nat),Wk es G s k->s∈cI es G->F[i]?=some u->pt u=some p->pt s=some p->A.getD i false=true
 |0,s,i,u,p,hk,_,hu,h1,h2=>a1 i (by
   rw[zbf,zao,hu];show ax es u=true;rw[h.pr.en u s p h1 h2,ax,zbf,show es[s]?=some true from hk];rfl)
 |k+1,s,i,u,p,⟨t,ed,hk⟩,ks,hu,h1,h2=>by
  obtain⟨r,hr,m⟩:=ed;obtain⟨a,ha⟩:=zbo m;have al:=(zah.mp ha).1;rw[hw r (zaW hr)]at al;have ld:led G s a=some t:=by rw[mR hr,ha];rfl
  have kt:t∈cI es G:=mem_sel.mpr ⟨hg.elt s t ⟨r,hr,m⟩,.next (mem_sel.mp ks).2.1 ⟨r,hr,m⟩,k,hk⟩;obtain⟨q,hq⟩:=(h.pr.dom t).mp kt;have ec:cl G pt s a=some q:=by unfold cl;rw[ld];exact hq
  obtain⟨r',hr',e|⟨j,v,q',e1,e2,e3,e4⟩⟩:=h.next hu h1 h2 al
  ·rw[ec]at e;cases e.1
  ·rw[ec]at e1;cases e1;have ih:=h.live hw hg a1 a2 k t j v q hk kt e3 e4 hq;refine a2 i (zah.mp hr').1 ?_;rw[iQ,Bool.or_eq_true];refine .inr ?_;rw[fO hr',wa,List.any_eq_true];exact⟨some j,zaW e2,ih⟩
def ent(sg:List Nat):Option Nat->Int
 |none=>-1
 |some j=>(sg.getD j 0:Nat)
def dy(sg:List Nat)(R:Gr)(i:Nat):List Int:=((sg.getD i 0:Nat):Int)::(rw_ R i).map (ent sg)
def cx(sg:List Nat)(R:Gr):List (List Int):=(List.range R.length).map (dy sg R)
def nxt(R:Gr)(sg:List Nat):List Nat:=(cx sg R).map (dE (cx sg R))
def sgs(R:Gr)(sg:List Nat):Nat->List Nat
 |0=>sg
 |j+1=>nxt R (sgs R sg j)
def sL(sg:List Nat)(R:Gr):(cx sg R).length=R.length:=by unfold cx;rw[zad,zbc]
def uE(h:sg.length=R.length):∀j,(sgs R sg j).length=R.length
 |0=>h
 |j+1=>by
  show(nxt R (sgs R sg j)).length=_;unfold nxt;rw[zad,sL]
def xg(hi:i<R.length)(hj:j<R.length)(h:(nxt R sg).getD i 0=(nxt R sg).getD j 0):dy sg R i=dy sg R j:=by
 have e:∀{i},i<R.length->(cx sg R)[i]?=some (dy sg R i):=fun {i} h=>by
  unfold cx;rw[zao,List.getElem?_range h];rfl
 have e2:∀{i},i<R.length->(nxt R sg).getD i 0=dE (cx sg R) (dy sg R i):=fun {i} h=>by
  unfold nxt;rw[zbf,zao,e h];rfl
 have g1:=nY (zaW (e hi));rw[<-e2 hi,h,e2 hj,nY (zaW (e hj))]at g1;exact(zat g1).symm
def qg(h:j<sg.length):atI (sg.map iD) (j:Int)=some (.int ((sg.getD j 0:Nat):Int)):=by
 rw[bu,zao,zak h,zbf,zak h];rfl
def Je{o:Option Nat}(h0:0<sg.length)(ho:∀j,o=some j->j<sg.length):W (cE [some (goD o),some (.list (sg.map iD))]) (fun r=>r=(.int (ent sg o),[some (goD o),some (.list (sg.map iD))])):=by
 have a0:=qg h0;cases o with
 |none=>
  simp only[ws,cE,goD];refine W.of (show qh (aa 0) (eC (.int 0)) [some .none,some (.list (sg.map iD))]=some (.int ((0:Nat):Int),[some .none,some (.list (sg.map iD))])from rfl) ?_;simp only[ws,a0];rfl
 |some j=>
  have aj:=qg (ho j rfl);simp only[ws,cE,goD];have e:qh (aa 0) (eC (.int 0)) [some (.int (j:Int)),some (.list (sg.map iD))]=some (.int (j:Int),[some (.int (j:Int)),some (.list (sg.map iD))]):=by
   show(if(j:Int)=0 then some (PyData.int 0,_)else some (PyData.int (j:Int),_))=_;split
   next c=>rw[c]
   next=>rfl
  refine W.of e ?_;simp only[ws,aj];rfl
theorem xE:∀S:List Nat,b7 (S.map iD)=some (S.map fun k:Nat=>(k:Int))
 |[]=>rfl
 |k::S=>by
  show(b7 (S.map iD)).map ((k:Int)::·)=_;rw[xE S];rfl
theorem sV:∀xs:List Int,b7 (xs.map PyData.int)=some xs
 |[]=>rfl
 |a::xs=>by
  show(b7 (xs.map PyData.int)).map (a::·)=_;rw[sV xs];rfl
theorem uP(val:Nat->Int)(n:Nat)(inj:∀i j,i<n->j<n->val i=val j->i=j):∀i,i<=n->(PyProof.Rows.firstMet val i).length=i
 |0,_=>rfl
 |i+1,h=>by
  have ih:=uP val n inj i (by omega);rw[PyProof.Rows.firstMet_succ];have e:(PyProof.Rows.firstMet val i).any (·==val i)=false:=by
   rw[PyProof.Rows.firstMet_any,List.any_eq_false];intro x hx;obtain⟨j,hj,rfl⟩:=zaz.mp hx;have hj:=zbp.mp hj;intro z
   have:=inj j i (by omega) (by omega) (eq_of_beq z);omega
  show(if(PyProof.Rows.firstMet val i).any (·==val i)=true then _ else _++[val i]).length=_;rw[e,if_neg zbl,zae,ih];rfl
def CQ(hl:sg.length<=1000)(inj:∀i j,i<sg.length->j<sg.length->sg.getD i 0=sg.getD j 0->i=j):qa (.list (sg.map iD))=some (.int (sg.length:Nat)):=by
 show(b7 (sg.map iD)).bind _=_;rw[xE];show(if(sg.map fun k:Nat=>(k:Int)).length<4000 then some (PyData.int ((kA (sg.map fun k:Nat=>(k:Int))).length:Nat))else none)=_;have e:∀i,(sg.map fun k:Nat=>(k:Int)).getD i 0=((sg.getD i 0:Nat):Int):=fun i=>by
  rw[zbf,zao,zbf];cases sg[i]?<;>rfl
 rw[if_pos (by rw[zad];omega)];unfold kA;rw[uP _ (sg.map fun k:Nat=>(k:Int)).length (fun i j hi hj z=>?_) _ (zav _),zad];rw[zad]at hi hj;rw[e,e]at z;exact inj i j hi hj (by omega)
def sg0(bs:List Bool):List Nat:=bs.map fun b=>if b then 1 else 0
def vL:D->List Int
 |.list ts=>(b7 ts).getD []
 |_=>[]
def yA(ls:sg.length=R.length)(h1:1<=R.length)(hR:R.length<=1000)(w12:∀r∈R,r.length<=12)(lt:∀r∈R,∀k,some k∈r->k<R.length){Q:Fl->Prop}
  (k:∀o5 o6 o7,Q (.nx [x0,x1,some (.list (R.map aL)),some (nD (nxt R sg)),x4,o5,o6,o7])):W (dS [x0,x1,some (.list (R.map aL)),some (nD sg),x4,x5,x6,x7]) Q:=by
 simp only[ws,dS,nD];refine bw (fun i en=>∃o6 o7,en=[x0,x1,some (.list (R.map aL)),some (.list (sg.map iD)),x4,some (.list (((List.range i).map (dy sg R)).map fun xs=>.list (xs.map .int))),o6,o7]) ⟨_,_,rfl⟩ ?_ ?_
 ·rintro i t en ht ⟨o6,o7,rfl⟩;obtain⟨u,hu,rfl⟩:=dI ht;obtain⟨r,hr,rfl⟩:=gm hu;have hi:=(zah.mp hr).1;have mr:=zaW hr;have rl:=w12 r mr;have ai:=qg (sg:=sg) (j:=i) (by omega);simp only[ws,iu,aL,iD,ai];refine eZ (fun t=>match t with|.int z=>.int ((sg.getD z.toNat 0:Nat):Int)|_=>.int (-1)) (by rw[zad];exact szB (by omega)) (fun t ht=>?_) fun o=>?_
  ·obtain⟨o,ho,rfl⟩:=zaz.mp ht;refine W.use (Je (sg:=sg) (o:=o) (by omega) fun j e=>by subst e;have:=lt r mr j ho;omega) ?_;rintro _ rfl;cases o<;>simp only[goD,ent,zaK]
  ·have em:List.map (fun t=>match t with|PyData.int z=>PyData.int ((sg.getD z.toNat 0:Nat):Int)|_=>.int (-1)) (r.map goD)=((rw_ R i).map (ent sg)).map .int:=by
    rw[fO hr,zaQ,zaQ];exact zbu fun o _=>by cases o<;>rfl
   rw[em];simp only[ws];refine⟨szB (by rw[fO hr];simp only[zac,List.length_nil];omega),cF (by rw[zbc];omega),some (.int (i:Int)),some (.list (r.map goD)),?_⟩;rw[List.range_succ,zaC (f:=dy sg R),zaC (l₁:=(List.range i).map (dy sg R))];rfl
 ·rintro en ⟨o6,o7,rfl⟩;rw[dH,zad,show(List.range R.length).map (dy sg R)=cx sg R from rfl];have kl:=sL sg R;simp only[ws];refine eZ (fun t=>iD (dE (cx sg R) (vL t))) (by rw[zad,kl];exact szB (by omega)) (fun t ht=>?_) fun o=>?_
  ·obtain⟨xs,hx,rfl⟩:=zaz.mp ht;have ix:=cmpI.lst.index (by decide) hx (by omega);simp only[ws,iy,ix,vL,sV,Option.getD_some]
  ·have em:List.map (fun t=>iD (dE (cx sg R) (vL t))) ((cx sg R).map fun xs=>.list (xs.map .int))=(nxt R sg).map iD:=by
    unfold nxt;rw[zaQ,zaQ];exact zbu fun xs _=>congrArg (fun y=>iD (dE (cx sg R) y)) (show(b7 (xs.map PyData.int)).getD []=xs by rw[sV];rfl)
   simp only[ws];rw[em];exact k _ _ _
def ofB:D->D
 |.bool b=>iD (if b then 1 else 0)
 |_=>.none
def wH{bs:List Bool}(lb:bs.length=R.length)(h1:1<=R.length)(hR:R.length<=1000)(w12:∀r∈R,r.length<=12)(lt:∀r∈R,∀k,some k∈r->k<R.length)
  (inj:∀i j,i<R.length->j<R.length->(sgs R (sg0 bs) R.length).getD i 0=(sgs R (sg0 bs) R.length).getD j 0->i=j):W (ce [mD bs R]) (fun r=>r=(.bool true,[none])):=by
 have l0:(sg0 bs).length=R.length:=by unfold sg0;rw[zad];exact lb
 simp only[ce,jm,ws,mD];refine eZ ofB (by rw[zad];exact szB (by omega)) (fun t ht=>?_) fun o=>?_
 ·obtain⟨b,_,rfl⟩:=zaz.mp ht;cases b<;>simp only[ws,iz]<;>rfl
 have e0:List.map ofB (bs.map .bool)=(sg0 bs).map iD:=by
  unfold sg0;rw[zaQ,zaQ];rfl
 rw[e0];simp only[ws,zaK];refine⟨by omega,bw (fun i en=>∃o4 o5 o6 o7,en=[some (.tuple [.list (bs.map .bool),.list (R.map aL)]),some (.list (bs.map .bool)),some (.list (R.map aL)),some (nD (sgs R (sg0 bs) i)),o4,o5,o6,o7]) ⟨_,_,_,_,rfl⟩ ?_ ?_⟩
 ·rintro i t en ht ⟨o4,o5,o6,o7,rfl⟩;simp only[ws];exact yA (uE l0 i) h1 hR w12 lt fun _ _ _=>⟨_,_,_,_,rfl⟩
 ·rintro en ⟨o4,o5,o6,o7,rfl⟩;rw[fH,lb];have ls:=uE l0 R.length;have sl:=CQ (sg:=sgs R (sg0 bs) R.length) (by omega) (by rw[ls];exact inj);have e:((sgs R (sg0 bs) R.length).length:Int)=(bs.length:Nat):=by rw[ls,lb]
  simp only[ws,nD,sl,e]
def xx{q:List (Option Nat)}{y:Option Nat}(h:dy sg R i=dy sg R j)(hr:R[i]?=some r)(hq:R[j]?=some q)(hx:r[a]?=some x)(hy:q[a]?=some y):sg.getD i 0=sg.getD j 0/\ent sg x=ent sg y:=by
 unfold dy at h;rw[fO hr,fO hq]at h;obtain⟨h1,h2⟩:=List.cons.inj h;have h3:=congrArg (fun l=>l[a]?) h2;simp only[zao,hx,hy,Option.map_some]at h3;exact⟨by omega,zat h3⟩
def wS(h:F[i]?=some u):(sg0 (F.map (ax es))).getD i 0=if ax es u then 1 else 0:=by
 unfold sg0;rw[zbf,zao,zao,h];rfl
theorem Lm.apart(h:Lm es G w F R pt n):∀(k s t i j u v p q:Nat),Dst G (ax es) (cI es G) w k s t->F[i]?=some u->pt u=some p->pt s=some p->F[j]?=some v->pt v=some q->pt t=some q->(sgs R (sg0 (F.map (ax es))) k).getD i 0≠(sgs R (sg0 (F.map (ax es))) k).getD j 0
 |0,s,t,i,j,u,v,p,q,hd,f1,p1,s1,f2,p2,s2=>by
  have hd:ax es s≠ax es t:=hd;rw[h.pr.en s u p s1 p1,h.pr.en t v q s2 p2]at hd;show(sg0 _).getD i 0≠(sg0 _).getD j 0;rw[wS f1,wS f2];revert hd;cases ax es u<;>cases ax es v<;>decide
 |k+1,s,t,i,j,u,v,p,q,hd,f1,p1,s1,f2,p2,s2=>fun e=>by
  have hi:i<R.length:=by rw[h.rs.le];exact(zah.mp f1).1
  have hj:j<R.length:=by rw[h.rs.le];exact(zah.mp f2).1
  have ek:=xg hi hj e;have go:∀{s t i j u v p q a x},dy (sgs R (sg0 (F.map (ax es))) k) R i=dy (sgs R (sg0 (F.map (ax es))) k) R j->F[i]?=some u->pt u=some p->pt s=some p->F[j]?=some v->pt v=some q->pt t=some q->a<w->Kt G (cI es G) s a x->∃y,Kt G (cI es G) t a y/\∃i' j' u' v' p' q',F[i']?=some u'/\pt u'=some p'/\pt x=some p'/\F[j']?=some v'/\pt v'=some q'/\pt y=some q'/\(sgs R (sg0 (F.map (ax es))) k).getD i' 0=(sgs R (sg0 (F.map (ax es))) k).getD j' 0:=fun {s t i j u v p q a x} ek f1 p1 s1 f2 p2 s2 ha kx=>by
   obtain⟨p',hp'⟩:=(h.pr.dom x).mp kx.2;have ec:cl G pt s a=some p':=by unfold cl;rw[kx.1];exact hp'
   obtain⟨r,hr,e|⟨i',u',p2',e1,e2,e3,e4⟩⟩:=h.next f1 p1 s1 ha
   ·rw[ec]at e;cases e.1
   rw[ec]at e1;cases e1;obtain⟨r2,hr2,e|⟨j',v',q',d1,d2,d3,d4⟩⟩:=h.next f2 p2 s2 ha
   ·have:=(xx ek hr hr2 e2 e.2).2;exact absurd this (by show((_:Nat):Int)≠-1;omega)
   ·obtain⟨y,y1,y2⟩:=zaa.mp d1
    have:=(xx ek hr hr2 e2 d2).2;exact⟨y,⟨y1,(h.pr.dom y).mpr ⟨q',y2⟩⟩,i',j',u',v',p',q',e3,e4,hp',d3,d4,y2,Int.ofNat.inj this⟩
  rcases hd with hd|⟨a,ha,⟨x,kx,f⟩|⟨x,kx,f⟩⟩
  ·have hk:=(List.cons.inj ek).1;exact h.apart k s t i j u v p q hd f1 p1 s1 f2 p2 s2 (by omega)
  ·obtain⟨y,ky,i',j',u',v',p',q',a1,a2,a3,a4,a5,a6,a7⟩:=go ek f1 p1 s1 f2 p2 s2 ha kx;exact h.apart k x y i' j' u' v' p' q' (f y ky) a1 a2 a3 a4 a5 a6 a7
  ·obtain⟨y,ky,i',j',u',v',p',q',a1,a2,a3,a4,a5,a6,a7⟩:=go ek.symm f2 p2 s2 f1 p1 s1 ha kx;exact h.apart k y x j' i' v' u' q' p' (f y ky) a4 a5 a6 a1 a2 a3 a7.symm
theorem Cj{sg:List Nat}{i j k:Nat}(hi:i<R.length)(hj:j<R.length)(h:(sgs R sg k).getD i 0≠(sgs R sg k).getD j 0):∀m,(sgs R sg (k+m)).getD i 0≠(sgs R sg (k+m)).getD j 0
 |0=>h
 |m+1=>fun e=>Cj hi hj h m (by
  exact Int.ofNat.inj (List.cons.inj (xg hi hj e)).1)
def Lm.cover(h:Lm es G w F R pt n)(hw:∀r∈G,r.length=w)(ht:Rc (bI G) [0] t)(al:Al es G t)(tl:t<G.length)(hg:GOk G):∃u,u∈F/\pt u=pt t:=by
 induction ht with
 |first hs=>rw[zaH.mp hs];exact⟨0,zaW h.rs.f0,rfl⟩
 |@next s t hs ed ih=>
  obtain⟨r,hr,m⟩:=ed;have sl:=(zah.mp hr).1;have as:Al es G s:=by
   obtain⟨k,hk⟩:=al;exact⟨k+1,t,⟨r,hr,m⟩,hk⟩
  obtain⟨u,mu,eu⟩:=ih as sl;obtain⟨i,hu⟩:=zbo mu;obtain⟨p,hp⟩:=h.rs.fk u mu;obtain⟨a,ha⟩:=zbo m;have la:=(zah.mp ha).1;rw[hw r (zaW hr)]at la;obtain⟨q,hq⟩:=(h.pr.dom t).mp (mem_sel.mpr ⟨tl,.next hs ⟨r,hr,m⟩,al⟩);have ec:cl G pt s a=some q:=by unfold cl;rw[mR hr,ha];exact hq
  obtain⟨r',hr',e|⟨j,v,q',e1,e2,e3,e4⟩⟩:=h.next hu hp (eu▸hp) la
  ·rw[ec]at e;cases e.1
  ·rw[ec]at e1;cases e1;exact⟨v,zaW e3,e4.trans hq.symm⟩
def Lm.gok(h:Lm es G w F R pt n)(le:F.length<=1000)(w12:w<=12):GOk R:=by
 have l:=h.rs.le;have f0:=(zah.mp h.rs.f0).1;refine⟨by omega,by omega,fun r hr=>?_,fun r hr k hk=>?_⟩
 ·obtain⟨i,hi⟩:=zbo hr;rw[(h.rs.w i r hi).1];exact w12
 ·obtain⟨i,hi⟩:=zbo hr;obtain⟨_,s,_,ro⟩:=h.rs.w i r hi;obtain⟨a,ha⟩:=zbo hk;rcases ro a _ ha with⟨e,_⟩|⟨j,t,q,e,hj,_⟩
  ·cases e
  ·cases e;rw[l];exact(zah.mp hj).1
def Lm.inj(h:Lm es G w F R pt n)(hw:∀r∈G,r.length=w)(hg:GOk G)(i j:Nat)(hi:i<R.length)(hj:j<R.length)(e:(sgs R (sg0 (F.map (ax es))) R.length).getD i 0=(sgs R (sg0 (F.map (ax es))) R.length).getD j 0):i=j:=Classical.byContradiction fun ne=>by
 have le:=h.rs.le;have hn:n-2<=R.length:=by
  have:=cH (cs:=List.range' 2 (n-2)) (A:=F.map fun s=>(pt s).getD 0) (List.nodup_range' ..) fun p hp=>by
   obtain⟨h1,h2⟩:=List.mem_range'_1.mp hp;obtain⟨s,hs⟩:=h.pr.ne p h1 (by omega);obtain⟨k1,k2,k3⟩:=mem_sel.mp ((h.pr.dom s).mpr ⟨p,hs⟩);obtain⟨u,mu,eu⟩:=h.cover hw k2 k3 k1 hg;exact zaz.mpr ⟨u,mu,by rw[eu,hs];rfl⟩
  rw[List.length_range',zad]at this;omega
 obtain⟨u,hu⟩:∃u,F[i]?=some u:=⟨_,zak (by omega)⟩;obtain⟨v,hv⟩:∃v,F[j]?=some v:=⟨_,zak (by omega)⟩;obtain⟨p,hp⟩:=h.rs.fk u (zaW hu);obtain⟨q,hq⟩:=h.rs.fk v (zaW hv);have hd:=h.pr.ds u v ((h.pr.dom u).mpr ⟨p,hp⟩) ((h.pr.dom v).mpr ⟨q,hq⟩) fun z=>ne (h.rs.fi hu hv z)
 have:=Cj hi hj (h.apart (n-2) u v i j u v p q hd hu hp hp hv hq hq) (R.length-(n-2));rw[show n-2+(R.length-(n-2))=R.length by omega]at this;exact this e
def Ey(g:GOk G):W (gi [mD es G]) (fun r=>r=(mD es G,[none])):=by
 have n:=g.n;have e1:fP [.list (es.map .bool)]=some (.list (es.map .bool)):=rfl;simp only[gi,pN,ws,mD,e1];refine eZ (fun t=>t) (szB (by rw[zad];omega)) (fun t ht=>?_) fun o=>?_
 ·obtain⟨r,hr,rfl⟩:=zaz.mp ht;have e2:fP [aL r]=some (aL r):=rfl;simp only[ws,mE,e2]
 ·simp only[ws,List.map_id']
def zY(h:ax es s=true):es[s]?=some true:=by
 rw[ax,zbf]at h;cases e:es[s]? with
 |none=>rw[e]at h;cases h
 |some b=>rw[e]at h;exact congrArg some h
def u9(hl:l.length<=1000)(lt:∀s∈l,s<es.length){Q:List D×En->Prop}(h:∀o,Q ((l.filter (ax es)).map iD,[o,some (.tuple [.list (es.map .bool),.list (G.map aL)])])):W (lcF (gN 0) iI iM (l.map iD) [] [none,some (.tuple [.list (es.map .bool),.list (G.map aL)])]) Q:=by
 refine cP (fun t=>match t with|.int z=>ax es z.toNat|_=>false) (fun t=>t) (by rw[zad];exact szB (by omega)) (fun t ht=>?_) (fun t ht _=>by simp only[ws,iM]) fun o=>?_
 ·obtain⟨s,hs,rfl⟩:=zaz.mp ht;have sl:=lt s hs;have ea:atI (es.map PyData.bool) (s:Int)=some (.bool (ax es s)):=by
   rw[bu,zao,zak sl,ax,zbf,zak sl];rfl
  simp only[ws,iI,iD,ea,zaK]
 ·rw[List.map_id',zbA];exact h o
def r9(M:Mx W0 es G):W (dh [mD es G]) (fun r=>r=(.bool true,[none])):=by
 have n:=M.g.n;have z1:=M.g.n1;have le:=M.le;obtain⟨r0,h0⟩:∃r0,G[0]?=some r0:=⟨_,zak z1⟩;have a0:(G.map aL)[0]?=some (.list (r0.map goD)):=by rw[zao,h0];rfl
 have w0:=M.w r0 (zaW h0);have w12:=M.g.w r0 (zaW h0);rw[w0]at w12;obtain⟨nm,dm⟩:=Cq es G;have sm:=(same nm dm).2;have cp:=Ey (es:=es) M.g;have lo:=y6 M;have co:=vd (es:=es) M.g;simp only[mD]at sm cp lo co;simp only[dh,nF,ws,mD,a0,w0];refine W.ue cp ?_;simp only[ws];refine W.use lo ?_;rintro _ (⟨nk,rfl⟩|⟨kp,F,R,rfl,⟨m,k,rs,pr,st⟩,lF⟩)
 ·have fo:=qM (w:=W0) (bs:=[false]) (R:=[List.replicate W0 none]) (by decide) (by decide) rfl (fun r hr=>by rw[zaH.mp hr,zaM]) w12 (fun r hr k hk=>by
   rw[zaH.mp hr]at hk;cases(List.mem_replicate.mp hk).2)
  simp only[ws,mD]at fo ⊢;refine W.ue fo ?_;simp only[ws,sm];refine W.use co ?_;rintro _ ⟨c,rfl,hc⟩;simp only[ws,nD];have ci:=iZ M.g c;have em:=cmpN.lst.eqD (by decide) ((aY G c).filter (ax es)) [];have e0:(aY G c).filter (ax es)=[]:=fn fun s hs=>by
   cases e:ax es s with
   |false=>rfl
   |true=>exact absurd (Dr (s:=s) ⟨(ci.2 s hs).2,0,zY e⟩) nk
  refine u9 (by have:=ib ci.1 fun s hs=>(ci.2 s hs).1;omega) (fun s hs=>by rw[le];exact(ci.2 s hs).1) fun o=>?_;rw[e0];simp only[ws,zaZ];have ml:y0 (.list [.none]) (.int (W0:Int))=some (aL (List.replicate W0 none)):=by
   show grd _ _=_;unfold grd;rw[if_pos ⟨by omega,by omega,szB (by simp only[zac,List.length_nil];omega)⟩,zaK,List.flatten_replicate_singleton,aL,List.map_replicate];rfl
  obtain⟨b1,b2⟩:=Cq [false] [List.replicate W0 none];have sf:=(same b1 b2).1;have ef:mD [false] [List.replicate W0 none]=.tuple [.list [.bool false],.list [aL (List.replicate W0 none)]]:=rfl;rw[ef]at sf;have ef2:PyData.tuple [.list (List.map .bool [false]),.list (List.map aL [List.replicate W0 none])]=.tuple [.list [.bool false],.list [aL (List.replicate W0 none)]]:=rfl;rw[ef2];simp only[ws,ml,sf]
 ·have lm:Lm es G W0 F R (ay m) k:=⟨rs,pr,st⟩;have gR:=lm.gok lF w12;have rl:=rs.le;have fl:(F.map (ax es)).length=R.length:=by rw[zad];exact rl.symm
  have wR:∀r∈R,r.length=W0:=fun r hr=>by
   obtain⟨i,hi⟩:=zbo hr;exact(rs.w i r hi).1
  have n1:=gR.n1;have fo:=qM (w:=W0) (bs:=F.map (ax es)) (R:=R) (by omega) (by omega) fl.symm wR w12 (fun r hr k hk=>by rw[fl];exact gR.lt r hr k hk);have cR:=vd (es:=F.map (ax es)) gR;have lR:=xn fl gR.n gR.w gR.lt;have uR:=wH fl n1 gR.n gR.w gR.lt (lm.inj M.w M.g);simp only[ws,mD]at fo cR lR uR ⊢;refine W.ue fo ?_;simp only[ws,sm];refine W.use co ?_;rintro _ ⟨c,rfl,hc⟩;simp only[ws,nD];have ci:=iZ M.g c;have em:=cmpN.lst.eqD (by decide) ((aY G c).filter (ax es)) [];have e0:(aY G c).filter (ax es)≠[]:=fun z=>by
   obtain⟨q,hq⟩:=kp.2;obtain⟨t,h1,h2⟩:=wE hq
   have:t∈(aY G c).filter (ax es):=zbB.mpr ⟨(hc.mem M.g t).mpr h1,by rw[ax,zbf,h2];rfl⟩;rw[z]at this;cases this
  refine u9 (by have:=ib ci.1 fun s hs=>(ci.2 s hs).1;omega) (fun s hs=>by rw[le];exact(ci.2 s hs).1) fun o=>?_;simp only[e0,decide_false,zaZ]at em;simp only[ws,em];refine W.use cR ?_;rintro _ ⟨c2,rfl,hc2⟩;rw[rs.range hc2,rl];have lr:mO [.int ((F.length:Nat):Int)]=some (.list ((List.range F.length).map iD)):=by
   show grd _ _=_;unfold grd;rw[if_pos ⟨by omega,by omega⟩];rfl
  have nn:neD (.list ((List.range F.length).map iD)) (.list ((List.range F.length).map iD))=some (.bool false):=by
   have:=cmpN.lst.neD (by decide) (List.range F.length) (List.range F.length);simp only[decide_true,Bool.not_true]at this;exact this
  simp only[ws,nD,lr,nn];refine W.use lR ?_;rintro _ ⟨A,rfl,q1,q2,q3⟩;have fA:false∉A:=fun z=>by
   obtain⟨i,hi⟩:=zbo z;have il:=(zah.mp hi).1;obtain⟨u,hu⟩:∃u,F[i]?=some u:=⟨_,zak (by omega)⟩;obtain⟨p,hp⟩:=rs.fk u (zaW hu);have ku:=(pr.dom u).mpr ⟨p,hp⟩;obtain⟨_,_,x,hx⟩:=mem_sel.mp ku
   have:=lm.live M.w M.g q2 q3 x u i u p hx ku hu hp hp;rw[zbf,hi]at this;cases this
  have ii:inL (.bool false) (.list (A.map .bool))=some (.bool false):=by
   have:=cmpB.isIn (by decide) false A;rw[this,zaA fA]
  simp only[ws,ii];refine W.ue uR ?_;have e1:(List.map PyData.bool (List.map (ax es) F))[0]?=some (.bool (ax es 0)):=by
   rw[zao,zao,rs.f0];rfl
  have e2:(es.map PyData.bool)[0]?=some (.bool (ax es 0)):=by
   rw[zao,zak (by omega),ax,zbf,zak (by omega)];rfl
  simp only[ws,e1,e2,beq_self_eq_true]
def KK{f g:ME}{us:List D}(h0:(en[i]?).join=some (.list us))(h:W (f en) (fun r=>W (g r.2) (fun q=>∃n ts,r.1=.int n/\(q.2[i]?).join=some (.list ts)/\(0<=n/\n<2 ^ 63)/\ts.length<sizeLine/\Q (.none,q.2.set i (some (.list (cV ts n.toNat q.1))))))):W (qj i f g en) Q:=by
 unfold qj;rw[h0];show W ((f en).bind _) Q;rw[aA];refine W.use h fun r h1=>?_;rw[aA];refine W.use h1 ?_;rintro q ⟨n,ts,e1,e2,e3,e4,e5⟩;rw[e1,e2];show W (if _ then _ else none) Q;rw[if_pos ⟨e3,e4⟩];exact⟨_,rfl,e5⟩
def tK(h:G.length<=63):CK G l:=⟨fun _=>True,trivial,fun _ _ _ _ _ _ _=>trivial,fun S _ nd hS=>.inl (by
 have:=cH nd (A:=List.range G.length) fun s hs=>zbp.mpr (hS s hs);rw[zbc]at this;rw[zad];omega)⟩
def sG(g:GOk G)(w1:1<=W0)(w:∀r∈G,r.length=W0)(le:es.length=G.length)(h:G.length<=63):Mx W0 es G:=
 ⟨g,w1,w,le,tK h,fun B hB _=>tK (by unfold toG;rw[zad];omega)⟩
def JR{u:D}(h:ju n u=true):∃w:Option Nat,u=goD w/\∀k,w=some k->k<n:=by
 cases u with
 |none=>exact⟨none,rfl,fun _ z=>by cases z⟩
 |int z=>
  simp only[ju,zbk,decide_eq_true_eq]at h;obtain⟨k,rfl⟩:=zaL h.1;exact⟨some k,rfl,fun j e=>by cases e;omega⟩
 |_=>cases h
theorem xh{n:Nat}:∀{ts:List D},ts.all (ju n)=true->∃r:List (Option Nat),ts=r.map goD/\∀k,some k∈r->k<n
 |[],_=>⟨[],rfl,fun _ z=>by cases z⟩
 |t::ts,h=>by
  rw[List.all_cons,zbk]at h;obtain⟨w,rfl,hw⟩:=JR h.1;obtain⟨r,rfl,hr⟩:=xh h.2;exact⟨w::r,rfl,fun k z=>(zay.mp z).elim (fun z=>hw k z.symm) (hr k)⟩
theorem wW{S n:Nat}:∀{gs:List D},(∀u∈gs,mT S n u=true)->∃G:Gr,gs=G.map aL/\(∀r∈G,r.length=S/\∀k,some k∈r->k<n)
 |[],_=>⟨[],rfl,fun _ z=>by cases z⟩
 |u::gs,h=>by
  obtain⟨G,rfl,hG⟩:=wW fun v hv=>h v (zaj _ hv);have hu:=h u zaq;cases u with
  |list ts=>
   simp only[mT,zbk,decide_eq_true_eq]at hu;obtain⟨r,rfl,hr⟩:=xh hu.2;rw[zad]at hu;refine⟨r::G,rfl,fun r' z=>?_⟩;rcases zay.mp z with rfl|z
   ·exact⟨by omega,hr⟩
   ·exact hG r' z
  |_=>cases hu
theorem Cb:∀{es:List D},(∀u∈es,sT u=true)->∃bs:List Bool,es=bs.map .bool
 |[],_=>⟨[],rfl⟩
 |u::es,h=>by
  obtain⟨bs,rfl⟩:=Cb fun v hv=>h v (zaj _ hv);have hu:=h u zaq;cases u with
  |bool b=>exact⟨b::bs,rfl⟩
  |_=>cases hu
def K3{S:Nat}{es gs:List D}(M:Mc S es gs):∃bs G,PyData.tuple [.list es,.list gs]=mD bs G/\Mx S bs G/\G.length=es.length:=by
 obtain⟨bs,rfl⟩:=Cb M.eb;obtain⟨G,rfl,hG⟩:=wW M.gr;have gl:=M.gl;have ne:=M.ne;have le:=M.le;have s2:=M.s2;rw[zad]at gl;rw[zad]at gl ne le;refine⟨bs,G,rfl,sG ⟨by omega,by omega,fun r hr=>by rw[(hG r hr).1];exact s2,fun r hr k hk=>?_⟩ M.s1 (fun r hr=>(hG r hr).1) gl.symm (by omega),by rw[zad];exact gl⟩
 have:=(hG r hr).2 k hk;rw[zad]at this;omega
def Dw{ts:List Nat}{x:Nat}:s∈cV ts n x↔s=x\/s∈ts:=by
 unfold cV
 conv=>rhs;rw[<-List.take_append_drop n ts]
 rw[zax,zay,zax];exact⟨fun z=>z.elim (fun a=>.inr (.inl a)) fun a=>a.elim .inl fun b=>.inr (.inr b),fun z=>z.elim (fun a=>.inr (.inl a)) fun a=>a.elim .inl fun b=>.inr (.inr b)⟩
def Dx(ts:List Nat)(n x:Nat):cV (ts.map iD) n (iD x)=(cV ts n x).map iD:=by
 unfold cV;rw[zaC,zar,List.map_take,List.map_drop]
def plD(Sp:List Nat):D->D
 |.int z=>iD (dE Sp z.toNat)
 |_=>.none
def zZ(es:List Bool)(N:Nat):D->D
 |.int z=>.bool (ax es (z.toNat % N))
 |_=>.none
def Ac(M:Mx W0 es G)(hG:G.length<=12)(t1:1<=t)(t3:t<=3){p:D}(hp:IsPen p):W (fc [p,mD es G,.int (t:Int)]) (fun r=>∃bs R p',r=(mD bs R,[some p',none,none])/\Mx W0 bs R):=by
 have z1:=M.g.n1;have le:=M.le;have kl:G.length*t<=36:=zau (Nat.mul_le_mul hG t3) (by decide);have k1:1<=G.length*t:=zau (by decide) (Nat.mul_le_mul z1 t1);have ek:((G.length:Nat):Int)*((t:Nat):Int)=((G.length*t:Nat):Int):=by rw[Int.natCast_mul]
 simp only[fc,nG,ws,mD,le,ek];have n12:(G.length:Int)<1073741824:=by omega
 refine⟨.inl ⟨by omega,by omega⟩,⟨by omega,by omega,by omega,by omega⟩,?_⟩;rw[show((G.length*t:Nat):Int)-1=((G.length*t-1:Nat):Int)by omega,zaK];refine bw (fun i en=>∃(p:D) (Sp:List Nat) (o5:Option D),en=[some p,some (.tuple [.list (es.map .bool),.list (G.map aL)]),some (.int (t:Int)),some (.int (G.length:Int)),some (nD Sp),o5,none,none,none,none]/\IsPen p/\Sp.length=i+1/\∀s,s∈Sp↔s<i+1) ⟨p,[0],_,rfl,hp,rfl,fun s=>by simp⟩ ?_ ?_
 ·rintro i u en hu ⟨p,Sp,o5,rfl,hp,g1,g2⟩;obtain⟨hi,rfl⟩:=jP hu;simp only[ws,lx,nD];refine KK (us:=Sp.map iD) rfl ?_;simp only[ws];refine de hp (by omega) (by omega) fun r p1 r0 r1 hp1=>?_;simp only[ws];refine⟨1+r,Sp.map iD,rfl,rfl,⟨by omega,by omega⟩,cF (by rw[zad];omega),?_⟩;refine⟨p1,cV Sp (1+r).toNat (i+1),some (.int ((i+1:Nat):Int)),?_,hp1,by rw[sW];omega,fun s=>?_⟩
  ·rw[<-Dx,show(1:Int)+(i:Int)=((i+1:Nat):Int)by omega];rfl
  ·rw[Dw,g2 s];omega
 ·rintro en ⟨p,Sp,o5,rfl,hp,g1,g2⟩;rw[fH]at g1 g2;have sl:Sp.length=G.length*t:=by omega
  have ms:∀s,s∈Sp↔s<G.length*t:=fun s=>(g2 s).trans (by omega);clear g1 g2;simp only[ws,nD,ek,zaK];refine⟨.inl ⟨by omega,by omega⟩,⟨by omega,by omega⟩,?_⟩;refine eZ (plD Sp) (by rw[fH];exact szB (by omega)) (fun u hu=>?_) fun o=>?_
  ·obtain⟨i,h2⟩:=zbo hu;obtain⟨hi,rfl⟩:=jP h2;have ix:=cmpN.index (by decide) ((ms i).mpr hi) (by omega);rw[zbM];simp only[ws,lB,plD,iD,zaK]at ix ⊢;simp only[ws,ix]
  ·have ep:List.map (plD Sp) (jD 0 (G.length*t))=((List.range (G.length*t)).map (dE Sp)).map iD:=by
    unfold jD;rw[zaQ,zaQ];exact zbu fun k _=>by show iD (dE Sp (0+(k:Int)).toNat)=_;rw[zbM];rfl
   rw[ep];have pl:((List.range (G.length*t)).map (dE Sp)).length=G.length*t:=by rw[zad,zbc]
   have pm:∀j∈(List.range (G.length*t)).map (dE Sp),j<G.length*t:=fun j hj=>by
    obtain⟨k,hk,rfl⟩:=zaz.mp hj;rw[<-sl];exact(zah.mp (nY ((ms k).mpr (zbp.mp hk)))).1
   generalize (List.range (G.length*t)).map (dE Sp)=Pl at pl pm;simp only[ws];have hm:∀k∈Sp,∃r,G[k % G.length]?=some r/\atI (G.map aL) ((k:Int) % (G.length:Int))=some (.list (r.map goD))/\atI (es.map PyData.bool) ((k:Int) % (G.length:Int))=some (.bool (ax es (k % G.length))):=fun k hk=>by
    have hl:=Nat.mod_lt k z1;have e1:(k:Int) % (G.length:Int)=((k % G.length:Nat):Int):=rfl;refine⟨G[k % G.length]'hl,zak hl,?_,?_⟩
    ·rw[e1,bu,zao,zak hl];rfl
    ·rw[e1,bu,zao,zak (by omega),ax,zbf,zak (by omega)];rfl
   refine bw (fun i en=>∃(p:D) (R:Gr) (o5 o8 o9:Option D),en=[some p,some (.tuple [.list (es.map .bool),.list (G.map aL)]),some (.int (t:Int)),some (.int (G.length:Int)),some (.list (Sp.map iD)),o5,some (.list (Pl.map iD)),some (.list (R.map aL)),o8,o9]/\IsPen p/\R.length=i/\∀r∈R,r.length=W0/\∀k,some k∈r->k<G.length*t) ⟨p,[],_,_,_,rfl,hp,rfl,fun _ z=>by cases z⟩ ?_ ?_
   ·rintro i u en hu ⟨p,R,o5,o8,o9,rfl,hp,g1,g2⟩;obtain⟨k,hk,rfl⟩:=gm hu;obtain⟨r,hr,e1,_⟩:=hm k (zaW hk);have hi:=(zah.mp hk).1;have rl:=M.w r (zaW hr);have r12:=M.g.w r (zaW hr);have zN:(0:Int)<(G.length:Int):=by omega
    simp only[ws,lw,iD,zN,n12,e1];refine bw (fun j en=>∃(p:D) (v:List (Option Nat)) (o9:Option D),en=[some p,some (.tuple [.list (es.map .bool),.list (G.map aL)]),some (.int (t:Int)),some (.int (G.length:Int)),some (.list (Sp.map iD)),some (.int (k:Int)),some (.list (Pl.map iD)),some (.list (R.map aL)),some (.list (v.map goD)),o9]/\IsPen p/\v.length=j/\∀k,some k∈v->k<G.length*t) ⟨p,[],_,rfl,hp,rfl,fun _ z=>by cases z⟩ ?_ ?_
    ·rintro j u en hu ⟨p,v,o9,rfl,hp,q1,q2⟩;obtain⟨o,ho,rfl⟩:=gm hu;have hj:=(zah.mp ho).1;have sv:v.length<sizeLine:=cF (by omega);have add:∀o,(∀k,o=some k->k<G.length*t)->(v++[o]).length=j+1/\∀k,some k∈v++[o]->k<G.length*t:=fun o h=>⟨by rw[zae,q1];rfl,fun k hk=>by
      rcases zax.mp hk with hk|hk
      ·exact q2 k hk
      ·exact h k (zaH.mp hk).symm⟩
     have em:∀o,List.map goD v++[goD o]=(v++[o]).map goD:=fun o=>by rw[zaC];rfl
     cases o with
     |none=>
      have e1:=em none;simp only[ws,iK,goD]at e1 ⊢;rw[e1];exact⟨sv,p,_,_,rfl,hp,add none fun _ z=>by cases z⟩
     |some x=>
      have xl:=M.g.lt r (zaW hr) x (zaW ho);simp only[ws,iK,goD];refine de hp (by omega) (by omega) fun z p1 z0 z1 hp1=>?_;obtain⟨y,rfl⟩:=zaL z0;have yl:x+G.length*y<G.length*t:=by
       have:G.length*(y+1)<=G.length*t:=Nat.mul_le_mul_left _ (by omega);rw[Nat.mul_succ]at this;omega
      obtain⟨q,hq⟩:∃q,Pl[x+G.length*y]?=some q:=⟨_,zak (by omega)⟩;have aq:atI (Pl.map iD) ((x:Int)+(G.length:Int)*(y:Int))=some (goD (some q)):=by
       rw[show(x:Int)+(G.length:Int)*(y:Int)=((x+G.length*y:Nat):Int)by rw[Int.natCast_add,Int.natCast_mul],bu,zao,hq];rfl
      have e1:=em (some q);simp only[ws,aq,e1];exact⟨.inl ⟨by omega,by omega⟩,sv,p1,_,_,rfl,hp1,add (some q) fun k e=>by cases e;exact pm q (zaW hq)⟩
    ·rintro en ⟨p,v,o9,rfl,hp,q1,q2⟩;rw[zad,rl]at q1;simp only[ws];refine⟨cF (by omega),p,R++[v],_,_,_,by rw[zaC (l₁:=R)];rfl,hp,by rw[zae,g1];rfl,fun r' hr'=>?_⟩;rcases zax.mp hr' with hr'|hr'
     ·exact g2 r' hr'
     ·rw[zaH.mp hr'];exact⟨q1,q2⟩
   ·rintro en ⟨p,R,o5,o8,o9,rfl,hp,g1,g2⟩;rw[zad,sl]at g1;have zN:(0:Int)<(G.length:Int):=by omega
    simp only[ws];refine eZ (zZ es G.length) (by rw[zad];exact szB (by omega)) (fun u hu=>?_) fun o=>?_
    ·obtain⟨k,hk,rfl⟩:=zaz.mp hu;obtain⟨r,_,_,e2⟩:=hm k hk;simp only[ws,lz,iD,zN,n12,e2,zZ,zaK]
    ·have ee:List.map (zZ es G.length) (Sp.map iD)=(Sp.map fun k=>ax es (k % G.length)).map .bool:=by
      rw[zaQ,zaQ];rfl
     rw[ee];simp only[ws];have w12:W0<=12:=by
      have h0:=zak z1;rw[<-M.w _ (zaW h0)];exact M.g.w _ (zaW h0)
     exact⟨_,R,p,rfl,sG ⟨by omega,by omega,fun r hr=>by rw[(g2 r hr).1];exact w12,fun r hr k hk=>by rw[g1];exact(g2 r hr).2 k hk⟩ M.w1 (fun r hr=>(g2 r hr).1) (by rw[zad];omega) (by omega)⟩
def y8:Hv wB:=by
 intro ns hn
 suffices W (wB [.list (ns.map .int)]) (fun r=>∃o,r=(.bool true,o))by
  obtain⟨_,e,o,rfl⟩:=this.ex;exact⟨o,e⟩
 simp only[ws,wB,Jv];refine wv (by decide) hn fun p hp=>?_;simp only[ws];refine de hp (by decide) (by decide) fun r p1 r0 r1 hp1=>?_;obtain⟨S,hS⟩:∃S:Nat,(1+r)=(S:Int):=⟨(1+r).toNat,by omega⟩;simp only[ws,hS];refine W.use (JW (M:=12) (S:=S) hp1 (by decide) (by decide) (by omega) (by omega)) ?_;rintro _ ⟨es,gs,p2,rfl,M1,hp2⟩;obtain⟨bs,G,e1,O1,gl⟩:=K3 M1;have le:=M1.le;rw[e1];simp only[ws];refine de hp2 (by decide) (by decide) fun q p3 q0 q1 hp3=>?_;obtain⟨t,ht,t1,t3⟩:∃t:Nat,atI [PyData.int 1,PyData.int 1,PyData.int 2,PyData.int 3] q=some (.int (t:Int))/\1<=t/\t<=3:=by
  obtain⟨k,rfl⟩:=zaL q0;rw[bu]
  match k,q1 with
  |0,_=>exact⟨1,rfl,by decide,by decide⟩
  |1,_=>exact⟨1,rfl,by decide,by decide⟩
  |2,_=>exact⟨2,rfl,by decide,by decide⟩
  |3,_=>exact⟨3,rfl,by decide,by decide⟩
  |k+4,h=>exact absurd h (by omega)
 simp only[ws,ht];refine wv (by decide) hn fun p4 hp4=>?_;simp only[ws];refine W.use (Ac O1 (by omega) t1 t3 hp4) ?_;rintro _ ⟨bs2,R,p5,rfl,O2⟩;simp only[ws];refine W.ue (r9 O2) ?_;simp only[ws];refine W.ue (r9 O1) ?_;simp only[ws];exact⟨_,rfl⟩
end W13
set_option maxHeartbeats 4000000
namespace W13
variable{w:World}{K:zbY}{mg:Str->Option Value}{h:Heap}
open PySem L2
section
variable{P:Program}{base:Heap}{k dr:Nat}{x:Str}{ps:List Str}{dps:List Nat}{f:Addr}{st:Stmt}{sp:L2.Sp}
abbrev Le(x:Str)(st:Stmt)(ps:List Str):Prop:=∀(kV doc pm:Value) (an:Option Addr) (cdv ct:Value) (us:List Value),us.length=ps.length->bindArgs (PySem.W.fnOf x x (eF st) (cr st) (am st) .none kV doc pm an cdv ct) ⟨us,[]⟩=pure (ps.zip us)
def _root_.L2.Kn.up{j:Nat}(G:Kn P w K mg base j x ps sp)(h:j<=k:=by decide):Kn P w K mg base k x ps sp:=G.mono h
def knA(d:Df K x st f)(X:K.In h)(G:h.Ns mainGlobals mg)(ok:∀fd,Fun K x x st f fd->FnOk P w K mg base CX0 k f fd ps sp)(b:Le x st ps:=by intro _ _ _ _ _ _ us hl;rcases us with _|⟨_,_|⟨_,_|⟨_,_|⟨_,_|⟨_,_⟩⟩⟩⟩⟩<;>first|rfl|cases hl):Kn P w K mg base k x ps sp:=d.kn X G b ok
end
def all_mk{l:PySem.W.OpenLaw}{fa f0 f1 f2 f3 f4 f5 f6 f7 f8 f9 f10 f11 f12 f13 f14 f15 f16 f17 f18 f19 f20 f21 f22 f23 f24:Addr}(X:K.In h)(G:h.Ns mainGlobals mg)(hfa:mg "law"=some (.ref fa))
  (d0:Df K "_law_pen" me f0)
  (d1:Df K "_law_take" kY f1)
  (d2:Df K "_law_machine" ft f2)
  (d3:Df K "_law_copy" iW f3)
  (d4:Df K "first_parts" jf f4)
  (d5:Df K "ways_back_by_sign" cD f5)
  (d6:Df K "leading_into" iJ f6)
  (d7:Df K "marked" qt f7)
  (d8:Df K "split_part" hC f8)
  (d9:Df K "parts_of_stands" fF f9)
  (d10:Df K "numbered" jy f10)
  (d11:Df K "reached" oh f11)
  (d12:Df K "ways_back" iV f12)
  (d13:Df K "alive" pD f13)
  (d14:Df K "met" Ah f14)
  (d15:Df K "kept_stands" fX f15)
  (d16:Df K "least" pC f16)
  (d17:Df K "_law_whole" jI f17)
  (d18:Df K "_law_formed" cM f18)
  (d19:Df K "_law_come" kZ f19)
  (d20:Df K "_law_living" fY f20)
  (d21:Df K "_law_all_unlike" bN f21)
  (d22:Df K "_law_right" hV f22)
  (d23:Df K "_law_blown" e7 f23)
  (d24:Df K "law" om f24)
  (z0:PySem.W.nsIn K mainGlobals "abs"=some none)
  (z1:PySem.W.nsIn K mainGlobals "bool"=some none)
  (z2:PySem.W.nsIn K mainGlobals "enumerate"=some none)
  (z3:PySem.W.nsIn K mainGlobals "int"=some none)
  (z4:PySem.W.nsIn K mainGlobals "isinstance"=some none)
  (z5:PySem.W.nsIn K mainGlobals "len"=some none)
  (z6:PySem.W.nsIn K mainGlobals "list"=some none)
  (z7:PySem.W.nsIn K mainGlobals "max"=some none)
  (z8:PySem.W.nsIn K mainGlobals "range"=some none)
  (z9:PySem.W.nsIn K mainGlobals "set"=some none)
  (z10:PySem.W.nsIn K mainGlobals "sorted"=some none)
  (z11:PySem.W.nsIn K mainGlobals "tuple"=some none):
  ∃fd:FuncData,(∀(s:Shared) (v:Value),BindsTo s fd ⟨[v],[]⟩ [("_law_script",v)])/\∀base:Heap,K.In base->base.Ns mainGlobals mg->FnOk l.prog w K mg base CX0 7 fa fd ["_law_script"] (oD K):=by
 have e:=hfa.symm.trans (PySem.W.mg_of X G d24.a);cases e;have m:=fun {x:Str} (z:PySem.W.nsIn K mainGlobals x=some none)=>PySem.W.mg_none_of X G z;have T:Bl mg:=⟨(m z0),(m z1),(m z2),(m z3),(m z4),(m z5),(m z6),(m z7),(m z8),(m z9),(m z10),(m z11)⟩;obtain⟨oc,od,kV,dc,pm,an,cd,ct,sl,ll,lc⟩:=d24.l;have FL:=xJ (st:=om) ll lc d24.k;refine⟨PySem.W.fnOf "law" "law" (eF om) (cr om) (am om) .none kV dc pm an cd ct,fun s v=>.of_eq rfl,fun base _ _=>?_⟩;have g0:pF l.prog w K mg base 1:=knA d0 X G fun _ F=>vK (k:=0) T     F;have g1:hW l.prog w K mg base 1:=knA d1 X G fun _ F=>uh (k:=0) T     F;have g2:j9 l.prog w K mg base 2:=knA d2 X G fun _ F=>pZ (k:=1) T  g1.up   F;have g3:nj l.prog w K mg base 1:=knA d3 X G fun _ F=>ui (k:=0) T     F;have g4:k8 l.prog w K mg base 1:=knA d4 X G fun _ F=>rj (k:=0) T     F;have g5:gn l.prog w K mg base 1:=knA d5 X G fun _ F=>lE (k:=0) T     F;have g6:j8 l.prog w K mg base 1:=knA d6 X G fun _ F=>pY (k:=0) T     F;have g7:k4 l.prog w K mg base 1:=knA d7 X G fun _ F=>yV (k:=0) T     F;have g8:mf l.prog w K mg base 2:=knA d8 X G fun _ F=>sw (k:=1) T  g7.up   F;have g9:iN l.prog w K mg base 3:=knA d9 X G fun _ F=>m5 (k:=2) T  g4.up g5.up g6.up g8.up   F;have g10:pE l.prog w K mg base 1:=knA d10 X G fun _ F=>vJ (k:=0) T     F;have g11:mh l.prog w K mg base 2:=knA d11 X G fun _ F=>xc (k:=1) T  g7.up   F;have g12:nh l.prog w K mg base 1:=knA d12 X G fun _ F=>ug (k:=0) T     F;have g13:vh l.prog w K mg base 3:=knA d13 X G fun _ F=>Dg (k:=2) T  g11.up g12.up   F;have g14:CG l.prog w K mg base 3:=knA d14 X G fun _ F=>JP (k:=2) T  g11.up   F;have g15:k7 l.prog w K mg base 4:=knA d15 X G fun _ F=>rh (k:=3) T  g7.up g13.up g14.up   F;have g16:vg l.prog w K mg base 5:=knA d16 X G fun _ F=>De (k:=4) T  g9.up g10.up g15.up   F;have g17:mi l.prog w K mg base 1:=knA d17 X G fun _ F=>sy (k:=0) T     F;have g18:lh l.prog w K mg base 2:=knA d18 X G fun _ F=>rn (k:=1) T  g17.up   F;have g19:no l.prog w K mg base 1:=knA d19 X G fun _ F=>uj (k:=0) T     F;have g20:k9 l.prog w K mg base 1:=knA d20 X G fun _ F=>rm (k:=0) T     F;have g21:iO l.prog w K mg base 1:=knA d21 X G fun _ F=>m6 (k:=0) T     F;have g22:mj l.prog w K mg base 6:=knA d22 X G fun _ F=>sA (k:=5) T  g3.up g16.up g18.up g19.up g20.up g21.up   F;have g23:mn l.prog w K mg base 2:=knA d23 X G fun _ F=>sB (k:=1) T  g1.up   F;exact(JQ (k:=6) T  g0.up g2.up g1.up g22.up g23.up   FL).imp fun vs H Q E h=>Hu y8 h
def walk{l:PySem.W.OpenLaw}{q:Program}{f':List Str}{XP:(Str->Option Value)->Heap->Prop}{YP:World->Heap->Prop}{d:DefRec}{K:Params->zbY}(hn:l.most=some 63)(hdf:d.params.defaults=[])(hq:PyProof.Rows.importsNone q=true)
  (hY:∀(w:World) (h:Heap),YP w h->(K w.params).In h)
  (F:∀(w:World) (mg:Str->Option Value) (fa:Addr) (h:Heap),(K w.params).In h->h.Ns mainGlobals mg->mg d.name=some (.ref fa) ->
   ∃fd:FuncData,(∀(s:Shared) (u:Value),BindsTo s fd ⟨[u],[]⟩ [("_law_script",u)])/\∀base:Heap,(K w.params).In base->base.Ns mainGlobals mg->FnOk l.prog w (K w.params) mg base CX0 7 fa fd ["_law_script"] (oD (K w.params))):
  PySem.W.WalkO q f' XP YP l.row.toRowW d [] (fun f vs=>PySem.call f vs):=
 L2.walk_of (n:=63) (k:=7) (x:="_law_script") (CX:=fun _=>CX0) (sp:=fun w=>oD (K w.params)) hn (by decide) hdf ⟨rfl,by decide,by decide,rfl⟩ hq hY F (fun _ _ a ns hl hO hS=>⟨a,ns,rfl,hS,hO,hl,fun _=>rfl⟩) fun _ _ _ _ _ z=>z
end W13
open PySem PySem.W PyProof.Rows
set_option maxRecDepth 100000 in
set_option maxHeartbeats 0 in
theorem PySem.Challenge.cw_wordrules_k13_least_ones_are_as_told_holds : PySem.Challenge.rw_wordrules_k13_least_ones_are_as_told.Holds := by
 w_on;o_law;k_head;(case hw=>w_witness2)
 k_fill
 refine W13.walk (l:=PySem.Challenge.rw_wordrules_k13_least_ones_are_as_told) rfl rfl rfl (fun w h Y=>PySem.W.kIn_of Y) ?F
 case F=>
  intro w mg fa h KX G hmg;refine' W13.all_mk KX G hmg (.mk' ?_ ?_ ?_ ?_) (.mk' ?_ ?_ ?_ ?_) (.mk' ?_ ?_ ?_ ?_) (.mk' ?_ ?_ ?_ ?_) (.mk' ?_ ?_ ?_ ?_) (.mk' ?_ ?_ ?_ ?_) (.mk' ?_ ?_ ?_ ?_) (.mk' ?_ ?_ ?_ ?_) (.mk' ?_ ?_ ?_ ?_) (.mk' ?_ ?_ ?_ ?_) (.mk' ?_ ?_ ?_ ?_) (.mk' ?_ ?_ ?_ ?_) (.mk' ?_ ?_ ?_ ?_) (.mk' ?_ ?_ ?_ ?_) (.mk' ?_ ?_ ?_ ?_) (.mk' ?_ ?_ ?_ ?_) (.mk' ?_ ?_ ?_ ?_) (.mk' ?_ ?_ ?_ ?_) (.mk' ?_ ?_ ?_ ?_) (.mk' ?_ ?_ ?_ ?_) (.mk' ?_ ?_ ?_ ?_) (.mk' ?_ ?_ ?_ ?_) (.mk' ?_ ?_ ?_ ?_) (.mk' ?_ ?_ ?_ ?_) (.mk' ?_ ?_ ?_ ?_) ?_ ?_ ?_ ?_ ?_ ?_ ?_ ?_ ?_ ?_ ?_ ?_
  all_goals (try k_is)

