import PyProof.Rows.All
import Wide.All
import OpenK.AllK
import Wide.FinOn
import Lean
import PyProof.EqAt
import PyProof.EqKinds
import PyProof.TupleCall
import PyProof.NeKinds
import PyProof.ConsumeWalk
import PyProof.ZipIter
import PyProof.EnumMake
import PyProof.EnumFor
import PyProof.StrWalks
import PyProof.ListStr
import PyProof.SliceStr2
import PyProof.StrBlockI
import PyProof.Rows.StrWeight2
import PyProof.Rows.ZipGen
import PyProof.Rows.StrIndexOr
import PyProof.Draws
import PyProof.RaisesStr
import PyProof.Rows.StrCountLaw
import PyProof.SumWalk
import PyProof.ReprRoads
import PyProof.ReprLen
import PyProof.CallFns
import PyProof.SumAny
import PyProof.SumAnyB
import KE.KRevIter
import PySem.Challenge.RW_wordrules_k25_spans_told
set_option Elab.async false
set_option linter.all false
set_option maxRecDepth 100000
section
open PySem PyProof.Rows
def zaa:=@Option.bind_eq_some_iff
def zab:=@Option.map_eq_some_iff
def zac:=@List.length_cons
def zad:=@List.length_map
def zae:=@List.length_append
def zaf:=@Heap.get?_push_of_some
def zag:=@Nat.lt_of_lt_of_le
def zah:=@List.getElem?_eq_some_iff
def zai:=@List.size_toArray
def zaj:=@List.mem_cons_of_mem
def zak:=@List.getElem?_eq_getElem
def zal:=@Heap.lt_size
def zam:=@wpAny_bind
def zan:=@Heap.get?_push_size
def zao:=@List.getElem?_map
def zaq:=@List.mem_cons_self
def zar:=@List.map_cons
def zas:=@List.lookup_cons
def zat:=@Option.some.inj
def zau:=@Nat.le_trans
def zav:=@Nat.le_refl
def zaw:=@Nat.ne_of_lt
def zax:=@List.mem_append
def zay:=@List.mem_cons
def zaz:=@List.mem_map
def zaA:=@decide_eq_false
def zaB:=@decide_eq_true
def zaC:=@List.map_append
def zaD:=@List.append_assoc
def zaE:=@List.length_take
def zaF:=@List.length_drop
def zaH:=@List.mem_singleton
def zaI:=@Nat.lt_irrefl
def zaJ:=@Nat.lt_succ_self
def zaK:=@List.getElem_mem
def zaL:=@Int.toNat_natCast
def zaM:=@Int.eq_ofNat_of_zero_le
def zaN:=@List.length_replicate
def zaO:=@List.getElem?_set_ne
def zaP:=@List.getElem?_set_self
def zaQ:=@List.take_length
def zaR:=@List.map_map
def zaS:=@List.getElem?_append_left
def zaT:=@wpAny_pure
def zaU:=@PySem.mem_of_lookup
def zaV:=@List.length_set
def zaW:=@Nat.le_of_lt
def zaX:=@List.mem_of_getElem?
def zaY:=@Array.length_toList
def za0:=@List.map_nil
def za1:=@Prod.mk.injEq
def za4:=@Nat.zero_add
def za7:=@List.length_eq_zero_iff
def zba:=@Int.emod_nonneg
def zbb:=@Int.emod_lt_of_pos
def zbc:=@List.nodup_cons
def zbd:=@List.nodup_append
def zbf:=@List.length_range
def zbg:=@List.mem_append_left
def zbh:=@List.mem_append_right
def zbi:=@List.getD_eq_getElem?_getD
def zbj:=@decide_eq_true_iff
def zbk:=@Nat.zero_le
def zbl:=@Bool.and_self
def zbm:=@List.getElem?_eq_none
def zbn:=@Bool.and_eq_true
def zbo:=@Bool.false_ne_true
def zbp:=@List.find?_cons
def zbq:=@decide_eq_false_iff_not
def zbr:=@List.getElem?_of_mem
def zbs:=@List.mem_range
def zbt:=@List.append_nil
def zbu:=@List.filter_cons_of_neg
def zbv:=@List.filter_cons_of_pos
def zbw:=@Heap.size_push
def zbx:=@List.map_congr_left
def zby:=@List.getElem?_range
def zbA:=@Heap.get?_update_other
def zbB:=@wpAny_truthy_bool
def zbC:=@wpAny_callSpecial?_slot
def zbD:=@List.filter_map
def zbE:=@List.mem_filter
def zbG:=@List.getElem?_drop
def zbK:=@List.pairwise_lt_range
def zbL:=@List.getElem?_append_right
def zbU:=@Int.zero_add
def zbW:=@List.mem_or_eq_of_mem_set
def zbX:=@List.drop_eq_getElem_cons
def zbZ:=@beq_eq_false_iff_ne
def zb1:=@wpAny_holding
def zb5:=@Bool.and_true
abbrev zb7:=PySem.W.Frag
end
namespace PySem.W.Fast
def tw1001184694373495024:=0
def tw1005329230846593895:=0
def tw10057198013473247188:=0
def tw1007549375754681761:=0
def tw10272473775268272379:=0
def tw10337476798989464025:=0
def tw10362978447718572380:=0
def tw10629147077153164067:=0
def tw10731277920506646978:=0
def tw10739642809436360212:=0
def tw11074086953686414286:=0
def tw11076682634280015474:=0
def tw11129462240057608871:=0
def tw11134718169463107351:=0
def tw11161344676265515185:=0
def tw11341585869829398612:=0
def tw11463647044981391913:=0
def tw11494323399415007675:=0
def tw11661988541470489125:=0
def tw11664049785289117930:=0
def tw1171617238631828571:=0
def tw11756658225234229990:=0
def tw1180825206909303890:=0
def tw11874945028204462796:=0
def tw11935977707580898369:=0
def tw11940756259730804055:=0
def tw11961494955837733530:=0
def tw1211201641530433452:=0
def tw12243059469104872596:=0
def tw12288741869165984455:=0
def tw12347859880664995260:=0
def tw12368112992472624901:=0
def tw12579752070372070222:=0
def tw12712740243860478966:=0
def tw13167851129589980410:=0
def tw13192787021322133601:=0
def tw13324086107783514429:=0
def tw13397476297015855349:=0
def tw13438256829590565254:=0
def tw13496983321773558482:=0
def tw13604884470231367900:=0
def tw14019984436629725598:=0
def tw14042998134764029468:=0
def tw14068176879941646797:=0
def tw14140286068501203967:=0
def tw14194423273206331183:=0
def tw14411544699286610993:=0
def tw145853260738925895:=0
def tw14586091074226527817:=0
def tw14609147398432056126:=0
def tw1462048794224475758:=0
def tw14710559234069447522:=0
def tw14779784528968841423:=0
def tw14804408041987026242:=0
def tw14846968920693899502:=0
def tw15018272095217735565:=0
def tw15078031703873463714:=0
def tw15145310421552231907:=0
def tw15147675799372297249:=0
def tw15192158871009946954:=0
def tw15338750378667786976:=0
def tw1536431018816859132:=0
def tw15400866473793495663:=0
def tw1556860078409825263:=0
def tw15630867006351592950:=0
def tw15718666892744161311:=0
def tw15862502601802110270:=0
def tw16187731816549025291:=0
def tw16265278661970748015:=0
def tw16283564263103435597:=0
def tw16353767292095669726:=0
def tw16360381817312054918:=0
def tw16493651403885268491:=0
def tw16673548769086112124:=0
def tw16674616074013418289:=0
def tw16733869027232330460:=0
def tw16742627097128897855:=0
def tw16946711146359845959:=0
def tw16999122164795223440:=0
def tw17010423476476175878:=0
def tw17025319044642229030:=0
def tw17222883130224784948:=0
def tw17269895747080392929:=0
def tw17363258431037407968:=0
def tw1753944810631003575:=0
def tw17542717533506764593:=0
def tw17615270284378549167:=0
def tw17624778358593821241:=0
def tw17625970037669624979:=0
def tw17656329534175576076:=0
def tw17817686843118276977:=0
def tw18160334219686589112:=0
def tw18199015551258178666:=0
def tw18234308807386805940:=0
def tw18292748909728016933:=0
def tw18404167248035185042:=0
def tw18436551702385009605:=0
def tw1888800971346619682:=0
def tw1900377066483636281:=0
def tw1999773997447054546:=0
def tw2075667971739350074:=0
def tw2167901623721843446:=0
def tw2297644356119973184:=0
def tw2862870645011577312:=0
def tw2890513762622501696:=0
def tw3036060212610277673:=0
def tw304909222672170906:=0
def tw3162544552484452773:=0
def tw3165994972146742986:=0
def tw320454749539754921:=0
def tw3234799303132137313:=0
def tw3318868174484116593:=0
def tw3346727764194735375:=0
def tw3414661239194982074:=0
def tw3435441632557874986:=0
def tw352912389875226120:=0
def tw3538336514230949066:=0
def tw3658926640846828270:=0
def tw3702984676423948753:=0
def tw3854368464406171814:=0
def tw3931294900730683138:=0
def tw3997260081481881532:=0
def tw4032503664287471645:=0
def tw4037851403017415152:=0
def tw4047201871352401730:=0
def tw4219358792094263700:=0
def tw4287687959833176976:=0
def tw4324606151009532137:=0
def tw4571302159930704699:=0
def tw4608788701846189381:=0
def tw4787014004711383102:=0
def tw5015228838889471029:=0
def tw5110799306173494794:=0
def tw5115332882245403196:=0
def tw5136662912100226876:=0
def tw5237911923483212554:=0
def tw5267952744866238807:=0
def tw5350278026343179000:=0
def tw5815475193150987586:=0
def tw5960863053938303295:=0
def tw5971988119478215583:=0
def tw621141093432077490:=0
def tw6257081160584985443:=0
def tw6358185738315072062:=0
def tw6408647358467283483:=0
def tw6445265586224946205:=0
def tw6720825772264097386:=0
def tw6741585123165466800:=0
def tw6774830424881076247:=0
def tw6788693902952962661:=0
def tw6853201652728961874:=0
def tw6998252634564738541:=0
def tw7011796863061265183:=0
def tw7096401090430404930:=0
def tw7116626267561554536:=0
def tw7142551893422179924:=0
def tw7153055019195601483:=0
def tw7167636604363662580:=0
def tw717348528780813087:=0
def tw7190725765668005840:=0
def tw7281967091738271758:=0
def tw7430119345673473432:=0
def tw7539820632450067205:=0
def tw754234716655713543:=0
def tw7556871025384859206:=0
def tw7815918594623392860:=0
def tw7828067371111747611:=0
def tw7890102986501609756:=0
def tw8072214968051726536:=0
def tw8238405546726263569:=0
def tw8962705251485886343:=0
def tw9013267654523534204:=0
def tw9250026224937242019:=0
def tw9289436009759959097:=0
def tw9389534334944857377:=0
def tw9708864174287236110:=0
def tw9819027327849570874:=0
def tw9823944135475754758:=0
def tw9834838650967890253:=0
def tw9857780303748287615:=0
end PySem.W.Fast
namespace L2
variable{a b dx C f:Addr}{h h':Heap}{P:Program}{w:World}{x qual:Str}{e c tg:Expr}{ρ:List (Addr×Obj)}{s s':Shared}{g':Array GenState}{t' i j k n:Nat}{d':Drawn}{ch fp:List Addr}{N ps:List Str}{M:Model}{A:Around}{E Q:Value->Shared->Prop}{u:Value}{pos p:Pos}{op:CmpOp}{K:zb7}{es:List Expr}{g:Int->Int->Int}{body:List Stmt}{us:List Value}{mA mg:Str->Option Value}{fd:FuncData}{scope:Scope}
open PySem PySem.Spec PyProof.Rows
abbrev Key:=Sum Int Str
def i4:Key->Value->Bool
 |.inl k,v=>Value.isInt k v
 |.inr x,v=>Value.isStrOf x v
def IX(w:World):Key->Int
 |.inl k=>hashInt k
 |.inr x=>hashStr w x
def bj:∀{k:Key} {v:Value},i4 k v=true->(∃i t,k=Sum.inl i/\v=Value.int i t)\/(∃x t,k=Sum.inr x/\v=Value.str x t)
 |.inl i,v,h=>by
  obtain⟨t,e⟩:=Value.isInt_shape (k:=i) (v:=v) h;exact .inl ⟨i,t,rfl,e⟩
 |.inr x,v,h=>by
  obtain⟨t,e⟩:=Value.isStrOf_shape (x:=x) (v:=v) h;exact .inr ⟨x,t,rfl,e⟩
def yb(i:Int)(t:Tok):i4 (.inl i) (.int i t)=true:=by simp[i4,Value.isInt]
def ya(x:Str)(t:Tok):i4 (.inr x) (.str x t)=true:=by simp[i4,Value.isStrOf]
def sL(a b:Int):decide ((Sum.inl a:Key)=Sum.inl b)=(a==b):=by
 by_cases e:a=b
 ·subst e;simp
 ·have h:¬(Sum.inl a:Key)=Sum.inl b:=fun q=>e (Sum.inl.inj q);rw[zaA h];exact(zbZ.mpr e).symm
def xZ(a b:Str):decide ((Sum.inr a:Key)=Sum.inr b)=decide (a=b):=by
 by_cases e:a=b
 ·subst e;simp
 ·have h:¬(Sum.inr a:Key)=Sum.inr b:=fun q=>e (Sum.inr.inj q);rw[zaA h,zaA e]
def x9(a:Int)(b:Str):decide ((Sum.inl a:Key)=Sum.inr b)=false:=zaA (fun q=>nomatch q)
def x8(a:Str)(b:Int):decide ((Sum.inr a:Key)=Sum.inl b)=false:=zaA (fun q=>nomatch q)
def aM(prog:Program)(w:World):PySem.KeyKind prog w Key where
 is:=i4
 hash:=IX w
 inj:=fun v a b ha hb=>by
  rcases bj ha with⟨i,t,rfl,rfl⟩|⟨x,t,rfl,rfl⟩
  ·rcases bj hb with⟨j,u,rfl,e⟩|⟨y,u,rfl,e⟩
   ·injection e with e1 _;rw[e1]
   ·exact nomatch e
  ·rcases bj hb with⟨j,u,rfl,e⟩|⟨y,u,rfl,e⟩
   ·exact nomatch e
   ·injection e with e1 _;rw[e1]
 byValue:=fun k v h=>by
  rcases bj h with⟨i,t,rfl,rfl⟩|⟨x,t,rfl,rfl⟩<;>rfl
 pyHash:=fun hv h=>by
  rcases bj hv with⟨i,t,rfl,rfl⟩|⟨x,t,rfl,rfl⟩
  ·exact wpAny_pyHash_int h
  ·exact wpAny_pyHash_str h
 eqBool:=fun hu hv h=>by
  rcases bj hu with⟨i,t,rfl,rfl⟩|⟨x,t,rfl,rfl⟩
  ·rcases bj hv with⟨j,u,rfl,rfl⟩|⟨y,u,rfl,rfl⟩
   ·rw[sL]at h;exact wpAny_eqBool_int h
   ·rw[x9]at h;exact SeqAt.EqAt.int_str i t y u _ _ _ _ h
  ·rcases bj hv with⟨j,u,rfl,rfl⟩|⟨y,u,rfl,rfl⟩
   ·rw[x8]at h;exact SeqAt.EqAt.str_int x t j u _ _ _ _ h
   ·rw[xZ]at h;exact wpAny_eqBool_str h
 «strs»:=fun k x t v h=>by
  rcases bj h with⟨i,u,rfl,e⟩|⟨y,u,rfl,e⟩
  ·exact nomatch e
  ·injection e with e1 _
   subst e1;cases v<;>rfl
def uC(prog:Program)(w:World)(i:Int)(t:Tok):(aM prog w).is (.inl i) (.int i t)=true:=yb i t
def uB(prog:Program)(w:World)(x:Str)(t:Tok):(aM prog w).is (.inr x) (.str x t)=true:=ya x t
inductive V where
 |non|bl (b:Bool)|int (i:Int)|str (x:Str)|byt (b:Array UInt8)|flt (b:UInt64)|ref (a:Addr)|ty (n:String)
 deriving DecidableEq
variable{v y:V}{vs:List V}
def RelV:V->Value->Prop
 |.non,u=>u=Value.none
 |.bl b,u=>u=Value.bool b
 |.int i,u=>∃t,u=Value.int i t
 |.str x,u=>∃t,u=Value.str x t
 |.byt b,u=>∃t,u=Value.bytes b t
 |.flt b,u=>∃t,u=Value.float b t
 |.ref a,u=>u=Value.ref a
 |.ty n,u=>u=Value.type n
abbrev Vals:List V->List Value->Prop:=Paired RelV
def Vals.length{xs:List V}{us:List Value}(r:Vals xs us):xs.length=us.length:=Paired.length r
theorem Vals.get:∀{xs:List V} {us:List Value} {i:Nat} {x:V},Vals xs us->xs[i]?=some x->∃u,us[i]?=some u/\RelV x u
 |_,_,_,_,.nil,e=>by simp at e
 |_,_,0,_,.cons r _,e=>by simp at e;subst e;exact⟨_,rfl,r⟩
 |_,_,i+1,x,.cons _ t,e=>by
  obtain⟨u,h1,h2⟩:=Vals.get (i:=i) (x:=x) t (by simpa using e);exact⟨u,by simpa using h1,h2⟩
theorem Vals.set{x:V}{u:Value}(r:RelV x u):∀{xs:List V} {us:List Value} (i:Nat),Vals xs us->Vals (xs.set i x) (us.set i u)
 |_,_,_,.nil=>.nil
 |_,_,0,.cons _ t=>.cons r t
 |_,_,i+1,.cons q t=>.cons q (Vals.set r i t)
theorem Vals.append:∀{xs ys:List V} {us ws:List Value},Vals xs us->Vals ys ws->Vals (xs++ys) (us++ws)
 |_,_,_,_,.nil,s=>s
 |_,_,_,_,.cons r t,s=>.cons r (Vals.append t s)
theorem Vals.take:∀{xs:List V} {us:List Value} (n:Nat),Vals xs us->Vals (xs.take n) (us.take n)
 |_,_,0,_=>.nil
 |_,_,_+1,.nil=>.nil
 |_,_,n+1,.cons r t=>.cons r (Vals.take n t)
theorem Vals.drop:∀{xs:List V} {us:List Value} (n:Nat),Vals xs us->Vals (xs.drop n) (us.drop n)
 |_,_,0,r=>r
 |_,_,_+1,.nil=>.nil
 |_,_,n+1,.cons _ t=>Vals.drop n t
def RelO:Option V->Option Value->Prop
 |some v,some u=>RelV v u
 |none,none=>True
 |_,_=>False
def KV{κ:Type}:List (κ×V)->List (κ×Value)->Prop:=Paired fun(p:κ×V) (q:κ×Value)=>p.1=q.1/\RelV p.2 q.2
def kV:Key->V
 |.inl i=>.int i
 |.inr x=>.str x
inductive HO where
 |lst (xs:List V)
 |tup (xs:List V)
 |dK (kvs:List (Key×V))|dT (kvs:List (List Key×V))
 |set (S:Int->Bool) (n:Nat)
 |ins (C dx:Addr) (fs:List (Str×V))
 |own (x:Addr)
 |xd (fs:List (Str×V))
 |met (f x:Addr)
 |rng (lo hi:Int)
 |frz (o:Obj) (u:HO)
 |tbl (ps:Array Value)
 |ext (φ:Heap->Prop)
variable{o:HO}
abbrev Hp:=Addr->Option HO
variable{H H':Hp}
def upd(H:Hp)(a:Addr)(o:HO):Hp:=fun b=>if b=a then some o else H b
def aA:upd H a o a=some o:=by unfold upd;rw[if_pos rfl]
def aE(h:b≠a):upd H a o b=H b:=by unfold upd;rw[if_neg h]
def Lk{u:HO}(h:H a=some o)(h':H b=some u)(d:o≠u):a≠b:=by
 intro e;subst e;rw[h]at h';exact d (zat h')
def bW(h:H a=some o)(h':H b=none):a≠b:=by
 intro e;subst e;rw[h]at h';cases h'
def IsTupN(h:Heap)(a:Addr)(its:Array Value):Prop:=∃o,h.get? a=some o/\o.cls=.type "tuple"/\∃n,o.data=.seq its n/\o.dict=none
def IsTupN.tup{h:Heap}{a:Addr}{its:Array Value}(x:IsTupN h a its):IsTup h a its:=by
 obtain⟨o,h1,h2,n,h3,_⟩:=x;exact⟨o,h1,h2,n,h3⟩
def IsTupN.lt{its:Array Value}(x:IsTupN h a its):a<h.objs.size:=zal x.choose_spec.1
def IsTupN.new(h:Heap)(its:Array Value):IsTupN (h.push { cls:=.type "tuple",data:=.seq its }) h.objs.size its:=⟨_,zan _ rfl,rfl,_,rfl,rfl⟩
section
variable(P:Program)(w:World)
def ObjOk(H:Hp)(h:Heap)(a:Addr):HO->Prop
 |.lst xs=>xs.length<=sizeLine/\∃(its:List Value) (n:Nat),Vals xs its/\h.get? a=some { cls:=.type "list",data:=.seq its.toArray n }
 |.tup xs=>xs.length<=sizeLine/\∃its:List Value,Vals xs its/\IsTupN h a its.toArray
 |.dK kvs=>kvs.length<=sizeLine/\(a==sysModules)=false/\∃vs,KV kvs vs/\h.DictOf (aM P w) a vs
 |.dT kvs=>kvs.length<=sizeLine/\(a==sysModules)=false/\∃xs:List (List Key×Addr×Value),
   Paired (fun(p:List Key×V) (q:List Key×Addr×Value)=>p.1=q.1/\H q.2.1=some (.tup (p.1.map kV))/\RelV p.2 q.2.2) kvs xs /\
   ∃o es ep,h.get? a=some o/\o.ExactDict/\o.data=.dict es ep/\es.toList=xs.map (entryOfKey (tupleKind (aM P w)))/\(xs.map (·.1)).Nodup
 |.set S n=>h.SetOf (intKind P w) a S n
 |.ins C dx fs=>H dx=some (.own a)/\fs.length<=1000/\dx≠a/\h.get? a=some (PySem.W.instObj C dx) /\
   ∃mA,h.Ns1 dx mA/\(∀f,RelO (fs.lookup f) (mA f))/\PySem.Within mA (fs.map (·.1))
 |.own _=>∃o,h.get? a=some o
 |.xd fs=>∃mA,h.Ns1 a mA/\∀f,RelO (fs.lookup f) (mA f)
 |.rng lo hi=>∃t u v,h.get? a=some { cls:=.type "range",data:=.fields #[.int lo t,.int hi u,.int 1 v] }
 |.frz o u=>h.get? a=some o/\ObjOk H h a u
 |.tbl ps=>h.get? a=some { cls:=.none,data:=.fields ps }
 |.met f x=>h.get? a=some (PySem.W.methodObj (.ref f) (.ref x))
 |.ext φ=>φ h/\(∃o,h.get? a=some o)/\∀h1 h2:Heap,φ h1->(∀o,h1.get? a=some o->h2.get? a=some o)->φ h2
def HOk(H:Hp)(h:Heap):Prop:=∀a o,H a=some o->ObjOk P w H h a o
end
theorem ObjOk.lt(x:ObjOk P w H h a o):a<h.objs.size:=by
 cases o with
 |lst xs=>obtain⟨_,_,_,_,e⟩:=x;exact zal e
 |tup xs=>obtain⟨_,_,_,p⟩:=x;exact p.lt
 |dK kvs=>obtain⟨_,_,_,_,o,_,_,e,_⟩:=x;exact zal e
 |dT kvs=>obtain⟨_,_,_,_,o,_,_,e,_⟩:=x;exact zal e
 |set S n=>obtain⟨o,_,_,_,e,_⟩:=x;exact zal e
 |ins C dx fs=>obtain⟨_,_,_,e,_⟩:=x;exact zal e
 |own y=>obtain⟨_,e⟩:=x;exact zal e
 |xd fs=>obtain⟨_,⟨_,_,_,e,_⟩,_⟩:=x;exact zal e
 |rng lo hi=>obtain⟨_,_,_,e⟩:=x;exact zal e
 |frz ob u=>obtain⟨e,_⟩:=x;exact zal e
 |tbl ps=>exact zal (show h.get? a=some _ from x)
 |met f y=>exact zal (show h.get? a=some _ from x)
 |ext φ=>obtain⟨_,⟨_,e⟩,_⟩:=x;exact zal e
theorem Paired.mapP{α β:Type}{F G:α->β->Prop}:∀{l₁:List α} {l₂:List β},Paired F l₁ l₂->(∀a b,F a b->G a b)->Paired G l₁ l₂
 |_,_,.nil,_=>.nil
 |_,_,.cons r t,f=>.cons (f _ _ r) (Paired.mapP t f)
def ObjOk.stay(x:ObjOk P w H h a o)(k:∀b u,(b=a\/H b=some (.own a))->h.get? b=some u->h'.get? b=some u)
  (ho:∀b,H b=some (.own a)->H' b=some (.own a)) (ht:∀b xs,H b=some (.tup xs)->H' b=some (.tup xs)):ObjOk P w H' h' a o:=by
 induction o with
 |lst xs=>obtain⟨z,its,n,r,e⟩:=x;exact⟨z,its,n,r,k _ _ (.inl rfl) e⟩
 |tup xs=>obtain⟨z,its,r,ob,e,c⟩:=x;exact⟨z,its,r,ob,k _ _ (.inl rfl) e,c⟩
 |dK kvs=>obtain⟨z,y,vs,r,ob,es,ep,e,c⟩:=x;exact⟨z,y,vs,r,ob,es,ep,k _ _ (.inl rfl) e,c⟩
 |dT kvs=>
  obtain⟨z,y,xs,r,ob,es,ep,e,c⟩:=x;exact⟨z,y,xs,Paired.mapP r fun p q z=>⟨z.1,ht _ _ z.2.1,z.2.2⟩,ob,es,ep,k _ _ (.inl rfl) e,c⟩
 |set S n=>obtain⟨ob,es,ep,t,e,c⟩:=x;exact⟨ob,es,ep,t,k _ _ (.inl rfl) e,c⟩
 |ins C dx fs=>
  obtain⟨d,z,ne,e,mA,⟨od,es,ep,e2,c⟩,r⟩:=x;exact⟨ho _ d,z,ne,k _ _ (.inl rfl) e,mA,⟨od,es,ep,k _ _ (.inr d) e2,c⟩,r⟩
 |own y=>obtain⟨ob,e⟩:=x;exact⟨ob,k _ _ (.inl rfl) e⟩
 |xd fs=>obtain⟨mA,⟨od,es,ep,e,c⟩,r⟩:=x;exact⟨mA,⟨od,es,ep,k _ _ (.inl rfl) e,c⟩,r⟩
 |rng lo hi=>obtain⟨t,u,v,e⟩:=x;exact⟨t,u,v,k _ _ (.inl rfl) e⟩
 |frz ob u ih=>obtain⟨e,q⟩:=x;exact⟨k _ _ (.inl rfl) e,ih q⟩
 |tbl ps=>
  have e:h.get? a=some { cls:=.none,data:=.fields ps }:=x;show h'.get? a=some { cls:=.none,data:=.fields ps };exact k a _ (.inl rfl) e
 |met f y=>
  have e:h.get? a=some (PySem.W.methodObj (.ref f) (.ref y)):=x;show h'.get? a=some (PySem.W.methodObj (.ref f) (.ref y));exact k a _ (.inl rfl) e
 |ext φ=>obtain⟨p,⟨o,e⟩,st⟩:=x;exact⟨st _ _ p fun o q=>k _ _ (.inl rfl) q,⟨o,k _ _ (.inl rfl) e⟩,st⟩
def HOk.lt(x:HOk P w H h)(e:H a=some o):a<h.objs.size:=(x a o e).lt
def HOk.fresh(x:HOk P w H h)(e:h.objs.size<=a):H a=none:=by
 cases q:H a with
 |none=>rfl
 |some u=>exact absurd (zag (x.lt q) e) (zaI _)
def HOk.kept(x:HOk P w H h)(k:∀b u,h.get? b=some u->h'.get? b=some u):HOk P w H h':=fun a o e=>
 (x a o e).stay (fun b u _ q=>k b u q) (fun _ q=>q) fun _ _ q=>q
def HOk.laid(x:HOk P w H h)(k:∀b u,h.get? b=some u->h'.get? b=some u)(hp:h.objs.size<=a)(new:ObjOk P w (upd H a o) h' a o):HOk P w (upd H a o) h':=fun b u e=>by
 have hn:=x.fresh hp;by_cases hb:b=a
 ·subst hb;rw[aA]at e;cases e;exact new
 ·rw[aE hb]at e;exact(x b u e).stay (fun c v _ q=>k c v q) (fun c q=>by rw[aE (bW q hn)];exact q) fun c xs q=>by rw[aE (bW q hn)];exact q
def Rd(H:Hp)(a:Addr)(u:HO):Prop:=H a=some u\/∃o,H a=some (.frz o u)
def Rd.ok{P:Program}{w:World}{H:Hp}{h:Heap}{a:Addr}{u:HO}(r:Rd H a u)(x:HOk P w H h):ObjOk P w H h a u:=by
 rcases r with r|⟨o,r⟩
 ·exact x a u r
 ·obtain⟨_,q⟩:=x a _ r;exact q
def Mut:Option HO->Prop
 |some (.lst _)=>True
 |some (.dK _)=>True
 |some (.dT _)=>True
 |some (.set _ _)=>True
 |some (.ins _ _ _)=>True
 |some (.ext _)=>True
 |_=>False
section
variable{x e:Addr}{o':HO}
def HOk.write(ok:HOk P w H h)(mu:Mut (H x))(he:e=x\/H e=some (.own x))(k:∀b u,b≠e->h.get? b=some u->h'.get? b=some u)(heo:∃u,h'.get? e=some u)
  (new:ObjOk P w (upd H x o') h' x o'):HOk P w (upd H x o') h':=fun b u q=>by
 have nown:∀c y,H c=some (.own y)->c≠x:=fun c y r z=>by subst z;rw[r]at mu;exact mu
 have ntup:∀c xs,H c=some (.tup xs)->c≠x:=fun c xs r z=>by subst z;rw[r]at mu;exact mu
 by_cases hb:b=x
 ·subst hb;rw[aA]at q;cases q;exact new
 ·rw[aE hb]at q;by_cases hbe:b=e
  ·have q':H b=some (.own x):=by
    rcases he with z|z
    ·exact absurd (hbe.trans z) hb
    ·rw[hbe];exact z
   rw[q]at q';cases q';obtain⟨v,hv⟩:=heo;exact⟨v,by rw[hbe];exact hv⟩
  ·refine(ok b u q).stay (fun c v hc r=>k c v ?_ r) (fun c r=>by rw[aE (nown c b r)];exact r) fun c xs r=>by rw[aE (ntup c xs r)];exact r
   rcases hc with rfl|hc
   ·exact hbe
   ·rintro rfl;rcases he with z|z
    ·exact nown c b hc z
    ·rw[hc]at z;cases z;exact hb rfl
end
structure Un(fs ex:List Addr)(H H':Hp)(h h':Heap):Prop where
 keep:∀b o,h.get? b=some o->H b=none->b∉fs->b∉ex->h'.get? b=some o
 slot:∀b o,h.get? b=some o->H b=none->b∈fs->b∉ex->∃sl,h'.get? b=some { o with slots:=sl }
 free:∀b o,h.get? b=some o->H b=none->b∉ex->H' b=none
 there:∀b o,h.get? b=some o->b∉ex->∃o',h'.get? b=some o'
 tups:∀b xs,H b=some (.tup xs)->H' b=some (.tup xs)
 frzs:∀b o u,H b=some (.frz o u)->H' b=some (.frz o u)
 tbls:∀b ps,H b=some (.tbl ps)->∃more,H' b=some (.tbl (ps++more))
section
variable{fs fs' ex ex':List Addr}{H1 H2:Hp}{h1 h2:Heap}{x e:Addr} 
def Un.any(u:Un fs ex H H1 h h1){ob:Obj}(q:h.get? b=some ob)(n:H b=none)(hx:b∉ex):∃sl,h1.get? b=some { ob with slots:=sl }:=by
 by_cases hb:b∈fs
 ·exact u.slot b ob q n hb hx
 ·exact⟨ob.slots,u.keep b ob q n hb hx⟩
def Un.trans(a:Un fs ex H H1 h h1)(b:Un fs ex H1 H2 h1 h2):Un fs ex H H2 h h2 where
 keep:=fun c ob q n hc hx=>b.keep c ob (a.keep c ob q n hc hx) (a.free c ob q n hx) hc hx
 slot:=fun c ob q n hc hx=>by
  obtain⟨sl,e1⟩:=a.slot c ob q n hc hx;obtain⟨sl',e2⟩:=b.slot c _ e1 (a.free c ob q n hx) hc hx;exact⟨sl',e2⟩
 free:=fun c ob q n hx=>by
  obtain⟨o',e1⟩:=a.there c ob q hx;exact b.free c o' e1 (a.free c ob q n hx) hx
 there:=fun c ob q hx=>by
  obtain⟨o',e1⟩:=a.there c ob q hx;exact b.there c o' e1 hx
 tups:=fun c xs q=>b.tups c xs (a.tups c xs q)
 frzs:=fun c ob xs q=>b.frzs c ob xs (a.frzs c ob xs q)
 tbls:=fun c ps q=>by
  obtain⟨m1,e1⟩:=a.tbls c ps q;obtain⟨m2,e2⟩:=b.tbls c _ e1;exact⟨m1++m2,by rw[e2,Array.append_assoc]⟩
def Un.kept(k:∀b u,h.get? b=some u->h'.get? b=some u):Un fs ex H H h h':=
 ⟨fun b ob q _ _ _=>k b ob q,fun b ob q _ _ _=>⟨ob.slots,k b ob q⟩,fun _ _ _ n _=>n,fun b ob q _=>⟨ob,k b ob q⟩,fun _ _ q=>q,fun _ _ _ q=>q,fun _ ps q=>⟨#[],by rw[q];simp⟩⟩
def Un.refl:Un fs ex H H h h:=Un.kept fun _ _ q=>q
def Un.laid(k:∀b u,h.get? b=some u->h'.get? b=some u)(hp:h.objs.size<=a)(hn:H a=none):Un fs ex H (upd H a o) h h' where
 keep:=fun b u q _ _ _=>k b u q
 slot:=fun b u q _ _ _=>⟨u.slots,k b u q⟩
 free:=fun b u q n _=>by rw[aE (zaw (zag (zal q) hp))];exact n
 there:=fun b u q _=>⟨u,k b u q⟩
 tups:=fun b xs q=>by rw[aE (bW q hn)];exact q
 frzs:=fun b u xs q=>by rw[aE (bW q hn)];exact q
 tbls:=fun b ps q=>⟨#[],by rw[aE (bW q hn),q];simp⟩
def Un.write(mu:Mut (H x))(he:e=x\/H e=some (.own x))(k:∀b u,b≠e->h.get? b=some u->h'.get? b=some u)(heo:∃u,h'.get? e=some u):Un fs ex H (upd H x o) h h':=by
 have hx:∀b,H b=none->b≠x:=fun b n z=>by subst z;rw[n]at mu;exact mu
 have hb:∀b,H b=none->b≠e:=fun b n z=>by
  subst z;rcases he with r|r
  ·exact hx b n r
  ·rw[n]at r;cases r
 have hm:∀b u,H b=some u->¬Mut (some u)->b≠x:=fun b u q nm z=>by subst z;rw[q]at mu;exact nm mu
 refine⟨fun b u q n _ _=>k b u (hb b n) q,fun b u q n _ _=>⟨u.slots,k b u (hb b n) q⟩,fun b u q n _=>by rw[aE (hx b n)];exact n,fun b u q _=>?_,
  fun b xs q=>by rw[aE (hm b _ q fun z=>z)];exact q,fun b u xs q=>by rw[aE (hm b _ q fun z=>z)];exact q,fun b ps q=>⟨#[],by rw[aE (hm b _ q fun z=>z),q];simp⟩⟩
 by_cases hbe:b=e
 ·subst hbe;exact heo
 ·exact⟨u,k b u hbe q⟩
end
def trk(h:Heap)(H:Hp):List Addr:=(List.range h.objs.size).filter fun a=>(H a).isSome
def kd(h:Heap)(H:Hp):Heap:=PySem.W.hideAll h (trk h H)
def yg(h:Heap)(H:Hp):(kd h H).objs.size=h.objs.size:=PySem.W.hideAll_size _ _
def Ar{o:Obj}(e:h.get? b=some o)(n:H b=none):(kd h H).get? b=some o:=
 PySem.W.hideAll_get _ e fun hm=>by
  have q:(H b).isSome=true:=(zbE.mp hm).2;rw[n]at q;simp at q
def Ee{o:Obj}(e:(kd h H).get? b=some o):h.get? b=some o/\H b=none:=by
 have e':h.get? b=some o:=PySem.W.of_hideAll (trk h H) e;refine⟨e',?_⟩;cases q:H b with
 |none=>rfl
 |some x=>
  have hm:b∈trk h H:=zbE.mpr ⟨zbs.mpr (zal e'),by simp[q]⟩;have z:(kd h H).get? b=none:=PySem.W.hideAll_none (trk h H) hm;rw[z]at e;cases e
def FK(g h:Heap)(L:Addr):List (Addr×Obj):=(List.range h.objs.size).filterMap fun a=>if a=L\/(g.get? a).isSome=true then none else(h.get? a).map fun o=>(a,o)
def rest(g h:Heap)(L d:Addr):List (Addr×Obj):=(FK g h L).filter fun p=>decide (p.1≠d)
structure Mod(K:zb7)(mg:Str->Option Value)(base:Heap):Prop where
 kin:K.In base
 glob:base.Ns mainGlobals mg
 blt:∃mb,base.Ns builtinsNs mb/\∀x:Str,x≠"__name__"->mb x=bootBuiltins x
 nolimit:base.NoLimit
 mods:∃mm,base.Ns sysModules mm
structure Cx where
 prog:Program
 w:World
 K:zb7
 mg:Str->Option Value
 base:Heap
 A:Around
 N:List Str
 s₀:Shared
 H₀:Hp
 env:Env
 outer:List Env
 stack:List Env
 ex:List Addr
 fn:Str->Bool
 calm:Bool
 pn:List (Addr×Obj)
 xe:Value->Shared->Prop
variable{X:Cx}
def frs(l:List Env):List Addr:=l.filterMap (·.frame)
abbrev Cx.fs(X:Cx):List Addr:=frs X.outer
def Vis(sc:Scope)(x:Str):Prop:=sc.names.lookup x=some .local\/sc.names.lookup x=some .cell\/sc.names.lookup x=some .free
def Loc(sc:Scope)(x:Str):Prop:=sc.names.lookup x=some .local\/sc.names.lookup x=some .cell
def Mq(env:Env)(h:Heap)(m:Str->Option Value)(x:Str)(u:Value):Prop:=
 (env.kindOf x=some .local/\m x=some u)\/((env.kindOf x=some .cell\/env.kindOf x=some .free)/\∃c,env.cells.lookup x=some c/\h.IsCell c (some u))
structure Cx.Ok(X:Cx):Prop where
 mod:Mod X.K X.mg X.base
 kind:X.env.scope.kind=.function
 glob:X.env.globals=mainGlobals
 blt:X.env.builtins=builtinsNs
 above:X.s₀.heap.objs.size<=X.env.locals
 inj:∀x y c,X.env.cells.lookup x=some c->X.env.cells.lookup y=some c->x=y
 has:∀x,(X.env.kindOf x=some .cell\/X.env.kindOf x=some .free)->∃c,X.env.cells.lookup x=some c
 cab:∀x c,X.fn x=true->X.env.cells.lookup x=some c->X.s₀.heap.objs.size<=c
 hd:X.calm=true->X.A.handled=none
 frames:X.A.frames=some X.stack
 stk:X.stack=X.outer\/(X.stack=X.env::X.outer/\X.env.frame=some X.env.locals)
 exf:∀b∈X.ex,b≠X.env.locals/\∀x c,X.env.cells.lookup x=some c->c≠b
 bs:∀b o,X.base.get? b=some o->X.s₀.heap.get? b=some o/\X.H₀ b=none
 bsz:X.base.objs.size<=X.s₀.heap.objs.size
 noex:∀b o,X.base.get? b=some o->b∉X.ex
 exfs:∀b∈X.ex,b∉X.fs
 funs:X.s₀.heap.FunFrames X.base X.outer
 frf:∀b∈X.fs,X.H₀ b=none
structure Inv(X:Cx)(ρ:List (Addr×Obj))(σ:List (Option V))(H:Hp)(s:Shared):Prop where
 ok:X.Ok
 os:s.os=X.s₀.os
 bare:AllBare s.gens
 base:Un X.fs X.ex X.H₀ H X.s₀.heap s.heap
 loc:∃m,s.heap.Ns X.env.locals m/\∀(i:Nat) (x:Str) (v:V),X.N[i]?=some x->σ[i]?=some (some v)->Vis X.env.scope x->∃u,RelV v u/\Mq X.env s.heap m x u
 cell:∀x c,X.env.cells.lookup x=some c->∃v,s.heap.IsCell c v
 free:H X.env.locals=none
 freeC:∀x c,X.env.cells.lookup x=some c->H c=none
 pin:∀p∈X.pn++ρ,s.heap.get? p.1=some p.2/\H p.1=none/\p.1≠X.env.locals/\p.1∉X.fs/\∀v,p.2.data≠.cell v
 hok:HOk X.prog X.w H s.heap
 len:σ.length=X.N.length
section
variable{σ:List (Option V)}  
def Cx.Ok.nofr(ok:X.Ok){o:Obj}(e:X.base.get? b=some o):b∉X.fs:=fun hb=>by
 have:=(ok.funs.mem hb).1;rw[e]at this;cases this
def Inv.bs(I:Inv X ρ σ H s):∀b o,X.base.get? b=some o->s.heap.get? b=some o/\H b=none:=fun b o e=>
 ⟨I.base.keep b o (I.ok.bs b o e).1 (I.ok.bs b o e).2 (I.ok.nofr e) (I.ok.noex b o e),I.base.free b o (I.ok.bs b o e).1 (I.ok.bs b o e).2 (I.ok.noex b o e)⟩
def Inv.bk(I:Inv X ρ σ H s):∀b o,X.base.get? b=some o->s.heap.get? b=some o:=fun b o e=>(I.bs b o e).1
def Inv.mod(I:Inv X ρ σ H s):Mod X.K X.mg X.base:=I.ok.mod
def Inv.kIn(I:Inv X ρ σ H s):X.K.In s.heap:=I.ok.mod.kin.keeps I.bk
def Inv.lt(I:Inv X ρ σ H s):X.env.locals<s.heap.objs.size:=let⟨_,hn,_⟩:=I.loc;hn.lt
def Inv.sz(I:Inv X ρ σ H s):X.s₀.heap.objs.size<=s.heap.objs.size:=zau I.ok.above (zaW I.lt)
def Inv.nofs(I:Inv X ρ σ H s)(h:s.heap.objs.size<=a):a∉X.fs:=fun hb=>by
 obtain⟨_,o,ho,_⟩:=I.ok.funs.mem hb;exact absurd (zag (zal ho) (zau I.sz h)) (zaI _)
def Inv.cne(I:Inv X ρ σ H s):∀x c,X.env.cells.lookup x=some c->c≠X.env.locals:=fun x c e z=>by
 obtain⟨v,o,ho,hd⟩:=I.cell x c e;obtain⟨m,⟨o',es,ep,ho',hd',_⟩,_⟩:=I.loc;rw[z,ho']at ho;cases ho;rw[hd']at hd;cases hd
theorem Inv.funs(I:Inv X ρ σ H s):s.heap.FunFrames X.base X.outer:=by
 have all:∀(l:List Env),(∀b∈frs l,b∈X.fs)->X.s₀.heap.FunFrames X.base l->s.heap.FunFrames X.base l:=by
  intro l
  induction l with
  |nil=>intro _ _;trivial
  |cons env r ih=>
   intro hs hl;obtain⟨hk,⟨L,o,hf,hn,ho,hd⟩,hr⟩:=hl;have hL:L∈X.fs:=hs L (by unfold frs;rw[List.filterMap_cons,hf];exact zaq);obtain⟨sl,e⟩:=I.base.slot L o ho (I.ok.frf L hL) hL fun z=>I.ok.exfs L z hL;exact⟨hk,⟨L,_,hf,hn,e,hd⟩,ih (fun b hb=>hs b (by unfold frs;rw[List.filterMap_cons,hf];exact zaj _ hb)) hr⟩
 exact all X.outer (fun _ hb=>hb) I.ok.funs
def Inv.stack(I:Inv X ρ σ H s):s.heap.FunFrames X.base X.stack:=by
 rcases I.ok.stk with e|⟨e,hf⟩
 ·rw[e];exact I.funs
 ·rw[e];obtain⟨m,hn,_⟩:=I.loc;refine .cons (by rw[I.ok.kind];decide) hf hn ?_ I.funs;exact Heap.get?_none_of_le (zau I.ok.bsz I.ok.above)
def Inv.stkSub(I:Inv X ρ σ H s):∀b∈frs X.stack,b∈X.env.locals::X.fs:=fun b hb=>by
 rcases I.ok.stk with e|⟨e,hf⟩
 ·rw[e]at hb;exact zaj _ hb
 ·rw[e]at hb;unfold frs at hb;rw[List.filterMap_cons,hf]at hb;exact hb
def Inv.stkFree(I:Inv X ρ σ H s):∀b∈frs X.stack,H b=none:=fun b hb=>by
 rcases zay.mp (I.stkSub b hb)with e|hb
 ·rw[e];exact I.free
 ·obtain⟨_,o,ho,_⟩:=I.ok.funs.mem hb;exact I.base.free b o ho (I.ok.frf b hb) fun z=>I.ok.exfs b z hb
def Inv.step(I:Inv X ρ σ H s)
  (hch:∀b∈ch,(b∈X.ex\/X.s₀.heap.objs.size<=b)/\b≠X.env.locals/\(∀x c,X.env.cells.lookup x=some c->c≠b)/\∀p∈X.pn++ρ,p.1≠b)
  (keep:∀b o,b≠X.env.locals->b∉X.fs->b∉ch->s.heap.get? b=some o->H b=none->h'.get? b=some o)
  (slot:∀b o,b≠X.env.locals->b∈X.fs->b∉ch->s.heap.get? b=some o->H b=none->∃sl,h'.get? b=some { o with slots:=sl }) (free:∀b o,b∉ch->s.heap.get? b=some o->H b=none->H' b=none)
  (there:∀b o,b∉ch->s.heap.get? b=some o->∃o',h'.get? b=some o')
  (tups:∀b xs,H b=some (.tup xs)->H' b=some (.tup xs)) (frzs:∀b o u,H b=some (.frz o u)->H' b=some (.frz o u)) (tbls:∀b ps,H b=some (.tbl ps)->∃more,H' b=some (.tbl (ps++more)))
  (ns:∀m,s.heap.Ns X.env.locals m->h'.Ns X.env.locals m) (hok:HOk X.prog X.w H' h') (hg:AllBare g'):
  Inv X ρ σ H' { s with heap:=h',gens:=g',drawn:=d',toks:=t' }:=by
 have neL:∀b o,X.s₀.heap.get? b=some o->b≠X.env.locals:=fun b o e=>zaw (zag (zal e) I.ok.above);have neC:∀b o,X.s₀.heap.get? b=some o->b∉X.ex->b∉ch:=fun b o e hx hb=>by
  rcases(hch b hb).1 with z|z
  ·exact hx z
  ·exact absurd (zag (zal e) z) (zaI _)
 have cellK:∀x c,X.env.cells.lookup x=some c->∀v,s.heap.IsCell c v->h'.IsCell c v:=fun x c e v ⟨o,ho,hd⟩=>by
  have nch:c∉ch:=fun z=>(hch c z).2.2.1 x c e rfl;by_cases hc:c∈X.fs
  ·obtain⟨sl,q⟩:=slot c o (I.cne x c e) hc nch ho (I.freeC x c e);exact⟨_,q,hd⟩
  ·exact⟨o,keep c o (I.cne x c e) hc nch ho (I.freeC x c e),hd⟩
 refine⟨I.ok,I.os,hg,⟨fun b o e n hb hx=>?_,fun b o e n hb hx=>?_,fun b o e n hx=>?_,fun b o e hx=>?_,fun b xs e=>tups b xs (I.base.tups b xs e),fun b o xs e=>frzs b o xs (I.base.frzs b o xs e),fun b ps e=>?_⟩,?_,fun x c e=>?_,?_,fun x c e=>?_,fun p hp=>?_,hok,I.len⟩
 ·exact keep b o (neL b o e) hb (neC b o e hx) (I.base.keep b o e n hb hx) (I.base.free b o e n hx)
 ·obtain⟨sl,e1⟩:=I.base.slot b o e n hb hx;obtain⟨sl',e2⟩:=slot b _ (neL b o e) hb (neC b o e hx) e1 (I.base.free b o e n hx);exact⟨sl',e2⟩
 ·obtain⟨o',e1⟩:=I.base.there b o e hx;exact free b o' (neC b o e hx) e1 (I.base.free b o e n hx)
 ·obtain⟨o',e1⟩:=I.base.there b o e hx;exact there b o' (neC b o e hx) e1
 ·obtain⟨m1,e1⟩:=I.base.tbls b ps e;obtain⟨m2,e2⟩:=tbls b _ e1;exact⟨m1++m2,by rw[e2,Array.append_assoc]⟩
 ·obtain⟨m,hn,hl⟩:=I.loc;refine⟨m,ns m hn,fun i x v e1 e2 e3=>?_⟩;obtain⟨u,r,l⟩:=hl i x v e1 e2 e3;refine⟨u,r,?_⟩;rcases l with l|⟨k,c,e,z⟩
  ·exact .inl l
  ·exact .inr ⟨k,c,e,cellK x c e _ z⟩
 ·obtain⟨v,z⟩:=I.cell x c e;exact⟨v,cellK x c e v z⟩
 ·obtain⟨m,⟨o,_,_,ho,_⟩,_⟩:=I.loc;exact free _ o (fun z=>(hch _ z).2.1 rfl) ho I.free
 ·obtain⟨v,o,ho,hd⟩:=I.cell x c e;exact free c o (fun z=>(hch c z).2.2.1 x c e rfl) ho (I.freeC x c e)
 ·obtain⟨e,n,ne,nf,d⟩:=I.pin p hp;have nch:p.1∉ch:=fun z=>(hch p.1 z).2.2.2 p hp rfl;exact⟨keep p.1 p.2 ne nf nch e n,free p.1 p.2 nch e n,ne,nf,d⟩
def Inv.un(I:Inv X ρ σ H s)(u:Un X.fs [] H H' s.heap h')(hok:HOk X.prog X.w H' h'):Inv X ρ σ H' { s with heap:=h',toks:=t' }:=by
 obtain⟨m,⟨o,es,ep,ho,r⟩,_⟩:=id I.loc;obtain⟨sl,hL⟩:=u.any ho I.free (by simp);exact I.step (g':=s.gens) (d':=s.drawn) (ch:=[]) (fun _ z=>nomatch z) (fun b o _ hb _ e n=>u.keep b o e n hb (by simp)) (fun b o _ hb _ e n=>u.slot b o e n hb (by simp)) (fun b o _ e n=>u.free b o e n (by simp)) (fun b o _ e=>u.there b o e (by simp)) u.tups u.frzs u.tbls (fun m' hm=>by
  obtain⟨o',es',ep',ho',r'⟩:=hm;rw[ho]at ho';cases ho';exact⟨_,es',ep',hL,r'⟩) hok I.bare
def Inv.call(I:Inv X ρ σ H s)(u:Un (frs X.stack) ch H H' s.heap h')(hok:HOk X.prog X.w H' h')(hg:AllBare g')
  (hch:∀b∈ch,(b∈X.ex\/X.s₀.heap.objs.size<=b)/\b≠X.env.locals/\(∀x c,X.env.cells.lookup x=some c->c≠b)/\∀p∈X.pn++ρ,p.1≠b):
  Inv X ρ σ H' { s with heap:=h',gens:=g',drawn:=d',toks:=t' }:=by
 obtain⟨m,⟨o,es,ep,ho,r⟩,_⟩:=id I.loc;obtain⟨sl,hL⟩:=u.any ho I.free fun z=>(hch _ z).2.1 rfl;exact I.step (ch:=ch) hch (fun b o hL hb hc e n=>u.keep b o e n (fun z=>(zay.mp (I.stkSub b z)).elim hL hb) hc) (fun b o _ _ hc e n=>u.any e n hc) (fun b o hc e n=>u.free b o e n hc) (fun b o hc e=>u.there b o e hc) u.tups u.frzs u.tbls (fun m' hm=>by
  obtain⟨o',es',ep',ho',r'⟩:=hm;rw[ho]at ho';cases ho';exact⟨_,es',ep',hL,r'⟩) hok hg
def Inv.turned{it:Addr}(I:Inv X ρ σ H s)(k:∀b o,b≠it->s.heap.get? b=some o->h'.get? b=some o)(hn:H it=none)(hL:it≠X.env.locals)
  (h1:it∈X.ex\/X.s₀.heap.objs.size<=it) (h2:∀x c,X.env.cells.lookup x=some c->c≠it) (h3:∀p∈X.pn++ρ,p.1≠it):Inv X ρ σ H { s with heap:=h',toks:=t' }:=by
 have nit:∀b u,H b=some u->b≠it:=fun b u e z=>by rw[z,hn]at e;cases e
 refine I.step (g':=s.gens) (d':=s.drawn) (ch:=[it]) (fun b hb=>?_) (fun b o _ _ hc e _=>k b o (fun z=>hc (by simp[z])) e) (fun b o _ _ hc e _=>⟨o.slots,k b o (fun z=>hc (by simp[z])) e⟩) (fun _ _ _ _ n=>n)
  (fun b o hc e=>⟨o,k b o (fun z=>hc (by simp[z])) e⟩) (fun _ _ e=>e) (fun _ _ _ e=>e) (fun b ps e=>⟨#[],by rw[e];simp⟩) (fun m hm=>?_) (fun b u e=>?_) I.bare
 ·have e:b=it:=by simpa using hb
  subst e;exact⟨h1,hL,h2,h3⟩
 ·obtain⟨o,es,ep,ho,r⟩:=hm;exact⟨o,es,ep,k _ o (Ne.symm hL) ho,r⟩
 ·refine(I.hok b u e).stay (fun c v hc q=>k c v ?_ q) (fun _ q=>q) fun _ _ q=>q;rcases hc with z|z
  ·rw[z];exact nit b u e
  ·exact nit c _ z
def Inv.tok(I:Inv X ρ σ H s)(t:Nat):Inv X ρ σ H { s with toks:=t }:=I.un (h':=s.heap) (t':=t) Un.refl I.hok
def Inv.kept{t':Nat}(I:Inv X ρ σ H s)(k:∀b u,s.heap.get? b=some u->h'.get? b=some u):Inv X ρ σ H { s with heap:=h',toks:=t' }:=I.un (Un.kept k) (I.hok.kept k)
def Inv.laid{a:Addr}{o:HO}{t':Nat}(I:Inv X ρ σ H s)(k:∀b u,s.heap.get? b=some u->h'.get? b=some u)(hp:s.heap.objs.size<=a)(new:ObjOk X.prog X.w (upd H a o) h' a o):
  Inv X ρ σ (upd H a o) { s with heap:=h',toks:=t' }:=I.un (Un.laid k hp (I.hok.fresh hp)) (I.hok.laid k hp new)
def Inv.write{x e:Addr}{o:HO}{t':Nat}(I:Inv X ρ σ H s)(mu:Mut (H x))(he:e=x\/H e=some (.own x))(k:∀b u,b≠e->s.heap.get? b=some u->h'.get? b=some u)(heo:∃u,h'.get? e=some u)
  (new:ObjOk X.prog X.w (upd H x o) h' x o):Inv X ρ σ (upd H x o) { s with heap:=h',toks:=t' }:=I.un (Un.write mu he k heo) (I.hok.write mu he k heo new)
def Inv.pins_of{pins':List (Addr×Obj)}(I:Inv X ρ σ H s)(h:∀p∈pins',s.heap.get? p.1=some p.2/\H p.1=none/\p.1≠X.env.locals/\p.1∉X.fs/\∀v,p.2.data≠.cell v):Inv X pins' σ H s:=
 ⟨I.ok,I.os,I.bare,I.base,I.loc,I.cell,I.free,I.freeC,fun p hp=>(zax.mp hp).elim (fun z=>I.pin p (zbg _ z)) (h p),I.hok,I.len⟩
def sA(hN:N.Nodup)(a:N[i]?=some x)(b:N[j]?=some x):i=j:=by
 obtain⟨h1,e1⟩:=zah.mp a;obtain⟨h2,e2⟩:=zah.mp b;exact(List.getElem_inj hN).mp (e1.trans e2.symm)
def qC{Q:Unit->Shared->Prop}(I:Inv X ρ σ H s)(hN:X.N.Nodup)(hi:X.N[i]?=some x)(hx:Loc X.env.scope x)(r:RelV v u)
  (h:∀s',Inv X ρ (σ.set i (some v)) H s'->(∃a,Heap.SameBut a s.heap s'.heap/\(a=X.env.locals\/X.env.cells.lookup x=some a))->Q () s') (hf:X.fn x=true\/X.env.scope.names.lookup x=some .local:=by first|exact .inl rfl|exact .inr rfl|assumption):wpAny M A (storeName X.env x u) Q E s:=by
 obtain⟨m,hn,hl⟩:=id I.loc;have hcls:(X.env.scope.kind==.class || (X.env.scope.kind==.module&&X.env.locals != X.env.globals))=false:=by rw[I.ok.kind];rfl
 have hiσ:i<σ.length:=by rw[I.len];exact(zah.mp hi).1
 have cne:=I.cne;have oC:∀{a:Addr} {h':Heap},(∃o,s.heap.get? a=some o/\H a=none)->Heap.SameBut a s.heap h'->HOk X.prog X.w H h':=fun {a h'} ha hs b ob e=>by
  obtain⟨_,_,hfree⟩:=ha;refine(I.hok b ob e).stay (fun c w' hc q=>(hs.2 c ?_).trans q) (fun _ q=>q) fun _ _ q=>q;rintro rfl;rcases hc with rfl|hc
  ·rw[hfree]at e;cases e
  ·rw[hfree]at hc;cases hc
 rcases hx with hk|hk
 ·refine wpAny_storeName_local hk hn (fun h' hn' hs=>?_) hcls;obtain⟨oL,_,_,hoL,_⟩:=id hn;refine h _ ⟨I.ok,I.os,I.bare,⟨fun b o e n hb hx=>?_,fun b o e n hb hx=>?_,I.base.free,fun b o e hx=>?_,I.base.tups,I.base.frzs,I.base.tbls⟩,⟨_,hn',fun j y v' e1 e2 e3=>?_⟩,fun y c e=>?_,I.free,I.freeC,fun p hp=>?_,oC ⟨oL,hoL,I.free⟩ hs,by simpa using I.len⟩ ⟨_,hs,.inl rfl⟩
  ·exact(hs.2 b (zaw (zag (zal e) I.ok.above))).trans (I.base.keep b o e n hb hx)
  ·obtain⟨sl,e1⟩:=I.base.slot b o e n hb hx;exact⟨sl,(hs.2 b (zaw (zag (zal e) I.ok.above))).trans e1⟩
  ·obtain⟨o',e1⟩:=I.base.there b o e hx;exact⟨o',(hs.2 b (zaw (zag (zal e) I.ok.above))).trans e1⟩
  ·by_cases hj:j=i
   ·subst hj;rw[hi]at e1;cases e1;rw[zaP hiσ]at e2;cases e2;exact⟨u,r,.inl ⟨hk,by simp⟩⟩
   ·rw[zaO (Ne.symm hj)]at e2;obtain⟨u',r',q⟩:=hl j y v' e1 e2 e3;refine⟨u',r',?_⟩;rcases q with⟨k,e⟩|⟨k,c,e,z⟩
    ·refine .inl ⟨k,?_⟩
     have:y≠x:=fun e=>hj (sA hN e1 (e▸hi));simp[this,e]
    ·exact .inr ⟨k,c,e,z.sameBut hs (cne y c e)⟩
  ·obtain⟨w',z⟩:=I.cell y c e;exact⟨w',z.sameBut hs (cne y c e)⟩
  ·obtain⟨e,n,ne,nf,d⟩:=I.pin p hp;exact⟨(hs.2 p.1 ne).trans e,n,ne,nf,d⟩
 ·have hfn:X.fn x=true:=by
   rcases hf with z|z
   ·exact z
   ·rw[z]at hk;cases hk
  obtain⟨c,hc⟩:=I.ok.has x (.inl hk);obtain⟨w',z⟩:=I.cell x c hc;refine wpAny_storeName_cell I.ok.kind hk hc z (fun h' hc' hs=>?_);obtain⟨oc,hoc,hocd⟩:=id z;refine h { s with heap:=h' } ⟨I.ok,I.os,I.bare,⟨fun b o e n hb hx=>?_,fun b o e n hb hx=>?_,I.base.free,fun b o e hx=>?_,I.base.tups,I.base.frzs,I.base.tbls⟩,⟨m,hn.sameBut hs (Ne.symm (cne x c hc)),fun j y v' e1 e2 e3=>?_⟩,fun y c' e=>?_,I.free,I.freeC,fun p hp=>?_,oC ⟨oc,hoc,I.freeC x c hc⟩ hs,by simpa using I.len⟩ ⟨c,hs,.inr hc⟩
  ·exact(hs.2 b (zaw (zag (zal e) (I.ok.cab x c hfn hc)))).trans (I.base.keep b o e n hb hx)
  ·obtain⟨sl,e1⟩:=I.base.slot b o e n hb hx;exact⟨sl,(hs.2 b (zaw (zag (zal e) (I.ok.cab x c hfn hc)))).trans e1⟩
  ·obtain⟨o',e1⟩:=I.base.there b o e hx;exact⟨o',(hs.2 b (zaw (zag (zal e) (I.ok.cab x c hfn hc)))).trans e1⟩
  ·by_cases hj:j=i
   ·subst hj;rw[hi]at e1;cases e1;rw[zaP hiσ]at e2;cases e2;exact⟨u,r,.inr ⟨.inl hk,c,hc,hc'⟩⟩
   ·rw[zaO (Ne.symm hj)]at e2;obtain⟨u',r',q⟩:=hl j y v' e1 e2 e3;refine⟨u',r',?_⟩;rcases q with q|⟨k,c',e,z'⟩
    ·exact .inl q
    ·refine .inr ⟨k,c',e,z'.sameBut hs ?_⟩;rintro rfl;exact hj (sA hN e1 (I.ok.inj _ _ _ e hc▸hi))
  ·by_cases hcc:c'=c
   ·subst hcc;exact⟨_,hc'⟩
   ·obtain⟨w2,z2⟩:=I.cell y c' e;exact⟨w2,z2.sameBut hs hcc⟩
  ·obtain⟨e,n,ne,nf,d⟩:=I.pin p hp;refine⟨(hs.2 p.1 ?_).trans e,n,ne,nf,d⟩;intro q;rw[q,hoc]at e;have q':oc=p.2:=zat e;exact d w' (by rw[<-q'];exact hocd)
def rN{Q:Unit->Shared->Prop}(I:Inv X ρ σ H s)(hN:X.N.Nodup)(hi:X.N[i]?=some x)(hx:Loc X.env.scope x)(r:RelV v u)
  (h:∀s',Inv X ρ (σ.set i (some v)) H s'->Q () s') (hf:X.fn x=true\/X.env.scope.names.lookup x=some .local:=by first|exact .inl rfl|exact .inr rfl|assumption):wpAny M A (storeName X.env x u) Q E s:=
 qC I hN hi hx r (fun s' I' _=>h s' I') hf
def Inv.call'(I:Inv X ρ σ H s)(ho:s'.os=s.os)(u:Un (frs X.stack) ch H H' s.heap s'.heap)(hok:HOk X.prog X.w H' s'.heap)(hg:AllBare s'.gens)
  (hch:∀b∈ch,(b∈X.ex\/X.s₀.heap.objs.size<=b)/\b≠X.env.locals/\(∀x c,X.env.cells.lookup x=some c->c≠b)/\∀p∈X.pn++ρ,p.1≠b):Inv X ρ σ H' s':=by
 obtain⟨h',g',d',t',o'⟩:=s';have e:o'=s.os:=ho;subst e;exact I.call (g':=g') (t':=t') (d':=d') u hok hg hch
end
abbrev XK:=Value->Option Addr->Hp->Prop
abbrev St:=List (Option V)
variable{σ:St}
abbrev VK:=V->Hp->Prop
abbrev TE:=St->Hp->VK->Prop
variable{ta tb t te:TE}
abbrev TT:=St->Hp->(Bool->Hp->Prop)->Prop
variable{tc:TT}
abbrev TA:=St->Hp->(List V->Hp->Prop)->Prop
structure Ends where
 nx:St->Hp->Prop
 rt:VK
 bk:St->Hp->Prop:=fun _ _=>False
 ct:St->Hp->Prop:=fun _ _=>False
abbrev TS:=Ends->St->Hp->Prop
def EP(X:Cx)(ρ:List (Addr×Obj))(σ:St)(Q:VK)(u:Value)(s':Shared):Prop:=∃v H',Inv X ρ σ H' s'/\RelV v u/\Q v H'
def TP(X:Cx)(ρ:List (Addr×Obj))(σ:St)(Q:Bool->Hp->Prop)(b:Bool)(s':Shared):Prop:=∃H',Inv X ρ σ H' s'/\Q b H'
def AP(X:Cx)(ρ:List (Addr×Obj))(σ:St)(Q:List V->Hp->Prop)(us:List Value)(s':Shared):Prop:=∃vs H',Inv X ρ σ H' s'/\Vals vs us/\Q vs H'
def SP(X:Cx)(ρ:List (Addr×Obj))(D:Ends)(f:Flow)(s':Shared):Prop:=
 match f with
 |.next=>∃σ' H',Inv X ρ σ' H' s'/\D.nx σ' H'
 |.brk=>∃σ' H',Inv X ρ σ' H' s'/\D.bk σ' H'
 |.cont=>∃σ' H',Inv X ρ σ' H' s'/\D.ct σ' H'
 |.ret u=>∃v σ' H',Inv X ρ σ' H' s'/\RelV v u/\D.rt v H'
def PE(X:Cx)(e:Expr)(t:TE):Prop:=
 ∀(ρ:List (Addr×Obj)) (s:Shared) (σ:St) (H:Hp) (Q:VK),Inv X ρ σ H s->t σ H Q->wpAny (model X.prog X.w) X.A (eval e X.env) (EP X ρ σ Q) X.xe s
def PT(X:Cx)(e:Expr)(t:TT):Prop:=
 ∀(ρ:List (Addr×Obj)) (s:Shared) (σ:St) (H:Hp) (Q:Bool->Hp->Prop),Inv X ρ σ H s->t σ H Q->wpAny (model X.prog X.w) X.A (isTrue e X.env (eval e X.env)) (TP X ρ σ Q) X.xe s
def PW(X:Cx)(e:Expr)(t:TT):Prop:=
 ∀(χ:Sem Value) (ρ:List (Addr×Obj)) (s:Shared) (σ:St) (H:Hp) (Q:Bool->Hp->Prop),Inv X ρ σ H s->t σ H Q->wpAny (model X.prog X.w) X.A (isTrue e X.env χ) (TP X ρ σ Q) X.xe s
def PW.pt{t:TT}(h:PW X e t):PT X e t:=h _
def PA(X:Cx)(es:List Expr)(t:TA):Prop:=
 ∀(pos:Pos) (ρ:List (Addr×Obj)) (s:Shared) (σ:St) (H:Hp) (Q:List V->Hp->Prop),Inv X ρ σ H s->t σ H Q->wpAny (model X.prog X.w) X.A (spliced (backTo pos (starEach es X.env))) (AP X ρ σ Q) X.xe s
def PS(X:Cx)(st:Stmt)(t:TS):Prop:=
 ∀(ρ:List (Addr×Obj)) (s:Shared) (σ:St) (H:Hp) (D:Ends),Inv X ρ σ H s->t D σ H->wpAny (model X.prog X.w) X.A (exec st X.env) (SP X ρ D) X.xe s
def PSs(X:Cx)(st:List Stmt)(t:TS):Prop:=
 ∀(ρ:List (Addr×Obj)) (s:Shared) (σ:St) (H:Hp) (D:Ends),Inv X ρ σ H s->t D σ H->wpAny (model X.prog X.w) X.A (execs st X.env) (SP X ρ D) X.xe s
def thn{α:Type}{t:Sem α}{Q Q':α->Shared->Prop}(h:wpAny M A t Q E s)(hQ:∀a s,Q a s->Q' a s):wpAny M A t Q' E s:=wpAny_mono h hQ fun _ _ x=>x
section
def gR(i:Nat):TE:=fun σ H Q=>∃v,σ[i]?=some (some v)/\Q v H
def tC(v:V):TE:=fun _ H Q=>Q v H
def dz(hN:X.N[i]?=some x)(hv:Vis X.env.scope x)(hd:(x==("__debug__":Str))=false:=by decide)(hcd:(x==("__classdict__":Str))=false:=by decide):PE X (.Name x pos) (gR i):=by
 intro ρ s σ H Q I h;obtain⟨v,e,h⟩:=h;obtain⟨m,hn,hl⟩:=I.loc;obtain⟨u,r,l⟩:=hl i x v hN e hv;have fin:EP X ρ σ Q u s:=⟨v,H,I,r,h⟩;rcases l with⟨hk,hm⟩|⟨hk,c,hc,hcell⟩
 ·exact wpAny_Name (wpAny_loadName_local I.ok.kind hk hn hm fin) hd
 ·rcases hk with hk|hk
  ·exact wpAny_Name (wpAny_loadName_cell I.ok.kind hk hc hcell fin) hd
  ·exact wpAny_Name (wpAny_loadName_free I.ok.kind hk hc hcell fin hcd) hd
def pe_int{i j pos}:PE X (.Constant (.int i) j pos) (tC (.int i)):=fun _ _ _ H _ I h=>wpAny_Constant_int ⟨.int i,H,I.tok _,⟨_,rfl⟩,h⟩
def pe_bl{b j pos}:PE X (.Constant (.bool b) j pos) (tC (.bl b)):=fun _ _ _ H _ I h=>Constant_bool ⟨.bl b,H,I,rfl,h⟩
def pe_non{j pos}:PE X (.Constant .none j pos) (tC .non):=fun _ _ _ H _ I h=>Constant_none ⟨.non,H,I,rfl,h⟩
def pe_str{x j pos}:PE X (.Constant (.str x) j pos) (tC (.str x)):=fun _ _ _ H _ I h=>Calls.Constant_str ⟨.str x,H,I.tok _,⟨_,rfl⟩,h⟩
def Gl(X:Cx)(x:Str):Prop:=X.env.kindOf x=some .globalImplicit
def Eo(I:Inv X ρ σ H s)(hg:Gl X x)(hm:X.mg x=some u)(h:Q u s)
  (hd:(x==("__debug__":Str))=false:=by decide):wpAny (model X.prog X.w) X.A (eval (.Name x pos) X.env) Q E s:=
 Calls.Name_function_global I.ok.kind hg (Calls.loadGlobal_global (by rw[I.ok.glob];exact I.mod.glob.keeps I.bk) hm h) hd
def eP(I:Inv X ρ σ H s)(hg:Gl X x)(hm:X.mg x=none)(hv:bootBuiltins x=some u)(h:Q u s)
  (hn:x≠"__name__":=by decide) (hd:(x==("__debug__":Str))=false:=by decide):wpAny (model X.prog X.w) X.A (eval (.Name x pos) X.env) Q E s:=by
 obtain⟨mb,h1,h2⟩:=I.mod.blt;exact Calls.Name_function_global I.ok.kind hg (Calls.loadGlobal_builtin (by rw[I.ok.glob];exact I.mod.glob.keeps I.bk) hm (by rw[I.ok.blt];exact h1.keeps I.bk) ((h2 x hn).trans hv) h) hd
def pP(hg:Gl X x)(hm:X.mg x=none)(hv:bootBuiltins x=some u)(r:RelV v u)(hn:x≠"__name__":=by decide)(hd:(x==("__debug__":Str))=false:=by decide):PE X (.Name x pos) (tC v):=
 fun _ _ _ H _ I h=>eP I hg hm hv ⟨v,H,I,r,h⟩ hn hd
variable{a b:Expr} 
def PC(X:Cx)(op:CmpOp)(a b:Expr)(t:TE):Prop:=
 ∀(ρ:List (Addr×Obj)) (s:Shared) (σ:St) (H:Hp) (Q:VK),Inv X ρ σ H s->t σ H Q ->
  wpAny (model X.prog X.w) X.A (eval a X.env) (fun v s₁=>wpAny (model X.prog X.w) X.A (eval b X.env) (fun u s₂=>wpAny (model X.prog X.w) X.A (compareOp op v u) (EP X ρ σ Q) X.xe s₂) X.xe s₁) X.xe s
def zQ(b:Expr)(h:op≠.In)(h2:op≠.NotIn):behindInMarks op b=false:=by
 have e1:(op==CmpOp.In)=false:=by cases op<;>first|rfl|exact absurd rfl h
 have e2:(op==CmpOp.NotIn)=false:=by cases op<;>first|rfl|exact absurd rfl h2
 cases b<;>simp[behindInMarks,e1,e2]
def tB(t:TE):TT:=fun σ H Q=>t σ H fun x H1=>∃c,x=.bl c/\Q c H1
def se(h:PC X op a b t)(h1:behindInMarks op b=false:=by first|exact zQ _ (by decide) (by decide)|rfl):PT X (.Compare a [op] [b] pos) (tB t):=by
 intro ρ s σ H Q I hw;refine wpAny_isTrue_Compare1 (thn (h ρ s σ H _ I hw) fun v s1 h1=>thn h1 fun u s2 h2=>thn h2 fun c s3 ⟨x,H1,I1,r1,q1⟩=>?_) h1;obtain⟨d,rfl,q⟩:=q1;cases r1;exact zbB ⟨H1,I1,q⟩
def Iu(h:PE X e t)(he:∀χ,isTrue e X.env χ=(do let v <-χ;standAt e.pos;holding [v] (truthy v)):=by intro _;rfl):PT X e (tB t):=by
 intro ρ s σ H Q I hw;refine isTrue_plain (thn (h ρ s σ H _ I hw) fun v s1 ⟨x,H1,I1,r1,q1⟩=>?_) (he _);obtain⟨d,rfl,q⟩:=q1;cases r1;exact zbB ⟨H1,I1,q⟩
variable{tA tB':TT}{rest:List Expr}
def HN(t u:TT):TT:=fun σ H Q=>t σ H fun c H1=>if c=true then u σ H1 Q else Q false H1
def tOr(t u:TT):TT:=fun σ H Q=>t σ H fun c H1=>if c=true then Q true H1 else u σ H1 Q
def HG(t:TT):TT:=fun σ H Q=>t σ H fun c H1=>Q (!c) H1
def DT(ha:PT X a tA):PW X (.BoolOp .And [a] pos) tA:=by
 intro wh ρ s σ H Q I h;refine isTrue_and (thn (ha ρ s σ H Q I h) fun c s1 e=>?_);cases c with
 |true=>exact isTrue_and_nil e
 |false=>exact e
def Ip(ha:PT X a tA):PW X (.BoolOp .Or [a] pos) tA:=by
 intro wh ρ s σ H Q I h;refine isTrue_or (thn (ha ρ s σ H Q I h) fun c s1 e=>?_);cases c with
 |false=>exact isTrue_or_nil e
 |true=>exact e
def Iq(ha:PT X a tA)(hb:PW X (.BoolOp .And (b::rest) pos) tB'):PW X (.BoolOp .And (a::b::rest) pos) (HN tA tB'):=by
 intro wh ρ s σ H Q I h;refine isTrue_and (thn (ha ρ s σ H _ I h) fun c s1 ⟨H1,I1,q1⟩=>?_);cases c with
 |true=>exact hb wh ρ s1 σ H1 Q I1 q1
 |false=>exact⟨H1,I1,q1⟩
def K2(ha:PT X a tA)(hb:PW X (.BoolOp .Or (b::rest) pos) tB'):PW X (.BoolOp .Or (a::b::rest) pos) (tOr tA tB'):=by
 intro wh ρ s σ H Q I h;refine isTrue_or (thn (ha ρ s σ H _ I h) fun c s1 ⟨H1,I1,q1⟩=>?_);cases c with
 |true=>exact⟨H1,I1,q1⟩
 |false=>exact hb wh ρ s1 σ H1 Q I1 q1
def Iv(ha:PT X a tA):PT X (.UnaryOp .Not a pos) (HG tA):=by
 intro ρ s σ H Q I h;exact isTrue_not (ha ρ s σ H (fun c H1=>Q (!c) H1) I h)
def C7(ta tb:TE):TE:=fun σ H Q=>ta σ H fun x H1=>∃c,x=.bl c/\if c=true then tb σ H1 Q else Q (.bl false) H1
def HF(ta tb:TE):TE:=fun σ H Q=>ta σ H fun x H1=>∃c,x=.bl c/\if c=true then Q (.bl true) H1 else tb σ H1 Q
def C2(ta:TE):TE:=fun σ H Q=>ta σ H fun x H1=>∃c,x=.bl c/\Q (.bl (!c)) H1
def IB{op}(h:PE X a t):PE X (.BoolOp op [a] pos) t:=fun ρ s σ H Q I hw=>BoolOp_one (h ρ s σ H Q I hw)
def IF(ha:PE X a ta)(hb:PE X (.BoolOp .And (b::rest) pos) tb):PE X (.BoolOp .And (a::b::rest) pos) (C7 ta tb):=by
 intro ρ s σ H Q I h;refine BoolOp_and (thn (ha ρ s σ H _ I h) fun v s1 ⟨x,H1,I1,r1,q1⟩=>?_);obtain⟨c,rfl,q1⟩:=q1;cases r1;refine zbB ?_;cases c with
 |true=>exact hb ρ s1 σ H1 Q I1 q1
 |false=>exact⟨.bl false,H1,I1,rfl,q1⟩
def K9(ha:PE X a ta)(hb:PE X (.BoolOp .Or (b::rest) pos) tb):PE X (.BoolOp .Or (a::b::rest) pos) (HF ta tb):=by
 intro ρ s σ H Q I h;refine BoolOp_or (thn (ha ρ s σ H _ I h) fun v s1 ⟨x,H1,I1,r1,q1⟩=>?_);obtain⟨c,rfl,q1⟩:=q1;cases r1;refine zbB ?_;cases c with
 |false=>exact hb ρ s1 σ H1 Q I1 q1
 |true=>exact⟨.bl true,H1,I1,rfl,q1⟩
def IC(ha:PE X a ta):PE X (.UnaryOp .Not a pos) (C2 ta):=by
 intro ρ s σ H Q I h;refine UnaryOp_ (thn (ha ρ s σ H _ I h) fun v s1 ⟨x,H1,I1,r1,q1⟩=>?_);obtain⟨c,rfl,q1⟩:=q1;cases r1;exact not_of (zbB ⟨.bl (!c),H1,I1,rfl,q1⟩)
end
def SqL(K:zb7)(H:Hp)(a:Addr)(xs:List V):Prop:=
 Rd H a (.lst xs) \/
  ∃(o:Obj) (its:Array Value) (n:Nat),K.lookup a=some o/\o.cls=.type "list"/\o.dict=none/\o.data=.seq its n/\its.size<=sizeLine/\Vals xs its.toList
def SqT(K:zb7)(H:Hp)(a:Addr)(xs:List V):Prop:=
 Rd H a (.tup xs) \/
  ∃(o:Obj) (its:Array Value) (n:Nat),K.lookup a=some o/\o.cls=.type "tuple"/\o.data=.seq its n/\its.size<=sizeLine/\Vals xs its.toList
def Mm:Value->Option V
 |.none=>some .non
 |.bool b=>some (.bl b)
 |.int i _=>some (.int i)
 |.str x _=>some (.str x)
 |.bytes b _=>some (.byt b)
 |.float b _=>some (.flt b)
 |.ref a=>some (.ref a)
 |.type n=>some (.ty n)
 |_=>none
def RelV.abs{x:V}(r:RelV x u):Mm u=some x:=by
 cases x with
 |non=>cases r;rfl
 |bl _=>cases r;rfl
 |int _=>obtain⟨t,rfl⟩:=r;rfl
 |str _=>obtain⟨t,rfl⟩:=r;rfl
 |byt _=>obtain⟨t,rfl⟩:=r;rfl
 |flt _=>obtain⟨t,rfl⟩:=r;rfl
 |ref _=>cases r;rfl
 |ty _=>cases r;rfl
def RelV.inj{x:V}(r:RelV x u)(q:RelV y u):x=y:=zat (r.abs.symm.trans q.abs)
theorem Vals.inj:∀{xs ys:List V} {us:List Value},Vals xs us->Vals ys us->xs=ys
 |_,_,_,.nil,.nil=>rfl
 |_,_,_,.cons r t,.cons r' t'=>by rw[r.inj r',Vals.inj t t']
section
variable{xs ys:List V}
def SqL.of(h:H a=some (.lst xs)):SqL K H a xs:=.inl (.inl h)
def SqT.of(h:H a=some (.tup xs)):SqT K H a xs:=.inl (.inl h)
def Inv.list(I:Inv X ρ σ H s)(h:SqL X.K H a xs):∃its:List Value,Vals xs its/\PlainL s.heap a its.toArray/\xs.length<=sizeLine:=by
 rcases h with h|⟨o,its,n,hk,hc,hd,hs,hz,r⟩
 ·obtain⟨z,its,n,r,e⟩:=h.ok I.hok;exact⟨its,r,⟨_,n,e,rfl,rfl,rfl⟩,z⟩
 ·refine⟨its.toList,r,⟨o,n,I.kIn a o hk,hc,hd,by simpa using hs⟩,?_⟩;have e:=r.length;simp only[zaY]at e;omega
def Inv.tuple(I:Inv X ρ σ H s)(h:SqT X.K H a xs):∃its:List Value,Vals xs its/\IsTup s.heap a its.toArray/\xs.length<=sizeLine:=by
 rcases h with h|⟨o,its,n,hk,hc,hs,hz,r⟩
 ·obtain⟨z,its,r,p⟩:=h.ok I.hok;exact⟨its,r,p.tup,z⟩
 ·refine⟨its.toList,r,⟨o,I.kIn a o hk,hc,n,by simpa using hs⟩,?_⟩;have e:=r.length;simp only[zaY]at e;omega
def Inv.list_inj(I:Inv X ρ σ H s)(h:SqL X.K H a xs)(h':SqL X.K H a ys):xs=ys:=by
 obtain⟨its,r,⟨o,n,e,_,_,d⟩,_⟩:=I.list h;obtain⟨its',r',⟨o',n',e',_,_,d'⟩,_⟩:=I.list h';rw[e]at e';cases e';rw[d]at d';injection d' with d1 _
 have:its=its':=by simpa using congrArg Array.toList d1
 subst this;exact r.inj r'
def Inv.tuple_inj(I:Inv X ρ σ H s)(h:SqT X.K H a xs)(h':SqT X.K H a ys):xs=ys:=by
 obtain⟨its,r,⟨o,e,_,n,d⟩,_⟩:=I.tuple h;obtain⟨its',r',⟨o',e',_,n',d'⟩,_⟩:=I.tuple h';rw[e]at e';cases e';rw[d]at d';injection d' with d1 _
 have:its=its':=by simpa using congrArg Array.toList d1
 subst this;exact r.inj r'
end
abbrev Cx.wish(X:Cx)(E:Value->Shared->Prop):Cx:={ X with xe:=E }
abbrev Cx.nox(X:Cx):Cx:=X.wish fun _ _=>False
def Cx.Ok.wish(ok:X.Ok)(E:Value->Shared->Prop):(X.wish E).Ok:=
 ⟨ok.mod,ok.kind,ok.glob,ok.blt,ok.above,ok.inj,ok.has,ok.cab,ok.hd,ok.frames,ok.stk,ok.exf,ok.bs,ok.bsz,ok.noex,ok.exfs,ok.funs,ok.frf⟩
def Cx.Ok.unwish(ok:(X.wish E).Ok):X.Ok:=
 ⟨ok.mod,ok.kind,ok.glob,ok.blt,ok.above,ok.inj,ok.has,ok.cab,ok.hd,ok.frames,ok.stk,ok.exf,ok.bs,ok.bsz,ok.noex,ok.exfs,ok.funs,ok.frf⟩
def Inv.wish(I:Inv X ρ σ H s)(E:Value->Shared->Prop):Inv (X.wish E) ρ σ H s:=⟨I.ok.wish E,I.os,I.bare,I.base,I.loc,I.cell,I.free,I.freeC,I.pin,I.hok,I.len⟩
def Inv.unwish(I:Inv (X.wish E) ρ σ H s):Inv X ρ σ H s:=⟨I.ok.unwish,I.os,I.bare,I.base,I.loc,I.cell,I.free,I.freeC,I.pin,I.hok,I.len⟩
theorem SP.unwish{D:Ends}{f:Flow}{s':Shared}(h:SP (X.wish E) ρ D f s'):SP X ρ D f s':=by
 cases f with
 |next=>obtain⟨σ',H',I,q⟩:=h;exact⟨σ',H',I.unwish,q⟩
 |brk=>obtain⟨σ',H',I,q⟩:=h;exact⟨σ',H',I.unwish,q⟩
 |cont=>obtain⟨σ',H',I,q⟩:=h;exact⟨σ',H',I.unwish,q⟩
 |ret u=>obtain⟨v,σ',H',I,r,q⟩:=h;exact⟨v,σ',H',I.unwish,r,q⟩
def PSs.nox{st:List Stmt}{t:TS}(h:PSs X.nox st t):PSs X st t:=fun ρ s σ H D I hw=>
 wpAny_mono (h ρ s σ H D (I.wish _) hw) (fun _ _ q=>q.unwish) fun _ _ z=>False.elim z
section
variable{st:Stmt}{rest:List Stmt}{t u:TS}  
def C3:TS:=fun D σ H=>D.nx σ H
def HD(t u:TS):TS:=fun D σ H=>t { D with nx:=u D } σ H
def pss_nil:PSs X [] C3:=fun _ _ σ H _ I h=>wpAny_execs_nil ⟨σ,H,I,h⟩
def zE(h1:PS X st t)(h2:PSs X rest u):PSs X (st::rest) (HD t u):=by
 intro ρ s σ H D I h;refine wpAny_execs_cons (thn (h1 ρ s σ H { D with nx:=u D } I h) fun f s1 q=>?_);cases f with
 |next=>
  obtain⟨σ',H',I',q⟩:=q;exact h2 ρ s1 σ' H' D I' q
 |ret v=>exact q
 |brk=>exact q
 |cont=>exact q
def DY(h1:PS X st t):PSs X [st] t:=by
 intro ρ s σ H D I h;refine wpAny_execs_cons (thn (h1 ρ s σ H D I h) fun f s1 q=>?_);cases f with
 |next=>exact wpAny_execs_nil q
 |ret v=>exact q
 |brk=>exact q
 |cont=>exact q
def Inv.quiet(I:Inv X ρ σ H s):interactive X.env=false:=by simp[interactive,I.ok.kind]
def C4(te:TE):TS:=fun D σ H=>te σ H fun _ H1=>D.nx σ H1
def DZ(he:PE X e te)(hs:swapsWith e none pos.line X.env=pure false:=by rfl):PS X (.Expr e pos) (C4 te):=by
 intro ρ s σ H D I h;exact wpAny_Expr_any (thn (he ρ s σ H _ I h) fun v s1 ⟨x,H1,I1,r1,q1⟩=>⟨σ,H1,I1,q1⟩) I.quiet hs
def HE(te:TE):TS:=fun D σ H=>te σ H D.rt
def Ix(he:PE X e te):PS X (.Return (some e) pos) (HE te):=by
 intro ρ s σ H D I h;exact wpAny_Return_some (thn (he ρ s σ H _ I h) fun v s1 ⟨x,H1,I1,r1,q1⟩=>⟨x,σ,H1,I1,r1,q1⟩)
def HJ(c:TT)(t u:TS):TS:=fun D σ H=>c σ H fun b H1=>if b=true then t D σ H1 else u D σ H1
def K6{a b:List Stmt}(hc:PT X c tc)(ha:PSs X a t)(hb:PSs X b u):PS X (.If c a b pos) (HJ tc t u):=by
 intro ρ s σ H D I h;refine wpAny_If (thn (hc ρ s σ H _ I h) fun d s1 ⟨H1,I1,q1⟩=>?_);cases d with
 |true=>exact ha ρ s1 σ H1 D I1 q1
 |false=>exact hb ρ s1 σ H1 D I1 q1
end
abbrev TG:=V->St->Hp->(St->Hp->Prop)->Prop
abbrev TGs:=List V->St->Hp->(St->Hp->Prop)->Prop
def PG(X:Cx)(target:Expr)(t:TG):Prop:=
 ∀(ρ:List (Addr×Obj)) (s:Shared) (σ:St) (H:Hp) (v:V) (u:Value) (Q:St->Hp->Prop),Inv X ρ σ H s->RelV v u->t v σ H Q ->
  wpAny (model X.prog X.w) X.A (assign target X.env u) (fun _ s'=>∃σ' H',Inv X ρ σ' H' s'/\Q σ' H') X.xe s
def PGs(X:Cx)(ts:List Expr)(t:TGs):Prop:=
 ∀(ρ:List (Addr×Obj)) (s:Shared) (σ:St) (H:Hp) (vs:List V) (us:List Value) (Q:St->Hp->Prop),Inv X ρ σ H s->Vals vs us->t vs σ H Q ->
  wpAny (model X.prog X.w) X.A (assignInOrder ((assignEach ts X.env).map (·.2)) us) (fun _ s'=>∃σ' H',Inv X ρ σ' H' s'/\Q σ' H') X.xe s
abbrev A2:=V->V->V->Hp->(Hp->Prop)->Prop
def KH(X:Cx)(t:A2):Prop:=
 ∀(ρ:List (Addr×Obj)) (s:Shared) (σ:St) (H:Hp) (o i v:V) (ov iv u:Value) (Q:Hp->Prop),Inv X ρ σ H s->RelV o ov->RelV i iv->RelV v u->t o i v H Q ->
  wpAny (model X.prog X.w) X.A (setItem ov iv u) (fun _ s'=>∃H',Inv X ρ σ H' s'/\Q H') X.xe s
def oH(i:Nat):TG:=fun v σ H Q=>Q (σ.set i (some v)) H
def D5(hN:X.N.Nodup)(hi:X.N[i]?=some x)(hx:Loc X.env.scope x)(hf:X.fn x=true\/X.env.scope.names.lookup x=some .local:=by first|exact .inl rfl|exact .inr rfl|assumption):PG X (.Name x pos) (oH i):=by
 intro ρ s σ H v u Q I r h;exact wpAny_assign_Name (rN I hN hi hx r (fun s' I'=>⟨_,H,I',h⟩) hf)
def Js:TGs:=fun vs σ H Q=>vs=[]/\Q σ H
def Dv(t:TG)(u:TGs):TGs:=fun vs σ H Q=>∃v r,vs=v::r/\t v σ H fun σ' H'=>u r σ' H' Q
def pgs_nil:PGs X [] Js:=by
 intro ρ s σ H vs us Q I r h;obtain⟨e,h⟩:=h;subst e;cases r;exact assignInOrder_nil ⟨σ,H,I,h⟩
def zJ{t:TG}{u:TGs}(h1:PG X e t)(h2:PGs X es u)
  (hs:(assignEach (e::es) X.env).map (·.2)=assign e X.env::(assignEach es X.env).map (·.2):=by rfl):PGs X (e::es) (Dv t u):=by
 intro ρ s σ H vs us Q I r h;obtain⟨v,vr,e1,h⟩:=h;subst e1;cases r with
 |cons r rr=>
  rw[hs];refine assignInOrder_cons (thn (h1 ρ s σ H _ _ _ I r h) fun _ s1 ⟨σ1,H1,I1,q1⟩=>?_);exact h2 ρ s1 σ1 H1 _ _ Q I1 rr q1
def Jr(K:zb7)(n:Nat)(t:TGs):TG:=fun v σ H Q=>∃a xs,v=.ref a/\SqT K H a xs/\xs.length=n/\t xs σ H Q
def IA{t:TGs}(hc:X.calm=true)(h:PGs X es t)
  (hn:(assignEach es X.env).length=n:=by rfl) (hst:(assignEach es X.env).findIdx? (·.1)=none:=by rfl):PG X (.Tuple es k pos) (Jr X.K n t):=by
 intro ρ s σ H v u Q I r hw;obtain⟨a,xs,e1,hq,hl,hw⟩:=hw;subst e1;cases r;obtain⟨its,rv,ht,hz⟩:=I.tuple hq;refine assign_Tuple_tuple (I.ok.hd hc) ht (by simp[hn,<-hl,rv.length]) hst fun h' hx=>?_;have I1:Inv X ρ σ H { s with heap:=h' }:=I.kept (t':=s.toks) fun b o e=>hx b o (zaw (zal e)) e;exact h ρ _ σ H xs _ Q I1 (by simpa using rv) hw
def As(to ti:TE)(t:A2):TG:=fun v σ H Q=>to σ H fun o H1=>ti σ H1 fun i H2=>t o i v H2 fun H3=>Q σ H3
def xK{o i:Expr}{to ti:TE}{t:A2}(ho:PE X o to)(hi:PE X i ti)(hs:KH X t)
  (ha:∀v,assign (.Subscript o i pos) X.env v=(do
   let ov <-holding [v] (eval o X.env);let iv <-holding [v,ov] (eval i X.env)
   standAt pos
   holding [v,ov,iv] (setItem ov iv v)
   release [v,ov,iv] []):=by intro _;rfl):PG X (.Subscript o i pos) (As to ti t):=by
 intro ρ s σ H v u Q I r h;rw[ha];refine zam (zb1 (thn (ho ρ s σ H _ I h) fun ov s1 ⟨x,H1,I1,r1,q1⟩=>?_));refine zam (zb1 (thn (hi ρ s1 σ H1 _ I1 q1) fun iv s2 ⟨y,H2,I2,r2,q2⟩=>?_));refine zam (wpAny_standAt (zam (zb1 (thn (hs ρ s2 σ H2 x y v ov iv u _ I2 r1 r2 r q2) fun _ s3 ⟨H3,I3,q3⟩=>?_))));exact wpAny_release ⟨σ,H3,I3,q3⟩
def pH(te:TE)(g:TG):TS:=fun D σ H=>te σ H fun x H1=>g x σ H1 D.nx
def xH{g:TG}(he:PE X e te)(hg:PG X tg g)(hs:swapsWithSole [tg] e pos.line X.env=pure false:=by rfl)(hw:swappedStores [tg] e X.env=pure none:=by rfl)
  (h1:(assignEach [tg] X.env).map (·.2)=[assign tg X.env]:=by rfl):PS X (.Assign [tg] e pos) (pH te g):=by
 intro ρ s σ H D I h;refine wpAny_Assign_stores (thn (he ρ s σ H _ I h) fun v s1 ⟨x,H1,I1,r1,q1⟩=>?_) hs hw;rw[h1];exact thn (hg ρ s1 σ H1 x v _ I1 r1 q1) fun _ s2 q=>q
def Iw{pos':Pos}(hN:X.N.Nodup)(hi:X.N[i]?=some x)(hx:Loc X.env.scope x)(he:PE X e te)(hs:swapsWith e (some (.Name x pos')) pos.line X.env=pure false:=by rfl)(hf:X.fn x=true\/X.env.scope.names.lookup x=some .local:=by first|exact .inl rfl|exact .inr rfl|assumption):
  PS X (.Assign [.Name x pos'] e pos) (pH te (oH i)):=by
 intro ρ s σ H D I h;refine wpAny_Assign_Name (thn (he ρ s σ H _ I h) fun v s1 ⟨y,H1,I1,r1,q1⟩=>?_) hs;exact rN I1 hN hi hx r1 (fun s2 I2=>⟨_,H1,I2,q1⟩) hf
def xr(c:TT)(tb:TS):TS:=fun D σ H=>∃W:Nat->St->Hp->Prop,(∃m,W m σ H)/\∀m σ H,W m σ H ->
 c σ H fun b H1=>if b=true then ∃N:St->Hp->Prop,(∀σ' H',N σ' H'->∃m',m'<m/\W m' σ' H')/\tb { D with nx:=N,ct:=N,bk:=D.nx } σ H1 else D.nx σ H1
def zF{tb:TS}(hp:PassesOwn (model X.prog X.w) X.A X.env X.xe)(hc:PT X c tc)(hb:PSs X body tb):PS X (.While c body [] pos) (xr tc tb):=by
 intro ρ s σ H D I h;obtain⟨W,⟨m0,w0⟩,turn⟩:=h;refine wpAny_While (codeAny_whileLoop (fun n s'=>∃σ' H',Inv X ρ σ' H' s'/\W n σ' H') ?_ m0 ⟨σ,H,I,w0⟩);rintro n s1 ⟨σ1,H1,I1,w1⟩;refine wpAny_passesOwn hp (thn (hc ρ s1 σ1 H1 _ I1 (turn n σ1 H1 w1)) fun b s2 ⟨H2,I2,q2⟩=>?_);cases b with
 |true=>
  obtain⟨N,hN,q2⟩:=q2;rw[if_pos rfl];refine wpAny_passesOwn hp (thn (hb ρ s2 σ1 H2 _ I2 q2) fun f s3 q3=>?_);cases f with
  |next=>
   obtain⟨σ3,H3,I3,n3⟩:=q3;obtain⟨m',hm,w3⟩:=hN σ3 H3 n3;exact⟨m',hm,σ3,H3,I3,w3⟩
  |cont=>
   obtain⟨σ3,H3,I3,n3⟩:=q3;obtain⟨m',hm,w3⟩:=hN σ3 H3 n3;exact⟨m',hm,σ3,H3,I3,w3⟩
  |brk=>exact q3
  |ret v=>exact q3
 |false=>
  rw[if_neg zbo];exact wpAny_execs_nil ⟨σ1,H2,I2,q2⟩
structure It where
 go:Nat->Hp->Prop
 yld:Nat->Hp->V->Hp->Prop
 stop:Nat->Hp->Prop
def gZ(X:Cx)(ρ:List (Addr×Obj))(H:Hp)(b:Addr):Prop:=
 H b=none/\b≠X.env.locals/\b∉X.fs/\(b∈X.ex\/X.s₀.heap.objs.size<=b)/\(∀x c,X.env.cells.lookup x=some c->c≠b)/\∀p∈X.pn++ρ,p.1≠b
def Inv.fpOk(I:Inv X ρ σ H s)(hb:s.heap.objs.size<=b)(hn:H' b=none):gZ X ρ H' b:=by
 refine⟨hn,Nat.ne_of_gt (zag I.lt hb),I.nofs hb,.inr (zau I.sz hb),fun x c e z=>?_,fun p hp z=>?_⟩
 ·obtain⟨v,q⟩:=I.cell x c e;exact absurd (zag q.lt (by rw[z];exact hb)) (zaI _)
 ·exact absurd (zag (zal (I.pin p hp).1) (by rw[z];exact hb)) (zaI _)
structure Turn(P:Program)(w:World)(K:zb7)(tg:Expr)(J:It)(fp:List Addr)(it:Addr)(tn:Nat->Heap->Prop):Prop where
 mem:it∈fp
 obj:∀i h,tn i h->∀b∈fp,∃o,h.get? b=some o/\∀v,o.data≠.cell v
 keep:∀i h h',tn i h->(∀b∈fp,∀o,h.get? b=some o->h'.get? b=some o)->tn i h'
 item:∀(X:Cx),X.prog=P->X.w=w->X.K=K->X.calm=true->∀(i:Nat) (ρ:List (Addr×Obj)) (s:Shared) (σ:St) (H:Hp) (E:Value->Shared->Prop),Inv X ρ σ H s->(∀b∈fp,gZ X ρ H b)->tn i s.heap->J.go i H ->
  wpAny (model P w) X.A (pyNext (.ref it)) (fun r s1=>∃u,r=some u /\
   wpAny (model P w) X.A (letOwnedTupleGo tg (.ref it) u) (fun _ s2=>∃x H',Inv X ρ σ H' s2/\RelV x u/\J.yld i H x H'/\tn (i+1) s2.heap/\∀b∈fp,H' b=none) E s1) E s
 done:∀(X:Cx),X.prog=P->X.w=w->X.K=K->X.calm=true->∀(i:Nat) (ρ:List (Addr×Obj)) (s:Shared) (σ:St) (H:Hp) (E:Value->Shared->Prop),Inv X ρ σ H s->(∀b∈fp,gZ X ρ H b)->tn i s.heap->J.stop i H ->
  wpAny (model P w) X.A (pyNext (.ref it)) (fun r s1=>r=none/\Inv X ρ σ H s1) E s
 self:∀(A:Around) (i:Nat) (s:Shared) (Q:Value->Shared->Prop) (E:Value->Shared->Prop),tn i s.heap->Q (.ref it) s->wpAny (model P w) A (pyIter (.ref it)) Q E s
abbrev TI:=St->Hp->(It->Hp->Prop)->Prop
def PIE(X:Cx)(ρ:List (Addr×Obj))(σ:St)(tg:Expr)(R:It->Hp->Prop)(itv:Value)(s2:Shared):Prop:=
 ∃(it:Addr) (fp:List Addr) (tn:Nat->Heap->Prop) (J:It) (H':Hp),itv=.ref it/\Inv X ρ σ H' s2/\Turn X.prog X.w X.K tg J fp it tn/\tn 0 s2.heap/\(∀b∈fp,gZ X ρ H' b)/\R J H'
def PI(X:Cx)(tg iter:Expr)(wi:TI):Prop:=
 ∀(ρ:List (Addr×Obj)) (s:Shared) (σ:St) (H:Hp) (R:It->Hp->Prop),Inv X ρ σ H s->wi σ H R ->
  wpAny (model X.prog X.w) X.A (eval iter X.env) (fun v s1=>wpAny (model X.prog X.w) X.A (pyIter v) (PIE X ρ σ tg R) X.xe s1) X.xe s
def oG{it:Addr}{o:Obj}{n:String}{vs:Array Value}{Q:Unit->Shared->Prop}(ho:s.heap.get? it=some o)(hc:o.cls=.type n)(hd:o.data=.fields vs)
  (hn:["enumerate","zip","dict_itemiterator","dict_reverseitemiterator","odict_iterator","itertools.zip_longest","itertools.pairwise"].contains n=false) (hQ:Q () s):wpAny M A (letOwnedTupleGo tg (.ref it) u) Q E s:=by
 unfold letOwnedTupleGo;cases tg<;>first
  |exact zaT hQ
  | (cases u<;>first
    |exact zaT hQ
    | (refine zam (wpAny_load ho ?_)
       rw[hc,hd];show wpAny M A (if(["enumerate","zip","dict_itemiterator","dict_reverseitemiterator","odict_iterator","itertools.zip_longest","itertools.pairwise"].contains n&&vs[0]?==some (rawInt _))=true then _ else _) Q E s;rw[if_neg (by intro h;rw[hn,Bool.false_and]at h;cases h)];exact zaT hQ))
def Itl(K:zb7)(a:Addr):It:=
 ⟨fun i H=>∃xs x,SqL K H a xs/\xs[i]?=some x,fun i H x H'=>H'=H/\∀xs,SqL K H a xs->xs[i]?=some x,fun i H=>∃xs,SqL K H a xs/\xs.length<=i⟩
def Itt(K:zb7)(a:Addr):It:=
 ⟨fun i H=>∃xs x,SqT K H a xs/\xs[i]?=some x,fun i H x H'=>H'=H/\∀xs,SqT K H a xs->xs[i]?=some x,fun i H=>∃xs,SqT K H a xs/\xs.length<=i⟩
def Itr(lo:Int)(n:Nat):It:=⟨fun i _=>i<n,fun i H x H'=>H'=H/\x=.int (lo+i),fun i _=>n<=i⟩
def xl(a it:Addr):Turn P w K tg (Itl K a) [it] it (fun i h=>h.IsListIter it a i) where
 mem:=by simp
 obj:=fun i h st b hb=>by
  have e:b=it:=by simpa using hb
  subst e;obtain⟨o,e,c,d⟩:=st;exact⟨o,e,fun v z=>by rw[d]at z;cases z⟩
 keep:=fun i h h' st k=>st.at fun o e=>k it (by simp) o e
 item:=by
  intro X hP hw hK hc i ρ s σ H E I hf st hg;subst hP hw hK;obtain⟨xs,x,hq,hx⟩:=hg;obtain⟨its,rv,p,hz⟩:=I.list hq;obtain⟨u,hu,ru⟩:=rv.get hx;obtain⟨f0,f1,f2,f3,f4,f5⟩:=hf it (by simp);refine wpAny_pyNext_list_item st p.isList (x:=u) (by simpa using hu) fun h' st' sb=>?_;have I1:Inv X ρ σ H { s with heap:=h' }:=I.turned (t':=s.toks) (fun b o hb e=>(sb.2 b hb).trans e) f0 f1 f3 f4 f5;obtain⟨o,e,c,d⟩:=id st';exact⟨u,rfl,oG (s:={ s with heap:=h' }) e c d (by decide) ⟨x,H,I1,ru,⟨rfl,fun ys hy=>by rw[I.list_inj hy hq];exact hx⟩,st',fun b hb=>(hf b hb).1⟩⟩
 done:=by
  intro X hP hw hK hc i ρ s σ H E I hf st hg;subst hP hw hK;obtain⟨xs,hq,hx⟩:=hg;obtain⟨its,rv,p,hz⟩:=I.list hq;obtain⟨f0,f1,f2,f3,f4,f5⟩:=hf it (by simp);have hl:=rv.length;exact wpAny_pyNext_list_end (I.ok.hd hc) st p.isList (by simp;omega) fun h' eb=>⟨rfl,I.turned (t':=s.toks) (fun b o hb e=>eb b o hb e) f0 f1 f3 f4 f5⟩
 self:=fun _ _ _ _ _ st h=>wpAny_pyIter_listiter st h
def vS(a it:Addr):Turn P w K tg (Itt K a) [it] it (fun i h=>h.IsTupleIter it a i) where
 mem:=by simp
 obj:=fun i h st b hb=>by
  have e:b=it:=by simpa using hb
  subst e;obtain⟨o,e,c,d⟩:=st;exact⟨o,e,fun v z=>by rw[d]at z;cases z⟩
 keep:=fun i h h' st k=>st.at fun o e=>k it (by simp) o e
 item:=by
  intro X hP hw hK hc i ρ s σ H E I hf st hg;subst hP hw hK;obtain⟨xs,x,hq,hx⟩:=hg;obtain⟨its,rv,p,hz⟩:=I.tuple hq;obtain⟨u,hu,ru⟩:=rv.get hx;obtain⟨f0,f1,f2,f3,f4,f5⟩:=hf it (by simp);refine wpAny_pyNext_tuple_item st (show s.heap.IsTuple a its.toArray from p) (x:=u) (by simpa using hu) fun h' st' sb=>?_;have I1:Inv X ρ σ H { s with heap:=h' }:=I.turned (t':=s.toks) (fun b o hb e=>(sb.2 b hb).trans e) f0 f1 f3 f4 f5;obtain⟨o,e,c,d⟩:=id st';exact⟨u,rfl,oG (s:={ s with heap:=h' }) e c d (by decide) ⟨x,H,I1,ru,⟨rfl,fun ys hy=>by rw[I.tuple_inj hy hq];exact hx⟩,st',fun b hb=>(hf b hb).1⟩⟩
 done:=by
  intro X hP hw hK hc i ρ s σ H E I hf st hg;subst hP hw hK;obtain⟨xs,hq,hx⟩:=hg;obtain⟨its,rv,p,hz⟩:=I.tuple hq;obtain⟨f0,f1,f2,f3,f4,f5⟩:=hf it (by simp);have hl:=rv.length;exact wpAny_pyNext_tuple_end (I.ok.hd hc) st (show s.heap.IsTuple a its.toArray from p) (by simp;omega) fun h' eb=>⟨rfl,I.turned (t':=s.toks) (fun b o hb e=>eb b o hb e) f0 f1 f3 f4 f5⟩
 self:=fun _ _ _ _ _ st h=>wpAny_pyIter_tupleiter st h
def vT(it:Addr)(lo:Int)(n:Nat):Turn P w K tg (Itr lo n) [it] it (fun i h=>IsRangeIter h it (lo+(i:Nat)*1) ((n:Int)-(i:Nat)) 1) where
 mem:=by simp
 obj:=fun i h st b hb=>by
  have e:b=it:=by simpa using hb
  subst e;exact⟨_,st,fun v z=>by
   have z':Data.fields _=Data.cell v:=z;cases z'⟩
 keep:=fun i h h' st k=>k it (by simp) _ st
 item:=by
  intro X hP hw hK hc i ρ s σ H E I hf st hg;subst hP hw hK;obtain⟨f0,f1,f2,f3,f4,f5⟩:=hf it (by simp);have W:=Walks.range (prog:=X.prog) (w:=X.w) (I.ok.hd hc) it lo 1 n;refine W.item i s _ _ hg st fun v h' tk hv st' kk=>?_;obtain⟨t,rfl⟩:=hv;have I1:Inv X ρ σ H { s with heap:=h',toks:=tk }:=I.turned (fun b o hb e=>kk b o (by simpa using hb) e) f0 f1 f3 f4 f5;refine⟨_,rfl,oG (s:={ s with heap:=h',toks:=tk }) (n:="range_iterator") st' rfl rfl (by decide) ⟨.int (lo+i),H,I1,⟨t,?_⟩,⟨rfl,rfl⟩,st',fun b hb=>(hf b hb).1⟩⟩;rw[Int.mul_one]
 done:=by
  intro X hP hw hK hc i ρ s σ H E I hf st hg;subst hP hw hK;obtain⟨f0,f1,f2,f3,f4,f5⟩:=hf it (by simp);exact wpAny_pyNext_range_end (I.ok.hd hc) st (by have:n<=i:=hg;omega) fun h' eb=>⟨rfl,I.turned (t':=s.toks) (fun b o hb e=>eb b o hb e) f0 f1 f3 f4 f5⟩
 self:=fun _ _ _ _ _ st h=>wpAny_pyIter_rangeiter st h
def zB{R:It->Hp->Prop}{lo hi:Int}{t u v:Tok}{tk:Nat}(I:Inv X ρ σ H s)(h1:-(2 ^ 62)<=lo)(h2:lo<2 ^ 62)(h3:-(2 ^ 62)<=hi)(h4:hi<2 ^ 62)
  (q:R (Itr lo (hi-lo).toNat) H):wpAny (model X.prog X.w) X.A (pyIter (.ref s.heap.objs.size)) (PIE X ρ σ tg R) E { s with heap:=s.heap.push { cls:=.type "range",data:=.fields #[.int lo t,.int hi u,.int 1 v] },toks:=tk }:=by
 refine wpAny_pyIter_range (IsRange.new ..) (small_one h1 h2 h3 h4) ?_;have I1:Inv X ρ σ H { s with heap:=s.heap.push { cls:=.type "range",data:=.fields #[.int lo t,.int hi u,.int 1 v] },toks:=tk }:=I.kept fun b o e=>zaf _ e;refine⟨(s.heap.push { cls:=.type "range",data:=.fields #[.int lo t,.int hi u,.int 1 v] }).objs.size,[(s.heap.push { cls:=.type "range",data:=.fields #[.int lo t,.int hi u,.int 1 v] }).objs.size],_,_,H,rfl,
  I1.kept (t':=tk) fun b o e=>zaf _ e,vT _ lo (hi-lo).toNat,?_,fun b hb=>?_,q⟩
 ·have e1:lo+((0:Nat):Int)*1=lo:=by simp
  have e2:(((hi-lo).toNat:Nat):Int)-((0:Nat):Int)=Builtin.Range.rangeSize lo hi 1:=by rw[rangeSize_one];split<;>omega
  show IsRangeIter _ _ (lo+((0:Nat):Int)*1) ((((hi-lo).toNat:Nat):Int)-((0:Nat):Int)) 1;rw[e1,e2];exact zan _ rfl
 ·have e:b=(s.heap.push { cls:=.type "range",data:=.fields #[.int lo t,.int hi u,.int 1 v] }).objs.size:=by simpa using hb
  subst e;exact I1.fpOk (zav _) (I1.hok.fresh (zav _))
def Ln(ta:TA):TI:=fun σ H R=>ta σ H fun vs H1=>∃j:Int,vs=[.int j]/\-(2 ^ 62)<=j/\j<2 ^ 62/\R (Itr 0 j.toNat) H1
def xJ{a:Expr}{ta:TA}(hg:Gl X "range")(hm:X.mg "range"=none)(ha:PA X [a] ta)(hs:starEach [a] X.env=[(false,eval a X.env)]:=by rfl):PI X tg (.Call (.Name "range" p) [a] [] pos) (Ln ta):=by
 intro ρ s σ H R I h;refine Call_ (eP I hg hm boot_range (PyProof.Rows.callWith_type1 (thn (ha pos ρ s σ H _ I h) fun us s1 ⟨vs,H1,I1,r1,q1⟩=>?_) hs rfl));obtain⟨j,e,q1,q2,q⟩:=q1;subst e;cases r1 with
 |cons r rr=>
  cases rr;obtain⟨t,rfl⟩:=r;exact call_range_1 (zB I1 (by omega) (by omega) q1 q2 (by simpa using q))
def HK(wi:TI)(g:TG)(tb:TS):TS:=fun D σ H=>wi σ H fun J H1=>∃W:Nat->Nat->St->Hp->Prop,(∃m,W 0 m σ H1)/\∀i m σ H,W i m σ H ->
 (J.stop i H/\D.nx σ H)\/(J.go i H/\∃N:St->Hp->Prop,(∀σ' H',N σ' H'->∃m',m'<m/\W (i+1) m' σ' H')/\∀x H',J.yld i H x H'->g x σ H' fun σ2 H2=>tb { D with nx:=N,ct:=N,bk:=D.nx } σ2 H2)
def k8(fp:List Addr)(h:Heap):List (Addr×Obj):=fp.filterMap fun b=>(h.get? b).map fun o=>(b,o)
def h9{o:Obj}(hb:b∈fp)(e:h.get? b=some o):(b,o)∈k8 fp h:=List.mem_filterMap.mpr ⟨b,hb,by rw[e];rfl⟩
def xT{p:Addr×Obj}(hp:p∈k8 fp h):p.1∈fp/\h.get? p.1=some p.2:=by
 obtain⟨b,hb,e⟩:=List.mem_filterMap.mp hp;cases q:h.get? b with
 |none=>rw[q]at e;cases e
 |some o=>
  rw[q]at e;have e':(b,o)=p:=zat e;subst e';exact⟨hb,q⟩
def Inv.pinned(I:Inv X ρ σ H s)(hf:∀b∈fp,gZ X ρ H b)(ho:∀b∈fp,∃o,s.heap.get? b=some o/\∀v,o.data≠.cell v):Inv X (ρ++k8 fp s.heap) σ H s:=
 I.pins_of fun p hp=>(zax.mp hp).elim (fun z=>I.pin p (zbh _ z)) fun z=>by
  obtain⟨hb,e⟩:=xT z;obtain⟨f0,f1,f2,_⟩:=hf p.1 hb;obtain⟨o,e',d⟩:=ho p.1 hb;rw[e]at e';cases e';exact⟨e,f0,f1,f2,d⟩
def Inv.unpinned{pl:List (Addr×Obj)}(I:Inv X (ρ++pl) σ H s):Inv X ρ σ H s:=I.pins_of fun p hp=>I.pin p (zbh _ (zbg _ hp))
def Iy{iter:Expr}{wi:TI}{g:TG}{tb:TS}(hp:PassesOwn (model X.prog X.w) X.A X.env X.xe)(hc:X.calm=true)(hi:PI X tg iter wi)(hg:PG X tg g)(hb:PSs X body tb)
  (hs:∀x,foldedSetIterable iter X.env x=pure x:=by intro _;rfl):PS X (.For tg iter body [] pos) (HK wi g tb):=by
 intro ρ s σ H D I h;refine wpAny_For (thn (hi ρ s σ H _ I h) fun v s1 h1=>thn h1 fun itv s2 h2=>?_) hs;obtain⟨it,fp,tn,J,H2,e,I2,T,st2,f2,W,⟨m0,w0⟩,turn⟩:=h2;subst e;have stat:∀{H':Hp},(∀b∈fp,H' b=none)->∀b∈fp,gZ X ρ H' b:=fun hn b hb=>⟨hn b hb,(f2 b hb).2⟩;refine codeAny_forLoop_any (fun n s'=>∃i σ' H',Inv X ρ σ' H' s'/\tn i s'.heap/\(∀b∈fp,H' b=none)/\W i n σ' H') ?_ m0 ⟨0,σ,H2,I2,st2,fun b hb=>(f2 b hb).1,w0⟩;rintro n s3 ⟨i,σ3,H3,I3,st3,fr3,w3⟩;rcases turn i n σ3 H3 w3 with⟨stop,qn⟩|⟨go,N,hN,step⟩
 ·refine wpAny_passesOwn hp (thn (T.done X rfl rfl rfl hc i ρ s3 σ3 H3 X.xe I3 (stat fr3) st3 stop) fun r s4 ⟨hr,I4⟩=>?_);subst hr;exact wpAny_execs_nil ⟨σ3,H3,I4,qn⟩
 ·refine wpAny_passesOwn hp (thn (T.item X rfl rfl rfl hc i ρ s3 σ3 H3 X.xe I3 (stat fr3) st3 go) fun r s4 ⟨u,hr,h4⟩=>?_);subst hr;refine wpAny_passesOwn hp (thn h4 fun _ s5 ⟨x,H5,I5,r5,y5,st5,fr5⟩=>?_);have I5':=I5.pinned (stat fr5) (T.obj _ _ st5);refine wpAny_passesOwn hp (thn (hg _ s5 σ3 H5 x u _ I5' r5 (step x H5 y5)) fun _ s6 ⟨σ6,H6,I6,q6⟩=>?_);refine wpAny_passesOwn hp (thn (hb _ s6 σ6 H6 _ I6 q6) fun f s7 q7=>?_);have again:∀{σ7:St} {H7:Hp},Inv X (ρ++k8 fp s5.heap) σ7 H7 s7->N σ7 H7->∃m,m<n/\∃i σ' H',Inv X ρ σ' H' s7/\tn i s7.heap/\(∀b∈fp,H' b=none)/\W i m σ' H':=fun {σ7 H7} I7 n7=>by
   obtain⟨m',hm,w7⟩:=hN σ7 H7 n7;refine⟨m',hm,i+1,σ7,H7,I7.unpinned,T.keep _ _ _ st5 fun b hb o e=>(I7.pin (b,o) (zbh _ (zbh _ (h9 hb e)))).1,fun b hb=>?_,w7⟩;obtain⟨o,e,d⟩:=T.obj _ _ st5 b hb;exact(I7.pin (b,o) (zbh _ (zbh _ (h9 hb e)))).2.1
  cases f with
  |next=>obtain⟨σ7,H7,I7,n7⟩:=q7;exact again I7 n7
  |cont=>obtain⟨σ7,H7,I7,n7⟩:=q7;exact again I7 n7
  |brk=>obtain⟨σ7,H7,I7,q7⟩:=q7;exact⟨σ7,H7,I7.unpinned,q7⟩
  |ret v=>obtain⟨x7,σ7,H7,I7,r7,q7⟩:=q7;exact⟨x7,σ7,H7,I7.unpinned,r7,q7⟩
abbrev R2:=V->V->Hp->VK->Prop
variable{r:R2}
def OpR(X:Cx)(f:Value->Value->Sem Value)(r:R2):Prop:=
 ∀(ρ:List (Addr×Obj)) (s:Shared) (σ:St) (H:Hp) (x y:V) (v u:Value) (Q:VK),Inv X ρ σ H s->RelV x v->RelV y u->r x y H Q ->
  wpAny (model X.prog X.w) X.A (f v u) (EP X ρ σ Q) X.xe s
def UnR(X:Cx)(f:Value->Sem Value)(r:V->Hp->VK->Prop):Prop:=
 ∀(ρ:List (Addr×Obj)) (s:Shared) (σ:St) (H:Hp) (x:V) (v:Value) (Q:VK),Inv X ρ σ H s->RelV x v->r x H Q ->
  wpAny (model X.prog X.w) X.A (f v) (EP X ρ σ Q) X.xe s
def CallR(X:Cx)(f:Value)(r:List V->Hp->VK->Prop):Prop:=
 ∀(ρ:List (Addr×Obj)) (s:Shared) (σ:St) (H:Hp) (xs:List V) (us:List Value) (Q:VK),Inv X ρ σ H s->Vals xs us->r xs H Q ->
  wpAny (model X.prog X.w) X.A (call f us) (EP X ρ σ Q) X.xe s
def Mo(X:Cx)(r:V->Hp->(Bool->Hp->Prop)->Prop):Prop:=
 ∀(ρ:List (Addr×Obj)) (s:Shared) (σ:St) (H:Hp) (x:V) (v:Value) (Q:Bool->Hp->Prop),Inv X ρ σ H s->RelV x v->r x H Q ->
  wpAny (model X.prog X.w) X.A (truthy v) (TP X ρ σ Q) X.xe s
def tOp(r:R2)(ta tb:TE):TE:=fun σ H Q=>ta σ H fun x H1=>tb σ H1 fun y H2=>r x y H2 Q
def tUn(r:V->Hp->VK->Prop)(ta:TE):TE:=fun σ H Q=>ta σ H fun x H1=>r x H1 Q
def rI(C:Int->Int->Prop)(g:Int->Int->V):R2:=fun x y H Q=>∃i j,x=.int i/\y=.int j/\C i j/\Q (g i j) H
def rI0(g:Int->Int->V):R2:=fun x y H Q=>∃i j,x=.int i/\y=.int j/\Q (g i j) H
def rU(g:Int->V):V->Hp->VK->Prop:=fun x H Q=>∃i,x=.int i/\Q (g i) H
section
variable{a b:Expr}{tc:TE} 
def AZ(ha:PE X a ta)(hb:PE X b tb){R:V->V->Hp->Prop}(I:Inv X ρ σ H s)
  (h:ta σ H fun x H1=>tb σ H1 fun y H2=>R x y H2) {f:Value->Value->Sem Value}
  (hf:∀v u s2 x y H2,Inv X ρ σ H2 s2->RelV x v->RelV y u->R x y H2->wpAny (model X.prog X.w) X.A (f v u) Q X.xe s2):
  wpAny (model X.prog X.w) X.A (eval a X.env) (fun v s₁=>wpAny (model X.prog X.w) X.A (eval b X.env) (fun u s₂=>wpAny (model X.prog X.w) X.A (f v u) Q X.xe s₂) X.xe s₁) X.xe s:=by
 refine thn (ha ρ s σ H _ I h) ?_;rintro v s1 ⟨x,H1,I1,r1,q1⟩;refine thn (hb ρ s1 σ H1 _ I1 q1) ?_;rintro u s2 ⟨y,H2,I2,r2,q2⟩;exact hf v u s2 x y H2 I2 r1 r2 q2
def Lc{op:Operator}(ho:OpR X (binaryOp op) r)(ha:PE X a ta)(hb:PE X b tb):PE X (.BinOp a op b pos) (tOp r ta tb):=by
 intro ρ s σ H Q I h;exact wpAny_BinOp (AZ ha hb I h fun v u s2 x y H2 I2 rx ry q=>ho ρ s2 σ H2 x y v u Q I2 rx ry q)
def K8{op:UnaryOp}{r:V->Hp->VK->Prop}(ho:UnR X (unaryOp op) r)(ha:PE X a ta):PE X (.UnaryOp op a pos) (tUn r ta):=by
 intro ρ s σ H Q I h;exact UnaryOp_ (thn (ha ρ s σ H _ I h) fun v s1 ⟨x,H1,I1,r1,q1⟩=>ho ρ s1 σ H1 x v Q I1 r1 q1)
def opI{f:Value->Value->Sem Value}{C:Int->Int->Prop} 
  (rule:∀(i j:Int) (t u:Tok) (s:Shared) (Q:Value->Shared->Prop) (E:Value->Shared->Prop),C i j->Q (.int (g i j) s.toks) { s with toks:=s.toks+1 }->wpAny (model X.prog X.w) X.A (f (.int i t) (.int j u)) Q E s):
  OpR X f (rI C fun i j=>.int (g i j)):=by
 intro ρ s σ H x y v u Q I rx ry h;obtain⟨i,j,rfl,rfl,hc,q⟩:=h;obtain⟨t,rfl⟩:=rx;obtain⟨t',rfl⟩:=ry;exact rule i j t t' s _ _ hc ⟨.int (g i j),H,I.tok _,⟨_,rfl⟩,q⟩
def IH{f:Value->Value->Sem Value} 
  (rule:∀(i j:Int) (t u:Tok) (s:Shared) (Q:Value->Shared->Prop) (E:Value->Shared->Prop),Q (.int (g i j) s.toks) { s with toks:=s.toks+1 }->wpAny (model X.prog X.w) X.A (f (.int i t) (.int j u)) Q E s):
  OpR X f (rI0 fun i j=>.int (g i j)):=by
 intro ρ s σ H x y v u Q I rx ry h;obtain⟨i,j,rfl,rfl,q⟩:=h;obtain⟨t,rfl⟩:=rx;obtain⟨t',rfl⟩:=ry;exact rule i j t t' s _ _ ⟨.int (g i j),H,I.tok _,⟨_,rfl⟩,q⟩
def wl{f:Value->Value->Sem Value}{g:Int->Int->Bool}
  (rule:∀(i j:Int) (t u:Tok) (s:Shared) (Q:Value->Shared->Prop) (E:Value->Shared->Prop),Q (.bool (g i j)) s->wpAny (model X.prog X.w) X.A (f (.int i t) (.int j u)) Q E s):
  OpR X f (rI0 fun i j=>.bl (g i j)):=by
 intro ρ s σ H x y v u Q I rx ry h;obtain⟨i,j,rfl,rfl,q⟩:=h;obtain⟨t,rfl⟩:=rx;obtain⟨t',rfl⟩:=ry;exact rule i j t t' s _ _ ⟨.bl (g i j),H,I,rfl,q⟩
def hC(i j:Int):Prop:=0<j/\j<1073741824
def ms(i j:Int):Prop:=0<=j/\j<=1000000/\i.natAbs<2 ^ 64
def CMul(i j:Int):Prop:=(-(2 ^ 64)<i/\i<2 ^ 64)\/(-(2 ^ 64)<j/\j<2 ^ 64)
def CMul.ok{i j:Int}(h:CMul i j):IntMulOk i j:=by
 rcases h with⟨h1,h2⟩|⟨h1,h2⟩
 ·exact .of_left (intBits_le_64 h1 h2)
 ·exact .of_right (intBits_le_64 h1 h2)
def op_add:OpR X (binaryOp .Add) (rI0 fun i j=>.int (i+j)):=IH fun _ _ _ _ _ _ _ q=>add_int q
def op_sub:OpR X (binaryOp .Sub) (rI0 fun i j=>.int (i-j)):=IH fun _ _ _ _ _ _ _ q=>sub_int q
def op_mul:OpR X (binaryOp .Mult) (rI CMul fun i j=>.int (i*j)):=opI fun _ _ _ _ _ _ _ hc q=>mul_int q hc.ok
def op_fdiv:OpR X (binaryOp .FloorDiv) (rI hC fun i j=>.int (i / j)):=opI fun i j _ _ _ _ _ hc q=>by
 have h1:(0:Int)<j:=hc.1;have h2:j<1073741824:=hc.2;exact floordiv_int (by omega) (by rw[Int.fdiv_eq_ediv_of_nonneg i (by omega)];exact q) (.inl (PyProof.noPylong_small (by omega)))
def op_mod:OpR X (binaryOp .Mod) (rI (fun _ j=>0<j) fun i j=>.int (i % j)):=opI fun i j _ _ _ _ _ hc q=>by
 have h1:(0:Int)<j:=hc;exact mod_int' (by omega) (by rw[Int.fmod_eq_emod_of_nonneg i (by omega)];exact q)
def op_pow:OpR X (binaryOp .Pow) (rI ms fun i j=>.int (i ^ j.toNat)):=opI fun _ _ _ _ _ _ _ hc q=>pow_int_small hc.1 hc.2.1 hc.2.2 q
def unI{f:Value->Sem Value}{g:Int->Int}
  (rule:∀(i:Int) (t:Tok) (s:Shared) (Q:Value->Shared->Prop) (E:Value->Shared->Prop),Q (.int (g i) s.toks) { s with toks:=s.toks+1 }->wpAny (model X.prog X.w) X.A (f (.int i t)) Q E s):
  UnR X f (rU fun i=>.int (g i)):=by
 intro ρ s σ H x v Q I rx h;obtain⟨i,rfl,q⟩:=h;obtain⟨t,rfl⟩:=rx;exact rule i t s _ _ ⟨.int (g i),H,I.tok _,⟨_,rfl⟩,q⟩
def un_neg:UnR X (unaryOp .USub) (rU fun i=>.int (-i)):=unI fun _ _ _ _ _ q=>neg_int q
def yx{Q:VK}{k k':Bool}(I:Inv X ρ σ H s)(q:Q (.bl k) H)(e:k=k'):EP X ρ σ Q (.bool k') s:=by
 subst e;exact⟨.bl k,H,I,rfl,q⟩
def op_lt:OpR X (compareOp .Lt) (rI0 fun i j=>.bl (decide (i<j))):=wl fun _ _ _ _ _ _ _ q=>lt_int q
def op_le:OpR X (compareOp .LtE) (rI0 fun i j=>.bl (decide (i<=j))):=wl fun _ _ _ _ _ _ _ q=>le_int q
def op_gt:OpR X (compareOp .Gt) (rI0 fun i j=>.bl (decide (j<i))):=wl fun _ _ _ _ _ _ _ q=>gt_int q
def op_ge:OpR X (compareOp .GtE) (rI0 fun i j=>.bl (decide (j<=i))):=wl fun _ _ _ _ _ _ _ q=>ge_int q
def op_isN:OpR X (compareOp .Is) (fun x y H Q=>y=.non/\Q (.bl (decide (x=.non))) H):=by
 intro ρ s σ H x y v u Q I rx ry h;obtain⟨rfl,q⟩:=h;cases ry;refine is_none_gen (yx I q ?_);cases x<;>first
  | (cases rx;rfl)
  | (obtain⟨t,rfl⟩:=rx;rfl)
def op_notN:OpR X (compareOp .IsNot) (fun x y H Q=>y=.non/\Q (.bl (!decide (x=.non))) H):=by
 intro ρ s σ H x y v u Q I rx ry h;obtain⟨rfl,q⟩:=h;cases ry;refine isnot_none_gen (yx I q ?_);cases x<;>first
  | (cases rx;rfl)
  | (obtain⟨t,rfl⟩:=rx;rfl)
def aL(b:Expr)(h:op≠.In:=by decide)(h2:op≠.NotIn:=by decide):behindInMarks op b=false:=by
 have e1:(op==CmpOp.In)=false:=by cases op<;>first|rfl|exact absurd rfl h
 have e2:(op==CmpOp.NotIn)=false:=by cases op<;>first|rfl|exact absurd rfl h2
 cases b<;>simp[behindInMarks,e1,e2]
def D9(ho:OpR X (compareOp op) r)(ha:PE X a ta)(hb:PE X b tb)(hm:behindInMarks op b=false):PE X (.Compare a [op] [b] pos) (tOp r ta tb):=by
 intro ρ s σ H Q I h;exact wpAny_Compare1 (AZ ha hb I h fun v u s2 x y H2 I2 rx ry q=>ho ρ s2 σ H2 x y v u Q I2 rx ry q) hm
def C1(t:TE):TT:=fun σ H Q=>t σ H fun x H'=>∃k,x=.bl k/\Q k H'
def DX(ho:OpR X (compareOp op) r)(ha:PE X a ta)(hb:PE X b tb)(hm:behindInMarks op b=false):PT X (.Compare a [op] [b] pos) (C1 (tOp r ta tb)):=by
 intro ρ s σ H Q I h;refine wpAny_isTrue_Compare1 (thn (ha ρ s σ H _ I h) fun v s1 ⟨x,H1,I1,r1,q1⟩=>thn (hb ρ s1 σ H1 _ I1 q1) fun u s2 ⟨y,H2,I2,r2,q2⟩=>
  thn (ho ρ s2 σ H2 x y v u _ I2 r1 r2 q2) fun c s3 ⟨z,H3,I3,r3,k,e,q3⟩=>?_) hm
 subst e;cases r3;exact zbB ⟨H3,I3,q3⟩
def xu(r r':R2)(ta tb tc:TE):TE:=fun σ H Q=>ta σ H fun x H1=>tb σ H1 fun y H2=>r x y H2 fun z H3=>∃k,z=.bl k /\
 (if k=true then tc σ H3 fun w' H4=>r' y w' H4 Q else Q (.bl false) H3)
def zC{op':CmpOp}{r':R2}(ho:OpR X (compareOp op) r)(ho':OpR X (compareOp op') r')(ha:PE X a ta)(hb:PE X b tb)(hc:PE X c tc)
  (hm:lastMarks [op,op'] [b,c]=false:=by with_unfolding_all rfl):PT X (.Compare a [op,op'] [b,c] pos) (C1 (xu r r' ta tb tc)):=by
 intro ρ s σ H Q I h;refine isTrue_chain (thn (ha ρ s σ H _ I h) fun v s1 ⟨x,H1,I1,r1,q1⟩=>test_link (thn (hb ρ s1 σ H1 _ I1 q1) fun u s2 ⟨y,H2,I2,r2,q2⟩=>
  thn (ho ρ s2 σ H2 x y v u _ I2 r1 r2 q2) fun d s3 ⟨z,H3,I3,r3,k,e,q3⟩=>?_)) hm
 subst e;cases r3;refine zbB ?_;cases k with
 |false=>
  obtain⟨k',e',q'⟩:=q3;cases e';exact ite_ff ⟨H3,I3,q'⟩
 |true=>
  refine ite_tt (test_last (thn (hc ρ s3 σ H3 _ I3 q3) fun w' s4 ⟨z',H4,I4,r4,q4⟩=>thn (ho' ρ s4 σ H4 y z' u w' _ I4 r2 r4 q4) fun d' s5 ⟨z2,H5,I5,r5,k2,e2,q5⟩=>?_));subst e2;cases r5;exact zbB ⟨H5,I5,q5⟩
def Mn(K:zb7)(x:V)(H:Hp)(k:Bool):Prop:=
 match x with
 |.non=>k=false
 |.bl b=>k=b
 |.int i=>k=(i != 0)
 |.str y=>y.length<=sizeLine/\k=((y.length:Int) != 0)
 |.byt y=>y.size<=sizeLine/\k=((y.size:Int) != 0)
 |.ref p=>(∃xs,SqL K H p xs/\k=!xs.isEmpty)\/(∃xs,SqT K H p xs/\k=!xs.isEmpty)\/∃kvs,H p=some (.dK kvs)/\k=!kvs.isEmpty
 |_=>False
def jH:(sizeLine:Nat)<2 ^ 63:=by rw[sizeLine_eq];decide
def wj:OpR X (binaryOp .Add) (fun x y H Q=>∃i j,x=.str i/\y=.str j/\i.length+j.length<=sizeLine/\Q (.str (i++j)) H):=by
 intro ρ s σ H x y v u Q I rx ry h;obtain⟨i,j,rfl,rfl,hz,q⟩:=h;obtain⟨t,rfl⟩:=rx;obtain⟨t',rfl⟩:=ry;exact add_str (fun t' tk=>⟨.str (i++j),H,I.tok _,⟨_,rfl⟩,q⟩) hz
def cS{x:V}(r:Vals [x] us):∃u,us=[u]/\RelV x u:=by
 cases r with
 |cons r1 r2=>cases r2;exact⟨_,rfl,r1⟩
def vQ{x:V}(r:Vals [x,y] us):∃u w',us=[u,w']/\RelV x u/\RelV y w':=by
 cases r with
 |cons r1 r2=>
  cases r2 with
  |cons r3 r4=>cases r4;exact⟨_,_,rfl,r1,r3⟩
def call_abs:CallR X (.builtin "abs") (fun xs H Q=>∃i,xs=[.int i]/\Q (.int (if i<0 then -i else i)) H):=by
 intro ρ s σ H xs us Q I r h;obtain⟨i,rfl,q⟩:=h;obtain⟨u,rfl,t,rfl⟩:=cS r;exact call_abs_int fun u tk=>⟨.int (if i<0 then -i else i),H,I.tok _,⟨_,rfl⟩,q⟩
def call_int1:CallR X (.type "int") (fun xs H Q=>(∃i,xs=[.int i]/\Q (.int i) H)\/∃k,xs=[.bl k]/\Q (.int (if k then 1 else 0)) H):=by
 intro ρ s σ H xs us Q I r h;rcases h with⟨i,rfl,q⟩|⟨k,rfl,q⟩
 ·obtain⟨u,rfl,t,rfl⟩:=cS r;exact call_int_int ⟨.int i,H,I,⟨_,rfl⟩,q⟩
 ·obtain⟨u,rfl,r1⟩:=cS r;cases r1;exact call_int_bool ⟨.int (if k then 1 else 0),H,I.tok _,⟨_,rfl⟩,q⟩
def KJ(K:zb7)(x:V)(H:Hp)(n:Nat):Prop:=
 match x with
 |.str y=>y.length<=sizeLine/\n=y.length
 |.byt y=>y.size<=sizeLine/\n=y.size
 |.ref p=>(∃xs,SqL K H p xs/\n=xs.length)\/∃xs,SqT K H p xs/\n=xs.length
 |_=>False
def AV:CallR X (.builtin "len") (fun xs H Q=>∃x n,xs=[x]/\KJ X.K x H n/\Q (.int n) H):=by
 intro ρ s σ H xs us Q I r h;obtain⟨x,n,rfl,e,q⟩:=h;obtain⟨u,rfl,rx⟩:=cS r;have hl:=jH;have hs:sizeLine=16777216:=sizeLine_eq;cases x with
 |str y=>
  obtain⟨t,rfl⟩:=rx;obtain⟨hy,e'⟩:y.length<=sizeLine/\n=y.length:=e;subst e';exact len_str (by omega) ⟨.int _,H,I.tok _,⟨_,rfl⟩,q⟩
 |byt y=>
  obtain⟨t,rfl⟩:=rx;obtain⟨hy,e'⟩:y.size<=sizeLine/\n=y.size:=e;subst e';exact PySem.W.len_bytes (by omega) ⟨.int _,H,I.tok _,⟨_,rfl⟩,q⟩
 |ref p=>
  cases rx;have e':(∃xs,SqL X.K H p xs/\n=xs.length)\/∃xs,SqT X.K H p xs/\n=xs.length:=e;rcases e' with⟨xs,hx,e'⟩|⟨xs,hx,e'⟩
  ·subst e';obtain⟨its,r',pl,hz⟩:=I.list hx;have ξ:=r'.length;exact Calls.call_len_list pl.isList (by simp only[zai];omega) ⟨.int xs.length,H,I.tok _,⟨_,by simp only[zai];rw[ξ]⟩,q⟩
  ·subst e';obtain⟨its,r',pl,hz⟩:=I.tuple hx;have ξ:=r'.length;exact len_tuple pl (by simp only[zai];omega) ⟨.int xs.length,H,I.tok _,⟨_,by simp only[zai];rw[ξ]⟩,q⟩
 |_=>exact(show False from e).elim
end
structure ObjM(h:Heap)(x dx C:Addr)(mA:Str->Option Value):Prop where
 obj:h.get? x=some (PySem.W.instObj C dx)
 ns:h.Ns1 dx mA
 ne:dx≠x
def xW(n:h.Ns1 dx mA):∃od,h.get? dx=some od/\∀name,PySem.W.lookIn name od=some (mA name):=by
 obtain⟨o,es,ep,ho,hd,hk,_,hm⟩:=n;refine⟨o,ho,fun name=>?_⟩;have e:=hm name;unfold nsFind findBy at e;rw[<-Array.find?_toList]at e;unfold PySem.W.lookIn;rw[hd]
 dsimp only
 split
 ·rename_i y q;rw[q]at e;exact congrArg some e
 ·rename_i q;rw[q]at e;have a:es.toList.any (·.refKey)=false:=by
   rw[List.any_eq_false];intro y hy;obtain⟨z,t,hkey⟩:=hk y (Array.mem_toList_iff.mp hy);simp[DictEntry.refKey,hkey]
  have a':¬es.toList.any (·.refKey)=true:=by rw[a];exact zbo
  rw[if_neg a'];exact congrArg some e
def ObjM.look{x:Addr}(I:ObjM h x dx C mA):∃od,PySem.W.InstAt h x (PySem.W.instObj C dx) C (some od)/\∀name,PySem.W.lookIn name od=some (mA name):=
 let⟨od,ho,hl⟩:=xW I.ns
 ⟨od,⟨I.obj,rfl,rfl,ho⟩,hl⟩
def RelO.some_of{o:Option Value}(r:RelO (some v) o):∃u,o=some u/\RelV v u:=by
 cases o with
 |none=>exact(show False from r).elim
 |some u=>exact⟨u,rfl,r⟩
section
variable{fs fs':List (Str×V)}
def Ex(hok:HOk P w H h)(e:H a=some (.ins C dx fs)):∃mA,ObjM h a dx C mA/\(∀f,RelO (fs.lookup f) (mA f))/\PySem.Within mA (fs.map (·.1))/\fs.length<=1000/\H dx=some (.own a):=by
 obtain⟨d,z,ne,ob,mA,n,r,q⟩:=(show ObjOk P w H h a (.ins C dx fs)from hok a _ e);exact⟨mA,⟨ob,n,ne⟩,r,q,z,d⟩
end
structure Cls(K:zb7)(C:Addr):Prop where
 pg:PySem.W.plainGet K C Str.empty=true
 hd:PySem.W.hasDictIn K C=true
 po:PySem.W.plainOver K C=true
 sa:PySem.W.findIn K (.ref C) "__setattr__"=some (some (.builtin "object.__setattr__"))
def Cls.get(c:Cls K C)(f:Str):PySem.W.plainGet K C f=true:=c.pg
section
variable{c:Value}{b:Bool}
inductive TyOf(K:zb7)(H:Hp):V->Value->Prop where
 |non:TyOf K H .non (.type "NoneType")
 |bl (x:Bool):TyOf K H (.bl x) (.type "bool")
 |int (i:Int):TyOf K H (.int i) (.type "int")
 |str (x:Str):TyOf K H (.str x) (.type "str")
 |flt (x:UInt64):TyOf K H (.flt x) (.type "float")
 |lst {a:Addr} {xs:List V} (e:H a=some (.lst xs)):TyOf K H (.ref a) (.type "list")
 |frz {a:Addr} {o:Obj} {xs:List V} (e:H a=some (.frz o (.lst xs))):TyOf K H (.ref a) (.type "list")
 |tup {a:Addr} {xs:List V} (e:H a=some (.tup xs)):TyOf K H (.ref a) (.type "tuple")
 |dK {a:Addr} {kvs:List (Key×V)} (e:Rd H a (.dK kvs)):TyOf K H (.ref a) (.type "dict")
 |dT {a:Addr} {kvs:List (List Key×V)} (e:H a=some (.dT kvs)):TyOf K H (.ref a) (.type "dict")
 |ins {a C dx:Addr} {fs:List (Str×V)} (e:H a=some (.ins C dx fs)) (cl:Cls K C) (ha:PySem.W.findIn K (.ref C) "__class__"=some (some (.builtin "object.__class__")))
   (hn:PySem.W.specialIn K (.builtin "object.__class__") "__get__"=some (some (.builtin "getset_descriptor.__get__"))) (htk:PySem.W.takesIn K (.builtin "object.__class__")=some true)
   (hm:PySem.W.mroIn K C (.type "object")=some true):TyOf K H (.ref a) (.ref C)
def ye{x:V}{t:Value}(I:Inv X ρ σ H s)(rx:RelV x u)(ty:TyOf X.K H x t)(e:PySem.W.kitOne X.K t c=some b)(h:∀tk,Q (.bool b) { s with toks:=tk }):
  wpAny (model X.prog X.w) A (call (.builtin "isinstance") [u,c]) Q E s:=by
 cases ty with
 |non=>cases(show u=Value.none from rx);exact PySem.W.kia_one PySem.W.kitx_none I.kIn True.intro e (fun z=>nomatch z) h
 |bl y=>cases(show u=Value.bool y from rx);exact PySem.W.kia_one PySem.W.kitx_bool I.kIn True.intro e (fun z=>nomatch z) h
 |int i=>obtain⟨t,q⟩:=(show ∃t,u=Value.int i t from rx);cases q;exact PySem.W.kia_one PySem.W.kitx_int I.kIn True.intro e (fun z=>nomatch z) h
 |str y=>obtain⟨t,q⟩:=(show ∃t,u=Value.str y t from rx);cases q;exact PySem.W.kia_one PySem.W.kitx_str I.kIn True.intro e (fun z=>nomatch z) h
 |flt y=>obtain⟨t,q⟩:=(show ∃t,u=Value.float y t from rx);cases q;exact PySem.W.kia_one PySem.W.kitx_float I.kIn True.intro e (fun z=>nomatch z) h
 |@lst a xs ea=>
  cases(show u=Value.ref a from rx);obtain⟨_,_,n,_,h1⟩:=(show ObjOk X.prog X.w H s.heap a (.lst xs)from I.hok a _ ea);exact PySem.W.kia_one PySem.W.kitx_list I.kIn ⟨_,h1,rfl⟩ e (fun z=>nomatch z) h
 |@frz a ob xs ea=>
  cases(show u=Value.ref a from rx);obtain⟨_,_,_,n,_,h1⟩:=(show ObjOk X.prog X.w H s.heap a (.frz ob (.lst xs))from I.hok a _ ea);exact PySem.W.kia_one PySem.W.kitx_list I.kIn ⟨_,h1,rfl⟩ e (fun z=>nomatch z) h
 |@tup a xs ea=>
  cases(show u=Value.ref a from rx);obtain⟨_,_,_,p⟩:=(show ObjOk X.prog X.w H s.heap a (.tup xs)from I.hok a _ ea);obtain⟨o,h1,h2,_⟩:=p;exact PySem.W.kia_one PySem.W.kitx_tuple I.kIn ⟨o,h1,h2⟩ e (fun z=>nomatch z) h
 |@dK a kvs ea=>
  cases(show u=Value.ref a from rx);obtain⟨_,_,vs,_,p⟩:=(show ObjOk X.prog X.w H s.heap a (.dK kvs)from ea.ok I.hok);obtain⟨o,es,ep,h1,h2,_⟩:=p;exact PySem.W.kia_one PySem.W.kitx_dict I.kIn ⟨o,h1,h2.1⟩ e (fun z=>nomatch z) h
 |@dT a kvs ea=>
  cases(show u=Value.ref a from rx);obtain⟨_,_,xs,_,o,es,ep,h1,h2,_⟩:=(show ObjOk X.prog X.w H s.heap a (.dT kvs)from I.hok a _ ea);exact PySem.W.kia_one PySem.W.kitx_dict I.kIn ⟨o,h1,h2.1⟩ e (fun z=>nomatch z) h
 |@ins a C dx fs ea cl ha hn htk hm=>
  cases(show u=Value.ref a from rx);obtain⟨mA,O,_⟩:=Ex I.hok ea;obtain⟨od,J,_⟩:=O.look;exact PySem.W.kia_one (PySem.W.kitx_own (cl.get _) cl.hd ha hn htk hm) I.kIn J e (fun z=>nomatch z) h
end
structure Room(k:Nat)(A:Around):Prop where
 hd:A.handled=none
 dp:A.depth+3*k+5<recursionLimit
 un:A.units+16*k+200<cLine
 gd:A.guards=some []
def Room.mono(r:Room k A)(h:j<=k):Room j A:=⟨r.hd,by have:=r.dp;omega,by have:=r.un;omega,r.gd⟩
def Room.deeper(r:Room (k+1) A)(env:Env):Room k (A.deeper env):=
 ⟨r.hd,by have:=r.dp;show A.depth+1+3*k+5<_;omega,by have:=r.un;show A.units+3+16*k+200<_;omega,r.gd⟩
def Room.depth(r:Room k A):A.depth<recursionLimit:=by have:=r.dp;omega
def Room.units(r:Room k A):A.units+64<cLine:=by have:=r.un;omega
def vW:TA:=fun _ H Q=>Q [] H
def nT(ta:TE)(tr:TA):TA:=fun σ H Q=>ta σ H fun x H1=>tr σ H1 fun xs H2=>Q (x::xs) H2
section
variable{t:TA} 
def pa_nil:PA X [] vW:=fun _ _ _ _ H Q I h=>Calls.spliced_nil ⟨[],H,I,.nil,h⟩
def cZ(ha:PE X e te)(hr:PA X es t)(hs:starEach (e::es) X.env=(false,eval e X.env)::starEach es X.env:=by rfl):PA X (e::es) (nT te t):=by
 intro pos ρ s σ H Q I h;rw[hs];show wpAny _ _ (spliced ((false,eval e X.env)::backTo pos (starEach es X.env))) _ _ s;refine Calls.spliced_cons (thn (ha ρ s σ H _ I h) fun u s1 ⟨x,H1,I1,r1,q1⟩=>?_);exact thn (hr pos ρ s1 σ H1 _ I1 q1) fun us s2 ⟨xs,H2,I2,r2,q2⟩=>⟨x::xs,H2,I2,.cons r1 r2,q2⟩
def HC(t:TA):TE:=fun σ H Q=>t σ H fun xs H1=>xs.length<=sizeLine/\∀p,H1 p=none->Q (.ref p) (upd H1 p (.tup xs))
def HH(t:TA):TE:=fun σ H Q=>t σ H fun xs H1=>xs.length<=sizeLine/\∀p,H1 p=none->Q (.ref p) (upd H1 p (.lst xs))
def xL{x1}(h:PA X es t):PE X (.Tuple es x1 pos) (HC t):=by
 intro ρ s σ H Q I hq;refine wpAny_Tuple_spliced (thn (h pos ρ s σ H _ I hq) fun us s1 ⟨xs,H1,I1,r,z,q⟩=>⟨by rw[<-r.length];exact z,?_⟩);have hf:H1 s1.heap.objs.size=none:=I1.hok.fresh (zav _);refine⟨.ref s1.heap.objs.size,upd H1 s1.heap.objs.size (.tup xs),I1.laid (t':=s1.toks) (fun b u e=>zaf _ e) (zav _) ?_,rfl,q _ hf⟩;exact⟨z,us,r,⟨_,zan _ rfl,rfl,_,rfl,rfl⟩⟩
def ID(h:PA X es t):PE X (.List es pos) (HH t):=by
 intro ρ s σ H Q I hq;refine wpAny_List_spliced (thn (h pos ρ s σ H _ I hq) fun us s1 ⟨xs,H1,I1,r,z,q⟩=>⟨by rw[<-r.length];exact z,?_⟩);have hf:H1 s1.heap.objs.size=none:=I1.hok.fresh (zav _);refine⟨.ref s1.heap.objs.size,upd H1 s1.heap.objs.size (.lst xs),I1.laid (t':=s1.toks) (fun b u e=>zaf _ e) (zav _) ?_,rfl,q _ hf⟩;exact⟨z,us,0,r,zan _ rfl⟩
end
abbrev Sp:=List V->Hp->VK->XK->Prop
variable{sp:Sp}
abbrev CXT:=List Env->Hp->Shared->XK->Value->Shared->Prop
variable{CX:CXT}
structure Env0(P:Program)(w:World)(K:zb7)(mg:Str->Option Value)(base:Heap)(A:Around)(outer:List Env)(s:Shared)(H:Hp):Prop where
 frames:A.frames=some outer
 mod:Mod K mg base
 bs:∀b o,base.get? b=some o->s.heap.get? b=some o/\H b=none
 bsz:base.objs.size<=s.heap.objs.size
 funs:s.heap.FunFrames base outer
 frf:∀b∈frs outer,H b=none
 hok:HOk P w H s.heap
 bare:AllBare s.gens
def CE(outer:List Env)(P:Program)(w:World)(H:Hp)(s:Shared)(Q:VK)(u:Value)(s':Shared):Prop:=
 ∃v H',s'.os=s.os/\AllBare s'.gens/\Un (frs outer) [] H H' s.heap s'.heap/\HOk P w H' s'.heap/\RelV v u/\Q v H'
def CR(CX:CXT)(outer:List Env)(P:Program)(w:World)(H:Hp)(s:Shared)(Q:VK)(E:XK)(r:Result)(s':Shared):Prop:=
 match r with
 |.ok (.ret u)=>CE outer P w H s Q u s'
 |.ok _=>False
 |.error e=>CX outer H s E e s'
structure FnOk(P:Program)(w:World)(K:zb7)(mg:Str->Option Value)(base:Heap)(CX:CXT)(k:Nat)(f:Addr)(fd:FuncData)(ps:List Str)(sp:Sp):Prop where
 len:∀vs H Q E,sp vs H Q E->vs.length=ps.length
 run:∀(A:Around) (outer:List Env) (s:Shared) (H:Hp) (args:Args) (us:List Value) (vs:List V) (Q:VK) (E:XK),Room k A->Env0 P w K mg base A outer s H->BindsTo s fd args (ps.zip us)->Vals vs us->sp vs H Q E ->
  codeAny (model P w) A (.call (.ref f) args) (CR CX outer P w H s Q E) s
def FnOk.mono{P:Program}{w:World}{K:zb7}{mg:Str->Option Value}{base:Heap}{CX:CXT}{j k:Nat}{f:Addr}{fd:FuncData}{ps:List Str}{sp:Sp}(F:FnOk P w K mg base CX j f fd ps sp)(h:j<=k):
  FnOk P w K mg base CX k f fd ps sp:=⟨F.len,fun A outer s H args us vs Q E hr=>F.run A outer s H args us vs Q E (hr.mono h)⟩
def FnOk.imp{base:Heap}{sp':Sp}(F:FnOk P w K mg base CX k f fd ps sp)
  (h:∀vs H Q E,sp' vs H Q E->sp vs H Q E):FnOk P w K mg base CX k f fd ps sp':=
 ⟨fun vs H Q E q=>F.len vs H Q E (h _ _ _ _ q),fun A outer s H args us vs Q E hr he hb hv hs=>F.run A outer s H args us vs Q E hr he hb hv (h _ _ _ _ hs)⟩
def Inv.env0(I:Inv X ρ σ H s):Env0 X.prog X.w X.K X.mg X.base X.A X.stack s H:=
 ⟨I.ok.frames,I.ok.mod,I.bs,zau I.ok.bsz I.sz,I.stack,I.stkFree,I.hok,I.bare⟩
def Inv.after{Q:VK}(I:Inv X ρ σ H s)(h:CE X.stack X.prog X.w H s Q u s'):EP X ρ σ Q u s':=by
 obtain⟨v,H',os,bare,un,hok,r,q⟩:=h;obtain⟨hh,g,d,t,os'⟩:=s';obtain rfl:os'=s.os:=os;exact⟨v,H',I.call (h':=hh) (g':=g) (d':=d) (t':=t) (ch:=[]) un hok bare (fun b z=>absurd z (by simp)),r,q⟩
def nU(sp:Sp)(dvs:List V)(E:XK)(t:TA):TE:=fun σ H Q=>t σ H fun vs H1=>sp (vs++dvs) H1 Q E
def Binds(K:zb7)(fd:FuncData)(ps:List Str)(ds:List Value):Prop:=
 ∀(s:Shared) (us:List Value),K.In s.heap->(us++ds).length=ps.length->BindsTo s fd ⟨us,[]⟩ (ps.zip (us++ds))
def Binds.all(h:∀us:List Value,us.length=ps.length->bindArgs fd ⟨us,[]⟩=pure (ps.zip us)):Binds K fd ps []:=fun s us _ hl=>by
 rw[zbt]at hl ⊢;exact .of_eq (h us hl)
def tY(CX:CXT)(X:Cx)(E:XK):Prop:=∀(ρ:List (Addr×Obj)) (σ:St) (H:Hp) (s:Shared) (e:Value) (s':Shared),Inv X ρ σ H s->CX X.stack H s E e s'->X.xe e s'
section
variable{dvs:List V}{ds:List Value}{E:XK}{m:Str}{μ:Pos}{o:Expr}{t:TA}
def Ic{Q:VK}(F:FnOk X.prog X.w X.K X.mg X.base CX k f fd ps sp)(hr:Room k X.A)(hb:Binds X.K fd ps ds)(hd:Vals dvs ds)(hx:tY CX X E)
  (I:Inv X ρ σ H s) (r:Vals vs us) (h:sp (vs++dvs) H Q E):wpAny (model X.prog X.w) X.A (call (.ref f) us) (EP X ρ σ Q) X.xe s:=by
 have r2:Vals (vs++dvs) (us++ds):=r.append hd;have hl:(us++ds).length=ps.length:=by rw[<-r2.length];exact F.len _ _ _ _ h
 refine wpAny_call (codeAny_mono (F.run X.A X.stack s H ⟨us,[]⟩ (us++ds) (vs++dvs) Q E hr I.env0 (hb s us I.kIn hl) r2 h) fun r s' hq=>?_);cases r with
 |error e=>exact hx ρ σ H s e s' I hq
 |ok fl=>
  cases fl with
  |ret u=>exact I.after hq
  |next=>exact False.elim hq
  |brk=>exact False.elim hq
  |cont=>exact False.elim hq
def Ea(F:FnOk X.prog X.w X.K X.mg X.base CX k f fd ps sp)(hr:Room k X.A)(hg:Gl X x)(hm:X.mg x=some (.ref f))(hk:PySem.W.keepIn X.K (.ref f)=true)(hb:Binds X.K fd ps ds)(hd:Vals dvs ds)(hx:tY CX X E)
  (ha:PA X (e::es) t) (hdb:(x==("__debug__":Str))=false:=by decide) (he:starEach (e::es) X.env=(false,eval e X.env)::starEach es X.env:=by rfl) (hpl:(backTo pos (starEach es X.env)).any (·.1)=false:=by rfl):
  PE X (.Call (.Name x p) (e::es) [] pos) (nU sp dvs E t):=by
 intro ρ s σ H Q I h;refine wpAny_Call_Name_kw (Eo I hg hm ?_ hdb);refine PySem.W.callWith_K (h₀:=X.base) I.ok.mod.kin hk (thn (ha pos ρ s σ H _ I h) fun us s1 ⟨vs,H1,I1,r,q⟩=>⟨I1.kIn,?_⟩) he hpl;exact Ic F hr hb hd hx I1 r q
end
structure FnScope(N P:List Str)(sc:Scope):Prop where
 kind:sc.kind=.function
 co:sc.isCoroutine=false
 gen:sc.isGenerator=false
 nd:N.Nodup
 pre:N.take P.length=P
 par:∀x∈P,sc.names.lookup x=some .local\/sc.names.lookup x=some .cell
 nofree:∀y∈sc.names,y.2≠.free
theorem qO{kindOf:Str->Option NameKind}{x:Str}:∀{binds:List (Str×Value)} {m:Str->Option Value},(∀v,(x,v)∉binds)->bindL kindOf binds m x=m x
 |[],_,_=>rfl
 | (n,v)::r,m,h=>by
  unfold bindL;rw[qO fun w hw=>h w (zaj _ hw)];split
  ·have:x≠n:=by rintro rfl;exact h v zaq
   simp[this]
  ·rfl
theorem qQ{kindOf:Str->Option NameKind}{x:Str}:∀{binds:List (Str×Value)} {m:Str->Option Value},(∀v,(x,v)∉binds)->bindC kindOf binds m x=m x
 |[],_,_=>rfl
 | (n,v)::r,m,h=>by
  unfold bindC;rw[qQ fun w hw=>h w (zaj _ hw)];split
  ·rfl
  ·have:x≠n:=by rintro rfl;exact h v zaq
   simp[this]
theorem qP{kindOf:Str->Option NameKind}{x:Str}{v:Value}:∀{P:List Str} {vs:List Value} {i:Nat} {m:Str->Option Value},P.Nodup->P[i]?=some x->vs[i]?=some v->kindOf x=some .local ->
  bindL kindOf (P.zip vs) m x=some v
 |[],_,_,_,_,h,_,_=>by simp at h
 |_::_,[],_,_,_,_,h,_=>by simp at h
 |p::P,w::vs,0,m,nd,h1,h2,hk=>by
  simp at h1 h2;subst h1;subst h2;show bindL kindOf ((p,w)::P.zip vs) m p=_;unfold bindL;rw[qO fun v hv=>(zbc.mp nd).1 (List.of_mem_zip hv).1,if_pos hk];simp
 |p::P,w::vs,i+1,m,nd,h1,h2,hk=>by
  show bindL kindOf ((p,w)::P.zip vs) m x=_;unfold bindL;exact qP (i:=i) (zbc.mp nd).2 (by simpa using h1) (by simpa using h2) hk
theorem qR{kindOf:Str->Option NameKind}{x:Str}{v:Value}:∀{P:List Str} {vs:List Value} {i:Nat} {m:Str->Option Value},P.Nodup->P[i]?=some x->vs[i]?=some v->kindOf x≠some .local ->
  bindC kindOf (P.zip vs) m x=some v
 |[],_,_,_,_,h,_,_=>by simp at h
 |_::_,[],_,_,_,_,h,_=>by simp at h
 |p::P,w::vs,0,m,nd,h1,h2,hk=>by
  simp at h1 h2;subst h1;subst h2;show bindC kindOf ((p,w)::P.zip vs) m p=_;unfold bindC;rw[qQ fun v hv=>(zbc.mp nd).1 (List.of_mem_zip hv).1,if_neg hk];simp
 |p::P,w::vs,i+1,m,nd,h1,h2,hk=>by
  show bindC kindOf ((p,w)::P.zip vs) m x=_;unfold bindC;exact qR (i:=i) (zbc.mp nd).2 (by simpa using h1) (by simpa using h2) hk
def dX(N:List Str)(vs:List V):St:=vs.map some++List.replicate (N.length-vs.length) none
def lK(CX:CXT)(P:Program)(w:World)(K:zb7)(mg:Str->Option Value)(base:Heap)(N:List Str)(qual:Str)(scope:Scope)(f:Addr)(cd:Value)(A:Around)(outer:List Env)(s:Shared)(H:Hp)(E:XK):Cx where
 prog:=P
 w:=w
 K:=K
 mg:=mg
 base:=base
 A:=A.deeper (envOfC qual scope s.heap.objs.size f cd)
 N:=N
 s₀:=s
 H₀:=H
 env:=envOfC qual scope s.heap.objs.size f cd
 outer:=outer
 stack:=envOfC qual scope s.heap.objs.size f cd::outer
 ex:=[]
 calm:=true
 fn:=fun _=>true
 pn:=[]
 xe:=fun e s'=>wpAny (model P w) (A.deeper (envOfC qual scope s.heap.objs.size f cd)) (leaving (envOfC qual scope s.heap.objs.size f cd) e) (fun _ s''=>CX outer H s E e s'') (fun e' s''=>CX outer H s E e' s'') s'
def tN{sc:Scope}(h:sc.names.lookup x=some .cell):∃c,(cellsFrom n sc.names []).lookup x=some c:=by
 have q:=PySem.W.cellsFrom_some sc.names n [] (.inl h);exact Option.isSome_iff_exists.mp q
def yf{base:Heap}{cd:Value}{outer:List Env}{s1:Shared}{E:XK} 
  (S:FnScope N ps scope) (hd:A.handled=none) (e0:Env0 P w K mg base A outer s H) (hl:vs.length=ps.length) (r:Vals vs us)
  (x:InCallC s s.heap.objs.size (bindL (envOfC qual scope s.heap.objs.size f cd).kindOf (ps.zip us) fun _=>none) (cellsFrom (s.heap.objs.size+1) scope.names []) (bindC (envOfC qual scope s.heap.objs.size f cd).kindOf (ps.zip us) fun _=>none) s1):
  Inv (lK CX P w K mg base N qual scope f cd A outer s H E) [] (dX N vs) H s1:=by
 have hpl:ps.length<=N.length:=by have:=congrArg List.length S.pre;rw[zaE]at this;omega
 obtain⟨h1,tk,rfl,hk⟩:=x.done;have noA:∀b:Addr,b∉(lK CX P w K mg base N qual scope f cd A outer s H E).ex:=fun b z=>absurd (show b∈([]:List Addr)from z) (by simp);refine⟨⟨e0.mod,S.kind,rfl,rfl,zav _,fun y z c h1 h2=>?_,fun y hy=>?_,fun y c _ h=>?_,fun _=>hd,Around.frames_deeper e0.frames,.inr ⟨rfl,rfl⟩,fun b z=>absurd z (noA b),e0.bs,e0.bsz,fun b _ _=>noA b,fun b z=>absurd z (noA b),e0.funs,e0.frf⟩,
  rfl,e0.bare,Un.kept hk,⟨_,x.toInCall.ns,fun i y v h1 h2 h3=>?_⟩,fun y c h=>⟨_,x.cell y c h⟩,e0.hok.fresh (zav _),fun y c h=>?_,fun p hp=>absurd (show p∈([]:List (Addr×Obj))from hp) (by simp),e0.hok.kept hk,?_⟩
 ·exact name_of_addr x.apart (zaU h1) (zaU h2)
 ·have hy:scope.names.lookup y=some .cell\/scope.names.lookup y=some .free:=hy;rcases hy with hy|hy
  ·exact tN hy
  ·exact absurd rfl (S.nofree _ (zaU hy))
 ·exact zaW (x.above y c (zaU h))
 ·have hi:i<vs.length:=by
   unfold dX at h2;by_cases hi:i<vs.length
   ·exact hi
   ·rw[zbL (by simpa using hi)]at h2;rw[List.getElem?_replicate]at h2;split at h2<;>cases h2
  have ha:vs[i]?=some v:=by
   unfold dX at h2;rw[zaS (by simpa using hi),zao]at h2;cases e:vs[i]? with
   |none=>rw[e]at h2;cases h2
   |some a=>rw[e]at h2;cases h2;rfl
  obtain⟨u,hu,rv⟩:=r.get ha;have hp:ps[i]?=some y:=by
   rw[<-S.pre,List.getElem?_take_of_lt (by omega)];exact h1
  have ndP:ps.Nodup:=by rw[<-S.pre];exact S.nd.sublist (List.take_sublist _ _)
  refine⟨u,rv,?_⟩;rcases S.par y (zaX hp)with k|k
  ·exact .inl ⟨k,qP ndP hp hu k⟩
  ·obtain⟨c,e⟩:=tN (n:=s.heap.objs.size+1) k;refine .inr ⟨.inl k,c,e,?_⟩;have q:=x.cell y c e;rw[qR ndP hp hu (by show scope.names.lookup y≠_;rw[k];decide)]at q;exact q
 ·exact e0.hok.fresh (zaW (x.above y c (zaU h)))
 ·unfold dX;show _=N.length;rw[zae,zad,zaN];omega
def Lv{base:Heap}{name:Str}{params:Arguments}{dV kV doc pm cdv ct oc:Value}{an od:Option Addr}
  {osl:Array (Option Value)}  (lk:K.lookup f=some ⟨oc,od,.func (PySem.W.fnOf name qual params body scope dV kV doc pm an cdv ct),osl⟩) (hcd:PySem.W.codeIn K cdv qual=true) (S:FnScope N ps scope)
  (len:∀vs H Q E,sp vs H Q E->vs.length=ps.length)
  (hbody:∀(A:Around) (outer:List Env) (s:Shared) (H:Hp) (vs:List V) (Q:VK) (E:XK),Room k (A.deeper (envOfC qual scope s.heap.objs.size f cdv))->sp vs H Q E ->
   ∃t,PSs (lK CX P w K mg base N qual scope f cdv A outer s H E) body t/\t { nx:=fun _ H'=>Q .non H',rt:=Q } (dX N vs) H):
  FnOk P w K mg base CX (k+1) f (PySem.W.fnOf name qual params body scope dV kV doc pm an cdv ct) ps sp:=by
 refine⟨len,fun A outer s H args us vs Q E hr e0 hb r hsp=>?_⟩;have hl:=len _ _ _ _ hsp;have KX:K.In s.heap:=e0.mod.kin.keeps fun b o e=>(e0.bs b o e).1;have lim:s.heap.NoLimit:=e0.mod.nolimit.keeps fun b o e=>(e0.bs b o e).1;have hkind:∀y∈ps.zip us,scope.names.lookup y.1=some .local\/(scope.names.lookup y.1=some .cell/\((cellsFrom (s.heap.objs.size+1) scope.names []).lookup y.1).isSome=true):=fun⟨n,v⟩ hy=>by
  rcases S.par n (List.of_mem_zip hy).1 with q|q
  ·exact .inl q
  ·exact .inr ⟨q,PySem.W.cellsFrom_some _ _ _ (.inl q)⟩
 refine codeAny_call_function hr.depth (KX _ _ lk) rfl S.co S.gen rfl (PySem.W.codeRec_of KX hcd) (hb _ _ _ _ ?_);refine wpAny_newFunctionEnv_cells S.kind hkind fun env he s1 x=>?_;subst he;refine⟨lim.keeps x.toInCall.keep,codeAny_func ?_⟩;obtain⟨t,ht,hq⟩:=hbody A outer s H vs Q E (hr.deeper _) hsp;have I:Inv (lK CX P w K mg base N qual scope f cdv A outer s H E) [] (dX N vs) H s1:=yf S hr.hd e0 hl r x;refine wpAny_mono (ht [] s1 (dX N vs) H _ I hq) (fun fl s' hs=>?_) fun e s' hs=>hs;have fin:∀{σ':St} {H':Hp} {v:V} {u:Value},Inv (lK CX P w K mg base N qual scope f cdv A outer s H E) [] σ' H' s'->RelV v u->Q v H'->CE outer P w H s Q u s':=
  fun {σ' H' v u} J rv q=>⟨v,H',J.os,J.bare,J.base,J.hok,rv,q⟩
 cases fl with
 |ret u=>
  obtain⟨v,σ',H',J,rv,q⟩:=hs;exact fin J rv q
 |next=>
  obtain⟨σ',H',J,q⟩:=hs;exact fin (v:=V.non) (u:=Value.none) J rfl q
 |brk=>
  obtain⟨_,_,_,q⟩:=hs;exact False.elim q
 |cont=>
  obtain⟨_,_,_,q⟩:=hs;exact False.elim q
section
variable{t:TA}{id T:String}{r:List V->Hp->VK->Prop}
def tCB(r:List V->Hp->VK->Prop)(t:TA):TE:=fun σ H Q=>t σ H fun vs H1=>r vs H1 Q
def ny(hc:CallR X (.builtin id) r)(hg:Gl X x)(hm:X.mg x=none)(hv:bootBuiltins x=some (.builtin id))(ha:PA X (e::es) t)(hn:x≠"__name__":=by decide)(hdb:(x==("__debug__":Str))=false:=by decide)
  (he:starEach (e::es) X.env=(false,eval e X.env)::starEach es X.env:=by rfl) (hpl:(backTo pos (starEach es X.env)).any (·.1)=false:=by rfl):PE X (.Call (.Name x p) (e::es) [] pos) (tCB r t):=by
 intro ρ s σ H Q I h;refine wpAny_Call_Name_kw (eP I hg hm hv ?_ hn hdb);exact PyProof.Rows.callWith_builtin1 (thn (ha pos ρ s σ H _ I h) fun us s1 ⟨vs,H1,I1,r1,q1⟩=>hc ρ s1 σ H1 vs us Q I1 r1 q1) he hpl
def xM(hc:CallR X (.type T) r)(hg:Gl X x)(hm:X.mg x=none)(hv:bootBuiltins x=some (.type T))(ha:PA X (e::es) t)(hn:x≠"__name__":=by decide)(hdb:(x==("__debug__":Str))=false:=by decide)
  (he:starEach (e::es) X.env=(false,eval e X.env)::starEach es X.env:=by rfl) (hpl:(backTo pos (starEach es X.env)).any (·.1)=false:=by rfl):PE X (.Call (.Name x p) (e::es) [] pos) (tCB r t):=by
 intro ρ s σ H Q I h;refine wpAny_Call_Name_kw (eP I hg hm hv ?_ hn hdb);exact PyProof.Rows.callWith_type1 (thn (ha pos ρ s σ H _ I h) fun us s1 ⟨vs,H1,I1,r1,q1⟩=>hc ρ s1 σ H1 vs us Q I1 r1 q1) he hpl
end
end L2
namespace HT
variable{sl:Addr}{vu:Value}{lo hi:Option Int}
open PySem PyProof.Rows
section
open PySem.SeqAt
open PySem.AutoSeq1 (wpAny_loadPart')
open PySem.MeetsSeq PySem.MeetsSeq2 PySem.MeetsSeq3
end
section
variable{prog:Program}{w:World}{A:Around}{E:Value->Shared->Prop}{s:Shared}
def sIx(n d:Nat):Option Int->Nat
 |none=>d
 |some v=>if v<0 then(v+(n:Int)).toNat else min v.toNat n
def sIx_none(n d:Nat):sIx n d none=d:=rfl
def sIx_nat(n d k:Nat):sIx n d (some (k:Int))=min k n:=by
 show(if(k:Int)<0 then((k:Int)+(n:Int)).toNat else min (k:Int).toNat n)=min k n;rw[if_neg (by omega),zaL]
def xC(n d:Nat)(hd:d<=n)(o:Option Int):sIx n d o<=n:=by
 cases o with
 |none=>exact hd
 |some v=>
  show(if v<0 then(v+(n:Int)).toNat else min v.toNat n)<=n;by_cases hv:v<0
  ·rw[if_pos hv];omega
  ·rw[if_neg hv];exact Nat.min_le_right _ _
def vB(v:Int)(n d:Nat):(if v<0 then max (v+(n:Int)) 0 else min v (n:Int))=((sIx n d (some v):Nat):Int):=by
 show(if v<0 then max (v+(n:Int)) 0 else min v (n:Int))=(((if v<0 then(v+(n:Int)).toNat else min v.toNat n):Nat):Int);by_cases hv:v<0
 ·simp only[if_pos hv];omega
 ·simp only[if_neg hv];omega
def wS(lo hi:Option Int)(n:Nat):Builtin.Slice.sliceAdjust lo hi 1 (n:Int)=(((sIx n 0 lo:Nat):Int),((sIx n n hi:Nat):Int)):=by
 have h1:¬((1:Int)<0):=by omega
 unfold Builtin.Slice.sliceAdjust;simp only[h1,if_false];refine Prod.ext ?_ ?_
 ·cases lo with
  |none=>rfl
  |some v=>exact vB v n 0
 ·cases hi with
  |none=>rfl
  |some v=>exact vB v n n
def wf(i j:Nat):Builtin.Slice.slicePlaces (i:Int) (j:Int) 1=j-i:=by
 unfold Builtin.Slice.slicePlaces;have h1:(1:Int)>0:=by omega
 simp only[h1,if_true,Int.ediv_one];split<;>omega
def nW{v:Value}{o:Option Int}{Q:Option Int->Shared->Prop}(p:IsPart v o)(h:Q o s):wpAny (model prog w) A (Builtin.Slice.slicePartIndex v) Q E s:=by
 cases p with
 |none=>exact slicePart_none h
 |int i t=>exact slicePart_int h
def iy{vl:Value}{n:Nat}{Q:Int×Int×Nat->Shared->Prop}(hs:s.heap.IsSliceOf sl vl vu .none)(pl:IsPart vl lo)(pu:IsPart vu hi)
  (h:Q (((sIx n 0 lo:Nat):Int),1,sIx n n hi-sIx n 0 lo) s):wpAny (model prog w) A (Builtin.Slice.sliceApplied (.ref sl) (pure (n:Int))) Q E s:=by
 obtain⟨os,hos,hcs,hds⟩:=id hs;unfold Builtin.Slice.sliceApplied Builtin.Slice.sliceFields;refine zam (zam (wpAny_field hos hds (x:=vl) rfl (zam (wpAny_field hos hds (x:=vu) rfl (zam (wpAny_field hos hds (x:=.none) rfl (zaT ?_)))))));refine zam (slicePart_none ?_);show wpAny _ _ (if((1:Int)==0)=true then _ else _) _ _ s;rw[if_neg (by decide)];refine zam (nW pl (zam (nW pu (zam (zaT ?_)))));show wpAny _ _ (match Builtin.Slice.sliceAdjust lo hi 1 (n:Int)with | (lo,hi)=>pure (lo,(1:Int),Builtin.Slice.slicePlaces lo hi 1)) _ _ s;rw[wS lo hi n];show wpAny _ _ (pure (((sIx n 0 lo:Nat):Int),(1:Int),Builtin.Slice.slicePlaces ((sIx n 0 lo:Nat):Int) ((sIx n n hi:Nat):Int) 1)) _ _ s;rw[wf];exact zaT h
def zI(xs:Array Value)(i k:Nat):((List.range k).filterMap fun(m:Nat)=>xs[((i:Int)+(m:Int)*1).toNat]?).toArray=((xs.toList.drop i).take k).toArray:=by
 have e:(fun(m:Nat)=>xs[((i:Int)+(m:Int)*1).toNat]?)=fun m=>xs[i+m]?:=by
  funext m
  have:((i:Int)+(m:Int)*1).toNat=i+m:=by omega
  rw[this]
 rw[e]
 have:=pick_run xs i k;rw[List.filterMap_map]at this;have e2:((fun x=>xs[x]?)∘fun x=>i+x)=fun m=>xs[i+m]?:=rfl;rw[e2]at this;rw[this]
def getItem_tuple_cut{t:Addr}{items:Array Value}{vl:Value}{Q:Value->Shared->Prop}(ht:IsTup s.heap t items)(hs:s.heap.IsSliceOf sl vl vu .none)(pl:IsPart vl lo)(pu:IsPart vu hi)
  (hw:¬(sIx items.size 0 lo=0/\sIx items.size items.size hi=items.size))
  (h:Q (.ref s.heap.objs.size) { s with heap:=s.heap.push { cls:=.type "tuple",data:=.seq ((items.toList.drop (sIx items.size 0 lo)).take (sIx items.size items.size hi-sIx items.size 0 lo)).toArray } })
  (hsz:items.size<=sizeLine):wpAny (model prog w) A (getItem (.ref t) (.ref sl)) Q E s:=by
 have htake:sizeOk (.seq ((items.toList.drop (sIx items.size 0 lo)).take (sIx items.size items.size hi-sIx items.size 0 lo)).toArray):=by
  show((items.toList.drop (sIx items.size 0 lo)).take (sIx items.size items.size hi-sIx items.size 0 lo)).toArray.size<=sizeLine;rw[zai,zaE,zaF,zaY];omega
 have hj:sIx items.size items.size hi<=items.size:=xC _ _ (zav _) hi;obtain⟨os,hos,hcs,hds⟩:=id hs;have hTs:s.TypeIs (.ref sl) "slice":=⟨os,hos,hcs⟩;unfold getItem
 try with_reducible refine zb1 ?_
 first|refine zam (zaT ?_)|skip
 refine zam (wpAny_sequenceKey ht.typeIs (by decide) ?_);refine zam (zbC (name:=Str.ofString "__getitem__") ht.typeIs PyProof.Rows.slot_tuple_getitem
  (wpAny_call_entry PyProof.Rows.slot_tuple_getitem ht.typeIs entry_tuple_getitem ?_ (args_tuple_getitem _ _)))
 show wpAny _ _ (Builtin.Tuple.tupleItemsOf (.ref t) >>= _) _ _ s;refine zam (tupleItemsOf_ ht ?_);refine zam (wpAny_typeOf hTs ?_);rw[if_pos (by decide)];refine zam (iy hs pl pu ?_);have hno:¬((((sIx items.size 0 lo:Nat):Int)==0&&(1:Int)==1&&(sIx items.size items.size hi-sIx items.size 0 lo)==items.size)=true):=by
  intro q;rw[zbn,zbn]at q;have q1:((sIx items.size 0 lo:Nat):Int)=0:=eq_of_beq q.1.1;have q2:sIx items.size items.size hi-sIx items.size 0 lo=items.size:=eq_of_beq q.2;exact hw ⟨by omega,by omega⟩
 show wpAny _ _ (if(((sIx items.size 0 lo:Nat):Int)==0&&(1:Int)==1&&(sIx items.size items.size hi-sIx items.size 0 lo)==items.size)=true then _ else _) _ _ s;rw[if_neg hno,zI]
 first
  |exact zam (m:=Builtin.Tuple.tupleExact _) (wpAny_newObj_type (zaT ⟨_,rfl,zaT h⟩) htake)
  |exact zam (m:=Builtin.Tuple.tupleExact _) (wpAny_newObj_type (zam (zaT (zaT ⟨_,rfl,zaT h⟩))) htake)
  |exact zam (zam (m:=Builtin.Tuple.tupleExact _) (wpAny_newObj_type (zaT (zaT ⟨_,rfl,zaT h⟩)) htake))
  |exact zam (zam (m:=Builtin.Tuple.tupleExact _) (wpAny_newObj_type (zaT ⟨_,rfl,zaT h⟩) htake))
end
end HT
namespace L2
variable{X:Cx}{e:Expr}{pos:Pos}{n t':Nat}{i:Int}{r:R2}{ρ:List (Addr×Obj)}{σ:St}{H:Hp}{s:Shared}{xs ys:List V}{its its' us:List Value}{T:String}{x:V}
open PySem PySem.Spec PyProof.Rows
abbrev TO:=St->Hp->(Option Int->Hp->Prop)->Prop
def PO(X:Cx)(e:Option Expr)(t:TO):Prop:=
 ∀(ρ:List (Addr×Obj)) (s:Shared) (σ:St) (H:Hp) (Q:Option Int->Hp->Prop),Inv X ρ σ H s->t σ H Q ->
  wpAny (model X.prog X.w) X.A (evalPart e X.env) (fun u s'=>∃o H',Inv X ρ σ H' s'/\IsPart u o/\Q o H') X.xe s
def DG:TO:=fun _ H Q=>Q none H
def KP(t:TE):TO:=fun σ H Q=>t σ H fun x H1=>∃i,x=.int i/\Q (some i) H1
def oE{ns:List Int}:∀{us:List Value},Vals (ns.map V.int) us->IntsAre us ns:=by
 induction ns with
 |nil=>intro us r;rw[za0]at r;cases r;exact .nil
 |cons n ns ih=>
  intro us r;rw[zar]at r;cases r with
  |cons r1 r2=>
   obtain⟨t,e⟩:=r1;subst e;exact .cons n t (ih r2)
section
variable{te:TE}{lo hi:Option Expr}{tl th:TO}{p2:Pos}
def po_none:PO X none DG:=by
 intro ρ s σ H Q I h;rw[evalPart_none];exact zaT ⟨none,H,I,.none,h⟩
def D3(h:PE X e te):PO X (some e) (KP te):=by
 intro ρ s σ H Q I hw;rw[evalPart_some];refine thn (h ρ s σ H _ I hw) ?_;rintro u s1 ⟨x,H1,I1,r1,q1⟩;obtain⟨i,rfl,q⟩:=q1;obtain⟨t,rfl⟩:=r1;exact⟨some i,H1,I1,.int i t,q⟩
def SlR(X:Cx)(r:V->Option Int->Option Int->Hp->VK->Prop):Prop:=
 ∀(ρ:List (Addr×Obj)) (s:Shared) (σ:St) (H:Hp) (x:V) (v vl vu:Value) (lo hi:Option Int) (sl:Addr) (Q:VK),Inv X ρ σ H s->RelV x v->s.heap.IsSliceOf sl vl vu .none->IsPart vl lo->IsPart vu hi->r x lo hi H Q ->
  ∃T id,typeLookup (.type T) "__getitem__"=pure (some (.builtin id))/\s.TypeIs v T/\wpAny (model X.prog X.w) X.A (getItem v (.ref sl)) (EP X ρ σ Q) X.xe s
def tSl(r:V->Option Int->Option Int->Hp->VK->Prop)(te:TE)(tl th:TO):TE:=fun σ H Q=>te σ H fun x H1=>tl σ H1 fun l H2=>th σ H2 fun u H3=>r x l u H3 Q
def zK{r:V->Option Int->Option Int->Hp->VK->Prop}(hr:SlR X r)(he:PE X e te)(hl:PO X lo tl)(hu:PO X hi th):PE X (.Subscript e (.Slice lo hi none p2) pos) (tSl r te tl th):=by
 intro ρ s σ H Q I h;refine Subscript_ (thn (he ρ s σ H _ I h) fun v s1 ⟨x,H1,I1,r1,q1⟩=>?_);refine wpAny_Slice (thn (hl ρ s1 σ H1 _ I1 q1) fun vl s2 ⟨l,H2,I2,pl,q2⟩=>thn (hu ρ s2 σ H2 _ I2 q2) fun vu s3 ⟨u,H3,I3,pu,q3⟩=>?_);rw[evalPart_none];refine zaT ?_;have I4:Inv X ρ σ H3 { s3 with heap:=s3.heap.push { cls:=.type "slice",data:=.fields #[vl,vu,.none] } }:=I3.kept (t':=s3.toks) fun b ob q=>zaf _ q;obtain⟨T,id,hT,ht,hg⟩:=hr ρ { s3 with heap:=s3.heap.push { cls:=.type "slice",data:=.fields #[vl,vu,.none] } } σ H3 x v vl vu l u s3.heap.objs.size Q I4 r1 (Heap.IsSliceOf.new ..) pl pu q3;show wpAny (model X.prog X.w) X.A (subscriptTail e (.Slice lo hi none p2) v (.ref s3.heap.objs.size)) (EP X ρ σ Q) X.xe { s3 with heap:=s3.heap.push { cls:=.type "slice",data:=.fields #[vl,vu,.none] } };exact tail_any (ops:=[.ref s3.heap.objs.size,v]) ht hT hg (by with_unfolding_all rfl)
def fH(xs:List V)(lo hi:Option Int):List V:=(xs.drop (HT.sIx xs.length 0 lo)).take (HT.sIx xs.length xs.length hi-HT.sIx xs.length 0 lo)
def mV(xs:List V)(lo hi:Option Int):(fH xs lo hi).length<=xs.length:=by
 unfold fH;rw[zaE,zaF];omega
def Ih(K:zb7):V->Option Int->Option Int->Hp->VK->Prop:=fun x lo hi H Q=>∃a xs,x=.ref a/\SqT K H a xs /\
 ¬(HT.sIx xs.length 0 lo=0/\HT.sIx xs.length xs.length hi=xs.length)/\∀p,H p=none->Q (.ref p) (upd H p (.tup (fH xs lo hi)))
def HV:SlR X (Ih X.K):=by
 intro ρ s σ H x v vl vu lo hi sl Q I rx hs pl pu h;obtain⟨a,xs,rfl,hx,hw,q⟩:=h;cases rx;obtain⟨its,r,ht,hz⟩:=I.tuple hx;have ξ:its.toArray.size=xs.length:=by rw[zai];exact r.length.symm
 refine⟨"tuple",_,PyProof.Rows.slot_tuple_getitem.lookup,ht.typeIs,?_⟩;refine HT.getItem_tuple_cut ht hs pl pu (by rw[ξ];exact hw) ?_ (by rw[ξ];exact hz);rw[ξ];refine⟨.ref s.heap.objs.size,_,I.laid (t':=s.toks) (o:=.tup (fH xs lo hi)) (fun b ob q=>zaf _ q) (zav _) ?_,rfl,q _ (I.hok.fresh (zav _))⟩;exact⟨zau (mV xs lo hi) hz,_,(r.drop (HT.sIx xs.length 0 lo)).take (HT.sIx xs.length xs.length hi-HT.sIx xs.length 0 lo),IsTupN.new _ _⟩
end
def ixN(n:Nat)(i:Int):Option Nat:=if 0<=i then(if i<n then some i.toNat else none)else if -(n:Int)<=i then some (i+n).toNat else none
def atI{α:Type}(xs:List α)(i:Int):Option α:=(ixN xs.length i).bind fun j=>xs[j]?
def vi{j:Nat}(h:ixN n i=some j):seqIndex? i n=some j/\j<n/\-(n:Int)<=i/\i<n:=by
 unfold ixN at h;by_cases h0:0<=i
 ·rw[if_pos h0]at h;by_cases h1:i<n
  ·rw[if_pos h1]at h;have e:i.toNat=j:=zat h;exact⟨by rw[seqIndex_of h0 h1,e],by omega,by omega,h1⟩
  ·rw[if_neg h1]at h;cases h
 ·rw[if_neg h0]at h;by_cases h1:-(n:Int)<=i
  ·rw[if_pos h1]at h;have e:(i+n).toNat=j:=zat h;exact⟨by rw[seqIndex_neg (by omega) h1,e],by omega,h1,by omega⟩
  ·rw[if_neg h1]at h;cases h
def qm{α:Type}{xs:List α}{v:α}(h:atI xs i=some v):∃j,seqIndex? i xs.length=some j/\xs[j]?=some v/\j<xs.length/\-(xs.length:Int)<=i/\i<xs.length:=by
 unfold atI at h;cases e:ixN xs.length i with
 |none=>rw[e]at h;cases h
 |some j=>
  rw[e]at h;obtain⟨h1,h2,h3,h4⟩:=vi e;exact⟨j,h1,h,h2,h3,h4⟩
def eE(b:Expr):Prop:=∀o i,subscripted b false o i=operate [o,i] (getItem o i)
def IxR(X:Cx)(r:R2):Prop:=
 ∀(value slice:Expr) (ρ:List (Addr×Obj)) (s:Shared) (σ:St) (H:Hp) (x y:V) (v u:Value) (Q:VK),Inv X ρ σ H s->RelV x v->RelV y u->r x y H Q ->
  subscripted slice false v u=operate [v,u] (getItem v u)->wpAny (model X.prog X.w) X.A (subscriptTail value slice v u) (EP X ρ σ Q) X.xe s
def MtR(X:Cx)(id:String)(r:V->List V->Hp->VK->Prop):Prop:=
 ∀(ρ:List (Addr×Obj)) (s:Shared) (σ:St) (H:Hp) (x:V) (xs:List V) (v:Value) (us:List Value) (Q:VK),Inv X ρ σ H s->RelV x v->Vals xs us->r x xs H Q ->
  wpAny (model X.prog X.w) X.A (call (.builtin id) (v::us)) (EP X ρ σ Q) X.xe s
section
variable{a b:Expr}{ta tb:TE} 
def IxR.or{r':R2}(h:IxR X r)(h':IxR X r'):IxR X (fun x y H Q=>r x y H Q\/r' x y H Q):=by
 intro value slice ρ s σ H x y v u Q I rx ry q hs;rcases q with q|q
 ·exact h value slice ρ s σ H x y v u Q I rx ry q hs
 ·exact h' value slice ρ s σ H x y v u Q I rx ry q hs
def rC(hr:IxR X r)(ha:PE X a ta)(hb:PE X b tb)(hs:eE b):PE X (.Subscript a b pos) (tOp r ta tb):=by
 intro ρ s σ H Q I h;exact Subscript_ (AZ ha hb I h fun v u s2 x y H2 I2 rx ry q=>hr a b ρ s2 σ H2 x y v u Q I2 rx ry q (hs _ _))
def we(K:zb7):R2:=fun x y H Q=>∃p xs i v,x=.ref p/\y=.int i/\SqL K H p xs/\atI xs i=some v/\Q v H
def Il(K:zb7):R2:=fun x y H Q=>∃p xs i v,x=.ref p/\y=.int i/\SqT K H p xs/\atI xs i=some v/\Q v H
def Im:R2:=fun x y H Q=>∃z i c,x=.str z/\y=.int i/\z.length<=sizeLine/\atI z.cps.toList i=some c/\Q (.str ⟨#[c]⟩) H
def ix_list:IxR X (we X.K):=by
 intro value slice ρ s σ H x y v u Q I rx ry h hs;obtain⟨p,xs,i,z,rfl,rfl,hq,he,q⟩:=h;cases rx;obtain⟨t,rfl⟩:=ry;obtain⟨its,r,pl,hz⟩:=I.list hq;obtain⟨j,h1,h2,h3,h4,h5⟩:=qm he;obtain⟨w,ew,rw'⟩:=r.get h2;have hl:=r.length;have hn:=jH;have fin:EP X ρ σ Q w s:=⟨z,H,I,rw',q⟩;by_cases h0:0<=i
 ·have hj:i.toNat=j:=by
   rw[seqIndex_of h0 h5]at h1;exact zat h1
  exact item_listR pl.isList h0 (by omega) (by rw[hj];simpa using ew) fin hs
 ·have hj:(i+(its.toArray.size:Int)).toNat=j:=by
   rw[seqIndex_neg (by omega) h4]at h1;rw[zai,<-hl];exact zat h1
  exact subscriptTail_builtinR (x:=w) pl.isList.typeIs slot_list_getitem.lookup
   (wpAny_getItem_list_neg (Q:=fun r s'=>r=w/\EP X ρ σ Q r s') pl.isList (by omega) (by rw[zai]<;>omega) (by omega) (by rw[hj];simpa using ew) ⟨rfl,fin⟩) hs
def ix_tup:IxR X (Il X.K):=by
 intro value slice ρ s σ H x y v u Q I rx ry h hs;obtain⟨p,xs,i,z,rfl,rfl,hq,he,q⟩:=h;cases rx;obtain⟨t,rfl⟩:=ry;obtain⟨its,r,pl,hz⟩:=I.tuple hq;obtain⟨j,h1,h2,h3,h4,h5⟩:=qm he;obtain⟨w,ew,rw'⟩:=r.get h2;have hl:=r.length;have hn:=jH;have fin:EP X ρ σ Q w s:=⟨z,H,I,rw',q⟩;exact subscriptTail_builtinR (x:=w) pl.typeIs slot_tuple_getitem.lookup
  (getItem_tuple (j:=j) (Q:=fun r s'=>r=w/\EP X ρ σ Q r s') pl (by omega) (by omega) (by rw[zai,<-hl];exact h1) (by simpa using ew) ⟨rfl,fin⟩) hs
def Jm:IxR X Im:=by
 intro value slice ρ s σ H x y v u Q I rx ry h hs;obtain⟨z,i,c,rfl,rfl,hz,he,q⟩:=h;obtain⟨t,rfl⟩:=rx;obtain⟨t',rfl⟩:=ry;obtain⟨j,h1,h2,h3,h4,h5⟩:=qm he;have hl:z.cps.toList.length=z.length:=by simp[Str.length]
 rw[hl]at h1 h4 h5;have hn:=jH;exact tail_any (typeIs_str s z t) slot_str_getitem.lookup (getItem_str (c:=c) (by
  have e1:decide (i < -(2 ^ 63:Int))=false:=zaA (by omega);have e2:decide (i >= 2 ^ 63)=false:=zaA (by omega);rw[e1,e2,Bool.or_false]) (by rw[h1];simpa using h2) ⟨.str ⟨#[c]⟩,H,I.tok _,⟨_,rfl⟩,q⟩) hs
def rIx(K:zb7):R2:=fun x y H Q=>we K x y H Q\/Il K x y H Q\/Im x y H Q
def ix_seq:IxR X (rIx X.K):=ix_list.or (ix_tup.or Jm)
def wu(its:List Value)(n j:Nat)(u:Value):Obj.mapSeq (·.setIfInBounds j u) { cls:=.type "list",data:=.seq its.toArray n }={ cls:=.type "list",data:=.seq (its.set j u).toArray n }:=by
 simp[Obj.mapSeq]
def Inv.lst{ρ:List (Addr×Obj)}{σ:St}{H:Hp}{s:Shared}{p:Addr}{xs:List V}(I:Inv X ρ σ H s)(h:H p=some (.lst xs)):
  ∃(its:List Value) (n:Nat),Vals xs its/\s.heap.get? p=some { cls:=.type "list",data:=.seq its.toArray n }/\xs.length<=sizeLine:=by
 obtain⟨z,its,n,r,e⟩:=I.hok p _ h;exact⟨its,n,r,e,z⟩
def Inv.lstUpd{p:Addr}{n':Nat}{f:Obj->Obj}(I:Inv X ρ σ H s)(h:H p=some (.lst xs))
  (ho:s.heap.get? p=some { cls:=.type "list",data:=.seq its.toArray n }) (hf:f { cls:=.type "list",data:=.seq its.toArray n }={ cls:=.type "list",data:=.seq its'.toArray n' }) (r:Vals ys its') (hz:ys.length<=sizeLine) (t:Nat):
  Inv X ρ σ (upd H p (.lst ys)) { s with heap:=s.heap.update p f,toks:=t }:=by
 have e:(s.heap.update p f).get? p=some { cls:=.type "list",data:=.seq its'.toArray n' }:=by
  rw[Heap.get?_update_self f ho (by rw[hf]<;>rfl),hf]
 refine I.write (x:=p) (e:=p) (by rw[h];trivial) (.inl rfl) (fun b u hb q=>(zbA _ _ (Ne.symm hb)).trans q) ⟨_,e⟩ ?_;exact⟨hz,its',n',r,e⟩
def wd:V->V->V->Hp->(Hp->Prop)->Prop:=fun o i v H Q=>∃p xs k j,o=.ref p/\i=.int k/\H p=some (.lst xs)/\ixN xs.length k=some j/\Q (upd H p (.lst (xs.set j v)))
def rS:KH X wd:=by
 intro ρ s σ H o i v ov iv u Q I ro ri rv h;obtain⟨p,xs,k,j,rfl,rfl,hp,hj,q⟩:=h;cases ro;obtain⟨t,rfl⟩:=ri;obtain⟨its,n,r,ho,hz⟩:=I.lst hp;obtain⟨h1,h2,h3,h4⟩:=vi hj;have hl:=r.length;have hn:=jH;have I':Inv X ρ σ (upd H p (.lst (xs.set j v))) { s with heap:=s.heap.update p (Obj.mapSeq (·.setIfInBounds j u)) }:=
  I.lstUpd hp ho (wu its n j u) (r.set rv j) (by rw[zaV];exact hz) s.toks
 by_cases h0:0<=k
 ·have hk:k.toNat=j:=by
   rw[seqIndex_of h0 h4]at h1;exact zat h1
  exact PySem.W.ki_setAt ho h0 (by omega) (by rw[zai,<-hl];exact h4) (by rw[hk];exact⟨_,I',q⟩)
 ·have hk:(k+(its.toArray.size:Int)).toNat=j:=by
   rw[seqIndex_neg (by omega) h3]at h1;rw[zai,<-hl];exact zat h1
  exact PySem.W.ki_setBack ho (by omega) (by rw[zai,<-hl];exact h3) (by omega) (by rw[hk];exact⟨_,I',q⟩)
def rR(lo hi:Option Int)(n:Nat):(sliceBounds lo hi none n).1=((HT.sIx n 0 lo:Nat):Int)/\(sliceBounds lo hi none n).2.1=((HT.sIx n n hi:Nat):Int)/\(sliceBounds lo hi none n).2.2=1:=by
 refine⟨?_,?_,rfl⟩
 ·cases lo with
  |none=>simp[sliceBounds,HT.sIx]
  |some i=>
   simp only[sliceBounds,HT.sIx,Option.getD_none,show(1:Int)>0 by decide,if_true];by_cases h:i<0
   ·simp only[h,if_true]<;>omega
   ·simp only[h,if_false]<;>omega
 ·cases hi with
  |none=>simp[sliceBounds,HT.sIx]
  |some i=>
   simp only[sliceBounds,HT.sIx,Option.getD_none,show(1:Int)>0 by decide,if_true];by_cases h:i<0
   ·simp only[h,if_true]<;>omega
   ·simp only[h,if_false]<;>omega
def rf(its:List Value)(lo hi:Option Int):slicePick its.toArray lo hi none=((its.drop (HT.sIx its.length 0 lo)).take (HT.sIx its.length its.length hi-HT.sIx its.length 0 lo)).toArray:=by
 obtain⟨h1,h2,h3⟩:=rR lo hi its.toArray.size;unfold slicePick;rw[h1,h2,h3];simp only[sliceRange_one,pick_run,zai]<;>rfl
def Ii(K:zb7):V->Option Int->Option Int->Hp->VK->Prop:=fun x lo hi H Q=>∃a xs,x=.ref a/\SqL K H a xs/\∀p,H p=none->Q (.ref p) (upd H p (.lst (fH xs lo hi)))
def DL:SlR X (Ii X.K):=by
 intro ρ s σ H x v vl vu lo hi sl Q I rx hs pl pu h;obtain⟨a,xs,rfl,hx,q⟩:=h;cases rx;obtain⟨its,r,ht,hz⟩:=I.list hx;have ξ:=r.length;refine⟨"list",_,slot_list_getitem.lookup,ht.isList.typeIs,?_⟩;refine wpAny_getItem_list_slice ht.isList hs pl pu .none (by simp) ?_ (by rw[zai]<;>omega);rw[rf,<-ξ];refine⟨.ref s.heap.objs.size,_,I.laid (t':=s.toks) (o:=.lst (fH xs lo hi)) (fun b ob q=>zaf _ q) (zav _) ?_,rfl,q _ (I.hok.fresh (zav _))⟩;exact⟨zau (mV xs lo hi) hz,_,0,(r.drop (HT.sIx xs.length 0 lo)).take (HT.sIx xs.length xs.length hi-HT.sIx xs.length 0 lo),zan _ rfl⟩
def eqV:V->V->Bool
 |.non,.non=>true
 |.bl a,.bl b=>a==b
 |.bl a,.int b=>(if a then 1 else 0)==b
 |.int a,.bl b=>a==(if b then 1 else 0)
 |.int a,.int b=>a==b
 |.str a,.str b=>a==b
 |_,_=>false
def eqU(x:V)(u:Value):Bool:=match u with
 |.none=>eqV .non x
 |.bool b=>eqV (.bl b) x
 |.int i _=>eqV (.int i) x
 |.str z _=>eqV (.str z) x
 |_=>false
def tQ:CallR X (.type "list") (fun xs H Q=>∃p ys,xs=[.ref p]/\(SqL X.K H p ys\/SqT X.K H p ys)/\∀l,H l=none->Q (.ref l) (upd H l (.lst ys))):=by
 intro ρ s σ H xs us Q I r h;obtain⟨p,ys,rfl,hq,q⟩:=h;obtain⟨u,rfl,rx⟩:=cS r;cases rx;have fin:∀(its:List Value),Vals ys its->ys.length<=sizeLine->∀(h':Heap) (c':Nat),(∀b o',s.heap.get? b=some o'->h'.get? b=some o') ->
   h'.get? s.heap.objs.size=some { cls:=.type "list",dict:=none,data:=.seq its.toArray c',slots:=#[] }->EP X ρ σ Q (.ref s.heap.objs.size) { s with heap:=h' }:=fun its r' hz h' c' kp e=>
  ⟨.ref s.heap.objs.size,_,I.laid (t':=s.toks) kp (zav _) (show ObjOk X.prog X.w _ h' _ (.lst ys)from⟨hz,its,c',r',e⟩),rfl,q _ (I.hok.fresh (zav _))⟩
 rcases hq with hq|hq
 ·obtain⟨its,r',pl,hz⟩:=I.list hq;have ξ:=r'.length;obtain⟨o,ho,hc,n,hd⟩:=pl.isList;exact call_list_seq p (.inl rfl) ho hc hd (fun h' c' kp e=>fin its r' hz h' c' kp e) (by simp only[zai]<;>omega)
 ·obtain⟨its,r',pl,hz⟩:=I.tuple hq;have ξ:=r'.length;obtain⟨o,ho,hc,n,hd⟩:=pl;exact call_list_seq p (.inr rfl) ho hc hd (fun h' c' kp e=>fin its r' hz h' c' kp e) (by simp only[zai]<;>omega)
def tyV(K:zb7)(T:String)(x:V)(H:Hp):Prop:=match x with
 |.str _=>T="str"
 |.int _=>T="int"
 |.ref p=>(T="list"/\∃xs,SqL K H p xs)\/(T="tuple"/\∃o,K.lookup p=some o/\o.cls=.type "tuple"/\o.dict=none) \/
   (T="dict"/\((∃kvs,H p=some (.dK kvs))\/∃kvs,H p=some (.dT kvs)))\/(T="set"/\∃S n,H p=some (.set S n))
 |_=>False
def xj{v:Value}(I:Inv X ρ σ H s)(r:RelV x v)(ty:tyV X.K T x H):
  s.TypeIs v T/\∀a,v=.ref a->∃ob,s.heap.get? a=some ob/\ob.dict=none:=by
 cases x with
 |str z=>
  obtain⟨t,rfl⟩:=r;cases(show T="str" from ty);exact⟨typeIs_str s z t,fun _ e=>nomatch e⟩
 |int i=>
  obtain⟨t,rfl⟩:=r;cases(show T="int" from ty);exact⟨typeIs_int s i t,fun _ e=>nomatch e⟩
 |ref p=>
  cases r;rcases ty with⟨rfl,xs,hq⟩|⟨rfl,o,hk,hc,hd⟩|⟨rfl,hk⟩|⟨rfl,S,n,hk⟩
  ·obtain⟨its,_,pl,_⟩:=I.list hq;refine⟨pl.isList.typeIs,fun a e=>?_⟩;cases e;obtain⟨o,n,e,c,hd,_⟩:=pl;exact⟨o,e,hd⟩
  ·refine⟨⟨o,I.kIn p o hk,hc⟩,fun a e=>?_⟩;cases e;exact⟨o,I.kIn _ o hk,hd⟩
  ·have z:∃o,s.heap.get? p=some o/\o.ExactDict:=by
    rcases hk with⟨kvs,hk⟩|⟨kvs,hk⟩
    ·obtain⟨_,_,_,_,o,_,_,e,ex,_⟩:=I.hok p _ hk;exact⟨o,e,ex⟩
    ·obtain⟨_,_,_,_,o,_,_,e,ex,_⟩:=I.hok p _ hk;exact⟨o,e,ex⟩
   obtain⟨o,e,ex⟩:=z;refine⟨⟨o,e,ex.1⟩,fun a e2=>?_⟩;cases e2;exact⟨o,e,ex.2.1⟩
  ·obtain⟨o,_,_,_,e,ex,_⟩:=I.hok p _ hk;refine⟨⟨o,e,ex.1⟩,fun a e2=>?_⟩;cases e2;exact⟨o,e,ex.2.1⟩
 |_=>exact False.elim ty
def zh(K:zb7)(T:String)(r:V->List V->Hp->VK->Prop)(to:TE):TE:=fun σ H Q=>to σ H fun x H1=>tyV K T x H1/\r x [] H1 Q
def tBM(K:zb7)(T:String)(r:V->List V->Hp->VK->Prop)(to:TE)(t:TA):TE:=fun σ H Q=>to σ H fun x H1=>tyV K T x H1/\t σ H1 fun xs H2=>r x xs H2 Q
variable{o:Expr}{es:List Expr}{to:TE}{t:TA}{name:Str}{μ ω:Pos}{id:String}{r:V->List V->Hp->VK->Prop}
def xN(pa:PlainAttrs T)(slot:Slot T name id)(hty:typeOf (.builtin id)=pure (.type "method_descriptor"))(hm:MtR X id r)(ho:PE X o to)
  (η:attributeBase o name X.env (eval o X.env)=eval o X.env:=by rfl) (θ:(μ.endLine==ω.line)=true:=by rfl):PE X (.Call (.Attribute o name μ) [] [] ω) (zh X.K T r to):=by
 intro ρ s σ H Q I h;refine wpAny_Call_method0_late η θ (thn (ho ρ s σ H _ I h) fun v s1 ⟨x,H1,I1,r1,ty,q1⟩=>?_);obtain⟨h1,h2⟩:=xj I1 r1 ty;exact⟨T,id,pa,slot,hty,h1,h2,Calls.callWith_builtin rfl (PySem.evalArgs_none (hm ρ s1 σ H1 x [] v [] Q I1 r1 .nil q1))⟩
def Dd(pa:PlainAttrs T)(slot:Slot T name id)(hty:typeOf (.builtin id)=pure (.type "method_descriptor"))(hm:MtR X id r)(ho:PE X o to)(ha:PA X (e::es) t)
  (η:attributeBase o name X.env (eval o X.env)=eval o X.env:=by rfl)
  (hfew:((backTo ω (starEach (e::es) X.env)).all (fun x=>!x.1)&&(backToKw ω (keywordEach [] X.env)).all (fun x=>x.1.isSome)
  &&decide ((e::es).length+([]:List Keyword).length+(if([]:List Keyword).isEmpty then 0 else 1)<30))=true:=by rfl)
  (θ:(μ.endLine==ω.line)=true:=by rfl) (hs:starEach (e::es) X.env=(false,eval e X.env)::starEach es X.env:=by rfl) (ι:(backTo ω (starEach es X.env)).any (·.1)=false:=by rfl):
  PE X (.Call (.Attribute o name μ) (e::es) [] ω) (tBM X.K T r to t):=by
 intro ρ s σ H Q I h;refine wpAny_Call_method_late η hfew θ rfl (thn (ho ρ s σ H _ I h) fun v s1 ⟨x,H1,I1,r1,ty,q1⟩=>?_);obtain⟨h1,h2⟩:=xj I1 r1 ty;refine⟨T,id,pa,slot,hty,h1,h2,?_⟩;have hA:=ha ω ρ s1 σ H1 _ I1 q1;rw[hs]at hA ⊢;refine Calls.callWith_builtin (by show(false || (backTo ω (starEach es X.env)).any (·.1))=false;rw[ι]<;>rfl) (Calls.evalArgs_plain ?_);exact thn hA fun us s2 ⟨vs,H2,I2,r2,q2⟩=>hm ρ s2 σ H2 x vs v us Q I2 r1 r2 q2
end
def MtM(X:Cx)(id:String)(r:V->List V->Hp->VK->Prop):Prop:=
 ∀(ρ:List (Addr×Obj)) (s:Shared) (σ:St) (H:Hp) (x:V) (xs:List V) (v:Value) (us:List Value) (Q:VK),Inv X ρ σ H s->RelV x v->Vals xs us->r x xs H Q ->
  wpAny (model X.prog X.w) X.A (call (.builtin id) (v::us)) (EP X ρ σ Q) X.xe s
def Vals.one:∀{x:V} {us:List Value},Vals [x] us->∃u,us=[u]/\RelV x u
 |_,_,.cons r .nil=>⟨_,rfl,r⟩
def Vals.two{y:V}(h:Vals [x,y] us):∃u v,us=[u,v]/\RelV x u/\RelV y v:=by
 cases h with
 |cons r t=>
  cases t with
  |cons q n=>
   cases n;exact⟨_,_,rfl,r,q⟩
def Vals.zero:∀{us:List Value},Vals [] us->us=[]
 |_,.nil=>rfl
theorem Vals.dropLast(h:Vals xs us):Vals xs.dropLast us.dropLast:=by
 induction h with
 |nil=>exact .nil
 |cons r t ih=>
  cases t with
  |nil=>exact .nil
  |cons q t'=>exact .cons r ih
theorem Vals.rep{xs:List V}{us:List Value}(h:Vals xs us):∀k:Nat,Vals (List.replicate k xs).flatten (List.replicate k us).flatten
 |0=>.nil
 |k+1=>by
  rw[List.replicate_succ,List.replicate_succ,List.flatten_cons,List.flatten_cons];exact Vals.append h (Vals.rep h k)
def km{α:Type}(l:List α):l.eraseIdx (l.length-1)=l.dropLast:=by
 induction l with
 |nil=>rfl
 |cons a r ih=>
  cases r with
  |nil=>rfl
  |cons b r=>
   have e:(a::b::r).length-1=((b::r).length-1)+1:=by
    have h1:(a::b::r).length=r.length+2:=rfl;have h2:(b::r).length=r.length+1:=rfl;omega
   rw[e,List.eraseIdx_cons_succ,ih]
   all_goals rfl
section
variable{l b:Addr}{zs:List V}
def Inv.lset{f:Array Value->Array Value}(I:Inv X ρ σ H s)(hH:H l=some (.lst xs))
  (e:s.heap.get? l=some { cls:=.type "list",data:=.seq its.toArray n }) (hf:f its.toArray=its'.toArray) (hv:Vals ys its') (hz:ys.length<=sizeLine):
  Inv X ρ σ (upd H l (.lst ys)) { s with heap:=s.heap.update l (Obj.mapSeq f),toks:=t' }:=by
 have q:=PySem.IsL.update e f;rw[hf]at q;refine I.write (x:=l) (e:=l) (by rw[hH];exact trivial) (.inl rfl) (fun b' u hb hu=>(zbA s.heap (Obj.mapSeq f) (Ne.symm hb)).trans hu) ⟨_,q⟩ ?_;exact⟨hz,its',_,hv,q⟩
def Inv.lnew(I:Inv X ρ σ H s)(hv:Vals ys its)(hz:ys.length<=sizeLine):
  Inv X ρ σ (upd H s.heap.objs.size (.lst ys)) { s with heap:=s.heap.push { cls:=.type "list",data:=.seq its.toArray },toks:=t' }:=
 I.laid (fun _ _ q=>zaf _ q) (zav _) ⟨hz,its,0,hv,zan _ rfl⟩
def Inv.fresh(I:Inv X ρ σ H s):H s.heap.objs.size=none:=I.hok.fresh (zav _)
def Inv.lstM(I:Inv X ρ σ H s)(hH:H l=some (.lst xs)):xs.length<=sizeLine/\∃(its:List Value) (n:Nat),Vals xs its/\xs.length=its.length/\s.heap.get? l=some { cls:=.type "list",data:=.seq its.toArray n }:=by
 obtain⟨z,its,n,r,e⟩:=I.hok l _ hH;exact⟨z,its,n,r,r.length,e⟩
def zP(h:n<=sizeLine):Builtin.List.listTooLong n=false:=by
 unfold Builtin.List.listTooLong;exact zaA (by omega)
end
def pM:V->List V->Hp->VK->Prop:=fun x vs H Q=>∃l xs y,x=.ref l/\vs=[y]/\H l=some (.lst xs)/\xs.length<sizeLine/\Q .non (upd H l (.lst (xs++[y])))
def lh:MtM X "list.append" pM:=by
 intro ρ s σ H x vs v us Q I rx rv h;obtain⟨l,xs,y,rfl,rfl,hH,hz,q⟩:=h;cases rx;obtain⟨u,rfl,ru⟩:=rv.one;obtain⟨z,its,n,r,hl,e⟩:=I.lstM hH;refine call_meets F.slot_list_append ⟨_,e,rfl⟩ F.entry_list_append (F.args_list_append_2 _ _) (PySem.list_append l its.toArray n u (by rw[zai];omega)) ⟨e,?_⟩;refine⟨.non,_,I.lset (its':=its++[u]) hH e (by simp) (r.append (.cons ru .nil)) ?_,rfl,q⟩;rw[zae,List.length_singleton];omega
def Ik:V->List V->Hp->VK->Prop:=fun x vs H Q=>∃l xs y,x=.ref l/\vs=[]/\H l=some (.lst xs)/\xs[xs.length-1]?=some y/\Q y (upd H l (.lst xs.dropLast))
def IP:MtM X "list.pop" Ik:=by
 intro ρ s σ H x vs v us Q I rx rv h;obtain⟨l,xs,y,rfl,rfl,hH,hy,q⟩:=h;cases rx;have hus:=rv.zero;subst hus;obtain⟨z,its,n,r,hl,e⟩:=I.lstM hH;obtain⟨u,hu,ru⟩:=r.get hy;have hy':its.toArray[its.toArray.size-1]?=some u:=by
  show its.toArray[its.length-1]?=some u;rw[<-Array.getElem?_toList,<-hl];exact hu
 refine call_meets F.slot_list_pop ⟨_,e,rfl⟩ F.entry_list_pop (F.args_list_pop_1 _) (MeetsSeq.list_pop_last l its.toArray n u hy' (by rw[zai];omega)) ⟨e,?_⟩;refine⟨y,_,I.lset (its':=its.dropLast) hH e ?_ r.dropLast ?_,ru,q⟩
 ·show its.toArray.eraseIdxIfInBounds (its.toArray.size-1)=its.dropLast.toArray;rw[zai,List.eraseIdxIfInBounds_toArray,km]
 ·rw[List.length_dropLast];omega
def xF:V->List V->Hp->VK->Prop:=fun x vs H Q=>∃l xs,x=.ref l/\vs=[]/\H l=some (.lst xs)/\Q .non (upd H l (.lst []))
def zT:MtM X "list.clear" xF:=by
 intro ρ s σ H x vs v us Q I rx rv h;obtain⟨l,xs,rfl,rfl,hH,q⟩:=h;cases rx;have hus:=rv.zero;subst hus;obtain⟨z,its,n,r,hl,e⟩:=I.lstM hH;refine call_meets F.slot_list_clear ⟨_,e,rfl⟩ F.entry_list_clear (F.args_list_clear_1 _) (AutoSeq1.list_clear_list_0 l its.toArray n (by rw[zai];omega)) ⟨e,?_⟩;exact⟨.non,_,I.lset (its':=[]) (ys:=[]) hH e rfl .nil (zbk _),rfl,q⟩
def Em{α:Type}(xs:List α)(k:Nat):(List.replicate k xs).flatten.length=k*xs.length:=by
 induction k with
 |zero=>simp
 |succ k ih=>rw[List.replicate_succ,List.flatten_cons,zae,ih,Nat.succ_mul,Nat.add_comm]
end L2
namespace Att
variable{P:Params}{h:Heap}{l:OpenLaw}{n:Nat}
open PySem PySem.W PySem.Calls PyProof.Rows
def oD:∀(ns:List Int) (vs:List Value),WellAll P h vs (ns.map WData.int)->IntsAre vs ns:=by
 intro ns
 induction ns with
 |nil=>
  intro vs w;rw[za0]at w;cases w;exact .nil
 |cons n ns ih=>
  intro vs w;rw[zar]at w;cases w with
  |cons a b=>
   cases a;exact .cons _ _ (ih _ b)
def xw(hn:l.most=some n){args:List WData}{vals:List Value}
  (hpre:l.row.toRowW.claim.pre args=true) (hwl:WellAll P h vals args):
  ∃a vs ns,vals=[Value.ref a]/\args=[WData.list (ns.map WData.int)]/\h.get? a=some { cls:=.type "list",data:=.seq vs.toArray }/\IntsAre vs ns/\ns.length<=n:=by
 have hsh:WShape.hasAll [] args [.list .int]=true:=(pre_splitW hpre).1;have hc:l.pre.holds [] { args:=args }=true:=(pre_splitW hpre).2;obtain⟨d,r,rfl,h1,h2⟩:=hasAllW_cons hsh;obtain rfl:=hasAllW_nil h2;obtain⟨xs,rfl,h3⟩:=hasW_list h1;obtain⟨ns,rfl⟩:=items_int h3;have ξ:ns.length<=n:=by
  unfold OpenLaw.pre at hc;have h4:(WTm.not (.lt (.lit (.int (n:Int))) (.len (.arg 0)))).holds [] { args:=[.list (ns.map .int)] }=true:=by
   have h4:=(holds_andW hc).1;rw[hn]at h4;exact h4
  have h5:=condW_of h4 (w_not (w_lt w_lit (w_len_list (w_arg rfl))));rw[zad]at h5;refine Nat.le_of_not_lt fun q=>?_;have q':(n:Int)<((ns.length:Nat):Int):=by omega
  first
   | (rw[zaB q']at h5;exact absurd h5 (by decide))
   | (simp at h5;omega)
 cases hwl with
 |cons w1 w2=>
  cases w2;cases w1 with
  |list ho hall=>exact⟨_,_,ns,rfl,rfl,ho,oD ns _ hall,ξ⟩
def xI(l:OpenLaw)(args:List WData):l.row.toRowW.claim.post args (.bool true) args=true:=
 postW_of (r:=l.row.toRowW) (X:=(true==true))
  (show WShape.has [] (.bool true) .bool=true by first|rfl|decide|simp[WShape.has,WShape.arms,WShape.armsAll])
  (show(WTm.eq .res (.lit (.bool true))).value [] { args:=args,res:=some (.bool true),after:=args }=some (.bool (true==true))from w_eq_bool (w_res rfl) w_lit) rfl
def attach_call{q:Program}{fA:List Str}{XP:(Str->Option Value)->Heap->Prop}{YP:World->Heap->Prop}{d:DefRec}
  (hn:l.most=some n) (hdf:d.params.defaults=[])
  (call:∀(w:World) (s₀ s₁:Shared) (mg mb:Str->Option Value) (fa:Addr) (o:Obj) (pm cd doc:Value) (a:Addr) (vs:List Value) (ns:List Int),
   Ground q fA [] XP w s₀ mg mb s₁.heap->YP w s₁.heap ->
   s₁.heap.get? fa=some o->o.data=.func (docDef d.name d.params d.body d.scope pm cd doc)->s₁.heap.CodeRec cd d.name->mg d.name=some (.ref fa) ->
   s₁.heap.get? a=some { cls:=.type "list",data:=.seq vs.toArray }->IntsAre vs ns->ns.length<=n->s₁.gens=#[] ->
   codeAny (model l.prog w) callerA (.call (.ref fa) ⟨[.ref a],[]⟩) (fun r s'=>r=.ok (.ret (.bool true))/\OldK s₁.heap s'.heap/\s'.os=s₁.os/\AllBare s'.gens) s₁):
  WalkO q fA XP YP l.row.toRowW d [] (fun f vs=>PySem.call f vs):=by
 intro w s₀ s₁ mg mb G Y fa o pm cd doc dV kV ho hd hcd hD hmg hg args vals as hpre hlay hrd hwl hlo;obtain rfl:dV=.none:=Dflts.none hD hdf;obtain rfl:kV=.none:=Dflts.noKw hD;obtain⟨a,vs,ns,rfl,rfl,hobj,hints,ξ⟩:=xw hn hpre hwl;refine enter_call (codeAny_mono (call w s₀ s₁ mg mb fa o pm cd doc a vs ns G Y ho (fd_plain hd) hcd hmg hobj hints ξ hg) fun r s' hq=>?_);obtain⟨rfl,h2,h3,h4⟩:=hq;exact⟨.inl ⟨.bool true,.bool true,[],rfl,fun _=>rfl,.bool true,xI l _,fun _=>⟨List.Pairwise.nil,fun _ hm=>(nomatch hm)⟩⟩,h2,h3,h4⟩
end Att
namespace L2
variable{P:Program}{w:World}{K:zb7}{mg:Str->Option Value}{a f:Addr}{fd:FuncData}{x qual:Str}{X:Cx}{st:Stmt}{A:Around}{pos:Pos}{o:Option V}{u r:Value}{d y:V}{H H':Hp}{kvs:List (List Key×V)}{xs:List (List Key×Addr×Value)}{ρ:List (Addr×Obj)}{σ:St}{s:Shared}{E Q:Value->Shared->Prop}{h':Heap}{value e:Expr}{td ty tv:TE}
open PySem PySem.Spec PyProof.Rows
theorem qz:∀{vs:List Value} {ns:List Int},IntsAre vs ns->Vals (ns.map V.int) vs
 |_,_,.nil=>.nil
 |_,_,.cons n t h=>.cons ⟨t,rfl⟩ (qz h)
def A4(H:Hp):Prop:=∀b,H b=none\/∃o xs,H b=some (.frz o (.lst xs))
def zY{mb:Str->Option Value}{CX:CXT}{k:Nat}{fa:Addr}{sp:Sp}{s₁:Shared}{vs:List Value}{ns:List Int}
  (KX:K.In s₁.heap) (hns:s₁.heap.Ns mainGlobals mg) (hb:s₁.heap.Ns builtinsNs mb) (hbb:∀x:Str,x≠"__name__"->mb x=bootBuiltins x) (hlim:s₁.heap.NoLimit) (hmods:∃mm,s₁.heap.Ns sysModules mm) (hg:s₁.gens=#[])
  (ha:s₁.heap.get? a=some { cls:=.type "list",data:=.seq vs.toArray }) (hi:IntsAre vs ns) (hl:ns.length<=sizeLine) (hr:Room k callerA)
  (F:∀base:Heap,K.In base->base.Ns mainGlobals mg->FnOk P w K mg base CX k fa fd [x] sp) (hbind:∀(s:Shared) (u:Value),BindsTo s fd ⟨[u],[]⟩ [(x,u)])
  (hsp:∀H:Hp,A4 H->SqL K H a (ns.map V.int)->sp [.ref a] H (fun v _=>v=.bl true) fun _ _ _=>False)
  (hCX:∀H e s',CX [] H s₁ (fun _ _ _=>False) e s'->False):
  codeAny (model P w) callerA (.call (.ref fa) ⟨[.ref a],[]⟩) (fun r s'=>r=.ok (.ret (.bool true))/\OldK s₁.heap s'.heap/\s'.os=s₁.os/\AllBare s'.gens) s₁:=by
 have rv:=qz hi;have lenV:=hi.length;have core:∀H:Hp,A4 H->SqL K H a (ns.map V.int)->HOk P w H s₁.heap->(∀b,H b≠none->b=a)->(H a≠none->K.lookup a=none) ->
   codeAny (model P w) callerA (.call (.ref fa) ⟨[.ref a],[]⟩) (fun r s'=>r=.ok (.ret (.bool true))/\OldK s₁.heap s'.heap/\s'.os=s₁.os/\AllBare s'.gens) s₁:=by
  intro H hO hS hok hA hK;have base_of:∀{b:Addr} {o:Obj},s₁.heap.get? b=some o->H b=none->(kd s₁.heap H).get? b=some o:=fun e n=>Ar e n;have noA:∀{b:Addr} {o:Obj} {es:Array DictEntry} {ep:Nat},s₁.heap.get? b=some o->o.data=.dict es ep->H b=none:=fun {b o es ep} e d=>by
   cases q:H b with
   |none=>rfl
   |some u=>
    have e':b=a:=hA b (by rw[q];simp);subst e';rw[ha]at e;cases e;have d':Data.seq vs.toArray _=Data.dict es ep:=d;cases d'
  have nsK:∀{b:Addr} {m:Str->Option Value},s₁.heap.Ns b m->(kd s₁.heap H).Ns b m:=fun {b m} ⟨o,es,ep,e,d,r⟩=>⟨o,es,ep,base_of e (noA e d),d,r⟩;have hKb:K.In (kd s₁.heap H):=fun b o e=>base_of (KX b o e) (by
   cases q:H b with
   |none=>rfl
   |some u=>
    have e':b=a:=hA b (by rw[q];simp);subst e';rw[hK (by rw[q];simp)]at e;cases e)
  have hM:Mod K mg (kd s₁.heap H):=⟨hKb,nsK hns,⟨mb,nsK hb,hbb⟩,let⟨mc,h1,h2⟩:=hlim;⟨mc,nsK h1,h2⟩,let⟨mm,h1⟩:=hmods;⟨mm,nsK h1⟩⟩;have e0:Env0 P w K mg (kd s₁.heap H) callerA [] s₁ H:=⟨rfl,hM,fun b o e=>Ee e,Nat.le_of_eq (yg _ _),trivial,fun b hb=>absurd (show b∈([]:List Addr)from hb) (by simp),hok,.of_eq hg⟩;refine codeAny_mono ((F _ hKb (nsK hns)).run callerA [] s₁ H ⟨[.ref a],[]⟩ [.ref a] [.ref a] _ _ hr e0 (hbind s₁ (.ref a)) (.cons rfl .nil) (hsp H hO hS)) fun r s' h=>?_;cases r with
  |error e=>exact(hCX H e s' h).elim
  |ok fl=>
   cases fl with
   |next=>exact False.elim h
   |brk=>exact False.elim h
   |cont=>exact False.elim h
   |ret u=>
    obtain⟨v,H',os,bare,un,hok',r',q⟩:=h;have q':v=.bl true:=q;subst q';obtain rfl:u=Value.bool true:=r';refine⟨rfl,OldK.of_keep fun b o e=>?_,os,bare⟩;cases q:H b with
    |none=>exact un.keep b o e q (by intro z;exact absurd (show b∈([]:List Addr)from z) (by simp)) (by simp)
    |some u=>
     rcases hO b with z|⟨ob,xs,z⟩
     ·rw[q]at z;cases z
     ·have z2:=un.frzs b ob _ z;obtain⟨e1,_⟩:=hok b _ z;obtain⟨e2,_⟩:=hok' b _ z2;rw[e]at e1;cases e1;exact e2
 cases hk:K.lookup a with
 |some o=>
  have e:=KX a o hk;rw[ha]at e;cases e;refine core (fun _=>none) (fun _=>.inl rfl) (.inr ⟨_,vs.toArray,_,hk,rfl,rfl,rfl,by rw[zai,lenV];exact hl,by simpa using rv⟩) (fun b u z=>by have z':(none:Option HO)=some u:=z;cases z') (fun b z=>absurd rfl z) fun z=>absurd rfl z
 |none=>
  refine core (fun b=>if b=a then some (.frz { cls:=.type "list",data:=.seq vs.toArray } (.lst (ns.map V.int)))else none) (fun b=>?_) (.inl (.inr ⟨{ cls:=.type "list",data:=.seq vs.toArray },if_pos rfl⟩)) (fun b u z=>?_) (fun b z=>?_) fun _=>hk
  ·by_cases hb:b=a
   ·exact .inr ⟨_,_,if_pos hb⟩
   ·exact .inl (if_neg hb)
  ·by_cases hb:b=a
   ·have z':=(if_pos hb).symm.trans z;cases z';subst hb;exact⟨ha,by rw[zad];exact hl,vs,_,rv,ha⟩
   ·have z':=(if_neg hb).symm.trans z;cases z'
  ·by_cases hb:b=a
   ·exact hb
   ·exact absurd (if_neg hb) z
def walk_of{l:PySem.W.OpenLaw}{n k:Nat}{q:Program}{fA:List Str}{XP:(Str->Option Value)->Heap->Prop}{YP:World->Heap->Prop}{d:DefRec}{K:Params->zb7}{CX:World->CXT}{sp:World->Sp} 
  (hn:l.most=some n) (hn2:n<=sizeLine) (hdf:d.params.defaults=[]) (hr:Room k callerA)
  (hq:importsNone q=true) (hY:∀(w:World) (h:Heap),YP w h->(K w.params).In h)
  (F:∀(w:World) (mg:Str->Option Value) (fa:Addr) (h:Heap),(K w.params).In h->h.Ns mainGlobals mg->mg d.name=some (.ref fa) ->
   ∃fd:FuncData,(∀(s:Shared) (u:Value),BindsTo s fd ⟨[u],[]⟩ [(x,u)]) /\
    ∀base:Heap,(K w.params).In base->base.Ns mainGlobals mg->FnOk l.prog w (K w.params) mg base (CX w) k fa fd [x] (sp w))
  (hsp:∀(w:World) (H:Hp) (a:Addr) (ns:List Int),ns.length<=n->A4 H->SqL (K w.params) H a (ns.map V.int)->sp w [.ref a] H (fun v _=>v=.bl true) fun _ _ _=>False)
  (hCX:∀(w:World) (H:Hp) (s:Shared) (e:Value) (s':Shared),CX w [] H s (fun _ _ _=>False) e s'->False):
  PySem.W.WalkO q fA XP YP l.row.toRowW d [] (fun f vs=>PySem.call f vs):=by
 refine Att.attach_call hn hdf fun w s₀ s₁ mg mb fa o pm cd doc a vs ns G Y ho hd hcd hmg hobj hints ξ hg=>?_;have KX:=hY w _ Y;obtain⟨fd,hb,hF⟩:=F w mg fa _ KX G.T.g hmg;exact zY KX G.T.g G.T.b G.T.builtins G.T.nolimit (let⟨mm,hm,_⟩:=(G.T.seer hq).mods;⟨mm,hm⟩) hg hobj hints (zau ξ hn2) hr hF hb (fun H hO hS=>hsp w H a ns ξ hO hS) fun H e s'=>hCX w H s₁ e s'
def dF(s:Stmt):Arguments:=match s with
 |.FunctionDef _ a _ _ _ _ _ _ _ _=>a
 |_=>{ posonlyargs:=[],args:=[],vararg:=none,kwonlyargs:=[],kw_defaults:=[],kwarg:=none,defaults:=[] }
def cr(s:Stmt):List Stmt:=match s with
 |.FunctionDef _ _ b _ _ _ _ _ _ _=>b
 |_=>[]
def ak(s:Stmt):Scope:=match s with
 |.FunctionDef _ _ _ _ _ _ sc _ _ _=>sc
 |_=>{ kind:=.function,names:=[],isGenerator:=false,isCoroutine:=false }
abbrev CX0:CXT:=fun _ _ _ _ _ _=>False
abbrev E0:XK:=fun _ _ _=>False
def Ld:tY CX0 X E0:=fun _ _ _ _ _ _ _ h=>h.elim
structure Fun(K:zb7)(x qual:Str)(st:Stmt)(f:Addr)(fd:FuncData):Prop where
 ex:∃(oc:Value) (od:Option Addr) (kV doc pm:Value) (an:Option Addr) (cdv ct:Value) (osl:Array (Option Value)),
  fd=PySem.W.fnOf x qual (dF st) (cr st) (ak st) .none kV doc pm an cdv ct/\K.lookup f=some ⟨oc,od,.func fd,osl⟩/\PySem.W.codeIn K cdv qual=true
 kp:PySem.W.keepIn K (.ref f)=true
section
variable{base:Heap}
def Fun.ok{x qual:Str}{st:Stmt}{f:Addr}{fd:FuncData}{N ps:List Str}{k:Nat}{sp:Sp}(F:Fun K x qual st f fd)(S:FnScope N ps (ak st))(len:∀vs H Q E,sp vs H Q E->vs.length=ps.length)
  (hbody:∀(cdv:Value) (A:Around) (outer:List Env) (s:Shared) (H:Hp) (vs:List V) (Q:VK) (E:XK),Room k (A.deeper (envOfC qual (ak st) s.heap.objs.size f cdv))->sp vs H Q E ->
   ∃t,PSs (lK CX0 P w K mg base N qual (ak st) f cdv A outer s H E).nox (cr st) t/\t { nx:=fun _ H'=>Q .non H',rt:=Q } (dX N vs) H):FnOk P w K mg base CX0 (k+1) f fd ps sp:=by
 obtain⟨oc,od,kV,doc,pm,an,cdv,ct,osl,rfl,lk,hcd⟩:=F.ex;refine Lv lk hcd S len fun A outer s H vs Q E hr hsp=>?_;obtain⟨t,h,q⟩:=hbody cdv A outer s H vs Q E hr hsp;exact⟨t,h.nox,q⟩
def Fun.binds{ps:List Str}(F:Fun K x qual st f fd)
  (h:∀(kV doc pm:Value) (an:Option Addr) (cdv ct:Value) (us:List Value),us.length=ps.length->bindArgs (PySem.W.fnOf x qual (dF st) (cr st) (ak st) .none kV doc pm an cdv ct) ⟨us,[]⟩=pure (ps.zip us)):Binds K fd ps []:=by
 obtain⟨oc,od,kV,doc,pm,an,cdv,ct,osl,rfl,lk,hcd⟩:=F.ex;exact .all (h kV doc pm an cdv ct)
def sS{oc:Value}{od an:Option Addr}{osl:Array (Option Value)}{kV doc pm cdv ct:Value}(l:K.lookup f=some ⟨oc,od,.func (PySem.W.fnOf x qual (dF st) (cr st) (ak st) .none kV doc pm an cdv ct),osl⟩)
  (c:PySem.W.codeIn K cdv qual=true) (k:PySem.W.keepIn K (.ref f)=true):Fun K x qual st f (PySem.W.fnOf x qual (dF st) (cr st) (ak st) .none kV doc pm an cdv ct):=⟨⟨oc,od,kV,doc,pm,an,cdv,ct,osl,rfl,l,c⟩,k⟩
end
def aT{k:Nat}(hr:Room k A):A.units+1<cLine:=Nat.lt_of_le_of_lt (Nat.add_le_add_left (by decide:1<=64) _) hr.units
def pv(i:Nat)(hN:X.N[i]?=some x:=by rfl)(hv:Vis X.env.scope x:=by first|exact Or.inl rfl|exact Or.inr (Or.inl rfl)|exact Or.inr (Or.inr rfl))(hd:(x==("__debug__":Str))=false:=by decide)
  (hcd:(x==("__classdict__":Str))=false:=by decide):PE X (.Name x pos) (gR i):=dz hN hv hd hcd
def KG(H H':Hp):Prop:=∀b o,H b=some o->H' b=some o
section
variable{κ:Type}[DecidableEq κ]
def dG(kvs:List (κ×V))(k:κ):Option V:=(kvs.find? fun kv=>decide (kv.1=k)).map (·.2)
def b8(kvs:List (κ×V))(k:κ)(v:V):List (κ×V):=
 if(kvs.any fun kv=>decide (kv.1=k))=true then kvs.map (fun kv=>if kv.1=k then(kv.1,v)else kv)else kvs++[(k,v)]
def jZ{p:κ×V}{r:List (κ×V)}{k:κ}(e:p.1=k):dG (p::r) k=some p.2:=by simp[dG,zbp,e]
def j1{p:κ×V}{r:List (κ×V)}{k:κ}(e:¬p.1=k):dG (p::r) k=dG r k:=by simp[dG,zbp,e]
theorem rM(k:κ):∀kvs:List (κ×V),(kvs.any fun kv=>decide (kv.1=k))=(dG kvs k).isSome
 |[]=>rfl
 |p::r=>by
  rw[List.any_cons];by_cases e:p.1=k
  ·simp only[jZ e,zaB e,Bool.true_or,Option.isSome_some]
  ·rw[j1 e,zaA e,Bool.false_or];exact rM k r
def gh(kvs:List (κ×V))(k:κ)(v:V):(b8 kvs k v).length<=kvs.length+1:=by
 unfold b8;split
 ·rw[zad];omega
 ·rw[zae,zac,List.length_nil];omega
def RelO.isSome_eq{u:Option Value}(r:RelO o u):o.isSome=u.isSome:=by
 cases o with
 |none=>cases u with
  |none=>rfl
  |some _=>exact(show False from r).elim
 |some _=>cases u with
  |none=>exact(show False from r).elim
  |some _=>rfl
theorem RelO.getD{u:Option Value}{d':Value}(r:RelO o u)(rd:RelV d d'):RelV (o.getD d) (u.getD d'):=by
 cases o with
 |none=>cases u with
  |none=>exact rd
  |some _=>exact(show False from r).elim
 |some _=>cases u with
  |none=>exact(show False from r).elim
  |some _=>exact r
def KV.val{kvs:List (κ×V)}{vs:List (κ×Value)}(r:KV kvs vs)(k:κ):RelO (dG kvs k) (valueAt vs k):=by
 unfold KV at r
 induction r with
 |nil=>exact True.intro
 |@cons p q ps qs h t ih=>
  obtain⟨h1,h2⟩:=h;by_cases e:p.1=k
  ·have e':q.1=k:=h1.symm.trans e;have b:valueAt (q::qs) k=some q.2:=by simp[valueAt,zbp,e']
   rw[jZ e,b];exact h2
  ·have e':¬q.1=k:=fun z=>e (h1.trans z);have b:valueAt (q::qs) k=valueAt qs k:=by simp[valueAt,zbp,e']
   rw[j1 e,b];exact ih
theorem KV.any{kvs:List (κ×V)}{vs:List (κ×Value)}(r:KV kvs vs)(k:κ):(kvs.any fun kv=>decide (kv.1=k))=vs.any fun kv=>decide (kv.1=k):=by
 unfold KV at r
 induction r with
 |nil=>rfl
 |cons h t ih=>rw[List.any_cons,List.any_cons,ih,h.1]
def KV.repl{kvs:List (κ×V)}{vs:List (κ×Value)}(r:KV kvs vs)(k:κ)(ry:RelV y u):
  KV (kvs.map fun kv=>if kv.1=k then(kv.1,y)else kv) (vs.map fun kv=>if kv.1=k then(kv.1,u)else kv):=by
 unfold KV at r ⊢
 induction r with
 |nil=>exact .nil
 |@cons p q ps qs h t ih=>
  rw[zar,zar];refine .cons ?_ ih;obtain⟨h1,h2⟩:=h;by_cases e:p.1=k
  ·rw[if_pos e,if_pos (h1.symm.trans e)];exact⟨h1,ry⟩
  ·rw[if_neg e,if_neg (fun z=>e (h1.trans z))];exact⟨h1,h2⟩
def KV.put{kvs:List (κ×V)}{vs:List (κ×Value)}(r:KV kvs vs)(k:κ)(ry:RelV y u):KV (b8 kvs k y) (stored vs k u):=by
 unfold b8 stored;rw[r.any k];by_cases e:(vs.any fun kv=>decide (kv.1=k))=true
 ·rw[if_pos e,if_pos e];exact r.repl k ry
 ·rw[if_neg e,if_neg e];exact Paired.snoc r ⟨rfl,ry⟩
def KV.keys{kvs:List (κ×V)}{vs:List (κ×Value)}(r:KV kvs vs):kvs.map (·.1)=vs.map (·.1):=by
 unfold KV at r
 induction r with
 |nil=>rfl
 |cons h t ih=>rw[zar,zar,ih,h.1]
def KV.length{kvs:List (κ×V)}{vs:List (κ×Value)}(r:KV kvs vs):kvs.length=vs.length:=Paired.length r
end
def i5{k:Key}(r:RelV (kV k) u):(aM P w).is k u=true:=by
 cases k with
 |inl i=>obtain⟨t,e⟩:=(show ∃t,u=Value.int i t from r);subst e;exact uC P w i t
 |inr x=>obtain⟨t,e⟩:=(show ∃t,u=Value.str x t from r);subst e;exact uB P w x t
def IY{a b:Key}(e:kV a=kV b):a=b:=by
 cases a with
 |inl i=>cases b with
  |inl j=>have e':V.int i=V.int j:=e;injection e' with e';rw[e']
  |inr y=>exact nomatch (show V.int i=V.str y from e)
 |inr x=>cases b with
  |inl j=>exact nomatch (show V.str x=V.int j from e)
  |inr y=>have e':V.str x=V.str y:=e;injection e' with e';rw[e']
theorem qJ{P:Program}{w:World}:∀{ks:List Key} {us:List Value},Vals (ks.map kV) us->ItemsAre (aM P w) ks us
 |[],_,r=>by rw[za0]at r;cases r;exact .nil
 |k::ks,_,r=>by
  rw[zar]at r;cases r with
  |cons h t=>exact .cons (i5 h) (qJ t)
abbrev KT(H:Hp):List (List Key×V)->List (List Key×Addr×Value)->Prop:=Paired fun p q=>p.1=q.1/\H q.2.1=some (.tup (p.1.map kV))/\RelV p.2 q.2.2
def KT.val(r:KT H kvs xs)(k:List Key):RelO (dG kvs k) ((atKey xs k).map (·.2)):=by
 induction r with
 |nil=>exact True.intro
 |@cons p q ps qs h t ih=>
  obtain⟨h1,_,h2⟩:=h;by_cases e:p.1=k
  ·have e':q.1=k:=h1.symm.trans e;have b:atKey (q::qs) k=some q.2:=by simp[atKey,zbp,e']
   rw[jZ e,b];exact h2
  ·have e':¬q.1=k:=fun z=>e (h1.trans z);have b:atKey (q::qs) k=atKey qs k:=by simp[atKey,zbp,e']
   rw[j1 e,b];exact ih
def KT.repl(r:KT H kvs xs)(k:List Key)(ry:RelV y u):
  KT H (kvs.map fun kv=>if kv.1=k then(kv.1,y)else kv) (xs.map (putAt k u)):=by
 induction r with
 |nil=>exact .nil
 |@cons p q ps qs h t ih=>
  rw[zar,zar];refine .cons ?_ ih;obtain⟨h1,h2,h3⟩:=h;unfold putAt;by_cases e:p.1=k
  ·rw[if_pos e,if_pos (h1.symm.trans e)];exact⟨h1,h2,ry⟩
  ·rw[if_neg e,if_neg (fun z=>e (h1.trans z))];exact⟨h1,h2,h3⟩
def KT.put(r:KT H kvs xs)(k:List Key){b:Addr}(hb:H b=some (.tup (k.map kV)))(ry:RelV y u):
  KT H (b8 kvs k y) (storedH xs k b u):=by
 have e:(kvs.any fun kv=>decide (kv.1=k))=(atKey xs k).isSome:=by
  rw[rM,(r.val k).isSome_eq,Option.isSome_map]
 unfold b8 storedH;rw[e];by_cases q:(atKey xs k).isSome=true
 ·rw[if_pos q,if_pos q];exact r.repl k ry
 ·rw[if_neg q,if_neg q];exact Paired.snoc r ⟨rfl,hb,ry⟩
def KT.keeps(r:KT H kvs xs)(ht:∀b ys,H b=some (.tup ys)->H' b=some (.tup ys)):KT H' kvs xs:=
 Paired.mapP r fun _ _ z=>⟨z.1,ht _ _ z.2.1,z.2.2⟩
section
variable{h:Heap} 
def Db{u:HO}(ok:HOk P w H h)(e:Rd H a u):ObjOk P w H h a u:=e.ok ok
def eX{kvs:List (Key×V)}(ok:HOk P w H h)(e:Rd H a (.dK kvs)):kvs.length<=sizeLine/\(a==sysModules)=false/\∃vs,KV kvs vs/\h.DictOf (aM P w) a vs:=
 show ObjOk P w H h a (.dK kvs)from Db ok e
def wM{kvs:List (Key×V)}(ok:HOk P w H h)(e:H a=some (.dK kvs)):kvs.length<=sizeLine/\(a==sysModules)=false/\∃vs,KV kvs vs/\h.DictOf (aM P w) a vs:=eX ok (.inl e)
def jI{ks:List Key}(ok:HOk P w H h)(e:H a=some (.tup (ks.map kV))):(tupleKind (aM P w)).is h ks a:=by
 obtain⟨_,its,r,o,h1,h2,n,h3⟩:=(show ObjOk P w H h a (.tup (ks.map kV))from ok a _ e);exact⟨o,its.toArray,n,h1,h2,h3.1,by simpa using qJ r⟩
def ku(ok:HOk P w H h)(e:Rd H a (.dT kvs)):kvs.length<=sizeLine/\(a==sysModules)=false /\
  ∃xs,KT H kvs xs/\h.DictOfH (tupleKind (aM P w)) a xs:=by
 obtain⟨z,y,xs,r,o,es,ep,h1,h2,h3,h4,h5⟩:=(show ObjOk P w H h a (.dT kvs)from Db ok e);refine⟨z,y,xs,r,o,es,ep,h1,h2,h3,h4,fun x hx=>?_,h5⟩;have all:∀{l:List (List Key×V)} {m:List (List Key×Addr×Value)},KT H l m->∀x∈m,(tupleKind (aM P w)).is h x.1 x.2.1:=by
  intro l m q
  induction q with
  |nil=>intro x hx;exact nomatch hx
  |@cons p q ps qs hq t ih=>
   intro x hx;rcases zay.mp hx with e|hx
   ·subst e;exact jI ok (by rw[<-hq.1];exact hq.2.1)
   ·exact ih x hx
 exact all r x hx
def wL(ok:HOk P w H h)(e:H a=some (.dT kvs)):kvs.length<=sizeLine/\(a==sysModules)=false /\
  ∃xs,KT H kvs xs/\h.DictOfH (tupleKind (aM P w)) a xs:=ku ok (.inl e)
end
def DGet(H:Hp)(a:Addr)(y:V)(r:Option V):Prop:=
 (∃kvs k,Rd H a (.dK kvs)/\y=kV k/\r=dG kvs k)\/∃kvs k b,Rd H a (.dT kvs)/\y=.ref b/\H b=some (.tup (k.map kV))/\r=dG kvs k
def DPut(H:Hp)(a:Addr)(y v:V)(H':Hp):Prop:=
 (∃kvs k,H a=some (.dK kvs)/\y=kV k/\kvs.length<sizeLine/\H'=upd H a (.dK (b8 kvs k v))) \/
 ∃kvs k b,H a=some (.dT kvs)/\y=.ref b/\H b=some (.tup (k.map kV))/\kvs.length<sizeLine/\H'=upd H a (.dT (b8 kvs k v))
def DGet.k{H:Hp}{a:Addr}{kvs:List (Key×V)}{k:Key}(e:H a=some (.dK kvs)):DGet H a (kV k) (dG kvs k):=.inl ⟨kvs,k,.inl e,rfl,rfl⟩
def DPut.k{H:Hp}{a:Addr}{kvs:List (Key×V)}{k:Key}{v:V}(e:H a=some (.dK kvs))(hl:kvs.length<sizeLine):DPut H a (kV k) v (upd H a (.dK (b8 kvs k v))):=.inl ⟨kvs,k,e,rfl,hl,rfl⟩
section
variable{v:V}   
def Inv.big(I:Inv X ρ σ H s):sysModules<s.heap.objs.size:=by
 have h:mainGlobals<s.heap.objs.size:=(I.mod.glob.keeps I.bk).lt;exact Nat.lt_trans (by decide) h
def yL(hu:A.units+1<cLine)(I:Inv X ρ σ H s)(g:DGet H a y (some v))(ry:RelV y u)(h:∀w' s',Inv X ρ σ H s'->RelV v w'->Q w' s'):
  wpAny (model X.prog X.w) A (getItem (.ref a) u) Q E s:=by
 rcases g with⟨kvs,k,e,ey,l⟩|⟨kvs,k,b,e,ey,eb,l⟩
 ·subst ey;obtain⟨z,hd,vs,rel,dd⟩:=eX I.hok e;obtain⟨w',hw,rw'⟩:=RelO.some_of (v:=v) (o:=valueAt vs k) (by rw[l];exact rel.val k);exact wpAny_getItem_of (i5 ry) dd.mapOf hw (h w' _ (I.tok _) rw')
 ·subst ey;cases(show u=Value.ref b from ry);obtain⟨z,hd,xs,rel,dd⟩:=ku I.hok e;obtain⟨w',hw,rw'⟩:=RelO.some_of (v:=v) (o:=(atKey xs k).map (·.2)) (by rw[l];exact rel.val k);obtain⟨p,hp,hp2⟩:=zab.mp hw;refine wpAny_getItem_heap (tupleKind_room_in1 hu) (jI I.hok eb) dd hp ?_;rw[hp2];exact h w' _ (I.tok _) rw'
def Ks(hu:A.units+1<cLine)(I:Inv X ρ σ H s)(g:DGet H a y o)(ry:RelV y u)(h:∀s',Inv X ρ σ H s'->Q (.bool o.isSome) s'):
  wpAny (model X.prog X.w) A (compareOp .In u (.ref a)) Q E s:=by
 rcases g with⟨kvs,k,e,ey,l⟩|⟨kvs,k,b,e,ey,eb,l⟩
 ·subst ey;obtain⟨z,hd,vs,rel,dd⟩:=eX I.hok e;refine wpAny_in_of (i5 ry) hd dd.mapOf ?_;rw[<-(rel.val k).isSome_eq,<-l];exact h _ (I.tok _)
 ·subst ey;cases(show u=Value.ref b from ry);obtain⟨z,hd,xs,rel,dd⟩:=ku I.hok e;refine wpAny_in_heap (tupleKind_room_in1 hu) (jI I.hok eb) hd dd ?_;have q:=(rel.val k).isSome_eq;rw[Option.isSome_map]at q;rw[<-q,<-l];exact h _ (I.tok _)
def Fz(hu:A.units+1<cLine)(I:Inv X ρ σ H s)(g:DGet H a y o)(ry:RelV y u)(h:∀s',Inv X ρ σ H s'->Q (.bool (!o.isSome)) s'):
  wpAny (model X.prog X.w) A (compareOp .NotIn u (.ref a)) Q E s:=by
 rcases g with⟨kvs,k,e,ey,l⟩|⟨kvs,k,b,e,ey,eb,l⟩
 ·subst ey;obtain⟨z,hd,vs,rel,dd⟩:=eX I.hok e;refine wpAny_notIn_of (i5 ry) hd dd.mapOf ?_;rw[<-(rel.val k).isSome_eq,<-l];exact h _ (I.tok _)
 ·subst ey;cases(show u=Value.ref b from ry);obtain⟨z,hd,xs,rel,dd⟩:=ku I.hok e;refine wpAny_notIn_heap (tupleKind_room_in1 hu) (jI I.hok eb) hd dd ?_;have q:=(rel.val k).isSome_eq;rw[Option.isSome_map]at q;rw[<-q,<-l];exact h _ (I.tok _)
def qj{t':Nat}{ob:HO}(I:Inv X ρ σ H s)(mu:Mut (H a))(hs:Heap.SameBut a s.heap h')(he:∃q,h'.get? a=some q)(new:ObjOk X.prog X.w (upd H a ob) h' a ob):
  Inv X ρ σ (upd H a ob) { s with heap:=h',toks:=t' }:=
 I.write (x:=a) (e:=a) mu (.inl rfl) (fun b q hb z=>(hs.2 b hb).trans z) he new
def tG{kvs:List (Key×V)}{vs:List (Key×Value)}(z:kvs.length<=sizeLine)(hd:(a==sysModules)=false)(rel:KV kvs vs)(dd:h'.DictOf (aM P w) a vs):
  ObjOk P w H' h' a (.dK kvs):=⟨z,hd,vs,rel,dd⟩
def yK{Q:Unit->Shared->Prop}(hu:A.units+1<cLine)(I:Inv X ρ σ H s)(g:DPut H a y v H')(ry:RelV y u)(rv:RelV v r)(h:∀s',Inv X ρ σ H' s'->Q () s'):
  wpAny (model X.prog X.w) A (setItem (.ref a) u r) Q E s:=by
 rcases g with⟨kvs,k,e,ey,l,eH⟩|⟨kvs,k,b,e,ey,eb,l,eH⟩
 ·subst ey eH;obtain⟨z,hd,vs,rel,dd⟩:=wM I.hok e;have hz:vs.length<=sizeLine:=by rw[<-rel.length];exact z
  have hl:(b8 kvs k v).length<=sizeLine:=by have:=gh kvs k v;omega
  refine wpAny_setItem_pairs (hsz:=hz) (i5 ry) dd fun h' dd' hs=>h _ ?_;have he:∃q,h'.get? a=some q:=let⟨q,_,_,hq,_⟩:=dd';⟨q,hq⟩;exact qj I (by rw[e];exact True.intro) hs he (tG hl hd (rel.put k rv) dd')
 ·subst ey eH;cases(show u=Value.ref b from ry);obtain⟨z,hd,xs,rel,dd⟩:=wL I.hok e;have hz:xs.length<=sizeLine:=by rw[<-Paired.length rel];exact z
  have hl:(b8 kvs k v).length<=sizeLine:=by have:=gh kvs k v;omega
  refine wpAny_setItem_heap (hsz:=hz) (tupleKind_room_in1 hu) (jI I.hok eb) dd fun h' dd' hs=>h _ ?_;obtain⟨q,es,ep,hq,h2,h3,h4,_,h5⟩:=dd';refine qj I (by rw[e];exact True.intro) hs ⟨q,hq⟩ ⟨hl,hd,_,(rel.put k eb rv).keeps fun c ys ec=>?_,q,es,ep,hq,h2,h3,h4,h5⟩;rw[aE (Lk ec e (fun z=>nomatch z))];exact ec
end
def qv(i:Expr):Prop:=∀ov iv,subscripted i false ov iv=operate [ov,iv] (getItem ov iv)
def DH{prog:Program}{env:Env}{slice:Expr}{T id:String} 
  (hl:typeLookup (.type T) "__getitem__"=pure (some (.builtin id))) (hs:qv slice)
  (h:wpAny (model prog w) A (eval value env) (fun o s₁=>wpAny (model prog w) A (eval slice env) (fun i s₂=>s₂.TypeIs o T/\wpAny (model prog w) A (getItem o i) Q E s₂) E s₁) E s):
  wpAny (model prog w) A (eval (.Subscript value slice pos) env) Q E s:=by
 refine Subscript_ (wpAny_mono h (fun o s₁ h₁=>wpAny_mono h₁ (fun i s₂ h₂=>?_) fun _ _ x=>x) fun _ _ x=>x);obtain⟨hT,h₂⟩:=h₂;unfold subscriptTail;refine zam ?_;rw[getitemInPython_of_ne hT.not_modules];refine zam (wpAny_specialOf hT hl ?_);have fin:wpAny (model prog w) A (subscripted slice false o i) (fun r s₃=>wpAny (model prog w) A (letTemporaryGo value o r >>= fun _=>pure r) Q E s₃) E s₂:=by
  rw[hs o i];exact wpAny_operating (wpAny_mono h₂ (fun r s₃ h₃=>zam (wpAny_letTemporaryGo (zaT h₃))) fun _ _ x=>x)
 first
  |exact zaT (zam fin)
  |exact zam (zaT (zam fin))
  |exact zam fin
def uG(I:Inv X ρ σ H s)(g:DGet H a y o):s.TypeIs (.ref a) "dict":=by
 rcases g with⟨kvs,k,e,_,_⟩|⟨kvs,k,b,e,_,_,_⟩
 ·obtain⟨_,_,vs,_,dd⟩:=eX I.hok e;exact dd.typeIs
 ·obtain⟨_,_,xs,_,dd⟩:=ku I.hok e;exact dd.typeIs
def vX(td ty:TE):TE:=fun σ H Q=>td σ H fun x H1=>ty σ H1 fun y H2=>∃a v,x=.ref a/\DGet H2 a y (some v)/\Q v H2
def HM(ty td:TE):TE:=fun σ H Q=>ty σ H fun y H1=>td σ H1 fun x H2=>∃a o,x=.ref a/\DGet H2 a y o/\Q (.bl o.isSome) H2
def uO(ty td:TE):TE:=fun σ H Q=>ty σ H fun y H1=>td σ H1 fun x H2=>∃a o,x=.ref a/\DGet H2 a y o/\Q (.bl (!o.isSome)) H2
def C9(td ty tv:TE):TS:=fun D σ H=>tv σ H fun v H1=>td σ H1 fun x H2=>ty σ H2 fun y H3=>∃a H4,x=.ref a/\DPut H3 a y v H4/\D.nx σ H4
section
variable{o i:Expr}{pos' tpos:Pos} 
def uY(hu:X.A.units+1<cLine)(ho:PE X o td)(hi:PE X i ty)(hs:qv i):PE X (.Subscript o i pos) (vX td ty):=by
 intro ρ s σ H Q I h;refine DH PySem.F.slot_dict_getitem.lookup hs (thn (ho ρ s σ H _ I h) fun u s1 ⟨x,H1,I1,rx,q1⟩=>thn (hi ρ s1 σ H1 _ I1 q1) fun iv s2 ⟨y,H2,I2,ry,a,v,ex,g,q2⟩=>?_);subst ex;obtain rfl:u=Value.ref a:=rx;exact⟨uG I2 g,yL hu I2 g ry fun w' s3 I3 rw'=>⟨v,H2,I3,rw',q2⟩⟩
def IG(hu:X.A.units+1<cLine)(hi:PE X i ty)(ho:PE X o td):PC X .In i o (HM ty td):=by
 intro ρ s σ H Q I h;refine thn (hi ρ s σ H _ I h) fun iv s1 ⟨y,H1,I1,ry,q1⟩=>thn (ho ρ s1 σ H1 _ I1 q1) fun u s2 ⟨x,H2,I2,rx,a,ov,ex,g,q2⟩=>?_;subst ex;obtain rfl:u=Value.ref a:=rx;exact Ks hu I2 g ry fun s3 I3=>⟨.bl ov.isSome,H2,I3,rfl,q2⟩
def xO(hu:X.A.units+1<cLine)(hi:PE X i ty)(ho:PE X o td):PC X .NotIn i o (uO ty td):=by
 intro ρ s σ H Q I h;refine thn (hi ρ s σ H _ I h) fun iv s1 ⟨y,H1,I1,ry,q1⟩=>thn (ho ρ s1 σ H1 _ I1 q1) fun u s2 ⟨x,H2,I2,rx,a,ov,ex,g,q2⟩=>?_;subst ex;obtain rfl:u=Value.ref a:=rx;exact Fz hu I2 g ry fun s3 I3=>⟨.bl (!ov.isSome),H2,I3,rfl,q2⟩
def D0(hu:X.A.units+1<cLine)(ho:PE X o td)(hi:PE X i ty)(hv:PE X value tv)(hs:swapsWith value (some (.Subscript o i pos')) pos.line X.env=pure false):
  PS X (.Assign [.Subscript o i pos'] value pos) (C9 td ty tv):=by
 intro ρ s σ H D I h;refine wpAny_Assign_Subscript (thn (hv ρ s σ H _ I h) fun r s1 ⟨v,H1,I1,rv,q1⟩=>thn (ho ρ s1 σ H1 _ I1 q1) fun u s2 ⟨x,H2,I2,rx,q2⟩=>thn (hi ρ s2 σ H2 _ I2 q2) fun iv s3 ⟨y,H3,I3,ry,a,H4,ex,g,q3⟩=>?_) hs;subst ex;obtain rfl:u=Value.ref a:=rx;exact yK hu I3 g ry rv fun s4 I4=>⟨σ,H4,I4,q3⟩
end
def tH(h:Heap)(hb:sysModules<h.objs.size):ObjOk P w H (h.push { cls:=.type "dict",data:=.dict #[] }) h.objs.size (.dK []):=
 ⟨zbk _,zbZ.mpr (Ne.symm (zaw hb)),[],.nil,Heap.DictOf.new h⟩
def HL:TE:=fun _ H Q=>∀p,H p=none->Q (.ref p) (upd H p (.dK []))
def pe_dnewK:PE X (.Dict [] [] pos) HL:=fun ρ s σ H Q I h=>
 wpAny_Dict_empty ⟨.ref s.heap.objs.size,_,I.laid (a:=s.heap.objs.size) (o:=.dK []) (t':=s.toks) (fun _ _ q=>zaf _ q) (zav _) (tH s.heap I.big),rfl,h _ (I.hok.fresh (zav _))⟩
def nQ:List (TE×TE)->St->Hp->(List (V×V)->Hp->Prop)->Prop
 |[],_,H,Q=>Q [] H
 | (tk,tv)::r,σ,H,Q=>tk σ H fun x H1=>tv σ H1 fun y H2=>nQ r σ H2 fun ps H3=>Q ((x,y)::ps) H3
abbrev VV:List (V×V)->List (Value×Value)->Prop:=Paired fun p q=>RelV p.1 q.1/\RelV p.2 q.2
def PPs(X:Cx)(pos:Pos)(keys:List (Option Expr))(values:List Expr)(trs:List (TE×TE)):Prop:=
 ∀(ρ:List (Addr×Obj)) (s:Shared) (σ:St) (H:Hp) (Q:List (V×V)->Hp->Prop),Inv X ρ σ H s->nQ trs σ H Q ->
  wpAny (model X.prog X.w) X.A (evalPairs (pairTrees keys values X.env pos)) (fun vs s'=>∃ps H',Inv X ρ σ H' s'/\VV ps vs/\Q ps H') X.xe s
def D1:PPs X pos [] [] []:=fun ρ s σ H Q I h=>pairTrees_nil_walk ⟨[],H,I,.nil,h⟩
def zG{k v:Expr}{ks:List (Option Expr)}{vs:List Expr}{tk:TE}{trs:List (TE×TE)}(hk:PE X k tk)(hv:PE X v tv)(hr:PPs X pos ks vs trs):
  PPs X pos (some k::ks) (v::vs) ((tk,tv)::trs):=fun ρ s σ H Q I h=>
 pairTrees_cons_walk (thn (hk ρ s σ H _ I h) fun u s1 ⟨x,H1,I1,rx,q1⟩=>thn (hv ρ s1 σ H1 _ I1 q1) fun w2 s2 ⟨y,H2,I2,ry,q2⟩=>
  thn (hr ρ s2 σ H2 _ I2 q2) fun ws s3 ⟨ps,H3,I3,rel,q3⟩=>⟨(x,y)::ps,H3,I3,.cons ⟨rx,ry⟩ rel,q3⟩)
def gB(kvs more:List (Key×V)):List (Key×V):=more.foldl (fun acc kv=>b8 acc kv.1 kv.2) kvs
def KV.merge:∀{more:List (Key×V)} {rs:List (Key×Value)} {kvs:List (Key×V)} {vs:List (Key×Value)},KV more rs->KV kvs vs->KV (gB kvs more) (merged vs rs):=by
 intro more rs kvs vs r;unfold KV at r
 induction r generalizing kvs vs with
 |nil=>intro q;exact q
 |@cons p q ps qs h t ih=>
  intro r0;have e:KV (b8 kvs p.1 p.2) (stored vs q.1 q.2):=by
   have:=r0.put p.1 h.2;rw[<-h.1];exact this
  exact ih e
theorem kO:∀(more kvs:List (Key×V)),(gB kvs more).length<=kvs.length+more.length
 |[],kvs=>by show kvs.length<=kvs.length+0;omega
 |p::r,kvs=>by
  have h1:=kO r (b8 kvs p.1 p.2);have h2:=gh kvs p.1 p.2;show(gB (b8 kvs p.1 p.2) r).length<=_;rw[zac];omega
theorem oV{P:Program}{w:World}:∀{kvs:List (Key×V)} {ws:List (Value×Value)},VV (kvs.map fun kv=>(kV kv.1,kv.2)) ws->∃rs,Carries (aM P w) ws rs/\KV kvs rs
 |[],_,r=>by rw[za0]at r;cases r;exact⟨[],True.intro,.nil⟩
 |p::kvs,_,r=>by
  rw[zar]at r;cases r with
  |@cons a b as bs h t=>
   obtain⟨rs,c,q⟩:=oV (P:=P) (w:=w) t;obtain⟨b1,b2⟩:=b;exact⟨(p.1,b2)::rs,⟨i5 h.1,rfl,c⟩,.cons ⟨rfl,h.2⟩ q⟩
def C5(trs:List (TE×TE)):TE:=fun σ H Q=>∀p,H p=none->nQ trs σ (upd H p (.dK [])) fun ps H2=>H2 p=some (.dK [])/\∃kvs:List (Key×V),ps=kvs.map (fun kv=>(kV kv.1,kv.2))/\kvs.length<=15/\Q (.ref p) (upd H2 p (.dK (gB [] kvs)))
def D8{keys:List (Option Expr)}{values:List Expr}{trs:List (TE×TE)}(h:PPs X pos keys values trs)(hall:keys.all (·.isSome)=true)(hl:keys.length=values.length)(h0:keys≠[])
  (h15:keys.length<=15):PE X (.Dict keys values pos) (C5 trs):=by
 intro ρ s σ H Q I q;have hn:=I.hok.fresh (zav s.heap.objs.size);have I1:=I.laid (a:=s.heap.objs.size) (o:=.dK []) (h':=s.heap.push { cls:=.type "dict",data:=.dict #[] }) (t':=s.toks) (fun _ _ q=>zaf _ q) (zav _) (tH s.heap I.big);refine wpAny_Dict_walk (knd:=aM X.prog X.w) hall hl h0 h15 (thn (h ρ _ σ _ _ I1 (q _ hn)) fun ws s2 ⟨ps,H2,I2,rel,e,kvs,ep,lk,q2⟩=>?_);subst ep;obtain⟨rs,c,rk⟩:=oV (P:=X.prog) (w:=X.w) rel;obtain⟨z,hd,vs0,r0,dd⟩:=wM I2.hok e;cases r0;refine⟨rs,c,dd,fun h' dd' hs=>⟨.ref s.heap.objs.size,_,?_,rfl,q2⟩⟩;have hz:(gB [] kvs).length<=sizeLine:=by
  have h1:=kO kvs [];rw[List.length_nil]at h1;rw[sizeLine_eq];omega
 have he:∃q,h'.get? s.heap.objs.size=some q:=let⟨q,_,_,hq,_⟩:=dd';⟨q,hq⟩;exact qj I2 (by rw[e];exact True.intro) hs he (tG hz hd (rk.merge .nil) dd')
structure M1(X:Cx)(o:Expr)(m:Str)(μ:Pos)(e:Expr)(ω:Pos):Prop where
 base:attributeBase o m X.env (eval o X.env)=eval o X.env
 few:((backTo ω (starEach [e] X.env)).all (fun x=>!x.1)&&(backToKw ω (keywordEach [] X.env)).all (fun x=>x.1.isSome)
 &&decide (([e]:List Expr).length+([]:List Keyword).length+(if([]:List Keyword).isEmpty then 0 else 1)<30))=true
 line:(μ.endLine==ω.line)=true
 trees:backTo ω (starEach [e] X.env)=[(false,eval e X.env)]
structure M2(X:Cx)(o:Expr)(m:Str)(μ:Pos)(e f:Expr)(ω:Pos):Prop where
 base:attributeBase o m X.env (eval o X.env)=eval o X.env
 few:((backTo ω (starEach [e,f] X.env)).all (fun x=>!x.1)&&(backToKw ω (keywordEach [] X.env)).all (fun x=>x.1.isSome)
 &&decide (([e,f]:List Expr).length+([]:List Keyword).length+(if([]:List Keyword).isEmpty then 0 else 1)<30))=true
 line:(μ.endLine==ω.line)=true
 trees:backTo ω (starEach [e,f] X.env)=[(false,eval e X.env),(false,eval f X.env)]
def IsD(H:Hp)(a:Addr):Prop:=(∃kvs,Rd H a (.dK kvs))\/∃kvs,Rd H a (.dT kvs)
def Jn(I:Inv X ρ σ H s)(d:IsD H a):
  s.TypeIs (.ref a) "dict"/\(∀b,Value.ref a=.ref b->∃ob,s.heap.get? b=some ob/\ob.dict=none)/\(a==sysModules)=false:=by
 rcases d with⟨kvs,e⟩|⟨kvs,e⟩
 ·obtain⟨_,hd,vs,_,dd⟩:=eX I.hok e;refine⟨dd.typeIs,fun b q=>?_,hd⟩;cases q;obtain⟨ob,_,_,h1,h2,_⟩:=dd;exact⟨ob,h1,h2.2.1⟩
 ·obtain⟨_,hd,xs,_,dd⟩:=ku I.hok e;refine⟨dd.typeIs,fun b q=>?_,hd⟩;cases q;obtain⟨ob,_,_,h1,h2,_⟩:=dd;exact⟨ob,h1,h2.2.1⟩
def Kt(hu:A.units+1<cLine)(I:Inv X ρ σ H s)(g:DGet H a y o)(ry:RelV y u)(rd:RelV d r)(h:∀w' s',Inv X ρ σ H s'->RelV (o.getD d) w'->Q w' s'):
  wpAny (model X.prog X.w) A (call (.builtin "dict.get") [.ref a,u,r]) Q E s:=by
 rcases g with⟨kvs,k,e,ey,l⟩|⟨kvs,k,b,e,ey,eb,l⟩
 ·subst ey;obtain⟨z,hd,vs,rel,dd⟩:=eX I.hok e;refine call_meetsIn PySem.F.slot_dict_get dd.typeIs PySem.F.entry_dict_get (PySem.F.args_dict_get_3 _ _ _) (meets_dict_get_default (aM X.prog X.w) a (i5 ry) hd r) ⟨_,dd.mapOf,h _ _ (I.tok _) ?_⟩;rw[l];exact(rel.val k).getD rd
 ·subst ey;cases(show u=Value.ref b from ry);obtain⟨z,hd,xs,rel,dd⟩:=ku I.hok e;refine call_meetsIn PySem.F.slot_dict_get dd.typeIs PySem.F.entry_dict_get (PySem.F.args_dict_get_3 _ _ _) (meetsH_dict_get_default (tupleKind (aM X.prog X.w)) a b hd r) ⟨tupleKind_room_in1 hu,k,xs,jI I.hok eb,dd,h _ _ (I.tok _) ?_⟩;rw[l];exact(rel.val k).getD rd
def xt(td ty tx:TE):TE:=fun σ H Q=>td σ H fun x H1=>∃a,x=.ref a/\IsD H1 a/\ty σ H1 fun y H2=>tx σ H2 fun z H3=>∃o,DGet H3 a y o/\Q (o.getD z) H3
section
variable{o f:Expr}{μ ω:Pos}{tx:TE}
def zM(hu:X.A.units+1<cLine)(ho:PE X o td)(he:PE X e ty)(hf:PE X f tx)(m:M2 X o "get" μ e f ω):PE X (.Call (.Attribute o "get" μ) [e,f] [] ω) (xt td ty tx):=by
 intro ρ s σ H Q I h;refine wpAny_Call_method m.base m.few m.line PySem.F.plainAttrs_dict PySem.F.slot_dict_get PySem.F.type_dict_get (thn (ho ρ s σ H _ I h) fun u s1 ⟨x,H1,I1,rx,a,ex,d,q1⟩=>?_);subst ex;obtain rfl:u=Value.ref a:=rx;obtain⟨t1,t2,_⟩:=Jn I1 d;refine⟨t1,t2,?_⟩;rw[m.trees];refine Calls.callWith_builtin rfl (Calls.evalArgs_plain (Calls.spliced_cons (thn (he ρ s1 σ H1 _ I1 q1) fun iv s2 ⟨y,H2,I2,ry,q2⟩=>
  Calls.spliced_cons (thn (hf ρ s2 σ H2 _ I2 q2) fun fv s3 ⟨z,H3,I3,rz,ov,g,q3⟩=>Calls.spliced_nil ?_))))
 exact Kt hu I3 g ry rz fun w' s4 I4 rw'=>⟨_,H3,I4,rw',q3⟩
end
section
variable{κ:Type}[DecidableEq κ]
theorem jG:∀{l:List κ} {k:κ},l.Nodup->¬k∈l->(l++[k]).Nodup
 |[],k,_,_=>by simp
 |a::r,k,h,hk=>by
  obtain⟨h1,h2⟩:=zbc.mp h;show(a::(r++[k])).Nodup;refine zbc.mpr ⟨fun m=>?_,jG h2 fun m=>hk (zay.mpr (Or.inr m))⟩;rcases zax.mp m with q|q
  ·exact h1 q
  ·exact hk (zay.mpr (Or.inl (zaH.mp q).symm))
end
end L2
set_option maxHeartbeats 4000000
namespace L2
variable{scope:Scope}{env:Env}{names:List (Str×NameKind)}{n c k i j d d1 d2 d' dr cd:Nat}{X:Cx}{M:Model}{A:Around}{E:Value->Shared->Prop}{ρ:List (Addr×Obj)}{σ σ':St}{H H2 H' H1 H0:Hp}{h':Heap}{t':TT}{fp:List Addr}{p p2 p1 q:Bool}{o u:HO}{w:World}{K:zb7}{elts es ifs:List Expr}{tp pos ω μ ζ pos' px:Pos}{e tg m elt iter b:Expr}{te:TE}{x z:Str}{ps N ns:List Str}{l jt tu a:Addr}{ta:TA}{prog:Program}{js:List (Option Nat)}{vs:List V}{v y:V}{ds ds1 ds2 ds' ds0 dps lk dsi:List Nat}{Q Q':VK}{op:CmpOp}{T:String}{st:Stmt}{r r':List V->Hp->VK->Prop}{fn:Value}{Dn:Ends}
open PySem PySem.Spec PyProof.Rows
def EX{α β:Type}{l:List α}{f:α->β->Sem (ForInStep β)}{g:β->α->β}(h:∀x∈l,∀c,f x c=pure (.yield (g c x))):∀c,forIn l c f=pure (l.foldl g c):=by
 induction l with
 |nil=>intro c;rfl
 |cons x l ih=>
  intro c;rw[List.forIn_cons,h x zaq,pure_bind];exact ih (fun y hy=>h y (zaj _ hy)) (g c x)
def eR(env:Env)(acc:List (Str×Addr))(x:Str×NameKind):List (Str×Addr):=
 if x.2==NameKind.free then(x.1,(env.cells.lookup x.1).getD 0)::acc else acc
def dO(env:Env)(names:List (Str×NameKind)):List (Str×Addr):=names.foldl (eR env) []
def oS(h:∀y∈scope.names,y.2=.free->∃c,env.cells.lookup y.1=some c):closureFor scope env=pure (dO env scope.names):=by
 simp only[closureFor];rw[EX (g:=eR env) (fun x hx c=>by
  obtain⟨n,kind⟩:=x;by_cases hk:kind=.free
  ·obtain⟨a,e⟩:=h _ hx hk;subst hk;have e':env.cells.lookup n=some a:=e;simp[cellOf,eR,e']
  ·have hb:(kind==NameKind.free)=false:=by simpa using hk
   simp[eR,hb])]
 rfl
theorem oT{env:Env}:∀(names:List (Str×NameKind)) (acc:List (Str×Addr)) (p:Str×Addr),
  p∈names.foldl (eR env) acc->p∈acc\/((p.1,NameKind.free)∈names/\p.2=(env.cells.lookup p.1).getD 0)
 |[],_,_,h=>.inl h
 | (n,k)::r,acc,p,h=>by
  rw[List.foldl_cons]at h;rcases oT r _ p h with q|⟨q,e⟩
  ·unfold eR at q;by_cases hk:(k==NameKind.free)=true
   ·rw[if_pos hk]at q;rcases zay.mp q with z|z
    ·subst z;have hk':k=NameKind.free:=by simpa using hk
     subst hk';exact .inr ⟨zaq,rfl⟩
    ·exact .inl z
   ·rw[if_neg hk]at q;exact .inl q
  ·exact .inr ⟨zaj _ q,e⟩
theorem mW{env:Env}:∀(names:List (Str×NameKind)) (acc:List (Str×Addr)) (p:Str×Addr),p∈acc->p∈names.foldl (eR env) acc
 |[],_,_,h=>h
 |x::r,acc,p,h=>by
  rw[List.foldl_cons];refine mW r _ p ?_;unfold eR;split
  ·exact zaj _ h
  ·exact h
theorem oU{env:Env}{n:Str}:∀(names:List (Str×NameKind)) (acc:List (Str×Addr)),(n,NameKind.free)∈names->∃c,(n,c)∈names.foldl (eR env) acc
 | (m,k)::r,acc,h=>by
  rw[List.foldl_cons];rcases zay.mp h with e|e
  ·cases e;exact⟨(env.cells.lookup n).getD 0,mW r _ _ (by unfold eR;rw[if_pos (show(((n,NameKind.free):Str×NameKind).2==NameKind.free)=true from rfl)];exact zaq)⟩
  ·exact oU r _ e
theorem gU{α:Type}:∀{l:List (Str×α)} {n:Str} {c:α},(n,c)∈l->∃c',l.lookup n=some c'
 | (m,d)::r,n,c,h=>by
  rw[zas];cases hb:n==m with
  |true=>exact⟨d,rfl⟩
  |false=>
   rcases zay.mp h with e|e
   ·cases e;simp at hb
   ·exact gU e
def tL{n:Str}(h:(n,NameKind.free)∈names):∃c,(dO env names).lookup n=some c:=
 let⟨_,e⟩:=oU (env:=env) names [] h
 gU e
def qN{n:Str}{c:Addr}(h:∀y∈names,y.2=.free->∃c,env.cells.lookup y.1=some c)(e:(dO env names).lookup n=some c):env.cells.lookup n=some c:=by
 rcases oT names [] (n,c) (zaU e)with q|⟨q,z⟩
 ·simp at q
 ·obtain⟨a,ea⟩:=h _ q rfl;have z':c=(env.cells.lookup n).getD 0:=z;have ea':env.cells.lookup n=some a:=ea;rw[ea']at z';rw[ea',z'];rfl
theorem j3{env:Env}:∀{names:List (Str×NameKind)} {x:Str} {k:NameKind},
  (names.map fun(n,k)=>if(k==NameKind.free&&env.scope.kind==.function&&env.kindOf n==some .cell)then(n,NameKind.cell)else(n,k)).lookup x=some k ->
  names.lookup x=some k\/(names.lookup x=some .free/\k=.cell)
 |[],_,_,h=>by simp at h
 | (n,k0)::r,x,k,h=>by
  rw[zar]at h;cases hx:x==n with
  |true=>
   rcases Bool.eq_false_or_eq_true (k0==NameKind.free&&env.scope.kind==.function&&env.kindOf n==some .cell)with hc|hc
   ·simp only[hc,if_true,zas,hx]at h;have hk:k0=.free:=by
     simp only[zbn,beq_iff_eq]at hc;exact hc.1.1
    refine .inr ⟨?_,?_⟩
    ·simp only[zas,hx,hk]
    ·exact(zat h).symm
   ·simp only[hc,Bool.false_eq_true,if_false,zas,hx]at h;refine .inl ?_;simp only[zas,hx];exact h
  |false=>
   have h':(r.map fun(n,k)=>if(k==NameKind.free&&env.scope.kind==.function&&env.kindOf n==some .cell)then(n,NameKind.cell)else(n,k)).lookup x=some k:=by
    rcases Bool.eq_false_or_eq_true (k0==NameKind.free&&env.scope.kind==.function&&env.kindOf n==some .cell)with hc|hc
    ·simp only[hc,if_true,zas,hx]at h;exact h
    ·simp only[hc,Bool.false_eq_true,if_false,zas,hx]at h;exact h
   simp only[zas,hx];exact j3 h'
theorem nY{env:Env}:∀{names:List (Str×NameKind)} {x:Str},names.lookup x=some .free ->
  (names.map fun(n,k)=>if(k==NameKind.free&&env.scope.kind==.function&&env.kindOf n==some .cell)then(n,NameKind.cell)else(n,k)).lookup x=some .cell \/
  (names.map fun(n,k)=>if(k==NameKind.free&&env.scope.kind==.function&&env.kindOf n==some .cell)then(n,NameKind.cell)else(n,k)).lookup x=some .free
 |[],_,h=>by simp at h
 | (n,k0)::r,x,h=>by
  rw[zar];cases hx:x==n with
  |true=>
   simp only[zas,hx]at h;rcases Bool.eq_false_or_eq_true (k0==NameKind.free&&env.scope.kind==.function&&env.kindOf n==some .cell)with hc|hc
   ·refine .inl ?_;simp only[hc,if_true,zas,hx]
   ·refine .inr ?_;simp only[hc,Bool.false_eq_true,if_false,zas,hx];exact h
  |false=>
   simp only[zas,hx]at h;have ih:=nY (env:=env) h;rcases Bool.eq_false_or_eq_true (k0==NameKind.free&&env.scope.kind==.function&&env.kindOf n==some .cell)with hc|hc
   ·simp only[hc,if_true,zas,hx];exact ih
   ·simp only[hc,Bool.false_eq_true,if_false,zas,hx];exact ih
def eZ(js:List (Option Nat))(σ:St):St:=js.map fun j=>match j with
 |some j=>(σ[j]?).join
 |none=>none
def PTs(X:Cx)(ifs:List Expr)(tt:TT):Prop:=
 ∀(ρ:List (Addr×Obj)) (s:Shared) (σ:St) (H:Hp) (Q:Bool->Hp->Prop),Inv X ρ σ H s->tt σ H Q ->
  wpAny (model X.prog X.w) X.A (forIn ifs true fun c r=>if r=true then do let ok <-isTrue c X.env (eval c X.env);pure (ForInStep.yield ok)else pure (ForInStep.yield r)) (TP X ρ σ Q) X.xe s
def L4:TT:=fun _ H Q=>Q true H
def pts_nil:PTs X [] L4:=fun _ _ _ H _ I h=>wpAny_tests_nil ⟨H,I,h⟩
def DW{c:Expr}{tc:TT}(hc:PT X c tc):PTs X [c] tc:=fun ρ s σ H Q I h=>wpAny_tests_one (hc ρ s σ H Q I h)
def IU(g:TG)(tt:TT)(te:TE)(D:Addr)(x:V)(τ:St)(H:Hp)(N:St->Hp->Prop):Prop:=
 g x τ H fun τ4 H4=>tt τ4 H4 fun b H5=>if b=true then te τ4 H5 fun v H6=>∃xs,H6 D=some (.lst xs)/\xs.length<sizeLine/\N τ4 (upd H6 D (.lst (xs++[v])))else N τ4 H5
def Di(J:It)(g:TG)(tt:TT)(te:TE)(σ0:St)(H1:Hp)(D:Addr)(Q:VK):Prop:=
 ∃W:Nat->Nat->St->Hp->Prop,(∃m,W 0 m σ0 (upd H1 D (.lst []))) /\
  ∀i m τ H2,W i m τ H2->(J.stop i H2/\Q (.ref D) H2)\/(J.go i H2/\∃N:St->Hp->Prop,(∀τ' H',N τ' H'->∃m',m'<m/\W (i+1) m' τ' H')/\∀x H3,J.yld i H2 x H3->IU g tt te D x τ H3 N)
def tLC(wi:TI)(g:TG)(tt:TT)(te:TE)(js:List (Option Nat)):TE:=fun σ H Q=>
 wi σ H fun J H1=>∀D,H1 D=none->Di J g tt te (eZ js σ) H1 D Q
def thF{α:Type}{t:Sem α}{Q Q':α->Shared->Prop}{s:Shared}(h:wpAny M A t Q (fun _ _=>False) s)(hQ:∀a s,Q a s->Q' a s):wpAny M A t Q' E s:=
 wpAny_mono h hQ fun _ _ x=>x.elim
def wR:∀(bs:List Bool),(List.range bs.length).all (fun i=>bs.getD i true)=bs.all id:=fun bs=>by
 rw[Bool.eq_iff_iff,List.all_eq_true,List.all_eq_true];constructor
 ·intro h b hb;obtain⟨i,hi,e⟩:=List.mem_iff_getElem.mp hb;have q:=h i (zbs.mpr hi);rw[zbi,zak hi,e]at q;exact q
 ·intro h i hi;have hi':=zbs.mp hi;rw[zbi,zak hi'];exact h _ (zaK hi')
def AX(hc:X.calm=true):CallR X (.builtin "all") (fun xs H Q=>∃(p:Addr) (bs:List Bool),xs=[.ref p]/\SqL X.K H p (bs.map V.bl)/\Q (.bl (bs.all id)) H):=by
 intro ρ s σ H xs us Q I r h;obtain⟨p,bs,rfl,hp,q⟩:=h;obtain⟨u,rfl,ru⟩:=cS r;cases ru;obtain⟨its,rv,pl,hz⟩:=I.list hp;have hl:its.length=bs.length:=by rw[<-rv.length,zad]
 have hlt:p<s.heap.objs.size:=by
  obtain⟨o,n,e,_⟩:=id pl;exact zal e
 refine call_all_walk (wpAny_pyIter_list pl.isList ?_);refine⟨s.heap.objs.size,[s.heap.objs.size,p],[s.heap.objs.size],its.toArray.size,fun i v=>its.toArray[i]?=some v,_,fun i=>bs.getD i true,rfl,Walks.list (A:=X.A.in1) (show X.A.in1.handled=none from I.ok.hd hc) s.heap.objs.size p (zaw hlt) its.toArray,?_,?_,?_⟩
 ·exact⟨⟨_,zan _ rfl,rfl,rfl⟩,pl.isList.push _⟩
 ·intro i v s' Q' E' hv hq;have hv':its[i]?=some v:=by simpa using hv
  have hi:i<bs.length:=by
   rw[<-hl];exact(zah.mp hv').1
  obtain⟨u,hu,ru⟩:=rv.get (i:=i) (x:=V.bl bs[i]) (by rw[zao,zak hi];rfl);rw[hu]at hv';cases hv';cases ru;have e:bs.getD i true=bs[i]:=by rw[zbi,zak hi];rfl
  have hq':Q' (bs.getD i true) s':=hq;rw[e]at hq';exact zbB hq'
 ·intro h' tk hk;have e:(List.range its.toArray.size).all (fun i=>bs.getD i true)=bs.all id:=by
   rw[<-wR bs,zai,hl]
  rw[e];refine⟨.bl (bs.all id),H,I.kept (t':=tk) fun b o z=>hk b o ?_ (zaf _ z),rfl,q⟩;intro z';have z'':b=s.heap.objs.size:=by simpa using z'
  exact zaw (zal z) z''
def AW:CallR X (.builtin "isinstance") (fun xs H Q=>∃x t n b,xs=[x,.ty n]/\TyOf X.K H x t/\PySem.W.kitOne X.K t (.type n)=some b/\Q (.bl b) H):=by
 intro ρ s σ H xs us Q I r h;obtain⟨x,t,n,b,rfl,ty,e,q⟩:=h;obtain⟨u,w',rfl,r1,r2⟩:=vQ r;cases r2;exact ye I r1 ty e fun tk=>⟨.bl b,H,I.tok _,rfl,q⟩
section
open PySem.SeqAt
variable{s:Shared}
def nI(n:Nat):(List.range n).all (fun _=>true)=true:=by
 rw[List.all_eq_true];intro _ _;rfl
end
def Inv.turnedLaid{s:Shared}{t':Nat}{p:Addr}(I:Inv X ρ σ H s)(f:∀b∈fp,gZ X ρ H b)(hp:s.heap.objs.size<=p)
  (k:∀b ob,b∉fp->s.heap.get? b=some ob->h'.get? b=some ob) (th:∀b∈fp,∃ob,h'.get? b=some ob) (new:ObjOk X.prog X.w (upd H p o) h' p o):Inv X ρ σ (upd H p o) { s with heap:=h',toks:=t' }:=by
 have hn:H p=none:=I.hok.fresh hp;have ne:∀b ob,s.heap.get? b=some ob->b≠p:=fun b ob e=>zaw (zag (zal e) hp);have nf:∀b u,H b=some u->b∉fp:=fun b u e z=>by rw[(f b z).1]at e;cases e
 refine I.step (g':=s.gens) (d':=s.drawn) (ch:=fp) (fun b hb=>⟨(f b hb).2.2.2.1,(f b hb).2.1,(f b hb).2.2.2.2.1,(f b hb).2.2.2.2.2⟩) (fun b ob _ _ hc e _=>k b ob hc e) (fun b ob _ _ hc e _=>⟨ob.slots,k b ob hc e⟩)
  (fun b ob _ e n=>by rw[aE (ne b ob e)];exact n) (fun b ob hc e=>⟨ob,k b ob hc e⟩) (fun b xs e=>by rw[aE (bW e hn)];exact e) (fun b ob u e=>by rw[aE (bW e hn)];exact e)
  (fun b ps e=>⟨#[],by rw[aE (bW e hn),e];simp⟩) (fun m hm=>?_) (fun b u e=>?_) I.bare
 ·obtain⟨ob,es,ep,ho,r⟩:=hm;exact⟨ob,es,ep,k _ ob (fun z=>(f _ z).2.1 rfl) ho,r⟩
 ·by_cases hb:b=p
  ·subst hb;rw[aA]at e;cases e;exact new
  ·rw[aE hb]at e;refine(I.hok b u e).stay (fun c v hc q=>k c v ?_ q) (fun c q=>by rw[aE (bW q hn)];exact q) fun c xs q=>by rw[aE (bW q hn)];exact q
   rcases hc with z|z
   ·rw[z];exact nf b u e
   ·exact nf c _ z
def Ite(K:zb7)(a:Addr):It:=
 ⟨fun i H=>∃xs x,SqL K H a xs/\xs[i]?=some x,
  fun i H y H'=>∃p x,y=.ref p/\H p=none/\H'=upd H p (.tup [.int i,x])/\∀xs,SqL K H a xs->xs[i]?=some x,
  fun i H=>∃xs,SqL K H a xs/\xs.length<=i⟩
def xn{P:Program}(a e it:Addr)(hei:e≠it):
  Turn P w K (.Tuple elts k tp) (Ite K a) [e,it] e (fun i h=>(∃old,IsEnum h e it i old)/\h.IsListIter it a i) where
 mem:=by simp
 obj:=fun i h st b hb=>by
  obtain⟨⟨old,he⟩,o,ho,hc,hd⟩:=st;have hb':b=e\/b=it:=by simpa using hb
  rcases hb' with rfl|rfl
  ·exact⟨_,he,fun v z=>by
    have z':Data.fields _=Data.cell v:=z;cases z'⟩
  ·exact⟨o,ho,fun v z=>by rw[hd]at z;cases z⟩
 keep:=fun i h h' st kp=>⟨let⟨old,he⟩:=st.1;⟨old,kp e (by simp) _ he⟩,st.2.at fun o q=>kp it (by simp) o q⟩
 item:=by
  intro X hP hw hK hc i ρ s σ H E I hf st hg;subst hP hw hK;obtain⟨xs,x,hq,hx⟩:=hg;obtain⟨its,rv,p,hz⟩:=I.list hq;obtain⟨u,hu,ru⟩:=rv.get hx;obtain⟨⟨old,he⟩,hit⟩:=st;refine wpAny_pyNext_enum_item he hit p.isList (x:=u) (by simpa using hu) hei fun h1 ho1 hit1 ht1 hz1 hk1=>?_;refine⟨_,rfl,wpAny_letOwnedTupleGo_enum ho1 fun h2 he2 hs2=>?_⟩;have eL:e<s.heap.objs.size:=zal he;have ht2:h2.get? s.heap.objs.size=some { cls:=.type "tuple",data:=.seq #[.int i s.toks,u] }:=(hs2.2 _ (Nat.ne_of_gt eL)).trans ht1;have hit2:h2.IsListIter it a (i+1):=hit1.extBut hs2.extBut hei.symm;have I2:Inv X ρ σ (upd H s.heap.objs.size (.tup [.int i,x])) { s with heap:=h2,toks:=s.toks+1 }:=by
   refine I.turnedLaid (fp:=[e,it]) hf (zav _) (fun b ob hb q=>?_) (fun b hb=>?_) ?_
   ·have h1:b≠e:=fun z=>hb (by simp[z]);have h2':b≠it:=fun z=>hb (by simp[z]);exact(hs2.2 b h1).trans (hk1 b ob h1 h2' q)
   ·have hb':b=e\/b=it:=by simpa using hb
    rcases hb' with rfl|rfl
    ·exact⟨_,he2⟩
    ·obtain⟨o,ho,_⟩:=hit2;exact⟨o,ho⟩
   ·refine⟨(by show 2<=sizeLine;decide),[.int i s.toks,u],.cons ⟨_,rfl⟩ (.cons ru .nil),?_⟩;exact⟨_,ht2,rfl,_,rfl,rfl⟩
  have fr:∀b∈[e,it],upd H s.heap.objs.size (.tup [.int i,x]) b=none:=fun b hb=>by
   have hlt:b<s.heap.objs.size:=by
    have hb':b=e\/b=it:=by simpa using hb
    rcases hb' with rfl|rfl
    ·exact eL
    ·obtain⟨o,ho,_⟩:=hit;exact zal ho
   rw[aE (zaw hlt)];exact(hf b hb).1
  exact⟨.ref s.heap.objs.size,_,I2,rfl,⟨_,x,rfl,I.fresh,rfl,fun ys hy=>by rw[I.list_inj hy hq];exact hx⟩,⟨⟨_,he2⟩,hit2⟩,fr⟩
 done:=by
  intro X hP hw hK hc i ρ s σ H E I hf st hg;subst hP hw hK;obtain⟨xs,hq,hx⟩:=hg;obtain⟨its,rv,p,hz⟩:=I.list hq;obtain⟨⟨old,he⟩,hit⟩:=st;obtain⟨f0,f1,f2,f3,f4,f5⟩:=hf it (by simp);have hl:=rv.length;exact wpAny_pyNext_enum_end (I.ok.hd hc) he hit p.isList (by simp;omega) fun h' eb=>⟨rfl,I.turned (t':=s.toks) (fun b o hb q=>eb b o hb q) f0 f1 f3 f4 f5⟩
 self:=fun _ _ _ _ _ st h=>let⟨⟨_,he⟩,_⟩:=st;wpAny_pyIter_enum he h
def KO(K:zb7)(te tk:TE):TE:=fun σ H Q=>te σ H fun x H1=>tk σ H1 fun y H2=>∃a xs,x=.ref a/\y=.int (-1)/\SqL K H2 a xs/\∀p,H2 p=none->Q (.ref p) (upd H2 p (.lst xs.reverse))
theorem k5:∀{xs:List V} {us:List Value},Vals xs us->Vals xs.reverse us.reverse
 |_,_,.nil=>.nil
 |_,_,.cons r t=>by
  rw[List.reverse_cons,List.reverse_cons];exact(k5 t).append (.cons r .nil)
def D6{k:Expr}{tk:TE}{p2:Pos}(he:PE X e te)(hk:PE X k tk):PE X (.Subscript e (.Slice none none (some k) p2) pos) (KO X.K te tk):=by
 intro ρ s σ H Q I h;refine Subscript_ (thn (he ρ s σ H _ I h) fun v s1 ⟨x,H1,I1,r1,q1⟩=>?_);refine wpAny_Slice ?_;rw[evalPart_none];refine zaT (zaT ?_);rw[evalPart_some];refine thn (hk ρ s1 σ H1 _ I1 q1) ?_;rintro vk s3 ⟨y,H3,I3,r3,q3⟩;obtain⟨a,xs,rfl,rfl,hx,q⟩:=q3;obtain⟨t,rfl⟩:=r3;cases r1;have I4:Inv X ρ σ H3 { s3 with heap:=s3.heap.push { cls:=.type "slice",data:=.fields #[.none,.none,.int (-1) t] } }:=I3.kept (t':=s3.toks) fun b ob q=>zaf _ q;obtain⟨its,r,ht,hz⟩:=I4.list hx;show wpAny (model X.prog X.w) X.A (subscriptTail e (.Slice none none (some k) p2) (.ref a) (.ref s3.heap.objs.size)) (EP X ρ σ Q) X.xe { s3 with heap:=s3.heap.push { cls:=.type "slice",data:=.fields #[.none,.none,.int (-1) t] } };refine tail_any (ops:=[.ref a,.ref s3.heap.objs.size]) ht.isList.typeIs slot_list_getitem.lookup ?_ (by with_unfolding_all rfl);have ξ:=r.length;refine wpAny_getItem_list_slice ht.isList (Heap.IsSliceOf.new ..) .none .none (.int (-1) t) (by simp) ?_ (by rw[zai]<;>omega);rw[PySem.W.krv_pick];refine⟨.ref _,_,I4.laid (t':=s3.toks) (o:=.lst xs.reverse) (fun b ob q=>zaf _ q) (zav _) ?_,rfl,q _ (I4.hok.fresh (zav _))⟩;exact⟨by rw[List.length_reverse];exact hz,its.reverse,0,k5 r,zan _ rfl⟩
def Kn(P:Program)(w:World)(K:zb7)(mg:Str->Option Value)(base:Heap)(k:Nat)(x:Str)(ps:List Str)(sp:Sp):Prop:=
 ∃f fd,FnOk P w K mg base CX0 k f fd ps sp/\mg x=some (.ref f)/\PySem.W.keepIn K (.ref f)=true/\Binds K fd ps []
def Kn.mono{P:Program}{w:World}{K:zb7}{mg:Str->Option Value}{base:Heap}{j k:Nat}{x:Str}{ps:List Str}{sp:Sp}(G:Kn P w K mg base j x ps sp)(h:j<=k):Kn P w K mg base k x ps sp:=
 let⟨f,fd,a,b,c,d⟩:=G
 ⟨f,fd,a.mono h,b,c,d⟩
section
variable{sp:Sp}{p:Pos}{t:TA}
def wg(G:Kn X.prog X.w X.K X.mg X.base k x ps sp)(hr:Room k X.A)(hg:Gl X x)(ha:PA X (e::es) t)(hdb:(x==("__debug__":Str))=false:=by decide)
  (he:starEach (e::es) X.env=(false,eval e X.env)::starEach es X.env:=by rfl) (hpl:(backTo pos (starEach es X.env)).any (·.1)=false:=by rfl):
  PE X (.Call (.Name x p) (e::es) [] pos) (nU sp [] E0 t):=by
 obtain⟨f,fd,F,hm,hk,hb⟩:=G;exact Ea F hr hg hm hk hb .nil Ld ha hdb he hpl
end
def L5(K:zb7):List V->Hp->VK->Prop:=fun xs H Q=>∃x n,xs=[x]/\KJ K x H n/\Q (.int n) H
def DS(K:zb7):List V->Hp->VK->Prop:=fun xs H Q=>∃p ys,xs=[.ref p]/\(SqL K H p ys\/SqT K H p ys)/\∀l,H l=none->Q (.ref l) (upd H l (.lst ys))
def L6(K:zb7):List V->Hp->VK->Prop:=fun xs H Q=>∃(p:Addr) (bs:List Bool),xs=[.ref p]/\SqL K H p (bs.map V.bl)/\Q (.bl (bs.all id)) H
section
def Mc(hK:X.K=K):CallR X (.builtin "len") (L5 K):=by subst hK;exact AV
def Ev(hK:X.K=K):CallR X (.type "list") (DS K):=by subst hK;exact tQ
def Me(hK:X.K=K)(hc:X.calm=true):CallR X (.builtin "all") (L6 K):=by subst hK;exact AX hc
def Md(hK:X.K=K):IxR X (we K):=by subst hK;exact ix_list
def Mb(hK:X.K=K):SlR X (Ii K):=by subst hK;exact DL
def Ma(hK:X.K=K):SlR X (Ih K):=by subst hK;exact HV
variable{l:Expr}{tl:TE}{t:TGs}{p p2:Pos}
end
def sgn(c:Nat):V:=.str ⟨#[c]⟩
def Its(z:Str):It:=⟨fun i _=>i<z.cps.size,fun i H x H'=>H'=H/\∃c,z.cps[i]?=some c/\x=sgn c,fun i _=>z.cps.size<=i⟩
def zg{P:Program}(it:Addr)(z:Str)(t:Tok)(ty:String)(hty:ty="str_ascii_iterator"\/ty="str_iterator"):
  Turn P w K tg (Its z) [it] it (fun i h=>h.IsStrIter it ty z t i) where
 mem:=by simp
 obj:=fun i h st b hb=>by
  have e:b=it:=by simpa using hb
  subst e;obtain⟨o,e,c,d⟩:=st;exact⟨o,e,fun v q=>by rw[d]at q;cases q⟩
 keep:=fun i h h' st k=>let⟨o,e,r⟩:=st;⟨o,k it (by simp) o e,r⟩
 item:=by
  intro X hP hw hK hc i ρ s σ H E I hf st hg;subst hP hw hK;obtain⟨f0,f1,f2,f3,f4,f5⟩:=hf it (by simp);have W:Walks X.prog X.w X.A it [it] [it] z.cps.size (SignAt z) (fun i h=>h.IsStrIter it ty z t i):=by
   rcases hty with rfl|rfl
   ·exact Walks.strAscii (I.ok.hd hc) it z t
   ·exact Walks.strWide (I.ok.hd hc) it z t
  refine W.item i s _ _ hg st fun v h' tk hv st' kk=>?_;obtain⟨c,u,hcv,rfl⟩:=hv;have I1:Inv X ρ σ H { s with heap:=h',toks:=tk }:=I.turned (fun b o hb e=>kk b o (by simpa using hb) e) f0 f1 f3 f4 f5;obtain⟨o,e,ec,ed⟩:=id st';refine⟨_,rfl,oG (s:={ s with heap:=h',toks:=tk }) (n:=ty) e ec ed (by rcases hty with rfl|rfl<;>decide) ⟨sgn c,H,I1,⟨u,rfl⟩,⟨rfl,c,hcv,rfl⟩,st',fun b hb=>(hf b hb).1⟩⟩
 done:=by
  intro X hP hw hK hc i ρ s σ H E I hf st hg;subst hP hw hK;obtain⟨f0,f1,f2,f3,f4,f5⟩:=hf it (by simp);have hle:z.cps.size<=i:=hg;rcases hty with rfl|rfl
  ·exact wpAny_pyNext_ascii_end (I.ok.hd hc) st (by simpa using hle) fun h' he=>⟨rfl,I.turned (t':=s.toks) (fun b o hb e=>he b o hb e) f0 f1 f3 f4 f5⟩
  ·exact wpAny_pyNext_wide_end (I.ok.hd hc) st (by simpa using hle) fun h' he=>⟨rfl,I.turned (t':=s.toks) (fun b o hb e=>he b o hb e) f0 f1 f3 f4 f5⟩
 self:=fun A i s Q E st h=>by
  rcases hty with rfl|rfl
  ·exact wpAny_pyIter_striter_ascii st h
  ·exact wpAny_pyIter_striter_wide st h
def dY(z:Str):List V:=z.cps.toList.map sgn
theorem gg:∀{xs:List V} {us:List Value},xs.length=us.length->(∀(i:Nat) x u,xs[i]?=some x->us[i]?=some u->RelV x u)->Vals xs us
 |[],[],_,_=>.nil
 |[],_::_,h,_=>by cases h
 |_::_,[],h,_=>by cases h
 |x::xs,u::us,h,f=>.cons (f 0 x u rfl rfl) (gg (Nat.succ.inj h) fun i y v a b=>f (i+1) y v (by simpa using a) (by simpa using b))
def ql(hc:X.calm=true):CallR X (.type "list") (fun xs H Q=>∃z,xs=[.str z]/\z.cps.size<=sizeLine/\∀l,H l=none->Q (.ref l) (upd H l (.lst (dY z)))):=by
 intro ρ s σ H xs us Q I r h;obtain⟨z,rfl,hz,q⟩:=h;obtain⟨u,rfl,t,rfl⟩:=cS r;refine call_list_str (I.ok.hd hc) z t (fun h' tk acc c' hk ho hi=>?_) hz;have hl:(dY z).length=acc.toList.length:=by
  unfold dY;rw[zad,zaY,zaY,hi.1]
 have rv:Vals (dY z) acc.toList:=gg hl fun i x v a b=>by
  obtain⟨c,tk',hcv,rfl⟩:=hi.2 i v (by simpa using b);unfold dY at a;rw[zao]at a;have e:z.cps.toList[i]?=some c:=by simpa using hcv
  rw[e]at a;cases a;exact⟨_,rfl⟩
 refine⟨.ref s.heap.objs.size,_,I.laid (t':=tk) (o:=.lst (dY z)) hk (zav _) ⟨?_,acc.toList,c',rv,by simpa using ho⟩,rfl,q _ I.fresh⟩;unfold dY;rw[zad,zaY];exact hz
def xC(n d:Nat)(v:Option Int)(h:d<=n):HT.sIx n d v<=n:=by
 cases v with
 |none=>exact h
 |some i=>
  unfold HT.sIx
  dsimp only
  split<;>omega
def hid(l:List Addr)(H:Hp):Hp:=fun b=>if b∈l then none else H b
def Inv.turnedMany{s:Shared}{t':Nat}(I:Inv X ρ σ H s)(f:∀b∈fp,gZ X ρ H b)
  (k:∀b ob,b∉fp->s.heap.get? b=some ob->h'.get? b=some ob):Inv X ρ σ H { s with heap:=h',toks:=t' }:=by
 have nf:∀b u,H b=some u->b∉fp:=fun b u e z=>by rw[(f b z).1]at e;cases e
 refine I.step (g':=s.gens) (d':=s.drawn) (ch:=fp) (fun b hb=>⟨(f b hb).2.2.2.1,(f b hb).2.1,(f b hb).2.2.2.2.1,(f b hb).2.2.2.2.2⟩) (fun b ob _ _ hc e _=>k b ob hc e) (fun b ob _ _ hc e _=>⟨ob.slots,k b ob hc e⟩)
  (fun _ _ _ _ n=>n) (fun b ob hc e=>⟨ob,k b ob hc e⟩) (fun _ _ e=>e) (fun _ _ _ e=>e) (fun b ps e=>⟨#[],by rw[e];simp⟩) (fun m hm=>?_) (fun b u e=>?_) I.bare
 ·obtain⟨ob,es,ep,ho,r⟩:=hm;exact⟨ob,es,ep,k _ ob (fun z=>(f _ z).2.1 rfl) ho,r⟩
 ·refine(I.hok b u e).stay (fun c v hc q=>k c v ?_ q) (fun _ q=>q) fun _ _ q=>q;rcases hc with z|z
  ·rw[z];exact nf b u e
  ·exact nf c _ z
def Itz(K:zb7)(a b:Addr):It:=
 ⟨fun i H=>∃xs ys x y,SqL K H a xs/\SqL K H b ys/\xs[i]?=some x/\ys[i]?=some y,
  fun i H v H'=>∃p x y,v=.ref p/\H p=none/\H'=upd H p (.tup [x,y])/\(∀xs,SqL K H a xs->xs[i]?=some x)/\(∀ys,SqL K H b ys->ys[i]?=some y),
  fun i H=>∃xs ys,SqL K H a xs/\SqL K H b ys/\(xs.length<=i\/ys.length<=i)⟩
def zd{P:Program}(z TI TO i1 i2 a b:Addr)(D:ZipApart z TI TO i1 i2 a b):
  Turn P w K (.Tuple elts k tp) (Itz K a b) [z,TI,TO,i1,i2] z (fun i h=>IsZip h z TI TO .none/\IsPair h TI (.ref i1) (.ref i2)/\(∃u v,IsPair h TO u v)/\h.IsListIter i1 a i/\h.IsListIter i2 b i) where
 mem:=by simp
 obj:=fun i h st c hc=>by
  obtain⟨h1,h2,⟨u,v,h3⟩,⟨o4,g4,_,d4⟩,⟨o5,g5,_,d5⟩⟩:=st;have hc':c=z\/c=TI\/c=TO\/c=i1\/c=i2:=by simpa using hc
  rcases hc' with rfl|rfl|rfl|rfl|rfl
  ·exact⟨_,h1,fun v q=>by
    have q':Data.fields _=Data.cell v:=q;cases q'⟩
  ·exact⟨_,h2,fun v q=>by
    have q':Data.seq _ _=Data.cell v:=q;cases q'⟩
  ·exact⟨_,h3,fun v q=>by
    have q':Data.seq _ _=Data.cell v:=q;cases q'⟩
  ·exact⟨o4,g4,fun v q=>by rw[d4]at q;cases q⟩
  ·exact⟨o5,g5,fun v q=>by rw[d5]at q;cases q⟩
 keep:=fun i h h' st kp=>⟨kp z (by simp) _ st.1,kp TI (by simp) _ st.2.1,let⟨u,v,e⟩:=st.2.2.1;⟨u,v,kp TO (by simp) _ e⟩,st.2.2.2.1.at fun o q=>kp i1 (by simp) o q,st.2.2.2.2.at fun o q=>kp i2 (by simp) o q⟩
 item:=by
  intro X hP hw hK hc i ρ s σ H E I hf st hg;subst hP hw hK;obtain⟨xs,ys,x,y,hq,hq2,hx,hy⟩:=hg;obtain⟨its,rv,p,hz⟩:=I.list hq;obtain⟨ν,rv2,p2,hz2⟩:=I.list hq2;obtain⟨u,hu,ru⟩:=rv.get hx;obtain⟨u2,hu2,ru2⟩:=rv2.get hy;obtain⟨hZ,hTI,⟨c1,c2,hTO⟩,hi1,hi2⟩:=st;refine wpAny_pyNext_zip_item D hZ hTI hTO hi1 hi2 p.isList p2.isList (x:=u) (y:=u2) (by simpa using hu) (by simpa using hu2) fun h1 a1 a2 a3 a4 a5 a6 a7=>?_;refine⟨_,rfl,wpAny_letOwnedTupleGo_zip a1 fun h2 hz2' hs2=>?_⟩;have zL:z<s.heap.objs.size:=zal hZ;have ht2:IsPair h2 s.heap.objs.size u u2:=(hs2.2 _ (Nat.ne_of_gt zL)).trans a5;have hTI2:IsPair h2 TI (.ref i1) (.ref i2):=(hs2.2 _ D.TIz).trans (a7 _ _ D.TIz D.TITO D.TIi1 D.TIi2 hTI);have hTO2:IsPair h2 TO u u2:=(hs2.2 _ D.TOz).trans a2;have hi1':h2.IsListIter i1 a (i+1):=a3.extBut hs2.extBut D.i1z;have hi2':h2.IsListIter i2 b (i+1):=a4.extBut hs2.extBut D.i2z;have I2:Inv X ρ σ (upd H s.heap.objs.size (.tup [x,y])) { s with heap:=h2,toks:=s.toks }:=by
   refine I.turnedLaid (fp:=[z,TI,TO,i1,i2]) hf (zav _) (fun c ob hb q=>?_) (fun c hb=>?_) ?_
   ·have n1:c≠z:=fun e=>hb (by simp[e]);have n3:c≠TO:=fun e=>hb (by simp[e]);have n4:c≠i1:=fun e=>hb (by simp[e]);have n5:c≠i2:=fun e=>hb (by simp[e]);exact(hs2.2 c n1).trans (a7 c ob n1 n3 n4 n5 q)
   ·have hb':c=z\/c=TI\/c=TO\/c=i1\/c=i2:=by simpa using hb
    rcases hb' with rfl|rfl|rfl|rfl|rfl
    ·exact⟨_,hz2'⟩
    ·exact⟨_,hTI2⟩
    ·exact⟨_,hTO2⟩
    ·obtain⟨o,ho,_⟩:=hi1';exact⟨o,ho⟩
    ·obtain⟨o,ho,_⟩:=hi2';exact⟨o,ho⟩
   ·refine⟨(by show 2<=sizeLine;decide),[u,u2],.cons ru (.cons ru2 .nil),?_⟩;exact⟨_,ht2,rfl,_,rfl,rfl⟩
  have fr:∀c∈[z,TI,TO,i1,i2],upd H s.heap.objs.size (.tup [x,y]) c=none:=fun c hb=>by
   have hlt:c<s.heap.objs.size:=by
    have hb':c=z\/c=TI\/c=TO\/c=i1\/c=i2:=by simpa using hb
    rcases hb' with rfl|rfl|rfl|rfl|rfl
    ·exact zL
    ·exact zal hTI
    ·exact zal hTO
    ·obtain⟨o,ho,_⟩:=hi1;exact zal ho
    ·obtain⟨o,ho,_⟩:=hi2;exact zal ho
   rw[aE (zaw hlt)];exact(hf c hb).1
  exact⟨.ref s.heap.objs.size,_,I2,rfl,⟨_,x,y,rfl,I.fresh,rfl,fun zs hz=>by rw[I.list_inj hz hq];exact hx,fun zs hz=>by rw[I.list_inj hz hq2];exact hy⟩,⟨hz2',hTI2,⟨_,_,hTO2⟩,hi1',hi2'⟩,fr⟩
 done:=by
  intro X hP hw hK hc i ρ s σ H E I hf st hg;subst hP hw hK;obtain⟨xs,ys,hq,hq2,he⟩:=hg;obtain⟨its,rv,p,hz⟩:=I.list hq;obtain⟨ν,rv2,p2,hz2⟩:=I.list hq2;obtain⟨hZ,hTI,⟨c1,c2,hTO⟩,hi1,hi2⟩:=st;have l1:=rv.length;have l2:=rv2.length;refine wpAny_pyNext_zip_end (I.ok.hd hc) D hZ hTI hTO hi1 hi2 p.isList p2.isList ?_ fun h' eb=>⟨rfl,I.turnedMany (t':=s.toks) hf fun c o hb q=>eb c o (fun e=>hb (by simp[e])) (fun e=>hb (by simp[e])) (fun e=>hb (by simp[e])) (fun e=>hb (by simp[e])) q⟩;rcases he with he|he
  ·exact .inl (by simp;omega)
  ·exact .inr (by simp;omega)
 self:=fun _ _ _ _ _ st h=>wpAny_pyIter_zip st.1 h
def Jp(K:zb7)(ta:TA):TI:=fun σ H R=>ta σ H fun vs H1=>∃a b,vs=[.ref a,.ref b]/\(∃xs,SqL K H1 a xs)/\(∃ys,SqL K H1 b ys)/\R (Itz K a b) H1
def Iz{l:Expr}{p:Pos}(hg:Gl X "zip")(hm:X.mg "zip"=none)(ha:PA X [l,m] ta)(hs:starEach [l,m] X.env=(false,eval l X.env)::starEach [m] X.env:=by rfl)(hpl:(backTo pos (starEach [m] X.env)).any (·.1)=false:=by rfl):
  PI X (.Tuple elts k tp) (.Call (.Name "zip" p) [l,m] [] pos) (Jp X.K ta):=by
 intro ρ s σ H R I h;refine Call_ (eP I hg hm boot_zip (PyProof.Rows.callWith_type1 (thn (ha pos ρ s σ H _ I h) fun us s1 ⟨vs,H1,I1,r1,q1⟩=>?_) hs hpl));obtain⟨a,b,e,⟨xs,hq⟩,⟨ys,hq2⟩,q⟩:=q1;subst e;obtain⟨u,v,rfl,ru,rv'⟩:=vQ r1;cases ru;cases rv';obtain⟨its,rv,pl,hz⟩:=I1.list hq;obtain⟨ν,rv2,pl2,hz2⟩:=I1.list hq2;have La:a<s1.heap.objs.size:=let⟨_,e,_⟩:=pl.isList;zal e;have Lb:b<s1.heap.objs.size:=let⟨_,e,_⟩:=pl2.isList;zal e;refine call_zip_2 pl.isList pl2.isList fun h' hZ hTI hTO hi1 hi2 hsz hk=>?_;refine wpAny_pyIter_zip hZ ?_;have I2:Inv X ρ σ H1 { s1 with heap:=h' }:=I1.kept (t':=s1.toks) hk;refine⟨s1.heap.objs.size+4,[s1.heap.objs.size+4,s1.heap.objs.size+2,s1.heap.objs.size+3,s1.heap.objs.size,s1.heap.objs.size+1],_,_,H1,rfl,I2,zd _ _ _ _ _ a b (zipApart_new La Lb),⟨hZ,hTI,⟨_,_,hTO⟩,hi1,hi2⟩,fun c hb=>?_,q⟩;have hb':s1.heap.objs.size<=c:=by
  have hb':c=s1.heap.objs.size+4\/c=s1.heap.objs.size+2\/c=s1.heap.objs.size+3\/c=s1.heap.objs.size\/c=s1.heap.objs.size+1:=by simpa using hb
  rcases hb' with rfl|rfl|rfl|rfl|rfl<;>omega
 exact I1.fpOk hb' (I1.hok.fresh hb')
def Er{l:Expr}{p:Pos}(hK:X.K=K)(hg:Gl X "zip")(hm:X.mg "zip"=none)(ha:PA X [l,m] ta)(hs:starEach [l,m] X.env=(false,eval l X.env)::starEach [m] X.env:=by rfl)(hpl:(backTo pos (starEach [m] X.env)).any (·.1)=false:=by rfl):
  PI X (.Tuple elts k tp) (.Call (.Name "zip" p) [l,m] [] pos) (Jp K ta):=by subst hK;exact Iz hg hm ha hs hpl
abbrev li(z:Str):List Nat:=z.cps.toList
def mk1(c:Nat):Str:=⟨#[c]⟩
def Sub(x z:List Nat):Prop:=∀c∈x,c∈z
def tJ(xs:List V)(i:Int)(h0:0<=i)(h1:i<=(xs.length:Int)):fH xs none (some i)=xs.take i.toNat:=by
 unfold fH HT.sIx
 dsimp only
 rw[if_neg (by omega),List.drop_zero,Nat.sub_zero,Nat.min_eq_left (by omega)]
def tK(xs:List V)(i:Int)(h0:0<=i)(h1:i<=(xs.length:Int)):fH xs (some i) none=xs.drop i.toNat:=by
 unfold fH HT.sIx
 dsimp only
 rw[if_neg (by omega),Nat.min_eq_left (by omega),List.take_of_length_le (by rw[zaF];exact zav _)]
section
variable{s:Shared}
structure ZApart(z TI TO i1 i2:Addr):Prop where
 TIz:TI≠z
 TOz:TO≠z
 i1z:i1≠z
 i2z:i2≠z
 TITO:TI≠TO
 TIi1:TI≠i1
 TIi2:TI≠i2
 TOi1:TO≠i1
 TOi2:TO≠i2
 i12:i1≠i2
end
def vN(n:Nat):ZApart (n+4) (n+2) (n+3) n (n+1):=⟨(by show(n+2:Nat)≠(n+4:Nat);omega),(by show(n+3:Nat)≠(n+4:Nat);omega),(by show(n:Nat)≠(n+4:Nat);omega),(by show(n+1:Nat)≠(n+4:Nat);omega),(by show(n+2:Nat)≠(n+3:Nat);omega),(by show(n+2:Nat)≠(n:Nat);omega),(by show(n+2:Nat)≠(n+1:Nat);omega),(by show(n+3:Nat)≠(n:Nat);omega),(by show(n+3:Nat)≠(n+1:Nat);omega),(by show(n:Nat)≠(n+1:Nat);omega)⟩
section
open PySem.SeqAt
end
theorem eY:∀(names:List (Str×NameKind)) (n:Nat) (acc:List (Str×Addr)),cellsFrom n names acc=cellsFrom n names []++acc
 |[],_,_=>rfl
 | (x,k)::r,n,acc=>by
  unfold cellsFrom;split
  ·rw[eY r (n+1) ((x,n)::acc),eY r (n+1) [(x,n)],zaD];rfl
  ·exact eY r n acc
theorem gW:∀(names:List (Str×NameKind)) (n:Nat) (acc:List (Str×Addr)) {x:Str} {c:Addr},(x,c)∈cellsFrom n names acc->(x,c)∈acc\/(x,NameKind.cell)∈names
 |[],_,_,_,_,h=>.inl h
 | (y,k)::r,n,acc,x,c,h=>by
  unfold cellsFrom at h;split at h
  ·rename_i hk;rcases gW r _ _ h with h|h
   ·rcases zay.mp h with e|e
    ·have hk':k=.cell:=by simpa using hk
     have e':=(Prod.mk.inj e).1;rw[e',<-hk'];exact .inr zaq
    ·exact .inl e
   ·exact .inr (zaj _ h)
  ·rcases gW r _ _ h with h|h
   ·exact .inl h
   ·exact .inr (zaj _ h)
theorem fV:∀(names:List (Str×NameKind)) (n:Nat) (acc:List (Str×Addr)) {p:Str×Addr},p∈acc->p∈cellsFrom n names acc
 |[],_,_,_,h=>h
 | (y,k)::r,n,acc,p,h=>by
  unfold cellsFrom;split
  ·exact fV r _ _ (zaj _ h)
  ·exact fV r _ _ h
theorem gX:∀(names:List (Str×NameKind)) (n:Nat) (acc:List (Str×Addr)) {x:Str},(x,NameKind.cell)∈names->∃c,(x,c)∈cellsFrom n names acc
 |[],_,_,_,h=>by simp at h
 | (y,k)::r,n,acc,x,h=>by
  unfold cellsFrom;rcases zay.mp h with e|e
  ·cases e;rw[if_pos (by rfl)];exact⟨n,fV r _ _ zaq⟩
  ·split
   ·exact gX r _ _ e
   ·exact gX r _ _ e
theorem sH{α:Type}:∀{a b:List (Str×α)} {x:Str} {c:α},(a++b).lookup x=some c->a.lookup x=some c\/(a.lookup x=none/\b.lookup x=some c)
 |[],_,_,_,h=>.inr ⟨rfl,h⟩
 | (n,v)::r,b,x,c,h=>by
  rw[List.cons_append,zas]at h;rw[zas];cases e:x==n with
  |true=>rw[e]at h;exact .inl h
  |false=>rw[e]at h;exact sH h
theorem lp{α:Type}:∀{a b:List (Str×α)} {x:Str} {c:α},a.lookup x=some c->(a++b).lookup x=some c
 |[],_,_,_,h=>by simp at h
 | (n,v)::r,b,x,c,h=>by
  rw[List.cons_append,zas];rw[zas]at h;cases e:x==n with
  |true=>rw[e]at h;exact h
  |false=>rw[e]at h;exact lp h
theorem kb{α:Type}:∀{a b:List (Str×α)} {x:Str} {c:α},a.lookup x=none->b.lookup x=some c->(a++b).lookup x=some c
 |[],_,_,_,_,h=>h
 | (n,v)::r,b,x,c,hn,h=>by
  rw[List.cons_append,zas];rw[zas]at hn;cases e:x==n with
  |true=>rw[e]at hn;cases hn
  |false=>rw[e]at hn;exact kb hn h
abbrev aX(X:Cx)(scope:Scope)(ns:List Str)(C:Addr)(cl:List (Str×Addr))(s₀:Shared)(H₀:Hp)(fp:List Addr):Cx:=
 { X with N:=ns,s₀:=s₀,H₀:=H₀,env:=compEnvC scope cl C X.env,outer:=X.stack,ex:=fp,fn:=fun x=>scope.names.lookup x==some NameKind.cell,pn:=[],xe:=fun _ _=>False }
structure BlkOkC(X:Cx)(scope:Scope)(ns:List Str)(js:List (Option Nat)):Prop where
 kind:scope.kind=.function
 uniq:∀y∈scope.names,y.2=.cell->scope.names.lookup y.1=some .cell
 names:∀y∈scope.names,y.2=.local->scope.names.lookup y.1=some .local
 free:∀y∈scope.names,y.2=.free->X.env.kindOf y.1=some .cell\/X.env.kindOf y.1=some .free
 nd:ns.Nodup
 len:js.length=ns.length
 out:∀(i:Nat) (x:Str) (j:Nat),ns[i]?=some x->js[i]?=some (some j)->X.N[j]?=some x/\scope.names.lookup x=some .free
def vF(N:List Str)(sc scope:Scope)(ns:List Str)(js:List (Option Nat)):Bool:=
 decide (scope.kind=.function)&&scope.names.all (fun y=>decide (y.2=.cell->scope.names.lookup y.1=some .cell))&&scope.names.all (fun y=>decide (y.2=.local->scope.names.lookup y.1=some .local)) &&
 scope.names.all (fun y=>decide (y.2=.free->sc.names.lookup y.1=some .cell\/sc.names.lookup y.1=some .free))&&decide ns.Nodup&&decide (js.length=ns.length) &&
 (List.range ns.length).all (fun i=>match js[i]?,ns[i]? with
  |some (some j),some x=>decide (N[j]?=some x)&&decide (scope.names.lookup x=some .free)
  |_,_=>true)
def FB(h7:∀i<ns.length,(match js[i]?,ns[i]? with
  |some (some j),some x=>decide (N[j]?=some x)&&decide (scope.names.lookup x=some .free)
  |_,_=>true)=true)(e1:ns[i]?=some x)(e2:js[i]?=some (some j)):N[j]?=some x/\scope.names.lookup x=some .free:=by
 have q:=h7 i (zah.mp e1).1;rw[e1,e2]at q;simpa using q
def BlkOkC.of{N0:List Str}{sc0:Scope}(hN:X.N=N0)(hS:X.env.scope=sc0)(h:vF N0 sc0 scope ns js=true):BlkOkC X scope ns js:=by
 unfold vF at h;simp only[zbn,List.all_eq_true,decide_eq_true_eq,zbs]at h;obtain⟨⟨⟨⟨⟨⟨h1,h2⟩,h3⟩,h4⟩,h5⟩,h6⟩,h7⟩:=h;refine⟨h1,fun y hy=>h2 y hy,fun y hy=>h3 y hy,fun y hy hk=>?_,h5,h6,fun i x j e1 e2=>?_⟩
 ·have q:=h4 y hy hk;rw[<-hS]at q;exact q
 ·rw[hN];exact FB h7 e1 e2
section
variable{s:Shared}
def iW{globals:Addr}{closure:List (Str×Addr)}{qual:Str}{outer:Env}{builtins:Addr}{Q:Env->Shared->Prop}
  (hQ:Q (newEnv scope s.heap.objs.size globals (cellsFrom (s.heap.objs.size+1) scope.names closure) qual none .none (some outer) builtins) { s with heap:=pushCells (s.heap.push { cls:=.type "dict",data:=.dict #[] }) scope.names }):
  wpAny M A (newFunctionEnv scope globals closure [] qual none .none (some outer) builtins) Q E s:=by
 simp only[newFunctionEnv,Option.isSome_some,if_true];refine zam (wpAny_alloc ?_);refine zam (wpAny_layCells _ (fun name kind cells=>by cases hkc:kind==NameKind.cell<;>simp[hkc]) _ _ _ _ ?_);rw[show({ s with heap:=s.heap.push { cls:=.type "dict",data:=.dict #[] } }:Shared).heap.objs.size=s.heap.objs.size+1 from zbw ..];rw[List.forIn_nil];exact zam (zaT (zaT hQ))
end
section
variable{wi:TI}{g:TG}{tt:TT} 
def AY{s3:Shared}{H3:Hp}{h₁:Heap}{tk:Nat}(B:BlkOkC X scope ns js)(I3:Inv X ρ σ H3 s3)
  (f3:∀b∈fp,gZ X ρ H3 b) (lt3:∀b∈fp,b<s3.heap.objs.size) (hns:h₁.Ns s3.heap.objs.size (fun _=>none)) (old:∀b u,s3.heap.get? b=some u->h₁.get? b=some u)
  (cok:CellsOk h₁ (s3.heap.objs.size+1) (cellsFrom (s3.heap.objs.size+1) scope.names [])):
  Inv (aX X scope ns s3.heap.objs.size (cellsFrom (s3.heap.objs.size+1) scope.names (dO X.env scope.names)) s3 H3 fp) [] (eZ js σ) H3 { s3 with heap:=h₁,toks:=tk }:=by
 rw[eY];have hmem:∀{x:Str} {c:Addr},(x,c)∈cellsFrom (s3.heap.objs.size+1) scope.names []->scope.names.lookup x=some .cell:=fun {x c} h=>by
  rcases gW _ _ _ h with h|h
  ·simp at h
  ·exact B.uniq _ h rfl
 have hhas:∀{x:Str},scope.names.lookup x=some .cell->∃c,(cellsFrom (s3.heap.objs.size+1) scope.names []).lookup x=some c:=fun {x} h=>by
  obtain⟨c,hc⟩:=gX scope.names (s3.heap.objs.size+1) [] (zaU h);exact gU hc
 generalize cellsFrom (s3.heap.objs.size+1) scope.names []=CS at cok hmem hhas;have has:∀y∈scope.names,y.2=.free->∃c,X.env.cells.lookup y.1=some c:=fun y hy hk=>I3.ok.has y.1 (B.free y hy hk);have look:∀{n:Str} {c:Addr},(CS++dO X.env scope.names).lookup n=some c->(CS.lookup n=some c/\h₁.IsCell c none/\s3.heap.objs.size+1<=c)\/(CS.lookup n=none/\X.env.cells.lookup n=some c/\c<s3.heap.objs.size):=fun {n c} e=>by
  rcases sH e with e|⟨e1,e2⟩
  ·exact .inl ⟨e,cok.empty n c (zaU e)⟩
  ·have e3:=qN has e2;obtain⟨v,hv⟩:=I3.cell n c e3;exact .inr ⟨e1,e3,hv.lt⟩
 refine⟨⟨I3.ok.mod,B.kind,I3.ok.glob,I3.ok.blt,zav _,fun y z c h1 h2=>?_,fun y hy=>?_,fun y c hf h=>?_,I3.ok.hd,I3.ok.frames,.inl rfl,fun b hb=>?_,I3.bs,zau I3.ok.bsz I3.sz,
   fun b o e hb=>?_,fun b hb z=>?_,I3.stack,I3.stkFree⟩,
  rfl,I3.bare,Un.kept old,⟨_,hns,fun i x v h1 h2 h3=>?_⟩,fun y c h=>?_,I3.fresh,fun y c h=>?_,fun p hp=>absurd (show p∈([]:List (Addr×Obj))from hp) (by simp),I3.hok.kept old,?_⟩
 ·rcases look h1 with⟨a1,_,a3⟩|⟨_,a2,a3⟩<;>rcases look h2 with⟨b1,_,b3⟩|⟨_,b2,b3⟩
  ·exact name_of_addr cok.apart (zaU a1) (zaU b1)
  ·exact absurd (zag (zag b3 (Nat.le_succ _)) a3) (zaI _)
  ·exact absurd (zag (zag a3 (Nat.le_succ _)) b3) (zaI _)
  ·exact I3.ok.inj y z c a2 b2
 ·have hf:scope.names.lookup y=some .cell\/scope.names.lookup y=some .free:=by
   rcases hy with hy|hy
   ·rcases j3 (env:=X.env) hy with q|q
    ·exact .inl q
    ·exact .inr q.1
   ·rcases j3 (env:=X.env) hy with q|q
    ·exact .inr q
    ·exact .inr q.1
  show ∃c,(CS++dO X.env scope.names).lookup y=some c;rcases hf with hf|hf
  ·obtain⟨c,hc⟩:=hhas hf;exact⟨c,lp hc⟩
  ·obtain⟨c,hc⟩:=tL (env:=X.env) (zaU hf);cases e:CS.lookup y with
   |none=>exact⟨c,kb e hc⟩
   |some d=>exact⟨d,lp e⟩
 ·rcases look h with⟨_,_,a3⟩|⟨a1,_,_⟩
  ·show s3.heap.objs.size<=c;omega
  ·have hf':(scope.names.lookup y==some NameKind.cell)=true:=hf;obtain⟨d,hd⟩:=hhas (by simpa using hf');rw[a1]at hd;cases hd
 ·refine⟨zaw (lt3 b hb),fun x c e=>?_⟩;rcases look e with⟨_,_,a3⟩|⟨_,a2,_⟩
  ·have:=lt3 b hb;intro z;subst z;exact zaI _ (zag (zag this (Nat.le_succ _)) a3)
  ·exact(f3 b hb).2.2.2.2.1 x c a2
 ·rcases(f3 b hb).2.2.2.1 with z|z
  ·exact I3.ok.noex b o e z
  ·exact absurd (zag (zag (zal e) I3.ok.bsz) z) (zaI _)
 ·rcases zay.mp (I3.stkSub b z)with q|q
  ·exact(f3 b hb).2.1 q
  ·exact(f3 b hb).2.2.1 q
 ·have h2':(js.map fun j=>match j with|some j=>(σ[j]?).join|none=>none)[i]?=some (some v):=h2;rw[zao]at h2';obtain⟨j,hj,hσ⟩:∃j,js[i]?=some (some j)/\σ[j]?=some (some v):=by
   cases e:js[i]? with
   |none=>rw[e]at h2';simp at h2'
   |some oj=>
    rw[e]at h2';cases oj with
    |none=>simp at h2'
    |some j=>
     refine⟨j,rfl,?_⟩;have q:(σ[j]?).join=some v:=by simpa using h2'
     cases e2:σ[j]? with
     |none=>rw[e2]at q;simp at q
     |some ov=>
      rw[e2]at q;simp at q;rw[q]
  obtain⟨hN,hfr⟩:=B.out i x j h1 hj;have hf:=B.free (x,.free) (zaU hfr) rfl;have hf':X.env.kindOf x=some .cell\/X.env.kindOf x=some .free:=hf;obtain⟨m,hn,hl⟩:=I3.loc;obtain⟨u,r,l⟩:=hl j x v hN hσ (by
   rcases hf' with z|z
   ·exact .inr (.inl z)
   ·exact .inr (.inr z))
  refine⟨u,r,?_⟩;rcases l with⟨hk,_⟩|⟨hk,c,hc,hcell⟩
  ·rcases hf' with z|z
   ·rw[z]at hk;cases hk
   ·rw[z]at hk;cases hk
  ·obtain⟨c',hc'⟩:=tL (env:=X.env) (zaU hfr);have e':=qN has hc';rw[hc]at e';cases e';obtain⟨o,ho,hd⟩:=hcell;have hno:CS.lookup x=none:=by
    cases e:CS.lookup x with
    |none=>rfl
    |some d=>
     have q:=hmem (zaU e);rw[hfr]at q;cases q
   exact .inr ⟨nY (env:=X.env) hfr,c,kb hno hc',⟨o,old c o ho,hd⟩⟩
 ·rcases look h with⟨_,a2,_⟩|⟨_,a2,_⟩
  ·exact⟨_,a2⟩
  ·obtain⟨v,o,ho,hd⟩:=I3.cell y c a2;exact⟨v,o,old c o ho,hd⟩
 ·rcases look h with⟨_,_,a3⟩|⟨_,a2,_⟩
  ·exact I3.hok.fresh (by omega)
  ·exact I3.freeC y c a2
 ·show(js.map _).length=ns.length;rw[zad];exact B.len
def sK{s2:Shared}{Qv:VK}{J:It}{it:Addr}{tn:Nat->Heap->Prop}{RR:Value->Addr->Result->Shared->Prop}
  (B:BlkOkC X scope ns js) (hc:X.calm=true) (I2:Inv X ρ σ H2 s2) (T:Turn X.prog X.w X.K tg J fp it tn) (st2:tn 0 s2.heap) (f2:∀b∈fp,gZ X ρ H2 b)
  (hg:∀C cl s₀ H₀ fp,PG (aX X scope ns C cl s₀ H₀ fp) tg g) (ht:∀C cl s₀ H₀ fp,PTs (aX X scope ns C cl s₀ H₀ fp) ifs tt) (he:∀C cl s₀ H₀ fp,PE (aX X scope ns C cl s₀ H₀ fp) elt te)
  (hw:∀D,H2 D=none->Di J g tt te (eZ js σ) H2 D Qv)
  (hRR:∀D C s' H',Inv X ρ σ H' s'->Qv (.ref D) H'->(∃m,s'.heap.Ns C m)->H' C=none->C≠X.env.locals->X.s₀.heap.objs.size<=C->(∀x c,X.env.cells.lookup x=some c->c≠C)->(∀p∈X.pn++ρ,p.1≠C)->RR (.ref D) C (.ok .next) s'):
  wpAny (model X.prog X.w) X.A (newList []) (fun acc s₃=>wpAny (model X.prog X.w) X.A (newFunctionEnv scope X.env.globals (dO X.env scope.names) [] X.env.qual none .none (some X.env)) (fun cenv s₄=>
   codeAny (model X.prog X.w) X.A (.compStart (.ListComp elt [⟨tg,iter,ifs,0⟩] scope pos) 0 (.ref it) acc { cenv with scope:=relabel scope X.env }) (RR acc cenv.locals) s₄) X.xe s₃) X.xe s2:=by
 refine wpAny_newObj_type (iW ?_)
 dsimp only
 have I3:Inv X ρ σ (upd H2 s2.heap.objs.size (.lst [])) { s2 with heap:=s2.heap.push { cls:=.type "list",data:=.seq ([]:List Value).toArray },toks:=s2.toks }:=I2.lnew .nil (zbk _);generalize hs3:({ s2 with heap:=s2.heap.push { cls:=.type "list",data:=.seq ([]:List Value).toArray },toks:=s2.toks }:Shared)=s3 at I3;have e3:s3.heap=s2.heap.push { cls:=.type "list",data:=.seq ([]:List Value).toArray }:=by rw[<-hs3]
 have k3:∀b u,s2.heap.get? b=some u->s3.heap.get? b=some u:=fun b u e=>by rw[e3];exact zaf _ e
 have sz3:s3.heap.objs.size=s2.heap.objs.size+1:=by rw[e3,zbw]
 have hD:H2 s2.heap.objs.size=none:=I2.fresh;obtain⟨h₁,hh₁⟩:∃h₁,h₁=pushCells (s3.heap.push { cls:=.type "dict",data:=.dict #[] }) scope.names:=⟨_,rfl⟩;have old:∀b u,s3.heap.get? b=some u->h₁.get? b=some u:=fun b u e=>by
  rw[hh₁];exact pushCells_keeps _ _ b u (zaf _ e)
 have hns:h₁.Ns s3.heap.objs.size (fun _=>none):=by
  rw[hh₁];exact(Heap.Ns.new s3.heap (.type "dict")).keeps (pushCells_keeps _ _)
 have cok:CellsOk h₁ (s3.heap.objs.size+1) (cellsFrom (s3.heap.objs.size+1) scope.names []):=by
  have q:=cellsFrom_ok scope.names (s3.heap.push { cls:=.type "dict",data:=.dict #[] }) (s3.heap.objs.size+1) [] ⟨fun _ _ hm=>(nomatch hm),List.Pairwise.nil⟩ (by rw[zbw];exact zav _);rw[zbw,<-hh₁]at q;exact q
 have obj2:∀b∈fp,b<s2.heap.objs.size:=fun b hb=>let⟨o,e,_⟩:=T.obj 0 _ st2 b hb;zal e;have f3:∀b∈fp,gZ X ρ (upd H2 s2.heap.objs.size (.lst [])) b:=fun b hb=>⟨by rw[aE (zaw (obj2 b hb))];exact(f2 b hb).1,(f2 b hb).2⟩;have lt3:∀b∈fp,b<s3.heap.objs.size:=fun b hb=>by rw[sz3];exact Nat.lt_succ_of_lt (obj2 b hb)
 obtain⟨W,⟨m0,w0⟩,turn⟩:=hw _ hD;have J0:=fun tk=>AY (tk:=tk) B I3 f3 lt3 hns old cok;have has:∀y∈scope.names,y.2=.free->∃c,X.env.cells.lookup y.1=some c:=fun y hy hk=>I2.ok.has y.1 (B.free y hy hk);have stat:∀{H':Hp},(∀b∈fp,H' b=none)->∀b∈fp,gZ (aX X scope ns s3.heap.objs.size (cellsFrom (s3.heap.objs.size+1) scope.names (dO X.env scope.names)) s3 (upd H2 s2.heap.objs.size (.lst [])) fp) [] H' b:=fun hn b hb=>
  ⟨hn b hb,zaw (lt3 b hb),(J0 0).ok.exfs b hb,.inl hb,fun x c e=>(J0 0).ok.exf b hb |>.2 x c e,fun p hp=>absurd (show p∈([]:List (Addr×Obj))from hp) (by simp)⟩
 have fin:∀{τ:St} {H':Hp} {s':Shared},Inv (aX X scope ns s3.heap.objs.size (cellsFrom (s3.heap.objs.size+1) scope.names (dO X.env scope.names)) s3 (upd H2 s2.heap.objs.size (.lst [])) fp) [] τ H' s'->Qv (.ref s2.heap.objs.size) H'->RR (.ref s2.heap.objs.size) s3.heap.objs.size (.ok .next) s':=fun {τ H' s'} I6 q=>by
  have u1:Un (frs X.stack) fp H2 (upd H2 s2.heap.objs.size (.lst [])) s2.heap s3.heap:=Un.laid k3 (zav _) hD;have os3:s3.os=s2.os:=by rw[<-hs3]
  have I7:Inv X ρ σ H' s':=I2.call' (ch:=fp) (I6.os.trans os3) (u1.trans I6.base) I6.hok I6.bare fun b hb=>⟨(f2 b hb).2.2.2.1,(f2 b hb).2.1,(f2 b hb).2.2.2.2.1,(f2 b hb).2.2.2.2.2⟩;have le2:s2.heap.objs.size<=s3.heap.objs.size:=by rw[sz3];exact Nat.le_succ _
  refine hRR _ _ s' H' I7 q ?_ I6.free (Nat.ne_of_gt (zag I2.lt le2)) (zau I2.sz le2) (fun x c e z=>?_) fun p hp z=>?_
  ·obtain⟨m,hn,_⟩:=I6.loc;exact⟨m,hn⟩
  ·obtain⟨v,hv⟩:=I2.cell x c e;exact absurd (zag hv.lt (by rw[z];exact le2)) (zaI _)
  ·exact absurd (zag (zal (I2.pin p hp).1) (by rw[z];exact le2)) (zaI _)
 rw[<-e3,<-hh₁];have loop:∀tk,codeAny (model X.prog X.w) X.A (.compLoop (.ListComp elt [⟨tg,iter,ifs,0⟩] scope pos) 0 (.ref it) (.ref s2.heap.objs.size) (compEnvC scope (cellsFrom (s3.heap.objs.size+1) scope.names (dO X.env scope.names)) s3.heap.objs.size X.env))
   (RR (.ref s2.heap.objs.size) s3.heap.objs.size) { s3 with heap:=h₁,toks:=tk }:=fun tk=>by
  refine codeAny_loop rfl (fun n s'=>∃i τ H',Inv (aX X scope ns s3.heap.objs.size (cellsFrom (s3.heap.objs.size+1) scope.names (dO X.env scope.names)) s3 (upd H2 s2.heap.objs.size (.lst [])) fp) [] τ H' s'/\tn i s'.heap/\(∀b∈fp,H' b=none)/\W i n τ H') (fun n s5 hI=>?_) m0
   ⟨0,_,_,J0 tk,T.keep _ _ _ st2 fun b _ o e=>old b o (k3 b o e),fun b hb=>(f3 b hb).1,w0⟩
  obtain⟨i,τ,H5,I5,st5,fr5,w5⟩:=hI;show wpAny _ X.A ((compTurn (.ListComp elt [⟨tg,iter,ifs,0⟩] scope pos) 0 (.ref it) (.ref s2.heap.objs.size) (compEnvC scope (cellsFrom (s3.heap.objs.size+1) scope.names (dO X.env scope.names)) s3.heap.objs.size X.env)).onRaise (fun x=>do noteFrame x (compEnvC scope (cellsFrom (s3.heap.objs.size+1) scope.names (dO X.env scope.names)) s3.heap.objs.size X.env);theTreesLotGoes x)) _ _ s5;refine wpAny_noted ?_;rw[compTurn_list];refine zam (wpAny_standAt (zam ?_));rcases turn i n τ H5 w5 with⟨stop,qn⟩|⟨go,N,hN,step⟩
  ·refine thn (T.done (aX X scope ns s3.heap.objs.size (cellsFrom (s3.heap.objs.size+1) scope.names (dO X.env scope.names)) s3 (upd H2 s2.heap.objs.size (.lst [])) fp) rfl rfl rfl hc i [] s5 τ H5 _ I5 (stat fr5) st5 stop) ?_;rintro r s6 ⟨hr,I6⟩;subst hr;exact zaT (fin I6 qn)
  ·refine thn (T.item (aX X scope ns s3.heap.objs.size (cellsFrom (s3.heap.objs.size+1) scope.names (dO X.env scope.names)) s3 (upd H2 s2.heap.objs.size (.lst [])) fp) rfl rfl rfl hc i [] s5 τ H5 _ I5 (stat fr5) st5 go) ?_;rintro r s6 ⟨u,hr,h6⟩;subst hr
   dsimp only
   refine zam (thn h6 fun _ s7 ⟨x,H7,I7,r7,y7,st7,fr7⟩=>?_);have I7':=I7.pinned (stat fr7) (T.obj _ _ st7);have back:∀{τ9:St} {H9:Hp} {s9:Shared},Inv (aX X scope ns s3.heap.objs.size (cellsFrom (s3.heap.objs.size+1) scope.names (dO X.env scope.names)) s3 (upd H2 s2.heap.objs.size (.lst [])) fp) ([]++k8 fp s7.heap) τ9 H9 s9 ->
     Inv (aX X scope ns s3.heap.objs.size (cellsFrom (s3.heap.objs.size+1) scope.names (dO X.env scope.names)) s3 (upd H2 s2.heap.objs.size (.lst [])) fp) [] τ9 H9 s9/\tn (i+1) s9.heap/\∀b∈fp,H9 b=none:=fun {τ9 H9 s9} I9=>by
    refine⟨I9.unpinned,T.keep _ _ _ st7 fun b hb o e=>(I9.pin (b,o) (zbh _ (zbh _ (h9 hb e)))).1,fun b hb=>?_⟩;obtain⟨o,e,d⟩:=T.obj _ _ st7 b hb;exact(I9.pin (b,o) (zbh _ (zbh _ (h9 hb e)))).2.1
   refine zam (thF (hg _ _ _ _ _ _ s7 τ H7 x u _ I7' r7 (step x H7 y7)) fun _ s8 ⟨τ8,H8,I8,q8⟩=>?_);refine zam (thF (ht _ _ _ _ _ _ s8 τ8 H8 _ I8 q8) fun b s9 ⟨H9,I9,q9⟩=>?_);cases b with
   |false=>
    rw[if_neg zbo]at q9;obtain⟨m',hm,w9⟩:=hN _ _ q9;obtain⟨a1,a2,a3⟩:=back I9;exact zaT ⟨rfl,m',hm,i+1,τ8,H9,a1,a2,a3,w9⟩
   |true=>
    rw[if_pos rfl]at q9;refine zam (zam (thF (he _ _ _ _ _ _ s9 τ8 H9 _ I9 q9) fun v s10 ⟨y,H10,I10,r10,q10⟩=>?_));obtain⟨xs,hx,hz,n10⟩:=q10;obtain⟨m',hm,w10⟩:=hN _ _ n10;refine zam (thF (lh _ s10 τ8 H10 (.ref s2.heap.objs.size) [y] (.ref s2.heap.objs.size) [v] (fun _ H11=>W (i+1) m' τ8 H11) I10 rfl (.cons r10 .nil) ⟨_,xs,y,rfl,rfl,hx,hz,w10⟩) fun _ s11 ⟨_,H11,I11,_,q11⟩=>?_);obtain⟨a1,a2,a3⟩:=back I11;exact zaT (zaT ⟨rfl,m',hm,i+1,τ8,H11,a1,a2,a3,q11⟩)
 have hst1:tn 0 h₁:=T.keep _ _ _ st2 fun b _ o e=>old b o (k3 b o e);subst hs3;exact codeAny_compStart_list (loop _) (T.self _ 0 _ _ _ hst1 (loop _))
def IE(B:BlkOkC X scope ns js)(hc:X.calm=true)(hi:PI X tg iter wi)
  (hg:∀C cl s₀ H₀ fp,PG (aX X scope ns C cl s₀ H₀ fp) tg g) (ht:∀C cl s₀ H₀ fp,PTs (aX X scope ns C cl s₀ H₀ fp) ifs tt) (he:∀C cl s₀ H₀ fp,PE (aX X scope ns C cl s₀ H₀ fp) elt te)
  (hs:∀x,foldedSetIterable iter X.env x=pure x:=by intro _;rfl):PE X (.ListComp elt [⟨tg,iter,ifs,0⟩] scope pos) (tLC wi g tt te js):=by
 intro ρ s σ H Q I h;rw[eval_ListComp];have hclos:=oS (scope:=scope) (env:=X.env) (fun y hy hk=>I.ok.has y.1 (B.free y hy hk));refine wpAny_comprehension_free (use:=none) rfl hs hclos B.kind B.names (thn (hi ρ s σ H _ I h) fun v s1 h1=>thn h1 fun itv s2 h2=>?_);obtain⟨it,fp,tn,J,H2,e,I2,T,st2,f2,hw⟩:=h2;subst e;refine sK (RR:=fun acc C=>compPost (model X.prog X.w) X.A X.xe none (EP X ρ σ Q) acc C) B hc I2 T st2 f2 hg ht he hw ?_;intro D C s' H' I' q hm c0 c1 c2 c3 c4;obtain⟨m,hn⟩:=hm;exact⟨m,hn,fun h' hs'=>⟨.ref D,H',I'.turned (t':=s'.toks) (fun b o hb e=>(hs'.2 b hb).trans e) c0 c1 (.inr c2) c3 c4,rfl,q⟩⟩
def xG(hN:X.N.Nodup)(hi':X.N[i]?=some x)(hx:X.env.scope.names.lookup x=some .local)(B:BlkOkC X scope ns js)(hc:X.calm=true)(hi:PI X tg iter wi)
  (hg:∀C cl s₀ H₀ fp,PG (aX X scope ns C cl s₀ H₀ fp) tg g) (ht:∀C cl s₀ H₀ fp,PTs (aX X scope ns C cl s₀ H₀ fp) ifs tt) (he:∀C cl s₀ H₀ fp,PE (aX X scope ns C cl s₀ H₀ fp) elt te)
  (hsw:swapsWith (.ListComp elt [⟨tg,iter,ifs,0⟩] scope pos) (some (.Name x pos')) ζ.line X.env=pure true:=by rfl)
  (hs:∀x,foldedSetIterable iter X.env x=pure x:=by intro _;rfl):PS X (.Assign [.Name x pos'] (.ListComp elt [⟨tg,iter,ifs,0⟩] scope pos) ζ) (pH (tLC wi g tt te js) (oH i)):=by
 intro ρ s σ H D I h;rw[exec_Assign_Name_used _ _ _ _ hsw];have hclos:=oS (scope:=scope) (env:=X.env) (fun y hy hk=>I.ok.has y.1 (B.free y hy hk));refine zam (wpAny_standAt (zam ?_));show wpAny _ X.A (do let _ <-comprehension (.ListComp elt [⟨tg,iter,ifs,0⟩] scope pos) scope X.env _ (newList []) false (eval iter X.env) (some (assign (.Name x pos') X.env))) _ _ s;refine zam (wpAny_mono (wpAny_comprehension_free (use:=some (assign (.Name x pos') X.env)) (Q:=fun _ s'=>SP X ρ D .next s') rfl hs hclos B.kind B.names
  (thn (hi ρ s σ H _ I h) fun v s1 h1=>thn h1 fun itv s2 h2=>?_)) (fun _ s' hq=>zaT (zaT hq)) fun _ _ e=>e)
 obtain⟨it,fp,tn,J,H2,e,I2,T,st2,f2,hw⟩:=h2;subst e;refine sK (RR:=fun acc C=>compPost (model X.prog X.w) X.A X.xe (some (assign (.Name x pos') X.env)) (fun _ s'=>SP X ρ D .next s') acc C) B hc I2 T st2 f2 hg ht he hw ?_;intro D' C s' H' I' q hm c0 c1 c2 c3 c4;obtain⟨m,hn⟩:=hm;show wpAny _ X.A (assign (.Name x pos') X.env (.ref D')) _ _ _;refine wpAny_assign_Name (qC (v:=.ref D') I' hN hi' (.inl hx) rfl (fun s4 I4 ⟨a,hsb,ha⟩=>?_) (.inr hx));have ne:C≠a:=by
  rcases ha with z|z
  ·rw[z];exact c1
  ·exact(c3 x a z).symm
 exact⟨m,hn.sameBut hsb ne,fun h' hs'=>⟨_,H',I4.turned (t':=s4.toks) (fun b o hb e=>(hs'.2 b hb).trans e) c0 c1 (.inr c2) c3 c4,q⟩⟩
end
mutual
def DV(H:Hp):V->PyData->Prop
 |v,.none=>v=.non
 |v,.bool b=>v=.bl b
 |v,.int i=>v=.int i
 |v,.str x=>v=.str x
 |v,.list ds=>∃a xs,v=.ref a/\H a=some (.lst xs)/\DVs H xs ds
 |v,.tuple ds=>∃a xs,v=.ref a/\H a=some (.tup xs)/\DVs H xs ds
 |_,.dict _=>False
def DVs(H:Hp):List V->List PyData->Prop
 |vs,[]=>vs=[]
 |vs,d::ds=>∃v r,vs=v::r/\DV H v d/\DVs H r ds
end
mutual
theorem DV.same{H H':Hp}(s:KG H H'):∀{v:V} (d:PyData),DV H v d->DV H' v d
 |_,.none,h=>by simpa[DV]using h
 |_,.bool _,h=>by simpa[DV]using h
 |_,.int _,h=>by simpa[DV]using h
 |_,.str _,h=>by simpa[DV]using h
 |_,.list ds,h=>by
  unfold DV at h ⊢;obtain⟨a,xs,e,h1,h2⟩:=h;exact⟨a,xs,e,s _ _ h1,DVs.same s ds h2⟩
 |_,.tuple ds,h=>by
  unfold DV at h ⊢;obtain⟨a,xs,e,h1,h2⟩:=h;exact⟨a,xs,e,s _ _ h1,DVs.same s ds h2⟩
 |_,.dict _,h=>by
  unfold DV at h;exact h.elim
theorem DVs.same{H H':Hp}(s:KG H H'):∀{vs:List V} (ds:List PyData),DVs H vs ds->DVs H' vs ds
 |_,[],h=>by
  unfold DVs at h ⊢;exact h
 |_,d::ds,h=>by
  unfold DVs at h ⊢;obtain⟨v,r,e,h1,h2⟩:=h;exact⟨v,r,e,DV.same s d h1,DVs.same s ds h2⟩
end
section
variable{s:Shared}
mutual
theorem DV.reads(I:Inv X ρ σ H s):∀{v:V} {u:Value} (d:PyData),DV H v d->RelV v u->∃as,Reads s.heap u d as
 |_,_,.none,h,r=>by
  unfold DV at h;subst h;cases r;exact⟨_,.none⟩
 |_,_,.bool b,h,r=>by
  unfold DV at h;subst h;cases r;exact⟨_,.bool _⟩
 |_,_,.int i,h,r=>by
  unfold DV at h;subst h;obtain⟨t,rfl⟩:=r;exact⟨_,.int _ _⟩
 |_,_,.str x,h,r=>by
  unfold DV at h;subst h;obtain⟨t,rfl⟩:=r;exact⟨_,.str _ _⟩
 |_,_,.list ds,h,r=>by
  unfold DV at h;obtain⟨a,xs,rfl,h1,h2⟩:=h;cases r;obtain⟨its,rv,⟨o,n,e1,e2,_,e3⟩,_⟩:=I.list (SqL.of h1);obtain⟨as,ra⟩:=DVs.reads I ds h2 rv;exact⟨_,.list e1 e2 e3 (by simpa using ra)⟩
 |_,_,.tuple ds,h,r=>by
  unfold DV at h;obtain⟨a,xs,rfl,h1,h2⟩:=h;cases r;obtain⟨its,rv,⟨o,e1,e2,n,e3⟩,_⟩:=I.tuple (SqT.of h1);obtain⟨as,ra⟩:=DVs.reads I ds h2 rv;exact⟨_,.tuple e1 e2 e3 (by simpa using ra)⟩
 |_,_,.dict _,h,_=>by
  unfold DV at h;exact h.elim
theorem DVs.reads(I:Inv X ρ σ H s):∀{vs:List V} {us:List Value} (ds:List PyData),DVs H vs ds->Vals vs us->∃as,ReadsAll s.heap us ds as
 |_,_,[],h,r=>by
  unfold DVs at h;subst h;cases r;exact⟨_,.nil⟩
 |_,_,d::ds,h,r=>by
  unfold DVs at h;obtain⟨v,t,rfl,h1,h2⟩:=h;cases r with
  |cons ru rr=>
   obtain⟨as,a1⟩:=DV.reads I d h1 ru;obtain⟨bs,a2⟩:=DVs.reads I ds h2 rr;exact⟨_,.cons a1 a2⟩
end
end
mutual
theorem qM{H:Hp}:∀{v:V} (d:PyData),DV H v d->d.hasDict=false
 |_,.none,_=>by simp only[PyData.hasDict]
 |_,.bool _,_=>by simp only[PyData.hasDict]
 |_,.int _,_=>by simp only[PyData.hasDict]
 |_,.str _,_=>by simp only[PyData.hasDict]
 |_,.list ds,h=>by
  unfold DV at h;obtain⟨a,xs,e,h1,h2⟩:=h;simp only[PyData.hasDict];exact kt ds h2
 |_,.tuple ds,h=>by
  unfold DV at h;obtain⟨a,xs,e,h1,h2⟩:=h;simp only[PyData.hasDict];exact kt ds h2
 |_,.dict _,h=>by
  unfold DV at h;exact h.elim
theorem kt{H:Hp}:∀{vs:List V} (ds:List PyData),DVs H vs ds->PyData.hasDictAll ds=false
 |_,[],_=>by simp only[PyData.hasDictAll]
 |_,d::ds,h=>by
  unfold DVs at h;obtain⟨v,r,e,h1,h2⟩:=h;simp only[PyData.hasDictAll,qM d h1,kt ds h2,Bool.or_self]
end
def KW:List V->Hp->VK->Prop:=fun xs H Q=>∃x d,xs=[x]/\DV H x d/\d.showable=true/\d.depth<=60/\d.shown.length<=sizeLine/\Q (.str d.shown) H
def yN(hg:X.A.guards=some [])(hu:X.A.units+64<cLine):CallR X (.builtin "repr") KW:=by
 intro ρ s σ H xs us Q I r h;obtain⟨x,d,rfl,hd,hsh,hdp,hsz,q⟩:=h;obtain⟨u,rfl,ru⟩:=cS r;have nd:=qM d hd;obtain⟨as,rd⟩:=DV.reads I d hd ru;cases d with
 |none=>
  unfold DV at hd;subst hd;cases ru;have e:(PyData.none).shown=("None":Str):=PyData.shown_none;rw[e]at q;exact P.repr_of_none ⟨.str _,H,I.tok _,⟨_,rfl⟩,q⟩
 |bool b=>
  unfold DV at hd;subst hd;cases ru;have e:(PyData.bool b).shown=(if b then "True" else "False":Str):=PyData.shown_bool b;rw[e]at q;exact P.repr_of_bool ⟨.str (if b then "True" else "False"),H,I.tok _,⟨_,rfl⟩,q⟩
 |int i=>
  unfold DV at hd;subst hd;obtain⟨t,rfl⟩:=ru;have e:(PyData.int i).shown=((toString i:String):Str):=PyData.shown_int i;rw[e]at q;have hl:i.natAbs.log2<1920:=by simpa[PyData.showable]using hsh
  exact P.repr_of_int hl ⟨.str _,H,I.tok _,⟨_,rfl⟩,q⟩
 |str y=>
  unfold DV at hd;subst hd;obtain⟨t,rfl⟩:=ru;have e:(PyData.str y).shown=reprText y:=PyData.shown_str y;rw[e]at q hsz;exact P.repr_of_str ⟨.str _,H,I.tok _,⟨_,rfl⟩,q⟩ hsz
 |list ds=>
  have hd':=hd;unfold DV at hd';obtain⟨a,ys,rfl,_,_⟩:=hd';cases ru;exact repr_of_reads' rd hsh (PyData.noDict_hsm nd) hg (by omega) (fun _ _ e=>e) (fun h' u tk hk=>⟨.str _,H,I.kept (t':=tk) hk,⟨_,rfl⟩,q⟩) hsz
 |tuple ds=>
  have hd':=hd;unfold DV at hd';obtain⟨a,ys,rfl,_,_⟩:=hd';cases ru;exact repr_of_reads' rd hsh (PyData.noDict_hsm nd) hg (by omega) (fun _ _ e=>e) (fun h' u tk hk=>⟨.str _,H,I.kept (t':=tk) hk,⟨_,rfl⟩,q⟩) hsz
 |dict _=>
  unfold DV at hd;exact hd.elim
section
variable{s:Shared}
def vV{vals:Array Value}{y:Value}{R:Value->Shared->Prop}(a1:s.heap.IsTupleIter jt tu n)(a2:s.heap.IsTuple tu vals)(a3:vals[n]?=some y)
  (q:∀g,g.IsTupleIter jt tu (n+1)->Heap.SameBut jt s.heap g->R y { s with heap:=g }):wpAny (model prog w) A (Builtin.SmallTypes.nextOf (.ref jt)) R E s:=by
 obtain⟨ob,b1,b2,b3⟩:=id a1;obtain⟨ot,c1,_,m,c2⟩:=a2;unfold Builtin.SmallTypes.nextOf;refine zam (zbC (name:=Str.ofString "__next__") a1.typeIs F.slot_tuple_iterator_next (wpAny_call_entry F.slot_tuple_iterator_next a1.typeIs F.entry_tuple_iterator_next ?_ (F.args_tuple_iterator_next_1 _)));show wpAny _ _ (field (.ref jt) 0 >>= _) _ _ s;refine zam (wpAny_field b1 b3 (x:=.ref tu) rfl ?_);show wpAny _ _ (if(Value.ref tu==Value.none)=true then _ else _) _ _ s;rw[if_neg (show ¬((Value.ref tu==Value.none)=true)from zbo)];show wpAny _ _ (field (.ref jt) 1 >>= _) _ _ s;refine zam (wpAny_field b1 b3 (x:=.int n 0) rfl ?_);show wpAny _ _ (seqItems? (.ref tu) >>= _) _ _ s;refine zam (wpAny_seqItems c1 c2 ?_);simp only[zaL,a3];refine zam (wpAny_setField b1 b3 (by simp) (zaT ⟨y,rfl,zaT (q _ ?_ (Heap.SameBut.update ..))⟩));refine⟨_,Heap.get?_update_self _ b1 (Obj.isFreed_of_fields (Obj.data_mapFields b3 _)),(Obj.cls_mapFields ..).trans b2,?_⟩;rw[Obj.data_mapFields b3];simp[rawInt]
def qA{vals:Array Value}{R:Value->Shared->Prop}(hh:A.handled=none)(a1:s.heap.IsTupleIter jt tu n)(a2:s.heap.IsTuple tu vals)(a3:vals[n]?=none)
  (q:∀g e,Heap.ExtBut jt s.heap g->(∃o,g.get? e=some o/\o.cls=.type "StopIteration")->E (.ref e) { s with heap:=g }):wpAny (model prog w) A (Builtin.SmallTypes.nextOf (.ref jt)) R E s:=by
 obtain⟨ob,b1,b2,b3⟩:=id a1;obtain⟨ot,c1,_,m,c2⟩:=a2;unfold Builtin.SmallTypes.nextOf;refine zam (zbC (name:=Str.ofString "__next__") a1.typeIs F.slot_tuple_iterator_next (wpAny_call_entry F.slot_tuple_iterator_next a1.typeIs F.entry_tuple_iterator_next ?_ (F.args_tuple_iterator_next_1 _)));show wpAny _ _ (field (.ref jt) 0 >>= _) _ _ s;refine zam (wpAny_field b1 b3 (x:=.ref tu) rfl ?_);show wpAny _ _ (if(Value.ref tu==Value.none)=true then _ else _) _ _ s;rw[if_neg (show ¬((Value.ref tu==Value.none)=true)from zbo)];show wpAny _ _ (field (.ref jt) 1 >>= _) _ _ s;refine zam (wpAny_field b1 b3 (x:=.int n 0) rfl ?_);show wpAny _ _ (seqItems? (.ref tu) >>= _) _ _ s;refine zam (wpAny_seqItems c1 c2 ?_);simp only[zaL,a3];refine zam (wpAny_rule (zam (wpAny_setField b1 b3 (by simp) ?_)));show wpAny _ _ (newExc (.type "StopIteration") [] >>= _) _ _ _;refine zam ?_;simp only[newExc,newTuple];refine zam (wpAny_newObj_type ?_ (by show(0:Nat)<=_;exact zbk _));refine zam (m:=firstArgMember _ _) (wpAny_of_eq (a:=Value.none) (by first|rfl | (simp only[firstArgMember];rfl)) ?_);refine wpAny_newObj_type ?_;simp only[raiseNew];refine zam (wpAny_handled ?_)
 first|rw[show A.in1.handled=none from hh]|rw[hh]
 refine zam (zaT (wpAny_throw ?_));exact q _ _ (((Heap.SameBut.update ..).extBut.push _).push _) ⟨_,zan _ rfl,rfl⟩
def fy(hh:A.handled=none)(jt tu:Addr)(hne:tu≠jt)(vals:Array Value):Draws prog w A jt [jt,tu] vals.size (fun i v=>vals[i]?=some v) (fun i h=>h.IsTupleIter jt tu i/\h.IsTuple tu vals) where
 live:=fun _ _ st=>let⟨o,ho,_⟩:=st.1;⟨o,ho⟩
 frame:=fun _ _ _ st hk=>⟨st.1.at fun o e=>hk jt (by simp) o e,let⟨o,ho,r⟩:=st.2;⟨o,hk tu (by simp) o ho,r⟩⟩
 item:=fun i s Q E hi st hQ=>by
  refine vV st.1 st.2 (y:=vals[i]) (by simp[hi]) fun g st' sb=>?_;exact hQ _ g s.toks (by simp[hi]) ⟨st',let⟨o,ho,r⟩:=st.2;⟨o,sb.extBut _ _ hne ho,r⟩⟩ sb
 done:=fun s Q E st hE=>qA hh st.1 st.2 (by simp) hE
end
def pW(tu:Addr)(vals:Array Value)(n:Nat)(dct:Option Addr)(sl:Array (Option Value)):
  Meets (Builtin.«enumerate.__new__» ⟨[.type "enumerate",.ref tu],[]⟩) (fun _ R s=>s.heap.get? tu=some { cls:=.type "tuple",dict:=dct,data:=.seq vals n,slots:=sl } /\
   R (.ok (.ret (.ref (s.heap.push { cls:=.type "tuple_iterator",data:=.fields #[.ref tu,.int 0 0] }).objs.size)))
    { s with heap:=(s.heap.push { cls:=.type "tuple_iterator",data:=.fields #[.ref tu,.int 0 0] }).push { cls:=.type "enumerate",data:=.fields #[.none,.bool false,.ref s.heap.objs.size,rawInt 0,.none,.none] } }):=
 .of_wp fun prog w A R s h=>by
  obtain⟨hp,g,d,tk,os⟩:=s;obtain⟨ht,h⟩:=h;have hsub:=sub_enumerate;have hT:Heap.IsTuple (Shared.heap ⟨hp,g,d,tk,os⟩) tu vals:=⟨_,ht,rfl,n,rfl⟩
  wp_walk using AutoSeq1.wpAny_loadPart' ht
  refine wpAny_stack_any fun st=>zaT ?_;split
  ·rename_i c _ _ _ _ _;cases(c==Value.type "enumerate")
   ·wp_walk using AutoSeq1.wpAny_loadPart' ht,wpAny_pyIter_tuple hT
    exact⟨_,rfl,h⟩
   ·wp_walk using AutoSeq1.wpAny_loadPart' ht,wpAny_pyIter_tuple hT
    exact⟨_,rfl,h⟩
  ·wp_walk using AutoSeq1.wpAny_loadPart' ht,wpAny_pyIter_tuple hT
   exact⟨_,rfl,h⟩
section
variable{s:Shared}
def rn{vals:Array Value}{Q:Value->Shared->Prop}(hT:s.heap.IsTuple tu vals)
  (h:∀g,IsEnum g (s.heap.objs.size+1) s.heap.objs.size 0 .none->g.IsTupleIter s.heap.objs.size tu 0->g.objs.size=s.heap.objs.size+2 ->
   (∀b o,s.heap.get? b=some o->g.get? b=some o)->Q (.ref (s.heap.objs.size+1)) { s with heap:=g }):
  wpAny (model prog w) A (call (.type "enumerate") [.ref tu]) Q E s:=by
 obtain⟨⟨c,dct,dt,sl⟩,hl,hc,n,hd⟩:=hT;have hc':c=.type "tuple":=hc;have hd':dt=.seq vals n:=hd;subst hc' hd';refine callType_new F.called_enumerate (by decide) (F.typeCall_enumerate_1 _) (F.newCall_enumerate_1 _) (fun ob=>F.args_object_init_2 ob _) F.entry_enumerate_new (pW tu vals n dct sl) ⟨hl,?_⟩;have sz1:(s.heap.push { cls:=.type "tuple_iterator",data:=.fields #[.ref tu,.int 0 0] }).objs.size=s.heap.objs.size+1:=zbw ..;show _/\_;rw[sz1];have g2:=zan (s.heap.push { cls:=.type "tuple_iterator",data:=.fields #[.ref tu,.int 0 0] }) (o:={ cls:=.type "enumerate",data:=.fields #[.none,.bool false,.ref s.heap.objs.size,rawInt 0,.none,.none] }) rfl;rw[sz1]at g2;refine⟨⟨_,g2,rfl⟩,h _ g2 ⟨_,zaf _ (zan _ rfl),rfl,rfl⟩ (by rw[zbw,sz1]) fun b o x=>zaf _ (zaf _ x)⟩
def yI{e it:Addr}{i:Int}{vals:Array Value}{old:Value}{Q:Option Value->Shared->Prop}(hh:A.handled=none)(he:IsEnum s.heap e it i old)(a1:s.heap.IsTupleIter it tu n)(a2:s.heap.IsTuple tu vals)(a3:vals[n]?=none)
  (q:∀g,Heap.ExtBut it s.heap g->Q none { s with heap:=g }):wpAny (model prog w) A (pyNext (.ref e)) Q E s:=by
 have ty:s.TypeIs (.ref e) "enumerate":=⟨_,he,rfl⟩;unfold pyNext;refine zam (wpAny_attempt (zbC (name:=Str.ofString "__next__") ty F.slot_enumerate_next (wpAny_call_entry F.slot_enumerate_next ty F.entry_enumerate_next ?_ (F.args_enumerate_next_1 _))));show wpAny _ _ (field (.ref e) 2 >>= _) _ _ _;refine zam (wpAny_field he rfl (x:=.ref it) rfl ?_);refine zam (qA hh a1 a2 a3 fun g x k hx=>?_);obtain⟨o,ho,hc⟩:=hx;exact zam (wpAny_isInstance (T:="StopIteration") (b:=true) ⟨o,ho,hc⟩ isSubtype_stop (zaT (q _ k)))
end
def ItT(K:zb7)(a:Addr):It:=
 ⟨fun i H=>∃xs x,SqT K H a xs/\xs[i]?=some x,
  fun i H y H'=>∃p x,y=.ref p/\H p=none/\H'=upd H p (.tup [.int i,x])/\∀xs,SqT K H a xs->xs[i]?=some x,
  fun i H=>∃xs,SqT K H a xs/\xs.length<=i⟩
def vU{P:Program}(a e it:Addr)(hei:e≠it)(hai:a≠it):
  Turn P w K (.Tuple elts k tp) (ItT K a) [e,it] e (fun i h=>(∃old,IsEnum h e it i old)/\h.IsTupleIter it a i) where
 mem:=by simp
 obj:=fun i h st b hb=>by
  obtain⟨⟨old,he⟩,o,ho,hc,hd⟩:=st;have hb':b=e\/b=it:=by simpa using hb
  rcases hb' with rfl|rfl
  ·exact⟨_,he,fun v z=>by
    have z':Data.fields _=Data.cell v:=z;cases z'⟩
  ·exact⟨o,ho,fun v z=>by rw[hd]at z;cases z⟩
 keep:=fun i h h' st kp=>⟨let⟨old,he⟩:=st.1;⟨old,kp e (by simp) _ he⟩,st.2.at fun o q=>kp it (by simp) o q⟩
 item:=by
  intro X hP hw hK hc i ρ s σ H E I hf st hg;subst hP hw hK;obtain⟨xs,x,hq,hx⟩:=hg;obtain⟨its,rv,pt,hz⟩:=I.tuple hq;obtain⟨u,hu,ru⟩:=rv.get hx;obtain⟨⟨old,he⟩,hit⟩:=st;have hT:s.heap.IsTuple a its.toArray:=pt;have hea:e≠a:=fun z=>by
   subst z;obtain⟨o,e1,e2,_⟩:=id hT;have he':s.heap.get? e=some _:=he;rw[e1]at he';cases he';simp at e2
  have hu':its.toArray[i]?=some u:=by simpa using hu
  have hlt:i<its.toArray.size:=(Array.getElem?_eq_some_iff.mp hu').1;refine wpAny_pyNext_enum_itemD (fy (A:=X.A.in1) (show X.A.in1.handled=none from I.ok.hd hc) it a hai its.toArray) he ⟨hit,hT⟩ hlt hei (by simp[hei,hea]) fun y h1 tk hy ho1 st1 ht1 hz1 hk1=>?_;rw[hu']at hy;cases hy;refine⟨_,rfl,wpAny_letOwnedTupleGo_enum ho1 fun h2 he2 hs2=>?_⟩;have eL:e<s.heap.objs.size:=zal he;have ht2:h2.get? s.heap.objs.size=some { cls:=.type "tuple",data:=.seq #[.int i tk,u] }:=(hs2.2 _ (Nat.ne_of_gt eL)).trans ht1;have hit2:h2.IsTupleIter it a (i+1):=st1.1.at fun o q=>hs2.extBut _ _ hei.symm q;have I2:Inv X ρ σ (upd H s.heap.objs.size (.tup [.int i,x])) { s with heap:=h2,toks:=tk+1 }:=by
   refine I.turnedLaid (fp:=[e,it]) hf (zav _) (fun b ob hb q=>?_) (fun b hb=>?_) ?_
   ·have h1:b≠e:=fun z=>hb (by simp[z]);have h2':b≠it:=fun z=>hb (by simp[z]);exact(hs2.2 b h1).trans (hk1 b ob h1 h2' q)
   ·have hb':b=e\/b=it:=by simpa using hb
    rcases hb' with rfl|rfl
    ·exact⟨_,he2⟩
    ·obtain⟨o,ho,_⟩:=hit2;exact⟨o,ho⟩
   ·refine⟨(by show 2<=sizeLine;decide),[.int i tk,u],.cons ⟨_,rfl⟩ (.cons ru .nil),?_⟩;exact⟨_,ht2,rfl,_,rfl,rfl⟩
  have fr:∀b∈[e,it],upd H s.heap.objs.size (.tup [.int i,x]) b=none:=fun b hb=>by
   have hlt:b<s.heap.objs.size:=by
    have hb':b=e\/b=it:=by simpa using hb
    rcases hb' with rfl|rfl
    ·exact eL
    ·obtain⟨o,ho,_⟩:=hit;exact zal ho
   rw[aE (zaw hlt)];exact(hf b hb).1
  exact⟨.ref s.heap.objs.size,_,I2,rfl,⟨_,x,rfl,I.fresh,rfl,fun ys hy=>by rw[I.tuple_inj hy hq];exact hx⟩,⟨⟨_,he2⟩,hit2⟩,fr⟩
 done:=by
  intro X hP hw hK hc i ρ s σ H E I hf st hg;subst hP hw hK;obtain⟨xs,hq,hx⟩:=hg;obtain⟨its,rv,pt,hz⟩:=I.tuple hq;obtain⟨⟨old,he⟩,hit⟩:=st;obtain⟨f0,f1,f2,f3,f4,f5⟩:=hf it (by simp);have hl:=rv.length;have hT:s.heap.IsTuple a its.toArray:=pt;exact yI (I.ok.hd hc) he hit hT (by simp;omega) fun h' eb=>⟨rfl,I.turned (t':=s.toks) (fun b o hb q=>eb b o hb q) f0 f1 f3 f4 f5⟩
 self:=fun _ _ _ _ _ st h=>let⟨⟨_,he⟩,_⟩:=st;wpAny_pyIter_enum he h
section
open PySem.SeqAt
end
def Rp(H:Hp)(v:V)(txt:Str):Prop:=(∃d,DV H v d/\d.showable=true/\d.depth<=60/\d.shown.length<=sizeLine/\txt=d.shown)\/∃a,v=.ref a/\Rd H a (.dK [])/\txt=("{}":Str)
def Ij:List V->Hp->VK->Prop:=fun xs H Q=>∃x txt,xs=[x]/\Rp H x txt/\Q (.str txt) H
def wP(hg:X.A.guards=some [])(hu:X.A.units+64<cLine):CallR X (.builtin "repr") Ij:=by
 intro ρ s σ H xs us Q I r h;obtain⟨x,txt,rfl,hd,q⟩:=h;rcases hd with⟨d,h1,h2,h3,h4,rfl⟩|⟨a,rfl,ha,rfl⟩
 ·exact yN hg hu ρ s σ H _ us Q I r ⟨x,d,rfl,h1,h2,h3,h4,q⟩
 ·obtain⟨u,rfl,ru⟩:=cS r;cases ru;obtain⟨_,hsys,vs,kv,dd⟩:=eX I.hok ha;have hv:vs=[]:=by
   have e:=KV.length kv;exact za7.mp e.symm
  subst hv;have rd:Reads s.heap (.ref a) (.dict []) (a::[]++[]):=by
   obtain⟨o,es,n,g1,g2,g3,_,g5,_⟩:=dd;have h0:es.toList=[]:=by
    generalize es.toList=L at g5;cases g5;rfl
   refine .dict g1 g2.1 g3 ?_ ?_
   ·rw[h0];exact .nil
   ·rw[h0];exact .nil
  have e:(PyData.dict []).shown=("{}":Str):=by decide +kernel
  refine repr_of_reads' rd (by decide +kernel) (fun _ hm=>?_) hg (by show X.A.units+(1+1)<cLine;omega) (fun _ _ e=>e) (fun h' u tk hk=>⟨.str _,H,I.kept (t':=tk) hk,⟨_,rfl⟩,?_⟩) (by rw[e];decide)
  ·have hm':sysModules=a:=by simpa using hm
   rw[<-hm']at hsys;simp at hsys
  ·rw[e];exact q
abbrev D:=PyData
variable{t t1 t2:D}{ks:List (D×D)}{g g':D->D->Option D}{ts us:List D}
abbrev En:=List (Option D)
variable{en en' en1 en2:En}
abbrev AS:=Addr->Prop
variable{R R' R1:Nat->AS}{O O' G F2 Ox Ox' F1 F0 F' O1:AS}
def dn:Nat->Nat
 |0=>0
 |1=>0
 |2=>1
 |n+3=>n+3
def qi:∀{a b:Nat},a<=b->dn a<=dn b
 |0,_,_=>zbk _
 |1,_,_=>zbk _
 |2,2,_=>zav _
 |2,b+3,_=>by show 1<=b+3;omega
 |a+3,b+3,h=>h
 |a+3,0,h=>by omega
 |a+3,1,h=>by omega
 |a+3,2,h=>by omega
 |2,0,h=>by omega
 |2,1,h=>by omega
def kD:Key->D
 |.inl i=>.int i
 |.inr x=>.str x
def FzL(K:zb7)(O:AS)(H:Hp)(a:Addr)(vs:List V):Prop:=(Rd H a (.lst vs)/\¬O a)\/∀H',SqL K H' a vs
def FzT(K:zb7)(O:AS)(H:Hp)(a:Addr)(vs:List V):Prop:=H a=some (.tup vs)/\¬O a
def FzL.sq(h:FzL K O H a vs):SqL K H a vs:=h.elim (fun h=>.inl h.1) fun h=>h H
def FzT.sq(h:FzT K O H a vs):SqT K H a vs:=SqT.of h.1
def Ki(a C:Addr):Heap->Prop:=fun h=>∃o,h.get? a=some o/\o.cls=.ref C/\∀c,o.data≠.cls c
def TupD(K:zb7)(H:Hp)(O:AS)(ks:List (D×D))(a:Addr):Prop:=(∃(kk:List Key) (b:Bool),ks=[(.tuple (kk.map kD),.bool b)]/\H a=some (.dT [(kk,.bl b)])/\¬O a) \/
 ∃(x:Str) (C:Addr),ks=[(.none,.str x)]/\PySem.W.nsIn K mainGlobals x=some (some (.ref C))/\H a=some (.ext (Ki a C))/\¬O a
def TupD.to(h:TupD K H O ks a)(k:∀o,H a=some o->¬O a->H' a=some o/\¬O' a):TupD K H' O' ks a:=by
 rcases h with⟨kk,b,h1,h2,h3⟩|⟨x,C,h1,h0,h2,h3⟩
 ·obtain⟨g1,g2⟩:=k _ h2 h3;exact .inl ⟨kk,b,h1,g1,g2⟩
 ·obtain⟨g1,g2⟩:=k _ h2 h3;exact .inr ⟨x,C,h1,h0,g1,g2⟩
mutual
def Ow(K:zb7)(O:AS)(H:Hp):D->Nat->V->AS->Prop
 |.none,_,v,_=>v=.non
 |.bool b,_,v,_=>v=.bl b
 |.int i,_,v,_=>v=.int i
 |.str x,_,v,_=>v=.str x
 |.tuple ts,d,v,F=>∃a vs,v=.ref a/\((d=0/\FzT K O H a vs/\Ows K O H ts 0 vs F)\/(d≠0/\H a=some (.tup vs)/\F a/\∃F':AS,(∀b,F' b->F b/\b≠a)/\Ows K O H ts (dn d) vs F'))
 |.list ts,d,v,F=>∃a vs,v=.ref a/\((d=0/\FzL K O H a vs/\Ows K O H ts 0 vs F)\/(d≠0/\H a=some (.lst vs)/\F a/\∃F':AS,(∀b,F' b->F b/\b≠a)/\Ows K O H ts (dn d) vs F'))
 |.dict ks,d,v,F=>∃a vs,v=.ref a/\((d=0/\Rd H a (.dK vs)/\¬O a/\Owd K O H ks 0 vs F)\/(d≠0/\H a=some (.dK vs)/\F a/\∃F':AS,(∀b,F' b->F b/\b≠a)/\Owd K O H ks (dn d) vs F')\/(d=0/\TupD K H O ks a))
def Ows(K:zb7)(O:AS)(H:Hp):List D->Nat->List V->AS->Prop
 |[],_,vs,_=>vs=[]
 |t::ts,d,vs,F=>∃v r,∃F1 F2:AS,vs=v::r/\(∀b,F1 b->F b)/\(∀b,F2 b->F b)/\(∀b,F1 b->¬F2 b)/\Ow K O H t d v F1/\Ows K O H ts d r F2
def Owd(K:zb7)(O:AS)(H:Hp):List (D×D)->Nat->List (Key×V)->AS->Prop
 |[],_,vs,_=>vs=[]
 | (k,t)::ts,d,vs,F=>∃q v r,∃F1 F2:AS,vs=(q,v)::r/\k=kD q/\(∀b,F1 b->F b)/\(∀b,F2 b->F b)/\(∀b,F1 b->¬F2 b)/\Ow K O H t d v F1/\Owd K O H ts d r F2
end
def Rd.mv(hk:∀o,H a=some o->H' a=some o)(h:Rd H a u):Rd H' a u:=by
 rcases h with h|⟨o,h⟩
 ·exact .inl (hk _ h)
 ·exact .inr ⟨o,hk _ h⟩
def Rd.there(h:Rd H a u):H a≠none:=by
 rcases h with h|⟨o,h⟩<;>rw[h]<;>exact fun z=>nomatch z
structure Mv(O O':AS)(G:AS)(H H':Hp):Prop where
 k:∀a o,H a=some o->(¬O a\/G a)->H' a=some o
 o:∀a,O' a->O a\/H a=none
def FzL.mv{G:AS}{a:Addr}{vs:List V}(m:Mv O O' G H H')(h:FzL K O H a vs):FzL K O' H' a vs:=by
 rcases h with⟨h,n⟩|h
 ·refine .inl ⟨h.mv fun o e=>m.k _ _ e (.inl n),fun z=>?_⟩;rcases m.o _ z with z|z
  ·exact n z
  ·exact h.there z
 ·exact .inr h
def FzT.mv(m:Mv O O' G H H')(h:FzT K O H a vs):FzT K O' H' a vs:=by
 obtain⟨h,n⟩:=h;refine⟨m.k _ _ h (.inl n),fun z=>?_⟩;rcases m.o _ z with z|z
 ·exact n z
 ·rw[h]at z;cases z
mutual
theorem Ow.mv{G:AS}(m:Mv O O' G H H'):∀(t:D) {d:Nat} {v:V} {F:AS},(∀b,F b->G b)->Ow K O H t d v F->Ow K O' H' t d v F
 |.none,_,_,_,_,h=>h
 |.bool _,_,_,_,_,h=>h
 |.int _,_,_,_,_,h=>h
 |.str _,_,_,_,_,h=>h
 |.tuple ts,_,_,_,g,h=>by
  obtain⟨a,vs,e,⟨h0,h1,h2⟩|⟨h0,h1,h2,F',hf,h3⟩⟩:=h
  ·exact⟨a,vs,e,.inl ⟨h0,h1.mv m,Ows.mv m ts g h2⟩⟩
  ·exact⟨a,vs,e,.inr ⟨h0,m.k _ _ h1 (.inr (g _ h2)),h2,F',hf,Ows.mv m ts (fun b hb=>g _ (hf b hb).1) h3⟩⟩
 |.list ts,_,_,_,g,h=>by
  obtain⟨a,vs,e,⟨h0,h1,h2⟩|⟨h0,h1,h2,F',hf,h3⟩⟩:=h
  ·exact⟨a,vs,e,.inl ⟨h0,h1.mv m,Ows.mv m ts g h2⟩⟩
  ·exact⟨a,vs,e,.inr ⟨h0,m.k _ _ h1 (.inr (g _ h2)),h2,F',hf,Ows.mv m ts (fun b hb=>g _ (hf b hb).1) h3⟩⟩
 |.dict ks,_,_,_,g,h=>by
  obtain⟨a,vs,e,⟨h0,h1,hn,h2⟩|⟨h0,h1,h2,F',hf,h3⟩|⟨h0,ht⟩⟩:=h
  ·refine⟨a,vs,e,.inl ⟨h0,h1.mv fun o e=>m.k _ _ e (.inl hn),fun z=>?_,Owd.mv m ks g h2⟩⟩;rcases m.o _ z with z|z
   ·exact hn z
   ·exact h1.there z
  ·exact⟨a,vs,e,.inr (.inl ⟨h0,m.k _ _ h1 (.inr (g _ h2)),h2,F',hf,Owd.mv m ks (fun b hb=>g _ (hf b hb).1) h3⟩)⟩
  ·refine⟨a,vs,e,.inr (.inr ⟨h0,ht.to fun o h2 hn=>⟨m.k _ _ h2 (.inl hn),fun z=>?_⟩⟩)⟩;rcases m.o _ z with z|z
   ·exact hn z
   ·rw[h2]at z;cases z
theorem Ows.mv{G:AS}(m:Mv O O' G H H'):∀(ts:List D) {d:Nat} {vs:List V} {F:AS},(∀b,F b->G b)->Ows K O H ts d vs F->Ows K O' H' ts d vs F
 |[],_,_,_,_,h=>h
 |t::ts,_,_,_,g,h=>by
  obtain⟨v,r,F1,F2,e,h1,h2,h3,h4,h5⟩:=h;exact⟨v,r,F1,F2,e,h1,h2,h3,Ow.mv m t (fun b hb=>g _ (h1 b hb)) h4,Ows.mv m ts (fun b hb=>g _ (h2 b hb)) h5⟩
theorem Owd.mv{G:AS}(m:Mv O O' G H H'):∀(ts:List (D×D)) {d:Nat} {vs:List (Key×V)} {F:AS},(∀b,F b->G b)->Owd K O H ts d vs F->Owd K O' H' ts d vs F
 |[],_,_,_,_,h=>h
 | (k,t)::ts,_,_,_,g,h=>by
  obtain⟨q,v,r,F1,F2,e,e2,h1,h2,h3,h4,h5⟩:=h;exact⟨q,v,r,F1,F2,e,e2,h1,h2,h3,Ow.mv m t (fun b hb=>g _ (h1 b hb)) h4,Owd.mv m ts (fun b hb=>g _ (h2 b hb)) h5⟩
end
def FzL.sub(ho:∀a,O' a->O a)(h:FzL K O H a vs):FzL K O' H a vs:=h.imp (fun h=>⟨h.1,fun z=>h.2 (ho _ z)⟩) id
def FzT.sub(ho:∀a,O' a->O a)(h:FzT K O H a vs):FzT K O' H a vs:=⟨h.1,fun z=>h.2 (ho _ z)⟩
mutual
theorem Ow.cut:∀(t:D) {d d':Nat} {v:V} {F:AS},d'<=d->Ow K O H t d v F->∃F':AS,(∀b,F' b->F b)/\∀O':AS,(∀a,O' a->O a)->(∀a,F a->O' a->F' a)->Ow K O' H t d' v F'
 |.none,_,_,_,F,_,h=>⟨F,fun _ z=>z,fun _ _ _=>h⟩
 |.bool _,_,_,_,F,_,h=>⟨F,fun _ z=>z,fun _ _ _=>h⟩
 |.int _,_,_,_,F,_,h=>⟨F,fun _ z=>z,fun _ _ _=>h⟩
 |.str _,_,_,_,F,_,h=>⟨F,fun _ z=>z,fun _ _ _=>h⟩
 |.tuple ts,d,d',_,F,hd,h=>by
  obtain⟨a,vs,e,⟨h0,h1,h2⟩|⟨h0,h1,h2,G,hg,h3⟩⟩:=h
  ·subst h0;have e0:d'=0:=by omega
   subst e0;obtain⟨F',s1,s2⟩:=Ows.cut ts (zav _) h2;exact⟨F',s1,fun O' ho hx=>⟨a,vs,e,.inl ⟨rfl,h1.sub ho,s2 O' ho hx⟩⟩⟩
  ·by_cases e0:d'=0
   ·subst e0;obtain⟨F',s1,s2⟩:=Ows.cut ts (zbk _) h3;refine⟨F',fun b hb=>(hg _ (s1 b hb)).1,fun O' ho hx=>⟨a,vs,e,.inl ⟨rfl,⟨h1,fun z=>(hg _ (s1 _ (hx _ h2 z))).2 rfl⟩,s2 O' ho fun b hb=>hx b (hg b hb).1⟩⟩⟩
   ·obtain⟨F',s1,s2⟩:=Ows.cut ts (qi hd) h3;refine⟨fun b=>b=a\/F' b,fun b hb=>hb.elim (fun z=>z▸h2) fun z=>(hg _ (s1 b z)).1,fun O' ho hx=>⟨a,vs,e,.inr ⟨e0,h1,.inl rfl,F',fun b hb=>⟨.inr hb,(hg _ (s1 b hb)).2⟩,s2 O' ho fun b hb hz=>?_⟩⟩⟩;exact(hx b (hg b hb).1 hz).elim (fun z=>absurd z (hg b hb).2) id
 |.list ts,d,d',_,F,hd,h=>by
  obtain⟨a,vs,e,⟨h0,h1,h2⟩|⟨h0,h1,h2,G,hg,h3⟩⟩:=h
  ·subst h0;have e0:d'=0:=by omega
   subst e0;obtain⟨F',s1,s2⟩:=Ows.cut ts (zav _) h2;exact⟨F',s1,fun O' ho hx=>⟨a,vs,e,.inl ⟨rfl,h1.sub ho,s2 O' ho hx⟩⟩⟩
  ·by_cases e0:d'=0
   ·subst e0;obtain⟨F',s1,s2⟩:=Ows.cut ts (zbk _) h3;refine⟨F',fun b hb=>(hg _ (s1 b hb)).1,fun O' ho hx=>⟨a,vs,e,.inl ⟨rfl,.inl ⟨.inl h1,fun z=>(hg _ (s1 _ (hx _ h2 z))).2 rfl⟩,s2 O' ho fun b hb=>hx b (hg b hb).1⟩⟩⟩
   ·obtain⟨F',s1,s2⟩:=Ows.cut ts (qi hd) h3;refine⟨fun b=>b=a\/F' b,fun b hb=>hb.elim (fun z=>z▸h2) fun z=>(hg _ (s1 b z)).1,fun O' ho hx=>⟨a,vs,e,.inr ⟨e0,h1,.inl rfl,F',fun b hb=>⟨.inr hb,(hg _ (s1 b hb)).2⟩,s2 O' ho fun b hb hz=>?_⟩⟩⟩;exact(hx b (hg b hb).1 hz).elim (fun z=>absurd z (hg b hb).2) id
 |.dict ts,d,d',_,F,hd,h=>by
  obtain⟨a,vs,e,⟨h0,h1,hn,h2⟩|⟨h0,h1,h2,G,hg,h3⟩|⟨h0,ht⟩⟩:=h
  ·subst h0;have e0:d'=0:=by omega
   subst e0;obtain⟨F',s1,s2⟩:=Owd.cut ts (zav _) h2;exact⟨F',s1,fun O' ho hx=>⟨a,vs,e,.inl ⟨rfl,h1,fun z=>hn (ho _ z),s2 O' ho hx⟩⟩⟩
  ·by_cases e0:d'=0
   ·subst e0;obtain⟨F',s1,s2⟩:=Owd.cut ts (zbk _) h3;refine⟨F',fun b hb=>(hg _ (s1 b hb)).1,fun O' ho hx=>⟨a,vs,e,.inl ⟨rfl,.inl h1,fun z=>(hg _ (s1 _ (hx _ h2 z))).2 rfl,s2 O' ho fun b hb=>hx b (hg b hb).1⟩⟩⟩
   ·obtain⟨F',s1,s2⟩:=Owd.cut ts (qi hd) h3;refine⟨fun b=>b=a\/F' b,fun b hb=>hb.elim (fun z=>z▸h2) fun z=>(hg _ (s1 b z)).1,fun O' ho hx=>⟨a,vs,e,.inr (.inl ⟨e0,h1,.inl rfl,F',fun b hb=>⟨.inr hb,(hg _ (s1 b hb)).2⟩,s2 O' ho fun b hb hz=>?_⟩)⟩⟩;exact(hx b (hg b hb).1 hz).elim (fun z=>absurd z (hg b hb).2) id
  ·subst h0;have e0:d'=0:=by omega
   subst e0;exact⟨F,fun _ z=>z,fun O' ho hx=>⟨a,vs,e,.inr (.inr ⟨rfl,ht.to fun o h2 hn=>⟨h2,fun z=>hn (ho _ z)⟩⟩)⟩⟩
theorem Ows.cut:∀(ts:List D) {d d':Nat} {vs:List V} {F:AS},d'<=d->Ows K O H ts d vs F->∃F':AS,(∀b,F' b->F b)/\∀O':AS,(∀a,O' a->O a)->(∀a,F a->O' a->F' a)->Ows K O' H ts d' vs F'
 |[],_,_,_,F,_,h=>⟨F,fun _ z=>z,fun _ _ _=>h⟩
 |t::ts,_,_,_,F,hd,h=>by
  obtain⟨v,r,F1,F2,e,h1,h2,h3,h4,h5⟩:=h;obtain⟨G1,a1,a2⟩:=Ow.cut t hd h4;obtain⟨G2,b1,b2⟩:=Ows.cut ts hd h5;refine⟨fun b=>G1 b\/G2 b,fun b hb=>hb.elim (fun z=>h1 _ (a1 _ z)) fun z=>h2 _ (b1 _ z),fun O' ho hx=>⟨v,r,G1,G2,e,fun b=>.inl,fun b=>.inr,fun b z1 z2=>h3 b (a1 b z1) (b1 b z2),a2 O' ho fun b hb hz=>?_,b2 O' ho fun b hb hz=>?_⟩⟩
  ·exact(hx b (h1 b hb) hz).elim id fun z=>absurd (b1 b z) (h3 b hb)
  ·exact(hx b (h2 b hb) hz).elim (fun z=>absurd hb (h3 b (a1 b z))) id
theorem Owd.cut:∀(ts:List (D×D)) {d d':Nat} {vs:List (Key×V)} {F:AS},d'<=d->Owd K O H ts d vs F->∃F':AS,(∀b,F' b->F b)/\∀O':AS,(∀a,O' a->O a)->(∀a,F a->O' a->F' a)->Owd K O' H ts d' vs F'
 |[],_,_,_,F,_,h=>⟨F,fun _ z=>z,fun _ _ _=>h⟩
 | (k,t)::ts,_,_,_,F,hd,h=>by
  obtain⟨q,v,r,F1,F2,e,e2,h1,h2,h3,h4,h5⟩:=h;obtain⟨G1,a1,a2⟩:=Ow.cut t hd h4;obtain⟨G2,b1,b2⟩:=Owd.cut ts hd h5;refine⟨fun b=>G1 b\/G2 b,fun b hb=>hb.elim (fun z=>h1 _ (a1 _ z)) fun z=>h2 _ (b1 _ z),fun O' ho hx=>⟨q,v,r,G1,G2,e,e2,fun b=>.inl,fun b=>.inr,fun b z1 z2=>h3 b (a1 b z1) (b1 b z2),a2 O' ho fun b hb hz=>?_,b2 O' ho fun b hb hz=>?_⟩⟩
  ·exact(hx b (h1 b hb) hz).elim id fun z=>absurd (b1 b z) (h3 b hb)
  ·exact(hx b (h2 b hb) hz).elim (fun z=>absurd hb (h3 b (a1 b z))) id
end
mutual
theorem Ow.grow(ho:∀a,O' a->O a):∀(t:D) {d:Nat} {v:V} {F F':AS},(∀b,F b->F' b)->Ow K O H t d v F->Ow K O' H t d v F'
 |.none,_,_,_,_,_,h=>h
 |.bool _,_,_,_,_,_,h=>h
 |.int _,_,_,_,_,_,h=>h
 |.str _,_,_,_,_,_,h=>h
 |.tuple ts,_,_,_,_,hf,h=>by
  obtain⟨a,vs,e,⟨h0,h1,h2⟩|⟨h0,h1,h2,G,hg,h3⟩⟩:=h
  ·exact⟨a,vs,e,.inl ⟨h0,h1.sub ho,Ows.grow ho ts hf h2⟩⟩
  ·exact⟨a,vs,e,.inr ⟨h0,h1,hf _ h2,G,fun b hb=>⟨hf _ (hg b hb).1,(hg b hb).2⟩,Ows.grow ho ts (fun _ z=>z) h3⟩⟩
 |.list ts,_,_,_,_,hf,h=>by
  obtain⟨a,vs,e,⟨h0,h1,h2⟩|⟨h0,h1,h2,G,hg,h3⟩⟩:=h
  ·exact⟨a,vs,e,.inl ⟨h0,h1.sub ho,Ows.grow ho ts hf h2⟩⟩
  ·exact⟨a,vs,e,.inr ⟨h0,h1,hf _ h2,G,fun b hb=>⟨hf _ (hg b hb).1,(hg b hb).2⟩,Ows.grow ho ts (fun _ z=>z) h3⟩⟩
 |.dict ts,_,_,_,_,hf,h=>by
  obtain⟨a,vs,e,⟨h0,h1,hn,h2⟩|⟨h0,h1,h2,G,hg,h3⟩|⟨h0,ht⟩⟩:=h
  ·exact⟨a,vs,e,.inl ⟨h0,h1,fun z=>hn (ho _ z),Owd.grow ho ts hf h2⟩⟩
  ·exact⟨a,vs,e,.inr (.inl ⟨h0,h1,hf _ h2,G,fun b hb=>⟨hf _ (hg b hb).1,(hg b hb).2⟩,Owd.grow ho ts (fun _ z=>z) h3⟩)⟩
  ·exact⟨a,vs,e,.inr (.inr ⟨h0,ht.to fun o h2 hn=>⟨h2,fun z=>hn (ho _ z)⟩⟩)⟩
theorem Ows.grow(ho:∀a,O' a->O a):∀(ts:List D) {d:Nat} {vs:List V} {F F':AS},(∀b,F b->F' b)->Ows K O H ts d vs F->Ows K O' H ts d vs F'
 |[],_,_,_,_,_,h=>h
 |t::ts,_,_,_,_,hf,h=>by
  obtain⟨v,r,F1,F2,e,h1,h2,h3,h4,h5⟩:=h;exact⟨v,r,F1,F2,e,fun b z=>hf _ (h1 b z),fun b z=>hf _ (h2 b z),h3,Ow.grow ho t (fun _ z=>z) h4,Ows.grow ho ts (fun _ z=>z) h5⟩
theorem Owd.grow(ho:∀a,O' a->O a):∀(ts:List (D×D)) {d:Nat} {vs:List (Key×V)} {F F':AS},(∀b,F b->F' b)->Owd K O H ts d vs F->Owd K O' H ts d vs F'
 |[],_,_,_,_,_,h=>h
 | (k,t)::ts,_,_,_,_,hf,h=>by
  obtain⟨q,v,r,F1,F2,e,e2,h1,h2,h3,h4,h5⟩:=h;exact⟨q,v,r,F1,F2,e,e2,fun b z=>hf _ (h1 b z),fun b z=>hf _ (h2 b z),h3,Ow.grow ho t (fun _ z=>z) h4,Owd.grow ho ts (fun _ z=>z) h5⟩
end
mutual
theorem Ow.full:∀(t:D) {d:Nat} {v:V} {F:AS},Ow K O H t (d+3) v F->Ow K O' H t (d+3) v F
 |.none,_,_,_,h=>h
 |.bool _,_,_,_,h=>h
 |.int _,_,_,_,h=>h
 |.str _,_,_,_,h=>h
 |.tuple ts,_,_,_,h=>by
  obtain⟨a,vs,e,⟨h0,h1,h2⟩|⟨h0,h1,h2,G,hg,h3⟩⟩:=h
  ·cases h0
  ·exact⟨a,vs,e,.inr ⟨h0,h1,h2,G,hg,Ows.full ts h3⟩⟩
 |.list ts,_,_,_,h=>by
  obtain⟨a,vs,e,⟨h0,h1,h2⟩|⟨h0,h1,h2,G,hg,h3⟩⟩:=h
  ·cases h0
  ·exact⟨a,vs,e,.inr ⟨h0,h1,h2,G,hg,Ows.full ts h3⟩⟩
 |.dict ts,_,_,_,h=>by
  obtain⟨a,vs,e,⟨h0,h1,hn,h2⟩|⟨h0,h1,h2,G,hg,h3⟩|⟨h0,_⟩⟩:=h
  ·cases h0
  ·exact⟨a,vs,e,.inr (.inl ⟨h0,h1,h2,G,hg,Owd.full ts h3⟩)⟩
  ·cases h0
theorem Ows.full:∀(ts:List D) {d:Nat} {vs:List V} {F:AS},Ows K O H ts (d+3) vs F->Ows K O' H ts (d+3) vs F
 |[],_,_,_,h=>h
 |t::ts,_,_,_,h=>by
  obtain⟨v,r,F1,F2,e,h1,h2,h3,h4,h5⟩:=h;exact⟨v,r,F1,F2,e,h1,h2,h3,Ow.full t h4,Ows.full ts h5⟩
theorem Owd.full:∀(ts:List (D×D)) {d:Nat} {vs:List (Key×V)} {F:AS},Owd K O H ts (d+3) vs F->Owd K O' H ts (d+3) vs F
 |[],_,_,_,h=>h
 | (k,t)::ts,_,_,_,h=>by
  obtain⟨q,v,r,F1,F2,e,e2,h1,h2,h3,h4,h5⟩:=h;exact⟨q,v,r,F1,F2,e,e2,h1,h2,h3,Ow.full t h4,Owd.full ts h5⟩
end
mutual
theorem Ow.any0:∀(t:D) {v:V} {F F':AS},Ow K O H t 0 v F->Ow K O H t 0 v F'
 |.none,_,_,_,h=>h
 |.bool _,_,_,_,h=>h
 |.int _,_,_,_,h=>h
 |.str _,_,_,_,h=>h
 |.tuple ts,_,_,_,h=>by
  obtain⟨a,vs,e,⟨h0,h1,h2⟩|⟨h0,_⟩⟩:=h
  ·exact⟨a,vs,e,.inl ⟨rfl,h1,Ows.any0 ts h2⟩⟩
  ·exact absurd rfl h0
 |.list ts,_,_,_,h=>by
  obtain⟨a,vs,e,⟨h0,h1,h2⟩|⟨h0,_⟩⟩:=h
  ·exact⟨a,vs,e,.inl ⟨rfl,h1,Ows.any0 ts h2⟩⟩
  ·exact absurd rfl h0
 |.dict ts,_,_,_,h=>by
  obtain⟨a,vs,e,⟨h0,h1,hn,h2⟩|⟨h0,_⟩|⟨_,ht⟩⟩:=h
  ·exact⟨a,vs,e,.inl ⟨rfl,h1,hn,Owd.any0 ts h2⟩⟩
  ·exact absurd rfl h0
  ·exact⟨a,vs,e,.inr (.inr ⟨rfl,ht⟩)⟩
theorem Ows.any0:∀(ts:List D) {vs:List V} {F F':AS},Ows K O H ts 0 vs F->Ows K O H ts 0 vs F'
 |[],_,_,_,h=>h
 |t::ts,_,_,_,h=>by
  obtain⟨v,r,F1,F2,e,_,_,_,h4,h5⟩:=h;exact⟨v,r,fun _=>False,fun _=>False,e,fun _ z=>z.elim,fun _ z=>z.elim,fun _ z=>z.elim,Ow.any0 t h4,Ows.any0 ts h5⟩
theorem Owd.any0:∀(ts:List (D×D)) {vs:List (Key×V)} {F F':AS},Owd K O H ts 0 vs F->Owd K O H ts 0 vs F'
 |[],_,_,_,h=>h
 | (k,t)::ts,_,_,_,h=>by
  obtain⟨q,v,r,F1,F2,e,e2,_,_,_,h4,h5⟩:=h;exact⟨q,v,r,fun _=>False,fun _=>False,e,e2,fun _ z=>z.elim,fun _ z=>z.elim,fun _ z=>z.elim,Ow.any0 t h4,Owd.any0 ts h5⟩
end
def Ow.fz{F:AS}(ho:∀a,O' a->O a)(hn:∀a,F a->¬O' a)(h:Ow K O H t d v F):Ow K O' H t 0 v F2:=by
 obtain⟨F',s1,s2⟩:=Ow.cut t (zbk d) h;exact Ow.any0 t (s2 O' ho fun a z1 z2=>absurd z2 (hn a z1))
def U(A B:AS):AS:=fun a=>A a\/B a
def Own(R:Nat->AS)(Ox:AS):AS:=fun a=>(∃i,R i a)\/Ox a
def e7{A B:AS}(h:∀a,A a↔B a):A=B:=funext fun a=>propext (h a)
structure EnvOk(K:zb7)(ds:List Nat)(Ox:AS)(H:Hp)(σ:St)(en:En)(R:Nat->AS):Prop where
 at_:∀(i:Nat) (t:D),en[i]?=some (some t)->∃v d,σ[i]?=some (some v)/\ds[i]?=some d/\Ow K (Own R Ox) H t d v (R i)
 dj:∀i j a,R i a->R j a->i=j
 dx:∀i a,R i a->¬Ox a
 dom:∀a,Own R Ox a->∃o,H a=some o
 l1:en.length=σ.length
 l2:ds.length=σ.length
structure Post(K:zb7)(p:Bool)(ds':List Nat)(Ox:AS)(σ:St)(H:Hp)(en:En)(R:Nat->AS)(en':En)(H':Hp)(R':Nat->AS)(F:AS):Prop where
 env:EnvOk K ds' (U F Ox) H' σ en' R'
 fx:∀a,F a->¬Ox a
 keep:∀a o,H a=some o->(∀i,¬R i a)->H' a=some o
 own:∀a,(F a\/∃i,R' i a)->(∃i,R i a)\/H a=none
 dom:∀a o,H a=some o->∃o',H' a=some o'
 pure:p=true->en'=en/\R'=R/\∀a o,H a=some o->H' a=some o
def EnvOk.grow(e:EnvOk K ds Ox H σ en R)(hk:∀a o,H a=some o->H' a=some o){F:AS}(hf:∀a,F a->H a=none/\∃o,H' a=some o):EnvOk K ds (U F Ox) H' σ en R:=by
 have fo:∀a,F a->¬Own R Ox a:=fun a z z2=>by
  obtain⟨o,q⟩:=e.dom a z2;rw[(hf a z).1]at q;cases q
 refine⟨fun i t h=>?_,e.dj,fun i a h z=>?_,fun a h=>?_,e.l1,e.l2⟩
 ·obtain⟨v,d,h1,h2,h3⟩:=e.at_ i t h;refine⟨v,d,h1,h2,Ow.mv (G:=R i) ⟨fun a o q _=>hk a o q,fun a z=>?_⟩ t (fun _ z=>z) h3⟩;rcases z with z|z|z
  ·exact .inl (.inl z)
  ·exact .inr (hf a z).1
  ·exact .inl (.inr z)
 ·rcases z with z|z
  ·exact fo a z (.inl ⟨i,h⟩)
  ·exact e.dx i a h z
 ·rcases h with h|h|h
  ·obtain⟨o,q⟩:=e.dom a (.inl h);exact⟨o,hk a o q⟩
  ·exact(hf a h).2
  ·obtain⟨o,q⟩:=e.dom a (.inr h);exact⟨o,hk a o q⟩
def EnvOk.fewer(e:EnvOk K ds Ox H σ en R)(h:∀a,Ox' a->Ox a):EnvOk K ds Ox' H σ en R:=by
 refine⟨fun i t q=>?_,e.dj,fun i a z1 z2=>e.dx i a z1 (h a z2),fun a z=>e.dom a (z.imp id (h a)),e.l1,e.l2⟩;obtain⟨v,d,h1,h2,h3⟩:=e.at_ i t q;exact⟨v,d,h1,h2,Ow.grow (fun a z=>z.imp id (h a)) t (fun _ z=>z) h3⟩
def tF(K:zb7)(p:Bool)(ds ds':List Nat)(d:Nat)(f:En->Option (D×En)):TE:=fun σ H Q=>
 ∃Ox en R t en',EnvOk K ds Ox H σ en R/\f en=some (t,en')/\∀v H' R' F,Post K p ds' Ox σ H en R en' H' R' F->Ow K (Own R' (U F Ox)) H' t d v F->Q v H'
def Post.refl(e:EnvOk K ds Ox H σ en R):Post K p ds Ox σ H en R en H R (fun _=>False):=by
 have eq:U (fun _=>False) Ox=Ox:=e7 fun a=>⟨fun z=>z.elim (fun z=>z.elim) id,.inr⟩;exact⟨eq.symm▸e,fun _ z=>z.elim,fun _ _ q _=>q,fun a z=>z.elim (fun z=>z.elim) .inl,fun a o q=>⟨o,q⟩,fun _=>⟨rfl,rfl,fun _ _ q=>q⟩⟩
def Post.new(e:EnvOk K ds Ox H σ en R)(hk:∀a o,H a=some o->H' a=some o){F:AS}(hf:∀a,F a->H a=none/\∃o,H' a=some o):Post K p ds Ox σ H en R en H' R F:=by
 refine⟨e.grow hk hf,fun a z z2=>?_,fun a o q _=>hk a o q,fun a z=>z.elim (fun z=>.inr (hf a z).1) .inl,fun a o q=>⟨o,hk a o q⟩,fun _=>⟨rfl,rfl,hk⟩⟩;obtain⟨o,q⟩:=e.dom a (.inr z2);rw[(hf a z).1]at q;cases q
theorem Post.trans{H1 H2:Hp}{R1 R2:Nat->AS}{F1 F2:AS}(P1:Post K p1 ds1 Ox σ H en R en1 H1 R1 F1)(P2:Post K p2 ds2 (U F1 Ox) σ H1 en1 R1 en2 H2 R2 F2):
  Post K (p1&&p2) ds2 Ox σ H en R en2 H2 R2 (U F1 F2):=by
 have eq:U F2 (U F1 Ox)=U (U F1 F2) Ox:=e7 fun a=>by unfold U;exact⟨fun z=>by rcases z with z|z|z;exact .inl (.inr z);exact .inl (.inl z);exact .inr z,fun z=>by rcases z with (z|z)|z;exact .inr (.inl z);exact .inl z;exact .inr (.inr z)⟩
 have n1:∀a,H1 a=none->H a=none:=fun a z=>by
  cases q:H a with
  |none=>rfl
  |some o=>
   obtain⟨o',q'⟩:=P1.dom a o q;rw[z]at q';cases q'
 refine⟨eq▸P2.env,fun a z z2=>?_,fun a o q n=>?_,fun a z=>?_,fun a o q=>?_,fun hp=>?_⟩
 ·rcases z with z|z
  ·exact P1.fx a z z2
  ·exact P2.fx a z (.inr z2)
 ·refine P2.keep a o (P1.keep a o q n) fun i z=>?_;rcases P1.own a (.inr ⟨i,z⟩)with⟨j,z⟩|z
  ·exact n j z
  ·rw[q]at z;cases z
 ·rcases z with (z|z)|z
  ·exact P1.own a (.inl z)
  ·rcases P2.own a (.inl z)with z|z
   ·exact P1.own a (.inr z)
   ·exact .inr (n1 a z)
  ·rcases P2.own a (.inr z)with z|z
   ·exact P1.own a (.inr z)
   ·exact .inr (n1 a z)
 ·obtain⟨o',q'⟩:=P1.dom a o q;exact P2.dom a o' q'
 ·have h1:p1=true:=by cases p1<;>simp_all
  have h2:p2=true:=by cases p2<;>simp_all
  obtain⟨a1,a2,a3⟩:=P1.pure h1;obtain⟨b1,b2,b3⟩:=P2.pure h2;exact⟨b1.trans a1,b2.trans a2,fun a o q=>b3 a o (a3 a o q)⟩
def Ow.over{R2:Nat->AS}(P1:EnvOk K ds1 (U F1 Ox) H1 σ en1 R1)(P2:Post K p2 ds2 (U F1 Ox) σ H1 en1 R1 en2 H2 R2 F2)(h:Ow K (Own R1 (U F1 Ox)) H1 t d v F1):
  Ow K (Own R2 (U (U F1 F2) Ox)) H2 t d v F1:=by
 refine Ow.mv (G:=F1) ⟨fun a o q z=>P2.keep a o q fun i zi=>?_,fun a z=>?_⟩ t (fun _ z=>z) h
 ·rcases z with z|z
  ·exact z (.inl ⟨i,zi⟩)
  ·exact P1.dx i a zi (.inl z)
 ·rcases z with z | (z|z)|z
  ·rcases P2.own a (.inr z)with z|z
   ·exact .inl (.inl z)
   ·exact .inr z
  ·exact .inl (.inr (.inl z))
  ·rcases P2.own a (.inl z)with z|z
   ·exact .inl (.inl z)
   ·exact .inr z
  ·exact .inl (.inr (.inr z))
def lQ:U F2 (U F1 Ox)=U (U F1 F2) Ox:=e7 fun a=>by unfold U;exact⟨fun z=>by rcases z with z|z|z;exact .inl (.inr z);exact .inl (.inl z);exact .inr z,fun z=>by rcases z with (z|z)|z;exact .inr (.inl z);exact .inl z;exact .inr (.inr z)⟩
def two{f g:En->Option (D×En)}{Q:V->V->Hp->Prop}(e:EnvOk K ds Ox H σ en R)(h1:f en=some (t1,en1))(h2:g en1=some (t2,en2))
  (k:∀x y H2 R2 F1 F2,Post K (p1&&p2) ds2 Ox σ H en R en2 H2 R2 (U F1 F2)->Ow K (Own R2 (U (U F1 F2) Ox)) H2 t1 d1 x F1->Ow K (Own R2 (U (U F1 F2) Ox)) H2 t2 d2 y F2->Q x y H2):
  tF K p1 ds ds1 d1 f σ H fun x H1=>tF K p2 ds1 ds2 d2 g σ H1 fun y H2=>Q x y H2:=by
 refine⟨Ox,en,R,t1,en1,e,h1,fun x H1 R1 F1 P1 o1=>?_⟩;refine⟨U F1 Ox,en1,R1,t2,en2,P1.env,h2,fun y H2 R2 F2 P2 o2=>?_⟩;exact k x y H2 R2 F1 F2 (P1.trans P2) (Ow.over P1.env P2 o1) (lQ▸o2)
abbrev ME:=En->Option (D×En)
variable{f f1 f2 fk fe:ME}{fs:List (ME×ME)}
abbrev MT:=En->Option (Bool×En)
variable{c1 c2:MT}
abbrev MA:=En->Option (List (D ⊕ Nat)×En)
variable{fa:MA}
def aa(i:Nat):ME:=fun en=>(en[i]?).join.map fun t=>(t,en)
def eMv(i:Nat):ME:=fun en=>(en[i]?).join.map fun t=>(t,en.set i none)
def eC(t:D):ME:=fun en=>some (t,en)
def e1(g:D->Option D)(f:ME):ME:=fun en=>(f en).bind fun r=>(g r.1).map fun t=>(t,r.2)
def e2(g:D->D->Option D)(f1 f2:ME):ME:=fun en=>(f1 en).bind fun r=>(f2 r.2).bind fun q=>(g r.1 q.1).map fun t=>(t,q.2)
def kq(f g:ME):ME:=fun en=>(f en).bind fun r=>match r.1 with
 |.bool true=>g r.2
 |.bool false=>some (.bool false,r.2)
 |_=>none
def eOr(f g:ME):ME:=fun en=>(f en).bind fun r=>match r.1 with
 |.bool true=>some (.bool true,r.2)
 |.bool false=>g r.2
 |_=>none
def qg(f:ME):ME:=fun en=>(f en).bind fun r=>match r.1 with
 |.bool b=>some (.bool (!b),r.2)
 |_=>none
def tV(f:ME):MT:=fun en=>(f en).bind fun r=>match r.1 with
 |.bool b=>some (b,r.2)
 |_=>none
def cA(f g:MT):MT:=fun en=>(f en).bind fun r=>if r.1 then g r.2 else some (false,r.2)
def bOr(f g:MT):MT:=fun en=>(f en).bind fun r=>if r.1 then some (true,r.2)else g r.2
def fX(f:MT):MT:=fun en=>(f en).map fun r=>(!r.1,r.2)
def ah:MA:=fun en=>some ([],en)
def ac(f:ME)(r:MA):MA:=fun en=>(f en).bind fun x=>(r x.2).map fun y=>(.inl x.1::y.1,y.2)
def aB(i:Nat)(r:MA):MA:=fun en=>(en[i]?).join.bind fun _=>(r en).map fun y=>(.inr i::y.1,y.2)
def vals:List (D ⊕ Nat)->Option (List D)
 |[]=>some []
 |.inl t::r=>(vals r).map (t::·)
 |.inr _::_=>none
def eN(g:List D->Option D)(fa:MA):ME:=fun en=>(fa en).bind fun r=>(vals r.1).bind fun ts=>(g ts).map fun t=>(t,r.2)
def NewTo(H H':Hp)(F:AS):Prop:=(∀a o,H a=some o->H' a=some o)/\∀a,F a->H a=none/\∃o,H' a=some o
def NoA:AS:=fun _=>False
def fq{A:AS}:U NoA A=A:=e7 fun a=>⟨fun z=>z.elim (fun z=>z.elim) id,.inr⟩
def rF1(K:zb7)(g:D->Option D)(d:Nat):V->Hp->VK->Prop:=fun x H Q=>∃(O:AS) (a t:D),Ow K O H a 0 x NoA/\(∀a,O a->∃o,H a=some o)/\g a=some t/\∀v H' F,NewTo H H' F->Ow K (U F O) H' t d v F->Q v H'
def rF2(K:zb7)(g:D->D->Option D)(d:Nat):R2:=fun x y H Q=>∃(O:AS) (a b t:D),Ow K O H a 0 x NoA/\Ow K O H b 0 y NoA/\(∀a,O a->∃o,H a=some o)/\g a b=some t/\∀v H' F,NewTo H H' F->Ow K (U F O) H' t d v F->Q v H'
def rFn(K:zb7)(g:List D->Option D)(d:Nat):List V->Hp->VK->Prop:=fun xs H Q=>∃(O:AS) (ts:List D) (t:D),Ows K O H ts 0 xs NoA/\(∀a,O a->∃o,H a=some o)/\g ts=some t/\∀v H' F,NewTo H H' F->Ow K (U F O) H' t d v F->Q v H'
section
variable{fa fb:ME}
def o8{F:AS}:U F (Own R Ox)=Own R (U F Ox):=e7 fun a=>by
 unfold U Own;exact⟨fun z=>by rcases z with z|z|z;exact .inr (.inl z);exact .inl z;exact .inr (.inr z),fun z=>by rcases z with z|z|z;exact .inr (.inl z);exact .inl z;exact .inr (.inr z)⟩
def Post.fin{F:AS}(P:Post K p ds' Ox σ H en R en' H1 R' F0)(n:NewTo H1 H' F):Post K p ds' Ox σ H en R en' H' R' F:=by
 have e:=P.env.fewer (Ox':=Ox) fun a z=>.inr z;have n1:∀a,H1 a=none->H a=none:=fun a z=>by
  cases q:H a with
  |none=>rfl
  |some o=>
   obtain⟨o',q'⟩:=P.dom a o q;rw[z]at q';cases q'
 refine⟨e.grow n.1 n.2,fun a z z2=>?_,fun a o q nn=>n.1 a o (P.keep a o q nn),fun a z=>?_,fun a o q=>?_,fun hp=>?_⟩
 ·obtain⟨o,q⟩:=e.dom a (.inr z2);rw[(n.2 a z).1]at q;cases q
 ·rcases z with z|z
  ·exact .inr (n1 a (n.2 a z).1)
  ·exact P.own a (.inr z)
 ·obtain⟨o',q'⟩:=P.dom a o q;exact⟨o',n.1 a o' q'⟩
 ·obtain⟨a1,a2,a3⟩:=P.pure hp;exact⟨a1,a2,fun a o q=>n.1 a o (a3 a o q)⟩
def Post.less{F:AS}(P:Post K p ds' Ox σ H en R en' H' R' F)(h:∀a,F' a->F a):Post K p ds' Ox σ H en R en' H' R' F':=
 ⟨P.env.fewer fun a z=>z.imp (h a) id,fun a z=>P.fx a (h a z),P.keep,fun a z=>P.own a (z.imp (h a) id),P.dom,P.pure⟩
def Ow.letgo{F:AS}(P:Post K p ds' Ox σ H en R en' H' R' F0)(hf:∀a,F a->F0 a)(h:Ow K (Own R' (U F0 Ox)) H' t d v F):Ow K (Own R' Ox) H' t 0 v NoA:=by
 refine Ow.fz (fun a z=>z.imp id .inr) (fun a z z2=>?_) h;rcases z2 with⟨i,z2⟩|z2
 ·exact P.env.dx i a z2 (.inl (hf a z))
 ·exact P.fx a (hf a z) z2
def Post.doms(P:Post K p ds' Ox σ H en R en' H' R' F0):∀a,Own R' Ox a->∃o,H' a=some o:=fun a z=>P.env.dom a (z.imp id .inr)
def LF(hd:ds[i]?=some 0)(h:tF K true ds ds 0 (aa i) σ H Q):gR i σ H Q:=by
 obtain⟨Ox,en,R,t,en',e,hf,k⟩:=h;unfold aa at hf;cases q:en[i]? with
 |none=>rw[q]at hf;cases hf
 |some o=>
  rw[q]at hf;cases o with
  |none=>cases hf
  |some t'=>
   cases hf;obtain⟨v,d,h1,h2,h3⟩:=e.at_ i t q;rw[hd]at h2;cases h2;exact⟨v,h1,k v H R NoA (Post.refl e) (by rw[fq];exact Ow.any0 t h3)⟩
def Mi(hd:ds[i]?=some d)(h:tF K false ds (ds.set i 0) d (eMv i) σ H Q):gR i σ H Q:=by
 obtain⟨Ox,en,R,t,en',e,hf,k⟩:=h;unfold eMv at hf;cases q:en[i]? with
 |none=>rw[q]at hf;cases hf
 |some o=>
  rw[q]at hf;cases o with
  |none=>cases hf
  |some t'=>
   cases hf;obtain⟨v,d',h1,h2,h3⟩:=e.at_ i t q;rw[hd]at h2;cases h2;have eq:Own (fun j=>if j=i then NoA else R j) (U (R i) Ox)=Own R Ox:=e7 fun a=>by
    unfold Own U;constructor
    ·rintro (⟨j,z⟩|z|z)
     ·by_cases hj:j=i
      ·rw[if_pos hj]at z;exact z.elim
      ·rw[if_neg hj]at z;exact .inl ⟨j,z⟩
     ·exact .inl ⟨i,z⟩
     ·exact .inr z
    ·rintro (⟨j,z⟩|z)
     ·by_cases hj:j=i
      ·subst hj;exact .inr (.inl z)
      ·exact .inl ⟨j,by show(if j=i then NoA else R j) a;rw[if_neg hj];exact z⟩
     ·exact .inr (.inr z)
   refine⟨v,h1,k v H (fun j=>if j=i then NoA else R j) (R i) ⟨⟨fun j u hu=>?_,fun j j' a z z'=>?_,fun j a z=>?_,fun a z=>e.dom a (eq▸z),?_,?_⟩,e.dx i,fun a o q _=>q,fun a z=>?_,fun a o q=>⟨o,q⟩,fun z=>nomatch z⟩ (eq.symm▸h3)⟩
   ·by_cases hj:j=i
    ·subst hj;rw[List.getElem?_set_self' ]at hu;rw[q]at hu;cases hu
    ·rw[zaO (Ne.symm hj)]at hu;obtain⟨v',d',a1,a2,a3⟩:=e.at_ j u hu;refine⟨v',d',a1,by rw[zaO (Ne.symm hj)];exact a2,?_⟩;rw[if_neg hj,eq];exact a3
   ·by_cases hj:j=i
    ·rw[if_pos hj]at z;exact z.elim
    ·rw[if_neg hj]at z;by_cases hj':j'=i
     ·rw[if_pos hj']at z';exact z'.elim
     ·rw[if_neg hj']at z';exact e.dj j j' a z z'
   ·by_cases hj:j=i
    ·rw[if_pos hj]at z;exact z.elim
    ·rw[if_neg hj]at z;rintro (z2|z2)
     ·exact hj (e.dj j i a z z2)
     ·exact e.dx j a z z2
   ·rw[zaV];exact e.l1
   ·rw[zaV];exact e.l2
   ·rcases z with z|⟨j,z⟩
    ·exact .inl ⟨i,z⟩
    ·by_cases hj:j=i
     ·rw[if_pos hj]at z;exact z.elim
     ·rw[if_neg hj]at z;exact .inl ⟨j,z⟩
def f_c(hv:∀K O H F,Ow K O H t 3 v F)(h:tF K true ds ds 3 (eC t) σ H Q):tC v σ H Q:=by
 obtain⟨Ox,en,R,t',en',e,hf,k⟩:=h;cases hf;exact k v H R NoA (Post.refl e) (hv _ _ _ _)
def LH(hd:d'<=d)(h:tF K p ds ds' d' f σ H Q):tF K p ds ds' d f σ H Q:=by
 obtain⟨Ox,en,R,t,en',e,hf,k⟩:=h;refine⟨Ox,en,R,t,en',e,hf,fun v H' R' F P o=>?_⟩;obtain⟨F',s1,s2⟩:=Ow.cut t hd o;refine k v H' R' F' (P.less s1) (s2 _ (fun a z=>z.imp id fun z=>z.imp (s1 a) id) fun a z z2=>?_);rcases z2 with⟨i,z2⟩|z2|z2
 ·exact absurd (.inl z) (P.env.dx i a z2)
 ·exact z2
 ·exact absurd z2 (P.fx a z)
def mJ(hp:p'=true->p=true)(h:tF K p' ds ds' d f σ H Q):tF K p ds ds' d f σ H Q:=by
 obtain⟨Ox,en,R,t,en',e,hf,k⟩:=h;exact⟨Ox,en,R,t,en',e,hf,fun v H' R' F P o=>k v H' R' F ⟨P.env,P.fx,P.keep,P.own,P.dom,fun z=>P.pure (hp z)⟩ o⟩
theorem EnvOk.cut(e:EnvOk K ds Ox H σ en R)(hl:ds0.length=ds.length)(hd:∀(i:Nat) a b,ds0[i]?=some a->ds[i]?=some b->a<=b):∃R',(∀i a,R' i a->R i a)/\EnvOk K ds0 Ox H σ en R':=by
 have ch:∀i,∃F':AS,(∀b,F' b->R i b)/\∀t v d0,en[i]?=some (some t)->σ[i]?=some (some v)->ds0[i]?=some d0->∀O':AS,(∀a,O' a->Own R Ox a)->(∀a,R i a->O' a->F' a)->Ow K O' H t d0 v F':=fun i=>by
  by_cases h:∃t,en[i]?=some (some t)
  ·obtain⟨t,ht⟩:=h;obtain⟨v,d,h1,h2,h3⟩:=e.at_ i t ht;cases q:ds0[i]? with
   |none=>exact⟨NoA,fun _ z=>z.elim,fun _ _ _ _ _ z=>nomatch z⟩
   |some d0=>
    obtain⟨F',s1,s2⟩:=Ow.cut t (hd i d0 d q h2) h3;refine⟨F',s1,fun t' v' d0' h1' h2' h3' O'=>?_⟩;rw[ht]at h1';cases h1';rw[h1]at h2';cases h2';cases h3';exact s2 O'
  ·exact⟨NoA,fun _ z=>z.elim,fun t _ _ ht=>absurd ⟨t,ht⟩ h⟩
 refine⟨fun i=>(ch i).choose,fun i=>(ch i).choose_spec.1,fun i t ht=>?_,fun i j a z1 z2=>e.dj i j a ((ch i).choose_spec.1 a z1) ((ch j).choose_spec.1 a z2),fun i a z=>e.dx i a ((ch i).choose_spec.1 a z),fun a z=>e.dom a (z.imp (fun⟨i,z⟩=>⟨i,(ch i).choose_spec.1 a z⟩) id),e.l1,hl.trans e.l2⟩;obtain⟨v,d,h1,h2,h3⟩:=e.at_ i t ht;have hi:i<ds0.length:=by rw[hl];exact(zah.mp h2).1
 refine⟨v,ds0[i],h1,zak hi,(ch i).choose_spec.2 t v _ ht h1 (zak hi) _ (fun a z=>z.imp (fun⟨j,z⟩=>⟨j,(ch j).choose_spec.1 a z⟩) id) fun a z z2=>?_⟩;rcases z2 with⟨j,z2⟩|z2
 ·have:=e.dj i j a z ((ch j).choose_spec.1 a z2);subst this;exact z2
 ·exact absurd z2 (e.dx i a z)
def leD:List Nat->List Nat->Bool
 |[],[]=>true
 |a::r,b::s=>decide (a<=b)&&leD r s
 |_,_=>false
theorem eh:∀{a b:List Nat},leD a b=true->a.length=b.length/\∀(i:Nat) x y,a[i]?=some x->b[i]?=some y->x<=y
 |[],[],_=>⟨rfl,fun i x y h=>by simp at h⟩
 |a::r,b::s,h=>by
  unfold leD at h;rw[zbn]at h;obtain⟨h1,h2⟩:=h;obtain⟨h3,h4⟩:=eh h2;refine⟨by rw[zac,zac,h3],fun i x y e1 e2=>?_⟩;cases i with
  |zero=>cases e1;cases e2;exact of_decide_eq_true h1
  |succ i=>exact h4 i x y e1 e2
 |[],_::_,h=>nomatch h
 |_::_,[],h=>nomatch h
def Mj(hd:leD ds0 ds=true)(h:tF K false ds ds' d f σ H Q):tF K p ds0 ds' d f σ H Q:=by
 obtain⟨Ox,en,R,t,en',e,hf,k⟩:=h;obtain⟨R1,s1,e1⟩:=e.cut (eh hd).1 (eh hd).2;refine⟨Ox,en,R1,t,en',e1,hf,fun v H' R' F P o=>k v H' R' F ⟨P.env,P.fx,fun a o q n=>P.keep a o q fun i z=>n i (s1 i a z),fun a z=>(P.own a z).imp (fun⟨i,z⟩=>⟨i,s1 i a z⟩) id,P.dom,fun z=>nomatch z⟩ o⟩
def LQ(hd:leD ds0 ds=true)(h:tF K true ds ds 3 f σ H Q):tF K true ds0 ds0 3 f σ H Q:=by
 obtain⟨Ox,en,R,t,en',e,hf,k⟩:=h;obtain⟨R1,s1,e1⟩:=e.cut (eh hd).1 (eh hd).2;refine⟨Ox,en,R1,t,en',e1,hf,fun v H' R' F P o=>?_⟩;obtain⟨a1,a2,a3⟩:=P.pure rfl;subst a1 a2;have nf:∀a,F a->H a=none:=fun a z=>by
  rcases P.own a (.inl z)with⟨i,z2⟩|z2
  ·exact absurd (.inl z) (P.env.dx i a z2)
  ·exact z2
 have nt:NewTo H H' F:=⟨a3,fun a z=>⟨nf a z,P.env.dom a (.inr (.inl z))⟩⟩;exact k v H' R F (Post.new e nt.1 nt.2) (Ow.full t o)
def LL{g:D->Option D}(h:tF K p ds ds1 d (e1 g f) σ H Q):tUn (rF1 K g d) (tF K p ds ds1 d1 f) σ H Q:=by
 obtain⟨Ox,en,R,t,en',e,hf,k⟩:=h;unfold e1 at hf;obtain⟨⟨t1,en1⟩,h1,hf⟩:=zaa.mp hf;obtain⟨t',h3,hf⟩:=zab.mp hf;cases hf;refine⟨Ox,en,R,t1,en1,e,h1,fun v H' R' F P o=>?_⟩;refine⟨Own R' Ox,t1,t,Ow.letgo P (fun _ z=>z) o,P.doms,h3,fun v2 H2 F2 n o2=>k v2 H2 R' F2 (P.fin n) (o8▸o2)⟩
def oP(h:tF K (p1&&p2) ds ds2 d (e2 g f1 f2) σ H Q):tOp (rF2 K g d) (tF K p1 ds ds1 d1 f1) (tF K p2 ds1 ds2 d2 f2) σ H Q:=by
 obtain⟨Ox,en,R,t,en',e,hf,k⟩:=h;unfold e2 at hf;obtain⟨⟨t1,en1⟩,h1,hf⟩:=zaa.mp hf;obtain⟨⟨t2,en2⟩,h2,hf⟩:=zaa.mp hf;obtain⟨t',h3,hf⟩:=zab.mp hf;cases hf;refine two e h1 h2 fun x y H2 R2 F1 F2 P o1 o2=>?_;exact⟨Own R2 Ox,t1,t2,t,Ow.letgo P (fun _=>.inl) o1,Ow.letgo P (fun _=>.inr) o2,P.doms,h3,fun v2 H3 F3 n o3=>k v2 H3 R2 F3 (P.fin n) (o8▸o3)⟩
def Post.after{R2:Nat->AS}{F:AS}(P1:Post K p1 ds1 Ox σ H en R en1 H1 R1 F1)(P2:Post K p2 ds2 Ox σ H1 en1 R1 en2 H' R2 F):Post K (p1&&p2) ds2 Ox σ H en R en2 H' R2 F:=by
 have P1':=P1.less (F':=NoA) fun _ z=>z.elim;have P2':Post K p2 ds2 (U NoA Ox) σ H1 en1 R1 en2 H' R2 F:=by rw[fq];exact P2
 have:=P1'.trans P2';rw[fq]at this;exact this
def Post.env0{F:AS}(P:Post K p ds' Ox σ H en R en' H' R' F):EnvOk K ds' Ox H' σ en' R':=P.env.fewer fun a z=>.inr z
def LS(h:tF K (p1&&p2) ds ds1 d (kq f1 f2) σ H Q):C7 (tF K p1 ds ds1 d1 f1) (tF K p2 ds1 ds1 d f2) σ H Q:=by
 obtain⟨Ox,en,R,t,en',e,hf,k⟩:=h;unfold kq at hf;obtain⟨⟨t1,en1⟩,h1,hf⟩:=zaa.mp hf;refine⟨Ox,en,R,t1,en1,e,h1,fun v H1 R1 F1 P1 o1=>?_⟩;cases t1 with
 |bool b=>
  have ev:v=.bl b:=o1;refine⟨b,ev,?_⟩;cases b with
  |true=>
   rw[if_pos rfl];exact⟨Ox,en1,R1,t,en',P1.env0,hf,fun v2 H2 R2 F2 P2 o2=>k v2 H2 R2 F2 (P1.after P2) o2⟩
  |false=>
   cases hf;rw[if_neg zbo];refine k _ H1 R1 NoA ?_ rfl
   have:=(P1.less (F':=NoA) fun _ z=>z.elim);exact⟨this.env,this.fx,this.keep,this.own,this.dom,fun hp=>this.pure (by cases p1<;>simp_all)⟩
 |_=>cases hf
def Mh(h:tF K (p1&&p2) ds ds1 d (eOr f1 f2) σ H Q):HF (tF K p1 ds ds1 d1 f1) (tF K p2 ds1 ds1 d f2) σ H Q:=by
 obtain⟨Ox,en,R,t,en',e,hf,k⟩:=h;unfold eOr at hf;obtain⟨⟨t1,en1⟩,h1,hf⟩:=zaa.mp hf;refine⟨Ox,en,R,t1,en1,e,h1,fun v H1 R1 F1 P1 o1=>?_⟩;cases t1 with
 |bool b=>
  have ev:v=.bl b:=o1;refine⟨b,ev,?_⟩;cases b with
  |false=>
   rw[if_neg zbo];exact⟨Ox,en1,R1,t,en',P1.env0,hf,fun v2 H2 R2 F2 P2 o2=>k v2 H2 R2 F2 (P1.after P2) o2⟩
  |true=>
   cases hf;rw[if_pos rfl];refine k _ H1 R1 NoA ?_ rfl
   have:=(P1.less (F':=NoA) fun _ z=>z.elim);exact⟨this.env,this.fx,this.keep,this.own,this.dom,fun hp=>this.pure (by cases p1<;>simp_all)⟩
 |_=>cases hf
def LM(h:tF K p ds ds1 3 (qg f) σ H Q):C2 (tF K p ds ds1 d1 f) σ H Q:=by
 obtain⟨Ox,en,R,t,en',e,hf,k⟩:=h;unfold qg at hf;obtain⟨⟨t1,en1⟩,h1,hf⟩:=zaa.mp hf;refine⟨Ox,en,R,t1,en1,e,h1,fun v H1 R1 F1 P1 o1=>?_⟩;cases t1 with
 |bool b=>
  cases hf;exact⟨b,o1,k _ H1 R1 NoA (P1.less fun _ z=>z.elim) rfl⟩
 |_=>cases hf
def tFT(K:zb7)(p:Bool)(ds ds':List Nat)(f:MT):TT:=fun σ H Q=>
 ∃Ox en R b en',EnvOk K ds Ox H σ en R/\f en=some (b,en')/\∀H' R',Post K p ds' Ox σ H en R en' H' R' NoA->Q b H'
variable{c:MT}{QT:Bool->Hp->Prop}
def jJ(h:tFT K p ds ds' (tV f) σ H QT):tB (tF K p ds ds' d f) σ H QT:=by
 obtain⟨Ox,en,R,b,en',e,hf,k⟩:=h;unfold tV at hf;obtain⟨⟨t1,en1⟩,h1,hf⟩:=zaa.mp hf;refine⟨Ox,en,R,t1,en1,e,h1,fun v H1 R1 F1 P1 o1=>?_⟩;cases t1 with
 |bool b=>
  cases hf;exact⟨_,o1,k H1 R1 (P1.less fun _ z=>z.elim)⟩
 |_=>cases hf
def Jz(h:tFT K (p1&&p2) ds ds1 (cA c1 c2) σ H QT):HN (tFT K p1 ds ds1 c1) (tFT K p2 ds1 ds1 c2) σ H QT:=by
 obtain⟨Ox,en,R,b,en',e,hf,k⟩:=h;unfold cA at hf;obtain⟨⟨b1,en1⟩,h1,hf⟩:=zaa.mp hf;refine⟨Ox,en,R,b1,en1,e,h1,fun H1 R1 P1=>?_⟩;cases b1 with
 |true=>
  rw[if_pos rfl];exact⟨Ox,en1,R1,b,en',P1.env0,hf,fun H2 R2 P2=>k H2 R2 (P1.after P2)⟩
 |false=>
  cases hf;rw[if_neg zbo];exact k H1 R1 ⟨P1.env,P1.fx,P1.keep,P1.own,P1.dom,fun hp=>P1.pure (by cases p1<;>simp_all)⟩
def Lr(h:tFT K (p1&&p2) ds ds1 (bOr c1 c2) σ H QT):tOr (tFT K p1 ds ds1 c1) (tFT K p2 ds1 ds1 c2) σ H QT:=by
 obtain⟨Ox,en,R,b,en',e,hf,k⟩:=h;unfold bOr at hf;obtain⟨⟨b1,en1⟩,h1,hf⟩:=zaa.mp hf;refine⟨Ox,en,R,b1,en1,e,h1,fun H1 R1 P1=>?_⟩;cases b1 with
 |false=>
  rw[if_neg zbo];exact⟨Ox,en1,R1,b,en',P1.env0,hf,fun H2 R2 P2=>k H2 R2 (P1.after P2)⟩
 |true=>
  cases hf;rw[if_pos rfl];exact k H1 R1 ⟨P1.env,P1.fx,P1.keep,P1.own,P1.dom,fun hp=>P1.pure (by cases p1<;>simp_all)⟩
def Jw(h:tFT K p ds ds1 (fX c) σ H QT):HG (tFT K p ds ds1 c) σ H QT:=by
 obtain⟨Ox,en,R,b,en',e,hf,k⟩:=h;unfold fX at hf;obtain⟨⟨b1,en1⟩,h1,hf⟩:=zab.mp hf;cases hf;exact⟨Ox,en,R,b1,_,e,h1,fun H1 R1 P1=>k H1 R1 P1⟩
def Jy(hd:leD ds0 ds=true)(h:tFT K true ds ds c σ H QT):tFT K true ds0 ds0 c σ H QT:=by
 obtain⟨Ox,en,R,t,en',e,hf,k⟩:=h;obtain⟨R1,s1,e1⟩:=e.cut (eh hd).1 (eh hd).2;refine⟨Ox,en,R1,t,en',e1,hf,fun H' R' P=>?_⟩;obtain⟨a1,a2,a3⟩:=P.pure rfl;subst a1 a2;exact k H' R (Post.new e a3 fun _ z=>z.elim)
end
abbrev Sh:=List (Nat ⊕ Nat)
variable{sh:Sh}
def OwA(K:zb7)(O:AS)(H:Hp)(σ:St):List (D ⊕ Nat)->Sh->List V->AS->Prop
 |[],ds,vs,_=>ds=[]/\vs=[]
 |.inl t::as,ds,vs,F=>∃v r d dr,∃F1 F2:AS,vs=v::r/\ds=.inl d::dr/\(∀b,F1 b->F b)/\(∀b,F2 b->F b)/\(∀b,F1 b->¬F2 b)/\Ow K O H t d v F1/\OwA K O H σ as dr r F2
 |.inr i::as,ds,vs,F=>∃v r dr,vs=v::r/\ds=.inr i::dr/\σ[i]?=some (some v)/\OwA K O H σ as dr r F
def tFA(K:zb7)(p:Bool)(ds ds':List Nat)(sh:Sh)(f:MA):TA:=fun σ H Q=>
 ∃Ox en R as en',EnvOk K ds Ox H σ en R/\f en=some (as,en')/\∀vs H' R' F,Post K p ds' Ox σ H en R en' H' R' F->OwA K (Own R' (U F Ox)) H' σ as sh vs F->Q vs H'
def bh(fa:MA):ME:=fun en=>(fa en).bind fun r=>(vals r.1).bind fun ts=>if ts.length<=sizeLine then some (.list ts,r.2)else none
def da(fa:MA):ME:=fun en=>(fa en).bind fun r=>(vals r.1).bind fun ts=>if ts.length<=sizeLine then some (.tuple ts,r.2)else none
section
variable{QA:List V->Hp->Prop} 
def yF(h:tFA K true ds ds [] ah σ H QA):vW σ H QA:=by
 obtain⟨Ox,en,R,as,en',e,hf,k⟩:=h;cases hf;exact k [] H R NoA (Post.refl e) ⟨rfl,rfl⟩
def qf(h:tFA K (p1&&p2) ds ds2 (.inl d::sh) (ac f fa) σ H QA):nT (tF K p1 ds ds1 d f) (tFA K p2 ds1 ds2 sh fa) σ H QA:=by
 obtain⟨Ox,en,R,as,en',e,hf,k⟩:=h;unfold ac at hf;obtain⟨⟨t1,en1⟩,h1,hf⟩:=zaa.mp hf;obtain⟨⟨as2,en2⟩,h2,hf⟩:=zab.mp hf;cases hf;refine⟨Ox,en,R,t1,en1,e,h1,fun x H1 R1 F1 P1 o1=>?_⟩;refine⟨U F1 Ox,en1,R1,as2,en2,P1.env,h2,fun vs H2 R2 F2 P2 o2=>?_⟩;refine k (x::vs) H2 R2 (U F1 F2) (P1.trans P2) ⟨x,vs,d,sh,F1,F2,rfl,rfl,fun _=>.inl,fun _=>.inr,fun b z1 z2=>P2.fx b z2 (.inl z1),Ow.over P1.env P2 o1,?_⟩;rw[<-lQ];exact o2
def Fs(h:tFA K p ds ds2 (.inr i::sh) (aB i fa) σ H QA):nT (gR i) (tFA K p ds ds2 sh fa) σ H QA:=by
 obtain⟨Ox,en,R,as,en',e,hf,k⟩:=h;unfold aB at hf;obtain⟨t0,h0,hf⟩:=zaa.mp hf;obtain⟨⟨as2,en2⟩,h2,hf⟩:=zab.mp hf;cases hf;have q:en[i]?=some (some t0):=by
  cases q:en[i]? with
  |none=>rw[q]at h0;cases h0
  |some o=>rw[q]at h0;exact congrArg some h0
 obtain⟨v,d,h1,_⟩:=e.at_ i t0 q;exact⟨v,h1,Ox,en,R,as2,en2,e,h2,fun vs H2 R2 F2 P2 o2=>k (v::vs) H2 R2 F2 P2 ⟨v,vs,sh,rfl,rfl,h1,o2⟩⟩
def cf(c:Nat):Sh->Bool
 |[]=>true
 |.inl d::r=>decide (c<=d)&&cf c r
 |.inr _::_=>false
theorem OwA.ows:∀{as:List (D ⊕ Nat)} {sh:Sh} {vs:List V} {F:AS} {ts:List D} {c:Nat},cf c sh=true->vals as=some ts->OwA K O H σ as sh vs F ->
  ∃F':AS,(∀b,F' b->F b)/\∀O':AS,(∀a,O' a->O a)->(∀a,F a->O' a->F' a)->Ows K O' H ts c vs F'
 |[],_,_,F,ts,c,_,hv,h=>by
  cases hv;exact⟨F,fun _ z=>z,fun _ _ _=>h.2⟩
 |.inl t::as,_,_,F,ts,c,hs,hv,h=>by
  obtain⟨v,r,d,dr,F1,F2,e1,e2,s1,s2,s3,h1,h2⟩:=h;subst e1 e2;unfold vals at hv;obtain⟨ts',hv',e⟩:=zab.mp hv;subst e;unfold cf at hs;rw[zbn]at hs;obtain⟨G1,a1,a2⟩:=Ow.cut t (of_decide_eq_true hs.1) h1;obtain⟨G2,b1,b2⟩:=OwA.ows hs.2 hv' h2;refine⟨fun b=>G1 b\/G2 b,fun b hb=>hb.elim (fun z=>s1 _ (a1 _ z)) fun z=>s2 _ (b1 _ z),fun O' ho hx=>⟨v,r,G1,G2,rfl,fun b=>.inl,fun b=>.inr,fun b z1 z2=>s3 b (a1 b z1) (b1 b z2),a2 O' ho fun b hb hz=>?_,b2 O' ho fun b hb hz=>?_⟩⟩
  ·exact(hx b (s1 b hb) hz).elim id fun z=>absurd (b1 b z) (s3 b hb)
  ·exact(hx b (s2 b hb) hz).elim (fun z=>absurd hb (s3 b (a1 b z))) id
 |.inr i::as,_,_,F,ts,c,_,hv,_=>by cases hv
theorem OwA.len:∀{as:List (D ⊕ Nat)} {sh:Sh} {vs:List V} {F:AS},OwA K O H σ as sh vs F->vs.length=as.length
 |[],_,_,_,h=>by rw[h.2];rfl
 |.inl t::as,_,_,_,h=>by
  obtain⟨v,r,d,dr,F1,F2,e1,e2,s1,s2,s3,h1,h2⟩:=h;rw[e1,zac,zac,h2.len]
 |.inr i::as,_,_,_,h=>by
  obtain⟨v,r,dr,e1,e2,e3,h2⟩:=h;rw[e1,zac,zac,h2.len]
theorem nj:∀{as:List (D ⊕ Nat)} {ts:List D},vals as=some ts->ts.length=as.length
 |[],_,h=>by cases h;rfl
 |.inl t::as,_,h=>by
  unfold vals at h;obtain⟨ts',hv',e⟩:=zab.mp h;subst e;rw[zac,zac,nj hv']
 |.inr _::_,_,h=>by cases h
def tw{g:List D->Option D}(hs:cf 0 sh=true)(h:tF K p ds ds1 d (eN g fa) σ H Q):tCB (rFn K g d) (tFA K p ds ds1 sh fa) σ H Q:=by
 obtain⟨Ox,en,R,t,en',e,hf,k⟩:=h;unfold eN at hf;obtain⟨⟨as,en1⟩,h1,hf⟩:=zaa.mp hf;obtain⟨ts,h2,hf⟩:=zaa.mp hf;obtain⟨t',h3,hf⟩:=zab.mp hf;cases hf;refine⟨Ox,en,R,as,en1,e,h1,fun vs H1 R1 F P o=>?_⟩;obtain⟨F',s1,s2⟩:=OwA.ows hs h2 o;have o2:Ows K (Own R1 Ox) H1 ts 0 vs F':=s2 _ (fun a z=>z.imp id .inr) fun a z z2=>by
  rcases z2 with⟨i,z2⟩|z2
  ·exact absurd (.inl z) (P.env.dx i a z2)
  ·exact absurd z2 (P.fx a z)
 exact⟨Own R1 Ox,ts,t,Ows.any0 ts o2,P.doms,h3,fun v2 H2 F2 n o2=>k v2 H2 R1 F2 (P.fin n) (o8▸o2)⟩
def Post.add{F:AS}(P:Post K p ds' Ox σ H en R en' H1 R' F)(n:NewTo H1 H' G):Post K p ds' Ox σ H en R en' H' R' (U F G):=by
 have P2:Post K true ds' (U F Ox) σ H1 en' R' en' H' R' G:=Post.new P.env n.1 n.2
 have:=P.trans P2;rw[zb5]at this;exact this
def bB(hl:H l=none):NewTo H (upd H l o) (fun b=>b=l):=by
 refine⟨fun a u q=>?_,fun a z=>?_⟩
 ·rw[aE]
  ·exact q
  ·intro z;subst z;rw[hl]at q;cases q
 ·subst z;exact⟨hl,_,aA⟩
def LN(hs:cf c sh=true)(hd:dn d=c)(hz:d≠0)(h:tF K p ds ds1 d (bh fa) σ H Q):HH (tFA K p ds ds1 sh fa) σ H Q:=by
 obtain⟨Ox,en,R,t,en',e,hf,k⟩:=h;unfold bh at hf;obtain⟨⟨as,en1⟩,h1,hf⟩:=zaa.mp hf;obtain⟨ts,h2,hf⟩:=zaa.mp hf;by_cases ξ:ts.length<=sizeLine
 case neg=>rw[if_neg ξ]at hf;cases hf
 rw[if_pos ξ]at hf;cases hf;refine⟨Ox,en,R,as,en1,e,h1,fun vs H1 R1 F P o=>⟨?_,fun l hl=>?_⟩⟩
 ·rw[o.len,<-nj h2];exact ξ
 obtain⟨F',s1,s2⟩:=OwA.ows hs h2 o;have o2:=s2 (Own R1 (U F' Ox)) (fun a z=>z.imp id fun z=>z.imp (s1 a) id) fun a z z2=>by
  rcases z2 with⟨i,z2⟩|z2|z2
  ·exact absurd (.inl z) (P.env.dx i a z2)
  ·exact z2
  ·exact absurd z2 (P.fx a z)
 have P':=(P.less s1).add (bB (o:=.lst vs) hl);have nl:∀a,F' a->a≠l:=fun a z z2=>by
  subst z2;obtain⟨o',q⟩:=P.env.dom a (.inr (.inl (s1 a z)));rw[hl]at q;cases q
 refine k (.ref l) (upd H1 l (.lst vs)) R1 _ P' ⟨l,vs,rfl,.inr ⟨hz,aA,.inr rfl,F',fun b z=>⟨.inl z,nl b z⟩,?_⟩⟩;rw[hd];refine Ows.mv (G:=F') ⟨fun a o q _=>(bB (o:=.lst vs) hl).1 a o q,fun a z=>?_⟩ ts (fun _ z=>z) o2;rcases z with z | (z|z)|z
 ·exact .inl (.inl z)
 ·exact .inl (.inr (.inl z))
 ·exact .inr (by rw[show a=l from z];exact hl)
 ·exact .inl (.inr (.inr z))
def LG(hs:cf c sh=true)(hd:dn d=c)(h:tF K p ds ds1 d (da fa) σ H Q):HC (tFA K p ds ds1 sh fa) σ H Q:=by
 obtain⟨Ox,en,R,t,en',e,hf,k⟩:=h;unfold da at hf;obtain⟨⟨as,en1⟩,h1,hf⟩:=zaa.mp hf;obtain⟨ts,h2,hf⟩:=zaa.mp hf;by_cases ξ:ts.length<=sizeLine
 case neg=>rw[if_neg ξ]at hf;cases hf
 rw[if_pos ξ]at hf;cases hf;refine⟨Ox,en,R,as,en1,e,h1,fun vs H1 R1 F P o=>⟨?_,fun l hl=>?_⟩⟩
 ·rw[o.len,<-nj h2];exact ξ
 obtain⟨F',s1,s2⟩:=OwA.ows hs h2 o;have o2:=s2 (Own R1 (U F' Ox)) (fun a z=>z.imp id fun z=>z.imp (s1 a) id) fun a z z2=>by
  rcases z2 with⟨i,z2⟩|z2|z2
  ·exact absurd (.inl z) (P.env.dx i a z2)
  ·exact z2
  ·exact absurd z2 (P.fx a z)
 have nl:∀a,Own R1 (U F' Ox) a->a≠l:=fun a z z2=>by
  subst z2;obtain⟨o',q⟩:=P.env.dom a (z.imp id fun z=>z.imp (s1 a) id);rw[hl]at q;cases q
 by_cases hz:d=0
 ·subst hz;have P':=(P.less s1).add (G:=NoA) (H':=upd H1 l (.tup vs)) ⟨(bB (o:=.tup vs) hl).1,fun _ z=>z.elim⟩;have eq:U F' NoA=F':=e7 fun a=>⟨fun z=>z.elim id fun z=>z.elim,.inl⟩;rw[eq]at P';refine k (.ref l) (upd H1 l (.tup vs)) R1 _ P' ⟨l,vs,rfl,.inl ⟨rfl,⟨aA,fun z=>nl l z rfl⟩,?_⟩⟩;have hc:c=0:=hd.symm;subst hc;exact Ows.mv (G:=F') ⟨fun a o q _=>(bB (o:=.tup vs) hl).1 a o q,fun a z=>.inl z⟩ ts (fun _ z=>z) o2
 ·have P':=(P.less s1).add (bB (o:=.tup vs) hl);refine k (.ref l) (upd H1 l (.tup vs)) R1 _ P' ⟨l,vs,rfl,.inr ⟨hz,aA,.inr rfl,F',fun b z=>⟨.inl z,nl b (.inr (.inl z))⟩,?_⟩⟩;rw[hd];refine Ows.mv (G:=F') ⟨fun a o q _=>(bB (o:=.tup vs) hl).1 a o q,fun a z=>?_⟩ ts (fun _ z=>z) o2;rcases z with z | (z|z)|z
  ·exact .inl (.inl z)
  ·exact .inl (.inr (.inl z))
  ·exact .inr (by rw[show a=l from z];exact hl)
  ·exact .inl (.inr (.inr z))
end
def spF(K:zb7)(dps:List Nat)(dr:Nat)(F:List D->Option (D×En)):Sp:=fun vs H Q _=>
 ∃Ox ts R r ψ,EnvOk K dps Ox H (vs.map some) (ts.map some) R/\F ts=some (r,ψ) /\
  ∀v H' R' Fr,Post K false dps Ox (vs.map some) H (ts.map some) R ψ H' R' Fr->Ow K (Own R' (U Fr Ox)) H' r dr v Fr->Q v H'
def dP:List (D ⊕ Nat)->En->Option (List D)
 |[],_=>some []
 |.inl t::r,en=>(dP r en).map (t::·)
 |.inr i::r,en=>(en[i]?).join.bind fun t=>(dP r en).map (t::·)
def wb:List (D ⊕ Nat)->En->En->En
 |.inr i::r,o::ψ,en=>wb r ψ (en.set i o)
 |.inl _::r,_::ψ,en=>wb r ψ en
 |_,_,en=>en
def am(F:List D->Option (D×En))(fa:MA):ME:=fun en=>(fa en).bind fun r=>(dP r.1 r.2).bind fun ts=>(F ts).map fun q=>(q.1,wb r.1 q.2 r.2)
def jD:Sh->List Nat
 |[]=>[]
 |.inl _::r=>jD r
 |.inr i::r=>i::jD r
def cV(ds:List Nat):Sh->List Nat->Bool
 |[],[]=>true
 |.inl d::r,q::s=>decide (d=q)&&cV ds r s
 |.inr i::r,q::s=>decide (ds[i]?=some q)&&(decide (i∉jD r)&&cV ds r s)
 |_,_=>false
def gA:Sh->Bool
 |[]=>true
 |.inl _::r=>gA r
 |.inr _::_=>false
section
variable{QA:List V->Hp->Prop} 
theorem OwA.parts:∀{as:List (D ⊕ Nat)} {sh:Sh} {vs:List V} {F:AS},OwA K O H σ as sh vs F ->
  ∃Rp:Nat->AS,(∀(j:Nat) t,as[j]?=some (.inl t)->∃v d,vs[j]?=some v/\sh[j]?=some (.inl d)/\Ow K O H t d v (Rp j))/\(∀(j i:Nat),as[j]?=some (.inr i)->∃v,vs[j]?=some v/\sh[j]?=some (.inr i)/\σ[i]?=some (some v)) /\
   (∀j a,Rp j a->F a)/\(∀j j' a,Rp j a->Rp j' a->j=j')
 |[],sh,vs,F,h=>⟨fun _=>NoA,fun j t z=>by simp at z,fun j i z=>by simp at z,fun _ _ z=>z.elim,fun _ _ _ z=>z.elim⟩
 |.inl t::as,sh,vs,F,h=>by
  obtain⟨v,r,d,dr,F1,F2,e1,e2,s1,s2,s3,h1,h2⟩:=h;subst e1 e2;obtain⟨Rp,a1,a2,a3,a4⟩:=h2.parts;refine⟨fun j=>match j with|0=>F1|j+1=>Rp j,fun j u hj=>?_,fun j i hj=>?_,fun j a z=>?_,fun j j' a z z'=>?_⟩
  ·cases j with
   |zero=>
    have:t=u:=by simpa using hj
    subst this;exact⟨v,d,rfl,rfl,h1⟩
   |succ j=>exact a1 j u (by simpa using hj)
  ·cases j with
   |zero=>simp at hj
   |succ j=>exact a2 j i (by simpa using hj)
  ·cases j with
   |zero=>exact s1 a z
   |succ j=>exact s2 a (a3 j a z)
  ·cases j with
   |zero=>
    cases j' with
    |zero=>rfl
    |succ j'=>exact absurd (a3 j' a z') (s3 a z)
   |succ j=>
    cases j' with
    |zero=>exact absurd (a3 j a z) (s3 a z')
    |succ j'=>rw[a4 j j' a z z']
 |.inr i::as,sh,vs,F,h=>by
  obtain⟨v,r,dr,e1,e2,e3,h2⟩:=h;subst e1 e2;obtain⟨Rp,a1,a2,a3,a4⟩:=h2.parts;refine⟨fun j=>match j with|0=>NoA|j+1=>Rp j,fun j u hj=>?_,fun j i' hj=>?_,fun j a z=>?_,fun j j' a z z'=>?_⟩
  ·cases j with
   |zero=>simp at hj
   |succ j=>exact a1 j u (by simpa using hj)
  ·cases j with
   |zero=>
    have:i=i':=by simpa using hj
    subst this;exact⟨v,rfl,rfl,e3⟩
   |succ j=>exact a2 j i' (by simpa using hj)
  ·cases j with
   |zero=>exact z.elim
   |succ j=>exact a3 j a z
  ·cases j with
   |zero=>exact z.elim
   |succ j=>
    cases j' with
    |zero=>exact z'.elim
    |succ j'=>rw[a4 j j' a z z']
theorem nH:∀{as:List (D ⊕ Nat)} {en:En} {ts:List D},dP as en=some ts->ts.length=as.length/\∀(j:Nat) t,ts[j]?=some t->as[j]?=some (.inl t)\/∃i,as[j]?=some (.inr i)/\en[i]?=some (some t)
 |[],_,_,h=>by cases h;exact⟨rfl,fun j t z=>by simp at z⟩
 |.inl t::as,en,_,h=>by
  unfold dP at h;obtain⟨ts',h',e⟩:=zab.mp h;subst e;obtain⟨l,g⟩:=nH h';refine⟨by rw[zac,zac,l],fun j u z=>?_⟩;cases j with
  |zero=>simp at z;subst z;exact .inl rfl
  |succ j=>exact g j u (by simpa using z)
 |.inr i::as,en,_,h=>by
  unfold dP at h;obtain⟨t,ht,h⟩:=zaa.mp h;obtain⟨ts',h',e⟩:=zab.mp h;subst e;obtain⟨l,g⟩:=nH h';refine⟨by rw[zac,zac,l],fun j u z=>?_⟩;cases j with
  |zero=>
   simp at z;subst z;refine .inr ⟨i,rfl,?_⟩;cases q:en[i]? with
   |none=>rw[q]at ht;cases ht
   |some o=>rw[q]at ht;exact congrArg some ht
  |succ j=>exact g j u (by simpa using z)
theorem lM:∀{sh:Sh} {dps:List Nat},cV ds sh dps=true->sh.length=dps.length/\(∀(j d:Nat),sh[j]?=some (.inl d)->dps[j]?=some d)/\(∀(j i:Nat),sh[j]?=some (.inr i)->∃q,dps[j]?=some q/\ds[i]?=some q) /\
   (∀(j j' i:Nat),sh[j]?=some (.inr i)->sh[j']?=some (.inr i)->j=j')
 |[],[],_=>⟨rfl,fun j d z=>by simp at z,fun j d z=>by simp at z,fun j j' d z=>by simp at z⟩
 |.inl d::r,q::s,h=>by
  unfold cV at h;rw[zbn]at h;obtain⟨h1,h2⟩:=h;have h1':=of_decide_eq_true h1;subst h1';obtain⟨l,a,b,c⟩:=lM h2;refine⟨by rw[zac,zac,l],fun j u z=>?_,fun j i z=>?_,fun j j' i z z'=>?_⟩
  ·cases j with
   |zero=>simp at z;subst z;rfl
   |succ j=>exact a j u (by simpa using z)
  ·cases j with
   |zero=>simp at z
   |succ j=>exact b j i (by simpa using z)
  ·cases j with
   |zero=>simp at z
   |succ j=>
    cases j' with
    |zero=>simp at z'
    |succ j'=>rw[c j j' i (by simpa using z) (by simpa using z')]
 |.inr i0::r,q::s,h=>by
  unfold cV at h;rw[zbn,zbn]at h;obtain⟨h1,h2,h3⟩:=h;have h1':=of_decide_eq_true h1;have h2':=of_decide_eq_true h2;obtain⟨l,a,b,c⟩:=lM h3;have mem:∀{r:Sh} {j i:Nat},r[j]?=some (.inr i)->i∈jD r:=fun {r}=>by
   induction r with
   |nil=>intro j i z;simp at z
   |cons x r ih=>
    intro j i z;cases j with
    |zero=>
     simp at z;subst z;unfold jD;exact zaq
    |succ j=>
     have:=ih (j:=j) (i:=i) (by simpa using z);cases x with
     |inl _=>exact this
     |inr _=>exact zaj _ this
  refine⟨by rw[zac,zac,l],fun j u z=>?_,fun j i z=>?_,fun j j' i z z'=>?_⟩
  ·cases j with
   |zero=>simp at z
   |succ j=>exact a j u (by simpa using z)
  ·cases j with
   |zero=>simp at z;subst z;exact⟨q,rfl,h1'⟩
   |succ j=>exact b j i (by simpa using z)
  ·cases j with
   |zero=>
    simp at z;subst z;cases j' with
    |zero=>rfl
    |succ j'=>exact absurd (mem (by simpa using z')) h2'
   |succ j=>
    cases j' with
    |zero=>
     simp at z';subst z';exact absurd (mem (by simpa using z)) h2'
    |succ j'=>rw[c j j' i (by simpa using z) (by simpa using z')]
 |[],_::_,h=>nomatch h
 |.inl _::_,[],h=>nomatch h
 |.inr _::_,[],h=>nomatch h
theorem rK:∀(as:List (D ⊕ Nat)) (ψ en:En),(wb as ψ en).length=en.length
 |[],_,_=>by unfold wb;rfl
 |.inl _::as,[],_=>by unfold wb;rfl
 |.inr _::as,[],_=>by unfold wb;rfl
 |.inl _::as,o::ψ,en=>by unfold wb;exact rK as ψ en
 |.inr i::as,o::ψ,en=>by unfold wb;rw[rK as ψ _,zaV]
theorem jC:∀(as:List (D ⊕ Nat)) (ψ en:En) (i:Nat),(∀j:Nat,as[j]?≠some (.inr i))->(wb as ψ en)[i]?=en[i]?
 |[],_,_,_,_=>by unfold wb;rfl
 |.inl _::as,[],_,_,_=>by unfold wb;rfl
 |.inr _::as,[],_,_,_=>by unfold wb;rfl
 |.inl _::as,o::ψ,en,i,h=>by unfold wb;exact jC as ψ en i fun j=>h (j+1)
 |.inr k::as,o::ψ,en,i,h=>by
  unfold wb;rw[jC as ψ _ i fun j=>h (j+1),zaO];intro e;subst e;exact h 0 rfl
theorem vO:∀(as:List (D ⊕ Nat)) (ψ en:En) (i j:Nat),as[j]?=some (.inr i)->(∀j':Nat,as[j']?=some (.inr i)->j'=j)->ψ.length=as.length->i<en.length->(wb as ψ en)[i]?=ψ[j]?
 |[],_,_,_,_,h,_,_,_=>by simp at h
 |.inl _::as,[],_,_,_,_,_,h,_=>by simp at h
 |.inr _::as,[],_,_,_,_,_,h,_=>by simp at h
 |.inl _::as,o::ψ,en,i,j,h,u,l,b=>by
  unfold wb;cases j with
  |zero=>simp at h
  |succ j=>exact vO as ψ en i j (by simpa using h) (fun j' z=>by have:=u (j'+1) (by simpa using z);omega) (by simpa using l) b
 |.inr k::as,o::ψ,en,i,j,h,u,l,b=>by
  unfold wb;cases j with
  |zero=>
   have e:k=i:=by simpa using h
   subst e;rw[jC as ψ _ k fun j' z=>by have:=u (j'+1) (by simpa using z);omega];rw[zaP b];rfl
  |succ j=>exact vO as ψ _ i j (by simpa using h) (fun j' z=>by have:=u (j'+1) (by simpa using z);omega) (by simpa using l) (by rw[zaV];exact b)
theorem OwA.shl:∀{as:List (D ⊕ Nat)} {sh:Sh} {vs:List V} {F:AS},OwA K O H σ as sh vs F->sh.length=as.length
 |[],_,_,_,h=>by rw[h.1];rfl
 |.inl t::as,_,_,_,h=>by
  obtain⟨v,r,d,dr,F1,F2,e1,e2,s1,s2,s3,h1,h2⟩:=h;rw[e2,zac,zac,h2.shl]
 |.inr i::as,_,_,_,h=>by
  obtain⟨v,r,dr,e1,e2,e3,h2⟩:=h;rw[e2,zac,zac,h2.shl]
theorem oh:∀{sh:Sh},gA sh=true->∀(j i:Nat),sh[j]?≠some (.inr i)
 |[],_,j,i,z=>by simp at z
 |.inl _::r,h,j,i,z=>by
  cases j with
  |zero=>simp at z
  |succ j=>exact oh (sh:=r) h j i (by simpa using z)
 |.inr _::r,h,_,_,_=>nomatch h
def Dx{E:XK}{F:List D->Option (D×En)}(hc:cV ds1 sh dps=true)(h:∃Ox en R t en',EnvOk K ds Ox H σ en R/\am F fa en=some (t,en')/\∀v H' R' F,Post K (p&&gA sh) ds1 Ox σ H en R en' H' R' F->(p=true->∀i0:Nat,(∀j:Nat,sh[j]?≠some (.inr i0))->(∀a o,H a=some o->R i0 a->H' a=some o)/\en'[i0]?=en[i0]?)->Ow K (Own R' (U F Ox)) H' t dr v F->Q v H'):nU (spF K dps dr F) [] E (tFA K p ds ds1 sh fa) σ H Q:=by
 obtain⟨Ox,en,R,t,en',e,hf,k⟩:=h;unfold am at hf;obtain⟨⟨as,en1⟩,h1,hf⟩:=zaa.mp hf;obtain⟨ts,h2,hf⟩:=zaa.mp hf;obtain⟨⟨r,ψ⟩,h3,hf⟩:=zab.mp hf;cases hf;refine⟨Ox,en,R,as,en1,e,h1,fun vs H1 R1 F0 P o=>?_⟩;obtain⟨cl,c1,c2,c3⟩:=lM hc;obtain⟨Rp,a1,a2,a3,a4⟩:=o.parts;obtain⟨tl,tg⟩:=nH h2;have ol:=o.len;have asl:∀(j i:Nat),as[j]?=some (.inr i)->sh[j]?=some (.inr i):=fun j i z=>(a2 j i z).choose_spec.2.1;have asr:∀(j i:Nat),sh[j]?=some (.inr i)->as[j]?=some (.inr i):=fun j i z=>by
  cases q:as[j]? with
  |none=>
   have e1:as.length<=j:=List.getElem?_eq_none_iff.mp q;have e2:j<sh.length:=(zah.mp z).1
   have:=o.shl;omega
  |some x=>
   cases x with
   |inl t=>
    obtain⟨_,_,_,e2,_⟩:=a1 j t q;rw[z]at e2;cases e2
   |inr i'=>
    have:=asl j i' q;rw[z]at this;cases this;rfl
 let Rq:Nat->AS:=fun j=>match sh[j]? with|some (.inr i)=>R1 i|_=>Rp j
 have rq1:∀j i:Nat,sh[j]?=some (.inr i)->Rq j=R1 i:=fun j i z=>by show(match sh[j]? with|some (.inr i)=>R1 i|_=>Rp j)=R1 i;rw[z]
 have rq2:∀j:Nat,(∀i:Nat,sh[j]?≠some (.inr i))->Rq j=Rp j:=fun j z=>by
  show(match sh[j]? with|some (.inr i)=>R1 i|_=>Rp j)=Rp j;split
  ·next i q=>exact absurd q (z i)
  ·rfl
 have rqc:∀(j:Nat) a,Rq j a->(∃i,sh[j]?=some (.inr i)/\R1 i a)\/Rp j a:=fun j a z=>by
  by_cases q:∃i,sh[j]?=some (.inr i)
  ·obtain⟨i,q⟩:=q;rw[rq1 j i q]at z;exact .inl ⟨i,q,z⟩
  ·rw[rq2 j fun i z=>q ⟨i,z⟩]at z;exact .inr z
 let Oxp:AS:=fun a=>Ox a\/∃i,R1 i a/\∀j:Nat,sh[j]?≠some (.inr i);have sub:∀a,Own Rq Oxp a->Own R1 (U F0 Ox) a:=fun a z=>by
  rcases z with⟨j,z⟩|z|⟨i,z,_⟩
  ·rcases rqc j a z with⟨i,_,z⟩|z
   ·exact .inl ⟨i,z⟩
   ·exact .inr (.inl (a3 j a z))
  ·exact .inr (.inr z)
  ·exact .inl ⟨i,z⟩
 have ec:EnvOk K dps Oxp H1 (vs.map some) (ts.map some) Rq:=by
  refine⟨fun j u hu=>?_,fun j j' a z z'=>?_,fun j a z z2=>?_,fun a z=>P.env.dom a (sub a z),by rw[zad,zad,tl,ol],?_⟩
  ·rw[zao]at hu;obtain⟨u',hu,eu⟩:=zab.mp hu;cases eu;rcases tg j u hu with q|⟨i,q,qe⟩
   ·obtain⟨v,d,b1,b2,b3⟩:=a1 j u q;refine⟨v,d,by rw[zao,b1];rfl,c1 j d b2,?_⟩;rw[rq2 j fun i z=>by rw[b2]at z;cases z];exact Ow.grow sub u (fun _ z=>z) b3
   ·obtain⟨v,b1,b2,b3⟩:=a2 j i q;obtain⟨v',d,g1,g2,g3⟩:=P.env.at_ i u qe;rw[b3]at g1;cases g1;obtain⟨qd,q1,q2⟩:=c2 j i b2;rw[g2]at q2;cases q2;refine⟨v,d,by rw[zao,b1];rfl,q1,?_⟩;rw[rq1 j i b2];exact Ow.grow sub u (fun _ z=>z) g3
  ·rcases rqc j a z with⟨i,q,z⟩|z<;>rcases rqc j' a z' with⟨i',q',z'⟩|z'
   ·have:=P.env.dj i i' a z z';subst this;exact c3 j j' i q q'
   ·exact absurd (.inl (a3 j' a z')) (P.env.dx i a z)
   ·exact absurd (.inl (a3 j a z)) (P.env.dx i' a z')
   ·exact a4 j j' a z z'
  ·rcases rqc j a z with⟨i,q,z⟩|z
   ·rcases z2 with z2|⟨i',z2,n⟩
    ·exact P.env.dx i a z (.inr z2)
    ·have:=P.env.dj i i' a z z2;subst this;exact n j q
   ·rcases z2 with z2|⟨i',z2,n⟩
    ·exact P.fx a (a3 j a z) z2
    ·exact P.env.dx i' a z2 (.inl (a3 j a z))
  ·have:=o.shl;rw[zad];omega
 rw[zbt];refine⟨Oxp,ts,Rq,r,ψ,ec,h3,fun v H2 R2 Fr Pc oc=>?_⟩;have outl:ψ.length=as.length:=by rw[Pc.env.l1,zad];exact ol
 classical
 let R3:Nat->AS:=fun i=>if q:∃j:Nat,sh[j]?=some (.inr i)then R2 q.choose else R1 i
 have r31:∀(i j:Nat),sh[j]?=some (.inr i)->R3 i=R2 j:=fun i j z=>by
  have q:∃j:Nat,sh[j]?=some (.inr i):=⟨j,z⟩
  have:q.choose=j:=c3 _ _ i q.choose_spec z;show(if q:∃j:Nat,sh[j]?=some (.inr i)then R2 q.choose else R1 i)=R2 j;rw[dif_pos q,this]
 have r32:∀i:Nat,(∀j:Nat,sh[j]?≠some (.inr i))->R3 i=R1 i:=fun i z=>by
  show(if q:∃j:Nat,sh[j]?=some (.inr i)then R2 q.choose else R1 i)=R1 i;rw[dif_neg fun⟨j,q⟩=>z j q]
 have r3c:∀(i:Nat) a,R3 i a->(∃j:Nat,sh[j]?=some (.inr i)/\R2 j a)\/((∀j:Nat,sh[j]?≠some (.inr i))/\R1 i a):=fun i a z=>by
  by_cases q:∃j:Nat,sh[j]?=some (.inr i)
  ·obtain⟨j,q⟩:=q;rw[r31 i j q]at z;exact .inl ⟨j,q,z⟩
  ·rw[r32 i fun j z=>q ⟨j,z⟩]at z;exact .inr ⟨fun j z=>q ⟨j,z⟩,z⟩
 have kM:∀a,Own R3 (U Fr Ox) a->Own R2 (U Fr Oxp) a:=fun a z=>by
  rcases z with⟨i,z⟩|z|z
  ·rcases r3c i a z with⟨j,_,z⟩|⟨n,z⟩
   ·exact .inl ⟨j,z⟩
   ·exact .inr (.inr (.inr ⟨i,z,n⟩))
  ·exact .inr (.inl z)
  ·exact .inr (.inr (.inl z))
 have back:∀a,(Fr a\/∃j,R2 j a)->Own R1 (U F0 Ox) a\/H1 a=none:=fun a z=>by
  rcases Pc.own a z with⟨j,z⟩|z
  ·exact .inl (sub a (.inl ⟨j,z⟩))
  ·exact .inr z
 have back2:∀a,(Fr a\/∃j,R2 j a)->(F0 a\/∃i,R1 i a)\/H1 a=none:=fun a z=>by
  rcases Pc.own a z with⟨j,z⟩|z
  ·rcases rqc j a z with⟨i,_,z⟩|z
   ·exact .inl (.inr ⟨i,z⟩)
   ·exact .inl (.inl (a3 j a z))
  ·exact .inr z
 have n1:∀a,H1 a=none->H a=none:=fun a z=>by
  cases q:H a with
  |none=>rfl
  |some o=>
   obtain⟨o',q'⟩:=P.dom a o q;rw[z]at q';cases q'
 have rqsub:∀j a,Rq j a->Own R1 (U F0 Ox) a:=fun j a z=>sub a (.inl ⟨j,z⟩);have env3:EnvOk K ds1 (U Fr Ox) H2 σ (wb as ψ en1) R3:=by
  refine⟨fun i u hu=>?_,fun i i' a z z'=>?_,fun i a z z2=>?_,fun a z=>Pc.env.dom a (kM a z),by rw[rK];exact P.env.l1,P.env.l2⟩
  ·by_cases q:∃j:Nat,as[j]?=some (.inr i)
   ·obtain⟨j,q⟩:=q;obtain⟨v,b1,b2,b3⟩:=a2 j i q;have hil:i<en1.length:=by rw[P.env.l1];exact(zah.mp b3).1
    rw[vO as ψ en1 i j q (fun j' z=>c3 j' j i (asl j' i z) b2) outl hil]at hu;obtain⟨v',d,g1,g2,g3⟩:=Pc.env.at_ j u hu;rw[zao,b1]at g1;cases g1;obtain⟨qd,q1,q2⟩:=c2 j i b2;rw[g2]at q1;cases q1;refine⟨v,d,b3,q2,?_⟩;rw[r31 i j b2];exact Ow.grow kM u (fun _ z=>z) g3
   ·rw[jC as ψ en1 i fun j z=>q ⟨j,z⟩]at hu;have ns:∀j:Nat,sh[j]?≠some (.inr i):=fun j z=>q ⟨j,asr j i z⟩;obtain⟨v,d,g1,g2,g3⟩:=P.env.at_ i u hu;refine⟨v,d,g1,g2,?_⟩;rw[r32 i ns];refine Ow.mv (G:=R1 i) ⟨fun a o q z=>Pc.keep a o q fun j zj=>?_,fun a z=>?_⟩ u (fun _ z=>z) g3
    ·rcases z with z|z
     ·exact z (rqsub j a zj)
     ·rcases rqc j a zj with⟨i',q',z'⟩|z'
      ·have:=P.env.dj i i' a z z';subst this;exact ns j q'
      ·exact P.env.dx i a z (.inl (a3 j a z'))
    ·rcases z with⟨i',z⟩|z|z
     ·rcases r3c i' a z with⟨j,_,z⟩|⟨n,z⟩
      ·exact back a (.inr ⟨j,z⟩)
      ·exact .inl (.inl ⟨i',z⟩)
     ·exact back a (.inl z)
     ·exact .inl (.inr (.inr z))
  ·rcases r3c i a z with⟨j,q,z⟩|⟨n,z⟩<;>rcases r3c i' a z' with⟨j',q',z'⟩|⟨n',z'⟩
   ·have:=Pc.env.dj j j' a z z';subst this;rw[q]at q';cases q';rfl
   ·exact absurd (.inr (.inr ⟨i',z',n'⟩)) (Pc.env.dx j a z)
   ·exact absurd (.inr (.inr ⟨i,z,n⟩)) (Pc.env.dx j' a z')
   ·exact P.env.dj i i' a z z'
  ·rcases r3c i a z with⟨j,q,z⟩|⟨n,z⟩
   ·exact Pc.env.dx j a z (z2.imp id .inl)
   ·rcases z2 with z2|z2
    ·exact Pc.fx a z2 (.inr ⟨i,z,n⟩)
    ·exact P.env.dx i a z (.inr z2)
 refine k v H2 R3 Fr ⟨env3,fun a z z2=>Pc.fx a z (.inl z2),fun a o q n=>?_,fun a z=>?_,fun a o q=>?_,fun hp=>?_⟩ (fun hp i0 hi0=>⟨fun a o q z=>?_,?_⟩) (Ow.grow kM r (fun _ z=>z) oc)
 ·refine Pc.keep a o (P.keep a o q n) fun j z=>?_;have nn:∀i,¬R1 i a:=fun i z=>by
   rcases P.own a (.inr ⟨i,z⟩)with⟨i',z⟩|z
   ·exact n i' z
   ·rw[q]at z;cases z
  rcases rqc j a z with⟨i,_,z⟩|z
  ·exact nn i z
  ·rcases P.own a (.inl (a3 j a z))with⟨i',z⟩|z
   ·exact n i' z
   ·rw[q]at z;cases z
 ·have:(F0 a\/∃i,R1 i a)\/H1 a=none:=by
   rcases z with z|⟨i,z⟩
   ·exact back2 a (.inl z)
   ·rcases r3c i a z with⟨j,_,z⟩|⟨n,z⟩
    ·exact back2 a (.inr ⟨j,z⟩)
    ·exact .inl (.inr ⟨i,z⟩)
  rcases this with z|z
  ·exact P.own a z
  ·exact .inr (n1 a z)
 ·obtain⟨o',q'⟩:=P.dom a o q;exact Pc.dom a o' q'
 ·obtain⟨hp1,hp2⟩:=(zbn _ _▸hp:p=true/\gA sh=true);obtain⟨b1,b2,b3⟩:=P.pure hp1;have ns:=oh hp2;refine⟨?_,?_,fun a o q=>?_⟩
  ·show wb as ψ en1=en;rw[<-b1];refine List.ext_getElem? fun i=>?_;exact jC as ψ en1 i fun j z=>ns j i (asl j i z)
  ·rw[<-b2]
   funext i
   exact r32 i fun j=>ns j i
  ·refine Pc.keep a o (b3 a o q) fun j z=>?_;rcases rqc j a z with⟨i,z,_⟩|z
   ·exact ns j i z
   ·have zf:=a3 j a z;rcases P.own a (.inl zf)with⟨i,z2⟩|z2
    ·rw[<-b2]at z2;exact P.env.dx i a z2 (.inl zf)
    ·rw[q]at z2;cases z2
 ·obtain⟨b1,b2,b3⟩:=P.pure hp;rw[<-b2]at z;refine Pc.keep a o (b3 a o q) fun j zj=>?_;rcases rqc j a zj with⟨i',q',z'⟩|z'
  ·have:=P.env.dj i0 i' a z z';subst this;exact hi0 j q'
  ·exact P.env.dx i0 a z (.inl (a3 j a z'))
 ·obtain⟨b1,b2,b3⟩:=P.pure hp;rw[jC as ψ en1 i0 fun j z=>hi0 j (asl j i0 z),b1]
def Kb{E:XK}{F:List D->Option (D×En)}(hc:cV ds1 sh dps=true)(h:tF K (p&&gA sh) ds ds1 dr (am F fa) σ H Q):nU (spF K dps dr F) [] E (tFA K p ds ds1 sh fa) σ H Q:=
 let⟨Ox,en,R,t,en',e,hf,k⟩:=h
 Dx hc ⟨Ox,en,R,t,en',e,hf,fun v H' R' F P _ o=>k v H' R' F P o⟩
end
inductive Fl where
 |nx (en:En)|rt (t:D) (en:En)|ct (en:En)
abbrev MS:=En->Option Fl
variable{m1 m2:MS}
structure Jd where
 lk:List Nat
 dsr:List Nat
 dr:Nat
 dsl:List Nat
variable{J:Jd}
structure PostS(K:zb7)(lk:List Nat)(ds':List Nat)(Ox:AS)(σ:St)(H:Hp)(R:Nat->AS)(σ':St)(en':En)(H':Hp)(R':Nat->AS)(F:AS):Prop where
 env:EnvOk K ds' (U F Ox) H' σ' en' R'
 fx:∀a,F a->¬Ox a
 keep:∀a o,H a=some o->(∀i,¬R i a)->H' a=some o
 own:∀a,(F a\/∃i,R' i a)->(∃i,R i a)\/H a=none
 dom:∀a o,H a=some o->∃o',H' a=some o'
 lk:∀j∈lk,σ'[j]?=σ[j]?
def tFS(K:zb7)(J:Jd)(ds ds':List Nat)(f:MS):TS:=fun D σ H=>
 ∃Ox en R fl,EnvOk K ds Ox H σ en R/\f en=some fl/\match fl with
  |.nx en'=>∀σ' H' R',PostS K J.lk ds' Ox σ H R σ' en' H' R' NoA->D.nx σ' H'
  |.ct en'=>∀σ' H' R',PostS K J.lk J.dsl Ox σ H R σ' en' H' R' NoA->D.ct σ' H'
  |.rt t en'=>∀v σ' H' R' F,PostS K J.lk J.dsr Ox σ H R σ' en' H' R' F->Ow K (Own R' (U F Ox)) H' t J.dr v F->D.rt v H'
def aj(f g:MS):MS:=fun en=>(f en).bind fun fl=>match fl with
 |.nx en1=>g en1
 |.rt t en1=>some (.rt t en1)
 |.ct en1=>some (.ct en1)
def ao(i:Nat)(f:ME):MS:=fun en=>(f en).map fun r=>.nx (r.2.set i (some r.1))
def bI(f:ME):MS:=fun en=>(f en).map fun r=>.nx r.2
def ay(f:ME):MS:=fun en=>(f en).map fun r=>.rt r.1 r.2
def aS:MS:=fun en=>some (.nx en)
def sIf(c:MT)(f g:MS):MS:=fun en=>(c en).bind fun r=>if r.1 then f r.2 else g r.2
section
variable{c:MT}{m:MS}{D:Ends}
def PostS.refl(e:EnvOk K ds Ox H σ en R):PostS K lk ds Ox σ H R σ en H R NoA:=
 ⟨by rw[fq];exact e,fun _ z=>z.elim,fun _ _ q _=>q,fun a z=>z.elim (fun z=>z.elim) .inl,fun a o q=>⟨o,q⟩,fun _ _=>rfl⟩
def PostS.env0{F:AS}(P:PostS K lk ds' Ox σ H R σ' en' H' R' F):EnvOk K ds' Ox H' σ' en' R':=P.env.fewer fun a z=>.inr z
def PostS.less{F:AS}(P:PostS K lk ds' Ox σ H R σ' en' H' R' F)(h:∀a,F' a->F a):PostS K lk ds' Ox σ H R σ' en' H' R' F':=
 ⟨P.env.fewer fun a z=>z.imp (h a) id,fun a z=>P.fx a (h a z),P.keep,fun a z=>P.own a (z.imp (h a) id),P.dom,P.lk⟩
def PostS.after{σ1 σ2:St}{R2:Nat->AS}{F:AS}(P1:PostS K lk ds1 Ox σ H R σ1 en1 H1 R1 NoA)(P2:PostS K lk ds2 Ox σ1 H1 R1 σ2 en2 H' R2 F):PostS K lk ds2 Ox σ H R σ2 en2 H' R2 F:=by
 have n1:∀a,H1 a=none->H a=none:=fun a z=>by
  cases q:H a with
  |none=>rfl
  |some o=>
   obtain⟨o',q'⟩:=P1.dom a o q;rw[z]at q';cases q'
 refine⟨P2.env,P2.fx,fun a o q n=>?_,fun a z=>?_,fun a o q=>?_,fun j hj=>(P2.lk j hj).trans (P1.lk j hj)⟩
 ·refine P2.keep a o (P1.keep a o q n) fun i z=>?_;rcases P1.own a (.inr ⟨i,z⟩)with⟨j,z⟩|z
  ·exact n j z
  ·rw[q]at z;cases z
 ·rcases P2.own a z with z|z
  ·exact P1.own a (.inr z)
  ·exact .inr (n1 a z)
 ·obtain⟨o',q'⟩:=P1.dom a o q;exact P2.dom a o' q'
def Post.s{F:AS}(P:Post K p ds' Ox σ H en R en' H' R' F):PostS K lk ds' Ox σ H R σ en' H' R' F:=⟨P.env,P.fx,P.keep,P.own,P.dom,fun _ _=>rfl⟩
def PostS.cut{F:AS}(P:PostS K lk ds1 Ox σ H R σ' en' H' R' F)(hd:leD ds2 ds1=true):∃R2,(∀i a,R2 i a->R' i a)/\PostS K lk ds2 Ox σ H R σ' en' H' R2 F:=by
 obtain⟨R2,s1,e2⟩:=P.env.cut (eh hd).1 (eh hd).2;exact⟨R2,s1,e2,P.fx,P.keep,fun a z=>P.own a (z.imp id fun⟨i,z⟩=>⟨i,s1 i a z⟩),P.dom,P.lk⟩
def JC(h:tFS K J ds ds aS D σ H):C3 D σ H:=by
 obtain⟨Ox,en,R,fl,e,hf,k⟩:=h;cases hf;exact k σ H R (PostS.refl e)
def JA(h:tFS K J ds ds2 (aj m1 m2) D σ H):HD (tFS K J ds ds1 m1) (tFS K J ds1 ds2 m2) D σ H:=by
 obtain⟨Ox,en,R,fl,e,hf,k⟩:=h;unfold aj at hf;obtain⟨fl1,h1,hf⟩:=zaa.mp hf;refine⟨Ox,en,R,fl1,e,h1,?_⟩;cases fl1 with
 |nx en1=>
  intro σ1 H1 R1 P1;refine⟨Ox,en1,R1,fl,P1.env0,hf,?_⟩;cases fl with
  |nx en2=>exact fun σ2 H2 R2 P2=>k σ2 H2 R2 (P1.after P2)
  |ct en2=>exact fun σ2 H2 R2 P2=>k σ2 H2 R2 (P1.after P2)
  |rt t en2=>exact fun v σ2 H2 R2 F P2 o=>k v σ2 H2 R2 F (P1.after P2) o
 |ct en1=>cases hf;exact k
 |rt t en1=>cases hf;exact k
def yk(hd:leD ds1 ds2=true)(h:tFS K J ds ds1 m D σ H):tFS K J ds ds2 m D σ H:=by
 obtain⟨Ox,en,R,fl,e,hf,k⟩:=h;refine⟨Ox,en,R,fl,e,hf,?_⟩;cases fl with
 |nx en2=>
  intro σ2 H2 R2 P2;obtain⟨R3,_,P3⟩:=P2.cut hd;exact k σ2 H2 R3 P3
 |ct en2=>exact k
 |rt t en2=>exact k
def JE(h:tFS K J ds ds1 (bI f) D σ H):C4 (tF K p ds ds1 d f) D σ H:=by
 obtain⟨Ox,en,R,fl,e,hf,k⟩:=h;unfold bI at hf;obtain⟨⟨t,en1⟩,h1,hf⟩:=zab.mp hf;cases hf;exact⟨Ox,en,R,t,en1,e,h1,fun v H1 R1 F P o=>k σ H1 R1 (P.s.less fun _ z=>z.elim)⟩
def JB(hd:leD J.dsr ds1=true)(h:tFS K J ds ds' (ay f) D σ H):HE (tF K p ds ds1 J.dr f) D σ H:=by
 obtain⟨Ox,en,R,fl,e,hf,k⟩:=h;unfold ay at hf;obtain⟨⟨t,en1⟩,h1,hf⟩:=zab.mp hf;cases hf;refine⟨Ox,en,R,t,en1,e,h1,fun v H1 R1 F P o=>?_⟩;obtain⟨R2,s1,P2⟩:=(P.s (lk:=J.lk)).cut hd;exact k v σ H1 R2 F P2 (Ow.grow (fun a z=>z.imp (fun⟨i,z⟩=>⟨i,s1 i a z⟩) id) t (fun _ z=>z) o)
def Ls(h:tFS K J ds ds2 (sIf c m1 m2) D σ H):HJ (tFT K p ds ds1 c) (tFS K J ds1 ds2 m1) (tFS K J ds1 ds2 m2) D σ H:=by
 obtain⟨Ox,en,R,fl,e,hf,k⟩:=h;unfold sIf at hf;obtain⟨⟨b,en1⟩,h1,hf⟩:=zaa.mp hf;refine⟨Ox,en,R,b,en1,e,h1,fun H1 R1 P1=>?_⟩;have fin:∀m,m en1=some fl->tFS K J ds1 ds2 m D σ H1:=fun m hm=>by
  refine⟨Ox,en1,R1,fl,P1.env0,hm,?_⟩;cases fl with
  |nx en2=>exact fun σ2 H2 R2 P2=>k σ2 H2 R2 (P1.s.after P2)
  |ct en2=>exact fun σ2 H2 R2 P2=>k σ2 H2 R2 (P1.s.after P2)
  |rt t en2=>exact fun v σ2 H2 R2 F P2 o=>k v σ2 H2 R2 F (P1.s.after P2) o
 cases b with
 |true=>exact fin m1 hf
 |false=>exact fin m2 hf
def PostS.store{F:AS}(P:Post K p ds1 Ox σ H en R en1 H' R' F)(o:Ow K (Own R' (U F Ox)) H' t d v F)(hi:i<ds1.length)(hl:i∉lk):
  PostS K lk (ds1.set i d) Ox σ H R (σ.set i (some v)) (en1.set i (some t)) H' (fun j=>if j=i then F else R' j) NoA:=by
 have l1:=P.env.l1;have l2:=P.env.l2;have sub:∀a,Own (fun j=>if j=i then F else R' j) Ox a->Own R' (U F Ox) a:=fun a z=>by
  rcases z with⟨j,z⟩|z
  ·by_cases hj:j=i
   ·rw[if_pos hj]at z;exact .inr (.inl z)
   ·rw[if_neg hj]at z;exact .inl ⟨j,z⟩
  ·exact .inr (.inr z)
 refine⟨?_,fun _ z=>z.elim,P.keep,fun a z=>?_,P.dom,fun j hj=>?_⟩
 ·rw[fq];refine⟨fun j u hu=>?_,fun j j' a z z'=>?_,fun j a z z2=>?_,fun a z=>P.env.dom a (sub a z),by rw[zaV,zaV];exact l1,by rw[zaV,zaV];exact l2⟩
  ·by_cases hj:j=i
   ·subst hj;rw[zaP (by omega)]at hu;cases hu;refine⟨v,d,zaP (by omega),zaP hi,?_⟩;rw[if_pos rfl];exact Ow.grow sub t (fun _ z=>z) o
   ·rw[zaO (Ne.symm hj)]at hu;obtain⟨v',d',g1,g2,g3⟩:=P.env.at_ j u hu;refine⟨v',d',by rw[zaO (Ne.symm hj)];exact g1,by rw[zaO (Ne.symm hj)];exact g2,?_⟩;rw[if_neg hj];exact Ow.grow sub u (fun _ z=>z) g3
  ·by_cases hj:j=i<;>by_cases hj':j'=i
   ·rw[hj,hj']
   ·rw[if_pos hj]at z;rw[if_neg hj']at z';exact absurd (.inl z) (P.env.dx j' a z')
   ·rw[if_neg hj]at z;rw[if_pos hj']at z';exact absurd (.inl z') (P.env.dx j a z)
   ·rw[if_neg hj]at z;rw[if_neg hj']at z';exact P.env.dj j j' a z z'
  ·by_cases hj:j=i
   ·rw[if_pos hj]at z;exact P.fx a z z2
   ·rw[if_neg hj]at z;exact P.env.dx j a z (.inr z2)
 ·rcases z with z|⟨j,z⟩
  ·exact z.elim
  ·by_cases hj:j=i
   ·rw[if_pos hj]at z;exact P.own a (.inl z)
   ·rw[if_neg hj]at z;exact P.own a (.inr ⟨j,z⟩)
 ·rw[zaO];intro z;subst z;exact hl hj
def ym(hi:i<ds1.length)(hl:i∉J.lk)(h:tFS K J ds (ds1.set i d) (ao i f) D σ H):pH (tF K p ds ds1 d f) (oH i) D σ H:=by
 obtain⟨Ox,en,R,fl,e,hf,k⟩:=h;unfold ao at hf;obtain⟨⟨t,en1⟩,h1,hf⟩:=zab.mp hf;cases hf;exact⟨Ox,en,R,t,en1,e,h1,fun v H1 R1 F P o=>k _ H1 _ (PostS.store P o hi hl)⟩
abbrev MG:=PyData->En->Option En
def tFG(K:zb7)(lk:List Nat)(ds ds':List Nat)(g:MG):TG:=fun v σ H Q=>
 ∃Ox en R t en',EnvOk K ds Ox H σ en R/\Ow K (Own R Ox) H t 0 v NoA/\g t en=some en'/\∀σ' R',PostS K lk ds' Ox σ H R σ' en' H R' NoA->(∀j∈lk,R' j=R j)->Q σ' H
def gS(K:zb7)(lk:List Nat)(ds ds':List Nat)(g:List PyData->En->Option En):TGs:=fun vs σ H Q=>
 ∃Ox en R ts en',EnvOk K ds Ox H σ en R/\Ows K (Own R Ox) H ts 0 vs NoA/\g ts en=some en'/\∀σ' R',PostS K lk ds' Ox σ H R σ' en' H R' NoA->(∀j∈lk,R' j=R j)->Q σ' H
def gN(i:Nat):MG:=fun t en=>some (en.set i (some t))
def gs0:List PyData->En->Option En:=fun ts en=>match ts with
 |[]=>some en
 |_=>none
def gsC(g:MG)(r:List PyData->En->Option En):List PyData->En->Option En:=fun ts en=>match ts with
 |t::ts=>(g t en).bind fun en1=>r ts en1
 |[]=>none
def gT(g:List PyData->En->Option En):MG:=fun t en=>match t with
 |.tuple ts=>g ts en
 |_=>none
variable{g g1:MG}{gs:List PyData->En->Option En}{QS:St->Hp->Prop}
def Fe(hi:i<ds.length)(hl:i∉lk)(h:tFG K lk ds (ds.set i 0) (gN i) v σ H QS):oH i v σ H QS:=by
 obtain⟨Ox,en,R,t,en',e,o,hf,k⟩:=h;cases hf;exact k _ _ (PostS.store (p:=true) (Post.refl e) (by rw[show(fun _=>False:AS)=NoA from rfl,fq];exact o) hi hl) fun j hj=>if_neg (fun(z:j=i)=>hl (by rw[<-z];exact hj))
def Fc(h:gS K lk ds ds gs0 vs σ H QS):Js vs σ H QS:=by
 obtain⟨Ox,en,R,ts,en',e,o,hf,k⟩:=h;cases ts with
 |nil=>cases hf;exact⟨o,k σ R (PostS.refl e) fun _ _=>rfl⟩
 |cons t ts=>cases hf
def AF(h:gS K lk ds ds2 (gsC g gs) vs σ H QS):Dv (tFG K lk ds ds1 g) (gS K lk ds1 ds2 gs) vs σ H QS:=by
 obtain⟨Ox,en,R,ts,en',e,o,hf,k⟩:=h;cases ts with
 |nil=>cases hf
 |cons t ts=>
  obtain⟨en1,h1,h2⟩:=zaa.mp hf;obtain⟨v,r,F1,F2,e1,s1,s2,s3,o1,o2⟩:=o;refine⟨v,r,e1,Ox,en,R,t,en1,e,Ow.any0 t o1,h1,fun σ1 R1 P1 r1=>?_⟩;refine⟨Ox,en1,R1,ts,en',P1.env0,Ows.any0 ts (Ows.mv (G:=NoA) ⟨fun a o q _=>q,fun a z=>?_⟩ ts (F:=NoA) (fun _ z=>z) (Ows.any0 ts o2)),h2,fun σ2 R2 P2 r2=>k σ2 R2 (P1.after P2) fun j hj=>(r2 j hj).trans (r1 j hj)⟩;rcases z with z|z
  ·exact(P1.own a (.inr z)).imp .inl id
  ·exact .inl (.inr z)
def JN(hn:∀ts en,(∃en',gs ts en=some en')->ts.length=n)(h:tFG K lk ds ds1 (gT gs) v σ H QS):Jr K n (gS K lk ds ds1 gs) v σ H QS:=by
 obtain⟨Ox,en,R,t,en',e,o,hf,k⟩:=h;cases t with
 |tuple ts=>
  have hf':gs ts en=some en':=hf;obtain⟨a,vs,e1,⟨_,h1,h2⟩|⟨z,_⟩⟩:=o
  ·refine⟨a,vs,e1,h1.sq,?_,Ox,en,R,ts,en',e,h2,hf',k⟩;rw[<-hn ts en ⟨en',hf'⟩]
   have:∀{ts:List PyData} {vs:List V} {F:AS},Ows K (Own R Ox) H ts 0 vs F->vs.length=ts.length:=fun {ts}=>by
    induction ts with
    |nil=>intro vs F h;rw[show vs=[]from h];rfl
    |cons t ts ih=>
     intro vs F h;obtain⟨v,r,F1,F2,e,h1,h2,h3,h4,h5⟩:=h;rw[e,zac,zac,ih h5]
   exact this h2
  ·exact absurd rfl z
 |_=>cases hf
abbrev MI:=En->Option (List PyData×En)
def ju(K:zb7)(O:AS)(H0:Hp)(J:It)(ts:List PyData):Prop:=
 ∀(i:Nat) (H:Hp) (O1:AS),(∀a o,H0 a=some o->¬O a->H a=some o)->(∀a,O1 a->O a\/H0 a=none)->(∀a,O1 a->∃o,H a=some o) ->
  (∀t,ts[i]?=some t->J.go i H/\∀x H1,J.yld i H x H1->(∀a o,H a=some o->H1 a=some o)/\Ow K O1 H1 t 0 x NoA)/\(ts.length=i->J.stop i H)
def tFI(K:zb7)(p:Bool)(ds ds':List Nat)(f:MI):TI:=fun σ H RJ=>
 ∃Ox en R ts en',EnvOk K ds Ox H σ en R/\f en=some (ts,en')/\∀J H' R',Post K p ds' Ox σ H en R en' H' R' NoA->ju K (Own R' Ox) H' J ts->RJ J H'
def cy(g:MG)(b:MS):List PyData->En->Option Fl
 |[],en=>some (.nx en)
 |t::ts,en=>(g t en).bind fun en1=>(b en1).bind fun fl=>match fl with
  |.nx en2=>cy g b ts en2
  |.ct en2=>cy g b ts en2
  |.rt r en2=>some (.rt r en2)
def bT(fi:MI)(g:MG)(b:MS):MS:=fun en=>(fi en).bind fun r=>cy g b r.1 r.2
def JD{fi:MI}(h:tFS K J ds ds1 (bT fi g m) D σ H):HK (tFI K p ds ds1 fi) (tFG K J.lk ds1 ds2 g) (tFS K { J with dsl:=ds1 } ds2 ds1 m) D σ H:=by
 obtain⟨Ox,en,R,fl,e,hf,k⟩:=h;unfold bT at hf;obtain⟨⟨ts,en1⟩,h1,hf⟩:=zaa.mp hf;refine⟨Ox,en,R,ts,en1,e,h1,fun Jt H1 R1 P1 wk=>?_⟩;refine⟨fun i n σ' H'=>∃en' R',n=ts.length-i/\i<=ts.length/\PostS K J.lk ds1 Ox σ H1 R1 σ' en' H' R' NoA/\cy g m (ts.drop i) en'=some fl,⟨_,en1,R1,rfl,zbk _,PostS.refl P1.env0,hf⟩,?_⟩;rintro i n σ2 H2 ⟨en2,R2,rfl,hi,P2,hr⟩;obtain⟨w1,w2⟩:=wk i H2 (Own R2 Ox) (fun a o q z=>P2.keep a o q fun j zj=>z (.inl ⟨j,zj⟩)) (fun a z=>by
  rcases z with z|z
  ·exact(P2.own a (.inr z)).imp .inl id
  ·exact .inl (.inr z)) fun a z=>P2.env0.dom a z
 by_cases hlt:i<ts.length
 ·obtain⟨go,yl⟩:=w1 ts[i] (zak hlt);have hd:ts.drop i=ts[i]::ts.drop (i+1):=zbX hlt;rw[hd]at hr;obtain⟨en3,h3,hr⟩:=zaa.mp hr;obtain⟨fl2,h4,hr⟩:=zaa.mp hr;refine .inr ⟨go,fun σ' H'=>∃en' R',PostS K J.lk ds1 Ox σ H1 R1 σ' en' H' R' NoA/\cy g m (ts.drop (i+1)) en'=some fl,fun σ' H' ⟨en',R',P',h'⟩=>⟨ts.length-(i+1),by omega,en',R',rfl,hlt,P',h'⟩,fun x H3 y=>?_⟩;obtain⟨gr,ox⟩:=yl x H3 y;have P3:Post K true ds1 Ox σ2 H2 en2 R2 en2 H3 R2 NoA:=Post.new P2.env0 gr fun _ z=>z.elim;refine⟨Ox,en2,R2,ts[i],en3,P3.env0,ox,h3,fun σ4 R4 P4 _=>?_⟩;have P4':=(P2.after P3.s).after P4;refine⟨Ox,en3,R4,fl2,P4.env0,h4,?_⟩;cases fl2 with
  |nx en5=>exact fun σ5 H5 R5 P5=>⟨en5,R5,P4'.after P5,hr⟩
  |ct en5=>exact fun σ5 H5 R5 P5=>⟨en5,R5,P4'.after P5,hr⟩
  |rt t en5=>
   cases hr;exact fun v σ5 H5 R5 F P5 o=>k v σ5 H5 R5 F (P1.s.after (P4'.after P5)) o
 ·have e2:i=ts.length:=by omega
  subst e2;rw[List.drop_length]at hr;cases hr;exact .inl ⟨w2 rfl,k σ2 H2 R2 (P1.s.after P2)⟩
def whN(c:MT)(b:MS):Nat->En->Option Fl
 |0,_=>none
 |n+1,en=>(c en).bind fun r=>if r.1 then(b r.2).bind fun fl=>match fl with
   |.nx en2=>whN c b n en2
   |.ct en2=>whN c b n en2
   |.rt t en2=>some (.rt t en2)
  else some (.nx r.2)
open Classical in
noncomputable def bR(c:MT)(b:MS):MS:=fun en=>if h:∃n fl,whN c b n en=some fl then some h.choose_spec.choose else none
def jo{b:MS}{fl:Fl}(h:bR c b en=some fl):∃n,whN c b n en=some fl:=by
 unfold bR at h;split at h
 ·next q=>
  cases h;exact⟨q.choose,q.choose_spec.choose_spec⟩
 ·cases h
def Av(h:tFS K J ds ds1 (bR c m) D σ H):xr (tFT K p ds ds1 c) (tFS K { J with dsl:=ds } ds1 ds m) D σ H:=by
 obtain⟨Ox,en,R,fl,e,hf,k⟩:=h;obtain⟨n0,hn⟩:=jo hf;refine⟨fun n σ' H'=>∃en' R',PostS K J.lk ds Ox σ H R σ' en' H' R' NoA/\whN c m n en'=some fl,⟨n0,en,R,PostS.refl e,hn⟩,?_⟩;rintro n σ2 H2 ⟨en2,R2,P2,hr⟩;cases n with
 |zero=>cases hr
 |succ n=>
  unfold whN at hr;obtain⟨⟨b,en3⟩,h3,hr⟩:=zaa.mp hr;refine⟨Ox,en2,R2,b,en3,P2.env0,h3,fun H3 R3 P3=>?_⟩;cases b with
  |false=>
   cases hr;rw[if_neg zbo];exact k σ2 H3 R3 (P2.after P3.s)
  |true=>
   rw[if_pos rfl]at hr ⊢;obtain⟨fl2,h4,hr⟩:=zaa.mp hr;refine⟨fun σ' H'=>∃en' R',PostS K J.lk ds Ox σ H R σ' en' H' R' NoA/\whN c m n en'=some fl,fun σ' H' q=>⟨n,zaJ _,q⟩,Ox,en3,R3,fl2,P3.env0,h4,?_⟩;have P3':=P2.after (P3.s (lk:=J.lk));cases fl2 with
   |nx en5=>exact fun σ5 H5 R5 P5=>⟨en5,R5,P3'.after P5,hr⟩
   |ct en5=>exact fun σ5 H5 R5 P5=>⟨en5,R5,P3'.after P5,hr⟩
   |rt t en5=>
    cases hr;exact fun v σ5 H5 R5 F P5 o=>k v σ5 H5 R5 F (P3'.after P5) o
end
variable{g1:MG}{fi:MI}
def lcF(g:MG)(c:MT)(f:ME):List D->List D->En->Option (List D×En)
 |[],acc,en=>some (acc,en)
 |t::ts,acc,en=>(g t en).bind fun en1=>(c en1).bind fun r=>if r.1 then(f r.2).bind fun q=>if acc.length<sizeLine then lcF g c f ts (acc++[q.1]) q.2 else none else lcF g c f ts acc r.2
def cI(js:List (Option Nat))(en:En):En:=js.map fun j=>match j with
 |some j=>(en[j]?).join
 |none=>none
def wbB:List (Option Nat)->En->En->En
 |some j::js,o::r,en=>wbB js r (en.set j o)
 |none::js,_::r,en=>wbB js r en
 |_,_,en=>en
def eLC(q:Bool)(fi:MI)(g:MG)(c:MT)(f:ME)(js:List (Option Nat)):ME:=fun en=>(fi en).bind fun r=>(lcF g c f r.1 [] (cI js r.2)).map fun z=>(.list z.1,if q then r.2 else wbB js z.2 r.2)
def jr(ds:List Nat):List (Option Nat)->List Nat->Bool
 |[],[]=>true
 |some j::js,d::r=>decide (ds[j]?=some d)&&(decide (some j∉js)&&jr ds js r)
 |none::js,_::r=>jr ds js r
 |_,_=>false
section
variable{c:MT}{g:MG}  
theorem nG:∀{js:List (Option Nat)} {dsi:List Nat},jr ds js dsi=true->dsi.length=js.length/\(∀(k j:Nat),js[k]?=some (some j)->∃d,dsi[k]?=some d/\ds[j]?=some d)/\(∀(k k' j:Nat),js[k]?=some (some j)->js[k']?=some (some j)->k=k')
 |[],[],_=>⟨rfl,fun k j z=>by simp at z,fun k k' j z=>by simp at z⟩
 |some j0::js,d::r,h=>by
  unfold jr at h;rw[zbn,zbn]at h;obtain⟨h1,h2,h3⟩:=h;obtain⟨a,b,c⟩:=nG h3;have n:=of_decide_eq_true h2;refine⟨by rw[zac,zac,a],fun k j z=>?_,fun k k' j z z'=>?_⟩
  ·cases k with
   |zero=>simp at z;subst z;exact⟨d,rfl,of_decide_eq_true h1⟩
   |succ k=>exact b k j (by simpa using z)
  ·cases k with
   |zero=>
    simp at z;subst z;cases k' with
    |zero=>rfl
    |succ k'=>exact absurd (zaX (by simpa using z':js[k']?=some (some j0))) n
   |succ k=>
    cases k' with
    |zero=>
     simp at z';subst z';exact absurd (zaX (by simpa using z:js[k]?=some (some j0))) n
    |succ k'=>rw[c k k' j (by simpa using z) (by simpa using z')]
 |none::js,d::r,h=>by
  unfold jr at h;obtain⟨a,b,c⟩:=nG h;refine⟨by rw[zac,zac,a],fun k j z=>?_,fun k k' j z z'=>?_⟩
  ·cases k with
   |zero=>simp at z
   |succ k=>exact b k j (by simpa using z)
  ·cases k with
   |zero=>simp at z
   |succ k=>
    cases k' with
    |zero=>simp at z'
    |succ k'=>rw[c k k' j (by simpa using z) (by simpa using z')]
 |[],_::_,h=>nomatch h
 |some _::_,[],h=>nomatch h
 |none::_,[],h=>nomatch h
theorem pG:∀(js:List (Option Nat)) (r en:En),(wbB js r en).length=en.length
 |[],_,_=>by unfold wbB;rfl
 |some _::_,[],_=>by unfold wbB;rfl
 |none::_,[],_=>by unfold wbB;rfl
 |some j::js,o::r,en=>by unfold wbB;rw[pG js r _,zaV]
 |none::js,o::r,en=>by unfold wbB;exact pG js r _
theorem my:∀(js:List (Option Nat)) (r en:En) (i:Nat),(∀k:Nat,js[k]?≠some (some i))->(wbB js r en)[i]?=en[i]?
 |[],_,_,_,_=>by unfold wbB;rfl
 |some _::_,[],_,_,_=>by unfold wbB;rfl
 |none::_,[],_,_,_=>by unfold wbB;rfl
 |none::js,o::r,en,i,h=>by unfold wbB;exact my js r en i fun j=>h (j+1)
 |some k::js,o::r,en,i,h=>by
  unfold wbB;rw[my js r _ i fun j=>h (j+1),zaO];intro e;subst e;exact h 0 rfl
theorem rL:∀(js:List (Option Nat)) (r en:En) (i k:Nat),js[k]?=some (some i)->(∀k':Nat,js[k']?=some (some i)->k'=k)->r.length=js.length->i<en.length->(wbB js r en)[i]?=r[k]?
 |[],_,_,_,_,h,_,_,_=>by simp at h
 |some _::js,[],_,_,_,_,_,h,_=>by simp at h
 |none::js,[],_,_,_,_,_,h,_=>by simp at h
 |none::js,o::r,en,i,k,h,u,l,b=>by
  unfold wbB;cases k with
  |zero=>simp at h
  |succ k=>exact rL js r en i k (by simpa using h) (fun j' z=>by have:=u (j'+1) (by simpa using z);omega) (by simpa using l) b
 |some j::js,o::r,en,i,k,h,u,l,b=>by
  unfold wbB;cases k with
  |zero=>
   have e:j=i:=by simpa using h
   subst e;rw[my js r _ j fun j' z=>by have:=u (j'+1) (by simpa using z);omega];rw[zaP b];rfl
  |succ k=>exact rL js r _ i k (by simpa using h) (fun j' z=>by have:=u (j'+1) (by simpa using z);omega) (by simpa using l) (by rw[zaV];exact b)
theorem Ows.snoc:∀{ts:List D} {vs:List V} {F1 F2:AS} {v:V},Ows K O H ts d vs F1->Ow K O H t d v F2->(∀b,F1 b->¬F2 b)->Ows K O H (ts++[t]) d (vs++[v]) (U F1 F2)
 |[],vs,F1,F2,v,h,h2,_=>by
  have e:vs=[]:=h;subst e;exact⟨v,[],F2,NoA,rfl,fun _ z=>.inr z,fun _ z=>z.elim,fun _ _ z=>z.elim,h2,rfl⟩
 |u::ts,vs,F1,F2,v,h,h2,hd=>by
  obtain⟨w,r,G1,G2,e,s1,s2,s3,h4,h5⟩:=h;subst e;refine⟨w,r++[v],G1,U G2 F2,rfl,fun b z=>.inl (s1 b z),fun b z=>z.imp (s2 b) id,fun b z z2=>?_,h4,Ows.snoc h5 h2 fun b z=>hd b (s2 b z)⟩;rcases z2 with z2|z2
  ·exact s3 b z z2
  ·exact hd b (s1 b z) z2
theorem Ows.len:∀{ts:List D} {vs:List V} {F:AS},Ows K O H ts d vs F->vs.length=ts.length
 |[],_,_,h=>by rw[show _=[]from h];rfl
 |t::ts,_,_,h=>by
  obtain⟨v,r,F1,F2,e,h1,h2,h3,h4,h5⟩:=h;rw[e,zac,zac,h5.len]
def jq:List (Option Nat)->Nat->List Nat
 |[],_=>[]
 |some _::r,n=>n::jq r (n+1)
 |none::r,n=>jq r (n+1)
theorem ka:∀{js:List (Option Nat)} {n k j:Nat},js[k]?=some (some j)->n+k∈jq js n
 |[],n,k,j,h=>by simp at h
 |some x::r,n,k,j,h=>by
  unfold jq;cases k with
  |zero=>exact zaq
  |succ k=>
   refine zaj _ ?_
   have:=ka (n:=n+1) (k:=k) (j:=j) (by simpa using h);rw[show n+(k+1)=n+1+k by omega];exact this
 |none::r,n,k,j,h=>by
  unfold jq;cases k with
  |zero=>simp at h
  |succ k=>
   have:=ka (n:=n+1) (k:=k) (j:=j) (by simpa using h);rw[show n+(k+1)=n+1+k by omega];exact this
def tO(js:List (Option Nat))(R1:Nat->AS):Nat->AS:=fun k=>match js[k]? with
 |some (some j)=>R1 j
 |_=>NoA
def FD(h:js[k]?=some (some j)):tO js R1 k=R1 j:=by unfold tO;rw[h]
def FC(h:tO js R1 k a):∃j,js[k]?=some (some j)/\R1 j a:=by
 unfold tO at h;cases q:js[k]? with
 |none=>rw[q]at h;exact h.elim
 |some o=>
  rw[q]at h;cases o with
  |none=>exact h.elim
  |some j=>exact⟨j,rfl,h⟩
def Ka(hc:jr ds1 js dsi=true)(hd:dn d=cd)(hz:d≠0)(hl:lk=jq js 0)(h:tF K (p&&q) ds ds1 d (eLC q fi g c f js) σ H Q):
  tLC (tFI K p ds ds1 fi) (tFG K lk dsi dsi g) (tFT K q dsi dsi c) (tF K q dsi dsi cd f) js σ H Q:=by
 obtain⟨Ox,en,R,t,en',e,hf,k⟩:=h;unfold eLC at hf;obtain⟨⟨ts,en1⟩,h1,hf⟩:=zaa.mp hf;obtain⟨⟨fin,enf⟩,h2,hf⟩:=zab.mp hf;cases hf;obtain⟨cl,c1,c2⟩:=nG hc;refine⟨Ox,en,R,ts,en1,e,h1,fun J H1 R1 P1 wk D hD=>?_⟩;have E1:=P1.env0;generalize hRI:tO js R1=RI;have ri1:∀k j:Nat,js[k]?=some (some j)->RI k=R1 j:=fun k j z=>by rw[<-hRI];exact FD z
 have ric:∀(k:Nat) a,RI k a->∃j,js[k]?=some (some j)/\R1 j a:=fun k a z=>by rw[<-hRI]at z;exact FC z
 let OxI:AS:=fun a=>Ox a\/a=D\/∃i,R1 i a/\∀k:Nat,js[k]?≠some (some i);have nD:∀a,Own R1 Ox a->a≠D:=fun a z z2=>by
  subst z2;obtain⟨o,q⟩:=E1.dom a z;rw[hD]at q;cases q
 have lI:(cI js en1).length=js.length:=by unfold cI;rw[zad]
 have lS:(eZ js σ).length=js.length:=by unfold eZ;rw[zad]
 have getE:∀(k:Nat) t,(cI js en1)[k]?=some (some t)->∃j,js[k]?=some (some j)/\en1[j]?=some (some t):=fun k t z=>by
  unfold cI at z;rw[zao]at z;obtain⟨oj,h1,h2⟩:=zab.mp z;cases oj with
  |none=>cases h2
  |some j=>
   refine⟨j,h1,?_⟩;have h2':(en1[j]?).join=some t:=h2;cases q:en1[j]? with
   |none=>rw[q]at h2';cases h2'
   |some o=>rw[q]at h2';exact congrArg some h2'
 have getS:∀(k j:Nat) v,js[k]?=some (some j)->σ[j]?=some (some v)->(eZ js σ)[k]?=some (some v):=fun k j v z1 z2=>by
  unfold eZ;rw[zao,z1];show some ((σ[j]?).join)=_;rw[z2];rfl
 have u2:∀a o,H1 a=some o->upd H1 D (.lst []) a=some o:=fun a o q=>(bB (o:=.lst []) hD).1 a o q;have EI:EnvOk K dsi OxI (upd H1 D (.lst [])) (eZ js σ) (cI js en1) RI:=by
  refine⟨fun k t hk=>?_,fun k k' a z z'=>?_,fun k a z z2=>?_,fun a z=>?_,by rw[lI,lS],by rw[cl,lS]⟩
  ·obtain⟨j,hj,ht⟩:=getE k t hk;obtain⟨v,d,g1,g2,g3⟩:=E1.at_ j t ht;obtain⟨d',q1,q2⟩:=c1 k j hj;rw[g2]at q2;cases q2;refine⟨v,d,getS k j v hj g1,q1,?_⟩;rw[ri1 k j hj];refine Ow.mv (G:=R1 j) ⟨fun a o q _=>u2 a o q,fun a z=>?_⟩ t (fun _ z=>z) g3;rcases z with⟨k',z⟩|z|z|⟨i,z,_⟩
   ·obtain⟨j',_,z⟩:=ric k' a z;exact .inl (.inl ⟨j',z⟩)
   ·exact .inl (.inr z)
   ·exact .inr (z▸hD)
   ·exact .inl (.inl ⟨i,z⟩)
  ·obtain⟨j,hj,z⟩:=ric k a z;obtain⟨j',hj',z'⟩:=ric k' a z'
   have:=E1.dj j j' a z z';subst this;exact c2 k k' j hj hj'
  ·obtain⟨j,hj,z⟩:=ric k a z;rcases z2 with z2|z2|⟨i,z2,n⟩
   ·exact E1.dx j a z z2
   ·exact nD a (.inl ⟨j,z⟩) z2
   ·have:=E1.dj j i a z z2;subst this;exact n k hj
  ·rcases z with⟨k,z⟩|z|z|⟨i,z,_⟩
   ·obtain⟨j,hj,z⟩:=ric k a z;obtain⟨o,q⟩:=E1.dom a (.inl ⟨j,z⟩);exact⟨o,u2 a o q⟩
   ·obtain⟨o,q⟩:=E1.dom a (.inr z);exact⟨o,u2 a o q⟩
   ·subst z;exact⟨_,aA⟩
   ·obtain⟨o,q⟩:=E1.dom a (.inl ⟨i,z⟩);exact⟨o,u2 a o q⟩
 refine⟨fun i n τ H'=>∃eni RI' acc vs Fa,n=ts.length-i/\i<=ts.length/\PostS K lk dsi OxI (eZ js σ) H1 RI τ eni H' RI' Fa/\H' D=some (.lst vs)/\Ows K (Own RI' (U Fa OxI)) H' acc cd vs Fa/\lcF g c f (ts.drop i) acc eni=some (fin,enf) /\
   (q=true->(∀k j:Nat,js[k]?=some (some j)->RI' k=RI k)/\(∀a o,H1 a=some o->H' a=some o)),
  ⟨_,cI js en1,RI,[],[],NoA,rfl,zbk _,⟨by rw[fq];exact EI,fun _ z=>z.elim,fun a o q _=>u2 a o q,fun a z=>z.elim (fun z=>z.elim) .inl,fun a o q=>⟨o,u2 a o q⟩,fun _ _=>rfl⟩,aA,rfl,h2,fun _=>⟨fun _ _ _=>rfl,u2⟩⟩,?_⟩
 rintro i n τ H2 ⟨eni,RI2,acc,vs,Fa,rfl,hi,P2,hDl,oacc,hr,pu⟩;have fP:∀a,Own RI2 (U Fa OxI) a->Own R1 Ox a\/H1 a=none:=fun a z=>by
  rcases z with z|z|z|z|⟨i,z,_⟩
  ·rcases P2.own a (.inr z)with⟨k,z⟩|z
   ·obtain⟨j,_,z⟩:=ric k a z;exact .inl (.inl ⟨j,z⟩)
   ·exact .inr z
  ·rcases P2.own a (.inl z)with⟨k,z⟩|z
   ·obtain⟨j,_,z⟩:=ric k a z;exact .inl (.inl ⟨j,z⟩)
   ·exact .inr z
  ·exact .inl (.inr z)
  ·exact .inr (z▸hD)
  ·exact .inl (.inl ⟨i,z⟩)
 obtain⟨w1,w2⟩:=wk i H2 (Own RI2 (U Fa OxI)) (fun a o q z=>P2.keep a o q fun k zk=>by
  obtain⟨j,_,zj⟩:=ric k a zk;exact z (.inl ⟨j,zj⟩)) fP fun a z=>P2.env.dom a z
 have DO:OxI D:=.inr (.inl rfl);by_cases hlt:i<ts.length
 ·obtain⟨go,yl⟩:=w1 ts[i] (zak hlt);rw[zbX hlt]at hr;obtain⟨en3,h3,hr⟩:=zaa.mp hr;obtain⟨⟨b,en4⟩,h4,hr⟩:=zaa.mp hr;refine .inr ⟨go,fun τ' H'=>∃eni RI' acc vs Fa,PostS K lk dsi OxI (eZ js σ) H1 RI τ' eni H' RI' Fa/\H' D=some (.lst vs)/\Ows K (Own RI' (U Fa OxI)) H' acc cd vs Fa/\lcF g c f (ts.drop (i+1)) acc eni=some (fin,enf)/\(q=true->(∀k j:Nat,js[k]?=some (some j)->RI' k=RI k)/\(∀a o,H1 a=some o->H' a=some o)),
   fun τ' H' ⟨eni,RI',acc,vs,Fa,P',x1,x2,x3,x4⟩=>⟨_,by omega,eni,RI',acc,vs,Fa,rfl,hlt,P',x1,x2,x3,x4⟩,fun x H3 y=>?_⟩
  obtain⟨gr,ox⟩:=yl x H3 y;have P3:Post K true dsi (U Fa OxI) τ H2 eni RI2 eni H3 RI2 NoA:=Post.new P2.env gr fun _ z=>z.elim;have chain:∀{τ5 en5 H5 RI5 F5},PostS K lk dsi (U Fa OxI) τ H2 RI2 τ5 en5 H5 RI5 F5->PostS K lk dsi OxI (eZ js σ) H1 RI τ5 en5 H5 RI5 (U Fa F5):=fun {τ5 en5 H5 RI5 F5} P5=>by
   have n1:∀a,H2 a=none->H1 a=none:=fun a z=>by
    cases q:H1 a with
    |none=>rfl
    |some o=>
     obtain⟨o',q'⟩:=P2.dom a o q;rw[z]at q';cases q'
   refine⟨lQ▸P5.env,fun a z z2=>?_,fun a o q n=>?_,fun a z=>?_,fun a o q=>?_,fun j hj=>(P5.lk j hj).trans (P2.lk j hj)⟩
   ·rcases z with z|z
    ·exact P2.fx a z z2
    ·exact P5.fx a z (.inr z2)
   ·refine P5.keep a o (P2.keep a o q n) fun i z=>?_;rcases P2.own a (.inr ⟨i,z⟩)with⟨j,z⟩|z
    ·exact n j z
    ·rw[q]at z;cases z
   ·rcases z with (z|z)|z
    ·exact P2.own a (.inl z)
    ·rcases P5.own a (.inl z)with z|z
     ·exact P2.own a (.inr z)
     ·exact .inr (n1 a z)
    ·rcases P5.own a (.inr z)with z|z
     ·exact P2.own a (.inr z)
     ·exact .inr (n1 a z)
   ·obtain⟨o',q'⟩:=P2.dom a o q;exact P5.dom a o' q'
  have carry:∀{τ5 en5 H5 RI5 F5},PostS K lk dsi (U Fa OxI) τ H2 RI2 τ5 en5 H5 RI5 F5->Ows K (Own RI5 (U (U Fa F5) OxI)) H5 acc cd vs Fa:=fun {τ5 en5 H5 RI5 F5} P5=>by
   refine Ows.mv (G:=Fa) ⟨fun a o q z=>P5.keep a o q fun i zi=>?_,fun a z=>?_⟩ acc (fun _ z=>z) oacc
   ·rcases z with z|z
    ·exact z (.inl ⟨i,zi⟩)
    ·exact P2.env.dx i a zi (.inl z)
   ·rcases z with z | (z|z)|z
    ·exact(P5.own a (.inr z)).imp .inl id
    ·exact .inl (.inr (.inl z))
    ·exact(P5.own a (.inl z)).imp .inl id
    ·exact .inl (.inr (.inr z))
  have UFN:U Fa NoA=Fa:=e7 fun a=>⟨fun z=>z.elim id fun z=>z.elim,.inl⟩;refine⟨U Fa OxI,eni,RI2,ts[i],en3,P3.env0,ox,h3,fun τ4 R4 P4 r4=>?_⟩;have P4':=(P3.s (lk:=lk)).after P4;refine⟨U Fa OxI,en3,R4,b,en4,P4.env0,h4,fun H5 R5 P5=>?_⟩;have P5':=P4'.after (P5.s (lk:=lk));have pu5:q=true->(∀k j:Nat,js[k]?=some (some j)->R5 k=RI k)/\(∀a o,H1 a=some o->H5 a=some o):=fun hq=>by
   obtain⟨_,b2,b3⟩:=P5.pure hq;obtain⟨e1,e2⟩:=pu hq;refine⟨fun k j z=>?_,fun a o qq=>b3 a o (gr a o (e2 a o qq))⟩;rw[b2,r4 k (by rw[hl];have:=ka (n:=0) z;rw[za4]at this;exact this)];exact e1 k j z
  cases b with
  |false=>
   dsimp only
   rw[if_neg zbo];have c5:=chain P5';have o5:=carry P5';rw[UFN]at c5 o5;exact⟨en4,R5,acc,vs,Fa,c5,P5'.keep D _ hDl fun k z=>P2.env.dx k D z (.inr DO),o5,hr,pu5⟩
  |true=>
   dsimp only
   rw[if_pos rfl];obtain⟨⟨t6,en6⟩,h6,hr⟩:=zaa.mp (show((f en4).bind fun q=>if acc.length<sizeLine then lcF g c f (ts.drop (i+1)) (acc++[q.1]) q.2 else none)=some (fin,enf)from hr);refine⟨U Fa OxI,en4,R5,t6,en6,P5.env0,h6,fun v H6 R6 F6 P6 o6=>?_⟩;have P6':=P5'.after (P6.s (lk:=lk));by_cases ξ:acc.length<sizeLine
   case neg=>rw[if_neg ξ]at hr;cases hr
   rw[if_pos ξ]at hr;have hD6:=P6'.keep D _ hDl fun k z=>P2.env.dx k D z (.inr DO);refine⟨vs,hD6,by rw[oacc.len];exact ξ,en6,R6,acc++[t6],vs++[v],U Fa F6,?_,aA,?_,hr,?_⟩
   ·have c6:=chain P6';have keepD:∀a o,H6 a=some o->a≠D->upd H6 D (.lst (vs++[v])) a=some o:=fun a o q n=>by rw[aE n];exact q
    refine⟨⟨fun k t hk=>?_,c6.env.dj,c6.env.dx,fun a z=>?_,c6.env.l1,c6.env.l2⟩,c6.fx,fun a o q n=>?_,c6.own,fun a o q=>?_,c6.lk⟩
    ·obtain⟨v',d',g1,g2,g3⟩:=c6.env.at_ k t hk;refine⟨v',d',g1,g2,Ow.mv (G:=R6 k) ⟨fun a o q z=>keepD a o q fun zD=>?_,fun a z=>.inl z⟩ t (fun _ z=>z) g3⟩;subst zD;rcases z with z|z
     ·exact z (.inr (.inr DO))
     ·exact c6.env.dx k a z (.inr DO)
    ·by_cases ha:a=D
     ·subst ha;exact⟨_,aA⟩
     ·obtain⟨o,q⟩:=c6.env.dom a z;exact⟨o,keepD a o q ha⟩
    ·refine keepD a o (c6.keep a o q n) fun zD=>?_;subst zD;rw[hD]at q;cases q
    ·obtain⟨o',q'⟩:=c6.dom a o q;by_cases ha:a=D
     ·subst ha;exact⟨_,aA⟩
     ·exact⟨o',keepD a o' q' ha⟩
   ·have o1:=carry P6';have o2:Ow K (Own R6 (U (U Fa F6) OxI)) H6 t6 cd v F6:=lQ▸o6
    have:=Ows.snoc o1 o2 fun b z1 z2=>P6.fx b z2 (.inl z1);refine Ows.mv (G:=U Fa F6) ⟨fun a o q z=>?_,fun a z=>.inl z⟩ _ (fun _ z=>z) this;rw[aE]
    ·exact q
    ·intro zD;subst zD;rcases z with z|z|z
     ·exact z (.inr (.inr DO))
     ·exact P2.fx a z DO
     ·exact P6.fx a z (.inr DO)
   ·intro hq;obtain⟨_,b2,b3⟩:=P6.pure hq;obtain⟨e1,e2⟩:=pu5 hq;refine⟨fun k j z=>by rw[b2];exact e1 k j z,fun a o qq=>?_⟩;rw[aE]
    ·exact b3 a o (e2 a o qq)
    ·intro zD;subst zD;rw[hD]at qq;cases qq
 ·have e2:i=ts.length:=by omega
  subst e2;rw[List.drop_length]at hr;obtain⟨e3,e4⟩:acc=fin/\eni=enf:=by cases hr;exact⟨rfl,rfl⟩
  subst e3 e4;refine .inl ⟨w2 rfl,?_⟩;have fD:∀a,Fa a->a≠D:=fun a z z2=>by
   subst z2;exact P2.fx a z DO
  cases hq:q with
  |true=>
   obtain⟨e1,e2⟩:=pu hq;subst hq;have fn:∀a,Fa a->H1 a=none:=fun a z=>by
    rcases P2.own a (.inl z)with⟨k,z2⟩|z2
    ·obtain⟨j,hj,z3⟩:=ric k a z2;rw[<-e1 k j hj]at z2;exact absurd (.inl z) (P2.env.dx k a z2)
    ·exact z2
   have nt:NewTo H1 H2 (fun a=>a=D\/Fa a):=⟨e2,fun a z=>by
    rcases z with z|z
    ·subst z;exact⟨hD,_,hDl⟩
    ·exact⟨fn a z,P2.env.dom a (.inr (.inl z))⟩⟩
   have PF:=P1.fin nt;rw[zb5]at k;refine k (.ref D) H2 R1 _ PF ⟨D,vs,rfl,.inr ⟨hz,hDl,.inl rfl,Fa,fun b z=>⟨.inr z,fD b z⟩,?_⟩⟩;rw[hd];refine Ows.grow (fun a z=>?_) _ (fun _ z=>z) oacc;rcases z with⟨i,z⟩ | (z|z)|z
   ·by_cases hc2:∃kk:Nat,js[kk]?=some (some i)
    ·obtain⟨kk,hk⟩:=hc2;refine .inl ⟨kk,?_⟩;rw[e1 kk i hk,ri1 kk i hk];exact z
    ·exact .inr (.inr (.inr (.inr ⟨i,z,fun kk hk=>hc2 ⟨kk,hk⟩⟩)))
   ·exact .inr (.inr (z▸DO))
   ·exact .inr (.inl z)
   ·exact .inr (.inr (.inl z))
  |false=>
   subst hq;rw[Bool.and_false]at k
   classical
   let R3:Nat->AS:=fun i=>if hh:∃kk:Nat,js[kk]?=some (some i)then RI2 hh.choose else R1 i
   have r31:∀(i kk:Nat),js[kk]?=some (some i)->R3 i=RI2 kk:=fun i kk z=>by
    have hh:∃kk:Nat,js[kk]?=some (some i):=⟨kk,z⟩
    have:hh.choose=kk:=c2 _ _ i hh.choose_spec z;show(if hh:∃kk:Nat,js[kk]?=some (some i)then RI2 hh.choose else R1 i)=RI2 kk;rw[dif_pos hh,this]
   have r32:∀i:Nat,(∀kk:Nat,js[kk]?≠some (some i))->R3 i=R1 i:=fun i z=>by
    show(if hh:∃kk:Nat,js[kk]?=some (some i)then RI2 hh.choose else R1 i)=R1 i;rw[dif_neg fun⟨j,q⟩=>z j q]
   have r3c:∀(i:Nat) a,R3 i a->(∃kk:Nat,js[kk]?=some (some i)/\RI2 kk a)\/((∀kk:Nat,js[kk]?≠some (some i))/\R1 i a):=fun i a z=>by
    by_cases hh:∃kk:Nat,js[kk]?=some (some i)
    ·obtain⟨kk,hk⟩:=hh;rw[r31 i kk hk]at z;exact .inl ⟨kk,hk,z⟩
    ·rw[r32 i fun j z=>hh ⟨j,z⟩]at z;exact .inr ⟨fun j z=>hh ⟨j,z⟩,z⟩
   have kM:∀a,Own R3 (U (fun a=>a=D\/Fa a) Ox) a->Own RI2 (U Fa OxI) a:=fun a z=>by
    rcases z with⟨i,z⟩ | (z|z)|z
    ·rcases r3c i a z with⟨j,_,z⟩|⟨n,z⟩
     ·exact .inl ⟨j,z⟩
     ·exact .inr (.inr (.inr (.inr ⟨i,z,n⟩)))
    ·exact .inr (.inr (z▸DO))
    ·exact .inr (.inl z)
    ·exact .inr (.inr (.inl z))
   have el:eni.length=js.length:=by rw[P2.env.l1,<-P2.env.l2];exact cl
   have riO:∀(kk:Nat) a,RI kk a->Own R1 Ox a:=fun kk a z=>by
    obtain⟨j,_,z⟩:=ric kk a z;exact .inl ⟨j,z⟩
   have env3:EnvOk K ds1 (U (fun a=>a=D\/Fa a) Ox) H2 σ (wbB js eni en1) R3:=by
    refine⟨fun i u hu=>?_,fun i i' a z z'=>?_,fun i a z z2=>?_,fun a z=>P2.env.dom a (kM a z),by rw[pG];exact E1.l1,E1.l2⟩
    ·by_cases hh:∃kk:Nat,js[kk]?=some (some i)
     ·obtain⟨kk,hk⟩:=hh;obtain⟨dd,q1,q2⟩:=c1 kk i hk;have hil:i<en1.length:=by rw[E1.l1,<-E1.l2];exact(zah.mp q2).1
      rw[rL js eni en1 i kk hk (fun k' z=>c2 k' kk i z hk) el hil]at hu;obtain⟨v,d',g1,g2,g3⟩:=P2.env.at_ kk u hu;rw[q1]at g2;cases g2;have hlk:=P2.lk kk (by rw[hl];have:=ka (n:=0) hk;rw[za4]at this;exact this);rw[hlk]at g1;refine⟨v,dd,?_,q2,?_⟩
      ·unfold eZ at g1;rw[zao,hk]at g1;have g1':(σ[i]?).join=some v:=zat g1;cases q3:σ[i]? with
       |none=>rw[q3]at g1';cases g1'
       |some o=>rw[q3]at g1';exact congrArg some g1'
      ·rw[r31 i kk hk];exact Ow.grow kM u (fun _ z=>z) g3
     ·rw[my js eni en1 i fun j z=>hh ⟨j,z⟩]at hu;have ns:∀j:Nat,js[j]?≠some (some i):=fun j z=>hh ⟨j,z⟩;obtain⟨v,d',g1,g2,g3⟩:=E1.at_ i u hu;refine⟨v,d',g1,g2,?_⟩;rw[r32 i ns];refine Ow.mv (G:=R1 i) ⟨fun a o q z=>P2.keep a o q fun j zj=>?_,fun a z=>fP a (kM a z)⟩ u (fun _ z=>z) g3;obtain⟨j',hj',zj⟩:=ric j a zj;rcases z with z|z
      ·exact z (.inl ⟨j',zj⟩)
      ·have:=E1.dj i j' a z zj;subst this;exact ns j hj'
    ·rcases r3c i a z with⟨j,q,z⟩|⟨n,z⟩<;>rcases r3c i' a z' with⟨j',q',z'⟩|⟨n',z'⟩
     ·have:=P2.env.dj j j' a z z';subst this;rw[q]at q';cases q';rfl
     ·exact absurd (.inr (.inr (.inr ⟨i',z',n'⟩))) (P2.env.dx j a z)
     ·exact absurd (.inr (.inr (.inr ⟨i,z,n⟩))) (P2.env.dx j' a z')
     ·exact E1.dj i i' a z z'
    ·rcases r3c i a z with⟨j,q,z⟩|⟨n,z⟩
     ·refine P2.env.dx j a z ?_;rcases z2 with (z2|z2)|z2
      ·exact .inr (z2▸DO)
      ·exact .inl z2
      ·exact .inr (.inl z2)
     ·rcases z2 with (z2|z2)|z2
      ·exact nD a (.inl ⟨i,z⟩) z2
      ·exact P2.fx a z2 (.inr (.inr ⟨i,z,n⟩))
      ·exact E1.dx i a z z2
   have n1:∀a,H1 a=none->H a=none:=fun a z=>by
    cases q:H a with
    |none=>rfl
    |some o=>
     obtain⟨o',q'⟩:=P1.dom a o q;rw[z]at q';cases q'
   refine k (.ref D) H2 R3 (fun a=>a=D\/Fa a) ⟨env3,fun a z z2=>?_,fun a o q n=>?_,fun a z=>?_,fun a o q=>?_,fun z=>nomatch z⟩ ⟨D,vs,rfl,.inr ⟨hz,hDl,.inl rfl,Fa,fun b z=>⟨.inr z,fD b z⟩,?_⟩⟩
   ·rcases z with z|z
    ·exact nD a (.inr z2) z
    ·exact P2.fx a z (.inl z2)
   ·refine P2.keep a o (P1.keep a o q n) fun kk z=>?_;obtain⟨j,_,z⟩:=ric kk a z;rcases P1.own a (.inr ⟨j,z⟩)with⟨i',z⟩|z
    ·exact n i' z
    ·rw[q]at z;cases z
   ·have h3:(∃i,R1 i a)\/H1 a=none:=by
     have h4:(Fa a\/∃kk,RI2 kk a)->(∃i,R1 i a)\/H1 a=none:=fun z=>by
      rcases P2.own a z with⟨kk,z⟩|z
      ·obtain⟨j,_,z⟩:=ric kk a z;exact .inl ⟨j,z⟩
      ·exact .inr z
     rcases z with (z|z)|⟨i,z⟩
     ·exact .inr (z▸hD)
     ·exact h4 (.inl z)
     ·rcases r3c i a z with⟨j,_,z⟩|⟨n,z⟩
      ·exact h4 (.inr ⟨j,z⟩)
      ·exact .inl ⟨i,z⟩
    rcases h3 with h3|h3
    ·exact P1.own a (.inr h3)
    ·exact .inr (n1 a h3)
   ·obtain⟨o',q'⟩:=P1.dom a o q;exact P2.dom a o' q'
   ·rw[hd];exact Ows.grow kM _ (fun _ z=>z) oacc
end
def msk:List Nat->En->En
 |d::ds,o::en=>(if d=0 then none else o)::msk ds en
 |_,_=>[]
def fnF(n:Nat)(dps:List Nat)(b:MS):List PyData->Option (PyData×En):=fun ts=>(b (ts.map some++List.replicate n none)).bind fun fl=>match fl with
 |.rt t en=>some (t,msk dps en)
 |.nx en=>some (.none,msk dps en)
 |.ct _=>none
def pX(dps:List Nat):List Nat:=(List.range dps.length).filter fun j=>dps[j]? != some 0
section
variable{t t1 t2:PyData}{D:Ends}
theorem va:∀{dps:List Nat} {en:En} {j:Nat} {u:PyData},(msk dps en)[j]?=some (some u)->∃d,dps[j]?=some d/\d≠0/\en[j]?=some (some u)
 |[],en,j,u,h=>by unfold msk at h;simp at h
 |d::ds,[],j,u,h=>by unfold msk at h;simp at h
 |d::ds,o::en,j,u,h=>by
  unfold msk at h;cases j with
  |zero=>
   by_cases hd:d=0
   ·simp[hd]at h
   ·refine⟨d,rfl,hd,?_⟩;simpa[hd]using h
  |succ j=>
   have:=va (dps:=ds) (en:=en) (j:=j) (u:=u) (by simpa using h);simpa using this
theorem u9:∀{dps:List Nat} {en:En},dps.length<=en.length->(msk dps en).length=dps.length
 |[],en,_=>by unfold msk;rfl
 |d::ds,[],h=>by simp at h
 |d::ds,o::en,h=>by
  unfold msk;rw[zac,zac,u9 (by simpa using h)]
def E5{E:XK}{b:MS}(hn:N.length-dps.length=n)(h:spF K dps dr (fnF n dps b) vs H Q E):
  tFS K ⟨pX dps,dps++List.replicate n 0,dr,[]⟩ (dps++List.replicate n 0) (dps++List.replicate n 0) b { nx:=fun _ H'=>Q .non H',rt:=Q } (dX N vs) H:=by
 obtain⟨Ox,ts,R,r,ψ,e,hf,k⟩:=h;have lv:dps.length=vs.length:=by have:=e.l2;rw[zad]at this;exact this
 have lt:ts.length=vs.length:=by have:=e.l1;rw[zad,zad]at this;exact this
 have hs:dX N vs=vs.map some++List.replicate n none:=by unfold dX;rw[<-lv,hn]
 unfold fnF at hf;obtain⟨fl,h1,hf⟩:=zaa.mp hf;have get0:∀{α:Type} (xs:List α) (i:Nat) (u:α),(xs.map some++List.replicate n none)[i]?=some (some u)->(xs.map some)[i]?=some (some u)/\i<xs.length:=fun xs i u z=>by
  by_cases hi:i<xs.length
  ·rw[zaS (by rw[zad];exact hi)]at z;exact⟨z,hi⟩
  ·rw[zbL (by rw[zad];omega),List.getElem?_replicate]at z;split at z
   ·cases z
   ·cases z
 have e0:EnvOk K (dps++List.replicate n 0) Ox H (dX N vs) (ts.map some++List.replicate n none) R:=by
  rw[hs];refine⟨fun i u hu=>?_,e.dj,e.dx,e.dom,by simp[lt],by simp[lv]⟩;obtain⟨hu',hi⟩:=get0 ts i u hu;obtain⟨v,d,g1,g2,g3⟩:=e.at_ i u hu';refine⟨v,d,?_,?_,g3⟩
  ·rw[zaS (by rw[zad];omega)];exact g1
  ·rw[zaS (by omega)];exact g2
 have back:∀{σ' en' H' R' F},PostS K (pX dps) (dps++List.replicate n 0) Ox (dX N vs) H R σ' en' H' R' F->Post K false dps Ox (vs.map some) H (ts.map some) R (msk dps en') H' R' F:=fun {σ' en' H' R' F} P=>by
  have l1:=P.env.l1;have l2:=P.env.l2;rw[zae,zaN]at l2;refine⟨⟨fun j u hu=>?_,P.env.dj,P.env.dx,P.env.dom,by rw[u9 (by omega),zad];exact lv,by rw[zad];exact lv⟩,P.fx,P.keep,P.own,P.dom,fun z=>nomatch z⟩;obtain⟨d,a1,a2,a3⟩:=va hu;obtain⟨v,d',g1,g2,g3⟩:=P.env.at_ j u a3;have hj:j<dps.length:=(zah.mp a1).1;have hlk:j∈pX dps:=by
   unfold pX;rw[zbE,zbs];refine⟨hj,?_⟩;rw[a1];simpa using a2
  rw[P.lk j hlk,hs,zaS (by rw[zad];omega)]at g1;rw[zaS hj]at g2;exact⟨v,d',g1,g2,g3⟩
 refine⟨Ox,_,R,fl,e0,h1,?_⟩;cases fl with
 |nx en2=>
  cases hf;exact fun σ2 H2 R2 P2=>k .non H2 R2 NoA (back P2) rfl
 |ct en2=>cases hf
 |rt t en2=>
  cases hf;exact fun v σ2 H2 R2 F P2 o=>k v H2 R2 F (back P2) o
def Post.slot{F:AS}{o2:HO}(P:Post K p ds1 Ox σ H en R en1 H1 R1 F)(hl:R1 i l)(hi:i<en1.length)(hv:σ[i]?=some (some v))(hd:ds1[i]?=some d)
  (hg:∀a,G a->R1 i a\/F a) (hf:∀a,F' a->R1 i a\/F a) (hx:∀a,G a->¬F' a)
  (ho:Ow K (Own (fun j=>if j=i then G else R1 j) (U F' Ox)) (upd H1 l o2) t d v G):
  Post K false ds1 Ox σ H en R (en1.set i (some t)) (upd H1 l o2) (fun j=>if j=i then G else R1 j) F':=by
 have rc:∀(j:Nat) a,(if j=i then G else R1 j) a->R1 j a\/(j=i/\F a):=fun j a z=>by
  by_cases hj:j=i
  ·rw[if_pos hj]at z;rcases hg a z with z|z
   ·exact .inl (hj▸z)
   ·exact .inr ⟨hj,z⟩
  ·rw[if_neg hj]at z;exact .inl z
 have sub:∀a,Own (fun j=>if j=i then G else R1 j) (U F' Ox) a->Own R1 (U F Ox) a:=fun a z=>by
  rcases z with⟨j,z⟩|z|z
  ·rcases rc j a z with z|⟨_,z⟩
   ·exact .inl ⟨j,z⟩
   ·exact .inr (.inl z)
  ·rcases hf a z with z|z
   ·exact .inl ⟨i,z⟩
   ·exact .inr (.inl z)
  ·exact .inr (.inr z)
 have dom2:∀a o,H1 a=some o->∃o',upd H1 l o2 a=some o':=fun a o q=>by
  by_cases ha:a=l
  ·subst ha;exact⟨_,aA⟩
  ·exact⟨o,by rw[aE ha];exact q⟩
 have nl:∀a o,H1 a=some o->a≠l->upd H1 l o2 a=some o:=fun a o q n=>by rw[aE n];exact q
 refine⟨⟨fun j u hu=>?_,fun j j' a z z'=>?_,fun j a z z2=>?_,fun a z=>?_,by rw[zaV];exact P.env.l1,P.env.l2⟩,fun a z z2=>?_,fun a o q n=>?_,fun a z=>?_,fun a o q=>?_,fun z=>nomatch z⟩
 ·by_cases hj:j=i
  ·subst hj;rw[zaP hi]at hu;cases hu;refine⟨v,d,hv,hd,?_⟩;rw[if_pos rfl];exact ho
  ·rw[zaO (Ne.symm hj)]at hu;obtain⟨v',d',g1,g2,g3⟩:=P.env.at_ j u hu;refine⟨v',d',g1,g2,?_⟩;rw[if_neg hj];refine Ow.mv (G:=R1 j) ⟨fun a o q z=>nl a o q fun za=>?_,fun a z=>.inl (sub a z)⟩ u (fun _ z=>z) g3;subst za;rcases z with z|z
   ·exact z (.inl ⟨i,hl⟩)
   ·exact hj (P.env.dj j i a z hl)
 ·have z0:=z;have z0':=z';by_cases hj:j=i<;>by_cases hj':j'=i
  ·rw[hj,hj']
  ·rw[if_pos hj]at z0;rw[if_neg hj']at z0';rcases hg a z0 with z1|z1
   ·exact absurd (P.env.dj i j' a z1 z0') (fun e=>hj' e.symm)
   ·exact absurd (.inl z1) (P.env.dx j' a z0')
  ·rw[if_neg hj]at z0;rw[if_pos hj']at z0';rcases hg a z0' with z1|z1
   ·exact absurd (P.env.dj j i a z0 z1) hj
   ·exact absurd (.inl z1) (P.env.dx j a z0)
  ·rw[if_neg hj]at z0;rw[if_neg hj']at z0';exact P.env.dj j j' a z0 z0'
 ·have z0:=z;by_cases hj:j=i
  ·rw[if_pos hj]at z0;rcases z2 with z2|z2
   ·exact hx a z0 z2
   ·rcases hg a z0 with z1|z1
    ·exact P.env.dx i a z1 (.inr z2)
    ·exact P.fx a z1 z2
  ·rw[if_neg hj]at z0;rcases z2 with z2|z2
   ·rcases hf a z2 with z1|z1
    ·exact hj (P.env.dj j i a z0 z1)
    ·exact P.env.dx j a z0 (.inl z1)
   ·exact P.env.dx j a z0 (.inr z2)
 ·obtain⟨o,q⟩:=P.env.dom a (sub a z);exact dom2 a o q
 ·rcases hf a z with z1|z1
  ·exact P.env.dx i a z1 (.inr z2)
  ·exact P.fx a z1 z2
 ·refine nl a o (P.keep a o q n) fun za=>?_;subst za;rcases P.own a (.inr ⟨i,hl⟩)with⟨j,z⟩|z
  ·exact n j z
  ·rw[q]at z;cases z
 ·have:F a\/∃j,R1 j a:=by
   rcases z with z|⟨j,z⟩
   ·rcases hf a z with z|z
    ·exact .inr ⟨i,z⟩
    ·exact .inl z
   ·rcases rc j a z with z|⟨_,z⟩
    ·exact .inr ⟨j,z⟩
    ·exact .inl z
  exact P.own a this
 ·obtain⟨o',q'⟩:=P.dom a o q;exact dom2 a o' q'
def l8{F:AS}(hg:∀a,G a->R1 i a\/F a)(hf:∀a,F' a->R1 i a\/F a):∀a,Own (fun j=>if j=i then G else R1 j) (U F' Ox) a->Own R1 (U F Ox) a:=fun a z=>by
 rcases z with⟨j,z⟩|z|z
 ·by_cases hj:j=i
  ·rw[if_pos hj]at z;rcases hg a z with z|z
   ·exact .inl ⟨i,z⟩
   ·exact .inr (.inl z)
  ·rw[if_neg hj]at z;exact .inl ⟨j,z⟩
 ·rcases hf a z with z|z
  ·exact .inl ⟨i,z⟩
  ·exact .inr (.inl z)
 ·exact .inr (.inr z)
def aU{α:Type}{en:List (Option α)}{t:α}(h:(en[i]?).join=some t):en[i]?=some (some t):=by
 cases q:en[i]? with
 |none=>rw[q]at h;cases h
 |some o=>rw[q]at h;exact congrArg some h
def Ow.sqL{ts:List PyData}{F:AS}(h:Ow K O H (.list ts) d v F):∃a vs,v=.ref a/\SqL K H a vs:=by
 obtain⟨a,vs,e,⟨_,h1,_⟩|⟨_,h1,_⟩⟩:=h
 ·exact⟨a,vs,e,h1.sq⟩
 ·exact⟨a,vs,e,SqL.of h1⟩
def Ow.ownL{ts:List PyData}{F:AS}(hd:d≠0)(h:Ow K O H (.list ts) d v F):∃a vs,v=.ref a/\H a=some (.lst vs)/\F a/\∃F':AS,(∀b,F' b->F b/\b≠a)/\Ows K O H ts (dn d) vs F':=by
 obtain⟨a,vs,e,⟨h0,_⟩|⟨_,h1,h2,h3⟩⟩:=h
 ·exact absurd h0 hd
 ·exact⟨a,vs,e,h1,h2,h3⟩
def Ows.past{ts:List PyData}{F:AS}(ho:∀a,O' a->O a)(hl:O l)(hf:∀b,F b->b≠l)(h:Ows K O H ts d vs F):Ows K O' (upd H l o) ts d vs F:=
 Ows.mv (G:=F) ⟨fun a u q z=>by
  rw[aE]
  ·exact q
  ·intro za;subst za;rcases z with z|z
   ·exact z hl
   ·exact hf a z rfl,fun a z=>.inl (ho a z)⟩ ts (fun _ z=>z) h
def Ow.past{F:AS}(ho:∀a,O' a->O a)(hl:O l)(hf:∀b,F b->b≠l)(h:Ow K O H t d v F):Ow K O' (upd H l o) t d v F:=
 Ow.mv (G:=F) ⟨fun a u q z=>by
  rw[aE]
  ·exact q
  ·intro za;subst za;rcases z with z|z
   ·exact z hl
   ·exact hf a z rfl,fun a z=>.inl (ho a z)⟩ t (fun _ z=>z) h
def cc(i:Nat)(f:ME):ME:=fun en=>match (en[i]?).join with
 |some (.list _)=>(f en).bind fun r=>match (r.2[i]?).join with
  |some (.list ts)=>if ts.length<sizeLine then some (.none,r.2.set i (some (.list (ts++[r.1]))))else none
  |_=>none
 |_=>none
def LR(hd:ds1[i]?=some d)(hz:d≠0)(hc:dn d=c)(h:tF K false ds ds1 3 (cc i f) σ H Q):tBM K "list" pM (gR i) (nT (tF K p ds ds1 c f) vW) σ H Q:=by
 obtain⟨Ox,en,R,t,en',e,hf,k⟩:=h;unfold cc at hf;split at hf
 case h_2=>cases hf
 next ts0 h0=>
 obtain⟨⟨t1,en1⟩,h1,hf⟩:=zaa.mp hf
 dsimp only at hf
 split at hf
 case h_2=>cases hf
 next ts h2=>
 by_cases ξ:ts.length<sizeLine
 case neg=>rw[if_neg ξ]at hf;cases hf
 rw[if_pos ξ]at hf;cases hf;obtain⟨v,d0,a1,_,a3⟩:=e.at_ i _ (aU h0);obtain⟨l0,vs0,e0,sq⟩:=a3.sqL;refine⟨v,a1,?_,Ox,en,R,t1,en1,e,h1,fun x H1 R1 F P o=>?_⟩
 ·rw[e0];exact .inl ⟨rfl,vs0,sq⟩
 obtain⟨v',d',b1,b2,b3⟩:=P.env.at_ i _ (aU h2);rw[a1]at b1;cases b1;rw[hd]at b2;cases b2;obtain⟨l,vs,el,hl,hr,F',hf',ow⟩:=b3.ownL hz;refine⟨l,vs,x,el,rfl,hl,by rw[ow.len];exact ξ,?_⟩;have hi:i<en1.length:=(zah.mp (aU h2)).1;have Fn:∀a,F a->a≠l:=fun a z z2=>by
  subst z2;exact P.env.dx i a hr (.inl z)
 have sub:=l8 (i:=i) (R1:=R1) (Ox:=Ox) (G:=fun a=>R1 i a\/F a) (F':=NoA) (F:=F) (fun _ z=>z) (fun _ z=>z.elim);have Ol:Own R1 (U F Ox) l:=.inl ⟨i,hr⟩;refine k .non (upd H1 l (.lst (vs++[x]))) _ NoA (P.slot (G:=fun a=>R1 i a\/F a) hr hi a1 hd (fun _ z=>z) (fun _ z=>z.elim) (fun _ _ z=>z) ?_) rfl;refine⟨l,vs++[x],el,.inr ⟨hz,aA,.inl hr,U F' F,fun b z=>?_,?_⟩⟩
 ·rcases z with z|z
  ·exact⟨.inl (hf' b z).1,(hf' b z).2⟩
  ·exact⟨.inr z,Fn b z⟩
 ·refine Ows.snoc (Ows.past sub Ol (fun b z=>(hf' b z).2) ow) ?_ fun b z1 z2=>P.env.dx i b (hf' b z1).1 (.inl z2);rw[hc];exact Ow.past sub Ol Fn o
theorem Ows.out:∀{ts:List PyData} {vs:List V} {F:AS} {k:Nat} {t:PyData},Ows K O H ts d vs F->ts[k]?=some t ->
  ∃v,∃F1 F2:AS,vs[k]?=some v/\(∀b,F1 b->F b)/\(∀b,F2 b->F b)/\(∀b,F1 b->¬F2 b)/\Ow K O H t d v F1/\Ows K O H (ts.eraseIdx k) d (vs.eraseIdx k) F2
 |[],_,_,k,t,_,h=>by simp at h
 |u::ts,_,F,k,t,h,hk=>by
  obtain⟨v,r,F1,F2,e,s1,s2,s3,h4,h5⟩:=h;subst e;cases k with
  |zero=>
   have:u=t:=by simpa using hk
   subst this;exact⟨v,F1,F2,rfl,s1,s2,s3,h4,h5⟩
  |succ k=>
   obtain⟨w,G1,G2,g1,g2,g3,g4,g5,g6⟩:=Ows.out (k:=k) h5 (by simpa using hk);refine⟨w,G1,U F1 G2,by simpa using g1,fun b z=>s2 b (g2 b z),fun b z=>z.elim (s1 b) fun z=>s2 b (g3 b z),fun b z z2=>?_,g5,v,r.eraseIdx k,F1,G2,rfl,fun b=>.inl,fun b=>.inr,fun b z1 z2=>s3 b z1 (g3 b z2),h4,g6⟩;rcases z2 with z2|z2
   ·exact s3 b z2 (g2 b z)
   ·exact g4 b z z2
def iI(i:Nat):ME:=fun en=>match (en[i]?).join with
 |some (.list ts)=>(ts[ts.length-1]?).map fun t=>(t,en.set i (some (.list ts.dropLast)))
 |_=>none
def LJ(hd:ds[i]?=some d)(hz:d≠0)(hc:dn d=c)(h:tF K false ds ds c (iI i) σ H Q):zh K "list" Ik (gR i) σ H Q:=by
 obtain⟨Ox,en,R,t,en',e,hf,k⟩:=h;unfold iI at hf;split at hf
 case h_2=>cases hf
 next ts h0=>
 obtain⟨t',h1,hf⟩:=zab.mp hf;cases hf;obtain⟨v,d',a1,a2,a3⟩:=e.at_ i _ (aU h0);rw[hd]at a2;cases a2;obtain⟨l,vs,el,hl,hr,F',hf',ow⟩:=a3.ownL hz;have len:=ow.len;obtain⟨w,F1,F2,g1,g2,g3,g4,g5,g6⟩:=ow.out h1;refine⟨v,a1,by rw[el];exact .inl ⟨rfl,vs,SqL.of hl⟩,l,vs,w,el,rfl,hl,by rw[len];exact g1,?_⟩;have hi:i<en.length:=(zah.mp (aU h0)).1;have P:=Post.refl (p:=true) e;have eqU:U (fun _=>False) Ox=Ox:=fq;have hO:Own R (U (fun _=>False) Ox)=Own R Ox:=by rw[eqU]
 have gG:∀a,(fun a=>R i a/\¬F1 a) a->R i a\/False:=fun a z=>.inl z.1;have gF:∀a,F1 a->R i a\/False:=fun a z=>.inl (hf' a (g2 a z)).1;have sub:∀a,Own (fun j=>if j=i then(fun a=>R i a/\¬F1 a)else R j) (U F1 Ox) a->Own R Ox a:=fun a z=>hO▸l8 gG gF a z;have Ol:Own R Ox l:=.inl ⟨i,hr⟩;have F1l:¬F1 l:=fun z=>(hf' l (g2 l z)).2 rfl;have ed:ts.eraseIdx (ts.length-1)=ts.dropLast:=km ts;have ed2:vs.eraseIdx (ts.length-1)=vs.dropLast:=by rw[<-len];exact km vs
 rw[ed,ed2]at g6;rw[hc]at g5;refine k w (upd H l (.lst vs.dropLast)) _ F1 (P.slot (G:=fun a=>R i a/\¬F1 a) (F:=fun _=>False) hr hi a1 hd gG gF (fun a z z2=>z.2 z2) ?_) (Ow.past sub Ol (fun b z=>(hf' b (g2 b z)).2) g5);exact⟨l,vs.dropLast,el,.inr ⟨hz,aA,⟨hr,F1l⟩,F2,fun b z=>⟨⟨(hf' b (g3 b z)).1,fun z1=>g4 b z1 z⟩,(hf' b (g3 b z)).2⟩,Ows.past sub Ol (fun b z=>(hf' b (g3 b z)).2) g6⟩⟩
def Mu(i:Nat)(f:ME):ME:=fun en=>match (en[i]?).join with
 |some (.list _)=>(f en).bind fun r=>match r.1,(r.2[i]?).join with
  |.int n,some (.list ts)=>if -(2 ^ 63)<=n/\n<2 ^ 63 then(seqIndex? n ts.length).bind fun k=>(ts[k]?).map fun t=>(t,r.2.set i (some (.list (ts.eraseIdx k))))else none
  |_,_=>none
 |_=>none
theorem Ows.rev:∀{ts:List PyData} {vs:List V} {F:AS},Ows K O H ts d vs F->Ows K O H ts.reverse d vs.reverse F
 |[],_,_,h=>by rw[show _=[]from h];rfl
 |t::ts,_,F,h=>by
  obtain⟨v,r,F1,F2,e,s1,s2,s3,h4,h5⟩:=h;subst e;rw[List.reverse_cons,List.reverse_cons];exact Ows.grow (fun _ z=>z) _ (fun b z=>z.elim (s2 b) (s1 b)) (Ows.snoc h5.rev h4 fun b z1 z2=>s3 b z2 z1)
theorem Ows.setAt:∀{ts:List PyData} {vs:List V} {F F2:AS} {k:Nat} {t:PyData} {v:V},Ows K O H ts d vs F->Ow K O H t d v F2->(∀b,F b->¬F2 b)->Ows K O H (ts.set k t) d (vs.set k v) (U F F2)
 |[],_,_,_,_,_,_,h,_,_=>by rw[show _=[]from h];rfl
 |u::ts,_,F,F2,k,t,v,h,h2,hd=>by
  obtain⟨w,r,G1,G2,e,s1,s2,s3,h4,h5⟩:=h;subst e;cases k with
  |zero=>exact⟨v,r,F2,G2,rfl,fun _ z=>.inr z,fun b z=>.inl (s2 b z),fun b z z2=>hd b (s2 b z2) z,h2,h5⟩
  |succ k=>
   refine⟨w,r.set k v,G1,U G2 F2,rfl,fun b z=>.inl (s1 b z),fun b z=>z.imp (s2 b) id,fun b z z2=>?_,h4,Ows.setAt h5 h2 fun b z=>hd b (s2 b z)⟩;rcases z2 with z2|z2
   ·exact s3 b z z2
   ·exact hd b (s1 b z) z2
def cE(i:Nat)(fk fe:ME):MS:=fun en=>(fe en).bind fun r=>match (r.2[i]?).join with
 |some _=>(fk r.2).bind fun q=>match q.1,(q.2[i]?).join with
  |.int n,some (.list ts)=>(ixN ts.length n).map fun k=>.nx (q.2.set i (some (.list (ts.set k r.1))))
  |_,_=>none
 |none=>none
def EN(hd:ds2[i]?=some d)(hz:d≠0)(hc:dn d=c)(h:tFS K J ds ds2 (cE i fk fe) D σ H):
  pH (tF K p1 ds ds1 c fe) (As (gR i) (tF K p2 ds1 ds2 d2 fk) wd) D σ H:=by
 obtain⟨Ox,en,R,fl,e,hf,k⟩:=h;unfold cE at hf;obtain⟨⟨t1,en1⟩,h1,hf⟩:=zaa.mp hf
 dsimp only at hf
 split at hf
 case h_2=>cases hf
 next tt h0=>
 obtain⟨⟨t2,en2⟩,h2,hf⟩:=zaa.mp hf
 dsimp only at hf
 split at hf
 case h_2=>cases hf
 next n ts h3=>
 obtain⟨kk,h4,hf⟩:=zab.mp hf;cases hf;refine⟨Ox,en,R,t1,en1,e,h1,fun x H1 R1 F1 P1 o1=>?_⟩;obtain⟨v0,d0,a1,_,_⟩:=P1.env.at_ i tt (aU h0);refine⟨v0,a1,?_⟩;refine⟨U F1 Ox,en1,R1,.int n,en2,P1.env,h2,fun y H2 R2 F2 P2 o2=>?_⟩;have P:=P1.trans P2;have o1':=Ow.over P1.env P2 o1;obtain⟨v',d',b1,b2,b3⟩:=P.env.at_ i _ (aU h3);rw[a1]at b1;cases b1;rw[hd]at b2;cases b2;obtain⟨l,vs,el,hl,hr,F',hf',ow⟩:=b3.ownL hz;refine⟨l,vs,n,kk,el,o2,hl,by rw[ow.len];exact h4,?_⟩;have hi:i<en2.length:=(zah.mp (aU h3)).1;have Fn:∀a,F1 a->a≠l:=fun a z z2=>by
  subst z2;exact P.env.dx i a hr (.inl (.inl z))
 have gG:∀a,(fun a=>R2 i a\/F1 a) a->R2 i a\/U F1 F2 a:=fun a z=>z.imp id .inl;have sub:=l8 (i:=i) (R1:=R2) (Ox:=Ox) (G:=fun a=>R2 i a\/F1 a) (F':=NoA) (F:=U F1 F2) gG (fun _ z=>z.elim);have Ol:Own R2 (U (U F1 F2) Ox) l:=.inl ⟨i,hr⟩;have PS:=P.slot (G:=fun a=>R2 i a\/F1 a) (F':=NoA) (o2:=.lst (vs.set kk x)) (t:=.list (ts.set kk t1)) hr hi a1 hd gG (fun _ z=>z.elim) (fun _ _ z=>z) ?_
 ·exact k σ _ _ PS.s
 refine⟨l,vs.set kk x,el,.inr ⟨hz,aA,.inl hr,U F' F1,fun b z=>?_,?_⟩⟩
 ·rcases z with z|z
  ·exact⟨.inl (hf' b z).1,(hf' b z).2⟩
  ·exact⟨.inr z,Fn b z⟩
 ·refine Ows.setAt (Ows.past sub Ol (fun b z=>(hf' b z).2) ow) ?_ fun b z1 z2=>P.env.dx i b (hf' b z1).1 (.inl (.inl z2));rw[hc];exact Ow.past sub Ol Fn o1'
theorem Ows.get:∀{ts:List PyData} {vs:List V} {F:AS} {k:Nat} {t:PyData},Ows K O H ts d vs F->ts[k]?=some t->∃v,vs[k]?=some v/\Ow K O H t d v F
 |[],_,_,k,t,_,h=>by simp at h
 |u::ts,_,F,k,t,h,hk=>by
  obtain⟨v,r,F1,F2,e,s1,s2,s3,h4,h5⟩:=h;subst e;cases k with
  |zero=>
   have:u=t:=by simpa using hk
   subst this;exact⟨v,rfl,Ow.grow (fun _ z=>z) u s1 h4⟩
  |succ k=>
   obtain⟨w,g1,g2⟩:=Ows.get (k:=k) h5 (by simpa using hk);exact⟨w,by simpa using g1,Ow.grow (fun _ z=>z) t s2 g2⟩
def Ows.atI{ts:List PyData}{vs:List V}{F:AS}{n:Int}{t:PyData}(h:Ows K O H ts d vs F)(ht:L2.atI ts n=some t):∃v,L2.atI vs n=some v/\Ow K O H t d v F:=by
 unfold L2.atI at ht ⊢;rw[h.len];obtain⟨k,h1,h2⟩:=zaa.mp ht;obtain⟨v,g1,g2⟩:=h.get h2;exact⟨v,by rw[h1];exact g1,g2⟩
def dN(i:Nat)(f:ME):ME:=fun en=>(en[i]?).join.bind fun _=>(f en).bind fun r=>match r.1,(r.2[i]?).join with
 |.int n,some (.list ts)=>(atI ts n).map fun t=>(t,r.2)
 |_,_=>none
def LO(hd:ds1[i]?=some 1)(h:tF K p ds ds1 0 (dN i f) σ H Q):tOp (we K) (gR i) (tF K p ds ds1 d1 f) σ H Q:=by
 obtain⟨Ox,en,R,t,en',e,hf,k⟩:=h;unfold dN at hf;obtain⟨t0,h0,hf⟩:=zaa.mp hf;obtain⟨⟨t1,en1⟩,h1,hf⟩:=zaa.mp hf
 dsimp only at hf
 split at hf
 case h_2=>cases hf
 next n ts h2=>
 obtain⟨t',h3,hf⟩:=zab.mp hf;cases hf;obtain⟨v,d0,a1,_,a3⟩:=e.at_ i _ (aU h0);refine⟨v,a1,Ox,en,R,.int n,_,e,h1,fun x H1 R1 F P o=>?_⟩;obtain⟨v',d',b1,b2,b3⟩:=P.env.at_ i _ (aU h2);rw[a1]at b1;cases b1;rw[hd]at b2;cases b2;obtain⟨l,vs,el,hl,hr,F',hf',ow⟩:=b3.ownL (by decide);obtain⟨w,g1,g2⟩:=ow.atI h3;refine⟨l,vs,n,w,el,o,SqL.of hl,g1,k w H1 R1 NoA (P.less fun _ z=>z.elim) ?_⟩;exact Ow.any0 _ (Ow.grow (fun a z=>z.imp id fun z=>z.elim (fun z=>False.elim z) Or.inr) _ (fun _ z=>z) g2)
end
def PE.imp{t t':TE}(h:PE X e t)(hi:∀σ H Q,t' σ H Q->t σ H Q):PE X e t':=fun ρ s σ H Q I hw=>h ρ s σ H Q I (hi _ _ _ hw)
def PT.imp{t:TT}(h:PT X e t)(hi:∀σ H Q,t' σ H Q->t σ H Q):PT X e t':=fun ρ s σ H Q I hw=>h ρ s σ H Q I (hi _ _ _ hw)
def PW.imp{t:TT}(h:PW X e t)(hi:∀σ H Q,t' σ H Q->t σ H Q):PW X e t':=fun wh ρ s σ H Q I hw=>h wh ρ s σ H Q I (hi _ _ _ hw)
def PA.imp{e:List Expr}{t t':TA}(h:PA X e t)(hi:∀σ H Q,t' σ H Q->t σ H Q):PA X e t':=fun pos ρ s σ H Q I hw=>h pos ρ s σ H Q I (hi _ _ _ hw)
def PS.imp{e:Stmt}{t t':TS}(h:PS X e t)(hi:∀D σ H,t' D σ H->t D σ H):PS X e t':=fun ρ s σ H D I hw=>h ρ s σ H D I (hi _ _ _ hw)
def PSs.imp{e:List Stmt}{t t':TS}(h:PSs X e t)(hi:∀D σ H,t' D σ H->t D σ H):PSs X e t':=fun ρ s σ H D I hw=>h ρ s σ H D I (hi _ _ _ hw)
def PG.imp{t t':TG}(h:PG X e t)(hi:∀v σ H Q,t' v σ H Q->t v σ H Q):PG X e t':=fun ρ s σ H v u Q I r hw=>h ρ s σ H v u Q I r (hi _ _ _ _ hw)
def PGs.imp{e:List Expr}{t t':TGs}(h:PGs X e t)(hi:∀v σ H Q,t' v σ H Q->t v σ H Q):PGs X e t':=fun ρ s σ H v u Q I r hw=>h ρ s σ H v u Q I r (hi _ _ _ _ hw)
def PI.imp{t t':TI}(h:PI X tg e t)(hi:∀σ H R,t' σ H R->t σ H R):PI X tg e t':=fun ρ s σ H R I hw=>h ρ s σ H R I (hi _ _ _ hw)
def PTs.imp{e:List Expr}{t:TT}(h:PTs X e t)(hi:∀σ H Q,t' σ H Q->t σ H Q):PTs X e t':=fun ρ s σ H Q I hw=>h ρ s σ H Q I (hi _ _ _ hw)
def aD:Expr->Bool
 |.Starred _ _=>false
 |_=>true
def aR(h:aD e=true):starEach (e::es) env=(false,eval e env)::starEach es env:=by
 cases e<;>first|rfl|cases h
theorem fg{pos:Pos}{env:Env}:∀{es:List Expr},es.all aD=true->(backTo pos (starEach es env)).any (·.1)=false
 |[],_=>rfl
 |e::es,h=>by
  rw[List.all_cons,zbn]at h;rw[aR h.1];show(false || (backTo pos (starEach es env)).any (·.1))=false;rw[fg h.2];rfl
section
variable{a c:Expr}{m:MT}    
def JO(hN:X.N[i]?=some x)(hv:Vis X.env.scope x)(h0:ds[i]?=some 0)(hd:(x==("__debug__":Str))=false)(hcd:(x==("__classdict__":Str))=false):PE X (.Name x pos) (tF K p ds ds 0 (aa i)):=
 (dz hN hv hd hcd).imp fun _ _ _ h=>LF h0 (mJ (fun _=>rfl) h)
def Lz(hN:X.N[i]?=some x)(hv:Vis X.env.scope x)(h0:ds[i]?=some d)(hds:ds.set i 0=ds')(hd:(x==("__debug__":Str))=false)(hcd:(x==("__classdict__":Str))=false):PE X (.Name x pos) (tF K false ds ds' d (eMv i)):=by
 subst hds;exact(dz hN hv hd hcd).imp fun _ _ _=>Mi h0
def J1{n:Int}{j}:PE X (.Constant (.int n) j pos) (tF K p ds ds 3 (eC (.int n))):=pe_int.imp fun _ _ _ h=>f_c (t:=.int n) (fun _ _ _ _=>rfl) (mJ (fun _=>rfl) h)
def LE{n:Bool}{j}:PE X (.Constant (.bool n) j pos) (tF K p ds ds 3 (eC (.bool n))):=pe_bl.imp fun _ _ _ h=>f_c (t:=.bool n) (fun _ _ _ _=>rfl) (mJ (fun _=>rfl) h)
def JV{j}:PE X (.Constant .none j pos) (tF K p ds ds 3 (eC .none)):=pe_non.imp fun _ _ _ h=>f_c (t:=.none) (fun _ _ _ _=>rfl) (mJ (fun _=>rfl) h)
def JR{n:Str}{j}:PE X (.Constant (.str n) j pos) (tF K p ds ds 3 (eC (.str n))):=pe_str.imp fun _ _ _ h=>f_c (t:=.str n) (fun _ _ _ _=>rfl) (mJ (fun _=>rfl) h)
def JQ(h:PE X e (tF K p ds ds' d f))(hd:d'<=d):PE X e (tF K p ds ds' d' f):=h.imp fun _ _ _=>LH hd
def LC(h:PE X e (tF K p ds0 ds' d f))(hd:leD ds0 ds=true):PE X e (tF K false ds ds' d f):=h.imp fun _ _ _=>Mj hd
def J5(h:PE X e (tF K true ds0 ds0 3 f))(hd:leD ds0 ds=true):PE X e (tF K p ds ds 3 f):=h.imp fun _ _ _ h=>LQ hd (mJ (fun _=>rfl) h)
def Ly{op:Operator}(ho:OpR X (binaryOp op) (rF2 K g d))(ha:PE X a (tF K p ds ds1 d1 f1))(hb:PE X b (tF K p ds1 ds2 d2 f2)):PE X (.BinOp a op b pos) (tF K p ds ds2 d (e2 g f1 f2)):=
 (Lc ho ha hb).imp fun _ _ _ h=>oP (by rw[zbl];exact h)
def Lw{op:UnaryOp}{g:D->Option D}(ho:UnR X (unaryOp op) (rF1 K g d))(ha:PE X a (tF K p ds ds1 d1 f1)):PE X (.UnaryOp op a pos) (tF K p ds ds1 d (e1 g f1)):=
 (K8 ho ha).imp fun _ _ _=>LL
def J4(ho:OpR X (compareOp op) (rF2 K g d))(ha:PE X a (tF K p ds ds1 d1 f1))(hb:PE X b (tF K p ds1 ds2 d2 f2))(hm:behindInMarks op b=false):PE X (.Compare a [op] [b] pos) (tF K p ds ds2 d (e2 g f1 f2)):=
 (D9 ho ha hb hm).imp fun _ _ _ h=>oP (by rw[zbl];exact h)
def EH(ho:OpR X (compareOp op) (rF2 K g d))(ha:PE X a (tF K p ds ds1 d1 f1))(hb:PE X b (tF K p ds1 ds2 d2 f2))(hm:behindInMarks op b=false):PT X (.Compare a [op] [b] pos) (tFT K p ds ds2 (tV (e2 g f1 f2))):=
 (DX ho ha hb hm).imp fun σ H Q h=>by
  obtain⟨Ox,en,R,t,en',e,hf,k⟩:=jJ (d:=d) h;exact oP (by rw[zbl];exact⟨Ox,en,R,t,en',e,hf,k⟩)
def ED(h:PE X e (tF K p ds ds' d f))(he:∀χ,isTrue e X.env χ=(do let v <-χ;standAt e.pos;holding [v] (truthy v))):PT X e (tFT K p ds ds' (tV f)):=(Iu h he).imp fun _ _ _=>jJ
def EA(ha:PT X a (tFT K p ds ds1 c1)):PW X (.BoolOp .And [a] pos) (tFT K p ds ds1 c1):=DT ha
def Ju(ha:PT X a (tFT K p ds ds1 c1)):PW X (.BoolOp .Or [a] pos) (tFT K p ds ds1 c1):=Ip ha
def Jv{rest:List Expr}(ha:PT X a (tFT K p ds ds1 c1))(hb:PW X (.BoolOp .And (b::rest) pos) (tFT K p ds1 ds1 c2)):PW X (.BoolOp .And (a::b::rest) pos) (tFT K p ds ds1 (cA c1 c2)):=(Iq ha hb).imp fun _ _ _ h=>Jz (by rw[zbl];exact h)
def Lq{rest:List Expr}(ha:PT X a (tFT K p ds ds1 c1))(hb:PW X (.BoolOp .Or (b::rest) pos) (tFT K p ds1 ds1 c2)):PW X (.BoolOp .Or (a::b::rest) pos) (tFT K p ds ds1 (bOr c1 c2)):=(K2 ha hb).imp fun _ _ _ h=>Lr (by rw[zbl];exact h)
def EE(ha:PT X a (tFT K p ds ds1 c1)):PT X (.UnaryOp .Not a pos) (tFT K p ds ds1 (fX c1)):=(Iv ha).imp fun _ _ _=>Jw
def EJ(h:PT X e (tFT K true ds0 ds0 c1))(hd:leD ds0 ds=true):PT X e (tFT K p ds ds c1):=h.imp fun _ _ _ ⟨Ox,en,R,t,en',e,hf,k⟩=>Jy hd ⟨Ox,en,R,t,en',e,hf,fun H' R' P=>k H' R' ⟨P.env,P.fx,P.keep,P.own,P.dom,fun _=>P.pure rfl⟩⟩
def JT{op}(h:PE X a (tF K p ds ds1 d f)):PE X (.BoolOp op [a] pos) (tF K p ds ds1 d f):=IB h
def J7{rest:List Expr}(ha:PE X a (tF K p ds ds1 d1 f1))(hb:PE X (.BoolOp .And (b::rest) pos) (tF K p ds1 ds1 d f2)):PE X (.BoolOp .And (a::b::rest) pos) (tF K p ds ds1 d (kq f1 f2)):=(IF ha hb).imp fun _ _ _ h=>LS (by rw[zbl];exact h)
def Lx{rest:List Expr}(ha:PE X a (tF K p ds ds1 d1 f1))(hb:PE X (.BoolOp .Or (b::rest) pos) (tF K p ds1 ds1 d f2)):PE X (.BoolOp .Or (a::b::rest) pos) (tF K p ds ds1 d (eOr f1 f2)):=(K9 ha hb).imp fun _ _ _ h=>Mh (by rw[zbl];exact h)
def JU(ha:PE X a (tF K p ds ds1 d1 f)):PE X (.UnaryOp .Not a pos) (tF K p ds ds1 3 (qg f)):=(IC ha).imp fun _ _ _=>LM
def Ft:PA X [] (tFA K p ds ds [] ah):=pa_nil.imp fun _ _ _ ⟨Ox,en,R,t,en',e,hf,k⟩=>yF ⟨Ox,en,R,t,en',e,hf,fun vs H' R' F P=>k vs H' R' F ⟨P.env,P.fx,P.keep,P.own,P.dom,fun _=>P.pure rfl⟩⟩
def AQ(ha:PE X e (tF K p ds ds1 d f))(hr:PA X es (tFA K p ds1 ds2 sh fa))(hs:aD e=true):PA X (e::es) (tFA K p ds ds2 (.inl d::sh) (ac f fa)):=(cZ ha hr (aR hs)).imp fun _ _ _ h=>qf (by rw[zbl];exact h)
def AO(hN:X.N[i]?=some x)(hv:Vis X.env.scope x)(hr:PA X es (tFA K p ds ds2 sh fa))(hd:(x==("__debug__":Str))=false)(hcd:(x==("__classdict__":Str))=false):
  PA X (.Name x pos::es) (tFA K p ds ds2 (.inr i::sh) (aB i fa)):=(cZ (dz hN hv hd hcd) hr (aR rfl)).imp fun _ _ _=>Fs
def JW{c:Nat}(h:PA X es (tFA K p ds ds1 sh fa))(hs:cf c sh=true)(hd:dn d=c)(hz:d≠0):PE X (.List es pos) (tF K p ds ds1 d (bh fa)):=(ID h).imp fun _ _ _=>LN hs hd hz
def JP{c:Nat}{x1}(h:PA X es (tFA K p ds ds1 sh fa))(hs:cf c sh=true)(hd:dn d=c):PE X (.Tuple es x1 pos) (tF K p ds ds1 d (da fa)):=(xL h).imp fun _ _ _=>LG hs hd
def AN{id:String}{g:List D->Option D}(hc:CallR X (.builtin id) (rFn K g d))(hg:Gl X x)(hm:X.mg x=none)(hv:bootBuiltins x=some (.builtin id))(ha:PA X (e::es) (tFA K p ds ds1 sh fa))(hsh:cf 0 sh=true)(hn:x≠"__name__")(hdb:(x==("__debug__":Str))=false)
  (he:aD e=true) (hpl:es.all aD=true):PE X (.Call (.Name x px) (e::es) [] pos) (tF K p ds ds1 d (eN g fa)):=
 (ny hc hg hm hv ha hn hdb (aR he) (fg hpl)).imp fun _ _ _=>tw hsh
def yE{g:List D->Option D}(hc:CallR X (.type T) (rFn K g d))(hg:Gl X x)(hm:X.mg x=none)(hv:bootBuiltins x=some (.type T))(ha:PA X (e::es) (tFA K p ds ds1 sh fa))(hsh:cf 0 sh=true)(hn:x≠"__name__")(hdb:(x==("__debug__":Str))=false)
  (he:aD e=true) (hpl:es.all aD=true):PE X (.Call (.Name x px) (e::es) [] pos) (tF K p ds ds1 d (eN g fa)):=
 (xM hc hg hm hv ha hn hdb (aR he) (fg hpl)).imp fun _ _ _=>tw hsh
def LD{F:List D->Option (D×En)}(G:Kn X.prog X.w X.K X.mg X.base k x ps (spF K dps dr F))(hr:Room k X.A)(hg:Gl X x)(ha:PA X (e::es) (tFA K p ds ds1 sh fa))(hns:gA sh=true)(hcd:cV ds1 sh dps=true)(hdb:(x==("__debug__":Str))=false)
  (he:aD e=true) (hpl:es.all aD=true):
  PE X (.Call (.Name x px) (e::es) [] pos) (tF K p ds ds1 dr (am F fa)):=(wg G hr hg ha hdb (aR he) (fg hpl)).imp fun _ _ _ h=>Kb hcd (by rw[hns,zb5];exact h)
def J2{F:List D->Option (D×En)}(G:Kn X.prog X.w X.K X.mg X.base k x ps (spF K dps dr F))(hr:Room k X.A)(hg:Gl X x)(ha:PA X (e::es) (tFA K false ds ds1 sh fa))(hcd:cV ds1 sh dps=true)(hdb:(x==("__debug__":Str))=false)
  (he:aD e=true) (hpl:es.all aD=true):
  PE X (.Call (.Name x px) (e::es) [] pos) (tF K false ds ds1 dr (am F fa)):=(wg G hr hg ha hdb (aR he) (fg hpl)).imp fun _ _ _ h=>Kb hcd h
def LB(ho:IxR X (rF2 K g d))(ha:PE X a (tF K p ds ds1 d1 f1))(hb:PE X b (tF K p ds1 ds2 d2 f2))(hs:eE b):PE X (.Subscript a b pos) (tF K p ds ds2 d (e2 g f1 f2)):=
 (rC ho ha hb hs).imp fun _ _ _ h=>oP (by rw[zbl];exact h)
def JY(hK:X.K=K)(hN:X.N[i]?=some x)(hv:Vis X.env.scope x)(h1:ds1[i]?=some 1)(hb:PE X b (tF K p ds ds1 d1 f))(hs:eE b)(hd:(x==("__debug__":Str))=false)(hcd:(x==("__classdict__":Str))=false):
  PE X (.Subscript (.Name x px) b pos) (tF K p ds ds1 0 (dN i f)):=(rC (Md hK) (dz hN hv hd hcd) hb hs).imp fun _ _ _=>LO h1
def J6{c:Nat}(hK:X.K=K)(hN:X.N[i]?=some x)(hv:Vis X.env.scope x)(h1:ds1[i]?=some d)(he:PE X e (tF K false ds ds1 c f))(hz:d≠0)(hc:dn d=c)
  (hd:(x==("__debug__":Str))=false) (hcd:(x==("__classdict__":Str))=false)
  (η:attributeBase (.Name x px) "append" X.env (eval (.Name x px) X.env)=eval (.Name x px) X.env)
  (hfew:((backTo ω (starEach [e] X.env)).all (fun x=>!x.1)&&(backToKw ω (keywordEach [] X.env)).all (fun x=>x.1.isSome)&&decide (([e]:List Expr).length+([]:List Keyword).length+(if([]:List Keyword).isEmpty then 0 else 1)<30))=true)
  (θ:(μ.endLine==ω.line)=true) (hs:starEach [e] X.env=[(false,eval e X.env)]) (ι:(backTo ω (starEach [] X.env)).any (·.1)=false):
  PE X (.Call (.Attribute (.Name x px) "append" μ) [e] [] ω) (tF K false ds ds1 3 (cc i f)):=by
 subst hK;exact(Dd PySem.F.plainAttrs_list PySem.F.slot_list_append PySem.F.type_list_append lh (dz hN hv hd hcd) (cZ he pa_nil hs) η hfew θ hs ι).imp fun _ _ _=>LR h1 hz hc
def JS{c:Nat}(hK:X.K=K)(hN:X.N[i]?=some x)(hv:Vis X.env.scope x)(h1:ds[i]?=some d)(hz:d≠0)(hc:dn d=c)
  (hd:(x==("__debug__":Str))=false) (hcd:(x==("__classdict__":Str))=false)
  (η:attributeBase (.Name x px) "pop" X.env (eval (.Name x px) X.env)=eval (.Name x px) X.env) (θ:(μ.endLine==ω.line)=true):
  PE X (.Call (.Attribute (.Name x px) "pop" μ) [] [] ω) (tF K false ds ds c (iI i)):=by
 subst hK;exact(xN PySem.F.plainAttrs_list PySem.F.slot_list_pop PySem.F.type_list_pop IP (dz hN hv hd hcd) η θ).imp fun _ _ _=>LJ h1 hz hc
def cY:MT:=fun en=>some (true,en)
def EC:PTs X [] (tFT K p ds ds cY):=pts_nil.imp fun σ H Q ⟨Ox,en,R,b,en',e,hf,k⟩=>by
 cases hf;exact k H R (Post.refl e)
def EB(hc:PT X c (tFT K p ds ds1 c1)):PTs X [c] (tFT K p ds ds1 c1):=DW hc
def LA{g:MG}(B:BlkOkC X scope ns js)(hc:X.calm=true)(hi:PI X tg iter (tFI K p ds ds1 fi))
  (hg:∀C cl s₀ H₀ fp,PG (aX X scope ns C cl s₀ H₀ fp) tg (tFG K lk dsi dsi g)) (ht:∀C cl s₀ H₀ fp,PTs (aX X scope ns C cl s₀ H₀ fp) ifs (tFT K true dsi dsi c1)) (he:∀C cl s₀ H₀ fp,PE (aX X scope ns C cl s₀ H₀ fp) elt (tF K true dsi dsi cd f))
  (hcap:jr ds1 js dsi=true) (hd:dn d=cd) (hz:d≠0) (hlk:lk=jq js 0)
  (hs:∀x,foldedSetIterable iter X.env x=pure x):PE X (.ListComp elt [⟨tg,iter,ifs,0⟩] scope pos) (tF K p ds ds1 d (eLC true fi g c1 f js)):=
 (IE B hc hi hg ht he hs).imp fun _ _ _ h=>Ka hcap hd hz hlk (by rw[zb5];exact h)
end
section
variable{a c:Expr}{rest body wE:List Stmt}{m:MS}{g:MG}{gs:List D->En->Option En} 
def EM:PSs X [] (tFS K J ds ds aS):=pss_nil.imp fun _ _ _=>JC
def Au(h1:PS X st (tFS K J ds ds1 m1))(h2:PSs X rest (tFS K J ds1 ds2 m2)):PSs X (st::rest) (tFS K J ds ds2 (aj m1 m2)):=(zE h1 h2).imp fun _ _ _=>JA
def EL(h1:PS X st (tFS K J ds ds1 m1)):PSs X [st] (tFS K J ds ds1 m1):=DY h1
def EK(h:PSs X rest (tFS K J ds ds2 m))(hd:leD ds1 ds2=true):PSs X rest (tFS K J ds ds1 m):=h.imp fun _ _ _=>yk hd
def EU(he:PE X e (tF K false ds ds1 d f))(hs:swapsWith e none pos.line X.env=pure false):PS X (.Expr e pos) (tFS K J ds ds1 (bI f)):=(DZ he hs).imp fun _ _ _=>JE
def ES(he:PE X e (tF K false ds ds1 J.dr f))(hd:leD J.dsr ds1=true):PS X (.Return (some e) pos) (tFS K J ds ds' (ay f)):=(Ix he).imp fun _ _ _=>JB hd
def JF(hc:PT X c (tFT K false ds ds1 c1))(ha:PSs X body (tFS K J ds1 ds2 m1))(hb:PSs X wE (tFS K J ds1 ds2 m2)):PS X (.If c body wE pos) (tFS K J ds ds2 (sIf c1 m1 m2)):=(K6 hc ha hb).imp fun _ _ _=>Ls
def ER(hN:X.N.Nodup)(hi:X.N[i]?=some x)(hx:Loc X.env.scope x)(he:PE X e (tF K false ds ds1 d f))(hds:ds1.set i d=ds')(hl:i<ds1.length)(hk:i∉J.lk)
  (hs:swapsWith e (some (.Name x pos')) pos.line X.env=pure false) (hf:X.fn x=true\/X.env.scope.names.lookup x=some .local):
  PS X (.Assign [.Name x pos'] e pos) (tFS K J ds ds' (ao i f)):=by
 subst hds;exact(Iw hN hi hx he hs hf).imp fun _ _ _=>ym hl hk
def yq(hN:X.N.Nodup)(hi':X.N[i]?=some x)(hx:X.env.scope.names.lookup x=some .local)(B:BlkOkC X scope ns js)(hc:X.calm=true)(hi:PI X tg iter (tFI K false ds ds1 fi))
  (hg:∀C cl s₀ H₀ fp,PG (aX X scope ns C cl s₀ H₀ fp) tg (tFG K lk dsi dsi g)) (ht:∀C cl s₀ H₀ fp,PTs (aX X scope ns C cl s₀ H₀ fp) ifs (tFT K q dsi dsi c1)) (he:∀C cl s₀ H₀ fp,PE (aX X scope ns C cl s₀ H₀ fp) elt (tF K q dsi dsi cd f))
  (hds:ds1.set i d=ds') (hcap:jr ds1 js dsi=true) (hd:dn d=cd) (hz:d≠0) (hlk:lk=jq js 0) (hl:i<ds1.length) (hk:i∉J.lk)
  (hsw:swapsWith (.ListComp elt [⟨tg,iter,ifs,0⟩] scope pos) (some (.Name x pos')) ζ.line X.env=pure true)
  (hs:∀x,foldedSetIterable iter X.env x=pure x):PS X (.Assign [.Name x pos'] (.ListComp elt [⟨tg,iter,ifs,0⟩] scope pos) ζ) (tFS K J ds ds' (ao i (eLC q fi g c1 f js))):=by
 subst hds;exact(xG hN hi' hx B hc hi hg ht he hsw hs).imp fun D σ H h=>Ka (p:=false) hcap hd hz hlk (ym (p:=false&&q) hl hk h)
def Ax{c:Nat}{k:Expr}(hN:X.N[i]?=some x)(hv:Vis X.env.scope x)(he:PE X e (tF K false ds ds1 c fe))(hk:PE X k (tF K false ds1 ds2 d2 fk))(h1:ds2[i]?=some d)(hz:d≠0)(hc:dn d=c)
  (hdb:(x==("__debug__":Str))=false) (hcd:(x==("__classdict__":Str))=false)
  (ha:∀v,assign (.Subscript (.Name x px) k ζ) X.env v=(do
   let ov <-holding [v] (eval (.Name x px) X.env);let iv <-holding [v,ov] (eval k X.env)
   standAt ζ
   holding [v,ov,iv] (setItem ov iv v)
   release [v,ov,iv] []))
  (hs:swapsWithSole [.Subscript (.Name x px) k ζ] e pos.line X.env=pure false) (hw:swappedStores [.Subscript (.Name x px) k ζ] e X.env=pure none)
  (h2:(assignEach [.Subscript (.Name x px) k ζ] X.env).map (·.2)=[assign (.Subscript (.Name x px) k ζ) X.env]):
  PS X (.Assign [.Subscript (.Name x px) k ζ] e pos) (tFS K J ds ds2 (cE i fk fe)):=
 (xH he (xK (dz hN hv hdb hcd) hk rS ha) hs hw h2).imp fun _ _ _=>EN h1 hz hc
def AG(hN:X.N.Nodup)(hi:X.N[i]?=some x)(hx:Loc X.env.scope x)(hds:ds.set i 0=ds')(hl:i<ds.length)(hk:i∉lk)(hf:X.fn x=true\/X.env.scope.names.lookup x=some .local):
  PG X (.Name x pos) (tFG K lk ds ds' (gN i)):=by
 subst hds;exact(D5 hN hi hx hf).imp fun _ _ _ _=>Fe hl hk
def AE:PGs X [] (gS K lk ds ds gs0):=pgs_nil.imp fun _ _ _ _=>Fc
def yz(h1:PG X e (tFG K lk ds ds1 g))(h2:PGs X es (gS K lk ds1 ds2 gs))(hs:(assignEach (e::es) X.env).map (·.2)=assign e X.env::(assignEach es X.env).map (·.2)):PGs X (e::es) (gS K lk ds ds2 (gsC g gs)):=(zJ h1 h2 hs).imp fun _ _ _ _=>AF
def mH{g2:MG}:∀ts en,(∃en',gsC g1 (gsC g2 gs0) ts en=some en')->ts.length=2:=fun ts en ⟨en',h⟩=>by
 match ts,h with
 |[],h=>cases h
 |[_],h=>
  obtain⟨_,_,h⟩:=zaa.mp h;cases h
 |[_,_],_=>rfl
 |a::b::c::r,h=>
  obtain⟨_,_,h⟩:=zaa.mp h;obtain⟨_,_,h⟩:=zaa.mp h;cases h
def Fd(hK:X.K=K)(hc:X.calm=true)(h:PGs X es (gS K lk ds ds1 gs))(hl:∀ts en,(∃en',gs ts en=some en')->ts.length=n)(hn:(assignEach es X.env).length=n)(hst:(assignEach es X.env).findIdx? (·.1)=none):
  PG X (.Tuple es k pos) (tFG K lk ds ds1 (gT gs)):=by
 subst hK;exact(IA hc h hn hst).imp fun _ _ _ _=>JN hl
def ET(hc:X.calm=true)(hi:PI X tg iter (tFI K false ds ds1 fi))(hg:PG X tg (tFG K J.lk ds1 ds2 g))(hb:PSs X body (tFS K { J with dsl:=ds1 } ds2 ds1 m))(hp:PassesOwn (model X.prog X.w) X.A X.env X.xe)
  (hs:∀x,foldedSetIterable iter X.env x=pure x):PS X (.For tg iter body [] pos) (tFS K J ds ds1 (bT fi g m)):=(Iy hp hc hi hg hb hs).imp fun _ _ _=>JD
def yn(hc:PT X c (tFT K false ds ds1 c1))(hb:PSs X body (tFS K { J with dsl:=ds } ds1 ds m))(hp:PassesOwn (model X.prog X.w) X.A X.env X.xe):PS X (.While c body [] pos) (tFS K J ds ds1 (bR c1 m)):=(zF hp hc hb).imp fun _ _ _=>Av
end
def C8:D->Option (List D)
 |.list ts=>some ts
 |.tuple ts=>some ts
 |.str z=>some ((li z).map fun c=>.str (mk1 c))
 |_=>none
def bt(f:ME):MI:=fun en=>(f en).bind fun r=>(C8 r.1).map fun ts=>(ts,r.2)
section
variable{F:AS}
def bM(h1:∀a o,H0 a=some o->¬O a->H a=some o)(h2:∀a,O1 a->O a\/H0 a=none):Mv O O1 NoA H0 H:=⟨fun a o q z=>z.elim (h1 a o q) fun z=>z.elim,h2⟩
def xg(h:FzL K O H0 a vs)(ho:Ows K O H0 ts 0 vs NoA):ju K O H0 (Itl K a) ts:=fun i H O1 h1 h2 h3=>by
 have sq:=(h.mv (bM h1 h2)).sq;refine⟨fun t ht=>?_,fun hl=>⟨vs,sq,by rw[ho.len];omega⟩⟩;obtain⟨v,hv,ov⟩:=ho.get ht;refine⟨⟨vs,v,sq,hv⟩,fun x H1 ⟨e,y⟩=>?_⟩;subst e;have e2:=y vs sq;rw[hv]at e2;cases e2;exact⟨fun _ _ q=>q,Ow.mv (bM h1 h2) t (fun _ z=>z) ov⟩
def y8(h:FzT K O H0 a vs)(ho:Ows K O H0 ts 0 vs NoA):ju K O H0 (Itt K a) ts:=fun i H O1 h1 h2 h3=>by
 have sq:=(h.mv (bM h1 h2)).sq;refine⟨fun t ht=>?_,fun hl=>⟨vs,sq,by rw[ho.len];omega⟩⟩;obtain⟨v,hv,ov⟩:=ho.get ht;refine⟨⟨vs,v,sq,hv⟩,fun x H1 ⟨e,y⟩=>?_⟩;subst e;have e2:=y vs sq;rw[hv]at e2;cases e2;exact⟨fun _ _ q=>q,Ow.mv (bM h1 h2) t (fun _ z=>z) ov⟩
def y9:ju K O H0 (Its z) ((li z).map fun c=>.str (mk1 c)):=fun i H O1 h1 h2 h3=>by
 refine⟨fun t ht=>?_,fun hl=>?_⟩
 ·rw[zao]at ht;obtain⟨c,hc,e⟩:=zab.mp ht;have hi:i<z.cps.size:=by
   have:=(zah.mp hc).1;simpa[li]using this
  have hc':z.cps[i]?=some c:=by
   have:z.cps.toList[i]?=some c:=hc;simpa using this
  refine⟨hi,fun x H1 ⟨e1,c',e2,e3⟩=>?_⟩;subst e1 e e3;rw[hc']at e2;cases e2;exact⟨fun _ _ q=>q,rfl⟩
 ·have:z.cps.size=i:=by
   rw[zad]at hl;simpa[li]using hl
  show z.cps.size<=i;omega
def zb{lo:Int}:ju K O H0 (Itr lo n) ((List.range n).map fun k=>.int (lo+(k:Nat))):=fun i H O1 h1 h2 h3=>by
 refine⟨fun t ht=>?_,fun hl=>?_⟩
 ·rw[zao]at ht;obtain⟨c,hc,e⟩:=zab.mp ht;have hi:=(zah.mp hc).1;rw[zbf]at hi;rw[zby hi]at hc;cases hc;refine⟨hi,fun x H1 ⟨e1,e2⟩=>?_⟩;subst e1 e e2;exact⟨fun _ _ q=>q,rfl⟩
 ·rw[zad,zbf]at hl;show n<=i;omega
def u0{p:Addr}(hp:H p=none)(h3:∀a,O1 a->∃o,H a=some o)(ov:Ow K O1 H t 0 v NoA):(∀a o,H a=some o->upd H p (.tup [.int i,v]) a=some o)/\Ow K O1 (upd H p (.tup [.int (i:Nat),v])) (.tuple [.int i,t]) 0 (.ref p) NoA:=by
 have g:=(bB (o:=.tup [.int i,v]) hp).1;refine⟨g,p,[.int i,v],rfl,.inl ⟨rfl,⟨aA,fun z=>?_⟩,.int i,[v],NoA,NoA,rfl,fun _ z=>z,fun _ z=>z,fun _ z=>z.elim,rfl,v,[],NoA,NoA,rfl,fun _ z=>z,fun _ z=>z,fun _ z=>z.elim,?_,rfl⟩⟩
 ·obtain⟨o,q⟩:=h3 p z;rw[hp]at q;cases q
 ·exact Ow.mv (G:=NoA) ⟨fun a o q _=>g a o q,fun a z=>.inl z⟩ t (fun _ z=>z) ov
def eW(ts:List D):List D:=ts.zipIdx.map fun p=>.tuple [.int (p.2:Nat),p.1]
def gK{u:D}(h:(eW ts)[i]?=some u):∃t,ts[i]?=some t/\u=.tuple [.int (i:Nat),t]:=by
 unfold eW at h;rw[zao]at h;obtain⟨⟨t,k⟩,h1,h2⟩:=zab.mp h;rw[List.getElem?_zipIdx]at h1;obtain⟨t',h3,h4⟩:=zab.mp h1;cases h4;refine⟨t,h3,?_⟩;rw[<-h2,za4]
def fw:(eW ts).length=ts.length:=by unfold eW;rw[zad,List.length_zipIdx]
def xi(h:FzL K O H0 a vs)(ho:Ows K O H0 ts 0 vs NoA):ju K O H0 (Ite K a) (eW ts):=fun i H O1 h1 h2 h3=>by
 have sq:=(h.mv (bM h1 h2)).sq;refine⟨fun u hu=>?_,fun hl=>⟨vs,sq,by rw[fw]at hl;rw[ho.len];omega⟩⟩;obtain⟨t,ht,rfl⟩:=gK hu;obtain⟨v,hv,ov⟩:=ho.get ht;refine⟨⟨vs,v,sq,hv⟩,fun x H1 ⟨p,v',e1,hp,e2,y⟩=>?_⟩;have e3:=y vs sq;rw[hv]at e3;cases e3;subst e1 e2;exact u0 hp h3 (Ow.mv (bM h1 h2) t (fun _ z=>z) ov)
def vP(h:FzT K O H0 a vs)(ho:Ows K O H0 ts 0 vs NoA):ju K O H0 (ItT K a) (eW ts):=fun i H O1 h1 h2 h3=>by
 have sq:=(h.mv (bM h1 h2)).sq;refine⟨fun u hu=>?_,fun hl=>⟨vs,sq,by rw[fw]at hl;rw[ho.len];omega⟩⟩;obtain⟨t,ht,rfl⟩:=gK hu;obtain⟨v,hv,ov⟩:=ho.get ht;refine⟨⟨vs,v,sq,hv⟩,fun x H1 ⟨p,v',e1,hp,e2,y⟩=>?_⟩;have e3:=y vs sq;rw[hv]at e3;cases e3;subst e1 e2;exact u0 hp h3 (Ow.mv (bM h1 h2) t (fun _ z=>z) ov)
end
def bC(fa:MA):MI:=fun en=>(fa en).bind fun r=>match r.1 with
 |[.inl (.int j)]=>if -(2 ^ 62)<=j/\j<2 ^ 62 then some ((List.range j.toNat).map fun k=>.int (0+(k:Nat)),r.2)else none
 |_=>none
def iG(fa:MA):MI:=fun en=>(fa en).bind fun r=>match r.1 with
 |[.inl (.list ts)]=>some (eW ts,r.2)
 |[.inl (.tuple ts)]=>some (eW ts,r.2)
 |_=>none
section
variable{l:Expr}  
def JM(hK:X.K=K)(hl:PE X l (tF K p ds ds1 d f)):PI X tg l (tFI K p ds ds1 (bt f)):=by
 subst hK;intro ρ s σ H R I h;obtain⟨Ox,en,Rg,ts,en',e,hf,k⟩:=h;unfold bt at hf;obtain⟨⟨t,en1⟩,h1,hf⟩:=zaa.mp hf;obtain⟨ts',h2,hf⟩:=zab.mp hf;cases hf;refine thn (hl ρ s σ H (fun v H1=>∃R1,Post X.K p ds1 Ox σ H en Rg en1 H1 R1 NoA/\Ow X.K (Own R1 Ox) H1 t 0 v NoA) I ⟨Ox,en,Rg,t,en1,e,h1,fun v H1 R1 F P o=>⟨R1,P.less fun _ z=>z.elim,Ow.letgo P (fun _ z=>z) o⟩⟩) fun v s1 ⟨x,H1,I1,r1,R1,P,o⟩=>?_;cases t with
 |list ts0=>
  cases h2;obtain⟨a,vs,e1,⟨_,fz,ow⟩|⟨z,_⟩⟩:=o
  ·subst e1;cases r1;obtain⟨its,rv,pl,hz⟩:=I1.list fz.sq;refine wpAny_pyIter_list pl.isList ?_;refine⟨s1.heap.objs.size,[s1.heap.objs.size],_,_,H1,rfl,I1.kept (t':=s1.toks) fun b o e=>zaf _ e,xl a _,⟨_,zan _ rfl,rfl,rfl⟩,fun b hb=>?_,k _ H1 R1 P (xg fz ow)⟩;have e:b=s1.heap.objs.size:=by simpa using hb
   subst e;exact I1.fpOk (zav _) (I1.hok.fresh (zav _))
  ·exact absurd rfl z
 |tuple ts0=>
  cases h2;obtain⟨a,vs,e1,⟨_,fz,ow⟩|⟨z,_⟩⟩:=o
  ·subst e1;cases r1;obtain⟨its,rv,pl,hz⟩:=I1.tuple fz.sq;refine wpAny_pyIter_tuple (show s1.heap.IsTuple a its.toArray from pl) ?_;refine⟨s1.heap.objs.size,[s1.heap.objs.size],_,_,H1,rfl,I1.kept (t':=s1.toks) fun b o e=>zaf _ e,vS a _,⟨_,zan _ rfl,rfl,rfl⟩,fun b hb=>?_,k _ H1 R1 P (y8 fz ow)⟩;have e:b=s1.heap.objs.size:=by simpa using hb
   subst e;exact I1.fpOk (zav _) (I1.hok.fresh (zav _))
  ·exact absurd rfl z
 |str z=>
  cases h2;have e1:x=.str z:=o;subst e1;obtain⟨t,rfl⟩:=r1;have fin:∀(ty:String) (o:Obj),(ty="str_ascii_iterator"\/ty="str_iterator")->(s1.heap.push o).IsStrIter s1.heap.objs.size ty z t 0->PIE X ρ σ tg R (.ref s1.heap.objs.size) { s1 with heap:=s1.heap.push o }:=fun ty o hty st=>by
   refine⟨s1.heap.objs.size,[s1.heap.objs.size],_,_,H1,rfl,I1.kept (t':=s1.toks) fun b o e=>zaf _ e,zg _ z t ty hty,st,fun b hb=>?_,k _ H1 R1 P y9⟩;have e:b=s1.heap.objs.size:=by simpa using hb
   subst e;exact I1.fpOk (zav _) (I1.hok.fresh (zav _))
  cases ha:z.cps.all (·<128)
  ·exact wpAny_pyIter_wide ha (fin _ _ (.inr rfl) ⟨_,zan _ rfl,rfl,rfl⟩)
  ·exact wpAny_pyIter_ascii ha (fin _ _ (.inl rfl) ⟨_,zan _ rfl,rfl,rfl⟩)
 |_=>cases h2
def E8{a:Expr}(hg:Gl X "range")(hm:X.mg "range"=none)(ha:PA X [a] (tFA K p ds ds1 sh fa))(hs:aD a=true):PI X tg (.Call (.Name "range" px) [a] [] pos) (tFI K p ds ds1 (bC fa)):=
 (xJ hg hm ha (aR hs)).imp fun σ H R ⟨Ox,en,Rg,ts,en',e,hf,k⟩=>by
  unfold bC at hf;obtain⟨⟨as,en1⟩,h1,hf⟩:=zaa.mp hf;refine⟨Ox,en,Rg,as,en1,e,h1,fun vs H1 R1 F P o=>?_⟩
  dsimp only at hf
  split at hf
  case h_2=>cases hf
  next j=>
  by_cases hj:-(2 ^ 62)<=j/\j<2 ^ 62
  case neg=>rw[if_neg hj]at hf;cases hf
  rw[if_pos hj]at hf;cases hf;obtain⟨v,r,d,dr,F1,F2,e1,e2,_,_,_,o1,o2⟩:=o;obtain⟨_,o2⟩:=o2;subst e1 o2;have ev:v=.int j:=o1;subst ev;exact⟨j,rfl,hj.1,hj.2,k _ H1 R1 (P.less fun _ z=>z.elim) zb⟩
def E9(hK:X.K=K)(hg:Gl X "enumerate")(hm:X.mg "enumerate"=none)(ha:PA X [l] (tFA K p ds ds1 sh fa))(hs:starEach [l] X.env=[(false,eval l X.env)]):
  PI X (.Tuple elts k tp) (.Call (.Name "enumerate" px) [l] [] pos) (tFI K p ds ds1 (iG fa)):=by
 subst hK;intro ρ s σ H R I h;obtain⟨Ox,en,Rg,ts,en',e,hf,k⟩:=h;unfold iG at hf;obtain⟨⟨as,en1⟩,h1,hf⟩:=zaa.mp hf;refine Call_ (eP I hg hm boot_enumerate (PyProof.Rows.callWith_type1 (thn (ha pos ρ s σ H (fun vs H1=>∃R1 t v,as=[.inl t]/\vs=[v]/\Post X.K p ds1 Ox σ H en Rg en1 H1 R1 NoA/\Ow X.K (Own R1 Ox) H1 t 0 v NoA) I ⟨Ox,en,Rg,as,en1,e,h1,fun vs H1 R1 F P o=>?_⟩) fun us s1 ⟨vs,H1,I1,r1,R1,t,v,ea,ev,P,o⟩=>?_) hs rfl))
 ·have one:∃t,as=[.inl t]:=by
   dsimp only at hf
   split at hf
   ·exact⟨_,rfl⟩
   ·exact⟨_,rfl⟩
   ·cases hf
  obtain⟨t,rfl⟩:=one;obtain⟨v,r,d,dr,F1,F2,e1,e2,s1,_,_,o1,o2⟩:=o;obtain⟨_,o2⟩:=o2;subst o2;exact⟨R1,t,v,rfl,e1,P.less fun _ z=>z.elim,Ow.letgo P s1 o1⟩
 subst ea ev;obtain⟨u,rfl,ru⟩:=cS r1;cases t with
 |list ts0=>
  cases hf;obtain⟨a,vs,e1,⟨_,fz,ow⟩|⟨z,_⟩⟩:=o
  ·subst e1;cases ru;obtain⟨its,rv,pl,hz⟩:=I1.list fz.sq;refine call_enumerate_list pl.isList fun h' hE hI hsz hk=>?_;refine wpAny_pyIter_enum hE ?_;have I2:Inv X ρ σ H1 { s1 with heap:=h' }:=I1.kept (t':=s1.toks) hk;refine⟨s1.heap.objs.size+1,[s1.heap.objs.size+1,s1.heap.objs.size],_,_,H1,rfl,I2,xn a _ _ (Nat.succ_ne_self _),⟨⟨_,hE⟩,hI⟩,fun b hb=>?_,k _ H1 R1 P (xi fz ow)⟩;have hb':b=s1.heap.objs.size+1\/b=s1.heap.objs.size:=by simpa using hb
   rcases hb' with rfl|rfl
   ·exact I1.fpOk (Nat.le_succ _) (I1.hok.fresh (Nat.le_succ _))
   ·exact I1.fpOk (zav _) (I1.hok.fresh (zav _))
  ·exact absurd rfl z
 |tuple ts0=>
  cases hf;obtain⟨a,vs,e1,⟨_,fz,ow⟩|⟨z,_⟩⟩:=o
  ·subst e1;cases ru;obtain⟨its,rv,pt,hz⟩:=I1.tuple fz.sq;have hT:s1.heap.IsTuple a its.toArray:=pt;have hlt:a<s1.heap.objs.size:=by
    obtain⟨o,e1,_⟩:=id hT;exact zal e1
   refine rn hT fun h' hE hI hsz hk=>?_;refine wpAny_pyIter_enum hE ?_;have I2:Inv X ρ σ H1 { s1 with heap:=h' }:=I1.kept (t':=s1.toks) hk;refine⟨s1.heap.objs.size+1,[s1.heap.objs.size+1,s1.heap.objs.size],_,_,H1,rfl,I2,vU a _ _ (Nat.succ_ne_self _) (zaw hlt),⟨⟨_,hE⟩,hI⟩,fun b hb=>?_,k _ H1 R1 P (vP fz ow)⟩;have hb':b=s1.heap.objs.size+1\/b=s1.heap.objs.size:=by simpa using hb
   rcases hb' with rfl|rfl
   ·exact I1.fpOk (Nat.le_succ _) (I1.hok.fresh (Nat.le_succ _))
   ·exact I1.fpOk (zav _) (I1.hok.fresh (zav _))
  ·exact absurd rfl z
 |_=>cases hf
end
def NewTo.refl:NewTo H H NoA:=⟨fun _ _ q=>q,fun _ z=>z.elim⟩
def OpR.imp{fn:Value->Value->Sem Value}{r r':R2}(h:OpR X fn r)(hi:∀x y H Q,r' x y H Q->r x y H Q):OpR X fn r':=fun ρ s σ H x y v u Q I rx ry q=>h ρ s σ H x y v u Q I rx ry (hi _ _ _ _ q)
def OpR.or'{fn:Value->Value->Sem Value}{r r':R2}(h:OpR X fn r)(h':OpR X fn r'):OpR X fn (fun x y H Q=>r x y H Q\/r' x y H Q):=fun ρ s σ H x y v u Q I rx ry q=>q.elim (h ρ s σ H x y v u Q I rx ry) (h' ρ s σ H x y v u Q I rx ry)
def UnR.imp{fn:Value->Sem Value}{r r':V->Hp->VK->Prop}(h:UnR X fn r)(hi:∀x H Q,r' x H Q->r x H Q):UnR X fn r':=fun ρ s σ H x v Q I rx q=>h ρ s σ H x v Q I rx (hi _ _ _ q)
def CallR.imp(h:CallR X fn r)(hi:∀x H Q,r' x H Q->r x H Q):CallR X fn r':=fun ρ s σ H x v Q I rx q=>h ρ s σ H x v Q I rx (hi _ _ _ q)
def CallR.or'(h:CallR X fn r)(h':CallR X fn r'):CallR X fn (fun x H Q=>r x H Q\/r' x H Q):=fun ρ s σ H x v Q I rx q=>q.elim (h ρ s σ H x v Q I rx) (h' ρ s σ H x v Q I rx)
def IxR.imp{r r':R2}(h:IxR X r)(hi:∀x y H Q,r' x y H Q->r x y H Q):IxR X r':=fun value slice ρ s σ H x y v u Q I rx ry q=>h value slice ρ s σ H x y v u Q I rx ry (hi _ _ _ _ q)
section
variable{ws:List V}{x:V} 
def bv(hl:H l=none)(hd:∀a,O a->∃o,H a=some o)(h:Ows K O H ts 0 vs NoA):NewTo H (upd H l (.lst vs)) (fun b=>b=l)/\Ow K (U (fun b=>b=l) O) (upd H l (.lst vs)) (.list ts) 1 (.ref l) (fun b=>b=l):=by
 refine⟨bB hl,l,vs,rfl,.inr ⟨by decide,aA,rfl,NoA,fun _ z=>z.elim,?_⟩⟩;refine Ows.mv (G:=NoA) ⟨fun a o q _=>(bB (o:=.lst vs) hl).1 a o q,fun a z=>?_⟩ ts (fun _ z=>z) h;rcases z with z|z
 ·exact .inr (by rw[show a=l from z];exact hl)
 ·exact .inl z
def u3(hl:H l=none)(hd:∀a,O a->∃o,H a=some o)(h:Ows K O H ts 0 vs NoA):NewTo H (upd H l (.tup vs)) NoA/\Ow K (U NoA O) (upd H l (.tup vs)) (.tuple ts) 0 (.ref l) NoA:=by
 refine⟨⟨(bB hl).1,fun _ z=>z.elim⟩,l,vs,rfl,.inl ⟨rfl,⟨aA,fun z=>?_⟩,?_⟩⟩
 ·rcases z with z|z
  ·exact z
  ·obtain⟨o,q⟩:=hd l z;rw[hl]at q;cases q
 ·refine Ows.mv (G:=NoA) ⟨fun a o q _=>(bB (o:=.tup vs) hl).1 a o q,fun a z=>?_⟩ ts (fun _ z=>z) h;rcases z with z|z
  ·exact z.elim
  ·exact .inl z
theorem Ows.app:∀{ts:List D} {vs:List V},Ows K O H ts 0 vs NoA->Ows K O H us 0 ws NoA->Ows K O H (ts++us) 0 (vs++ws) NoA
 |[],_,h,h2=>by rw[show _=[]from h];exact h2
 |t::ts,_,h,h2=>by
  obtain⟨v,r,F1,F2,e,_,_,_,h4,h5⟩:=h;subst e;exact⟨v,r++ws,NoA,NoA,rfl,fun _ z=>z,fun _ z=>z,fun _ z=>z.elim,Ow.any0 t h4,Ows.app (Ows.any0 ts h5) h2⟩
theorem Ows.drop:∀{ts:List D} {vs:List V} (n:Nat),Ows K O H ts 0 vs NoA->Ows K O H (ts.drop n) 0 (vs.drop n) NoA
 |ts,vs,0,h=>h
 |[],_,n+1,h=>by rw[show _=[]from h];rfl
 |t::ts,_,n+1,h=>by
  obtain⟨v,r,F1,F2,e,_,_,_,h4,h5⟩:=h;subst e;exact Ows.drop n (Ows.any0 ts h5)
theorem Ows.take:∀{ts:List D} {vs:List V} (n:Nat),Ows K O H ts 0 vs NoA->Ows K O H (ts.take n) 0 (vs.take n) NoA
 |ts,vs,0,h=>rfl
 |[],_,n+1,h=>by rw[show _=[]from h];rfl
 |t::ts,_,n+1,h=>by
  obtain⟨v,r,F1,F2,e,_,_,_,h4,h5⟩:=h;subst e;exact⟨v,r.take n,NoA,NoA,rfl,fun _ z=>z,fun _ z=>z,fun _ z=>z.elim,Ow.any0 t h4,Ows.take n (Ows.any0 ts h5)⟩
def Ow.lst0(h:Ow K O H (.list ts) 0 v NoA):∃a vs,v=.ref a/\FzL K O H a vs/\Ows K O H ts 0 vs NoA:=by
 obtain⟨a,vs,e,⟨_,h1,h2⟩|⟨z,_⟩⟩:=h
 ·exact⟨a,vs,e,h1,h2⟩
 ·exact absurd rfl z
def Ow.tup0(h:Ow K O H (.tuple ts) 0 v NoA):∃a vs,v=.ref a/\FzT K O H a vs/\Ows K O H ts 0 vs NoA:=by
 obtain⟨a,vs,e,⟨_,h1,h2⟩|⟨z,_⟩⟩:=h
 ·exact⟨a,vs,e,h1,h2⟩
 ·exact absurd rfl z
def Ows.one(h:Ows K O H [t] 0 vs NoA):∃v,vs=[v]/\Ow K O H t 0 v NoA:=by
 obtain⟨v,r,F1,F2,e,_,_,_,h4,h5⟩:=h;rw[show r=[]from h5]at e;exact⟨v,e,Ow.any0 t h4⟩
def aY:D->D->Option D
 |.int a,.int b=>some (.int (a+b))
 |.str a,.str b=>if a.length+b.length<=sizeLine then some (.str (a++b))else none
 |_,_=>none
def bG:OpR X (binaryOp .Add) (rF2 K aY 3):=(op_add.or' wj).imp fun x y H Q ⟨O,a,b,t,oa,ob,hd,hg,k⟩=>by
 cases a with
 |int i=>cases b with
  |int j=>cases hg;exact .inl ⟨i,j,oa,ob,k _ H NoA .refl rfl⟩
  |_=>cases hg
 |str i=>cases b with
  |str j=>
   dsimp only[aY]at hg
   by_cases hl:i.length+j.length<=sizeLine
   ·rw[if_pos hl]at hg;cases hg;exact .inr ⟨i,j,oa,ob,hl,k _ H NoA .refl rfl⟩
   ·rw[if_neg hl]at hg;cases hg
  |_=>cases hg
 |_=>cases hg
def iF(g:Int->Int->Option D):D->D->Option D
 |.int a,.int b=>g a b
 |_,_=>none
def di{g:Int->Int->Option D}{a b:D}(h:iF g a b=some t):∃i j,a=.int i/\b=.int j/\g i j=some t:=by
 cases a with
 |int i=>cases b with
  |int j=>exact⟨i,j,rfl,rfl,h⟩
  |_=>cases h
 |_=>cases h
def fP:D->D->Option D:=iF fun a b=>some (.int (a-b))
def gI:OpR X (binaryOp .Sub) (rF2 K fP 3):=op_sub.imp fun x y H Q ⟨O,a,b,t,oa,ob,hd,hg,k⟩=>by
 obtain⟨i,j,rfl,rfl,h⟩:=di hg;cases h;exact⟨i,j,oa,ob,k _ H NoA .refl rfl⟩
instance (i j:Int):Decidable (CMul i j):=by unfold CMul;exact inferInstance
instance (i j:Int):Decidable (hC i j):=by unfold hC;exact inferInstance
instance (i j:Int):Decidable (ms i j):=by unfold ms;exact inferInstance
def cu:D->D->Option D:=iF fun a b=>if CMul a b then some (.int (a*b))else none
def iH:OpR X (binaryOp .Mult) (rF2 K cu 3):=op_mul.imp fun x y H Q ⟨O,a,b,t,oa,ob,hd,hg,k⟩=>by
 obtain⟨i,j,rfl,rfl,h⟩:=di hg;by_cases hc:CMul i j
 ·rw[if_pos hc]at h;cases h;exact⟨i,j,oa,ob,hc,k _ H NoA .refl rfl⟩
 ·rw[if_neg hc]at h;cases h
def cU:D->D->Option D:=iF fun a b=>if hC a b then some (.int (a / b))else none
def qa:OpR X (binaryOp .FloorDiv) (rF2 K cU 3):=op_fdiv.imp fun x y H Q ⟨O,a,b,t,oa,ob,hd,hg,k⟩=>by
 obtain⟨i,j,rfl,rfl,h⟩:=di hg;by_cases hc:hC i j
 ·rw[if_pos hc]at h;cases h;exact⟨i,j,oa,ob,hc,k _ H NoA .refl rfl⟩
 ·rw[if_neg hc]at h;cases h
def bH:D->D->Option D:=iF fun a b=>if 0<b then some (.int (a % b))else none
def gJ:OpR X (binaryOp .Mod) (rF2 K bH 3):=op_mod.imp fun x y H Q ⟨O,a,b,t,oa,ob,hd,hg,k⟩=>by
 obtain⟨i,j,rfl,rfl,h⟩:=di hg;by_cases hc:0<j
 ·rw[if_pos hc]at h;cases h;exact⟨i,j,oa,ob,hc,k _ H NoA .refl rfl⟩
 ·rw[if_neg hc]at h;cases h
def sf:D->D->Option D:=iF fun a b=>if ms a b then some (.int (a ^ b.toNat))else none
def JI:OpR X (binaryOp .Pow) (rF2 K sf 3):=op_pow.imp fun x y H Q ⟨O,a,b,t,oa,ob,hd,hg,k⟩=>by
 obtain⟨i,j,rfl,rfl,h⟩:=di hg;by_cases hc:ms i j
 ·rw[if_pos hc]at h;cases h;exact⟨i,j,oa,ob,hc,k _ H NoA .refl rfl⟩
 ·rw[if_neg hc]at h;cases h
def ltI:D->D->Option D:=iF fun a b=>some (.bool (decide (a<b)))
def leI:D->D->Option D:=iF fun a b=>some (.bool (decide (a<=b)))
def gtI:D->D->Option D:=iF fun a b=>some (.bool (decide (b<a)))
def geI:D->D->Option D:=iF fun a b=>some (.bool (decide (b<=a)))
def mI:OpR X (compareOp .Lt) (rF2 K ltI 3):=op_lt.imp fun x y H Q ⟨O,a,b,t,oa,ob,hd,hg,k⟩=>by
 obtain⟨i,j,rfl,rfl,h⟩:=di hg;cases h;exact⟨i,j,oa,ob,k _ H NoA .refl rfl⟩
def wH:OpR X (compareOp .LtE) (rF2 K leI 3):=op_le.imp fun x y H Q ⟨O,a,b,t,oa,ob,hd,hg,k⟩=>by
 obtain⟨i,j,rfl,rfl,h⟩:=di hg;cases h;exact⟨i,j,oa,ob,k _ H NoA .refl rfl⟩
def rG:OpR X (compareOp .Gt) (rF2 K gtI 3):=op_gt.imp fun x y H Q ⟨O,a,b,t,oa,ob,hd,hg,k⟩=>by
 obtain⟨i,j,rfl,rfl,h⟩:=di hg;cases h;exact⟨i,j,oa,ob,k _ H NoA .refl rfl⟩
def Dw:OpR X (compareOp .GtE) (rF2 K geI 3):=op_ge.imp fun x y H Q ⟨O,a,b,t,oa,ob,hd,hg,k⟩=>by
 obtain⟨i,j,rfl,rfl,h⟩:=di hg;cases h;exact⟨i,j,oa,ob,k _ H NoA .refl rfl⟩
def pZ:D->Bool
 |.none=>true
 |_=>false
def sQ{a:D}{F:AS}(h:Ow K O H a d x F):decide (x=.non)=pZ a:=by
 cases a with
 |none=>rw[show x=.non from h];rfl
 |bool b=>rw[show x=.bl b from h];rfl
 |int b=>rw[show x=.int b from h];rfl
 |str b=>rw[show x=.str b from h];rfl
 |list ts=>obtain⟨a,vs,e,_⟩:=h;rw[e];rfl
 |tuple ts=>obtain⟨a,vs,e,_⟩:=h;rw[e];rfl
 |dict ts=>obtain⟨a,vs,e,_⟩:=h;rw[e];rfl
def isN:D->D->Option D
 |a,.none=>some (.bool (pZ a))
 |_,_=>none
def fT:D->D->Option D
 |a,.none=>some (.bool (!pZ a))
 |_,_=>none
def jK:OpR X (compareOp .Is) (rF2 K isN 3):=op_isN.imp fun x y H Q ⟨O,a,b,t,oa,ob,hd,hg,k⟩=>by
 cases b with
 |none=>cases hg;exact⟨ob,by rw[sQ oa];exact k _ H NoA .refl rfl⟩
 |_=>cases hg
def eB:OpR X (compareOp .IsNot) (rF2 K fT 3):=op_notN.imp fun x y H Q ⟨O,a,b,t,oa,ob,hd,hg,k⟩=>by
 cases b with
 |none=>cases hg;exact⟨ob,by rw[sQ oa];exact k _ H NoA .refl rfl⟩
 |_=>cases hg
def ixA:D->D->Option D
 |.list ts,.int n=>atI ts n
 |.tuple ts,.int n=>atI ts n
 |.str z,.int n=>if z.length<=sizeLine then(atI z.cps.toList n).map fun c=>.str (mk1 c)else none
 |_,_=>none
def bQ(hK:X.K=K):IxR X (rF2 K ixA 0):=by
 subst hK;refine ix_seq.imp ?_;rintro x y H Q ⟨O,a,b,t,oa,ob,hd,hg,k⟩;cases b with
 |int n=>
  cases a with
  |list ts=>
   obtain⟨a,vs,e,fz,ow⟩:=oa.lst0;obtain⟨v,h1,h2⟩:=ow.atI hg;exact .inl ⟨a,vs,n,v,e,ob,fz.sq,h1,k v H NoA .refl (by rw[fq];exact h2)⟩
  |tuple ts=>
   obtain⟨a,vs,e,fz,ow⟩:=oa.tup0;obtain⟨v,h1,h2⟩:=ow.atI hg;exact .inr (.inl ⟨a,vs,n,v,e,ob,fz.sq,h1,k v H NoA .refl (by rw[fq];exact h2)⟩)
  |str z=>
   dsimp only[ixA]at hg
   by_cases hl:z.length<=sizeLine
   ·rw[if_pos hl]at hg;obtain⟨c,h1,h2⟩:=zab.mp hg;cases h2;exact .inr (.inr ⟨z,n,c,oa,ob,hl,h1,k _ H NoA .refl rfl⟩)
   ·rw[if_neg hl]at hg;cases hg
  |_=>cases hg
 |_=>cases a<;>cases hg
def nJ:D->D->Option D
 |.list a,.list b=>if a.length+b.length<=sizeLine then some (.list (a++b))else none
 |_,_=>none
end
def grd{α:Type}(c:Prop)[Decidable c](t:α):Option α:=if c then some t else none
def cK{α:Type}{c:Prop}[Decidable c]{t u:α}(h:grd c t=some u):c/\t=u:=by
 unfold grd at h;by_cases hc:c
 ·rw[if_pos hc]at h;exact⟨hc,zat h⟩
 ·rw[if_neg hc]at h;cases h
section
variable{ws:List V}{x:V} 
def K1(K:zb7):R2:=fun x y H Q=>∃l b xs zs,x=.ref l/\y=.ref b/\SqL K H l xs/\SqL K H b zs/\xs.length+zs.length<=sizeLine/\∀p,H p=none->Q (.ref p) (upd H p (.lst (xs++zs)))
def op_catL:OpR X (binaryOp .Add) (K1 X.K):=by
 intro ρ s σ H x y v u Q I rx ry h;obtain⟨l,b,xs,zs,rfl,rfl,hH,hB,hz,q⟩:=h;cases rx;cases ry;obtain⟨its,r,⟨⟨c1,dd,da1,sl⟩,n,ho,hc,hdd,hda⟩,_⟩:=I.list hH;obtain⟨ν,r2,⟨⟨c2,dd2,da2,sl2⟩,n2,ho2,hc2,hdd2,hda2⟩,_⟩:=I.list hB;have hl:=r.length;have hl2:=r2.length;simp only at hc hda hc2 hda2;subst hc hda hc2 hda2;refine concat_meets ⟨_,ho,rfl⟩ ⟨_,ho2,rfl⟩ noFill_list_add seq_list_add PySem.F.slot_list_add PySem.F.entry_list_add (PySem.F.args_list_add_2 _ _) (list_addW l b its.toArray ν.toArray n n2 dd dd2 sl sl2 (by simp only[zai];omega)) ⟨ho,ho2,?_⟩;have ea:its.toArray++ν.toArray=(its++ν).toArray:=by simp
 rw[ea];exact⟨.ref _,_,I.lnew (t':=s.toks) (r.append r2) (by rw[zae];omega),rfl,q _ I.fresh⟩
def E4(hK:X.K=K):OpR X (binaryOp .Add) (rF2 K nJ 1):=by
 subst hK;refine op_catL.imp ?_;rintro x y H Q ⟨O,a,b,t,oa,ob,hd,hg,k⟩;cases a with
 |list ts=>cases b with
  |list us=>
   dsimp only[nJ]at hg
   by_cases hl:ts.length+us.length<=sizeLine
   case neg=>rw[if_neg hl]at hg;cases hg
   rw[if_pos hl]at hg;cases hg;obtain⟨a,vs,e1,f1,w1⟩:=oa.lst0;obtain⟨b,ws,e2,f2,w2⟩:=ob.lst0;refine⟨a,b,vs,ws,e1,e2,f1.sq,f2.sq,by rw[w1.len,w2.len];exact hl,fun p hp=>?_⟩;obtain⟨n1,n2⟩:=bv hp hd (w1.app w2);exact k _ _ _ n1 n2
  |_=>cases hg
 |_=>cases hg
def KY(K:zb7):R2:=fun x y H Q=>∃l k xs,x=.ref l/\y=.int k/\SqL K H l xs/\-(2 ^ 63)<=k/\k<2 ^ 63/\xs.length*k.toNat<=sizeLine/\∀p,H p=none->Q (.ref p) (upd H p (.lst (List.replicate k.toNat xs).flatten))
def op_repL:OpR X (binaryOp .Mult) (KY X.K):=by
 intro ρ s σ H x y v u Q I rx ry h;obtain⟨l,k,xs,rfl,rfl,hH,h1,h2,hz,q⟩:=h;cases rx;obtain⟨t,rfl⟩:=ry;obtain⟨its,r,⟨⟨c1,dd,da1,sl⟩,n,ho,hc,hdd,hda⟩,_⟩:=I.list hH;have hl:=r.length;simp only at hc hda;subst hc hda;have ξ:its.toArray.size*k.toNat<=sizeLine:=by rw[zai,<-hl];exact hz
 have hcap:¬its.toArray.size*k.toNat>(2 ^ 63-1) / 8:=by
  have:(sizeLine:Nat)<=(2 ^ 63-1) / 8:=by decide
  omega
 have hfit:¬(!Builtin.List.listFitsIndex k)=true:=by
  rw[fitsIndex_both h1 h2];exact zbo
 have hlong:¬Builtin.List.listTooLong (its.toArray.size*k.toNat)=true:=by
  rw[zP ξ];exact zbo
 refine wpAny_binaryOp_repeat_ref (T:="list") (U:="int") (by decide) ⟨_,ho,rfl⟩ (fun s'=>typeIs_int s' k t) noFill_list_mul F.fills_int_mul F.slot_int_rmul repeat_list F.slot_int_index.lookup
  (call_meets F.slot_int_rmul (typeIs_int s k t) F.entry_int_rmul (F.args_int_rmul_2 _ _) (lm_int_rmul_list_any k t l its.toArray n dd sl)
   ⟨ho,rfl,⟨_,ho,rfl⟩,call_meets F.slot_list_mul ⟨_,ho,rfl⟩ F.entry_list_mul (F.args_list_mul_2 _ _)
    (lm_list_mul_any l its.toArray n dd sl k t hfit hcap hlong) ⟨ho,?_⟩⟩)
 rw[listMul_foldl_if];exact⟨.ref _,_,I.lnew (t':=s.toks) (r.rep k.toNat) (by rw[Em,Nat.mul_comm];exact hz),rfl,q _ I.fresh⟩
theorem Ows.rep(h:Ows K O H ts 0 vs NoA):∀n:Nat,Ows K O H (List.replicate n ts).flatten 0 (List.replicate n vs).flatten NoA
 |0=>rfl
 |n+1=>by
  rw[List.replicate_succ,List.replicate_succ,List.flatten_cons,List.flatten_cons];exact h.app (Ows.rep h n)
def wq:D->D->Option D
 |.list ts,.int k=>grd (-(2 ^ 63)<=k/\k<2 ^ 63/\ts.length*k.toNat<=sizeLine) (.list (List.replicate k.toNat ts).flatten)
 |_,_=>none
def vp(hK:X.K=K):OpR X (binaryOp .Mult) (rF2 K wq 1):=by
 subst hK;refine op_repL.imp ?_;rintro x y H Q ⟨O,a,b,t,oa,ob,hd,hg,k⟩;cases a with
 |list ts=>cases b with
  |int n=>
   obtain⟨⟨c1,c2,c3⟩,rfl⟩:=cK hg;obtain⟨a,vs,e1,f1,w1⟩:=oa.lst0;refine⟨a,n,vs,e1,ob,f1.sq,c1,c2,by rw[w1.len];exact c3,fun p hp=>?_⟩;obtain⟨n1,n2⟩:=bv hp hd (w1.rep n.toNat);exact k _ _ _ n1 n2
  |_=>cases hg
 |_=>cases hg
def Mw:D->D->Option D
 |.str z,.int k=>grd (z.length<=4000/\-(2 ^ 63)<=k/\k<=4000) (.str (Txt.mul z k))
 |_,_=>none
def nz:D->Option D
 |.int i=>some (.int (-i))
 |_=>none
def sZ:UnR X (unaryOp .USub) (rF1 K nz 3):=un_neg.imp fun x H Q ⟨O,a,t,oa,hd,hg,k⟩=>by
 cases a with
 |int i=>cases hg;exact⟨i,oa,k _ H NoA .refl rfl⟩
 |_=>cases hg
def bp:List D->Option D
 |[.list ts]=>some (.int ts.length)
 |[.tuple ts]=>some (.int ts.length)
 |[.str z]=>grd (z.length<=sizeLine) (.int z.length)
 |_=>none
def JJ(hK:X.K=K):CallR X (.builtin "len") (rFn K bp 3):=(Mc hK).imp fun xs H Q ⟨O,as,t,oa,hd,hg,k⟩=>by
 match as,hg with
 |[.list ts],hg=>
  cases hg;obtain⟨v,rfl,o⟩:=oa.one;obtain⟨a,vs,rfl,fz,w⟩:=o.lst0;exact⟨_,_,rfl,.inl ⟨vs,fz.sq,rfl⟩,by rw[w.len];exact k _ H NoA .refl rfl⟩
 |[.tuple ts],hg=>
  cases hg;obtain⟨v,rfl,o⟩:=oa.one;obtain⟨a,vs,rfl,fz,w⟩:=o.tup0;exact⟨_,_,rfl,.inr ⟨vs,fz.sq,rfl⟩,by rw[w.len];exact k _ H NoA .refl rfl⟩
 |[.str z],hg=>
  obtain⟨c,rfl⟩:=cK hg;obtain⟨v,rfl,o⟩:=oa.one;exact⟨_,_,rfl,by rw[show v=.str z from o];exact⟨c,rfl⟩,k _ H NoA .refl rfl⟩
def lP:List D->Option D
 |[.int i]=>some (.int (if i<0 then -i else i))
 |_=>none
def yv:CallR X (.builtin "abs") (rFn K lP 3):=call_abs.imp fun xs H Q ⟨O,as,t,oa,hd,hg,k⟩=>by
 match as,hg with
 |[.int i],hg=>
  cases hg;obtain⟨v,rfl,o⟩:=oa.one;exact⟨i,by rw[show v=.int i from o],k _ H NoA .refl rfl⟩
def lq:List D->Option D
 |[.int i]=>some (.int i)
 |[.bool b]=>some (.int (if b then 1 else 0))
 |_=>none
def yt:CallR X (.type "int") (rFn K lq 3):=call_int1.imp fun xs H Q ⟨O,as,t,oa,hd,hg,k⟩=>by
 match as,hg with
 |[.int i],hg=>
  cases hg;obtain⟨v,rfl,o⟩:=oa.one;exact .inl ⟨i,by rw[show v=.int i from o],k _ H NoA .refl rfl⟩
 |[.bool i],hg=>
  cases hg;obtain⟨v,rfl,o⟩:=oa.one;exact .inr ⟨i,by rw[show v=.bl i from o],k _ H NoA .refl rfl⟩
def vZ(z:Str):List D:=(li z).map fun c=>.str (mk1 c)
def ss:Ows K O H (vZ z) 0 (dY z) NoA:=by
 unfold vZ dY;show Ows K O H ((li z).map fun c=>.str (mk1 c)) 0 ((li z).map sgn) NoA;generalize li z=l
 induction l with
 |nil=>rfl
 |cons c r ih=>exact⟨sgn c,r.map sgn,NoA,NoA,rfl,fun _ z=>z,fun _ z=>z,fun _ z=>z.elim,rfl,ih⟩
def iZ:List D->Option D
 |[.list ts]=>some (.list ts)
 |[.tuple ts]=>some (.list ts)
 |[.str z]=>grd (z.cps.size<=sizeLine) (.list (vZ z))
 |_=>none
def p9(hK:X.K=K)(hc:X.calm=true):CallR X (.type "list") (rFn K iZ 1):=((Ev hK).or' (ql hc)).imp fun xs H Q ⟨O,as,t,oa,hd,hg,k⟩=>by
 match as,hg with
 |[.list ts],hg=>
  cases hg;obtain⟨v,rfl,o⟩:=oa.one;obtain⟨a,vs,rfl,fz,w⟩:=o.lst0;exact .inl ⟨a,vs,rfl,.inl fz.sq,fun l hl=>k _ _ _ (bv hl hd w).1 (bv hl hd w).2⟩
 |[.tuple ts],hg=>
  cases hg;obtain⟨v,rfl,o⟩:=oa.one;obtain⟨a,vs,rfl,fz,w⟩:=o.tup0;exact .inl ⟨a,vs,rfl,.inr fz.sq,fun l hl=>k _ _ _ (bv hl hd w).1 (bv hl hd w).2⟩
 |[.str z],hg=>
  obtain⟨c,rfl⟩:=cK hg;obtain⟨v,rfl,o⟩:=oa.one;exact .inr ⟨z,by rw[show v=.str z from o],c,fun l hl=>k _ _ _ (bv (K:=K) hl hd ss).1 (bv hl hd ss).2⟩
def iu:List D->Option (List Bool)
 |[]=>some []
 |.bool b::r=>(iu r).map (b::·)
 |_::_=>none
theorem qH:∀{ts:List D} {vs:List V} {bs:List Bool},Ows K O H ts 0 vs NoA->iu ts=some bs->vs=bs.map V.bl
 |[],_,_,h,hb=>by cases hb;exact h
 |.bool b::r,_,_,h,hb=>by
  obtain⟨v,w,F1,F2,e,_,_,_,h4,h5⟩:=h;obtain⟨bs',h6,h7⟩:=zab.mp hb;subst e h7;rw[show v=.bl b from h4,qH (Ows.any0 r h5) h6];rfl
 |.none::_,_,_,_,hb=>by cases hb
 |.int _::_,_,_,_,hb=>by cases hb
 |.str _::_,_,_,_,hb=>by cases hb
 |.list _::_,_,_,_,hb=>by cases hb
 |.tuple _::_,_,_,_,hb=>by cases hb
 |.dict _::_,_,_,_,hb=>by cases hb
def qp:List D->Option D
 |[.list ts]=>(iu ts).map fun bs=>.bool (bs.all id)
 |_=>none
def yu(hK:X.K=K)(hc:X.calm=true):CallR X (.builtin "all") (rFn K qp 3):=(Me hK hc).imp fun xs H Q ⟨O,as,t,oa,hd,hg,k⟩=>by
 match as,hg with
 |[.list ts],hg=>
  obtain⟨bs,h1,rfl⟩:=zab.mp hg;obtain⟨v,rfl,o⟩:=oa.one;obtain⟨a,vs,rfl,fz,w⟩:=o.lst0;have e:=qH w h1;subst e;exact⟨a,bs,rfl,fz.sq,k _ H NoA .refl rfl⟩
def tyN:D->String
 |.none=>"NoneType" |.bool _=>"bool" |.int _=>"int" |.str _=>"str" |.list _=>"list" |.tuple _=>"tuple" |.dict _=>"dict"
def iE(n T:String):Bool:=n==T || (n=="bool"&&T=="int")
def pY(hT:T∈["int","bool","str","list","tuple","dict"])(a:D):PySem.W.kitOne K (.type (tyN a)) (.type T)=some (iE (tyN a) T):=by
 simp only[zay,List.not_mem_nil,or_false]at hT;rcases hT with rfl|rfl|rfl|rfl|rfl|rfl<;>cases a<;>rfl
def isX:D->Bool
 |.dict [(.none,.str _)]=>true
 |_=>false
def K0(K:zb7):List V->Hp->VK->Prop:=fun xs H Q=>∃x T,∃(O:AS) (a:D),xs=[x,.ty T]/\Ow K O H a 0 x NoA/\isX a=false/\T∈["int","bool","str","list","tuple","dict"]/\Q (.bl (iE (tyN a) T)) H
def yP:CallR X (.builtin "isinstance") (K0 X.K):=by
 intro ρ s σ H xs us Q I r h;obtain⟨x,T,O,a,rfl,oa,hX,hT,q⟩:=h;have base:∀ty,TyOf X.K H x (.type ty)->tyN a=ty->wpAny (model X.prog X.w) X.A (call (.builtin "isinstance") us) (EP X ρ σ Q) X.xe s:=fun ty h1 h2=>by
  refine AW ρ s σ H _ us Q I r ⟨x,.type ty,T,iE (tyN a) T,rfl,h1,?_,q⟩;rw[<-h2];exact pY hT a
 cases a with
 |none=>exact base _ (by rw[show x=.non from oa];exact .non) rfl
 |bool b=>exact base _ (by rw[show x=.bl b from oa];exact .bl b) rfl
 |int b=>exact base _ (by rw[show x=.int b from oa];exact .int b) rfl
 |str b=>exact base _ (by rw[show x=.str b from oa];exact .str b) rfl
 |tuple ts=>
  obtain⟨p,vs,rfl,fz,w⟩:=oa.tup0;exact base _ (.tup fz.1) rfl
 |dict ts=>
  obtain⟨p,vs,rfl,⟨_,h1,_⟩|⟨_,h1,_⟩|⟨_,⟨kk,b,_,h1,_⟩|⟨cn,C,h0,_⟩⟩⟩:=oa
  ·exact base _ (.dK h1) rfl
  ·exact base _ (.dK (.inl h1)) rfl
  ·exact base _ (.dT h1) rfl
  ·subst h0;cases hX
 |list ts=>
  obtain⟨p,vs,rfl,fz,w⟩:=oa.lst0;obtain⟨u,u2,rfl,r1,r2⟩:=r.two;cases r1;cases r2;obtain⟨its,rv,pl,_⟩:=I.list fz.sq;have e:=pY (K:=X.K) hT (.list ts);obtain⟨o,n,h1,h2,_⟩:=pl;exact PySem.W.kia_one PySem.W.kitx_list I.kIn ⟨o,h1,h2⟩ e (fun z=>nomatch z) fun tk=>⟨.bl _,H,I.tok tk,rfl,q⟩
end
def dh(T:String):D->Option D:=fun a=>if isX a=true then none else some (.bool (iE (tyN a) T))
def JZ{T:Str}{n:String}{pt:Pos}(hK:X.K=K)(hg:Gl X "isinstance")(hm:X.mg "isinstance"=none)(hgT:Gl X T)(hmT:X.mg T=none)(hbT:bootBuiltins T=some (.type n))(hT:n∈["int","bool","str","list","tuple","dict"])(he:PE X e (tF K p ds ds1 d1 f))
  (hnT:T≠"__name__") (hdT:(T==("__debug__":Str))=false)
  (hs1:starEach [e,.Name T pt] X.env=(false,eval e X.env)::starEach [.Name T pt] X.env) (hs2:starEach [.Name T pt] X.env=(false,eval (.Name T pt) X.env)::starEach [] X.env) (hpl:(backTo pos (starEach [.Name T pt] X.env)).any (·.1)=false):
  PE X (.Call (.Name "isinstance" px) [e,.Name T pt] [] pos) (tF K p ds ds1 3 (e1 (dh n) f)):=by
 subst hK;refine(ny yP hg hm boot_isinstance (cZ he (cZ (pP (v:=.ty n) hgT hmT hbT rfl hnT hdT) pa_nil hs2) hs1) (by decide) (by decide) hs1 hpl).imp fun σ H Q h=>?_;obtain⟨Ox,en,R,t,en',e,hf,k⟩:=h;unfold e1 at hf;obtain⟨⟨t1,en1⟩,h1,hf⟩:=zaa.mp hf;obtain⟨t',h3,hf⟩:=zab.mp hf;cases hf;unfold dh at h3;by_cases hX:isX t1=true
 ·rw[if_pos hX]at h3;cases h3
 rw[if_neg hX]at h3;cases h3;refine⟨Ox,en,R,t1,en1,e,h1,fun v H' R' F P o=>?_⟩;exact⟨v,n,Own R' Ox,t1,rfl,Ow.letgo P (fun _ z=>z) o,Bool.eq_false_iff.mpr hX,hT,k _ H' R' NoA (P.less fun _ z=>z.elim) rfl⟩
mutual
def peq:D->D->Bool
 |.none,.none=>true
 |.bool a,.bool b=>a==b
 |.bool a,.int b=>(if a then(1:Int)else 0)==b
 |.int a,.bool b=>a==(if b then(1:Int)else 0)
 |.int a,.int b=>a==b
 |.str a,.str b=>a==b
 |.list a,.list b=>fj a b
 |.tuple a,.tuple b=>fj a b
 |_,_=>false
def fj:List D->List D->Bool
 |[],[]=>true
 |a::r,b::s=>peq a b&&fj r s
 |_,_=>false
end
mutual
def aG:D->Bool
 |.dict _=>false
 |.list ts=>aP ts
 |.tuple ts=>aP ts
 |_=>true
def aP:List D->Bool
 |[]=>true
 |t::r=>aG t&&aP r
end
mutual
theorem j6:∀a:D,aG a=true->peq a a=true
 |.none,_=>rfl
 |.bool b,_=>by cases b<;>rfl
 |.int i,_=>by simp[peq]
 |.str i,_=>by simp[peq]
 |.list ts,h=>by simp only[peq];exact k9 ts (by simpa[aG]using h)
 |.tuple ts,h=>by simp only[peq];exact k9 ts (by simpa[aG]using h)
 |.dict _,h=>by simp[aG]at h
theorem k9:∀a:List D,aP a=true->fj a a=true
 |[],_=>rfl
 |t::r,h=>by
  have h':aG t=true/\aP r=true:=by simpa[aP]using h
  simp only[fj,j6 t h'.1,k9 r h'.2,zbl]
end
mutual
def fG:D->Nat
 |.list ts=>dk ts+1
 |.tuple ts=>dk ts+1
 |_=>0
def dk:List D->Nat
 |[]=>0
 |t::r=>max (fG t) (dk r)
end
theorem lF:∀{ts:List D} {i:Nat} {t:D},ts[i]?=some t->fG t<=dk ts
 |[],_,_,h=>by simp at h
 |u::r,i,t,h=>by
  simp only[dk];cases i with
  |zero=>simp at h;subst h;exact Nat.le_max_left _ _
  |succ i=>exact zau (lF (by simpa using h)) (Nat.le_max_right _ _)
theorem eM:∀{ts:List D} {i:Nat} {t:D},aP ts=true->ts[i]?=some t->aG t=true
 |[],_,_,_,h=>by simp at h
 |u::r,i,t,hn,h=>by
  have h':aG u=true/\aP r=true:=by simpa[aP]using hn
  cases i with
  |zero=>simp at h;subst h;exact h'.1
  |succ i=>exact eM h'.2 (by simpa using h)
theorem nu:∀{a b:List D},a.length≠b.length->fj a b=false
 |[],[],h=>absurd rfl h
 |[],_::_,_=>rfl
 |_::_,[],_=>rfl
 |a::r,b::s,h=>by
  simp only[fj,nu (a:=r) (b:=s) (fun z=>h (by rw[zac,zac,z])),Bool.and_false]
def eAt(a b:List D)(j:Nat):Bool:=match a[j]?,b[j]? with
 |some x,some y=>peq x y
 |_,_=>true
def qo(n:Nat)(f:Nat->Bool):(List.range (n+1)).all f=(f 0&&(List.range n).all fun j=>f (j+1)):=by
 rw[List.range_succ_eq_map,List.all_cons,List.all_map];rfl
theorem nv:∀{a b:List D},a.length=b.length->(List.range a.length).all (eAt a b)=fj a b
 |[],[],_=>rfl
 |a::r,b::s,h=>by
  rw[zac,qo];have e:(List.range r.length).all (fun j=>eAt (a::r) (b::s) (j+1))=(List.range r.length).all (eAt r s):=by
   congr 1
  rw[e,nv (by simpa using h)];rfl
 |[],_::_,h=>by simp at h
 |_::_,[],h=>by simp at h
section
open PySem.SeqAt
variable{s:Shared} 
def Dg{p:Addr}{ws:List V}(I:Inv X ρ σ H s)(h:SqL X.K H p vs)(g:SqT X.K H p ws):False:=by
 obtain⟨its,_,p1,_⟩:=I.list h;obtain⟨ν,_,p2,_⟩:=I.tuple g;exact ne_of_list_tuple p1.isList (show s.heap.IsTuple p ν.toArray from p2) rfl
def IJ{p:Addr}{ks:List (List Key×V)}(I:Inv X ρ σ H s)(h:SqL X.K H p vs)(g:H p=some (.dT ks)):False:=by
 obtain⟨its,_,⟨o,n,e1,e2,_⟩,_⟩:=I.list h;obtain⟨_,_,_,_,o',_,_,g1,g2,_⟩:=wL I.hok g;rw[e1]at g1;cases g1;rw[g2.1]at e2;simp at e2
def Li{p:Addr}{ks:List (Key×V)}(I:Inv X ρ σ H s)(h:SqL X.K H p vs)(g:Rd H p (.dK ks)):False:=by
 obtain⟨its,_,⟨o,n,e1,e2,_⟩,_⟩:=I.list h;obtain⟨_,_,_,_,o',_,_,g1,g2,_⟩:=eX I.hok g;rw[e1]at g1;cases g1;rw[g2.1]at e2;simp at e2
mutual
theorem Ow.inj(I:Inv X ρ σ H s):∀(a b:D) {x:V},Ow X.K O H a 0 x NoA->Ow X.K O H b 0 x NoA->aG a=true->a=b
 |.none,b,_,h,g,_=>by
  cases(show _=_ from h);cases b with
  |none=>rfl
  |list ts=>obtain⟨_,_,z,_⟩:=g;cases z
  |tuple ts=>obtain⟨_,_,z,_⟩:=g;cases z
  |dict ts=>obtain⟨_,_,z,_⟩:=g;cases z
  |bool c=>cases(show V.non=V.bl c from g)
  |int c=>cases(show V.non=V.int c from g)
  |str c=>cases(show V.non=V.str c from g)
 |.bool c,b,_,h,g,_=>by
  cases(show _=_ from h);cases b with
  |none=>cases(show V.bl c=V.non from g)
  |list ts=>obtain⟨_,_,z,_⟩:=g;cases z
  |tuple ts=>obtain⟨_,_,z,_⟩:=g;cases z
  |dict ts=>obtain⟨_,_,z,_⟩:=g;cases z
  |bool c'=>cases(show V.bl c=V.bl c' from g);rfl
  |int c'=>cases(show V.bl c=V.int c' from g)
  |str c'=>cases(show V.bl c=V.str c' from g)
 |.int c,b,_,h,g,_=>by
  cases(show _=_ from h);cases b with
  |none=>cases(show V.int c=V.non from g)
  |list ts=>obtain⟨_,_,z,_⟩:=g;cases z
  |tuple ts=>obtain⟨_,_,z,_⟩:=g;cases z
  |dict ts=>obtain⟨_,_,z,_⟩:=g;cases z
  |bool c'=>cases(show V.int c=V.bl c' from g)
  |int c'=>cases(show V.int c=V.int c' from g);rfl
  |str c'=>cases(show V.int c=V.str c' from g)
 |.str c,b,_,h,g,_=>by
  cases(show _=_ from h);cases b with
  |none=>cases(show V.str c=V.non from g)
  |list ts=>obtain⟨_,_,z,_⟩:=g;cases z
  |tuple ts=>obtain⟨_,_,z,_⟩:=g;cases z
  |dict ts=>obtain⟨_,_,z,_⟩:=g;cases z
  |bool c'=>cases(show V.str c=V.bl c' from g)
  |int c'=>cases(show V.str c=V.int c' from g)
  |str c'=>cases(show V.str c=V.str c' from g);rfl
 |.list ts,b,_,h,g,hn=>by
  obtain⟨p,vs,rfl,fz,w⟩:=h.lst0;cases b with
  |none=>cases(show V.ref p=V.non from g)
  |bool c'=>cases(show V.ref p=V.bl c' from g)
  |int c'=>cases(show V.ref p=V.int c' from g)
  |str c'=>cases(show V.ref p=V.str c' from g)
  |list us=>
   obtain⟨p',vs',e,fz',w'⟩:=g.lst0;cases e
   have:=I.list_inj fz.sq fz'.sq;subst this;rw[Ows.inj I ts us w w' (by simpa[aG]using hn)]
  |tuple us=>
   obtain⟨p',vs',e,fz',w'⟩:=g.tup0;cases e;exact(Dg I fz.sq fz'.sq).elim
  |dict us=>
   obtain⟨p',vs',e,⟨_,g1,_⟩|⟨z,_⟩|⟨_,⟨_,_,_,g1,_⟩|⟨_,C,_,_,g1,_⟩⟩⟩:=g
   ·cases e;exact(Li I fz.sq g1).elim
   ·exact absurd rfl z
   ·cases e;exact(IJ I fz.sq g1).elim
   ·cases e;obtain⟨its,rv,⟨o,n,e1,e2,_⟩,_⟩:=I.list fz.sq;obtain⟨⟨o',x1,x2,_⟩,_⟩:=(show ObjOk X.prog X.w H s.heap p (.ext (Ki p C))from I.hok p _ g1);rw[e1]at x1;cases x1;rw[e2]at x2;cases x2
 |.tuple ts,b,_,h,g,hn=>by
  obtain⟨p,vs,rfl,fz,w⟩:=h.tup0;cases b with
  |none=>cases(show V.ref p=V.non from g)
  |bool c'=>cases(show V.ref p=V.bl c' from g)
  |int c'=>cases(show V.ref p=V.int c' from g)
  |str c'=>cases(show V.ref p=V.str c' from g)
  |tuple us=>
   obtain⟨p',vs',e,fz',w'⟩:=g.tup0;cases e
   have:=fz.1.symm.trans fz'.1;cases this;rw[Ows.inj I ts us w w' (by simpa[aG]using hn)]
  |list us=>
   obtain⟨p',vs',e,fz',w'⟩:=g.lst0;cases e;exact(Dg I fz'.sq fz.sq).elim
  |dict us=>
   obtain⟨p',vs',e,⟨_,g1,_⟩|⟨z,_⟩|⟨_,⟨_,_,_,g1,_⟩|⟨_,C,_,_,g1,_⟩⟩⟩:=g
   ·cases e;rcases g1 with g1|⟨_,g1⟩<;>rw[fz.1]at g1<;>cases g1
   ·exact absurd rfl z
   ·cases e;rw[fz.1]at g1;cases g1
   ·cases e;rw[fz.1]at g1;cases g1
 |.dict _,_,_,_,_,hn=>by simp[aG]at hn
theorem Ows.inj(I:Inv X ρ σ H s):∀(a b:List D) {x:List V},Ows X.K O H a 0 x NoA->Ows X.K O H b 0 x NoA->aP a=true->a=b
 |[],b,_,h,g,_=>by
  cases(show _=_ from h);cases b with
  |nil=>rfl
  |cons u us=>obtain⟨_,_,_,_,e,_⟩:=g;cases e
 |t::ts,b,_,h,g,hn=>by
  obtain⟨v,r,F1,F2,e,_,_,_,h4,h5⟩:=h;subst e;have hn':aG t=true/\aP ts=true:=by simpa[aP]using hn
  cases b with
  |nil=>cases(show v::r=[]from g)
  |cons u us=>
   obtain⟨v',r',G1,G2,e,_,_,_,g4,g5⟩:=g;cases e;rw[Ow.inj I t u (Ow.any0 t h4) (Ow.any0 u g4) hn'.1,Ows.inj I ts us (Ows.any0 ts h5) (Ows.any0 us g5) hn'.2]
end
def sP{ws:List V}{its ν:List Value}(w:Ows X.K O H ts 0 vs NoA)(w2:Ows X.K O H us 0 ws NoA)(rv:Vals vs its)(rv2:Vals ws ν)
  (ih:∀(j:Nat) a b x y v u,ts[j]?=some a->us[j]?=some b->Ow X.K O H a 0 x NoA->Ow X.K O H b 0 y NoA->RelV x v->RelV y u->EqAt A s v u (peq a b)):
  ∀j (h1:j<its.toArray.size) (h2:j<ν.toArray.size),EqAt A s its.toArray[j] ν.toArray[j] (eAt ts us j):=fun j h1 h2=>by
 have h1':j<its.length:=by simpa using h1
 have h2':j<ν.length:=by simpa using h2
 have l1:=rv.length;have l2:=rv2.length;have m1:=w.len;have m2:=w2.len;have e1:ts[j]?=some ts[j]:=zak (by omega);have e2:us[j]?=some us[j]:=zak (by omega);obtain⟨x,g1,o1⟩:=w.get e1;obtain⟨y,g2,o2⟩:=w2.get e2;obtain⟨u1,f1,q1⟩:=rv.get g1;obtain⟨u2,f2,q2⟩:=rv2.get g2;have z:=ih j _ _ x y u1 u2 e1 e2 o1 o2 q1 q2;rw[zak h1']at f1;rw[zak h2']at f2;have i1:its.toArray[j]=u1:=by simpa using zat f1
 have i2:ν.toArray[j]=u2:=by simpa using zat f2
 rw[i1,i2];unfold eAt;rw[e1,e2];exact z
inductive Kd(s:Shared):D->Value->Prop
 |n:Kd s .none .none
 |b (c:Bool):Kd s (.bool c) (.bool c)
 |i (c:Int) (t:Nat):Kd s (.int c) (.int c t)
 |t (c:Str) (t:Nat):Kd s (.str c) (.str c t)
 |l {c:List D} {p:Addr} {z:Array Value} (h:s.heap.IsList p z):Kd s (.list c) (.ref p)
 |u {c:List D} {p:Addr} {z:Array Value} (h:s.heap.IsTuple p z):Kd s (.tuple c) (.ref p)
def rF(I:Inv X ρ σ H s){a:D}{x:V}{v:Value}(hn:aG a=true)(o:Ow X.K O H a 0 x NoA)(r:RelV x v):Kd s a v:=by
 cases a with
 |none=>cases(show x=V.non from o);cases r;exact .n
 |bool c=>cases(show x=V.bl c from o);cases r;exact .b c
 |int c=>cases(show x=V.int c from o);obtain⟨t,rfl⟩:=r;exact .i c t
 |str c=>cases(show x=V.str c from o);obtain⟨t,rfl⟩:=r;exact .t c t
 |list c=>
  obtain⟨p,vs,rfl,fz,w⟩:=o.lst0;cases r;obtain⟨its,rv,pl,_⟩:=I.list fz.sq;exact .l pl.isList
 |tuple c=>
  obtain⟨p,vs,rfl,fz,w⟩:=o.tup0;cases r;obtain⟨its,rv,pl,_⟩:=I.tuple fz.sq;have hl:s.heap.IsTuple p its.toArray:=pl;exact .u hl
 |dict c=>simp[aG]at hn
def sqB:D->D->Bool
 |.list _,.list _=>true
 |.tuple _,.tuple _=>true
 |_,_=>false
def Dk:∀{a b:D} {v u:Value},Kd s a v->Kd s b u->sqB a b=false->A.units<cLine->EqAt A s v u (peq a b)/\RcAt A s v u (peq a b)/\RcNeAt A s v u (!peq a b)
 |_,_,_,_,.n,.n,_,_=>⟨.same _,.none_none,.none_none⟩
 |_,_,_,_,.n,.b _,_,_=>⟨.none_bool _,.none_bool _,.none_bool _⟩
 |_,_,_,_,.n,.i _ _,_,_=>⟨.none_int _ _,.none_int _ _,.none_int _ _⟩
 |_,_,_,_,.n,.t _ _,_,_=>⟨.none_str _ _,.none_str _ _,.none_str _ _⟩
 |_,_,_,_,.n,.l h2,_,hu=>⟨.none_list h2 hu,.none_list h2 hu,.none_list h2 hu⟩
 |_,_,_,_,.n,.u h2,_,hu=>⟨.none_tuple h2 hu,.none_tuple h2 hu,.none_tuple h2 hu⟩
 |_,_,_,_,.b _,.n,_,_=>⟨.bool_none _,.bool_none _,.bool_none _⟩
 |_,_,_,_,.b _,.b _,_,_=>⟨.bool_bool _ _,.bool_bool _ _,.bool_bool _ _⟩
 |_,_,_,_,.b _,.i _ _,_,_=>⟨.bool_int _ _ _,.bool_int _ _ _,.bool_int _ _ _⟩
 |_,_,_,_,.b _,.t _ _,_,_=>⟨.bool_str _ _ _,.bool_str _ _ _,.bool_str _ _ _⟩
 |_,_,_,_,.b _,.l h2,_,hu=>⟨.bool_list _ h2 hu,.bool_list _ h2 hu,.bool_list _ h2 hu⟩
 |_,_,_,_,.b _,.u h2,_,hu=>⟨.bool_tuple _ h2 hu,.bool_tuple _ h2 hu,.bool_tuple _ h2 hu⟩
 |_,_,_,_,.i _ _,.n,_,_=>⟨.int_none _ _,.int_none _ _,.int_none _ _⟩
 |_,_,_,_,.i _ _,.b _,_,_=>⟨.int_bool _ _ _,.int_bool _ _ _,.int_bool _ _ _⟩
 |_,_,_,_,.i _ _,.i _ _,_,_=>⟨.int_int _ _ _ _,.int_int _ _ _ _,.int_int _ _ _ _⟩
 |_,_,_,_,.i _ _,.t _ _,_,_=>⟨.int_str _ _ _ _,.int_str _ _ _ _,.int_str _ _ _ _⟩
 |_,_,_,_,.i _ _,.l h2,_,hu=>⟨.int_list _ _ h2 hu,.int_list _ _ h2 hu,.int_list _ _ h2 hu⟩
 |_,_,_,_,.i _ _,.u h2,_,hu=>⟨.int_tuple _ _ h2 hu,.int_tuple _ _ h2 hu,.int_tuple _ _ h2 hu⟩
 |_,_,_,_,.t _ _,.n,_,_=>⟨.str_none _ _,.str_none _ _,.str_none _ _⟩
 |_,_,_,_,.t _ _,.b _,_,_=>⟨.str_bool _ _ _,.str_bool _ _ _,.str_bool _ _ _⟩
 |_,_,_,_,.t _ _,.i _ _,_,_=>⟨.str_int _ _ _ _,.str_int _ _ _ _,.str_int _ _ _ _⟩
 |_,_,_,_,.t _ _,.t _ _,_,_=>⟨.str_str _ _ _ _,.str_str _ _ _ _,.str_str _ _ _ _⟩
 |_,_,_,_,.t _ _,.l h2,_,hu=>⟨.str_list _ _ h2 hu,.str_list _ _ h2 hu,.str_list _ _ h2 hu⟩
 |_,_,_,_,.t _ _,.u h2,_,hu=>⟨.str_tuple _ _ h2 hu,.str_tuple _ _ h2 hu,.str_tuple _ _ h2 hu⟩
 |_,_,_,_,.l h1,.n,_,hu=>⟨.list_none h1 hu,.list_none h1 hu,.list_none h1 hu⟩
 |_,_,_,_,.l h1,.b _,_,hu=>⟨.list_bool _ h1 hu,.list_bool _ h1 hu,.list_bool _ h1 hu⟩
 |_,_,_,_,.l h1,.i _ _,_,hu=>⟨.list_int _ _ h1 hu,.list_int _ _ h1 hu,.list_int _ _ h1 hu⟩
 |_,_,_,_,.l h1,.t _ _,_,hu=>⟨.list_str _ _ h1 hu,.list_str _ _ h1 hu,.list_str _ _ h1 hu⟩
 |_,_,_,_,.l h1,.u h2,_,hu=>⟨.list_tuple h1 h2 hu,.list_tuple h1 h2 hu,.list_tuple h1 h2 hu⟩
 |_,_,_,_,.u h1,.n,_,hu=>⟨.tuple_none h1 hu,.tuple_none h1 hu,.tuple_none h1 hu⟩
 |_,_,_,_,.u h1,.b _,_,hu=>⟨.tuple_bool _ h1 hu,.tuple_bool _ h1 hu,.tuple_bool _ h1 hu⟩
 |_,_,_,_,.u h1,.i _ _,_,hu=>⟨.tuple_int _ _ h1 hu,.tuple_int _ _ h1 hu,.tuple_int _ _ h1 hu⟩
 |_,_,_,_,.u h1,.t _ _,_,hu=>⟨.tuple_str _ _ h1 hu,.tuple_str _ _ h1 hu,.tuple_str _ _ h1 hu⟩
 |_,_,_,_,.u h1,.l h2,_,hu=>⟨.tuple_list h1 h2 hu,.tuple_list h1 h2 hu,.tuple_list h1 h2 hu⟩
 |_,_,_,_,.l _,.l _,hq,_=>nomatch (show true=false from hq)
 |_,_,_,_,.u _,.u _,hq,_=>nomatch (show true=false from hq)
def DA(I:Inv X ρ σ H s):∀(n:Nat) (a b:D) (A:Around) (x y:V) (v u:Value),fG a<=n->aG a=true->aG b=true->Ow X.K O H a 0 x NoA->Ow X.K O H b 0 y NoA->RelV x v->RelV y u->A.units+n+1<cLine ->
  EqAt A s v u (peq a b)/\RcAt A s v u (peq a b)/\RcNeAt A s v u (!peq a b):=by
 intro n
 induction n with
 |zero=>
  intro a b A x y v u hdp hna hnb o1 o2 r1 r2 hun;refine Dk (rF I hna o1 r1) (rF I hnb o2 r2) ?_ (by omega);cases a with
  |list c=>simp only[fG]at hdp;omega
  |tuple c=>simp only[fG]at hdp;omega
  |_=>rfl
 |succ n ih=>
  intro a b A x y v u hdp hna hnb o1 o2 r1 r2 hun;have hu:A.units<cLine:=by omega
  have hu1:A.in1.units+n+1<cLine:=by
   show A.units+1+n+1<cLine;omega
  cases hq:sqB a b with
  |false=>exact Dk (rF I hna o1 r1) (rF I hnb o2 r2) hq hu
  |true=>
   cases a with
   |list c1=>
    cases b with
    |list c2=>
     obtain⟨p1,vs1,rfl,fz1,w1⟩:=o1.lst0;cases r1;obtain⟨its1,rv1,pl1,_⟩:=I.list fz1.sq;have hl1:=pl1.isList;obtain⟨p2,vs2,rfl,fz2,w2⟩:=o2.lst0;cases r2;obtain⟨ν,rv2,pl2,_⟩:=I.list fz2.sq;have hl2:=pl2.isList;have dl:dk c1<=n:=by simp only[fG]at hdp;omega
     have nd1:aP c1=true:=by simpa[aG]using hna
     have nd2:aP c2=true:=by simpa[aG]using hnb
     have el:=sP (A:=A.in1) w1 w2 rv1 rv2 fun j a b x y v u e1 e2 q1 q2 q3 q4=>(ih a b A.in1 x y v u (zau (lF e1) dl) (eM nd1 e1) (eM nd2 e2) q1 q2 q3 q4 hu1).1;have l1:=rv1.length;have l2:=rv2.length;have m1:=w1.len;have m2:=w2.len;have rc:RcAt A s (.ref p1) (.ref p2) (fj c1 c2)/\RcNeAt A s (.ref p1) (.ref p2) (!fj c1 c2):=by
      by_cases hz:c1.length=c2.length
      ·have hs1:its1.toArray.size=ν.toArray.size:=by rw[zai,zai];omega
       have hs2:its1.toArray.size=c1.length:=by rw[zai];omega
       have z1:=RcAt.lists hl1 hl2 hs1 hu el;have z2:=RcNeAt.lists hl1 hl2 hs1 hu el;rw[hs2,nv hz]at z1 z2;exact⟨z1,z2⟩
      ·have hs1:(its1.toArray.size != ν.toArray.size)=true:=by rw[zai,zai,bne_iff_ne];omega
       rw[nu hz];exact⟨RcAt.lists_lengths hl1 hl2 hs1 hu,RcNeAt.lists_lengths hl1 hl2 hs1 hu⟩
     have pe:peq (.list c1) (.list c2)=fj c1 c2:=by simp only[peq]
     refine⟨?_,by rw[pe];exact rc.1,by rw[pe];exact rc.2⟩;by_cases hp:p1=p2
     ·subst hp
      have:=Ow.inj I _ _ o1 o2 hna;cases this;rw[j6 _ hna];exact EqAt.same _
     ·rw[pe];exact EqAt.of_refs hp rc.1
    |_=>cases(show false=true from hq)
   |tuple c1=>
    cases b with
    |tuple c2=>
     obtain⟨p1,vs1,rfl,fz1,w1⟩:=o1.tup0;cases r1;obtain⟨its1,rv1,pl1,_⟩:=I.tuple fz1.sq;have hl1:s.heap.IsTuple p1 its1.toArray:=pl1;obtain⟨p2,vs2,rfl,fz2,w2⟩:=o2.tup0;cases r2;obtain⟨ν,rv2,pl2,_⟩:=I.tuple fz2.sq;have hl2:s.heap.IsTuple p2 ν.toArray:=pl2;have dl:dk c1<=n:=by simp only[fG]at hdp;omega
     have nd1:aP c1=true:=by simpa[aG]using hna
     have nd2:aP c2=true:=by simpa[aG]using hnb
     have el:=sP (A:=A.in1) w1 w2 rv1 rv2 fun j a b x y v u e1 e2 q1 q2 q3 q4=>(ih a b A.in1 x y v u (zau (lF e1) dl) (eM nd1 e1) (eM nd2 e2) q1 q2 q3 q4 hu1).1;have l1:=rv1.length;have l2:=rv2.length;have m1:=w1.len;have m2:=w2.len;have rc:RcAt A s (.ref p1) (.ref p2) (fj c1 c2)/\RcNeAt A s (.ref p1) (.ref p2) (!fj c1 c2):=by
      have z1:=RcAt.tuples hl1 hl2 hu el;have z2:=RcNeAt.tuples hl1 hl2 hu el;have ez:((List.range (min its1.toArray.size ν.toArray.size)).all (eAt c1 c2)&&its1.toArray.size==ν.toArray.size)=fj c1 c2:=by
       rw[zai,zai];by_cases hz:c1.length=c2.length
       ·have h3:its1.length=ν.length:=by omega
        have h4:min its1.length ν.length=c1.length:=by omega
        rw[h4,nv hz,h3,beq_self_eq_true,zb5]
       ·have h3:(its1.length==ν.length)=false:=by rw[zbZ];omega
        rw[h3,Bool.and_false,nu hz]
      rw[ez]at z1 z2;exact⟨z1,z2⟩
     have pe:peq (.tuple c1) (.tuple c2)=fj c1 c2:=by simp only[peq]
     refine⟨?_,by rw[pe];exact rc.1,by rw[pe];exact rc.2⟩;by_cases hp:p1=p2
     ·subst hp
      have:=Ow.inj I _ _ o1 o2 hna;cases this;rw[j6 _ hna];exact EqAt.same _
     ·rw[pe];exact EqAt.of_refs hp rc.1
    |_=>cases(show false=true from hq)
   |_=>cases(show false=true from hq)
end
def eqD(a b:D):Option D:=grd (aG a=true/\aG b=true/\fG a<=60) (.bool (peq a b))
def neD(a b:D):Option D:=grd (aG a=true/\aG b=true/\fG a<=60) (.bool (!peq a b))
def i7(hK:X.K=K)(hu:X.A.units+64<cLine):OpR X (compareOp .Eq) (rF2 K eqD 3):=by
 subst hK;intro ρ s σ H x y v u Q I rx ry ⟨O,a,b,t,oa,ob,hd,hg,k⟩;obtain⟨⟨c1,c2,c3⟩,rfl⟩:=cK hg;exact(DA I 60 a b X.A x y v u c3 c1 c2 oa ob rx ry (by omega)).2.1 X.prog X.w _ _ ⟨.bl _,H,I,rfl,k _ H NoA .refl rfl⟩
def Lu(hK:X.K=K)(hu:X.A.units+64<cLine):OpR X (compareOp .NotEq) (rF2 K neD 3):=by
 subst hK;intro ρ s σ H x y v u Q I rx ry ⟨O,a,b,t,oa,ob,hd,hg,k⟩;obtain⟨⟨c1,c2,c3⟩,rfl⟩:=cK hg;exact(DA I 60 a b X.A x y v u c3 c1 c2 oa ob rx ry (by omega)).2.2 X.prog X.w _ _ ⟨.bl _,H,I,rfl,k _ H NoA .refl rfl⟩
def DJ{F:List D->Option (D×En)}{E:XK}(hn:dps.length=n)(h:spF K dps dr F vs H Q E):vs.length=n:=by
 obtain⟨Ox,ts,R,r,ψ,e,_⟩:=h
 have:=e.l2;rw[zad]at this;omega
section
variable{ds3:List Nat}{d3:Nat}{a c:Expr}{f3:ME}{m:MS}{p2:Pos}
def EQ(h:PS X st (tFS K J ds ds2 m))(hd:leD ds1 ds2=true):PS X st (tFS K J ds ds1 m):=h.imp fun _ _ _=>yk hd
def jM(g g':D->D->Option D)(f1 f2 f3:ME):ME:=fun en=>(f1 en).bind fun r=>(f2 r.2).bind fun q=>(g r.1 q.1).bind fun t=>match t with
 |.bool true=>(f3 q.2).bind fun z=>(g' q.1 z.1).map fun t=>(t,z.2)
 |.bool false=>some (.bool false,q.2)
 |_=>none
def Fw(h:tF K p ds ds1 3 (jM g g' f1 f2 f3) σ H Q):
  xu (rF2 K g 3) (rF2 K g' 3) (tF K p ds ds0 d1 f1) (tF K p ds0 ds1 d2 f2) (tF K p ds1 ds1 d3 f3) σ H Q:=by
 obtain⟨Ox,en,R,t,en',e,hf,k⟩:=h;unfold jM at hf;obtain⟨⟨t1,en1⟩,h1,hf⟩:=zaa.mp hf;obtain⟨⟨t2,en2⟩,h2,hf⟩:=zaa.mp hf;obtain⟨tb,h3,hf⟩:=zaa.mp hf;refine two (p1:=p) (p2:=p) e h1 h2 fun x y H2 R2 F1 F2 P o1 o2=>?_;rw[zbl]at P;have oy:=Ow.letgo P (fun _=>.inr) o2;refine⟨Own R2 Ox,t1,t2,tb,Ow.letgo P (fun _=>.inl) o1,oy,P.doms,h3,fun v3 H3 F3 n3 o3=>?_⟩;have P3:=P.fin n3;cases tb with
 |bool bb=>
  refine⟨bb,o3,?_⟩;cases bb with
  |false=>
   cases hf;exact k _ H3 R2 NoA (P3.less fun _ z=>z.elim) rfl
  |true=>
   obtain⟨⟨t4,en4⟩,h4,hf⟩:=zaa.mp hf;obtain⟨t5,h5,hf⟩:=zab.mp hf;cases hf;have P30:=P3.less (F':=NoA) fun _ z=>z.elim;refine⟨Ox,en2,R2,t4,en4,P30.env0,h4,fun v4 H4 R4 F4 P4 o4=>?_⟩;have P34:=P30.after P4;rw[zbl]at P34;have oy3:Ow K (Own R2 Ox) H3 t2 0 y NoA:=Ow.mv (G:=NoA) ⟨fun a o q _=>n3.1 a o q,fun a z=>.inl z⟩ t2 (fun _ z=>z) oy;have oy4:Ow K (Own R4 Ox) H4 t2 0 y NoA:=by
    refine Ow.mv (G:=NoA) ⟨fun a o q z=>P4.keep a o q fun i zi=>?_,fun a z=>?_⟩ t2 (fun _ z=>z) oy3
    ·rcases z with z|z
     ·exact z (.inl ⟨i,zi⟩)
     ·exact z
    ·rcases z with z|z
     ·exact(P4.own a (.inr z)).imp .inl id
     ·exact .inl (.inr z)
   exact⟨Own R4 Ox,t2,t4,_,oy4,Ow.letgo P4 (fun _ z=>z) o4,P4.doms,h5,fun v5 H5 F5 n5 o5=>k v5 H5 R4 F5 (P34.fin n5) (o8▸o5)⟩
 |_=>cases hf
def At{op':CmpOp}(ho:OpR X (compareOp op) (rF2 K g 3))(ho':OpR X (compareOp op') (rF2 K g' 3))(ha:PE X a (tF K p ds ds0 d1 f1))(hb:PE X b (tF K p ds0 ds1 d2 f2))(hc:PE X c (tF K p ds1 ds1 d3 f3))
  (hm:lastMarks [op,op'] [b,c]=false):PT X (.Compare a [op,op'] [b,c] pos) (tFT K p ds ds1 (tV (jM g g' f1 f2 f3))):=
 (zC ho ho' ha hb hc hm).imp fun σ H Q h=>by
  obtain⟨Ox,en,R,t,en',e,hf,k⟩:=jJ (d:=3) h;exact Fw ⟨Ox,en,R,t,en',e,hf,k⟩
abbrev MO:=En->Option (Option Int×En)
def tFO(K:zb7)(p:Bool)(ds ds':List Nat)(f:MO):TO:=fun σ H Q=>∃Ox en R o en',EnvOk K ds Ox H σ en R/\f en=some (o,en')/\∀H' R',Post K p ds' Ox σ H en R en' H' R' NoA->Q o H'
def mE:MO:=fun en=>some (none,en)
def j8(f:ME):MO:=fun en=>(f en).bind fun r=>match r.1 with
 |.int i=>some (some i,r.2)
 |_=>none
def PO.imp{e:Option Expr}{t t':TO}(h:PO X e t)(hi:∀σ H Q,t' σ H Q->t σ H Q):PO X e t':=fun ρ s σ H Q I hw=>h ρ s σ H Q I (hi _ _ _ hw)
def E3:PO X none (tFO K p ds ds mE):=po_none.imp fun σ H Q ⟨Ox,en,R,o,en',e,hf,k⟩=>by
 cases hf;exact k H R (Post.refl e)
def EY(h:PE X e (tF K p ds ds1 d f)):PO X (some e) (tFO K p ds ds1 (j8 f)):=(D3 h).imp fun σ H Q ⟨Ox,en,R,o,en',e,hf,k⟩=>by
 unfold j8 at hf;obtain⟨⟨t1,en1⟩,h1,hf⟩:=zaa.mp hf;refine⟨Ox,en,R,t1,en1,e,h1,fun v H' R' F P o=>?_⟩;cases t1 with
 |int i=>cases hf;exact⟨i,o,k H' R' (P.less fun _ z=>z.elim)⟩
 |_=>cases hf
def rFs(K:zb7)(g:D->Option Int->Option Int->Option D)(d:Nat):V->Option Int->Option Int->Hp->VK->Prop:=fun x lo hi H Q=>∃(O:AS) (a t:D),Ow K O H a 0 x NoA/\(∀a,O a->∃o,H a=some o)/\g a lo hi=some t/\∀v H' F,NewTo H H' F->Ow K (U F O) H' t d v F->Q v H'
def eSl(g:D->Option Int->Option Int->Option D)(f:ME)(lo hi:MO):ME:=fun en=>(f en).bind fun r=>(lo r.2).bind fun l=>(hi l.2).bind fun h=>(g r.1 l.1 h.1).map fun t=>(t,h.2)
variable{lo hi:MO}
def Ow.past0{R2:Nat->AS}(P2:Post K p ds2 Ox σ H1 en1 R1 en2 H2 R2 F2)(h:Ow K (Own R1 Ox) H1 t 0 v NoA):Ow K (Own R2 Ox) H2 t 0 v NoA:=by
 refine Ow.mv (G:=NoA) ⟨fun a o q z=>P2.keep a o q fun i zi=>?_,fun a z=>?_⟩ t (fun _ z=>z) h
 ·rcases z with z|z
  ·exact z (.inl ⟨i,zi⟩)
  ·exact z
 ·rcases z with z|z
  ·exact(P2.own a (.inr z)).imp .inl id
  ·exact .inl (.inr z)
def Mf{g:D->Option Int->Option Int->Option D}(h:tF K p ds ds3 d (eSl g f lo hi) σ H Q):tSl (rFs K g d) (tF K p ds ds1 d1 f) (tFO K p ds1 ds2 lo) (tFO K p ds2 ds3 hi) σ H Q:=by
 obtain⟨Ox,en,R,t,en',e,hf,k⟩:=h;unfold eSl at hf;obtain⟨⟨t1,en1⟩,h1,hf⟩:=zaa.mp hf;obtain⟨⟨l,en2⟩,h2,hf⟩:=zaa.mp hf;obtain⟨⟨u,en3⟩,h3,hf⟩:=zaa.mp hf;obtain⟨t',h4,hf⟩:=zab.mp hf;cases hf;refine⟨Ox,en,R,t1,en1,e,h1,fun v H1 R1 F1 P1 o1=>?_⟩;have o0:=Ow.letgo P1 (fun _ z=>z) o1;refine⟨Ox,en1,R1,l,en2,P1.env0,h2,fun H2 R2 P2=>?_⟩;refine⟨Ox,en2,R2,u,en3,P2.env0,h3,fun H3 R3 P3=>?_⟩;have P:=(P1.after P2).after P3;rw[zbl,zbl]at P;exact⟨Own R3 Ox,t1,t,(o0.past0 P2).past0 P3,P3.doms,h4,fun v4 H4 F4 n4 o4=>k v4 H4 R3 F4 (P.fin n4) (o8▸o4)⟩
def SlR.imp{r r':V->Option Int->Option Int->Hp->VK->Prop}(h:SlR X r)(hi:∀x lo hi H Q,r' x lo hi H Q->r x lo hi H Q):SlR X r':=fun ρ s σ H x v vl vu lo hi' sl Q I rx hs pl pu q=>h ρ s σ H x v vl vu lo hi' sl Q I rx hs pl pu (hi _ _ _ _ _ q)
def AH{g:D->Option Int->Option Int->Option D}{elo ehi:Option Expr}(hr:SlR X (rFs K g d))(he:PE X e (tF K p ds ds1 d1 f))(hl:PO X elo (tFO K p ds1 ds2 lo))(hu:PO X ehi (tFO K p ds2 ds3 hi)):PE X (.Subscript e (.Slice elo ehi none p2) pos) (tF K p ds ds3 d (eSl g f lo hi)):=
 (zK hr he hl hu).imp fun _ _ _=>Mf
def eK{α:Type}(xs:List α)(lo hi:Option Int):List α:=(xs.drop (HT.sIx xs.length 0 lo)).take (HT.sIx xs.length xs.length hi-HT.sIx xs.length 0 lo)
def rH:D->Option Int->Option Int->Option D
 |.list ts,lo,hi=>some (.list (eK ts lo hi))
 |_,_,_=>none
def vq(hK:X.K=K):SlR X (rFs K rH 1):=(Mb hK).imp fun x lo hi H Q ⟨O,a,t,oa,hd,hg,k⟩=>by
 cases a with
 |list ts=>
  cases hg;obtain⟨a,vs,e1,f1,w1⟩:=oa.lst0;refine⟨a,vs,e1,f1.sq,fun p hp=>?_⟩;have w2:Ows K O H (eK ts lo hi) 0 (fH vs lo hi) NoA:=by
   unfold eK fH;rw[w1.len];exact(w1.drop _).take _
  exact k _ _ _ (bv hp hd w2).1 (bv hp hd w2).2
 |_=>cases hg
end
def kEq:D->D->Bool
 |.int a,.int b=>a==b
 |.str a,.str b=>a==b
 |_,_=>false
def oz(a b:Key):kEq (kD a) (kD b)=decide (a=b):=by
 cases a with
 |inl i=>cases b with
  |inl j=>rw[sL];rfl
  |inr j=>rw[x9];rfl
 |inr i=>cases b with
  |inl j=>rw[x8];rfl
  |inr j=>
   rw[xZ];show(i==j)=_;by_cases h:i=j
   ·subst h;simp
   ·rw[zaA h,zbZ];exact h
def kOf:D->Option Key
 |.int i=>some (.inl i)
 |.str x=>some (.inr x)
 |_=>none
def fC{a:D}{q:Key}(h:kOf a=some q):a=kD q:=by
 cases a<;>cases h<;>rfl
def gz{a:D}{q:Key}{F:AS}(h:kOf a=some q)(o:Ow K O H a d v F):v=kV q:=by
 cases a with
 |int i=>cases h;exact o
 |str i=>cases h;exact o
 |_=>cases h
def aJ(ks:List (D×D))(q:D):Option D:=(ks.find? fun kv=>kEq kv.1 q).map (·.2)
def cz(ks:List (D×D))(q t:D):List (D×D):=if ks.any (fun kv=>kEq kv.1 q)then ks.map (fun kv=>if kEq kv.1 q then(kv.1,t)else kv)else ks++[(q,t)]
theorem Owd.look:∀{ks:List (D×D)} {vs:List (Key×V)} {F:AS} (q:Key),Owd K O H ks d vs F->(∃t v,aJ ks (kD q)=some t/\dG vs q=some v/\Ow K O H t d v F)\/(aJ ks (kD q)=none/\dG vs q=none)
 |[],_,_,q,h=>by rw[show _=[]from h];exact .inr ⟨rfl,rfl⟩
 | (k,t)::ks,_,F,q,h=>by
  obtain⟨q',v,r,F1,F2,e,e2,s1,s2,_,h4,h5⟩:=h;subst e e2;by_cases hq:q'=q
  ·subst hq;refine .inl ⟨t,v,?_,jZ rfl,Ow.grow (fun _ z=>z) t s1 h4⟩;unfold aJ;rw[zbp,oz,zaB rfl];rfl
  ·have e1:aJ ((kD q',t)::ks) (kD q)=aJ ks (kD q):=by
    unfold aJ;rw[zbp,oz,zaA hq]
   have e2:dG ((q',v)::r) q=dG r q:=j1 hq;rw[e1,e2];rcases Owd.look q h5 with⟨t',v',a1,a2,a3⟩|z
   ·exact .inl ⟨t',v',a1,a2,Ow.grow (fun _ z=>z) t' s2 a3⟩
   ·exact .inr z
theorem Owd.any:∀{ks:List (D×D)} {vs:List (Key×V)} {F:AS} (q:Key),Owd K O H ks d vs F->ks.any (fun kv=>kEq kv.1 (kD q))=vs.any (fun kv=>decide (kv.1=q))
 |[],_,_,q,h=>by rw[show _=[]from h];rfl
 | (k,t)::ks,_,F,q,h=>by
  obtain⟨q',v,r,F1,F2,e,e2,_,_,_,_,h5⟩:=h;subst e e2;rw[List.any_cons,List.any_cons,oz,Owd.any q h5]
theorem Owd.len:∀{ks:List (D×D)} {vs:List (Key×V)} {F:AS},Owd K O H ks d vs F->vs.length=ks.length
 |[],_,_,h=>by rw[show _=[]from h];rfl
 | (k,t)::ks,_,F,h=>by
  obtain⟨q',v,r,F1,F2,e,e2,_,_,_,_,h5⟩:=h;rw[e,zac,zac,h5.len]
theorem Owd.rep0{t:D}{v:V}{q:Key}(ht:Ow K O H t 0 v NoA):∀{ks:List (D×D)} {vs:List (Key×V)},Owd K O H ks 0 vs NoA->Owd K O H (ks.map fun kv=>if kEq kv.1 (kD q)then(kv.1,t)else kv) 0 (vs.map fun kv=>if kv.1=q then(kv.1,v)else kv) NoA
 |[],_,h=>by rw[show _=[]from h];rfl
 | (k,u)::ks,_,h=>by
  obtain⟨q',w,r,F1,F2,e,e2,_,_,_,h4,h5⟩:=h;subst e e2;rw[zar,zar];have ih:=Owd.rep0 (q:=q) ht (Owd.any0 ks h5)
  dsimp only
  rw[oz];by_cases hq:q'=q
  ·rw[if_pos hq,if_pos (zaB hq)];exact⟨q',v,_,NoA,NoA,rfl,rfl,fun _ z=>z,fun _ z=>z,fun _ z=>z.elim,ht,ih⟩
  ·rw[if_neg hq,if_neg (by rw[zaA hq];exact zbo)];exact⟨q',w,_,NoA,NoA,rfl,rfl,fun _ z=>z,fun _ z=>z,fun _ z=>z.elim,Ow.any0 u h4,ih⟩
theorem Owd.snoc0{t:D}{v:V}{q:Key}(ht:Ow K O H t 0 v NoA):∀{ks:List (D×D)} {vs:List (Key×V)},Owd K O H ks 0 vs NoA->Owd K O H (ks++[(kD q,t)]) 0 (vs++[(q,v)]) NoA
 |[],_,h=>by
  rw[show _=[]from h];exact⟨q,v,[],NoA,NoA,rfl,rfl,fun _ z=>z,fun _ z=>z,fun _ z=>z.elim,ht,rfl⟩
 | (k,u)::ks,_,h=>by
  obtain⟨q',w,r,F1,F2,e,e2,_,_,_,h4,h5⟩:=h;subst e e2;exact⟨q',w,_,NoA,NoA,rfl,rfl,fun _ z=>z,fun _ z=>z,fun _ z=>z.elim,Ow.any0 u h4,Owd.snoc0 ht (Owd.any0 ks h5)⟩
def Owd.put0{q:Key}{vs:List (Key×V)}(h:Owd K O H ks 0 vs NoA)(ht:Ow K O H t 0 v NoA):Owd K O H (cz ks (kD q) t) 0 (b8 vs q v) NoA:=by
 unfold cz b8;rw[h.any q];by_cases hq:(vs.any fun kv=>decide (kv.1=q))=true
 ·rw[if_pos hq,if_pos hq];exact Owd.rep0 ht h
 ·rw[if_neg hq,if_neg hq];exact Owd.snoc0 ht h
def Owd.past{vs:List (Key×V)}{F:AS}(ho:∀a,O' a->O a)(hl:O l)(hf:∀b,F b->b≠l)(h:Owd K O H ks d vs F):Owd K O' (upd H l o) ks d vs F:=by
 refine Owd.mv (G:=F) ⟨fun a u q z=>?_,fun a z=>.inl (ho a z)⟩ ks (fun _ z=>z) h;rw[aE]
 ·exact q
 ·intro za;subst za;rcases z with z|z
  ·exact z hl
  ·exact hf a z rfl
def noT:List (D×D)->Bool
 | (.tuple _,_)::_=>false
 | (.none,_)::_=>false
 |_=>true
def DGet.kr{kvs:List (Key×V)}{k:Key}(e:Rd H a (.dK kvs)):DGet H a (kV k) (dG kvs k):=.inl ⟨kvs,k,e,rfl,rfl⟩
def Ow.dict0(hk:noT ks=true)(h:Ow K O H (.dict ks) 0 v NoA):∃a vs,v=.ref a/\Rd H a (.dK vs)/\Owd K O H ks 0 vs NoA:=by
 obtain⟨a,vs,e,⟨_,h1,_,h2⟩|⟨z,_⟩|⟨_,⟨kk,b,h1,_⟩|⟨cn,C,h1,_⟩⟩⟩:=h
 ·exact⟨a,vs,e,h1,h2⟩
 ·exact absurd rfl z
 ·rw[h1]at hk;cases hk
 ·rw[h1]at hk;cases hk
def Ow.dict1{F:AS}(hd:d≠0)(h:Ow K O H (.dict ks) d v F):∃a vs,v=.ref a/\H a=some (.dK vs)/\F a/\∃F':AS,(∀b,F' b->F b/\b≠a)/\Owd K O H ks (dn d) vs F':=by
 obtain⟨a,vs,e,⟨z,_⟩|⟨_,h1,h2,h3⟩|⟨z,_⟩⟩:=h
 ·exact absurd z hd
 ·exact⟨a,vs,e,h1,h2,h3⟩
 ·exact absurd z hd
def ja:ME:=eC (.dict [])
def lJ:D->D->Option D
 |.dict ks,q=>(kOf q).bind fun _=>aJ ks q
 |_,_=>none
def dIn:D->D->Option D
 |q,.dict ks=>if noT ks=true then(kOf q).map fun _=>.bool (aJ ks q).isSome else none
 |_,_=>none
def cH:D->D->Option D
 |q,.dict ks=>if noT ks=true then(kOf q).map fun _=>.bool (!(aJ ks q).isSome)else none
 |_,_=>none
section
variable{a c o k:Expr}      
def Fk:PE X (.Dict [] [] pos) (tF K p ds ds 3 ja):=pe_dnewK.imp fun σ H Q ⟨Ox,en,R,t,en',e,hf,k⟩=>by
 cases hf;intro l hl;have n:NewTo H (upd H l (.dK [])) (fun b=>b=l):=bB hl;exact k (.ref l) _ R _ (Post.new e n.1 n.2) ⟨l,[],rfl,.inr (.inl ⟨by decide,aA,rfl,NoA,fun _ z=>z.elim,rfl⟩)⟩
def Kf(h:tF K p ds ds2 0 (e2 lJ f1 f2) σ H Q):vX (tF K p ds ds1 d1 f1) (tF K p ds1 ds2 d2 f2) σ H Q:=by
 obtain⟨Ox,en,R,t,en',e,hf,k⟩:=h;unfold e2 at hf;obtain⟨⟨t1,en1⟩,h1,hf⟩:=zaa.mp hf;obtain⟨⟨t2,en2⟩,h2,hf⟩:=zaa.mp hf;obtain⟨t',h3,hf⟩:=zab.mp hf;cases hf;refine two (p1:=p) (p2:=p) e h1 h2 fun x y H2 R2 F1 F2 P o1 o2=>?_;rw[zbl]at P;have w1:=Ow.letgo P (fun _=>.inl) o1;cases t1 with
 |dict ks=>
  obtain⟨q,hq,h3⟩:=zaa.mp h3;have hk:noT ks=true:=by
   cases ks with
   |nil=>rfl
   |cons kv r=>
    obtain⟨k1,x1⟩:=kv;have go:(∃(kk:List Key) (b:Bool),(k1,x1)::r=[(.tuple (kk.map kD),.bool b)])\/(∃cn,(k1,x1)::r=[(.none,.str cn)])->False:=by
     rintro (⟨kk,b,h1⟩|⟨cn,h1⟩)
     ·cases h1;rw[fC hq]at h3
      have:kEq (.tuple (kk.map kD)) (kD q)=false:=by cases q<;>rfl
      have e:aJ [(PyData.tuple (kk.map kD),PyData.bool b)] (kD q)=none:=by
       unfold aJ;rw[zbp,this];rfl
      rw[e]at h3;cases h3
     ·cases h1;rw[fC hq]at h3
      have:kEq .none (kD q)=false:=by cases q<;>rfl
      have e:aJ [(PyData.none,PyData.str cn)] (kD q)=none:=by
       unfold aJ;rw[zbp,this];rfl
      rw[e]at h3;cases h3
    obtain⟨a,vs,_,⟨_,_,_,h2⟩|⟨z,_⟩|⟨_,⟨kk,b,h1,_⟩|⟨cn,C,h1,_⟩⟩⟩:=w1
    ·obtain⟨q',_,_,_,_,_,e2,_⟩:=h2;rw[e2];cases q'<;>rfl
    ·exact absurd rfl z
    ·exact(go (.inl ⟨kk,b,h1⟩)).elim
    ·exact(go (.inr ⟨cn,h1⟩)).elim
  obtain⟨a,vs,ex,ha,ow⟩:=w1.dict0 hk;rw[fC hq]at h3;rcases ow.look q with⟨t',v,a1,a2,a3⟩|⟨z,_⟩
  ·rw[h3]at a1;cases a1;refine⟨a,v,ex,?_,k v H2 R2 NoA (P.less fun _ z=>z.elim) (by rw[fq];exact a3)⟩;rw[<-a2,gz hq o2];exact DGet.kr ha
  ·rw[h3]at z;cases z
 |_=>cases h3
def Fo(hu:X.A.units+1<cLine)(ho:PE X o (tF K p ds ds1 d1 f1))(hi:PE X k (tF K p ds1 ds2 d2 f2))(hs:qv k):PE X (.Subscript o k pos) (tF K p ds ds2 0 (e2 lJ f1 f2)):=(uY hu ho hi hs).imp fun _ _ _=>Kf
def bi(i:Nat)(f:ME):ME:=fun en=>(en[i]?).join.bind fun _=>(f en).bind fun r=>match (r.2[i]?).join with
 |some (.dict ks)=>(kOf r.1).bind fun _=>(aJ ks r.1).map fun t=>(t,r.2)
 |_=>none
def Fu(hd:ds1[i]?=some 1)(h:tF K p ds ds1 0 (bi i f) σ H Q):vX (gR i) (tF K p ds ds1 d1 f) σ H Q:=by
 obtain⟨Ox,en,R,t,en',e,hf,k⟩:=h;unfold bi at hf;obtain⟨t0,h0,hf⟩:=zaa.mp hf;obtain⟨⟨t1,en1⟩,h1,hf⟩:=zaa.mp hf
 dsimp only at hf
 split at hf
 case h_2=>cases hf
 next ks h2=>
 obtain⟨q,hq,hf⟩:=zaa.mp hf;obtain⟨t',h3,hf⟩:=zab.mp hf;cases hf;obtain⟨v,d0,a1,_,a3⟩:=e.at_ i _ (aU h0);refine⟨v,a1,Ox,en,R,t1,_,e,h1,fun x H1 R1 F P o=>?_⟩;obtain⟨v',d',b1,b2,b3⟩:=P.env.at_ i _ (aU h2);rw[a1]at b1;cases b1;rw[hd]at b2;cases b2;obtain⟨l,vs,el,hl,hr,F',hf',ow⟩:=b3.dict1 (by decide);rw[fC hq]at h3;rcases ow.look q with⟨t'',w,c1,c2,c3⟩|⟨z,_⟩
 ·rw[h3]at c1;cases c1;refine⟨l,w,el,?_,k w H1 R1 NoA (P.less fun _ z=>z.elim) ?_⟩
  ·rw[<-c2,gz hq o];exact DGet.k hl
  ·exact Ow.any0 _ (Ow.grow (fun a z=>z.imp id fun z=>z.elim (fun z=>False.elim z) Or.inr) _ (fun _ z=>z) c3)
 ·rw[h3]at z;cases z
def AL(hu:X.A.units+1<cLine)(hN:X.N[i]?=some x)(hv:Vis X.env.scope x)(h1:ds1[i]?=some 1)(hi:PE X k (tF K p ds ds1 d1 f))(hs:qv k)(hd:(x==("__debug__":Str))=false)(hcd:(x==("__classdict__":Str))=false):
  PE X (.Subscript (.Name x px) k pos) (tF K p ds ds1 0 (bi i f)):=(uY hu (dz hN hv hd hcd) hi hs).imp fun _ _ _=>Fu h1
def Dy{neg:Bool}(h:tF K p ds ds2 3 (e2 (if neg then cH else dIn) f1 f2) σ H Q):(if neg then uO else HM) (tF K p ds ds1 d1 f1) (tF K p ds1 ds2 d2 f2) σ H Q:=by
 obtain⟨Ox,en,R,t,en',e,hf,k⟩:=h;unfold e2 at hf;obtain⟨⟨t1,en1⟩,h1,hf⟩:=zaa.mp hf;obtain⟨⟨t2,en2⟩,h2,hf⟩:=zaa.mp hf;obtain⟨t',h3,hf⟩:=zab.mp hf;cases hf;have go:∀(b:Bool->Bool),(∃q ks,t2=.dict ks/\noT ks=true/\kOf t1=some q/\t=.bool (b (aJ ks t1).isSome))->tF K p ds ds1 d1 f1 σ H fun y H1=>tF K p ds1 ds2 d2 f2 σ H1 fun x H2=>∃a o,x=.ref a/\DGet H2 a y o/\Q (.bl (b o.isSome)) H2:=fun b ⟨q,ks,e1,hk,e2,e3⟩=>by
  subst e1 e3;refine two (p1:=p) (p2:=p) e h1 h2 fun x y H2 R2 F1 F2 P o1 o2=>?_;rw[zbl]at P;obtain⟨a,vs,ex,ha,ow⟩:=(Ow.letgo P (fun _=>.inr) o2).dict0 hk;rw[fC e2]at k;rcases ow.look q with⟨t',v,a1,a2,a3⟩|⟨z1,z2⟩
  ·rw[a1]at k;refine⟨a,some v,ex,?_,k _ H2 R2 NoA (P.less fun _ z=>z.elim) rfl⟩;rw[<-a2,gz e2 o1];exact DGet.kr ha
  ·rw[z1]at k;refine⟨a,none,ex,?_,k _ H2 R2 NoA (P.less fun _ z=>z.elim) rfl⟩;rw[<-z2,gz e2 o1];exact DGet.kr ha
 cases neg with
 |true=>
  refine go (fun b=>!b) ?_;cases t2 with
  |dict ks=>
   have h4:(if noT ks=true then(kOf t1).map (fun _=>PyData.bool (!(aJ ks t1).isSome))else none)=some t:=h3;by_cases hk:noT ks=true
   ·rw[if_pos hk]at h4;obtain⟨q,hq,e⟩:=zab.mp h4;exact⟨q,ks,rfl,hk,hq,e.symm⟩
   ·rw[if_neg hk]at h4;cases h4
  |_=>cases t1<;>cases h3
 |false=>
  refine go (fun b=>b) ?_;cases t2 with
  |dict ks=>
   have h4:(if noT ks=true then(kOf t1).map (fun _=>PyData.bool (aJ ks t1).isSome)else none)=some t:=h3;by_cases hk:noT ks=true
   ·rw[if_pos hk]at h4;obtain⟨q,hq,e⟩:=zab.mp h4;exact⟨q,ks,rfl,hk,hq,e.symm⟩
   ·rw[if_neg hk]at h4;cases h4
  |_=>cases t1<;>cases h3
def PC.imp{t t':TE}(h:PC X op a b t)(hi:∀σ H Q,t' σ H Q->t σ H Q):PC X op a b t':=fun ρ s σ H Q I hw=>h ρ s σ H Q I (hi _ _ _ hw)
def Jx(hu:X.A.units+1<cLine)(ha:PE X a (tF K p ds ds1 d1 f1))(hb:PE X b (tF K p ds1 ds2 d2 f2))(h1:behindInMarks .In b=false):PT X (.Compare a [.In] [b] pos) (tFT K p ds ds2 (tV (e2 dIn f1 f2))):=
 (se ((IG hu ha hb).imp fun _ _ _=>Dy (neg:=false)) h1).imp fun _ _ _=>jJ
def EF(hu:X.A.units+1<cLine)(ha:PE X a (tF K p ds ds1 d1 f1))(hb:PE X b (tF K p ds1 ds2 d2 f2))(h1:behindInMarks .NotIn b=false):PT X (.Compare a [.NotIn] [b] pos) (tFT K p ds ds2 (tV (e2 cH f1 f2))):=
 (se ((xO hu ha hb).imp fun _ _ _=>Dy (neg:=true)) h1).imp fun _ _ _=>jJ
def bo(i:Nat)(fk fe:ME):MS:=fun en=>(fe en).bind fun r=>match (r.2[i]?).join with
 |some _=>(fk r.2).bind fun q=>match (q.2[i]?).join with
  |some (.dict ks)=>(kOf q.1).bind fun _=>if ks.length<sizeLine then some (.nx (q.2.set i (some (.dict (cz ks q.1 r.1)))))else none
  |_=>none
 |none=>none
def EO(hd:ds2[i]?=some 1)(h:tFS K J ds ds2 (bo i fk fe) Dn σ H):C9 (gR i) (tF K false ds1 ds2 d2 fk) (tF K false ds ds1 0 fe) Dn σ H:=by
 obtain⟨Ox,en,R,fl,e,hf,k⟩:=h;unfold bo at hf;obtain⟨⟨t1,en1⟩,h1,hf⟩:=zaa.mp hf
 dsimp only at hf
 split at hf
 case h_2=>cases hf
 next tt h0=>
 obtain⟨⟨t2,en2⟩,h2,hf⟩:=zaa.mp hf
 dsimp only at hf
 split at hf
 case h_2=>cases hf
 next ks h3=>
 obtain⟨q,hq,hf⟩:=zaa.mp hf;by_cases ξ:ks.length<sizeLine
 case neg=>rw[if_neg ξ]at hf;cases hf
 rw[if_pos ξ]at hf;cases hf;refine⟨Ox,en,R,t1,en1,e,h1,fun x H1 R1 F1 P1 o1=>?_⟩;obtain⟨v0,d0,a1,_,_⟩:=P1.env.at_ i tt (aU h0);refine⟨v0,a1,?_⟩;refine⟨U F1 Ox,en1,R1,t2,en2,P1.env,h2,fun y H2 R2 F2 P2 o2=>?_⟩;have P:=P1.trans P2;have o1':=Ow.over P1.env P2 o1;have w1:=Ow.letgo P (fun _=>.inl) o1';obtain⟨v',d',b1,b2,b3⟩:=P.env.at_ i _ (aU h3);rw[a1]at b1;cases b1;rw[hd]at b2;cases b2;obtain⟨l,vs,el,hl,hr,F',hf',ow⟩:=b3.dict1 (by decide);have eq:=gz hq o2;subst eq;refine⟨l,_,el,DPut.k hl (by rw[ow.len];exact ξ),?_⟩;have hi:i<en2.length:=(zah.mp (aU h3)).1;have gG:∀a,(fun a=>R2 i a) a->R2 i a\/U F1 F2 a:=fun a z=>.inl z;have sub:=l8 (i:=i) (R1:=R2) (Ox:=Ox) (G:=fun a=>R2 i a) (F':=NoA) (F:=U F1 F2) gG (fun _ z=>z.elim);have Ol:Own R2 (U (U F1 F2) Ox) l:=.inl ⟨i,hr⟩;have PS:=P.slot (G:=fun a=>R2 i a) (F':=NoA) (o2:=.dK (b8 vs q x)) (t:=.dict (cz ks t2 t1)) hr hi a1 hd gG (fun _ z=>z.elim) (fun _ _ z=>z) ?_
 ·exact k σ _ _ PS.s
 refine⟨l,b8 vs q x,el,.inr (.inl ⟨by decide,aA,hr,NoA,fun _ z=>z.elim,?_⟩)⟩;rw[fC hq];refine Owd.put0 (Owd.past sub Ol (fun _ z=>z.elim) (Owd.any0 ks ow)) ?_;refine Ow.past (O:=Own R2 Ox) (fun a z=>?_) (.inl ⟨i,hr⟩) (fun _ z=>z.elim) w1;rcases z with⟨j,z⟩|z|z
 ·by_cases hj:j=i
  ·rw[if_pos hj]at z;exact .inl ⟨i,z⟩
  ·rw[if_neg hj]at z;exact .inl ⟨j,z⟩
 ·exact z.elim
 ·exact .inr z
def Ay(hu:X.A.units+1<cLine)(hN:X.N[i]?=some x)(hv:Vis X.env.scope x)(he:PE X e (tF K false ds ds1 0 fe))(hk:PE X k (tF K false ds1 ds2 d2 fk))(h1:ds2[i]?=some 1)
  (hdb:(x==("__debug__":Str))=false) (hcd:(x==("__classdict__":Str))=false) (hs:swapsWith e (some (.Subscript (.Name x px) k ζ)) pos.line X.env=pure false):
  PS X (.Assign [.Subscript (.Name x px) k ζ] e pos) (tFS K J ds ds2 (bo i fk fe)):=(D0 hu (dz hN hv hdb hcd) hk he hs).imp fun _ _ _=>EO h1
end
def evP:List (ME×ME)->En->Option (List (D×D)×En)
 |[],en=>some ([],en)
 | (fk,fv)::r,en=>(fk en).bind fun x=>(fv x.2).bind fun y=>(evP r y.2).bind fun z=>(kOf x.1).map fun _=>((x.1,y.1)::z.1,z.2)
def IQ(ks:List (D×D)):List (D×D):=ks.foldl (fun acc kv=>cz acc kv.1 kv.2) []
def gi(fs:List (ME×ME)):ME:=fun en=>(evP fs en).bind fun r=>if r.1.length<=15 then some (.dict (IQ r.1),r.2)else none
def OwP(K:zb7)(O:AS)(H:Hp):List (D×D)->List (V×V)->Prop
 |[],ps=>ps=[]
 | (k,t)::r,ps=>∃q v s,ps=(kV q,v)::s/\k=kD q/\Ow K O H t 0 v NoA/\OwP K O H r s
section
variable{a c o k:Expr}         
theorem OwP.mv{O O':AS}{H H':Hp}(m:Mv O O' NoA H H'):∀{ks:List (D×D)} {ps:List (V×V)},OwP K O H ks ps->OwP K O' H' ks ps
 |[],_,h=>h
 | (k,t)::r,_,h=>by
  obtain⟨q,v,s,e1,e2,o,h⟩:=h;exact⟨q,v,s,e1,e2,Ow.mv m t (fun _ z=>z) o,OwP.mv m h⟩
def trs(K:zb7)(p:Bool)(ds:List Nat)(fs:List (ME×ME)):List (TE×TE):=fs.map fun q=>(tF K p ds ds 3 q.1,tF K p ds ds 0 q.2)
def D2{F:AS}(P:Post K p ds1 Ox σ H en R en1 H1 R1 F):Mv (Own R Ox) (Own R1 Ox) NoA H H1:=by
 refine⟨fun a o q z=>P.keep a o q fun i zi=>?_,fun a z=>?_⟩
 ·rcases z with z|z
  ·exact z (.inl ⟨i,zi⟩)
  ·exact z
 ·rcases z with z|z
  ·exact(P.own a (.inr z)).imp .inl id
  ·exact .inl (.inr z)
theorem vw:∀{fs:List (ME×ME)} {σ:St} {H:Hp} {Ox:AS} {en en':En} {R:Nat->AS} {ks:List (D×D)} {QP:List (V×V)->Hp->Prop},EnvOk K ds Ox H σ en R->evP fs en=some (ks,en') ->
  (∀ps H' R',Post K p ds Ox σ H en R en' H' R' NoA->OwP K (Own R' Ox) H' ks ps->QP ps H')->nQ (trs K p ds fs) σ H QP
 |[],σ,H,Ox,en,en',R,ks,QP,e,hf,k=>by
  cases hf;exact k [] H R (Post.refl e) rfl
 | (fk,fv)::r,σ,H,Ox,en,en',R,ks,QP,e,hf,k=>by
  unfold evP at hf;obtain⟨⟨t1,en1⟩,h1,hf⟩:=zaa.mp hf;obtain⟨⟨t2,en2⟩,h2,hf⟩:=zaa.mp hf;obtain⟨⟨ks3,en3⟩,h3,hf⟩:=zaa.mp hf;obtain⟨q,hq,hf⟩:=zab.mp hf;cases hf;refine⟨Ox,en,R,t1,en1,e,h1,fun x H1 R1 F1 P1 o1=>?_⟩;refine⟨Ox,en1,R1,t2,en2,P1.env0,h2,fun y H2 R2 F2 P2 o2=>?_⟩;refine vw P2.env0 h3 fun ps H3 R3 P3 op=>?_;have PP:=(P1.after P2).after P3;rw[zbl,zbl]at PP;refine k _ H3 R3 PP ⟨q,y,ps,?_,fC hq,?_,op⟩
  ·rw[gz hq o1]
  ·exact Ow.mv (D2 P3) t2 (fun _ z=>z) (Ow.letgo P2 (fun _ z=>z) o2)
theorem sF{O:AS}:∀{ks:List (D×D)} {kvs:List (Key×V)} {acc:List (D×D)} {avs:List (Key×V)},OwP K O H ks (kvs.map fun kv=>(kV kv.1,kv.2))->Owd K O H acc 0 avs NoA->Owd K O H (ks.foldl (fun acc kv=>cz acc kv.1 kv.2) acc) 0 (gB avs kvs) NoA
 |[],kvs,acc,avs,h,ha=>by
  have:kvs=[]:=List.map_eq_nil_iff.mp h;subst this;exact ha
 | (k,t)::r,kvs,acc,avs,h,ha=>by
  obtain⟨q,v,s,e1,e2,o,h⟩:=h;cases kvs with
  |nil=>cases e1
  |cons kv kvs=>
   rw[zar]at e1;injection e1 with e3 e4
   injection e3 with e5 e6
   have:=IY e5;subst this e6 e4 e2;exact sF (ks:=r) (kvs:=kvs) h (ha.put0 o)
theorem uZ{O:AS}:∀{ks:List (D×D)} {ps:List (V×V)},OwP K O H ks ps->∃kvs:List (Key×V),ps=kvs.map (fun kv=>(kV kv.1,kv.2))/\kvs.length=ks.length
 |[],_,h=>⟨[],h,rfl⟩
 | (k,t)::r,_,h=>by
  obtain⟨q,v,s,e1,e2,o,h⟩:=h;obtain⟨kvs,e3,e4⟩:=uZ h;exact⟨(q,v)::kvs,by rw[e1,e3];rfl,by rw[zac,zac,e4]⟩
def Kc(h:tF K p ds ds 1 (gi fs) σ H Q):C5 (trs K p ds fs) σ H Q:=by
 obtain⟨Ox,en,R,t,en',e,hf,k⟩:=h;unfold gi at hf;obtain⟨⟨ks,en1⟩,h1,hf⟩:=zaa.mp hf;by_cases hl:ks.length<=15
 case neg=>rw[if_neg hl]at hf;cases hf
 rw[if_pos hl]at hf;cases hf;intro l hl0;have n0:=bB (o:=.dK []) hl0;have P0:Post K true ds Ox σ H en R en (upd H l (.dK [])) R (fun b=>b=l):=Post.new e n0.1 n0.2;refine vw P0.env h1 fun ps H2 R2 P op=>?_;obtain⟨kvs,e1,e2⟩:=uZ op;have lO:U (fun b=>b=l) Ox l:=.inl rfl;have hl2:H2 l=some (.dK []):=P.keep l _ aA fun i z=>by
  obtain⟨o,q⟩:=e.dom l (.inl ⟨i,z⟩);rw[hl0]at q;cases q
 have nl2:∀i,¬R2 i l:=fun i z=>P.env.dx i l z (.inr lO);refine⟨hl2,kvs,e1,by omega,?_⟩;have PP:=P0.trans P;rw[Bool.true_and]at PP;have eU:U (fun b=>b=l) NoA=(fun b=>b=l):=e7 fun a=>⟨fun z=>z.elim id fun z=>z.elim,.inl⟩;rw[eU]at PP;have gV:∀a o,H2 a=some o->a≠l->upd H2 l (.dK (gB [] kvs)) a=some o:=fun a o q n=>by rw[aE n];exact q
 have OO:∀a,Own R2 (U (fun b=>b=l) Ox) a->Own R2 (U (U (fun b=>b=l) Ox) NoA) a:=fun a z=>z.imp id .inl;refine k (.ref l) _ R2 (fun b=>b=l) ⟨⟨fun j u hu=>?_,PP.env.dj,PP.env.dx,fun a z=>?_,PP.env.l1,PP.env.l2⟩,PP.fx,fun a o q n=>?_,PP.own,fun a o q=>?_,fun hp=>?_⟩ ⟨l,_,rfl,.inr (.inl ⟨by decide,aA,rfl,NoA,fun _ z=>z.elim,?_⟩)⟩
 ·obtain⟨v',d',g1,g2,g3⟩:=PP.env.at_ j u hu;refine⟨v',d',g1,g2,Ow.mv (G:=R2 j) ⟨fun a o q z=>gV a o q fun za=>?_,fun a z=>.inl z⟩ u (fun _ z=>z) g3⟩;subst za;rcases z with z|z
  ·exact z (.inr lO)
  ·exact nl2 j z
 ·by_cases ha:a=l
  ·subst ha;exact⟨_,aA⟩
  ·obtain⟨o,q⟩:=PP.env.dom a z;exact⟨o,gV a o q ha⟩
 ·refine gV a o (PP.keep a o q n) fun za=>?_;subst za;rw[hl0]at q;cases q
 ·obtain⟨o',q'⟩:=PP.dom a o q;by_cases ha:a=l
  ·subst ha;exact⟨_,aA⟩
  ·exact⟨o',gV a o' q' ha⟩
 ·obtain⟨b1,b2,b3⟩:=PP.pure hp;refine⟨b1,b2,fun a o q=>gV a o (b3 a o q) fun za=>?_⟩;subst za;rw[hl0]at q;cases q
 ·have op2:OwP K (Own R2 (U (fun b=>b=l) Ox)) (upd H2 l (.dK (gB [] kvs))) ks (kvs.map fun kv=>(kV kv.1,kv.2)):=by
   rw[e1]at op;refine OwP.mv ⟨fun a o q z=>gV a o q fun za=>?_,fun a z=>.inl z⟩ op;subst za;rcases z with z|z
   ·exact z (.inr lO)
   ·exact z
  exact sF op2 rfl
def Fm{keys:List (Option Expr)}{values:List Expr}(h:PPs X pos keys values (trs K p ds fs))(hall:keys.all (·.isSome)=true)(hl:keys.length=values.length)(h0:keys≠[])(h15:keys.length<=15):
  PE X (.Dict keys values pos) (tF K p ds ds 1 (gi fs)):=(D8 h hall hl h0 h15).imp fun _ _ _=>Kc
def JH:PPs X pos [] [] (trs K p ds []):=D1
def EW{k v:Expr}{ks:List (Option Expr)}{vs:List Expr}{fv:ME}(hk:PE X k (tF K p ds ds 3 fk))(hv:PE X v (tF K p ds ds 0 fv))(hr:PPs X pos ks vs (trs K p ds fs)):PPs X pos (some k::ks) (v::vs) (trs K p ds ((fk,fv)::fs)):=zG hk hv hr
end
section
variable{ws:List V}{x:V} 
def cv:List D->Option (List Int)
 |[]=>some []
 |.int i::r=>(cv r).map (i::·)
 |_::_=>none
theorem j7:∀{ts:List D} {vs:List V} {bs:List Int},Ows K O H ts 0 vs NoA->cv ts=some bs->vs=bs.map V.int
 |[],_,_,h,hb=>by cases hb;exact h
 |.int b::r,_,_,h,hb=>by
  obtain⟨v,w,F1,F2,e,_,_,_,h4,h5⟩:=h;obtain⟨bs',h6,h7⟩:=zab.mp hb;subst e h7;rw[show v=.int b from h4,j7 (Ows.any0 r h5) h6];rfl
 |.none::_,_,_,_,hb=>by cases hb
 |.bool _::_,_,_,_,hb=>by cases hb
 |.str _::_,_,_,_,hb=>by cases hb
 |.list _::_,_,_,_,hb=>by cases hb
 |.tuple _::_,_,_,_,hb=>by cases hb
 |.dict _::_,_,_,_,hb=>by cases hb
end
section
variable{ws:List V}{b:Addr}
def eJ(ts us:List D):List D:=List.zipWith (fun x y=>.tuple [x,y]) ts us
def xP{u:D}{w:V}{q:Addr}(hp:H q=none)(h3:∀a,O1 a->∃o,H a=some o)(ov:Ow K O1 H t 0 v NoA)(ow:Ow K O1 H u 0 w NoA):(∀a o,H a=some o->upd H q (.tup [v,w]) a=some o)/\Ow K O1 (upd H q (.tup [v,w])) (.tuple [t,u]) 0 (.ref q) NoA:=by
 have g:=(bB (o:=.tup [v,w]) hp).1;refine⟨g,q,[v,w],rfl,.inl ⟨rfl,⟨aA,fun z=>?_⟩,v,[w],NoA,NoA,rfl,fun _ z=>z,fun _ z=>z,fun _ z=>z.elim,?_,w,[],NoA,NoA,rfl,fun _ z=>z,fun _ z=>z,fun _ z=>z.elim,?_,rfl⟩⟩
 ·obtain⟨o,e⟩:=h3 q z;rw[hp]at e;cases e
 ·exact Ow.mv (G:=NoA) ⟨fun a o e _=>g a o e,fun a z=>.inl z⟩ t (fun _ z=>z) ov
 ·exact Ow.mv (G:=NoA) ⟨fun a o e _=>g a o e,fun a z=>.inl z⟩ u (fun _ z=>z) ow
def y6(h:FzL K O H0 a vs)(ho:Ows K O H0 ts 0 vs NoA)(h':FzL K O H0 b ws)(ho':Ows K O H0 us 0 ws NoA):ju K O H0 (Itz K a b) (eJ ts us):=fun i H O1 h1 h2 h3=>by
 have sq:=(h.mv (bM h1 h2)).sq;have sq':=(h'.mv (bM h1 h2)).sq;refine⟨fun u hu=>?_,fun hl=>⟨vs,ws,sq,sq',?_⟩⟩
 ·unfold eJ at hu;rw[List.getElem?_zipWith]at hu;split at hu
  case h_2=>cases hu
  next t t' ht ht'=>
  cases hu;obtain⟨v,hv,ov⟩:=ho.get ht;obtain⟨w,hw,ow⟩:=ho'.get ht';refine⟨⟨vs,ws,v,w,sq,sq',hv,hw⟩,fun x H1 ⟨q,v',w',e1,hp,e2,y1,y2⟩=>?_⟩;have e3:=y1 vs sq;have e4:=y2 ws sq';rw[hv]at e3;rw[hw]at e4;cases e3;cases e4;subst e1 e2;exact xP hp h3 (Ow.mv (bM h1 h2) t (fun _ z=>z) ov) (Ow.mv (bM h1 h2) t' (fun _ z=>z) ow)
 ·unfold eJ at hl;rw[List.length_zipWith]at hl;rw[ho.len,ho'.len];omega
def wF(fa:MA):MI:=fun en=>(fa en).bind fun r=>match r.1 with
 |[.inl (.list ts),.inl (.list us)]=>some (eJ ts us,r.2)
 |_=>none
def JL{l:Expr}(hK:X.K=K)(hg:Gl X "zip")(hm:X.mg "zip"=none)(ha:PA X [l,m] (tFA K p ds ds1 sh fa))(hs:aD l=true)(hs2:aD m=true):
  PI X (.Tuple elts k tp) (.Call (.Name "zip" px) [l,m] [] pos) (tFI K p ds ds1 (wF fa)):=
 (Er hK hg hm ha (by rw[aR hs]) (by rw[aR hs2];rfl)).imp fun σ H R ⟨Ox,en,Rg,ts,en',e,hf,k⟩=>by
  unfold wF at hf;obtain⟨⟨as,en1⟩,h1,hf⟩:=zaa.mp hf;refine⟨Ox,en,Rg,as,en1,e,h1,fun vs H1 R1 F P o=>?_⟩
  dsimp only at hf
  split at hf
  case h_2=>cases hf
  next t1 t2=>
  cases hf;obtain⟨v,r,d,dr,F1,F2,e1,e2,s1,s2,_,o1,v2,r2,d2,dr2,G1,G2,e3,e4,s3,_,_,o2,o3⟩:=o;obtain⟨_,o3⟩:=o3;subst e1 e3 o3;have q1:=Ow.letgo P s1 o1;have q2:=Ow.letgo P (fun b z=>s2 b (s3 b z)) o2;obtain⟨a,xs,f1,⟨_,fz,ow⟩|⟨z,_⟩⟩:=q1
  ·obtain⟨b,ys,f2,⟨_,fz2,ow2⟩|⟨z,_⟩⟩:=q2
   ·subst f1 f2;exact⟨a,b,rfl,⟨xs,fz.sq⟩,⟨ys,fz2.sq⟩,k _ H1 R1 (P.less fun _ z=>z.elim) (y6 fz ow fz2 ow2)⟩
   ·exact absurd rfl z
  ·exact absurd rfl z
end
def vR:List String:=["int","bool","str","list","tuple","dict"]
theorem vh(a:D):∀{Ts:List String},(∀T∈Ts,T∈vR)->PySem.W.kitAny K (.type (tyN a)) (Ts.map Value.type)=some (Ts.any fun T=>iE (tyN a) T)
 |[],_=>rfl
 |T::Ts,h=>by
  have e1:=pY (K:=K) (h T zaq) a;have e2:=vh a (Ts:=Ts) fun x hx=>h x (zaj _ hx);show(match PySem.W.kitOne K (.type (tyN a)) (.type T)with
   |some true=>some true
   |some false=>PySem.W.kitAny K (.type (tyN a)) (Ts.map Value.type)
   |none=>none)=_
  rw[e1,List.any_cons];cases iE (tyN a) T with
  |true=>rfl
  |false=>rw[e2];rfl
def KZ(K:zb7):List V->Hp->VK->Prop:=fun xs H Q=>∃(x:V) (tp:Addr) (Ts:List String) (O:AS) (a:D),xs=[x,.ref tp]/\Ow K O H a 0 x NoA/\isX a=false/\H tp=some (.tup (Ts.map V.ty))/\(∀T∈Ts,T∈vR)/\Q (.bl (Ts.any fun T=>iE (tyN a) T)) H
theorem uN:∀{Ts:List String} {us:List Value},Vals (Ts.map V.ty) us->us=Ts.map Value.type
 |[],_,.nil=>rfl
 |T::Ts,_,.cons h t=>by
  rw[uN t];exact congrArg (·::Ts.map Value.type) h
def yO:CallR X (.builtin "isinstance") (KZ X.K):=by
 intro ρ s σ H xs us Q I r h;obtain⟨x,tp,Ts,O,a,rfl,oa,hX,ht,hT,q⟩:=h;obtain⟨u,u2,rfl,r1,r2⟩:=r.two;cases r2;have ek:=vh (K:=X.K) a hT;obtain⟨zl,its,rv,o,h1,h2,n,h3,_⟩:=(show ObjOk X.prog X.w H s.heap tp (.tup (Ts.map V.ty))from I.hok tp _ ht);have ei:=uN rv;subst ei;obtain⟨oc,od,oda,os⟩:=o;cases h2;cases h3;have fin:∀tk,EP X ρ σ Q (.bool (Ts.any fun T=>iE (tyN a) T)) { s with toks:=tk }:=fun tk=>⟨.bl _,H,I.tok tk,rfl,q⟩;cases a with
 |none=>
  have:x=.non:=oa;subst this;cases(show u=Value.none from r1);exact PySem.W.kia_tup PySem.W.kitx_none I.kIn True.intro h1 ek (fun z=>nomatch z) fin
 |bool b=>
  have:x=.bl b:=oa;subst this;cases(show u=Value.bool b from r1);exact PySem.W.kia_tup PySem.W.kitx_bool I.kIn True.intro h1 ek (fun z=>nomatch z) fin
 |int b=>
  have:x=.int b:=oa;subst this;obtain⟨t,rfl⟩:=(show ∃t,u=Value.int b t from r1);exact PySem.W.kia_tup PySem.W.kitx_int I.kIn True.intro h1 ek (fun z=>nomatch z) fin
 |str b=>
  have:x=.str b:=oa;subst this;obtain⟨t,rfl⟩:=(show ∃t,u=Value.str b t from r1);exact PySem.W.kia_tup PySem.W.kitx_str I.kIn True.intro h1 ek (fun z=>nomatch z) fin
 |tuple ts=>
  obtain⟨p,vs,rfl,fz,w⟩:=oa.tup0;cases r1;obtain⟨its,rv,pl,_⟩:=I.tuple fz.sq;obtain⟨o,g1,g2,_⟩:=pl;exact PySem.W.kia_tup PySem.W.kitx_tuple I.kIn ⟨o,g1,g2⟩ h1 ek (fun z=>nomatch z) fin
 |dict ts=>
  have go:∀{p:Addr} {kvs:List (Key×V)},x=.ref p->Rd H p (.dK kvs)->wpAny (model X.prog X.w) X.A (call (.builtin "isinstance") [u,.ref tp]) (EP X ρ σ Q) X.xe s:=fun {p kvs} ex ea=>by
   subst ex;cases(show u=Value.ref p from r1);obtain⟨_,_,vs,_,pp⟩:=(show ObjOk X.prog X.w H s.heap p (.dK kvs)from ea.ok I.hok);obtain⟨o,es,ep,g1,g2,_⟩:=pp;exact PySem.W.kia_tup PySem.W.kitx_dict I.kIn ⟨o,g1,g2.1⟩ h1 ek (fun z=>nomatch z) fin
  obtain⟨p,vs,ex,⟨_,h1,_⟩|⟨_,h1,_⟩|⟨_,⟨kk,b,_,h2,_⟩|⟨cn,C,h0,_⟩⟩⟩:=oa
  ·exact go ex h1
  ·exact go ex (.inl h1)
  ·subst ex;cases(show u=Value.ref p from r1);obtain⟨_,_,xs,_,o,es,ep,g1,g2,_⟩:=(show ObjOk X.prog X.w H s.heap p (.dT _)from I.hok p _ h2);exact PySem.W.kia_tup PySem.W.kitx_dict I.kIn ⟨o,g1,g2.1⟩ h1 ek (fun z=>nomatch z) fin
  ·subst h0;cases hX
 |list ts=>
  obtain⟨p,vs,rfl,fz,w⟩:=oa.lst0;cases r1;obtain⟨its,rv,pl,_⟩:=I.list fz.sq;obtain⟨o,n,g1,g2,_⟩:=pl;exact PySem.W.kia_tup PySem.W.kitx_list I.kIn ⟨o,g1,g2⟩ h1 ek (fun z=>nomatch z) fin
def fE(Ts:List String):D->Option D:=fun a=>if isX a=true then none else some (.bool (Ts.any fun T=>iE (tyN a) T))
def Fi{T1 T2:Str}{n1 n2:String}{p1 p2:Pos}{kk:Nat}(hK:X.K=K)(hg:Gl X "isinstance")(hm:X.mg "isinstance"=none)(hg1:Gl X T1)(hm1:X.mg T1=none)(hb1:bootBuiltins T1=some (.type n1))(hg2:Gl X T2)(hm2:X.mg T2=none)(hb2:bootBuiltins T2=some (.type n2))(hT:∀T∈[n1,n2],T∈vR)(he:PE X e (tF K p ds ds1 d1 f))
  (hn1:T1≠"__name__") (hd1:(T1==("__debug__":Str))=false) (hn2:T2≠"__name__") (hd2:(T2==("__debug__":Str))=false) (hs:aD e=true):
  PE X (.Call (.Name "isinstance" px) [e,.Tuple [.Name T1 p1,.Name T2 p2] kk tp] [] pos) (tF K p ds ds1 3 (e1 (fE [n1,n2]) f)):=by
 subst hK;refine(ny yO hg hm boot_isinstance (cZ he (cZ (xL (cZ (pP (v:=.ty n1) hg1 hm1 hb1 rfl hn1 hd1) (cZ (pP (v:=.ty n2) hg2 hm2 hb2 rfl hn2 hd2) pa_nil (aR rfl)) (aR rfl))) pa_nil (aR rfl)) (aR hs)) (by decide) (by decide) (aR hs) (fg rfl)).imp fun σ H Q h=>?_;obtain⟨Ox,en,R,t,en',e,hf,k⟩:=h;unfold e1 at hf;obtain⟨⟨t1,en1⟩,h1,hf⟩:=zaa.mp hf;obtain⟨t',h3,hf⟩:=zab.mp hf;cases hf;unfold fE at h3;by_cases hX:isX t1=true
 ·rw[if_pos hX]at h3;cases h3
 rw[if_neg hX]at h3;cases h3;refine⟨Ox,en,R,t1,en1,e,h1,fun v H' R' F P o=>?_⟩;refine⟨zau (by show 2<=63;decide) (by rw[sizeLine_eq];decide),fun q hq=>?_⟩;have g:=(bB (o:=.tup [.ty n1,.ty n2]) hq).1;refine⟨v,q,[n1,n2],Own R' Ox,t1,rfl,Ow.mv (G:=NoA) ⟨fun a o e _=>g a o e,fun a z=>.inl z⟩ t1 (fun _ z=>z) (Ow.letgo P (fun _ z=>z) o),Bool.eq_false_iff.mpr hX,aA,hT,?_⟩;exact k _ _ R' NoA ((P.less (F':=NoA) fun _ z=>z.elim).fin ⟨g,fun _ z=>z.elim⟩) rfl
section
variable{s:Shared} 
mutual
theorem Ow.reads(I:Inv X ρ σ H s):∀(t:D) {v:V} {u:Value},aG t=true->Ow X.K O H t 0 v NoA->RelV v u->∃as,Reads s.heap u t as
 |.none,_,_,_,h,r=>by
  cases(show _=V.non from h);cases r;exact⟨_,.none⟩
 |.bool b,_,_,_,h,r=>by
  cases(show _=V.bl b from h);cases r;exact⟨_,.bool _⟩
 |.int i,_,_,_,h,r=>by
  cases(show _=V.int i from h);obtain⟨t,rfl⟩:=r;exact⟨_,.int _ _⟩
 |.str x,_,_,_,h,r=>by
  cases(show _=V.str x from h);obtain⟨t,rfl⟩:=r;exact⟨_,.str _ _⟩
 |.list ts,_,_,hn,h,r=>by
  obtain⟨p,vs,rfl,fz,w⟩:=h.lst0;cases r;obtain⟨its,rv,⟨o,n,e1,e2,_,e3⟩,_⟩:=I.list fz.sq;obtain⟨as,ra⟩:=Ows.reads I ts (by simpa[aG]using hn) w rv;exact⟨_,.list e1 e2 e3 (by simpa using ra)⟩
 |.tuple ts,_,_,hn,h,r=>by
  obtain⟨p,vs,rfl,fz,w⟩:=h.tup0;cases r;obtain⟨its,rv,⟨o,e1,e2,n,e3⟩,_⟩:=I.tuple fz.sq;obtain⟨as,ra⟩:=Ows.reads I ts (by simpa[aG]using hn) w rv;exact⟨_,.tuple e1 e2 e3 (by simpa using ra)⟩
 |.dict _,_,_,hn,_,_=>by simp[aG]at hn
theorem Ows.reads(I:Inv X ρ σ H s):∀(ts:List D) {vs:List V} {us:List Value},aP ts=true->Ows X.K O H ts 0 vs NoA->Vals vs us->∃as,ReadsAll s.heap us ts as
 |[],_,_,_,h,r=>by
  cases(show _=[]from h);cases r;exact⟨_,.nil⟩
 |t::ts,_,_,hn,h,r=>by
  obtain⟨v,q,F1,F2,e,_,_,_,h4,h5⟩:=h;subst e;have hn':aG t=true/\aP ts=true:=by simpa[aP]using hn
  cases r with
  |cons ru rr=>
   obtain⟨as,a1⟩:=Ow.reads I t hn'.1 (Ow.any0 t h4) ru;obtain⟨bs,a2⟩:=Ows.reads I ts hn'.2 (Ows.any0 ts h5) rr;exact⟨_,.cons a1 a2⟩
end
mutual
theorem j9:∀t:D,aG t=true->t.hasDict=false
 |.none,_=>by simp only[PyData.hasDict]
 |.bool _,_=>by simp only[PyData.hasDict]
 |.int _,_=>by simp only[PyData.hasDict]
 |.str _,_=>by simp only[PyData.hasDict]
 |.list ts,h=>by simp only[PyData.hasDict];exact jp ts (by simpa[aG]using h)
 |.tuple ts,h=>by simp only[PyData.hasDict];exact jp ts (by simpa[aG]using h)
 |.dict _,h=>by simp[aG]at h
theorem jp:∀ts:List D,aP ts=true->PyData.hasDictAll ts=false
 |[],_=>by simp only[PyData.hasDictAll]
 |t::ts,h=>by
  have h':aG t=true/\aP ts=true:=by simpa[aP]using h
  simp only[PyData.hasDictAll,j9 t h'.1,jp ts h'.2,Bool.or_self]
end
def wa:List D->Option D
 |[.dict []]=>some (.str "{}")
 |[t]=>grd (aG t=true/\t.showable=true/\t.depth<=60/\t.shown.length<=sizeLine) (.str t.shown)
 |_=>none
def EZ(hK:X.K=K)(hg:X.A.guards=some [])(hu:X.A.units+64<cLine):CallR X (.builtin "repr") (rFn K wa 3):=by
 subst hK;intro ρ s σ H xs us Q I r ⟨O,as,t,oa,hd,hr,k⟩;unfold wa at hr;split at hr
 ·cases hr;obtain⟨v,rfl,o⟩:=oa.one;obtain⟨a,vs,rfl,g1,g2⟩:=o.dict0 rfl;have e:vs=[]:=g2;subst e;exact wP hg hu ρ s σ H _ us Q I r ⟨_,_,rfl,.inr ⟨a,rfl,g1,rfl⟩,k _ H NoA .refl rfl⟩
 ·next d hne=>
  obtain⟨⟨c1,c2,c3,c4⟩,rfl⟩:=cK hr;obtain⟨v,rfl,o⟩:=oa.one;obtain⟨u,rfl,ru⟩:=cS r;obtain⟨as,rd⟩:=Ow.reads I d c1 o ru;have q:=k (.str d.shown) H NoA .refl rfl;cases d with
  |none=>
   cases(show v=V.non from o);cases ru;have e:(PyData.none).shown=("None":Str):=PyData.shown_none;rw[e]at q;exact P.repr_of_none ⟨.str _,H,I.tok _,⟨_,rfl⟩,q⟩
  |bool b=>
   cases(show v=V.bl b from o);cases ru;have e:(PyData.bool b).shown=(if b then "True" else "False":Str):=PyData.shown_bool b;rw[e]at q;exact P.repr_of_bool ⟨.str (if b then "True" else "False"),H,I.tok _,⟨_,rfl⟩,q⟩
  |int i=>
   cases(show v=V.int i from o);obtain⟨t,rfl⟩:=ru;have e:(PyData.int i).shown=((toString i:String):Str):=PyData.shown_int i;rw[e]at q;have hl:i.natAbs.log2<1920:=by simpa[PyData.showable]using c2
   exact P.repr_of_int hl ⟨.str _,H,I.tok _,⟨_,rfl⟩,q⟩
  |str y=>
   cases(show v=V.str y from o);obtain⟨t,rfl⟩:=ru;have e:(PyData.str y).shown=reprText y:=PyData.shown_str y;rw[e]at q c4;exact P.repr_of_str ⟨.str _,H,I.tok _,⟨_,rfl⟩,q⟩ c4
  |list ts=>
   obtain⟨p,vs,rfl,_,_⟩:=o.lst0;cases ru;exact repr_of_reads' rd c2 (PyData.noDict_hsm (j9 _ c1)) hg (by omega) (fun _ _ e=>e) (fun h' u tk hk=>⟨.str _,H,I.kept (t':=tk) hk,⟨_,rfl⟩,q⟩) c4
  |tuple ts=>
   obtain⟨p,vs,rfl,_,_⟩:=o.tup0;cases ru;exact repr_of_reads' rd c2 (PyData.noDict_hsm (j9 _ c1)) hg (by omega) (fun _ _ e=>e) (fun h' u tk hk=>⟨.str _,H,I.kept (t':=tk) hk,⟨_,rfl⟩,q⟩) c4
  |dict _=>simp[aG]at c1
 ·cases hr
end
section
open PySem.SeqAt Classical
variable{s:Shared} 
end
def dns:Nat->Nat->Nat
 |0,d=>d
 |m+1,d=>dns m (dn d)
theorem tE:∀m,dns m 0=0
 |0=>rfl
 |m+1=>tE m
def yJ{m:Nat}(h:dns m d≠0):d≠0:=fun z=>h (by rw[z];exact tE m)
def bu:D->List Nat->Option D
 |t,[]=>some t
 |.list ts,k::π=>(ts[k]?).bind fun u=>bu u π
 |.tuple ts,k::π=>(ts[k]?).bind fun u=>bu u π
 |_,_::_=>none
def bN:D->List Nat->D->D
 |_,[],u=>u
 |.list ts,k::π,u=>.list (ts.set k ((ts[k]?).elim .none fun c=>bN c π u))
 |.tuple ts,k::π,u=>.tuple (ts.set k ((ts[k]?).elim .none fun c=>bN c π u))
 |t,_::_,_=>t
def PathV(H:Hp):V->List Nat->V->Prop
 |v,[],w=>v=w
 |v,k::π,w=>∃a vs u,v=.ref a/\(H a=some (.lst vs)\/H a=some (.tup vs))/\vs[k]?=some u/\PathV H u π w
theorem PathV.mono{H H':Hp}(hk:∀a o,H a=some o->H' a=some o):∀{π:List Nat} {v w:V},PathV H v π w->PathV H' v π w
 |[],_,_,h=>h
 |_::_,_,_,⟨a,vs,u,e,h1,h2,h3⟩=>⟨a,vs,u,e,h1.imp (hk _ _) (hk _ _),h2,h3.mono hk⟩
theorem PathV.det{H:Hp}:∀{π:List Nat} {v w w':V},PathV H v π w->PathV H v π w'->w=w'
 |[],_,_,_,h,g=>h.symm.trans g
 |_::_,_,_,_,⟨a,vs,u,e,h1,h2,h3⟩,⟨a',vs',u',e',g1,g2,g3⟩=>by
  rw[e]at e';cases e'
  have:vs=vs':=by
   rcases h1 with h1|h1<;>rcases g1 with g1|g1<;>rw[h1]at g1<;>cases g1<;>rfl
  subst this;rw[h2]at g2;cases g2;exact h3.det g3
theorem PathV.snoc{H:Hp}{a:Addr}{vs:List V}{u:V}{k:Nat}(h1:H a=some (.lst vs)\/H a=some (.tup vs))(h2:vs[k]?=some u):∀{π:List Nat} {v:V},PathV H v π (.ref a)->PathV H v (π++[k]) u
 |[],_,h=>⟨a,vs,u,h,h1,h2,rfl⟩
 |_::_,_,⟨a',vs',u',e,g1,g2,g3⟩=>⟨a',vs',u',e,g1,g2,PathV.snoc h1 h2 g3⟩
theorem Ows.zoom{d:Nat}:∀{ts:List D} {vs:List V} {F:AS} {k:Nat} {u:D},Ows K O H ts d vs F->ts[k]?=some u ->
  ∃w,∃F1 F2:AS,vs[k]?=some w/\(∀b,F1 b->F b)/\(∀b,F2 b->F b)/\(∀b,F1 b->¬F2 b)/\Ow K O H u d w F1 /\
   ∀(O':AS) (H':Hp) (u':D) (G:AS),Mv O O' F2 H H'->(∀b,G b->¬F2 b)->Ow K O' H' u' d w G->Ows K O' H' (ts.set k u') d vs (fun b=>F2 b\/G b)
 |[],_,_,k,u,_,h=>by simp at h
 |t::ts,_,F,k,u,h,hk=>by
  obtain⟨v,r,F1,F2,e,s1,s2,s3,h4,h5⟩:=h;subst e;cases k with
  |zero=>
   have:t=u:=by simpa using hk
   subst this;refine⟨v,F1,F2,rfl,s1,s2,s3,h4,fun O' H' u' G m hd o=>?_⟩;exact⟨v,r,G,F2,rfl,fun _ z=>.inr z,fun _ z=>.inl z,hd,o,Ows.mv m ts (fun _ z=>z) h5⟩
  |succ k=>
   obtain⟨w,G1,G2,g1,g2,g3,g4,g5,g6⟩:=Ows.zoom (k:=k) h5 (by simpa using hk);refine⟨w,G1,fun b=>F1 b\/G2 b,by simpa using g1,fun b z=>s2 b (g2 b z),fun b z=>z.elim (s1 b) fun z=>s2 b (g3 b z),fun b z z2=>?_,g5,fun O' H' u' G m hd o=>?_⟩
   ·rcases z2 with z2|z2
    ·exact s3 b z2 (g2 b z)
    ·exact g4 b z z2
   ·refine⟨v,r,F1,fun b=>G2 b\/G b,rfl,fun b z=>.inl (.inl z),fun b z=>z.imp .inr id,fun b z z2=>?_,Ow.mv ⟨m.k,m.o⟩ t (fun b z=>.inl z) h4,g6 O' H' u' G ⟨fun a o q z=>m.k a o q (z.imp id .inr),m.o⟩ (fun b z z2=>hd b z (.inr z2)) o⟩;rcases z2 with z2|z2
    ·exact s3 b z (g3 b z2)
    ·exact hd b z2 (.inl z)
theorem Ow.zoom:∀{π:List Nat} {t u:D} {d:Nat} {v:V} {F:AS},Ow K O H t d v F->bu t π=some u->dns π.length d≠0 ->
  ∃w,∃F1 Fr:AS,PathV H v π w/\(∀b,F1 b->F b)/\(∀b,Fr b->F b)/\(∀b,F1 b->¬Fr b)/\Ow K O H u (dns π.length d) w F1 /\
   ∀(O':AS) (H':Hp) (u':D) (G:AS),Mv O O' Fr H H'->(∀b,G b->¬Fr b)->Ow K O' H' u' (dns π.length d) w G->Ow K O' H' (bN t π u') d v (fun b=>Fr b\/G b)
 |[],t,u,d,v,F,h,hp,hz=>by
  cases hp;refine⟨v,F,NoA,rfl,fun _ z=>z,fun _ z=>z.elim,fun _ _ z=>z,h,fun O' H' u' G m hd o=>?_⟩;have e:(fun b=>NoA b\/G b)=G:=e7 fun b=>⟨fun z=>z.elim (fun z=>z.elim) id,.inr⟩;rw[e];exact o
 |k::π,t,u,d,v,F,h,hp,hz=>by
  have hz1:dns π.length (dn d)≠0:=hz;have hd0:d≠0:=yJ (m:=π.length+1) hz;cases t with
  |list ts=>
   obtain⟨c,p1,p2⟩:=zaa.mp hp;obtain⟨a,vs,e,⟨h0,_⟩|⟨_,h1,h2,F',hf,h3⟩⟩:=h
   ·exact absurd h0 hd0
   obtain⟨w,G1,G2,g1,g2,g3,g4,g5,g6⟩:=h3.zoom p1;obtain⟨w2,F1,Fr,q1,q2,q3,q4,q5,q6⟩:=Ow.zoom g5 p2 hz1;refine⟨w2,F1,fun b=>b=a\/G2 b\/Fr b,⟨a,vs,w,e,.inl h1,g1,q1⟩,fun b z=>(hf b (g2 b (q2 b z))).1,fun b z=>?_,fun b z z2=>?_,q5,fun O' H' u' G m hd o=>?_⟩
   ·rcases z with z|z|z
    ·rw[z];exact h2
    ·exact(hf b (g3 b z)).1
    ·exact(hf b (g2 b (q3 b z))).1
   ·rcases z2 with z2|z2|z2
    ·exact(hf b (g2 b (q2 b z))).2 z2
    ·exact g4 b (q2 b z) z2
    ·exact q4 b z z2
   ·have o1:=q6 O' H' u' G ⟨fun x y q z=>m.k x y q (z.imp id fun z=>.inr (.inr z)),m.o⟩ (fun b z z2=>hd b z (.inr (.inr z2))) o;have o2:=g6 O' H' (bN c π u') (fun b=>Fr b\/G b) ⟨fun x y q z=>m.k x y q (z.imp id fun z=>.inr (.inl z)),m.o⟩ (fun b z z2=>?_) o1
    ·refine⟨a,vs,e,.inr ⟨hd0,m.k _ _ h1 (.inr (.inl rfl)),.inl (.inl rfl),fun b=>G2 b\/Fr b\/G b,fun b z=>?_,?_⟩⟩
     ·rcases z with z|z|z
      ·exact⟨.inl (.inr (.inl z)),(hf b (g3 b z)).2⟩
      ·exact⟨.inl (.inr (.inr z)),(hf b (g2 b (q3 b z))).2⟩
      ·exact⟨.inr z,fun ze=>hd b z (.inl ze)⟩
     ·rw[p1];exact o2
    ·rcases z with z|z
     ·exact g4 b (q3 b z) z2
     ·exact hd b z (.inr (.inl z2))
  |tuple ts=>
   obtain⟨c,p1,p2⟩:=zaa.mp hp;obtain⟨a,vs,e,⟨h0,_⟩|⟨_,h1,h2,F',hf,h3⟩⟩:=h
   ·exact absurd h0 hd0
   obtain⟨w,G1,G2,g1,g2,g3,g4,g5,g6⟩:=h3.zoom p1;obtain⟨w2,F1,Fr,q1,q2,q3,q4,q5,q6⟩:=Ow.zoom g5 p2 hz1;refine⟨w2,F1,fun b=>b=a\/G2 b\/Fr b,⟨a,vs,w,e,.inr h1,g1,q1⟩,fun b z=>(hf b (g2 b (q2 b z))).1,fun b z=>?_,fun b z z2=>?_,q5,fun O' H' u' G m hd o=>?_⟩
   ·rcases z with z|z|z
    ·rw[z];exact h2
    ·exact(hf b (g3 b z)).1
    ·exact(hf b (g2 b (q3 b z))).1
   ·rcases z2 with z2|z2|z2
    ·exact(hf b (g2 b (q2 b z))).2 z2
    ·exact g4 b (q2 b z) z2
    ·exact q4 b z z2
   ·have o1:=q6 O' H' u' G ⟨fun x y q z=>m.k x y q (z.imp id fun z=>.inr (.inr z)),m.o⟩ (fun b z z2=>hd b z (.inr (.inr z2))) o;have o2:=g6 O' H' (bN c π u') (fun b=>Fr b\/G b) ⟨fun x y q z=>m.k x y q (z.imp id fun z=>.inr (.inl z)),m.o⟩ (fun b z z2=>?_) o1
    ·refine⟨a,vs,e,.inr ⟨hd0,m.k _ _ h1 (.inr (.inl rfl)),.inl (.inl rfl),fun b=>G2 b\/Fr b\/G b,fun b z=>?_,?_⟩⟩
     ·rcases z with z|z|z
      ·exact⟨.inl (.inr (.inl z)),(hf b (g3 b z)).2⟩
      ·exact⟨.inl (.inr (.inr z)),(hf b (g2 b (q3 b z))).2⟩
      ·exact⟨.inr z,fun ze=>hd b z (.inl ze)⟩
     ·rw[p1];exact o2
    ·rcases z with z|z
     ·exact g4 b (q3 b z) z2
     ·exact hd b z (.inr (.inl z2))
  |_=>cases hp
abbrev MP:=En->Option (List Nat×En)
def tP(K:zb7)(p:Bool)(ds ds':List Nat)(i m:Nat)(mp:MP):TE:=fun σ H Q=>
 ∃Ox en R π en',EnvOk K ds Ox H σ en R/\mp en=some (π,en')/\∀v w H' R',Post K p ds' Ox σ H en R en' H' R' NoA->π.length=m->σ[i]?=some (some v)->PathV H' v π w->Q w H'
def fR(i:Nat):MP:=fun en=>((en[i]?).join).map fun _=>([],en)
def pIx(i:Nat)(mp:MP)(f:ME):MP:=fun en=>(mp en).bind fun r=>(f r.2).bind fun q=>match q.1,(q.2[i]?).join with
 |.int n,some t=>(bu t r.1).bind fun u=>match u with
  |.list ts=>(ixN ts.length n).bind fun k=>if k<ts.length then some (r.1++[k],q.2)else none
  |.tuple ts=>(ixN ts.length n).bind fun k=>if k<ts.length then some (r.1++[k],q.2)else none
  |_=>none
 |_,_=>none
section
variable{m:Nat}{mp:MP}{o:Expr} 
def J8(h:tP K true ds ds i 0 (fR i) σ H Q):gR i σ H Q:=by
 obtain⟨Ox,en,R,π,en',e,hf,k⟩:=h;unfold fR at hf;obtain⟨t,h1,h2⟩:=zab.mp hf;cases h2;obtain⟨v,d,a1,_,_⟩:=e.at_ i t (aU h1);exact⟨v,a1,k v v H R (Post.refl e) rfl a1 rfl⟩
def LK(hpu:p2=true\/m=0)(hd:ds2[i]?=some d)(hz:dns m d≠0)(h:tP K (p1&&p2) ds ds2 i (m+1) (pIx i mp f) σ H Q):tOp (rIx K) (tP K p1 ds ds1 i m mp) (tF K p2 ds1 ds2 d1 f) σ H Q:=by
 obtain⟨Ox,en,R,π,en',e,hf,k⟩:=h;unfold pIx at hf;obtain⟨⟨π0,en1⟩,h1,hf⟩:=zaa.mp hf;obtain⟨⟨t1,en2⟩,h2,hf⟩:=zaa.mp hf
 dsimp only at hf
 split at hf
 case h_2=>cases hf
 next n t h3=>
 obtain⟨u,h4,hf⟩:=zaa.mp hf;refine⟨Ox,en,R,π0,en1,e,h1,fun v w H1 R1 P1 hl hv pv=>?_⟩;refine⟨Ox,en1,R1,.int n,en2,P1.env0,h2,fun y H2 R2 F P2 o=>?_⟩;have ey:y=.int n:=o;subst ey;have P:=P1.after P2;obtain⟨v',d',b1,b2,b3⟩:=P.env.at_ i t (aU h3);rw[hv]at b1;cases b1;rw[hd]at b2;cases b2;have pv2:PathV H2 v π0 w:=by
  rcases hpu with hp|hm
  ·exact pv.mono (P2.pure hp).2.2
  ·have e0:π0=[]:=za7.mp (hl.trans hm);subst e0;exact pv
 obtain⟨w2,F1,Fr,q1,q2,q3,q4,q5,_⟩:=b3.zoom h4 (by rw[hl];exact hz);have ew:=pv2.det q1;subst ew;rw[hl]at q5;cases u with
 |list ts=>
  obtain⟨kk,h5,hf⟩:=zaa.mp hf;by_cases hk:kk<ts.length
  case neg=>rw[if_neg hk]at hf;cases hf
  rw[if_pos hk]at hf;cases hf;obtain⟨a,vs,ea,ha,_,F',_,ow⟩:=q5.ownL hz;obtain⟨x,g1,_⟩:=ow.get (zak hk);refine .inl ⟨a,vs,n,x,ea,rfl,SqL.of ha,by unfold atI;rw[ow.len,h5];exact g1,?_⟩;subst ea;exact k v x H2 R2 (P.less fun _ z=>z.elim) (by rw[zae,hl];rfl) hv (PathV.snoc (.inl ha) g1 q1)
 |tuple ts=>
  obtain⟨kk,h5,hf⟩:=zaa.mp hf;by_cases hk:kk<ts.length
  case neg=>rw[if_neg hk]at hf;cases hf
  rw[if_pos hk]at hf;cases hf;obtain⟨a,vs,ea,⟨h0,_⟩|⟨_,ha,_,F',_,ow⟩⟩:=q5
  ·exact absurd h0 hz
  obtain⟨x,g1,_⟩:=ow.get (zak hk);refine .inr (.inl ⟨a,vs,n,x,ea,rfl,SqT.of ha,by unfold atI;rw[ow.len,h5];exact g1,?_⟩);subst ea;exact k v x H2 R2 (P.less fun _ z=>z.elim) (by rw[zae,hl];rfl) hv (PathV.snoc (.inr ha) g1 q1)
 |_=>cases hf
def EV(hN:X.N[i]?=some x)(hv:Vis X.env.scope x)(hd:(x==("__debug__":Str))=false)(hcd:(x==("__classdict__":Str))=false):PE X (.Name x px) (tP K true ds ds i 0 (fR i)):=
 (dz hN hv hd hcd).imp fun _ _ _=>J8
def JG(hK:X.K=K)(hd:ds2[i]?=some d)(ho:PE X o (tP K p1 ds ds1 i m mp))(hb:PE X b (tF K p2 ds1 ds2 d1 f))(hz:dns m d≠0)(hpu:p2=true\/m=0)(hs:eE b):PE X (.Subscript o b pos) (tP K (p1&&p2) ds ds2 i (m+1) (pIx i mp f)):=by
 subst hK;exact(rC ix_seq ho hb hs).imp fun _ _ _=>LK hpu hd hz
def Post.place{F:AS}{π:List Nat}{w:V}(P:Post K p ds1 Ox σ H en R en1 H1 R1 F)(hi:en1[i]?=some (some t))(hv:σ[i]?=some (some v))(hd:ds1[i]?=some d)(hg:bu t π=some (.list ts))(hz:dns π.length d≠0)(pv:PathV H1 v π w):
  ∃l vs,∃F1:AS,w=.ref l/\H1 l=some (.lst vs)/\R1 i l/\(∀b,F1 b->R1 i b/\b≠l)/\Ows K (Own R1 (U F Ox)) H1 ts (dn (dns π.length d)) vs F1 /\
   ∀(ts':List D) (vs':List V) (G:AS),(∀b,G b->F1 b\/F b)->(∀O',(∀a,O' a->Own R1 (U F Ox) a)->Ows K O' (upd H1 l (.lst vs')) ts' (dn (dns π.length d)) vs' G) ->
    ∃R',Post K false ds1 Ox σ H en R (en1.set i (some (bN t π (.list ts')))) (upd H1 l (.lst vs')) R' NoA:=by
 obtain⟨v',d',b1,b2,b3⟩:=P.env.at_ i t hi;rw[hv]at b1;cases b1;rw[hd]at b2;cases b2;obtain⟨w2,F1,Fr,q1,q2,q3,q4,q5,q6⟩:=b3.zoom hg hz;have ew:=pv.det q1;subst ew;obtain⟨l,vs,el,hl,hr,F',hf',ow⟩:=q5.ownL hz;refine⟨l,vs,F',el,hl,q2 l hr,fun b z=>⟨q2 b (hf' b z).1,(hf' b z).2⟩,ow,fun ts' vs' G hG hO=>?_⟩;have ξ:i<en1.length:=(zah.mp hi).1;have gl:∀b,F b->b≠l:=fun b z ze=>by
  subst ze;exact P.env.dx i b (q2 b hr) (.inl z)
 have gG:∀a,(fun b=>Fr b\/(b=l\/G b)) a->R1 i a\/F a:=fun a z=>by
  rcases z with z|z|z
  ·exact .inl (q3 a z)
  ·rw[z];exact .inl (q2 l hr)
  ·rcases hG a z with z|z
   ·exact .inl (q2 a (hf' a z).1)
   ·exact .inr z
 have sub:=l8 (i:=i) (R1:=R1) (Ox:=Ox) (G:=fun b=>Fr b\/(b=l\/G b)) (F':=NoA) (F:=F) gG (fun _ z=>z.elim);have Ol:Own R1 (U F Ox) l:=.inl ⟨i,q2 l hr⟩;refine⟨_,P.slot (G:=fun b=>Fr b\/(b=l\/G b)) (q2 l hr) ξ hv hd gG (fun _ z=>z.elim) (fun _ _ z=>z) ?_⟩;refine q6 _ _ (.list ts') (fun b=>b=l\/G b) ⟨fun a o q z=>?_,fun a z=>.inl (sub a z)⟩ (fun b z z2=>?_) ?_
 ·rw[aE]
  ·exact q
  ·intro za;subst za;rcases z with z|z
   ·exact z Ol
   ·exact q4 a hr z
 ·rcases z with z|z
  ·rw[z]at z2;exact q4 l hr z2
  ·rcases hG b z with z|z
   ·exact q4 b (hf' b z).1 z2
   ·exact P.env.dx i b (q3 b z2) (.inl z)
 ·refine⟨l,vs',el,.inr ⟨hz,aA,.inl rfl,G,fun b z=>⟨.inr z,?_⟩,hO _ sub⟩⟩;rcases hG b z with z|z
  ·exact(hf' b z).2
  ·exact gl b z
def gj(i:Nat)(mp:MP)(f:ME):ME:=fun en=>(mp en).bind fun r=>match (r.2[i]?).join with
 |some t=>(bu t r.1).bind fun u=>match u with
  |.list ts=>(f r.2).bind fun q=>if ts.length<sizeLine then some (.none,q.2.set i (some (bN t r.1 (.list (ts++[q.1])))))else none
  |_=>none
 |none=>none
def jb(i:Nat)(mp:MP):ME:=fun en=>(mp en).bind fun r=>match (r.2[i]?).join with
 |some t=>(bu t r.1).bind fun u=>match u with
  |.list _=>some (.none,r.2.set i (some (bN t r.1 (.list []))))
  |_=>none
 |none=>none
def sj(h:H l=some (.lst vs)):tyV K "list" (.ref l) H:=.inl ⟨rfl,vs,SqL.of h⟩
def Kh(hd1:ds1[i]?=some d)(hd:ds2[i]?=some d)(hz:dns m d≠0)(hc:dn (dns m d)=c)(h:tF K false ds ds2 3 (gj i mp f) σ H Q):tBM K "list" pM (tP K p1 ds ds1 i m mp) (nT (tF K true ds1 ds2 c f) vW) σ H Q:=by
 obtain⟨Ox,en,R,t0,en',e,hf,k⟩:=h;unfold gj at hf;obtain⟨⟨π,en1⟩,h1,hf⟩:=zaa.mp hf
 dsimp only at hf
 split at hf
 case h_2=>cases hf
 next t h3=>
 obtain⟨u,h4,hf⟩:=zaa.mp hf;cases u with
 |list ts=>
  dsimp only at hf
  obtain⟨⟨t1,en2⟩,h2,hf⟩:=zaa.mp hf;by_cases ξ:ts.length<sizeLine
  case neg=>rw[if_neg ξ]at hf;cases hf
  rw[if_pos ξ]at hf;cases hf;refine⟨Ox,en,R,π,en1,e,h1,fun v w H1 R1 P1 hl hv pv=>?_⟩;subst hl;obtain⟨l,vs,F1,el,hl1,_⟩:=P1.place (aU h3) hv hd1 h4 hz pv;subst el;refine⟨sj hl1,Ox,en1,R1,t1,en2,P1.env0,h2,fun x H2 R2 F P2 o=>?_⟩;obtain⟨pe,pR,ph⟩:=P2.pure rfl;have P:=P1.after P2;have h3':en2[i]?=some (some t):=by rw[pe];exact aU h3
  obtain⟨l',vs',F1,el,hl2,hr,hf1,ow,fin⟩:=P.place h3' hv hd h4 hz (pv.mono ph);cases el;refine⟨l,vs',x,rfl,rfl,hl2,by rw[ow.len];exact ξ,?_⟩;have Fn:∀a,F a->a≠l:=fun a z z2=>by
   subst z2;exact P.env.dx i a hr (.inl z)
  have Ol:Own R2 (U F Ox) l:=.inl ⟨i,hr⟩;obtain⟨R',PF⟩:=fin (ts++[t1]) (vs'++[x]) (U F1 F) (fun _ z=>z) fun O' ho=>by
   refine Ows.snoc (Ows.past ho Ol (fun b z=>(hf1 b z).2) ow) ?_ fun b z1 z2=>P.env.dx i b (hf1 b z1).1 (.inl z2);rw[hc];exact Ow.past ho Ol Fn o
  exact k .non _ R' NoA PF rfl
 |_=>cases hf
def Kg(hd1:ds1[i]?=some d)(hz:dns m d≠0)(h:tF K false ds ds1 3 (jb i mp) σ H Q):zh K "list" xF (tP K p1 ds ds1 i m mp) σ H Q:=by
 obtain⟨Ox,en,R,t0,en',e,hf,k⟩:=h;unfold jb at hf;obtain⟨⟨π,en1⟩,h1,hf⟩:=zaa.mp hf
 dsimp only at hf
 split at hf
 case h_2=>cases hf
 next t h3=>
 obtain⟨u,h4,hf⟩:=zaa.mp hf;cases u with
 |list ts=>
  cases hf;refine⟨Ox,en,R,π,en1,e,h1,fun v w H1 R1 P1 hl hv pv=>?_⟩;subst hl;obtain⟨l,vs,F1,el,hl1,hr,hf1,ow,fin⟩:=P1.place (aU h3) hv hd1 h4 hz pv;subst el;obtain⟨R',PF⟩:=fin [] [] NoA (fun _ z=>z.elim) fun O' ho=>rfl;exact⟨sj hl1,l,vs,rfl,rfl,hl1,k .non _ R' NoA PF rfl⟩
 |_=>cases hf
def Fq(hK:X.K=K)(hd1:ds1[i]?=some d)(hd:ds2[i]?=some d)(ho:PE X o (tP K p1 ds ds1 i m mp))(he:PE X e (tF K true ds1 ds2 c f))(hz:dns m d≠0)(hc:dn (dns m d)=c)
  (η:attributeBase o "append" X.env (eval o X.env)=eval o X.env)
  (hfew:((backTo ω (starEach [e] X.env)).all (fun x=>!x.1)&&(backToKw ω (keywordEach [] X.env)).all (fun x=>x.1.isSome)&&decide (([e]:List Expr).length+([]:List Keyword).length+(if([]:List Keyword).isEmpty then 0 else 1)<30))=true)
  (θ:(μ.endLine==ω.line)=true) (hs:starEach [e] X.env=[(false,eval e X.env)]) (ι:(backTo ω (starEach [] X.env)).any (·.1)=false):
  PE X (.Call (.Attribute o "append" μ) [e] [] ω) (tF K false ds ds2 3 (gj i mp f)):=by
 subst hK;exact(Dd PySem.F.plainAttrs_list PySem.F.slot_list_append PySem.F.type_list_append lh ho (cZ he pa_nil hs) η hfew θ hs ι).imp fun _ _ _=>Kh hd1 hd hz hc
def Fp(hK:X.K=K)(hd1:ds1[i]?=some d)(ho:PE X o (tP K p1 ds ds1 i m mp))(hz:dns m d≠0)
  (η:attributeBase o "clear" X.env (eval o X.env)=eval o X.env) (θ:(μ.endLine==ω.line)=true):
  PE X (.Call (.Attribute o "clear" μ) [] [] ω) (tF K false ds ds1 3 (jb i mp)):=by
 subst hK;exact(xN PySem.F.plainAttrs_list PySem.F.slot_list_clear PySem.F.type_list_clear zT ho η θ).imp fun _ _ _=>Kg hd1 hz
def j2(i:Nat)(mp:MP)(fk fe:ME):MS:=fun en=>(fe en).bind fun r=>(mp r.2).bind fun w=>(fk w.2).bind fun q=>match q.1,(q.2[i]?).join with
 |.int n,some t=>(bu t w.1).bind fun u=>match u with
  |.list ts=>(ixN ts.length n).map fun k=>.nx (q.2.set i (some (bN t w.1 (.list (ts.set k r.1)))))
  |_=>none
 |_,_=>none
end
def Et{P:Program}{mg:Str->Option Value}{base:Heap}{f:Addr}{fd:FuncData}(m:mg x=some (.ref f))(hk:PySem.W.keepIn K (.ref f)=true)(b:Binds K fd ps []):Kn P w K mg base k x ps (spF K dps dr fun _=>none):=
 ⟨f,fd,⟨fun _ _ _ _ h=>(by obtain⟨_,_,_,_,_,_,z,_⟩:=h;cases z),fun _ _ _ _ _ _ _ _ _ _ _ _ _ h=>by obtain⟨_,_,_,_,_,_,z,_⟩:=h;cases z⟩,m,hk,b⟩
section
variable{k:Expr}{pos2 py:Pos}
def nS(h:∀v H,Q v H->Q' v H):tF K p ds ds1 d f σ H Q->tF K p ds ds1 d f σ H Q'
 |⟨Ox,en,R,t,en',e,hf,k⟩=>⟨Ox,en,R,t,en',e,hf,fun v H' R' F P o=>h _ _ (k v H' R' F P o)⟩
def sd:D->D->Option D
 |.list ts,.int (-1)=>some (.list ts.reverse)
 |_,_=>none
def Fg(hK:X.K=K)(he:PE X e (tF K p ds ds1 d1 f1))(hk:PE X k (tF K p ds1 ds2 d2 f2)):PE X (.Subscript e (.Slice none none (some k) pos2) pos) (tF K p ds ds2 1 (e2 sd f1 f2)):=by
 subst hK;refine(D6 he hk).imp fun σ H Q h=>?_;refine nS (fun x H1 h1=>nS (fun y H2 h2=>?_) h1) (oP (by rw[zbl];exact h));obtain⟨O,a,b,t,oa,ob,hd,hg,q⟩:=h2;unfold sd at hg;split at hg
 ·cases hg;obtain⟨a,vs,rfl,fz,w⟩:=oa.lst0;exact⟨a,vs,rfl,ob,fz.sq,fun l hl=>q _ _ _ (bv hl hd w.rev).1 (bv hl hd w.rev).2⟩
 ·cases hg
end
section
variable{s:Shared} 
def Inv.noSeq(I:Inv X ρ σ H s){o:Obj}{xs:Array Value}(h:s.heap.get? a=some o)(d:o.data=.seq xs n):sysModules≠a:=by
 intro e;obtain⟨mm,hm⟩:=I.mod.mods;obtain⟨ob,es,ep,g1,g2,_⟩:=hm.keeps I.bk;rw[e,h]at g1;cases g1;rw[d]at g2;cases g2
theorem j4{h:Heap}:∀(kk:List Key) {its:List Value},Vals (kk.map kV) its->ReadsAll h its (kk.map kD) []
 |[],_,r=>by cases r;exact .nil
 |.inl i::kk,_,r=>by
  cases r with
  |cons ru rr=>
   obtain⟨t,rfl⟩:=ru;exact .cons (as:=[]) (bs:=[]) (.int i t) (j4 kk rr)
 |.inr x::kk,_,r=>by
  cases r with
  |cons ru rr=>
   obtain⟨t,rfl⟩:=ru;exact .cons (as:=[]) (bs:=[]) (.str x t) (j4 kk rr)
mutual
def noX:D->Bool
 |.list ts=>pU ts
 |.tuple ts=>pU ts
 |.dict ks=>!isX (.dict ks)&&lf ks
 |_=>true
def pU:List D->Bool
 |[]=>true
 |t::ts=>noX t&&pU ts
def lf:List (D×D)->Bool
 |[]=>true
 | (_,t)::ts=>noX t&&lf ts
end
def Lj(h:noX (.dict ks)=true):lf ks=true:=by
 have:(!isX (.dict ks))=true/\lf ks=true:=by simpa[noX]using h
 exact this.2
mutual
theorem Ow.reads2(I:Inv X ρ σ H s):∀(t:D) {v:V} {u:Value},noX t=true->Ow X.K O H t 0 v NoA->RelV v u->∃as,Reads s.heap u t as/\sysModules∉as
 |.none,_,_,hX,h,r=>by
  cases(show _=V.non from h);cases r;exact⟨_,.none,by simp⟩
 |.bool b,_,_,hX,h,r=>by
  cases(show _=V.bl b from h);cases r;exact⟨_,.bool _,by simp⟩
 |.int i,_,_,hX,h,r=>by
  cases(show _=V.int i from h);obtain⟨t,rfl⟩:=r;exact⟨_,.int _ _,by simp⟩
 |.str x,_,_,hX,h,r=>by
  cases(show _=V.str x from h);obtain⟨t,rfl⟩:=r;exact⟨_,.str _ _,by simp⟩
 |.list ts,_,_,hX,h,r=>by
  obtain⟨p,vs,rfl,fz,w⟩:=h.lst0;cases r;obtain⟨its,rv,pl,_⟩:=I.list fz.sq;obtain⟨as,ra,rb⟩:=Ows.reads2 I ts (by simpa[noX]using hX) w rv;obtain⟨o,n,e,e2,_,e3⟩:=pl;refine⟨_,.list e e2 e3 (by simpa using ra),fun hm=>?_⟩;rcases zay.mp hm with z|z
  ·exact I.noSeq e e3 z
  ·exact rb z
 |.tuple ts,_,_,hX,h,r=>by
  obtain⟨p,vs,rfl,fz,w⟩:=h.tup0;cases r;obtain⟨its,rv,⟨o,e1,e2,n,e3⟩,_⟩:=I.tuple fz.sq;obtain⟨as,ra,rb⟩:=Ows.reads2 I ts (by simpa[noX]using hX) w rv;exact⟨_,.tuple e1 e2 e3 (by simpa using ra),rb⟩
 |.dict ks,_,_,hX,h,r=>by
  obtain⟨a,vs,rfl,⟨_,ha,_,g2⟩|⟨z,_⟩|⟨_,⟨kk,b,hk,ha,_⟩|⟨cn,C,hk,_⟩⟩⟩:=h
  ·cases r;obtain⟨_,hsys,us,kv,dd⟩:=eX I.hok ha;obtain⟨o,es,n,g1,gc,g3,_,g5,_⟩:=dd;obtain⟨bs,r1,r2,r3⟩:=Owd.reads2 I ks (Lj hX) g2 kv g5;refine⟨_,.dict g1 gc.1 g3 r1 r2,fun hm=>?_⟩;have hm':sysModules=a\/sysModules∈bs:=by simpa using hm
   rcases hm' with e|e
   ·rw[<-e]at hsys;simp at hsys
   ·exact r3 e
  ·exact absurd rfl z
  ·cases r;subst hk;obtain⟨_,hsys,xs,rel,o,es,ep,g1,gc,g3,g4,_⟩:=wL I.hok ha;cases rel with
   |@cons _ q _ _ rq rr=>
    cases rr;obtain⟨q1,q2,q3⟩:=q;obtain⟨e1,e2,e3⟩:=rq;have e3':q3=.bool b:=e3;subst e3';obtain⟨its,rv,⟨ot,t1,t2,n,t3⟩,_⟩:=I.tuple (SqT.of e2);have rk:=j4 (h:=s.heap) kk rv;refine⟨_,.dict g1 gc.1 g3 (as:=[]) (bs:=[]) ?_ ?_,fun hm=>?_⟩
    ·rw[g4];exact .cons (as:=[]) (bs:=[]) (.tuple t1 t2 t3 (by simpa using rk)) .nil
    ·rw[g4];exact .cons (as:=[]) (bs:=[]) (.bool b) .nil
    ·have hm':sysModules=a:=by simpa using hm
     rw[<-hm']at hsys;simp at hsys
  ·subst hk
   have:(!isX (.dict [(.none,.str cn)]))=true/\lf [(.none,.str cn)]=true:=by simpa[noX]using hX
   cases this.1
theorem Ows.reads2(I:Inv X ρ σ H s):∀(ts:List D) {vs:List V} {us:List Value},pU ts=true->Ows X.K O H ts 0 vs NoA->Vals vs us->∃as,ReadsAll s.heap us ts as/\sysModules∉as
 |[],_,_,hX,h,r=>by
  cases(show _=[]from h);cases r;exact⟨_,.nil,by simp⟩
 |t::ts,_,_,hX,h,r=>by
  have hX':noX t=true/\pU ts=true:=by simpa[pU]using hX
  obtain⟨v,q,F1,F2,e,_,_,_,h4,h5⟩:=h;subst e;cases r with
  |cons ru rr=>
   obtain⟨as,a1,b1⟩:=Ow.reads2 I t hX'.1 (Ow.any0 t h4) ru;obtain⟨bs,a2,b2⟩:=Ows.reads2 I ts hX'.2 (Ows.any0 ts h5) rr;exact⟨_,.cons a1 a2,fun z=>(zax.mp z).elim b1 b2⟩
theorem Owd.reads2(I:Inv X ρ σ H s):∀(ks:List (D×D)) {vs:List (Key×V)} {us:List (Key×Value)} {es:List DictEntry},lf ks=true->Owd X.K O H ks 0 vs NoA->KV vs us->Pairs (aM X.prog X.w) es us ->
  ∃bs,ReadsAll s.heap (es.map fun x=>x.key) (ks.map fun x=>x.1) []/\ReadsAll s.heap (es.map fun x=>x.val) (ks.map fun x=>x.2) bs/\sysModules∉bs
 |[],_,_,_,hX,h,r,p=>by
  cases(show _=[]from h);cases r;cases p;exact⟨_,.nil,.nil,by simp⟩
 | (k,t)::ks,_,_,_,hX,h,r,p=>by
  have hX':noX t=true/\lf ks=true:=by simpa[lf]using hX
  obtain⟨q,v,r',F1,F2,e,rfl,_,_,_,h4,h5⟩:=h;subst e;cases r with
  |cons ru rr=>
   cases p with
   |@cons e0 _ _ _ p1 p2 p3=>
    obtain⟨as,a1,b1⟩:=Ow.reads2 I t hX'.1 (Ow.any0 t h4) ru.2;obtain⟨bs,a2,a3,b2⟩:=Owd.reads2 I ks hX'.2 (Owd.any0 ks h5) rr p3;have hk:Reads s.heap e0.key (kD q) []:=by
     have p1':i4 _ e0.key=true:=p1;rw[<-ru.1]at p1';rcases bj p1' with⟨i,t,e1,e2⟩|⟨x,t,e1,e2⟩
     ·have e1':q=Sum.inl i:=e1;rw[e1',e2];exact .int _ _
     ·have e1':q=Sum.inr x:=e1;rw[e1',e2];exact .str _ _
    exact⟨as++bs,.cons hk a2,.cons (show Reads s.heap e0.val t as from p2▸a1) a3,fun z=>(zax.mp z).elim b1 b2⟩
end
def mC:List D->Option D
 |[t]=>grd (noX t=true/\t.showable=true/\t.depth<=60/\t.shown.length<=sizeLine) (.str t.shown)
 |_=>none
def sY(hK:X.K=K)(hg:X.A.guards=some [])(hu:X.A.units+64<cLine):CallR X (.builtin "repr") (rFn K mC 3):=by
 intro ρ s σ H xs us Q I r ⟨O,as,t,oa,hd,hr,k⟩;by_cases hold:wa as=some t
 ·exact EZ hK hg hu ρ s σ H xs us Q I r ⟨O,as,t,oa,hd,hold,k⟩
 subst hK;unfold mC at hr;split at hr
 ·next d=>
  obtain⟨⟨cX,c2,c3,c4⟩,rfl⟩:=cK hr;obtain⟨v,rfl,o⟩:=oa.one;obtain⟨u,rfl,ru⟩:=cS r;obtain⟨as,rd,hs⟩:=Ow.reads2 I d cX o ru;have q:=k (.str d.shown) H NoA .refl rfl;obtain⟨a,rfl⟩:∃a,u=.ref a:=by
   cases d with
   |tuple ts=>
    obtain⟨p,vs,rfl,_,_⟩:=o.tup0;exact⟨p,ru⟩
   |list ts=>
    obtain⟨p,vs,rfl,_,_⟩:=o.lst0;exact⟨p,ru⟩
   |dict ks=>
    obtain⟨a,vs,rfl,_⟩:=o;exact⟨a,ru⟩
   |_=>
    refine absurd ?_ hold;show grd _ _=_;exact if_pos ⟨rfl,c2,c3,c4⟩
  exact repr_of_reads' rd c2 (fun _=>hs) hg (by omega) (fun _ _ e=>e) (fun h' u tk hk=>⟨.str _,H,I.kept (t':=tk) hk,⟨_,rfl⟩,q⟩) c4
 ·cases hr
theorem Paired.at{α β:Type}{F:α->β->Prop}:∀{xs:List α} {ys:List β} {i:Nat} {x:α},Paired F xs ys->xs[i]?=some x->∃y,ys[i]?=some y/\F x y
 |_,_,_,_,.nil,e=>by simp at e
 |_,_,0,_,.cons r _,e=>by simp at e;subst e;exact⟨_,rfl,r⟩
 |_,_,i+1,x,.cons _ t,e=>by
  obtain⟨u,h1,h2⟩:=Paired.at (i:=i) (x:=x) t (by simpa using e);exact⟨u,by simpa using h1,h2⟩
end
section
variable{a:Expr}{ta tb:TE}{rest:List Expr}
def Mk:D->Option Int->Option Int->Option D
 |.tuple ts,lo,hi=>grd (¬(HT.sIx ts.length 0 lo=0/\HT.sIx ts.length ts.length hi=ts.length)) (.tuple (eK ts lo hi))
 |_,_,_=>none
def JK(hK:X.K=K):SlR X (rFs K Mk 0):=(Ma hK).imp fun x lo hi H Q ⟨O,a,t,oa,hd,hg,k⟩=>by
 cases a with
 |tuple ts=>
  obtain⟨c,rfl⟩:=cK hg;obtain⟨a,vs,e1,f1,w1⟩:=oa.tup0;refine⟨a,vs,e1,f1.sq,by rw[w1.len];exact c,fun p hp=>?_⟩;have w2:Ows K O H (eK ts lo hi) 0 (fH vs lo hi) NoA:=by
   unfold eK fH;rw[w1.len];exact(w1.drop _).take _
  exact k _ _ _ (u3 hp hd w2).1 (u3 hp hd w2).2
 |_=>cases hg
end
section
variable{a:Expr}    
def nB(x:Int):List Int->List Int
 |[]=>[x]
 |y::r=>if x<=y then x::y::r else y::nB x r
def cT:List Int->List Int
 |[]=>[]
 |x::r=>nB x (cT r)
theorem ls(x:Int):∀l,(nB x l).Perm (x::l)
 |[]=>.refl _
 |y::r=>by
  unfold nB;split
  ·exact .refl _
  ·exact(List.Perm.cons y (ls x r)).trans (List.Perm.swap x y r)
theorem cD:∀l,(cT l).Perm l
 |[]=>.refl _
 |x::r=>(ls x _).trans (List.Perm.cons x (cD r))
theorem mT(x:Int):∀l:List Int,l.Pairwise (·<=·)->(nB x l).Pairwise (·<=·)
 |[],_=>by simp[nB]
 |y::r,h=>by
  obtain⟨h1,h2⟩:=List.pairwise_cons.mp h;unfold nB;split
  ·next hx=>
   refine List.pairwise_cons.mpr ⟨fun z hz=>?_,h⟩;rcases zay.mp hz with rfl|hz
   ·exact hx
   ·exact Int.le_trans hx (h1 z hz)
  ·next hx=>
   refine List.pairwise_cons.mpr ⟨fun z hz=>?_,mT x r h2⟩;rcases zay.mp ((ls x r).mem_iff.mp hz)with rfl|hz
   ·omega
   ·exact h1 z hz
theorem cW:∀l,(cT l).Pairwise (·<=·)
 |[]=>.nil
 |x::r=>mT x _ (cW r)
theorem iw:∀{l m:List Int},l.Perm m->l.Pairwise (·<=·)->m.Pairwise (·<=·)->l=m
 |[],m,h,_,_=>(List.nil_perm.mp h).symm
 |x::l,m,h,hl,hm=>by
  cases m with
  |nil=>exact absurd h.length_eq (by simp)
  |cons y m=>
   obtain⟨l1,l2⟩:=List.pairwise_cons.mp hl;obtain⟨m1,m2⟩:=List.pairwise_cons.mp hm;have e:x=y:=by
    have a1:x∈y::m:=h.mem_iff.mp zaq;have a2:y∈x::l:=h.mem_iff.mpr zaq;rcases zay.mp a1 with e|a1
    ·exact e
    ·rcases zay.mp a2 with e|a2
     ·exact e.symm
     ·exact Int.le_antisymm (l1 y a2) (m1 x a1)
   subst e;rw[iw (List.perm_cons x |>.mp h) l2 m2]
def k6{us:List Value}{ns:List Int}(h:IntsAre us ns):Vals (ns.map V.int) us:=by
 induction us generalizing ns with
 |nil=>cases ns with
  |nil=>exact .nil
  |cons n r=>exact absurd h.length (by simp)
 |cons u us ih=>
  cases ns with
  |nil=>exact absurd h.length (by simp)
  |cons n r=>
   obtain⟨t,ht⟩:=IntsAre.int_at h 0 u rfl;refine .cons ⟨t,ht⟩ (ih ?_);cases h
   assumption
def JX(hK:X.K=K)(ha:PE X a (tF K p ds ds1 d f1))(hb:PE X b (tF K p ds1 ds2 d2 f2))(hs:eE b)(hz:d≠0):PE X (.Subscript a b pos) (tF K p ds ds2 (dn d) (e2 ixA f1 f2)):=by
 subst hK;refine(rC ix_seq ha hb hs).imp fun σ H Q h=>?_;obtain⟨Ox,en,R,t,en',e,hf,k⟩:=h;unfold e2 at hf;obtain⟨⟨t1,en1⟩,h1,hf⟩:=zaa.mp hf;obtain⟨⟨t2,en2⟩,h2,hf⟩:=zaa.mp hf;obtain⟨t',h3,hf⟩:=zab.mp hf;cases hf;have go:tFA X.K (p&&(p&&true)) ds ds2 [.inl d,.inl d2] (ac f1 (ac f2 ah)) σ H (fun vs H2=>∃x y,vs=[x,y]/\((∃(a:Addr) (us:List V) (n:Int) (v:V),x=.ref a/\y=.int n/\(SqL X.K H2 a us\/SqT X.K H2 a us)/\atI us n=some v/\Q v H2)\/(∃(z:Str) (n:Int) (c:Nat),x=.str z/\y=.int n/\z.length<=sizeLine/\atI z.cps.toList n=some c/\Q (.str (mk1 c)) H2))):=by
  refine⟨Ox,en,R,[.inl t1,.inl t2],en2,e,?_,fun vs H1 R1 F P o=>?_⟩
  ·unfold ac ah;rw[h1];show Option.map _ ((f2 en1).bind _)=_;rw[h2];rfl
  ·obtain⟨x,r,d',dr,F1,F2,e1,e2',s1,s2,_,o1,y,r2,d2',dr2,G1,G2,e3,e4,s3,_,_,o2,o3⟩:=o;obtain⟨_,o3⟩:=o3;cases e2';subst e1 e3 o3;cases e4;refine⟨x,y,rfl,?_⟩;have P':Post X.K p ds2 Ox σ H en R en2 H1 R1 F:=by
    rw[zb5,zbl]at P;exact P
   cases t2 with
   |int n=>
    cases(show y=V.int n from o2);cases t1 with
    |list ts=>
     obtain⟨a,vs,rfl,⟨z,_⟩|⟨_,g1,g2,G,hg,g3⟩⟩:=o1
     ·exact absurd z hz
     ·have h3':atI ts n=some t:=h3;unfold atI at h3';obtain⟨j,hj,hj2⟩:=zaa.mp h3';obtain⟨v,hv,ov⟩:=g3.get hj2;refine .inl ⟨a,vs,n,v,rfl,rfl,.inl (.inl (.inl g1)),?_,?_⟩
      ·unfold atI;rw[g3.len,hj];exact hv
      ·have sub:∀b,G b->F b:=fun b hb=>s1 b (hg b hb).1;exact k v H1 R1 G (P'.less sub) (Ow.grow (fun b hb=>hb.imp id fun hb=>hb.imp (sub b) id) _ (fun _ z=>z) ov)
    |tuple ts=>
     obtain⟨a,vs,rfl,⟨z,_⟩|⟨_,g1,g2,G,hg,g3⟩⟩:=o1
     ·exact absurd z hz
     ·have h3':atI ts n=some t:=h3;unfold atI at h3';obtain⟨j,hj,hj2⟩:=zaa.mp h3';obtain⟨v,hv,ov⟩:=g3.get hj2;refine .inl ⟨a,vs,n,v,rfl,rfl,.inr (.inl (.inl g1)),?_,?_⟩
      ·unfold atI;rw[g3.len,hj];exact hv
      ·have sub:∀b,G b->F b:=fun b hb=>s1 b (hg b hb).1;exact k v H1 R1 G (P'.less sub) (Ow.grow (fun b hb=>hb.imp id fun hb=>hb.imp (sub b) id) _ (fun _ z=>z) ov)
    |str z=>
     dsimp only[ixA]at h3
     by_cases hl:z.length<=sizeLine
     ·rw[if_pos hl]at h3;obtain⟨c,h5,h6⟩:=zab.mp h3;cases h6;exact .inr ⟨z,n,c,o1,rfl,hl,h5,k _ H1 R1 NoA (P'.less fun _ z=>z.elim) rfl⟩
     ·rw[if_neg hl]at h3;cases h3
    |_=>cases h3
   |_=>cases t1<;>cases h3
 have go2:=qf (ds1:=ds1) (p1:=p) (p2:=p&&true) go;refine nS (fun x H1 q1=>?_) go2;have q2:=qf (ds1:=ds2) (p1:=p) (p2:=true) q1;refine nS (fun y H2 q3=>?_) q2;obtain⟨x',y',ee,q⟩:=yF q3;cases ee;rcases q with⟨a,us,n,v,rfl,rfl,hs|hs,hv,q⟩|⟨z,n,c,rfl,rfl,hl,hv,q⟩
 ·exact .inl ⟨a,us,n,v,rfl,rfl,hs,hv,q⟩
 ·exact .inr (.inl ⟨a,us,n,v,rfl,rfl,hs,hv,q⟩)
 ·exact .inr (.inr ⟨z,n,c,rfl,rfl,hl,hv,q⟩)
end
end L2
namespace L2
open PySem PySem.Spec PyProof.Rows PySem.SeqAt PySem.MeetsSeq
def iA:List Int->Int
 |[]=>0
 |[a]=>a
 |a::b::r=>max a (iA (b::r))
theorem sG:∀{l:List Int},l≠[]->iA l∈l
 |[a],_=>zaq
 |a::b::r,_=>by
  have ih:=sG (l:=b::r) (by simp);unfold iA;rcases Int.le_total a (iA (b::r))with h|h
  ·rw[Int.max_eq_right h];exact zaj _ ih
  ·rw[Int.max_eq_left h];exact zaq
theorem vb:∀{l:List Int} {x:Int},x∈l->x<=iA l
 |[a],x,h=>by simp at h;subst h;exact Int.le_refl _
 |a::b::r,x,h=>by
  unfold iA;rcases zay.mp h with rfl|h
  ·exact Int.le_max_left _ _
  ·exact Int.le_trans (vb h) (Int.le_max_right _ _)
end L2
namespace L2
open PySem PySem.Spec PyProof.Rows HT
section
variable{prog:Program}{w:World}{A:Around}{E:Value->Shared->Prop}{s:Shared}
def mR{t sl:Addr}{items:Array Value}{vl vu:Value}{lo hi:Option Int}{Q:Value->Shared->Prop}(ht:IsTup s.heap t items)(hs:s.heap.IsSliceOf sl vl vu .none)(pl:IsPart vl lo)(pu:IsPart vu hi)
  (hw:HT.sIx items.size 0 lo=0/\HT.sIx items.size items.size hi=items.size) (h:Q (.ref t) s):wpAny (model prog w) A (getItem (.ref t) (.ref sl)) Q E s:=by
 obtain⟨os,hos,hcs,hds⟩:=id hs;have hTs:s.TypeIs (.ref sl) "slice":=⟨os,hos,hcs⟩;obtain⟨ot,hot,hct,m,hdt⟩:=id ht;obtain⟨cls,dd,data,slo⟩:=ot;simp only at hct hdt;subst hct hdt;unfold getItem
 try with_reducible refine zb1 ?_
 first|refine zam (zaT ?_)|skip
 refine zam (wpAny_sequenceKey ht.typeIs (by decide) (zam (zbC (name:=Str.ofString "__getitem__") ht.typeIs PyProof.Rows.slot_tuple_getitem
  (wpAny_call_entry PyProof.Rows.slot_tuple_getitem ht.typeIs entry_tuple_getitem ?_ (args_tuple_getitem _ _)))))
 show wpAny _ _ (Builtin.Tuple.tupleItemsOf (.ref t) >>= _) _ _ s;refine zam (tupleItemsOf_ ht (zam (wpAny_typeOf hTs ?_)));rw[if_pos (by decide)];refine zam (iy hs pl pu ?_);rw[hw.1,hw.2];have h1:(((0:Nat):Int)==0&&(1:Int)==1&&(items.size-0)==items.size)=true:=by simp
 show wpAny _ _ (if(((0:Nat):Int)==0&&(1:Int)==1&&(items.size-0)==items.size)=true then _ else _) _ _ s;rw[if_pos h1]
 wp_walk using wpAny_loadPart' hot,wpAny_load hot
 exact⟨_,rfl,zaT h⟩
end
def wN:D->Option Int->Option Int->Option D
 |.tuple ts,lo,hi=>some (.tuple (eK ts lo hi))
 |_,_,_=>none
section
variable{X:Cx}{K:zb7}
def E6(hK:X.K=K):SlR X (rFs K wN 0):=by
 intro ρ s σ H x v vl vu lo hi sl Q I rx hs pl pu ⟨O,a,t,oa,hd,hg,k⟩;cases a with
 |tuple ts=>
  by_cases hw:HT.sIx ts.length 0 lo=0/\HT.sIx ts.length ts.length hi=ts.length
  ·subst hK;obtain⟨a,vs,rfl,fz,w⟩:=id oa.tup0;cases rx;obtain⟨its,r,ht,hz⟩:=I.tuple fz.sq;have ξ:its.toArray.size=ts.length:=by rw[zai,<-w.len];exact r.length.symm
   refine⟨"tuple",_,PyProof.Rows.slot_tuple_getitem.lookup,ht.typeIs,?_⟩;refine mR ht hs pl pu (by rw[ξ];exact hw) ⟨.ref a,H,I,rfl,k _ H NoA .refl ?_⟩;cases hg;have e:eK ts lo hi=ts:=by
    unfold eK;rw[hw.1,hw.2];simp
   rw[e,fq];exact oa
  ·refine JK hK ρ s σ H x v vl vu lo hi sl Q I rx hs pl pu ⟨O,.tuple ts,t,oa,hd,?_,k⟩;cases hg;show grd _ _=_;unfold grd;rw[if_pos hw]
 |_=>cases hg
end
end L2
namespace L2
open PySem PySem.Spec PyProof.Rows
end L2
namespace L2
open PySem PySem.Spec PyProof.Rows PySem.SeqAt PySem.MeetsSeq
end L2
namespace L2
variable{b a tg l m e elt iter o:Expr}{x:Str}{k n d d' d1 d2 c i dr cd:Nat}{prog P:Program}{w:World}{A:Around}{E:Value->Shared->Prop}{s:Shared}{z i1 i2 ta tb:Addr}{x1 x2:Array Value}{Q:Option Value->Shared->Prop}{X:Cx}{K:zb7}{elts es ifs:List Expr}{tp pos px μ ω pos' ζ:Pos}{p p1 p2 q:Bool}{ds ds1 ds0 ds2 ds' dsi dps lk:List Nat}{fa:MA}{sh:Sh}{H:Hp}{ts us:List D}{vs:List V}{f f1 f2 fk fe:ME}{c1 c2:MT}{g:D->D->Option D}{op:CmpOp}{ps ns:List Str}{scope:Scope}{js:List (Option Nat)}{fi:MI}{J:Jd}{st:Stmt}{m1 m2:MS}{σ:St}{Dn:Ends}{fs:List (ME×ME)}{Q':VK}{en en1 en2:En}{fl:Fl}{t:D}{r:Bool×En}
open PySem PySem.Spec PyProof.Rows
structure ZApartT(z TI TO i1 i2 ta tb:Addr):Prop extends ZApart z TI TO i1 i2 where
 taz:ta≠z
 taTO:ta≠TO
 tai1:ta≠i1
 tai2:ta≠i2
 tbz:tb≠z
 tbTO:tb≠TO
 tbi1:tb≠i1
 tbi2:tb≠i2
def TSt(h:Heap)(i t:Addr)(x:Array Value)(k:Nat):Prop:=h.IsTupleIter i t k/\h.IsTuple t x
def TSt.ext{h h':Heap}{i t b:Addr}{x:Array Value}(st:TSt h i t x k)(s:Heap.SameBut b h h')(n1:i≠b)(n2:t≠b):TSt h' i t x k:=
 ⟨let⟨o,ho,r⟩:=st.1;⟨o,s.extBut _ _ n1 ho,r⟩,let⟨o,ho,r⟩:=st.2;⟨o,s.extBut _ _ n2 ho,r⟩⟩
def pF{TI TO:Addr}{k1 k2:Nat}{a b:Value}{Q:Value->Shared->Prop}(hh:A.handled=none)(D:ZApartT z TI TO i1 i2 ta tb)
  (hz:IsZip s.heap z TI TO .none) (hTI:IsPair s.heap TI (.ref i1) (.ref i2)) (hTO:IsPair s.heap TO a b)
  (h1:TSt s.heap i1 ta x1 k1) (h2:TSt s.heap i2 tb x2 k2) (hk1:k1<x1.size) (hk2:k2<x2.size)
  (hQ:∀h' tk (c d:Value),x1[k1]?=some c->x2[k2]?=some d->IsZip h' z TI TO (rawInt s.heap.objs.size)->IsPair h' TO c d->h'.IsTupleIter i1 ta (k1+1)->h'.IsTupleIter i2 tb (k2+1) ->
   IsPair h' s.heap.objs.size c d->h'.objs.size=s.heap.objs.size+1 ->
   (∀c o,c≠z->c≠TO->c≠i1->c≠i2->s.heap.get? c=some o->h'.get? c=some o)->Q (.ref s.heap.objs.size) { s with heap:=h',toks:=tk }):
  wpAny (model prog w) A (Builtin.«zip.__next__» ⟨[.ref z],[]⟩) (fun fin s'=>∃v,fin=.done (.ret v)/\Q v s') E s:=by
 show wpAny _ _ (field (.ref z) 2 >>= _) _ _ _;refine zam (wpAny_field hz rfl (x:=.bool false) rfl ?_);show wpAny _ _ (field (.ref z) 3 >>= _) _ _ _;refine zam (wpAny_field hz rfl (x:=.ref TI) rfl ?_);refine zam (wpAny_seqItems hTI rfl ?_);show wpAny _ _ (Builtin.SmallTypes.ownedTupleIsFree (.ref z) >>= _) _ _ _;refine zam ?_;unfold Builtin.SmallTypes.ownedTupleIsFree;refine zam (wpAny_field hz rfl (x:=.none) rfl (zaT ?_));simp only[if_true];refine zam (wpAny_rule ?_);refine zam (wpAny_field hz rfl (x:=.ref TO) rfl ?_);refine zam (wpAny_setField_rec hz (by simp) fun h₁ hz₁ hs₁=>?_)
 replace hz₁:IsZip h₁ z TI TO .ellipsis:=hz₁
 refine zam ?_;simp only[List.zipIdx_cons,List.zipIdx_nil,List.forIn_cons,List.forIn_nil];refine zam (zam (wpAny_onRaise ?_));show wpAny _ _ (Builtin.SmallTypes.nextOf (.ref i1) >>= _) _ _ _;refine zam ((fy hh i1 ta D.tai1 x1).item k1 _ _ _ hk1 (h1.ext hs₁ D.i1z D.taz) fun v1 h₂ tk2 hp1 h1₂ hs₂=>zaT ?_);have hc:x1[k1]?=some v1:=hp1;have hTO₂:IsPair h₂ TO a b:=hs₂.extBut _ _ D.TOi1 (hs₁.extBut _ _ D.TOz hTO);refine zam (wpAny_seqItems hTO₂ rfl ?_);refine zam (wpAny_updateSeq_pair hTO₂ fun h₃ hTO₃ hs₃=>?_)
 replace hTO₃:IsPair h₃ TO v1 b:=hTO₃
 refine zam (wpAny_letGo (zaT ?_));refine zam (zam (wpAny_onRaise ?_));show wpAny _ _ (Builtin.SmallTypes.nextOf (.ref i2) >>= _) _ _ _;refine zam ((fy hh i2 tb D.tbi2 x2).item k2 _ _ _ hk2 (((h2.ext hs₁ D.i2z D.tbz).ext hs₂ D.i12.symm D.tbi1).ext hs₃ D.TOi2.symm D.tbTO) fun v2 h₄ tk4 hp2 h2₄ hs₄=>zaT ?_);have hd:x2[k2]?=some v2:=hp2;have hTO₄:IsPair h₄ TO v1 b:=hs₄.extBut _ _ D.TOi2 hTO₃;refine zam (wpAny_seqItems hTO₄ rfl ?_);refine zam (wpAny_updateSeq_pair hTO₄ fun h₅ hTO₅ hs₅=>?_)
 replace hTO₅:IsPair h₅ TO v1 v2:=hTO₅
 refine zam (wpAny_letGo (zaT (zaT ?_)));refine zam (wpAny_seqItems hTO₅ rfl ?_);refine zam (wpAny_newTuple ?_);have hsz:h₅.objs.size=s.heap.objs.size:=by rw[hs₅.1,hs₄.1,hs₃.1,hs₂.1,hs₁.1]
 have hz₅:IsZip h₅ z TI TO .ellipsis:=hs₅.extBut _ _ D.TOz.symm (hs₄.extBut _ _ D.i2z.symm (hs₃.extBut _ _ D.TOz.symm (hs₂.extBut _ _ D.i1z.symm hz₁)));have hk₅:∀c o,c≠z->c≠TO->c≠i1->c≠i2->s.heap.get? c=some o->h₅.get? c=some o:=fun c o c1 c2 c3 c4 e=>
  hs₅.extBut _ _ c2 (hs₄.extBut _ _ c4 (hs₃.extBut _ _ c2 (hs₂.extBut _ _ c3 (hs₁.extBut _ _ c1 e))))
 have h1₅:TSt h₅ i1 ta x1 (k1+1):=((TSt.ext h1₂ hs₃ D.TOi1.symm D.taTO).ext hs₄ D.i12 D.tai2).ext hs₅ D.TOi1.symm D.taTO;have h2₅:TSt h₅ i2 tb x2 (k2+1):=TSt.ext h2₄ hs₅ D.TOi2.symm D.tbTO;have hzlt:z<h₅.objs.size:=zal hz₅;show wpAny _ _ (Builtin.SmallTypes.ownedTupleHandOut (.ref z) (.ref h₅.objs.size) >>= _) _ _ _;refine zam ?_;unfold Builtin.SmallTypes.ownedTupleHandOut;have hz₆:IsZip (h₅.push { cls:=.type "tuple",data:=.seq #[v1,v2] }) z TI TO .ellipsis:=zaf _ hz₅;refine zam (wpAny_setField_rec hz₆ (by simp) fun h₇ hz₇ hs₇=>?_)
 replace hz₇:IsZip h₇ z TI TO (rawInt h₅.objs.size):=hz₇
 refine wpAny_setField_rec hz₇ (by simp) fun h₈ hz₈ hs₈=>?_
 replace hz₈:IsZip h₈ z TI TO (rawInt h₅.objs.size):=hz₈
 have up:∀c o,c≠z->h₅.get? c=some o->h₈.get? c=some o:=fun c o c1 e=>hs₈.extBut _ _ c1 (hs₇.extBut _ _ c1 (zaf _ e));have hT₈:IsPair h₈ h₅.objs.size v1 v2:=hs₈.extBut _ _ (Nat.ne_of_gt hzlt) (hs₇.extBut _ _ (Nat.ne_of_gt hzlt) (zan _ rfl));have hz8:h₈.objs.size=h₅.objs.size+1:=by rw[hs₈.1,hs₇.1,zbw]
 rw[hsz]at hz₈ hT₈ hz8;refine zaT ⟨_,rfl,?_⟩;show Q (.ref h₅.objs.size) _;rw[hsz];exact hQ h₈ _ v1 v2 hc hd hz₈ (up _ _ D.TOz hTO₅) (let⟨o,ho,r⟩:=h1₅.1;⟨o,up _ _ D.i1z ho,r⟩) (let⟨o,ho,r⟩:=h2₅.1;⟨o,up _ _ D.i2z ho,r⟩) hT₈ hz8 fun c o c1 c2 c3 c4 e=>up c o c1 (hk₅ c o c1 c2 c3 c4 e)
def re{TI TO:Addr}{k1 k2:Nat}{a b:Value}{Q:Fin->Shared->Prop}(hh:A.handled=none)(D:ZApartT z TI TO i1 i2 ta tb)
  (hz:IsZip s.heap z TI TO .none) (hTI:IsPair s.heap TI (.ref i1) (.ref i2)) (hTO:IsPair s.heap TO a b)
  (h1:TSt s.heap i1 ta x1 k1) (h2:TSt s.heap i2 tb x2 k2) (hend:k1=x1.size\/(k1<x1.size/\k2=x2.size))
  (hE:∀h' e tk,(∀c o,c≠z->c≠TO->c≠i1->c≠i2->s.heap.get? c=some o->h'.get? c=some o)->(∃o,h'.get? e=some o/\o.cls=.type "StopIteration")->E (.ref e) { s with heap:=h',toks:=tk }):
  wpAny (model prog w) A (Builtin.«zip.__next__» ⟨[.ref z],[]⟩) Q E s:=by
 show wpAny _ _ (field (.ref z) 2 >>= _) _ _ _;refine zam (wpAny_field hz rfl (x:=.bool false) rfl ?_);show wpAny _ _ (field (.ref z) 3 >>= _) _ _ _;refine zam (wpAny_field hz rfl (x:=.ref TI) rfl ?_);refine zam (wpAny_seqItems hTI rfl ?_);show wpAny _ _ (Builtin.SmallTypes.ownedTupleIsFree (.ref z) >>= _) _ _ _;refine zam ?_;unfold Builtin.SmallTypes.ownedTupleIsFree;refine zam (wpAny_field hz rfl (x:=.none) rfl (zaT ?_));simp only[if_true];refine zam (wpAny_rule ?_);refine zam (wpAny_field hz rfl (x:=.ref TO) rfl ?_);refine zam (wpAny_setField_rec hz (by simp) fun h₁ hz₁ hs₁=>?_)
 replace hz₁:IsZip h₁ z TI TO .ellipsis:=hz₁
 refine zam ?_;simp only[List.zipIdx_cons,List.zipIdx_nil,List.forIn_cons,List.forIn_nil];refine zam (zam (wpAny_onRaise ?_));show wpAny _ _ (Builtin.SmallTypes.nextOf (.ref i1) >>= _) _ _ _;rcases hend with rfl|⟨hk1,rfl⟩
 ·refine zam ((fy hh i1 ta D.tai1 x1).done _ _ _ (h1.ext hs₁ D.i1z D.taz) fun h₂ e hs₂ he=>?_);obtain⟨oe,hoe,hce⟩:=he;have hz₂:IsZip h₂ z TI TO .ellipsis:=hs₂ _ _ D.i1z.symm hz₁;have hez:e≠z:=fun x=>by subst x;rw[hz₂]at hoe;cases hoe;simp at hce
  refine wpAny_setField_rec hz₂ (by simp) fun h₃ _ hs₃=>hE h₃ e _ (fun c o c1 _ c3 _ x=>hs₃.extBut _ _ c1 (hs₂ _ _ c3 (hs₁.extBut _ _ c1 x))) ⟨oe,hs₃.extBut _ _ hez hoe,hce⟩
 ·refine zam ((fy hh i1 ta D.tai1 x1).item k1 _ _ _ hk1 (h1.ext hs₁ D.i1z D.taz) fun v1 h₂ tk2 hp1 h1₂ hs₂=>zaT ?_);have hTO₂:IsPair h₂ TO a b:=hs₂.extBut _ _ D.TOi1 (hs₁.extBut _ _ D.TOz hTO);refine zam (wpAny_seqItems hTO₂ rfl ?_);refine zam (wpAny_updateSeq_pair hTO₂ fun h₃ hTO₃ hs₃=>?_);refine zam (wpAny_letGo (zaT ?_));refine zam (zam (wpAny_onRaise ?_));show wpAny _ _ (Builtin.SmallTypes.nextOf (.ref i2) >>= _) _ _ _;refine zam ((fy hh i2 tb D.tbi2 x2).done _ _ _ (((h2.ext hs₁ D.i2z D.tbz).ext hs₂ D.i12.symm D.tbi1).ext hs₃ D.TOi2.symm D.tbTO) fun h₄ e hs₄ he=>?_);obtain⟨oe,hoe,hce⟩:=he;have hz₄:IsZip h₄ z TI TO .ellipsis:=hs₄ _ _ D.i2z.symm (hs₃.extBut _ _ D.TOz.symm (hs₂.extBut _ _ D.i1z.symm hz₁));have hez:e≠z:=fun x=>by subst x;rw[hz₄]at hoe;cases hoe;simp at hce
  refine wpAny_setField_rec hz₄ (by simp) fun h₅ _ hs₅=>hE h₅ e _ (fun c o c1 c2 c3 c4 x=>hs₅.extBut _ _ c1 (hs₄ _ _ c4 (hs₃.extBut _ _ c2 (hs₂.extBut _ _ c3 (hs₁.extBut _ _ c1 x))))) ⟨oe,hs₅.extBut _ _ hez hoe,hce⟩
def nk{TI TO:Addr}{k1 k2:Nat}{a b:Value}(hh:A.handled=none)(D:ZApartT z TI TO i1 i2 ta tb)
  (hz:IsZip s.heap z TI TO .none) (hTI:IsPair s.heap TI (.ref i1) (.ref i2)) (hTO:IsPair s.heap TO a b)
  (h1:TSt s.heap i1 ta x1 k1) (h2:TSt s.heap i2 tb x2 k2) (hk1:k1<x1.size) (hk2:k2<x2.size)
  (hQ:∀h' tk (c d:Value),x1[k1]?=some c->x2[k2]?=some d->IsZip h' z TI TO (rawInt s.heap.objs.size)->IsPair h' TO c d->h'.IsTupleIter i1 ta (k1+1)->h'.IsTupleIter i2 tb (k2+1) ->
   IsPair h' s.heap.objs.size c d->h'.objs.size=s.heap.objs.size+1 ->
   (∀c o,c≠z->c≠TO->c≠i1->c≠i2->s.heap.get? c=some o->h'.get? c=some o)->Q (some (.ref s.heap.objs.size)) { s with heap:=h',toks:=tk }):
  wpAny (model prog w) A (pyNext (.ref z)) Q E s:=by
 have hT:s.TypeIs (.ref z) "zip":=⟨_,hz,rfl⟩;unfold pyNext;exact zam (wpAny_attempt (zbC (name:=Str.ofString "__next__") hT F.slot_zip_next
  (wpAny_call_entry F.slot_zip_next hT F.entry_zip_next
   (pF hh D hz hTI hTO h1 h2 hk1 hk2 fun h' tk c d a1 a2 a3 a4 a5 a6 a7 a8 a9=>zaT (hQ h' tk c d a1 a2 a3 a4 a5 a6 a7 a8 a9)) (F.args_zip_next_1 _))))
def nZ{TI TO:Addr}{k1 k2:Nat}{a b:Value}(hh:A.handled=none)(D:ZApartT z TI TO i1 i2 ta tb)
  (hz:IsZip s.heap z TI TO .none) (hTI:IsPair s.heap TI (.ref i1) (.ref i2)) (hTO:IsPair s.heap TO a b)
  (h1:TSt s.heap i1 ta x1 k1) (h2:TSt s.heap i2 tb x2 k2) (hend:k1=x1.size\/(k1<x1.size/\k2=x2.size))
  (hQ:∀h' tk,(∀c o,c≠z->c≠TO->c≠i1->c≠i2->s.heap.get? c=some o->h'.get? c=some o)->Q none { s with heap:=h',toks:=tk }):wpAny (model prog w) A (pyNext (.ref z)) Q E s:=by
 have hT:s.TypeIs (.ref z) "zip":=⟨_,hz,rfl⟩;unfold pyNext;refine zam (wpAny_attempt (zbC (name:=Str.ofString "__next__") hT F.slot_zip_next
  (wpAny_call_entry F.slot_zip_next hT F.entry_zip_next (re hh D hz hTI hTO h1 h2 hend fun h' e tk hk he=>?_) (F.args_zip_next_1 _))))
 obtain⟨o,ho,hc⟩:=he;refine zam (wpAny_isInstance (T:="StopIteration") (b:=true) ⟨o,ho,hc⟩ isSubtype_stop ?_);exact zaT (hQ _ tk hk)
abbrev zT1(h:Heap)(a:Addr):Heap:=h.push { cls:=.type "tuple_iterator",data:=.fields #[.ref a,.int 0 0] }
abbrev zT2(h:Heap)(a b:Addr):Heap:=(zT1 h a).push { cls:=.type "tuple_iterator",data:=.fields #[.ref b,.int 0 0] }
abbrev zT3(h:Heap)(a b:Addr):Heap:=(zT2 h a b).push { cls:=.type "tuple",data:=.seq #[.ref h.objs.size,.ref (zT1 h a).objs.size] }
abbrev zT4(h:Heap)(a b:Addr):Heap:=(zT3 h a b).push { cls:=.type "tuple",data:=.seq #[.none,.none] }
abbrev zT5(h:Heap)(a b:Addr):Heap:=(zT4 h a b).push { cls:=.type "zip",data:=.fields #[.none,.bool false,.bool false,.ref (zT2 h a b).objs.size,.ref (zT3 h a b).objs.size] }
def pV(a b:Addr)(x y:Array Value):
  Meets (Builtin.«zip.__new__» ⟨[.type "zip",.ref a,.ref b],[]⟩) (fun _ R s=>(s.heap.IsTuple a x/\s.heap.IsTuple b y)/\R (.ok (.ret (.ref (zT4 s.heap a b).objs.size))) { s with heap:=zT5 s.heap a b }):=
 .of_wp fun prog w A R s h=>by
  obtain⟨hp,g,d,tk,os⟩:=s;obtain⟨⟨ha,hb⟩,h⟩:=h;have hsub:isSubtype (.type "zip") (.type "zip")=pure true:=by rw[isSubtype_type];kernel_rfl
  have hb':=hb.push { cls:=.type "tuple_iterator",data:=.fields #[.ref a,.int 0 0] }
  wp_walk using wpAny_pyIter_tuple ha,wpAny_pyIter_tuple hb'
  exact⟨_,rfl,h⟩
def yM{a b:Addr}{x y:Array Value}{Q:Value->Shared->Prop}
  (ha:s.heap.IsTuple a x) (hb:s.heap.IsTuple b y) (h:∀h',IsZip h' (s.heap.objs.size+4) (s.heap.objs.size+2) (s.heap.objs.size+3) .none->IsPair h' (s.heap.objs.size+2) (.ref s.heap.objs.size) (.ref (s.heap.objs.size+1)) ->
   IsPair h' (s.heap.objs.size+3) .none .none->h'.IsTupleIter s.heap.objs.size a 0->h'.IsTupleIter (s.heap.objs.size+1) b 0->h'.objs.size=s.heap.objs.size+5 ->
   (∀c o,s.heap.get? c=some o->h'.get? c=some o)->Q (.ref (s.heap.objs.size+4)) { s with heap:=h' }):
  wpAny (model prog w) A (call (.type "zip") [.ref a,.ref b]) Q E s:=by
 refine callType_new F.called_zip (by decide) (F.typeCall_zip_2 _ _) (F.newCall_zip_2 _ _) (fun obj=>F.args_object_init_3 obj _ _) F.entry_zip_new
  (pV a b x y) ?_
 have z1:(zT1 s.heap a).objs.size=s.heap.objs.size+1:=zbw ..;have z2:(zT2 s.heap a b).objs.size=s.heap.objs.size+2:=by rw[zbw,z1]
 have z3:(zT3 s.heap a b).objs.size=s.heap.objs.size+3:=by rw[zbw,z2]
 have z4:(zT4 s.heap a b).objs.size=s.heap.objs.size+4:=by rw[zbw,z3]
 have z5:(zT5 s.heap a b).objs.size=s.heap.objs.size+5:=by rw[zbw,z4]
 have g5:(zT5 s.heap a b).get? (zT4 s.heap a b).objs.size=some _:=zan _ rfl;have g4:(zT5 s.heap a b).get? (zT3 s.heap a b).objs.size=some _:=zaf _ (zan _ rfl);have g3:(zT5 s.heap a b).get? (zT2 s.heap a b).objs.size=some _:=zaf _ (zaf _ (zan _ rfl));have g2:(zT5 s.heap a b).get? (zT1 s.heap a).objs.size=some _:=zaf _ (zaf _ (zaf _ (zan _ rfl)));have g1:(zT5 s.heap a b).get? s.heap.objs.size=some _:=zaf _ (zaf _ (zaf _ (zaf _ (zan _ rfl))));refine⟨⟨ha,hb⟩,?_⟩;show _/\_;rw[z2,z3,z4]at g5;rw[z1,z2]at g3;rw[z3]at g4;rw[z1]at g2;rw[z4];exact⟨⟨_,g5,rfl⟩,h _ g5 g3 g4 ⟨_,g1,rfl,rfl⟩ ⟨_,g2,rfl,rfl⟩ z5 fun c o x=>
  zaf _ (zaf _ (zaf _ (zaf _ (zaf _ x))))⟩
def ug{a b:Nat}(ha:a<n)(hb:b<n):ZApartT (n+4) (n+2) (n+3) n (n+1) a b:=
 ⟨vN n,zaw (by omega),zaw (by omega),zaw (by omega),zaw (by omega),zaw (by omega),zaw (by omega),zaw (by omega),zaw (by omega)⟩
def A7(K:zb7)(a b:Addr):It:=
 ⟨fun i H=>∃xs ys x y,SqT K H a xs/\SqT K H b ys/\xs[i]?=some x/\ys[i]?=some y,
  fun i H v H'=>∃p x y,v=.ref p/\H p=none/\H'=upd H p (.tup [x,y])/\(∀xs,SqT K H a xs->xs[i]?=some x)/\(∀ys,SqT K H b ys->ys[i]?=some y),
  fun i H=>∃xs ys,SqT K H a xs/\SqT K H b ys/\(i=xs.length\/(i<xs.length/\i=ys.length))⟩
def xk(z TI TO i1 i2 a b:Addr)(D:ZApartT z TI TO i1 i2 a b):
  Turn P w K (.Tuple elts k tp) (A7 K a b) [z,TI,TO,i1,i2] z (fun i h=>IsZip h z TI TO .none/\IsPair h TI (.ref i1) (.ref i2)/\(∃u v,IsPair h TO u v)/\h.IsTupleIter i1 a i/\h.IsTupleIter i2 b i) where
 mem:=by simp
 obj:=fun i h st c hc=>by
  obtain⟨h1,h2,⟨u,v,h3⟩,⟨o4,g4,_,d4⟩,⟨o5,g5,_,d5⟩⟩:=st;have hc':c=z\/c=TI\/c=TO\/c=i1\/c=i2:=by simpa using hc
  rcases hc' with rfl|rfl|rfl|rfl|rfl
  ·exact⟨_,h1,fun v q=>by
    have q':Data.fields _=Data.cell v:=q;cases q'⟩
  ·exact⟨_,h2,fun v q=>by
    have q':Data.seq _ _=Data.cell v:=q;cases q'⟩
  ·exact⟨_,h3,fun v q=>by
    have q':Data.seq _ _=Data.cell v:=q;cases q'⟩
  ·exact⟨o4,g4,fun v q=>by rw[d4]at q;cases q⟩
  ·exact⟨o5,g5,fun v q=>by rw[d5]at q;cases q⟩
 keep:=fun i h h' st kp=>⟨kp z (by simp) _ st.1,kp TI (by simp) _ st.2.1,let⟨u,v,e⟩:=st.2.2.1;⟨u,v,kp TO (by simp) _ e⟩,st.2.2.2.1.at fun o q=>kp i1 (by simp) o q,st.2.2.2.2.at fun o q=>kp i2 (by simp) o q⟩
 item:=by
  intro X hP hw hK hc i ρ s σ H E I hf st hg;subst hP hw hK;obtain⟨xs,ys,x,y,hq,hq2,hx,hy⟩:=hg;obtain⟨its,rv,p,hz⟩:=I.tuple hq;obtain⟨ν,rv2,p2,hz2⟩:=I.tuple hq2;obtain⟨u,hu,ru⟩:=rv.get hx;obtain⟨u2,hu2,ru2⟩:=rv2.get hy;obtain⟨hZ,hTI,⟨c1,c2,hTO⟩,hi1,hi2⟩:=st;have bd1:i<its.toArray.size:=by have:=(zah.mp hu).1;simpa using this
  have bd2:i<ν.toArray.size:=by have:=(zah.mp hu2).1;simpa using this
  refine nk (I.ok.hd hc) D hZ hTI hTO ⟨hi1,p⟩ ⟨hi2,p2⟩ bd1 bd2 fun h1 tk c d hcx hdx a1 a2 a3 a4 a5 a6 a7=>?_;have ec:u=c:=by
   have e:its[i]?=some c:=by simpa using hcx
   rw[hu]at e;exact zat e
  have ed:u2=d:=by
   have e:ν[i]?=some d:=by simpa using hdx
   rw[hu2]at e;exact zat e
  subst ec ed;refine⟨_,rfl,wpAny_letOwnedTupleGo_zip a1 fun h2 hz2' hs2=>?_⟩;have zL:z<s.heap.objs.size:=zal hZ;have ht2:IsPair h2 s.heap.objs.size u u2:=(hs2.2 _ (Nat.ne_of_gt zL)).trans a5;have hTI2:IsPair h2 TI (.ref i1) (.ref i2):=(hs2.2 _ D.TIz).trans (a7 _ _ D.TIz D.TITO D.TIi1 D.TIi2 hTI);have hTO2:IsPair h2 TO u u2:=(hs2.2 _ D.TOz).trans a2;have hi1':h2.IsTupleIter i1 a (i+1):=(let⟨o,ho,r⟩:=a3;⟨o,hs2.extBut _ _ D.i1z ho,r⟩);have hi2':h2.IsTupleIter i2 b (i+1):=(let⟨o,ho,r⟩:=a4;⟨o,hs2.extBut _ _ D.i2z ho,r⟩);have I2:Inv X ρ σ (upd H s.heap.objs.size (.tup [x,y])) { s with heap:=h2,toks:=tk }:=by
   refine I.turnedLaid (fp:=[z,TI,TO,i1,i2]) hf (zav _) (fun c ob hb q=>?_) (fun c hb=>?_) ?_
   ·have n1:c≠z:=fun e=>hb (by simp[e]);have n3:c≠TO:=fun e=>hb (by simp[e]);have n4:c≠i1:=fun e=>hb (by simp[e]);have n5:c≠i2:=fun e=>hb (by simp[e]);exact(hs2.2 c n1).trans (a7 c ob n1 n3 n4 n5 q)
   ·have hb':c=z\/c=TI\/c=TO\/c=i1\/c=i2:=by simpa using hb
    rcases hb' with rfl|rfl|rfl|rfl|rfl
    ·exact⟨_,hz2'⟩
    ·exact⟨_,hTI2⟩
    ·exact⟨_,hTO2⟩
    ·obtain⟨o,ho,_⟩:=hi1';exact⟨o,ho⟩
    ·obtain⟨o,ho,_⟩:=hi2';exact⟨o,ho⟩
   ·refine⟨(by show 2<=sizeLine;decide),[u,u2],.cons ru (.cons ru2 .nil),?_⟩;exact⟨_,ht2,rfl,_,rfl,rfl⟩
  have fr:∀c∈[z,TI,TO,i1,i2],upd H s.heap.objs.size (.tup [x,y]) c=none:=fun c hb=>by
   have hlt:c<s.heap.objs.size:=by
    have hb':c=z\/c=TI\/c=TO\/c=i1\/c=i2:=by simpa using hb
    rcases hb' with rfl|rfl|rfl|rfl|rfl
    ·exact zL
    ·exact zal hTI
    ·exact zal hTO
    ·obtain⟨o,ho,_⟩:=hi1;exact zal ho
    ·obtain⟨o,ho,_⟩:=hi2;exact zal ho
   rw[aE (zaw hlt)];exact(hf c hb).1
  exact⟨.ref s.heap.objs.size,_,I2,rfl,⟨_,x,y,rfl,I.fresh,rfl,fun zs hz=>by rw[I.tuple_inj hz hq];exact hx,fun zs hz=>by rw[I.tuple_inj hz hq2];exact hy⟩,⟨hz2',hTI2,⟨_,_,hTO2⟩,hi1',hi2'⟩,fr⟩
 done:=by
  intro X hP hw hK hc i ρ s σ H E I hf st hg;subst hP hw hK;obtain⟨xs,ys,hq,hq2,he⟩:=hg;obtain⟨its,rv,p,hz⟩:=I.tuple hq;obtain⟨ν,rv2,p2,hz2⟩:=I.tuple hq2;obtain⟨hZ,hTI,⟨c1,c2,hTO⟩,hi1,hi2⟩:=st;have l1:=rv.length;have l2:=rv2.length;have he':i=its.toArray.size\/(i<its.toArray.size/\i=ν.toArray.size):=by
   rw[zai,zai];omega
  exact nZ (I.ok.hd hc) D hZ hTI hTO ⟨hi1,p⟩ ⟨hi2,p2⟩ he' fun h' tk eb=>⟨rfl,I.turnedMany (t':=tk) hf fun c o hb q=>eb c o (fun e=>hb (by simp[e])) (fun e=>hb (by simp[e])) (fun e=>hb (by simp[e])) (fun e=>hb (by simp[e])) q⟩
 self:=fun _ _ _ _ _ st h=>wpAny_pyIter_zip st.1 h
def Dt(K:zb7)(ta:TA):TI:=fun σ H R=>ta σ H fun vs H1=>∃a b,vs=[.ref a,.ref b]/\(∃xs,SqT K H1 a xs)/\(∃ys,SqT K H1 b ys)/\R (A7 K a b) H1
def D4{ta:TA}{p:Pos}(hg:Gl X "zip")(hm:X.mg "zip"=none)(ha:PA X [l,m] ta)(hs:starEach [l,m] X.env=(false,eval l X.env)::starEach [m] X.env:=by rfl)(hpl:(backTo pos (starEach [m] X.env)).any (·.1)=false:=by rfl):
  PI X (.Tuple elts k tp) (.Call (.Name "zip" p) [l,m] [] pos) (Dt X.K ta):=by
 intro ρ s σ H R I h;refine Call_ (eP I hg hm boot_zip (PyProof.Rows.callWith_type1 (thn (ha pos ρ s σ H _ I h) fun us s1 ⟨vs,H1,I1,r1,q1⟩=>?_) hs hpl));obtain⟨a,b,e,⟨xs,hq⟩,⟨ys,hq2⟩,q⟩:=q1;subst e;obtain⟨u,v,rfl,ru,rv'⟩:=vQ r1;cases ru;cases rv';obtain⟨its,rv,pl,hz⟩:=I1.tuple hq;obtain⟨ν,rv2,pl2,hz2⟩:=I1.tuple hq2;have La:a<s1.heap.objs.size:=let⟨_,e,_⟩:=pl;zal e;have Lb:b<s1.heap.objs.size:=let⟨_,e,_⟩:=pl2;zal e;refine yM pl pl2 fun h' hZ hTI hTO hi1 hi2 hsz hk=>?_;refine wpAny_pyIter_zip hZ ?_;have I2:Inv X ρ σ H1 { s1 with heap:=h' }:=I1.kept (t':=s1.toks) hk;refine⟨s1.heap.objs.size+4,[s1.heap.objs.size+4,s1.heap.objs.size+2,s1.heap.objs.size+3,s1.heap.objs.size,s1.heap.objs.size+1],_,_,H1,rfl,I2,xk _ _ _ _ _ a b (ug La Lb),⟨hZ,hTI,⟨_,_,hTO⟩,hi1,hi2⟩,fun c hb=>?_,q⟩;have hb':s1.heap.objs.size<=c:=by
  have hb':c=s1.heap.objs.size+4\/c=s1.heap.objs.size+2\/c=s1.heap.objs.size+3\/c=s1.heap.objs.size\/c=s1.heap.objs.size+1:=by simpa using hb
  rcases hb' with rfl|rfl|rfl|rfl|rfl<;>omega
 exact I1.fpOk hb' (I1.hok.fresh hb')
def zZ{ta:TA}{p:Pos}(hK:X.K=K)(hg:Gl X "zip")(hm:X.mg "zip"=none)(ha:PA X [l,m] ta)(hs:starEach [l,m] X.env=(false,eval l X.env)::starEach [m] X.env:=by rfl)(hpl:(backTo pos (starEach [m] X.env)).any (·.1)=false:=by rfl):
  PI X (.Tuple elts k tp) (.Call (.Name "zip" p) [l,m] [] pos) (Dt K ta):=by subst hK;exact D4 hg hm ha hs hpl
section
variable{O O1:AS}{H0:Hp}{ws:List V}{a b:Addr}
def xf(h:FzT K O H0 a vs)(ho:Ows K O H0 ts 0 vs NoA)(h':FzT K O H0 b ws)(ho':Ows K O H0 us 0 ws NoA):ju K O H0 (A7 K a b) (eJ ts us):=fun i H O1 h1 h2 h3=>by
 have sq:=(h.mv (bM h1 h2)).sq;have sq':=(h'.mv (bM h1 h2)).sq;refine⟨fun u hu=>?_,fun hl=>⟨vs,ws,sq,sq',?_⟩⟩
 ·unfold eJ at hu;rw[List.getElem?_zipWith]at hu;split at hu
  case h_2=>cases hu
  next t t' ht ht'=>
  cases hu;obtain⟨v,hv,ov⟩:=ho.get ht;obtain⟨w,hw,ow⟩:=ho'.get ht';refine⟨⟨vs,ws,v,w,sq,sq',hv,hw⟩,fun x H1 ⟨q,v',w',e1,hp,e2,y1,y2⟩=>?_⟩;have e3:=y1 vs sq;have e4:=y2 ws sq';rw[hv]at e3;rw[hw]at e4;cases e3;cases e4;subst e1 e2;exact xP hp h3 (Ow.mv (bM h1 h2) t (fun _ z=>z) ov) (Ow.mv (bM h1 h2) t' (fun _ z=>z) ow)
 ·unfold eJ at hl;rw[List.length_zipWith]at hl;rw[ho.len,ho'.len];omega
def sR(fa:MA):MI:=fun en=>(fa en).bind fun r=>match r.1 with
 |[.inl (.tuple ts),.inl (.tuple us)]=>some (eJ ts us,r.2)
 |_=>none
def E7(hK:X.K=K)(hg:Gl X "zip")(hm:X.mg "zip"=none)(ha:PA X [l,m] (tFA K p ds ds1 sh fa))(hs:aD l=true)(hs2:aD m=true):
  PI X (.Tuple elts k tp) (.Call (.Name "zip" px) [l,m] [] pos) (tFI K p ds ds1 (sR fa)):=
 (zZ hK hg hm ha (by rw[aR hs]) (by rw[aR hs2];rfl)).imp fun σ H R ⟨Ox,en,Rg,ts,en',e,hf,k⟩=>by
  unfold sR at hf;obtain⟨⟨as,en1⟩,h1,hf⟩:=zaa.mp hf;refine⟨Ox,en,Rg,as,en1,e,h1,fun vs H1 R1 F P o=>?_⟩
  dsimp only at hf
  split at hf
  case h_2=>cases hf
  next t1 t2=>
  cases hf;obtain⟨v,r,d,dr,F1,F2,e1,e2,s1,s2,_,o1,v2,r2,d2,dr2,G1,G2,e3,e4,s3,_,_,o2,o3⟩:=o;obtain⟨_,o3⟩:=o3;subst e1 e3 o3;have q1:=Ow.letgo P s1 o1;have q2:=Ow.letgo P (fun b z=>s2 b (s3 b z)) o2;obtain⟨a,xs,f1,⟨_,fz,ow⟩|⟨z,_⟩⟩:=q1
  ·obtain⟨b,ys,f2,⟨_,fz2,ow2⟩|⟨z,_⟩⟩:=q2
   ·subst f1 f2;exact⟨a,b,rfl,⟨xs,fz.sq⟩,⟨ys,fz2.sq⟩,k _ H1 R1 (P.less fun _ z=>z.elim) (xf fz ow fz2 ow2)⟩
   ·exact absurd rfl z
  ·exact absurd rfl z
end
structure QE(X:Cx)(e:Expr)(t:TE):Prop where
 h:PE X e t
structure QT(X:Cx)(e:Expr)(t:TT):Prop where
 h:PT X e t
structure QW(X:Cx)(e:Expr)(t:TT):Prop where
 h:PW X e t
structure QA(X:Cx)(e:List Expr)(t:TA):Prop where
 h:PA X e t
structure QS(X:Cx)(e:Stmt)(t:TS):Prop where
 h:PS X e t
structure QSs(X:Cx)(e:List Stmt)(t:TS):Prop where
 h:PSs X e t
structure QG(X:Cx)(e:Expr)(t:TG):Prop where
 h:PG X e t
structure QGs(X:Cx)(e:List Expr)(t:TGs):Prop where
 h:PGs X e t
structure QI(X:Cx)(tg e:Expr)(t:TI):Prop where
 h:PI X tg e t
structure QTs(X:Cx)(e:List Expr)(t:TT):Prop where
 h:PTs X e t
structure QO(X:Cx)(e:Option Expr)(t:TO):Prop where
 h:PO X e t
structure QPs(X:Cx)(pos:Pos)(ks:List (Option Expr))(vs:List Expr)(t:List (TE×TE)):Prop where
 h:PPs X pos ks vs t
def qpt{t:TT}(h:QW X e t):QT X e t:=⟨h.h.pt⟩
section
variable{c:Expr}{m:MT}    
def bU(hN:X.N[i]?=some x)(hv:Vis X.env.scope x)(h0:ds[i]?=some 0)(hd:(x==("__debug__":Str))=false)(hcd:(x==("__classdict__":Str))=false):QE X (.Name x pos) (tF K p ds ds 0 (aa i)):=⟨JO hN hv h0 hd hcd⟩
def iq(hN:X.N[i]?=some x)(hv:Vis X.env.scope x)(h0:ds[i]?=some d)(hds:ds.set i 0=ds')(hd:(x==("__debug__":Str))=false)(hcd:(x==("__classdict__":Str))=false):QE X (.Name x pos) (tF K false ds ds' d (eMv i)):=⟨Lz hN hv h0 hds hd hcd⟩
def ai{n:Int}{j}:QE X (.Constant (.int n) j pos) (tF K p ds ds 3 (eC (.int n))):=⟨J1⟩
def bq{n:Bool}{j}:QE X (.Constant (.bool n) j pos) (tF K p ds ds 3 (eC (.bool n))):=⟨LE⟩
def aQ{j}:QE X (.Constant .none j pos) (tF K p ds ds 3 (eC .none)):=⟨JV⟩
def bm{n:Str}{j}:QE X (.Constant (.str n) j pos) (tF K p ds ds 3 (eC (.str n))):=⟨JR⟩
def bJ(h:QE X e (tF K p ds ds' d f))(hd:d'<=d):QE X e (tF K p ds ds' d' f):=⟨JQ h.h hd⟩
def c9(h:QE X e (tF K p ds0 ds' d f))(hd:leD ds0 ds=true):QE X e (tF K false ds ds' d f):=⟨LC h.h hd⟩
def tq(h:QE X e (tF K true ds0 ds0 3 f))(hd:leD ds0 ds=true):QE X e (tF K p ds ds 3 f):=⟨J5 h.h hd⟩
def au{op:Operator}(ho:OpR X (binaryOp op) (rF2 K g d))(ha:QE X a (tF K p ds ds1 d1 f1))(hb:QE X b (tF K p ds1 ds2 d2 f2)):QE X (.BinOp a op b pos) (tF K p ds ds2 d (e2 g f1 f2)):=⟨Ly ho ha.h hb.h⟩
def qb{op:UnaryOp}{g:D->Option D}(ho:UnR X (unaryOp op) (rF1 K g d))(ha:QE X a (tF K p ds ds1 d1 f1)):QE X (.UnaryOp op a pos) (tF K p ds ds1 d (e1 g f1)):=⟨Lw ho ha.h⟩
def cN(ho:OpR X (compareOp op) (rF2 K g d))(ha:QE X a (tF K p ds ds1 d1 f1))(hb:QE X b (tF K p ds1 ds2 d2 f2))(hm:behindInMarks op b=false):QE X (.Compare a [op] [b] pos) (tF K p ds ds2 d (e2 g f1 f2)):=⟨J4 ho ha.h hb.h hm⟩
def aH(ho:OpR X (compareOp op) (rF2 K g d))(ha:QE X a (tF K p ds ds1 d1 f1))(hb:QE X b (tF K p ds1 ds2 d2 f2))(hm:behindInMarks op b=false):QT X (.Compare a [op] [b] pos) (tFT K p ds ds2 (tV (e2 g f1 f2))):=⟨EH ho ha.h hb.h hm⟩
def bE(h:QE X e (tF K p ds ds' d f))(he:∀χ,isTrue e X.env χ=(do let v <-χ;standAt e.pos;holding [v] (truthy v))):QT X e (tFT K p ds ds' (tV f)):=⟨ED h.h he⟩
def dI(ha:QT X a (tFT K p ds ds1 c1)):QW X (.BoolOp .And [a] pos) (tFT K p ds ds1 c1):=⟨EA ha.h⟩
def cL(ha:QT X a (tFT K p ds ds1 c1)):QW X (.BoolOp .Or [a] pos) (tFT K p ds ds1 c1):=⟨Ju ha.h⟩
def fm{rest:List Expr}(ha:QT X a (tFT K p ds ds1 c1))(hb:QW X (.BoolOp .And (b::rest) pos) (tFT K p ds1 ds1 c2)):QW X (.BoolOp .And (a::b::rest) pos) (tFT K p ds ds1 (cA c1 c2)):=⟨Jv ha.h hb.h⟩
def cC{rest:List Expr}(ha:QT X a (tFT K p ds ds1 c1))(hb:QW X (.BoolOp .Or (b::rest) pos) (tFT K p ds1 ds1 c2)):QW X (.BoolOp .Or (a::b::rest) pos) (tFT K p ds ds1 (bOr c1 c2)):=⟨Lq ha.h hb.h⟩
def dJ(ha:QT X a (tFT K p ds ds1 c1)):QT X (.UnaryOp .Not a pos) (tFT K p ds ds1 (fX c1)):=⟨EE ha.h⟩
def bO(h:QT X e (tFT K true ds0 ds0 c1))(hd:leD ds0 ds=true):QT X e (tFT K p ds ds c1):=⟨EJ h.h hd⟩
def kh{op}(h:QE X a (tF K p ds ds1 d f)):QE X (.BoolOp op [a] pos) (tF K p ds ds1 d f):=⟨JT h.h⟩
def kj{rest:List Expr}(ha:QE X a (tF K p ds ds1 d1 f1))(hb:QE X (.BoolOp .And (b::rest) pos) (tF K p ds1 ds1 d f2)):QE X (.BoolOp .And (a::b::rest) pos) (tF K p ds ds1 d (kq f1 f2)):=⟨J7 ha.h hb.h⟩
def Fh{rest:List Expr}(ha:QE X a (tF K p ds ds1 d1 f1))(hb:QE X (.BoolOp .Or (b::rest) pos) (tF K p ds1 ds1 d f2)):QE X (.BoolOp .Or (a::b::rest) pos) (tF K p ds ds1 d (eOr f1 f2)):=⟨Lx ha.h hb.h⟩
def AI(ha:QE X a (tF K p ds ds1 d1 f)):QE X (.UnaryOp .Not a pos) (tF K p ds ds1 3 (qg f)):=⟨JU ha.h⟩
def af: QA X [] (tFA K p ds ds [] ah):=⟨Ft⟩
def wI(ha:QE X e (tF K p ds ds1 d f))(hr:QA X es (tFA K p ds1 ds2 sh fa))(hs:aD e=true):QA X (e::es) (tFA K p ds ds2 (.inl d::sh) (ac f fa)):=⟨AQ ha.h hr.h hs⟩
def oO(hN:X.N[i]?=some x)(hv:Vis X.env.scope x)(hr:QA X es (tFA K p ds ds2 sh fa))(hd:(x==("__debug__":Str))=false)(hcd:(x==("__classdict__":Str))=false):QA X (.Name x pos::es) (tFA K p ds ds2 (.inr i::sh) (aB i fa)):=⟨AO hN hv hr.h hd hcd⟩
def ba{c:Nat}(h:QA X es (tFA K p ds ds1 sh fa))(hs:cf c sh=true)(hd:dn d=c)(hz:d≠0):QE X (.List es pos) (tF K p ds ds1 d (bh fa)):=⟨JW h.h hs hd hz⟩
def cw{c:Nat}{x1}(h:QA X es (tFA K p ds ds1 sh fa))(hs:cf c sh=true)(hd:dn d=c):QE X (.Tuple es x1 pos) (tF K p ds ds1 d (da fa)):=⟨JP h.h hs hd⟩
def oN{id:String}{g:List D->Option D}(hc:CallR X (.builtin id) (rFn K g d))(hg:Gl X x)(hm:X.mg x=none)(hv:bootBuiltins x=some (.builtin id))(ha:QA X (e::es) (tFA K p ds ds1 sh fa))(hsh:cf 0 sh=true)(hn:x≠"__name__")(hdb:(x==("__debug__":Str))=false)(he:aD e=true)(hpl:es.all aD=true):QE X (.Call (.Name x px) (e::es) [] pos) (tF K p ds ds1 d (eN g fa)):=⟨AN hc hg hm hv ha.h hsh hn hdb he hpl⟩
def uF{T:String}{g:List D->Option D}(hc:CallR X (.type T) (rFn K g d))(hg:Gl X x)(hm:X.mg x=none)(hv:bootBuiltins x=some (.type T))(ha:QA X (e::es) (tFA K p ds ds1 sh fa))(hsh:cf 0 sh=true)(hn:x≠"__name__")(hdb:(x==("__debug__":Str))=false)(he:aD e=true)(hpl:es.all aD=true):QE X (.Call (.Name x px) (e::es) [] pos) (tF K p ds ds1 d (eN g fa)):=⟨yE hc hg hm hv ha.h hsh hn hdb he hpl⟩
def Fj{F:List D->Option (D×En)}(G:Kn X.prog X.w X.K X.mg X.base k x ps (spF K dps dr F))(hr:Room k X.A)(hg:Gl X x)(ha:QA X (e::es) (tFA K p ds ds1 sh fa))(hns:gA sh=true)(hcd:cV ds1 sh dps=true)(hdb:(x==("__debug__":Str))=false)(he:aD e=true)(hpl:es.all aD=true):QE X (.Call (.Name x px) (e::es) [] pos) (tF K p ds ds1 dr (am F fa)):=⟨LD G hr hg ha.h hns hcd hdb he hpl⟩
def AJ{F:List D->Option (D×En)}(G:Kn X.prog X.w X.K X.mg X.base k x ps (spF K dps dr F))(hr:Room k X.A)(hg:Gl X x)(ha:QA X (e::es) (tFA K false ds ds1 sh fa))(hcd:cV ds1 sh dps=true)(hdb:(x==("__debug__":Str))=false)(he:aD e=true)(hpl:es.all aD=true):QE X (.Call (.Name x px) (e::es) [] pos) (tF K false ds ds1 dr (am F fa)):=⟨J2 G hr hg ha.h hcd hdb he hpl⟩
def bg(ho:IxR X (rF2 K g d))(ha:QE X a (tF K p ds ds1 d1 f1))(hb:QE X b (tF K p ds1 ds2 d2 f2))(hs:eE b):QE X (.Subscript a b pos) (tF K p ds ds2 d (e2 g f1 f2)):=⟨LB ho ha.h hb.h hs⟩
def ki(hK:X.K=K)(hN:X.N[i]?=some x)(hv:Vis X.env.scope x)(h1:ds1[i]?=some 1)(hb:QE X b (tF K p ds ds1 d1 f))(hs:eE b)(hd:(x==("__debug__":Str))=false)(hcd:(x==("__classdict__":Str))=false):QE X (.Subscript (.Name x px) b pos) (tF K p ds ds1 0 (dN i f)):=⟨JY hK hN hv h1 hb.h hs hd hcd⟩
def cO{c:Nat}(hK:X.K=K)(hN:X.N[i]?=some x)(hv:Vis X.env.scope x)(h1:ds1[i]?=some d)(he:QE X e (tF K false ds ds1 c f))(hz:d≠0)(hc:dn d=c)(hd:(x==("__debug__":Str))=false)(hcd:(x==("__classdict__":Str))=false)(η:attributeBase (.Name x px) "append" X.env (eval (.Name x px) X.env)=eval (.Name x px) X.env)(hfew:((backTo ω (starEach [e] X.env)).all (fun x=>!x.1)&&(backToKw ω (keywordEach [] X.env)).all (fun x=>x.1.isSome)&&decide (([e]:List Expr).length+([]:List Keyword).length+(if([]:List Keyword).isEmpty then 0 else 1)<30))=true)(θ:(μ.endLine==ω.line)=true)(hs:starEach [e] X.env=[(false,eval e X.env)])(ι:(backTo ω (starEach [] X.env)).any (·.1)=false):QE X (.Call (.Attribute (.Name x px) "append" μ) [e] [] ω) (tF K false ds ds1 3 (cc i f)):=⟨J6 hK hN hv h1 he.h hz hc hd hcd η hfew θ hs ι⟩
def tj{c:Nat}(hK:X.K=K)(hN:X.N[i]?=some x)(hv:Vis X.env.scope x)(h1:ds[i]?=some d)(hz:d≠0)(hc:dn d=c)(hd:(x==("__debug__":Str))=false)(hcd:(x==("__classdict__":Str))=false)(η:attributeBase (.Name x px) "pop" X.env (eval (.Name x px) X.env)=eval (.Name x px) X.env)(θ:(μ.endLine==ω.line)=true):QE X (.Call (.Attribute (.Name x px) "pop" μ) [] [] ω) (tF K false ds ds c (iI i)):=⟨JS hK hN hv h1 hz hc hd hcd η θ⟩
def b9: QTs X [] (tFT K p ds ds cY):=⟨EC⟩
def de(hc:QT X c (tFT K p ds ds1 c1)):QTs X [c] (tFT K p ds ds1 c1):=⟨EB hc.h⟩
def cq{g:MG}(B:BlkOkC X scope ns js)(hc:X.calm=true)(hi:QI X tg iter (tFI K p ds ds1 fi))(hg:∀C cl s₀ H₀ fp,QG (aX X scope ns C cl s₀ H₀ fp) tg (tFG K lk dsi dsi g))(ht:∀C cl s₀ H₀ fp,QTs (aX X scope ns C cl s₀ H₀ fp) ifs (tFT K true dsi dsi c1))(he:∀C cl s₀ H₀ fp,QE (aX X scope ns C cl s₀ H₀ fp) elt (tF K true dsi dsi cd f))(hcap:jr ds1 js dsi=true)(hd:dn d=cd)(hz:d≠0)(hlk:lk=jq js 0)(hs:∀x,foldedSetIterable iter X.env x=pure x):QE X (.ListComp elt [⟨tg,iter,ifs,0⟩] scope pos) (tF K p ds ds1 d (eLC true fi g c1 f js)):=⟨LA B hc hi.h (fun C cl s₀ H₀ fp=>(hg C cl s₀ H₀ fp).h) (fun C cl s₀ H₀ fp=>(ht C cl s₀ H₀ fp).h) (fun C cl s₀ H₀ fp=>(he C cl s₀ H₀ fp).h) hcap hd hz hlk hs⟩
end
section
variable{c:Expr}{rest body wE:List Stmt}{m:MS}{g:MG}{gs:List D->En->Option En} 
def az: QSs X [] (tFS K J ds ds aS):=⟨EM⟩
def ag(h1:QS X st (tFS K J ds ds1 m1))(h2:QSs X rest (tFS K J ds1 ds2 m2)):QSs X (st::rest) (tFS K J ds ds2 (aj m1 m2)):=⟨Au h1.h h2.h⟩
def av(h1:QS X st (tFS K J ds ds1 m1)):QSs X [st] (tFS K J ds ds1 m1):=⟨EL h1.h⟩
def yj(h:QSs X rest (tFS K J ds ds2 m))(hd:leD ds1 ds2=true):QSs X rest (tFS K J ds ds1 m):=⟨EK h.h hd⟩
def bF(he:QE X e (tF K false ds ds1 d f))(hs:swapsWith e none pos.line X.env=pure false):QS X (.Expr e pos) (tFS K J ds ds1 (bI f)):=⟨EU he.h hs⟩
def yr(he:QE X e (tF K false ds ds1 J.dr f))(hd:leD J.dsr ds1=true):QS X (.Return (some e) pos) (tFS K J ds ds' (ay f)):=⟨ES he.h hd⟩
def aF(hc:QT X c (tFT K false ds ds1 c1))(ha:QSs X body (tFS K J ds1 ds2 m1))(hb:QSs X wE (tFS K J ds1 ds2 m2)):QS X (.If c body wE pos) (tFS K J ds ds2 (sIf c1 m1 m2)):=⟨JF hc.h ha.h hb.h⟩
def bP(hN:X.N.Nodup)(hi:X.N[i]?=some x)(hx:Loc X.env.scope x)(he:QE X e (tF K false ds ds1 d f))(hds:ds1.set i d=ds')(hl:i<ds1.length)(hk:i∉J.lk)(hs:swapsWith e (some (.Name x pos')) pos.line X.env=pure false)(hf:X.fn x=true\/X.env.scope.names.lookup x=some .local):QS X (.Assign [.Name x pos'] e pos) (tFS K J ds ds' (ao i f)):=⟨ER hN hi hx he.h hds hl hk hs hf⟩
def dE(hN:X.N.Nodup)(hi':X.N[i]?=some x)(hx:X.env.scope.names.lookup x=some .local)(B:BlkOkC X scope ns js)(hc:X.calm=true)(hi:QI X tg iter (tFI K false ds ds1 fi))(hg:∀C cl s₀ H₀ fp,QG (aX X scope ns C cl s₀ H₀ fp) tg (tFG K lk dsi dsi g))(ht:∀C cl s₀ H₀ fp,QTs (aX X scope ns C cl s₀ H₀ fp) ifs (tFT K q dsi dsi c1))(he:∀C cl s₀ H₀ fp,QE (aX X scope ns C cl s₀ H₀ fp) elt (tF K q dsi dsi cd f))(hds:ds1.set i d=ds')(hcap:jr ds1 js dsi=true)(hd:dn d=cd)(hz:d≠0)(hlk:lk=jq js 0)(hl:i<ds1.length)(hk:i∉J.lk)(hsw:swapsWith (.ListComp elt [⟨tg,iter,ifs,0⟩] scope pos) (some (.Name x pos')) ζ.line X.env=pure true)(hs:∀x,foldedSetIterable iter X.env x=pure x):QS X (.Assign [.Name x pos'] (.ListComp elt [⟨tg,iter,ifs,0⟩] scope pos) ζ) (tFS K J ds ds' (ao i (eLC q fi g c1 f js))):=⟨yq hN hi' hx B hc hi.h (fun C cl s₀ H₀ fp=>(hg C cl s₀ H₀ fp).h) (fun C cl s₀ H₀ fp=>(ht C cl s₀ H₀ fp).h) (fun C cl s₀ H₀ fp=>(he C cl s₀ H₀ fp).h) hds hcap hd hz hlk hl hk hsw hs⟩
def eA{c:Nat}{k:Expr}(hN:X.N[i]?=some x)(hv:Vis X.env.scope x)(he:QE X e (tF K false ds ds1 c fe))(hk:QE X k (tF K false ds1 ds2 d2 fk))(h1:ds2[i]?=some d)(hz:d≠0)(hc:dn d=c)(hdb:(x==("__debug__":Str))=false)(hcd:(x==("__classdict__":Str))=false)(ha:∀v,assign (.Subscript (.Name x px) k ζ) X.env v=(do
   let ov <-holding [v] (eval (.Name x px) X.env);let iv <-holding [v,ov] (eval k X.env)
   standAt ζ
   holding [v,ov,iv] (setItem ov iv v)
   release [v,ov,iv] []))(hs:swapsWithSole [.Subscript (.Name x px) k ζ] e pos.line X.env=pure false)(hw:swappedStores [.Subscript (.Name x px) k ζ] e X.env=pure none)(h2:(assignEach [.Subscript (.Name x px) k ζ] X.env).map (·.2)=[assign (.Subscript (.Name x px) k ζ) X.env]):QS X (.Assign [.Subscript (.Name x px) k ζ] e pos) (tFS K J ds ds2 (cE i fk fe)):=⟨Ax hN hv he.h hk.h h1 hz hc hdb hcd ha hs hw h2⟩
def oK(hN:X.N.Nodup)(hi:X.N[i]?=some x)(hx:Loc X.env.scope x)(hds:ds.set i 0=ds')(hl:i<ds.length)(hk:i∉lk)(hf:X.fn x=true\/X.env.scope.names.lookup x=some .local):QG X (.Name x pos) (tFG K lk ds ds' (gN i)):=⟨AG hN hi hx hds hl hk hf⟩
def ib: QGs X [] (gS K lk ds ds gs0):=⟨AE⟩
def cg(h1:QG X e (tFG K lk ds ds1 g))(h2:QGs X es (gS K lk ds1 ds2 gs))(hs:(assignEach (e::es) X.env).map (·.2)=assign e X.env::(assignEach es X.env).map (·.2)):QGs X (e::es) (gS K lk ds ds2 (gsC g gs)):=⟨yz h1.h h2.h hs⟩
def i8(hK:X.K=K)(hc:X.calm=true)(h:QGs X es (gS K lk ds ds1 gs))(hl:∀ts en,(∃en',gs ts en=some en')->ts.length=n)(hn:(assignEach es X.env).length=n)(hst:(assignEach es X.env).findIdx? (·.1)=none):QG X (.Tuple es k pos) (tFG K lk ds ds1 (gT gs)):=⟨Fd hK hc h.h hl hn hst⟩
def bf(hc:X.calm=true)(hi:QI X tg iter (tFI K false ds ds1 fi))(hg:QG X tg (tFG K J.lk ds1 ds2 g))(hb:QSs X body (tFS K { J with dsl:=ds1 } ds2 ds1 m))(hp:PassesOwn (model X.prog X.w) X.A X.env X.xe)(hs:∀x,foldedSetIterable iter X.env x=pure x):QS X (.For tg iter body [] pos) (tFS K J ds ds1 (bT fi g m)):=⟨ET hc hi.h hg.h hb.h hp hs⟩
def cM(hc:QT X c (tFT K false ds ds1 c1))(hb:QSs X body (tFS K { J with dsl:=ds } ds1 ds m))(hp:PassesOwn (model X.prog X.w) X.A X.env X.xe):QS X (.While c body [] pos) (tFS K J ds ds1 (bR c1 m)):=⟨yn hc.h hb.h hp⟩
end
def aV(hK:X.K=K)(hl:QE X l (tF K p ds ds1 d f)):QI X tg l (tFI K p ds ds1 (bt f)):=⟨JM hK hl.h⟩
def df(hg:Gl X "range")(hm:X.mg "range"=none)(ha:QA X [a] (tFA K p ds ds1 sh fa))(hs:aD a=true):QI X tg (.Call (.Name "range" px) [a] [] pos) (tFI K p ds ds1 (bC fa)):=⟨E8 hg hm ha.h hs⟩
def ly(hK:X.K=K)(hg:Gl X "enumerate")(hm:X.mg "enumerate"=none)(ha:QA X [l] (tFA K p ds ds1 sh fa))(hs:starEach [l] X.env=[(false,eval l X.env)]):QI X (.Tuple elts k tp) (.Call (.Name "enumerate" px) [l] [] pos) (tFI K p ds ds1 (iG fa)):=⟨E9 hK hg hm ha.h hs⟩
def dL{T:Str}{n:String}{pt:Pos}(hK:X.K=K)(hg:Gl X "isinstance")(hm:X.mg "isinstance"=none)(hgT:Gl X T)(hmT:X.mg T=none)(hbT:bootBuiltins T=some (.type n))(hT:n∈["int","bool","str","list","tuple","dict"])(he:QE X e (tF K p ds ds1 d1 f))(hnT:T≠"__name__")(hdT:(T==("__debug__":Str))=false)(hs1:starEach [e,.Name T pt] X.env=(false,eval e X.env)::starEach [.Name T pt] X.env)(hs2:starEach [.Name T pt] X.env=(false,eval (.Name T pt) X.env)::starEach [] X.env)(hpl:(backTo pos (starEach [.Name T pt] X.env)).any (·.1)=false):QE X (.Call (.Name "isinstance" px) [e,.Name T pt] [] pos) (tF K p ds ds1 3 (e1 (dh n) f)):=⟨JZ hK hg hm hgT hmT hbT hT he.h hnT hdT hs1 hs2 hpl⟩
section
variable{ds3:List Nat}{d3:Nat}{c:Expr}{f3:ME}{m:MS}{p2:Pos}
def gE(h:QS X st (tFS K J ds ds2 m))(hd:leD ds1 ds2=true):QS X st (tFS K J ds ds1 m):=⟨EQ h.h hd⟩
def wG{op':CmpOp}{g':D->D->Option D}(ho:OpR X (compareOp op) (rF2 K g 3))(ho':OpR X (compareOp op') (rF2 K g' 3))(ha:QE X a (tF K p ds ds0 d1 f1))(hb:QE X b (tF K p ds0 ds1 d2 f2))(hc:QE X c (tF K p ds1 ds1 d3 f3))(hm:lastMarks [op,op'] [b,c]=false):QT X (.Compare a [op,op'] [b,c] pos) (tFT K p ds ds1 (tV (jM g g' f1 f2 f3))):=⟨At ho ho' ha.h hb.h hc.h hm⟩
def lx: QO X none (tFO K p ds ds mE):=⟨E3⟩
def lw(h:QE X e (tF K p ds ds1 d f)):QO X (some e) (tFO K p ds ds1 (j8 f)):=⟨EY h.h⟩
variable{lo hi:MO}
def kg{g:D->Option Int->Option Int->Option D}{elo ehi:Option Expr}(hr:SlR X (rFs K g d))(he:QE X e (tF K p ds ds1 d1 f))(hl:QO X elo (tFO K p ds1 ds2 lo))(hu:QO X ehi (tFO K p ds2 ds3 hi)):QE X (.Subscript e (.Slice elo ehi none p2) pos) (tF K p ds ds3 d (eSl g f lo hi)):=⟨AH hr he.h hl.h hu.h⟩
end
section
variable{c k:Expr}{Q:VK} 
def lA: QE X (.Dict [] [] pos) (tF K p ds ds 3 ja):=⟨Fk⟩
def lC(hu:X.A.units+1<cLine)(ho:QE X o (tF K p ds ds1 d1 f1))(hi:QE X k (tF K p ds1 ds2 d2 f2))(hs:qv k):QE X (.Subscript o k pos) (tF K p ds ds2 0 (e2 lJ f1 f2)):=⟨Fo hu ho.h hi.h hs⟩
def bz(hu:X.A.units+1<cLine)(hN:X.N[i]?=some x)(hv:Vis X.env.scope x)(h1:ds1[i]?=some 1)(hi:QE X k (tF K p ds ds1 d1 f))(hs:qv k)(hd:(x==("__debug__":Str))=false)(hcd:(x==("__classdict__":Str))=false):QE X (.Subscript (.Name x px) k pos) (tF K p ds ds1 0 (bi i f)):=⟨AL hu hN hv h1 hi.h hs hd hcd⟩
def sT(hu:X.A.units+1<cLine)(ha:QE X a (tF K p ds ds1 d1 f1))(hb:QE X b (tF K p ds1 ds2 d2 f2))(h1:behindInMarks .In b=false):QT X (.Compare a [.In] [b] pos) (tFT K p ds ds2 (tV (e2 dIn f1 f2))):=⟨Jx hu ha.h hb.h h1⟩
def gC(hu:X.A.units+1<cLine)(ha:QE X a (tF K p ds ds1 d1 f1))(hb:QE X b (tF K p ds1 ds2 d2 f2))(h1:behindInMarks .NotIn b=false):QT X (.Compare a [.NotIn] [b] pos) (tFT K p ds ds2 (tV (e2 cH f1 f2))):=⟨EF hu ha.h hb.h h1⟩
def bx(hu:X.A.units+1<cLine)(hN:X.N[i]?=some x)(hv:Vis X.env.scope x)(he:QE X e (tF K false ds ds1 0 fe))(hk:QE X k (tF K false ds1 ds2 d2 fk))(h1:ds2[i]?=some 1)(hdb:(x==("__debug__":Str))=false)(hcd:(x==("__classdict__":Str))=false)(hs:swapsWith e (some (.Subscript (.Name x px) k ζ)) pos.line X.env=pure false):QS X (.Assign [.Subscript (.Name x px) k ζ] e pos) (tFS K J ds ds2 (bo i fk fe)):=⟨Ay hu hN hv he.h hk.h h1 hdb hcd hs⟩
end
section
variable{c k:Expr}{j:Nat}{Q:VK} 
def lB{keys:List (Option Expr)}{values:List Expr}(h:QPs X pos keys values (trs K p ds fs))(hall:keys.all (·.isSome)=true)(hl:keys.length=values.length)(h0:keys≠[])(h15:keys.length<=15):QE X (.Dict keys values pos) (tF K p ds ds 1 (gi fs)):=⟨Fm h.h hall hl h0 h15⟩
def nC: QPs X pos [] [] (trs K p ds []):=⟨JH⟩
def gH{k v:Expr}{ks:List (Option Expr)}{vs:List Expr}{fv:ME}(hk:QE X k (tF K p ds ds 3 fk))(hv:QE X v (tF K p ds ds 0 fv))(hr:QPs X pos ks vs (trs K p ds fs)):QPs X pos (some k::ks) (v::vs) (trs K p ds ((fk,fv)::fs)):=⟨EW hk.h hv.h hr.h⟩
end
def lz{T1 T2:Str}{n1 n2:String}{p1 p2:Pos}{kk:Nat}(hK:X.K=K)(hg:Gl X "isinstance")(hm:X.mg "isinstance"=none)(hg1:Gl X T1)(hm1:X.mg T1=none)(hb1:bootBuiltins T1=some (.type n1))(hg2:Gl X T2)(hm2:X.mg T2=none)(hb2:bootBuiltins T2=some (.type n2))(hT:∀T∈[n1,n2],T∈vR)(he:QE X e (tF K p ds ds1 d1 f))(hn1:T1≠"__name__")(hd1:(T1==("__debug__":Str))=false)(hn2:T2≠"__name__")(hd2:(T2==("__debug__":Str))=false)(hs:aD e=true):QE X (.Call (.Name "isinstance" px) [e,.Tuple [.Name T1 p1,.Name T2 p2] kk tp] [] pos) (tF K p ds ds1 3 (e1 (fE [n1,n2]) f)):=⟨Fi hK hg hm hg1 hm1 hb1 hg2 hm2 hb2 hT he.h hn1 hd1 hn2 hd2 hs⟩
section
variable{m:Nat}{mp:MP}{Q:VK}
def i6(hN:X.N[i]?=some x)(hv:Vis X.env.scope x)(hd:(x==("__debug__":Str))=false)(hcd:(x==("__classdict__":Str))=false):QE X (.Name x px) (tP K true ds ds i 0 (fR i)):=⟨EV hN hv hd hcd⟩
def ke(hK:X.K=K)(hd:ds2[i]?=some d)(ho:QE X o (tP K p1 ds ds1 i m mp))(hb:QE X b (tF K p2 ds1 ds2 d1 f))(hz:dns m d≠0)(hpu:p2=true\/m=0)(hs:eE b):QE X (.Subscript o b pos) (tP K (p1&&p2) ds ds2 i (m+1) (pIx i mp f)):=⟨JG hK hd ho.h hb.h hz hpu hs⟩
def qK(hK:X.K=K)(hd1:ds1[i]?=some d)(hd:ds2[i]?=some d)(ho:QE X o (tP K p1 ds ds1 i m mp))(he:QE X e (tF K true ds1 ds2 c f))(hz:dns m d≠0)(hc:dn (dns m d)=c)(η:attributeBase o "append" X.env (eval o X.env)=eval o X.env)(hfew:((backTo ω (starEach [e] X.env)).all (fun x=>!x.1)&&(backToKw ω (keywordEach [] X.env)).all (fun x=>x.1.isSome)&&decide (([e]:List Expr).length+([]:List Keyword).length+(if([]:List Keyword).isEmpty then 0 else 1)<30))=true)(θ:(μ.endLine==ω.line)=true)(hs:starEach [e] X.env=[(false,eval e X.env)])(ι:(backTo ω (starEach [] X.env)).any (·.1)=false):QE X (.Call (.Attribute o "append" μ) [e] [] ω) (tF K false ds ds2 3 (gj i mp f)):=⟨Fq hK hd1 hd ho.h he.h hz hc η hfew θ hs ι⟩
def yD(hK:X.K=K)(hd1:ds1[i]?=some d)(ho:QE X o (tP K p1 ds ds1 i m mp))(hz:dns m d≠0)(η:attributeBase o "clear" X.env (eval o X.env)=eval o X.env)(θ:(μ.endLine==ω.line)=true):QE X (.Call (.Attribute o "clear" μ) [] [] ω) (tF K false ds ds1 3 (jb i mp)):=⟨Fp hK hd1 ho.h hz η θ⟩
end
section
variable{k:Expr}{Q:VK}{pos2 py:Pos}
def yA(hK:X.K=K)(he:QE X e (tF K p ds ds1 d1 f1))(hk:QE X k (tF K p ds1 ds2 d2 f2)):QE X (.Subscript e (.Slice none none (some k) pos2) pos) (tF K p ds ds2 1 (e2 sd f1 f2)):=⟨Fg hK he.h hk.h⟩
end
section
variable{Q:VK} 
def tm(hK:X.K=K)(ha:QE X a (tF K p ds ds1 d f1))(hb:QE X b (tF K p ds1 ds2 d2 f2))(hs:eE b)(hz:d≠0):QE X (.Subscript a b pos) (tF K p ds ds2 (dn d) (e2 ixA f1 f2)):=⟨JX hK ha.h hb.h hs hz⟩
end
def Fun.okQ{mg:Str->Option Value}{base:Heap}{qual:Str}{f:Addr}{fd:FuncData}{N:List Str}{b:MS}
  (F:Fun K x qual st f fd) (S:FnScope N ps (ak st)) (hl:dps.length=ps.length) (hn:N.length-dps.length=n) (hJ:J=⟨pX dps,dps++List.replicate n 0,dr,[]⟩) (hd:ds0=dps++List.replicate n 0)
  (hb:∀(cdv:Value) (A:Around) (outer:List Env) (s:Shared) (H:Hp) (E:XK),Room k (A.deeper (envOfC qual (ak st) s.heap.objs.size f cdv)) ->
   QSs (lK CX0 P w K mg base N qual (ak st) f cdv A outer s H E).nox (cr st) (tFS K J ds0 ds0 b)):FnOk P w K mg base CX0 (k+1) f fd ps (spF K dps dr (fnF n dps b)):=by
 subst hJ hd;exact F.ok S (fun vs H Q E h=>DJ hl h) fun cdv A outer s H vs Q E hr h=>⟨_,(hb cdv A outer s H E hr).h,E5 hn h⟩
def IW(F:List D->Option (D×En)):Prop:=∀ns:List Int,ns.length<=63->∃ψ,F [.list (ns.map .int)]=some (.bool true,ψ)
def nV(K:zb7):Sp:=fun vs H Q _=>∃(a:Addr) (ns:List Int),vs=[.ref a]/\SqL K H a (ns.map V.int)/\(∀b,H b=none\/∃o xs,H b=some (.frz o (.lst xs)))/\ns.length<=63/\∀H':Hp,Q (.bl true) H'
theorem mS{K:zb7}{O:AS}{H:Hp}:∀ns:List Int,Ows K O H (ns.map .int) 0 (ns.map V.int) NoA
 |[]=>rfl
 |n::r=>⟨.int n,r.map V.int,NoA,NoA,rfl,fun _ z=>z,fun _ z=>z,fun _ z=>z.elim,rfl,mS r⟩
def IV{F:List D->Option (D×En)}(h:IW F){Q:VK}{E:XK}(q:nV K vs H Q E):spF K [0] dr F vs H Q E:=by
 obtain⟨a,ns,rfl,hs,_,hl,q⟩:=q;obtain⟨ψ,e⟩:=h ns hl;have fz:FzL K (fun _=>False) H a (ns.map V.int):=by
  rcases hs with hs|hs
  ·exact .inl ⟨hs,fun z=>z⟩
  ·exact .inr fun H'=>.inr hs
 have eO:Own (fun _=>NoA) NoA=(fun _=>False):=e7 fun b=>⟨fun z=>z.elim (fun⟨_,z⟩=>z) fun z=>z,fun z=>z.elim⟩;refine⟨NoA,[.list (ns.map .int)],fun _=>NoA,.bool true,ψ,⟨fun i t hi=>?_,fun _ _ _ z=>z.elim,fun _ _ z=>z.elim,fun b z=>?_,rfl,rfl⟩,e,fun v H' R' Fr _ o=>?_⟩
 ·cases i with
  |zero=>
   have:t=.list (ns.map .int):=by
    have h2:some (some (PyData.list (ns.map .int)))=some (some t):=hi;injection h2 with h3
    injection h3 with h4
    exact h4.symm
   subst this;refine⟨.ref a,0,rfl,rfl,?_⟩;rw[eO];exact⟨a,ns.map V.int,rfl,.inl ⟨rfl,fz,mS ns⟩⟩
  |succ i=>simp at hi
 ·rw[eO]at z;exact z.elim
 ·rw[show v=.bl true from o];exact q H'
inductive All2(r:D->D->Prop):List D->List D->Prop
 |nil:All2 r [] []
 |cons {a b:D} {as bs:List D} (h:r a b) (t:All2 r as bs):All2 r (a::as) (b::bs)
section
variable{c:MT}{b:MS}  
theorem jY:∀{n m:Nat} {en:En} {fl:Fl},whN c b n en=some fl->n<=m->whN c b m en=some fl
 |0,_,_,_,h,_=>by cases h
 |n+1,0,_,_,_,h=>by omega
 |n+1,m+1,en,fl,h,hm=>by
  unfold whN at h ⊢;obtain⟨r,h1,h⟩:=zaa.mp h;rw[h1];show(if r.1=true then _ else _)=_;by_cases hr:r.1=true
  ·rw[if_pos hr]at h ⊢;obtain⟨f1,h2,h⟩:=zaa.mp h;rw[h2];cases f1 with
   |nx e=>exact jY (n:=n) (m:=m) h (by omega)
   |ct e=>exact jY (n:=n) (m:=m) h (by omega)
   |rt t e=>exact h
  ·rw[if_neg hr]at h ⊢;exact h
def iX(h:whN c b n en=some fl):bR c b en=some fl:=by
 have q:∃n fl,whN c b n en=some fl:=⟨n,fl,h⟩;unfold bR;rw[dif_pos q];have h2:=q.choose_spec.choose_spec;have h3:=jY h (Nat.le_max_left n q.choose);have h4:=jY h2 (Nat.le_max_right n q.choose);rw[h3]at h4;exact h4.symm
def ur(h:c en=some (false,en1)):bR c b en=some (.nx en1):=by
 refine iX (n:=1) ?_;unfold whN;rw[h];rfl
def ut(h:c en=some (true,en1))(h1:b en1=some (.nx en2))(h2:bR c b en2=some fl):bR c b en=some fl:=by
 obtain⟨n,h3⟩:=jo h2;refine iX (n:=n+1) ?_;unfold whN;rw[h];show(b en1).bind _=_;rw[h1];exact h3
theorem vg{g:MG}{c:MT}{f:ME}(I:Nat->En->Prop)(r:D->D->Prop){N:Nat}(hs:∀n t en,n<N->I n en->∃en1 en2 q en3,g t en=some en1/\c en1=some (true,en2)/\f en2=some (q,en3)/\I (n+1) en3/\r t q):
  ∀(ts acc:List D) (n:Nat) (en:En),I n en->n+ts.length<=N->acc.length+ts.length<=sizeLine->∃us en',lcF g c f ts acc en=some (acc++us,en')/\I (n+ts.length) en'/\All2 r ts us
 |[],acc,n,en,hi,_,_=>⟨[],en,by rw[zbt];rfl,hi,.nil⟩
 |t::ts,acc,n,en,hi,hN,hl=>by
  have hN':n+(ts.length+1)<=N:=hN;obtain⟨en1,en2,q,en3,h1,h2,h3,h4,h5⟩:=hs n t en (by omega) hi;have hl':acc.length+(ts.length+1)<=sizeLine:=hl;obtain⟨us,en',h6,h7,h8⟩:=vg I r hs ts (acc++[q]) (n+1) en3 h4 (by omega) (by rw[zae];show acc.length+1+_<=_;omega);refine⟨q::us,en',?_,by rw[show n+(t::ts).length=n+1+ts.length by show n+(ts.length+1)=_;omega];exact h7,.cons h5 h8⟩;unfold lcF;rw[h1];show(c en1).bind _=_;rw[h2];show(f en2).bind _=_;rw[h3];show(if acc.length<sizeLine then _ else _)=_;rw[if_pos (by omega),h6];simp
theorem All2.ex{α:Type}{h:α->D}{Q:α->Prop}:∀{ts us:List D},All2 (fun _ q=>∃o,q=h o/\Q o) ts us->∃os:List α,us=os.map h/\os.length=ts.length/\∀o∈os,Q o
 |_,_,.nil=>⟨[],rfl,rfl,fun _ z=>by cases z⟩
 |_,_,.cons ⟨o,e,q⟩ t=>by
  obtain⟨os,e1,e2,e3⟩:=All2.ex t;refine⟨o::os,by rw[e,e1];rfl,by show os.length+1=_+1;rw[e2],fun x hx=>?_⟩;rcases zay.mp hx with rfl|hx
  ·exact q
  ·exact e3 x hx
theorem ia{c:MT}{f:ME}{p:D->Bool}{F:D->D}{rest:En}:∀(ts acc:List D) (o:Option D),(∀t∈ts,c (some t::rest)=some (p t,some t::rest))->(∀t∈ts,p t=true->f (some t::rest)=some (F t,some t::rest))->acc.length+ts.length<=sizeLine ->
  ∃o',lcF (gN 0) c f ts acc (o::rest)=some (acc++(ts.filter p).map F,o'::rest)
 |[],acc,o,_,_,_=>⟨o,by simp[lcF]⟩
 |t::ts,acc,o,hc,hf,hl=>by
  have hl':acc.length+(ts.length+1)<=sizeLine:=hl;cases hp:p t with
  |true=>
   obtain⟨o',h⟩:=ia (c:=c) (f:=f) (p:=p) (F:=F) ts (acc++[F t]) (some t) (fun x hx=>hc x (zaj _ hx)) (fun x hx=>hf x (zaj _ hx)) (by rw[zae];show acc.length+1+_<=_;omega);refine⟨o',?_⟩;unfold lcF;show((c (some t::rest)).bind _)=_;rw[hc t zaq,hp];show((f (some t::rest)).bind _)=_;rw[hf t zaq hp];show(if acc.length<sizeLine then _ else _)=_;rw[if_pos (by omega)]
   dsimp only
   rw[h,zbv hp];simp
  |false=>
   obtain⟨o',h⟩:=ia (c:=c) (f:=f) (p:=p) (F:=F) ts acc (some t) (fun x hx=>hc x (zaj _ hx)) (fun x hx=>hf x (zaj _ hx)) (by omega);refine⟨o',?_⟩;unfold lcF;show((c (some t::rest)).bind _)=_;rw[hc t zaq,hp];show lcF (gN 0) c f ts acc (some t::rest)=_;rw[h,zbu (by rw[hp];decide)]
def ve{F:D->D}{rest:En}(ts acc:List D)(o:Option D)(hf:∀t∈ts,f (some t::rest)=some (F t,some t::rest))(hl:acc.length+ts.length<=sizeLine):
  ∃o',lcF (gN 0) cY f ts acc (o::rest)=some (acc++ts.map F,o'::rest):=by
 obtain⟨o',h⟩:=ia (c:=cY) (f:=f) (p:=fun _=>true) (F:=F) ts acc o (fun _ _=>rfl) (fun t ht _=>hf t ht) hl;rw[List.filter_eq_self.mpr (fun _ _=>rfl)]at h;exact⟨o',h⟩
def Az{g:MG}{b:MS}(I:Nat->En->Prop)(hs:∀i t en,ts[i]?=some t->I i en->∃en1 en2,g t en=some en1/\(b en1=some (.nx en2)\/b en1=some (.ct en2))/\I (i+1) en2)(h0:I 0 en):
  ∃en',cy g b ts en=some (.nx en')/\I ts.length en':=by
 suffices ∀(us:List D) (i:Nat) (en:En),ts.drop i=us->i<=ts.length->I i en->∃en',cy g b us en=some (.nx en')/\I ts.length en' from this ts 0 en rfl (zbk _) h0
 intro us
 induction us with
 |nil=>
  intro i en hu hi h;refine⟨en,rfl,?_⟩
  have:ts.length-i=0:=by rw[<-zaF,hu];rfl
  rw[show ts.length=i by omega];exact h
 |cons t us ih=>
  intro i en hu hi h;have ht:ts[i]?=some t:=by
   have:(ts.drop i)[0]?=some t:=by rw[hu];rfl
   rw[zbG]at this;exact this
  obtain⟨en1,en2,h1,h2,h3⟩:=hs i t en ht h;have hl:i<ts.length:=(zah.mp ht).1;have hd:ts.drop (i+1)=us:=by rw[<-List.drop_drop,hu];rfl
  obtain⟨en',h4,h5⟩:=ih (i+1) en2 hd hl h3;refine⟨en',?_,h5⟩;unfold cy;rw[h1];show(b en1).bind _=_;rcases h2 with h2|h2
  ·rw[h2];exact h4
  ·rw[h2];exact h4
end
section
variable{c:MT}{b:MS}{t1 t2 u:D}{x y:Bool}{F:List D->Option (D×En)}{as:List (D ⊕ Nat)}{ψ:En} 
def aI(h1:m1 en=some (.nx en1))(h2:m2 en1=some fl):aj m1 m2 en=some fl:=by unfold aj;rw[h1];exact h2
def jL(h1:m1 en=some (.rt t en1)):aj m1 m2 en=some (.rt t en1):=by unfold aj;rw[h1];rfl
def fF{b:Bool}(h1:c en=some (b,en1))(hb:b=true)(h2:m1 en1=some fl):sIf c m1 m2 en=some fl:=by unfold sIf;rw[h1,hb];exact h2
def lD{b:Bool}(h1:c en=some (b,en1))(hb:b=false)(h2:m2 en1=some fl):sIf c m1 m2 en=some fl:=by unfold sIf;rw[h1,hb];exact h2
def cG(h:f en=some (t,en1))(he:en1.set i (some t)=en2):ao i f en=some (.nx en2):=by unfold ao;rw[h,<-he];rfl
def yG(h:f en=some (t,en1)):bI f en=some (.nx en1):=by unfold bI;rw[h];rfl
def oQ(h:f en=some (t,en1)):ay f en=some (.rt t en1):=by unfold ay;rw[h];rfl
def br(h1:f1 en=some (t1,en1))(h2:f2 en1=some (t2,en2))(h:g t1 t2=some u):e2 g f1 f2 en=some (u,en2):=by
 unfold e2;rw[h1];show(f2 en1).bind _=_;rw[h2];show(g t1 t2).map _=_;rw[h];rfl
def tz{b:Bool}(h1:c1 en=some (b,en1))(hb:b=true):bOr c1 c2 en=some (true,en1):=by unfold bOr;rw[h1,hb];rfl
def oR{b:Bool}(h1:c1 en=some (b,en1))(hb:b=false)(h2:c2 en1=some r):bOr c1 c2 en=some r:=by unfold bOr;rw[h1,hb];exact h2
def vy{b:Bool}(h1:c1 en=some (b,en1))(hb:b=true)(h2:c2 en1=some r):cA c1 c2 en=some r:=by unfold cA;rw[h1,hb];exact h2
def vz{b:Bool}(h1:c1 en=some (b,en1))(hb:b=false):cA c1 c2 en=some (false,en1):=by unfold cA;rw[h1,hb];rfl
def mK{b:Bool}(h:f en=some (.bool b,en1)):tV f en=some (b,en1):=by unfold tV;rw[h];rfl
def mL(h1:fa en=some (as,en1))(h2:dP as en1=some ts)(h:F ts=some (t,ψ))(hw:wb as ψ en1=en2):am F fa en=some (t,en2):=by
 subst hw;unfold am;rw[h1];show(dP as en1).bind _=_;rw[h2];show(F ts).map _=_;rw[h];rfl
def wJ{g:List D->Option D}(h1:fa en=some (as,en1))(h2:vals as=some ts)(h:g ts=some t):eN g fa en=some (t,en1):=by
 unfold eN;rw[h1];show(vals as).bind _=_;rw[h2];show(g ts).map _=_;rw[h];rfl
def i9{r:MA}(h1:f en=some (t,en1))(h2:r en1=some (as,en2)):ac f r en=some (.inl t::as,en2):=by
 unfold ac;rw[h1];show(r en1).map _=_;rw[h2];rfl
def tD(h1:fa en=some (as,en1))(h2:vals as=some ts)(h:ts.length<=sizeLine):bh fa en=some (.list ts,en1):=by
 unfold bh;rw[h1];show(vals as).bind _=_;rw[h2];exact if_pos h
def Kj(h1:fa en=some (as,en1))(h2:vals as=some ts)(h:ts.length<=sizeLine):da fa en=some (.tuple ts,en1):=by
 unfold da;rw[h1];show(vals as).bind _=_;rw[h2];exact if_pos h
def yH(h0:en[i]?=some (some (.list ts)))(h1:f en=some (t,en1))(h2:en1[i]?=some (some (.list us)))(h:us.length<sizeLine)(he:en1.set i (some (.list (us++[t])))=en2):cc i f en=some (.none,en2):=by
 unfold cc;rw[h0];show(f en).bind _=_;rw[h1];show(match (en1[i]?).join with
  |some (.list ts)=>if ts.length<sizeLine then some (PyData.none,en1.set i (some (.list (ts++[t]))))else none
  |_=>none)=_
 rw[h2,<-he];exact if_pos h
def Dz{g:MG}{ex:En}(h1:fi en=some (ts,en1))(h2:lcF g c f ts [] (cI js en1)=some (us,ex))(he:(if q then en1 else wbB js ex en1)=en2):eLC q fi g c f js en=some (.list us,en2):=by
 unfold eLC;rw[h1];show(lcF g c f ts [] (cI js en1)).map _=_;rw[h2,<-he];rfl
def Kl{g:MG}(h1:fi en=some (ts,en1))(h2:cy g b ts en1=some fl):bT fi g b en=some fl:=by
 unfold bT;rw[h1];exact h2
def dH:100<=sizeLine:=by rw[sizeLine_eq];decide
def eQ(h:b (ts.map some++List.replicate n none)=some (.rt t en)):fnF n dps b ts=some (t,msk dps en):=by
 unfold fnF;rw[h];rfl
end
namespace Pen2
def gQ:MS:=(ay (gi [((eC (.str "script")),(aa 0)),((eC (.str "at")),(aa 1)),((eC (.str "left")),(eC (.int 0)))]))
def cJ:List D->Option (D×En):=fnF 0 [0,0] gQ
def gw:MS:=(aj (ao 2 (e2 bH (e2 cu (e2 aY (e2 aY (e2 bH (aa 0) (eC (.int 2147483629))) (e2 cu (eC (.int 40503)) (aa 1))) (eC (.int 24691))) (eC (.int 48271))) (eC (.int 2147483647))))
 (aj (ao 3 (e2 bH (e2 aY (e2 aY (e2 cu (aa 2) (aa 2)) (e2 cu (eC (.int 69621)) (aa 2))) (aa 1)) (eC (.int 2147483629))))
 (ay (e2 cU (e2 bH (e2 aY (e2 aY (e2 cu (aa 3) (aa 3)) (e2 cu (eC (.int 16807)) (aa 3))) (e2 cu (eC (.int 31)) (aa 1))) (eC (.int 1073741789))) (eC (.int 64))))))
def cR:List D->Option (D×En):=fnF 2 [0,0] gw
def kL:MS:=(aj (ao 2 (bi 0 (eC (.str "at"))))
 (aj (ao 3 (bi 0 (eC (.str "script"))))
 (aj (sIf (tV (e2 eqD (bi 0 (eC (.str "left"))) (eC (.int 0)))) (aj (bo 0 (eC (.str "at")) (e2 aY (aa 2) (eC (.int 1))))
 (aj (ao 4 (eC (.int 0)))
 (aj (sIf (tV (e2 gtI (eN bp (ac (aa 3) ah)) (eC (.int 0)))) (ao 4 (e2 ixA (aa 3) (e2 bH (aa 2) (eN bp (ac (aa 3) ah))))) aS)
 (aj (sIf (bOr (tV (e2 geI (aa 2) (eN bp (ac (aa 3) ah)))) (tV (e2 ltI (eN lP (ac (aa 4) ah)) (e2 sf (eC (.int 10)) (eC (.int 18)))))) (ay (e2 bH (am cR (ac (aa 4) (ac (aa 2) ah))) (aa 1))) aS)
 (bo 0 (eC (.str "left")) (eN lP (ac (aa 4) ah))))))) aS)
 (aj (ao 5 (e2 bH (bi 0 (eC (.str "left"))) (aa 1)))
 (aj (bo 0 (eC (.str "left")) (e2 cU (bi 0 (eC (.str "left"))) (aa 1)))
 (ay (aa 5)))))))
def ar:List D->Option (D×En):=fnF 4 [1,0] kL
def penD(ns:List Int)(k l:Int):D:=.dict [(.str "script",.list (ns.map .int)),(.str "at",.int k),(.str "left",.int l)]
def sD{c k:Int}(h0:0<=k)(h1:k<=1000000000):∃r,cR [.int c,.int k]=some (.int r,[none,none])/\0<=r:=by
 have a0:0<=c % 2147483629:=by omega
 have a1:c % 2147483629<2147483629:=by omega
 generalize g1:(c % 2147483629+40503*k+24691)*48271 % 2147483647=x;have x0:0<=x:=by omega
 have x1:x<2147483647:=by omega
 generalize g2:(x*x+69621*x+k) % 2147483629=y;have y0:0<=y:=by omega
 have y1:y<2147483629:=by omega
 refine⟨(y*y+16807*y+31*k) % 1073741789 / 64,?_,by omega⟩;have c1:CMul 40503 k:=.inl (by decide);have c2:CMul (c % 2147483629+40503*k+24691) 48271:=.inr (by decide);have c3:CMul x x:=.inl (by constructor<;>omega);have c4:CMul 69621 x:=.inl (by decide);have c5:CMul y y:=.inl (by constructor<;>omega);have c6:CMul 16807 y:=.inl (by decide);have c7:CMul 31 k:=.inl (by decide);have c8:∀z,hC z 64:=fun z=>by unfold hC;decide
 simp[cR,fnF,gw,aj,ao,ay,e2,aa,eC,bH,cu,aY,cU,iF,c1,c2,c3,c4,c5,c6,c7,c8,g1,g2,msk]
def take_ok{ns:List Int}{k l m:Int}(h0:0<=k)(h1:k<=1000000000)(h2:0<=l)(h3:0<m)(h4:m<1073741824):
  ∃r k' l',ar [penD ns k l,.int m]=some (.int r,[some (penD ns k' l'),none])/\0<=r/\r<m/\k<=k'/\k'<=k+1/\0<=l':=by
 have cd:∀z,hC z m:=fun z=>⟨h3,h4⟩;have cp:ms 10 18:=by unfold ms;decide
 have md:∀z,bH (.int z) (.int m)=some (.int (z % m)):=fun z=>if_pos h3;have dv:∀z,cU (.int z) (.int m)=some (.int (z / m)):=fun z=>if_pos (cd z);have last:∀(k' b:Int) (x y z:Option D),(aj (ao 5 (e2 bH (bi 0 (eC (.str "left"))) (aa 1)))
   (aj (bo 0 (eC (.str "left")) (e2 cU (bi 0 (eC (.str "left"))) (aa 1)))
   (ay (aa 5)))) [some (penD ns k' b),some (.int m),x,y,z,none]=some (.rt (.int (b % m)) [some (penD ns k' (b / m)),some (.int m),x,y,z,some (.int (b % m))]):=by
  intro k' b x y z;refine aI (en1:=[some (penD ns k' b),some (.int m),x,y,z,some (.int (b % m))]) (cG (br (t1:=.int b) (t2:=.int m) rfl rfl (md b)) rfl) (aI (en1:=[some (penD ns k' (b / m)),some (.int m),x,y,z,some (.int (b % m))]) ?_ rfl);unfold bo;rw[br (t1:=.int b) (t2:=.int m) (f1:=bi 0 (eC (.str "left"))) (f2:=aa 1) (g:=cU) (en:=[some (penD ns k' b),some (.int m),x,y,z,some (.int (b % m))]) (en1:=[some (penD ns k' b),some (.int m),x,y,z,some (.int (b % m))]) (en2:=[some (penD ns k' b),some (.int m),x,y,z,some (.int (b % m))]) rfl rfl (dv b)];rfl
 by_cases hl:l=0
 ·subst hl;by_cases hn:ns.length=0
  ·have hns:ns=[]:=za7.mp hn;subst hns;obtain⟨r,e,hr⟩:=sD (c:=0) h0 h1;refine⟨r % m,k+1,0,?_,zba _ (by omega),zbb _ h3,by omega,by omega,by omega⟩;refine eQ (en:=[some (penD [] (k+1) 0),some (.int m),some (.int k),some (.list []),some (.int 0),none]) (aI rfl (aI rfl (jL (fF (b:=true) rfl rfl (aI (en1:=[some (penD [] (k+1) 0),some (.int m),some (.int k),some (.list []),none,none]) rfl (aI rfl (aI rfl (jL (fF (b:=true) (tz (b:=decide ((0:Int)<=k)) rfl (zaB h0)) rfl (oQ (br (en1:=[some (penD [] (k+1) 0),some (.int m),some (.int k),some (.list []),some (.int 0),none]) (t2:=.int m) (mL (as:=[.inl (.int 0),.inl (.int k)]) (en1:=[some (penD [] (k+1) 0),some (.int m),some (.int k),some (.list []),some (.int 0),none]) rfl rfl e rfl) rfl (md r))))))))))))
  ·obtain⟨j,ej⟩:∃j:Nat,ixN ns.length (k % ns.length)=some j/\j<ns.length:=by
    have q1:0<=k % (ns.length:Int):=zba _ (by omega);have q2:k % (ns.length:Int)<ns.length:=zbb _ (by omega);exact⟨(k % (ns.length:Int)).toNat,by unfold ixN;rw[if_pos q1,if_pos q2],by omega⟩
   obtain⟨c,ec⟩:∃c,ns[j]?=some c:=⟨_,zak ej.2⟩;have at1:ixA (.list (ns.map .int)) (.int (k % ns.length))=some (.int c):=by
    show atI _ _=_;unfold atI;rw[zad,ej.1];show(ns.map PyData.int)[j]?=_;rw[zao,ec];rfl
   have hn1:(0:Int)<ns.length:=by omega
   have len:bp [.list (ns.map .int)]=some (.int ns.length):=by show some (PyData.int (ns.map PyData.int).length)=_;rw[zad]
   have ml:bH (.int k) (.int ns.length)=some (.int (k % ns.length)):=if_pos hn1;obtain⟨r,e,hr⟩:=sD (c:=c) h0 h1;obtain⟨b,ab,b0⟩:∃b,lP [.int c]=some (.int b)/\0<=b:=⟨if c<0 then -c else c,rfl,by split<;>omega⟩;have pw:sf (.int 10) (.int 18)=some (.int 1000000000000000000):=by
    show(if ms 10 18 then some (PyData.int (10 ^ Int.toNat 18))else none)=_;rw[if_pos cp];rfl
   have ln:∀(x y:Option D) (p:D),(eN bp (ac (aa 3) ah)) [some p,some (.int m),x,some (.list (ns.map .int)),y,none]=some (.int ns.length,[some p,some (.int m),x,some (.list (ns.map .int)),y,none]):=fun x y p=>wJ rfl rfl len;have pre:∀(x y:Option D) {m2:MS} {fl:Fl},m2 [some (penD ns (k+1) 0),some (.int m),some (.int k),some (.list (ns.map .int)),some (.int c),none]=some fl->(aj (bo 0 (eC (.str "at")) (e2 aY (aa 2) (eC (.int 1))))
 (aj (ao 4 (eC (.int 0)))
 (aj (sIf (tV (e2 gtI (eN bp (ac (aa 3) ah)) (eC (.int 0)))) (ao 4 (e2 ixA (aa 3) (e2 bH (aa 2) (eN bp (ac (aa 3) ah))))) aS) m2))) [some (penD ns k 0),some (.int m),some (.int k),some (.list (ns.map .int)),none,none]=some fl:=by
    intro x y m2 fl h;refine aI (en1:=[some (penD ns (k+1) 0),some (.int m),some (.int k),some (.list (ns.map .int)),none,none]) rfl (aI (en1:=[some (penD ns (k+1) 0),some (.int m),some (.int k),some (.list (ns.map .int)),some (.int 0),none]) rfl (aI ?_ h));exact fF (mK (br (ln _ _ _) rfl rfl)) (zaB hn1) (cG (br rfl (br rfl (ln _ _ _) ml) at1) rfl)
   by_cases hq:(ns.length:Int)<=k\/b<1000000000000000000
   ·refine⟨r % m,k+1,0,?_,zba _ (by omega),zbb _ h3,by omega,by omega,by omega⟩;refine eQ (en:=[some (penD ns (k+1) 0),some (.int m),some (.int k),some (.list (ns.map .int)),some (.int c),none]) (aI rfl (aI rfl (jL (fF (b:=true) rfl rfl (pre none none (jL (fF (en1:=[some (penD ns (k+1) 0),some (.int m),some (.int k),some (.list (ns.map .int)),some (.int c),none]) (b:=true) ?_ rfl (oQ (br (en1:=[some (penD ns (k+1) 0),some (.int m),some (.int k),some (.list (ns.map .int)),some (.int c),none]) (t2:=.int m) (mL (as:=[.inl (.int c),.inl (.int k)]) (en1:=[some (penD ns (k+1) 0),some (.int m),some (.int k),some (.list (ns.map .int)),some (.int c),none]) rfl rfl e rfl) rfl (md r))))))))));by_cases hq2:(ns.length:Int)<=k
    ·exact tz (mK (br rfl (ln _ _ _) rfl)) (zaB hq2)
    ·have hq3:=hq.resolve_left hq2;exact oR (mK (br rfl (ln _ _ _) rfl)) (zaA hq2) (mK (br (wJ rfl rfl ab) (br rfl rfl pw) (congrArg (fun q=>some (PyData.bool q)) (zaB hq3))))
   ·have hq1:¬(ns.length:Int)<=k:=fun z=>hq (.inl z);have hq2:¬b<1000000000000000000:=fun z=>hq (.inr z);refine⟨b % m,k+1,b / m,?_,zba _ (by omega),zbb _ h3,by omega,by omega,Int.ediv_nonneg b0 (by omega)⟩;refine eQ (aI rfl (aI rfl (aI (en1:=[some (penD ns (k+1) b),some (.int m),some (.int k),some (.list (ns.map .int)),some (.int c),none]) (fF (b:=true) rfl rfl (pre none none (aI (lD (oR (mK (br rfl (ln _ _ _) rfl)) (zaA hq1) (mK (br (wJ rfl rfl ab) (br rfl rfl pw) rfl))) (zaA hq2) rfl) ?_))) (last _ _ _ _ _))));unfold bo;rw[wJ (fa:=ac (aa 4) ah) (en:=[some (penD ns (k+1) 0),some (.int m),some (.int k),some (.list (ns.map .int)),some (.int c),none]) (en1:=[some (penD ns (k+1) 0),some (.int m),some (.int k),some (.list (ns.map .int)),some (.int c),none]) rfl rfl ab];rfl
 ·refine⟨l % m,k,l / m,?_,zba _ (by omega),zbb _ h3,Int.le_refl _,by omega,Int.ediv_nonneg h2 (by omega)⟩;exact eQ (aI rfl (aI rfl (aI (lD (b:=l==0) rfl (zbZ.mpr hl) rfl) (last k l _ _ _))))
def fU{ns:List Int}{k l m:Int}(hp:en[i]?=some (some (penD ns k l)))(hf:fa en=some ([.inr i,.inl (.int m)],en))(h0:0<=k)(h1:k<=1000000000)(h2:0<=l)(h3:0<m)(h4:m<1073741824):
  ∃r k' l',am ar fa en=some (.int r,en.set i (some (penD ns k' l')))/\0<=r/\r<m/\k<=k'/\k'<=k+1/\0<=l':=by
 obtain⟨r,k',l',e,q⟩:=take_ok (ns:=ns) h0 h1 h2 h3 h4;refine⟨r,k',l',mL hf (ts:=[penD ns k l,.int m]) ?_ e rfl,q⟩;unfold dP;rw[hp];rfl
end Pen2
end L2
namespace L2
variable{P:Program}{w:World}{K:zb7}{mg:Str->Option Value}{k dr:Nat}{x:Str}{ps N:List Str}{dps:List Nat}{st:Stmt}{id:String}
open PySem PySem.Spec PyProof.Rows
def lE(a b:Int):eqD (.int a) (.int b)=some (.bool (a==b)):=by
 show grd _ _=_;unfold grd;rw[if_pos ⟨rfl,rfl,zbk _⟩];simp only[peq]
def IN(a b:Int):neD (.int a) (.int b)=some (.bool (!(a==b))):=by
 show grd _ _=_;unfold grd;rw[if_pos ⟨rfl,rfl,zbk _⟩];simp only[peq]
structure Df(K:zb7)(x:Str)(st:Stmt)(f:Addr):Prop where
 a:PySem.W.nsIn K mainGlobals x=some (some (.ref f))
 l:∃oc od kV dc pm an cd ct sl,K.lookup f=some ⟨oc,od,.func (PySem.W.fnOf x x (dF st) (cr st) (ak st) .none kV dc pm an cd ct),sl⟩/\PySem.W.codeIn K cd x=true
 k:PySem.W.keepIn K (.ref f)=true
section
variable{base h:Heap}{f:Addr}{sp:Sp}
def Df.mk'{oc:Value}{od an:Option Addr}{sl:Array (Option Value)}{kV dc pm cd ct:Value}(a:PySem.W.nsIn K mainGlobals x=some (some (.ref f)))(l:K.lookup f=some ⟨oc,od,.func (PySem.W.fnOf x x (dF st) (cr st) (ak st) .none kV dc pm an cd ct),sl⟩)(c:PySem.W.codeIn K cd x=true)(k:PySem.W.keepIn K (.ref f)=true):Df K x st f:=
 ⟨a,⟨oc,od,kV,dc,pm,an,cd,ct,sl,l,c⟩,k⟩
def Df.kn(d:Df K x st f)(X:K.In h)(G:h.Ns mainGlobals mg)(b:∀(kV doc pm:Value) (an:Option Addr) (cdv ct:Value) (us:List Value),us.length=ps.length->bindArgs (PySem.W.fnOf x x (dF st) (cr st) (ak st) .none kV doc pm an cdv ct) ⟨us,[]⟩=pure (ps.zip us))
  (ok:∀fd,Fun K x x st f fd->FnOk P w K mg base CX0 k f fd ps sp):Kn P w K mg base k x ps sp:=by
 obtain⟨_,_,_,_,_,_,_,_,_,l,c⟩:=d.l;have F:=sS (st:=st) l c d.k;exact⟨_,_,ok _ F,PySem.W.mg_of X G d.a,d.k,F.binds b⟩
def Df.none(d:Df K x st f)(X:K.In h)(G:h.Ns mainGlobals mg)(b:∀(kV doc pm:Value) (an:Option Addr) (cdv ct:Value) (us:List Value),us.length=ps.length->bindArgs (PySem.W.fnOf x x (dF st) (cr st) (ak st) .none kV doc pm an cdv ct) ⟨us,[]⟩=pure (ps.zip us)):
  Kn P w K mg base k x ps (spF K dps dr fun _=>Option.none):=by
 obtain⟨_,_,_,_,_,_,_,_,_,l,c⟩:=d.l;have F:=sS (st:=st) l c d.k;exact Et (PySem.W.mg_of X G d.a) d.k (F.binds b)
end
section
variable{X:Cx}{p:Bool}{ds ds1 ds2 ds':List Nat}{d d1 d2:Nat}{a b e:Expr}{es:List Expr}{f f1 f2:ME}{fa:MA}{sh:Sh}{pos px:Pos}{J:Jd}{F:List D->Option (D×En)}{g:List D->Option D}
abbrev vck(X:Cx)(x:Str)(i:Nat)(n:NameKind):Prop:=(X.N[i]?,X.env.scope.names.lookup x,x==("__debug__":Str),x==("__classdict__":Str))=(some x,some n,false,false)
def fv(i:Nat)(h:vck X x i .local:=by rfl)(h0:ds[i]?=some 0:=by rfl):QE X (.Name x pos) (tF K p ds ds 0 (aa i)):=by
 simp only[vck,za1]at h;exact bU h.1 (.inl h.2.1) h0 h.2.2.1 h.2.2.2
def fvc(i:Nat)(h:vck X x i .cell:=by rfl)(h0:ds[i]?=some 0:=by rfl):QE X (.Name x pos) (tF K p ds ds 0 (aa i)):=by
 simp only[vck,za1]at h;exact bU h.1 (.inr (.inl h.2.1)) h0 h.2.2.1 h.2.2.2
def fsl(i:Nat)(hr:QA X es (tFA K p ds ds2 sh fa))(h:vck X x i .local:=by rfl):QA X (.Name x pos::es) (tFA K p ds ds2 (.inr i::sh) (aB i fa)):=by
 simp only[vck,za1]at h;exact oO h.1 (.inl h.2.1) hr h.2.2.1 h.2.2.2
def sU(i:Nat)(hr:QA X es (tFA K p ds ds2 sh fa))(h:vck X x i .cell:=by rfl):QA X (.Name x pos::es) (tFA K p ds ds2 (.inr i::sh) (aB i fa)):=by
 simp only[vck,za1]at h;exact oO h.1 (.inr (.inl h.2.1)) hr h.2.2.1 h.2.2.2
def fs0(h:QE X e (tF K p ds ds' d f)):QE X e (tF K p ds ds' 0 f):=bJ h (zbk _)
def frt(he:QE X e (tF K false ds ds1 J.dr f))(hd:leD J.dsr ds1=true:=by rfl):QSs X [.Return (some e) pos] (tFS K J ds ds' (ay f)):=av (yr he hd)
abbrev cck(X:Cx)(x:Str)(e:Expr)(es:List Expr):Prop:=(X.env.kindOf x,x==("__debug__":Str),aD e,es.all aD)=(some .globalImplicit,false,true,true)
def fnn(G:Kn X.prog X.w X.K X.mg X.base k x ps (spF K dps dr F))(hr:Room k X.A)(ha:QA X (e::es) (tFA K p ds ds1 sh fa))(h:cck X x e es:=by rfl)(h2:(gA sh,cV ds1 sh dps)=(true,true):=by rfl):QE X (.Call (.Name x px) (e::es) [] pos) (tF K p ds ds1 dr (am F fa)):=by
 simp only[cck,za1]at h h2;exact Fj G hr h.1 ha h2.1 h2.2 h.2.1 h.2.2.1 h.2.2.2
def fns(G:Kn X.prog X.w X.K X.mg X.base k x ps (spF K dps dr F))(hr:Room k X.A)(ha:QA X (e::es) (tFA K false ds ds1 sh fa))(h:cck X x e es:=by rfl)(h2:cV ds1 sh dps=true:=by rfl):QE X (.Call (.Name x px) (e::es) [] pos) (tF K false ds ds1 dr (am F fa)):=by
 simp only[cck,za1]at h;exact AJ G hr h.1 ha h2 h.2.1 h.2.2.1 h.2.2.2
def fcb(hc:CallR X (.builtin id) (rFn K g d))(hm:X.mg x=none)(hv:bootBuiltins x=some (.builtin id))(ha:QA X (e::es) (tFA K p ds ds1 sh fa))(h:cck X x e es:=by rfl)(h2:(cf 0 sh,x==("__name__":Str))=(true,false):=by rfl):QE X (.Call (.Name x px) (e::es) [] pos) (tF K p ds ds1 d (eN g fa)):=by
 simp only[cck,za1]at h h2;exact oN hc h.1 hm hv ha h2.1 (by simpa using h2.2) h.2.1 h.2.2.1 h.2.2.2
def fct(hc:CallR X (.type id) (rFn K g d))(hm:X.mg x=none)(hv:bootBuiltins x=some (.type id))(ha:QA X (e::es) (tFA K p ds ds1 sh fa))(h:cck X x e es:=by rfl)(h2:(cf 0 sh,x==("__name__":Str))=(true,false):=by rfl):QE X (.Call (.Name x px) (e::es) [] pos) (tF K p ds ds1 d (eN g fa)):=by
 simp only[cck,za1]at h h2;exact uF hc h.1 hm hv ha h2.1 (by simpa using h2.2) h.2.1 h.2.2.1 h.2.2.2
def fln(hK:X.K=K)(hm:X.mg "len"=none)(ha:QA X (e::es) (tFA K p ds ds1 sh fa))(h:cck X "len" e es:=by rfl)(h2:cf 0 sh=true:=by rfl):QE X (.Call (.Name "len" px) (e::es) [] pos) (tF K p ds ds1 3 (eN bp fa)):=by
 simp only[cck,za1]at h;exact oN (JJ hK) h.1 hm (by decide +kernel) ha h2 (by decide) h.2.1 h.2.2.1 h.2.2.2
def fte(hK:X.K=K)(hu:X.A.units+64<cLine)(ha:QE X a (tF K p ds ds1 d1 f1))(hb:QE X b (tF K p ds1 ds2 d2 f2)):QT X (.Compare a [.Eq] [b] pos) (tFT K p ds ds2 (tV (e2 eqD f1 f2))):=aH (i7 hK hu) ha hb (aL _)
def ftn(hK:X.K=K)(hu:X.A.units+64<cLine)(ha:QE X a (tF K p ds ds1 d1 f1))(hb:QE X b (tF K p ds1 ds2 d2 f2)):QT X (.Compare a [.NotEq] [b] pos) (tFT K p ds ds2 (tV (e2 neD f1 f2))):=aH (Lu hK hu) ha hb (aL _)
def fxi{n:Int}{j:Nat}{q:Pos}(hK:X.K=K)(ha:QE X a (tF K p ds ds1 d1 f1)):QE X (.Subscript a (.Constant (.int n) j q) pos) (tF K p ds ds1 0 (e2 ixA f1 (eC (.int n)))):=bg (bQ hK) ha ai fun _ _=>rfl
def aO(i:Nat)(ds':List Nat){pos':Pos}(hN:X.N.Nodup)(he:QE X e (tF K false ds ds1 d f))(h:(X.N[i]?,X.env.scope.names.lookup x,X.fn x)=(some x,some .local,true):=by rfl)(h2:(ds1.set i d,decide (i<ds1.length),J.lk.contains i)=(ds',true,false):=by rfl)(hs:swapsWith e (some (.Name x pos')) pos.line X.env=pure false:=by rfl):QS X (.Assign [.Name x pos'] e pos) (tFS K J ds ds' (ao i f)):=by
 simp only[za1,decide_eq_true_eq]at h h2;exact bP hN h.1 (.inl h.2.1) he h2.1 h2.2.1 (by simpa using h2.2.2) hs (.inl h.2.2)
def fsc{P:List Str}{sc:Scope}(a:sc.kind=.function:=by rfl)(b:sc.isCoroutine=false:=by rfl)(c:sc.isGenerator=false:=by rfl)(d:N.Nodup:=by decide +kernel)(e:N.take P.length=P:=by rfl)(f:∀x∈P,sc.names.lookup x=some .local\/sc.names.lookup x=some .cell:=by decide +kernel)(g:∀y∈sc.names,y.2≠.free:=by decide +kernel):FnScope N P sc:=⟨a,b,c,d,e,f,g⟩
def Fun.okR{base:Heap}{q:Str}{fa:Addr}{fd:FuncData}{n:Nat}{b:MS}(F:Fun K x q st fa fd)(S:FnScope N ps (ak st))(J:Jd)(ds0:List Nat)
  (hb:N.Nodup->∀(cdv:Value) (A:Around) (outer:List Env) (s:Shared) (H:Hp) (E:XK),Room k (A.deeper (envOfC q (ak st) s.heap.objs.size fa cdv))->QSs (lK CX0 P w K mg base N q (ak st) fa cdv A outer s H E).nox (cr st) (tFS K J ds0 ds0 b)) (hl:dps.length=ps.length:=by rfl) (hn:N.length-dps.length=n:=by rfl) (hJ:J=⟨pX dps,dps++List.replicate n 0,dr,[]⟩:=by rfl) (hd:ds0=dps++List.replicate n 0:=by rfl):FnOk P w K mg base CX0 (k+1) fa fd ps (spF K dps dr (fnF n dps b)):=F.okQ S hl hn hJ hd (hb S.nd)
def ndk(l:List Str)(h:l.Nodup:=by decide +kernel):l.Nodup:=h
def fgn(i:Nat)(ds':List Nat){lk:List Nat}(hN:X.N.Nodup)(hi:X.N[i]?=some x:=by rfl)(hx:Loc X.env.scope x:=by exact .inl rfl)(hds:ds.set i 0=ds':=by rfl)(hl:i<ds.length:=by decide)(hk:i∉lk:=by decide)(hf:X.fn x=true\/X.env.scope.names.lookup x=some .local:=by first|exact .inl rfl|exact .inr rfl):QG X (.Name x pos) (tFG K lk ds ds' (gN i)):=oK hN hi hx hds hl hk hf
def fac(ha:QE X e (tF K p ds ds1 d f))(hr:QA X es (tFA K p ds1 ds2 sh fa))(hs:aD e=true:=by rfl):QA X (e::es) (tFA K p ds ds2 (.inl d::sh) (ac f fa)):=wI ha hr hs
end
abbrev MX:=En->Option Unit
abbrev MN:=En->Option Str
end L2
namespace L2
open PySem PySem.Spec PyProof.Rows Builtin Builtin.ObjectAttr Builtin.Getset_descriptor
end L2
namespace L2
variable{w:World}{prog:Program}{A:Around}{E:Value->Shared->Prop}{s:Shared}{st:SortSt}{Q:Option Nat->SortSt->Prop}{n:Nat}
open PySem PySem.Spec PyProof.Rows
def yc{P:Program}{k:Key}{v:Value}(h:(aM P w).is k v=true):RelV (kV k) v:=by
 rcases bj h with⟨i,t,e1,e2⟩|⟨x,t,e1,e2⟩
 ·have e:k=Sum.inl i:=e1;rw[e,e2];exact⟨t,rfl⟩
 ·have e:k=Sum.inr x:=e1;rw[e,e2];exact⟨t,rfl⟩
section
variable{X:Cx}{K:zb7}{O:AS}{H:Hp}
theorem qG:∀{ks:List (D×D)} {vs:List (Key×V)} {F:AS} {d:Nat},Owd K O H ks d vs F->Ows K O H (ks.map fun q=>q.1) 0 (vs.map fun q=>kV q.1) NoA
 |[],_,_,_,h=>by rw[show _=[]from h];rfl
 | (k,t)::ks,_,_,_,h=>by
  obtain⟨q,v,r,F1,F2,e,e2,_,_,_,_,h5⟩:=h;subst e e2;refine⟨kV q,_,NoA,NoA,rfl,fun _ z=>z,fun _ z=>z,fun _ z=>z.elim,?_,qG h5⟩;cases q<;>rfl
end
def Falls(xs:Array Keyed)(k:Nat):Prop:=∀i,i+1<k->K xs (i+1)<K xs i
def Falls.nonInc{xs:Array Keyed}{k:Nat}(h:Falls xs k):NonInc xs k:=by
 have key:∀d i,i+d<k->K xs (i+d)<=K xs i:=by
  intro d
  induction d with
  |zero=>intro i _;exact Int.le_refl _
  |succ d ih=>
   intro i hi;have a:=h (i+d) (by omega);have b:=ih i (by omega);rw[show i+(d+1)=i+d+1 by omega];omega
 intro i j hij hj
 have:=key (j-i) i (by omega);rw[show i+(j-i)=j by omega]at this;exact this
section
variable{b₀:Array Keyed}
def Ib(hk:IntKeys b₀)(h1:1<=b₀.size)(hB:SBase b₀ st)(hs:SortedTo (arrOf st) b₀.size)(q:Q (some b₀.size) st):wpS (model prog w) A E s (countRun' 0 b₀.size) Q st:=by
 rw[countRun0_eq];refine wpS_bind (wpS_ascLoop hk (zav _) (zav 1) h1 hB (fun i j a b=>hs i j a (by omega)) fun n n1 n2 _ e=>?_);have en:n=b₀.size:=by
  rcases e with e|e
  ·exact e
  ·by_cases z:n=b₀.size
   ·exact z
   ·have:=hs (n-1) n (by omega) (by omega);omega
 subst en
 dsimp only
 rw[if_pos (by simp)];exact wpS_pure q
def zv{m:Nat}{Q:DescSt->SortSt->Prop}(hk:IntKeys b₀)(hm:m<=b₀.size)(h1:1<=n)(hn:n<=m)(hB:SBase b₀ st)(hf:Falls (arrOf st) m)(q:Q (none,m,0) st):wpS (model prog w) A E s (descLoop n m) Q st:=by
 unfold descLoop;refine wpS_forRange (I:=fun x c st'=>st'=st/\c=(none,x,0)) ?step ?fin ⟨rfl,rfl⟩
 case fin=>
  rintro c st' ⟨rfl,rfl⟩;rw[show max n m=m by omega];exact q
 case step=>
  rintro x c st' a b ⟨rfl,rfl⟩
  dsimp only
  refine wpS_bind (wpS_ltK hB hk (by omega) (by omega) ?_)
  have:=hf (x-1) (by omega);rw[show x-1+1=x by omega]at this;simp only[this,decide_true,if_true];rw[if_neg (by omega)];exact wpS_pure ⟨rfl,rfl⟩
def zr(hk:IntKeys b₀)(h1:2<=b₀.size)(hB:SBase b₀ st)(hf:Falls (arrOf st) b₀.size)(q:∀st',SBase b₀ st'->SortedTo (arrOf st') b₀.size->Q (some b₀.size) st'):wpS (model prog w) A E s (countRun' 0 b₀.size) Q st:=by
 rw[countRun0_eq];refine wpS_bind (wpS_ascLoop hk (zav _) (zav 1) (by omega) hB (fun i j a b=>by rw[show i=j by omega];exact Int.le_refl _) fun n n1 n2 so e=>?_);have en:n=1:=by
  by_cases z:n=1
  ·exact z
  ·have:=so 0 1 (by omega) (by omega)
   have:K (arrOf st) 1<K (arrOf st) 0:=hf 0 (by omega);omega
 subst en
 dsimp only
 rw[if_neg (by simp;omega),if_neg (by omega)];unfold descPart;refine wpS_bind (wpS_lift (wpAny_rule ⟨rfl,?_⟩));refine wpS_bind (zv hk (zav _) (by omega) h1 hB hf ?_)
 dsimp only
 rw[if_neg (by omega)];unfold tail3;have hz:b₀.size<=(arrOf st).size:=by rw[hB.size];exact zav _
 refine wpS_bind (wpS_reverse ?_);have hB':SBase b₀ (setArr st (mirror (arrOf st) 0 b₀.size ((b₀.size-0) / 2))):=hB.setArr (mirror_perm _ _ _ _);have hs':SortedTo (arrOf (setArr st (mirror (arrOf st) 0 b₀.size ((b₀.size-0) / 2)))) b₀.size:=by
  intro i j a b;show K (mirror (arrOf st) 0 b₀.size ((b₀.size-0) / 2)) i<=K (mirror (arrOf st) 0 b₀.size ((b₀.size-0) / 2)) j;rw[K_mirror hz,K_mirror hz,if_pos (by omega),if_pos (by omega)];exact hf.nonInc _ _ (by omega) (by omega)
 refine wpS_bind (wpS_ascLoop hk (zav _) (by omega) (zav _) hB' hs' fun n n1 n2 _ _=>?_);have en:n=b₀.size:=by omega
 subst en;exact wpS_pure (q _ hB' hs')
theorem qI:∀f n r,minRun' f n r<=n+r
 |0,n,r=>zav _
 |f+1,n,r=>by
  rw[minRun'_succ];split
  ·exact zav _
  ·have:=qI f (n / 2) (max r (n % 2))
   have:max r (n % 2)<=r+1:=Nat.max_le.mpr ⟨by omega,by omega⟩;omega
def o9(xs:Array Keyed):Prop:=SortedTo xs xs.size\/Falls xs xs.size
def zq{Q:Unit->SortSt->Prop}(hk:IntKeys b₀)(hB:SBase b₀ st)(ha:arrOf st=b₀)(h2:2<=b₀.size)(ho:o9 b₀)
  (q:∀st',(arrOf st').Perm b₀->failedOf st'=none->SortedTo (arrOf st') b₀.size->Q () st'):wpS (model prog w) A E s sortRuns' Q st:=by
 rw[sortRuns'_eq];refine wpS_bind (wpS_get ?_)
 dsimp only
 have ml:minRun' b₀.size b₀.size 0<=b₀.size:=qI _ _ _;rw[hB.size];refine wpS_bind (wpS_mono (wpS_forRange
  (I:=fun x c st'=>(x=0/\c=(none,0)/\st'=st)\/(1<=x/\c=(none,b₀.size)/\SDone b₀ st'))
  (Q:=fun c st'=>c=(none,b₀.size)/\SDone b₀ st') ?step ?fin (.inl ⟨rfl,rfl,rfl⟩)) ?post)
 case fin=>
  rintro c st' (⟨z,_⟩|⟨_,a,b⟩)
  ·omega
  ·exact⟨a,b⟩
 case step=>
  rintro x c st' _ _ (⟨rfl,rfl,rfl⟩|⟨_,rfl,D⟩)
  ·dsimp only
   rw[if_neg (by omega)];simp only[Nat.sub_zero,za4];have fin:∀st2,SBase b₀ st2->SortedTo (arrOf st2) b₀.size->_:=fun st2 B2 s2=>B2.done s2;have go:wpS (model prog w) A E s (countRun' 0 b₀.size) (fun r st2=>r=some b₀.size/\SBase b₀ st2/\SortedTo (arrOf st2) b₀.size) st':=by
    rcases ho with ho|ho
    ·exact Ib hk (by omega) hB (by rw[ha];exact ho) ⟨rfl,hB,by rw[ha];exact ho⟩
    ·exact zr hk h2 hB (by rw[ha];exact ho) fun st2 B2 s2=>⟨rfl,B2,s2⟩
   refine wpS_bind (wpS_mono go ?_);rintro _ st2 ⟨rfl,B2,s2⟩
   dsimp only
   rw[if_neg (by omega)];refine wpS_bind (wpS_get ?_);have hb:(pendingOf st2).back?=none:=by rw[B2.pend];rfl
   rw[hb]
   dsimp only
   exact wpS_bind (wpS_modify (wpS_pure (.inr ⟨by omega,rfl,fin st2 B2 s2⟩)))
  ·dsimp only
   rw[if_pos (zav _)];exact wpS_pure ⟨rfl,D⟩
 case post=>
  rintro c st' ⟨rfl,D⟩
  dsimp only
  refine wpS_bind (wpS_mono (wpS_forRange (I:=fun _ c st2=>st2=st'/\c=(none,())) (Q:=fun c st2=>st2=st'/\c=(none,())) ?_ (fun _ _ z=>z) ⟨rfl,rfl⟩) ?_)
  ·rintro x c st2 _ _ ⟨rfl,rfl⟩;refine wpS_bind (wpS_get ?_);rw[if_pos (by rw[D.2.2.1];exact zav 1)];exact wpS_pure ⟨rfl,rfl⟩
  ·rintro c st2 ⟨rfl,rfl⟩;exact wpS_pure (q _ D.1 D.2.1 D.2.2.2)
end
def rO{a:Addr}{vs:List Value}{ns:List Int}{P:Fin->Shared->Prop}(ho:s.heap.get? a=some (seqObj "list" vs.toArray n))(hI:IntsAre vs ns)(hz:vs.length<=100000)(h1:vs.length<64\/o9 (pairsOf vs))
  (q:∀(out:Array Value) (ns':List Int),IntsAre out.toList ns'->ns'.Perm ns->ns'.Pairwise (·<=·)->P (.done (.ret .none)) { s with heap:=sortedHeap s.heap a vs out }):
  wpAny (model prog w) A (Builtin.«list.sort» ⟨[.ref a],[]⟩) P E s:=by
 rcases Nat.lt_or_ge vs.length 64 with lt|ge
 ·exact list_sort_tree ho hI lt q
 have o1:o9 (pairsOf vs):=h1.resolve_left (by omega);obtain⟨v₁,v₂,rest,rfl⟩:∃x y r,vs=x::y::r:=by
  match vs,ge with
  |x::y::r,_=>exact⟨x,y,r,rfl⟩
 rw[list_sort_plain];have la:a<s.heap.objs.size:=zal ho;refine zam (listItems_at ho rfl (zam (listUpdate_at ho rfl ?_)));obtain⟨e1,ho1⟩:∃e1,(s.heap.update a (Obj.mapSeq fun _=>#[])).get? a=some (seqObj "list" #[] e1):=⟨_,get?_update_seq ho (fun _=>#[])⟩;refine zam (seqEpoch_at ho1 rfl (zam (wpAny_newTuple (zam (wpAny_newList (zb1 ?_))))));have ho6:(((s.heap.update a (Obj.mapSeq fun _=>#[])).push (seqObj "tuple" (v₁::v₂::rest).toArray 0)).push (seqObj "list" #[] 0)).get? a=some (seqObj "list" #[] e1):=by
  rw[Heap.get?_push_ne _ _ _ (zaw (by rw[size_push',Heap.size_update];exact Nat.lt_succ_of_lt la)),Heap.get?_push_ne _ _ _ (zaw (by rw[Heap.size_update];exact la)),ho1]
 show wpAny (model prog w) A _ P E { s with heap:=((s.heap.update a (Obj.mapSeq fun _=>#[])).push (seqObj "tuple" (v₁::v₂::rest).toArray 0)).push (seqObj "list" #[] 0) }
 dsimp only
 have two:¬(v₁::v₂::rest).toArray.size<2:=by simp
 rw[if_neg two,if_neg two,keyKind_ints hI];refine zam (zaT (zam (wpAny_mono (zq (b₀:=pairsOf (v₁::v₂::rest)) (st:=SortSt.mk' oneType' ((v₁::v₂::rest).toArray.zip (v₁::v₂::rest).toArray) #[] 7 none)
   (Q:=fun _ st'=>(arrOf st').Perm (pairsOf (v₁::v₂::rest))/\failedOf st'=none/\SortedTo (arrOf st') (pairsOf (v₁::v₂::rest)).size)
   hI.intKeys ⟨Array.Perm.refl _,rfl,rfl,rfl⟩ rfl (by rw[pairsOf_size];simp) o1 fun st' b1 b2 b3=>⟨b1,b2,b3⟩) ?_ fun _ _ e=>e)))
 rintro⟨⟨⟩,st'⟩ s' ⟨rfl,hp,hf,hs⟩
 dsimp only
 refine zam (seqEpoch_at ho6 rfl ?_);have hsz:((arrOf st').map (·.2)).size<=100000:=by
  rw[Array.size_map,hp.size_eq,pairsOf_size];exact hz
 refine zam (listUpdate_at ho6 rfl ?_ (hsz2:=zau hsz (by rw[sizeLine_eq];decide)));rw[hf];simp only[bne_self_eq_false,Bool.false_eq_true,if_false];obtain⟨ns',c1,c2,c3⟩:=sorted_out hI hp hs;exact zaT (q _ ns' c1 c2 c3)
end L2
namespace L2
variable{vs:List Value}{ns:List Int}
open PySem PySem.Spec PyProof.Rows Builtin
theorem u5:∀{vs:List Value} {ns:List Int},IntsAre vs ns->∀i,(match vs[i]? with|some v=>numOf v|none=>0)=ns.getD i 0
 |_,_,.nil,i=>rfl
 |_,_,.cons n t h,0=>rfl
 |_,_,.cons n t h,i+1=>by
  have:=u5 h i;simpa using this
def mN(h:IntsAre vs ns)(i:Nat):K (pairsOf vs) i=ns.getD i 0:=by
 rw[<-u5 h i];have e:(pairsOf vs)[i]?=vs[i]?.map fun v=>(v,v):=by
  rw[<-Array.getElem?_toList,pairsOf_toList];clear h
  induction vs generalizing i with
  |nil=>rfl
  |cons v r ih=>
   cases i with
   |zero=>rfl
   |succ i=>simpa using ih i
 unfold K;rw[e];cases vs[i]?<;>rfl
def oneB:List Int->Bool
 |[]=>true
 |x::r=>go x r true || go x r false
where go (x:Int):List Int->Bool->Bool
 |[],_=>true
 |y::r,true=>decide (x<=y)&&go y r true
 |y::r,false=>decide (y<x)&&go y r false
theorem Du:∀{r:List Int} {x:Int},oneB.go x r true=true->∀i,i+1<(x::r).length->(x::r).getD i 0<=(x::r).getD (i+1) 0
 |[],x,_,i,h=>by simp at h
 |y::r,x,g,i,h=>by
  have g':(decide (x<=y)&&oneB.go y r true)=true:=g;rw[zbn,zbj]at g';cases i with
  |zero=>exact g'.1
  |succ i=>exact Du g'.2 i (by simpa using h)
theorem vn:∀{r:List Int} {x:Int},oneB.go x r false=true->∀i,i+1<(x::r).length->(x::r).getD (i+1) 0<(x::r).getD i 0
 |[],x,_,i,h=>by simp at h
 |y::r,x,g,i,h=>by
  have g':(decide (y<x)&&oneB.go y r false)=true:=g;rw[zbn,zbj]at g';cases i with
  |zero=>exact g'.1
  |succ i=>exact vn g'.2 i (by simpa using h)
def u4(h:IntsAre vs ns)(o:oneB ns=true):o9 (pairsOf vs):=by
 have hl:(pairsOf vs).size=ns.length:=by rw[pairsOf_size];exact h.length
 cases ns with
 |nil=>
  refine .inl fun i j a b=>?_;rw[hl]at b;simp at b
 |cons x r=>
  have o':(oneB.go x r true || oneB.go x r false)=true:=o;rcases Bool.or_eq_true_iff.mp o' with o'|o'
  ·refine .inl ?_;have key:∀d i,i+d<(x::r).length->(x::r).getD i 0<=(x::r).getD (i+d) 0:=by
    intro d
    induction d with
    |zero=>intro i _;exact Int.le_refl _
    |succ d ih=>
     intro i hi;exact Int.le_trans (ih i (by omega)) (Du o' (i+d) (by omega))
   intro i j a b;rw[mN h,mN h]
   have:=key (j-i) i (by omega);rw[show i+(j-i)=j by omega]at this;exact this
  ·refine .inr fun i b=>?_;rw[mN h,mN h];exact vn o' i (by omega)
def fc(ns:List Int):Prop:=ns.length<64\/(oneB ns=true/\ns.length<=5000)
instance (ns:List Int):Decidable (fc ns):=by unfold fc;exact inferInstance
section
variable{X:Cx}{K:zb7}{O:AS}{H:Hp}
def qk(hc:X.calm=true):CallR X (.builtin "sorted") (fun xs H Q=>∃a kvs ns,xs=[.ref a]/\Rd H a (.dK kvs)/\(kvs.map fun q=>kV q.1)=ns.map V.int/\fc ns/\∀l,H l=none->Q (.ref l) (upd H l (.lst ((cT ns).map V.int)))):=by
 intro ρ s σ H xs us Q I r h;obtain⟨a,kvs,ns,rfl,ha,ek,cs,q⟩:=h;obtain⟨u,rfl,ru⟩:=cS r;cases ru;obtain⟨z,hd,vs,rel,dd⟩:=eX I.hok ha;obtain⟨o,es,ep,dr⟩:=dd;have hl:kvs.length=vs.length:=rel.length;have hn:ns.length=kvs.length:=by have:=congrArg List.length ek;simpa using this.symm
 have n5:ns.length<=5000:=by
  rcases cs with c|c
  ·omega
  ·exact c.2
 refine Calls.call_function_entry kind_sorted plain_sorted entry_sorted (args_sorted1 _) ?_;unfold Builtin.«sorted»;refine zam (m:=checkCount "sorted" 1 1 _) (zaT ?_);refine zam (PySem.W.kdu_collect (PySem.W.kdl_dict (knd:=aM X.prog X.w) (kvs:=vs) (ep:=ep) hd) (I.ok.hd hc) ⟨o,es,dr⟩ (by omega) fun h1 tk acc hk hi=>?_);have la:acc.toList.length=vs.length:=by rw[zaY];exact hi.1
 have rv:Vals (ns.map V.int) acc.toList:=by
  rw[<-ek];exact gg (by rw[zad];omega) fun i x v e1 e2=>by
   obtain⟨k,y,hky,hv⟩:=hi.2 i v (by simpa using e2);rw[zao]at e1;obtain⟨p,hp,rfl⟩:=zab.mp e1;have hkeys:=congrArg (fun l=>l[i]?) rel.keys;simp only[zao,hp,hky,Option.map_some,Option.some.injEq]at hkeys;rw[hkeys];exact yc hv
 have hI:IntsAre acc.toList ns:=oE rv;have l5:acc.toList.length<=5000:=by omega
 refine zam (wpAny_newList ?_ (zau l5 (by decide)));have hoL:(h1.push (seqObj "list" acc.toList.toArray 0)).get? h1.objs.size=some (seqObj "list" acc.toList.toArray 0):=zan _ rfl;refine zam (zb1 (wpAny_call_entry slot_list_sort ⟨_,hoL,rfl⟩ entry_list_sort (rO hoL hI (by omega) (cs.imp (fun c=>by omega) fun c=>u4 hI c.1) fun out ns' a1 a2 a3=>⟨_,rfl,?_⟩) (args_list_sort _)));refine zaT ⟨_,rfl,?_⟩;have e1:ns'=cT ns:=iw (a2.trans (cD ns).symm) a3 (cW ns);subst e1;obtain⟨e,he⟩:=sortedHeap_at (out:=out) hoL;have I1:=I.kept (t':=tk) hk;have k2:∀b o,h1.get? b=some o->(sortedHeap (h1.push (seqObj "list" acc.toList.toArray 0)) h1.objs.size acc.toList out).get? b=some o:=fun b o q=>by
  have hb:=zal q;rw[sortedHeap_old (zaw hb) (by rw[size_push'];exact Nat.lt_succ_of_lt hb)];exact zaf _ q
 have hsl:(cT ns).length=ns.length:=(cD ns).length_eq;refine⟨.ref _,_,I1.laid (a:=h1.objs.size) (o:=.lst ((cT ns).map V.int)) (t':=tk) k2 (zav _) ⟨by rw[zad,hsl];omega,out.toList,e,k6 a1,?_⟩,rfl,q _ (I1.hok.fresh (zav _))⟩;rw[show out.toList.toArray=out from rfl];exact he
def rQ:List D->Option D
 |[.dict ks]=>if noT ks=true then(cv (ks.map fun q=>q.1)).bind fun ns=>grd (fc ns) (.list ((cT ns).map .int))else none
 |_=>none
theorem gy{O:AS}{H:Hp}:∀l:List Int,Ows K O H (l.map .int) 0 (l.map V.int) NoA
 |[]=>rfl
 |n::r=>⟨.int n,r.map V.int,NoA,NoA,rfl,fun _ z=>z,fun _ z=>z,fun _ z=>z.elim,rfl,gy r⟩
def AB(hK:X.K=K)(hc:X.calm=true):CallR X (.builtin "sorted") (rFn K rQ 1):=by
 subst hK;refine(qk hc).imp ?_;rintro xs H Q ⟨O,as,t,oa,hd,hg,k⟩
 match as,hg with
 |[.dict ks],hg=>
  by_cases c:noT ks=true
  ·have hg':((cv (ks.map fun q=>q.1)).bind fun ns=>grd (fc ns) (.list ((cT ns).map .int)))=some t:=by rw[<-hg];exact(if_pos c).symm
   obtain⟨ns,h1,h2⟩:=zaa.mp hg';obtain⟨cs,rfl⟩:=cK h2;obtain⟨v,rfl,o⟩:=oa.one;obtain⟨a,vs,rfl,ha,ow⟩:=o.dict0 c;exact⟨a,vs,ns,rfl,ha,j7 (qG ow) h1,cs,fun l hl=>k _ _ _ (bv hl hd (gy (K:=X.K) _)).1 (bv hl hd (gy (K:=X.K) _)).2⟩
  ·exact absurd (show(none:Option D)=some t by rw[<-hg];exact(if_neg c).symm) (by simp)
end
end L2
namespace PySem
variable{prog:Program}{w:World}{A:Around}{n:Nat}
def qL:entryFor table "dict.update.loop"=some Builtin.«dict.update.loop»:=entryFor_of_tree (by kernel_rfl)
def iY:plainId "dict.update.loop"=true:=by decide +kernel
section
variable{R:Result->Shared->Prop}{I:Addr}{fp wr:List Addr}{G:Array GenState->Array GenState->Prop}{P:Nat->Value->Prop}{St:Nat->Shared->Prop}{K:Type}[DecidableEq K]{knd:KeyKind prog w K}
def v9(ks:Nat->K)(vals:Nat->Value):Nat->Nat->List (K×Value)->List (K×Value)
 |0,_,kvs=>kvs
 |k+1,i,kvs=>v9 ks vals k (i+1) (stored kvs (ks i) (vals i))
def vY(kvs:List (K×Value))(k:K)(v:Value):(stored kvs k v).length<=kvs.length+1:=by
 unfold stored;split
 ·rw[zad];omega
 ·rw[zae];exact zav _
def zc(W:WalksS prog w A.in1 I fp wr G n P St)(d:Addr)(hdf:d∉fp)(ks:Nat->K)(vals:Nat->Value)(h0:Heap)
  (hp:∀i v,P i v->∃a o key m,v=.ref a/\a∉wr/\a≠d/\h0.get? a=some o/\o.cls=.type "tuple"/\o.data=.seq #[key,vals i] m/\knd.is (ks i) key=true):
  ∀(k i:Nat) (s:Shared) (c:Int) (kvs:List (K×Value)),n-i=k->i<=n->St i s->s.heap.DictOf knd d kvs->(∀b o,b∉wr->b≠d->h0.get? b=some o->s.heap.get? b=some o)->kvs.length+k<=sizeLine ->
  (∀s',s'.heap.DictOf knd d (v9 ks vals k i kvs)->Moved (d::wr) G s s'->R (.ok (.ret .none)) s')->codeAny (model prog w) A (.builtin "dict.update.loop" ⟨[.ref d,.ref I,rawInt c,.none],[]⟩) R s:=by
 have hdw:d∉wr:=fun h=>hdf (W.sub _ h);have hsub:∀b∈wr,b∈d::wr:=fun b hb=>zaj _ hb;intro k
 induction k with
 |zero=>
  intro i s c kvs hk hi hst hd hb hz hR;have hin:i=n:=by omega
  subst hin;refine codeAny_builtin qL ?_;rw[Around.under_plainId iY _];show wpAny _ A.in1 (pyNext (.ref I) >>= _) _ _ s;refine zam (W.done s _ _ hst fun s' hm=>?_);obtain⟨o,es,ep,g1,g2⟩:=hd;exact zam (zaT (zaT (hR s' ⟨o,es,ep,hm.heap d o hdw g1,g2⟩ (hm.mono hsub))))
 |succ k ih=>
  intro i s c kvs hk hi hst hd hb hz hR;have hlt:i<n:=by omega
  refine codeAny_builtin qL ?_;rw[Around.under_plainId iY _];show wpAny _ A.in1 (pyNext (.ref I) >>= _) _ _ s;refine zam (W.item i s _ _ hlt hst fun v s' hP hst' hm=>?_);obtain⟨a,o,key,m,rfl,aw,ad,ga,gc,gd,gk⟩:=hp i v hP;have ga':=hm.heap a o aw (hb a o aw ad ga);have hT:s'.TypeIs (.ref a) "tuple":=⟨o,ga',gc⟩;have hd':s'.heap.DictOf knd d kvs:=by
   obtain⟨o,es,ep,g1,g2⟩:=hd;exact⟨o,es,ep,hm.heap d o hdw g1,g2⟩
  show wpAny _ A.in1 (holding [Value.ref a] _ >>= _) _ _ s';refine zam (zb1 ?_);refine zam (wpAny_tryCatch ?_);unfold Builtin.Dict.pairItems;refine zam (wpAny_typeOf hT ?_);rw[if_pos (by decide)];refine zam (wpAny_seqItems ga' gd ?_);refine zaT ?_;show wpAny _ A.in1 (holding [key,vals i] (dictSet d key (vals i))) _ _ s';refine zb1 (wpAny_dictSet_pairs (hsz:=by omega) gk hd' fun h' dd hs=>?_);refine zaT ⟨plainId_quiet iY _,ih (i+1) _ (c+1) _ (by omega) hlt (W.frame _ s' _ _ hst' (Nat.le_succ _) fun b hb' o' e=>?_) dd (fun b o' h1 h2 e=>?_) ?_ fun s'' d'' hm''=>?_⟩
  ·exact(hs.2 b (fun h:b=d=>hdf (by rw[<-h];exact hb'))).trans e
  ·exact(hs.2 b h2).trans (hm.heap b o' h1 (hb b o' h1 h2 e))
  ·have:=vY kvs (ks i) (vals i);omega
  ·refine hR s'' d'' (Moved.trans W.gtrans ((hm.mono hsub).then_heap (Nat.le_succ _) fun b o' hb' e=>?_) hm'');exact(hs.2 b (fun h:b=d=>hb' (by rw[h];exact zaq))).trans e
end
def Eg:typeLookup (.type "list") "keys"=pure none:=by rw[typeLookup_type,builtinLookup_eq_fast];kernel_rfl
def xY{E:Value->Shared->Prop}{s:Shared}{a:Addr}{o:Obj}{xs:Array Value}{Q:Option Value->Shared->Prop}
  (g:s.heap.get? a=some o) (g1:o.cls=.type "list") (g2:o.data=.seq xs n) (g3:o.dict=none) (hA:A.handled=none)
  (h:∀h' tk,(∀b u,s.heap.get? b=some u->h'.get? b=some u)->Q none { s with heap:=h',toks:=tk }):wpAny (model prog w) A (getAttr? (.ref a) "keys") Q E s:=by
 obtain⟨c,dct,dat,sl⟩:=o;simp only at g1 g2 g3;subst g1 g2 g3;obtain⟨hp,gn,dr,tk,os⟩:=s;have ty:∀t,(⟨hp,gn,dr,t,os⟩:Shared).TypeIs (.ref a) "list":=fun _=>⟨_,g,rfl⟩;have q1:=sub_AttributeError;have q2:=F.slot_list_getattribute.lookup;have q3:=F.slot_list_getattribute.bind (.ref a);have q4:=am_list_getattr_none;unfold getAttr? getAttrBy? getAttrBy
 repeat (any_goals (first
  |assumption
  |exact ty _
  | ((with_reducible show wpAny _ _ (call (Value.builtin "list.__getattribute__") _ _) _ _ _)
     refine call_meets F.slot_list_getattribute (ty _) am_entry_list_getattribute (F.args_list_getattribute_2 _ _) (meets_getattribute_miss_list a xs n sl "keys" _ Eg (by decide +kernel)) ⟨g,hA,fun h' t' e x=>?_⟩)
  |wp_step))
 obtain⟨t',u',he⟩:=x.there;show wpAny _ _ (getattributeRaised _ _ _ _ _ _ _) _ _ _;unfold getattributeRaised
 repeat (any_goals (first|assumption|wp_step))
 exact h _ _ x.keeps
end PySem
namespace L2
variable{X:Cx}{K:zb7}{H:Hp}{p:Bool}{ds ds0 ds1 ds2:List Nat}{d d1 i d2:Nat}{k c o a b:Expr}{f fk fd f1 f2:ME}{px μ ω pos:Pos}{σ:St}{Q:VK}
open PySem PySem.Spec PyProof.Rows
def gx(ps:List (Key×V))(kvs:List (Key×V)):List (Key×V):=ps.foldl (fun kvs q=>b8 kvs q.1 q.2) kvs
def Io(K:zb7):List V->Hp->VK->Prop:=fun xs H Q=>∃(p:Addr) (as:List Addr) (ps:List (Key×V)),xs=[.ref p]/\SqL K H p (as.map .ref)/\Paired (fun a q=>SqT K H a [kV q.1,q.2]) as ps/\∀l,H l=none->Q (.ref l) (upd H l (.dK (gx ps [])))
theorem n6:∀(ps kvs:List (Key×V)),(gx ps kvs).length<=kvs.length+ps.length
 |[],kvs=>zav _
 |q::ps,kvs=>by
  have h1:=n6 ps (b8 kvs q.1 q.2);have h2:=gh kvs q.1 q.2;show(gx ps (b8 kvs q.1 q.2)).length<=_;rw[zac];omega
theorem uS{ks:Nat->Key}{vals:Nat->Value}{ps:List (Key×V)}(hv:∀i q,ps[i]?=some q->ks i=q.1/\RelV q.2 (vals i)):∀(k i:Nat) (kvs:List (Key×V)) (vs:List (Key×Value)),ps.length-i=k->KV kvs vs->KV (gx (ps.drop i) kvs) (v9 ks vals k i vs)
 |0,i,kvs,vs,h,r=>by
  rw[List.drop_eq_nil_of_le (by omega)];exact r
 |k+1,i,kvs,vs,h,r=>by
  have hi:i<ps.length:=by omega
  obtain⟨h1,h2⟩:=hv i ps[i] (zak hi);rw[zbX hi];show KV (gx (ps.drop (i+1)) (b8 kvs ps[i].1 ps[i].2)) (v9 ks vals k (i+1) (stored vs (ks i) (vals i)));rw[h1];exact uS hv k (i+1) _ _ (by omega) (r.put _ h2)
def wQ(hc:X.calm=true):CallR X (.type "dict") (Io X.K):=by
 intro ρ s σ H xs us Q I r h;obtain⟨p,as,ps,rfl,hp,hps,q⟩:=h;obtain⟨u,rfl,ru⟩:=cS r;cases ru;obtain⟨its,rv,⟨ol,nl,g,g1,g2,g3⟩,hz⟩:=I.list hp;have hlt:p<s.heap.objs.size:=zal g;have la:as.length=ps.length:=Paired.length hps;have li:its.length=ps.length:=by rw[<-rv.length,zad,la]
 refine callType_codes (Q₁:=fun obj z=>obj=.ref s.heap.objs.size/\z={ s with heap:=s.heap.push { cls:=.type "dict",data:=.dict #[] } }) F.kt_called_dict (F.kt_typeCall_dict_1 _) F.entry_dict_init (kt_code_dict_new _ ⟨rfl,rfl⟩) ?_;rintro obj z ⟨rfl,rfl⟩;have new0:(s.heap.push { cls:=.type "dict",data:=.dict #[] }).DictOf (aM X.prog X.w) s.heap.objs.size []:=Heap.DictOf.new s.heap;have g':=zaf { cls:=.type "dict",data:=.dict #[] } g;refine⟨new0.typeIs,F.args_dict_init_2 _ _,?_⟩;unfold Builtin.«dict.__init__» Builtin.Dict.selfAndRest;refine zam (zam (wpAny_notOrdered_dict new0.typeIs ?_));refine zaT ?_;show wpAny _ _ (Builtin.Dict.updateFrom "dict.__init__" s.heap.objs.size (.ref p) [] .none) _ _ _;unfold Builtin.Dict.updateFrom;refine zam (wpAny_typeOf (T:="list") ⟨ol,g',g1⟩ ?_);rw[if_pos (by decide)];refine zam (xY g' g1 g3 g2 (show X.A.in1.in1.handled=none from I.ok.hd hc) fun h' tk hk=>?_);rw[if_pos (show(none:Option Value).isNone=true from rfl)];refine zam (wpAny_rule ?_);have pl':h'.IsList p its.toArray:=⟨ol,hk _ _ g',g1,nl,g3⟩;refine zam (wpAny_pyIter_list pl' ?_);have new1:(h'.push { cls:=.type "list_iterator",data:=.fields #[.ref p,.int 0 0] }).DictOf (aM X.prog X.w) s.heap.objs.size []:=by
  obtain⟨o,es,ep,e,r⟩:=new0;exact⟨o,es,ep,zaf _ (hk _ _ e),r⟩
 have dlt:s.heap.objs.size<h'.objs.size:=by
  obtain⟨o,es,ep,e,r⟩:=new0;exact zal (hk _ _ e)
 have plt:p<h'.objs.size:=zal (hk _ _ g');have hsz:its.toArray.size=ps.length:=by rw[zai,li]
 have tp:∀(i:Nat) (q:Key×V),ps[i]?=some q->∃a key val o m,as[i]?=some a/\s.heap.get? a=some o/\o.cls=.type "tuple"/\o.data=.seq #[key,val] m/\RelV (kV q.1) key/\RelV q.2 val:=fun i q hq=>by
  have hi:i<as.length:=by rw[la];exact(zah.mp hq).1
  obtain⟨q',h1,h2⟩:=Paired.at hps (zak hi);rw[h1]at hq;cases hq;obtain⟨ts,rt,⟨o,e,c,m,d⟩,_⟩:=I.tuple h2;cases rt with
  |cons r1 rt=>
   cases rt with
   |cons r2 rt=>
    cases rt;exact⟨_,_,_,o,m,zak hi,e,c,d,r1,r2⟩
 let kf:Nat->Key:=fun i=>((ps[i]?).map (·.1)).getD (.inl 0);let vf:Nat->Value:=fun i=>match as[i]? with
  |some a=>match s.heap.get? a with
   |some o=>match o.data with
    |.seq xs _=>(xs[1]?).getD .none
    |_=>.none
   |none=>.none
  |none=>.none
 have vfe:∀(i:Nat) (q:Key×V),ps[i]?=some q->kf i=q.1/\RelV q.2 (vf i):=fun i q hq=>by
  obtain⟨a,key,val,o,m,h1,h2,h3,h4,h5,h6⟩:=tp i q hq;refine⟨by show((ps[i]?).map (·.1)).getD _=_;rw[hq];rfl,?_⟩;show RelV q.2 (match as[i]? with
  |some a=>match s.heap.get? a with
   |some o=>match o.data with
    |.seq xs _=>(xs[1]?).getD .none
    |_=>.none
   |none=>.none
  |none=>.none)
  rw[h1];simp only[h2,h4];exact h6
 refine zaT ⟨plainId_quiet iY _,zc (I:=h'.objs.size) (fp:=[h'.objs.size,p]) (wr:=[h'.objs.size]) (knd:=aM X.prog X.w) (P:=fun i v=>its.toArray[i]?=some v)
  (Walks.list (A:=X.A.in1.in1) (show X.A.in1.in1.handled=none from I.ok.hd hc) h'.objs.size p (zaw plt) its.toArray).toS s.heap.objs.size ?_ kf vf s.heap ?_ its.toArray.size 0 _ 0 [] rfl (zbk _) ?_ new1 ?_ ?_ fun s' dd hm=>?_⟩
 ·intro z;have z':s.heap.objs.size=h'.objs.size\/s.heap.objs.size=p:=by simpa using z
  rcases z' with z'|z'
  ·exact zaw dlt z'
  ·exact Nat.ne_of_gt hlt z'
 ·intro i v hv;have hv':its[i]?=some v:=by simpa using hv
  have hi:i<ps.length:=by rw[<-li];exact(zah.mp hv').1
  obtain⟨a,key,val,o,m,h1,h2,h3,h4,h5,h6⟩:=tp i ps[i] (zak hi);obtain⟨u,hu,ru⟩:=rv.get (i:=i) (x:=.ref a) (by rw[zao,h1];rfl);have eu:=zat (hu.symm.trans hv');subst eu;have eu:u=Value.ref a:=ru;subst eu;have alt:a<s.heap.objs.size:=zal h2;have ev:vf i=val:=by
   have e1:vf i=(match as[i]? with
    |some a=>match s.heap.get? a with
     |some o=>match o.data with
      |.seq xs _=>(xs[1]?).getD Value.none
      |_=>Value.none
     |none=>Value.none
    |none=>Value.none):=rfl
   rw[e1,h1];simp only[h2,h4];rfl
  refine⟨a,o,key,m,rfl,?_,zaw alt,h2,h3,by rw[ev];exact h4,?_⟩
  ·intro z;have z':a=h'.objs.size:=by simpa using z
   exact zaw (Nat.lt_trans alt dlt) z'
  ·rw[(vfe i _ (zak hi)).1];exact i5 h5
 ·exact⟨⟨_,zan _ rfl,rfl,rfl⟩,pl'.push _⟩
 ·exact fun b o _ _ e=>zaf _ (hk _ _ (zaf _ e))
 ·rw[hsz];rw[zad,la]at hz;show 0+_<=_;omega
 ·obtain⟨hh,gn,dr,t2,os'⟩:=s';have x1:dr=s.drawn:=hm.drawn;have x2:os'=s.os:=hm.os;have x3:gn=s.gens:=hm.gens;subst x1 x2 x3;refine⟨rfl,.ref s.heap.objs.size,_,I.laid (t':=t2) (fun b o e=>hm.heap b o ?_ (zaf _ (hk _ _ (zaf _ e)))) (zav _) ?_,rfl,q _ (I.hok.fresh (zav _))⟩
  ·intro z;have z':b=s.heap.objs.size\/b=h'.objs.size:=by simpa using z
   rcases z' with z'|z'
   ·exact zaw (zal e) z'
   ·exact zaw (Nat.lt_trans (zal e) dlt) z'
  ·have kv:=uS vfe its.toArray.size 0 [] [] (by rw[hsz];rfl) .nil;rw[List.drop_zero]at kv;refine tG ?_ ?_ kv dd
   ·have:=n6 ps [];rw[zad,la]at hz;show _<=sizeLine;have e0:([]:List (Key×V)).length=0:=rfl;omega
   ·exact zbZ.mpr (Nat.ne_of_gt I.big)
def jF:List D->Option (List (Int×Int))
 |[]=>some []
 |.tuple [.int k,.int v]::r=>(jF r).map ((k,v)::·)
 |_::_=>none
def nq(l:List (Int×Int))(k v:Int):List (Int×Int):=if l.any (fun q=>decide (q.1=k))then l.map (fun q=>if q.1=k then(q.1,v)else q)else l++[(k,v)]
def j5(ps l:List (Int×Int)):List (Int×Int):=ps.foldl (fun l q=>nq l q.1 q.2) l
def tI:List D->Option D
 |[.list ts]=>(jF ts).map fun ps=>.dict ((j5 ps []).map fun q=>(.int q.1,.int q.2))
 |_=>none
def vI(l:List (Int×Int)):List (Key×V):=l.map fun q=>(.inl q.1,.int q.2)
def DU(l:List (Int×Int))(k v:Int):b8 (vI l) (.inl k) (.int v)=vI (nq l k v):=by
 have e:((vI l).any fun kv=>decide (kv.1=(Sum.inl k:Key)))=l.any fun q=>decide (q.1=k):=by
  unfold vI;rw[List.any_map];congr 1
  funext q
  show decide ((Sum.inl q.1:Key)=Sum.inl k)=_;rw[sL];rfl
 unfold b8 nq;rw[e];by_cases h:(l.any fun q=>decide (q.1=k))=true
 ·rw[if_pos h,if_pos h];unfold vI;rw[zaR,zaR];refine zbx fun q _=>?_;show(if(Sum.inl q.1:Key)=Sum.inl k then((Sum.inl q.1:Key),V.int v)else(.inl q.1,.int q.2))=(fun q:Int×Int=>((Sum.inl q.1:Key),V.int q.2)) (if q.1=k then(q.1,v)else q);by_cases hk:q.1=k
  ·rw[if_pos (by rw[hk]),if_pos hk]
  ·rw[if_neg (fun z=>hk (Sum.inl.inj z)),if_neg hk]
 ·rw[if_neg h,if_neg h];unfold vI;rw[zaC];rfl
theorem qE:∀(ps l:List (Int×Int)),gx (vI ps) (vI l)=vI (j5 ps l)
 |[],l=>rfl
 |q::ps,l=>by
  show gx (vI ps) (b8 (vI l) (.inl q.1) (.int q.2))=vI (j5 ps (nq l q.1 q.2));rw[DU,qE]
section
variable{O:AS} 
theorem De{d:Nat}:∀l:List (Int×Int),Owd K O H (l.map fun q=>(.int q.1,.int q.2)) d (vI l) NoA
 |[]=>rfl
 |q::l=>⟨.inl q.1,.int q.2,vI l,NoA,NoA,rfl,rfl,fun _ z=>z,fun _ z=>z,fun _ z=>z.elim,rfl,De l⟩
theorem qF:∀{ts:List D} {vs:List V} {ps:List (Int×Int)},Ows K O H ts 0 vs NoA->jF ts=some ps->∃as:List Addr,vs=as.map .ref/\Paired (fun a q=>SqT K H a [kV q.1,q.2]) as (vI ps)
 |[],_,_,h,hb=>by cases hb;cases(show _=[]from h);exact⟨[],rfl,.nil⟩
 |t::r,_,_,h,hb=>by
  obtain⟨v,w,F1,F2,e,_,_,_,h4,h5⟩:=h
  match t,hb with
  |.tuple [.int k,.int n],hb=>
   obtain⟨ps',h6,h7⟩:=zab.mp hb;subst e h7;obtain⟨as,rfl,pr⟩:=qF (Ows.any0 r h5) h6;obtain⟨p,us,rfl,fz,ow⟩:=(Ow.any0 _ h4).tup0;obtain⟨v1,w1,_,_,rfl,_,_,_,o1,ow⟩:=ow;obtain⟨v2,w2,_,_,rfl,_,_,_,o2,ow⟩:=ow;cases(show w2=[]from ow);cases(show v1=.int k from o1);cases(show v2=.int n from o2);exact⟨p::as,rfl,.cons fz.sq pr⟩
def AC(hK:X.K=K)(hc:X.calm=true):CallR X (.type "dict") (rFn K tI 1):=by
 subst hK;refine(wQ hc).imp ?_;rintro xs H Q ⟨O,as,t,oa,hd,hg,k⟩
 match as,hg with
 |[.list ts],hg=>
  obtain⟨ps,h1,rfl⟩:=zab.mp hg;obtain⟨v,rfl,o⟩:=oa.one;obtain⟨a,vs,rfl,fz,w⟩:=o.lst0;obtain⟨bs,rfl,pr⟩:=qF w h1;refine⟨a,bs,vI ps,rfl,fz.sq,pr,fun l hl=>?_⟩;have e:gx (vI ps) []=vI (j5 ps []):=qE ps [];rw[e];exact k (.ref l) _ _ (bB hl) ⟨l,_,rfl,.inr (.inl ⟨by decide,aA,rfl,NoA,fun _ z=>z.elim,De _⟩)⟩
end
def Ms(i:Nat)(fk fd:ME):ME:=fun en=>match (en[i]?).join with
 |some (.dict _)=>(fk en).bind fun r=>(fd r.2).bind fun q=>match (q.2[i]?).join with
  |some (.dict ks)=>(kOf r.1).map fun _=>((aJ ks r.1).getD q.1,q.2)
  |_=>none
 |_=>none
def iJ(f fk fd:ME):ME:=fun en=>(f en).bind fun z=>(fk z.2).bind fun r=>(fd r.2).bind fun q=>match z.1 with
 |.dict ks=>if noT ks=true then(kOf r.1).map fun _=>((aJ ks r.1).getD q.1,q.2)else none
 |_=>none
def Fv(h:tF K p ds ds2 0 (iJ f fk fd) σ H Q):xt (tF K p ds ds0 d f) (tF K p ds0 ds1 d1 fk) (tF K p ds1 ds2 0 fd) σ H Q:=by
 obtain⟨Ox,en,R,t,en',e,hf,k⟩:=h;unfold iJ at hf;obtain⟨⟨t1,en1⟩,h1,hf⟩:=zaa.mp hf;obtain⟨⟨t2,en2⟩,h2,hf⟩:=zaa.mp hf;obtain⟨⟨t3,en3⟩,h3,hf⟩:=zaa.mp hf;cases t1 with
 |dict ks=>
  have hf':(if noT ks=true then(kOf t2).map (fun _=>((aJ ks t2).getD t3,en3))else none)=some (t,en'):=hf;by_cases hk:noT ks=true
  ·rw[if_pos hk]at hf';obtain⟨q,hq,ee⟩:=zab.mp hf';cases ee;refine⟨Ox,en,R,.dict ks,en1,e,h1,fun x H1 R1 F1 P1 o1=>?_⟩;obtain⟨a,vs,ex,ha,_⟩:=(Ow.letgo P1 (fun _ z=>z) o1).dict0 hk;refine⟨a,ex,.inl ⟨_,ha⟩,two (p1:=p) (p2:=p) P1.env h2 h3 fun y z H3 R3 F2 F3 P o2 o3=>?_⟩;rw[zbl]at P;have PP:=P1.trans P;rw[zbl]at PP;obtain⟨a',vs',ex',ha',ow⟩:=(Ow.letgo PP (fun _=>.inl) (Ow.over P1.env P o1)).dict0 hk;have ea:a'=a:=by rw[ex]at ex';cases ex';rfl
   subst ea;have w3:=Ow.letgo PP (fun _ z=>.inr (.inr z)) (lQ▸o3);rw[fC hq]at k;refine⟨dG vs' q,by rw[gz hq o2];exact DGet.kr ha',?_⟩;rcases ow.look q with⟨t'',w,c1,c2,c3⟩|⟨c1,c2⟩
   ·rw[c1]at k;rw[c2];exact k w H3 R3 NoA (PP.less fun _ z=>z.elim) (by rw[fq];exact c3)
   ·rw[c1]at k;rw[c2];exact k z H3 R3 NoA (PP.less fun _ z=>z.elim) (by rw[fq];exact w3)
  ·rw[if_neg hk]at hf';cases hf'
 |_=>cases hf
def AM(hu:X.A.units+1<cLine)(ho:PE X o (tF K p ds ds0 d f))(hk:PE X k (tF K p ds0 ds1 d1 fk))(hc:PE X c (tF K p ds1 ds2 0 fd))(m:M2 X o "get" μ k c ω):
  PE X (.Call (.Attribute o "get" μ) [k,c] [] ω) (tF K p ds ds2 0 (iJ f fk fd)):=(zM hu ho hk hc m).imp fun _ _ _=>Fv
section
variable{prog:Program}{w:World}{A:Around}{E:Value->Shared->Prop}{s:Shared}
def yh{Q:Int->Shared->Prop}(h:Q (reduceHash 0xFCA86420) { s with toks:=s.toks+1 }):wpAny (model prog w) A (pyHash .none) Q E s:=by
 have ty:s.TypeIs .none "NoneType":=rfl;show wpAny _ _ (pyHashByItsType .none) Q E s;refine PySem.W.pyHash_slot ty F.slot_NoneType_hash F.entry_NoneType_hash (F.args_NoneType_hash_1 _) (by decide) (.inl rfl) ?_;obtain⟨hp,g,d,tk,os⟩:=s;unfold Builtin.«NoneType.__hash__»
 wp_walk
 exact⟨_,_,rfl,h⟩
def rD:Option Key->Value->Bool
 |none,.none=>true
 |none,_=>false
 |some k,v=>i4 k v
def cF{v:Value}(h:rD none v=true):v=.none:=by
 cases v<;>first|rfl|cases h
def Ec(prog:Program)(w:World):PySem.KeyKind prog w (Option Key) where
 is:=rD
 hash:=fun k=>match k with
  |none=>reduceHash 0xFCA86420
  |some k=>IX w k
 inj:=fun v a b ha hb=>by
  cases a with
  |none=>
   cases b with
   |none=>rfl
   |some k=>
    rw[cF ha]at hb;cases k<;>cases hb
  |some k=>
   cases b with
   |none=>
    rw[cF hb]at ha;cases k<;>cases ha
   |some j=>rw[(aM prog w).inj v k j ha hb]
 byValue:=fun k v h=>by
  cases k with
  |none=>rw[cF h];rfl
  |some k=>exact(aM prog w).byValue k v h
 pyHash:=fun {A E s k v Q} hv h=>by
  cases k with
  |none=>rw[cF hv];exact yh h
  |some k=>exact(aM prog w).pyHash (k:=k) hv h
 eqBool:=fun {A E s a b u v Q} hu hv h=>by
  cases a with
  |none=>
   rw[cF hu];cases b with
   |none=>
    rw[cF hv];unfold PySem.eqBool;exact zam (wpAny_rule (zaT (by simpa using h)))
   |some k=>
    have e:decide ((none:Option Key)=some k)=false:=rfl;rw[e]at h;rcases bj hv with⟨i,t,rfl,rfl⟩|⟨x,t,rfl,rfl⟩
    ·exact SeqAt.EqAt.none_int i t _ _ _ _ h
    ·exact SeqAt.EqAt.none_str x t _ _ _ _ h
  |some k=>
   cases b with
   |none=>
    rw[cF hv];have e:decide (some k=(none:Option Key))=false:=rfl;rw[e]at h;rcases bj hu with⟨i,t,rfl,rfl⟩|⟨x,t,rfl,rfl⟩
    ·exact SeqAt.EqAt.int_none i t _ _ _ _ h
    ·exact SeqAt.EqAt.str_none x t _ _ _ _ h
   |some j=>
    refine(aM prog w).eqBool (a:=k) (b:=j) hu hv ?_;have e:decide (k=j)=decide (some k=some j):=by
     rw[decide_eq_decide];exact⟨fun z=>by rw[z],fun z=>zat z⟩
    rw[e];exact h
 «strs»:=fun k x t v h=>by
  cases k with
  |none=>cases h
  |some k=>exact(aM prog w).strs k x t v h
def Ef{a:Addr}{vs:List (Key×Value)}{Q:Value->Shared->Prop}(hd:(a==sysModules)=false)(dd:s.heap.DictOf (aM prog w) a vs)(h:Q (.bool false) { s with toks:=s.toks+1 }):wpAny (model prog w) A (compareOp .In .none (.ref a)) Q E s:=by
 obtain⟨o,es,ep,ho,hc,hdat,hk,hp,_⟩:=dd;refine wpAny_in_of (knd:=Ec prog w) (k:=none) (f:=fun k=>findBy rD es k) rfl hd ⟨o,es,ep,ho,hc,hdat,fun e he=>?_,fun k=>rfl⟩ ?_
 ·obtain⟨k,h1,h2⟩:=hk e he;exact⟨some k,h1,h2⟩
 ·have e:findBy rD es none=none:=by
   unfold findBy;rw[Array.find?_eq_none.mpr]
   ·rfl
   ·intro x hx z;obtain⟨k,h1,_⟩:=hk x hx;rw[cF z]at h1;cases k<;>cases h1
  rw[e];exact h
end
def C6(ty td:TE):TE:=fun σ H Q=>ty σ H fun y H1=>td σ H1 fun x H2=>∃a,x=.ref a/\((y=.non/\∃kvs,Rd H2 a (.dK kvs)/\Q (.bl false) H2)\/∃o,DGet H2 a y o/\Q (.bl o.isSome) H2)
def lH:D->D->Option D
 |.none,.dict ks=>if noT ks=true then some (.bool false)else none
 |q,t=>dIn q t
section
variable{i:Expr}{ty td:TE}
def Eb(hu:X.A.units+1<cLine)(hi:PE X i ty)(ho:PE X o td):PC X .In i o (C6 ty td):=by
 intro ρ s σ H Q I h;refine thn (hi ρ s σ H _ I h) fun iv s1 ⟨y,H1,I1,ry,q1⟩=>thn (ho ρ s1 σ H1 _ I1 q1) fun u s2 ⟨x,H2,I2,rx,a,ex,q2⟩=>?_;subst ex;obtain rfl:u=Value.ref a:=rx;rcases q2 with⟨rfl,kvs,e,q2⟩|⟨ov,g,q2⟩
 ·obtain rfl:iv=Value.none:=ry;obtain⟨z,hd,vs,rel,dd⟩:=eX I2.hok e;exact Ef hd dd ⟨.bl false,H2,I2.tok _,rfl,q2⟩
 ·exact Ks hu I2 g ry fun s3 I3=>⟨.bl ov.isSome,H2,I3,rfl,q2⟩
def Ke(h:tF K p ds ds2 3 (e2 lH f1 f2) σ H Q):C6 (tF K p ds ds1 d1 f1) (tF K p ds1 ds2 d2 f2) σ H Q:=by
 obtain⟨Ox,en,R,t,en',e,hf,k⟩:=h;unfold e2 at hf;obtain⟨⟨t1,en1⟩,h1,hf⟩:=zaa.mp hf;obtain⟨⟨t2,en2⟩,h2,hf⟩:=zaa.mp hf;obtain⟨t',h3,hf⟩:=zab.mp hf;cases hf;refine two (p1:=p) (p2:=p) e h1 h2 fun x y H2 R2 F1 F2 P o1 o2=>?_;rw[zbl]at P;have w2:=Ow.letgo P (fun _=>.inr) o2;by_cases hn:t1=.none
 ·subst hn;cases t2 with
  |dict ks=>
   have h4:(if noT ks=true then some (PyData.bool false)else none)=some t:=h3;by_cases hk:noT ks=true
   ·rw[if_pos hk]at h4;cases h4;obtain⟨a,vs,ex,ha,ow⟩:=w2.dict0 hk;exact⟨a,ex,.inl ⟨o1,vs,ha,k _ H2 R2 NoA (P.less fun _ z=>z.elim) rfl⟩⟩
   ·rw[if_neg hk]at h4;cases h4
  |_=>cases h3
 ·have h3':dIn t1 t2=some t:=by
   cases t1 with
   |none=>exact absurd rfl hn
   |_=>cases t2<;>exact h3
  cases t2 with
  |dict ks=>
   have h4:(if noT ks=true then(kOf t1).map (fun _=>PyData.bool (aJ ks t1).isSome)else none)=some t:=h3';by_cases hk:noT ks=true
   ·rw[if_pos hk]at h4;obtain⟨q,hq,e⟩:=zab.mp h4;subst e;obtain⟨a,vs,ex,ha,ow⟩:=w2.dict0 hk;refine⟨a,ex,.inr ⟨dG vs q,by rw[gz hq o1];exact DGet.kr ha,?_⟩⟩;rw[fC hq]at k;rcases ow.look q with⟨t',v,a1,a2,a3⟩|⟨z1,z2⟩
    ·rw[a1]at k;rw[a2];exact k _ H2 R2 NoA (P.less fun _ z=>z.elim) rfl
    ·rw[z1]at k;rw[z2];exact k _ H2 R2 NoA (P.less fun _ z=>z.elim) rfl
   ·rw[if_neg hk]at h4;cases h4
  |_=>cases t1<;>cases h3'
def EG(hu:X.A.units+1<cLine)(ha:PE X a (tF K p ds ds1 d1 f1))(hb:PE X b (tF K p ds1 ds2 d2 f2))(h1:behindInMarks .In b=false):PT X (.Compare a [.In] [b] pos) (tFT K p ds ds2 (tV (e2 lH f1 f2))):=
 (se ((Eb hu ha hb).imp fun _ _ _=>Ke) h1).imp fun _ _ _=>jJ
end
def oM(hu:X.A.units+1<cLine)(ho:QE X o (tF K p ds ds0 d f))(hk:QE X k (tF K p ds0 ds1 d1 fk))(hc:QE X c (tF K p ds1 ds2 0 fd))(m:M2 X o "get" μ k c ω):QE X (.Call (.Attribute o "get" μ) [k,c] [] ω) (tF K p ds ds2 0 (iJ f fk fd)):=⟨AM hu ho.h hk.h hc.h m⟩
def lu(hu:X.A.units+1<cLine)(ha:QE X a (tF K p ds ds1 d1 f1))(hb:QE X b (tF K p ds1 ds2 d2 f2))(h1:behindInMarks .In b=false):QT X (.Compare a [.In] [b] pos) (tFT K p ds ds2 (tV (e2 lH f1 f2))):=⟨EG hu ha.h hb.h h1⟩
end L2
namespace L2
open PySem PySem.Spec PyProof.Rows Builtin
def rP:List D->Option D
 |[.list ts]=>(cv ts).bind fun ns=>grd (fc ns) (.list ((cT ns).map .int))
 |_=>none
section
variable{X:Cx}{K:zb7}
def AA(hK:X.K=K):CallR X (.builtin "sorted") (rFn K rP 1):=by
 subst hK;intro ρ s σ H xs us Q I r ⟨O,as,t,oa,hd,hr,k⟩
 match as,hr with
 |[.list ts],hr=>
  obtain⟨ns,h1,h2⟩:=zaa.mp hr;obtain⟨cs,rfl⟩:=cK h2;obtain⟨v,rfl,o⟩:=oa.one;obtain⟨a,vs,rfl,fz,w⟩:=o.lst0;have e:=j7 w h1;subst e;obtain⟨u,rfl,ru⟩:=cS r;cases ru;obtain⟨its,rv,pl,hz⟩:=I.list fz.sq;have hI:IntsAre its ns:=oE rv;have hn:its.length=ns.length:=hI.length;have n5:ns.length<=5000:=by
   rcases cs with c|c
   ·omega
   ·exact c.2
  refine Calls.call_function_entry kind_sorted plain_sorted entry_sorted (args_sorted1 _) ?_;unfold Builtin.«sorted»;refine zam (m:=checkCount "sorted" 1 1 _) (zaT ?_);have l5:its.length<=sizeLine:=zau (show its.length<=5000 by omega) (by decide);refine zam (collect_list pl.isList ?_ l5);refine zam (wpAny_newList ?_ l5);obtain⟨h1,e1⟩:∃h1,h1=(s.heap.push (seqObj "list" #[] 0)).update s.heap.objs.size (Obj.mapSeq (·++its.toArray)):=⟨_,rfl⟩;rw[<-e1];have hk:∀b o,s.heap.get? b=some o->h1.get? b=some o:=fun b o q=>by
   rw[e1,Heap.get?_update_ne _ _ _ _ (zaw (zal q))];exact zaf _ q
  have hoL:(h1.push (seqObj "list" its.toArray 0)).get? h1.objs.size=some (seqObj "list" its.toArray 0):=zan _ rfl;refine zam (zb1 (wpAny_call_entry slot_list_sort ⟨_,hoL,rfl⟩ entry_list_sort (rO hoL hI (by omega) (cs.imp (fun c=>by omega) fun c=>u4 hI c.1) fun out ns' a1 a2 a3=>⟨_,rfl,?_⟩) (args_list_sort _)));refine zaT ⟨_,rfl,?_⟩;have e2:ns'=cT ns:=iw (a2.trans (cD ns).symm) a3 (cW ns);subst e2;obtain⟨e,he⟩:=sortedHeap_at (out:=out) hoL;have I1:=I.kept (t':=s.toks) hk;have k2:∀b o,h1.get? b=some o->(sortedHeap (h1.push (seqObj "list" its.toArray 0)) h1.objs.size its out).get? b=some o:=fun b o q=>by
   have hb:=zal q;rw[sortedHeap_old (zaw hb) (by rw[size_push'];exact Nat.lt_succ_of_lt hb)];exact zaf _ q
  have hsl:(cT ns).length=ns.length:=(cD ns).length_eq;have hp:H h1.objs.size=none:=I1.hok.fresh (zav _);refine⟨.ref _,_,I1.laid (a:=h1.objs.size) (o:=.lst ((cT ns).map V.int)) (t':=s.toks) k2 (zav _) ⟨by rw[zad,hsl];omega,out.toList,e,k6 a1,?_⟩,rfl,k _ _ _ (bv hp hd (gy (K:=X.K) _)).1 (bv hp hd (gy (K:=X.K) _)).2⟩;rw[show out.toList.toArray=out from rfl];exact he
end
end L2
namespace L2
open PySem PySem.Spec PyProof.Rows PySem.Calls
def xV:typeLookup (.type "list_reverseiterator") "__len__"=pure none:=by rw[typeLookup_type,builtinLookup_eq_fast];kernel_rfl
def zV:typeLookup (.type "list_reverseiterator") "__length_hint__"=pure (some (.builtin "list_reverseiterator.__length_hint__")):=by rw[typeLookup_type,builtinLookup_eq_fast];kernel_rfl
section
variable{prog:Program}{w:World}{A:Around}{E:Value->Shared->Prop}{s:Shared}
def Aq{r:Addr}{Q:Bool->Shared->Prop}(hT:s.TypeIs (.ref r) "list_reverseiterator")(h:Q false s):wpAny (model prog w) A (Builtin.List.listLengthHint (.ref r)) Q E s:=by
 unfold Builtin.List.listLengthHint;refine zam (wpAny_specialOf hT xV ?_);show wpAny _ A (specialOf (Value.ref r) (Str.ofString "__length_hint__") >>= _) _ _ _;refine zam (wpAny_specialOf hT zV ?_);generalize hid:("list_reverseiterator.__length_hint__":String)=id0
 wp_delta
 rw[show splitId id0=some ("list_reverseiterator","__length_hint__")from by subst hid;decide +kernel];subst hid;refine zam (wpAny_isInstance (b:=true) hT (by rw[isSubtype_type];kernel_rfl) ?_);exact zaT h
def zW{I l:Addr}{items:Array Value}{Q:Value->Shared->Prop}(hh:A.handled=none)(hne:l≠I)(h0:s.heap.IsRevIter I l ((items.size:Int)-1))(hl:s.heap.IsList l items)(hn:items.size<=sizeLine)
  (hQ:∀h' tk acc c',(∀b o,b≠I->s.heap.get? b=some o->h'.get? b=some o)->h'.get? s.heap.objs.size=some { cls:=.type "list",dict:=none,data:=.seq acc c',slots:=#[] }->ItemsOf (fun i v=>items[items.size-1-i]?=some v) acc items.size->Q (.ref s.heap.objs.size) { s with heap:=h',toks:=tk }):
  wpAny (model prog w) A (call (.type "list") [.ref I]) Q E s:=by
 refine callType_codes (Q₁:=fun obj s₁=>obj=.ref s.heap.objs.size/\s₁={ s with heap:=s.heap.push { cls:=.type "list",data:=.seq #[] } }) PySem.F.called_list (PySem.F.typeCall_list_1 _) PySem.F.entry_list_init
  (code_list_new _ ⟨rfl,rfl⟩) fun obj s₁ h₁=>?_
 obtain⟨rfl,rfl⟩:=h₁;obtain⟨S,eS⟩:∃S,S=s.heap.objs.size:=⟨_,rfl⟩;rw[<-eS]at hQ ⊢;have hS:(s.heap.push { cls:=.type "list",data:=.seq #[] }).get? S=some { cls:=.type "list",data:=.seq #[] }:=by rw[eS];exact zan _ rfl
 have lI:S≠I:=by
  obtain⟨o,ho,_⟩:=id h0;rw[eS];exact Nat.ne_of_gt (zal ho)
 have lL:S≠l:=by
  obtain⟨o,ho,_⟩:=id hl;rw[eS];exact Nat.ne_of_gt (zal ho)
 have hSf:S∉[I,l]:=by simp only[zay,List.not_mem_nil,or_false,not_or];exact⟨lI,lL⟩
 refine⟨⟨_,hS,rfl⟩,PySem.F.args_list_init_2 _ _,?_⟩;have h0':=h0.at (h':=s.heap.push { cls:=.type "list",data:=.seq #[] }) fun o e=>zaf _ e;have hl':=hl.at (h':=s.heap.push { cls:=.type "list",data:=.seq #[] }) fun o e=>zaf _ e;show wpAny _ _ (Builtin.List.listItems (.ref S) >>= fun old=>Builtin.List.listUpdate (.ref S) (fun _=>#[]) >>= fun _=>letGo old.toList.reverse >>= fun _=>Builtin.List.listExtendWith (.ref S) (.ref I) .none) _ _ _;refine zam (listItems_at hS rfl (zam (listUpdate_at hS rfl (zam (wpAny_letGo ?_)))));have hS₂:=Heap.get?_update_self (Obj.mapSeq (fun _=>(#[]:Array Value))) hS rfl;have oth:∀b o,b≠S->s.heap.get? b=some o->((s.heap.push { cls:=.type "list",data:=.seq #[] }).update S (Obj.mapSeq fun _=>(#[]:Array Value))).get? b=some o:=fun b o hb e=>(zbA _ _ (Ne.symm hb)).trans (zaf _ e);have hI2:=h0.at (h':=(s.heap.push { cls:=.type "list",data:=.seq #[] }).update S (Obj.mapSeq fun _=>(#[]:Array Value))) fun o e=>oth I o (Ne.symm lI) e;have hl2:=hl.at (h':=(s.heap.push { cls:=.type "list",data:=.seq #[] }).update S (Obj.mapSeq fun _=>(#[]:Array Value))) fun o e=>oth l o (Ne.symm lL) e;have W:=Walks.listRev (prog:=prog) (w:=w) (A:=A.in1.in1) hh I l hne items;unfold Builtin.List.listExtendWith;refine zam (wpAny_typeOf hI2.typeIs ?_);have q1:Builtin.List.listSameRef (.ref S) (.ref I)=false:=by simp[Builtin.List.listSameRef,lI]
 have q2:(Value.type "list_reverseiterator"==Value.type "list")=false:=by decide
 have q3:(Value.type "list_reverseiterator"==Value.type "tuple")=false:=by decide
 simp only[q1,q2,q3,Bool.or_false,Bool.false_eq_true,if_false];refine zam (wpAny_pyIter_revIter hI2 (zam (zb1 (Aq hI2.typeIs ?_))));rw[if_neg (by decide)];refine zaT ⟨plainId_quiet PySem.F.plain_extend_loop _,codeAny_extend_loopS W.toS hn S hSf .none items.size 0 _ #[] _ rfl (zbk _) ⟨zbk _,by simpa using hI2,hl2⟩ hS₂ (ItemsOf.nil _) fun s' acc c' hm hS' hacc=>?_⟩;rw[Moved.eq_with hm];refine⟨rfl,hQ s'.heap s'.toks acc c' (fun b o hb e=>?_) hS' hacc⟩;have bS:b≠S:=by
  rw[eS];exact zaw (zal e)
 exact hm.heap b o (fun z=>by
  rcases zay.mp z with z|z
  ·exact bS z
  ·exact hb (zaH.mp z)) (oth b o bS e)
end
end L2
namespace L2
variable{X:Cx}{e tg:Expr}{p1 p2 q1 pos px ω:Pos}{K:zb7}{p:Bool}{ds ds1:List Nat}{fa:MA}{σ:St}{H:Hp}{Q:VK}{O:AS}{t:D}{d ep i:Nat}{f:ME}{s:Shared}{a:Addr}{w:World}{u:HO}{ks:List (D×D)}{vs:List (Key×V)}{prog:Program}{A:Around}
open PySem PySem.Spec PyProof.Rows
def HI(K:zb7)(ta:TA):TE:=fun σ H Q=>ta σ H fun vs H1=>∃a xs,vs=[.ref a]/\SqL K H1 a xs/\∀l,H1 l=none->Q (.ref l) (upd H1 l (.lst xs.reverse))
def D7{ta:TA}(hc:X.calm=true)(hgl:Gl X "list")(hml:X.mg "list"=none)(hg:Gl X "reversed")(hm:X.mg "reversed"=none)(ha:PA X [e] ta)(hs:starEach [e] X.env=[(false,eval e X.env)]:=by rfl):
  PE X (.Call (.Name "list" p1) [.Call (.Name "reversed" p2) [e] [] q1] [] pos) (HI X.K ta):=by
 intro ρ s σ H Q I h;refine wpAny_Call_Name_kw (eP I hgl hml (show bootBuiltins "list"=some (.type "list")by decide +kernel) (PyProof.Rows.callWith_type1 ?_ rfl rfl) (by decide) (by decide));show wpAny _ _ (spliced ((false,eval (.Call (.Name "reversed" p2) [e] [] q1) X.env)::backTo pos (starEach [] X.env))) _ _ s;refine Calls.spliced_cons (Call_ (eP I hg hm (show bootBuiltins "reversed"=some (.type "reversed")by decide +kernel) (PyProof.Rows.callWith_type1 (thn (ha q1 ρ s σ H _ I h) fun us s1 ⟨vs,H1,I1,r1,q1⟩=>?_) hs rfl)));obtain⟨a,xs,e,sq,q⟩:=q1;subst e;cases r1 with
 |cons r rr=>
  cases rr;cases r;obtain⟨its,rv,pl,hz⟩:=I1.list sq;refine call_reversed_list pl.isList (Calls.spliced_nil ?_);have la:a<s1.heap.objs.size:=by
   obtain⟨o,ho,_⟩:=pl.isList;exact zal ho
  have hl:its.length=xs.length:=rv.length.symm;refine zW (I:=s1.heap.objs.size) (l:=a) (items:=its.toArray) (I1.ok.hd hc) (zaw la) ⟨_,zan _ rfl,rfl,rfl⟩ (pl.isList.at fun o e=>zaf _ e) (by rw[zai,hl];exact hz) fun h' tk acc c' hk ho hi=>?_;have rv':Vals xs.reverse acc.toList:=gg (by
   have h1:=hi.1;have h2:its.toArray.size=its.length:=zai ..;have h3:acc.toList.length=acc.size:=zaY;rw[List.length_reverse];omega) fun i x v e1 e2=>by
   have hv:=hi.2 i v (by simpa using e2);rw[zai,List.getElem?_toArray]at hv;have hix:i<xs.length:=by
    have:=(zah.mp e1).1
    rwa[List.length_reverse]at this
   rw[List.getElem?_reverse hix]at e1;rw[hl]at hv;obtain⟨u,hu,ru⟩:=rv.get e1;rw[hu]at hv;cases hv;exact ru
  have hk':∀b o,s1.heap.get? b=some o->h'.get? b=some o:=fun b o e=>hk b o (zaw (zal e)) (zaf _ e);have ea:(s1.heap.push (revObj a ((its.toArray.size:Int)-1))).objs.size=s1.heap.objs.size+1:=size_push' ..;have hp:H1 (s1.heap.objs.size+1)=none:=I1.hok.fresh (Nat.le_succ _);rw[ea]at ho ⊢;exact⟨.ref _,_,I1.laid (a:=s1.heap.objs.size+1) (o:=.lst xs.reverse) (t':=tk) hk' (Nat.le_succ _) ⟨by rw[List.length_reverse];exact hz,acc.toList,c',rv',by simpa using ho⟩,rfl,q _ hp⟩
def rE:List D->Option D
 |[.list ts]=>some (.list ts.reverse)
 |_=>none
section
variable{sh:List (Nat ⊕ Nat)}   
def J9(hs:cf 0 sh=true)(h:tF K p ds ds1 1 (eN rE fa) σ H Q):HI K (tFA K p ds ds1 sh fa) σ H Q:=by
 obtain⟨Ox,en,R,as,en1,e,h1,k⟩:=tw hs h;refine⟨Ox,en,R,as,en1,e,h1,fun vs H1 R1 F P o=>?_⟩;obtain⟨O,ts,t,oa,hd,hg,k2⟩:=k vs H1 R1 F P o
 match ts,hg with
 |[.list ts],hg=>
  cases hg;obtain⟨v,rfl,ov⟩:=oa.one;obtain⟨a,vs,rfl,fz,w⟩:=ov.lst0;refine⟨a,vs,rfl,fz.sq,fun l hl=>?_⟩;exact k2 _ _ _ (bv hl hd w.rev).1 (bv hl hd w.rev).2
def yC(hK:X.K=K)(hc:X.calm=true)(hgl:Gl X "list")(hml:X.mg "list"=none)(hg:Gl X "reversed")(hm:X.mg "reversed"=none)(ha:QA X [e] (tFA K p ds ds1 sh fa))(hsh:cf 0 sh=true)(hs:aD e=true):
  QE X (.Call (.Name "list" p1) [.Call (.Name "reversed" p2) [e] [] q1] [] pos) (tF K p ds ds1 1 (eN rE fa)):=by
 subst hK;exact⟨(D7 hc hgl hml hg hm ha.h (aR hs)).imp fun _ _ _=>J9 hsh⟩
end
def scaD:D->Bool
 |.none=>true
 |.bool _=>true
 |.int _=>true
 |.str _=>true
 |_=>false
def eS3(f:ME):ME:=fun en=>(f en).bind fun r=>if scaD r.1=true then some r else none
def Ow.scaD{O':AS}{H':Hp}{d':Nat}{v:V}{F F':AS}(hs:L2.scaD t=true)(h:Ow K O H t d v F):Ow K O' H' t d' v F':=by
 cases t<;>first|exact h|cases hs
def Mg(h:tF K p ds ds1 3 (eS3 f) σ H Q):tF K p ds ds1 d f σ H Q:=by
 obtain⟨Ox,en,R,t,en',e,hf,k⟩:=h;unfold eS3 at hf;obtain⟨⟨t1,en1⟩,h1,hf⟩:=zaa.mp hf;by_cases hs:scaD t1=true
 ·dsimp only at hf
  rw[if_pos hs]at hf;cases hf;exact⟨Ox,en,R,_,_,e,h1,fun v H' R' F P o=>k v H' R' F P (o.scaD hs)⟩
 ·dsimp only at hf
  rw[if_neg hs]at hf;cases hf
def Ff(h:QE X e (tF K p ds ds1 d f)):QE X e (tF K p ds ds1 3 (eS3 f)):=⟨h.h.imp fun _ _ _=>Mg⟩
def KL(o:Obj)(ep:Nat):Prop:=∃es,o.data=.dict es ep
def FzD(H:Hp)(d:Addr)(kvs:List (Key×V))(ep:Nat):Prop:=∃o,H d=some (.frz o (.dK kvs))/\KL o ep
def Itk(d:Addr)(kvs:List (Key×V))(ep:Nat):It:=
 ⟨fun i H=>FzD H d kvs ep/\i<kvs.length,fun i H x H'=>H'=H/\∃kv,kvs[i]?=some kv/\x=kV kv.1,fun i H=>FzD H d kvs ep/\kvs.length<=i⟩
section
variable{ρ:List (Addr×Obj)}{kvs:List (Key×V)} 
def sV(I:Inv X ρ σ H s)(h:FzD H a kvs ep):(a==sysModules)=false/\∃vs,KV kvs vs/\s.heap.DictAt (aM X.prog X.w) a vs ep:=by
 obtain⟨o,h1,es0,h2⟩:=h;obtain⟨g1,_,hd,vs,rel,o',es,ep',g2,g3,g4,g5⟩:=(show ObjOk X.prog X.w H s.heap a (.frz o (.dK kvs))from I.hok a _ h1);rw[g1]at g2;cases g2;have e:=g4.symm.trans h2;injection e with e1 e2
 subst e2;exact⟨hd,vs,rel,o,es,g1,g3,g4,g5⟩
def Inv.freeze(I:Inv X ρ σ H s)(e:H a=some (.dK kvs)):∃o ep,KL o ep/\Inv X ρ σ (upd H a (.frz o (.dK kvs))) s:=by
 obtain⟨z,hd,vs,rel,o,es,ep,g1,g2,g3,g4⟩:=wM I.hok e;refine⟨o,ep,⟨es,g3⟩,?_⟩;exact I.write (x:=a) (e:=a) (h':=s.heap) (t':=s.toks) (by rw[e];exact True.intro) (.inl rfl) (fun b u _ q=>q) ⟨o,g1⟩ ⟨g1,z,hd,vs,rel,o,es,ep,g1,g2,g3,g4⟩
def Lm{vs:List (Key×Value)}(rel:KV kvs vs)(hi:i<kvs.length):∃kv v,kvs[i]?=some kv/\vs[i]?=some (kv.1,v)/\RelV kv.2 v:=by
 induction rel generalizing i with
 |nil=>simp at hi
 |@cons p q r t hpq hr ih=>
  cases i with
  |zero=>exact⟨p,q.2,rfl,by rw[hpq.1];rfl,hpq.2⟩
  |succ j=>exact ih (by simpa using hi)
def xm{P:Program}(d it:Addr)(kvs:List (Key×V))(ep:Nat):Turn P w K tg (Itk d kvs ep) [it] it (fun i h=>h.IsKeyIter it d i kvs.length ep) where
 mem:=by simp
 obj:=fun i h st b hb=>by
  have e:b=it:=by simpa using hb
  subst e;obtain⟨o,e,c,d⟩:=st;exact⟨o,e,fun v z=>by rw[d]at z;cases z⟩
 keep:=fun i h h' st k=>st.at fun o e=>k it (by simp) o e
 item:=by
  intro X hP hw hK hc i ρ s σ H E I hf st hg;subst hP hw hK;obtain⟨fz,hi⟩:=hg;obtain⟨hd,vs,rel,dd⟩:=sV I fz;obtain⟨f0,f1,f2,f3,f4,f5⟩:=hf it (by simp);have hl:kvs.length=vs.length:=rel.length;obtain⟨kv,x,hkv,hx,_⟩:=Lm rel hi;rw[hl]at st;refine wpAny_pyNext_dict_item st dd hx fun key h' hkey hit' hs'=>?_;have I1:Inv X ρ σ H { s with heap:=h' }:=I.turned (t':=s.toks) (fun b o hb e=>hs'.extBut b o hb e) f0 f1 f3 f4 f5;obtain⟨o',e',c',d'⟩:=id hit';exact⟨key,rfl,oG (s:={ s with heap:=h' }) e' c' d' (by decide) ⟨kV kv.1,H,I1,yc hkey,⟨rfl,kv,hkv,rfl⟩,(by rw[hl];exact hit'),fun b hb=>(hf b hb).1⟩⟩
 done:=by
  intro X hP hw hK hc i ρ s σ H E I hf st hg;subst hP hw hK;obtain⟨fz,hi⟩:=hg;obtain⟨hd,vs,rel,dd⟩:=sV I fz;obtain⟨f0,f1,f2,f3,f4,f5⟩:=hf it (by simp);have hl:kvs.length=vs.length:=rel.length;rw[hl]at st;exact wpAny_pyNext_dict_end (I.ok.hd hc) st dd (zbm (by omega)) fun h' eb=>⟨rfl,I.turned (t':=s.toks) (fun b o hb e=>eb b o hb e) f0 f1 f3 f4 f5⟩
 self:=fun _ _ _ _ _ st h=>wpAny_pyIter_keyiter st h
end
section
variable{l:Addr}{ws:List (Key×V)}{ob:Obj}
def xE(hl:H l=some (.dK ws))(h:Rd H a u):Rd (upd H l (.frz ob (.dK ws))) a u:=by
 by_cases e:a=l
 ·subst e;rcases h with h|⟨o,h⟩
  ·rw[hl]at h;cases h;exact .inr ⟨ob,aA⟩
  ·rw[hl]at h;cases h
 ·exact h.mv fun o q=>by rw[aE e];exact q
def lg(hl:H l=some (.dK ws))(h:H a=some u)(n:u≠.dK ws):upd H l (.frz ob (.dK ws)) a=some u:=by
 rw[aE fun e=>?_]
 ·exact h
 ·subst e;rw[hl]at h;cases h;exact n rfl
mutual
theorem Ow.frzd(hl:H l=some (.dK ws)):∀(t:D) {d:Nat} {v:V} {F:AS},¬F l->Ow K O H t d v F->Ow K O (upd H l (.frz ob (.dK ws))) t d v F
 |.none,_,_,_,_,h=>h
 |.bool _,_,_,_,_,h=>h
 |.int _,_,_,_,_,h=>h
 |.str _,_,_,_,_,h=>h
 |.tuple ts,_,_,_,g,h=>by
  obtain⟨a,vs,e,⟨h0,h1,h2⟩|⟨h0,h1,h2,F',hf,h3⟩⟩:=h
  ·exact⟨a,vs,e,.inl ⟨h0,⟨lg hl h1.1 (fun z=>nomatch z),h1.2⟩,Ows.frzd hl ts g h2⟩⟩
  ·exact⟨a,vs,e,.inr ⟨h0,lg hl h1 (fun z=>nomatch z),h2,F',hf,Ows.frzd hl ts (fun z=>g (hf _ z).1) h3⟩⟩
 |.list ts,_,_,_,g,h=>by
  obtain⟨a,vs,e,⟨h0,h1,h2⟩|⟨h0,h1,h2,F',hf,h3⟩⟩:=h
  ·exact⟨a,vs,e,.inl ⟨h0,h1.imp (fun h=>⟨xE hl h.1,h.2⟩) id,Ows.frzd hl ts g h2⟩⟩
  ·exact⟨a,vs,e,.inr ⟨h0,lg hl h1 (fun z=>nomatch z),h2,F',hf,Ows.frzd hl ts (fun z=>g (hf _ z).1) h3⟩⟩
 |.dict ks,_,_,_,g,h=>by
  obtain⟨a,vs,e,⟨h0,h1,hn,h2⟩|⟨h0,h1,h2,F',hf,h3⟩|⟨h0,ht⟩⟩:=h
  ·exact⟨a,vs,e,.inl ⟨h0,xE hl h1,hn,Owd.frzd hl ks g h2⟩⟩
  ·refine⟨a,vs,e,.inr (.inl ⟨h0,?_,h2,F',hf,Owd.frzd hl ks (fun z=>g (hf _ z).1) h3⟩)⟩;have na:a≠l:=fun z=>g (by rw[<-z];exact h2);rw[aE na];exact h1
  ·refine⟨a,vs,e,.inr (.inr ⟨h0,?_⟩)⟩;rcases ht with⟨kk,b,h1,h2,h3⟩|⟨x,C,h1,h0',h2,h3⟩
   ·exact .inl ⟨kk,b,h1,lg hl h2 (fun z=>nomatch z),h3⟩
   ·exact .inr ⟨x,C,h1,h0',lg hl h2 (fun z=>nomatch z),h3⟩
theorem Ows.frzd(hl:H l=some (.dK ws)):∀(ts:List D) {d:Nat} {vs:List V} {F:AS},¬F l->Ows K O H ts d vs F->Ows K O (upd H l (.frz ob (.dK ws))) ts d vs F
 |[],_,_,_,_,h=>h
 |t::ts,_,_,_,g,h=>by
  obtain⟨v,r,F1,F2,e,h1,h2,h3,h4,h5⟩:=h;exact⟨v,r,F1,F2,e,h1,h2,h3,Ow.frzd hl t (fun z=>g (h1 _ z)) h4,Ows.frzd hl ts (fun z=>g (h2 _ z)) h5⟩
theorem Owd.frzd(hl:H l=some (.dK ws)):∀(ts:List (D×D)) {d:Nat} {vs:List (Key×V)} {F:AS},¬F l->Owd K O H ts d vs F->Owd K O (upd H l (.frz ob (.dK ws))) ts d vs F
 |[],_,_,_,_,h=>h
 | (k,t)::ts,_,_,_,g,h=>by
  obtain⟨q,v,r,F1,F2,e,e2,h1,h2,h3,h4,h5⟩:=h;exact⟨q,v,r,F1,F2,e,e2,h1,h2,h3,Ow.frzd hl t (fun z=>g (h1 _ z)) h4,Owd.frzd hl ts (fun z=>g (h2 _ z)) h5⟩
end
def Owd.get{k:D}(h:Owd K O H ks 0 vs NoA)(hi:ks[i]?=some (k,t)):∃q v,vs[i]?=some (q,v)/\k=kD q/\Ow K O H t 0 v NoA:=by
 induction ks generalizing vs i with
 |nil=>simp at hi
 |cons p ks ih=>
  obtain⟨k',t'⟩:=p;obtain⟨q,v,r,F1,F2,e,e2,h1,h2,h3,h4,h5⟩:=h;subst e;cases i with
  |zero=>
   cases hi;exact⟨q,v,rfl,e2,Ow.any0 _ h4⟩
  |succ j=>
   obtain⟨q',v',g1,g2,g3⟩:=ih (vs:=r) (i:=j) (Owd.any0 ks h5) (by simpa using hi);exact⟨q',v',by simpa using g1,g2,g3⟩
end
def kys(ks:List (D×D)):List D:=ks.map fun q=>q.1
theorem n8{K:zb7}{O:AS}{H:Hp}:∀{ks:List (D×D)} {vs:List (Key×V)} {d:Nat} {F:AS},Owd K O H ks d vs F->vs.length=ks.length
 |[],_,_,_,h=>by rw[show _=[]from h];rfl
 | (k,t)::ks,_,_,_,h=>by
  obtain⟨q,v,r,F1,F2,e,_,_,_,_,_,h5⟩:=h;rw[e,zac,zac,n8 h5]
def xh(hf:FzD H a vs ep)(hn:¬O a)(ow:Owd K O H ks 0 vs NoA):ju K O H (Itk a vs ep) (kys ks):=fun i H1 O1 h1 h2 h3=>by
 have fz:FzD H1 a vs ep:=let⟨o,e,q⟩:=hf;⟨o,h1 a _ e hn,q⟩;have hl:=n8 ow;refine⟨fun t ht=>?_,fun hl2=>⟨fz,by unfold kys at hl2;rw[zad]at hl2;omega⟩⟩;unfold kys at ht;rw[zao]at ht;obtain⟨⟨k,u⟩,h4,rfl⟩:=zab.mp ht;obtain⟨q,v,h5,rfl,_⟩:=ow.get h4;refine⟨⟨fz,(zah.mp h5).1⟩,fun x H2 ⟨e,kv,h6,h7⟩=>?_⟩;rw[h5]at h6;cases h6;subst e h7;refine⟨fun _ _ q=>q,?_⟩;cases q<;>exact rfl
def iDk(kp:Bool)(i:Nat):MI:=fun en=>match (en[i]?).join with
 |some (.dict ks)=>some (kys ks,if kp then en else en.set i none)
 |_=>none
section
variable{Ox:AS}{en:En}{R:Nat->AS} 
def zH(e:EnvOk K ds Ox H σ en R)(g0:en[i]?=some (some (.dict ks)))(hi:ds[i]?=some d)(hd:d≠0)(kp:Bool)(h1:(if kp then ds.set i 0 else ds)=ds1):
  ∃a vs,σ[i]?=some (some (.ref a))/\H a=some (.dK vs)/\∀ob,Post K false ds1 Ox σ H en R (if kp then en else en.set i none) (upd H a (.frz ob (.dK vs))) (fun s b=>s≠i/\R s b) NoA/\¬Own (fun s b=>s≠i/\R s b) Ox a/\Owd K (Own (fun s b=>s≠i/\R s b) Ox) (upd H a (.frz ob (.dK vs))) ks 0 vs NoA:=by
 obtain⟨v,d0,a1,a2,a3⟩:=e.at_ i _ g0;rw[hi]at a2;cases a2;obtain⟨a,vs,rfl,ha,Fa,F',hF,ow⟩:=a3.dict1 hd;have sub:∀b,Own (fun s b=>s≠i/\R s b) Ox b->Own R Ox b:=fun b z=>z.imp (fun⟨s,z⟩=>⟨s,z.2⟩) id;have nR:∀b,R i b->¬Own (fun s b=>s≠i/\R s b) Ox b:=fun b z z2=>by
  rcases z2 with⟨s,z2⟩|z2
  ·exact z2.1 (e.dj s i b z2.2 z)
  ·exact e.dx i b z z2
 refine⟨a,vs,a1,ha,fun ob=>?_⟩;have dm:∀b o,H b=some o->∃o',upd H a (.frz ob (.dK vs)) b=some o':=fun b o q=>by
  by_cases z:b=a
  ·subst z;exact⟨_,aA⟩
  ·exact⟨o,by rw[aE z];exact q⟩
 have oi:Ow K (Own (fun s b=>s≠i/\R s b) Ox) H (.dict ks) 0 (.ref a) NoA:=Ow.fz sub nR a3;have oi2:=Ow.frzd (ob:=ob) ha (.dict ks) (fun z=>z) oi;have ow2:Owd K (Own (fun s b=>s≠i/\R s b) Ox) (upd H a (.frz ob (.dK vs))) ks 0 vs NoA:=by
  obtain⟨p,ws,ep,⟨_,q1,_,q2⟩|⟨z,_⟩|⟨_,⟨_,_,_,q1,_⟩|⟨_,_,_,_,q1,_⟩⟩⟩:=oi2
  ·cases ep;rcases q1 with q1|⟨o,q1⟩
   ·rw[aA]at q1;cases q1
   ·rw[aA]at q1;cases q1;exact q2
  ·exact absurd rfl z
  ·cases ep;rw[aA]at q1;cases q1
  ·cases ep;rw[aA]at q1;cases q1
 have il:i<ds.length:=(zah.mp hi).1;have env:EnvOk K ds1 (U NoA Ox) (upd H a (.frz ob (.dK vs))) σ (if kp then en else en.set i none) (fun s b=>s≠i/\R s b):=by
  rw[fq];refine⟨fun s t h=>?_,fun s s' b z z'=>e.dj s s' b z.2 z'.2,fun s b z=>e.dx s b z.2,fun b z=>?_,?_,?_⟩
  ·by_cases hs:s=i
   ·subst hs;cases kp with
    |true=>
     have h':en[s]?=some (some t):=h;rw[g0]at h';cases h';refine⟨.ref a,0,a1,?_,?_⟩
     ·rw[<-h1];exact zaP il
     ·exact Ow.any0 _ oi2
    |false=>
     have h':(en.set s none)[s]?=some (some t):=h;by_cases hl:s<en.length
     ·rw[zaP hl]at h';cases h'
     ·rw[zbm (by rw[zaV];omega)]at h';cases h'
   ·have h':en[s]?=some (some t):=by
     cases kp with
     |true=>exact h
     |false=>
      have h2:(en.set i none)[s]?=some (some t):=h;rw[zaO (Ne.symm hs)]at h2;exact h2
    obtain⟨v,d',g1,g2,g3⟩:=e.at_ s t h';refine⟨v,d',g1,?_,Ow.frzd ha t (fun z=>hs (e.dj s i a z.2 Fa)) (Ow.grow sub t (fun b z=>⟨hs,z⟩) g3)⟩;rw[<-h1];cases kp with
    |true=>
     show(ds.set i 0)[s]?=_;rw[zaO (Ne.symm hs)];exact g2
    |false=>exact g2
  ·obtain⟨o,q⟩:=e.dom b (sub b z);exact dm b o q
  ·cases kp with
   |true=>exact e.l1
   |false=>show(en.set i none).length=_;rw[zaV];exact e.l1
  ·rw[<-h1];cases kp with
   |true=>show(ds.set i 0).length=_;rw[zaV];exact e.l2
   |false=>exact e.l2
 refine⟨⟨env,fun _ z=>z.elim,fun b o q n=>?_,fun b z=>?_,dm,fun z=>nomatch z⟩,nR a Fa,ow2⟩
 ·have na:b≠a:=fun z=>n i (by rw[z];exact Fa);rw[aE na];exact q
 ·rcases z with z|⟨s,z⟩
  ·exact z.elim
  ·exact .inl ⟨s,z.2⟩
end
section
variable{μ:Pos}
def Fb{x:Str}(kp:Bool)(hK:X.K=K)(hN:X.N[i]?=some x)(hv:Vis X.env.scope x)(hi:ds[i]?=some d)(hd:d≠0)(h1:(if kp then ds.set i 0 else ds)=ds1)(hdb:(x==("__debug__":Str))=false)(hcd:(x==("__classdict__":Str))=false):
  QI X tg (.Name x px) (tFI K false ds ds1 (iDk kp i)):=by
 subst hK;refine⟨?_⟩;intro ρ s σ H R I h;obtain⟨Ox,en,Rg,ts,en',e,hf,k⟩:=h;unfold iDk at hf;split at hf
 case h_2=>cases hf
 next ks g0=>
 cases hf;obtain⟨a,vs,a1,ha,kk⟩:=zH e (aU g0) hi hd kp h1;refine thn (dz hN hv hdb hcd ρ s σ H (fun v H1=>v=.ref a/\H1=H) I ⟨.ref a,a1,rfl,rfl⟩) ?_;rintro v s1 ⟨y,H1,I1,r1,ey,eH⟩;subst ey eH;cases r1;obtain⟨o,ep,he,I2⟩:=I1.freeze ha;obtain⟨P,nO,ow⟩:=kk o;have fz:FzD (upd H1 a (.frz o (.dK vs))) a vs ep:=⟨o,aA,he⟩;obtain⟨hds,us,rel,dd⟩:=sV I2 fz;refine wpAny_pyIter_dict hds dd ?_;refine⟨s1.heap.objs.size,[s1.heap.objs.size],_,_,_,rfl,I2.kept (t':=s1.toks) fun b o e=>zaf _ e,xm a _ vs ep,⟨_,zan _ rfl,rfl,by rw[rel.length];rfl⟩,fun b hb=>?_,k _ _ _ P (xh fz nO ow)⟩;have e:b=s1.heap.objs.size:=by simpa using hb
 subst e;exact I2.fpOk (zav _) (I2.hok.fresh (zav _))
end
def oF(fa:MA):MI:=fun en=>(fa en).bind fun r=>match r.1 with
 |[.inl (.list ts),.inl (.list us)]=>some (eJ ts us,r.2)
 |[.inl (.tuple ts),.inl (.tuple us)]=>some (eJ ts us,r.2)
 |_=>none
section
variable{sh:Sh} 
def yy{l m:Expr}{elts:List Expr}{k:Nat}{tp:Pos}(hK:X.K=K)(hg:Gl X "zip")(hm:X.mg "zip"=none)(ha:QA X [l,m] (tFA K p ds ds1 sh fa))(hs:aD l=true)(hs2:aD m=true):
  QI X (.Tuple elts k tp) (.Call (.Name "zip" px) [l,m] [] pos) (tFI K p ds ds1 (oF fa)):=⟨by
 intro ρ s σ H R I ⟨Ox,en,Rg,ts,en',e,hf,k⟩;unfold oF at hf;obtain⟨⟨as,en1⟩,h1,hf⟩:=zaa.mp hf
 dsimp only at hf
 split at hf
 ·exact JL hK hg hm ha.h hs hs2 ρ s σ H R I ⟨Ox,en,Rg,ts,en',e,by unfold wF;rw[h1];exact hf,k⟩
 ·exact E7 hK hg hm ha.h hs hs2 ρ s σ H R I ⟨Ox,en,Rg,ts,en',e,by unfold sR;rw[h1];exact hf,k⟩
 ·cases hf⟩
end
def bs(val:Nat->Int):Nat->Int
 |0=>0
 |k+1=>if k=0\/val k>bs val k then val k else bs val k
theorem yQ(val:Nat->Int):∀n,0<n->∃i,i<n/\bs val n=val i
 |0,h=>absurd h (zaI _)
 |k+1,_=>by
  unfold bs;split
  ·exact⟨k,zaJ _,rfl⟩
  ·next h=>
   obtain⟨i,hi,e⟩:=yQ val k (by omega);exact⟨i,by omega,e⟩
theorem DB(val:Nat->Int):∀n i,i<n->val i<=bs val n
 |0,i,h=>absurd h (Nat.not_lt_zero _)
 |k+1,i,h=>by
  unfold bs;by_cases e:i=k
  ·subst e;split<;>omega
  ·have:=DB val k i (by omega);split<;>omega
def Ky(ns:List Int)(h:ns≠[]):bs (fun i=>ns.getD i 0) ns.length=iA ns:=by
 have hl:0<ns.length:=List.length_pos_iff.mpr h;have gd:∀i,(hi:i<ns.length)->ns.getD i 0=ns[i]:=fun i hi=>by rw[zbi,zak hi];rfl
 obtain⟨i,hi,e⟩:=yQ (fun i=>ns.getD i 0) ns.length hl;refine Int.le_antisymm ?_ ?_
 ·rw[e];show ns.getD i 0<=_;rw[gd i hi];exact vb (zaK hi)
 ·obtain⟨j,hj,e2⟩:=List.mem_iff_getElem.mp (sG h)
  have:=DB (fun i=>ns.getD i 0) ns.length j hj;rw[<-e2,<-gd j hj];exact this
section
variable{R:Result->Shared->Prop}{I:Addr}{fp wr:List Addr}{n:Nat}{P:Nat->Value->Prop}{St:Nat->Heap->Prop}{val:Nat->Int}{d0:Value}{ky:Str}
def Mr(P:Nat->Value->Prop)(val:Nat->Int)(j:Nat)(xs:Array Value):Prop:=(j=0/\xs=#[])\/∃i v,0<j/\P i v/\val i=bs val j/\xs=#[v,v]
def Ei(W:Walks prog w A.in1 I fp wr n P St)(hv:∀i v,P i v->∃t,v=.int (val i) t)(S:Addr)(hSf:S∉fp):∀(k j:Nat) (s:Shared) (c:Nat) (xs:Array Value),n-j=k->j<=n->St j s.heap ->
  s.heap.get? S=some { cls:=.type "list",data:=.seq xs c }->Mr P val j xs ->
  (∀v h' tk,((n=0/\v=d0)\/(0<n/\∃t,v=.int (bs val n) t))->(∀b o,b∉wr->b≠S->s.heap.get? b=some o->h'.get? b=some o)->R (.ok (.ret v)) { s with heap:=h',toks:=tk }) ->
  codeAny (model prog w) A (.builtin "max.loop" ⟨[.ref I,.none,.ref S],[(ky,d0)]⟩) R s:=by
 have nw:S∉wr:=fun h=>hSf (W.sub _ h);have nm:(toString "max"++toString ".loop":String)="max.loop":=by decide
 have cmp:=CmpOf.ints_gt (prog:=prog) (w:=w) (A:=A.in1) (P:=P) val hv;intro k
 induction k with
 |zero=>
  intro j s c xs hk hj st hS held fin;have ej:j=n:=by omega
  subst ej;refine codeAny_builtin F.entry_max_loop ?_;rw[Around.under_plainId F.plain_max_loop _];show wpAny (model prog w) A.in1 (seqItems? (.ref S) >>= fun _=>_) _ _ s;refine zam (wpAny_seqItems hS rfl ?_);rcases held with⟨z,e⟩|⟨i,v,z,hp,hb,e⟩
  ·subst e;show wpAny (model prog w) A.in1 (tryCatch (pyNext (.ref I)) (fun _=>_) >>= fun _=>_) _ _ s;refine zam (wpAny_tryCatch (W.done s _ _ st fun h1 t1 k1=>?_));show wpAny (model prog w) A.in1 (rule _ >>= fun _=>ret d0) _ _ _;exact zam (wpAny_rule (zaT (fin d0 h1 t1 (.inl ⟨z,rfl⟩) fun b o q _ e=>k1 b o q e)))
  ·subst e;show wpAny (model prog w) A.in1 (tryCatch (pyNext (.ref I)) (fun _=>_) >>= fun _=>_) _ _ s;refine zam (wpAny_tryCatch (W.done s _ _ st fun h1 t1 k1=>?_));have hS1:=k1 S _ nw hS;show wpAny (model prog w) A.in1 (updateSeq S (fun _=>#[]) >>= fun _=>_) _ _ _;refine zam (wpAny_updateSeq hS1 rfl (zam (wpAny_letGo (zaT ?_))));obtain⟨t,et⟩:=hv i v hp;exact fin v _ t1 (.inr ⟨z,t,by rw[et,hb]⟩) fun b o q q2 e=>(zbA _ _ (Ne.symm q2)).trans (k1 b o q e)
 |succ k ih=>
  intro j s c xs hk hj st hS held fin;have lt:j<n:=by omega
  refine codeAny_builtin F.entry_max_loop ?_;rw[Around.under_plainId F.plain_max_loop _];show wpAny (model prog w) A.in1 (seqItems? (.ref S) >>= fun _=>_) _ _ s;refine zam (wpAny_seqItems hS rfl ?_);rcases held with⟨z,e⟩|⟨i,v,z,hp,hb,e⟩
  ·subst e z;show wpAny (model prog w) A.in1 (tryCatch (pyNext (.ref I)) (fun _=>_) >>= fun _=>_) _ _ s;refine zam (wpAny_tryCatch (W.item 0 s _ _ lt st fun x h1 t1 px st1 k1=>?_));have hS1:=k1 S _ nw hS;show wpAny (model prog w) A.in1 (updateSeq S (fun _=>#[x,x]) >>= fun _=>_) _ _ _;refine zam (wpAny_updateSeq hS1 rfl ?_);rw[nm];refine zaT ⟨plainId_quiet F.plain_max_loop _,ih 1 _ _ _ (by omega) (by omega) (W.frame _ _ _ st1 fun b hb o e=>(zbA _ _ (fun h:S=b=>hSf (by rw[h];exact hb))).trans e) (Heap.get?_update_self _ hS1 rfl) (.inr ⟨0,x,by omega,px,rfl,rfl⟩) fun v2 h2 t2 hv2 k2=>?_⟩;exact fin v2 h2 t2 hv2 fun b o q q2 e=>k2 b o q q2 ((zbA _ _ (Ne.symm q2)).trans (k1 b o q e))
  ·subst e;show wpAny (model prog w) A.in1 (tryCatch (pyNext (.ref I)) (fun _=>_) >>= fun _=>_) _ _ s;refine zam (wpAny_tryCatch (W.item j s _ _ lt st fun x h1 t1 px st1 k1=>?_));have hS1:=k1 S _ nw hS;show wpAny (model prog w) A.in1 (tryCatch (holding [x,x] (richCompare .Gt x v >>= fun _=>_)) (fun _=>_) >>= fun _=>_) _ _ _;refine zam (wpAny_tryCatch (zb1 (zam (cmp j i x v _ _ _ px hp ?_))));refine zam (zb1 (zbB (zam (wpAny_letGo (zaT ?_)))));by_cases g:val j>val i
   ·simp only[zaB g,if_true];refine zam (wpAny_updateSeq hS1 rfl (zam (wpAny_letGo ?_)));rw[nm];refine zaT ⟨plainId_quiet F.plain_max_loop _,ih (j+1) _ _ _ (by omega) (by omega) (W.frame _ _ _ st1 fun b hb o e=>(zbA _ _ (fun h:S=b=>hSf (by rw[h];exact hb))).trans e) (Heap.get?_update_self _ hS1 rfl) (.inr ⟨j,x,by omega,px,?_,rfl⟩) fun v2 h2 t2 hv2 k2=>?_⟩
    ·unfold bs;rw[if_pos (.inr (by rw[<-hb];exact g))]
    ·exact fin v2 h2 t2 hv2 fun b o q q2 e=>k2 b o q q2 ((zbA _ _ (Ne.symm q2)).trans (k1 b o q e))
   ·simp only[zaA g,Bool.false_eq_true,if_false];refine zam (wpAny_letGo ?_);rw[nm];refine zaT ⟨plainId_quiet F.plain_max_loop _,ih (j+1) _ c _ (by omega) (by omega) st1 hS1 (.inr ⟨i,v,by omega,hp,?_,rfl⟩) fun v2 h2 t2 hv2 k2=>?_⟩
    ·show val i=if j=0\/val j>bs val j then val j else bs val j
     rw[if_neg (by rw[<-hb];omega),hb]
    ·exact fin v2 h2 t2 hv2 fun b o q q2 e=>k2 b o q q2 (k1 b o q e)
end
def wt(z:Int):D->Option D
 |.list ts=>(cv ts).map fun ns=>.int (if ns=[]then z else iA ns)
 |_=>none
section
variable{d1:Nat}{kpos:Pos}{z:Int}{cj:Nat}
abbrev Out(prog:Program)(w:World)(A:Around)(Q:Value->Shared->Prop)(E:Value->Shared->Prop):Result->Shared->Prop:=fun r s'=>match r with|.ok (.ret v)=>Q v s'|.ok _=>False|.error e=>E e s'
def FG{E:Value->Shared->Prop}{id:String}{b:Builtin}{us:List Value}{kw:List (Str×Value)}{Q:Value->Shared->Prop}(h1:builtinKind id=none)(h2:plainId id=true)(h3:entryFor table id=some b)(h4:argsOk id ⟨us,kw⟩)
  (h:wpAny (model prog w) A.in1 (b ⟨us,kw⟩) (fun fin s'=>match fin with
   |.done g=>Out prog w A Q E (.ok g) s'
   |.again c'=>c'.quiet=true/\codeAny (model prog w) A c' (Out prog w A Q E) s') E s):wpAny (model prog w) A (call (.builtin id) us kw) Q E s:=by
 refine wpAny_call (codeAny_call_builtin h2 h3 ?_);simp only[checkBuiltinCall,h1];cases hg:Manifest.signature? id with
 |none=>exact zaT h
 |some sg=>
  have q:Bind.checkArgs id sg ⟨us,kw⟩=pure ():=by simpa only[argsOk,hg]using h4
  simp only[q];exact zaT h
def yR(a b:Value):argsOk "max" ⟨[a],[("default",b)]⟩:=by unfold argsOk;kernel_rfl
def yB(hK:X.K=K)(hc:X.calm=true)(hg:Gl X "max")(hm:X.mg "max"=none)(he:QE X e (tF K p ds ds1 d1 f))(hs:aD e=true):
  QE X (.Call (.Name "max" px) [e] [⟨some "default",.Constant (.int z) cj ω,kpos⟩] pos) (tF K p ds ds1 3 (e1 (wt z) f)):=by
 subst hK;refine⟨?_⟩;intro ρ s σ H Q I h;obtain⟨Ox,en,R,t,en',ee,hf,k⟩:=h;unfold e1 at hf;obtain⟨⟨t1,en1⟩,h1,hf⟩:=zaa.mp hf;obtain⟨t',h3,hf⟩:=zab.mp hf;cases hf;refine wpAny_Call_Name_kw (eP I hg hm (show bootBuiltins ("max":Str)=some (.builtin "max")by decide +kernel) ?_ (by decide) rfl);refine callWith_kw (thn ((cZ he.h pa_nil (aR hs)) pos ρ s σ H (fun vs H1=>∃v R1 F,vs=[v]/\Post X.K p ds1 Ox σ H en R en1 H1 R1 F/\Ow X.K (Own R1 (U F Ox)) H1 t1 d1 v F) I ⟨Ox,en,R,t1,en1,ee,h1,fun v H1 R1 F P o=>⟨v,R1,F,rfl,P,o⟩⟩) fun us s1 ⟨vs,H1,I1,r1,v,R1,F,ev,P,o⟩=>?_) (by rw[aR hs];rfl) (by rw[aR hs];rfl);subst ev;obtain⟨u,rfl,ru⟩:=cS r1;refine kws_cons (thn (pe_int ρ s1 σ H1 (fun v H2=>v=.int z/\H2=H1) I1 ⟨rfl,rfl⟩) fun zu s2 ⟨zx,H2,I2,rz,ez,eH⟩=>kws_nil ?_);subst ez eH;obtain⟨zt,rfl⟩:=rz;have ow0:=Ow.letgo P (fun _ z=>z) o;cases t1 with
 |list ts=>
  obtain⟨ns,g1,g2⟩:=zab.mp h3;obtain⟨a,ws,rfl,fz,w⟩:=ow0.lst0;have e:=j7 w g1;subst e;cases ru;obtain⟨its,rv,pl,hz⟩:=I2.list fz.sq;have hl:its.length=ns.length:=by rw[<-rv.length,zad]
  have hlt:a<s2.heap.objs.size:=by
   obtain⟨o,n,e,_⟩:=id pl;exact zal e
  have hsz:its.toArray.size=ns.length:=by rw[zai,hl]
  have nm:(toString "max"++toString ".loop":String)="max.loop":=by decide
  refine FG PySem.F.kind_max PySem.F.plain_max PySem.F.entry_max (yR _ _) ?_;show wpAny _ X.A.in1 (Builtin.Builtins.bindParams "max" ["key","default"] 0 ⟨[],[("default",.int z zt)]⟩ >>= fun _=>_) _ _ _;refine zam (wpAny_of_eq (show Builtin.Builtins.bindParams "max" ["key","default"] 0 ⟨[],[("default",.int z zt)]⟩=pure [none,some (.int z zt)]from rfl) ?_);refine zam (zaT (zam (wpAny_pyIter_list pl.isList (zam (wpAny_newObj_type ?_)))));rw[nm];have hn:a≠s2.heap.objs.size:=zaw hlt;have W:=Walks.list (prog:=X.prog) (w:=X.w) (A:=X.A.in1) (show X.A.in1.handled=none from I2.ok.hd hc) s2.heap.objs.size a hn its.toArray;have lv:∀i v,its.toArray[i]?=some v->∃t,v=Value.int (ns.getD i 0) t:=fun i v hv=>by
   have hv':its[i]?=some v:=by simpa using hv
   have hi:i<ns.length:=by
    rw[<-hl];exact(zah.mp hv').1
   obtain⟨u,hu,ru⟩:=rv.get (i:=i) (x:=V.int ns[i]) (by rw[zao,zak hi];rfl);rw[hu]at hv';cases hv';obtain⟨t,rfl⟩:=ru;refine⟨t,?_⟩;rw[zbi,zak hi];rfl
  refine zaT ⟨plainId_quiet PySem.F.plain_max_loop _,Ei (val:=fun i=>ns.getD i 0) (d0:=.int z zt) W lv _ ?_ _ 0 _ 0 #[] rfl (zbk _) ⟨⟨_,zaf _ (zan _ rfl),rfl,rfl⟩,(pl.isList.push _).push _⟩ (zan _ rfl) (.inl ⟨rfl,rfl⟩) fun v h' tk hv kk=>?_⟩
  ·intro hb;rcases zay.mp hb with q|q
   ·rw[zbw]at q;exact absurd q (Nat.succ_ne_self _)
   ·have q':=zaH.mp q;rw[zbw]at q';rw[<-q']at hlt;exact absurd hlt (Nat.not_lt.mpr (Nat.le_succ _))
  ·have kp:∀b o,s2.heap.get? b=some o->h'.get? b=some o:=fun b o q=>by
    have bl:=zal q;refine kk b o ?_ ?_ (zaf _ (zaf _ q))
    ·intro z';have q3:b=s2.heap.objs.size:=by simpa using z'
     rw[q3]at bl;exact zaI _ bl
    ·intro z';rw[z',zbw]at bl;exact absurd bl (Nat.not_lt.mpr (Nat.le_succ _))
   have et:t=.int (if ns=[]then z else iA ns):=g2.symm;subst et;have fin:=k (.int (if ns=[]then z else iA ns)) H2 R1 NoA (P.less fun _ z=>z.elim) rfl;refine⟨_,H2,I2.kept (t':=tk) kp,?_,fin⟩;rw[hsz]at hv;rcases hv with⟨z0,rfl⟩|⟨z0,t,rfl⟩
   ·rw[if_pos (za7.mp z0)];exact⟨_,rfl⟩
   ·have ne:ns≠[]:=List.length_pos_iff.mp z0;rw[if_neg ne,Ky ns ne];exact⟨_,rfl⟩
 |_=>cases h3
end
end L2
namespace PySem
end PySem
namespace PySem
open PySem.SeqAt
end PySem
namespace L2
variable{K:zb7}{p p1 p2:Bool}{ds ds0 ds1 ds2 dps:List Nat}{H:Hp}{σ:St}{d d1 d2 dr i c:Nat}{Q:VK}{f:ME}{fa:MA}{sh:Sh}{F:List D->Option (D×En)}{ζ pos px:Pos}{k:Expr}{x:Str}{ps:List Str}{es:List Expr}
open PySem PySem.Spec PyProof.Rows
def tFk(K:zb7)(ds ds':List Nat)(d i:Nat)(f:En->Option (D×En)):TE:=fun σ H Q=>
 ∃Ox en R t en',EnvOk K ds Ox H σ en R/\f en=some (t,en')/\∀v H' R' F,Post K false ds' Ox σ H en R en' H' R' F->(∀a o,H a=some o->R i a->H' a=some o)->en'[i]?=en[i]?->Ow K (Own R' (U F Ox)) H' t d v F->Q v H'
section
variable{ds':List Nat}{Ox Ox' O O':AS}{H':Hp}{en en' en1 en2:En}{R R':Nat->AS}{d':Nat}{t t1 t2:D}{f1 f2:ME}{QA:List V->Hp->Prop} 
def LP{E:XK}{i0:Nat}(hi0:∀j:Nat,sh[j]?≠some (.inr i0))(hc:cV ds1 sh dps=true)(h:tFk K ds ds1 dr i0 (am F fa) σ H Q):nU (spF K dps dr F) [] E (tFA K true ds ds1 sh fa) σ H Q:=
 let⟨Ox,en,R,t,en',e,hf,k⟩:=h
 Dx hc ⟨Ox,en,R,t,en',e,hf,fun v H' R' F P g o=>
  let⟨g1,g2⟩:=g rfl i0 hi0
  k v H' R' F ⟨P.env,P.fx,P.keep,P.own,P.dom,fun hp=>nomatch hp⟩ g1 g2 o⟩
theorem Ows.at1{K:zb7}{O:AS}{H:Hp}{d:Nat}:∀{ts:List D} {vs:List V} {F:AS} {k:Nat} {u:D} {x:V},Ows K O H ts d vs F->ts[k]?=some u->vs[k]?=some x->∃F1:AS,(∀b,F1 b->F b)/\Ow K O H u d x F1
 |[],_,_,k,u,_,_,h,_=>by simp at h
 |t::ts,_,F,k,u,x,h,hk,hx=>by
  obtain⟨v,r,F1,F2,e,s1,s2,s3,h4,h5⟩:=h;subst e;cases k with
  |zero=>
   have e1:t=u:=by simpa using hk
   have e2:v=x:=by simpa using hx
   subst e1 e2;exact⟨F1,s1,h4⟩
  |succ k=>
   obtain⟨G,g1,g2⟩:=Ows.at1 (k:=k) h5 (by simpa using hk) (by simpa using hx);exact⟨G,fun b z=>s2 b (g1 b z),g2⟩
theorem Ow.pathKeep{K:zb7}{O:AS}{H H':Hp}:∀{π:List Nat} {t u:D} {d:Nat} {v w:V} {F:AS},Ow K O H t d v F->bu t π=some u->dns π.length d≠0->(∀a o,H a=some o->F a->H' a=some o)->PathV H v π w->PathV H' v π w
 |[],_,_,_,_,_,_,_,_,_,_,h=>h
 |k::π,t,u,d,v,w,F,h,hp,hz,hk,⟨a,vs,x,e,g1,g2,g3⟩=>by
  have hz1:dns π.length (dn d)≠0:=hz;have hd0:d≠0:=yJ (m:=π.length+1) hz;subst e;cases t with
  |list ts=>
   obtain⟨c,p1,p2⟩:=zaa.mp hp;obtain⟨a',vs',e,⟨h0,_⟩|⟨_,h1,h2,F',hf,h3⟩⟩:=h
   ·exact absurd h0 hd0
   cases e;have ev:vs=vs':=by
    rcases g1 with g1|g1<;>rw[h1]at g1<;>cases g1
    rfl
   subst ev;obtain⟨F1,s1,s2⟩:=h3.at1 p1 g2;exact⟨a,vs,x,rfl,.inl (hk a _ h1 h2),g2,s2.pathKeep p2 hz1 (fun b o q z=>hk b o q (hf b (s1 b z)).1) g3⟩
  |tuple ts=>
   obtain⟨c,p1,p2⟩:=zaa.mp hp;obtain⟨a',vs',e,⟨h0,_⟩|⟨_,h1,h2,F',hf,h3⟩⟩:=h
   ·exact absurd h0 hd0
   cases e;have ev:vs=vs':=by
    rcases g1 with g1|g1<;>rw[h1]at g1<;>cases g1
    rfl
   subst ev;obtain⟨F1,s1,s2⟩:=h3.at1 p1 g2;exact⟨a,vs,x,rfl,.inr (hk a _ h1 h2),g2,s2.pathKeep p2 hz1 (fun b o q z=>hk b o q (hf b (s1 b z)).1) g3⟩
  |_=>cases hp
end
section
variable{X:Cx}{J:Jd}{m:Nat}{fk fe:ME}{mp:MP}{e b o:Expr} 
def Aw{D:Ends}(hd1:ds1[i]?=some d)(hd:ds2[i]?=some d)(hz:dns m d≠0)(hc:dn (dns m d)=c)(h:tFS K J ds ds2 (j2 i mp fk fe) D σ H):
  pH (tF K p ds ds0 c fe) (As (tP K p1 ds0 ds1 i m mp) (tFk K ds1 ds2 d2 i fk) wd) D σ H:=by
 obtain⟨Ox,en,R,fl,e,hf,k⟩:=h;unfold j2 at hf;obtain⟨⟨t1,en1⟩,h1,hf⟩:=zaa.mp hf;obtain⟨⟨π,en2⟩,h2,hf⟩:=zaa.mp hf;obtain⟨⟨t3,en3⟩,h3,hf⟩:=zaa.mp hf
 dsimp only at hf
 split at hf
 case h_2=>cases hf
 next n t h4=>
 obtain⟨u,h5,hf⟩:=zaa.mp hf;cases u with
 |list ts=>
  obtain⟨kk,h6,hf⟩:=zab.mp hf;cases hf;refine⟨Ox,en,R,t1,en1,e,h1,fun x H1 R1 F1 P1 o1=>?_⟩;refine⟨U F1 Ox,en1,R1,π,en2,P1.env,h2,fun v w H2 R2 P2 hl hv pv=>?_⟩;have P12:=P1.trans P2;have o12:=Ow.over P1.env P2 o1;have e0:U F1 NoA=F1:=e7 fun a=>⟨fun z=>z.elim id fun z=>z.elim,.inl⟩;rw[e0]at P12 o12;refine⟨U F1 Ox,en2,R2,.int n,en3,P12.env,h3,fun y H3 R3 F3 P3 kp ei o3=>?_⟩;have P:=P12.trans P3;have o1':=Ow.over P12.env P3 o12;have ey:y=.int n:=o3;subst ey;subst hl;have pv3:PathV H3 v π w:=by
   obtain⟨v',d',b1,b2,b3⟩:=P12.env.at_ i t (by rw[<-ei];exact aU h4);rw[hv]at b1;cases b1;rw[hd1]at b2;cases b2;exact b3.pathKeep h5 hz kp pv
  obtain⟨l,vs,G1,el,hl1,hr,hf1,ow,fin⟩:=P.place (aU h4) hv hd h5 hz pv3;subst el;refine⟨l,vs,n,kk,rfl,rfl,hl1,by rw[ow.len];exact h6,?_⟩;have Fn:∀a,F1 a->a≠l:=fun a z z2=>by
   subst z2;exact P.env.dx i a hr (.inl (.inl z))
  have Ol:Own R3 (U (U F1 F3) Ox) l:=.inl ⟨i,hr⟩;obtain⟨R',PF⟩:=fin (ts.set kk t1) (vs.set kk x) (U G1 F1) (fun _ z=>z.imp id .inl) fun O' ho=>by
   refine Ows.setAt (Ows.past ho Ol (fun b z=>(hf1 b z).2) ow) ?_ fun b z1 z2=>P.env.dx i b (hf1 b z1).1 (.inl (.inl z2));rw[hc];exact Ow.past ho Ol Fn o1'
  exact k σ _ _ PF.s
 |_=>cases hf
def yo(hd1:ds1[i]?=some d)(hd:ds2[i]?=some d)(he:PE X e (tF K p ds ds0 c fe))(ho:PE X o (tP K p1 ds0 ds1 i m mp))(hk:PE X k (tFk K ds1 ds2 d2 i fk))(hz:dns m d≠0)(hc:dn (dns m d)=c)
  (ha:∀v,assign (.Subscript o k ζ) X.env v=(do
   let ov <-holding [v] (eval o X.env);let iv <-holding [v,ov] (eval k X.env)
   standAt ζ
   holding [v,ov,iv] (setItem ov iv v)
   release [v,ov,iv] []))
  (hs:swapsWithSole [.Subscript o k ζ] e pos.line X.env=pure false) (hw:swappedStores [.Subscript o k ζ] e X.env=pure none)
  (h2:(assignEach [.Subscript o k ζ] X.env).map (·.2)=[assign (.Subscript o k ζ) X.env]):
  PS X (.Assign [.Subscript o k ζ] e pos) (tFS K J ds ds2 (j2 i mp fk fe)):=
 (xH he (xK ho hk rS ha) hs hw h2).imp fun _ _ _=>Aw hd1 hd hz hc
def J3{k:Nat}(G:Kn X.prog X.w X.K X.mg X.base k x ps (spF K dps dr F))(hr:Room k X.A)(hg:Gl X x)(ha:PA X (e::es) (tFA K true ds ds1 sh fa))(hi:∀j:Nat,sh[j]?≠some (.inr i))(hcd:cV ds1 sh dps=true)(hdb:(x==("__debug__":Str))=false)
  (he:aD e=true) (hpl:es.all aD=true):
  PE X (.Call (.Name x px) (e::es) [] pos) (tFk K ds ds1 dr i (am F fa)):=(wg G hr hg ha hdb (aR he) (fg hpl)).imp fun _ _ _ h=>LP hi hcd h
def zR(h:sh.all (fun z=>match z with|.inl _=>true|.inr j=>j != i)=true):∀j:Nat,sh[j]?≠some (.inr i):=fun j z=>by
 have:=List.all_eq_true.mp h _ (zaX z);simp at this
def uD(hd1:ds1[i]?=some d)(hd:ds2[i]?=some d)(he:QE X e (tF K p ds ds0 c fe))(ho:QE X o (tP K p1 ds0 ds1 i m mp))(hk:QE X k (tFk K ds1 ds2 d2 i fk))(hz:dns m d≠0)(hc:dn (dns m d)=c)
  (ha:∀v,assign (.Subscript o k ζ) X.env v=(do
   let ov <-holding [v] (eval o X.env);let iv <-holding [v,ov] (eval k X.env)
   standAt ζ
   holding [v,ov,iv] (setItem ov iv v)
   release [v,ov,iv] []))
  (hs:swapsWithSole [.Subscript o k ζ] e pos.line X.env=pure false) (hw:swappedStores [.Subscript o k ζ] e X.env=pure none)
  (h2:(assignEach [.Subscript o k ζ] X.env).map (·.2)=[assign (.Subscript o k ζ) X.env]):
  QS X (.Assign [.Subscript o k ζ] e pos) (tFS K J ds ds2 (j2 i mp fk fe)):=⟨yo hd1 hd he.h ho.h hk.h hz hc ha hs hw h2⟩
def AK{k:Nat}(G:Kn X.prog X.w X.K X.mg X.base k x ps (spF K dps dr F))(hr:Room k X.A)(hg:Gl X x)(ha:QA X (e::es) (tFA K true ds ds1 sh fa))(hi:∀j:Nat,sh[j]?≠some (.inr i))(hcd:cV ds1 sh dps=true)(hdb:(x==("__debug__":Str))=false)
  (he:aD e=true) (hpl:es.all aD=true):
  QE X (.Call (.Name x px) (e::es) [] pos) (tFk K ds ds1 dr i (am F fa)):=⟨J3 G hr hg ha.h hi hcd hdb he hpl⟩
end
end L2
namespace W25
noncomputable section
variable{k:Nat}
open PySem L2
def top(i:Nat):Stmt:=PySem.Challenge.pw_wordrules_k25_spans_told.main.body.getD i (.Pass ⟨0,0,0,0⟩)
structure Bl(mg:Str->Option Value):Prop where
 abs0:mg "abs"=none
 all0:mg "all"=none
 bool0:mg "bool"=none
 dict0:mg "dict"=none
 enumerate0:mg "enumerate"=none
 int0:mg "int"=none
 isinstance0:mg "isinstance"=none
 len0:mg "len"=none
 list0:mg "list"=none
 max0:mg "max"=none
 range0:mg "range"=none
 repr0:mg "repr"=none
 reversed0:mg "reversed"=none
 sorted0:mg "sorted"=none
 str0:mg "str"=none
 tuple0:mg "tuple"=none
 zip0:mg "zip"=none
section
variable{P:Program}{w:World}{K:zb7}{mg:Str->Option Value}{base:Heap}{f:Addr}{fd:FuncData}
abbrev lV:Stmt:=top 19
abbrev yX:List Str:=["_law_script","_law_first"]
def v7:FnScope yX ["_law_script","_law_first"] (ak lV):=fsc
def gQ:MS:=(ay (gi [((eC (.str "script")),(aa 0)),((eC (.str "at")),(aa 1)),((eC (.str "left")),(eC (.int 0)))]))
def cJ:List D->Option (D×En):=fnF 0 [0,0] gQ
abbrev jy:Stmt:=top 20
abbrev uI:List Str:=["_law_cell","_law_k","_law_one","_law_two"]
def rW:FnScope uI ["_law_cell","_law_k"] (ak jy):=fsc
def gw:MS:=(aj (ao 2 (e2 bH (e2 cu (e2 aY (e2 aY (e2 bH (aa 0) (eC (.int 2147483629))) (e2 cu (eC (.int 40503)) (aa 1))) (eC (.int 24691))) (eC (.int 48271))) (eC (.int 2147483647))))
 (aj (ao 3 (e2 bH (e2 aY (e2 aY (e2 cu (aa 2) (aa 2)) (e2 cu (eC (.int 69621)) (aa 2))) (aa 1)) (eC (.int 2147483629))))
 (ay (e2 cU (e2 bH (e2 aY (e2 aY (e2 cu (aa 3) (aa 3)) (e2 cu (eC (.int 16807)) (aa 3))) (e2 cu (eC (.int 31)) (aa 1))) (eC (.int 1073741789))) (eC (.int 64))))))
def cR:List D->Option (D×En):=fnF 2 [0,0] gw
abbrev kE:Stmt:=top 21
abbrev wW:List Str:=["_law_pen_here","_law_most","_law_k","_law_script","_law_cell","_law_got"]
def uk:FnScope wW ["_law_pen_here","_law_most"] (ak kE):=fsc
def kL:MS:=(aj (ao 2 (bi 0 (eC (.str "at"))))
 (aj (ao 3 (bi 0 (eC (.str "script"))))
 (aj (sIf (tV (e2 eqD (bi 0 (eC (.str "left"))) (eC (.int 0)))) (aj (bo 0 (eC (.str "at")) (e2 aY (aa 2) (eC (.int 1))))
 (aj (ao 4 (eC (.int 0)))
 (aj (sIf (tV (e2 gtI (eN bp (ac (aa 3) ah)) (eC (.int 0)))) (ao 4 (e2 ixA (aa 3) (e2 bH (aa 2) (eN bp (ac (aa 3) ah))))) aS)
 (aj (sIf (bOr (tV (e2 geI (aa 2) (eN bp (ac (aa 3) ah)))) (tV (e2 ltI (eN lP (ac (aa 4) ah)) (e2 sf (eC (.int 10)) (eC (.int 18)))))) (ay (e2 bH (am cR (ac (aa 4) (ac (aa 2) ah))) (aa 1))) aS)
 (bo 0 (eC (.str "left")) (eN lP (ac (aa 4) ah))))))) aS)
 (aj (ao 5 (e2 bH (bi 0 (eC (.str "left"))) (aa 1)))
 (aj (bo 0 (eC (.str "left")) (e2 cU (bi 0 (eC (.str "left"))) (aa 1)))
 (ay (aa 5)))))))
def ar:List D->Option (D×En):=fnF 4 [1,0] kL
abbrev kG:Stmt:=top 23
abbrev wY:List Str:=["_law_pen_here","_law_stand","_law_stands","_law_way","_law_goal_here"]
def uq:FnScope wY ["_law_pen_here","_law_stand","_law_stands","_law_way"] (ak kG):=fsc
def fO:MS:=(aj (ao 4 (am ar (aB 0 (ac (e2 aY (aa 2) (eC (.int 1))) ah))))
 (aj (sIf (bOr (tV (e2 eqD (aa 4) (aa 2))) (cA (tV (e2 eqD (aa 3) (eC (.int 1)))) (tV (e2 leI (aa 4) (aa 1))))) (ay (eC .none)) aS)
 (ay (aa 4))))
def bZ:List D->Option (D×En):=fnF 1 [1,0,0,0] fO
abbrev dA:Stmt:=top 24
abbrev gY:List Str:=["_law_pen_here","_law_signs_here","_law_most","_law_stands","_law_way","_law_fence","_law_ends","_law_goes","_law_stand","_law_row"]
def pK:FnScope gY ["_law_pen_here","_law_signs_here","_law_most"] (ak dA):=fsc
def pz:ME:=(am bZ (aB 1 (ac (aa 4) (ac (aa 2) (ac (aa 3) ah)))))
def pq:ME:=(e2 ixA (bh (ac (aa 0) (ac (eC .none) ah))) (eN lq (ac (eOr (e2 isN (aa 0) (eC .none)) (e2 geI (aa 0) (aa 1))) ah)))
def pj:MS:=(aj (bI (cc 6 (e2 eqD (am ar (aB 0 (ac (eC (.int 3)) ah))) (eC (.int 0)))))
 (aj (ao 9 (eLC false (bC (ac (aa 1) ah)) (gN 0) cY pz [none,some 0,some 3,some 4,some 8]))
 (aj (sIf (cA (tV (e2 eqD (aa 4) (eC (.int 2)))) (tV (e2 ltI (aa 8) (aa 5)))) (aj (cE 6 (aa 8) (eC (.bool false)))
 (ao 9 (eLC true (bt (aa 9)) (gN 0) cY pq [none,some 5]))) aS)
 (bI (cc 7 (aa 9))))))
def ff:MS:=(aj (ao 3 (e2 aY (eC (.int 1)) (am ar (aB 0 (ac (aa 2) ah)))))
 (aj (ao 4 (am ar (aB 0 (ac (eC (.int 4)) ah))))
 (aj (ao 5 (e2 aY (eC (.int 1)) (am ar (aB 0 (ac (aa 3) ah)))))
 (aj (ao 6 (bh ah))
 (aj (ao 7 (bh ah))
 (aj (bT (bC (ac (aa 3) ah)) (gN 8) pj)
 (ay (da (ac (aa 6) (ac (aa 7) ah))))))))))
def bA:List D->Option (D×En):=fnF 7 [1,0,0] ff
abbrev ij:Stmt:=top 30
abbrev pd:List Str:=["_law_pen_here","_law_signs_here","_law_many","_law_goes","_law_stand","_law_row"]
def um:FnScope pd ["_law_pen_here","_law_signs_here"] (ak ij):=fsc
def mj:MS:=(aj (ao 5 (e2 wq (bh (ac (eC .none) ah)) (aa 1)))
 (aj (cE 5 (am ar (aB 0 (ac (aa 1) ah))) (e2 bH (e2 aY (aa 4) (eC (.int 1))) (e2 fP (aa 2) (eC (.int 1)))))
 (bI (cc 3 (eMv 5)))))
def mr:ME:=(e2 eqD (aa 0) (e2 fP (aa 1) (eC (.int 1))))
def pD:MS:=(aj (ao 2 (e2 aY (eC (.int 2)) (am ar (aB 0 (ac (eC (.int 7)) ah)))))
 (aj (ao 3 (bh ah))
 (aj (bT (bC (ac (aa 2) ah)) (gN 4) mj)
 (aj (j2 3 (pIx 3 (fR 3) (am ar (aB 0 (ac (e2 fP (aa 2) (eC (.int 1))) ah)))) (am ar (aB 0 (ac (aa 1) ah))) (e2 fP (aa 2) (eC (.int 1))))
 (aj (cE 3 (e2 fP (aa 2) (eC (.int 1))) (e2 wq (bh (ac (eC .none) ah)) (aa 1)))
 (ay (da (ac (eLC true (bC (ac (aa 2) ah)) (gN 0) cY mr [none,some 2]) (ac (aa 3) ah)))))))))
def eI:List D->Option (D×En):=fnF 4 [1,0] pD
abbrev qu:Stmt:=top 4
abbrev FN:List Str:=["things","marks","thing"]
def zp:FnScope FN ["things"] (ak qu):=fsc
def qW:MS:=(bo 1 (aa 2) (eC (.bool true)))
def vM:MS:=(aj (ao 1 ja)
 (aj (bT (bt (aa 0)) (gN 2) qW)
 (ay (eMv 1))))
def fZ:List D->Option (D×En):=fnF 2 [0] vM
abbrev nL:Stmt:=top 5
abbrev A5:List Str:=["first","goes","seen","ahead","here","there"]
def xx:FnScope A5 ["first","goes"] (ak nL):=fsc
def fK:MS:=(sIf (cA (tV (e2 fT (aa 5) (eC .none))) (tV (e2 cH (aa 5) (aa 2)))) (aj (bo 2 (aa 5) (eC (.bool true)))
 (bI (cc 3 (aa 5)))) aS)
def pf:MS:=(aj (ao 4 (iI 3))
 (bT (bt (e2 ixA (aa 1) (aa 4))) (gN 5) fK))
def kx:MT:=(tV (e2 gtI (eN bp (ac (aa 3) ah)) (eC (.int 0))))
def uc:MS:=(aj (ao 2 (am fZ (ac (aa 0) ah)))
 (aj (ao 3 (eN iZ (ac (aa 0) ah)))
 (aj (bR kx pf)
 (ay (eN rQ (ac (aa 2) ah))))))
def fu:List D->Option (D×En):=fnF 4 [0,0] uc
abbrev ig:Stmt:=top 3
abbrev pb:List Str:=["goes","backs","stand","ways","there"]
def uh:FnScope pb ["goes"] (ak ig):=fsc
def mq:ME:=(bh ah)
def iP:MS:=(sIf (tV (e2 fT (aa 4) (eC .none))) (bI (gj 1 (pIx 1 (fR 1) (aa 4)) (aa 2))) aS)
def mf:MS:=(bT (bt (aa 3)) (gN 4) iP)
def pA:MS:=(aj (ao 1 (eLC true (bt (aa 0)) (gN 0) cY mq [none]))
 (aj (bT (iG (ac (aa 0) ah)) (gT (gsC (gN 2) (gsC (gN 3) gs0))) mf)
 (ay (aa 1))))
def eF:List D->Option (D×En):=fnF 4 [0] pA
abbrev oW:Stmt:=top 2
abbrev yW:List Str:=["machine","ends"]
def DN:FnScope yW ["machine"] (ak oW):=fsc
def tT:MT:=(tV (e2 ixA (aa 1) (aa 0)))
def ub:ME:=(aa 0)
def y4:MS:=(aj (ao 1 (e2 ixA (aa 0) (eC (.int 0))))
 (ay (am fu (ac (eLC true (bC (ac (eN bp (ac (aa 1) ah)) ah)) (gN 0) tT ub [none,some 1]) (ac (am eF (ac (e2 ixA (aa 0) (eC (.int 1))) ah)) ah)))))
def mn:List D->Option (D×En):=fnF 1 [0] y4
abbrev A3:Stmt:=top 1
abbrev Mp:List Str:=["machine"]
def KQ:FnScope Mp ["machine"] (ak A3):=fsc
def KM:MS:=(ay (am fu (ac (bh (ac (eC (.int 0)) ah)) (ac (e2 ixA (aa 0) (eC (.int 1))) ah))))
def qx:List D->Option (D×En):=fnF 0 [0] KM
abbrev fJ:Stmt:=top 10
abbrev ma:List Str:=["machine","living"]
def rg:FnScope ma ["machine"] (ak fJ):=fsc
def jO:MT:=(tV (e2 dIn (aa 0) (aa 1)))
def jW:ME:=(aa 0)
def mw:MS:=(aj (ao 1 (am fZ (ac (am mn (ac (aa 0) ah)) ah)))
 (ay (eLC true (bt (am qx (ac (aa 0) ah))) (gN 0) jO jW [none,some 1])))
def dU:List D->Option (D×En):=fnF 1 [0] mw
abbrev e8:Stmt:=top 14
abbrev kR:List Str:=["goes","kept","many","stand"]
def pJ:FnScope kR ["goes","kept"] (ak e8):=fsc
def jh:MS:=(bo 2 (aa 3) (eC (.int 0)))
def jc:MT:=(tV (e2 lH (aa 0) (aa 1)))
def jk:ME:=(aa 0)
def jg:MS:=(bo 2 (aa 3) (eN bp (ac (eLC true (bt (e2 ixA (aa 0) (aa 3))) (gN 0) jc jk [none,some 2]) ah)))
def kY:MS:=(aj (ao 2 ja)
 (aj (bT (bt (aa 1)) (gN 3) jh)
 (aj (bT (bt (aa 1)) (gN 3) jg)
 (ay (eMv 2)))))
def dB:List D->Option (D×En):=fnF 2 [0,0] kY
abbrev kA:Stmt:=top 15
abbrev tZ:List Str:=["ways","ranks"]
def xy:FnScope tZ ["ways","ranks"] (ak kA):=fsc
def ic:MT:=(cA (tV (e2 fT (aa 0) (eC .none))) (tV (e2 fT (e2 ixA (aa 1) (aa 0)) (eC .none))))
def pk:ME:=(e2 aY (e2 ixA (aa 1) (aa 0)) (eC (.int 1)))
def ud:MS:=(ay (e1 (wt 0) (eLC true (bt (aa 0)) (gN 0) ic pk [none,some 1])))
def iS:List D->Option (D×En):=fnF 0 [0,0] ud
abbrev gL:Stmt:=top 13
abbrev l9:List Str:=["goes","kept","left","backs","ranks","ready","here","before"]
def v6:FnScope l9 ["goes","kept"] (ak gL):=fsc
def nc:ME:=(eC .none)
def mX:MT:=(tV (e2 eqD (bi 1 (aa 0)) (eC (.int 0))))
def nb:ME:=(aa 0)
def gt:MS:=(sIf (tV (e2 dIn (aa 7) (aa 2))) (aj (bo 2 (aa 7) (e2 fP (bi 2 (aa 7)) (eC (.int 1))))
 (sIf (tV (e2 eqD (bi 2 (aa 7)) (eC (.int 0)))) (bI (cc 5 (aa 7))) aS)) aS)
def m7:MS:=(aj (ao 6 (iI 5))
 (aj (cE 4 (aa 6) (am iS (ac (e2 ixA (aa 0) (aa 6)) (ac (aa 4) ah))))
 (bT (bt (e2 ixA (aa 3) (aa 6))) (gN 7) gt)))
def jv:MT:=(tV (e2 gtI (eN bp (ac (aa 5) ah)) (eC (.int 0))))
def qY:MS:=(aj (ao 2 (am dB (ac (aa 0) (ac (aa 1) ah))))
 (aj (ao 3 (am eF (ac (aa 0) ah)))
 (aj (ao 4 (eLC true (bt (aa 0)) (gN 0) cY nc [none]))
 (aj (ao 5 (eLC true (bt (aa 1)) (gN 0) mX nb [none,some 2]))
 (aj (bR jv m7)
 (ay (eMv 4)))))))
def gM:List D->Option (D×En):=fnF 6 [0,0] qY
abbrev eD:Stmt:=top 17
abbrev jS:List Str:=["ways","stands"]
def nX:FnScope jS ["ways","stands"] (ak eD):=fsc
def ft:MT:=(tV (e2 lH (aa 1) (aa 2)))
def iT:ME:=(aa 0)
def jX:MS:=(ay (e2 ixA (eLC true (iG (ac (aa 0) ah)) (gT (gsC (gN 0) (gsC (gN 1) gs0))) ft iT [none,none,some 1]) (eC (.int 0))))
def db:List D->Option (D×En):=fnF 0 [0,0] jX
abbrev kC:Stmt:=top 6
abbrev wV:List Str:=["goes","first","came","ahead","done","here","sign","there"]
def uj:FnScope wV ["goes","first"] (ak kC):=fsc
def dS:MS:=(sIf (cA (tV (e2 fT (aa 7) (eC .none))) (tV (e2 cH (aa 7) (aa 2)))) (aj (bo 2 (aa 7) (da (ac (aa 5) (ac (aa 6) ah))))
 (bI (cc 3 (aa 7)))) aS)
def mi:MS:=(aj (ao 5 (dN 3 (aa 4)))
 (aj (bT (iG (ac (e2 ixA (aa 0) (aa 5)) ah)) (gT (gsC (gN 6) (gsC (gN 7) gs0))) dS)
 (ao 4 (e2 aY (aa 4) (eC (.int 1))))))
def iM:MT:=(tV (e2 ltI (aa 4) (eN bp (ac (aa 3) ah))))
def pC:MS:=(aj (ao 2 (gi [((eS3 (aa 1)),(eC .none))]))
 (aj (ao 3 (bh (ac (aa 1) ah)))
 (aj (ao 4 (eC (.int 0)))
 (aj (bR iM mi)
 (ay (eMv 2))))))
def fN:List D->Option (D×En):=fnF 6 [0,0] pC
abbrev qt:Stmt:=top 8
abbrev FM:List Str:=["came","stand","row","before"]
def zo:FnScope FM ["came","stand"] (ak qt):=fsc
def qV:MS:=(aj (bI (cc 2 (e2 ixA (aa 3) (eC (.int 1)))))
 (ao 3 (e2 lJ (aa 0) (e2 ixA (aa 3) (eC (.int 0))))))
def lR:MT:=(tV (e2 fT (aa 3) (eC .none)))
def vL:MS:=(aj (ao 2 (bh ah))
 (aj (ao 3 (e2 lJ (aa 0) (aa 1)))
 (aj (bR lR qV)
 (ay (eN rE (ac (aa 2) ah))))))
def jV:List D->Option (D×En):=fnF 2 [0,0] vL
abbrev kB:Stmt:=top 7
abbrev wU:List Str:=["machine","stand","came","there"]
def ui:FnScope wU ["machine","stand"] (ak kB):=fsc
def iQ:MS:=(sIf (tV (e2 ixA (e2 ixA (aa 0) (eC (.int 0))) (aa 3))) (ay (am jV (ac (aa 2) (ac (aa 3) ah)))) aS)
def pB:MS:=(aj (ao 2 (am fN (ac (e2 ixA (aa 0) (eC (.int 1))) (ac (aa 1) ah))))
 (aj (bT (iDk true 2) (gN 3) iQ)
 (ay (eC .none))))
def fM:List D->Option (D×En):=fnF 2 [0,0] pB
abbrev nM:Stmt:=top 16
abbrev A6:List Str:=["machine","unranked","places","row","here","sign"]
def xz:FnScope A6 ["machine","unranked"] (ak nM):=fsc
def pi:MS:=(aj (bo 2 (aa 4) (eN bp (ac (aa 3) ah)))
 (aj (ao 5 (am db (ac (e2 ixA (e2 ixA (aa 0) (eC (.int 1))) (aa 4)) (ac (aa 1) ah))))
 (aj (bI (cc 3 (aa 5)))
 (ao 4 (e2 ixA (e2 ixA (e2 ixA (aa 0) (eC (.int 1))) (aa 4)) (aa 5))))))
def kz:MT:=(tV (e2 cH (aa 4) (aa 2)))
def uf:MS:=(aj (ao 2 ja)
 (aj (ao 3 (bh ah))
 (aj (ao 4 (eC (.int 0)))
 (aj (bR kz pi)
 (ay (da (ac (eC (.str "endless")) (ac (eSl rH (aa 3) mE (j8 (bi 2 (aa 4)))) (ac (eSl rH (aa 3) (j8 (bi 2 (aa 4))) mE) (ac (am fM (ac (aa 0) (ac (aa 4) ah))) ah))))))))))
def gf:List D->Option (D×En):=fnF 4 [0,0] uf
abbrev rJ:Stmt:=top 12
abbrev DE:List Str:=["machine","kept","ranks"]
def HX:FnScope DE ["machine"] (ak rJ):=fsc
def qr:MT:=(tV (e2 isN (dN 1 (aa 0)) (eC .none)))
def vK:ME:=(aa 0)
def DF:MS:=(aj (ao 1 (am dU (ac (aa 0) ah)))
 (aj (sIf (tV (e2 eqD (eN bp (ac (aa 1) ah)) (eC (.int 0)))) (ay (da (ac (eC (.str "none")) (ac (am qx (ac (aa 0) ah)) ah)))) aS)
 (aj (ao 2 (am gM (ac (e2 ixA (aa 0) (eC (.int 1))) (ac (aa 1) ah))))
 (aj (sIf (tV (e2 isN (dN 2 (eC (.int 0))) (eC .none))) (ay (am gf (ac (aa 0) (ac (am fZ (ac (eLC true (bt (aa 1)) (gN 0) qr vK [none,some 2]) ah)) ah)))) aS)
 (ay (da (ac (eC (.str "last")) (ac (eMv 2) ah))))))))
def mO:List D->Option (D×En):=fnF 2 [0] DF
abbrev jx:Stmt:=top 22
abbrev uH:List Str:=["_law_pen_here"]
def rT:FnScope uH ["_law_pen_here"] (ak jx):=fsc
def jB:MS:=(ay (e2 ixA (bh (ac (eC (.int 2)) (ac (eC (.int 1)) (ac (eC (.int 3)) (ac (eC (.int 2)) (ac (eC (.int 4)) (ac (eC (.int 3)) (ac (eC (.int 2)) (ac (e2 aY (eC (.int 5)) (am ar (aB 0 (ac (eC (.int 8)) ah)))) ah))))))))) (am ar (aB 0 (ac (eC (.int 8)) ah)))))
def bY:List D->Option (D×En):=fnF 0 [1] jB
abbrev eT:Stmt:=top 31
abbrev jA:List Str:=["_law_pen_here","_law_many","_law_goes"]
def rX:FnScope jA ["_law_pen_here"] (ak eT):=fsc
def kX:ME:=(bh (ac (e2 aY (aa 0) (eC (.int 1))) ah))
def kW:ME:=(e2 eqD (aa 0) (e2 fP (aa 1) (eC (.int 1))))
def nh:MS:=(aj (ao 1 (e2 aY (eC (.int 100)) (am ar (aB 0 (ac (eC (.int 900)) ah)))))
 (aj (ao 2 (eLC true (bC (ac (aa 1) ah)) (gN 0) cY kX [none]))
 (aj (cE 2 (e2 fP (aa 1) (eC (.int 1))) (bh (ac (e2 ixA (bh (ac (eC .none) (ac (am ar (aB 0 (ac (e2 cU (aa 1) (eC (.int 2))) ah))) ah))) (am ar (aB 0 (ac (eC (.int 2)) ah)))) ah)))
 (ay (da (ac (eLC true (bC (ac (aa 1) ah)) (gN 0) cY kW [none,some 1]) (ac (aa 2) ah)))))))
def eV:List D->Option (D×En):=fnF 2 [1] nh
abbrev lW:Stmt:=top 28
abbrev yY:List Str:=["_law_machine_here","_law_known","_law_wait","_law_at","_law_goal_here"]
def v8:FnScope yY ["_law_machine_here"] (ak lW):=fsc
def gu:MS:=(sIf (cA (tV (e2 fT (aa 4) (eC .none))) (tV (e2 cH (aa 4) (aa 1)))) (aj (bo 1 (aa 4) (eC (.bool true)))
 (bI (cc 2 (aa 4)))) aS)
def m8:MS:=(aj (bT (bt (e2 ixA (e2 ixA (aa 0) (eC (.int 1))) (dN 2 (aa 3)))) (gN 4) gu)
 (ao 3 (e2 aY (aa 3) (eC (.int 1)))))
def jw:MT:=(tV (e2 ltI (aa 3) (eN bp (ac (aa 2) ah))))
def qZ:MS:=(aj (ao 1 (gi [((eC (.int 0)),(eC (.bool true)))]))
 (aj (ao 2 (bh (ac (eC (.int 0)) ah)))
 (aj (ao 3 (eC (.int 0)))
 (aj (bR jw m8)
 (ay (eN rP (ac (aa 2) ah)))))))
def gO:List D->Option (D×En):=fnF 4 [0] qZ
abbrev e9:Stmt:=top 29
abbrev kS:List Str:=["_law_machine_here","_law_some","_law_best","_law_grown","_law_stand","_law_goal_here"]
def pL:FnScope kS ["_law_machine_here","_law_some"] (ak e9):=fsc
def jd:MT:=(tV (e2 ixA (e2 ixA (aa 1) (eC (.int 0))) (aa 0)))
def jm:ME:=(da (ac (aa 0) (ac (eC (.int 0)) ah)))
def fL:MS:=(sIf (cA (tV (e2 lH (aa 5) (aa 2))) (tV (e2 leI (iJ (aa 2) (aa 4) (e1 nz (eC (.int 1)))) (e2 lJ (aa 2) (aa 5))))) (aj (bo 2 (aa 4) (e2 aY (bi 2 (aa 5)) (eC (.int 1))))
 (aj (ao 3 (eC (.bool true)))
 (sIf (tV (e2 eqD (bi 2 (aa 4)) (eN bp (ac (aa 1) ah)))) (ay (eC .none)) aS))) aS)
def jj:MS:=(bT (bt (e2 ixA (e2 ixA (aa 0) (eC (.int 1))) (aa 4))) (gN 5) fL)
def ji:MS:=(aj (ao 3 (eC (.bool false)))
 (bT (bt (e2 sd (aa 1) (e1 nz (eC (.int 1))))) (gN 4) jj))
def fI:MT:=(tV (aa 3))
def kZ:MS:=(aj (ao 2 (eN tI (ac (eLC true (bt (aa 1)) (gN 0) jd jm [none,some 0]) ah)))
 (aj (ao 3 (eC (.bool true)))
 (aj (bR fI ji)
 (ay (aa 2)))))
def dC:List D->Option (D×En):=fnF 4 [0,0] kZ
abbrev ii:Stmt:=top 25
abbrev pc:List Str:=["_law_got","_law_due"]
def ul:FnScope pc ["_law_got","_law_due"] (ak ii):=fsc
def iU(self:List D->Option (D×En)):ME:=(am self (ac (aa 0) (ac (aa 1) ah)))
def dy(self:List D->Option (D×En)):MS:=(aj (sIf (tV (e1 (fE ["list","tuple"]) (aa 1))) (aj (sIf (bOr (fX (tV (e1 (fE ["list","tuple"]) (aa 0)))) (tV (e2 neD (e1 (dh "list") (aa 0)) (e1 (dh "list") (aa 1))))) (ay (eC (.bool false))) aS)
 (ay (kq (e2 eqD (eN bp (ac (aa 0) ah)) (eN bp (ac (aa 1) ah))) (eN qp (ac (eLC true (oF (ac (aa 0) (ac (aa 1) ah))) (gT (gsC (gN 0) (gsC (gN 1) gs0))) cY (iU self) [none,none]) ah))))) aS)
 (aj (sIf (bOr (tV (e2 isN (aa 1) (eC .none))) (tV (e1 (fE ["bool","str"]) (aa 1)))) (ay (e2 eqD (eN mC (ac (aa 0) ah)) (eN mC (ac (aa 1) ah)))) aS)
 (ay (kq (e1 (dh "int") (aa 0)) (kq (qg (e1 (dh "bool") (aa 0))) (e2 eqD (aa 0) (aa 1)))))))
def aW:Nat->List D->Option (D×En)
 |0=>fun _=>none
 |j+1=>fnF 0 [0,0] (dy (aW j))
abbrev kF:Stmt:=top 26
abbrev wX:List Str:=["_law_machine_here","_law_stand","_law_row","_law_number"]
def uo:FnScope wX ["_law_machine_here","_law_stand","_law_row"] (ak kF):=fsc
def iR:MS:=(sIf (tV (e2 fT (aa 1) (eC .none))) (ao 1 (e2 ixA (e2 ixA (e2 ixA (aa 0) (eC (.int 1))) (aa 1)) (aa 3))) aS)
def pE:MS:=(aj (bT (bt (aa 2)) (gN 3) iR)
 (ay (aa 1)))
def dw:List D->Option (D×En):=fnF 1 [0,0,0] pE
abbrev iN:Stmt:=top 32
abbrev t7:List Str:=["_law_machine_here","_law_thing","_law_one"]
def rh:FnScope t7 ["_law_machine_here","_law_thing"] (ak iN):=fsc
def jT:MS:=(sIf (bOr (fX (tV (e1 (dh "int") (aa 2)))) (bOr (tV (e1 (dh "bool") (aa 2))) (fX (tV (jM leI ltI (eC (.int 0)) (aa 2) (eN bp (ac (e2 ixA (e2 ixA (aa 0) (eC (.int 1))) (eC (.int 0))) ah))))))) (ay (eC (.bool false))) aS)
def mx:MS:=(aj (sIf (bOr (fX (tV (e1 (dh "list") (aa 1)))) (tV (e2 gtI (eN bp (ac (aa 1) ah)) (eN bp (ac (e2 ixA (aa 0) (eC (.int 0))) ah))))) (ay (eC (.bool false))) aS)
 (aj (bT (bt (aa 1)) (gN 2) jT)
 (ay (eC (.bool true)))))
def dW:List D->Option (D×En):=fnF 1 [0,0] mx
abbrev du:Stmt:=top 33
abbrev iO:List Str:=["_law_machine_here","_law_told","_law_stand","_law_goal_here"]
def mP:FnScope iO ["_law_machine_here","_law_told"] (ak du):=fsc
def gP:ME:=(am dW (ac (aa 1) (ac (aa 0) ah)))
def iV:MS:=(aj (sIf (bOr (tV (e2 neD (eN bp (ac (aa 1) ah)) (eC (.int 4)))) (bOr (tV (e2 neD (e2 ixA (aa 1) (eC (.int 0))) (eC (.str "endless")))) (tV (e2 eqD (e2 ixA (aa 1) (eC (.int 2))) (bh ah))))) (ay (eC (.bool false))) aS)
 (aj (sIf (fX (tV (eN qp (ac (eLC true (bt (eSl wN (aa 1) (j8 (eC (.int 1))) mE)) (gN 0) cY gP [none,some 0]) ah)))) (ay (eC (.bool false))) aS)
 (aj (ao 2 (am dw (ac (aa 0) (ac (eC (.int 0)) (ac (e2 ixA (aa 1) (eC (.int 1))) ah)))))
 (aj (sIf (bOr (tV (e2 isN (aa 2) (eC .none))) (tV (e2 neD (am dw (ac (aa 0) (ac (aa 2) (ac (e2 ixA (aa 1) (eC (.int 2))) ah)))) (aa 2)))) (ay (eC (.bool false))) aS)
 (aj (ao 3 (am dw (ac (aa 0) (ac (aa 2) (ac (e2 ixA (aa 1) (eC (.int 3))) ah)))))
 (ay (kq (e2 fT (aa 3) (eC .none)) (e2 ixA (e2 ixA (aa 0) (eC (.int 0))) (aa 3)))))))))
def bV:List D->Option (D×En):=fnF 2 [0,0] iV
abbrev gq:Stmt:=top 34
abbrev m6:List Str:=["_law_machine_here","_law_told","_law_some","_law_best"]
def rV:FnScope m6 ["_law_machine_here","_law_told"] (ak gq):=fsc
def kU:ME:=(iJ (aa 1) (aa 0) (eC .none))
def ng:MS:=(aj (sIf (bOr (fX (tV (e1 (dh "tuple") (aa 1)))) (tV (e2 ltI (eN bp (ac (aa 1) ah)) (eC (.int 2))))) (ay (eC (.bool false))) aS)
 (aj (ao 2 (am gO (ac (aa 0) ah)))
 (aj (ao 3 (am dC (ac (aa 0) (ac (aa 2) ah))))
 (aj (sIf (tV (e2 isN (aa 3) (eC .none))) (ay (am bV (ac (aa 0) (ac (aa 1) ah)))) aS)
 (aj (sIf (tV (e2 cH (eC (.int 0)) (aa 3))) (ay (am (aW 6) (ac (aa 1) (ac (da (ac (eC (.str "none")) (ac (aa 2) ah))) ah)))) aS)
 (ay (am (aW 6) (ac (aa 1) (ac (da (ac (eC (.str "last")) (ac (eLC true (bC (ac (eN bp (ac (e2 ixA (aa 0) (eC (.int 0))) ah)) ah)) (gN 0) cY kU [none,some 3]) ah))) ah)))))))))
def cQ:List D->Option (D×En):=fnF 2 [0,0] ng
abbrev lU:Stmt:=top 35
abbrev KI:List Str:=["_law_script","_law_pen_here","_law_size","_law_machines","_law_machine_here","_law_handed","_law_told"]
def KR:FnScope KI ["_law_script"] (ak lU):=fsc
def ua:ME:=(eN iZ (ac (aa 0) ah))
def mh:MS:=(aj (ao 5 (da (ac (eN iZ (ac (e2 ixA (aa 4) (eC (.int 0))) ah)) (ac (eLC true (bt (e2 ixA (aa 4) (eC (.int 1)))) (gN 0) cY ua [none]) ah))))
 (aj (ao 6 (am mO (ac (aa 5) ah)))
 (aj (sIf (bOr (fX (tV (am cQ (ac (aa 4) (ac (aa 6) ah))))) (tV (e2 neD (aa 5) (aa 4)))) (ay (eC (.bool false))) aS)
 (aj (bI (gj 6 (pIx 6 (fR 6) (eC (.int 1))) (eC (.int 0))))
 (aj (bI (jb 6 (pIx 6 (fR 6) (e1 nz (eC (.int 1))))))
 (sIf (tV (e2 neD (aa 5) (aa 4))) (ay (eC (.bool false))) aS))))))
def KN:MS:=(aj (ao 1 (am cJ (ac (aa 0) (ac (eC (.int 0)) ah))))
 (aj (ao 2 (am ar (aB 1 (ac (eC (.int 16)) ah))))
 (aj (ao 3 (bh (ac (am bA (aB 1 (ac (am bY (aB 1 ah)) (ac (e2 ixA (bh (ac (eC (.int 9)) (ac (eC (.int 30)) ah))) (eN lq (ac (e2 eqD (aa 2) (eC (.int 9))) ah))) ah)))) ah)))
 (aj (sIf (tV (e2 eqD (aa 2) (eC (.int 10)))) (ao 3 (bh (ac (am eV (aB 1 ah)) ah))) aS)
 (aj (ao 1 (am cJ (ac (aa 0) (ac (eC (.int 31)) ah))))
 (aj (bI (cc 3 (am bA (aB 1 (ac (am bY (aB 1 ah)) (ac (eC (.int 6)) ah))))))
 (aj (sIf (tV (e2 eqD (am ar (aB 1 (ac (eC (.int 3)) ah))) (eC (.int 0)))) (cE 3 (eC (.int 1)) (am eI (aB 1 (ac (e2 aY (eC (.int 1)) (am ar (aB 1 (ac (eC (.int 3)) ah)))) ah)))) aS)
 (aj (bT (bt (e2 nJ (aa 3) (aa 3))) (gN 4) mh)
 (ay (eC (.bool true)))))))))))
def xa:List D->Option (D×En):=fnF 6 [0] KN
section
variable(P:Program)(w:World)(K:zb7)(mg:Str->Option Value)(base:Heap)(k:Nat)
abbrev l6:Prop:=Kn P w K mg base k "_law_mixed" ["_law_cell","_law_k"] (spF K [0,0] 3 cR)
abbrev cP:Prop:=Kn P w K mg base k "_law_take" ["_law_pen_here","_law_most"] (spF K [1,0] 0 ar)
abbrev m5:Prop:=Kn P w K mg base k "_law_goal" ["_law_pen_here","_law_stand","_law_stands","_law_way"] (spF K [1,0,0,0] 0 bZ)
abbrev kI:Prop:=Kn P w K mg base k "marked" ["things"] (spF K [0] 1 fZ)
abbrev lX:Prop:=Kn P w K mg base k "reached" ["first","goes"] (spF K [0,0] 1 fu)
abbrev jz:Prop:=Kn P w K mg base k "ways_back" ["goes"] (spF K [0] 0 eF)
abbrev vJ:Prop:=Kn P w K mg base k "alive" ["machine"] (spF K [0] 1 mn)
abbrev wT:Prop:=Kn P w K mg base k "met" ["machine"] (spF K [0] 1 qx)
abbrev jP:Prop:=Kn P w K mg base k "ways_to_kept" ["goes","kept"] (spF K [0,0] 1 dB)
abbrev qT:Prop:=Kn P w K mg base k "rank_of" ["ways","ranks"] (spF K [0,0] 3 iS)
abbrev mZ:Prop:=Kn P w K mg base k "came_from" ["goes","first"] (spF K [0,0] 1 fN)
abbrev tX:Prop:=Kn P w K mg base k "row_to" ["came","stand"] (spF K [0,0] 1 jV)
abbrev jf:Prop:=Kn P w K mg base k "first_sign_to" ["ways","stands"] (spF K [0,0] 0 db)
abbrev mY:Prop:=Kn P w K mg base k "first_row" ["machine","stand"] (spF K [0,0] 1 fM)
abbrev kP:Prop:=Kn P w K mg base k "kept_stands" ["machine"] (spF K [0] 1 dU)
abbrev oX:Prop:=Kn P w K mg base k "ranks_of" ["goes","kept"] (spF K [0,0] 1 gM)
abbrev qU:Prop:=Kn P w K mg base k "endless" ["machine","unranked"] (spF K [0,0] 2 gf)
abbrev m4:Prop:=Kn P w K mg base k "_law_gone" ["_law_machine_here","_law_stand","_law_row"] (spF K [0,0,0] 0 dw)
abbrev kQ:Prop:=Kn P w K mg base k "_law_is_row" ["_law_machine_here","_law_thing"] (spF K [0,0] 3 dW)
abbrev oZ:Prop:=Kn P w K mg base k "_law_met" ["_law_machine_here"] (spF K [0] 1 gO)
abbrev jR:Prop:=Kn P w K mg base k "_law_longest" ["_law_machine_here","_law_some"] (spF K [0,0] 0 dC)
abbrev hV:Prop:=Kn P w K mg base k "_law_goes_round" ["_law_machine_here","_law_told"] (spF K [0,0] 0 bV)
abbrev oY:Prop:=Kn P w K mg base k "_law_pen" ["_law_script","_law_first"] (spF K [0,0] 1 cJ)
abbrev jQ:Prop:=Kn P w K mg base k "_law_machine" ["_law_pen_here","_law_signs_here","_law_most"] (spF K [1,0,0] 0 bA)
abbrev m3:Prop:=Kn P w K mg base k "_law_ring" ["_law_pen_here","_law_signs_here"] (spF K [1,0] 0 eI)
abbrev yV:Prop:=Kn P w K mg base k "span" ["machine"] (spF K [0] 2 mO)
abbrev lY:Prop:=Kn P w K mg base k "_law_signs" ["_law_pen_here"] (spF K [1] 3 bY)
abbrev l7:Prop:=Kn P w K mg base k "_law_chain" ["_law_pen_here"] (spF K [1] 0 eV)
abbrev lZ:Prop:=Kn P w K mg base k "_law_right" ["_law_machine_here","_law_told"] (spF K [0,0] 0 cQ)
end
def wn(T:Bl mg)(F:Fun K "_law_pen" "_law_pen" lV f fd):FnOk P w K mg base CX0 (k+1) f fd ["_law_script","_law_first"] (spF K [0,0] 1 cJ):=
 F.okR v7 ⟨[],[0,0],1,[]⟩ [0,0] fun nd _ _ _ _ _ _ hr=>(frt (lB (fs:=[((eC (.str "script")),(aa 0)),((eC (.str "at")),(aa 1)),((eC (.str "left")),(eC (.int 0)))]) (gH bm (fv 0) (gH bm (fv 1) (gH bm (fs0 ai) nC))) rfl rfl (fun z=>nomatch z) (by decide)))
def sw(T:Bl mg)(F:Fun K "_law_mixed" "_law_mixed" jy f fd):FnOk P w K mg base CX0 (k+1) f fd ["_law_cell","_law_k"] (spF K [0,0] 3 cR):=
 F.okR rW ⟨[],[0,0,0,0],3,[]⟩ [0,0,0,0] fun nd _ _ _ _ _ _ hr=>(ag (aO 2 [0,0,0,0] nd (fs0 (au gJ (au iH (au bG (au bG (au gJ (fv 0) ai) (au iH ai (fv 1))) ai) ai) ai))) (ag (aO 3 [0,0,0,0] nd (fs0 (au gJ (au bG (au bG (au iH (fv 2) (fv 2)) (au iH ai (fv 2))) (fv 1)) ai))) (frt (au qa (au gJ (au bG (au bG (au iH (fv 3) (fv 3)) (au iH ai (fv 3))) (au iH ai (fv 1))) ai) ai))))
def ux(T:Bl mg)(uK:l6 P w K mg base k)(F:Fun K "_law_take" "_law_take" kE f fd):FnOk P w K mg base CX0 (k+1) f fd ["_law_pen_here","_law_most"] (spF K [1,0] 0 ar):=
 F.okR uk ⟨[0],[1,0,0,0,0,0],0,[]⟩ [1,0,0,0,0,0] fun nd _ _ _ _ _ _ hr=>(ag (aO 2 [1,0,0,0,0,0] nd (bz (i:=0) (aT hr) rfl (.inl rfl) rfl bm (fun _ _=>rfl) rfl rfl)) (ag (aO 3 [1,0,0,0,0,0] nd (bz (i:=0) (aT hr) rfl (.inl rfl) rfl bm (fun _ _=>rfl) rfl rfl)) (ag (aF (ds2:=[1,0,0,0,0,0]) (fte rfl hr.units (bz (i:=0) (aT hr) rfl (.inl rfl) rfl bm (fun _ _=>rfl) rfl rfl) ai) (ag (bx (i:=0) (aT hr) rfl (.inl rfl) (fs0 (au bG (fv 2) ai)) bm rfl rfl rfl rfl) (ag (aO 4 [1,0,0,0,0,0] nd (fs0 ai)) (ag (aF (ds2:=[1,0,0,0,0,0]) (aH rG (fln rfl T.len0 (fac (fv 3) af)) ai (aL _)) (av (aO 4 [1,0,0,0,0,0] nd (bg (bQ (K:=K) rfl) (fv 3) (au gJ (fv 2) (fln rfl T.len0 (fac (fv 3) af))) (fun _ _=>rfl)))) az) (ag (aF (ds2:=[1,0,0,0,0,0]) (qpt (cC (aH Dw (fv 2) (fln rfl T.len0 (fac (fv 3) af)) (aL _)) (cL (aH mI (fcb yv T.abs0 (by decide +kernel) (fac (fv 4) af)) (au JI ai ai) (aL _))))) (frt (fs0 (au gJ (fnn uK hr (fac (fv 4) (fac (fv 2) af))) (fv 1)))) az) (av (bx (i:=0) (aT hr) rfl (.inl rfl) (fs0 (fcb yv T.abs0 (by decide +kernel) (fac (fv 4) af))) bm rfl rfl rfl rfl)))))) az) (ag (aO 5 [1,0,0,0,0,0] nd (fs0 (au gJ (bz (i:=0) (aT hr) rfl (.inl rfl) rfl bm (fun _ _=>rfl) rfl rfl) (fv 1)))) (ag (bx (i:=0) (aT hr) rfl (.inl rfl) (fs0 (au qa (bz (i:=0) (aT hr) rfl (.inl rfl) rfl bm (fun _ _=>rfl) rfl rfl) (fv 1))) bm rfl rfl rfl rfl) (frt (fv 5)))))))
def uA(T:Bl mg)(aK:cP P w K mg base k)(F:Fun K "_law_goal" "_law_goal" kG f fd):FnOk P w K mg base CX0 (k+1) f fd ["_law_pen_here","_law_stand","_law_stands","_law_way"] (spF K [1,0,0,0] 0 bZ):=
 F.okR uq ⟨[0],[1,0,0,0,0],0,[]⟩ [1,0,0,0,0] fun nd _ _ _ _ _ _ hr=>(ag (aO 4 [1,0,0,0,0] nd (fns aK hr (fsl 0 (fac (fs0 (au bG (fv 2) ai)) af)))) (ag (aF (ds2:=[1,0,0,0,0]) (qpt (cC (fte rfl hr.units (fv 4) (fv 2)) (cL (qpt (fm (fte rfl hr.units (fv 3) ai) (dI (aH wH (fv 4) (fv 1) (aL _)))))))) (frt (fs0 aQ)) az) (frt (fv 4))))
def pS(T:Bl mg)(aK:cP P w K mg base k)(w8:m5 P w K mg base k)(F:Fun K "_law_machine" "_law_machine" dA f fd):FnOk P w K mg base CX0 (k+1) f fd ["_law_pen_here","_law_signs_here","_law_most"] (spF K [1,0,0] 0 bA):=
 F.okR pK ⟨[0],[1,0,0,0,0,0,0,0,0,0],0,[]⟩ [1,0,0,0,0,0,0,0,0,0] fun nd _ _ _ _ _ _ hr=>(ag (bP (i:=3) (d:=0) (ds':=[1,0,0,0,0,0,0,0,0,0]) nd rfl (.inr rfl) (fs0 (au bG ai (fns aK hr (sU 0 (fac (fv 2) af))))) rfl (by decide) (by decide) rfl (.inl rfl)) (ag (bP (i:=4) (d:=0) (ds':=[1,0,0,0,0,0,0,0,0,0]) nd rfl (.inr rfl) (fns aK hr (sU 0 (fac (fs0 ai) af))) rfl (by decide) (by decide) rfl (.inl rfl)) (ag (bP (i:=5) (d:=0) (ds':=[1,0,0,0,0,0,0,0,0,0]) nd rfl (.inr rfl) (fs0 (au bG ai (fns aK hr (sU 0 (fac (fvc 3) af))))) rfl (by decide) (by decide) rfl (.inl rfl)) (ag (aO 6 [1,0,0,0,0,0,1,0,0,0] nd (bJ (d':=1) (ba (d:=3) (c:=3) af rfl rfl (by decide)) (by decide))) (ag (aO 7 [1,0,0,0,0,0,1,1,0,0] nd (bJ (d':=1) (ba (d:=3) (c:=3) af rfl rfl (by decide)) (by decide))) (ag (bf (ds1:=[1,0,0,0,0,0,1,1,0,0]) rfl (df rfl T.range0 (fac (fvc 3) af) rfl) (oK (i:=8) (ds':=[1,0,0,0,0,0,1,1,0,0]) nd rfl (.inr rfl) rfl (by decide) (by decide) (.inl rfl)) (ag (bF (cO (K:=K) (i:=6) (d:=1) rfl rfl (.inl rfl) rfl (fs0 (cN (i7 (K:=K) rfl hr.units) (fns aK hr (sU 0 (fac (fs0 ai) af))) ai (aL _))) (by decide) rfl rfl rfl rfl rfl rfl rfl rfl) rfl) (ag (gE (ds1:=[1,0,0,0,0,0,1,1,0,0]) (dE (i:=9) (ds':=[1,0,0,0,0,0,1,1,0,1]) (cd:=0) (d:=1) (dsi:=[0,1,0,0,0]) (lk:=[1,2,3,4]) nd rfl rfl (BlkOkC.of (ns:=["_law_number","_law_pen_here","_law_stands","_law_way","_law_stand"]) (js:=[none,some 0,some 3,some 4,some 8]) (N0:=gY) (sc0:=ak dA) rfl rfl (by decide +kernel)) rfl (df rfl T.range0 (fac (fv 1) af) rfl) (fun _ _ _ _ _=>(fgn 0 [0,1,0,0,0] (ndk ["_law_number","_law_pen_here","_law_stands","_law_way","_law_stand"]))) (fun _ _ _ _ _=>b9) (fun _ _ _ _ _=>(fns w8 hr (sU 1 (fac (fvc 4) (fac (fvc 2) (fac (fvc 3) af)))))) rfl rfl rfl (by decide) rfl (by decide) (by decide) rfl (fun _=>rfl)) rfl) (ag (aF (ds2:=[1,0,0,0,0,0,1,1,0,0]) (qpt (fm (fte rfl hr.units (fvc 4) ai) (dI (aH mI (fvc 8) (fvc 5) (aL _))))) (ag (eA (i:=6) (d:=1) (c:=0) rfl (.inl rfl) (fs0 bq) (fvc 8) rfl (by decide) rfl rfl rfl (fun _=>rfl) rfl rfl rfl) (av (gE (ds1:=[1,0,0,0,0,0,1,1,0,0]) (dE (i:=9) (ds':=[1,0,0,0,0,0,1,1,0,1]) (cd:=0) (d:=1) (dsi:=[0,0]) (lk:=[1]) nd rfl rfl (BlkOkC.of (ns:=["_law_goal_here","_law_fence"]) (js:=[none,some 5]) (N0:=gY) (sc0:=ak dA) rfl rfl (by decide +kernel)) rfl (aV (K:=K) rfl (fv 9)) (fun _ _ _ _ _=>(fgn 0 [0,0] (ndk ["_law_goal_here","_law_fence"]))) (fun _ _ _ _ _=>b9) (fun _ _ _ _ _=>(bg (bQ (K:=K) rfl) (ba (d:=1) (c:=0) (fac (fv 0) (fac aQ af)) rfl rfl (by decide)) (fct yt T.int0 (by decide +kernel) (fac (fs0 (Fh (cN jK (fv 0) aQ (aL _)) (kh (cN Dw (fv 0) (fvc 1) (aL _))))) af)) (fun _ _=>rfl))) rfl rfl rfl (by decide) rfl (by decide) (by decide) rfl (fun _=>rfl)) rfl))) az) (av (bF (cO (K:=K) (i:=7) (d:=1) rfl rfl (.inl rfl) rfl (fv 9) (by decide) rfl rfl rfl rfl rfl rfl rfl rfl) rfl))))) PassesOwn.never (fun _=>rfl)) (frt (cw (d:=0) (c:=0) (fac (c9 (ds0:=[1,0,0,0,0,0,0,1,0,0]) (bU (p:=false) (i:=6) rfl (.inl rfl) rfl rfl rfl) rfl) (fac (c9 (ds0:=[1,0,0,0,0,0,0,0,0,0]) (bU (p:=false) (i:=7) rfl (.inl rfl) rfl rfl rfl) rfl) af)) rfl rfl))))))))
def uy(T:Bl mg)(aK:cP P w K mg base k)(F:Fun K "_law_ring" "_law_ring" ij f fd):FnOk P w K mg base CX0 (k+1) f fd ["_law_pen_here","_law_signs_here"] (spF K [1,0] 0 eI):=
 F.okR um ⟨[0],[1,0,0,0,0,0],0,[]⟩ [1,0,0,0,0,0] fun nd _ _ _ _ _ _ hr=>(ag (bP (i:=2) (d:=0) (ds':=[1,0,0,0,0,0]) nd rfl (.inr rfl) (fs0 (au bG ai (fns aK hr (fsl 0 (fac (fs0 ai) af))))) rfl (by decide) (by decide) rfl (.inl rfl)) (ag (aO 3 [1,0,0,2,0,0] nd (bJ (d':=2) (ba (d:=3) (c:=3) af rfl rfl (by decide)) (by decide))) (ag (bf (ds1:=[1,0,0,2,0,0]) rfl (df rfl T.range0 (fac (fvc 2) af) rfl) (fgn 4 [1,0,0,2,0,0] nd) (ag (aO 5 [1,0,0,2,0,1] nd (au (vp (K:=K) rfl) (ba (d:=3) (c:=3) (fac aQ af) rfl rfl (by decide)) (fv 1))) (ag (eA (i:=5) (d:=1) (c:=0) rfl (.inl rfl) (fs0 (au gJ (au bG (fv 4) ai) (au gI (fvc 2) ai))) (fns aK hr (fsl 0 (fac (fv 1) af))) rfl (by decide) rfl rfl rfl (fun _=>rfl) rfl rfl rfl) (av (bF (cO (K:=K) (i:=3) (d:=2) rfl rfl (.inl rfl) rfl (iq (i:=5) (ds':=[1,0,0,2,0,0]) rfl (.inl rfl) rfl rfl rfl rfl) (by decide) rfl rfl rfl rfl rfl rfl rfl rfl) rfl)))) PassesOwn.never (fun _=>rfl)) (ag (uD (p:=false) (i:=3) (d:=2) rfl rfl (fs0 (au gI (fvc 2) ai)) (ke (i:=3) (d:=2) rfl rfl (i6 (i:=3) rfl (.inl rfl) rfl rfl) (fns aK hr (fsl 0 (fac (fs0 (au gI (fvc 2) ai)) af))) (by decide) (by first|exact .inl rfl|exact .inr rfl) (fun _ _=>rfl)) (AK aK hr rfl (fsl 0 (fac (fv 1) af)) (zR rfl) rfl rfl rfl rfl) (by decide) rfl (fun _=>rfl) rfl rfl rfl) (ag (eA (i:=3) (d:=2) (c:=1) rfl (.inl rfl) (au (vp (K:=K) rfl) (ba (d:=3) (c:=3) (fac aQ af) rfl rfl (by decide)) (fv 1)) (au gI (fvc 2) ai) rfl (by decide) rfl rfl rfl (fun _=>rfl) rfl rfl rfl) (frt (cw (d:=0) (c:=0) (fac (cq (cd:=3) (d:=3) (dsi:=[0,0]) (lk:=[1]) (BlkOkC.of (ns:=["_law_stand","_law_many"]) (js:=[none,some 2]) (N0:=pd) (sc0:=ak ij) rfl rfl (by decide +kernel)) rfl (df rfl T.range0 (fac (fvc 2) af) rfl) (fun _ _ _ _ _=>(fgn 0 [0,0] (ndk ["_law_stand","_law_many"]))) (fun _ _ _ _ _=>b9) (fun _ _ _ _ _=>(cN (i7 (K:=K) rfl hr.units) (fv 0) (au gI (fvc 1) ai) (aL _))) rfl rfl (by decide) rfl (fun _=>rfl)) (fac (c9 (ds0:=[1,0,0,0,0,0]) (bU (p:=false) (i:=3) rfl (.inl rfl) rfl rfl rfl) rfl) af)) rfl rfl)))))))
def zO(T:Bl mg)(F:Fun K "marked" "marked" qu f fd):FnOk P w K mg base CX0 (k+1) f fd ["things"] (spF K [0] 1 fZ):=
 F.okR zp ⟨[],[0,0,0],1,[]⟩ [0,0,0] fun nd _ _ _ _ _ _ hr=>(ag (aO 1 [0,1,0] nd (bJ (d':=1) lA (by decide))) (ag (bf (ds1:=[0,1,0]) rfl (aV (K:=K) rfl (fv 0)) (fgn 2 [0,1,0] nd) (av (bx (i:=1) (aT hr) rfl (.inl rfl) (fs0 bq) (fv 2) rfl rfl rfl rfl)) PassesOwn.never (fun _=>rfl)) (frt (iq (i:=1) (ds':=[0,0,0]) rfl (.inl rfl) rfl rfl rfl rfl))))
def xQ(T:Bl mg)(jU:kI P w K mg base k)(F:Fun K "reached" "reached" nL f fd):FnOk P w K mg base CX0 (k+1) f fd ["first","goes"] (spF K [0,0] 1 fu):=
 F.okR xx ⟨[],[0,0,0,0,0,0],1,[]⟩ [0,0,0,0,0,0] fun nd _ _ _ _ _ _ hr=>(ag (aO 2 [0,0,1,0,0,0] nd (fnn jU hr (fac (fv 0) af))) (ag (aO 3 [0,0,1,1,0,0] nd (fct (p9 (K:=K) rfl rfl) T.list0 (by decide +kernel) (fac (fv 0) af))) (ag (cM (ds:=[0,0,1,1,0,0]) (bO (ds0:=[0,0,1,0,0,0]) (aH rG (fln rfl T.len0 (fac (fv 3) af)) ai (aL _)) rfl) (ag (aO 4 [0,0,1,1,0,0] nd (tj (K:=K) (i:=3) (d:=1) rfl rfl (.inl rfl) rfl (by decide) rfl rfl rfl rfl rfl)) (av (bf (ds1:=[0,0,1,1,0,0]) rfl (aV (K:=K) rfl (bg (bQ (K:=K) rfl) (fv 1) (fv 4) (fun _ _=>rfl))) (fgn 5 [0,0,1,1,0,0] nd) (av (aF (ds2:=[0,0,1,1,0,0]) (bO (ds0:=[0,0,0,1,0,0]) (qpt (fm (aH eB (fv 5) aQ (aL _)) (dI (gC (aT hr) (fv 5) (fv 2) (by with_unfolding_all rfl))))) rfl) (ag (bx (i:=2) (aT hr) rfl (.inl rfl) (fs0 bq) (fv 5) rfl rfl rfl rfl) (av (bF (cO (K:=K) (i:=3) (d:=1) rfl rfl (.inl rfl) rfl (fv 5) (by decide) rfl rfl rfl rfl rfl rfl rfl rfl) rfl))) az)) PassesOwn.never (fun _=>rfl)))) PassesOwn.never) (frt (fcb (AB (K:=K) rfl rfl) T.sorted0 (by decide +kernel) (fac (c9 (ds0:=[0,0,0,1,0,0]) (bU (p:=false) (i:=2) rfl (.inl rfl) rfl rfl rfl) rfl) af))))))
def uu(T:Bl mg)(F:Fun K "ways_back" "ways_back" ig f fd):FnOk P w K mg base CX0 (k+1) f fd ["goes"] (spF K [0] 0 eF):=
 F.okR uh ⟨[],[0,0,0,0,0],0,[]⟩ [0,0,0,0,0] fun nd _ _ _ _ _ _ hr=>(ag (gE (ds1:=[0,2,0,0,0]) (dE (i:=1) (ds':=[0,3,0,0,0]) (cd:=3) (d:=3) (dsi:=[0]) (lk:=[]) nd rfl rfl (BlkOkC.of (ns:=["ways"]) (js:=[none]) (N0:=pb) (sc0:=ak ig) rfl rfl (by decide +kernel)) rfl (aV (K:=K) rfl (fv 0)) (fun _ _ _ _ _=>(fgn 0 [0] (ndk ["ways"]))) (fun _ _ _ _ _=>b9) (fun _ _ _ _ _=>(ba (d:=3) (c:=3) af rfl rfl (by decide))) rfl rfl rfl (by decide) rfl (by decide) (by decide) rfl (fun _=>rfl)) rfl) (ag (bf (ds1:=[0,2,0,0,0]) rfl (ly (K:=K) rfl rfl T.enumerate0 (fac (fv 0) af) rfl) (i8 (K:=K) rfl rfl (cg (fgn 2 [0,2,0,0,0] nd) (cg (fgn 3 [0,2,0,0,0] nd) ib rfl) rfl) mH rfl rfl) (av (bf (ds1:=[0,2,0,0,0]) rfl (aV (K:=K) rfl (fv 3)) (fgn 4 [0,2,0,0,0] nd) (av (aF (ds2:=[0,2,0,0,0]) (aH eB (fv 4) aQ (aL _)) (av (bF (qK (K:=K) (i:=1) (d:=2) rfl rfl rfl (ke (i:=1) (d:=2) rfl rfl (i6 (i:=1) rfl (.inl rfl) rfl rfl) (fv 4) (by decide) (by first|exact .inl rfl|exact .inr rfl) (fun _ _=>rfl)) (fv 2) (by decide) rfl rfl rfl rfl rfl rfl) rfl)) az)) PassesOwn.never (fun _=>rfl))) PassesOwn.never (fun _=>rfl)) (frt (c9 (ds0:=[0,0,0,0,0]) (bU (p:=false) (i:=1) rfl (.inl rfl) rfl rfl rfl) rfl))))
def Ed(T:Bl mg)(nN:lX P w K mg base k)(kJ:jz P w K mg base k)(F:Fun K "alive" "alive" oW f fd):FnOk P w K mg base CX0 (k+1) f fd ["machine"] (spF K [0] 1 mn):=
 F.okR DN ⟨[],[0,0],1,[]⟩ [0,0] fun nd _ _ _ _ _ _ hr=>(ag (bP (i:=1) (d:=0) (ds':=[0,0]) nd rfl (.inr rfl) (fxi rfl (fv 0)) rfl (by decide) (by decide) rfl (.inl rfl)) (frt (fnn nN hr (fac (fs0 (cq (cd:=0) (d:=1) (dsi:=[0,0]) (lk:=[1]) (BlkOkC.of (ns:=["stand","ends"]) (js:=[none,some 1]) (N0:=yW) (sc0:=ak oW) rfl rfl (by decide +kernel)) rfl (df rfl T.range0 (fac (fs0 (fln rfl T.len0 (fac (fvc 1) af))) af) rfl) (fun _ _ _ _ _=>(fgn 0 [0,0] (ndk ["stand","ends"]))) (fun _ _ _ _ _=>(de (bE (bg (bQ (K:=K) rfl) (fvc 1) (fv 0) (fun _ _=>rfl)) (fun _=>rfl)))) (fun _ _ _ _ _=>(fv 0)) rfl rfl (by decide) rfl (fun _=>rfl))) (fac (fnn kJ hr (fac (fxi rfl (fv 0)) af)) af)))))
def Le(T:Bl mg)(nN:lX P w K mg base k)(F:Fun K "met" "met" A3 f fd):FnOk P w K mg base CX0 (k+1) f fd ["machine"] (spF K [0] 1 qx):=
 F.okR KQ ⟨[],[0],1,[]⟩ [0] fun nd _ _ _ _ _ _ hr=>(frt (fnn nN hr (fac (fs0 (ba (d:=3) (c:=3) (fac ai af) rfl rfl (by decide))) (fac (fxi rfl (fv 0)) af))))
def rj(T:Bl mg)(jU:kI P w K mg base k)(KK:vJ P w K mg base k)(A9:wT P w K mg base k)(F:Fun K "kept_stands" "kept_stands" fJ f fd):FnOk P w K mg base CX0 (k+1) f fd ["machine"] (spF K [0] 1 dU):=
 F.okR rg ⟨[],[0,0],1,[]⟩ [0,0] fun nd _ _ _ _ _ _ hr=>(ag (bP (i:=1) (d:=0) (ds':=[0,0]) nd rfl (.inr rfl) (fs0 (fnn jU hr (fac (fs0 (fnn KK hr (fac (fv 0) af))) af))) rfl (by decide) (by decide) rfl (.inl rfl)) (frt (cq (cd:=0) (d:=1) (dsi:=[0,0]) (lk:=[1]) (BlkOkC.of (ns:=["stand","living"]) (js:=[none,some 1]) (N0:=ma) (sc0:=ak fJ) rfl rfl (by decide +kernel)) rfl (aV (K:=K) rfl (fs0 (fnn A9 hr (fac (fv 0) af)))) (fun _ _ _ _ _=>(fgn 0 [0,0] (ndk ["stand","living"]))) (fun _ _ _ _ _=>(de (sT (aT hr) (fv 0) (fvc 1) (by with_unfolding_all rfl)))) (fun _ _ _ _ _=>(fv 0)) rfl rfl (by decide) rfl (fun _=>rfl))))
def pQ(T:Bl mg)(F:Fun K "ways_to_kept" "ways_to_kept" e8 f fd):FnOk P w K mg base CX0 (k+1) f fd ["goes","kept"] (spF K [0,0] 1 dB):=
 F.okR pJ ⟨[],[0,0,0,0],1,[]⟩ [0,0,0,0] fun nd _ _ _ _ _ _ hr=>(ag (bP (i:=2) (d:=1) (ds':=[0,0,1,0]) nd rfl (.inr rfl) (bJ (d':=1) lA (by decide)) rfl (by decide) (by decide) rfl (.inl rfl)) (ag (bf (ds1:=[0,0,1,0]) rfl (aV (K:=K) rfl (fv 1)) (fgn 3 [0,0,1,0] nd) (av (bx (i:=2) (aT hr) rfl (.inr (.inl rfl)) (fs0 ai) (fv 3) rfl rfl rfl rfl)) PassesOwn.never (fun _=>rfl)) (ag (bf (ds1:=[0,0,1,0]) rfl (aV (K:=K) rfl (fv 1)) (fgn 3 [0,0,1,0] nd) (av (bx (i:=2) (aT hr) rfl (.inr (.inl rfl)) (fs0 (fln rfl T.len0 (fac (fs0 (cq (cd:=0) (d:=1) (dsi:=[0,1]) (lk:=[1]) (BlkOkC.of (ns:=["there","many"]) (js:=[none,some 2]) (N0:=kR) (sc0:=ak e8) rfl rfl (by decide +kernel)) rfl (aV (K:=K) rfl (bg (bQ (K:=K) rfl) (fv 0) (fv 3) (fun _ _=>rfl))) (fun _ _ _ _ _=>(fgn 0 [0,1] (ndk ["there","many"]))) (fun _ _ _ _ _=>(de (bO (ds0:=[0,0]) (lu (aT hr) (fv 0) (fvc 1) (by with_unfolding_all rfl)) rfl))) (fun _ _ _ _ _=>(fv 0)) rfl rfl (by decide) rfl (fun _=>rfl))) af))) (fv 3) rfl rfl rfl rfl)) PassesOwn.never (fun _=>rfl)) (frt (iq (i:=2) (ds':=[0,0,0,0]) rfl (.inr (.inl rfl)) rfl rfl rfl rfl)))))
def xR(T:Bl mg)(F:Fun K "rank_of" "rank_of" kA f fd):FnOk P w K mg base CX0 (k+1) f fd ["ways","ranks"] (spF K [0,0] 3 iS):=
 F.okR xy ⟨[],[0,0],3,[]⟩ [0,0] fun nd _ _ _ _ _ _ hr=>(frt (yB (K:=K) (z:=0) rfl rfl rfl T.max0 (cq (cd:=3) (d:=3) (dsi:=[0,0]) (lk:=[1]) (BlkOkC.of (ns:=["there","ranks"]) (js:=[none,some 1]) (N0:=tZ) (sc0:=ak kA) rfl rfl (by decide +kernel)) rfl (aV (K:=K) rfl (fv 0)) (fun _ _ _ _ _=>(fgn 0 [0,0] (ndk ["there","ranks"]))) (fun _ _ _ _ _=>(de (qpt (fm (aH eB (fv 0) aQ (aL _)) (dI (aH eB (bg (bQ (K:=K) rfl) (fvc 1) (fv 0) (fun _ _=>rfl)) aQ (aL _))))))) (fun _ _ _ _ _=>(au bG (bg (bQ (K:=K) rfl) (fvc 1) (fv 0) (fun _ _=>rfl)) ai)) rfl rfl (by decide) rfl (fun _=>rfl)) rfl))
def wm(T:Bl mg)(rp:jP P w K mg base k)(kJ:jz P w K mg base k)(A8:qT P w K mg base k)(F:Fun K "ranks_of" "ranks_of" gL f fd):FnOk P w K mg base CX0 (k+1) f fd ["goes","kept"] (spF K [0,0] 1 gM):=
 F.okR v6 ⟨[],[0,0,0,0,0,0,0,0],1,[]⟩ [0,0,0,0,0,0,0,0] fun nd _ _ _ _ _ _ hr=>(ag (bP (i:=2) (d:=1) (ds':=[0,0,1,0,0,0,0,0]) nd rfl (.inr rfl) (fnn rp hr (fac (fv 0) (fac (fv 1) af))) rfl (by decide) (by decide) rfl (.inl rfl)) (ag (aO 3 [0,0,1,0,0,0,0,0] nd (fnn kJ hr (fac (fv 0) af))) (ag (gE (ds1:=[0,0,1,0,1,0,0,0]) (dE (i:=4) (ds':=[0,0,1,0,3,0,0,0]) (cd:=3) (d:=3) (dsi:=[0]) (lk:=[]) nd rfl rfl (BlkOkC.of (ns:=["ways"]) (js:=[none]) (N0:=l9) (sc0:=ak gL) rfl rfl (by decide +kernel)) rfl (aV (K:=K) rfl (fv 0)) (fun _ _ _ _ _=>(fgn 0 [0] (ndk ["ways"]))) (fun _ _ _ _ _=>b9) (fun _ _ _ _ _=>aQ) rfl rfl rfl (by decide) rfl (by decide) (by decide) rfl (fun _=>rfl)) rfl) (ag (dE (i:=5) (ds':=[0,0,1,0,1,1,0,0]) (cd:=0) (d:=1) (dsi:=[0,1]) (lk:=[1]) nd rfl rfl (BlkOkC.of (ns:=["stand","left"]) (js:=[none,some 2]) (N0:=l9) (sc0:=ak gL) rfl rfl (by decide +kernel)) rfl (aV (K:=K) rfl (fv 1)) (fun _ _ _ _ _=>(fgn 0 [0,1] (ndk ["stand","left"]))) (fun _ _ _ _ _=>(de (fte rfl hr.units (bz (i:=1) (aT hr) rfl (.inr (.inl rfl)) rfl (fv 0) (fun _ _=>rfl) rfl rfl) ai))) (fun _ _ _ _ _=>(fv 0)) rfl rfl rfl (by decide) rfl (by decide) (by decide) rfl (fun _=>rfl)) (ag (cM (ds:=[0,0,1,0,1,1,0,0]) (bO (ds0:=[0,0,1,0,1,0,0,0]) (aH rG (fln rfl T.len0 (fac (fv 5) af)) ai (aL _)) rfl) (ag (aO 6 [0,0,1,0,1,1,0,0] nd (tj (K:=K) (i:=5) (d:=1) rfl rfl (.inl rfl) rfl (by decide) rfl rfl rfl rfl rfl)) (ag (eA (i:=4) (d:=1) (c:=0) rfl (.inl rfl) (fs0 (tq (ds0:=[0,0,1,0,0,1,0,0]) (fnn A8 hr (fac (bg (bQ (K:=K) rfl) (fv 0) (fv 6) (fun _ _=>rfl)) (fac (fv 4) af))) rfl)) (fv 6) rfl (by decide) rfl rfl rfl (fun _=>rfl) rfl rfl rfl) (av (bf (ds1:=[0,0,1,0,1,1,0,0]) rfl (aV (K:=K) rfl (bg (bQ (K:=K) rfl) (fv 3) (fv 6) (fun _ _=>rfl))) (fgn 7 [0,0,1,0,1,1,0,0] nd) (av (aF (ds2:=[0,0,1,0,1,1,0,0]) (bO (ds0:=[0,0,0,0,1,1,0,0]) (sT (aT hr) (fv 7) (fvc 2) (by with_unfolding_all rfl)) rfl) (ag (bx (i:=2) (aT hr) rfl (.inr (.inl rfl)) (fs0 (au gI (bz (i:=2) (aT hr) rfl (.inr (.inl rfl)) rfl (fv 7) (fun _ _=>rfl) rfl rfl) ai)) (fv 7) rfl rfl rfl rfl) (av (aF (ds2:=[0,0,1,0,1,1,0,0]) (fte rfl hr.units (bz (i:=2) (aT hr) rfl (.inr (.inl rfl)) rfl (fv 7) (fun _ _=>rfl) rfl rfl) ai) (av (bF (cO (K:=K) (i:=5) (d:=1) rfl rfl (.inl rfl) rfl (fv 7) (by decide) rfl rfl rfl rfl rfl rfl rfl rfl) rfl)) az))) az)) PassesOwn.never (fun _=>rfl))))) PassesOwn.never) (frt (iq (i:=4) (ds':=[0,0,1,0,0,1,0,0]) rfl (.inl rfl) rfl rfl rfl rfl)))))))
def n9(T:Bl mg)(F:Fun K "first_sign_to" "first_sign_to" eD f fd):FnOk P w K mg base CX0 (k+1) f fd ["ways","stands"] (spF K [0,0] 0 db):=
 F.okR nX ⟨[],[0,0],0,[]⟩ [0,0] fun nd _ _ _ _ _ _ hr=>(frt (fxi rfl (cq (cd:=0) (d:=1) (dsi:=[0,0,0]) (lk:=[2]) (BlkOkC.of (ns:=["sign","there","stands"]) (js:=[none,none,some 1]) (N0:=jS) (sc0:=ak eD) rfl rfl (by decide +kernel)) rfl (ly (K:=K) rfl rfl T.enumerate0 (fac (fv 0) af) rfl) (fun _ _ _ _ _=>(i8 (K:=K) rfl rfl (cg (fgn 0 [0,0,0] (ndk ["sign","there","stands"])) (cg (fgn 1 [0,0,0] (ndk ["sign","there","stands"])) ib rfl) rfl) mH rfl rfl)) (fun _ _ _ _ _=>(de (lu (aT hr) (fv 1) (fvc 2) (by with_unfolding_all rfl)))) (fun _ _ _ _ _=>(fv 0)) rfl rfl (by decide) rfl (fun _=>rfl))))
def uw(T:Bl mg)(F:Fun K "came_from" "came_from" kC f fd):FnOk P w K mg base CX0 (k+1) f fd ["goes","first"] (spF K [0,0] 1 fN):=
 F.okR uj ⟨[],[0,0,0,0,0,0,0,0],1,[]⟩ [0,0,0,0,0,0,0,0] fun nd _ _ _ _ _ _ hr=>(ag (aO 2 [0,0,1,0,0,0,0,0] nd (lB (fs:=[((eS3 (aa 1)),(eC .none))]) (gH (Ff (fv 1)) (fs0 aQ) nC) rfl rfl (fun z=>nomatch z) (by decide))) (ag (aO 3 [0,0,1,1,0,0,0,0] nd (ba (d:=1) (c:=0) (fac (fv 1) af) rfl rfl (by decide))) (ag (aO 4 [0,0,1,1,0,0,0,0] nd (fs0 ai)) (ag (cM (ds:=[0,0,1,1,0,0,0,0]) (bO (ds0:=[0,0,1,0,0,0,0,0]) (aH mI (fv 4) (fln rfl T.len0 (fac (fv 3) af)) (aL _)) rfl) (ag (aO 5 [0,0,1,1,0,0,0,0] nd (ki (K:=K) (i:=3) rfl rfl (.inl rfl) rfl (fv 4) (fun _ _=>rfl) rfl rfl)) (ag (bf (ds1:=[0,0,1,1,0,0,0,0]) rfl (ly (K:=K) rfl rfl T.enumerate0 (fac (bg (bQ (K:=K) rfl) (fv 0) (fv 5) (fun _ _=>rfl)) af) rfl) (i8 (K:=K) rfl rfl (cg (fgn 6 [0,0,1,1,0,0,0,0] nd) (cg (fgn 7 [0,0,1,1,0,0,0,0] nd) ib rfl) rfl) mH rfl rfl) (av (aF (ds2:=[0,0,1,1,0,0,0,0]) (bO (ds0:=[0,0,0,1,0,0,0,0]) (qpt (fm (aH eB (fv 7) aQ (aL _)) (dI (gC (aT hr) (fv 7) (fv 2) (by with_unfolding_all rfl))))) rfl) (ag (bx (i:=2) (aT hr) rfl (.inl rfl) (cw (d:=0) (c:=0) (fac (fv 5) (fac (fv 6) af)) rfl rfl) (fv 7) rfl rfl rfl rfl) (av (bF (cO (K:=K) (i:=3) (d:=1) rfl rfl (.inl rfl) rfl (fv 7) (by decide) rfl rfl rfl rfl rfl rfl rfl rfl) rfl))) az)) PassesOwn.never (fun _=>rfl)) (av (aO 4 [0,0,1,1,0,0,0,0] nd (fs0 (au bG (fv 4) ai)))))) PassesOwn.never) (frt (iq (i:=2) (ds':=[0,0,0,1,0,0,0,0]) rfl (.inl rfl) rfl rfl rfl rfl))))))
def zN(T:Bl mg)(F:Fun K "row_to" "row_to" qt f fd):FnOk P w K mg base CX0 (k+1) f fd ["came","stand"] (spF K [0,0] 1 jV):=
 F.okR zo ⟨[],[0,0,0,0],1,[]⟩ [0,0,0,0] fun nd _ _ _ _ _ _ hr=>(ag (aO 2 [0,0,1,0] nd (bJ (d':=1) (ba (d:=3) (c:=3) af rfl rfl (by decide)) (by decide))) (ag (aO 3 [0,0,1,0] nd (lC (aT hr) (fv 0) (fv 1) (fun _ _=>rfl))) (ag (cM (ds:=[0,0,1,0]) (aH eB (fv 3) aQ (aL _)) (ag (bF (cO (K:=K) (i:=2) (d:=1) rfl rfl (.inl rfl) rfl (fxi rfl (fv 3)) (by decide) rfl rfl rfl rfl rfl rfl rfl rfl) rfl) (av (aO 3 [0,0,1,0] nd (lC (aT hr) (fv 0) (fxi rfl (fv 3)) (fun _ _=>rfl))))) PassesOwn.never) (frt (yC (K:=K) rfl rfl rfl T.list0 rfl T.reversed0 (fac (c9 (ds0:=[0,0,0,0]) (bU (p:=false) (i:=2) rfl (.inl rfl) rfl rfl rfl) rfl) af) rfl rfl)))))
def uv(T:Bl mg)(w4:mZ P w K mg base k)(FO:tX P w K mg base k)(F:Fun K "first_row" "first_row" kB f fd):FnOk P w K mg base CX0 (k+1) f fd ["machine","stand"] (spF K [0,0] 1 fM):=
 F.okR ui ⟨[],[0,0,0,0],1,[]⟩ [0,0,0,0] fun nd _ _ _ _ _ _ hr=>(ag (aO 2 [0,0,1,0] nd (fnn w4 hr (fac (fxi rfl (fv 0)) (fac (fv 1) af)))) (ag (bf (ds1:=[0,0,0,0]) rfl (Fb (K:=K) (i:=2) (d:=1) true rfl rfl (.inl rfl) rfl (by decide) rfl rfl rfl) (fgn 3 [0,0,0,0] nd) (av (aF (ds2:=[0,0,0,0]) (bE (bg (bQ (K:=K) rfl) (fxi rfl (fv 0)) (fv 3) (fun _ _=>rfl)) (fun _=>rfl)) (frt (fnn FO hr (fac (fv 2) (fac (fv 3) af)))) az)) PassesOwn.never (fun _=>rfl)) (frt (bJ (d':=1) aQ (by decide)))))
def xS(T:Bl mg)(qw:jf P w K mg base k)(wZ:mY P w K mg base k)(F:Fun K "endless" "endless" nM f fd):FnOk P w K mg base CX0 (k+1) f fd ["machine","unranked"] (spF K [0,0] 2 gf):=
 F.okR xz ⟨[],[0,0,0,0,0,0],2,[]⟩ [0,0,0,0,0,0] fun nd _ _ _ _ _ _ hr=>(ag (aO 2 [0,0,1,0,0,0] nd (bJ (d':=1) lA (by decide))) (ag (aO 3 [0,0,1,1,0,0] nd (bJ (d':=1) (ba (d:=3) (c:=3) af rfl rfl (by decide)) (by decide))) (ag (aO 4 [0,0,1,1,0,0] nd (fs0 ai)) (ag (cM (ds:=[0,0,1,1,0,0]) (bO (ds0:=[0,0,0,1,0,0]) (gC (aT hr) (fv 4) (fv 2) (by with_unfolding_all rfl)) rfl) (ag (bx (i:=2) (aT hr) rfl (.inl rfl) (fs0 (tq (ds0:=[0,0,1,0,0,0]) (fln rfl T.len0 (fac (fv 3) af)) rfl)) (fv 4) rfl rfl rfl rfl) (ag (aO 5 [0,0,1,1,0,0] nd (fnn qw hr (fac (bg (bQ (K:=K) rfl) (fxi rfl (fv 0)) (fv 4) (fun _ _=>rfl)) (fac (fv 1) af)))) (ag (bF (cO (K:=K) (i:=3) (d:=1) rfl rfl (.inl rfl) rfl (fv 5) (by decide) rfl rfl rfl rfl rfl rfl rfl rfl) rfl) (av (aO 4 [0,0,1,1,0,0] nd (bg (bQ (K:=K) rfl) (bg (bQ (K:=K) rfl) (fxi rfl (fv 0)) (fv 4) (fun _ _=>rfl)) (fv 5) (fun _ _=>rfl))))))) PassesOwn.never) (frt (cw (d:=2) (c:=1) (fac (bJ (d':=1) bm (by decide)) (fac (kg (vq (K:=K) rfl) (c9 (ds0:=[0,0,1,0,0,0]) (bU (p:=false) (i:=3) rfl (.inl rfl) rfl rfl rfl) rfl) lx (lw (bz (i:=2) (aT hr) rfl (.inl rfl) rfl (fv 4) (fun _ _=>rfl) rfl rfl))) (fac (kg (vq (K:=K) rfl) (fv 3) (lw (bz (i:=2) (aT hr) rfl (.inl rfl) rfl (fv 4) (fun _ _=>rfl) rfl rfl)) lx) (fac (fnn wZ hr (fac (fv 0) (fac (fv 4) af))) af)))) rfl rfl))))))
def II(T:Bl mg)(t8:kP P w K mg base k)(yZ:oX P w K mg base k)(Ba:qU P w K mg base k)(A9:wT P w K mg base k)(jU:kI P w K mg base k)(F:Fun K "span" "span" rJ f fd):FnOk P w K mg base CX0 (k+1) f fd ["machine"] (spF K [0] 2 mO):=
 F.okR HX ⟨[],[0,0,0],2,[]⟩ [0,0,0] fun nd _ _ _ _ _ _ hr=>(ag (aO 1 [0,0,0] nd (fs0 (fnn t8 hr (fac (fv 0) af)))) (ag (aF (ds2:=[0,0,0]) (fte rfl hr.units (fln rfl T.len0 (fac (fv 1) af)) ai) (frt (cw (d:=2) (c:=1) (fac (bJ (d':=1) bm (by decide)) (fac (fnn A9 hr (fac (fv 0) af)) af)) rfl rfl)) az) (ag (bP (i:=2) (d:=1) (ds':=[0,0,1]) nd rfl (.inr rfl) (fnn yZ hr (fac (fxi rfl (fv 0)) (fac (fv 1) af))) rfl (by decide) (by decide) rfl (.inl rfl)) (ag (aF (ds2:=[0,0,1]) (aH jK (ki (K:=K) (i:=2) rfl rfl (.inr (.inl rfl)) rfl ai (fun _ _=>rfl) rfl rfl) aQ (aL _)) (frt (fnn Ba hr (fac (fv 0) (fac (fs0 (fnn jU hr (fac (fs0 (cq (cd:=0) (d:=1) (dsi:=[0,1]) (lk:=[1]) (BlkOkC.of (ns:=["stand","ranks"]) (js:=[none,some 2]) (N0:=DE) (sc0:=ak rJ) rfl rfl (by decide +kernel)) rfl (aV (K:=K) rfl (fv 1)) (fun _ _ _ _ _=>(fgn 0 [0,1] (ndk ["stand","ranks"]))) (fun _ _ _ _ _=>(de (aH jK (ki (K:=K) (i:=1) rfl rfl (.inr (.inl rfl)) rfl (fv 0) (fun _ _=>rfl) rfl rfl) aQ (aL _)))) (fun _ _ _ _ _=>(fv 0)) rfl rfl (by decide) rfl (fun _=>rfl))) af))) af)))) az) (frt (cw (d:=2) (c:=1) (fac (bJ (d':=1) bm (by decide)) (fac (iq (i:=2) (ds':=[0,0,0]) rfl (.inr (.inl rfl)) rfl rfl rfl rfl) af)) rfl rfl))))))
def su(T:Bl mg)(aK:cP P w K mg base k)(F:Fun K "_law_signs" "_law_signs" jx f fd):FnOk P w K mg base CX0 (k+1) f fd ["_law_pen_here"] (spF K [1] 3 bY):=
 F.okR rT ⟨[0],[1],3,[]⟩ [1] fun nd _ _ _ _ _ _ hr=>(frt (tm (K:=K) rfl (ba (d:=3) (c:=3) (fac ai (fac ai (fac ai (fac ai (fac ai (fac ai (fac ai (fac (au bG ai (fns aK hr (fsl 0 (fac (fs0 ai) af)))) af)))))))) rfl rfl (by decide)) (fns aK hr (fsl 0 (fac (fs0 ai) af))) (fun _ _=>rfl) (by decide)))
def sy(T:Bl mg)(aK:cP P w K mg base k)(F:Fun K "_law_chain" "_law_chain" eT f fd):FnOk P w K mg base CX0 (k+1) f fd ["_law_pen_here"] (spF K [1] 0 eV):=
 F.okR rX ⟨[0],[1,0,0],0,[]⟩ [1,0,0] fun nd _ _ _ _ _ _ hr=>(ag (bP (i:=1) (d:=0) (ds':=[1,0,0]) nd rfl (.inr rfl) (fs0 (au bG ai (fns aK hr (fsl 0 (fac (fs0 ai) af))))) rfl (by decide) (by decide) rfl (.inl rfl)) (ag (gE (ds1:=[1,0,1]) (dE (i:=2) (ds':=[1,0,3]) (cd:=3) (d:=3) (dsi:=[0]) (lk:=[]) nd rfl rfl (BlkOkC.of (ns:=["_law_stand"]) (js:=[none]) (N0:=jA) (sc0:=ak eT) rfl rfl (by decide +kernel)) rfl (df rfl T.range0 (fac (fvc 1) af) rfl) (fun _ _ _ _ _=>(fgn 0 [0] (ndk ["_law_stand"]))) (fun _ _ _ _ _=>b9) (fun _ _ _ _ _=>(ba (d:=3) (c:=3) (fac (au bG (fv 0) ai) af) rfl rfl (by decide))) rfl rfl rfl (by decide) rfl (by decide) (by decide) rfl (fun _=>rfl)) rfl) (ag (eA (i:=2) (d:=1) (c:=0) rfl (.inl rfl) (fs0 (ba (d:=1) (c:=0) (fac (bg (bQ (K:=K) rfl) (ba (d:=1) (c:=0) (fac aQ (fac (fns aK hr (fsl 0 (fac (fs0 (au qa (fvc 1) ai)) af))) af)) rfl rfl (by decide)) (fns aK hr (fsl 0 (fac (fs0 ai) af))) (fun _ _=>rfl)) af) rfl rfl (by decide))) (au gI (fvc 1) ai) rfl (by decide) rfl rfl rfl (fun _=>rfl) rfl rfl rfl) (frt (cw (d:=0) (c:=0) (fac (cq (cd:=3) (d:=3) (dsi:=[0,0]) (lk:=[1]) (BlkOkC.of (ns:=["_law_stand","_law_many"]) (js:=[none,some 1]) (N0:=jA) (sc0:=ak eT) rfl rfl (by decide +kernel)) rfl (df rfl T.range0 (fac (fvc 1) af) rfl) (fun _ _ _ _ _=>(fgn 0 [0,0] (ndk ["_law_stand","_law_many"]))) (fun _ _ _ _ _=>b9) (fun _ _ _ _ _=>(cN (i7 (K:=K) rfl hr.units) (fv 0) (au gI (fvc 1) ai) (aL _))) rfl rfl (by decide) rfl (fun _=>rfl)) (fac (c9 (ds0:=[1,0,0]) (bU (p:=false) (i:=2) rfl (.inl rfl) rfl rfl rfl) rfl) af)) rfl rfl)))))
def wo(T:Bl mg)(F:Fun K "_law_met" "_law_met" lW f fd):FnOk P w K mg base CX0 (k+1) f fd ["_law_machine_here"] (spF K [0] 1 gO):=
 F.okR v8 ⟨[],[0,0,0,0,0],1,[]⟩ [0,0,0,0,0] fun nd _ _ _ _ _ _ hr=>(ag (aO 1 [0,1,0,0,0] nd (lB (fs:=[((eC (.int 0)),(eC (.bool true)))]) (gH ai (fs0 bq) nC) rfl rfl (fun z=>nomatch z) (by decide))) (ag (aO 2 [0,1,1,0,0] nd (bJ (d':=1) (ba (d:=3) (c:=3) (fac ai af) rfl rfl (by decide)) (by decide))) (ag (aO 3 [0,1,1,0,0] nd (fs0 ai)) (ag (cM (ds:=[0,1,1,0,0]) (bO (ds0:=[0,1,0,0,0]) (aH mI (fv 3) (fln rfl T.len0 (fac (fv 2) af)) (aL _)) rfl) (ag (bf (ds1:=[0,1,1,0,0]) rfl (aV (K:=K) rfl (bg (bQ (K:=K) rfl) (fxi rfl (fv 0)) (ki (K:=K) (i:=2) rfl rfl (.inl rfl) rfl (fv 3) (fun _ _=>rfl) rfl rfl) (fun _ _=>rfl))) (fgn 4 [0,1,1,0,0] nd) (av (aF (ds2:=[0,1,1,0,0]) (bO (ds0:=[0,0,1,0,0]) (qpt (fm (aH eB (fv 4) aQ (aL _)) (dI (gC (aT hr) (fv 4) (fv 1) (by with_unfolding_all rfl))))) rfl) (ag (bx (i:=1) (aT hr) rfl (.inl rfl) (fs0 bq) (fv 4) rfl rfl rfl rfl) (av (bF (cO (K:=K) (i:=2) (d:=1) rfl rfl (.inl rfl) rfl (fv 4) (by decide) rfl rfl rfl rfl rfl rfl rfl rfl) rfl))) az)) PassesOwn.never (fun _=>rfl)) (av (aO 3 [0,1,1,0,0] nd (fs0 (au bG (fv 3) ai))))) PassesOwn.never) (frt (fcb (AA (K:=K) rfl) T.sorted0 (by decide +kernel) (fac (c9 (ds0:=[0,1,0,0,0]) (bU (p:=false) (i:=2) rfl (.inl rfl) rfl rfl rfl) rfl) af)))))))
def pT(T:Bl mg)(F:Fun K "_law_longest" "_law_longest" e9 f fd):FnOk P w K mg base CX0 (k+1) f fd ["_law_machine_here","_law_some"] (spF K [0,0] 0 dC):=
 F.okR pL ⟨[],[0,0,0,0,0,0],0,[]⟩ [0,0,0,0,0,0] fun nd _ _ _ _ _ _ hr=>(ag (aO 2 [0,0,1,0,0,0] nd (fct (AC (K:=K) rfl rfl) T.dict0 (by decide +kernel) (fac (fs0 (cq (cd:=0) (d:=1) (dsi:=[0,0]) (lk:=[1]) (BlkOkC.of (ns:=["_law_stand","_law_machine_here"]) (js:=[none,some 0]) (N0:=kS) (sc0:=ak e9) rfl rfl (by decide +kernel)) rfl (aV (K:=K) rfl (fv 1)) (fun _ _ _ _ _=>(fgn 0 [0,0] (ndk ["_law_stand","_law_machine_here"]))) (fun _ _ _ _ _=>(de (bE (bg (bQ (K:=K) rfl) (fxi rfl (fvc 1)) (fv 0) (fun _ _=>rfl)) (fun _=>rfl)))) (fun _ _ _ _ _=>(cw (d:=0) (c:=0) (fac (fv 0) (fac ai af)) rfl rfl)) rfl rfl (by decide) rfl (fun _=>rfl))) af))) (ag (aO 3 [0,0,1,0,0,0] nd (fs0 bq)) (ag (cM (ds:=[0,0,1,0,0,0]) (bE (fv 3) (fun _=>rfl)) (ag (aO 3 [0,0,1,0,0,0] nd (fs0 bq)) (av (bf (ds1:=[0,0,1,0,0,0]) rfl (aV (K:=K) rfl (fs0 (yA (K:=K) rfl (fv 1) (qb sZ ai)))) (fgn 4 [0,0,1,0,0,0] nd) (av (bf (ds1:=[0,0,1,0,0,0]) rfl (aV (K:=K) rfl (bg (bQ (K:=K) rfl) (fxi rfl (fvc 0)) (fv 4) (fun _ _=>rfl))) (fgn 5 [0,0,1,0,0,0] nd) (av (aF (ds2:=[0,0,1,0,0,0]) (bO (ds0:=[0,0,0,0,0,0]) (qpt (fm (lu (aT hr) (fv 5) (fv 2) (by with_unfolding_all rfl)) (dI (aH wH (oM (K:=K) (aT hr) (fv 2) (fv 4) (fs0 (qb sZ ai)) ⟨rfl,rfl,rfl,rfl⟩) (lC (aT hr) (fv 2) (fv 5) (fun _ _=>rfl)) (aL _))))) rfl) (ag (bx (i:=2) (aT hr) rfl (.inl rfl) (fs0 (au bG (bz (i:=2) (aT hr) rfl (.inl rfl) rfl (fv 5) (fun _ _=>rfl) rfl rfl) ai)) (fv 4) rfl rfl rfl rfl) (ag (aO 3 [0,0,1,0,0,0] nd (fs0 bq)) (av (aF (ds2:=[0,0,1,0,0,0]) (fte rfl hr.units (bz (i:=2) (aT hr) rfl (.inl rfl) rfl (fv 4) (fun _ _=>rfl) rfl rfl) (fln rfl T.len0 (fac (fv 1) af))) (frt (fs0 aQ)) az)))) az)) PassesOwn.never (fun _=>rfl))) PassesOwn.never (fun _=>rfl)))) PassesOwn.never) (frt (c9 (ds0:=[0,0,0,0,0,0]) (bU (p:=false) (i:=2) rfl (.inl rfl) rfl rfl rfl) rfl)))))
def dD(T:Bl mg){self:List D->Option (D×En)}(ik:Kn P w K mg base k "_law_same" ["_law_got","_law_due"] (spF K [0,0] 3 self))(F:Fun K "_law_same" "_law_same" ii f fd):FnOk P w K mg base CX0 (k+1) f fd ["_law_got","_law_due"] (spF K [0,0] 3 (fnF 0 [0,0] (dy self))):=
 F.okR ul ⟨[],[0,0],3,[]⟩ [0,0] fun nd _ _ _ _ _ _ hr=>(ag (aF (ds2:=[0,0]) (bE (lz (K:=K) (n1:="list") (n2:="tuple") rfl rfl T.isinstance0 rfl T.list0 (by decide +kernel) rfl T.tuple0 (by decide +kernel) (by decide) (fv 1) (by decide) rfl (by decide) rfl rfl) (fun _=>rfl)) (ag (aF (ds2:=[0,0]) (qpt (cC (dJ (bE (lz (K:=K) (n1:="list") (n2:="tuple") rfl rfl T.isinstance0 rfl T.list0 (by decide +kernel) rfl T.tuple0 (by decide +kernel) (by decide) (fv 0) (by decide) rfl (by decide) rfl rfl) (fun _=>rfl))) (cL (ftn rfl hr.units (dL (K:=K) (n:="list") rfl rfl T.isinstance0 rfl T.list0 (by decide +kernel) (by decide) (fv 0) (by decide) rfl rfl rfl rfl) (dL (K:=K) (n:="list") rfl rfl T.isinstance0 rfl T.list0 (by decide +kernel) (by decide) (fv 1) (by decide) rfl rfl rfl rfl))))) (frt bq) az) (frt (kj (cN (i7 (K:=K) rfl hr.units) (fln rfl T.len0 (fac (fv 0) af)) (fln rfl T.len0 (fac (fv 1) af)) (aL _)) (kh (fcb (yu (K:=K) rfl rfl) T.all0 (by decide +kernel) (fac (fs0 (cq (cd:=3) (d:=3) (dsi:=[0,0]) (lk:=[]) (BlkOkC.of (ns:=["_law_one","_law_other"]) (js:=[none,none]) (N0:=pc) (sc0:=ak ii) rfl rfl (by decide +kernel)) rfl (yy (K:=K) rfl rfl T.zip0 (fac (fv 0) (fac (fv 1) af)) rfl rfl) (fun _ _ _ _ _=>(i8 (K:=K) rfl rfl (cg (fgn 0 [0,0] (ndk ["_law_one","_law_other"])) (cg (fgn 1 [0,0] (ndk ["_law_one","_law_other"])) ib rfl) rfl) mH rfl rfl)) (fun _ _ _ _ _=>b9) (fun _ _ _ _ _=>(fnn ik hr (fac (fv 0) (fac (fv 1) af)))) rfl rfl (by decide) rfl (fun _=>rfl))) af)))))) az) (ag (aF (ds2:=[0,0]) (qpt (cC (aH jK (fv 1) aQ (aL _)) (cL (bE (lz (K:=K) (n1:="bool") (n2:="str") rfl rfl T.isinstance0 rfl T.bool0 (by decide +kernel) rfl T.str0 (by decide +kernel) (by decide) (fv 1) (by decide) rfl (by decide) rfl rfl) (fun _=>rfl))))) (frt (cN (i7 (K:=K) rfl hr.units) (fcb (sY (K:=K) rfl hr.gd hr.units) T.repr0 (by decide +kernel) (fac (fv 0) af)) (fcb (sY (K:=K) rfl hr.gd hr.units) T.repr0 (by decide +kernel) (fac (fv 1) af)) (aL _))) az) (frt (kj (dL (K:=K) (n:="int") rfl rfl T.isinstance0 rfl T.int0 (by decide +kernel) (by decide) (fv 0) (by decide) rfl rfl rfl rfl) (kj (AI (dL (K:=K) (n:="bool") rfl rfl T.isinstance0 rfl T.bool0 (by decide +kernel) (by decide) (fv 0) (by decide) rfl rfl rfl rfl)) (kh (cN (i7 (K:=K) rfl hr.units) (fv 0) (fv 1) (aL _))))))))
def uz(T:Bl mg)(F:Fun K "_law_gone" "_law_gone" kF f fd):FnOk P w K mg base CX0 (k+1) f fd ["_law_machine_here","_law_stand","_law_row"] (spF K [0,0,0] 0 dw):=
 F.okR uo ⟨[],[0,0,0,0],0,[]⟩ [0,0,0,0] fun nd _ _ _ _ _ _ hr=>(ag (bf (ds1:=[0,0,0,0]) rfl (aV (K:=K) rfl (fv 2)) (fgn 3 [0,0,0,0] nd) (av (aF (ds2:=[0,0,0,0]) (aH eB (fv 1) aQ (aL _)) (av (aO 1 [0,0,0,0] nd (bg (bQ (K:=K) rfl) (bg (bQ (K:=K) rfl) (fxi rfl (fv 0)) (fv 1) (fun _ _=>rfl)) (fv 3) (fun _ _=>rfl)))) az)) PassesOwn.never (fun _=>rfl)) (frt (fv 1)))
def rm(T:Bl mg)(F:Fun K "_law_is_row" "_law_is_row" iN f fd):FnOk P w K mg base CX0 (k+1) f fd ["_law_machine_here","_law_thing"] (spF K [0,0] 3 dW):=
 F.okR rh ⟨[],[0,0,0],3,[]⟩ [0,0,0] fun nd _ _ _ _ _ _ hr=>(ag (aF (ds2:=[0,0,0]) (qpt (cC (dJ (bE (dL (K:=K) (n:="list") rfl rfl T.isinstance0 rfl T.list0 (by decide +kernel) (by decide) (fv 1) (by decide) rfl rfl rfl rfl) (fun _=>rfl))) (cL (aH rG (fln rfl T.len0 (fac (fv 1) af)) (fln rfl T.len0 (fac (fxi rfl (fv 0)) af)) (aL _))))) (frt bq) az) (ag (bf (ds1:=[0,0,0]) rfl (aV (K:=K) rfl (fv 1)) (fgn 2 [0,0,0] nd) (av (aF (ds2:=[0,0,0]) (qpt (cC (dJ (bE (dL (K:=K) (n:="int") rfl rfl T.isinstance0 rfl T.int0 (by decide +kernel) (by decide) (fv 2) (by decide) rfl rfl rfl rfl) (fun _=>rfl))) (cC (bE (dL (K:=K) (n:="bool") rfl rfl T.isinstance0 rfl T.bool0 (by decide +kernel) (by decide) (fv 2) (by decide) rfl rfl rfl rfl) (fun _=>rfl)) (cL (dJ (wG wH mI ai (fv 2) (fln rfl T.len0 (fac (fxi rfl (fxi rfl (fv 0))) af)) (by with_unfolding_all rfl))))))) (frt bq) az)) PassesOwn.never (fun _=>rfl)) (frt bq)))
def mQ(T:Bl mg)(kK:m4 P w K mg base k)(t9:kQ P w K mg base k)(F:Fun K "_law_goes_round" "_law_goes_round" du f fd):FnOk P w K mg base CX0 (k+1) f fd ["_law_machine_here","_law_told"] (spF K [0,0] 0 bV):=
 F.okR mP ⟨[],[0,0,0,0],0,[]⟩ [0,0,0,0] fun nd _ _ _ _ _ _ hr=>(ag (aF (ds2:=[0,0,0,0]) (qpt (cC (ftn rfl hr.units (fln rfl T.len0 (fac (fv 1) af)) ai) (cC (ftn rfl hr.units (fxi rfl (fv 1)) bm) (cL (fte rfl hr.units (fxi rfl (fv 1)) (ba (d:=3) (c:=3) af rfl rfl (by decide))))))) (frt (fs0 bq)) az) (ag (aF (ds2:=[0,0,0,0]) (dJ (bE (fcb (yu (K:=K) rfl rfl) T.all0 (by decide +kernel) (fac (fs0 (cq (cd:=3) (d:=3) (dsi:=[0,0]) (lk:=[1]) (BlkOkC.of (ns:=["_law_row","_law_machine_here"]) (js:=[none,some 0]) (N0:=iO) (sc0:=ak du) rfl rfl (by decide +kernel)) rfl (aV (K:=K) rfl (kg (E6 (K:=K) rfl) (fv 1) (lw ai) lx)) (fun _ _ _ _ _=>(fgn 0 [0,0] (ndk ["_law_row","_law_machine_here"]))) (fun _ _ _ _ _=>b9) (fun _ _ _ _ _=>(fnn t9 hr (fac (fvc 1) (fac (fv 0) af)))) rfl rfl (by decide) rfl (fun _=>rfl))) af)) (fun _=>rfl))) (frt (fs0 bq)) az) (ag (aO 2 [0,0,0,0] nd (fnn kK hr (fac (fvc 0) (fac (fs0 ai) (fac (fxi rfl (fv 1)) af))))) (ag (aF (ds2:=[0,0,0,0]) (qpt (cC (aH jK (fv 2) aQ (aL _)) (cL (ftn rfl hr.units (fnn kK hr (fac (fvc 0) (fac (fv 2) (fac (fxi rfl (fv 1)) af)))) (fv 2))))) (frt (fs0 bq)) az) (ag (aO 3 [0,0,0,0] nd (fnn kK hr (fac (fvc 0) (fac (fv 2) (fac (fxi rfl (fv 1)) af))))) (frt (kj (cN eB (fv 3) aQ (aL _)) (kh (bg (bQ (K:=K) rfl) (fxi rfl (fvc 0)) (fv 3) (fun _ _=>rfl))))))))))
def sv(T:Bl mg)(y3:oZ P w K mg base k)(rA:jR P w K mg base k)(ik:Kn P w K mg base k "_law_same" ["_law_got","_law_due"] (spF K [0,0] 3 (aW 6)))(nP:hV P w K mg base k)(F:Fun K "_law_right" "_law_right" gq f fd):FnOk P w K mg base CX0 (k+1) f fd ["_law_machine_here","_law_told"] (spF K [0,0] 0 cQ):=
 F.okR rV ⟨[],[0,0,0,0],0,[]⟩ [0,0,0,0] fun nd _ _ _ _ _ _ hr=>(ag (aF (ds2:=[0,0,0,0]) (qpt (cC (dJ (bE (dL (K:=K) (n:="tuple") rfl rfl T.isinstance0 rfl T.tuple0 (by decide +kernel) (by decide) (fv 1) (by decide) rfl rfl rfl rfl) (fun _=>rfl))) (cL (aH mI (fln rfl T.len0 (fac (fv 1) af)) ai (aL _))))) (frt (fs0 bq)) az) (ag (aO 2 [0,0,0,0] nd (fs0 (fnn y3 hr (fac (fv 0) af)))) (ag (bP (i:=3) (d:=0) (ds':=[0,0,0,0]) nd rfl (.inr rfl) (fnn rA hr (fac (fv 0) (fac (fv 2) af))) rfl (by decide) (by decide) rfl (.inl rfl)) (ag (aF (ds2:=[0,0,0,0]) (aH jK (fvc 3) aQ (aL _)) (frt (fnn nP hr (fac (fv 0) (fac (fv 1) af)))) az) (ag (aF (ds2:=[0,0,0,0]) (gC (aT hr) ai (fvc 3) (by with_unfolding_all rfl)) (frt (fs0 (fnn ik hr (fac (fv 1) (fac (cw (d:=0) (c:=0) (fac bm (fac (fv 2) af)) rfl rfl) af))))) az) (frt (fs0 (fnn ik hr (fac (fv 1) (fac (fs0 (cw (d:=2) (c:=1) (fac bm (fac (cq (cd:=0) (d:=1) (dsi:=[0,0]) (lk:=[1]) (BlkOkC.of (ns:=["_law_stand","_law_best"]) (js:=[none,some 3]) (N0:=m6) (sc0:=ak gq) rfl rfl (by decide +kernel)) rfl (df rfl T.range0 (fac (fs0 (fln rfl T.len0 (fac (fxi rfl (fv 0)) af))) af) rfl) (fun _ _ _ _ _=>(fgn 0 [0,0] (ndk ["_law_stand","_law_best"]))) (fun _ _ _ _ _=>b9) (fun _ _ _ _ _=>(oM (K:=K) (aT hr) (fvc 1) (fv 0) (fs0 aQ) ⟨rfl,rfl,rfl,rfl⟩)) rfl rfl (by decide) rfl (fun _=>rfl)) af)) rfl rfl)) af))))))))))
def Lf(T:Bl mg)(qX:oY P w K mg base k)(aK:cP P w K mg base k)(kT:jQ P w K mg base k)(w6:m3 P w K mg base k)(L3:yV P w K mg base k)(m9:lY P w K mg base k)(uL:l7 P w K mg base k)(uJ:lZ P w K mg base k)(F:Fun K "law" "law" lU f fd):FnOk P w K mg base CX0 (k+1) f fd ["_law_script"] (spF K [0] 3 xa):=
 F.okR KR ⟨[],[0,0,0,0,0,0,0],3,[]⟩ [0,0,0,0,0,0,0] fun nd _ _ _ _ _ _ hr=>(ag (aO 1 [0,1,0,0,0,0,0] nd (fnn qX hr (fac (fv 0) (fac (fs0 ai) af)))) (ag (aO 2 [0,1,0,0,0,0,0] nd (fns aK hr (fsl 1 (fac (fs0 ai) af)))) (ag (aO 3 [0,1,0,1,0,0,0] nd (ba (d:=1) (c:=0) (fac (fns kT hr (fsl 1 (fac (fs0 (fns m9 hr (fsl 1 af))) (fac (fs0 (tm (K:=K) rfl (ba (d:=3) (c:=3) (fac ai (fac ai af)) rfl rfl (by decide)) (fct yt T.int0 (by decide +kernel) (fac (fs0 (cN (i7 (K:=K) rfl hr.units) (fv 2) ai (aL _))) af)) (fun _ _=>rfl) (by decide))) af)))) af) rfl rfl (by decide))) (ag (aF (ds2:=[0,1,0,1,0,0,0]) (fte rfl hr.units (fv 2) ai) (av (aO 3 [0,1,0,1,0,0,0] nd (ba (d:=1) (c:=0) (fac (fns uL hr (fsl 1 af)) af) rfl rfl (by decide)))) az) (ag (aO 1 [0,1,0,1,0,0,0] nd (fnn qX hr (fac (fv 0) (fac (fs0 ai) af)))) (ag (bF (cO (K:=K) (i:=3) (d:=1) rfl rfl (.inl rfl) rfl (fns kT hr (fsl 1 (fac (fs0 (fns m9 hr (fsl 1 af))) (fac (fs0 ai) af)))) (by decide) rfl rfl rfl rfl rfl rfl rfl rfl) rfl) (ag (aF (ds2:=[0,1,0,1,0,0,0]) (fte rfl hr.units (fns aK hr (fsl 1 (fac (fs0 ai) af))) ai) (av (eA (i:=3) (d:=1) (c:=0) rfl (.inl rfl) (fns w6 hr (fsl 1 (fac (fs0 (au bG ai (fns aK hr (fsl 1 (fac (fs0 ai) af))))) af))) ai rfl (by decide) rfl rfl rfl (fun _=>rfl) rfl rfl rfl)) az) (ag (bf (ds1:=[0,1,0,0,0,0,0]) rfl (aV (K:=K) rfl (fs0 (au (E4 (K:=K) rfl) (c9 (ds0:=[0,1,0,0,0,0,0]) (bU (p:=false) (i:=3) rfl (.inl rfl) rfl rfl rfl) rfl) (fv 3)))) (fgn 4 [0,1,0,0,0,0,0] nd) (yj (ds2:=[0,1,0,0,0,0,2]) (ag (aO 5 [0,1,0,0,0,0,0] nd (fs0 (cw (d:=2) (c:=1) (fac (fct (p9 (K:=K) rfl rfl) T.list0 (by decide +kernel) (fac (fxi rfl (fv 4)) af)) (fac (cq (cd:=1) (d:=2) (dsi:=[0]) (lk:=[]) (BlkOkC.of (ns:=["_law_row"]) (js:=[none]) (N0:=KI) (sc0:=ak lU) rfl rfl (by decide +kernel)) rfl (aV (K:=K) rfl (fxi rfl (fv 4))) (fun _ _ _ _ _=>(fgn 0 [0] (ndk ["_law_row"]))) (fun _ _ _ _ _=>b9) (fun _ _ _ _ _=>(fct (p9 (K:=K) rfl rfl) T.list0 (by decide +kernel) (fac (fv 0) af))) rfl rfl (by decide) rfl (fun _=>rfl)) af)) rfl rfl))) (ag (aO 6 [0,1,0,0,0,0,2] nd (fnn L3 hr (fac (fv 5) af))) (ag (aF (ds2:=[0,1,0,0,0,0,2]) (bO (ds0:=[0,1,0,0,0,0,0]) (qpt (cC (dJ (bE (fnn uJ hr (fac (fv 4) (fac (fv 6) af))) (fun _=>rfl))) (cL (ftn rfl hr.units (fv 5) (fv 4))))) rfl) (frt bq) az) (ag (bF (qK (K:=K) (i:=6) (d:=2) rfl rfl rfl (ke (i:=6) (d:=2) rfl rfl (i6 (i:=6) rfl (.inl rfl) rfl rfl) ai (by decide) (by first|exact .inl rfl|exact .inr rfl) (fun _ _=>rfl)) (fs0 ai) (by decide) rfl rfl rfl rfl rfl rfl) rfl) (ag (bF (yD (K:=K) (i:=6) (d:=2) rfl rfl (ke (i:=6) (d:=2) rfl rfl (i6 (i:=6) rfl (.inl rfl) rfl rfl) (qb sZ ai) (by decide) (by first|exact .inl rfl|exact .inr rfl) (fun _ _=>rfl)) (by decide) rfl rfl) rfl) (av (aF (ds2:=[0,1,0,0,0,0,2]) (ftn rfl hr.units (fv 5) (fv 4)) (frt bq) az))))))) rfl) PassesOwn.never (fun _=>rfl)) (frt bq)))))))))
end
end
end W25
namespace L2
open PySem PySem.Spec PyProof.Rows
structure W{α:Type}(x:Option α)(Q:α->Prop):Prop where
 ex:∃a,x=some a/\Q a
def aC{α:Type}(a:α)(Q:α->Prop):W (some a) Q=Q a:=propext ⟨fun⟨b,e,h⟩=>(zat e)▸h,fun h=>⟨a,rfl,h⟩⟩
def bL{α:Type}(Q:α->Prop):W (none:Option α) Q=False:=propext ⟨(fun⟨b,e,h⟩=>by cases e),(fun h=>h.elim)⟩
def W.use{α:Type}{x:Option α}{P Q:α->Prop}(h:W x P)(k:∀a,P a->Q a):W x Q:=
 let⟨a,e,h⟩:=h.ex
 ⟨a,e,k a h⟩
def W.of{α:Type}{x:Option α}{P:α->Prop}{a:α}(e:x=some a)(h:P a):W x P:=⟨a,e,h⟩
def aq{α β:Type}(x:Option α)(f:α->Option β)(Q:β->Prop):W (x.bind f) Q=W x (fun a=>W (f a) Q):=by
 cases x with
 |none=>show W none _=_;rw[bL,bL]
 |some a=>show W (f a) Q=_;rw[aC]
def bX{α β:Type}(x:Option α)(f:α->β)(Q:β->Prop):W (x.map f) Q=W x (fun a=>Q (f a)):=by
 cases x with
 |none=>show W none _=_;rw[bL,bL]
 |some a=>show W (some (f a)) Q=_;rw[aC,aC]
def LZ{α:Type}(c:Prop)[Decidable c](a:α)(Q:α->Prop):W (grd c a) Q=(c/\Q a):=by
 unfold grd;by_cases h:c
 ·rw[if_pos h,aC];exact propext ⟨fun z=>⟨h,z⟩,fun z=>z.2⟩
 ·rw[if_neg h,bL];exact propext ⟨fun z=>z.elim,fun z=>h z.1⟩
def nK{α:Type}(c:Prop)[Decidable c](a:α)(Q:α->Prop):W (if c then some a else none) Q=(c/\Q a):=LZ c a Q
def LX{α:Type}(c:Prop)[Decidable c](x:Option α)(Q:α->Prop):W (if c then x else none) Q=(c/\W x Q):=by
 by_cases h:c
 ·rw[if_pos h];exact propext ⟨fun z=>⟨h,z⟩,fun z=>z.2⟩
 ·rw[if_neg h,bL];exact propext ⟨fun z=>z.elim,fun z=>h z.1⟩
def gv(en:En)(i:Nat):Option D:=(en[i]?).join
def jn(ts:List D)(n:Int)(t:D):Option (List D):=(ixN ts.length n).map fun k=>ts.set k t
def fh(i:Int)(n:Nat):List D:=(List.range n).map fun k=>.int (i+(k:Nat))
section
variable{α β:Type}
def Ad(b:MS)(Q:Fl->Prop):Fl->Prop:=fun fl=>W (match fl with|.nx en1=>b en1|.rt t en1=>some (.rt t en1)|.ct en1=>some (.ct en1)) Q
def I0(i:Nat)(Q:Fl->Prop):D×En->Prop:=fun r=>Q (.nx (r.2.set i (some r.1)))
def Jg(Q:Fl->Prop):D×En->Prop:=fun r=>Q (.nx r.2)
def Ja(Q:Fl->Prop):D×En->Prop:=fun r=>Q (.rt r.1 r.2)
def kIf(f g:En->Option β)(Q:β->Prop):Bool×En->Prop:=fun r=>W (if r.1 then f r.2 else g r.2) Q
def Jf(g:MG)(b:MS)(Q:Fl->Prop):List D×En->Prop:=fun r=>W (cy g b r.1 r.2) Q
def ou(g:MG)(b:MS)(ts:List D)(Q:Fl->Prop):Fl->Prop:=fun fl=>W (match fl with|.nx en2=>cy g b ts en2|.ct en2=>cy g b ts en2|.rt r en2=>some (.rt r en2)) Q
def Dl(g:MG)(b:MS)(ts:List D)(Q:Fl->Prop):En->Prop:=fun en=>W (b en) (ou g b ts Q)
def Ae(i:Nat)(en:En)(Q:Fl->Prop):List D->Prop:=fun ts=>Q (.nx (en.set i (some (.list ts))))
def oq(i:Nat)(t:D)(Q:Fl->Prop):D×En->Prop:=fun q=>W (match q.1,(q.2[i]?).join with|.int n,some (.list ts)=>(ixN ts.length n).map fun k=>.nx (q.2.set i (some (.list (ts.set k t))))|_,_=>none) Q
def wx(i:Nat)(fk:ME)(Q:Fl->Prop):D×En->Prop:=fun r=>W (match (r.2[i]?).join with|some _=>((fk r.2).bind fun q=>(match q.1,(q.2[i]?).join with|.int n,some (.list ts)=>(ixN ts.length n).map fun k=>.nx (q.2.set i (some (.list (ts.set k r.1))))|_,_=>none))|none=>none) Q
def yd(i:Nat)(t:D)(fk:ME)(en:En)(Q:Fl->Prop):D->Prop:=fun _x=>W (fk en) (oq i t Q)
def sM(i:Nat)(t:D)(n:Int)(en:En)(Q:Fl->Prop):D->Prop:=fun x=>W (match x with|.list ts=>(ixN ts.length n).map fun k=>.nx (en.set i (some (.list (ts.set k t))))|_=>none) Q
def iC(en:En)(Q:D×En->Prop):D->Prop:=fun t=>Q (t,en)
def kMv(i:Nat)(en:En)(Q:D×En->Prop):D->Prop:=fun t=>Q (t,en.set i none)
def k1(g:D->Option D)(Q:D×En->Prop):D×En->Prop:=fun r=>W (g r.1) (iC r.2 Q)
def k2b(g:D->D->Option D)(t:D)(Q:D×En->Prop):D×En->Prop:=fun q=>W (g t q.1) (iC q.2 Q)
def k2(g:D->D->Option D)(f:ME)(Q:D×En->Prop):D×En->Prop:=fun r=>W (f r.2) (k2b g r.1 Q)
def Jl(g:ME)(Q:D×En->Prop):D×En->Prop:=fun r=>W (match r.1 with|.bool true=>g r.2|.bool false=>some (.bool false,r.2)|_=>none) Q
def Jb(Q:D×En->Prop):D×En->Prop:=fun r=>W (match r.1 with|.bool b=>some (.bool (!b),r.2)|_=>none) Q
def kTV(Q:Bool×En->Prop):D×En->Prop:=fun r=>W (match r.1 with|.bool b=>some (b,r.2)|_=>none) Q
def wC(g:MT)(Q:Bool×En->Prop):Bool×En->Prop:=fun r=>W (if r.1 then g r.2 else some (false,r.2)) Q
def Aj(g:MT)(Q:Bool×En->Prop):Bool×En->Prop:=fun r=>W (if r.1 then some (true,r.2)else g r.2) Q
def Do(Q:Bool×En->Prop):Bool×En->Prop:=fun r=>Q (!r.1,r.2)
def An(t:D)(Q:List (D ⊕ Nat)×En->Prop):List (D ⊕ Nat)×En->Prop:=fun y=>Q (.inl t::y.1,y.2)
def kAC(r:MA)(Q:List (D ⊕ Nat)×En->Prop):D×En->Prop:=fun x=>W (r x.2) (An x.1 Q)
def Am(i:Nat)(Q:List (D ⊕ Nat)×En->Prop):List (D ⊕ Nat)×En->Prop:=fun y=>Q (.inr i::y.1,y.2)
def kAS(i:Nat)(r:MA)(en:En)(Q:List (D ⊕ Nat)×En->Prop):D->Prop:=fun _x=>W (r en) (Am i Q)
def kN2(g:List D->Option D)(en:En)(Q:D×En->Prop):List D->Prop:=fun ts=>W (g ts) (iC en Q)
def kN(g:List D->Option D)(Q:D×En->Prop):List (D ⊕ Nat)×En->Prop:=fun r=>W (vals r.1) (kN2 g r.2 Q)
def wz(en:En)(Q:D×En->Prop):List D->Prop:=fun ts=>W (if ts.length<=sizeLine then some (.list ts,en)else none) Q
def Jc(Q:D×En->Prop):List (D ⊕ Nat)×En->Prop:=fun r=>W (vals r.1) (wz r.2 Q)
def ww(en:En)(Q:D×En->Prop):List D->Prop:=fun ts=>W (if ts.length<=sizeLine then some (.tuple ts,en)else none) Q
def IZ(Q:D×En->Prop):List (D ⊕ Nat)×En->Prop:=fun r=>W (vals r.1) (ww r.2 Q)
def sN(as:List (D ⊕ Nat))(en:En)(Q:D×En->Prop):D×En->Prop:=fun q=>Q (q.1,wb as q.2 en)
def sO(F:List D->Option (D×En))(as:List (D ⊕ Nat))(en:En)(Q:D×En->Prop):List D->Prop:=fun ts=>W (F ts) (sN as en Q)
def Dm(F:List D->Option (D×En))(Q:D×En->Prop):List (D ⊕ Nat)×En->Prop:=fun r=>W (dP r.1 r.2) (sO F r.1 r.2 Q)
def kFn(dps:List Nat)(Q:D×En->Prop):Fl->Prop:=fun fl=>W (match fl with|.rt t en=>some (t,msk dps en)|.nx en=>some (.none,msk dps en)|.ct _=>none) Q
def Ag(q:Bool)(js:List (Option Nat))(en:En)(Q:D×En->Prop):List D×En->Prop:=fun z=>Q (.list z.1,if q then en else wbB js z.2 en)
def kLC(q:Bool)(g:MG)(c:MT)(f:ME)(js:List (Option Nat))(Q:D×En->Prop):List D×En->Prop:=fun r=>W (lcF g c f r.1 [] (cI js r.2)) (Ag q js r.2 Q)
def kL3(g:MG)(c:MT)(f:ME)(ts acc:List D)(Q:List D×En->Prop):D×En->Prop:=fun q=>W (if acc.length<sizeLine then lcF g c f ts (acc++[q.1]) q.2 else none) Q
def kL2(g:MG)(c:MT)(f:ME)(ts acc:List D)(Q:List D×En->Prop):Bool×En->Prop:=fun r=>W (if r.1 then(f r.2).bind fun q=>if acc.length<sizeLine then lcF g c f ts (acc++[q.1]) q.2 else none else lcF g c f ts acc r.2) Q
def kL1(g:MG)(c:MT)(f:ME)(ts acc:List D)(Q:List D×En->Prop):En->Prop:=fun en=>W (c en) (kL2 g c f ts acc Q)
def Ak(Q:List D×En->Prop):D×En->Prop:=fun r=>W ((C8 r.1).map fun ts=>(ts,r.2)) Q
def kR1(Q:List D×En->Prop):List (D ⊕ Nat)×En->Prop:=fun r=>W (match r.1 with|[.inl (.int j)]=>if -(2 ^ 62)<=j/\j<2 ^ 62 then some ((List.range j.toNat).map fun k=>.int (0+(k:Nat)),r.2)else none|_=>none) Q
def kEn(Q:List D×En->Prop):List (D ⊕ Nat)×En->Prop:=fun r=>W (match r.1 with|[.inl (.list ts)]=>some (eW ts,r.2)|[.inl (.tuple ts)]=>some (eW ts,r.2)|_=>none) Q
def xX(n:Int)(en:En)(Q:D×En->Prop):D->Prop:=fun x=>W (match x with|.list ts=>(atI ts n).map fun t=>(t,en)|_=>none) Q
def oo(i:Nat)(Q:D×En->Prop):D×En->Prop:=fun r=>W (match r.1,(r.2[i]?).join with|.int n,some (.list ts)=>(atI ts n).map fun t=>(t,r.2)|_,_=>none) Q
def Dj(i:Nat)(f:ME)(en:En)(Q:D×En->Prop):D->Prop:=fun _x=>W (f en) (oo i Q)
def wD(i:Nat)(Q:D×En->Prop):D×En->Prop:=fun r=>W (match (r.2[i]?).join with|some (.list ts)=>if ts.length<sizeLine then some (PyData.none,r.2.set i (some (.list (ts++[r.1]))))else none|_=>none) Q
def Dp(i:Nat)(t:D)(en:En)(Q:D×En->Prop):D->Prop:=fun x=>W (match x with|.list ts=>if ts.length<sizeLine then some (PyData.none,en.set i (some (.list (ts++[t]))))else none|_=>none) Q
def Jk(i:Nat)(f:ME)(en:En)(Q:D×En->Prop):D->Prop:=fun x=>W (match x with|.list _=>((f en).bind fun r=>(match (r.2[i]?).join with|some (.list ts)=>if ts.length<sizeLine then some (PyData.none,r.2.set i (some (.list (ts++[r.1]))))else none|_=>none))|_=>none) Q
def Ah(g:D->D->Option D)(t:D)(f:ME)(en:En)(Q:D×En->Prop):D->Prop:=fun x=>W (match x with|.bool true=>(f en).bind fun z=>(g t z.1).map fun t=>(t,z.2)|.bool false=>some (.bool false,en)|_=>none) Q
def Ai(g g2:D->D->Option D)(f3:ME)(t:D)(Q:D×En->Prop):D×En->Prop:=fun q=>W (g t q.1) (Ah g2 q.1 f3 q.2 Q)
def kCh(g g2:D->D->Option D)(f2 f3:ME)(Q:D×En->Prop):D×En->Prop:=fun r=>W (f2 r.2) (Ai g g2 f3 r.1 Q)
def kOS(Q:Option Int×En->Prop):D×En->Prop:=fun r=>W (match r.1 with|.int i=>some (some i,r.2)|_=>none) Q
def Ab(g:D->Option Int->Option Int->Option D)(t:D)(lo:Option Int)(Q:D×En->Prop):Option Int×En->Prop:=fun h=>W (g t lo h.1) (iC h.2 Q)
def Ac(g:D->Option Int->Option Int->Option D)(t:D)(hi:MO)(Q:D×En->Prop):Option Int×En->Prop:=fun l=>W (hi l.2) (Ab g t l.1 Q)
def kSl(g:D->Option Int->Option Int->Option D)(lo hi:MO)(Q:D×En->Prop):D×En->Prop:=fun r=>W (lo r.2) (Ac g r.1 hi Q)
def wB(i:Nat)(Q:D×En->Prop):D×En->Prop:=fun r=>W (match (r.2[i]?).join with|some (.dict ks)=>(kOf r.1).bind fun _=>(aJ ks r.1).map fun t=>(t,r.2)|_=>none) Q
def Ji(q:D)(en:En)(Q:D×En->Prop):D->Prop:=fun x=>W (match x with|.dict ks=>(kOf q).bind fun _=>(aJ ks q).map fun t=>(t,en)|_=>none) Q
def kDg(f:ME)(i:Nat)(en:En)(Q:D×En->Prop):D->Prop:=fun _x=>W (f en) (wB i Q)
def kIt(J:En->Prop)(Q:Fl->Prop):Fl->Prop:=fun fl=>match fl with|.nx e=>J e|.ct e=>J e|.rt t e=>Q (.rt t e)
def Af(us:List D)(J:List D->En->Prop):D×En->Prop:=fun r=>J (us++[r.1]) r.2
def wA(f:ME)(us:List D)(J:List D->En->Prop):Bool×En->Prop:=fun r=>if r.1 then W (f r.2) (Af us J)else J us r.2
def Je(c:MT)(f:ME)(us:List D)(J:List D->En->Prop):En->Prop:=fun en=>W (c en) (wA f us J)
def kWh(b:MS)(J:En->Prop)(Q:Fl->Prop):Bool×En->Prop:=fun r=>if r.1 then W (b r.2) (kIt J Q)else Q (.nx r.2)
def kFg(b:MS)(J:En->Prop)(Q:Fl->Prop):En->Prop:=fun en=>W (b en) (kIt J Q)
def kGs(q:List D->En->Option En)(ts:List D)(Q:En->Prop):En->Prop:=fun en=>W (q ts en) Q
def oA(t:D)(Q:List D->Prop):List D->Prop:=fun ts=>Q (t::ts)
def Jj(r:List (D ⊕ Nat))(en:En)(Q:List D->Prop):D->Prop:=fun t=>W (dP r en) (oA t Q)
def bK{α:Type}(ts:List α)(n:Nat):atI ts (n:Int)=ts[n]?:=by
 unfold atI ixN;rw[if_pos (by omega)];by_cases h:n<ts.length
 ·rw[if_pos (by omega)];rfl
 ·rw[if_neg (by omega),zbm (by omega)];rfl
def zn{ts:List D}{t:D}(n:Nat)(h:n<ts.length):jn ts (n:Int) t=some (ts.set n t):=by
 unfold jn ixN;rw[if_pos (by omega),if_pos (by omega)];rfl
def vm(a b:Int):(a==b)=decide (a=b):=by
 by_cases h:a=b
 ·rw[h,zaB rfl];exact beq_self_eq_true b
 ·rw[zaA h];exact zbZ.mpr h
def uP(a b:Str):(a==b)=decide (a=b):=by
 by_cases h:a=b
 ·rw[h,zaB rfl];exact beq_self_eq_true b
 ·rw[zaA h];exact zbZ.mpr h
def Km(a b:Str):eqD (.str a) (.str b)=some (.bool (decide (a=b))):=by
 show grd _ _=_;unfold grd;rw[if_pos ⟨rfl,rfl,zbk _⟩,<-uP];simp only[peq]
def IM(a b:Str):neD (.str a) (.str b)=some (.bool (!decide (a=b))):=by
 show grd _ _=_;unfold grd;rw[if_pos ⟨rfl,rfl,zbk _⟩,<-uP];simp only[peq]
variable(en:En)(Qs:Fl->Prop)(Qe:D×En->Prop)(Qb:Bool×En->Prop)(Qa:List (D ⊕ Nat)×En->Prop)(Ql:List D×En->Prop)(Qd:D->Prop)(Qt:List D->Prop)(Qn:En->Prop)(f:ME)(g:MG)(fa:MA)(c:MT)(ts:List D)(i:Nat)
def ws0(α:Type)(a:α)(Q:α->Prop):W (some a) Q=Q a:=aC _ _
def ws1(a:Option D)(l:En):gv (a::l) 0=a:=rfl
def ws2(a:Option D)(l:En):gv (a::l) (i+1)=gv l i:=rfl
def ws3(a b:Option D)(l:En):List.set (a::l) 0 b=b::l:=rfl
def ws4(a b:Option D)(l:En):List.set (a::l) (i+1) b=a::List.set l i b:=rfl
def ws5(a b:MS):W (aj a b en) Qs=W (a en) (Ad b Qs):=aq _ _ _
def ws6(b:MS):Ad b Qs (.nx en)=W (b en) Qs:=rfl
def ws7(b:MS)(t:D):Ad b Qs (.rt t en)=Qs (.rt t en):=aC _ _
def ws8:W (ao i f en) Qs=W (f en) (I0 i Qs):=bX _ _ _
def ws9(t:D):I0 i Qs (t,en)=Qs (.nx (en.set i (some t))):=rfl
def HB:W (bI f en) Qs=W (f en) (Jg Qs):=bX _ _ _
def HA(t:D):Jg Qs (t,en)=Qs (.nx en):=rfl
def Hz:W (ay f en) Qs=W (f en) (Ja Qs):=bX _ _ _
def Hy(t:D):Ja Qs (t,en)=Qs (.rt t en):=rfl
def Hx:W (aS en) Qs=Qs (.nx en):=aC _ _
def Hw(a b:MS):W (sIf c a b en) Qs=W (c en) (kIf a b Qs):=aq _ _ _
def Hv(β:Type)(a b:En->Option β)(Q:β->Prop):kIf a b Q (true,en)=W (a en) Q:=rfl
def Hu(β:Type)(a b:En->Option β)(Q:β->Prop):kIf a b Q (false,en)=W (b en) Q:=rfl
def Ht(fi:MI)(b:MS):W (bT fi g b en) Qs=W (fi en) (Jf g b Qs):=aq _ _ _
def Hs(b:MS):Jf g b Qs (ts,en)=W (cy g b ts en) Qs:=rfl
def Hr(b:MS):W (cy g b [] en) Qs=Qs (.nx en):=aC _ _
def Hq(b:MS)(t:D):W (cy g b (t::ts) en) Qs=W (g t en) (Dl g b ts Qs):=(aq _ _ _).trans (congrArg _ (funext fun z=>aq _ _ _))
def Ho(b:MS):Dl g b ts Qs en=W (b en) (ou g b ts Qs):=rfl
def Hn(b:MS):ou g b ts Qs (.nx en)=W (cy g b ts en) Qs:=rfl
def Hm(b:MS):ou g b ts Qs (.ct en)=W (cy g b ts en) Qs:=rfl
def Hl(b:MS)(t:D):ou g b ts Qs (.rt t en)=Qs (.rt t en):=aC _ _
def Hk(t:D):W (gN i t en) Qn=Qn (en.set i (some t)):=aC _ _
def Hj(g:List D->En->Option En):W (gT g (.tuple ts) en) Qn=W (g ts en) Qn:=rfl
def Hi(q:List D->En->Option En)(t:D):W (gsC g q (t::ts) en) Qn=W (g t en) (kGs q ts Qn):=aq _ _ _
def Hh(q:List D->En->Option En):kGs q ts Qn en=W (q ts en) Qn:=rfl
def Hg:W (gs0 [] en) Qn=Qn en:=aC _ _
def Hf(fk fe:ME):W (cE i fk fe en) Qs=W (fe en) (wx i fk Qs):=aq _ _ _
def He(fk:ME)(t:D):wx i fk Qs (t,en)=W (gv en i) (yd i t fk en Qs):=by unfold wx gv;cases h:(en[i]?).join with|none=>simp only[h,bL]|some x=>simp only[h,aC];exact aq _ _ _
def Hd(t:D)(fk:ME)(x:D):yd i t fk en Qs x=W (fk en) (oq i t Qs):=rfl
def Hc(t:D)(n:Int):oq i t Qs (.int n,en)=W (gv en i) (sM i t n en Qs):=by unfold oq gv;cases h:(en[i]?).join with|none=>simp only[h,bL]|some x=>simp only[h,aC];cases x<;>first|rfl|exact(aC _ _).symm | (rw[aC];rfl) | (rw[aC];exact bL _)
def Hb(t:D)(n:Int):sM i t n en Qs (.list ts)=W (jn ts n t) (Ae i en Qs):=by unfold sM jn Ae;dsimp only;rw[bX,bX]
def Ha:Ae i en Qs ts=Qs (.nx (en.set i (some (.list ts)))):=rfl
def G9(x0 x1 t:D)(l:List D):jn (x0::x1::l) 1 t=some (x0::t::l):=zn 1 (by simp only[zac];omega)
def G8:W (aa i en) Qe=W (gv en i) (iC en Qe):=bX _ _ _
def G7(t:D):iC en Qe t=Qe (t,en):=rfl
def G6:W (eMv i en) Qe=W (gv en i) (kMv i en Qe):=bX _ _ _
def G5(t:D):kMv i en Qe t=Qe (t,en.set i none):=rfl
def G4(t:D):W (eC t en) Qe=Qe (t,en):=aC _ _
def G0(g:D->Option D):W (e1 g f en) Qe=W (f en) (k1 g Qe):=(aq _ _ _).trans (congrArg _ (funext fun z=>bX _ _ _))
def GZ(g:D->Option D)(t:D):k1 g Qe (t,en)=W (g t) (iC en Qe):=rfl
def GY(g:D->D->Option D)(f1 f2:ME):W (e2 g f1 f2 en) Qe=W (f1 en) (k2 g f2 Qe):=(aq _ _ _).trans (congrArg _ (funext fun z=>(aq _ _ _).trans (congrArg _ (funext fun y=>bX _ _ _))))
def GX(g:D->D->Option D)(f2:ME)(t:D):k2 g f2 Qe (t,en)=W (f2 en) (k2b g t Qe):=rfl
def GW(g:D->D->Option D)(t u:D):k2b g t Qe (u,en)=W (g t u) (iC en Qe):=rfl
def GV(f g:ME):W (kq f g en) Qe=W (f en) (Jl g Qe):=aq _ _ _
def GU(g:ME):Jl g Qe (.bool true,en)=W (g en) Qe:=rfl
def GT:W (qg f en) Qe=W (f en) (Jb Qe):=aq _ _ _
def GS(x:Bool):Jb Qe (.bool x,en)=Qe (.bool (!x),en):=aC _ _
def GR:W (tV f en) Qb=W (f en) (kTV Qb):=aq _ _ _
def GQ(x:Bool):kTV Qb (.bool x,en)=Qb (x,en):=aC _ _
def GP(f g:MT):W (cA f g en) Qb=W (f en) (wC g Qb):=aq _ _ _
def GO(g:MT):wC g Qb (true,en)=W (g en) Qb:=rfl
def GN(g:MT):wC g Qb (false,en)=Qb (false,en):=aC _ _
def GM(f g:MT):W (bOr f g en) Qb=W (f en) (Aj g Qb):=aq _ _ _
def GL(g:MT):Aj g Qb (true,en)=Qb (true,en):=aC _ _
def GK(g:MT):Aj g Qb (false,en)=W (g en) Qb:=rfl
def GJ(f:MT):W (fX f en) Qb=W (f en) (Do Qb):=bX _ _ _
def GI(x:Bool):Do Qb (x,en)=Qb (!x,en):=rfl
def GH:W (cY en) Qb=Qb (true,en):=aC _ _
def GG:W (ah en) Qa=Qa ([],en):=aC _ _
def GF(r:MA):W (ac f r en) Qa=W (f en) (kAC r Qa):=(aq _ _ _).trans (congrArg _ (funext fun z=>bX _ _ _))
def GE(r:MA)(t:D):kAC r Qa (t,en)=W (r en) (An t Qa):=rfl
def GD(t:D)(as:List (D ⊕ Nat)):An t Qa (as,en)=Qa (.inl t::as,en):=rfl
def GC(r:MA):W (aB i r en) Qa=W (gv en i) (kAS i r en Qa):=(aq _ _ _).trans (congrArg _ (funext fun z=>bX _ _ _))
def GB(r:MA)(t:D):kAS i r en Qa t=W (r en) (Am i Qa):=rfl
def GA(as:List (D ⊕ Nat)):Am i Qa (as,en)=Qa (.inr i::as,en):=rfl
def Gz:vals []=some []:=rfl
def Gy(t:D)(r:List (D ⊕ Nat)):W (vals (.inl t::r)) Qt=W (vals r) (oA t Qt):=bX _ _ _
def Gx(t:D):oA t Qt ts=Qt (t::ts):=rfl
def Gw:dP [] en=some []:=rfl
def Gv(t:D)(r:List (D ⊕ Nat)):W (dP (.inl t::r) en) Qt=W (dP r en) (oA t Qt):=bX _ _ _
def Gu(r:List (D ⊕ Nat)):W (dP (.inr i::r) en) Qt=W (gv en i) (Jj r en Qt):=(aq _ _ _).trans (congrArg _ (funext fun z=>bX _ _ _))
def Gs(t:D)(r:List (D ⊕ Nat)):Jj r en Qt t=W (dP r en) (oA t Qt):=rfl
def Gq(r:List (D ⊕ Nat))(o:Option D)(ψ:En):wb (.inr i::r) (o::ψ) en=wb r ψ (en.set i o):=rfl
def Gp(t:D)(r:List (D ⊕ Nat))(o:Option D)(ψ:En):wb (.inl t::r) (o::ψ) en=wb r ψ en:=rfl
def Go(ψ:En):wb [] ψ en=en:=rfl
def Gm(g:List D->Option D):W (eN g fa en) Qe=W (fa en) (kN g Qe):=(aq _ _ _).trans (congrArg _ (funext fun z=>(aq _ _ _).trans (congrArg _ (funext fun y=>bX _ _ _))))
def Gk(g:List D->Option D)(as:List (D ⊕ Nat)):kN g Qe (as,en)=W (vals as) (kN2 g en Qe):=rfl
def Gj(g:List D->Option D):kN2 g en Qe ts=W (g ts) (iC en Qe):=rfl
def Gi:W (bh fa en) Qe=W (fa en) (Jc Qe):=(aq _ _ _).trans (congrArg _ (funext fun z=>aq _ _ _))
def Gh(as:List (D ⊕ Nat)):Jc Qe (as,en)=W (vals as) (wz en Qe):=rfl
def Gg:wz en Qe ts=(ts.length<=sizeLine/\Qe (.list ts,en)):=nK _ _ _
def Gf:W (da fa en) Qe=W (fa en) (IZ Qe):=(aq _ _ _).trans (congrArg _ (funext fun z=>aq _ _ _))
def Ge(as:List (D ⊕ Nat)):IZ Qe (as,en)=W (vals as) (ww en Qe):=rfl
def Gd:ww en Qe ts=(ts.length<=sizeLine/\Qe (.tuple ts,en)):=nK _ _ _
def Gc:(([]:List D).length<=sizeLine)=True:=eq_true (zau (by show 0<=100;decide) dH)
def Gb(x0:D):(([x0]:List D).length<=sizeLine)=True:=eq_true (zau (by show 1<=100;decide) dH)
def Ga(x0 x1:D):(([x0,x1]:List D).length<=sizeLine)=True:=eq_true (zau (by show 2<=100;decide) dH)
def F9(x0 x1 x2 x3:D):(([x0,x1,x2,x3]:List D).length<=sizeLine)=True:=eq_true (zau (by show 4<=100;decide) dH)
def F8(F:List D->Option (D×En)):W (am F fa en) Qe=W (fa en) (Dm F Qe):=(aq _ _ _).trans (congrArg _ (funext fun z=>(aq _ _ _).trans (congrArg _ (funext fun y=>bX _ _ _))))
def F7(F:List D->Option (D×En))(as:List (D ⊕ Nat)):Dm F Qe (as,en)=W (dP as en) (sO F as en Qe):=rfl
def FZ(F:List D->Option (D×En))(as:List (D ⊕ Nat)):sO F as en Qe ts=W (F ts) (sN as en Qe):=rfl
def FY(as:List (D ⊕ Nat))(t:D)(ψ:En):sN as en Qe (t,ψ)=Qe (t,wb as ψ en):=rfl
def FX(q:Bool)(fi:MI)(js:List (Option Nat)):W (eLC q fi g c f js en) Qe=W (fi en) (kLC q g c f js Qe):=(aq _ _ _).trans (congrArg _ (funext fun z=>bX _ _ _))
def FW(q:Bool)(js:List (Option Nat)):kLC q g c f js Qe (ts,en)=W (lcF g c f ts [] (cI js en)) (Ag q js en Qe):=rfl
def FV(js:List (Option Nat))(us:List D)(ex:En):Ag true js en Qe (us,ex)=Qe (.list us,en):=rfl
def CZ:cI [] en=[]:=rfl
def CY(j:Nat)(js:List (Option Nat)):cI (some j::js) en=gv en j::cI js en:=rfl
def CW(js:List (Option Nat)):cI (none::js) en=none::cI js en:=rfl
def CV:W (lcF g c f [] acc en) Ql=Ql (acc,en):=aC _ _
def CU:W (bt f en) Ql=W (f en) (Ak Ql):=aq _ _ _
def CT:Ak Ql (.list ts,en)=Ql (ts,en):=aC _ _
def CQ:Ak Ql (.tuple ts,en)=Ql (ts,en):=aC _ _
def CP:W (bC fa en) Ql=W (fa en) (kR1 Ql):=aq _ _ _
def CO(j:Int):kR1 Ql ([.inl (.int j)],en)=((-(2 ^ 62)<=j/\j<2 ^ 62)/\Ql (fh 0 j.toNat,en)):=nK _ _ _
def CN:W (iG fa en) Ql=W (fa en) (kEn Ql):=aq _ _ _
def CM:kEn Ql ([.inl (.list ts)],en)=Ql (eW ts,en):=aC _ _
def CL:W (dN i f en) Qe=W (gv en i) (Dj i f en Qe):=(aq _ _ _).trans (congrArg _ (funext fun z=>aq _ _ _))
def CJ(x:D):Dj i f en Qe x=W (f en) (oo i Qe):=rfl
def CI(n:Int):oo i Qe (.int n,en)=W (gv en i) (xX n en Qe):=by unfold oo gv;cases h:(en[i]?).join with|none=>simp only[h,bL]|some x=>simp only[h,aC];cases x<;>first|rfl|exact(aC _ _).symm | (rw[aC];rfl) | (rw[aC];exact bL _)
def CH(n:Int):xX n en Qe (.list ts)=W (atI ts n) (iC en Qe):=bX _ _ _
def CG:W (cc i f en) Qe=W (gv en i) (Jk i f en Qe):=by unfold gv cc;cases(en[i]?).join with|none=>rw[bL,bL]|some x=>cases x<;>first|rfl|exact(aC _ _).symm | (rw[aC];rfl) | (rw[aC];exact bL _)
def CF:Jk i f en Qe (.list ts)=W (f en) (wD i Qe):=aq _ _ _
def CD(t:D):wD i Qe (t,en)=W (gv en i) (Dp i t en Qe):=by unfold wD gv;cases h:(en[i]?).join with|none=>simp only[h,bL]|some x=>simp only[h,aC];cases x<;>first|rfl|exact(aC _ _).symm | (rw[aC];rfl) | (rw[aC];exact bL _)
def CC(t:D):Dp i t en Qe (.list ts)=(ts.length<sizeLine/\Qe (.none,en.set i (some (.list (ts++[t]))))):=nK _ _ _
def CB(g g2:D->D->Option D)(f1 f2 f3:ME):W (jM g g2 f1 f2 f3 en) Qe=W (f1 en) (kCh g g2 f2 f3 Qe):=(aq _ _ _).trans (congrArg _ (funext fun z=>(aq _ _ _).trans (congrArg _ (funext fun y=>aq _ _ _))))
def CA(g g2:D->D->Option D)(f2 f3:ME)(t:D):kCh g g2 f2 f3 Qe (t,en)=W (f2 en) (Ai g g2 f3 t Qe):=rfl
def Cz(g g2:D->D->Option D)(f3:ME)(t u:D):Ai g g2 f3 t Qe (u,en)=W (g t u) (Ah g2 u f3 en Qe):=rfl
def Cy(g:D->D->Option D)(u:D)(f3:ME):Ah g u f3 en Qe (.bool true)=W (f3 en) (k2b g u Qe):=(aq _ _ _).trans (congrArg _ (funext fun z=>bX _ _ _))
def Cw(Q:Option Int×En->Prop):W (mE en) Q=Q (none,en):=aC _ _
def Cv(Q:Option Int×En->Prop):W (j8 f en) Q=W (f en) (kOS Q):=aq _ _ _
def Cu(n:Int)(Q:Option Int×En->Prop):kOS Q (.int n,en)=Q (some n,en):=aC _ _
def Ct(g:D->Option Int->Option Int->Option D)(lo hi:MO):W (eSl g f lo hi en) Qe=W (f en) (kSl g lo hi Qe):=(aq _ _ _).trans (congrArg _ (funext fun z=>(aq _ _ _).trans (congrArg _ (funext fun y=>(aq _ _ _).trans (congrArg _ (funext fun y=>bX _ _ _))))))
def Cs(g:D->Option Int->Option Int->Option D)(lo hi:MO)(t:D):kSl g lo hi Qe (t,en)=W (lo en) (Ac g t hi Qe):=rfl
def Cr(g:D->Option Int->Option Int->Option D)(hi:MO)(t:D)(a:Option Int):Ac g t hi Qe (a,en)=W (hi en) (Ab g t a Qe):=rfl
def Cq(g:D->Option Int->Option Int->Option D)(t:D)(a b:Option Int):Ab g t a Qe (b,en)=W (g t a b) (iC en Qe):=rfl
def Cp:W (bi i f en) Qe=W (gv en i) (kDg f i en Qe):=(aq _ _ _).trans (congrArg _ (funext fun z=>aq _ _ _))
def Co(x:D):kDg f i en Qe x=W (f en) (wB i Qe):=rfl
def Cn(q:D):wB i Qe (q,en)=W (gv en i) (Ji q en Qe):=by unfold wB gv;cases h:(en[i]?).join with|none=>simp only[h,bL]|some x=>simp only[h,aC];cases x<;>first|rfl|exact(aC _ _).symm | (rw[aC];rfl) | (rw[aC];exact bL _)
def Cm(J:En->Prop):kIt J Qs (.nx en)=J en:=rfl
def Cl(J:En->Prop):kIt J Qs (.ct en)=J en:=rfl
def Ck(J:En->Prop)(t:D):kIt J Qs (.rt t en)=Qs (.rt t en):=rfl
def Cj(b:MS)(J:En->Prop):kFg b J Qs en=W (b en) (kIt J Qs):=rfl
def Ci(b:MS)(J:En->Prop):kWh b J Qs (true,en)=W (b en) (kIt J Qs):=rfl
def Ch(b:MS)(J:En->Prop):kWh b J Qs (false,en)=Qs (.nx en):=rfl
def Cg(us:List D)(J:List D->En->Prop):Je c f us J en=W (c en) (wA f us J):=rfl
def Cf(us:List D)(J:List D->En->Prop):wA f us J (true,en)=W (f en) (Af us J):=rfl
def Ce(us:List D)(J:List D->En->Prop):wA f us J (false,en)=J us en:=rfl
def Cd(us:List D)(J:List D->En->Prop)(t:D):Af us J (t,en)=J (us++[t]) en:=rfl
def Cc(n:Nat)(dps:List Nat)(b:MS):W (fnF n dps b ts) Qe=W (b (ts.map some++List.replicate n none)) (kFn dps Qe):=aq _ _ _
def Cb(dps:List Nat)(t:D):kFn dps Qe (.rt t en)=Qe (t,msk dps en):=aC _ _
def Ca(d:Nat)(ds:List Nat)(o:Option D):msk ((d+1)::ds) (o::en)=o::msk ds en:=rfl
def B9(ds:List Nat)(o:Option D):msk (0::ds) (o::en)=none::msk ds en:=rfl
def B8:msk [] en=[]:=rfl
def B7(t:D):List.map some (t::ts)=some t::List.map some ts:=rfl
def B6:List.map (some:D->Option D) []=[]:=rfl
def B5(a:Option D)(l m:En):(a::l)++m=a::(l++m):=rfl
def B4(m:En):([]:En)++m=m:=rfl
def B3(a:Option D):List.replicate 0 a=[]:=rfl
def B1(a:Option D)(n:Nat):List.replicate (n+1) a=a::List.replicate n a:=rfl
def B0(a b:Int):aY (.int a) (.int b)=some (.int (a+b)):=rfl
def BZ(a b:Int):fP (.int a) (.int b)=some (.int (a-b)):=rfl
def BY(a b:Int):W (cU (.int a) (.int b)) Qd=(hC a b/\Qd (.int (a / b))):=nK _ _ _
def BX(a b:Int):W (bH (.int a) (.int b)) Qd=(0<b/\Qd (.int (a % b))):=nK _ _ _
def BW(a b:Int):ltI (.int a) (.int b)=some (.bool (decide (a<b))):=rfl
def BV(a b:Int):leI (.int a) (.int b)=some (.bool (decide (a<=b))):=rfl
def BU(a b:Int):gtI (.int a) (.int b)=some (.bool (decide (b<a))):=rfl
def BT(a b:Int):eqD (.int a) (.int b)=some (.bool (decide (a=b))):=(lE a b).trans (congrArg (fun q=>some (PyData.bool q)) (vm a b))
def BS(a b:Int):neD (.int a) (.int b)=some (.bool (!decide (a=b))):=(IN a b).trans (congrArg (fun q=>some (PyData.bool (!q))) (vm a b))
def BR:isN .none .none=some (.bool true):=rfl
def BQ:fT .none .none=some (.bool false):=rfl
def BP(x:Int):isN (.int x) .none=some (.bool false):=rfl
def BO(x:Int):fT (.int x) .none=some (.bool true):=rfl
def BN(x:Str):isN (.str x) .none=some (.bool false):=rfl
def BM(x:List D):fT (.tuple x) .none=some (.bool true):=rfl
def BL(x:Int):dh "int" (.int x)=some (.bool true):=(if_neg (fun z=>nomatch z)).trans (congrArg (fun b=>some (PyData.bool b)) (show iE "int" "int"=true by decide))
def BK(x:Int):dh "bool" (.int x)=some (.bool false):=(if_neg (fun z=>nomatch z)).trans (congrArg (fun b=>some (PyData.bool b)) (show iE "int" "bool"=false by decide))
def BJ(x0 x1 x2 x3:D):((([x0,x1,x2,x3]:List D).length:Nat):Int)=4:=rfl
def BI(α β:Type)(f:α->β)(l:List α):(l.map f).length=l.length:=zad f
def BH:bp [.list ts]=some (.int ts.length):=rfl
def BG:bp [.tuple ts]=some (.int ts.length):=rfl
def BF(a:Int):nz (.int a)=some (.int (-a)):=rfl
def BE(n:Int):ixA (.list ts) (.int n)=atI ts n:=rfl
def BD(n:Int):ixA (.tuple ts) (.int n)=atI ts n:=rfl
def BC(ts us:List D):W (nJ (.list ts) (.list us)) Qd=(ts.length+us.length<=sizeLine/\Qd (.list (ts++us))):=nK _ _ _
def BB(lo hi:Option Int):rH (.list ts) lo hi=some (.list (eK ts lo hi)):=rfl
def BA:atI ts 0=ts[0]?:=bK ts _
def Bz:atI ts 1=ts[1]?:=bK ts _
def By:atI ts 2=ts[2]?:=bK ts _
def Bx:atI ts 3=ts[3]?:=bK ts _
def Bw(t:D):(t::ts)[0]?=some t:=rfl
def Bv(t:D):(t::ts)[i+1]?=ts[i]?:=List.getElem?_cons_succ
def Bu(lo hi:Option Int):wN (.tuple ts) lo hi=some (.tuple (eK ts lo hi)):=by first|rfl|exact aC _ _|exact bL _
def Bt:sd (.list ts) (.int (-1))=some (.list ts.reverse):=rfl
def Bs(a b:Str):eqD (.str a) (.str b)=some (.bool (decide (a=b))):=Km a b
def Br(a b:Str):neD (.str a) (.str b)=some (.bool (!decide (a=b))):=IM a b
def Bq(t:D)(ts acc:List D):W (lcF g c f (t::ts) acc en) Ql=W (g t en) (kL1 g c f ts acc Ql):=by unfold lcF;rw[aq];congr 1;funext z;rw[aq];rfl
def Bp(ts acc:List D):kL1 g c f ts acc Ql en=W (c en) (kL2 g c f ts acc Ql):=rfl
def Bo(ts acc:List D):kL2 g c f ts acc Ql (true,en)=W (f en) (kL3 g c f ts acc Ql):=aq _ _ _
def Bn(ts acc:List D)(t:D):kL3 g c f ts acc Ql (t,en)=(acc.length<sizeLine/\W (lcF g c f ts (acc++[t]) en) Ql):=LX _ _ _
def Bm(m:List D):([]++m:List D)=m:=rfl
def Bk(x:D)(l m:List D):((x::l)++m:List D)=x::(l++m):=rfl
def Bj:(([]:List D).length<sizeLine)=True:=eq_true (zag (by show 0<100;decide) dH)
def Bi(x0:D):(([x0]:List D).length<sizeLine)=True:=eq_true (zag (by show 1<100;decide) dH)
def Bh(x0 x1:D):(([x0,x1]:List D).length<sizeLine)=True:=eq_true (zag (by show 2<100;decide) dH)
def Bg:(!true)=false:=rfl
def Bf:(!false)=true:=rfl
def Be(p:Prop):(True/\p)=p:=true_and p
def Bd(p:Prop):(p/\True)=p:=and_true p
def Bc(_:Decidable True):decide True=true:=zaB trivial
def Bb(_:Decidable False):decide False=false:=zaA (fun z=>z)
end
def zzI{a b:Prop}(x:a)(y:b):a/\b:=⟨x,y⟩
def FU:=zzI @ws0 (zzI @ws1 (zzI @ws2 (zzI @ws3 (zzI @ws4 (zzI @ws5 (zzI @ws6 (zzI @ws7 (zzI @ws8 (zzI @ws9 (zzI @HB (zzI @HA (zzI @Hz (zzI @Hy (zzI @Hx (zzI @Hw (zzI @Hv (zzI @Hu (zzI @Ht (zzI @Hs (zzI @Hr (zzI @Hq (zzI @Ho (zzI @Hn (zzI @Hm (zzI @Hl (zzI @Hk (zzI @Hj (zzI @Hi (zzI @Hh (zzI @Hg (zzI @Hf (zzI @He (zzI @Hd (zzI @Hc (zzI @Hb (zzI @Ha (zzI @G9 (zzI @G8 @G7))))))))))))))))))))))))))))))))))))))
def FT:=zzI @G6 (zzI @G5 (zzI @G4 (zzI @G0 (zzI @GZ (zzI @GY (zzI @GX (zzI @GW (zzI @GV (zzI @GU (zzI @GT (zzI @GS (zzI @GR (zzI @GQ (zzI @GP (zzI @GO (zzI @GN (zzI @GM (zzI @GL (zzI @GK (zzI @GJ (zzI @GI (zzI @GH (zzI @GG (zzI @GF (zzI @GE (zzI @GD (zzI @GC (zzI @GB (zzI @GA (zzI @Gz (zzI @Gy (zzI @Gx (zzI @Gw (zzI @Gv (zzI @Gu (zzI @Gs (zzI @Gq (zzI @Gp @Go))))))))))))))))))))))))))))))))))))))
def FS:=zzI @Gm (zzI @Gk (zzI @Gj (zzI @Gi (zzI @Gh (zzI @Gg (zzI @Gf (zzI @Ge (zzI @Gd (zzI @Gc (zzI @Gb (zzI @Ga (zzI @F9 (zzI @F8 (zzI @F7 (zzI @FZ (zzI @FY (zzI @FX (zzI @FW (zzI @FV (zzI @CZ (zzI @CY (zzI @CW (zzI @CV (zzI @CU (zzI @CT (zzI @CQ (zzI @CP (zzI @CO (zzI @CN (zzI @CM (zzI @CL (zzI @CJ (zzI @CI (zzI @CH (zzI @CG (zzI @CF (zzI @CD (zzI @CC @CB))))))))))))))))))))))))))))))))))))))
def FR:=zzI @CA (zzI @Cz (zzI @Cy (zzI @Cw (zzI @Cv (zzI @Cu (zzI @Ct (zzI @Cs (zzI @Cr (zzI @Cq (zzI @Cp (zzI @Co (zzI @Cn (zzI @Cm (zzI @Cl (zzI @Ck (zzI @Cj (zzI @Ci (zzI @Ch (zzI @Cg (zzI @Cf (zzI @Ce (zzI @Cd (zzI @Cc (zzI @Cb (zzI @Ca (zzI @B9 (zzI @B8 (zzI @B7 (zzI @B6 (zzI @B5 (zzI @B4 (zzI @B3 (zzI @B1 (zzI @B0 (zzI @BZ (zzI @BY (zzI @BX (zzI @BW @BV))))))))))))))))))))))))))))))))))))))
def FQ:=zzI @BU (zzI @BT (zzI @BS (zzI @BR (zzI @BQ (zzI @BP (zzI @BO (zzI @BN (zzI @BM (zzI @BL (zzI @BK (zzI @BJ (zzI @BI (zzI @BH (zzI @BG (zzI @BF (zzI @BE (zzI @BD (zzI @BC (zzI @BB (zzI @BA (zzI @Bz (zzI @By (zzI @Bx (zzI @Bw (zzI @Bv (zzI @Bu (zzI @Bt (zzI @Bs (zzI @Br (zzI @Bq (zzI @Bp (zzI @Bo (zzI @Bn (zzI @Bm (zzI @Bk (zzI @Bj (zzI @Bi (zzI @Bh @Bg))))))))))))))))))))))))))))))))))))))
def FP:=zzI @Bf (zzI @Be (zzI @Bd (zzI @Bc @Bb)))
def ws:=zzI @FU (zzI @FT (zzI @FS (zzI @FR (zzI @FQ @FP))))
end L2
namespace L2
namespace Pen3
open PySem L2
end Pen3
end L2
namespace L2
variable{g:MG}{b:MS}{ts:List D}{en:En}{Q:List D×En->Prop}{c:MT}{f:ME}{n:Nat}{o:Option D}
open PySem PySem.Spec PyProof.Rows
def dq{Q:Fl->Prop}(I:Nat->En->Prop)(h0:I 0 en)
  (hs:∀i t en,ts[i]?=some t->I i en->W (g t en) (kFg b (I (i+1)) Q)) (hq:∀en,I ts.length en->Q (.nx en)):W (cy g b ts en) Q:=by
 suffices ∀(us:List D) (i:Nat) (en:En),ts.drop i=us->i<=ts.length->I i en->W (cy g b us en) Q from this ts 0 en rfl (zbk _) h0
 intro us
 induction us with
 |nil=>
  intro i en hu hi h
  have:ts.length-i=0:=by rw[<-zaF,hu];rfl
  simp only[ws];exact hq en (by rw[show ts.length=i by omega];exact h)
 |cons t us ih=>
  intro i en hu hi h;have ht:ts[i]?=some t:=by
   have:(ts.drop i)[0]?=some t:=by rw[hu];rfl
   rw[zbG]at this;exact this
  have hl:i<ts.length:=(zah.mp ht).1;have hd:ts.drop (i+1)=us:=by rw[<-List.drop_drop,hu];rfl
  simp only[ws];refine(hs i t en ht h).use fun en1 h1=>?_;simp only[ws]at h1 ⊢;refine h1.use fun fl h2=>?_;cases fl with
  |nx e=>simp only[ws]at h2 ⊢;exact ih (i+1) e hd hl h2
  |ct e=>simp only[ws]at h2 ⊢;exact ih (i+1) e hd hl h2
  |rt t e=>simp only[ws]at h2 ⊢;exact h2
def KD(I:Nat->List D->En->Prop)(hz:ts.length<=sizeLine)(h0:I 0 [] en)
  (hs:∀i t us en,ts[i]?=some t->us.length<=i->I i us en->W (g t en) (Je c f us (I (i+1)))) (hq:∀us en,us.length<=ts.length->I ts.length us en->Q (us,en)):W (lcF g c f ts [] en) Q:=by
 suffices ∀(vs:List D) (i:Nat) (us:List D) (en:En),ts.drop i=vs->i<=ts.length->us.length<=i->I i us en->W (lcF g c f vs us en) Q from this ts 0 [] en rfl (zbk _) (zbk _) h0
 intro vs
 induction vs with
 |nil=>
  intro i us en hu hi hl h
  have:ts.length-i=0:=by rw[<-zaF,hu];rfl
  simp only[ws];exact hq us en (by omega) (by rw[show ts.length=i by omega];exact h)
 |cons t vs ih=>
  intro i us en hu hi hl h;have ht:ts[i]?=some t:=by
   have:(ts.drop i)[0]?=some t:=by rw[hu];rfl
   rw[zbG]at this;exact this
  have hlt:i<ts.length:=(zah.mp ht).1;have hd:ts.drop (i+1)=vs:=by rw[<-List.drop_drop,hu];rfl
  unfold lcF;rw[aq];refine(hs i t us en ht hl h).use fun en1 h1=>?_;simp only[ws]at h1;rw[aq];refine h1.use fun r h2=>?_;obtain⟨x,en2⟩:=r;cases x with
  |true=>
   simp only[ws]at h2;show W ((f en2).bind _) Q;rw[aq];refine h2.use fun q h3=>?_;obtain⟨u,en3⟩:=q;simp only[ws]at h3;show W (if us.length<sizeLine then _ else _) Q;rw[if_pos (by omega)];exact ih (i+1) _ _ hd hlt (by rw[zae];show _+1<=_;omega) h3
  |false=>
   simp only[ws]at h2;exact ih (i+1) _ _ hd hlt (by omega) h2
def fY{Q:Fl->Prop}(I:Nat->En->Prop)(hs:∀n en,I n en->W (c en) (kWh b (fun e=>∃m,m<n/\I m e) Q))(h0:I n en):W (bR c b en) Q:=by
 induction n using Nat.strongRecOn generalizing en with
 |_ n ih=>
  obtain⟨⟨x,en1⟩,e1,h1⟩:=(hs n en h0).ex;cases x with
  |false=>simp only[ws]at h1;exact W.of (ur e1) h1
  |true=>
   simp only[ws]at h1;obtain⟨fl,e2,h2⟩:=h1.ex;cases fl with
   |nx e=>
    obtain⟨m,hm,hi⟩:∃m,m<n/\I m e:=h2;obtain⟨fl,e3,h3⟩:=(ih m hm hi).ex;exact W.of (ut e1 e2 e3) h3
   |ct e=>
    obtain⟨m,hm,hi⟩:∃m,m<n/\I m e:=h2;obtain⟨fl,e3,h3⟩:=(ih m hm hi).ex;obtain⟨k,h4⟩:=jo e3;refine W.of (iX (n:=k+1) ?_) h3;unfold whN;rw[e1];show(b en1).bind _=_;rw[e2];exact h4
   |rt t e=>
    refine W.of (iX (n:=1) ?_) (show Q (.rt t e)from h2);unfold whN;rw[e1];show(b en1).bind _=_;rw[e2];rfl
def iK{rest:En}(F:D->D)(hz:ts.length<=sizeLine)(hf:∀t∈ts,W (f (some t::rest)) (fun r=>r=(F t,some t::rest)))(hq:∀o',Q (ts.map F,o'::rest)):W (lcF (gN 0) cY f ts [] (o::rest)) Q:=by
 obtain⟨o',e⟩:=ve (f:=f) (F:=F) (rest:=rest) ts [] o (fun t ht=>by
  obtain⟨r,e,h⟩:=(hf t ht).ex;rw[e,h]) (by simpa using hz)
 exact W.of e (hq o')
def dQ{rest:En}(p:D->Bool)(F:D->D)(hz:ts.length<=sizeLine)(hc:∀t∈ts,W (c (some t::rest)) (fun r=>r=(p t,some t::rest)))(hf:∀t∈ts,p t=true->W (f (some t::rest)) (fun r=>r=(F t,some t::rest)))(hq:∀o',Q ((ts.filter p).map F,o'::rest)):W (lcF (gN 0) c f ts [] (o::rest)) Q:=by
 obtain⟨o',e⟩:=ia (c:=c) (f:=f) (p:=p) (F:=F) (rest:=rest) ts [] o (fun t ht=>by
  obtain⟨r,e,h⟩:=(hc t ht).ex;rw[e,h]) (fun t ht hp=>by
  obtain⟨r,e,h⟩:=(hf t ht hp).ex;rw[e,h]) (by simpa using hz)
 exact W.of e (hq o')
def xq{α:Type}{ts:List α}{i:Nat}{t:α}(h:ts[i]?=some t):ts.take (i+1)=ts.take i++[t]:=by
 rw[List.take_add_one,h];rfl
def KC(J:En->Prop)(F:D->D)(hz:ts.length<=sizeLine)(h0:J en)(hs:∀t∈ts,∀en,J en->W (g t en) (fun en1=>W (f en1) (fun r=>r.1=F t/\J r.2)))(hq:∀en,J en->Q (ts.map F,en)):W (lcF g cY f ts [] en) Q:=by
 refine KD (fun i us en=>us=(ts.take i).map F/\J en) hz ⟨rfl,h0⟩ (fun i t us en ht _ ⟨e,hj⟩=>?_) fun us en _ ⟨e,hj⟩=>?_
 ·refine(hs t (zaX ht) en hj).use fun en1 h1=>?_;simp only[ws];refine h1.use fun r h2=>?_;obtain⟨u,en2⟩:=r;simp only[ws];refine⟨?_,h2.2⟩;rw[xq ht,zaC,e];show _++[u]=_++[F t];rw[show u=F t from h2.1]
 ·rw[e,zaQ];exact hq en hj
def im{i:Int}{k:Nat}{t:D}(h:(fh i n)[k]?=some t):k<n/\t=.int (i+(k:Nat)):=by
 unfold fh at h;rw[zao]at h;obtain⟨j,hj,rfl⟩:=zab.mp h;obtain⟨hl,e⟩:=zah.mp hj;rw[List.getElem_range]at e;rw[zbf]at hl;exact⟨hl,by rw[e]⟩
def dZ(i:Int)(n:Nat):(fh i n).length=n:=by unfold fh;rw[zad,zbf]
end L2
namespace Mch
variable{ns:List Int}{k l way j fence mo:Int}{i S n:Nat}{fa:MA}{en en1:En}{es:List Bool}{gs:List (List (Option Nat))}{y:Option D}{r:List (Option Nat)}
open PySem L2 Pen2
def jB:MS:=(ay (e2 ixA (bh (ac (eC (.int 2)) (ac (eC (.int 1)) (ac (eC (.int 3)) (ac (eC (.int 2)) (ac (eC (.int 4)) (ac (eC (.int 3)) (ac (eC (.int 2)) (ac (e2 aY (eC (.int 5)) (am ar (aB 0 (ac (eC (.int 8)) ah)))) ah))))))))) (am ar (aB 0 (ac (eC (.int 8)) ah)))))
def bY:List D->Option (D×En):=fnF 0 [1] jB
def fO:MS:=(aj (ao 4 (am ar (aB 0 (ac (e2 aY (aa 2) (eC (.int 1))) ah))))
 (aj (sIf (bOr (tV (e2 eqD (aa 4) (aa 2))) (cA (tV (e2 eqD (aa 3) (eC (.int 1)))) (tV (e2 leI (aa 4) (aa 1))))) (ay (eC .none)) aS)
 (ay (aa 4))))
def bZ:List D->Option (D×En):=fnF 1 [1,0,0,0] fO
def ff:MS:=(aj (ao 3 (e2 aY (eC (.int 1)) (am ar (aB 0 (ac (aa 2) ah)))))
 (aj (ao 4 (am ar (aB 0 (ac (eC (.int 4)) ah))))
 (aj (ao 5 (e2 aY (eC (.int 1)) (am ar (aB 0 (ac (aa 3) ah)))))
 (aj (ao 6 (bh ah))
 (aj (ao 7 (bh ah))
 (aj (bT (bC (ac (aa 3) ah)) (gN 8) (aj (bI (cc 6 (e2 eqD (am ar (aB 0 (ac (eC (.int 3)) ah))) (eC (.int 0)))))
 (aj (ao 9 (eLC false (bC (ac (aa 1) ah)) (gN 0) cY (am bZ (aB 1 (ac (aa 4) (ac (aa 2) (ac (aa 3) ah))))) [none,some 0,some 3,some 4,some 8]))
 (aj (sIf (cA (tV (e2 eqD (aa 4) (eC (.int 2)))) (tV (e2 ltI (aa 8) (aa 5)))) (aj (cE 6 (aa 8) (eC (.bool false)))
 (ao 9 (eLC true (bt (aa 9)) (gN 0) cY (e2 ixA (bh (ac (aa 0) (ac (eC .none) ah))) (eN lq (ac (eOr (e2 isN (aa 0) (eC .none)) (e2 geI (aa 0) (aa 1))) ah))) [none,some 5]))) aS)
 (bI (cc 7 (aa 9)))))))
 (ay (da (ac (aa 6) (ac (aa 7) ah))))))))))
def bA:List D->Option (D×En):=fnF 7 [1,0,0] ff
def goD:Option Nat->D
 |none=>.none
 |some j=>.int j
def ax(r:List (Option Nat)):D:=.list (r.map goD)
def L9(es:List Bool)(gs:List (List (Option Nat))):D:=.tuple [.list (es.map .bool),.list (gs.map ax)]
def kH(S W:Nat)(r:List (Option Nat)):Prop:=r.length=W/\∀o∈r,∀j,o=some j->j<S
def zm(h0:0<=k)(h1:k<=1000)(h2:0<=l):∃(s:Nat) (k' l':Int),bY [penD ns k l]=some (.int s,[some (penD ns k' l')])/\1<=s/\s<=12/\k<=k'/\k'<=k+2/\0<=l':=by
 obtain⟨r1,k1,l1,e1,a1,a2,a3,a4,a5⟩:=fU (ns:=ns) (k:=k) (l:=l) (m:=8) (i:=0) (en:=[some (penD ns k l)]) (fa:=aB 0 (ac (eC (.int 8)) ah)) rfl rfl h0 (by omega) h2 (by decide) (by decide);obtain⟨r2,k2,l2,e2',b1,b2,b3,b4,b5⟩:=fU (ns:=ns) (k:=k1) (l:=l1) (m:=8) (i:=0) (en:=[some (penD ns k1 l1)]) (fa:=aB 0 (ac (eC (.int 8)) ah)) rfl rfl (by omega) (by omega) a5 (by decide) (by decide);have hx:∃s:Nat,ixA (.list [.int 2,.int 1,.int 3,.int 2,.int 4,.int 3,.int 2,.int (5+r1)]) (.int r2)=some (.int s)/\1<=s/\s<=12:=by
  have:r2=0\/r2=1\/r2=2\/r2=3\/r2=4\/r2=5\/r2=6\/r2=7:=by omega
  rcases this with rfl|rfl|rfl|rfl|rfl|rfl|rfl|rfl
  ·exact⟨2,rfl,by decide,by decide⟩
  ·exact⟨1,rfl,by decide,by decide⟩
  ·exact⟨3,rfl,by decide,by decide⟩
  ·exact⟨2,rfl,by decide,by decide⟩
  ·exact⟨4,rfl,by decide,by decide⟩
  ·exact⟨3,rfl,by decide,by decide⟩
  ·exact⟨2,rfl,by decide,by decide⟩
  ·refine⟨(5+r1).toNat,?_,by omega,by omega⟩;rw[show(((5+r1).toNat:Nat):Int)=5+r1 by omega];rfl
 obtain⟨s,ex,s1,s2⟩:=hx;refine⟨s,k2,l2,?_,s1,s2,by omega,by omega,b5⟩;refine eQ (en:=[some (penD ns k2 l2)]) (oQ (br (en1:=[some (penD ns k1 l1)]) (tD (i9 rfl (i9 rfl (i9 rfl (i9 rfl (i9 rfl (i9 rfl (i9 rfl (i9 (br rfl e1 rfl) rfl)))))))) rfl ?_) e2' ex));exact zau (by show 8<=100;decide) dH
def Ez(hS:S<=60)(h0:0<=k)(h1:k<=10000)(h2:0<=l):∃(o:Option Nat) (k' l':Int),bZ [penD ns k l,.int i,.int S,.int way]=some (goD o,[some (penD ns k' l'),none,none,none])/\(∀j,o=some j->j<S)/\k<=k'/\k'<=k+1/\0<=l':=by
 obtain⟨r1,k1,l1,e1,a1,a2,a3,a4,a5⟩:=fU (ns:=ns) (k:=k) (l:=l) (m:=S+1) (i:=0) (en:=[some (penD ns k l),some (.int i),some (.int S),some (.int way),none]) (fa:=aB 0 (ac (e2 aY (aa 2) (eC (.int 1))) ah)) rfl rfl h0 (by omega) h2 (by omega) (by omega);have c1:(tV (e2 eqD (aa 4) (aa 2))) [some (penD ns k1 l1),some (.int i),some (.int S),some (.int way),some (.int r1)]=some (r1==(S:Int),[some (penD ns k1 l1),some (.int i),some (.int S),some (.int way),some (.int r1)]):=rfl;have c2:(tV (e2 eqD (aa 3) (eC (.int 1)))) [some (penD ns k1 l1),some (.int i),some (.int S),some (.int way),some (.int r1)]=some (way==1,[some (penD ns k1 l1),some (.int i),some (.int S),some (.int way),some (.int r1)]):=rfl;have c3:(tV (e2 leI (aa 4) (aa 1))) [some (penD ns k1 l1),some (.int i),some (.int S),some (.int way),some (.int r1)]=some (decide (r1<=(i:Int)),[some (penD ns k1 l1),some (.int i),some (.int S),some (.int way),some (.int r1)]):=rfl;obtain⟨b,cb,hb⟩:∃b,(bOr (tV (e2 eqD (aa 4) (aa 2))) (cA (tV (e2 eqD (aa 3) (eC (.int 1)))) (tV (e2 leI (aa 4) (aa 1))))) [some (penD ns k1 l1),some (.int i),some (.int S),some (.int way),some (.int r1)]=some (b,[some (penD ns k1 l1),some (.int i),some (.int S),some (.int way),some (.int r1)])/\(b=false->r1≠S):=by
  cases q1:(r1==(S:Int))with
  |true=>exact⟨true,tz c1 q1,fun z=>by cases z⟩
  |false=>
   have n1:r1≠S:=by simpa using q1
   cases q2:(way==1)with
   |true=>exact⟨_,oR c1 q1 (vy c2 q2 c3),fun _=>n1⟩
   |false=>exact⟨_,oR c1 q1 (vz c2 q2),fun _=>n1⟩
 cases b with
 |true=>exact⟨none,k1,l1,eQ (b:=fO) (t:=.none) (en:=[some (penD ns k1 l1),some (.int i),some (.int S),some (.int way),some (.int r1)]) (aI (en1:=[some (penD ns k1 l1),some (.int i),some (.int S),some (.int way),some (.int r1)]) (cG e1 rfl) (jL (fF cb rfl rfl))),fun _ (z:none=some _)=>(by cases z),a3,a4,a5⟩
 |false=>
  have:=hb rfl;refine⟨some r1.toNat,k1,l1,?_,fun j hj=>by cases hj;omega,a3,a4,a5⟩;have e:goD (some r1.toNat)=.int r1:=by show PyData.int ((r1.toNat:Nat):Int)=_;rw[Int.toNat_of_nonneg a1]
  rw[e];exact eQ (b:=fO) (en:=[some (penD ns k1 l1),some (.int i),some (.int S),some (.int way),some (.int r1)]) (aI (en1:=[some (penD ns k1 l1),some (.int i),some (.int S),some (.int way),some (.int r1)]) (cG e1 rfl) (aI (lD cb rfl rfl) rfl))
def Ie(n:Nat)(hn:n<1000000):-(2 ^ 62)<=(n:Int)/\(n:Int)<2 ^ 62:=by
 have:(n:Int)<1000000:=by omega
 constructor
 ·exact Int.le_trans (by decide +kernel) (Int.natCast_nonneg n)
 ·exact Int.lt_of_lt_of_le this (by decide +kernel)
def Kk(p1:-(2 ^ 62)<=j/\j<2 ^ 62)(h:fa en=some ([.inl (.int j)],en1)):bC fa en=some ((List.range j.toNat).map fun k=>.int (0+(k:Nat)),en1):=by
 unfold bC;rw[h];simp only[Option.bind_some];exact if_pos p1
def vx(h:fa en=some ([.inl (.int n)],en1))(hn:n<1000000):bC fa en=some ((List.range n).map fun k=>.int (0+(k:Nat)),en1):=by
 have e:=Kk (Ie n hn) h;rw[zaL]at e;exact e
def mEn(mo:Int)(ns:List Int)(k l:Int)(W S:Nat)(way fence:Int)(es:List Bool)(gs:List (List (Option Nat)))(x y:Option D):En:=
 [some (penD ns k l),some (.int W),some (.int mo),some (.int S),some (.int way),some (.int fence),some (.list (es.map .bool)),some (.list (gs.map ax)),x,y]
def nF(fence:Int):Option Nat->Option Nat
 |some j=>if fence<=(j:Int)then none else some j
 |none=>none
def AR(fence:Int):D->D
 |.int j=>if fence<=j then .none else .int j
 |_=>.none
def Kv(o:Option Nat):AR fence (goD o)=goD (nF fence o):=by
 cases o with
 |none=>rfl
 |some j=>
  show(if fence<=(j:Int)then PyData.none else .int j)=goD (if fence<=(j:Int)then none else some j);split<;>rfl
def r9{W:Nat}(hW:W<=12)(hS:S<=60)(h0:0<=k)(h1:k<=9000)(h2:0<=l):
  ∃(r:List (Option Nat)) (k' l':Int),eLC false (bC (ac (aa 1) ah)) (gN 0) cY (am bZ (aB 1 (ac (aa 4) (ac (aa 2) (ac (aa 3) ah))))) [none,some 0,some 3,some 4,some 8] (mEn mo ns k l W S way fence es gs (some (.int i)) y)
   = some (ax r,mEn mo ns k' l' W S way fence es gs (some (.int i)) y)/\kH S W r/\k<=k'/\k'<=k+12/\0<=l':=by
 have hl:((List.range W).map fun k=>PyData.int (0+(k:Nat))).length=W:=by rw[zad,zbf]
 obtain⟨us,ex,e1,⟨o,k',l',rfl,q1,q2,q3⟩,a⟩:=vg (N:=W) (g:=gN 0) (c:=cY) (f:=am bZ (aB 1 (ac (aa 4) (ac (aa 2) (ac (aa 3) ah)))))
  (fun n en=>∃o k' l',en=[o,some (penD ns k' l'),some (.int S),some (.int way),some (.int i)]/\k<=k'/\k'<=k+n/\0<=l') (fun _ q=>∃o,q=goD o/\∀j,o=some j->j<S)
  (fun n t en hn ⟨o,k',l',he,q1,q2,q3⟩=>by
   subst he;obtain⟨o',k2,l2,e,p1,p2,p3,p4⟩:=Ez (ns:=ns) (k:=k') (l:=l') (way:=way) (i:=i) (S:=S) hS (by omega) (by omega) q3;exact⟨[some t,some (penD ns k' l'),some (.int S),some (.int way),some (.int i)],[some t,some (penD ns k' l'),some (.int S),some (.int way),some (.int i)],goD o',[some t,some (penD ns k2 l2),some (.int S),some (.int way),some (.int i)],rfl,rfl,mL (as:=[.inr 1,.inl (.int i),.inl (.int S),.inl (.int way)]) rfl rfl e rfl,⟨some t,k2,l2,rfl,by omega,by omega,p4⟩,⟨o',rfl,p1⟩⟩)
  ((List.range W).map fun k=>.int (0+(k:Nat))) [] 0 (cI [none,some 0,some 3,some 4,some 8] (mEn mo ns k l W S way fence es gs (some (.int i)) y)) ⟨none,k,l,rfl,Int.le_refl _,by omega,h2⟩ (by rw[hl];omega) (by rw[hl];show 0+W<=_;exact zau (by omega) dH)
 obtain⟨os,rfl,o1,o2⟩:=a.ex;rw[hl]at o1 q2;refine⟨os,k',l',Dz (vx (n:=W) rfl (by omega)) e1 rfl,⟨o1,o2⟩,q1,by omega,q3⟩
def Ew(h0:0<=j)(h1:j<n):ixN n j=some j.toNat:=by
 unfold ixN;rw[if_pos h0,if_pos h1]
def io(h:i<n):ixN n (i:Int)=some i:=by
 have e:=Ew (n:=n) (j:=(i:Int)) (Int.natCast_nonneg i) (Int.ofNat_lt.mpr h);rw[zaL]at e;exact e
def FA{W:Nat}(hr:kH S W r)(hW:W<=12):
  eLC true (bt (aa 9)) (gN 0) cY (e2 ixA (bh (ac (aa 0) (ac (eC .none) ah))) (eN lq (ac (eOr (e2 isN (aa 0) (eC .none)) (e2 geI (aa 0) (aa 1))) ah))) [none,some 5] (mEn mo ns k l W S way fence es gs (some (.int i)) (some (ax r)))
   = some (ax (r.map (nF fence)),mEn mo ns k l W S way fence es gs (some (.int i)) (some (ax r))):=by
 obtain⟨o',e⟩:=ve (F:=AR fence) (rest:=[some (.int fence)]) (f:=e2 ixA (bh (ac (aa 0) (ac (eC .none) ah))) (eN lq (ac (eOr (e2 isN (aa 0) (eC .none)) (e2 geI (aa 0) (aa 1))) ah))) (r.map goD) [] none (fun t ht=>by
  obtain⟨o,ho,rfl⟩:=zaz.mp ht;have l2:bh (ac (aa 0) (ac (eC .none) ah)) [some (goD o),some (.int fence)]=some (.list [goD o,.none],[some (goD o),some (.int fence)]):=tD rfl rfl (zau (by show 2<=100;decide) dH);cases o with
  |none=>exact br l2 (t2:=.int 1) rfl rfl
  |some j=>
   by_cases hf:fence<=(j:Int)
   ·refine br l2 (t2:=.int 1) ?_ (show _=some (if fence<=(j:Int)then PyData.none else .int j)by rw[if_pos hf];rfl);show some (PyData.int (if decide (fence<=(j:Int))then 1 else 0),_)=_;rw[zaB hf];rfl
   ·refine br l2 (t2:=.int 0) ?_ (show _=some (if fence<=(j:Int)then PyData.none else .int j)by rw[if_neg hf];rfl);show some (PyData.int (if decide (fence<=(j:Int))then 1 else 0),_)=_;rw[zaA hf];rfl) (by rw[zad,hr.1];exact zau (by show 0+W<=100;omega) dH)
 have em:(r.map goD).map (AR fence)=(r.map (nF fence)).map goD:=by
  rw[zaR,zaR];exact zbx fun o _=>Kv o
 rw[em]at e;exact Dz (en1:=mEn mo ns k l W S way fence es gs (some (.int i)) (some (ax r))) rfl e rfl
def Ku{W:Nat}(hr:kH S W r):kH S W (r.map (nF fence)):=by
 refine⟨by rw[zad,hr.1],fun o ho j hj=>?_⟩;obtain⟨o',h1,h2⟩:=zaz.mp ho;cases o' with
 |none=>rw[hj]at h2;cases h2
 |some j'=>
  rw[hj]at h2;have h3:(if fence<=(j':Int)then none else some j')=some j:=h2;split at h3
  ·cases h3
  ·cases h3;exact hr.2 _ h1 _ rfl
def Dh:MS:=(aj (bI (cc 6 (e2 eqD (am ar (aB 0 (ac (eC (.int 3)) ah))) (eC (.int 0)))))
 (aj (ao 9 (eLC false (bC (ac (aa 1) ah)) (gN 0) cY (am bZ (aB 1 (ac (aa 4) (ac (aa 2) (ac (aa 3) ah))))) [none,some 0,some 3,some 4,some 8]))
 (aj (sIf (cA (tV (e2 eqD (aa 4) (eC (.int 2)))) (tV (e2 ltI (aa 8) (aa 5)))) (aj (cE 6 (aa 8) (eC (.bool false)))
 (ao 9 (eLC true (bt (aa 9)) (gN 0) cY (e2 ixA (bh (ac (aa 0) (ac (eC .none) ah))) (eN lq (ac (eOr (e2 isN (aa 0) (eC .none)) (e2 geI (aa 0) (aa 1))) ah))) [none,some 5]))) aS)
 (bI (cc 7 (aa 9))))))
def FH{W:Nat}(hW:W<=12)(hS:S<=60)(hi:i<60)(h0:0<=k)(h1:k<=8000)(h2:0<=l)(he:es.length=i)(hg:gs.length=i):
  ∃(b:Bool) (r:List (Option Nat)) (k' l':Int) (y':Option D),Dh (mEn mo ns k l W S way fence es gs (some (.int i)) y)=some (.nx (mEn mo ns k' l' W S way fence (es++[b]) (gs++[r]) (some (.int i)) y'))/\kH S W r/\k<=k'/\k'<=k+13/\0<=l':=by
 obtain⟨r1,k1,l1,e1,a1,a2,a3,a4,a5⟩:=fU (ns:=ns) (k:=k) (l:=l) (m:=3) (i:=0) (en:=mEn mo ns k l W S way fence es gs (some (.int i)) y) (fa:=aB 0 (ac (eC (.int 3)) ah)) rfl rfl h0 (by omega) h2 (by decide) (by decide);have lm:(es.map PyData.bool).length<sizeLine:=by rw[zad,he];exact zag (by omega) dH
 have s1:bI (cc 6 (e2 eqD (am ar (aB 0 (ac (eC (.int 3)) ah))) (eC (.int 0)))) (mEn mo ns k l W S way fence es gs (some (.int i)) y)=some (.nx (mEn mo ns k1 l1 W S way fence (es++[r1==0]) gs (some (.int i)) y)):=by
  refine yG (yH (us:=es.map .bool) (en1:=mEn mo ns k1 l1 W S way fence es gs (some (.int i)) y) rfl (br (t2:=.int 0) e1 rfl rfl) rfl lm ?_);unfold mEn;rw[zaC];rfl
 obtain⟨r,k2,l2,e2',hr,b3,b4,b5⟩:=r9 (mo:=mo) (ns:=ns) (k:=k1) (l:=l1) (way:=way) (fence:=fence) (W:=W) (S:=S) (i:=i) (es:=es++[r1==0]) (gs:=gs) (y:=y) hW hS (by omega) (by omega) a5;have s2:ao 9 (eLC false (bC (ac (aa 1) ah)) (gN 0) cY (am bZ (aB 1 (ac (aa 4) (ac (aa 2) (ac (aa 3) ah))))) [none,some 0,some 3,some 4,some 8]) (mEn mo ns k1 l1 W S way fence (es++[r1==0]) gs (some (.int i)) y)=some (.nx (mEn mo ns k2 l2 W S way fence (es++[r1==0]) gs (some (.int i)) (some (ax r)))):=cG e2' rfl;have s4:∀(es':List Bool) (r':List (Option Nat)),bI (cc 7 (aa 9)) (mEn mo ns k2 l2 W S way fence es' gs (some (.int i)) (some (ax r')))=some (.nx (mEn mo ns k2 l2 W S way fence es' (gs++[r']) (some (.int i)) (some (ax r')))):=by
  intro es' r';refine yG (yH (us:=gs.map ax) (en1:=mEn mo ns k2 l2 W S way fence es' gs (some (.int i)) (some (ax r'))) rfl rfl rfl (by rw[zad,hg];exact zag (by omega) dH) ?_);unfold mEn;rw[zaC];rfl
 have c1:tV (e2 eqD (aa 4) (eC (.int 2))) (mEn mo ns k2 l2 W S way fence (es++[r1==0]) gs (some (.int i)) (some (ax r)))=some (way==2,mEn mo ns k2 l2 W S way fence (es++[r1==0]) gs (some (.int i)) (some (ax r))):=rfl;have c2:tV (e2 ltI (aa 8) (aa 5)) (mEn mo ns k2 l2 W S way fence (es++[r1==0]) gs (some (.int i)) (some (ax r)))=some (decide ((i:Int)<fence),mEn mo ns k2 l2 W S way fence (es++[r1==0]) gs (some (.int i)) (some (ax r))):=rfl;obtain⟨b,cb⟩:∃b,cA (tV (e2 eqD (aa 4) (eC (.int 2)))) (tV (e2 ltI (aa 8) (aa 5))) (mEn mo ns k2 l2 W S way fence (es++[r1==0]) gs (some (.int i)) (some (ax r)))=some (b,mEn mo ns k2 l2 W S way fence (es++[r1==0]) gs (some (.int i)) (some (ax r))):=by
  cases q1:(way==2)with
  |true=>exact⟨_,vy c1 q1 c2⟩
  |false=>exact⟨_,vz c1 q1⟩
 cases b with
 |false=>exact⟨r1==0,r,k2,l2,_,aI s1 (aI s2 (aI (lD cb rfl rfl) (s4 _ _))),hr,by omega,by omega,b5⟩
 |true=>
  refine⟨false,r.map (nF fence),k2,l2,some (ax (r.map (nF fence))),aI s1 (aI s2 (aI (en1:=mEn mo ns k2 l2 W S way fence (es++[false]) gs (some (.int i)) (some (ax (r.map (nF fence))))) (fF cb rfl (aI (en1:=mEn mo ns k2 l2 W S way fence (es++[false]) gs (some (.int i)) (some (ax r))) ?_ (cG (FA hr hW) rfl))) (s4 _ _))),Ku hr,by omega,by omega,b5⟩;have ix:ixN ((es++[r1==0]).map PyData.bool).length (i:Int)=some i:=io (by rw[zad,zae,he];exact zaJ _);have st:((es++[r1==0]).map PyData.bool).set i (.bool false)=(es++[false]).map PyData.bool:=by
   have e:(es++[r1==0]).set i false=es++[false]:=by
    rw[List.set_append_right _ _ (by omega),he,Nat.sub_self];rfl
   rw[<-e,List.map_set]
  show((ixN ((es++[r1==0]).map PyData.bool).length (i:Int)).map fun k=>Fl.nx ((mEn mo ns k2 l2 W S way fence (es++[r1==0]) gs (some (.int i)) (some (ax r))).set 6 (some (.list (((es++[r1==0]).map PyData.bool).set k (.bool false))))))=_;rw[ix];show some (Fl.nx ((mEn mo ns k2 l2 W S way fence (es++[r1==0]) gs (some (.int i)) (some (ax r))).set 6 (some (.list (((es++[r1==0]).map PyData.bool).set i (.bool false))))))=_;rw[st];rfl
def Ej{W:Nat}(mo1:1<=mo)(mo2:mo<=40)(hW:W<=12)(h0:0<=k)(h1:k<=1000)(h2:0<=l):
  ∃(es:List Bool) (gs:List (List (Option Nat))) (k' l':Int),bA [penD ns k l,.int W,.int mo]=some (L9 es gs,[some (penD ns k' l'),none,none])/\1<=es.length/\(es.length:Int)<=mo/\gs.length=es.length/\(∀r∈gs,kH es.length W r)/\k<=k'/\k'<=k+600/\0<=l':=by
 obtain⟨r1,k1,l1,e1,a1,a2,a3,a4,a5⟩:=fU (ns:=ns) (k:=k) (l:=l) (m:=mo) (i:=0) (en:=[some (penD ns k l),some (.int W),some (.int mo),none,none,none,none,none,none,none]) (fa:=aB 0 (ac (aa 2) ah)) rfl rfl h0 (by omega) h2 (by omega) (by omega);obtain⟨S,hS⟩:∃S:Nat,(S:Int)=1+r1:=⟨(1+r1).toNat,by omega⟩;obtain⟨way,k2,l2,e2',b1,b2,b3,b4,b5⟩:=fU (ns:=ns) (k:=k1) (l:=l1) (m:=4) (i:=0) (en:=[some (penD ns k1 l1),some (.int W),some (.int mo),some (.int S),none,none,none,none,none,none]) (fa:=aB 0 (ac (eC (.int 4)) ah)) rfl rfl (by omega) (by omega) a5 (by decide) (by decide);obtain⟨r3,k3,l3,e3,c1,c2,c3,c4,c5⟩:=fU (ns:=ns) (k:=k2) (l:=l2) (m:=S) (i:=0) (en:=[some (penD ns k2 l2),some (.int W),some (.int mo),some (.int S),some (.int way),none,none,none,none,none]) (fa:=aB 0 (ac (aa 3) ah)) rfl rfl (by omega) (by omega) b5 (by omega) (by omega);have hl:((List.range S).map fun k=>PyData.int (0+(k:Nat))).length=S:=by rw[zad,zbf]
 obtain⟨en',e4,es,gs,k',l',x,y,rfl,d1,d2,d3,d4,d5,d6⟩:=Az (g:=gN 8) (b:=Dh) (ts:=(List.range S).map fun k=>.int (0+(k:Nat)))
  (fun i en=>∃es gs k' l' x y,en=mEn mo ns k' l' W S way (1+r3) es gs x y/\es.length=i/\gs.length=i/\(∀r∈gs,kH S W r)/\k3<=k'/\k'<=k3+13*i/\0<=l')
  (fun i t en ht z=>by
   obtain⟨es,gs,k',l',x,y,hen,d1,d2,d3,d4,d5,d6⟩:=z;subst hen;have hi:i<S:=by have:=(zah.mp ht).1;rw[hl]at this;exact this
   have et:t=.int i:=by
    rw[zao,zby hi]at ht;injection ht with ht
    rw[<-ht];show PyData.int (0+(i:Int))=_;rw[zbU]
   subst et;obtain⟨b,r,k4,l4,y',f1,f2,f3,f4,f5⟩:=FH (mo:=mo) (ns:=ns) (k:=k') (l:=l') (way:=way) (fence:=1+r3) (W:=W) (S:=S) (i:=i) (es:=es) (gs:=gs) (y:=y) hW (by omega) (by omega) (by omega) (by omega) d6 d1 d2;refine⟨mEn mo ns k' l' W S way (1+r3) es gs (some (.int i)) y,_,rfl,.inl f1,es++[b],gs++[r],k4,l4,some (.int i),y',rfl,by rw[zae,d1];rfl,by rw[zae,d2];rfl,fun q hq=>?_,by omega,by omega,f5⟩;rcases zax.mp hq with hq|hq
   ·exact d3 q hq
   ·rw[zaH.mp hq];exact f2)
  (en:=mEn mo ns k3 l3 W S way (1+r3) [] [] none none) ⟨[],[],k3,l3,none,none,rfl,rfl,rfl,fun _ z=>(by cases z),Int.le_refl _,by omega,c5⟩
 rw[hl]at d1 d2 d5;refine⟨es,gs,k',l',?_,by omega,by omega,by omega,by rw[d1];exact d3,by omega,by omega,d6⟩;have l0:∀{en:En},bh ah en=some (.list [],en):=fun {en}=>tD rfl rfl (zbk _);refine eQ (b:=ff) (en:=mEn mo ns k' l' W S way (1+r3) es gs x y)
  (aI (en1:=[some (penD ns k1 l1),some (.int W),some (.int mo),some (.int S),none,none,none,none,none,none]) (cG (br rfl e1 (show _=some (PyData.int S)by rw[hS];rfl)) rfl)
  (aI (en1:=[some (penD ns k2 l2),some (.int W),some (.int mo),some (.int S),some (.int way),none,none,none,none,none]) (cG e2' rfl)
  (aI (en1:=[some (penD ns k3 l3),some (.int W),some (.int mo),some (.int S),some (.int way),some (.int (1+r3)),none,none,none,none]) (cG (br rfl e3 rfl) rfl)
  (aI (en1:=[some (penD ns k3 l3),some (.int W),some (.int mo),some (.int S),some (.int way),some (.int (1+r3)),some (.list []),none,none,none]) (cG l0 rfl)
  (aI (en1:=[some (penD ns k3 l3),some (.int W),some (.int mo),some (.int S),some (.int way),some (.int (1+r3)),some (.list []),some (.list []),none,none]) (cG l0 rfl)
  (aI (Kl (vx (n:=S) rfl (by omega)) e4) (oQ (Kj rfl rfl (zau (by show 2<=100;decide) dH)))))))))
def L8(v:List Int):D->Option Int
 |.int j=>some (v.getD j.toNat 0)
 |_=>none
def rsD(v:List Int):D->Int
 |.list xs=>(xs.filterMap (L8 v)).sum
 |_=>0
def nxt(gs:List (List (Option Nat)))(v:List Int):List Int:=gs.map fun r=>rsD v (ax r)
def base(es:List Bool):List Int:=es.map fun b=>if b then 1 else 0
def it(gs:List (List (Option Nat)))(v:List Int):Nat->List Int
 |0=>v
 |n+1=>nxt gs (it gs v n)
end Mch
set_option maxHeartbeats 1000000
namespace W25
variable{i N z j n:Nat}{w:Option Nat}
open PySem L2 Mch
def gm{α β:Type}{f:α->β}{l:List α}{t:β}(h:(l.map f)[i]?=some t):∃a,l[i]?=some a/\f a=t:=by
 rw[zao]at h;exact zab.mp h
def tk{α:Type}{l:List α}{s:α}(h:l[i]?=some s):l.take (i+1)=l.take i++[s]:=by
 rw[List.take_succ,h];rfl
def _root_.L2.W.ue{α:Type}{x:Option α}{a:α}{Q:α->Prop}(h:W x fun r=>r=a)(k:Q a):W x Q:=h.use fun _ e=>by
 rw[e];exact k
abbrev Gr:=List (List (Option Nat))
structure Ent where
 k:Nat
 p:Option (Nat×Nat)
 r:List Nat
variable{T:List Ent}{e:Ent}
abbrev keys(T:List Ent):List Nat:=T.map (·.k)
def stp(e:Ent)(T:List Ent)(i:Nat):Option Nat->List Ent
 |none=>T
 |some k=>if k∈keys T then T else T++[⟨k,some (e.k,i),e.r++[i]⟩]
def fol(e:Ent):List Ent->Nat->List (Option Nat)->List Ent
 |T,_,[]=>T
 |T,i,w::r=>fol e (stp e T i w) (i+1) r
theorem sW(e:Ent):∀(l:List (Option Nat)) (T:List Ent) (j:Nat) (w:Option Nat),fol e T j (l++[w])=stp e (fol e T j l) (j+l.length) w
 |[],T,j,w=>rfl
 |x::l,T,j,w=>by
  show fol e (stp e T j x) (j+1) (l++[w])=stp e (fol e (stp e T j x) (j+1) l) _ w;rw[sW e l];congr 1;show j+1+l.length=j+(l.length+1);omega
def fS(G:Gr)(T:List Ent)(n:Nat):List Ent:=match T[n]? with
 |some e=>fol e T 0 ((G[e.k]?).getD [])
 |none=>T
def TT(G:Gr)(z:Nat):Nat->List Ent
 |0=>[⟨z,none,[]⟩]
 |n+1=>fS G (TT G z n) n
structure TOk(N z:Nat)(T:List Ent):Prop where
 nd:(keys T).Nodup
 lt:∀e∈T,e.k<N
 h0:T[0]?=some ⟨z,none,[]⟩
 par:∀(i:Nat) (e:Ent),T[i]?=some e->(e.p=none/\e.r=[])\/∃(j:Nat) (f:Ent) (s:Nat),j<i/\T[j]?=some f/\e.p=some (f.k,s)/\e.r=f.r++[s]
 rl:∀(i:Nat) (e:Ent),T[i]?=some e->e.r.length<=i
theorem ck:∀{cs A:List Nat},cs.Nodup->(∀c∈cs,c∈A)->cs.length<=A.length
 |[],_,_,_=>zbk _
 |c::cs,A,nd,h=>by
  have hc:=h c zaq;obtain⟨n1,n2⟩:=zbc.mp nd;have ih:=ck (A:=A.erase c) n2 fun x hx=>(List.mem_erase_of_ne (fun z:x=c=>n1 (by rw[<-z];exact hx))).mpr (h x (zaj _ hx));rw[List.length_erase_of_mem hc]at ih
  have:=List.length_pos_of_mem hc;rw[zac];omega
def TOk.len(t:TOk N z T):T.length<=N:=by
 have:=ck (A:=List.range N) t.nd fun c hc=>by
  obtain⟨e,he,rfl⟩:=zaz.mp hc;exact zbs.mpr (t.lt e he)
 rwa[zbf,zad]at this
def HR(t:TOk N z T)(he:T[j]?=some e)(hw:∀k,w=some k->k<N):TOk N z (stp e T i w):=by
 cases w with
 |none=>exact t
 |some k=>
  show TOk N z (if k∈keys T then T else T++[⟨k,some (e.k,i),e.r++[i]⟩]);by_cases hk:k∈keys T
  ·rw[if_pos hk];exact t
  ·rw[if_neg hk];have hj:=(zah.mp he).1;refine⟨?_,fun f hf=>?_,?_,fun m f hm=>?_,fun m f hm=>?_⟩
   ·show(List.map _ (T++_)).Nodup;rw[zaC,zbd];exact⟨t.nd,by simp,fun a ha b hb z=>hk (by
     have hb':b=k:=zaH.mp hb;rw[<-hb',<-z];exact ha)⟩
   ·rcases zax.mp hf with hf|hf
    ·exact t.lt f hf
    ·rw[zaH.mp hf];exact hw k rfl
   ·rw[zaS (by omega)];exact t.h0
   ·by_cases hm':m<T.length
    ·rw[zaS hm']at hm;rcases t.par m f hm with h|⟨j',g,s,h1,h2,h3⟩
     ·exact .inl h
     ·exact .inr ⟨j',g,s,h1,by rw[zaS (by omega)];exact h2,h3⟩
    ·rw[zbL (by omega)]at hm;have em:m-T.length=0:=by
      have:=(zah.mp hm).1;simp at this;omega
     rw[em]at hm;cases hm;exact .inr ⟨j,e,i,by omega,by rw[zaS hj];exact he,rfl,rfl⟩
   ·by_cases hm':m<T.length
    ·rw[zaS hm']at hm;exact t.rl m f hm
    ·rw[zbL (by omega)]at hm;have em:m-T.length=0:=by
      have:=(zah.mp hm).1;simp at this;omega
     rw[em]at hm;cases hm
     have:=t.rl j e he;show(e.r++[i]).length<=m;rw[zae];show e.r.length+1<=m;omega
def uQ{f:Ent}(h:T[j]?=some f):(stp e T i w)[j]?=some f:=by
 cases w with
 |none=>exact h
 |some k=>
  show(if k∈keys T then T else T++[(⟨k,some (e.k,i),e.r++[i]⟩:Ent)])[j]?=some f;split
  ·exact h
  ·rw[zaS (zah.mp h).1];exact h
theorem oI{N z:Nat}{e:Ent}{j:Nat}:∀(r:List (Option Nat)) {T:List Ent} {i:Nat},TOk N z T->T[j]?=some e->(∀k,some k∈r->k<N)->TOk N z (fol e T i r)/\(fol e T i r)[j]?=some e
 |[],T,i,t,he,_=>⟨t,he⟩
 |w::r,T,i,t,he,hw=>oI r (HR t he fun k z=>hw k (by rw[z];exact zaq)) (uQ he) fun k z=>hw k (zaj _ z)
structure GOk(G:Gr):Prop where
 n1:1<=G.length
 n:G.length<=1000
 w:∀r∈G,r.length<=12
 lt:∀r∈G,∀k,some k∈r->k<G.length
theorem je{G:Gr}{z:Nat}(g:GOk G)(hz:z<G.length):∀n,TOk G.length z (TT G z n)
 |0=>by
  have:=g.n1;refine⟨by simp[TT,keys],fun e he=>?_,rfl,fun i e he=>?_,fun i e he=>?_⟩
  ·rw[show TT G z 0=[⟨z,none,[]⟩]from rfl]at he;rw[zaH.mp he];exact hz
  ·cases i with
   |zero=>cases he;exact .inl ⟨rfl,rfl⟩
   |succ i=>simp[TT]at he
  ·cases i with
   |zero=>cases he;exact zbk _
   |succ i=>simp[TT]at he
 |n+1=>by
  have ih:=je g hz n;show TOk _ z (fS G (TT G z n) n);unfold fS;cases h:(TT G z n)[n]? with
  |none=>exact ih
  |some e=>
   have hk:=ih.lt e (zaX h);refine(oI _ ih h fun k hk'=>?_).1;rw[zak hk]at hk';exact g.lt _ (zaK hk) k hk'
theorem vH{G:Gr}{z n:Nat}(h:(TT G z n).length<=n):∀m,TT G z (n+m)=TT G z n
 |0=>rfl
 |m+1=>by
  show fS G (TT G z (n+m)) (n+m)=_;rw[vH h m];unfold fS;rw[zbm (by omega)]
def KF{G:Gr}(g:GOk G)(hz:z<G.length)(h:(TT G z n).length<=n)(h2:n<=(TT G z n).length):TT G z n=TT G z G.length:=by
 have:=(je g hz n).len;rw[<-vH h (G.length-n)];congr 1;omega
def iD(k:Nat):D:=.int (k:Int)
def nD(l:List Nat):D:=.list (l.map iD)
def iz:Option (Nat×Nat)->D
 |none=>.none
 |some (h,s)=>.tuple [iD h,iD s]
def kvf(f:Ent->D)(e:Ent):D×D:=(iD e.k,f e)
def Kq(f:Ent->D)(T:List Ent):D:=.dict (T.map (kvf f))
def mG(a b:Nat):kEq (iD a) (iD b)=decide (a=b):=by
 show((a:Int)==(b:Int))=_;rw[Bool.eq_iff_iff,beq_iff_eq,zbj];omega
def IK(f:Ent->D)(T:List Ent):noT (T.map (kvf f))=true:=by
 cases T<;>rfl
def vv(f:Ent->D)(T:List Ent)(k:Nat):((T.map (kvf f)).find? fun q=>kEq q.1 (iD k)).isSome=decide (k∈keys T):=by
 induction T with
 |nil=>rfl
 |cons a T ih=>
  rw[zar,zbp];show(match kEq (iD a.k) (iD k)with|true=>some (kvf f a)|false=>_).isSome=decide (k∈a.k::keys T);rw[mG];by_cases h:a.k=k
  ·subst h;simp
  ·simp only[h,decide_false];rw[ih];simp[Ne.symm h]
def IL(f:Ent->D)(T:List Ent)(k:Nat):cH (iD k) (Kq f T)=some (.bool (!decide (k∈keys T))):=by
 show(if noT (T.map (kvf f))=true then some (PyData.bool (!(aJ (T.map (kvf f)) (iD k)).isSome))else none)=_;rw[if_pos (IK f T)];unfold aJ;rw[Option.isSome_map,vv]
def KA(f:Ent->D)(T:List Ent)(k:Nat):((T.map (kvf f)).any fun q=>kEq q.1 (iD k))=decide (k∈keys T):=by
 rw[<-vv f]
 induction T with
 |nil=>rfl
 |cons a T ih=>
  rw[zar,List.any_cons,zbp,ih];cases kEq (kvf f a).1 (iD k)<;>simp
def Ir{f:Ent->D}{k:Nat}(h:k∉keys T)(v:D):cz (T.map (kvf f)) (iD k) v=T.map (kvf f)++[(iD k,v)]:=by
 unfold cz;rw[if_neg (by rw[KA];simpa using h)]
theorem vd{f:Ent->D}:∀{T:List Ent} {i:Nat} {e:Ent},(keys T).Nodup->T[i]?=some e->aJ (T.map (kvf f)) (iD e.k)=some (f e)
 |[],i,e,_,h=>by simp at h
 |a::T,0,e,_,h=>by
  cases h;unfold aJ;rw[zar,zbp];show Option.map _ (match kEq (iD a.k) (iD a.k)with|true=>some (kvf f a)|false=>_)=_;rw[mG,zaB rfl];rfl
 |a::T,i+1,e,nd,h=>by
  have h':T[i]?=some e:=by simpa using h
  have nd':=zbc.mp (show(a.k::keys T).Nodup from nd);have ne:a.k≠e.k:=fun z=>nd'.1 (by rw[z];exact List.mem_map_of_mem (zaX h'));have ih:=vd (f:=f) nd'.2 h';unfold aJ at ih ⊢;rw[zar,zbp];show Option.map _ (match kEq (iD a.k) (iD e.k)with|true=>some (kvf f a)|false=>_)=_;rw[mG,zaA ne];exact ih
def szB(h:n<=100000):n<=sizeLine:=zau h (by decide)
def dg(h:n<100000):n<sizeLine:=zag h (by decide)
def fW(T:List Ent):D:=Kq (fun e=>iz e.p) T
def ahD(T:List Ent):D:=nD (keys T)
def Aa(T:List Ent)(e:Ent):nD (keys (T++[e]))=.list ((keys T).map iD++[iD e.k]):=by
 show PyData.list _=_;rw[show keys (T++[e])=keys T++[e.k]from zaC,zaC];rfl
end W25
namespace L2
variable{i:Nat}{fk fe f:ME}{en:En}{Q:List Nat×En->Prop}{mp:MP}
open PySem PySem.Spec PyProof.Rows
def iL{Q:Fl->Prop}(h:W (fe en) (fun r=>(∃u,(r.2[i]?).join=some u)/\W (fk r.2) (fun q=>∃ks,(q.2[i]?).join=some (.dict ks)/\(kOf q.1).isSome=true/\ks.length<sizeLine/\Q (.nx (q.2.set i (some (.dict (cz ks q.1 r.1)))))))):W (bo i fk fe en) Q:=by
 unfold bo;rw[aq];refine W.use h ?_;rintro r ⟨⟨u,hu⟩,h2⟩;rw[hu];show W ((fk r.2).bind _) Q;rw[aq];refine W.use h2 ?_;rintro q ⟨ks,h3,h4,h5,h6⟩;rw[h3];show W ((kOf q.1).bind _) Q;obtain⟨k,hk⟩:=Option.isSome_iff_exists.mp h4;rw[hk];show W (if ks.length<sizeLine then _ else none) Q;rw[if_pos h5];exact⟨_,rfl,h6⟩
def tS{Q:D×En->Prop}(h:W (mp en) (fun r=>∃t ts,(r.2[i]?).join=some t/\bu t r.1=some (.list ts)/\W (f r.2) (fun q=>ts.length<sizeLine/\Q (.none,q.2.set i (some (bN t r.1 (.list (ts++[q.1])))))))):W (gj i mp f en) Q:=by
 unfold gj;rw[aq];refine W.use h ?_;rintro r ⟨t,ts,h1,h2,h3⟩;rw[h1];show W ((bu t r.1).bind _) Q;rw[h2];show W ((f r.2).bind _) Q;rw[aq];refine W.use h3 ?_;rintro q ⟨h4,h5⟩;rw[if_pos h4];exact⟨_,rfl,h5⟩
def mM(h:W (mp en) (fun r=>W (f r.2) (fun q=>∃n t ts k,q.1=.int n/\(q.2[i]?).join=some t/\(bu t r.1=some (.list ts)\/bu t r.1=some (.tuple ts))/\ixN ts.length n=some k/\k<ts.length/\Q (r.1++[k],q.2)))):W (pIx i mp f en) Q:=by
 unfold pIx;rw[aq];refine W.use h fun r h2=>?_;rw[aq];refine W.use h2 ?_;rintro q ⟨n,t,ts,k,h3,h4,h5,h6,h7,h8⟩;rw[h3,h4];show W ((bu t r.1).bind _) Q;rcases h5 with h5|h5<;>rw[h5]<;>show W ((ixN ts.length n).bind _) Q<;>rw[h6]<;>show W (if k<ts.length then _ else none) Q<;>rw[if_pos h7]<;>exact⟨_,rfl,h8⟩
def jN{t:D}(h:(en[i]?).join=some t)(hq:Q ([],en)):W (fR i en) Q:=by
 unfold fR;rw[h];exact⟨_,rfl,hq⟩
def KB{Q:Fl->Prop}(h:W (fe en) (fun r=>W (mp r.2) (fun w=>W (fk w.2) (fun q=>∃n t ts k,q.1=.int n/\(q.2[i]?).join=some t/\bu t w.1=some (.list ts)/\ixN ts.length n=some k/\Q (.nx (q.2.set i (some (bN t w.1 (.list (ts.set k r.1)))))))))):W (j2 i mp fk fe en) Q:=by
 unfold j2;rw[aq];refine W.use h fun r h1=>?_;rw[aq];refine W.use h1 fun w h2=>?_;rw[aq];refine W.use h2 ?_;rintro q ⟨n,t,ts,k,e1,e2,e3,e4,hq⟩;rw[e1,e2];show W ((bu t w.1).bind _) Q;rw[e3];show W ((ixN ts.length n).map _) Q;rw[e4];exact⟨_,rfl,hq⟩
def LY{kp:Bool}{ks:List (D×D)}{Q:List D×En->Prop}(h:(en[i]?).join=some (.dict ks))(hq:Q (kys ks,if kp then en else en.set i none)):W (iDk kp i en) Q:=by
 unfold iDk;rw[h];exact⟨_,rfl,hq⟩
def yS{fa:MA}{en1:En}{ts us:List D}{Q:List D×En->Prop}(h:W (fa en) (fun r=>(r=([.inl (.list ts),.inl (.list us)],en1)\/r=([.inl (.tuple ts),.inl (.tuple us)],en1))/\Q (eJ ts us,en1))):W (oF fa en) Q:=by
 unfold oF;rw[aq];refine W.use h ?_;rintro _ ⟨rfl|rfl,hq⟩<;>exact⟨_,rfl,hq⟩
end L2
namespace W25
noncomputable section
variable{N z n i s t k h W0 j:Nat}{T:List Ent}{e:Ent}{r:List (Option Nat)}{x0 x1 x4 o7 x3 x5 x2 x6 m:Option D}{P:Fl->Prop}{G:Gr}{es:List Bool}{l S b K Dn E:List Nat}{Q:List Nat->Prop}{B:List (List Nat)}{f:Nat->Option Nat}{en:En}{g:Nat->Nat}{ts:List D}
open PySem L2 Mch
def u6(T:List Ent)(k:Nat):cH (.int (k:Int)) (fW T)=some (.bool (!decide (k∈keys T))):=IL _ _ _
def FF(T:List Ent)(k h s:Nat)(r:List Nat):fW (T++[⟨k,some (h,s),r⟩])=.dict (T.map (kvf fun e=>iz e.p)++[(iD k,.tuple [iD h,iD s])]):=by
 show PyData.dict _=_;rw[zaC];rfl
def wO(t:TOk N z T)(hN:N<=1000)(he:T[n]?=some e)(hr:∀k,some k∈r->k<N){o6:Option D} 
  (hP:∀o6 o7,P (.nx [x0,x1,some (fW (fol e T 0 r)),some (ahD (fol e T 0 r)),x4,some (.int (e.k:Int)),o6,o7])):
  W (cy (gT (gsC (gN 6) (gsC (gN 7) gs0))) dS (eW (r.map goD)) [x0,x1,some (fW T),some (ahD T),x4,some (.int (e.k:Int)),o6,o7]) P:=by
 refine dq (fun i en=>∃o6 o7,en=[x0,x1,some (fW (fol e T 0 (r.take i))),some (ahD (fol e T 0 (r.take i))),x4,some (.int (e.k:Int)),o6,o7]) ⟨o6,o7,rfl⟩ ?_ ?_
 ·rintro i t' en ht ⟨p6,p7,rfl⟩;obtain⟨u,hu,rfl⟩:=gK ht;obtain⟨w,hw,rfl⟩:=gm hu;have hi:=(zah.mp hw).1;have et:=tk hw;have ef:fol e T 0 (r.take (i+1))=stp e (fol e T 0 (r.take i)) i w:=by
   rw[et,sW,zaE,Nat.min_eq_left (by omega),za4]
  rw[ef];obtain⟨tk,_⟩:=oI (r.take i) (i:=0) t he fun k z=>hr k (List.mem_of_mem_take z);generalize fol e T 0 (r.take i)=Ti at tk;have ln:=tk.len;cases w with
  |none=>
   simp only[ws,dS,goD];exact⟨_,_,rfl⟩
  |some k=>
   by_cases hk:k∈keys Ti
   ·simp only[ws,dS,goD,u6,hk];exact⟨_,_,by rw[show stp e Ti i (some k)=if k∈keys Ti then Ti else _ from rfl,if_pos hk]⟩
   ·simp only[ws,dS,goD,u6,hk];refine iL ?_;simp only[ws];refine⟨⟨_,rfl⟩,_,rfl,rfl,dg (by rw[zad];omega),?_⟩;have ed:cz (Ti.map (kvf fun e=>iz e.p)) (.int (k:Int)) (.tuple [.int (e.k:Int),.int (i:Int)])=Ti.map (kvf fun e=>iz e.p)++[(iD k,.tuple [iD e.k,iD i])]:=Ir hk _;simp only[ws,ed,ahD,nD];have es:stp e Ti i (some k)=Ti++[⟨k,some (e.k,i),e.r++[i]⟩]:=if_neg hk;have e3:=FF Ti k e.k i (e.r++[i]);have e4:PyData.list ((keys (Ti++[⟨k,some (e.k,i),e.r++[i]⟩])).map iD)=.list ((keys Ti).map iD++[.int (k:Int)]):=Aa Ti _;refine⟨dg (by omega),some (.int (i:Int)),some (.int (k:Int)),?_⟩;rw[es,e3,e4]
 ·rintro en ⟨p6,p7,rfl⟩;rw[fw,zad,zaQ];exact hP _ _
def FE(g:GOk G)(hz:z<G.length):W (fN [.list (G.map ax),.int (z:Int)]) (fun r=>r=(fW (TT G z G.length),[none,none])):=by
 have gn:=g.n;simp only[fN,pC,ws];refine W.of (show gi [(eS3 (aa 1),eC .none)] [some (.list (G.map ax)),some (.int (z:Int)),none,none,none,none,none,none]=some (fW (TT G z 0),[some (.list (G.map ax)),some (.int (z:Int)),none,none,none,none,none,none])from rfl) ?_;simp only[ws];refine fY (fun m en=>∃n o5 o6 o7,en=[some (.list (G.map ax)),some (.int (z:Int)),some (fW (TT G z n)),some (ahD (TT G z n)),some (.int (n:Int)),o5,o6,o7]/\n<=(TT G z n).length/\m=G.length-n) ?_ ⟨0,_,_,_,rfl,zbk _,rfl⟩;rintro m en ⟨n,o5,o6,o7,rfl,h1,rfl⟩;have t:=je g hz n;have ln:=t.len;by_cases hn:n<(TT G z n).length
 ·obtain⟨e,he⟩:∃e,(TT G z n)[n]?=some e:=⟨_,zak hn⟩;have hk:=t.lt e (zaX he);obtain⟨r,hr⟩:∃r,G[e.k]?=some r:=⟨_,zak hk⟩;have d1:decide ((n:Int)<((TT G z n).length:Nat))=true:=by
   rw[zbj];omega
  have e1:atI ((keys (TT G z n)).map iD) (n:Int)=some (.int (e.k:Int)):=by
   rw[bK,zao,zao,he];rfl
  have e2:atI (G.map ax) (e.k:Int)=some (.list (r.map goD)):=by rw[bK,zao,hr];rfl
  simp only[ws,iM,mi,ahD,nD,d1,e1,e2];have ci:=wO (x0:=some (.list (G.map ax))) (x1:=some (.int (z:Int))) (x4:=some (.int (n:Int))) (o6:=o6) (o7:=o7) t gn he (g.lt r (zaX hr)) (P:=fun f=>∃o6 o7,f=.nx [some (.list (G.map ax)),some (.int (z:Int)),some (fW (TT G z (n+1))),some (ahD (TT G z (n+1))),some (.int (n:Int)),some (.int (e.k:Int)),o6,o7]) fun p6 p7=>⟨p6,p7,by
   have:TT G z (n+1)=fol e (TT G z n) 0 r:=by
    show fS G (TT G z n) n=_;unfold fS;rw[he];show fol e _ 0 ((G[e.k]?).getD [])=_;rw[hr];rfl
   rw[this]⟩
  refine W.use ci ?_;rintro _ ⟨p6,p7,rfl⟩;simp only[ws];have t':=(je g hz (n+1)).len;have up:n+1<=(TT G z (n+1)).length:=by
   have:TT G z (n+1)=fol e (TT G z n) 0 r:=by
    show fS G (TT G z n) n=_;unfold fS;rw[he];show fol e _ 0 ((G[e.k]?).getD [])=_;rw[hr];rfl
   rw[this]
   have:=(zah.mp (oI r (i:=0) t he (g.lt r (zaX hr))).2).1;omega
  exact⟨G.length-(n+1),by omega,n+1,_,_,_,rfl,up,rfl⟩
 ·have d1:decide ((n:Int)<((TT G z n).length:Nat))=false:=by
   rw[zbq];omega
  simp only[ws,iM,ahD,nD,d1];rw[KF g hz (by omega) h1]
def vo(nd:(keys T).Nodup)(h:T[i]?=some e):lJ (fW T) (.int (e.k:Int))=some (iz e.p):=vd (f:=fun e=>iz e.p) nd h
def r9(t:TOk N z T)(hN:N<=1000)(he:T[i]?=some e):W (jV [fW T,.int (e.k:Int)]) (fun r=>r=(nD e.r,[none,none])):=by
 have tl:=t.len;have il:=(zah.mp he).1;have el:=t.rl i e he;simp only[jV,vL,ws,vo t.nd he];refine fY (fun m en=>∃j f rs,en=[some (fW T),some (.int (e.k:Int)),some (.list (rs.map iD)),some (iz f.p)]/\T[j]?=some f/\e.r=f.r++rs.reverse/\m=j) ?_ ⟨i,e,[],rfl,he,by simp,rfl⟩;rintro m en ⟨j,f,rs,rfl,h1,h2,rfl⟩;have lr:f.r.length+rs.length=e.r.length:=by rw[h2,zae,List.length_reverse]
 rcases t.par m f h1 with⟨p1,p2⟩|⟨j,f',s,p1,p2,p3,p4⟩
 ·rw[p1];have er:rE [.list (rs.map iD)]=some (nD e.r):=by
   show some (PyData.list (rs.map iD).reverse)=_;rw[<-List.map_reverse,h2,p2,List.nil_append];rfl
  simp only[ws,lR,iz,er]
 ·rw[p3];simp only[ws,lR,qV,iz,iD,vo t.nd p2];refine⟨dg (by omega),j,p1,j,f',rs++[s],?_,p2,?_,rfl⟩
  ·rw[zaC];rfl
  ·rw[h2,p4,List.reverse_append,zaD];rfl
def isE(es:List Bool)(e:Ent):Bool:=es.getD e.k false
def LV(h:e.k<es.length):atI (es.map PyData.bool) (e.k:Int)=some (.bool (isE es e)):=by
 unfold isE;rw[bK,zao,zak h,zbi,zak h];rfl
def frD(es:List Bool)(T:List Ent):D:=match T.find? (isE es)with
 |some e=>nD e.r
 |none=>.none
def Ep(T:List Ent):kys (T.map (kvf fun e=>iz e.p))=T.map fun e=>iD e.k:=by
 unfold kys;rw[zaR];rfl
def AD(g:GOk G)(hz:z<G.length)(hes:es.length=G.length):W (fM [.tuple [.list (es.map .bool),.list (G.map ax)],.int (z:Int)]) (fun r=>r=(frD es (TT G z G.length),[none,none])):=by
 have gn:=g.n;have t:=je g hz G.length;simp only[fM,pB,ws];refine W.ue (FE g hz) ?_;simp only[ws];generalize TT G z G.length=T at t;refine LY (ks:=T.map (kvf fun e=>iz e.p)) rfl ?_;rw[Ep];simp only[ws,if_true];refine dq (fun i en=>∃o,en=[some (.tuple [.list (es.map .bool),.list (G.map ax)]),some (.int (z:Int)),some (fW T),o]/\∀e∈T.take i,isE es e=false) ⟨none,rfl,fun e z=>by simp at z⟩ ?_ ?_
 ·rintro i t' en ht ⟨o,rfl,h1⟩;obtain⟨e,he,rfl⟩:=gm ht;have et:=tk he;have hk:=t.lt e (zaX he);have ae:=LV (es:=es) (e:=e) (by omega);cases hb:isE es e with
  |true=>
   rw[hb]at ae;simp only[ws,iQ,iD,ae];refine W.ue (r9 t gn he) ?_;simp only[ws]
   have:frD es T=nD e.r:=by
    unfold frD
    have:T.find? (isE es)=some e:=by
     rw[List.find?_eq_some_iff_getElem];obtain⟨q1,q2⟩:=zah.mp he;refine⟨hb,i,q1,q2,fun j hj=>?_⟩;rw[h1 (T[j]'(by omega)) (by rw[List.mem_take_iff_getElem];exact⟨j,by omega,rfl⟩)];rfl
    rw[this]
   rw[this]
  |false=>
   rw[hb]at ae;simp only[ws,iQ,iD,ae];refine⟨_,rfl,fun f hf=>?_⟩;rw[et]at hf;rcases zax.mp hf with hf|hf
   ·exact h1 f hf
   ·rw[zaH.mp hf];exact hb
 ·rintro en ⟨o,rfl,h1⟩;rw[zad,zaQ]at h1
  have:frD es T=.none:=by
   unfold frD
   have:T.find? (isE es)=none:=by
    rw[List.find?_eq_none];intro e he;rw[h1 e he];simp
   rw[this]
  simp only[ws,this]
def aZ(G:Gr)(s t:Nat):Prop:=∃r,G[s]?=some r/\some t∈r
def led(G:Gr)(s i:Nat):Option Nat:=((G[s]?).bind (·[i]?)).join
def gon(G:Gr):Option Nat->List Nat->Option Nat
 |o,[]=>o
 |none,_::l=>gon G none l
 |some s,i::l=>gon G (led G s i) l
theorem ip(G:Gr):∀(l m:List Nat) (o:Option Nat),gon G o (l++m)=gon G (gon G o l) m
 |[],m,o=>rfl
 |i::l,m,none=>ip G l m none
 |i::l,m,some s=>ip G l m (led G s i)
def sJ(h:led G s i=some t):aZ G s t:=by
 unfold led at h;cases hr:G[s]? with
 |none=>rw[hr]at h;cases h
 |some r=>
  rw[hr]at h;have h':(r[i]?).join=some t:=h;cases hw:r[i]? with
  |none=>rw[hw]at h';cases h'
  |some w=>
   rw[hw]at h'
   have:w=some t:=h';exact⟨r,hr,by rw[<-this];exact zaX hw⟩
def sel(N:Nat)(P:Nat->Prop):List Nat:=(List.range N).filter fun k=>@decide (P k) (Classical.propDecidable _)
def mem_sel{P:Nat->Prop}:k∈sel N P↔k<N/\P k:=by
 unfold sel;rw[zbE,zbs,@decide_eq_true_iff _ (Classical.propDecidable _)]
def jE(N:Nat)(P:Nat->Prop):(sel N P).Nodup:=List.nodup_range.filter _
def HW(N:Nat)(P:Nat->Prop):(sel N P).Pairwise (·<=·):=((zbK).imp fun h=>zaW h).filter _
def fQ(N:Nat)(P:Nat->Prop):(sel N P).length<=N:=by
 have:=List.length_filter_le (fun k=>@decide (P k) (Classical.propDecidable _)) (List.range N)
 rwa[zbf]at this
def srt(S:List Nat):D:=.list ((cT (S.map fun k:Nat=>(k:Int))).map .int)
def xv(h:l.Pairwise (·<=·)):srt l=nD l:=by
 unfold srt nD;have e:cT (l.map fun k:Nat=>(k:Int))=l.map fun k:Nat=>(k:Int):=iw (cD _) (cW _) (List.pairwise_map.mpr (h.imp fun {a b} h=>Int.ofNat_le.mpr h));rw[e,zaR];rfl
def uR{P:Nat->Prop}(h1:S.Nodup)(h:∀s,s∈S↔s<N/\P s):srt S=nD (sel N P):=by
 have p:S.Perm (sel N P):=(List.perm_ext_iff_of_nodup h1 (jE N P)).mpr fun s=>by rw[h,mem_sel]
 rw[<-xv (HW N P)];unfold srt;rw[iw ((cD _).trans ((p.map fun k:Nat=>(k:Int)).trans (cD _).symm)) (cW _) (cW _)]
inductive Rc(E:Nat->Nat->Prop)(l:List Nat):Nat->Prop
 |first {s:Nat} (h:s∈l):Rc E l s
 |next {s t:Nat} (h:Rc E l s) (e:E s t):Rc E l t
def Rc.inn{E:Nat->Nat->Prop}(h1:∀s∈l,s∈S)(h2:∀s∈S,∀t,E s t->t∈S)(h:Rc E l s):s∈S:=by
 induction h with
 |first h=>exact h1 _ h
 |next _ e ih=>exact h2 _ ih _ e
def Wk(es:List Bool)(G:Gr):Nat->Nat->Prop
 |s,0=>es[s]?=some true
 |s,n+1=>∃t,aZ G s t/\Wk es G t n
def Al(es:List Bool)(G:Gr)(s:Nat):Prop:=∃n,Wk es G s n
def Kp(es:List Bool)(G:Gr)(s:Nat):Prop:=Rc (aZ G) [0] s/\Al es G s
theorem xc{es:List Bool}{G:Gr}:∀{n s:Nat},Wk es G s n->∃t,Rc (aZ G) [s] t/\es[t]?=some true
 |0,s,h=>⟨s,.first (by simp),h⟩
 |n+1,s,⟨t,e,h⟩=>by
  obtain⟨u,h1,h2⟩:=xc h;refine⟨u,?_,h2⟩;clear h2
  induction h1 with
  |first hs=>rw[zaH.mp hs];exact .next (.first (by simp)) e
  |next _ e ih=>exact .next ih e
def Dc(h:Rc (aZ G) [0] s)(hw:Wk es G s n):∃m,n<=m/\Wk es G 0 m:=by
 induction h generalizing n with
 |first hs=>rw[zaH.mp hs]at hw;exact⟨n,zav _,hw⟩
 |@next s t hs e ih=>
  obtain⟨m,h1,h2⟩:=ih (n:=n+1) ⟨t,e,hw⟩;exact⟨m,by omega,h2⟩
def RK(es:List Bool)(G:Gr)(s n:Nat):Prop:=Wk es G s n/\∀m,Wk es G s m->m<=n
def RK.one{m:Nat}(h:RK es G s n)(h2:RK es G s m):n=m:=Nat.le_antisymm (h2.2 _ h.1) (h.2 _ h2.1)
def Gn(G:Gr)(W z:Nat)(T:List Ent):Prop:=∀e∈T,gon G (some z) e.r=some e.k/\∀i∈e.r,i<W
theorem oJ{G:Gr}{W z:Nat}{e:Ent}{row:List (Option Nat)}(hG:G[e.k]?=some row)(hW:row.length=W):∀(r:List (Option Nat)) {T:List Ent} {i:Nat},row.drop i=r->Gn G W z T->e∈T->Gn G W z (fol e T i r)
 |[],T,i,_,h,_=>h
 |w::r,T,i,hd,h,he=>by
  have hi:i<row.length:=by
   rcases Nat.lt_or_ge i row.length with q|q
   ·exact q
   ·rw[List.drop_eq_nil_of_le q]at hd;cases hd
  have hw:row[i]?=some w:=by
   have:(row.drop i)[0]?=some w:=by rw[hd];rfl
   rw[zbG]at this;simpa using this
  have hd':row.drop (i+1)=r:=by
   have:=congrArg (List.drop 1) hd;rw[List.drop_drop]at this;simpa using this
  cases w with
  |none=>exact oJ hG hW r hd' h he
  |some k=>
   by_cases hk:k∈keys T
   ·rw[show fol e T i (some k::r)=fol e (if k∈keys T then T else _) (i+1) r from rfl,if_pos hk];exact oJ hG hW r hd' h he
   ·rw[show fol e T i (some k::r)=fol e (if k∈keys T then T else T++[⟨k,some (e.k,i),e.r++[i]⟩]) (i+1) r from rfl,if_neg hk];refine oJ hG hW r hd' (fun f hf=>?_) (zbg _ he);rcases zax.mp hf with hf|hf
    ·exact h f hf
    ·rw[zaH.mp hf];obtain⟨h1,h2⟩:=h e he;refine⟨?_,fun j hj=>?_⟩
     ·show gon G (some z) (e.r++[i])=some k;rw[ip,h1];show led G e.k i=some k;unfold led;rw[hG];show(row[i]?).join=_;rw[hw];rfl
     ·rcases zax.mp hj with hj|hj
      ·exact h2 j hj
      ·rw[zaH.mp hj,<-hW];exact hi
theorem DD{G:Gr}{W z:Nat}(g:GOk G)(hw:∀r∈G,r.length=W)(hz:z<G.length):∀n,Gn G W z (TT G z n)
 |0=>fun e he=>by
  rw[zaH.mp (show e∈[(⟨z,none,[]⟩:Ent)]from he)];exact⟨rfl,fun _ z=>by cases z⟩
 |n+1=>by
  have ih:=DD g hw hz n;show Gn _ _ _ (fS G (TT G z n) n);unfold fS;cases h:(TT G z n)[n]? with
  |none=>exact ih
  |some e=>
   have hk:=(je g hz n).lt e (zaX h);have hr:G[e.k]?=some G[e.k]:=zak hk;show Gn _ _ _ (fol e _ 0 ((G[e.k]?).getD []));rw[hr];exact oJ hr (hw _ (zaK hk)) _ rfl ih (zaX h)
def HS{w:Option Nat}:(∀k,k∈keys T->k∈keys (stp e T i w))/\∀k,w=some k->k∈keys (stp e T i w):=by
 cases w with
 |none=>exact⟨fun _ h=>h,fun _ h=>nomatch h⟩
 |some m=>
  have e1:stp e T i (some m)=if m∈keys T then T else T++[⟨m,some (e.k,i),e.r++[i]⟩]:=rfl
  rw[e1];by_cases h:m∈keys T
  ·rw[if_pos h];exact⟨fun _ h=>h,fun k hk=>by cases hk;exact h⟩
  ·rw[if_neg h,show ∀a:Ent,keys (T++[a])=keys T++[a.k]from fun a=>zaC];exact⟨fun _ h=>zbg _ h,fun k hk=>by cases hk;exact zbh _ (by simp)⟩
theorem sX{e:Ent}:∀(r:List (Option Nat)) {T:List Ent} {i:Nat},(∀k,k∈keys T->k∈keys (fol e T i r))/\∀k,some k∈r->k∈keys (fol e T i r)
 |[],T,i=>⟨fun _ h=>h,fun _ h=>by cases h⟩
 |w::r,T,i=>by
  obtain⟨a1,a2⟩:=sX r (T:=stp e T i w) (i:=i+1);obtain⟨b1,b2⟩:=HS (e:=e) (T:=T) (i:=i) (w:=w);refine⟨fun k h=>a1 k (b1 k h),fun k h=>?_⟩;rcases zay.mp h with h|h
  ·exact a1 k (b2 k h.symm)
  ·exact a2 k h
theorem lT{G:Gr}{z:Nat}(g:GOk G)(hz:z<G.length):∀n j e,j<n->(TT G z n)[j]?=some e->∀k,aZ G e.k k->k∈keys (TT G z n)
 |0,j,e,h,_,_,_=>absurd h (Nat.not_lt_zero _)
 |n+1,j,e,hj,he,k,⟨r,hr,hm⟩=>by
  have t:=je g hz n;have e1:TT G z (n+1)=fS G (TT G z n) n:=rfl;rw[e1]at he ⊢;unfold fS at he ⊢;cases h:(TT G z n)[n]? with
  |none=>
   rw[h]at he;by_cases q:j=n
   ·subst q;have he':(TT G z j)[j]?=some e:=he;rw[h]at he';cases he'
   ·exact lT g hz n j e (by omega) he k ⟨r,hr,hm⟩
  |some e0=>
   rw[h]at he;show k∈keys (fol e0 _ 0 ((G[e0.k]?).getD []));have he':(fol e0 (TT G z n) 0 ((G[e0.k]?).getD []))[j]?=some e:=he;have hn:=(zah.mp h).1;have old:∀(i:Nat) (f:Ent),(TT G z n)[i]?=some f->(fol e0 (TT G z n) 0 ((G[e0.k]?).getD []))[i]?=some f:=fun i f hf=>by
    have:∀(r:List (Option Nat)) (T:List Ent) (m:Nat),T[i]?=some f->(fol e0 T m r)[i]?=some f:=by
     intro r
     induction r with
     |nil=>exact fun T m h=>h
     |cons w r ih=>exact fun T m h=>ih _ _ (uQ h)
    exact this _ _ _ hf
   obtain⟨f,hf⟩:∃f,(TT G z n)[j]?=some f:=⟨_,zak (by omega)⟩;have ef:f=e:=by
    have:=old j f hf;rw[he']at this;exact(zat this).symm
   subst ef;by_cases q:j=n
   ·subst q;rw[h]at hf;cases hf;rw[hr];exact(sX r).2 k hm
   ·exact(sX _).1 k (lT g hz n j f (by omega) hf k ⟨r,hr,hm⟩)
def uE{W:Nat}(g:GOk G)(hw:∀r∈G,r.length=W)(hz:z<G.length)(ha:Al es G z):∃e:Ent,frD es (TT G z G.length)=nD e.r/\e.r.length<G.length/\(∀i∈e.r,i<W)/\gon G (some z) e.r=some e.k/\es[e.k]?=some true:=by
 obtain⟨n,hn⟩:=ha;obtain⟨t,h1,h2⟩:=xc hn;have tk:=je g hz G.length;have cl:∀s∈keys (TT G z G.length),∀u,aZ G s u->u∈keys (TT G z G.length):=fun s hs u he=>by
  obtain⟨e,he1,rfl⟩:=zaz.mp hs;obtain⟨j,hj⟩:=zbr he1
  have:=(zah.mp hj).1
  have:=tk.len;exact lT g hz G.length j e (by omega) hj u he
 have ht:=Rc.inn (S:=keys (TT G z G.length)) (fun s hs=>by
  rw[zaH.mp hs];exact zaz.mpr ⟨_,zaX tk.h0,rfl⟩) cl h1
 obtain⟨e0,he0,rfl⟩:=zaz.mp ht;have ie:isE es e0=true:=by
  unfold isE;rw[zbi,h2];rfl
 cases hf:(TT G z G.length).find? (isE es)with
 |none=>exact absurd ie (List.find?_eq_none.mp hf e0 he0)
 |some e=>
  have em:=List.mem_of_find?_eq_some hf;have pe:=List.find?_some hf;obtain⟨g1,g2⟩:=DD g hw hz G.length e em;obtain⟨j,hj⟩:=zbr em
  have:=tk.rl j e hj
  have:=(zah.mp hj).1
  have:=tk.len;refine⟨e,by unfold frD;rw[hf],by omega,g2,g1,?_⟩;unfold isE at pe;rw[zbi]at pe;cases q:es[e.k]? with
  |none=>rw[q]at pe;cases pe
  |some b=>rw[q]at pe;exact congrArg some pe
def kv(k:Nat):D×D:=(.int (k:Int),.bool true)
def bw(S:List Nat):D:=.dict (S.map kv)
def Jh(a b:Nat):kEq (kv a).1 (iD b)=decide (a=b):=by
 show((a:Int)==(b:Int))=_;rw[Bool.eq_iff_iff,beq_iff_eq,zbj];omega
def nE(S:List Nat)(k:Nat):((S.map kv).find? fun q=>kEq q.1 (iD k)).isSome=decide (k∈S):=by
 induction S with
 |nil=>rfl
 |cons a S ih=>
  rw[zar,zbp,Jh];by_cases h:a=k
  ·subst h;simp
  ·simp only[h,decide_false];rw[ih];simp[Ne.symm h]
def mF(S:List Nat):noT (S.map kv)=true:=by
 cases S<;>rfl
def Eh(S:List Nat)(k:Nat):cH (iD k) (bw S)=some (.bool (!decide (k∈S))):=by
 show(if noT (S.map kv)=true then some (PyData.bool (!(aJ (S.map kv) (iD k)).isSome))else none)=_;rw[if_pos (mF S)];unfold aJ;rw[Option.isSome_map,nE]
def om(S:List Nat)(k:Nat):cH (.int (k:Int)) (bw S)=some (.bool (!decide (k∈S))):=Eh S k
def FJ(S:List Nat)(k:Nat):((S.map kv).any fun q=>kEq q.1 (iD k))=decide (k∈S):=by
 rw[<-nE]
 induction S with
 |nil=>rfl
 |cons a S ih=>
  rw[zar,List.any_cons,zbp,ih];cases kEq (kv a).1 (iD k)<;>simp
def pO(h:k∉S):cz (S.map kv) (iD k) (.bool true)=(S++[k]).map kv:=by
 unfold cz;rw[if_neg (by rw[FJ];simpa using h),zaC];rfl
def K3(h:k∉S)(hl:S.length<2000):
  bo 2 (aa 5) (eC (.bool true)) [x0,x1,some (bw S),x3,x4,some (iD k)]=some (.nx [x0,x1,some (bw (S++[k])),x3,x4,some (iD k)]):=by
 show(if(S.map kv).length<sizeLine then some (Fl.nx [x0,x1,some (.dict (cz (S.map kv) (iD k) (.bool true))),x3,x4,some (iD k)])else none)=_;rw[if_pos (by rw[zad];exact dg (by omega)),pO h];rfl
def lj(hn:l.Nodup)(hl:l.length<=1000):W (fZ [nD l]) (fun r=>r=(bw l,[none])):=by
 simp only[fZ,vM,ws,nD];refine W.of (show ja _=some (.dict [],_)from rfl) ?_;simp only[ws];refine dq (fun i en=>∃o,en=[some (.list (l.map iD)),some (bw (l.take i)),o]) ⟨none,rfl⟩ ?_ ?_
 ·rintro i t en ht ⟨o,rfl⟩;obtain⟨k,hk,rfl⟩:=gm ht;obtain⟨hi,e⟩:=zah.mp hk;have et:=tk hk;have hk':k∉l.take i:=fun z=>by
   rw[<-List.take_append_drop (i+1) l,et]at hn
   have:=(zbd.mp hn).1;exact(zbd.mp this).2.2 k z k zaq rfl
  simp only[ws,qW];refine W.of (show bo 1 (aa 2) (eC (.bool true)) [some (.list (l.map iD)),some (bw (l.take i)),some (iD k)]=some (.nx [some (.list (l.map iD)),some (bw (l.take (i+1))),some (iD k)])from ?_) ?_
  ·show(if((l.take i).map kv).length<sizeLine then some (Fl.nx [some (.list (l.map iD)),some (.dict (cz ((l.take i).map kv) (iD k) (.bool true))),some (iD k)])else none)=_;rw[if_pos (by rw[zad,zaE];exact dg (by omega)),pO hk',et];rfl
  ·simp only[ws];exact⟨_,rfl⟩
 ·rintro en ⟨o,rfl⟩;rw[zad,zaQ];simp only[ws]
def gD(G:Gr):D:=.list (G.map ax)
def on(h:S.Nodup)(hl:∀s∈S,s<N):S.length<=N:=by
 have:=ck (A:=List.range N) h fun c hc=>zbs.mpr (hl c hc)
 rwa[zbf]at this
def jG(h:S.Nodup)(hk:k∉S):(S++[k]).Nodup:=by
 rw[zbd];exact⟨h,by simp,fun a ha b hb e=>hk (by rw[<-zaH.mp hb,<-e];exact ha)⟩
theorem vj:∀S:List Nat,cv ((S.map kv).map fun q=>q.1)=some (S.map fun k:Nat=>(k:Int))
 |[]=>rfl
 |k::S=>by
  show(cv ((S.map kv).map fun q=>q.1)).map ((k:Int)::·)=_;rw[vj S];rfl
def DK(h:fc (S.map fun k:Nat=>(k:Int))):rQ [bw S]=some (srt S):=by
 show(if noT (S.map kv)=true then(cv ((S.map kv).map fun q=>q.1)).bind fun ns=>grd (fc ns) (PyData.list ((cT ns).map .int))else none)=_;rw[if_pos (mF S),vj];show grd _ _=_;exact if_pos h
structure Keeps(G:Gr)(Q:List Nat->Prop):Prop where
 lt:∀s t,aZ G s t->t<G.length
 step:∀S s t,Q S->s∈S->aZ G s t->t∉S->Q (S++[t])
 cs:∀S,Q S->S.Nodup->(∀s∈S,s<G.length)->fc (S.map fun k:Nat=>(k:Int))
def Ao(kp:Keeps G Q)(hN:G.length<=1000){A:List Nat}(hr:G[h]?=some r)(hh:h∈S)(nd:S.Nodup)(lt:∀s∈S,s<G.length)(q:Q S)(hA:A.length<=S.length)
  (hP:∀new o,(S++new).Nodup->(∀s∈S++new,s<G.length)->Q (S++new)->(∀t,some t∈r->t∈S++new)->P (.nx [x0,x1,some (bw (S++new)),some (nD (A++new)),some (iD h),o])):
  W (cy (gN 5) fK (r.map goD) [x0,x1,some (bw S),some (nD A),some (iD h),x5]) P:=by
 refine dq (fun i en=>∃new o,en=[x0,x1,some (bw (S++new)),some (nD (A++new)),some (iD h),o]/\(S++new).Nodup/\(∀s∈S++new,s<G.length)/\Q (S++new)/\∀t,some t∈r.take i->t∈S++new) ⟨[],x5,by rw[zbt,zbt],by rw[zbt];exact nd,by rw[zbt];exact lt,by rw[zbt];exact q,fun t z=>by simp at z⟩ ?_ ?_
 ·rintro i t en ht ⟨new,o,rfl,g1,g2,g3,g4⟩;obtain⟨w,hw,rfl⟩:=gm ht;have et:=tk hw;cases w with
  |none=>
   simp only[ws,fK,goD];exact⟨new,_,rfl,g1,g2,g3,fun t z=>by
    rw[et]at z;rcases zax.mp z with z|z
    ·exact g4 t z
    ·simp at z⟩
  |some k=>
   have ed:aZ G h k:=⟨r,hr,zaX hw⟩;by_cases hk:k∈S++new
   ·simp only[ws,fK,goD,iD,om,hk];exact⟨new,_,rfl,g1,g2,g3,fun t z=>by
     rw[et]at z;rcases zax.mp z with z|z
     ·exact g4 t z
     ·rw[zat (zaH.mp z)];exact hk⟩
   ·simp only[ws,fK,goD,iD,om,hk];have lN:=on g1 g2;have lc:(S++new).length=S.length+new.length:=zae;refine W.of (K3 hk (by omega)) ?_;simp only[ws,nD];have en':S++new++[k]=S++(new++[k]):=zaD ..;have e2:List.map iD (A++new)++[iD k]=List.map iD (A++(new++[k])):=by rw[<-zaD,zaC (l₁:=A++new)];rfl
    refine⟨dg (by rw[zae];omega),new++[k],_,by rw[en',e2],by rw[<-en'];exact jG g1 hk,fun s z=>?_,by rw[<-en'];exact kp.step _ h k g3 (zbg _ hh) ed hk,fun t z=>?_⟩
    ·rw[<-en']at z;rcases zax.mp z with z|z
     ·exact g2 s z
     ·rw[zaH.mp z];exact kp.lt h k ed
    ·rw[<-en'];rw[et]at z;rcases zax.mp z with z|z
     ·exact zbg _ (g4 t z)
     ·rw[zat (zaH.mp z)];exact zbh _ zaq
 ·rintro en ⟨new,o,rfl,g1,g2,g3,g4⟩;rw[zad,zaQ]at g4;exact hP new o g1 g2 g3 g4
def K7(ts:List D)(t:D):iI 3 [x0,x1,x2,some (.list (ts++[t])),x4,x5]=some (t,[x0,x1,x2,some (.list ts),x4,x5]):=by
 unfold iI;simp
def wc(kp:Keeps G Q)(hN:G.length<=1000)(nd:l.Nodup)(lt:∀s∈l,s<G.length)(q:Q l):
  W (fu [nD l,gD G]) (fun r=>∃S,r=(srt S,[none,none])/\S.Nodup/\Q S/\(∀s∈l,s∈S)/\(∀s∈S,s<G.length)/\∀s∈S,∀t,aZ G s t->t∈S):=by
 have ll:=on nd lt;simp only[fu,uc,ws];refine W.ue (lj nd (by omega)) ?_;have e1:iZ [nD l]=some (nD l):=rfl;simp only[ws,e1];refine fY (fun n en=>∃S A o4 o5,en=[some (nD l),some (gD G),some (bw S),some (nD A),o4,o5]/\S.Nodup/\Q S/\(∀s∈l,s∈S)/\(∀s∈S,s<G.length)/\(∀s∈A,s∈S)/\A.length<=S.length/\(∀s∈S,s∉A->∀t,aZ G s t->t∈S)/\n=2*(G.length-S.length)+A.length) ?_ ⟨l,l,none,none,rfl,nd,q,fun _ z=>z,lt,fun _ z=>z,zav _,fun s z1 z2=>absurd z1 z2,rfl⟩;rintro n en ⟨S,A,o4,o5,rfl,g1,g2,g3,g4,g5,g6,g7,rfl⟩;have lS:=on g1 g4;rcases List.eq_nil_or_concat A with rfl|⟨A0,h,e⟩
 ·have z0:decide ((0:Int)<(([]:List Nat).length:Nat))=false:=rfl;simp only[ws,kx,nD,z0,DK (kp.cs S g2 g1 g4)];exact⟨S,rfl,g1,g2,g3,g4,fun s hs t=>g7 s hs (fun z=>by cases z) t⟩
 ·rw[List.concat_eq_append]at e;subst e;have hh:h∈S:=g5 h (by simp);have hG:=g4 h hh;obtain⟨r,hr⟩:∃r,G[h]?=some r:=⟨_,zak hG⟩;have z1:decide ((0:Int)<((List.map iD A0++[PyData.int (h:Int)]).length:Nat))=true:=by
   rw[zbj,zae];show(0:Int)<(((List.map iD A0).length+1:Nat):Int);omega
  have e3:List.map iD (A0++[h])=List.map iD A0++[.int (h:Int)]:=by rw[zaC];rfl
  have e4:atI (G.map ax) (h:Int)=some (.list (r.map goD)):=by rw[bK,zao,hr];rfl
  simp only[ws,kx,pf,nD,gD,z1,e3];refine W.of (show iI 3 [some (.list (l.map iD)),some (.list (G.map ax)),some (bw S),some (.list (A0.map iD++[.int (h:Int)])),o4,o5]=some (.int (h:Int),[some (.list (l.map iD)),some (.list (G.map ax)),some (bw S),some (.list (A0.map iD)),o4,o5])from K7 _ _) ?_;simp only[ws,e4];have la:(A0++[h]).length=A0.length+1:=zae;refine Ao (A:=A0) kp hN hr hh g1 g4 g2 (by omega) fun new o n1 n2 n3 n4=>?_;have lS':=on n1 n2;have l1:(S++new).length=S.length+new.length:=zae;have l2:(A0++new).length=A0.length+new.length:=zae;simp only[ws];refine⟨2*(G.length-(S++new).length)+(A0++new).length,by omega,S++new,A0++new,_,_,rfl,n1,n3,fun s z=>zbg _ (g3 s z),n2,fun s z=>?_,by omega,fun s z1 z2 t et=>?_,rfl⟩
  ·rcases zax.mp z with z|z
   ·exact zbg _ (g5 s (zbg _ z))
   ·exact zbh _ z
  ·rcases zax.mp z1 with z1|z1
   ·by_cases e:s=h
    ·subst e;obtain⟨r',hr',m⟩:=et;rw[hr]at hr';cases hr';exact n4 t m
    ·exact zbg _ (g7 s z1 (fun z=>(zax.mp z).elim (fun z=>z2 (zbg _ z)) fun z=>e (zaH.mp z)) t et)
   ·exact absurd (zbh _ z1) z2
def toG(B:List (List Nat)):Gr:=B.map fun l=>l.map some
def bD(B:List (List Nat)):gD (toG B)=.list (B.map nD):=by
 unfold gD toG;rw[zaR];congr 1;refine zbx fun l _=>?_;show PyData.list _=PyData.list _;rw[zaR];rfl
def rw_(G:Gr)(s:Nat):List (Option Nat):=(G[s]?).getD []
def atR(h:G[s]?=some (rw_ G s)):atI (G.map ax) (s:Int)=some (.list ((rw_ G s).map goD)):=by rw[bK,zao,h];rfl
def Ia(h:G[s]?=some r):rw_ G s=r:=by unfold rw_;rw[h];rfl
def edge_rw:aZ G s t↔some t∈rw_ G s:=by
 unfold aZ rw_;cases h:G[s]? with
 |none=>exact⟨(fun⟨r,z,_⟩=>nomatch z),(fun z=>by cases z)⟩
 |some r=>exact⟨fun⟨r',z,m⟩=>by cases z;exact m,fun m=>⟨r,rfl,m⟩⟩
def LW(hb:B[t]?=some b)(hl:b.length<50000){Q:D×En->Prop}(h:Q (.none,[x0,some (.list ((B.set t (b++[s])).map nD)),some (.int (s:Int)),x3,some (.int (t:Int))])):
  W (gj 1 (pIx 1 (fR 1) (aa 4)) (aa 2) [x0,some (.list (B.map nD)),some (.int (s:Int)),x3,some (.int (t:Int))]) Q:=by
 have ht:t<B.length:=(zah.mp hb).1;have e2:(B.map nD)[t]?=some (.list (b.map iD)):=by rw[zao,hb];rfl
 refine tS (mM (jN (t:=.list (B.map nD)) rfl ?_));simp only[ws];refine⟨_,_,B.map nD,t,rfl,rfl,.inl rfl,io (by rw[zad];exact ht),by rw[zad];exact ht,.list (B.map nD),b.map iD,rfl,?_,?_⟩
 ·show((B.map nD)[t]?).bind _=_;rw[e2];rfl
 ·simp only[ws];refine⟨dg (by omega),?_⟩;have e3:(B.set t (b++[s])).map nD=(B.map nD).set t (.list (b.map iD++[.int (s:Int)])):=by
   rw[List.map_set];congr 1;show PyData.list _=_;rw[zaC];rfl
  have ep:bN (.list (B.map nD)) ([]++[t]) (.list (b.map iD++[.int (s:Int)]))=.list ((B.set t (b++[s])).map nD):=by
   rw[e3];show PyData.list ((B.map nD).set t (((B.map nD)[t]?).elim .none fun c=>bN c [] _))=_;rw[e2];rfl
  rw[ep];exact h
def cB(G:Gr)(i:Nat)(r:List (Option Nat))(t s:Nat):Nat:=if s<i then(rw_ G s).count (some t)else if s=i then r.count (some t)else 0
def uM(g:GOk G):W (eF [gD G]) (fun r=>∃B:List (List Nat),r=(gD (toG B),[none])/\B.length=G.length/\(∀b∈B,b.length<=12*G.length)/\∀t b,B[t]?=some b->∀s,b.count s=(rw_ G s).count (some t)):=by
 have n:=g.n;simp only[eF,pA,ws,gD];refine iK (fun _=>.list []) (szB (by rw[zad];omega)) (fun t _=>by simp only[ws,mq]) fun o=>?_;simp only[ws];have e0:List.map (fun x=>PyData.list []) (List.map ax G)=(List.replicate G.length ([]:List Nat)).map nD:=by
  rw[zaR,List.map_replicate];exact List.map_const' ..
 rw[e0];refine dq (fun i en=>∃(B:List (List Nat)) (o2 o3 o4:Option D),en=[some (.list (G.map ax)),some (.list (B.map nD)),o2,o3,o4]/\B.length=G.length/\(∀b∈B,b.length<=12*i)/\∀t b,B[t]?=some b->∀s,b.count s=cB G i [] t s) ⟨_,_,_,_,rfl,zaN,fun b z=>by rw[(List.mem_replicate.mp z).2];exact zbk _,fun t b hb s=>?_⟩ ?_ ?_
 ·have:b=[]:=(List.mem_replicate.mp (zaX hb)).2;subst this;unfold cB;simp
 ·rintro i t en ht ⟨B,o2,o3,o4,rfl,b1,b2,b3⟩;obtain⟨u,hu,rfl⟩:=gK ht;obtain⟨r,hr,rfl⟩:=gm hu;have hi:i<G.length:=(zah.mp hr).1;have rl:=g.w r (zaX hr);simp only[ws,mf,ax];refine dq (fun j en=>∃(B:List (List Nat)) (o4:Option D),en=[some (.list (G.map ax)),some (.list (B.map nD)),some (.int (i:Int)),some (.list (r.map goD)),o4]/\B.length=G.length/\(∀b∈B,b.length<=12*i+j)/\∀t b,B[t]?=some b->∀s,b.count s=cB G i (r.take j) t s) ⟨B,_,rfl,b1,fun b z=>by have:=b2 b z;omega,fun t b hb s=>by rw[b3 t b hb s,List.take_zero]⟩ ?_ ?_
  ·rintro j u en hu' ⟨B,o4,rfl,c1,c2,c3⟩;rw[zao]at hu';obtain⟨w,hw,rfl⟩:=zab.mp hu';have hj:j<r.length:=(zah.mp hw).1;have et:=tk hw;cases w with
   |none=>
    simp only[ws,iP,goD];refine⟨B,_,rfl,c1,fun b z=>by have:=c2 b z;omega,fun t b hb s=>?_⟩;rw[c3 t b hb s,et];unfold cB;rw[List.count_append];simp
   |some k=>
    have hk:k<G.length:=g.lt r (zaX hr) k (zaX hw);obtain⟨b,hb⟩:∃b,B[k]?=some b:=⟨_,zak (by omega)⟩;have lb:=c2 b (zaX hb);simp only[ws,iP,goD];refine LW (s:=i) hb (by omega) ?_;simp only[ws];refine⟨_,_,rfl,by rw[zaV];exact c1,fun b' z=>?_,fun t b' hb' s=>?_⟩
    ·rcases zbW z with z|z
     ·have:=c2 b' z;omega
     ·rw[z,zae];show b.length+1<=_;omega
    ·by_cases e:t=k
     ·subst e;rw[zaP (by omega)]at hb';cases hb';rw[List.count_append,c3 t b hb s,et];unfold cB;rw[List.count_append];by_cases q1:s<i
      ·rw[if_pos q1,if_pos q1]
       have:i≠s:=by omega
       simp[List.count_cons,this]
      ·rw[if_neg q1,if_neg q1];by_cases q2:s=i
       ·subst q2;simp
       ·rw[if_neg q2,if_neg q2]
        have:i≠s:=fun z=>q2 z.symm;simp[List.count_cons,this]
     ·rw[zaO (Ne.symm e)]at hb';rw[c3 t b' hb' s,et];unfold cB;rw[List.count_append]
      have:(some k:Option Nat)≠some t:=fun z=>e (zat z).symm;simp[List.count_cons,this]
  ·rintro en ⟨B,o4,rfl,c1,c2,c3⟩;rw[zad,zaQ]at *;simp only[ws];refine⟨B,_,_,_,rfl,c1,fun b z=>by have:=c2 b z;omega,fun t b hb s=>?_⟩;rw[c3 t b hb s];unfold cB;by_cases q1:s<i
   ·rw[if_pos q1,if_pos (by omega)]
   ·rw[if_neg q1];by_cases q2:s=i
    ·subst q2;rw[if_pos rfl,if_pos (by omega),Ia hr]
    ·rw[if_neg q2,if_neg (by omega)];simp
 ·rintro en ⟨B,o2,o3,o4,rfl,b1,b2,b3⟩;rw[fw,zad]at b2 b3;simp only[ws];refine⟨B,?_,b1,b2,fun t b hb s=>?_⟩
  ·rw[<-bD];rfl
  ·rw[b3 t b hb s];unfold cB;by_cases q1:s<G.length
   ·rw[if_pos q1]
   ·rw[if_neg q1];unfold rw_;rw[zbm (by omega)];simp
def qS(hl:B.length=G.length)(h:∀t b,B[t]?=some b->∀s,b.count s=(rw_ G s).count (some t))(g:GOk G)(s t:Nat):aZ (toG B) s t↔aZ G t s:=by
 rw[edge_rw (G:=G)];unfold aZ toG;constructor
 ·rintro⟨r,h1,h2⟩;obtain⟨l,hl,rfl⟩:=gm h1;obtain⟨x,hx,e⟩:=zaz.mp h2;cases e
  have:=h s l hl t;exact List.count_pos_iff.mp (by rw[<-this];exact List.count_pos_iff.mpr hx)
 ·intro hm;have hs:s<G.length:=by
   obtain⟨r,hr,hm'⟩:=edge_rw.mpr hm;exact g.lt r (zaX hr) s hm'
  obtain⟨b,hb⟩:∃b,B[s]?=some b:=⟨_,zak (by omega)⟩;refine⟨b.map some,by rw[zao,hb];rfl,List.mem_map_of_mem ?_⟩;exact List.count_pos_iff.mp (by rw[h s b hb t];exact List.count_pos_iff.mpr hm)
def CK(G:Gr)(l:List Nat):Prop:=∃Q:List Nat->Prop,Q l/\(∀S s t,Q S->s∈S->aZ G s t->t∉S->Q (S++[t]))/\∀S,Q S->S.Nodup->(∀s∈S,s<G.length)->fc (S.map fun k:Nat=>(k:Int))
def vt(lt:∀s t,aZ G s t->t<G.length)(hN:G.length<=1000)(nd:l.Nodup)(hl:∀s∈l,s<G.length)(c:CK G l):W (fu [nD l,gD G]) (fun r=>r=(nD (sel G.length (Rc (aZ G) l)),[none,none])):=by
 obtain⟨Q,q0,q1,q2⟩:=c;have kp:Keeps G (fun S=>Q S/\∀s∈S,Rc (aZ G) l s):=by
  refine⟨lt,fun S s t ⟨h1,h2⟩ hs he ht=>⟨q1 S s t h1 hs he ht,fun u hu=>?_⟩,fun S ⟨h1,_⟩=>q2 S h1⟩;rcases zax.mp hu with hu|hu
  ·exact h2 u hu
  ·rw[zaH.mp hu];exact .next (h2 s hs) he
 refine W.use (wc kp hN nd hl ⟨q0,fun s hs=>.first hs⟩) ?_;rintro _ ⟨S,rfl,g1,⟨_,g2⟩,g3,g4,g5⟩;rw[uR (N:=G.length) (P:=Rc (aZ G) l) g1 fun s=>⟨fun h=>⟨g4 s h,g2 s h⟩,fun h=>Rc.inn g3 g5 h.2⟩]
def mD(es:List Bool)(G:Gr):D:=.tuple [.list (es.map .bool),.list (G.map ax)]
def GOk.elt(g:GOk G)(s t:Nat)(h:aZ G s t):t<G.length:=by
 obtain⟨r,hr,hm⟩:=h;exact g.lt r (zaX hr) t hm
def aN(G:Gr):List Nat:=sel G.length (Rc (aZ G) [0])
def cx(es:List Bool)(G:Gr):List Nat:=sel G.length (Kp es G)
def xU(g:GOk G)(c:CK G [0]):W (qx [mD es G]) (fun r=>r=(nD (aN G),[none])):=by
 have f:=vt g.elt g.n (l:=[0]) (by simp) (fun s h=>by rw[zaH.mp h];exact g.n1) c;have e0:nD [0]=.list [.int 0]:=rfl;rw[e0]at f;simp only[qx,KM,ws,mD];refine W.ue f ?_;simp only[ws];rfl
def dM(es:List Bool):List Nat:=(List.range es.length).filter fun k=>es.getD k false
def mem_ends:s∈dM es↔es[s]?=some true:=by
 unfold dM;rw[zbE,zbs,zbi];constructor
 ·rintro⟨h1,h2⟩;rw[zak h1]at h2 ⊢;exact congrArg some h2
 ·intro h;refine⟨(zah.mp h).1,?_⟩;rw[h];rfl
def KU{G':Gr}(h:∀s t,aZ G' s t↔aZ G t s)(s:Nat):Rc (aZ G') (dM es) s↔Al es G s:=by
 constructor
 ·intro hr
  induction hr with
  |first hs=>exact⟨0,mem_ends.mp hs⟩
  |@next s t _ e ih=>
   obtain⟨n,hn⟩:=ih;exact⟨n+1,s,(h s t).mp e,hn⟩
 ·rintro⟨n,hn⟩
  induction n generalizing s with
  |zero=>exact .first (mem_ends.mpr hn)
  |succ n ih=>
   obtain⟨t,e,hw⟩:=hn;exact .next (ih t hw) ((h t s).mpr e)
def A1(g:GOk G)(he:es.length=G.length)(c:∀B:List (List Nat),B.length=G.length->(∀t b,B[t]?=some b->∀s,b.count s=(rw_ G s).count (some t))->CK (toG B) (dM es)):W (mn [mD es G]) (fun r=>r=(nD (sel G.length (Al es G)),[none])):=by
 have n:=g.n;simp only[mn,y4,ws,mD];refine⟨⟨by omega,by omega⟩,?_⟩;have en:((es.length:Nat):Int).toNat=es.length:=zaL _;rw[en];refine dQ (fun t=>match t with|.int z=>es.getD z.toNat false|_=>false) (fun t=>t) (by rw[dZ];exact szB (by omega)) (fun t ht=>?_) (fun t ht _=>by simp only[ws,ub]) fun o=>?_
 ·obtain⟨k,hk⟩:=zbr ht;obtain⟨hk',rfl⟩:=im hk;have ea:atI (es.map PyData.bool) (k:Int)=some (.bool (es.getD k false)):=by
   rw[bK,zao,zak hk',zbi,zak hk'];rfl
  simp only[ws,tT,ea,zbU,zaL]
 ·have el:List.map (fun t=>t) (List.filter (fun t=>match t with|PyData.int z=>es.getD z.toNat false|_=>false) (fh 0 es.length))=(dM es).map iD:=by
   rw[List.map_id'];unfold fh dM;rw[zbD];have e1:(fun k:Nat=>PyData.int (0+(k:Int)))=iD:=by
    funext k
    rw[zbU];rfl
   rw[e1];rfl
  rw[el];simp only[ws];refine W.use (uM g) ?_;rintro _ ⟨B,rfl,l1,l2,l3⟩;simp only[ws];have be:=qS l1 l3 g;have tl:(toG B).length=G.length:=by unfold toG;rw[zad,l1]
  have f:=vt (G:=toG B) (l:=dM es) (fun s t h=>?_) (by rw[tl];exact n) (List.nodup_range.filter _) (fun s hs=>?_) (c B l1 l3)
  ·refine W.ue f ?_;simp only[ws,tl]
   have:sel G.length (Rc (aZ (toG B)) (dM es))=sel G.length (Al es G):=by
    congr 1
    funext s
    exact propext (KU be s)
   rw[this]
  ·rw[tl];obtain⟨r,hr,_⟩:=(be s t).mp h;exact(zah.mp hr).1
  ·have:=(zah.mp (mem_ends.mp hs)).1;rw[tl];omega
def Ds(S:List Nat)(k:Nat):dIn (.int (k:Int)) (bw S)=some (.bool (decide (k∈S))):=by
 show(if noT (S.map kv)=true then some (PyData.bool (aJ (S.map kv) (iD k)).isSome)else none)=_;rw[if_pos (mF S)];unfold aJ;rw[Option.isSome_map,nE]
structure Mx(W:Nat)(es:List Bool)(G:Gr):Prop where
 g:GOk G
 w1:1<=W
 w:∀r∈G,r.length=W
 le:es.length=G.length
 cm:CK G [0]
 ca:∀B:List (List Nat),B.length=G.length->(∀t b,B[t]?=some b->∀s,b.count s=(rw_ G s).count (some t))->CK (toG B) (dM es)
def Eu(M:Mx W0 es G):W (dU [mD es G]) (fun r=>r=(nD (cx es G),[none])):=by
 have n:=M.g.n;have al:=A1 M.g M.le M.ca;have mt:=xU (es:=es) M.g M.cm;simp only[mD]at al mt ⊢;simp only[dU,mw,ws];refine W.ue al ?_;simp only[ws];refine W.ue (lj (jE _ _) (by have:=fQ G.length (Al es G);omega)) ?_;simp only[ws];refine W.ue mt ?_;simp only[ws,nD];have ml:(aN G).length<=G.length:=fQ ..;refine dQ (fun t=>match t with|.int z=>decide (z.toNat∈sel G.length (Al es G))|_=>false) (fun t=>t) (szB (by rw[zad];omega)) (fun t ht=>?_) (fun t ht _=>by simp only[ws,jW]) fun o=>?_
 ·obtain⟨k,_,rfl⟩:=zaz.mp ht;simp only[ws,jO,iD,Ds,zaL]
 ·have e:List.map (fun t=>t) (List.filter (fun t=>match t with|PyData.int z=>decide (z.toNat∈sel G.length (Al es G))|_=>false) (List.map iD (aN G)))=(cx es G).map iD:=by
   rw[List.map_id',zbD];congr 1;unfold aN cx;unfold sel;rw[List.filter_filter];refine List.filter_congr fun k hk=>?_;rw[Bool.eq_iff_iff,zbn,@decide_eq_true_iff _ (Classical.propDecidable _),@decide_eq_true_iff _ (Classical.propDecidable _)];show decide (k∈sel G.length (Al es G))=true/\_↔_;rw[zbj,mem_sel];exact⟨fun h=>⟨h.2,h.1.2⟩,fun h=>⟨⟨zbs.mp hk,h.2⟩,h.1⟩⟩
  rw[e];simp only[ws]
def Es(h:Kp es G s):Kp es G 0:=by
 obtain⟨h1,n,h2⟩:=h;obtain⟨m,_,hm⟩:=Dc h1 h2;exact⟨.first (by simp),m,hm⟩
def lkv(f:Nat->Int)(s:Nat):D×D:=(iD s,.int (f s))
def ldD(K:List Nat)(f:Nat->Int):D:=.dict (K.map (lkv f))
def og(K:List Nat)(f:Nat->Int):noT (K.map (lkv f))=true:=by cases K<;>rfl
theorem tf(f:Nat->Int)(k:Nat):∀K:List Nat,(K.map (lkv f)).find? (fun q=>kEq q.1 (iD k))=if k∈K then some (lkv f k)else none
 |[]=>rfl
 |a::K=>by
  rw[zar,zbp];show(match kEq (iD a) (iD k)with|true=>some (lkv f a)|false=>_)=_;rw[mG,tf f k K];by_cases h:a=k
  ·subst h;simp
  ·simp only[h,decide_false]
   have:k∈a::K↔k∈K:=by simp[Ne.symm h]
   by_cases q:k∈K
   ·rw[if_pos q,if_pos (this.mpr q)]
   ·rw[if_neg q,if_neg (fun z=>q (this.mp z))]
def fB{f:Nat->Int}(h:k∈K):aJ (K.map (lkv f)) (.int (k:Int))=some (.int (f k)):=by
 unfold aJ;rw[show PyData.int (k:Int)=iD k from rfl,tf,if_pos h];rfl
def oB(K:List Nat)(f:Nat->Int)(k:Nat):(aJ (K.map (lkv f)) (.int (k:Int))).isSome=decide (k∈K):=by
 unfold aJ;rw[show PyData.int (k:Int)=iD k from rfl,tf];by_cases h:k∈K
 ·rw[if_pos h];simp[h]
 ·rw[if_neg h];simp[h]
def Ap(K:List Nat)(f:Nat->Int)(k:Nat):dIn (.int (k:Int)) (ldD K f)=some (.bool (decide (k∈K))):=by
 show(if noT (K.map (lkv f))=true then some (PyData.bool (aJ (K.map (lkv f)) (.int (k:Int))).isSome)else none)=_;rw[if_pos (og K f),oB]
def inK(K:List Nat):Option Nat->Bool
 |none=>false
 |some k=>decide (k∈K)
def Dr(K:List Nat)(f:Nat->Int):∀w:Option Nat,lH (goD w) (ldD K f)=some (.bool (inK K w))
 |none=>by
  show(if noT (K.map (lkv f))=true then some (PyData.bool false)else none)=_;rw[if_pos (og K f)];rfl
 |some k=>Ap K f k
def DC(K:List Nat)(f:Nat->Int)(k:Nat):((K.map (lkv f)).any fun q=>kEq q.1 (iD k))=decide (k∈K):=by
 induction K with
 |nil=>rfl
 |cons a K ih=>
  rw[zar,List.any_cons,ih];show(kEq (iD a) (iD k) || _)=_;rw[mG];by_cases h:a=k
  ·subst h;simp
  ·simp[h,Ne.symm h]
def upf(f:Nat->Int)(k:Nat)(v:Int):Nat->Int:=fun s=>if s=k then v else f s
def pN{f:Nat->Int}(h:k∈K)(v:Int):cz (K.map (lkv f)) (.int (k:Int)) (.int v)=K.map (lkv (upf f k v)):=by
 unfold cz;rw[show PyData.int (k:Int)=iD k from rfl,if_pos (by rw[DC];simpa using h),zaR];refine zbx fun s _=>?_;show(if kEq (iD s) (iD k)=true then(iD s,PyData.int v)else(iD s,.int (f s)))=(iD s,.int (if s=k then v else f s));rw[mG];by_cases q:s=k
 ·rw[if_pos (by simpa using q),if_pos q]
 ·rw[if_neg (by simpa using q),if_neg q]
def k7{f:Nat->Int}(h:k∉K)(v:Int):cz (K.map (lkv f)) (.int (k:Int)) (.int v)=(K++[k]).map (lkv (upf f k v)):=by
 unfold cz;rw[show PyData.int (k:Int)=iD k from rfl,if_neg (by rw[DC];simpa using h),zaC];congr 1
 ·refine zbx fun s hs=>?_;show(iD s,PyData.int (f s))=(iD s,.int (if s=k then v else f s));rw[if_neg (fun z:s=k=>h (by rw[<-z];exact hs))]
 ·show[(iD k,PyData.int v)]=[(iD k,.int (if k=k then v else f k))];rw[if_pos rfl]
def iB{f g:Nat->Int}(h:∀s∈K,f s=g s):K.map (lkv f)=K.map (lkv g):=zbx fun s hs=>by
 show(iD s,PyData.int (f s))=(iD s,.int (g s));rw[h s hs]
def lv(K Dn:List Nat)(r:List (Option Nat)):Nat:=(r.filter fun w=>match w with|some t=>decide (t∈K)&&!decide (t∈Dn)|none=>false).length
def IT(K:List Nat)(r:List (Option Nat)):(r.filter (inK K)).length=lv K [] r:=by
 unfold lv;congr 1;refine List.filter_congr fun w _=>?_;cases w with
 |none=>rfl
 |some t=>show decide (t∈K)=(decide (t∈K)&&!decide (t∈[]));simp
theorem vc{K Dn:List Nat}{h:Nat}(h1:h∈K)(h2:h∉Dn):∀r:List (Option Nat),lv K Dn r=lv K (Dn++[h]) r+r.count (some h)
 |[]=>rfl
 |w::r=>by
  have ih:=vc h1 h2 r;unfold lv at ih ⊢;cases w with
  |none=>
   rw[zbu (by simp),zbu (by simp),List.count_cons_of_ne (by simp)];exact ih
  |some t=>
   by_cases e:t=h
   ·subst e;rw[zbv (by simp[h1,h2]),zbu (by simp),List.count_cons_self,zac,ih];omega
   ·rw[List.count_cons_of_ne (by simpa using e)];by_cases q:t∈K/\t∉Dn
    ·rw[zbv (by simp[q.1,q.2]),zbv (by simp[q.1,q.2,e]),zac,zac,ih];omega
    ·rw[zbu (by simp;exact fun z=>Classical.not_not.mp fun z2=>q ⟨z,z2⟩),zbu (by simp;exact fun z z2=>absurd ⟨z,z2⟩ q),ih]
def Ek(h:lv K Dn r=0)(ht:some t∈r)(hk:t∈K):t∈Dn:=by
 unfold lv at h
 have:=za7.mp h;rw[List.filter_eq_nil_iff]at this;have q:=this _ ht;simp only[hk,decide_true,Bool.true_and,Bool.not_eq_true',zbq]at q;exact Classical.not_not.mp q
def IS(h:lv K Dn r≠0):∃t,some t∈r/\t∈K/\t∉Dn:=by
 unfold lv at h;obtain⟨w,hw⟩:=List.exists_mem_of_length_pos (Nat.pos_of_ne_zero h);obtain⟨h1,h2⟩:=zbE.mp hw;cases w with
 |none=>cases h2
 |some t=>
  simp only[zbn,decide_eq_true_eq,Bool.not_eq_true',zbq]at h2;exact⟨t,h1,h2⟩
def xo(g:GOk G)(nd:K.Nodup)(hK:∀s∈K,s<G.length)(kl:K.length<=1000):W (dB [gD G,nD K]) (fun r=>r=(ldD K (fun s=>(lv K [] (rw_ G s):Int)),[none,none])):=by
 simp only[dB,kY,ws,gD,nD];refine W.of (show ja _=some (.dict [],_)from rfl) ?_;simp only[ws];refine dq (fun i en=>∃f o,en=[some (.list (G.map ax)),some (.list (K.map iD)),some (ldD (K.take i) f),o]) ⟨fun _=>0,none,rfl⟩ ?_ ?_
 ·rintro i t en ht ⟨f,o,rfl⟩;obtain⟨s,hs,rfl⟩:=gm ht;have et:=tk hs;have ns:s∉K.take i:=fun z=>by
   have h2:=nd;rw[<-List.take_append_drop (i+1) K,et]at h2;exact(zbd.mp (zbd.mp h2).1).2.2 s z s zaq rfl
  have il:=(zah.mp hs).1;simp only[ws,jh];refine iL ?_;simp only[ws];refine⟨⟨_,rfl⟩,_,rfl,rfl,dg (by rw[zad,zaE];omega),?_⟩
  have:=k7 (f:=f) ns 0;refine⟨upf f s 0,some (iD s),?_⟩;show[_,_,some (PyData.dict (cz ((K.take i).map (lkv f)) (iD s) (.int 0))),_]=_;rw[show(iD s)=PyData.int (s:Int)from rfl,this,et];rfl
 ·rintro en ⟨f,o,rfl⟩;rw[zad,zaQ];simp only[ws];refine dq (fun i en=>∃f o,en=[some (.list (G.map ax)),some (.list (K.map iD)),some (ldD K f),o]/\∀s∈K.take i,f s=(lv K [] (rw_ G s):Int)) ⟨f,o,rfl,fun s z=>by simp at z⟩ ?_ ?_
  ·rintro i t en ht ⟨f,o,rfl,hf⟩;obtain⟨s,hs,rfl⟩:=gm ht;have et:=tk hs;have sk:=zaX hs;have hr:G[s]?=some (rw_ G s):=by
    unfold rw_;rw[zak (hK s sk)];rfl
   have e1:=atR hr;have rl:=g.w _ (zaX hr);simp only[ws,jg];refine iL ?_;simp only[ws,iD,e1];refine dQ (fun t=>match t with|.none=>false|.int z=>decide (z.toNat∈K)|_=>false) (fun t=>t) (szB (by rw[zad];omega)) (fun t ht=>?_) (fun t ht _=>by simp only[ws,jk]) fun o=>?_
   ·obtain⟨w,_,rfl⟩:=zaz.mp ht;simp only[ws,jc,Dr];cases w with
    |none=>rfl
    |some k=>simp only[goD,inK,zaL]
   ·have el:(List.map (fun t=>t) (List.filter (fun t=>match t with|PyData.none=>false|.int z=>decide (z.toNat∈K)|_=>false) ((rw_ G s).map goD))).length=lv K [] (rw_ G s):=by
     rw[List.map_id',zbD,zad,<-IT];congr 1;refine List.filter_congr fun w _=>?_;cases w with
     |none=>rfl
     |some k=>
      show decide (((k:Nat):Int).toNat∈K)=decide (k∈K);rw[zaL]
    simp only[ws,el];refine⟨⟨_,rfl⟩,_,rfl,rfl,dg (by rw[zad];omega),?_⟩;refine⟨upf f s (lv K [] (rw_ G s):Int),some (.int (s:Int)),?_,fun x hx=>?_⟩
    ·show[_,_,some (PyData.dict (cz (K.map (lkv f)) (.int (s:Int)) (.int _))),_]=_;rw[pN sk];rfl
    ·unfold upf;by_cases q:x=s
     ·rw[if_pos q,q]
     ·rw[if_neg q];rw[et]at hx;rcases zax.mp hx with hx|hx
      ·exact hf x hx
      ·exact absurd (zaH.mp hx) q
  ·rintro en ⟨f,o,rfl,hf⟩;rw[zad,zaQ]at hf;simp only[ws];unfold ldD;rw[iB hf]
def rv(f:Nat->Option Nat):List (Option Nat)->Nat
 |[]=>0
 |w::r=>match w.bind f with
  |some n=>max (n+1) (rv f r)
  |none=>rv f r
theorem Da{f:Nat->Option Nat}:∀{r:List (Option Nat)} {t n:Nat},some t∈r->f t=some n->n+1<=rv f r
 |w::r,t,n,h,hf=>by
  unfold rv;rcases zay.mp h with h|h
  ·rw[<-h];show n+1<=match f t with|some n=>_|none=>_
   rw[hf];exact Nat.le_max_left _ _
  ·have ih:=Da h hf;split
   ·exact zau ih (Nat.le_max_right _ _)
   ·exact ih
theorem r8{f:Nat->Option Nat}:∀{r:List (Option Nat)} {n:Nat},rv f r=n+1->∃t,some t∈r/\f t=some n
 |[],n,h=>by cases h
 |w::r,n,h=>by
  unfold rv at h;split at h
  ·next m hm=>
   cases w with
   |none=>cases hm
   |some t=>
    have hm':f t=some m:=hm;by_cases q:rv f r<=m+1
    ·rw[Nat.max_eq_left q]at h;exact⟨t,zaq,by rw[hm'];congr 1;omega⟩
    ·rw[Nat.max_eq_right (by omega)]at h;obtain⟨u,h1,h2⟩:=r8 h;exact⟨u,zaj _ h1,h2⟩
  ·obtain⟨u,h1,h2⟩:=r8 h;exact⟨u,zaj _ h1,h2⟩
def rkL(N:Nat)(f:Nat->Option Nat):List D:=(List.range N).map fun s=>goD (f s)
def rkD(N:Nat)(f:Nat->Option Nat):D:=.list (rkL N f)
def rB(h:k<N):atI (rkL N f) (k:Int)=some (goD (f k)):=by
 unfold rkL;rw[bK,zao,zby h];rfl
def IR(f:Nat->Option Nat):∀r:List (Option Nat),wt 0 (.list ((r.filterMap fun w=>w.bind f).map fun n:Nat=>.int ((n:Int)+1)))=some (.int (rv f r:Int)):=fun r=>by
 have iv:∀l:List Nat,cv (l.map fun n:Nat=>.int ((n:Int)+1))=some (l.map fun n:Nat=>(n:Int)+1):=fun l=>by
  induction l with
  |nil=>rfl
  |cons a l ih=>
   show(cv (l.map fun n:Nat=>.int ((n:Int)+1))).map (((a:Int)+1)::·)=_;rw[ih];rfl
 show(cv _).map _=_;rw[iv];show some (PyData.int _)=_;congr 2
 induction r with
 |nil=>rfl
 |cons w r ih=>
  unfold rv;cases h:w.bind f with
  |none=>
   rw[List.filterMap_cons_none (f:=fun w:Option Nat=>w.bind f) h];exact ih
  |some n=>
   rw[List.filterMap_cons_some (f:=fun w:Option Nat=>w.bind f) h,zar,if_neg (by simp)];generalize (r.filterMap fun w=>w.bind f)=L at ih;cases L with
   |nil=>
    rw[za0,if_pos rfl]at ih;show((n:Int)+1)=((max (n+1) (rv f r):Nat):Int);omega
   |cons b L=>
    rw[zar,if_neg (by simp)]at ih;rw[zar];show max ((n:Int)+1) (iA (((b:Int)+1)::_))=((max (n+1) (rv f r):Nat):Int);rw[ih];omega
def DR(hr:∀k,some k∈r->k<N)(rl:r.length<=12):W (iS [.list (r.map goD),rkD N f]) (fun q=>q=(.int (rv f r:Int),[none,none])):=by
 simp only[iS,ud,ws,rkD];refine dQ (fun t=>match t with|.int z=>(f z.toNat).isSome|_=>false) (fun t=>match t with|.int z=>.int (((f z.toNat).getD 0:Nat)+1)|_=>.none) (szB (by rw[zad];omega)) (fun t ht=>?_) (fun t ht hp=>?_) fun o=>?_
 ·obtain⟨w,hw,rfl⟩:=zaz.mp ht;cases w with
  |none=>simp only[ws,ic,goD]
  |some k=>
   have ea:=rB (f:=f) (hr k hw);cases hf:f k with
   |none=>
    rw[hf]at ea;have ea':atI (rkL N f) (k:Int)=some .none:=ea;simp only[ws,ic,goD,ea',hf,zaL,Option.isSome]
   |some n=>
    rw[hf]at ea;have ea':atI (rkL N f) (k:Int)=some (.int (n:Int)):=ea;simp only[ws,ic,goD,ea',hf,zaL,Option.isSome]
 ·obtain⟨w,hw,rfl⟩:=zaz.mp ht;cases w with
  |none=>cases hp
  |some k=>
   have hp':(f k).isSome=true:=by
    have:(f ((k:Nat):Int).toNat).isSome=true:=hp
    rwa[zaL]at this
   obtain⟨n,hn⟩:=Option.isSome_iff_exists.mp hp';have ea:=rB (f:=f) (hr k hw);rw[hn]at ea;have ea':atI (rkL N f) (k:Int)=some (.int (n:Int)):=ea;simp only[ws,pk,goD,ea',hn,zaL,Option.getD_some]
 ·have e:List.map (fun t=>match t with|PyData.int z=>PyData.int (((f z.toNat).getD 0:Nat)+1)|_=>.none) (List.filter (fun t=>match t with|PyData.int z=>(f z.toNat).isSome|_=>false) (r.map goD))=(r.filterMap fun w=>w.bind f).map fun n:Nat=>.int ((n:Int)+1):=by
   clear hr rl
   induction r with
   |nil=>rfl
   |cons w r ih=>
    rw[zar];cases w with
    |none=>
     rw[zbu (by simp[goD]),List.filterMap_cons_none (f:=fun w:Option Nat=>w.bind f) rfl];exact ih
    |some k=>
     cases hf:f k with
     |none=>
      rw[zbu (by simp[goD,hf]),List.filterMap_cons_none (f:=fun w:Option Nat=>w.bind f) (show(some k).bind f=none from hf)];exact ih
     |some n=>
      rw[zbv (by simp[goD,hf]),List.filterMap_cons_some (f:=fun w:Option Nat=>w.bind f) (show(some k).bind f=some n from hf),zar,zar,ih];congr 1;show PyData.int (((f ((k:Nat):Int).toNat).getD 0:Nat)+1)=_;rw[zaL,hf];rfl
  simp only[ws,e,IR]
def DQ(kp:∀s,s∈K↔Kp es G s)(hh:h∈K)(z:lv K Dn (rw_ G h)=0)(hd:∀s,(∃n,f s=some n)↔s∈Dn)(hf:∀s n,f s=some n->RK es G s n):RK es G h (rv f (rw_ G h)):=by
 obtain⟨h1,m0,h2⟩:=(kp h).mp hh;have bd:∀m,Wk es G h m->m<=rv f (rw_ G h):=fun m hm=>by
  cases m with
  |zero=>exact zbk _
  |succ m=>
   obtain⟨t,e,hw⟩:=hm;have em:=edge_rw.mp e;have tk:t∈K:=(kp t).mpr ⟨.next h1 e,m,hw⟩;obtain⟨n,hn⟩:=(hd t).mpr (Ek z em tk)
   have:=(hf t n hn).2 m hw
   have:=Da em hn;omega
 refine⟨?_,bd⟩;cases q:rv f (rw_ G h)with
 |zero=>
  have:=bd m0 h2;rw[q]at this;rw[Nat.le_zero.mp this]at h2;exact h2
 |succ n=>
  obtain⟨t,e,ht⟩:=r8 q;exact⟨t,edge_rw.mpr e,(hf t n ht).1⟩
def dg3{ks:List (D×D)}{z:Int}{t:D}{Q:D×En->Prop}(h:aJ ks (.int z)=some t):Ji (.int z) en Q (.dict ks)=Q (t,en):=by
 show W ((aJ ks (.int z)).map _) Q=_;rw[h];exact aC _ _
def AT(h:b[j]?=some s)(x:Nat):(b.take (j+1)).count x=(b.take j).count x+if x=s then 1 else 0:=by
 have et:=tk h;rw[et,List.count_append,List.count_singleton];by_cases q:x=s
 ·rw[if_pos q,if_pos (by simpa using q.symm)]
 ·rw[if_neg q,if_neg (by simpa using fun z=>q z.symm)]
def FI{R0:List Nat}{a:Nat->Nat}(kl:K.length<=1000)(hb:b.length<=20000)(ha:∀s∈K,b.count s<=a s)(hR:R0.length<=1000) 
  (hP:∀new o7,new.Nodup->(∀s,s∈new↔s∈K/\0<b.count s/\a s=b.count s)->P (.nx [x0,x1,some (ldD K fun s=>(a s:Int)-(b.count s:Nat)),x3,x4,some (nD (R0++new)),x6,o7])):
  W (cy (gN 7) gt (b.map iD) [x0,x1,some (ldD K fun s=>(a s:Int)),x3,x4,some (nD R0),x6,o7]) P:=by
 refine dq (fun j en=>∃new o7,en=[x0,x1,some (ldD K fun s=>(a s:Int)-((b.take j).count s:Nat)),x3,x4,some (nD (R0++new)),x6,o7]/\new.Nodup/\∀s,s∈new↔s∈K/\0<(b.take j).count s/\a s=(b.take j).count s) ⟨[],o7,?_,List.nodup_nil,fun s=>by simp⟩ ?_ ?_
 ·have e:ldD K (fun s=>(a s:Int))=ldD K fun s=>(a s:Int)-((b.take 0).count s:Nat):=by
   unfold ldD;rw[iB fun s _=>by
    show(a s:Int)=(a s:Int)-((b.take 0).count s:Nat);simp]
  rw[zbt,e]
 ·rintro j t en ht ⟨new,o7,rfl,nd,hn⟩;obtain⟨s,hs,rfl⟩:=gm ht;have ct:=AT hs;have sub:∀j x,(b.take j).count x<=b.count x:=fun j x=>(List.take_sublist j b).count_le x;by_cases sk:s∈K
  ·have lk:=fB (f:=fun s=>(a s:Int)-((b.take j).count s:Nat)) sk;have lk2:=fB (f:=upf (fun s=>(a s:Int)-((b.take j).count s:Nat)) s ((a s:Int)-((b.take j).count s:Nat)-1)) sk;have up1:upf (fun s=>(a s:Int)-((b.take j).count s:Nat)) s ((a s:Int)-((b.take j).count s:Nat)-1) s=(a s:Int)-((b.take (j+1)).count s:Nat):=by
    unfold upf;rw[if_pos rfl,ct s,if_pos rfl];omega
   rw[up1]at lk2;have ld:K.map (lkv (upf (fun s=>(a s:Int)-((b.take j).count s:Nat)) s ((a s:Int)-((b.take j).count s:Nat)-1)))=K.map (lkv fun s=>(a s:Int)-((b.take (j+1)).count s:Nat)):=iB fun x _=>by
    by_cases q:x=s
    ·subst q;exact up1
    ·unfold upf;rw[if_neg q,ct x,if_neg q];rfl
   rw[ld]at lk2;have h1:=ha s sk;have h2:=sub (j+1) s;have h3:=ct s;rw[if_pos rfl]at h3;have ns:s∉new:=fun z=>by
    have:=(hn s).mp z;omega
   simp only[ws,gt,iD,Ap,sk];refine iL ?_;simp only[ws,ldD,dg3 lk];refine⟨⟨_,rfl⟩,_,rfl,rfl,dg (by rw[zad];omega),?_⟩;rw[pN sk,ld];by_cases c:a s=(b.take (j+1)).count s
   ·have d1:decide ((a s:Int)-((b.take (j+1)).count s:Nat)=0)=true:=zaB (by omega);have nl:new.length<=1000:=by
     have:=ck nd (A:=K) fun x hx=>((hn x).mp hx).1;omega
    simp only[ws,dg3 lk2,d1,nD];have e4:List.map iD (R0++new)++[PyData.int (s:Int)]=List.map iD (R0++(new++[s])):=by rw[<-zaD,zaC (l₁:=R0++new)];rfl
    refine⟨dg (by rw[zae];omega),new++[s],some (.int (s:Int)),by rw[e4],?_,fun x=>?_⟩
    ·rw[zbd];exact⟨nd,by simp,fun x hx y hy e=>ns (by rw[<-zaH.mp hy,<-e];exact hx)⟩
    ·rw[zax,zaH,hn x,ct x];by_cases q:x=s
     ·subst q;rw[if_pos rfl];exact⟨fun _=>⟨sk,by omega,by omega⟩,fun _=>.inr rfl⟩
     ·rw[if_neg q];simp[q]
   ·have d1:decide ((a s:Int)-((b.take (j+1)).count s:Nat)=0)=false:=zaA (by omega);simp only[ws,dg3 lk2,d1];refine⟨new,some (.int (s:Int)),rfl,nd,fun x=>?_⟩;rw[hn x,ct x];by_cases q:x=s
    ·subst q;rw[if_pos rfl];constructor
     ·rintro⟨_,_,z⟩;omega
     ·rintro⟨_,_,z⟩;omega
    ·rw[if_neg q];simp
  ·simp only[ws,gt,iD,Ap,sk];refine⟨new,some (.int (s:Int)),?_,nd,fun x=>?_⟩
   ·have e:ldD K (fun s=>(a s:Int)-((b.take j).count s:Nat))=ldD K fun s=>(a s:Int)-((b.take (j+1)).count s:Nat):=by
     unfold ldD;rw[iB fun x hx=>by
      show(a x:Int)-((b.take j).count x:Nat)=(a x:Int)-((b.take (j+1)).count x:Nat);rw[ct x,if_neg (fun z:x=s=>sk (by rw[<-z];exact hx))];rfl]
    rw[e]
   ·rw[hn x,ct x];by_cases q:x=s
    ·subst q;simp[sk]
    ·rw[if_neg q];simp
 ·rintro en ⟨new,o7,rfl,nd,hn⟩;rw[zad,zaQ]at *;exact hP new o7 nd hn
def L7{x7:Option D}(ts:List D)(t:D):iI 5 [x0,x1,x2,x3,x4,some (.list (ts++[t])),x6,x7]=some (t,[x0,x1,x2,x3,x4,some (.list ts),x6,x7]):=by
 unfold iI;simp
def Ig{v:Nat}(hh:h<N):jn (rkL N f) (h:Int) (.int (v:Int))=some (rkL N fun s=>if s=h then some v else f s):=by
 unfold jn;rw[io (by unfold rkL;rw[zad,zbf];exact hh)];show some ((rkL N f).set h _)=_;congr 1;unfold rkL;refine List.ext_getElem? fun i=>?_;by_cases hi:i<N
 ·by_cases e:h=i
  ·subst e;rw[zaP (by rw[zad,zbf];exact hi),zao,zby hi];show some _=some (goD (if h=h then some v else f h));rw[if_pos rfl];rfl
  ·rw[zaO e,zao,zao,zby hi];show some (goD (f i))=some (goD (if i=h then some v else f i));rw[if_neg (Ne.symm e)]
 ·rw[zbm (by rw[zaV,zad,zbf];omega),zbm (by rw[zad,zbf];omega)]
def zA(M:Mx W0 es G):W (gM [gD G,nD (cx es G)]) (fun r=>∃f:Nat->Option Nat,r=(rkD G.length f,[none,none])/\(∀s n,f s=some n->Kp es G s/\RK es G s n)/\∀s,s<G.length->Kp es G s->f s=none->∃t,aZ G s t/\Kp es G t/\f t=none):=by
 have n:=M.g.n;have kl:(cx es G).length<=G.length:=fQ ..;have kn:(cx es G).Nodup:=jE ..;have kp:∀s,s∈cx es G↔Kp es G s:=fun s=>by
  unfold cx;rw[mem_sel];refine⟨fun h=>h.2,fun h=>⟨?_,h⟩⟩;obtain⟨h1,_⟩:=h;cases h1 with
  |first hs=>rw[zaH.mp hs];exact M.g.n1
  |next _ e=>exact M.g.elt _ _ e
 have klt:∀s∈cx es G,s<G.length:=fun s hs=>(mem_sel.mp hs).1;generalize cx es G=K at kl kn kp klt;have tk:=xo M.g kn klt (by omega);have wy:=uM M.g;simp only[gD]at tk wy ⊢;simp only[gM,qY,ws];refine W.ue tk ?_;simp only[ws];refine W.use wy ?_;rintro _ ⟨B,rfl,l1,l2,l3⟩;simp only[ws];refine iK (fun _=>.none) (szB (by rw[zad];omega)) (fun t _=>by simp only[ws,nc]) fun o=>?_;have e0:List.map (fun _=>PyData.none) (G.map ax)=rkL G.length fun _=>none:=by
  unfold rkL;rw[zaR];refine List.ext_getElem? fun i=>?_;by_cases hi:i<G.length
  ·rw[zao,zao,zby hi,zak hi];rfl
  ·rw[zbm (by rw[zad];omega),zbm (by rw[zad,zbf];omega)]
 simp only[ws,e0,nD];refine dQ (fun t=>match t with|.int z=>decide (lv K [] (rw_ G z.toNat)=0)|_=>false) (fun t=>t) (szB (by rw[zad];omega)) (fun t ht=>?_) (fun t ht _=>by simp only[ws,nb]) fun o=>?_
 ·obtain⟨s,hs,rfl⟩:=zaz.mp ht;have lk:=fB (f:=fun s=>(lv K [] (rw_ G s):Int)) hs;have d1:decide ((lv K [] (rw_ G s):Int)=0)=decide (lv K [] (rw_ G s)=0):=by
   rw[decide_eq_decide];omega
  simp only[ws,mX,iD,ldD,dg3 lk,d1,zaL]
 have er:List.map (fun t=>t) (List.filter (fun t=>match t with|PyData.int z=>decide (lv K [] (rw_ G z.toNat)=0)|_=>false) (K.map iD))=(K.filter fun s=>decide (lv K [] (rw_ G s)=0)).map iD:=by
  rw[List.map_id',zbD];congr 1
 simp only[ws,er];refine fY (fun m en=>∃(Dn R:List Nat) (f:Nat->Option Nat) (o6 o7:Option D),en=[some (.list (G.map ax)),some (.list (K.map iD)),some (ldD K fun s=>(lv K Dn (rw_ G s):Int)),some (.list ((toG B).map ax)),some (.list (rkL G.length f)),some (.list (R.map iD)),o6,o7]/\Dn.Nodup/\(∀s∈Dn,s∈K/\lv K Dn (rw_ G s)=0)/\R.Nodup/\(∀s∈R,s∈K/\s∉Dn/\lv K Dn (rw_ G s)=0)/\(∀s∈K,lv K Dn (rw_ G s)=0->s∈Dn\/s∈R)/\(∀s,(∃n,f s=some n)↔s∈Dn)/\(∀s n,f s=some n->RK es G s n)/\m=G.length-Dn.length) ?_ ⟨[],_,_,_,_,rfl,List.nodup_nil,(fun _ z=>by cases z),kn.filter _,fun s hs=>?_,fun s hs h=>.inr (zbE.mpr ⟨hs,by simpa using h⟩),fun s=>⟨(fun⟨_,z⟩=>nomatch z),(fun z=>by cases z)⟩,(fun s n z=>nomatch z),rfl⟩
 ·rintro m en ⟨Dn,R,f,o6,o7,rfl,d1,d2,r1,r2,r3,f1,f2,rfl⟩;rcases List.eq_nil_or_concat R with rfl|⟨R0,h,e⟩
  ·have z0:decide ((0:Int)<(([]:List Nat).length:Nat))=false:=rfl;simp only[ws,jv,z0];refine⟨f,rfl,fun s n h=>⟨(kp s).mp (d2 s ((f1 s).mp ⟨n,h⟩)).1,f2 s n h⟩,fun s hs hk hf=>?_⟩;by_cases z:lv K Dn (rw_ G s)=0
   ·rcases r3 s ((kp s).mpr hk) z with q|q
    ·obtain⟨n,hn⟩:=(f1 s).mpr q;rw[hf]at hn;cases hn
    ·cases q
   ·obtain⟨t,h1,h2,h3⟩:=IS z;refine⟨t,edge_rw.mpr h1,(kp t).mp h2,?_⟩;cases q:f t with
    |none=>rfl
    |some n=>exact absurd ((f1 t).mp ⟨n,q⟩) h3
  ·rw[List.concat_eq_append]at e;subst e;obtain⟨hk,hd,hz⟩:=r2 h (by simp);have hG:=klt h hk;have nr:=zbd.mp r1;have hr:G[h]?=some (rw_ G h):=by
    unfold rw_;rw[zak hG];rfl
   obtain⟨b,hb⟩:∃b,B[h]?=some b:=⟨_,zak (by omega)⟩;have bc:=l3 h b hb;have e4:=atR hr;have e5:atI ((toG B).map ax) (h:Int)=some (.list (b.map iD)):=by
    unfold toG;rw[bK,zao,zao,hb];show some (PyData.list _)=_;rw[zaR];rfl
   have z1:decide ((0:Int)<((List.map iD R0++[PyData.int (h:Int)]).length:Nat))=true:=by
    rw[zbj,zae];show(0:Int)<(((List.map iD R0).length+1:Nat):Int);omega
   have e3:List.map iD (R0++[h])=List.map iD R0++[.int (h:Int)]:=by rw[zaC];rfl
   have nd2:(Dn++[h]).Nodup:=by
    rw[zbd];exact⟨d1,by simp,fun a ha c hc e=>hd (by rw[<-zaH.mp hc,<-e];exact ha)⟩
   have dl:=ck nd2 (A:=K) fun x hx=>by
    rcases zax.mp hx with hx|hx
    ·exact(d2 x hx).1
    ·rw[zaH.mp hx];exact hk
   rw[zae]at dl;have dl':Dn.length+1<=K.length:=dl;have rl:=ck nr.1 (A:=K) fun x hx=>(r2 x (zbg _ hx)).1;have rk:=DR (N:=G.length) (f:=f) (r:=rw_ G h) (M.g.lt _ (zaX hr)) (M.g.w _ (zaX hr));simp only[ws,jv,m7,z1,e3];refine W.of (L7 (List.map iD R0) (.int (h:Int))) ?_;simp only[rkD]at rk;simp only[ws,e4];refine W.ue rk ?_;simp only[ws,Ig hG,e5];have sn:∀s,lv K Dn (rw_ G s)=lv K (Dn++[h]) (rw_ G s)+b.count s:=fun s=>by rw[bc s];exact vc hk hd _
   refine FI (K:=K) (b:=b) (R0:=R0) (a:=fun s=>lv K Dn (rw_ G s)) (by omega) (by have:=l2 b (zaX hb);omega) (fun s _=>by rw[sn s];omega) (by omega) fun new p7 n1 n2=>?_;simp only[ws];refine⟨G.length-(Dn++[h]).length,by rw[zae];show G.length-(Dn.length+1)<_;omega,Dn++[h],R0++new,(fun s=>if s=h then some (rv f (rw_ G h))else f s),some (.int (h:Int)),p7,?_,nd2,fun s hs=>?_,?_,fun s hs=>?_,fun s hs hz=>?_,fun s=>?_,fun s n hs=>?_,rfl⟩
   ·have:ldD K (fun s=>(lv K Dn (rw_ G s):Int)-(b.count s:Nat))=ldD K fun s=>(lv K (Dn++[h]) (rw_ G s):Int):=by
     unfold ldD;rw[iB fun s _=>by
      show(lv K Dn (rw_ G s):Int)-(b.count s:Nat)=(lv K (Dn++[h]) (rw_ G s):Int);rw[sn s];omega]
    rw[this];rfl
   ·rcases zax.mp hs with hs|hs
    ·have:=(d2 s hs).2;exact⟨(d2 s hs).1,by have:=sn s;omega⟩
    ·rw[zaH.mp hs];exact⟨hk,by have:=sn h;omega⟩
   ·rw[zbd];refine⟨nr.1,n1,fun x hx y hy e=>?_⟩;subst e;have q1:=(r2 x (zbg _ hx)).2.2;have q2:=(n2 x).mp hy;omega
   ·have ne:s∉Dn->s≠h->s∉Dn++[h]:=fun q1 q2 z=>(zax.mp z).elim q1 fun z=>q2 (zaH.mp z);rcases zax.mp hs with hs|hs
    ·obtain⟨q1,q2,q3⟩:=r2 s (zbg _ hs);exact⟨q1,ne q2 fun z=>nr.2.2 s hs h (by simp) z,by have:=sn s;omega⟩
    ·obtain⟨q1,q2,q3⟩:=(n2 s).mp hs;refine⟨q1,ne (fun z=>?_) (fun z=>?_),by have:=sn s;omega⟩
     ·have:=(d2 s z).2;omega
     ·subst z;omega
   ·by_cases q:lv K Dn (rw_ G s)=0
    ·rcases r3 s hs q with z|z
     ·exact .inl (zbg _ z)
     ·rcases zax.mp z with z|z
      ·exact .inr (zbg _ z)
      ·exact .inl (zbh _ z)
    ·have:=sn s;exact .inr (zbh _ ((n2 s).mpr ⟨hs,by omega,by omega⟩))
   ·show(∃n,(if s=h then some (rv f (rw_ G h))else f s)=some n)↔_;by_cases q:s=h
    ·rw[if_pos q];exact⟨fun _=>by simp[q],fun _=>⟨_,rfl⟩⟩
    ·rw[if_neg q,f1 s];simp[q]
   ·have hs':(if s=h then some (rv f (rw_ G h))else f s)=some n:=hs;by_cases q:s=h
    ·rw[if_pos q]at hs';cases hs';rw[q];exact DQ kp hk hz f1 f2
    ·rw[if_neg q]at hs';exact f2 s n hs'
 ·obtain⟨q1,q2⟩:=zbE.mp hs;exact⟨q1,by simp,by simpa using q2⟩
def Dq(S:List Nat):∀w:Option Nat,lH (goD w) (bw S)=some (.bool (inK S w))
 |none=>by
  show(if noT (S.map kv)=true then some (PyData.bool false)else none)=_;rw[if_pos (mF S)];rfl
 |some k=>Ds S k
def DM{U:List Nat}(rl:r.length<=12)(ht:some t∈r)(hU:t∈U):W (db [.list (r.map goD),bw U]) (fun q=>∃(j u:Nat),q=(.int (j:Int),[none,none])/\r[j]?=some (some u)/\u∈U):=by
 simp only[db,jX,ws];refine KD (fun i us en=>∃(L:List Nat) (o1 o2:Option D),us=L.map iD/\en=[o1,o2,some (bw U)]/\(∀j∈L,∃u,r[j]?=some (some u)/\u∈U)/\((∃u,some u∈r.take i/\u∈U)->L≠[])) (szB (by rw[fw,zad];omega)) ⟨[],none,none,rfl,rfl,(fun _ z=>by cases z),(fun⟨u,z,_⟩=>by simp at z)⟩ ?_ ?_
 ·rintro i t' us en ht' hu ⟨L,o1,o2,rfl,rfl,h1,h2⟩;obtain⟨v,hv,rfl⟩:=gK ht';obtain⟨w,hw,rfl⟩:=gm hv;have et:=tk hw;have no:inK U w=false->∀u,some u∈r.take (i+1)->u∈U->some u∈r.take i:=fun q u hu hk=>by
   rw[et]at hu;rcases zax.mp hu with hu|hu
   ·exact hu
   ·rw[<-zaH.mp hu]at q;simp[inK,hk]at q
  cases hq:inK U w with
  |false=>
   have q:=Dq U w;rw[hq]at q;simp only[ws,ft,q];exact⟨L,_,_,rfl,rfl,h1,fun⟨u,z1,z2⟩=>h2 ⟨u,no hq u z1 z2,z2⟩⟩
  |true=>
   have q:=Dq U w;rw[hq]at q;simp only[ws,ft,iT,q];cases w with
   |none=>cases hq
   |some u=>
    refine⟨L++[i],_,_,by rw[zaC];rfl,rfl,fun j hj=>?_,fun _ z=>by simp at z⟩;rcases zax.mp hj with hj|hj
    ·exact h1 j hj
    ·rw[zaH.mp hj];exact⟨u,hw,by simpa[inK]using hq⟩
 ·rintro us en hu ⟨L,o1,o2,rfl,rfl,h1,h2⟩;rw[fw,zad,zaQ]at h2;have ne:=h2 ⟨t,ht,hU⟩;cases L with
  |nil=>exact absurd rfl ne
  |cons j L=>
   obtain⟨u,g1,g2⟩:=h1 j zaq;have e0:atI ((j::L).map iD) 0=some (.int (j:Int)):=bK _ 0;simp only[ws,e0];exact⟨j,u,rfl,g1,g2⟩
def tJ{α:Type}(xs:List α)(n:Nat):eK xs none (some (n:Int))=xs.take n:=by
 unfold eK;rw[HT.sIx_none,HT.sIx_nat,List.drop_zero,Nat.sub_zero];by_cases h:n<=xs.length
 ·rw[Nat.min_eq_left h]
 ·rw[Nat.min_eq_right (by omega),List.take_of_length_le (zav _),List.take_of_length_le (by omega)]
def tK{α:Type}(xs:List α)(n:Nat):eK xs (some (n:Int)) none=xs.drop n:=by
 unfold eK;rw[HT.sIx_none,HT.sIx_nat,List.take_of_length_le (by rw[zaF];exact zav _)];by_cases h:n<=xs.length
 ·rw[Nat.min_eq_left h]
 ·rw[Nat.min_eq_right (by omega),List.drop_eq_nil_of_le (zav _),List.drop_eq_nil_of_le (by omega)]
def qy(es:List Bool)(G:Gr)(W:Nat)(t:D):Prop:=∃(A B C:List Nat) (h e:Nat),t=.tuple [.str "endless",nD A,nD B,nD C]/\A.length<=G.length/\B.length<=G.length/\C.length<=G.length/\B≠[]/\(∀i∈A,i<W)/\(∀i∈B,i<W)/\(∀i∈C,i<W)/\gon G (some 0) A=some h/\gon G (some h) B=some h/\gon G (some h) C=some e/\es[e]?=some true
def wp(K:List Nat)(f:Nat->Int)(k:Nat):cH (.int (k:Int)) (ldD K f)=some (.bool (!decide (k∈K))):=by
 show(if noT (K.map (lkv f))=true then some (PyData.bool (!(aJ (K.map (lkv f)) (.int (k:Int))).isSome))else none)=_;rw[if_pos (og K f),oB]
def wK(M:Mx W0 es G){U:List Nat}(h0:0∈U)(hU:∀s∈U,s<G.length/\Al es G s/\∃t,aZ G s t/\t∈U):W (gf [mD es G,bw U]) (fun r=>∃t,r=(t,[none,none])/\qy es G W0 t):=by
 have n:=M.g.n;simp only[gf,uf,ws,mD];refine W.of (show ja _=some (.dict [],_)from rfl) ?_;simp only[ws];refine fY (fun m en=>∃(V rs:List Nat) (f:Nat->Int) (h:Nat) (o5:Option D),en=[some (.tuple [.list (es.map .bool),.list (G.map ax)]),some (bw U),some (ldD V f),some (.list (rs.map iD)),some (.int (h:Int)),o5]/\V.Nodup/\(∀s∈V,s∈U)/\h∈U/\rs.length=V.length/\(∀(i s:Nat),V[i]?=some s->f s=(i:Int)/\gon G (some 0) (rs.take i)=some s)/\gon G (some 0) rs=some h/\(∀i∈rs,i<W0)/\m=G.length-V.length) ?_ ⟨[],[],fun _=>0,0,none,rfl,List.nodup_nil,(fun _ z=>by cases z),h0,rfl,(fun i s z=>by simp at z),rfl,(fun _ z=>by cases z),rfl⟩;rintro m en ⟨V,rs,f,h,o5,rfl,v1,v2,hh,rl,v3,g1,sg,rfl⟩;have vl:=ck v1 (A:=List.range G.length) fun s hs=>zbs.mpr (hU s (v2 s hs)).1;rw[zbf]at vl;obtain⟨hG,ha,t,et,tU⟩:=hU h hh;have hr:G[h]?=some (rw_ G h):=by
  unfold rw_;rw[zak hG];rfl
 by_cases hv:h∈V
 ·obtain⟨p,hp⟩:=zbr hv;obtain⟨fp,gp⟩:=v3 p h hp;have pl:=(zah.mp hp).1;have lk:=fB (f:=f) hv;rw[fp]at lk;obtain⟨e,fe,e1,e2,e3,e4⟩:=uE M.g M.w hG ha;have fr:=AD (es:=es) M.g hG M.le;rw[fe]at fr;have gd:gon G (some h) (rs.drop p)=some h:=by
   have:=ip G (rs.take p) (rs.drop p) (some 0);rw[List.take_append_drop,gp,g1]at this;exact this.symm
  simp only[ws,kz,wp,hv];simp only[ws,ldD,dg3 lk];refine W.ue fr ?_;simp only[ws,tJ,tK];refine⟨_,rfl,rs.take p,rs.drop p,e.r,h,e.k,?_,?_,?_,by omega,fun z=>?_,fun i hi=>sg i (List.mem_of_mem_take hi),fun i hi=>sg i (List.mem_of_mem_drop hi),e2,gp,gd,e3,e4⟩
  ·show PyData.tuple [_,PyData.list _,PyData.list _,_]=PyData.tuple [_,PyData.list _,PyData.list _,_];rw[List.map_take,List.map_drop]
  ·rw[zaE];omega
  ·rw[zaF];omega
  ·have:=congrArg List.length z;rw[zaF]at this;simp at this;omega
 ·have e4:=atR hr;simp only[ws,kz,pi,wp,hv];refine iL ?_;simp only[ws];refine⟨⟨_,rfl⟩,_,rfl,rfl,dg (by rw[zad];omega),?_⟩;rw[k7 hv];simp only[ws,e4];refine W.use (DM (M.g.w _ (zaX hr)) (edge_rw.mp et) tU) ?_;rintro _ ⟨j,u,rfl,hj,hu⟩;have jl:=(zah.mp hj).1;have e5:atI ((rw_ G h).map goD) (j:Int)=some (.int (u:Int)):=by rw[bK,zao,hj];rfl
  simp only[ws,e4,e5];have nd2:(V++[h]).Nodup:=by
   rw[zbd];exact⟨v1,by simp,fun a ha c hc e=>hv (by rw[<-zaH.mp hc,<-e];exact ha)⟩
  have vl2:=ck nd2 (A:=List.range G.length) fun s hs=>by
   rcases zax.mp hs with hs|hs
   ·exact zbs.mpr (hU s (v2 s hs)).1
   ·rw[zaH.mp hs];exact zbs.mpr hG
  rw[zbf,zae]at vl2;have vl3:V.length+1<=G.length:=vl2;have ld:led G h j=some u:=by
   unfold led;rw[hr];show((rw_ G h)[j]?).join=_;rw[hj];rfl
  refine⟨dg (by omega),G.length-(V++[h]).length,by rw[zae];show G.length-(V.length+1)<_;omega,V++[h],rs++[j],upf f h (rs.length:Int),u,some (.int (j:Int)),?_,nd2,fun s hs=>?_,hu,by rw[zae,zae,rl];rfl,fun i s hs=>?_,?_,fun i hi=>?_,rfl⟩
  ·have e6:(rs++[j]).map iD=rs.map iD++[.int (j:Int)]:=by rw[zaC];rfl
   rw[e6];rfl
  ·rcases zax.mp hs with hs|hs
   ·exact v2 s hs
   ·rw[zaH.mp hs];exact hh
  ·by_cases q:i<V.length
   ·rw[zaS q]at hs;obtain⟨a1,a2⟩:=v3 i s hs;refine⟨?_,by rw[List.take_append_of_le_length (by omega)];exact a2⟩;unfold upf;rw[if_neg (fun z=>hv (by rw[<-z];exact zaX hs))];exact a1
   ·rw[zbL (by omega)]at hs;have ei:i-V.length=0:=by
     have:=(zah.mp hs).1;simp at this;omega
    rw[ei]at hs;cases hs;refine⟨by unfold upf;rw[if_pos rfl];omega,?_⟩;rw[List.take_append_of_le_length (by omega),List.take_of_length_le (by omega)];exact g1
  ·rw[ip,g1];exact ld
  ·rcases zax.mp hi with hi|hi
   ·exact sg i hi
   ·rw[zaH.mp hi,<-M.w _ (zaX hr)];exact jl
theorem unb{es:List Bool}{G:Gr}{f:Nat->Option Nat}(hl:∀s,Kp es G s->s<G.length)(hn:∀s,s<G.length->Kp es G s->f s=none->∃t,aZ G s t/\Kp es G t/\f t=none):∀(k s:Nat),Kp es G s->f s=none->∃m,k<=m/\Wk es G s m
 |0,s,h,_=>let⟨m,hm⟩:=h.2;⟨m,zbk _,hm⟩
 |k+1,s,h,hf=>by
  obtain⟨t,h1,h2,h3⟩:=hn s (hl s h) h hf;obtain⟨m,h4,h5⟩:=unb hl hn k t h2 h3;exact⟨m+1,by omega,t,h1,h5⟩
def kc(M:Mx W0 es G)(h:Kp es G s):s<G.length:=by
 obtain⟨h1,_⟩:=h;cases h1 with
 |first hs=>rw[zaH.mp hs];exact M.g.n1
 |next _ e=>exact M.g.elt _ _ e
inductive Sp(es:List Bool)(G:Gr)(W:Nat):D->Prop
 |no (h:∀s,¬Kp es G s):Sp es G W (.tuple [.str "none",nD (aN G)])
 |endl {t:D} (h:∀k,∃m,k<=m/\Wk es G 0 m) (e:qy es G W t):Sp es G W t
 |last {f:Nat->Option Nat} (h0:Kp es G 0) (h1:∀s n,f s=some n->Kp es G s/\RK es G s n) (h2:∀s,Kp es G s->∃n,f s=some n):Sp es G W (.tuple [.str "last",rkD G.length f])
def DI(M:Mx W0 es G):W (mO [mD es G]) (fun r=>∃t,r=(t,[none])/\Sp es G W0 t):=by
 have n:=M.g.n;have kl:(cx es G).length<=G.length:=fQ ..;have kp:∀s,s∈cx es G↔Kp es G s:=fun s=>by
  unfold cx;rw[mem_sel];exact⟨fun h=>h.2,fun h=>⟨kc M h,h⟩⟩
 have ko:=Eu M;have mo:=xU (es:=es) M.g M.cm;have ro:=zA M;have eo:∀{U:List Nat},0∈U->(∀s∈U,s<G.length/\Al es G s/\∃t,aZ G s t/\t∈U)->W (gf [mD es G,bw U]) (fun r=>∃t,r=(t,[none,none])/\qy es G W0 t):=fun h0 h=>wK M h0 h;simp only[mD,gD]at ko mo ro eo ⊢;simp only[mO,DF,ws];refine W.ue ko ?_;by_cases hk:cx es G=[]
 ·have z0:decide (((cx es G).length:Int)=0)=true:=by rw[hk];rfl
  simp only[ws,nD,z0];refine W.ue mo ?_;simp only[ws,nD];refine⟨_,rfl,.no fun s hs=>?_⟩
  have:=(kp s).mpr hs;rw[hk]at this;cases this
 ·have z0:decide (((cx es G).length:Int)=0)=false:=by
   have:=List.length_pos_iff.mpr hk;rw[zbq];omega
  obtain⟨s0,hs0⟩:=List.exists_mem_of_ne_nil _ hk;have k0:Kp es G 0:=Es ((kp s0).mp hs0);simp only[ws,nD,z0]at ro ⊢;refine W.use ro ?_;rintro _ ⟨f,rfl,f1,f2⟩;have e0:=rB (f:=f) (k:=0) M.g.n1;simp only[rkD];cases hf:f 0 with
  |some m=>
   rw[hf]at e0;have e0':atI (rkL G.length f) 0=some (.int (m:Int)):=e0;simp only[ws,e0'];refine⟨_,rfl,.last k0 f1 fun s hs=>?_⟩;cases hq:f s with
   |some n=>exact⟨n,rfl⟩
   |none=>
    obtain⟨m1,h1,h2⟩:=unb (fun s h=>kc M h) f2 (m+1) s hs hq;obtain⟨m2,h3,h4⟩:=Dc hs.1 h2
    have:=(f1 0 m hf).2.2 m2 h4;omega
  |none=>
   rw[hf]at e0;have e0':atI (rkL G.length f) 0=some .none:=e0;simp only[ws,e0'];refine dQ (fun t=>match t with|.int z=>(f z.toNat).isNone|_=>false) (fun t=>t) (szB (by rw[zad];omega)) (fun t ht=>?_) (fun t ht _=>by simp only[ws,vK]) fun o=>?_
   ·obtain⟨s,hs,rfl⟩:=zaz.mp ht;have es:=rB (f:=f) (kc M ((kp s).mp hs));cases hq:f s with
    |none=>
     rw[hq]at es;have es':atI (rkL G.length f) (s:Int)=some .none:=es;simp only[ws,qr,iD,es',zaL,hq,Option.isNone]
    |some n=>
     rw[hq]at es;have es':atI (rkL G.length f) (s:Int)=some (.int (n:Int)):=es;simp only[ws,qr,iD,es',zaL,hq,Option.isNone]
   ·have er:List.map (fun t=>t) (List.filter (fun t=>match t with|PyData.int z=>(f z.toNat).isNone|_=>false) ((cx es G).map iD))=((cx es G).filter fun s=>(f s).isNone).map iD:=by
     rw[List.map_id',zbD];congr 1
    simp only[ws,er];have hU:∀s∈(cx es G).filter fun s=>(f s).isNone,Kp es G s/\f s=none:=fun s hs=>by
     obtain⟨q1,q2⟩:=zbE.mp hs;exact⟨(kp s).mp q1,by simpa using q2⟩
    have mU:∀s,Kp es G s->f s=none->s∈(cx es G).filter fun s=>(f s).isNone:=fun s h1 h2=>zbE.mpr ⟨(kp s).mpr h1,by rw[h2];rfl⟩;have mk:=lj (l:=(cx es G).filter fun s=>(f s).isNone) ((jE _ _).filter _) (by have:=List.length_filter_le (fun s=>(f s).isNone) (cx es G);omega);refine W.ue mk ?_;simp only[ws];refine W.use (eo (mU 0 k0 hf) fun s hs=>?_) ?_
    ·obtain⟨q1,q2⟩:=hU s hs;obtain⟨t,h1,h2,h3⟩:=f2 s (kc M q1) q1 q2;exact⟨kc M q1,q1.2,t,h1,mU t h2 h3⟩
    ·rintro _ ⟨t,rfl,ht⟩;simp only[ws];exact⟨_,rfl,.endl (fun k=>unb (fun s h=>kc M h) f2 k 0 k0 hf) ht⟩
def K4(h:k∉S):cz (S.map kv) (.int (k:Int)) (.bool true)=(S++[k]).map kv:=pO h
def El(M:Mx W0 es G):W (gO [mD es G]) (fun r=>r=(nD (aN G),[none])):=by
 have n:=M.g.n;obtain⟨Q,q0,q1,q2⟩:=M.cm;simp only[gO,qZ,ws,mD];refine W.of (show gi [(eC (.int 0),eC (.bool true))] [some (.tuple [.list (es.map .bool),.list (G.map ax)]),none,none,none,none]=some (bw [0],[some (.tuple [.list (es.map .bool),.list (G.map ax)]),none,none,none,none])from rfl) ?_;simp only[ws];refine fY (fun m en=>∃(S:List Nat) (a:Nat) (o4:Option D),en=[some (.tuple [.list (es.map .bool),.list (G.map ax)]),some (bw S),some (.list (S.map iD)),some (.int (a:Int)),o4]/\S.Nodup/\Q S/\0∈S/\a<=S.length/\(∀s∈S,s<G.length/\Rc (aZ G) [0] s)/\(∀(i s:Nat),i<a->S[i]?=some s->∀t,aZ G s t->t∈S)/\m=G.length-a) ?_ ⟨[0],0,none,rfl,by simp,q0,by simp,zbk _,(fun s hs=>by rw[zaH.mp hs];exact⟨M.g.n1,.first (by simp)⟩),(fun i s z=>absurd z (Nat.not_lt_zero _)),rfl⟩;rintro m en ⟨S,a,o4,rfl,s1,s2,s3,s4,s5,s6,rfl⟩;have sl:=ck s1 (A:=List.range G.length) fun s hs=>zbs.mpr (s5 s hs).1;rw[zbf]at sl;by_cases ha:a<S.length
 ·obtain⟨h,hh⟩:∃h,S[a]?=some h:=⟨_,zak ha⟩;have hm:=zaX hh;have hr:G[h]?=some (rw_ G h):=by
   unfold rw_;rw[zak (s5 h hm).1];rfl
  have d1:decide ((a:Int)<(S.length:Nat))=true:=zaB (by omega);have e1:atI (S.map iD) (a:Int)=some (.int (h:Int)):=by rw[bK,zao,hh];rfl
  have e4:=atR hr;simp only[ws,jw,m8,d1,e1,e4];refine dq (fun i en=>∃(new:List Nat) (o4:Option D),en=[some (.tuple [.list (es.map .bool),.list (G.map ax)]),some (bw (S++new)),some (.list ((S++new).map iD)),some (.int (a:Int)),o4]/\(S++new).Nodup/\Q (S++new)/\(∀s∈S++new,s<G.length/\Rc (aZ G) [0] s)/\∀t,some t∈(rw_ G h).take i->t∈S++new) ⟨[],o4,by rw[zbt],by rw[zbt];exact s1,by rw[zbt];exact s2,by rw[zbt];exact s5,fun t z=>by simp at z⟩ ?_ ?_
  ·rintro i t en ht ⟨new,o4,rfl,g1,g2,g3,g4⟩;obtain⟨w,hw,rfl⟩:=gm ht;have et:=tk hw;cases w with
   |none=>
    simp only[ws,gu,goD];exact⟨new,_,rfl,g1,g2,g3,fun t z=>by
     rw[et]at z;rcases zax.mp z with z|z
     ·exact g4 t z
     ·simp at z⟩
   |some k=>
    have ed:aZ G h k:=edge_rw.mpr (zaX hw);by_cases hk:k∈S++new
    ·simp only[ws,gu,goD,om,hk];exact⟨new,_,rfl,g1,g2,g3,fun t z=>by
      rw[et]at z;rcases zax.mp z with z|z
      ·exact g4 t z
      ·rw[zat (zaH.mp z)];exact hk⟩
    ·have lN:=ck g1 (A:=List.range G.length) fun s hs=>zbs.mpr (g3 s hs).1;rw[zbf]at lN;simp only[ws,gu,goD,om,hk];refine iL ?_;simp only[ws];refine⟨⟨_,rfl⟩,(S++new).map kv,rfl,rfl,dg (by rw[zad];omega),?_⟩;rw[K4 hk];have en':S++new++[k]=S++(new++[k]):=zaD ..;have e2:List.map iD (S++new)++[PyData.int (k:Int)]=List.map iD (S++(new++[k])):=by rw[<-en',zaC (l₁:=S++new)];rfl
     refine⟨dg (by omega),new++[k],some (.int (k:Int)),by rw[en',e2];rfl,by rw[<-en'];exact jG g1 hk,by rw[<-en'];exact q1 _ h k g2 (zbg _ hm) ed hk,fun s z=>?_,fun t z=>?_⟩
     ·rw[<-en']at z;rcases zax.mp z with z|z
      ·exact g3 s z
      ·rw[zaH.mp z];exact⟨M.g.elt h k ed,.next (s5 h hm).2 ed⟩
     ·rw[<-en'];rw[et]at z;rcases zax.mp z with z|z
      ·exact zbg _ (g4 t z)
      ·rw[zat (zaH.mp z)];exact zbh _ zaq
  ·rintro en ⟨new,o4,rfl,g1,g2,g3,g4⟩;rw[zad,zaQ]at g4;simp only[ws];refine⟨G.length-(a+1),by omega,S++new,a+1,_,rfl,g1,g2,zbg _ s3,by rw[zae];omega,g3,fun i s hi hs t e=>?_,rfl⟩;rw[zaS (by omega)]at hs;by_cases q:i=a
   ·subst q;rw[hh]at hs;cases hs;exact g4 t (edge_rw.mp e)
   ·exact zbg _ (s6 i s (by omega) hs t e)
 ·have d1:decide ((a:Int)<(S.length:Nat))=false:=zaA (by omega);have so:rP [.list (S.map iD)]=some (nD (aN G)):=by
   have iv:cv (S.map iD)=some (S.map fun k:Nat=>(k:Int)):=by
    clear s1 s2 s3 s4 s5 s6 sl ha d1
    induction S with
    |nil=>rfl
    |cons k S ih=>
     show(cv (S.map iD)).map ((k:Int)::·)=_;rw[ih];rfl
   show(cv (S.map iD)).bind _=_;rw[iv];show grd _ _=_;unfold grd;rw[if_pos (q2 S s2 s1 fun s hs=>(s5 s hs).1)]
   have:=uR (N:=G.length) (P:=Rc (aZ G) [0]) s1 fun s=>⟨fun h=>s5 s h,fun h=>Rc.inn (fun x hx=>by rw[zaH.mp hx];exact s3) (fun x hx t e=>by
    obtain⟨i,hi⟩:=zbr hx
    have:=(zah.mp hi).1;exact s6 i x (by omega) hi t e) h.2⟩
   exact congrArg some this
  simp only[ws,jw,d1,so]
def cst(f:Nat->Nat):Nat->Int:=fun s=>(f s:Int)
def upn(f:Nat->Nat)(k v:Nat):Nat->Nat:=fun s=>if s=k then v else f s
def ins(E:List Nat)(k:Nat):List Nat:=if k∈E then E else E++[k]
def vl(E:List Nat)(f:Nat->Nat)(s:Nat):Nat:=if s∈E then f s+1 else 0
def mem_ins:s∈ins E k↔s=k\/s∈E:=by
 unfold ins;split
 ·exact⟨.inr,fun h=>by rcases h with rfl|h<;>assumption⟩
 ·rw[zax,zaH];exact or_comm
def Jo(h:E.Nodup):(ins E k).Nodup:=by
 unfold ins;split
 ·exact h
 ·exact jG h ‹_›
def K5(E:List Nat)(f:Nat->Nat)(k v:Nat):cz (E.map (lkv (cst f))) (.int (k:Int)) (.int (v:Int))=(ins E k).map (lkv (cst (upn f k v))):=by
 have e:upf (cst f) k (v:Int)=cst (upn f k v):=by
  funext s
  unfold upf cst upn;split<;>rfl
 rw[<-e];unfold ins;split
 ·exact pN ‹_› _
 ·exact k7 ‹_› _
def Jq{f:Nat->Nat}:iJ (aa 2) (aa 4) (e1 nz (eC (.int 1))) [m,x1,some (ldD E (cst f)),x3,some (.int (s:Int)),x5]=some (.int ((vl E f s:Int)-1),[m,x1,some (ldD E (cst f)),x3,some (.int (s:Int)),x5]):=by
 show(if noT (E.map (lkv (cst f)))=true then some ((aJ (E.map (lkv (cst f))) (.int (s:Int))).getD (.int (-1)),_)else none)=_;rw[if_pos (og ..)];unfold vl;by_cases h:s∈E
 ·rw[fB h,if_pos h];show some (PyData.int (f s:Int),_)=some (PyData.int (((f s+1:Nat):Int)-1),_);rw[show((f s+1:Nat):Int)-1=(f s:Int)by omega]
 ·have:aJ (E.map (lkv (cst f))) (.int (s:Int))=none:=by
   have:=oB E (cst f) s;rw[zaA h]at this;cases q:aJ (E.map (lkv (cst f))) (.int (s:Int))with
   |none=>rfl
   |some x=>rw[q]at this;cases this
  rw[this,if_neg h];rfl
def Lp{f:Nat->Int}(h:s∈E):lJ (ldD E f) (.int (s:Int))=some (.int (f s)):=fB h
def Lo{f:Nat->Nat}{M:Nat}{l:List D}(hl:l.length=M)(hM:M<=1000)(hE:E.length<1001){o:Option Nat}{g:Bool}{Q:Fl->Prop}
  (h1:(∀t,o=some t->t∈E->f t+1<vl E f s)->Q (.nx [m,some (.list l),some (ldD E (cst f)),some (.bool g),some (.int (s:Int)),some (goD o)]))
  (h2:∀t,o=some t->t∈E->vl E f s<=f t+1->f t+1≠M->Q (.nx [m,some (.list l),some (ldD (ins E s) (cst (upn f s (f t+1)))),some (.bool true),some (.int (s:Int)),some (goD o)]))
  (h3:∀t,o=some t->t∈E->f t+1=M->∀a b c d e,Q (.rt .none [a,b,c,d,e,some (goD o)])):
  W (fL [m,some (.list l),some (ldD E (cst f)),some (.bool g),some (.int (s:Int)),some (goD o)]) Q:=by
 simp only[ws,fL,Dr];cases o with
 |none=>
  simp only[inK,ws];exact h1 fun t e=>by cases e
 |some t=>
  by_cases ht:t∈E
  ·have e2:inK E (some t)=true:=by simp[inK,ht]
   simp only[e2,ws,Jq,goD,Lp ht];by_cases hc:(vl E f s:Int)-1<=cst f t
   ·have hc':vl E f s<=f t+1:=by have:(vl E f s:Int)-1<=(f t:Int):=hc;omega
    simp only[hc,decide_true,ws];refine iL ?_;simp only[ws,ldD,dg3 (fB (f:=cst f) ht)];refine⟨⟨_,rfl⟩,_,rfl,rfl,dg (by rw[zad];omega),?_⟩;have ev:cst f t+1=((f t+1:Nat):Int):=rfl;have me:s∈ins E s:=mem_ins.mpr (.inl rfl);have eu:cst (upn f s (f t+1)) s=((f t+1:Nat):Int):=by unfold cst upn;rw[if_pos rfl]
    rw[ev,K5];simp only[ws,dg3 (fB (f:=cst (upn f s (f t+1))) me),eu];by_cases hm:f t+1=M
    ·have d:decide (((f t+1:Nat):Int)=(l.length:Nat))=true:=zaB (by omega);simp only[d,ws];exact h3 t rfl ht hm _ _ _ _ _
    ·have d:decide (((f t+1:Nat):Int)=(l.length:Nat))=false:=zaA (by omega);simp only[d,ws];exact h2 t rfl ht hc' hm
   ·simp only[hc,decide_false,ws];refine h1 fun t' e _=>?_;cases e
    have:¬(vl E f s:Int)-1<=(f t:Int):=hc;omega
  ·have e2:inK E (some t)=false:=by simp[inK,ht]
   simp only[e2,ws];exact h1 fun t' e h=>by cases e;exact absurd h ht
def HQ{f:Nat->Nat}(h:∀s∈l,g s<=f s):(l.map g).sum<=(l.map f).sum:=by
 induction l with
 |nil=>exact zav _
 |cons a l ih=>
  rw[zar,zar,List.sum_cons,List.sum_cons]
  have:=h a zaq
  have:=ih fun s hs=>h s (zaj _ hs);omega
def HP{f:Nat->Nat}(h:∀s∈l,g s<=f s)(hk:k∈l)(hlt:g k<f k):(l.map g).sum<(l.map f).sum:=by
 induction l with
 |nil=>cases hk
 |cons a l ih=>
  rw[zar,zar,List.sum_cons,List.sum_cons];have h1:=h a zaq;have h2:=HQ (l:=l) (f:=f) (g:=g) fun s hs=>h s (zaj _ hs);rcases zay.mp hk with rfl|hk
  ·omega
  ·have:=ih (fun s hs=>h s (zaj _ hs)) hk;omega
def mu(G:Gr)(E:List Nat)(f:Nat->Nat):Nat:=((aN G).map fun s=>(aN G).length+1-vl E f s).sum
structure LI(es:List Bool)(G:Gr)(E:List Nat)(f:Nat->Nat):Prop where
 nd:E.Nodup
 sub:∀s∈E,s∈aN G
 wk:∀s∈E,Wk es G s (f s)/\f s<(aN G).length
 en:∀s∈aN G,es[s]?=some true->s∈E
def Ll{f:Nat->Nat}(h:LI es G E f)(hs:s∈aN G)(ed:aZ G s t)(ht:t∈E)(hv:vl E f s<=f t+1)(hm:f t+1≠(aN G).length):LI es G (ins E s) (upn f s (f t+1))/\mu G (ins E s) (upn f s (f t+1))<mu G E f:=by
 obtain⟨w1,w2⟩:=h.wk t ht;refine⟨⟨Jo h.nd,fun x hx=>?_,fun x hx=>?_,fun x hx he=>mem_ins.mpr (.inr (h.en x hx he))⟩,?_⟩
 ·rcases mem_ins.mp hx with rfl|hx
  ·exact hs
  ·exact h.sub x hx
 ·unfold upn;by_cases e:x=s
  ·rw[if_pos e,e];exact⟨⟨t,ed,w1⟩,by omega⟩
  ·rw[if_neg e];rcases mem_ins.mp hx with z|hx
   ·exact absurd z e
   ·exact h.wk x hx
 ·have vs:vl (ins E s) (upn f s (f t+1)) s=f t+2:=by
   unfold vl upn;rw[if_pos (mem_ins.mpr (.inl rfl)),if_pos rfl]
  refine HP (k:=s) (fun x _=>?_) hs ?_
  ·by_cases e:x=s
   ·subst e;omega
   ·have:vl (ins E s) (upn f s (f t+1)) x=vl E f x:=by
     unfold vl upn;rw[if_neg e]
     have:x∈ins E s↔x∈E:=by rw[mem_ins];exact⟨fun h=>h.resolve_left e,.inr⟩
     by_cases q:x∈E
     ·rw[if_pos q,if_pos (this.mpr q)]
     ·rw[if_neg q,if_neg (fun z=>q (this.mp z))]
    rw[this];exact zav _
  ·show(aN G).length+1-vl (ins E s) (upn f s (f t+1)) s<(aN G).length+1-vl E f s;omega
def Fx(G:Gr)(E:List Nat)(f:Nat->Nat)(s:Nat):Prop:=∀t,aZ G s t->t∈E->f t+1<vl E f s
def sE(g:GOk G)(h:s∈aN G)(e:aZ G s t):t∈aN G:=mem_sel.mpr ⟨g.elt s t e,.next (mem_sel.mp h).2 e⟩
theorem sI{es:List Bool}{G:Gr}(g:GOk G){E:List Nat}{f:Nat->Nat}(h:LI es G E f)(hx:∀s∈aN G,Fx G E f s):∀(m s:Nat),s∈aN G->Wk es G s m->s∈E/\m<=f s
 |0,s,hs,hw=>⟨h.en s hs hw,zbk _⟩
 |m+1,s,hs,⟨t,ed,hw⟩=>by
  obtain⟨h1,h2⟩:=sI g h hx m t (sE g hs ed) hw
  have:=hx s hs t ed h1;unfold vl at this;split at this
  ·exact⟨‹_›,by omega⟩
  ·omega
inductive Lg(es:List Bool)(G:Gr):D->Prop
 |no {s:Nat} (hs:s∈aN G) (h:Wk es G s (aN G).length):Lg es G .none
 |ok {E:List Nat} {f:Nat->Nat} (h1:∀s∈E,RK es G s (f s)) (h2:∀s,s∈E↔Kp es G s):Lg es G (ldD E (cst f))
theorem sr:∀xs:List Nat,jF (xs.map fun s:Nat=>.tuple [iD s,.int 0])=some (xs.map fun s:Nat=>((s:Int),(0:Int)))
 |[]=>rfl
 |x::xs=>by
  show(jF (xs.map fun s:Nat=>.tuple [iD s,.int 0])).map _=_;rw[sr xs];rfl
theorem uX:∀(xs ys:List Nat),(ys++xs).Nodup->j5 (xs.map fun s:Nat=>((s:Int),(0:Int))) (ys.map fun s:Nat=>((s:Int),(0:Int)))=(ys++xs).map fun s:Nat=>((s:Int),(0:Int))
 |[],ys,_=>by rw[zbt];rfl
 |x::xs,ys,h=>by
  have e:ys++x::xs=ys++[x]++xs:=by rw[zaD];rfl
  have nx:x∉ys:=fun z=>(zbd.mp h).2.2 x z x zaq rfl;show j5 _ (nq (ys.map fun s:Nat=>((s:Int),(0:Int))) (x:Int) 0)=_
  have:nq (ys.map fun s:Nat=>((s:Int),(0:Int))) (x:Int) 0=(ys++[x]).map fun s:Nat=>((s:Int),(0:Int)):=by
   unfold nq;rw[if_neg,zaC]
   ·rfl
   ·intro z;obtain⟨q,hq,e⟩:=List.any_eq_true.mp z;obtain⟨y,hy,rfl⟩:=zaz.mp hq
    have:(y:Int)=(x:Int):=of_decide_eq_true e;exact nx (by rw[<-Int.ofNat.inj this];exact hy)
  rw[this,uX xs (ys++[x]) (by rw[<-e];exact h),e]
def mB(h:s<G.length):G[s]?=some (rw_ G s):=by
 unfold rw_;rw[zak h];rfl
def wv(M:Mx W0 es G):W (dC [mD es G,nD (aN G)]) (fun r=>∃t,r=(t,[none,none])/\Lg es G t):=by
 have n:=M.g.n;have ml:(aN G).length<=G.length:=fQ ..;have lt:∀s∈aN G,s<G.length:=fun s hs=>(mem_sel.mp hs).1;have el:=M.le;simp only[dC,kZ,ws,nD,mD];refine dQ (fun t=>match t with|.int z=>es.getD z.toNat false|_=>false) (fun t=>.tuple [t,.int 0]) (szB (by rw[zad];omega)) (fun t ht=>?_) (fun t ht _=>by simp only[ws,jm]) fun o=>?_
 ·obtain⟨s,hs,rfl⟩:=zaz.mp ht;have ea:atI (es.map PyData.bool) (s:Int)=some (.bool (es.getD s false)):=by
   have:=lt s hs;rw[bK,zao,zak (by omega),zbi,zak (by omega)];rfl
  simp only[ws,jd,iD,ea,zaL]
 ·have e0:tI [.list (((aN G).map iD).filter (fun t=>match t with|.int z=>es.getD z.toNat false|_=>false) |>.map fun t=>PyData.tuple [t,.int 0])]=some (ldD ((aN G).filter fun s=>es.getD s false) (cst fun _=>0)):=by
   rw[zbD,zaR];show(jF (((aN G).filter fun s=>es.getD s false).map fun s:Nat=>.tuple [iD s,.int 0])).map _=_;rw[sr]
   have:=uX ((aN G).filter fun s=>es.getD s false) [] ((jE _ _).filter _);show some (PyData.dict ((j5 _ ([]:List (Int×Int))).map _))=_;rw[show([]:List (Int×Int))=([]:List Nat).map (fun s:Nat=>((s:Int),(0:Int)))from rfl,this,List.nil_append,zaR];rfl
  simp only[ws,e0];have mm:∀s∈(aN G).filter fun s=>es.getD s false,s∈aN G/\es[s]?=some true:=fun s hs=>by
   obtain⟨h1,h2⟩:=zbE.mp hs;refine⟨h1,?_⟩;rw[zbi,zak (by have:=lt s h1;omega)]at h2;rw[zak (by have:=lt s h1;omega)];exact congrArg some h2
  have L0:LI es G ((aN G).filter fun s=>es.getD s false) fun _=>0:=⟨(jE _ _).filter _,fun s hs=>(mm s hs).1,fun s hs=>⟨(mm s hs).2,List.length_pos_of_mem (mm s hs).1⟩,fun s hs he=>zbE.mpr ⟨hs,by rw[zbi,he];rfl⟩⟩;refine fY (fun m en=>∃(E:List Nat) (f:Nat->Nat) (g:Bool) (o4 o5:Option D),en=[some (.tuple [.list (es.map .bool),.list (G.map ax)]),some (.list ((aN G).map iD)),some (ldD E (cst f)),some (.bool g),o4,o5]/\LI es G E f/\(g=false->∀s∈aN G,Fx G E f s)/\m=mu G E f+g.toNat) ?_ ⟨_,_,true,none,none,rfl,L0,(fun z=>by cases z),rfl⟩;rintro m en ⟨E,f,g,o4,o5,rfl,L,hg,rfl⟩;cases g with
  |false=>
   simp only[ws,fI];refine⟨_,rfl,.ok (fun s hs=>⟨(L.wk s hs).1,fun m hm=>(sI M.g L (hg rfl) m s (L.sub s hs) hm).2⟩) fun s=>⟨fun hs=>⟨(mem_sel.mp (L.sub s hs)).2,_,(L.wk s hs).1⟩,fun⟨h1,m,h2⟩=>(sI M.g L (hg rfl) m s (mem_sel.mpr ⟨kc M ⟨h1,m,h2⟩,h1⟩) h2).1⟩⟩
  |true=>
   simp only[ws,fI,ji];refine dq (fun i en=>∃(E':List Nat) (f':Nat->Nat) (g:Bool) (o4 o5:Option D),en=[some (.tuple [.list (es.map .bool),.list (G.map ax)]),some (.list ((aN G).map iD)),some (ldD E' (cst f')),some (.bool g),o4,o5]/\LI es G E' f'/\(g=true->mu G E' f'<mu G E f)/\(g=false->E'=E/\f'=f/\∀s∈(aN G).reverse.take i,Fx G E f s)) ⟨E,f,false,o4,o5,rfl,L,(fun z=>by cases z),fun _=>⟨rfl,rfl,fun s z=>by simp at z⟩⟩ ?_ ?_
   ·rintro i t en ht ⟨E1,f1,g,o4,o5,rfl,L1,c1,c2⟩;rw[<-List.map_reverse,zao]at ht;obtain⟨s,hs,rfl⟩:=zab.mp ht;have sm:s∈aN G:=List.mem_reverse.mp (zaX hs);have et:=tk hs;have hr:=mB (lt s sm);have e4:=atR hr;simp only[ws,jj,iD,e4];refine dq (fun j en=>∃(E2:List Nat) (f2:Nat->Nat) (g:Bool) (o5:Option D),en=[some (.tuple [.list (es.map .bool),.list (G.map ax)]),some (.list ((aN G).map iD)),some (ldD E2 (cst f2)),some (.bool g),some (.int (s:Int)),o5]/\LI es G E2 f2/\(g=true->mu G E2 f2<mu G E f)/\(g=false->E2=E/\f2=f/\(∀s∈(aN G).reverse.take i,Fx G E f s)/\∀t,some t∈(rw_ G s).take j->t∈E->f t+1<vl E f s)) ⟨E1,f1,g,o5,rfl,L1,c1,fun z=>⟨(c2 z).1,(c2 z).2.1,(c2 z).2.2,fun t z=>by simp at z⟩⟩ ?_ ?_
    ·rintro j t en ht ⟨E2,f2,g,o5,rfl,L2,c1,c2⟩;obtain⟨w,hw,rfl⟩:=gm ht;have ew:=tk hw;have ed:∀t,w=some t->aZ G s t:=fun t e=>edge_rw.mpr (by rw[<-e];exact zaX hw);have E2l:=ck L2.nd (A:=aN G) L2.sub;simp only[ws];refine Lo (zad ..) (by omega) (by omega) (fun h=>?_) (fun t e h1 h2 h3=>?_) fun t e h1 h2 a b c d x=>?_
     ·simp only[ws];refine⟨E2,f2,g,_,rfl,L2,c1,fun z=>?_⟩;obtain⟨q1,q2,q3,q4⟩:=c2 z;refine⟨q1,q2,q3,fun t ht he=>?_⟩;rw[ew]at ht;rcases zax.mp ht with ht|ht
      ·exact q4 t ht he
      ·subst q1 q2;exact h t (zaH.mp ht).symm he
     ·simp only[ws];obtain⟨l1,l2⟩:=Ll L2 sm (ed t e) h1 h2 h3;refine⟨_,_,true,_,rfl,l1,fun _=>?_,fun z=>by cases z⟩;cases g with
      |true=>exact Nat.lt_trans l2 (c1 rfl)
      |false=>
       obtain⟨rfl,rfl,_⟩:=c2 rfl;exact l2
     ·simp only[ws];exact⟨_,rfl,.no sm (by rw[<-h2];exact⟨t,ed t e,(L2.wk t h1).1⟩)⟩
    ·rintro en ⟨E2,f2,g,o5,rfl,L2,c1,c2⟩;rw[zad,zaQ]at c2;simp only[ws];refine⟨E2,f2,g,_,_,rfl,L2,c1,fun z=>?_⟩;obtain⟨q1,q2,q3,q4⟩:=c2 z;refine⟨q1,q2,fun x hx=>?_⟩;rw[et]at hx;rcases zax.mp hx with hx|hx
     ·exact q3 x hx
     ·rw[zaH.mp hx];exact fun t e he=>q4 t (edge_rw.mp e) he
   ·rintro en ⟨E1,f1,g,o4,o5,rfl,L1,c1,c2⟩;simp only[ws];rw[List.length_reverse,zad,<-List.length_reverse,zaQ]at c2;refine⟨_,?_,E1,f1,g,_,_,rfl,L1,fun z s hs=>?_,rfl⟩
    ·cases g with
     |true=>
      have:=c1 rfl;show _<mu G E f+1;show mu G E1 f1+1<_;omega
     |false=>
      obtain⟨rfl,rfl,_⟩:=c2 rfl;exact zaJ _
    ·obtain⟨rfl,rfl,q⟩:=c2 z;exact q s (List.mem_reverse.mpr hs)
def Sm(j:Nat)(t:D):Prop:=W (aW j [t,t]) (fun r=>r=(.bool true,[none,none]))
theorem all_map{α:Type}(f:α->Bool)(l:List α):qp [.list (l.map fun a=>.bool (f a))]=some (.bool (l.all f)):=by
 show(iu _).map _=_
 have:iu (l.map fun a=>PyData.bool (f a))=some (l.map f):=by
  induction l with
  |nil=>rfl
  |cons a l ih=>
   show(iu (l.map fun a=>PyData.bool (f a))).map (f a::·)=_;rw[ih];rfl
 rw[this];show some (PyData.bool ((l.map f).all id))=_;rw[List.all_map];rfl
def lE(z:Int):eqD (.int z) (.int z)=some (.bool true):=by
 show grd _ _=_;unfold grd;rw[if_pos ⟨rfl,rfl,zbk _⟩];simp[peq]
def r6(j:Nat)(z:Int):Sm (j+1) (.int z):=by
 unfold Sm;have i1:fE ["list","tuple"] (.int z)=some (.bool false):=rfl;have i2:fE ["bool","str"] (.int z)=some (.bool false):=rfl;simp only[aW,dy,ws,i1,i2,lE]
def xb(hl:ts.length<=1000)(h:∀t∈ts,Sm j t){Q:List D×En->Prop}(hen:en=[none,none])(hQ:∀en,Q (ts.map fun _=>.bool true,en)):W (lcF (gT (gsC (gN 0) (gsC (gN 1) gs0))) cY (iU (aW j)) (eJ ts ts) [] en) Q:=by
 subst hen;have zl:(eJ ts ts).length=ts.length:=by unfold eJ;rw[List.length_zipWith];omega
 refine KC (fun en=>∃a b,en=[a,b]) (fun _=>.bool true) (szB (by omega)) ⟨none,none,rfl⟩ (fun u hu en hj=>?_) fun en _=>?_
 ·obtain⟨a,b,rfl⟩:=hj;obtain⟨i,hi⟩:=zbr hu;unfold eJ at hi;rw[List.getElem?_zipWith]at hi;cases ht:ts[i]? with
  |none=>rw[ht]at hi;cases hi
  |some t=>
   rw[ht]at hi;cases hi;simp only[ws,iU];refine W.ue (h t (zaX ht)) ?_;simp only[ws];exact⟨_,_,rfl⟩
 ·have:(eJ ts ts).map (fun _=>PyData.bool true)=ts.map fun _=>.bool true:=by
   rw[List.map_const',List.map_const',zl]
  rw[this];exact hQ en
def nI(ts:List D):qp [.list (ts.map fun _=>.bool true)]=some (.bool true):=by
 rw[all_map (fun _=>true) ts];simp
def qD(hl:ts.length<=1000)(h:∀t∈ts,Sm j t):Sm (j+1) (.list ts):=by
 unfold Sm;have i1:fE ["list","tuple"] (.list ts)=some (.bool true):=rfl;have i3:dh "list" (.list ts)=some (.bool true):=rfl;have n1:neD (.bool true) (.bool true)=some (.bool false):=rfl;simp only[aW,dy,ws,i1,i3,n1,lE];refine yS (ts:=ts) (us:=ts) (en1:=[some (.list ts),some (.list ts)]) ?_;simp only[ws];refine⟨.inl trivial,xb hl h rfl fun en=>?_⟩;simp only[ws,nI]
def rY(hl:ts.length<=1000)(h:∀t∈ts,Sm j t):Sm (j+1) (.tuple ts):=by
 unfold Sm;have i1:fE ["list","tuple"] (.tuple ts)=some (.bool true):=rfl;have i3:dh "list" (.tuple ts)=some (.bool false):=rfl;have n1:neD (.bool false) (.bool false)=some (.bool false):=rfl;simp only[aW,dy,ws,i1,i3,n1,lE];refine yS (ts:=ts) (us:=ts) (en1:=[some (.tuple ts),some (.tuple ts)]) ?_;simp only[ws];refine⟨.inr trivial,xb hl h rfl fun en=>?_⟩;simp only[ws,nI]
def Ko(x:Str):eqD (.str x) (.str x)=some (.bool true):=by
 show grd _ _=_;unfold grd;rw[if_pos ⟨rfl,rfl,zbk _⟩];simp[peq]
def rZ{x:Str}(hx:mC [.str x]=some (.str (PyData.shown (.str x))))(j:Nat):Sm (j+1) (.str x):=by
 unfold Sm;have i1:fE ["list","tuple"] (.str x)=some (.bool false):=rfl;have i2:fE ["bool","str"] (.str x)=some (.bool true):=rfl;simp only[aW,dy,ws,i1,i2,hx,Ko]
def xA(j:Nat):Sm (j+1) (.str "none"):=rZ (if_pos ⟨rfl,by decide +kernel,by decide +kernel,by decide +kernel⟩) j
def xB(j:Nat):Sm (j+1) (.str "last"):=rZ (if_pos ⟨rfl,by decide +kernel,by decide +kernel,by decide +kernel⟩) j
def HZ(j:Nat):Sm (j+1) .none:=by
 unfold Sm;have i1:fE ["list","tuple"] .none=some (.bool false):=rfl;have i2:fE ["bool","str"] .none=some (.bool false):=rfl;have hx:mC [.none]=some (.str (PyData.shown .none)):=by
  show grd _ _=_;exact if_pos ⟨rfl,by decide +kernel,by decide +kernel,by decide +kernel⟩
 simp only[aW,dy,ws,i1,i2,hx,Ko]
def HY(j:Nat)(h:l.length<=1000):Sm (j+2) (nD l):=qD (by rw[zad];exact h) fun t ht=>by
 obtain⟨k,_,rfl⟩:=zaz.mp ht;exact r6 j _
def p0(g:GOk G)(hw:∀r∈G,r.length=W0)(hl:∀i∈l,i<W0)(hs:s<G.length):W (dw [mD es G,.int (s:Int),nD l]) (fun r=>r=(goD (gon G (some s) l),[none,none,none])):=by
 simp only[dw,pE,ws,nD,mD];refine dq (fun i en=>∃o3 u,en=[some (.tuple [.list (es.map .bool),.list (G.map ax)]),some (goD u),some (.list (l.map iD)),o3]/\u=gon G (some s) (l.take i)/\∀k,u=some k->k<G.length) ⟨none,some s,rfl,rfl,fun k e=>by cases e;exact hs⟩ ?_ ?_
 ·rintro i t en ht ⟨o3,u,rfl,e1,e2⟩;obtain⟨a,ha,rfl⟩:=gm ht;have et:=tk ha;rw[et,ip,<-e1];cases u with
  |none=>
   simp only[ws,iR,goD];exact⟨_,none,rfl,rfl,fun k z=>by cases z⟩
  |some k=>
   have hr:=mB (e2 k rfl);have rl:=hw _ (zaX hr);have al:=hl a (zaX ha);obtain⟨w,hw'⟩:∃w,(rw_ G k)[a]?=some w:=⟨_,zak (by omega)⟩;have e4:=atR hr;have e5:atI ((rw_ G k).map goD) (a:Int)=some (goD w):=by rw[bK,zao,hw'];rfl
   simp only[ws,iR,goD,iD,e4,e5];have el:led G k a=w:=by
    unfold led;rw[hr];show((rw_ G k)[a]?).join=_;rw[hw'];rfl
   refine⟨_,w,rfl,el.symm,fun k' z=>g.elt k k' (sJ (i:=a) (by rw[el,z]))⟩
 ·rintro en ⟨o3,u,rfl,e1,e2⟩;rw[zad,zaQ]at e1;simp only[ws];rw[e1]
def nA(M:Mx W0 es G)(hl:∀i∈l,i<W0)(ll:l.length<=G.length):W (dW [mD es G,nD l]) (fun r=>r=(.bool true,[none,none])):=by
 have le:=M.le;have n1:=M.g.n1;have i1:dh "list" (.list (l.map iD))=some (.bool true):=rfl;have d1:decide ((l.length:Int)>(es.length:Nat))=false:=zaA (by omega);have e0:atI (G.map ax) 0=some (.list ((rw_ G 0).map goD)):=by
  have:=bK (G.map ax) 0;rw[show((0:Nat):Int)=0 from rfl]at this;rw[this,zao,mB (by omega)];rfl
 have rl:=M.w _ (zaX (mB (G:=G) (s:=0) (by omega)));simp only[dW,mx,ws,nD,mD,i1,d1];refine dq (fun i en=>∃o,en=[some (.tuple [.list (es.map .bool),.list (G.map ax)]),some (.list (l.map iD)),o]) ⟨_,rfl⟩ ?_ ?_
 ·rintro i t en ht ⟨o,rfl⟩;obtain⟨a,ha,rfl⟩:=gm ht;have al:=hl a (zaX ha);have i2:dh "int" (.int (a:Int))=some (.bool true):=rfl;have i3:dh "bool" (.int (a:Int))=some (.bool false):=rfl;have d2:decide ((0:Int)<=(a:Int))=true:=zaB (by omega);have d3:decide ((a:Int)<((rw_ G 0).length:Nat))=true:=zaB (by omega);simp only[ws,jT,iD,i2,i3,d2,d3,e0];exact⟨_,rfl⟩
 ·rintro en ⟨o,rfl⟩;simp only[ws]
theorem tR:∀es:List Bool,aP (es.map PyData.bool)=true/\dk (es.map PyData.bool)=0
 |[]=>⟨rfl,rfl⟩
 |b::es=>by
  obtain⟨h1,h2⟩:=tR es;rw[zar];exact⟨by simp[aP,aG,h1],by simp[dk,fG,h2]⟩
theorem p8:∀r:List (Option Nat),aP (r.map goD)=true/\dk (r.map goD)=0
 |[]=>⟨rfl,rfl⟩
 |w::r=>by
  obtain⟨h1,h2⟩:=p8 r;rw[zar];cases w<;>exact⟨by simp[aP,aG,goD,h1],by simp[dk,fG,goD,h2]⟩
theorem uT:∀G:Gr,aP (G.map ax)=true/\dk (G.map ax)<=1
 |[]=>⟨rfl,zbk _⟩
 |r::G=>by
  obtain⟨h1,h2⟩:=uT G;obtain⟨h3,h4⟩:=p8 r;rw[zar];exact⟨by simp[aP,aG,ax,h1,h3],by simp[dk,fG,ax,h4];omega⟩
def u7{t:D}(h1:aG t=true)(h2:fG t<=60):neD t t=some (.bool false):=by
 show grd _ _=_;unfold grd;rw[if_pos ⟨h1,h1,h2⟩,j6 t h1];rfl
def u8(es:List Bool)(G:Gr):neD (.tuple [.list (es.map .bool),.list (G.map ax)]) (.tuple [.list (es.map .bool),.list (G.map ax)])=some (.bool false):=by
 obtain⟨h1,h2⟩:=tR es;obtain⟨h3,h4⟩:=uT G;refine u7 ?_ ?_
 ·simp[aG,aP,h1,h3]
 ·simp[fG,dk,h2];omega
theorem yi{G:Gr}(g:GOk G):∀(l:List Nat) {s k:Nat},s<G.length->gon G (some s) l=some k->k<G.length
 |[],s,k,h,e=>by cases e;exact h
 |i::l,s,k,h,e=>by
  have e':gon G (led G s i) l=some k:=e;cases q:led G s i with
  |none=>
   rw[q]at e'
   have:∀l:List Nat,gon G none l=none:=fun l=>by
    induction l with
    |nil=>rfl
    |cons a l ih=>exact ih
   rw[this]at e';cases e'
  |some u=>
   rw[q]at e';exact yi g l (g.elt _ _ (sJ q)) e'
def zy(M:Mx W0 es G){t:D}(h:qy es G W0 t):W (bV [mD es G,t]) (fun r=>r=(.bool true,[none,none])):=by
 obtain⟨A,B,C,h,e,rfl,a1,b1,c1,bn,a2,b2,c2,g1,g2,g3,he⟩:=h;have n1:=M.g.n1;have hh:h<G.length:=yi M.g A n1 g1;have ga:=p0 (es:=es) M.g M.w a2 (s:=0) n1;have gb:=p0 (es:=es) M.g M.w b2 (s:=h) hh;have gc:=p0 (es:=es) M.g M.w c2 (s:=h) hh;have ra:=nA M a2 a1;have rb:=nA M b2 b1;have rc:=nA M c2 c1;rw[g1]at ga;rw[g2]at gb;rw[g3]at gc;have ce:eK [.str "endless",nD A,nD B,nD C] (some 1) none=[nD A,nD B,nD C]:=rfl;have qB:eqD (nD B) (.list [])=some (.bool false):=by
  have el:nD B=.list ((B.map some).map goD):=by
   unfold nD;rw[zaR];rfl
  obtain⟨h1,h2⟩:=p8 (B.map some);show grd _ _=_;unfold grd;rw[if_pos ⟨by rw[el];exact h1,rfl,by rw[el];show dk _+1<=60;omega⟩];cases B with
  |nil=>exact absurd rfl bn
  |cons b B=>rfl
 have qh:neD (.int (h:Int)) (.int (h:Int))=some (.bool false):=u7 rfl (zbk _);have ee:atI (es.map PyData.bool) (e:Int)=some (.bool true):=by rw[bK,zao,he];rfl
 have m0:(PyData.int ((0:Nat):Int))=.int 0:=rfl;rw[m0]at ga;simp only[mD,goD]at ga gb gc ra rb rc;simp only[bV,iV,ws,mD,qB,ce];simp only[ws,gP];refine W.ue ra ?_;simp only[ws];refine W.ue rb ?_;simp only[ws];refine W.ue rc ?_;have ea:qp [.list [.bool true,.bool true,.bool true]]=some (.bool true):=rfl;simp only[ws,ea];refine W.ue ga ?_;simp only[ws];refine W.ue gb ?_;simp only[ws,qh];refine W.ue gc ?_;simp only[ws,ee]
theorem uW{es:List Bool}{G:Gr}(g:GOk G):∀(n:Nat) {s:Nat},s∈aN G->RK es G s n->∀m,m<=n->∃t,t∈aN G/\RK es G t m
 |0,s,hs,h,m,hm=>⟨s,hs,by rw[Nat.le_zero.mp hm];exact h⟩
 |n+1,s,hs,h,m,hm=>by
  by_cases e:m=n+1
  ·rw[e];exact⟨s,hs,h⟩
  ·obtain⟨⟨t,ed,hw⟩,h2⟩:=h;exact uW g n (sE g hs ed) ⟨hw,fun k hk=>Nat.le_of_succ_le_succ (h2 (k+1) ⟨t,ed,hk⟩)⟩ m (by omega)
def KS(g:GOk G)(hs:s∈aN G)(h:RK es G s n):n<(aN G).length:=by
 have c:=fun m (hm:m<=n)=>uW g n hs h m hm;let q:Nat->Nat:=fun m=>if hm:m<=n then Classical.choose (c m hm)else 0
 have q1:∀m,m<=n->q m∈aN G/\RK es G (q m) m:=fun m hm=>by
  have:=Classical.choose_spec (c m hm);show(if hm:m<=n then Classical.choose (c m hm)else 0)∈aN G/\RK es G (if hm:m<=n then Classical.choose (c m hm)else 0) m;rw[dif_pos hm];exact this
 have nd:((List.range (n+1)).map q).Nodup:=by
  rw[List.Nodup,List.pairwise_map];refine(zbK (n:=n+1)).imp_of_mem fun {a b} ha hb hab e=>?_;have h1:=(q1 a (by have:=zbs.mp ha;omega)).2;have h2:=(q1 b (by have:=zbs.mp hb;omega)).2;rw[e]at h1
  have:=h1.one h2;omega
 have:=ck nd (A:=aN G) fun x hx=>by
  obtain⟨m,hm,rfl⟩:=zaz.mp hx;exact(q1 m (by have:=zbs.mp hm;omega)).1
 rw[zad,zbf]at this;omega
def Kr{f:Nat->Nat}:kU [some (.int (s:Int)),some (ldD E (cst f))]=some (goD (if s∈E then some (f s)else none),[some (.int (s:Int)),some (ldD E (cst f))]):=by
 show(if noT (E.map (lkv (cst f)))=true then some ((aJ (E.map (lkv (cst f))) (.int (s:Int))).getD .none,_)else none)=_;rw[if_pos (og ..)];by_cases h:s∈E
 ·rw[fB h,if_pos h];rfl
 ·have:aJ (E.map (lkv (cst f))) (.int (s:Int))=none:=by
   have:=oB E (cst f) s;rw[zaA h]at this;cases q:aJ (E.map (lkv (cst f))) (.int (s:Int))with
   |none=>rfl
   |some x=>rw[q]at this;cases this
  rw[this,if_neg h];rfl
def HU{t:D}(h:Sp es G W0 t):∃ts,t=.tuple ts/\2<=ts.length:=by
 cases h with
 |no h=>exact⟨_,rfl,zav _⟩
 |endl h e=>
  obtain⟨A,B,C,h,e,rfl,_⟩:=e;exact⟨_,rfl,by show 2<=4;decide⟩
 |last h0 h1 h2=>exact⟨_,rfl,zav _⟩
def zz(M:Mx W0 es G){t:D}(h:Sp es G W0 t):W (cQ [mD es G,t]) (fun r=>r=(.bool true,[none,none])):=by
 have n:=M.g.n;have le:=M.le;have ml:(aN G).length<=G.length:=fQ ..;have lm:=El M;have lo:=wv M;obtain⟨ts,rfl,tl⟩:=HU h;have i1:dh "tuple" (.tuple ts)=some (.bool true):=rfl;have d1:decide (((ts.length:Nat):Int)<2)=false:=zaA (by omega);have kp:∀s,s∈aN G->Al es G s->Kp es G s:=fun s h1 h2=>⟨(mem_sel.mp h1).2,h2⟩;have rd:∀{u},qy es G W0 u->W (bV [mD es G,u]) (fun r=>r=(.bool true,[none,none])):=fun h=>zy M h;simp only[mD]at lm lo rd ⊢;simp only[cQ,ng,ws,i1,d1];refine W.ue lm ?_;simp only[ws];refine W.use lo ?_;rintro _ ⟨u,rfl,hu⟩;cases hu with
 |@no s hs hw=>
  have e:qy es G W0 (.tuple ts):=by
   have ks:=kp s hs ⟨_,hw⟩;generalize PyData.tuple ts=t at h;cases h with
   |no h=>exact absurd ks (h s)
   |endl h e=>exact e
   |last h0 h1 h2=>
    obtain⟨m,hm⟩:=h2 s ks
    have:=KS M.g hs (h1 s m hm).2
    have:=(h1 s m hm).2.2 _ hw;omega
  simp only[ws];refine W.ue (rd e) ?_;simp only[ws]
 |@ok E f h1 h2=>
  have ni:cH (.int 0) (ldD E (cst f))=some (.bool (!decide (0∈E))):=wp E (cst f) 0;have nn:isN (ldD E (cst f)) .none=some (.bool false):=rfl;by_cases h0:0∈E
  ·have e:.tuple ts=PyData.tuple [.str "last",.list ((List.range G.length).map fun s=>goD (if s∈E then some (f s)else none))]:=by
    have k0:=(h2 0).mp h0;have r0:=h1 0 h0;generalize PyData.tuple ts=t at h;cases h with
    |no h=>exact absurd k0 (h 0)
    |endl h e=>
     obtain⟨m,q1,q2⟩:=h (f 0+1)
     have:=r0.2 m q2;omega
    |@last f2 _ q1 q2=>
     unfold rkD rkL;congr 4;refine zbx fun s _=>?_;congr 1;by_cases q:s∈E
     ·obtain⟨m,hm⟩:=q2 s ((h2 s).mp q);rw[if_pos q,hm,(q1 s m hm).2.one (h1 s q)]
     ·rw[if_neg q];cases z:f2 s with
      |none=>rfl
      |some m=>exact absurd ((h2 s).mpr (q1 s m z).1) q
   have sm:Sm 6 (PyData.tuple [.str "last",.list ((List.range G.length).map fun s=>goD (if s∈E then some (f s)else none))]):=by
    refine rY (show 2<=1000 by decide) fun u hu=>?_;rcases zay.mp hu with rfl|hu
    ·exact xB 4
    ·rw[zaH.mp hu];refine qD (by rw[zad,zbf];exact n) fun v hv=>?_;obtain⟨s,_,rfl⟩:=zaz.mp hv;cases(if s∈E then some (f s)else none)with
     |none=>exact HZ 3
     |some m=>exact r6 3 _
   have hb:(!decide (0∈E))=false:=by simp[h0]
   simp only[ws,nn,ni,hb];refine⟨⟨by omega,by omega⟩,?_⟩;refine iK (fun t=>match t with|.int z=>goD (if z.toNat∈E then some (f z.toNat)else none)|_=>.none) (by rw[dZ];exact szB (by omega)) (fun t ht=>?_) fun o=>?_
   ·obtain⟨k,hk⟩:=zbr ht;obtain⟨hk',rfl⟩:=im hk;rw[zbU];refine W.of Kr ?_;show _=(goD (if(k:Int).toNat∈E then some (f (k:Int).toNat)else none),_);rw[zaL]
   ·have el:(fh 0 ((es.length:Nat):Int).toNat).map (fun t=>match t with|.int z=>goD (if z.toNat∈E then some (f z.toNat)else none)|_=>PyData.none)=(List.range G.length).map fun s=>goD (if s∈E then some (f s)else none):=by
     rw[zaL,le];unfold fh;rw[zaR];refine zbx fun s _=>?_;show goD (if((0:Int)+(s:Int)).toNat∈E then some (f ((0:Int)+(s:Int)).toNat)else none)=_;rw[zbU,zaL]
    rw[el];simp only[ws,e];refine W.ue sm ?_;simp only[ws]
  ·have e:.tuple ts=PyData.tuple [.str "none",nD (aN G)]:=by
    have k0:¬Kp es G 0:=fun z=>h0 ((h2 0).mpr z);generalize PyData.tuple ts=t at h;cases h with
    |no h=>rfl
    |endl h e=>
     obtain⟨m,q1,q2⟩:=h 0;exact absurd ⟨.first (by simp),m,q2⟩ k0
    |last q _ _=>exact absurd q k0
   have sm:Sm 6 (PyData.tuple [.str "none",nD (aN G)]):=by
    refine rY (show 2<=1000 by decide) fun u hu=>?_;rcases zay.mp hu with rfl|hu
    ·exact xA 4
    ·rw[zaH.mp hu];exact HY 3 (by omega)
   have hb:(!decide (0∈E))=true:=by simp[h0]
   simp only[ws,nn,ni,hb,e];refine W.ue sm ?_;simp only[ws]
end
end W25
namespace W25
variable{n m W0 s k N:Nat}{t p a:D}{Q:D×En->Prop}{G:Gr}{l:List Nat}{es:List Bool}{w:Option Nat}{R:MS}{x0 x1 x2 x3 x4 x5:Option D}{A:List D}
open PySem L2 Mch Pen2
def Pn(n:Nat)(t:D):Prop:=∃ns k l,t=Pen2.penD ns k l/\0<=k/\k<=(n:Int)/\0<=l
def Pn.mono(h:Pn n t)(e:n<=m):Pn m t:=by
 obtain⟨ns,k,l,rfl,h1,h2,h3⟩:=h;exact⟨ns,k,l,rfl,h1,by omega,h3⟩
def dR{m:Int}(hp:Pn n p)(hn:n<=1000000)(h3:0<m)(h4:m<1073741824)(h:∀r p',0<=r->r<m->Pn (n+1) p'->Q (.int r,[some p',none])):W (ar [p,.int m]) Q:=by
 obtain⟨ns,k,l,rfl,k0,k1,l0⟩:=hp;obtain⟨r,k',l',e,e1,e2,e3,e4,e5⟩:=Pen2.take_ok (ns:=ns) (k:=k) (l:=l) (m:=m) k0 (by omega) l0 h3 h4;exact W.of (show ar _=_ from e) (h r _ e1 e2 ⟨ns,k',l',rfl,by omega,by omega,e5⟩)
def tM(h:G.length<=63):CK G l:=⟨fun _=>True,trivial,fun _ _ _ _ _ _ _=>trivial,fun S _ nd hS=>.inl (by
 have:=ck nd (A:=List.range G.length) fun s hs=>zbs.mpr (hS s hs);rw[zbf]at this;rw[zad];omega)⟩
def sB(g:GOk G)(w1:1<=W0)(w:∀r∈G,r.length=W0)(le:es.length=G.length)(h:G.length<=63):Mx W0 es G:=
 ⟨g,w1,w,le,tM h,fun B hB _=>tM (by unfold toG;rw[zad];omega)⟩
def vG(hp:Pn n p)(hn:n<=900)(h:∀(s:Nat) p',1<=s->s<=12->Pn (n+2) p'->Q (.int (s:Int),[some p'])):W (bY [p]) Q:=by
 obtain⟨ns,k,l,rfl,k0,k1,l0⟩:=hp;obtain⟨s,k',l',e,e1,e2,e3,e4,e5⟩:=zm (ns:=ns) (k:=k) (l:=l) k0 (by omega) l0;exact W.of (show bY _=_ from e) (h s _ e1 e2 ⟨ns,k',l',rfl,by omega,by omega,e5⟩)
def yT{mo:Int}(hp:Pn n p)(hn:n<=900)(m1:1<=mo)(m2:mo<=40)(s1:1<=s)(s2:s<=12)(h:∀es G p',Mx s es G->Pn (n+600) p'->Q (.tuple [.list (es.map .bool),.list (G.map ax)],[some p',none,none])):W (bA [p,.int (s:Int),.int mo]) Q:=by
 obtain⟨ns,k,l,rfl,k0,k1,l0⟩:=hp;obtain⟨es,gs,k',l',e,b1,b2,b3,b4,b5,b6,b7⟩:=Ej (mo:=mo) (ns:=ns) (k:=k) (l:=l) (W:=s) m1 m2 s2 k0 (by omega) l0;refine W.of (show bA _=_ from e) (h es gs _ (sB ⟨by omega,by omega,fun r hr=>?_,fun r hr k hk=>?_⟩ s1 (fun r hr=>(b4 r hr).1) b3.symm (by omega)) ⟨ns,k',l',rfl,by omega,by omega,b7⟩)
 ·rw[(b4 r hr).1];exact s2
 ·rw[b3];exact(b4 r hr).2 _ hk k rfl
theorem C0:∀(l:List Nat) (x:Nat),(x::l).Pairwise (·<=·)->oneB.go (x:Int) (l.map fun k:Nat=>(k:Int)) true=true
 |[],x,_=>rfl
 |y::l,x,h=>by
  obtain⟨h1,h2⟩:=List.pairwise_cons.mp h;show(decide ((x:Int)<=(y:Int))&&oneB.go (y:Int) (l.map fun k:Nat=>(k:Int)) true)=true;rw[C0 l y h2,zb5,zbj]
  have:=h1 y zaq;omega
def LT(h:l.Pairwise (·<=·))(hl:l.length<=5000):fc (l.map fun k:Nat=>(k:Int)):=by
 refine .inr ⟨?_,by rw[zad];exact hl⟩;cases l with
 |nil=>rfl
 |cons x l=>
  show(oneB.go (x:Int) (l.map fun k:Nat=>(k:Int)) true || _)=true;rw[C0 l x h];rfl
def chG(m:Nat)(w:Option Nat):Gr:=(List.range m).map fun k=>if k=m-1 then[w]else[some (k+1)]
def ir(m:Nat)(w:Option Nat):(chG m w).length=m:=by unfold chG;rw[zad,zbf]
def vD(h:k<m):(chG m w)[k]?=some (if k=m-1 then[w]else[some (k+1)]):=by
 unfold chG;rw[zao,zby h];rfl
theorem vA:∀(l:List Nat) (x:Nat),(x::l).Pairwise (·>·)->oneB.go (x:Int) (l.map fun k:Nat=>(k:Int)) false=true
 |[],x,_=>rfl
 |y::l,x,h=>by
  obtain⟨h1,h2⟩:=List.pairwise_cons.mp h;show(decide ((y:Int)<(x:Int))&&oneB.go (y:Int) (l.map fun k:Nat=>(k:Int)) false)=true;rw[vA l y h2,zb5,zbj]
  have:=h1 y zaq;omega
def LU(h:l.Pairwise (·>·))(hl:l.length<=5000):fc (l.map fun k:Nat=>(k:Int)):=by
 refine .inr ⟨?_,by rw[zad];exact hl⟩;cases l with
 |nil=>rfl
 |cons x l=>
  show(_ || oneB.go (x:Int) (l.map fun k:Nat=>(k:Int)) false)=true;rw[vA l x h,Bool.or_true]
def chE(m:Nat):List Bool:=(List.range m).map fun k=>decide (k=m-1)
def vE(m:Nat):(chE m).length=m:=by unfold chE;rw[zad,zbf]
def Fy(h1:1<=m):dM (chE m)=[m-1]:=by
 refine List.perm_singleton.mp ((List.perm_ext_iff_of_nodup (List.nodup_range.filter _) (by simp)).mpr fun k=>?_);show k∈dM (chE m)↔_;rw[mem_ends,zaH];unfold chE;rw[zao];by_cases hk:k<m
 ·rw[zby hk];show some (decide (k=m-1))=some true↔_;simp
 ·rw[zbm (by rw[zbf];omega)];exact⟨fun z=>(by cases z),fun z=>by omega⟩
def vC{t:Nat}(h:aZ (chG m w) s t):s<m/\((s=m-1/\w=some t)\/(s≠m-1/\t=s+1)):=by
 obtain⟨r,hr,hm⟩:=h;have hs:=(zah.mp hr).1;rw[ir]at hs;rw[vD hs]at hr;cases hr;refine⟨hs,?_⟩;split at hm
 ·exact .inl ⟨‹_›,(zaH.mp hm).symm⟩
 ·exact .inr ⟨‹_›,zat (zaH.mp hm)⟩
def qc(e n:Nat):List Nat:=(List.range n).map (e-·)
def zU{e:Nat}(h:n<=e+1):s∈qc e n↔e+1-n<=s/\s<=e:=by
 unfold qc;rw[zaz];constructor
 ·rintro⟨k,hk,rfl⟩
  have:=zbs.mp hk;omega
 ·rintro⟨h1,h2⟩;by_cases n0:n=0
  ·omega
  ·exact⟨e-s,zbs.mpr (by omega),by omega⟩
def zS(hw:∀k,w=some k->k<m)(h1:1<=m)(h2:m<=1000):Mx 1 (chE m) (chG m w):=by
 have g:GOk (chG m w):=by
  refine⟨by rw[ir];exact h1,by rw[ir];exact h2,fun r hr=>?_,fun r hr k hk=>?_⟩
  ·obtain⟨i,_,rfl⟩:=zaz.mp hr;split<;>exact Nat.succ_le_succ (zbk _)
  ·rw[ir];obtain⟨i,hi,rfl⟩:=zaz.mp hr
   have:=zbs.mp hi;split at hk
   ·exact hw k (zaH.mp hk).symm
   ·have:=zat (zaH.mp hk);omega
 refine⟨g,zav _,fun r hr=>?_,by rw[vE,ir],⟨fun S=>∃n,1<=n/\n<=m/\S=List.range n,⟨1,zav _,h1,rfl⟩,?_,?_⟩,fun B hB hc=>⟨fun S=>∃n,1<=n/\n<=m/\S=qc (m-1) n,⟨1,zav _,h1,by rw[Fy h1];rfl⟩,?_,?_⟩⟩
 ·obtain⟨i,_,rfl⟩:=zaz.mp hr;split<;>rfl
 ·rintro S s t ⟨n,n1,n2,rfl⟩ hs he ht;rw[zbs]at hs ht;obtain⟨e1,e2⟩:=vC he
  have:t=n:=by
   rcases e2 with⟨e2,e3⟩|⟨e2,e3⟩
   ·have:=hw t e3;omega
   ·omega
  have tl:t<m:=by
   rcases e2 with⟨e2,e3⟩|⟨e2,e3⟩
   ·exact hw t e3
   ·omega
  exact⟨n+1,by omega,by omega,by rw[this,List.range_succ]⟩
 ·rintro S ⟨n,n1,n2,rfl⟩ _ _;exact LT ((zbK).imp fun h=>zaW h) (by rw[zbf];omega)
 ·rintro S s t ⟨n,n1,n2,rfl⟩ hs he ht;have he':=(qS hB hc g s t).mp he;obtain⟨e1,e2⟩:=vC he';rw[zU (by omega)]at hs ht;have et:t=m-1-n/\n<m:=by
   rcases e2 with⟨e2,e3⟩|⟨e2,e3⟩
   ·exact absurd ⟨by omega,by omega⟩ ht
   ·omega
  refine⟨n+1,by omega,by omega,?_⟩;unfold qc;rw[List.range_succ,zaC,et.1];rfl
 ·rintro S ⟨n,n1,n2,rfl⟩ _ _;refine LU ?_ (by unfold qc;rw[zad,zbf];omega);unfold qc;rw[List.pairwise_map];refine(zbK (n:=n)).imp_of_mem fun {a b} ha hb hab=>?_
  have:=zbs.mp hb;show m-1-a>m-1-b;omega
def inc:D->D
 |.int z=>.list [.int (z+1)]
 |t=>t
def isL(e:Int):D->D
 |.int z=>.bool (decide (z=e))
 |_=>.bool false
def uV(h:1<=m):(fh 0 m).map (isL ((m:Int)-1))=(chE m).map PyData.bool:=by
 unfold fh chE;rw[zaR,zaR];refine zbx fun k _=>?_;show PyData.bool (decide ((0:Int)+(k:Int)=(m:Int)-1))=PyData.bool (decide (k=m-1));congr 1;rw[Bool.eq_iff_iff,zbj,zbj];omega
def Ey(h1:1<=m):((fh 0 m).map inc).set (m-1) (.list [goD w])=(chG m w).map ax:=by
 refine List.ext_getElem? fun i=>?_;by_cases hi:i<m
 ·rw[zao,vD hi];have er:((fh 0 m).map inc)[i]?=some (.list [.int ((i:Int)+1)]):=by
   unfold fh;rw[zao,zao,zby hi];show some (PyData.list [.int (0+(i:Int)+1)])=_;rw[zbU]
  by_cases e:i=m-1
  ·subst e;rw[zaP (by rw[zad,dZ];exact hi),if_pos rfl];rfl
  ·rw[zaO (Ne.symm e),er,if_neg e];rfl
 ·rw[zbm (by rw[zaV,zad,dZ];omega),zbm (by rw[zad,ir];omega)]
def pI{us:List D}{z:Int}(hz:z=(k:Int))(h:k<us.length):jn us z t=some (us.set k t):=by
 subst hz;unfold jn;rw[io h];rfl
def AU(hp:Pn n p)(hn:n<=900000)(h:∀es G p',Mx 1 es G->Pn (n+3) p'->Q (.tuple [.list (es.map .bool),.list (G.map ax)],[some p'])):W (eV [p]) Q:=by
 simp only[eV,nh,ws];refine dR hp (by omega) (by decide) (by decide) fun r p1 r0 r1 hp1=>?_;obtain⟨m,hm⟩:∃m:Nat,(100+r)=(m:Int):=⟨(100+r).toNat,by omega⟩;simp only[ws,hm,zaL];refine⟨⟨by omega,by omega⟩,iK inc (szB (by rw[dZ];omega)) (fun t ht=>?_) fun o=>?_⟩
 ·obtain⟨k,hk⟩:=zbr ht;obtain⟨hk',rfl⟩:=im hk;simp only[ws,kX,inc]
 simp only[ws];refine⟨⟨by decide,by omega⟩,?_⟩;refine dR hp1 (by omega) (by omega) (by omega) fun a p2 a0 a1 hp2=>?_;simp only[ws];refine dR hp2 (by omega) (by decide) (by decide) fun b p3 b0 b1 hp3=>?_;obtain⟨w,ew,hw⟩:∃w:Option Nat,atI [PyData.none,.int a] b=some (goD w)/\∀k,w=some k->k<m:=by
  have hb:b=0\/b=1:=by omega
  rcases hb with rfl|rfl
  ·exact⟨none,rfl,fun k z=>nomatch z⟩
  ·refine⟨some a.toNat,?_,fun k z=>by cases z;omega⟩;show some (PyData.int a)=some (PyData.int ((a.toNat:Nat):Int));rw[Int.toNat_of_nonneg a0]
 have si:=pI (us:=(fh 0 m).map inc) (k:=m-1) (z:=(m:Int)-1) (t:=.list [goD w]) (by omega) (by rw[zad,dZ];omega);rw[Ey (by omega)]at si;simp only[ws,ew,si,zaL];refine⟨⟨by omega,by omega⟩,iK (isL ((m:Int)-1)) (szB (by rw[dZ];omega)) (fun t ht=>?_) fun o=>?_⟩
 ·obtain⟨k,hk⟩:=zbr ht;obtain⟨hk',rfl⟩:=im hk;simp only[ws,kW,isL]
 rw[uV (by omega)];simp only[ws];exact h _ _ p3 (zS hw (by omega) (by omega)) (hp3.mono (by omega))
def tW(N s:Nat)(u:D):Prop:=∃r:List (Option Nat),u=ax r/\r.length=s/\∀k,some k∈r->k<N
theorem xD{N s:Nat}:∀{gs:List D},(∀u∈gs,tW N s u)->∃G:Gr,gs=G.map ax/\∀r∈G,r.length=s/\∀k,some k∈r->k<N
 |[],_=>⟨[],rfl,fun _ z=>by cases z⟩
 |u::gs,h=>by
  obtain⟨G,rfl,hG⟩:=xD fun v hv=>h v (zaj _ hv);obtain⟨r,rfl,h1,h2⟩:=h u zaq;refine⟨r::G,rfl,fun r' z=>?_⟩;rcases zay.mp z with rfl|z
  ·exact⟨h1,h2⟩
  ·exact hG r' z
def sC(h:s<=1000):wq (.list [.none]) (.int (s:Int))=some (ax (List.replicate s none)):=by
 show grd _ _=_;unfold grd;rw[if_pos ⟨by omega,by omega,szB (by simp;omega)⟩];show some (PyData.list _)=some (PyData.list _);congr 2;rw[zaL]
 induction s with
 |zero=>rfl
 |succ s ih=>
  rw[List.replicate_succ,List.flatten_cons,ih (by omega),List.replicate_succ,zar];rfl
def uU{j:Nat}{r:List (Option Nat)}(h1:r.length=s)(h2:∀k,some k∈r->k<N)(hk:k<N):tW N s (.list ((r.map goD).set j (.int (k:Int)))):=by
 refine⟨r.set j (some k),?_,by rw[zaV];exact h1,fun k' z=>?_⟩
 ·show PyData.list _=PyData.list _;rw[List.map_set];rfl
 ·rcases zbW z with z|z
  ·exact h2 k' z
  ·cases z;exact hk
def zw:tW N s (ax (List.replicate s none)):=⟨_,rfl,zaN,fun k z=>by simp at z⟩
def DP(hp:Pn n p)(hn:n<=900000)(s1:1<=s)(s2:s<=12)(h:∀es G p',Mx s es G->Pn (n+11) p'->Q (.tuple [.list (es.map .bool),.list (G.map ax)],[some p',none])):W (eI [p,.int (s:Int)]) Q:=by
 simp only[eI,pD,ws];refine dR hp (by omega) (by decide) (by decide) fun r p1 r0 r1 hp1=>?_;obtain⟨m,hm⟩:∃m:Nat,(2+r)=(m:Int):=⟨(2+r).toNat,by omega⟩;simp only[ws,hm,zaL];refine⟨⟨by omega,by omega⟩,dq (fun i en=>∃gs p o4 o5,en=[some p,some (.int (s:Int)),some (.int (m:Int)),some (.list gs),o4,o5]/\gs.length=i/\(∀u∈gs,tW m s u)/\Pn (n+1+i) p) ⟨[],p1,_,_,rfl,rfl,(fun _ z=>by cases z),hp1⟩ ?_ ?_⟩
 ·rintro i t en ht ⟨gs,p,o4,o5,rfl,g1,g2,hp⟩;obtain⟨hi,rfl⟩:=im ht;simp only[ws,mj,sC (show s<=1000 by omega),ax];have hq:(0:Int)<(m:Int)-1:=by omega
  have q0:0<=((i:Int)+1) % ((m:Int)-1):=zba _ (by omega);have q1:((i:Int)+1) % ((m:Int)-1)<(m:Int)-1:=zbb _ hq;obtain⟨v,hv⟩:∃v:Nat,((i:Int)+1) % ((m:Int)-1)=(v:Int):=⟨_,(Int.toNat_of_nonneg q0).symm⟩;simp only[ws,zbU,hv,hq];refine dR hp (by omega) (by omega) (by omega) fun a p2 a0 a1 hp2=>?_;obtain⟨j,rfl⟩:=zaM a0;have si:=pI (us:=(List.replicate s none).map goD) (k:=j) (z:=(j:Int)) (t:=.int (v:Int)) rfl (by rw[zad,zaN];omega);simp only[ws,si];refine⟨dg (by omega),gs++[.list (((List.replicate s none).map goD).set j (.int (v:Int)))],p2,_,_,rfl,by rw[zae,g1];rfl,fun u hu=>?_,hp2.mono (by omega)⟩;rcases zax.mp hu with hu|hu
  ·exact g2 u hu
  ·rw[zaH.mp hu];exact uU zaN (fun k z=>by simp at z) (by omega)
 ·rintro en ⟨gs,p,o4,o5,rfl,g1,g2,hp⟩;rw[dZ]at g1 hp;simp only[ws];refine KB ?_;simp only[ws];refine mM (jN (t:=.list gs) rfl ?_);simp only[ws];refine dR hp (by omega) (by omega) (by omega) fun a p2 a0 a1 hp2=>?_;obtain⟨j,rfl⟩:=zaM a0;simp only[ws];refine⟨_,_,gs,j,rfl,rfl,.inl rfl,io (by omega),by omega,?_⟩;refine dR hp2 (by omega) (by omega) (by omega) fun b p3 b0 b1 hp3=>?_;obtain⟨k,rfl⟩:=zaM b0;have jl:j<gs.length:=by omega
  obtain⟨r',er,r1',r2'⟩:=g2 gs[j] (zaK jl);have eg:gs[j]?=some (.list (r'.map goD)):=by rw[zak jl,er];rfl
  simp only[ws];refine⟨_,_,r'.map goD,k,rfl,rfl,?_,io (by rw[zad];omega),?_⟩
  ·show(gs[j]?).bind _=_;rw[eg];rfl
  have ep:bN (.list gs) ([]++[j]) (.list ((r'.map goD).set k (.int ((m:Int)-1))))=.list (gs.set j (.list ((r'.map goD).set k (.int ((m:Int)-1))))):=by
   show PyData.list (gs.set j ((gs[j]?).elim .none fun c=>bN c [] _))=_;rw[eg];rfl
  have si:=pI (us:=gs.set j (.list ((r'.map goD).set k (.int ((m:Int)-1))))) (k:=m-1) (z:=(m:Int)-1) (t:=ax (List.replicate s none)) (by omega) (by rw[zaV];omega);simp only[ws,ep,sC (show s<=1000 by omega),si,zaL];refine⟨⟨by omega,by omega⟩,iK (isL ((m:Int)-1)) (szB (by rw[dZ];omega)) (fun t ht=>?_) fun o=>?_⟩
  ·obtain⟨k,hk⟩:=zbr ht;obtain⟨hk',rfl⟩:=im hk;simp only[ws,mr,isL]
  rw[uV (by omega)];have all:∀u∈(gs.set j (.list ((r'.map goD).set k (.int ((m:Int)-1))))).set (m-1) (ax (List.replicate s none)),tW m s u:=fun u hu=>by
   rcases zbW hu with hu|rfl
   ·rcases zbW hu with hu|rfl
    ·exact g2 u hu
    ·rw[show((m:Int)-1)=((m-1:Nat):Int)by omega];exact uU r1' r2' (by omega)
   ·exact zw
  obtain⟨G,eG,hG⟩:=xD all;have lG:G.length=m:=by
   have:=congrArg List.length eG;rw[zaV,zaV,zad]at this;omega
  rw[eG];simp only[ws];refine h _ G p3 (sB ⟨by omega,by omega,fun r hr=>by rw[(hG r hr).1];exact s2,fun r hr k hk=>by rw[lG];exact(hG r hr).2 k hk⟩ s1 (fun r hr=>(hG r hr).1) (by rw[vE,lG]) (by omega)) (hp3.mono (by omega))
def yU{i:Nat}{mp:MP}{en:En}(h:W (mp en) (fun r=>∃t ts,(r.2[i]?).join=some t/\bu t r.1=some (.list ts)/\Q (.none,r.2.set i (some (bN t r.1 (.list [])))))):W (jb i mp en) Q:=by
 unfold jb;rw[aq];refine W.use h ?_;rintro r ⟨t,ts,h1,h2,h3⟩;rw[h1];show W ((bu t r.1).bind _) Q;rw[h2];exact⟨_,rfl,h3⟩
def chg(R:MS):MS:=(aj (bI (gj 6 (pIx 6 (fR 6) (eC (.int 1))) (eC (.int 0))))
 (aj (bI (jb 6 (pIx 6 (fR 6) (e1 nz (eC (.int 1)))))) R))
def Kx(hA:A.length<=1000){Q:Fl->Prop}(h:∀t,W (R [x0,x1,x2,x3,x4,x5,some t]) Q):W (chg R [x0,x1,x2,x3,x4,x5,some (.tuple [a,.list A])]) Q:=by
 unfold chg;simp only[ws];refine tS (mM (jN (t:=.tuple [a,.list A]) rfl ?_));simp only[ws];refine⟨_,_,[a,.list A],1,rfl,rfl,.inr rfl,rfl,by show 1<2;decide,_,A,rfl,rfl,?_⟩
 try simp only[ws]
 refine⟨dg (by omega),?_⟩;refine yU (mM (jN (t:=.tuple [a,.list (A++[.int 0])]) rfl ?_));simp only[ws];refine⟨_,_,[a,.list (A++[.int 0])],1,rfl,rfl,.inr rfl,rfl,by show 1<2;decide,_,_,rfl,rfl,?_⟩
 try simp only[ws]
 exact h _
def Ml{b:D}{C:List D}(hA:A.length<=1000){Q:Fl->Prop}(h:∀t,W (R [x0,x1,x2,x3,x4,x5,some t]) Q):W (chg R [x0,x1,x2,x3,x4,x5,some (.tuple [a,.list A,b,.list C])]) Q:=by
 unfold chg;simp only[ws];refine tS (mM (jN (t:=.tuple [a,.list A,b,.list C]) rfl ?_));simp only[ws];refine⟨_,_,[a,.list A,b,.list C],1,rfl,rfl,.inr rfl,rfl,by show 1<4;decide,_,A,rfl,rfl,?_⟩
 try simp only[ws]
 refine⟨dg (by omega),?_⟩;refine yU (mM (jN (t:=.tuple [a,.list (A++[.int 0]),b,.list C]) rfl ?_));simp only[ws];refine⟨_,_,[a,.list (A++[.int 0]),b,.list C],3,rfl,rfl,.inr rfl,rfl,by show 3<4;decide,_,_,rfl,rfl,?_⟩
 try simp only[ws]
 exact h _
def Kw(hN:G.length<=1000)(ht:Sp es G W0 t){Q:Fl->Prop}(h:∀t,W (R [x0,x1,x2,x3,x4,x5,some t]) Q):W (chg R [x0,x1,x2,x3,x4,x5,some t]) Q:=by
 have ml:(aN G).length<=G.length:=fQ ..;cases ht with
 |no _=>exact Kx (by rw[zad];omega) h
 |endl _ e=>
  obtain⟨A,B,C,_,_,rfl,al,_⟩:=e;exact Ml (by rw[zad];omega) h
 |last _ _ _=>exact Kx (by unfold rkL;rw[zad,zbf];omega) h
def mz(M:Mx W0 es G){x6:Option D}{Q:Fl->Prop}(h:∀o5 o6,Q (.nx [x0,x1,x2,x3,some (.tuple [.list (es.map .bool),.list (G.map ax)]),o5,o6])):W (mh [x0,x1,x2,x3,some (.tuple [.list (es.map .bool),.list (G.map ax)]),x5,x6]) Q:=by
 have gn:=M.g.n;have el:iZ [.list (es.map PyData.bool)]=some (.list (es.map .bool)):=rfl;have sp:=DI M;have rt:∀{t},Sp es G W0 t->W (cQ [mD es G,t]) (fun r=>r=(.bool true,[none,none])):=fun h=>zz M h;simp only[mD]at sp rt;have eb:mh=(aj (ao 5 (da (ac (eN iZ (ac (e2 ixA (aa 4) (eC (.int 0))) ah)) (ac (eLC true (bt (e2 ixA (aa 4) (eC (.int 1)))) (gN 0) cY ua [none]) ah))))
  (aj (ao 6 (am mO (ac (aa 5) ah)))
  (aj (sIf (bOr (fX (tV (am cQ (ac (aa 4) (ac (aa 6) ah))))) (tV (e2 neD (aa 5) (aa 4)))) (ay (eC (.bool false))) aS)
  (chg (sIf (tV (e2 neD (aa 5) (aa 4))) (ay (eC (.bool false))) aS))))):=rfl
 rw[eb];simp only[ws,el];refine iK (fun t=>t) (szB (by rw[zad];omega)) (fun u hu=>?_) fun o=>?_
 ·obtain⟨r,hr,rfl⟩:=zaz.mp hu;have e2:iZ [ax r]=some (ax r):=rfl;simp only[ws,ua,e2]
 rw[List.map_id'];simp only[ws];refine W.use sp ?_;rintro _ ⟨u,rfl,hu⟩;simp only[ws];refine W.ue (rt hu) ?_;simp only[ws,u8];refine Kw gn hu fun u=>?_;simp only[ws,u8];exact h _ _
def mm(es:List Bool)(G:Gr):D:=.tuple [.list (es.map .bool),.list (G.map ax)]
def yw{e1 e2:List Bool}{G1 G2:Gr}{w1 w2:Nat}(M1:Mx w1 e1 G1)(M2:Mx w2 e2 G2):W ((aj (bT (bt (L2.e2 nJ (aa 3) (aa 3))) (gN 4) mh) (ay (eC (.bool true)))) [x0,x1,x2,some (.list [mm e1 G1,mm e2 G2]),none,none,none]) (kFn [0] fun r=>∃o,r=(.bool true,o)):=by
 have ea:nJ (.list [mm e1 G1,mm e2 G2]) (.list [mm e1 G1,mm e2 G2])=some (.list [mm e1 G1,mm e2 G2,mm e1 G1,mm e2 G2]):=by
  show(if[mm e1 G1,mm e2 G2].length+[mm e1 G1,mm e2 G2].length<=sizeLine then _ else none)=_;rw[if_pos (szB (by show 4<=_;decide))];rfl
 simp only[ws,ea];refine mz M1 fun o5 o6=>?_;simp only[ws];refine mz M2 fun o5 o6=>?_;simp only[ws];refine mz M1 fun o5 o6=>?_;simp only[ws];refine mz M2 fun o5 o6=>?_;simp only[ws];exact⟨_,rfl⟩
def zX:IW xa:=by
 intro ns hn
 suffices W (xa [.list (ns.map .int)]) (fun r=>∃o,r=(.bool true,o))by
  obtain⟨_,e,o,rfl⟩:=this.ex;exact⟨o,e⟩
 have hp0:Pn 0 (penD ns 0 0):=⟨ns,0,0,rfl,by decide,by decide,by decide⟩;have hq0:Pn 31 (penD ns 31 0):=⟨ns,31,0,rfl,by decide,by decide,by decide⟩;have tail:∀{w1:Nat} {e1:List Bool} {G1:Gr} {x1 x2:Option D},Mx w1 e1 G1->W ((aj (ao 1 (am cJ (ac (aa 0) (ac (eC (.int 31)) ah))))
  (aj (bI (cc 3 (am bA (aB 1 (ac (am bY (aB 1 ah)) (ac (eC (.int 6)) ah))))))
  (aj (sIf (tV (L2.e2 eqD (am ar (aB 1 (ac (eC (.int 3)) ah))) (eC (.int 0)))) (cE 3 (eC (.int 1)) (am eI (aB 1 (ac (L2.e2 aY (eC (.int 1)) (am ar (aB 1 (ac (eC (.int 3)) ah)))) ah)))) aS)
  (aj (bT (bt (L2.e2 nJ (aa 3) (aa 3))) (gN 4) mh)
  (ay (eC (.bool true))))))) [some (.list (ns.map .int)),x1,x2,some (.list [mm e1 G1]),none,none,none]) (kFn [0] fun r=>∃o,r=(.bool true,o)):=fun {w1 e1 G1 x1 x2} M1=>by
  simp only[ws];refine W.of (show cJ [.list (ns.map .int),.int 31]=some (penD ns 31 0,[none,none])from rfl) ?_;simp only[ws];refine vG hq0 (by decide) fun s p2 s1 s2 hp2=>?_;simp only[ws];refine yT hp2 (by decide) (by decide) (by decide) s1 s2 fun e2 G2 p3 M2 hp3=>?_;simp only[ws];refine dR hp3 (by decide) (by decide) (by decide) fun a p4 a0 a1 hp4=>?_;by_cases c:a=0
  ·simp only[ws,c];refine dR hp4 (by decide) (by decide) (by decide) fun b p5 b0 b1 hp5=>?_;obtain⟨q,hq⟩:∃q:Nat,(1+b)=(q:Int):=⟨(1+b).toNat,by omega⟩;simp only[ws,hq];refine DP hp5 (by decide) (by omega) (by omega) fun e3 G3 p6 M3 hp6=>?_;have si:jn [mm e1 G1,mm e2 G2] 1 (mm e3 G3)=some [mm e1 G1,mm e3 G3]:=rfl;have f:=yw M1 M3 (x0:=some (.list (ns.map .int))) (x1:=some p6) (x2:=x2);simp only[ws,mm,si]at f ⊢;exact f
  ·have f:=yw M1 M2 (x0:=some (.list (ns.map .int))) (x1:=some p4) (x2:=x2);simp only[ws,c,mm]at f ⊢;exact f
 simp only[ws,xa,KN];refine W.of (show cJ [.list (ns.map .int),.int 0]=some (penD ns 0 0,[none,none])from rfl) ?_;simp only[ws];refine dR hp0 (by decide) (by decide) (by decide) fun z p1 z0 z1 hp1=>?_;simp only[ws];refine vG hp1 (by decide) fun s p2 s1 s2 hp2=>?_;simp only[ws];have mo:∃q mo:Int,lq [.bool (decide (z=9))]=some (.int q)/\atI [PyData.int 9,.int 30] q=some (.int mo)/\1<=mo/\mo<=40:=by
  by_cases c:z=9
  ·rw[zaB c];exact⟨1,30,rfl,rfl,by decide,by decide⟩
  ·rw[zaA c];exact⟨0,9,rfl,rfl,by decide,by decide⟩
 obtain⟨q,mo,eq,em,m1,m2⟩:=mo;simp only[ws,eq,em];refine yT hp2 (by decide) m1 m2 s1 s2 fun e1 G1 p3 M1 hp3=>?_;simp only[ws];by_cases c:z=10
 ·simp only[ws,c];refine AU hp3 (by decide) fun e2 G2 p4 M2 hp4=>?_;have f:=tail M2 (x1:=some p4) (x2:=some (.int 10));simp only[ws,mm]at f ⊢;exact f
 ·have f:=tail M1 (x1:=some p3) (x2:=some (.int z));simp only[ws,c,mm]at f ⊢;exact f
end W25
set_option maxHeartbeats 4000000
namespace W25
variable{w:World}{K:zb7}{mg:Str->Option Value}{h:Heap}
open PySem L2
section
variable{P:Program}{base:Heap}{k dr:Nat}{x:Str}{ps:List Str}{dps:List Nat}{f:Addr}{st:Stmt}{sp:L2.Sp}
abbrev Kz(x:Str)(st:Stmt)(ps:List Str):Prop:=∀(kV doc pm:Value) (an:Option Addr) (cdv ct:Value) (us:List Value),us.length=ps.length->bindArgs (PySem.W.fnOf x x (dF st) (cr st) (ak st) .none kV doc pm an cdv ct) ⟨us,[]⟩=pure (ps.zip us)
def _root_.L2.Kn.up{j:Nat}(G:Kn P w K mg base j x ps sp)(h:j<=k:=by decide):Kn P w K mg base k x ps sp:=G.mono h
def knA(d:Df K x st f)(X:K.In h)(G:h.Ns mainGlobals mg)(ok:∀fd,Fun K x x st f fd->FnOk P w K mg base CX0 k f fd ps sp)(b:Kz x st ps:=by intro _ _ _ _ _ _ us hl;rcases us with _|⟨_,_|⟨_,_|⟨_,_|⟨_,_|⟨_,_⟩⟩⟩⟩⟩<;>first|rfl|cases hl):Kn P w K mg base k x ps sp:=d.kn X G b ok
def Lh(d:Df K x st f)(X:K.In h)(G:h.Ns mainGlobals mg)(b:Kz x st ps:=by intro _ _ _ _ _ _ us hl;rcases us with _|⟨_,_|⟨_,_|⟨_,_|⟨_,_|⟨_,_⟩⟩⟩⟩⟩<;>first|rfl|cases hl):Kn P w K mg base k x ps (spF K dps dr fun _=>none):=d.none X G b
end
def all_mk{l:PySem.W.OpenLaw}{fa f0 f1 f2 f3 f4 f5 f6 f7 f8 f9 f10 f11 f12 f13 f14 f15 f16 f17 f18 f19 f20 f21 f22 f23 f24 f25 f26 f27 f28 f29 f30:Addr}(X:K.In h)(G:h.Ns mainGlobals mg)(hfa:mg "law"=some (.ref fa))
  (d0:Df K "_law_pen" lV f0)
  (d1:Df K "_law_mixed" jy f1)
  (d2:Df K "_law_take" kE f2)
  (d3:Df K "_law_goal" kG f3)
  (d4:Df K "_law_machine" dA f4)
  (d5:Df K "_law_ring" ij f5)
  (d6:Df K "marked" qu f6)
  (d7:Df K "reached" nL f7)
  (d8:Df K "ways_back" ig f8)
  (d9:Df K "alive" oW f9)
  (d10:Df K "met" A3 f10)
  (d11:Df K "kept_stands" fJ f11)
  (d12:Df K "ways_to_kept" e8 f12)
  (d13:Df K "rank_of" kA f13)
  (d14:Df K "ranks_of" gL f14)
  (d15:Df K "first_sign_to" eD f15)
  (d16:Df K "came_from" kC f16)
  (d17:Df K "row_to" qt f17)
  (d18:Df K "first_row" kB f18)
  (d19:Df K "endless" nM f19)
  (d20:Df K "span" rJ f20)
  (d21:Df K "_law_signs" jx f21)
  (d22:Df K "_law_chain" eT f22)
  (d23:Df K "_law_met" lW f23)
  (d24:Df K "_law_longest" e9 f24)
  (d25:Df K "_law_same" ii f25)
  (d26:Df K "_law_gone" kF f26)
  (d27:Df K "_law_is_row" iN f27)
  (d28:Df K "_law_goes_round" du f28)
  (d29:Df K "_law_right" gq f29)
  (d30:Df K "law" lU f30)
  (z0:PySem.W.nsIn K mainGlobals "abs"=some none)
  (z1:PySem.W.nsIn K mainGlobals "all"=some none)
  (z2:PySem.W.nsIn K mainGlobals "bool"=some none)
  (z3:PySem.W.nsIn K mainGlobals "dict"=some none)
  (z4:PySem.W.nsIn K mainGlobals "enumerate"=some none)
  (z5:PySem.W.nsIn K mainGlobals "int"=some none)
  (z6:PySem.W.nsIn K mainGlobals "isinstance"=some none)
  (z7:PySem.W.nsIn K mainGlobals "len"=some none)
  (z8:PySem.W.nsIn K mainGlobals "list"=some none)
  (z9:PySem.W.nsIn K mainGlobals "max"=some none)
  (z10:PySem.W.nsIn K mainGlobals "range"=some none)
  (z11:PySem.W.nsIn K mainGlobals "repr"=some none)
  (z12:PySem.W.nsIn K mainGlobals "reversed"=some none)
  (z13:PySem.W.nsIn K mainGlobals "sorted"=some none)
  (z14:PySem.W.nsIn K mainGlobals "str"=some none)
  (z15:PySem.W.nsIn K mainGlobals "tuple"=some none)
  (z16:PySem.W.nsIn K mainGlobals "zip"=some none):
  ∃fd:FuncData,(∀(s:Shared) (v:Value),BindsTo s fd ⟨[v],[]⟩ [("_law_script",v)])/\∀base:Heap,K.In base->base.Ns mainGlobals mg->FnOk l.prog w K mg base CX0 8 fa fd ["_law_script"] (nV K):=by
 have e:=hfa.symm.trans (PySem.W.mg_of X G d30.a);cases e;have m:=fun {x:Str} (z:PySem.W.nsIn K mainGlobals x=some none)=>PySem.W.mg_none_of X G z;have T:Bl mg:=⟨(m z0),(m z1),(m z2),(m z3),(m z4),(m z5),(m z6),(m z7),(m z8),(m z9),(m z10),(m z11),(m z12),(m z13),(m z14),(m z15),(m z16)⟩;obtain⟨oc,od,kV,dc,pm,an,cd,ct,sl,ll,lc⟩:=d30.l;have FL:=sS (st:=lU) ll lc d30.k;refine⟨PySem.W.fnOf "law" "law" (dF lU) (cr lU) (ak lU) .none kV dc pm an cd ct,fun s v=>.of_eq rfl,fun base _ _=>?_⟩;have g0:oY l.prog w K mg base 1:=knA d0 X G fun _ F=>wn (k:=0) T     F;have g1:l6 l.prog w K mg base 1:=knA d1 X G fun _ F=>sw (k:=0) T     F;have g2:cP l.prog w K mg base 2:=knA d2 X G fun _ F=>ux (k:=1) T  g1.up   F;have g3:m5 l.prog w K mg base 3:=knA d3 X G fun _ F=>uA (k:=2) T  g2.up   F;have g4:jQ l.prog w K mg base 4:=knA d4 X G fun _ F=>pS (k:=3) T  g2.up g3.up   F;have g5:m3 l.prog w K mg base 3:=knA d5 X G fun _ F=>uy (k:=2) T  g2.up   F;have g6:kI l.prog w K mg base 1:=knA d6 X G fun _ F=>zO (k:=0) T     F;have g7:lX l.prog w K mg base 2:=knA d7 X G fun _ F=>xQ (k:=1) T  g6.up   F;have g8:jz l.prog w K mg base 1:=knA d8 X G fun _ F=>uu (k:=0) T     F;have g9:vJ l.prog w K mg base 3:=knA d9 X G fun _ F=>Ed (k:=2) T  g7.up g8.up   F;have g10:wT l.prog w K mg base 3:=knA d10 X G fun _ F=>Le (k:=2) T  g7.up   F;have g11:kP l.prog w K mg base 4:=knA d11 X G fun _ F=>rj (k:=3) T  g6.up g9.up g10.up   F;have g12:jP l.prog w K mg base 1:=knA d12 X G fun _ F=>pQ (k:=0) T     F;have g13:qT l.prog w K mg base 1:=knA d13 X G fun _ F=>xR (k:=0) T     F;have g14:oX l.prog w K mg base 2:=knA d14 X G fun _ F=>wm (k:=1) T  g12.up g8.up g13.up   F;have g15:jf l.prog w K mg base 1:=knA d15 X G fun _ F=>n9 (k:=0) T     F;have g16:mZ l.prog w K mg base 1:=knA d16 X G fun _ F=>uw (k:=0) T     F;have g17:tX l.prog w K mg base 1:=knA d17 X G fun _ F=>zN (k:=0) T     F;have g18:mY l.prog w K mg base 2:=knA d18 X G fun _ F=>uv (k:=1) T  g16.up g17.up   F;have g19:qU l.prog w K mg base 3:=knA d19 X G fun _ F=>xS (k:=2) T  g15.up g18.up   F;have g20:yV l.prog w K mg base 5:=knA d20 X G fun _ F=>II (k:=4) T  g11.up g14.up g19.up g10.up g6.up   F;have g21:lY l.prog w K mg base 3:=knA d21 X G fun _ F=>su (k:=2) T  g2.up   F;have g22:l7 l.prog w K mg base 3:=knA d22 X G fun _ F=>sy (k:=2) T  g2.up   F;have g23:oZ l.prog w K mg base 1:=knA d23 X G fun _ F=>wo (k:=0) T     F;have g24:jR l.prog w K mg base 1:=knA d24 X G fun _ F=>pT (k:=0) T     F;have g25r0:Kn l.prog w K mg base 0 "_law_same" ["_law_got","_law_due"] (spF K [0,0] 3 (aW 0)):=Lh d25 X G;have g25r1:Kn l.prog w K mg base 1 "_law_same" ["_law_got","_law_due"] (spF K [0,0] 3 (aW 1)):=knA d25 X G fun _ F=>dD (k:=0) T  g25r0 F;have g25r2:Kn l.prog w K mg base 2 "_law_same" ["_law_got","_law_due"] (spF K [0,0] 3 (aW 2)):=knA d25 X G fun _ F=>dD (k:=1) T  g25r1 F;have g25r3:Kn l.prog w K mg base 3 "_law_same" ["_law_got","_law_due"] (spF K [0,0] 3 (aW 3)):=knA d25 X G fun _ F=>dD (k:=2) T  g25r2 F;have g25r4:Kn l.prog w K mg base 4 "_law_same" ["_law_got","_law_due"] (spF K [0,0] 3 (aW 4)):=knA d25 X G fun _ F=>dD (k:=3) T  g25r3 F;have g25r5:Kn l.prog w K mg base 5 "_law_same" ["_law_got","_law_due"] (spF K [0,0] 3 (aW 5)):=knA d25 X G fun _ F=>dD (k:=4) T  g25r4 F;have g25:Kn l.prog w K mg base 6 "_law_same" ["_law_got","_law_due"] (spF K [0,0] 3 (aW 6)):=knA d25 X G fun _ F=>dD (k:=5) T  g25r5 F;have g26:m4 l.prog w K mg base 1:=knA d26 X G fun _ F=>uz (k:=0) T     F;have g27:kQ l.prog w K mg base 1:=knA d27 X G fun _ F=>rm (k:=0) T     F;have g28:hV l.prog w K mg base 2:=knA d28 X G fun _ F=>mQ (k:=1) T  g26.up g27.up   F;have g29:lZ l.prog w K mg base 7:=knA d29 X G fun _ F=>sv (k:=6) T  g23.up g24.up g25.up g28.up   F;exact(Lf (k:=7) T  g0.up g2.up g4.up g5.up g20.up g21.up g22.up g29.up   FL).imp fun vs H Q E h=>IV zX h
def walk{l:PySem.W.OpenLaw}{q:Program}{fA:List Str}{XP:(Str->Option Value)->Heap->Prop}{YP:World->Heap->Prop}{d:DefRec}{K:Params->zb7}(hn:l.most=some 63)(hdf:d.params.defaults=[])(hq:PyProof.Rows.importsNone q=true)
  (hY:∀(w:World) (h:Heap),YP w h->(K w.params).In h)
  (F:∀(w:World) (mg:Str->Option Value) (fa:Addr) (h:Heap),(K w.params).In h->h.Ns mainGlobals mg->mg d.name=some (.ref fa) ->
   ∃fd:FuncData,(∀(s:Shared) (u:Value),BindsTo s fd ⟨[u],[]⟩ [("_law_script",u)])/\∀base:Heap,(K w.params).In base->base.Ns mainGlobals mg->FnOk l.prog w (K w.params) mg base CX0 8 fa fd ["_law_script"] (nV (K w.params))):
  PySem.W.WalkO q fA XP YP l.row.toRowW d [] (fun f vs=>PySem.call f vs):=
 L2.walk_of (n:=63) (k:=8) (x:="_law_script") (CX:=fun _=>CX0) (sp:=fun w=>nV (K w.params)) hn (by decide) hdf ⟨rfl,by decide,by decide,rfl⟩ hq hY F (fun _ _ a ns hl hO hS=>⟨a,ns,rfl,hS,hO,hl,fun _=>rfl⟩) fun _ _ _ _ _ z=>z
end W25
open PySem PySem.W PyProof.Rows
set_option maxRecDepth 100000 in
set_option maxHeartbeats 0 in
theorem PySem.Challenge.cw_wordrules_k25_spans_told_holds : PySem.Challenge.rw_wordrules_k25_spans_told.Holds := by
 w_on;o_law;k_head;(case hw=>w_witness2)
 k_fill
 refine W25.walk (l:=PySem.Challenge.rw_wordrules_k25_spans_told) rfl rfl rfl (fun w h Y=>PySem.W.kIn_of Y) ?F
 case F=>
  intro w mg fa h KX G hmg;refine' W25.all_mk KX G hmg (.mk' ?_ ?_ ?_ ?_) (.mk' ?_ ?_ ?_ ?_) (.mk' ?_ ?_ ?_ ?_) (.mk' ?_ ?_ ?_ ?_) (.mk' ?_ ?_ ?_ ?_) (.mk' ?_ ?_ ?_ ?_) (.mk' ?_ ?_ ?_ ?_) (.mk' ?_ ?_ ?_ ?_) (.mk' ?_ ?_ ?_ ?_) (.mk' ?_ ?_ ?_ ?_) (.mk' ?_ ?_ ?_ ?_) (.mk' ?_ ?_ ?_ ?_) (.mk' ?_ ?_ ?_ ?_) (.mk' ?_ ?_ ?_ ?_) (.mk' ?_ ?_ ?_ ?_) (.mk' ?_ ?_ ?_ ?_) (.mk' ?_ ?_ ?_ ?_) (.mk' ?_ ?_ ?_ ?_) (.mk' ?_ ?_ ?_ ?_) (.mk' ?_ ?_ ?_ ?_) (.mk' ?_ ?_ ?_ ?_) (.mk' ?_ ?_ ?_ ?_) (.mk' ?_ ?_ ?_ ?_) (.mk' ?_ ?_ ?_ ?_) (.mk' ?_ ?_ ?_ ?_) (.mk' ?_ ?_ ?_ ?_) (.mk' ?_ ?_ ?_ ?_) (.mk' ?_ ?_ ?_ ?_) (.mk' ?_ ?_ ?_ ?_) (.mk' ?_ ?_ ?_ ?_) (.mk' ?_ ?_ ?_ ?_) ?_ ?_ ?_ ?_ ?_ ?_ ?_ ?_ ?_ ?_ ?_ ?_ ?_ ?_ ?_ ?_ ?_
  all_goals (try k_is)

