import PyProof.Rows.All
import Wide.All
import OpenK.AllK
import Wide.FinOn
import Lean
import PyProof.EqAt
import PyProof.EqKinds
import PyProof.TupleCall
import PyProof.NeKinds
import PyProof.ConsumeWalk
import PyProof.ZipIter
import PyProof.EnumMake
import PyProof.EnumFor
import PyProof.StrWalks
import PyProof.ListStr
import PyProof.SliceStr2
import PyProof.StrBlockI
import PyProof.Rows.StrWeight2
import PyProof.Rows.ZipGen
import PyProof.Rows.StrIndexOr
import PyProof.Draws
import PyProof.RaisesStr
import PyProof.Rows.StrCountLaw
import PyProof.SumWalk
import PyProof.ReprRoads
import PyProof.ReprLen
import PyProof.CallFns
import PyProof.SumAny
import PyProof.SumAnyB
import KE.KRevIter
import PySem.Challenge.RW_wordrules_k33_what_is_a_shortest
set_option Elab.async false
set_option linter.all false
set_option maxRecDepth 100000
section
open PySem PyProof.Rows
def zaa:=@Option.bind_eq_some_iff
def zab:=@Option.map_eq_some_iff
def zac:=@List.length_cons
def zad:=@List.length_map
def zae:=@List.length_append
def zaf:=@Heap.get?_push_of_some
def zag:=@Nat.lt_of_lt_of_le
def zah:=@List.getElem?_eq_some_iff
def zai:=@List.size_toArray
def zaj:=@List.mem_cons_of_mem
def zak:=@List.getElem?_eq_getElem
def zal:=@Heap.lt_size
def zam:=@wpAny_bind
def zan:=@Heap.get?_push_size
def zao:=@List.getElem?_map
def zap:=@List.not_mem_nil
def zaq:=@List.mem_cons_self
def zar:=@List.map_cons
def zas:=@List.lookup_cons
def zat:=@Option.some.inj
def zau:=@Nat.le_trans
def zav:=@Nat.le_refl
def zaw:=@Nat.ne_of_lt
def zax:=@List.mem_append
def zay:=@List.mem_cons
def zaz:=@List.mem_map
def zaA:=@decide_eq_false
def zaB:=@decide_eq_true
def zaC:=@List.map_append
def zaE:=@List.length_take
def zaF:=@List.length_drop
def zaH:=@List.mem_singleton
def zaI:=@Nat.lt_irrefl
def zaJ:=@Nat.lt_succ_self
def zaK:=@List.getElem_mem
def zaL:=@Int.toNat_natCast
def zaM:=@Int.eq_ofNat_of_zero_le
def zaN:=@List.length_replicate
def zaO:=@List.getElem?_set_ne
def zaP:=@List.getElem?_set_self
def zaQ:=@List.take_length
def zaR:=@List.map_map
def zaS:=@List.getElem?_append_left
def zaT:=@wpAny_pure
def zaU:=@PySem.mem_of_lookup
def zaV:=@List.length_set
def zaW:=@Nat.le_of_lt
def zaX:=@List.mem_of_getElem?
def zaY:=@Array.length_toList
def za0:=@List.map_nil
def za1:=@Prod.mk.injEq
def za4:=@Nat.zero_add
def za7:=@List.length_eq_zero_iff
def zba:=@Int.emod_nonneg
def zbb:=@Int.emod_lt_of_pos
def zbc:=@List.nodup_cons
def zbe:=@List.length_range
def zbf:=@List.mem_append_left
def zbg:=@List.mem_append_right
def zbh:=@List.getD_eq_getElem?_getD
def zbi:=@decide_eq_true_iff
def zbj:=@Nat.zero_le
def zbk:=@Bool.and_self
def zbl:=@List.getElem?_eq_none
def zbm:=@Bool.and_eq_true
def zbn:=@Bool.false_ne_true
def zbo:=@List.find?_cons
def zbq:=@List.getElem?_of_mem
def zbr:=@List.mem_range
def zbs:=@List.append_nil
def zbv:=@Heap.size_push
def zbw:=@List.map_congr_left
def zbz:=@Heap.get?_update_other
def zbA:=@wpAny_truthy_bool
def zbB:=@wpAny_callSpecial?_slot
def zbD:=@List.mem_filter
def zbI:=@List.getElem?_append_right
def zbJ:=@List.mem_reverse
def zbK:=@Nat.lt_of_le_of_lt
def zbM:=@Int.zero_add
def zbO:=@List.mem_or_eq_of_mem_set
def zbQ:=@List.any_eq_true
def zbR:=@beq_eq_false_iff_ne
def zbT:=@wpAny_holding
def zbW:=@Bool.and_true
def zbX:=@Bool.and_false
abbrev zbY:=PySem.W.Frag
end
namespace PySem.W.Fast
def tw10057307170370875917:=0
def tw10091510715941801458:=0
def tw10129166331544682014:=0
def tw1027028177025614856:=0
def tw10290312054751902364:=0
def tw10320862299158927942:=0
def tw10320935139590722035:=0
def tw10364720804266989906:=0
def tw10491273364321645162:=0
def tw10539340974685762992:=0
def tw10705933278915583041:=0
def tw10706788471764747716:=0
def tw10773798365230576709:=0
def tw10808542854373349065:=0
def tw10935752683798302362:=0
def tw10979625030750260302:=0
def tw1103809163368554260:=0
def tw11122667185981519673:=0
def tw11139771582913875621:=0
def tw11151368102378218413:=0
def tw11179299279808569109:=0
def tw11291976576886679576:=0
def tw11307030924033850972:=0
def tw11389079232066794903:=0
def tw1171897696752464746:=0
def tw11722788808912970736:=0
def tw11741953542524307842:=0
def tw11746389304164584147:=0
def tw1175928788364774010:=0
def tw12021053644235544118:=0
def tw12029751107787453873:=0
def tw12046470863680157303:=0
def tw12077075944905818122:=0
def tw12104634730515694268:=0
def tw12108468952960089943:=0
def tw121369511672845636:=0
def tw12241973357429099466:=0
def tw12279515486841345261:=0
def tw12336963499383484077:=0
def tw12347552908571541325:=0
def tw12396430078264716259:=0
def tw12460627839182234294:=0
def tw1247043063800671833:=0
def tw12735965439281781100:=0
def tw12939344372020594455:=0
def tw12960429242795563656:=0
def tw12974584472804362614:=0
def tw13164603979144087946:=0
def tw13207079640206657613:=0
def tw13258227324651823449:=0
def tw13259498456624461673:=0
def tw13332628823916467718:=0
def tw13350314319031939494:=0
def tw13380917601788477643:=0
def tw13420498967536298352:=0
def tw13522769755157802435:=0
def tw13529047012344719444:=0
def tw13704761950907485679:=0
def tw13719105734701149268:=0
def tw13750037766708962873:=0
def tw13777056077090170458:=0
def tw13786830962245295739:=0
def tw13804590320442853499:=0
def tw13914952178152325820:=0
def tw13973759957303577970:=0
def tw13983715371282874784:=0
def tw14048499300955549156:=0
def tw14090115982811399755:=0
def tw14121417525189080036:=0
def tw145759849931848096:=0
def tw14586353227899894860:=0
def tw14599975284873300988:=0
def tw14777020129506544825:=0
def tw14781678998565136207:=0
def tw14786062952517422923:=0
def tw14949047751007019643:=0
def tw15045024183166274980:=0
def tw15131463663725827253:=0
def tw1513565443471870019:=0
def tw15151936242304556812:=0
def tw15190435470884792996:=0
def tw15215997991678429423:=0
def tw15229844129996919695:=0
def tw15241910670416042774:=0
def tw15284168204310258622:=0
def tw15286350766019097889:=0
def tw15347991017639423311:=0
def tw15354706644640381114:=0
def tw15508404614797067006:=0
def tw15606661928247734506:=0
def tw15807337580054969073:=0
def tw15877312590045867513:=0
def tw15950772624987525700:=0
def tw15960614969748048022:=0
def tw16183505564328770014:=0
def tw16332707413168346049:=0
def tw16374176779434596411:=0
def tw16418880680086105375:=0
def tw16461572653263760536:=0
def tw16467631967595286629:=0
def tw16561402761951600477:=0
def tw16562666068525261594:=0
def tw16600005781800561658:=0
def tw16600690956935127571:=0
def tw16725753402918043454:=0
def tw16730673410155927242:=0
def tw16872496035875400681:=0
def tw16999799372385111753:=0
def tw17030180966081681290:=0
def tw17056033374007294288:=0
def tw17215946719571723246:=0
def tw17255786543180343445:=0
def tw17293784264813109999:=0
def tw17328769493361620824:=0
def tw17678158077651005665:=0
def tw17726480482571499148:=0
def tw17728712284350135910:=0
def tw18003461337960103273:=0
def tw18093692925268248017:=0
def tw18379135286053697853:=0
def tw1891120351269046121:=0
def tw2124888162257736123:=0
def tw2142048870545664996:=0
def tw220681780835339886:=0
def tw2264068215667046258:=0
def tw2353421669170341254:=0
def tw2474690065026855213:=0
def tw2606198504842793707:=0
def tw2783680052872346554:=0
def tw2814211217828958099:=0
def tw2927295296396151075:=0
def tw2973894845207518946:=0
def tw3061341254922827044:=0
def tw3212647746385363081:=0
def tw3310132827212643261:=0
def tw3325089415770211749:=0
def tw3378065922186611205:=0
def tw3570225133376259335:=0
def tw3753761994018617893:=0
def tw3762463989941467319:=0
def tw3763629682286290785:=0
def tw3898689090287725363:=0
def tw3912573865790128205:=0
def tw397259911081311449:=0
def tw4230399405679832832:=0
def tw4403202270879968683:=0
def tw4424530665536955868:=0
def tw4431040250658752370:=0
def tw4508862804925226625:=0
def tw4538585202649534954:=0
def tw4560619665339762144:=0
def tw4629739578903853766:=0
def tw4662243694883714927:=0
def tw468351604858594084:=0
def tw471235778447634675:=0
def tw4736096691539294939:=0
def tw4854130750310845221:=0
def tw4932062693537362565:=0
def tw4976742279610184326:=0
def tw50401182599588420:=0
def tw518366721130467302:=0
def tw5257022977465202702:=0
def tw5417224550743352480:=0
def tw5442140978886611722:=0
def tw5515793391833523813:=0
def tw5531811169439563568:=0
def tw5657634675624736276:=0
def tw5751438021002169866:=0
def tw5756029867479741862:=0
def tw5814570861581484405:=0
def tw5909059634366887012:=0
def tw5957465142533312181:=0
def tw6048399814866973468:=0
def tw6111952355308577009:=0
def tw6196480962273143910:=0
def tw6251584236425986577:=0
def tw6456937687282245271:=0
def tw646135729750598125:=0
def tw6468928590911861521:=0
def tw6485297864033844612:=0
def tw6491754948446610446:=0
def tw6562784796249381309:=0
def tw6798306507800623690:=0
def tw6816808706950793945:=0
def tw6833049631997993397:=0
def tw6909636774477880080:=0
def tw6914781008365408895:=0
def tw7209335118335527855:=0
def tw7460060688598952263:=0
def tw7486264005803592387:=0
def tw753370648619287895:=0
def tw761979112749619372:=0
def tw7665829517599620368:=0
def tw7672426235889699319:=0
def tw768769160698551280:=0
def tw7729898574092390300:=0
def tw7735341687215219007:=0
def tw7782844123298932738:=0
def tw7851939088224324938:=0
def tw7984667765293482013:=0
def tw82103735435554783:=0
def tw8269939088886358995:=0
def tw8325534072436860422:=0
def tw8350294974682452417:=0
def tw8411014138433375098:=0
def tw8538446859250310204:=0
def tw8545791220658712668:=0
def tw8701699374093897953:=0
def tw8775082105301156721:=0
def tw8916014636892023923:=0
def tw908197880218086354:=0
def tw9083650924938760011:=0
def tw9138654996668726939:=0
def tw9158098736820452065:=0
def tw9176881009899410877:=0
def tw9224893653225256151:=0
def tw9238589553709091492:=0
def tw9241053133256501119:=0
def tw928782273746165435:=0
def tw9498935956892310707:=0
def tw951152907119162265:=0
def tw9584155342959587852:=0
def tw9650481237702175459:=0
def tw9687853210214644493:=0
def tw9694887081446203759:=0
def tw9731564384230769595:=0
def tw9738828851834745928:=0
def tw9743316251489084265:=0
def tw9980109797697060719:=0
end PySem.W.Fast
namespace L2
variable{a b dx C f:Addr}{u:Value}{h h':Heap}{P:Program}{w:World}{x qual:Str}{e c tg:Expr}{ρ:List (Addr×Obj)}{s s':Shared}{g':Array GenState}{t' i j k n:Nat}{d':Drawn}{ch fp:List Addr}{N ps:List Str}{M:Model}{A:Around}{E Q:Value->Shared->Prop}{pos p:Pos}{op op':CmpOp}{K:zbY}{es:List Expr}{g:Int->Int->Int}{body:List Stmt}{us:List Value}{mA mg:Str->Option Value}{fd:FuncData}{scope:Scope}
open PySem PySem.Spec PyProof.Rows
abbrev Key:=Sum Int Str
def kX:Key->Value->Bool
 |.inl k,v=>Value.isInt k v
 |.inr x,v=>Value.isStrOf x v
def Nc(w:World):Key->Int
 |.inl k=>hashInt k
 |.inr x=>hashStr w x
def bN:∀{k:Key} {v:Value},kX k v=true->(∃i t,k=Sum.inl i/\v=Value.int i t)\/(∃x t,k=Sum.inr x/\v=Value.str x t)
 |.inl i,v,h=>by
  obtain⟨t,e⟩:=Value.isInt_shape (k:=i) (v:=v) h;exact .inl ⟨i,t,rfl,e⟩
 |.inr x,v,h=>by
  obtain⟨t,e⟩:=Value.isStrOf_shape (x:=x) (v:=v) h;exact .inr ⟨x,t,rfl,e⟩
def yT(i:Int)(t:Tok):kX (.inl i) (.int i t)=true:=by simp[kX,Value.isInt]
def yS(x:Str)(t:Tok):kX (.inr x) (.str x t)=true:=by simp[kX,Value.isStrOf]
def yR(a b:Int):decide ((Sum.inl a:Key)=Sum.inl b)=(a==b):=by
 by_cases e:a=b
 ·subst e;simp
 ·have h:¬(Sum.inl a:Key)=Sum.inl b:=fun q=>e (Sum.inl.inj q);rw[zaA h];exact(zbR.mpr e).symm
def yO(a b:Str):decide ((Sum.inr a:Key)=Sum.inr b)=decide (a=b):=by
 by_cases e:a=b
 ·subst e;simp
 ·have h:¬(Sum.inr a:Key)=Sum.inr b:=fun q=>e (Sum.inr.inj q);rw[zaA h,zaA e]
def yQ(a:Int)(b:Str):decide ((Sum.inl a:Key)=Sum.inr b)=false:=zaA (fun q=>nomatch q)
def yP(a:Str)(b:Int):decide ((Sum.inr a:Key)=Sum.inl b)=false:=zaA (fun q=>nomatch q)
def bz(prog:Program)(w:World):PySem.KeyKind prog w Key where
 is:=kX
 hash:=Nc w
 inj:=fun v a b ha hb=>by
  rcases bN ha with⟨i,t,rfl,rfl⟩|⟨x,t,rfl,rfl⟩
  ·rcases bN hb with⟨j,u,rfl,e⟩|⟨y,u,rfl,e⟩
   ·injection e with e1 _;rw[e1]
   ·exact nomatch e
  ·rcases bN hb with⟨j,u,rfl,e⟩|⟨y,u,rfl,e⟩
   ·exact nomatch e
   ·injection e with e1 _;rw[e1]
 byValue:=fun k v h=>by
  rcases bN h with⟨i,t,rfl,rfl⟩|⟨x,t,rfl,rfl⟩<;>rfl
 pyHash:=fun hv h=>by
  rcases bN hv with⟨i,t,rfl,rfl⟩|⟨x,t,rfl,rfl⟩
  ·exact wpAny_pyHash_int h
  ·exact wpAny_pyHash_str h
 eqBool:=fun hu hv h=>by
  rcases bN hu with⟨i,t,rfl,rfl⟩|⟨x,t,rfl,rfl⟩
  ·rcases bN hv with⟨j,u,rfl,rfl⟩|⟨y,u,rfl,rfl⟩
   ·rw[yR]at h;exact wpAny_eqBool_int h
   ·rw[yQ]at h;exact SeqAt.EqAt.int_str i t y u _ _ _ _ h
  ·rcases bN hv with⟨j,u,rfl,rfl⟩|⟨y,u,rfl,rfl⟩
   ·rw[yP]at h;exact SeqAt.EqAt.str_int x t j u _ _ _ _ h
   ·rw[yO]at h;exact wpAny_eqBool_str h
 «strs»:=fun k x t v h=>by
  rcases bN h with⟨i,u,rfl,e⟩|⟨y,u,rfl,e⟩
  ·exact nomatch e
  ·injection e with e1 _
   subst e1;cases v<;>rfl
def vo(prog:Program)(w:World)(i:Int)(t:Tok):(bz prog w).is (.inl i) (.int i t)=true:=yT i t
def vn(prog:Program)(w:World)(x:Str)(t:Tok):(bz prog w).is (.inr x) (.str x t)=true:=yS x t
inductive V where
 |non|bl (b:Bool)|int (i:Int)|str (x:Str)|byt (b:Array UInt8)|flt (b:UInt64)|ref (a:Addr)|ty (n:String)
 deriving DecidableEq
variable{v y:V}{vs:List V}
def RelV:V->Value->Prop
 |.non,u=>u=Value.none
 |.bl b,u=>u=Value.bool b
 |.int i,u=>∃t,u=Value.int i t
 |.str x,u=>∃t,u=Value.str x t
 |.byt b,u=>∃t,u=Value.bytes b t
 |.flt b,u=>∃t,u=Value.float b t
 |.ref a,u=>u=Value.ref a
 |.ty n,u=>u=Value.type n
abbrev Vals:List V->List Value->Prop:=Paired RelV
def Vals.length{xs:List V}{us:List Value}(r:Vals xs us):xs.length=us.length:=Paired.length r
theorem Vals.get:∀{xs:List V} {us:List Value} {i:Nat} {x:V},Vals xs us->xs[i]?=some x->∃u,us[i]?=some u/\RelV x u
 |_,_,_,_,.nil,e=>by simp at e
 |_,_,0,_,.cons r _,e=>by simp at e;subst e;exact⟨_,rfl,r⟩
 |_,_,i+1,x,.cons _ t,e=>by
  obtain⟨u,h1,h2⟩:=Vals.get (i:=i) (x:=x) t (by simpa using e);exact⟨u,by simpa using h1,h2⟩
theorem Vals.set{x:V}{u:Value}(r:RelV x u):∀{xs:List V} {us:List Value} (i:Nat),Vals xs us->Vals (xs.set i x) (us.set i u)
 |_,_,_,.nil=>.nil
 |_,_,0,.cons _ t=>.cons r t
 |_,_,i+1,.cons q t=>.cons q (Vals.set r i t)
theorem Vals.append:∀{xs ys:List V} {us ws:List Value},Vals xs us->Vals ys ws->Vals (xs++ys) (us++ws)
 |_,_,_,_,.nil,s=>s
 |_,_,_,_,.cons r t,s=>.cons r (Vals.append t s)
theorem Vals.take:∀{xs:List V} {us:List Value} (n:Nat),Vals xs us->Vals (xs.take n) (us.take n)
 |_,_,0,_=>.nil
 |_,_,_+1,.nil=>.nil
 |_,_,n+1,.cons r t=>.cons r (Vals.take n t)
theorem Vals.drop:∀{xs:List V} {us:List Value} (n:Nat),Vals xs us->Vals (xs.drop n) (us.drop n)
 |_,_,0,r=>r
 |_,_,_+1,.nil=>.nil
 |_,_,n+1,.cons _ t=>Vals.drop n t
def RelO:Option V->Option Value->Prop
 |some v,some u=>RelV v u
 |none,none=>True
 |_,_=>False
def KV{κ:Type}:List (κ×V)->List (κ×Value)->Prop:=Paired fun(p:κ×V) (q:κ×Value)=>p.1=q.1/\RelV p.2 q.2
def kV:Key->V
 |.inl i=>.int i
 |.inr x=>.str x
inductive HO where
 |lst (xs:List V)
 |tup (xs:List V)
 |dK (kvs:List (Key×V))|dT (kvs:List (List Key×V))
 |set (S:Int->Bool) (n:Nat)
 |ins (C dx:Addr) (fs:List (Str×V))
 |own (x:Addr)
 |xd (fs:List (Str×V))
 |met (f x:Addr)
 |rng (lo hi:Int)
 |frz (o:Obj) (u:HO)
 |tbl (ps:Array Value)
 |ext (φ:Heap->Prop)
variable{o:HO}
abbrev Hp:=Addr->Option HO
variable{H H':Hp}
def upd(H:Hp)(a:Addr)(o:HO):Hp:=fun b=>if b=a then some o else H b
def aI:upd H a o a=some o:=by unfold upd;rw[if_pos rfl]
def aN(h:b≠a):upd H a o b=H b:=by unfold upd;rw[if_neg h]
def L7{u:HO}(h:H a=some o)(h':H b=some u)(d:o≠u):a≠b:=by
 intro e;subst e;rw[h]at h';exact d (zat h')
def cw(h:H a=some o)(h':H b=none):a≠b:=by
 intro e;subst e;rw[h]at h';cases h'
def IsTupN(h:Heap)(a:Addr)(its:Array Value):Prop:=∃o,h.get? a=some o/\o.cls=.type "tuple"/\∃n,o.data=.seq its n/\o.dict=none
def IsTupN.tup{h:Heap}{a:Addr}{its:Array Value}(x:IsTupN h a its):IsTup h a its:=by
 obtain⟨o,h1,h2,n,h3,_⟩:=x;exact⟨o,h1,h2,n,h3⟩
def IsTupN.lt{its:Array Value}(x:IsTupN h a its):a<h.objs.size:=zal x.choose_spec.1
def IsTupN.new(h:Heap)(its:Array Value):IsTupN (h.push { cls:=.type "tuple",data:=.seq its }) h.objs.size its:=⟨_,zan _ rfl,rfl,_,rfl,rfl⟩
section
variable(P:Program)(w:World)
def ObjOk(H:Hp)(h:Heap)(a:Addr):HO->Prop
 |.lst xs=>xs.length<=sizeLine/\∃(its:List Value) (n:Nat),Vals xs its/\h.get? a=some { cls:=.type "list",data:=.seq its.toArray n }
 |.tup xs=>xs.length<=sizeLine/\∃its:List Value,Vals xs its/\IsTupN h a its.toArray
 |.dK kvs=>kvs.length<=sizeLine/\(a==sysModules)=false/\∃vs,KV kvs vs/\h.DictOf (bz P w) a vs
 |.dT kvs=>kvs.length<=sizeLine/\(a==sysModules)=false/\∃xs:List (List Key×Addr×Value),
   Paired (fun(p:List Key×V) (q:List Key×Addr×Value)=>p.1=q.1/\H q.2.1=some (.tup (p.1.map kV))/\RelV p.2 q.2.2) kvs xs /\
   ∃o es ep,h.get? a=some o/\o.ExactDict/\o.data=.dict es ep/\es.toList=xs.map (entryOfKey (tupleKind (bz P w)))/\(xs.map (·.1)).Nodup
 |.set S n=>h.SetOf (intKind P w) a S n
 |.ins C dx fs=>H dx=some (.own a)/\fs.length<=1000/\dx≠a/\h.get? a=some (PySem.W.instObj C dx) /\
   ∃mA,h.Ns1 dx mA/\(∀f,RelO (fs.lookup f) (mA f))/\PySem.Within mA (fs.map (·.1))
 |.own _=>∃o,h.get? a=some o
 |.xd fs=>∃mA,h.Ns1 a mA/\∀f,RelO (fs.lookup f) (mA f)
 |.rng lo hi=>∃t u v,h.get? a=some { cls:=.type "range",data:=.fields #[.int lo t,.int hi u,.int 1 v] }
 |.frz o u=>h.get? a=some o/\ObjOk H h a u
 |.tbl ps=>h.get? a=some { cls:=.none,data:=.fields ps }
 |.met f x=>h.get? a=some (PySem.W.methodObj (.ref f) (.ref x))
 |.ext φ=>φ h/\(∃o,h.get? a=some o)/\∀h1 h2:Heap,φ h1->(∀o,h1.get? a=some o->h2.get? a=some o)->φ h2
def HOk(H:Hp)(h:Heap):Prop:=∀a o,H a=some o->ObjOk P w H h a o
end
theorem ObjOk.lt(x:ObjOk P w H h a o):a<h.objs.size:=by
 cases o with
 |lst xs=>obtain⟨_,_,_,_,e⟩:=x;exact zal e
 |tup xs=>obtain⟨_,_,_,p⟩:=x;exact p.lt
 |dK kvs=>obtain⟨_,_,_,_,o,_,_,e,_⟩:=x;exact zal e
 |dT kvs=>obtain⟨_,_,_,_,o,_,_,e,_⟩:=x;exact zal e
 |set S n=>obtain⟨o,_,_,_,e,_⟩:=x;exact zal e
 |ins C dx fs=>obtain⟨_,_,_,e,_⟩:=x;exact zal e
 |own y=>obtain⟨_,e⟩:=x;exact zal e
 |xd fs=>obtain⟨_,⟨_,_,_,e,_⟩,_⟩:=x;exact zal e
 |rng lo hi=>obtain⟨_,_,_,e⟩:=x;exact zal e
 |frz ob u=>obtain⟨e,_⟩:=x;exact zal e
 |tbl ps=>exact zal (show h.get? a=some _ from x)
 |met f y=>exact zal (show h.get? a=some _ from x)
 |ext φ=>obtain⟨_,⟨_,e⟩,_⟩:=x;exact zal e
theorem Paired.mapP{α β:Type}{F G:α->β->Prop}:∀{l₁:List α} {l₂:List β},Paired F l₁ l₂->(∀a b,F a b->G a b)->Paired G l₁ l₂
 |_,_,.nil,_=>.nil
 |_,_,.cons r t,f=>.cons (f _ _ r) (Paired.mapP t f)
def ObjOk.stay(x:ObjOk P w H h a o)(k:∀b u,(b=a\/H b=some (.own a))->h.get? b=some u->h'.get? b=some u)
  (ho:∀b,H b=some (.own a)->H' b=some (.own a)) (ht:∀b xs,H b=some (.tup xs)->H' b=some (.tup xs)):ObjOk P w H' h' a o:=by
 induction o with
 |lst xs=>obtain⟨z,its,n,r,e⟩:=x;exact⟨z,its,n,r,k _ _ (.inl rfl) e⟩
 |tup xs=>obtain⟨z,its,r,ob,e,c⟩:=x;exact⟨z,its,r,ob,k _ _ (.inl rfl) e,c⟩
 |dK kvs=>obtain⟨z,y,vs,r,ob,es,ep,e,c⟩:=x;exact⟨z,y,vs,r,ob,es,ep,k _ _ (.inl rfl) e,c⟩
 |dT kvs=>
  obtain⟨z,y,xs,r,ob,es,ep,e,c⟩:=x;exact⟨z,y,xs,Paired.mapP r fun p q z=>⟨z.1,ht _ _ z.2.1,z.2.2⟩,ob,es,ep,k _ _ (.inl rfl) e,c⟩
 |set S n=>obtain⟨ob,es,ep,t,e,c⟩:=x;exact⟨ob,es,ep,t,k _ _ (.inl rfl) e,c⟩
 |ins C dx fs=>
  obtain⟨d,z,ne,e,mA,⟨od,es,ep,e2,c⟩,r⟩:=x;exact⟨ho _ d,z,ne,k _ _ (.inl rfl) e,mA,⟨od,es,ep,k _ _ (.inr d) e2,c⟩,r⟩
 |own y=>obtain⟨ob,e⟩:=x;exact⟨ob,k _ _ (.inl rfl) e⟩
 |xd fs=>obtain⟨mA,⟨od,es,ep,e,c⟩,r⟩:=x;exact⟨mA,⟨od,es,ep,k _ _ (.inl rfl) e,c⟩,r⟩
 |rng lo hi=>obtain⟨t,u,v,e⟩:=x;exact⟨t,u,v,k _ _ (.inl rfl) e⟩
 |frz ob u ih=>obtain⟨e,q⟩:=x;exact⟨k _ _ (.inl rfl) e,ih q⟩
 |tbl ps=>
  have e:h.get? a=some { cls:=.none,data:=.fields ps }:=x;show h'.get? a=some { cls:=.none,data:=.fields ps };exact k a _ (.inl rfl) e
 |met f y=>
  have e:h.get? a=some (PySem.W.methodObj (.ref f) (.ref y)):=x;show h'.get? a=some (PySem.W.methodObj (.ref f) (.ref y));exact k a _ (.inl rfl) e
 |ext φ=>obtain⟨p,⟨o,e⟩,st⟩:=x;exact⟨st _ _ p fun o q=>k _ _ (.inl rfl) q,⟨o,k _ _ (.inl rfl) e⟩,st⟩
def HOk.lt(x:HOk P w H h)(e:H a=some o):a<h.objs.size:=(x a o e).lt
def HOk.fresh(x:HOk P w H h)(e:h.objs.size<=a):H a=none:=by
 cases q:H a with
 |none=>rfl
 |some u=>exact absurd (zag (x.lt q) e) (zaI _)
def HOk.kept(x:HOk P w H h)(k:∀b u,h.get? b=some u->h'.get? b=some u):HOk P w H h':=fun a o e=>
 (x a o e).stay (fun b u _ q=>k b u q) (fun _ q=>q) fun _ _ q=>q
def HOk.laid(x:HOk P w H h)(k:∀b u,h.get? b=some u->h'.get? b=some u)(hp:h.objs.size<=a)(new:ObjOk P w (upd H a o) h' a o):HOk P w (upd H a o) h':=fun b u e=>by
 have hn:=x.fresh hp;by_cases hb:b=a
 ·subst hb;rw[aI]at e;cases e;exact new
 ·rw[aN hb]at e;exact(x b u e).stay (fun c v _ q=>k c v q) (fun c q=>by rw[aN (cw q hn)];exact q) fun c xs q=>by rw[aN (cw q hn)];exact q
def Rd(H:Hp)(a:Addr)(u:HO):Prop:=H a=some u\/∃o,H a=some (.frz o u)
def Rd.ok{u:HO}(r:Rd H a u)(x:HOk P w H h):ObjOk P w H h a u:=by
 rcases r with r|⟨o,r⟩
 ·exact x a u r
 ·obtain⟨_,q⟩:=x a _ r;exact q
def Mut:Option HO->Prop
 |some (.lst _)=>True
 |some (.dK _)=>True
 |some (.dT _)=>True
 |some (.set _ _)=>True
 |some (.ins _ _ _)=>True
 |some (.ext _)=>True
 |_=>False
section
variable{x e:Addr}{o':HO}
def HOk.write(ok:HOk P w H h)(mu:Mut (H x))(he:e=x\/H e=some (.own x))(k:∀b u,b≠e->h.get? b=some u->h'.get? b=some u)(heo:∃u,h'.get? e=some u)
  (new:ObjOk P w (upd H x o') h' x o'):HOk P w (upd H x o') h':=fun b u q=>by
 have nown:∀c y,H c=some (.own y)->c≠x:=fun c y r z=>by subst z;rw[r]at mu;exact mu
 have ntup:∀c xs,H c=some (.tup xs)->c≠x:=fun c xs r z=>by subst z;rw[r]at mu;exact mu
 by_cases hb:b=x
 ·subst hb;rw[aI]at q;cases q;exact new
 ·rw[aN hb]at q;by_cases hbe:b=e
  ·have q':H b=some (.own x):=by
    rcases he with z|z
    ·exact absurd (hbe.trans z) hb
    ·rw[hbe];exact z
   rw[q]at q';cases q';obtain⟨v,hv⟩:=heo;exact⟨v,by rw[hbe];exact hv⟩
  ·refine(ok b u q).stay (fun c v hc r=>k c v ?_ r) (fun c r=>by rw[aN (nown c b r)];exact r) fun c xs r=>by rw[aN (ntup c xs r)];exact r
   rcases hc with rfl|hc
   ·exact hbe
   ·rintro rfl;rcases he with z|z
    ·exact nown c b hc z
    ·rw[hc]at z;cases z;exact hb rfl
end
structure Un(fs ex:List Addr)(H H':Hp)(h h':Heap):Prop where
 keep:∀b o,h.get? b=some o->H b=none->b∉fs->b∉ex->h'.get? b=some o
 slot:∀b o,h.get? b=some o->H b=none->b∈fs->b∉ex->∃sl,h'.get? b=some { o with slots:=sl }
 free:∀b o,h.get? b=some o->H b=none->b∉ex->H' b=none
 there:∀b o,h.get? b=some o->b∉ex->∃o',h'.get? b=some o'
 tups:∀b xs,H b=some (.tup xs)->H' b=some (.tup xs)
 frzs:∀b o u,H b=some (.frz o u)->H' b=some (.frz o u)
 tbls:∀b ps,H b=some (.tbl ps)->∃more,H' b=some (.tbl (ps++more))
section
variable{fs fs' ex ex':List Addr}{H1 H2:Hp}{h1 h2:Heap}{x e:Addr} 
def Un.any(u:Un fs ex H H1 h h1){ob:Obj}(q:h.get? b=some ob)(n:H b=none)(hx:b∉ex):∃sl,h1.get? b=some { ob with slots:=sl }:=by
 by_cases hb:b∈fs
 ·exact u.slot b ob q n hb hx
 ·exact⟨ob.slots,u.keep b ob q n hb hx⟩
def Un.trans(a:Un fs ex H H1 h h1)(b:Un fs ex H1 H2 h1 h2):Un fs ex H H2 h h2 where
 keep:=fun c ob q n hc hx=>b.keep c ob (a.keep c ob q n hc hx) (a.free c ob q n hx) hc hx
 slot:=fun c ob q n hc hx=>by
  obtain⟨sl,e1⟩:=a.slot c ob q n hc hx;obtain⟨sl',e2⟩:=b.slot c _ e1 (a.free c ob q n hx) hc hx;exact⟨sl',e2⟩
 free:=fun c ob q n hx=>by
  obtain⟨o',e1⟩:=a.there c ob q hx;exact b.free c o' e1 (a.free c ob q n hx) hx
 there:=fun c ob q hx=>by
  obtain⟨o',e1⟩:=a.there c ob q hx;exact b.there c o' e1 hx
 tups:=fun c xs q=>b.tups c xs (a.tups c xs q)
 frzs:=fun c ob xs q=>b.frzs c ob xs (a.frzs c ob xs q)
 tbls:=fun c ps q=>by
  obtain⟨m1,e1⟩:=a.tbls c ps q;obtain⟨m2,e2⟩:=b.tbls c _ e1;exact⟨m1++m2,by rw[e2,Array.append_assoc]⟩
def Un.kept(k:∀b u,h.get? b=some u->h'.get? b=some u):Un fs ex H H h h':=
 ⟨fun b ob q _ _ _=>k b ob q,fun b ob q _ _ _=>⟨ob.slots,k b ob q⟩,fun _ _ _ n _=>n,fun b ob q _=>⟨ob,k b ob q⟩,fun _ _ q=>q,fun _ _ _ q=>q,fun _ ps q=>⟨#[],by rw[q];simp⟩⟩
def Un.refl:Un fs ex H H h h:=Un.kept fun _ _ q=>q
def Un.laid(k:∀b u,h.get? b=some u->h'.get? b=some u)(hp:h.objs.size<=a)(hn:H a=none):Un fs ex H (upd H a o) h h' where
 keep:=fun b u q _ _ _=>k b u q
 slot:=fun b u q _ _ _=>⟨u.slots,k b u q⟩
 free:=fun b u q n _=>by rw[aN (zaw (zag (zal q) hp))];exact n
 there:=fun b u q _=>⟨u,k b u q⟩
 tups:=fun b xs q=>by rw[aN (cw q hn)];exact q
 frzs:=fun b u xs q=>by rw[aN (cw q hn)];exact q
 tbls:=fun b ps q=>⟨#[],by rw[aN (cw q hn),q];simp⟩
def Un.write(mu:Mut (H x))(he:e=x\/H e=some (.own x))(k:∀b u,b≠e->h.get? b=some u->h'.get? b=some u)(heo:∃u,h'.get? e=some u):Un fs ex H (upd H x o) h h':=by
 have hx:∀b,H b=none->b≠x:=fun b n z=>by subst z;rw[n]at mu;exact mu
 have hb:∀b,H b=none->b≠e:=fun b n z=>by
  subst z;rcases he with r|r
  ·exact hx b n r
  ·rw[n]at r;cases r
 have hm:∀b u,H b=some u->¬Mut (some u)->b≠x:=fun b u q nm z=>by subst z;rw[q]at mu;exact nm mu
 refine⟨fun b u q n _ _=>k b u (hb b n) q,fun b u q n _ _=>⟨u.slots,k b u (hb b n) q⟩,fun b u q n _=>by rw[aN (hx b n)];exact n,fun b u q _=>?_,
  fun b xs q=>by rw[aN (hm b _ q fun z=>z)];exact q,fun b u xs q=>by rw[aN (hm b _ q fun z=>z)];exact q,fun b ps q=>⟨#[],by rw[aN (hm b _ q fun z=>z),q];simp⟩⟩
 by_cases hbe:b=e
 ·subst hbe;exact heo
 ·exact⟨u,k b u hbe q⟩
end
def trk(h:Heap)(H:Hp):List Addr:=(List.range h.objs.size).filter fun a=>(H a).isSome
def k5(h:Heap)(H:Hp):Heap:=PySem.W.hideAll h (trk h H)
def y2(h:Heap)(H:Hp):(k5 h H).objs.size=h.objs.size:=PySem.W.hideAll_size _ _
def AV{o:Obj}(e:h.get? b=some o)(n:H b=none):(k5 h H).get? b=some o:=
 PySem.W.hideAll_get _ e fun hm=>by
  have q:(H b).isSome=true:=(zbD.mp hm).2;rw[n]at q;simp at q
def Fk{o:Obj}(e:(k5 h H).get? b=some o):h.get? b=some o/\H b=none:=by
 have e':h.get? b=some o:=PySem.W.of_hideAll (trk h H) e;refine⟨e',?_⟩;cases q:H b with
 |none=>rfl
 |some x=>
  have hm:b∈trk h H:=zbD.mpr ⟨zbr.mpr (zal e'),by simp[q]⟩;have z:(k5 h H).get? b=none:=PySem.W.hideAll_none (trk h H) hm;rw[z]at e;cases e
def GT(g h:Heap)(L:Addr):List (Addr×Obj):=(List.range h.objs.size).filterMap fun a=>if a=L\/(g.get? a).isSome=true then none else(h.get? a).map fun o=>(a,o)
def rest(g h:Heap)(L d:Addr):List (Addr×Obj):=(GT g h L).filter fun p=>decide (p.1≠d)
structure Mod(K:zbY)(mg:Str->Option Value)(base:Heap):Prop where
 kin:K.In base
 glob:base.Ns mainGlobals mg
 blt:∃mb,base.Ns builtinsNs mb/\∀x:Str,x≠"__name__"->mb x=bootBuiltins x
 nolimit:base.NoLimit
 mods:∃mm,base.Ns sysModules mm
structure Cx where
 prog:Program
 w:World
 K:zbY
 mg:Str->Option Value
 base:Heap
 A:Around
 N:List Str
 s₀:Shared
 H₀:Hp
 env:Env
 outer:List Env
 stack:List Env
 ex:List Addr
 fn:Str->Bool
 calm:Bool
 pn:List (Addr×Obj)
 xe:Value->Shared->Prop
variable{X:Cx}
def frs(l:List Env):List Addr:=l.filterMap (·.frame)
abbrev Cx.fs(X:Cx):List Addr:=frs X.outer
def Vis(sc:Scope)(x:Str):Prop:=sc.names.lookup x=some .local\/sc.names.lookup x=some .cell\/sc.names.lookup x=some .free
def Loc(sc:Scope)(x:Str):Prop:=sc.names.lookup x=some .local\/sc.names.lookup x=some .cell
def NA(env:Env)(h:Heap)(m:Str->Option Value)(x:Str)(u:Value):Prop:=
 (env.kindOf x=some .local/\m x=some u)\/((env.kindOf x=some .cell\/env.kindOf x=some .free)/\∃c,env.cells.lookup x=some c/\h.IsCell c (some u))
structure Cx.Ok(X:Cx):Prop where
 mod:Mod X.K X.mg X.base
 kind:X.env.scope.kind=.function
 glob:X.env.globals=mainGlobals
 blt:X.env.builtins=builtinsNs
 above:X.s₀.heap.objs.size<=X.env.locals
 inj:∀x y c,X.env.cells.lookup x=some c->X.env.cells.lookup y=some c->x=y
 has:∀x,(X.env.kindOf x=some .cell\/X.env.kindOf x=some .free)->∃c,X.env.cells.lookup x=some c
 cab:∀x c,X.fn x=true->X.env.cells.lookup x=some c->X.s₀.heap.objs.size<=c
 hd:X.calm=true->X.A.handled=none
 frames:X.A.frames=some X.stack
 stk:X.stack=X.outer\/(X.stack=X.env::X.outer/\X.env.frame=some X.env.locals)
 exf:∀b∈X.ex,b≠X.env.locals/\∀x c,X.env.cells.lookup x=some c->c≠b
 bs:∀b o,X.base.get? b=some o->X.s₀.heap.get? b=some o/\X.H₀ b=none
 bsz:X.base.objs.size<=X.s₀.heap.objs.size
 noex:∀b o,X.base.get? b=some o->b∉X.ex
 exfs:∀b∈X.ex,b∉X.fs
 funs:X.s₀.heap.FunFrames X.base X.outer
 frf:∀b∈X.fs,X.H₀ b=none
structure Inv(X:Cx)(ρ:List (Addr×Obj))(σ:List (Option V))(H:Hp)(s:Shared):Prop where
 ok:X.Ok
 os:s.os=X.s₀.os
 bare:AllBare s.gens
 base:Un X.fs X.ex X.H₀ H X.s₀.heap s.heap
 loc:∃m,s.heap.Ns X.env.locals m/\∀(i:Nat) (x:Str) (v:V),X.N[i]?=some x->σ[i]?=some (some v)->Vis X.env.scope x->∃u,RelV v u/\NA X.env s.heap m x u
 cell:∀x c,X.env.cells.lookup x=some c->∃v,s.heap.IsCell c v
 free:H X.env.locals=none
 freeC:∀x c,X.env.cells.lookup x=some c->H c=none
 pin:∀p∈X.pn++ρ,s.heap.get? p.1=some p.2/\H p.1=none/\p.1≠X.env.locals/\p.1∉X.fs/\∀v,p.2.data≠.cell v
 hok:HOk X.prog X.w H s.heap
 len:σ.length=X.N.length
section
variable{σ:List (Option V)}  
def Cx.Ok.nofr(ok:X.Ok){o:Obj}(e:X.base.get? b=some o):b∉X.fs:=fun hb=>by
 have:=(ok.funs.mem hb).1;rw[e]at this;cases this
def Inv.bs(I:Inv X ρ σ H s):∀b o,X.base.get? b=some o->s.heap.get? b=some o/\H b=none:=fun b o e=>
 ⟨I.base.keep b o (I.ok.bs b o e).1 (I.ok.bs b o e).2 (I.ok.nofr e) (I.ok.noex b o e),I.base.free b o (I.ok.bs b o e).1 (I.ok.bs b o e).2 (I.ok.noex b o e)⟩
def Inv.bk(I:Inv X ρ σ H s):∀b o,X.base.get? b=some o->s.heap.get? b=some o:=fun b o e=>(I.bs b o e).1
def Inv.mod(I:Inv X ρ σ H s):Mod X.K X.mg X.base:=I.ok.mod
def Inv.kIn(I:Inv X ρ σ H s):X.K.In s.heap:=I.ok.mod.kin.keeps I.bk
def Inv.lt(I:Inv X ρ σ H s):X.env.locals<s.heap.objs.size:=let⟨_,hn,_⟩:=I.loc;hn.lt
def Inv.sz(I:Inv X ρ σ H s):X.s₀.heap.objs.size<=s.heap.objs.size:=zau I.ok.above (zaW I.lt)
def Inv.nofs(I:Inv X ρ σ H s)(h:s.heap.objs.size<=a):a∉X.fs:=fun hb=>by
 obtain⟨_,o,ho,_⟩:=I.ok.funs.mem hb;exact absurd (zag (zal ho) (zau I.sz h)) (zaI _)
def Inv.cne(I:Inv X ρ σ H s):∀x c,X.env.cells.lookup x=some c->c≠X.env.locals:=fun x c e z=>by
 obtain⟨v,o,ho,hd⟩:=I.cell x c e;obtain⟨m,⟨o',es,ep,ho',hd',_⟩,_⟩:=I.loc;rw[z,ho']at ho;cases ho;rw[hd']at hd;cases hd
theorem Inv.funs(I:Inv X ρ σ H s):s.heap.FunFrames X.base X.outer:=by
 have all:∀(l:List Env),(∀b∈frs l,b∈X.fs)->X.s₀.heap.FunFrames X.base l->s.heap.FunFrames X.base l:=by
  intro l
  induction l with
  |nil=>intro _ _;trivial
  |cons env r ih=>
   intro hs hl;obtain⟨hk,⟨L,o,hf,hn,ho,hd⟩,hr⟩:=hl;have hL:L∈X.fs:=hs L (by unfold frs;rw[List.filterMap_cons,hf];exact zaq);obtain⟨sl,e⟩:=I.base.slot L o ho (I.ok.frf L hL) hL fun z=>I.ok.exfs L z hL;exact⟨hk,⟨L,_,hf,hn,e,hd⟩,ih (fun b hb=>hs b (by unfold frs;rw[List.filterMap_cons,hf];exact zaj _ hb)) hr⟩
 exact all X.outer (fun _ hb=>hb) I.ok.funs
def Inv.stack(I:Inv X ρ σ H s):s.heap.FunFrames X.base X.stack:=by
 rcases I.ok.stk with e|⟨e,hf⟩
 ·rw[e];exact I.funs
 ·rw[e];obtain⟨m,hn,_⟩:=I.loc;refine .cons (by rw[I.ok.kind];decide) hf hn ?_ I.funs;exact Heap.get?_none_of_le (zau I.ok.bsz I.ok.above)
def Inv.stkSub(I:Inv X ρ σ H s):∀b∈frs X.stack,b∈X.env.locals::X.fs:=fun b hb=>by
 rcases I.ok.stk with e|⟨e,hf⟩
 ·rw[e]at hb;exact zaj _ hb
 ·rw[e]at hb;unfold frs at hb;rw[List.filterMap_cons,hf]at hb;exact hb
def Inv.stkFree(I:Inv X ρ σ H s):∀b∈frs X.stack,H b=none:=fun b hb=>by
 rcases zay.mp (I.stkSub b hb)with e|hb
 ·rw[e];exact I.free
 ·obtain⟨_,o,ho,_⟩:=I.ok.funs.mem hb;exact I.base.free b o ho (I.ok.frf b hb) fun z=>I.ok.exfs b z hb
def Inv.step(I:Inv X ρ σ H s)
  (hch:∀b∈ch,(b∈X.ex\/X.s₀.heap.objs.size<=b)/\b≠X.env.locals/\(∀x c,X.env.cells.lookup x=some c->c≠b)/\∀p∈X.pn++ρ,p.1≠b)
  (keep:∀b o,b≠X.env.locals->b∉X.fs->b∉ch->s.heap.get? b=some o->H b=none->h'.get? b=some o)
  (slot:∀b o,b≠X.env.locals->b∈X.fs->b∉ch->s.heap.get? b=some o->H b=none->∃sl,h'.get? b=some { o with slots:=sl }) (free:∀b o,b∉ch->s.heap.get? b=some o->H b=none->H' b=none)
  (there:∀b o,b∉ch->s.heap.get? b=some o->∃o',h'.get? b=some o')
  (tups:∀b xs,H b=some (.tup xs)->H' b=some (.tup xs)) (frzs:∀b o u,H b=some (.frz o u)->H' b=some (.frz o u)) (tbls:∀b ps,H b=some (.tbl ps)->∃more,H' b=some (.tbl (ps++more)))
  (ns:∀m,s.heap.Ns X.env.locals m->h'.Ns X.env.locals m) (hok:HOk X.prog X.w H' h') (hg:AllBare g'):
  Inv X ρ σ H' { s with heap:=h',gens:=g',drawn:=d',toks:=t' }:=by
 have neL:∀b o,X.s₀.heap.get? b=some o->b≠X.env.locals:=fun b o e=>zaw (zag (zal e) I.ok.above);have neC:∀b o,X.s₀.heap.get? b=some o->b∉X.ex->b∉ch:=fun b o e hx hb=>by
  rcases(hch b hb).1 with z|z
  ·exact hx z
  ·exact absurd (zag (zal e) z) (zaI _)
 have cellK:∀x c,X.env.cells.lookup x=some c->∀v,s.heap.IsCell c v->h'.IsCell c v:=fun x c e v ⟨o,ho,hd⟩=>by
  have nch:c∉ch:=fun z=>(hch c z).2.2.1 x c e rfl;by_cases hc:c∈X.fs
  ·obtain⟨sl,q⟩:=slot c o (I.cne x c e) hc nch ho (I.freeC x c e);exact⟨_,q,hd⟩
  ·exact⟨o,keep c o (I.cne x c e) hc nch ho (I.freeC x c e),hd⟩
 refine⟨I.ok,I.os,hg,⟨fun b o e n hb hx=>?_,fun b o e n hb hx=>?_,fun b o e n hx=>?_,fun b o e hx=>?_,fun b xs e=>tups b xs (I.base.tups b xs e),fun b o xs e=>frzs b o xs (I.base.frzs b o xs e),fun b ps e=>?_⟩,?_,fun x c e=>?_,?_,fun x c e=>?_,fun p hp=>?_,hok,I.len⟩
 ·exact keep b o (neL b o e) hb (neC b o e hx) (I.base.keep b o e n hb hx) (I.base.free b o e n hx)
 ·obtain⟨sl,e1⟩:=I.base.slot b o e n hb hx;obtain⟨sl',e2⟩:=slot b _ (neL b o e) hb (neC b o e hx) e1 (I.base.free b o e n hx);exact⟨sl',e2⟩
 ·obtain⟨o',e1⟩:=I.base.there b o e hx;exact free b o' (neC b o e hx) e1 (I.base.free b o e n hx)
 ·obtain⟨o',e1⟩:=I.base.there b o e hx;exact there b o' (neC b o e hx) e1
 ·obtain⟨m1,e1⟩:=I.base.tbls b ps e;obtain⟨m2,e2⟩:=tbls b _ e1;exact⟨m1++m2,by rw[e2,Array.append_assoc]⟩
 ·obtain⟨m,hn,hl⟩:=I.loc;refine⟨m,ns m hn,fun i x v e1 e2 e3=>?_⟩;obtain⟨u,r,l⟩:=hl i x v e1 e2 e3;refine⟨u,r,?_⟩;rcases l with l|⟨k,c,e,z⟩
  ·exact .inl l
  ·exact .inr ⟨k,c,e,cellK x c e _ z⟩
 ·obtain⟨v,z⟩:=I.cell x c e;exact⟨v,cellK x c e v z⟩
 ·obtain⟨m,⟨o,_,_,ho,_⟩,_⟩:=I.loc;exact free _ o (fun z=>(hch _ z).2.1 rfl) ho I.free
 ·obtain⟨v,o,ho,hd⟩:=I.cell x c e;exact free c o (fun z=>(hch c z).2.2.1 x c e rfl) ho (I.freeC x c e)
 ·obtain⟨e,n,ne,nf,d⟩:=I.pin p hp;have nch:p.1∉ch:=fun z=>(hch p.1 z).2.2.2 p hp rfl;exact⟨keep p.1 p.2 ne nf nch e n,free p.1 p.2 nch e n,ne,nf,d⟩
def Inv.un(I:Inv X ρ σ H s)(u:Un X.fs [] H H' s.heap h')(hok:HOk X.prog X.w H' h'):Inv X ρ σ H' { s with heap:=h',toks:=t' }:=by
 obtain⟨m,⟨o,es,ep,ho,r⟩,_⟩:=id I.loc;obtain⟨sl,hL⟩:=u.any ho I.free (by simp);exact I.step (g':=s.gens) (d':=s.drawn) (ch:=[]) (fun _ z=>nomatch z) (fun b o _ hb _ e n=>u.keep b o e n hb (by simp)) (fun b o _ hb _ e n=>u.slot b o e n hb (by simp)) (fun b o _ e n=>u.free b o e n (by simp)) (fun b o _ e=>u.there b o e (by simp)) u.tups u.frzs u.tbls (fun m' hm=>by
  obtain⟨o',es',ep',ho',r'⟩:=hm;rw[ho]at ho';cases ho';exact⟨_,es',ep',hL,r'⟩) hok I.bare
def Inv.call(I:Inv X ρ σ H s)(u:Un (frs X.stack) ch H H' s.heap h')(hok:HOk X.prog X.w H' h')(hg:AllBare g')
  (hch:∀b∈ch,(b∈X.ex\/X.s₀.heap.objs.size<=b)/\b≠X.env.locals/\(∀x c,X.env.cells.lookup x=some c->c≠b)/\∀p∈X.pn++ρ,p.1≠b):
  Inv X ρ σ H' { s with heap:=h',gens:=g',drawn:=d',toks:=t' }:=by
 obtain⟨m,⟨o,es,ep,ho,r⟩,_⟩:=id I.loc;obtain⟨sl,hL⟩:=u.any ho I.free fun z=>(hch _ z).2.1 rfl;exact I.step (ch:=ch) hch (fun b o hL hb hc e n=>u.keep b o e n (fun z=>(zay.mp (I.stkSub b z)).elim hL hb) hc) (fun b o _ _ hc e n=>u.any e n hc) (fun b o hc e n=>u.free b o e n hc) (fun b o hc e=>u.there b o e hc) u.tups u.frzs u.tbls (fun m' hm=>by
  obtain⟨o',es',ep',ho',r'⟩:=hm;rw[ho]at ho';cases ho';exact⟨_,es',ep',hL,r'⟩) hok hg
def Inv.turned{it:Addr}(I:Inv X ρ σ H s)(k:∀b o,b≠it->s.heap.get? b=some o->h'.get? b=some o)(hn:H it=none)(hL:it≠X.env.locals)
  (h1:it∈X.ex\/X.s₀.heap.objs.size<=it) (h2:∀x c,X.env.cells.lookup x=some c->c≠it) (h3:∀p∈X.pn++ρ,p.1≠it):Inv X ρ σ H { s with heap:=h',toks:=t' }:=by
 have nit:∀b u,H b=some u->b≠it:=fun b u e z=>by rw[z,hn]at e;cases e
 refine I.step (g':=s.gens) (d':=s.drawn) (ch:=[it]) (fun b hb=>?_) (fun b o _ _ hc e _=>k b o (fun z=>hc (by simp[z])) e) (fun b o _ _ hc e _=>⟨o.slots,k b o (fun z=>hc (by simp[z])) e⟩) (fun _ _ _ _ n=>n)
  (fun b o hc e=>⟨o,k b o (fun z=>hc (by simp[z])) e⟩) (fun _ _ e=>e) (fun _ _ _ e=>e) (fun b ps e=>⟨#[],by rw[e];simp⟩) (fun m hm=>?_) (fun b u e=>?_) I.bare
 ·have e:b=it:=by simpa using hb
  subst e;exact⟨h1,hL,h2,h3⟩
 ·obtain⟨o,es,ep,ho,r⟩:=hm;exact⟨o,es,ep,k _ o (Ne.symm hL) ho,r⟩
 ·refine(I.hok b u e).stay (fun c v hc q=>k c v ?_ q) (fun _ q=>q) fun _ _ q=>q;rcases hc with z|z
  ·rw[z];exact nit b u e
  ·exact nit c _ z
def Inv.tok(I:Inv X ρ σ H s)(t:Nat):Inv X ρ σ H { s with toks:=t }:=I.un (h':=s.heap) (t':=t) Un.refl I.hok
def Inv.kept{t':Nat}(I:Inv X ρ σ H s)(k:∀b u,s.heap.get? b=some u->h'.get? b=some u):Inv X ρ σ H { s with heap:=h',toks:=t' }:=I.un (Un.kept k) (I.hok.kept k)
def Inv.laid{a:Addr}{o:HO}{t':Nat}(I:Inv X ρ σ H s)(k:∀b u,s.heap.get? b=some u->h'.get? b=some u)(hp:s.heap.objs.size<=a)(new:ObjOk X.prog X.w (upd H a o) h' a o):
  Inv X ρ σ (upd H a o) { s with heap:=h',toks:=t' }:=I.un (Un.laid k hp (I.hok.fresh hp)) (I.hok.laid k hp new)
def Inv.write{x e:Addr}{o:HO}{t':Nat}(I:Inv X ρ σ H s)(mu:Mut (H x))(he:e=x\/H e=some (.own x))(k:∀b u,b≠e->s.heap.get? b=some u->h'.get? b=some u)(heo:∃u,h'.get? e=some u)
  (new:ObjOk X.prog X.w (upd H x o) h' x o):Inv X ρ σ (upd H x o) { s with heap:=h',toks:=t' }:=I.un (Un.write mu he k heo) (I.hok.write mu he k heo new)
def Inv.pins_of{pins':List (Addr×Obj)}(I:Inv X ρ σ H s)(h:∀p∈pins',s.heap.get? p.1=some p.2/\H p.1=none/\p.1≠X.env.locals/\p.1∉X.fs/\∀v,p.2.data≠.cell v):Inv X pins' σ H s:=
 ⟨I.ok,I.os,I.bare,I.base,I.loc,I.cell,I.free,I.freeC,fun p hp=>(zax.mp hp).elim (fun z=>I.pin p (zbf _ z)) (h p),I.hok,I.len⟩
def tN(hN:N.Nodup)(a:N[i]?=some x)(b:N[j]?=some x):i=j:=by
 obtain⟨h1,e1⟩:=zah.mp a;obtain⟨h2,e2⟩:=zah.mp b;exact(List.getElem_inj hN).mp (e1.trans e2.symm)
def qW{Q:Unit->Shared->Prop}(I:Inv X ρ σ H s)(hN:X.N.Nodup)(hi:X.N[i]?=some x)(hx:Loc X.env.scope x)(r:RelV v u)
  (h:∀s',Inv X ρ (σ.set i (some v)) H s'->(∃a,Heap.SameBut a s.heap s'.heap/\(a=X.env.locals\/X.env.cells.lookup x=some a))->Q () s') (hf:X.fn x=true\/X.env.scope.names.lookup x=some .local:=by first|exact .inl rfl|exact .inr rfl|assumption):wpAny M A (storeName X.env x u) Q E s:=by
 obtain⟨m,hn,hl⟩:=id I.loc;have hcls:(X.env.scope.kind==.class || (X.env.scope.kind==.module&&X.env.locals != X.env.globals))=false:=by rw[I.ok.kind];rfl
 have hiσ:i<σ.length:=by rw[I.len];exact(zah.mp hi).1
 have cne:=I.cne;have lH:∀{a:Addr} {h':Heap},(∃o,s.heap.get? a=some o/\H a=none)->Heap.SameBut a s.heap h'->HOk X.prog X.w H h':=fun {a h'} ha hs b ob e=>by
  obtain⟨_,_,hfree⟩:=ha;refine(I.hok b ob e).stay (fun c w' hc q=>(hs.2 c ?_).trans q) (fun _ q=>q) fun _ _ q=>q;rintro rfl;rcases hc with rfl|hc
  ·rw[hfree]at e;cases e
  ·rw[hfree]at hc;cases hc
 rcases hx with hk|hk
 ·refine wpAny_storeName_local hk hn (fun h' hn' hs=>?_) hcls;obtain⟨oL,_,_,hoL,_⟩:=id hn;refine h _ ⟨I.ok,I.os,I.bare,⟨fun b o e n hb hx=>?_,fun b o e n hb hx=>?_,I.base.free,fun b o e hx=>?_,I.base.tups,I.base.frzs,I.base.tbls⟩,⟨_,hn',fun j y v' e1 e2 e3=>?_⟩,fun y c e=>?_,I.free,I.freeC,fun p hp=>?_,lH ⟨oL,hoL,I.free⟩ hs,by simpa using I.len⟩ ⟨_,hs,.inl rfl⟩
  ·exact(hs.2 b (zaw (zag (zal e) I.ok.above))).trans (I.base.keep b o e n hb hx)
  ·obtain⟨sl,e1⟩:=I.base.slot b o e n hb hx;exact⟨sl,(hs.2 b (zaw (zag (zal e) I.ok.above))).trans e1⟩
  ·obtain⟨o',e1⟩:=I.base.there b o e hx;exact⟨o',(hs.2 b (zaw (zag (zal e) I.ok.above))).trans e1⟩
  ·by_cases hj:j=i
   ·subst hj;rw[hi]at e1;cases e1;rw[zaP hiσ]at e2;cases e2;exact⟨u,r,.inl ⟨hk,by simp⟩⟩
   ·rw[zaO (Ne.symm hj)]at e2;obtain⟨u',r',q⟩:=hl j y v' e1 e2 e3;refine⟨u',r',?_⟩;rcases q with⟨k,e⟩|⟨k,c,e,z⟩
    ·refine .inl ⟨k,?_⟩
     have:y≠x:=fun e=>hj (tN hN e1 (e▸hi));simp[this,e]
    ·exact .inr ⟨k,c,e,z.sameBut hs (cne y c e)⟩
  ·obtain⟨w',z⟩:=I.cell y c e;exact⟨w',z.sameBut hs (cne y c e)⟩
  ·obtain⟨e,n,ne,nf,d⟩:=I.pin p hp;exact⟨(hs.2 p.1 ne).trans e,n,ne,nf,d⟩
 ·have hfn:X.fn x=true:=by
   rcases hf with z|z
   ·exact z
   ·rw[z]at hk;cases hk
  obtain⟨c,hc⟩:=I.ok.has x (.inl hk);obtain⟨w',z⟩:=I.cell x c hc;refine wpAny_storeName_cell I.ok.kind hk hc z (fun h' hc' hs=>?_);obtain⟨oc,hoc,hocd⟩:=id z;refine h { s with heap:=h' } ⟨I.ok,I.os,I.bare,⟨fun b o e n hb hx=>?_,fun b o e n hb hx=>?_,I.base.free,fun b o e hx=>?_,I.base.tups,I.base.frzs,I.base.tbls⟩,⟨m,hn.sameBut hs (Ne.symm (cne x c hc)),fun j y v' e1 e2 e3=>?_⟩,fun y c' e=>?_,I.free,I.freeC,fun p hp=>?_,lH ⟨oc,hoc,I.freeC x c hc⟩ hs,by simpa using I.len⟩ ⟨c,hs,.inr hc⟩
  ·exact(hs.2 b (zaw (zag (zal e) (I.ok.cab x c hfn hc)))).trans (I.base.keep b o e n hb hx)
  ·obtain⟨sl,e1⟩:=I.base.slot b o e n hb hx;exact⟨sl,(hs.2 b (zaw (zag (zal e) (I.ok.cab x c hfn hc)))).trans e1⟩
  ·obtain⟨o',e1⟩:=I.base.there b o e hx;exact⟨o',(hs.2 b (zaw (zag (zal e) (I.ok.cab x c hfn hc)))).trans e1⟩
  ·by_cases hj:j=i
   ·subst hj;rw[hi]at e1;cases e1;rw[zaP hiσ]at e2;cases e2;exact⟨u,r,.inr ⟨.inl hk,c,hc,hc'⟩⟩
   ·rw[zaO (Ne.symm hj)]at e2;obtain⟨u',r',q⟩:=hl j y v' e1 e2 e3;refine⟨u',r',?_⟩;rcases q with q|⟨k,c',e,z'⟩
    ·exact .inl q
    ·refine .inr ⟨k,c',e,z'.sameBut hs ?_⟩;rintro rfl;exact hj (tN hN e1 (I.ok.inj _ _ _ e hc▸hi))
  ·by_cases hcc:c'=c
   ·subst hcc;exact⟨_,hc'⟩
   ·obtain⟨w2,z2⟩:=I.cell y c' e;exact⟨w2,z2.sameBut hs hcc⟩
  ·obtain⟨e,n,ne,nf,d⟩:=I.pin p hp;refine⟨(hs.2 p.1 ?_).trans e,n,ne,nf,d⟩;intro q;rw[q,hoc]at e;have q':oc=p.2:=zat e;exact d w' (by rw[<-q'];exact hocd)
def sJ{Q:Unit->Shared->Prop}(I:Inv X ρ σ H s)(hN:X.N.Nodup)(hi:X.N[i]?=some x)(hx:Loc X.env.scope x)(r:RelV v u)
  (h:∀s',Inv X ρ (σ.set i (some v)) H s'->Q () s') (hf:X.fn x=true\/X.env.scope.names.lookup x=some .local:=by first|exact .inl rfl|exact .inr rfl|assumption):wpAny M A (storeName X.env x u) Q E s:=
 qW I hN hi hx r (fun s' I' _=>h s' I') hf
def Inv.call'(I:Inv X ρ σ H s)(ho:s'.os=s.os)(u:Un (frs X.stack) ch H H' s.heap s'.heap)(hok:HOk X.prog X.w H' s'.heap)(hg:AllBare s'.gens)
  (hch:∀b∈ch,(b∈X.ex\/X.s₀.heap.objs.size<=b)/\b≠X.env.locals/\(∀x c,X.env.cells.lookup x=some c->c≠b)/\∀p∈X.pn++ρ,p.1≠b):Inv X ρ σ H' s':=by
 obtain⟨h',g',d',t',o'⟩:=s';have e:o'=s.os:=ho;subst e;exact I.call (g':=g') (t':=t') (d':=d') u hok hg hch
end
abbrev XK:=Value->Option Addr->Hp->Prop
abbrev St:=List (Option V)
variable{σ:St}
abbrev VK:=V->Hp->Prop
abbrev TE:=St->Hp->VK->Prop
variable{ta tb t te:TE}
abbrev TT:=St->Hp->(Bool->Hp->Prop)->Prop
variable{tc:TT}
abbrev TA:=St->Hp->(List V->Hp->Prop)->Prop
structure Ends where
 nx:St->Hp->Prop
 rt:VK
 bk:St->Hp->Prop:=fun _ _=>False
 ct:St->Hp->Prop:=fun _ _=>False
abbrev TS:=Ends->St->Hp->Prop
def EP(X:Cx)(ρ:List (Addr×Obj))(σ:St)(Q:VK)(u:Value)(s':Shared):Prop:=∃v H',Inv X ρ σ H' s'/\RelV v u/\Q v H'
def TP(X:Cx)(ρ:List (Addr×Obj))(σ:St)(Q:Bool->Hp->Prop)(b:Bool)(s':Shared):Prop:=∃H',Inv X ρ σ H' s'/\Q b H'
def AP(X:Cx)(ρ:List (Addr×Obj))(σ:St)(Q:List V->Hp->Prop)(us:List Value)(s':Shared):Prop:=∃vs H',Inv X ρ σ H' s'/\Vals vs us/\Q vs H'
def SP(X:Cx)(ρ:List (Addr×Obj))(D:Ends)(f:Flow)(s':Shared):Prop:=
 match f with
 |.next=>∃σ' H',Inv X ρ σ' H' s'/\D.nx σ' H'
 |.brk=>∃σ' H',Inv X ρ σ' H' s'/\D.bk σ' H'
 |.cont=>∃σ' H',Inv X ρ σ' H' s'/\D.ct σ' H'
 |.ret u=>∃v σ' H',Inv X ρ σ' H' s'/\RelV v u/\D.rt v H'
def PE(X:Cx)(e:Expr)(t:TE):Prop:=
 ∀(ρ:List (Addr×Obj)) (s:Shared) (σ:St) (H:Hp) (Q:VK),Inv X ρ σ H s->t σ H Q->wpAny (model X.prog X.w) X.A (eval e X.env) (EP X ρ σ Q) X.xe s
def PT(X:Cx)(e:Expr)(t:TT):Prop:=
 ∀(ρ:List (Addr×Obj)) (s:Shared) (σ:St) (H:Hp) (Q:Bool->Hp->Prop),Inv X ρ σ H s->t σ H Q->wpAny (model X.prog X.w) X.A (isTrue e X.env (eval e X.env)) (TP X ρ σ Q) X.xe s
def PW(X:Cx)(e:Expr)(t:TT):Prop:=
 ∀(χ:Sem Value) (ρ:List (Addr×Obj)) (s:Shared) (σ:St) (H:Hp) (Q:Bool->Hp->Prop),Inv X ρ σ H s->t σ H Q->wpAny (model X.prog X.w) X.A (isTrue e X.env χ) (TP X ρ σ Q) X.xe s
def PW.pt{t:TT}(h:PW X e t):PT X e t:=h _
def PA(X:Cx)(es:List Expr)(t:TA):Prop:=
 ∀(pos:Pos) (ρ:List (Addr×Obj)) (s:Shared) (σ:St) (H:Hp) (Q:List V->Hp->Prop),Inv X ρ σ H s->t σ H Q->wpAny (model X.prog X.w) X.A (spliced (backTo pos (starEach es X.env))) (AP X ρ σ Q) X.xe s
def PS(X:Cx)(st:Stmt)(t:TS):Prop:=
 ∀(ρ:List (Addr×Obj)) (s:Shared) (σ:St) (H:Hp) (D:Ends),Inv X ρ σ H s->t D σ H->wpAny (model X.prog X.w) X.A (exec st X.env) (SP X ρ D) X.xe s
def PSs(X:Cx)(st:List Stmt)(t:TS):Prop:=
 ∀(ρ:List (Addr×Obj)) (s:Shared) (σ:St) (H:Hp) (D:Ends),Inv X ρ σ H s->t D σ H->wpAny (model X.prog X.w) X.A (execs st X.env) (SP X ρ D) X.xe s
def thn{α:Type}{t:Sem α}{Q Q':α->Shared->Prop}(h:wpAny M A t Q E s)(hQ:∀a s,Q a s->Q' a s):wpAny M A t Q' E s:=wpAny_mono h hQ fun _ _ x=>x
section
def fY(i:Nat):TE:=fun σ H Q=>∃v,σ[i]?=some (some v)/\Q v H
def tC(v:V):TE:=fun _ H Q=>Q v H
def cR(hN:X.N[i]?=some x)(hv:Vis X.env.scope x)(hd:(x==("__debug__":Str))=false:=by decide)(hcd:(x==("__classdict__":Str))=false:=by decide):PE X (.Name x pos) (fY i):=by
 intro ρ s σ H Q I h;obtain⟨v,e,h⟩:=h;obtain⟨m,hn,hl⟩:=I.loc;obtain⟨u,r,l⟩:=hl i x v hN e hv;have fin:EP X ρ σ Q u s:=⟨v,H,I,r,h⟩;rcases l with⟨hk,hm⟩|⟨hk,c,hc,hcell⟩
 ·exact wpAny_Name (wpAny_loadName_local I.ok.kind hk hn hm fin) hd
 ·rcases hk with hk|hk
  ·exact wpAny_Name (wpAny_loadName_cell I.ok.kind hk hc hcell fin) hd
  ·exact wpAny_Name (wpAny_loadName_free I.ok.kind hk hc hcell fin hcd) hd
def pe_int{i j pos}:PE X (.Constant (.int i) j pos) (tC (.int i)):=fun _ _ _ H _ I h=>wpAny_Constant_int ⟨.int i,H,I.tok _,⟨_,rfl⟩,h⟩
def pe_bl{b j pos}:PE X (.Constant (.bool b) j pos) (tC (.bl b)):=fun _ _ _ H _ I h=>Constant_bool ⟨.bl b,H,I,rfl,h⟩
def pe_non{j pos}:PE X (.Constant .none j pos) (tC .non):=fun _ _ _ H _ I h=>Constant_none ⟨.non,H,I,rfl,h⟩
def pe_str{x j pos}:PE X (.Constant (.str x) j pos) (tC (.str x)):=fun _ _ _ H _ I h=>Calls.Constant_str ⟨.str x,H,I.tok _,⟨_,rfl⟩,h⟩
def Gl(X:Cx)(x:Str):Prop:=X.env.kindOf x=some .globalImplicit
def Fy(I:Inv X ρ σ H s)(hg:Gl X x)(hm:X.mg x=some u)(h:Q u s)
  (hd:(x==("__debug__":Str))=false:=by decide):wpAny (model X.prog X.w) X.A (eval (.Name x pos) X.env) Q E s:=
 Calls.Name_function_global I.ok.kind hg (Calls.loadGlobal_global (by rw[I.ok.glob];exact I.mod.glob.keeps I.bk) hm h) hd
def mj(I:Inv X ρ σ H s)(hg:Gl X x)(hm:X.mg x=none)(hv:bootBuiltins x=some u)(h:Q u s)
  (hn:x≠"__name__":=by decide) (hd:(x==("__debug__":Str))=false:=by decide):wpAny (model X.prog X.w) X.A (eval (.Name x pos) X.env) Q E s:=by
 obtain⟨mb,h1,h2⟩:=I.mod.blt;exact Calls.Name_function_global I.ok.kind hg (Calls.loadGlobal_builtin (by rw[I.ok.glob];exact I.mod.glob.keeps I.bk) hm (by rw[I.ok.blt];exact h1.keeps I.bk) ((h2 x hn).trans hv) h) hd
def Fi(hg:Gl X x)(hm:X.mg x=none)(hv:bootBuiltins x=some u)(r:RelV v u)(hn:x≠"__name__":=by decide)(hd:(x==("__debug__":Str))=false:=by decide):PE X (.Name x pos) (tC v):=
 fun _ _ _ H _ I h=>mj I hg hm hv ⟨v,H,I,r,h⟩ hn hd
variable{a b:Expr} 
def PC(X:Cx)(op:CmpOp)(a b:Expr)(t:TE):Prop:=
 ∀(ρ:List (Addr×Obj)) (s:Shared) (σ:St) (H:Hp) (Q:VK),Inv X ρ σ H s->t σ H Q ->
  wpAny (model X.prog X.w) X.A (eval a X.env) (fun v s₁=>wpAny (model X.prog X.w) X.A (eval b X.env) (fun u s₂=>wpAny (model X.prog X.w) X.A (compareOp op v u) (EP X ρ σ Q) X.xe s₂) X.xe s₁) X.xe s
def tO(b:Expr)(h:op≠.In)(h2:op≠.NotIn):behindInMarks op b=false:=by
 have e1:(op==CmpOp.In)=false:=by cases op<;>first|rfl|exact absurd rfl h
 have e2:(op==CmpOp.NotIn)=false:=by cases op<;>first|rfl|exact absurd rfl h2
 cases b<;>simp[behindInMarks,e1,e2]
def tB(t:TE):TT:=fun σ H Q=>t σ H fun x H1=>∃c,x=.bl c/\Q c H1
def JM(h:PC X op a b t)(h1:behindInMarks op b=false:=by first|exact tO _ (by decide) (by decide)|rfl):PE X (.Compare a [op] [b] pos) t:=fun ρ s σ H Q I hw=>wpAny_Compare1 (h ρ s σ H Q I hw) h1
def JC(h:PC X op a b t)(h1:behindInMarks op b=false:=by first|exact tO _ (by decide) (by decide)|rfl):PT X (.Compare a [op] [b] pos) (tB t):=by
 intro ρ s σ H Q I hw;refine wpAny_isTrue_Compare1 (thn (h ρ s σ H _ I hw) fun v s1 h1=>thn h1 fun u s2 h2=>thn h2 fun c s3 ⟨x,H1,I1,r1,q1⟩=>?_) h1;obtain⟨d,rfl,q⟩:=q1;cases r1;exact zbA ⟨H1,I1,q⟩
def JA(h:PE X e t)(he:∀χ,isTrue e X.env χ=(do let v <-χ;standAt e.pos;holding [v] (truthy v)):=by intro _;rfl):PT X e (tB t):=by
 intro ρ s σ H Q I hw;refine isTrue_plain (thn (h ρ s σ H _ I hw) fun v s1 ⟨x,H1,I1,r1,q1⟩=>?_) (he _);obtain⟨d,rfl,q⟩:=q1;cases r1;exact zbA ⟨H1,I1,q⟩
variable{tA tB':TT}{rest:List Expr}
def Je(t u:TT):TT:=fun σ H Q=>t σ H fun c H1=>if c=true then u σ H1 Q else Q false H1
def tOr(t u:TT):TT:=fun σ H Q=>t σ H fun c H1=>if c=true then Q true H1 else u σ H1 Q
def IY(t:TT):TT:=fun σ H Q=>t σ H fun c H1=>Q (!c) H1
def E2(ha:PT X a tA):PW X (.BoolOp .And [a] pos) tA:=by
 intro wh ρ s σ H Q I h;refine isTrue_and (thn (ha ρ s σ H Q I h) fun c s1 e=>?_);cases c with
 |true=>exact isTrue_and_nil e
 |false=>exact e
def Jy(ha:PT X a tA):PW X (.BoolOp .Or [a] pos) tA:=by
 intro wh ρ s σ H Q I h;refine isTrue_or (thn (ha ρ s σ H Q I h) fun c s1 e=>?_);cases c with
 |false=>exact isTrue_or_nil e
 |true=>exact e
def Jz(ha:PT X a tA)(hb:PW X (.BoolOp .And (b::rest) pos) tB'):PW X (.BoolOp .And (a::b::rest) pos) (Je tA tB'):=by
 intro wh ρ s σ H Q I h;refine isTrue_and (thn (ha ρ s σ H _ I h) fun c s1 ⟨H1,I1,q1⟩=>?_);cases c with
 |true=>exact hb wh ρ s1 σ H1 Q I1 q1
 |false=>exact⟨H1,I1,q1⟩
def LU(ha:PT X a tA)(hb:PW X (.BoolOp .Or (b::rest) pos) tB'):PW X (.BoolOp .Or (a::b::rest) pos) (tOr tA tB'):=by
 intro wh ρ s σ H Q I h;refine isTrue_or (thn (ha ρ s σ H _ I h) fun c s1 ⟨H1,I1,q1⟩=>?_);cases c with
 |true=>exact⟨H1,I1,q1⟩
 |false=>exact hb wh ρ s1 σ H1 Q I1 q1
def JB(ha:PT X a tA):PT X (.UnaryOp .Not a pos) (IY tA):=by
 intro ρ s σ H Q I h;exact isTrue_not (ha ρ s σ H (fun c H1=>Q (!c) H1) I h)
def Ej(ta tb:TE):TE:=fun σ H Q=>ta σ H fun x H1=>∃c,x=.bl c/\if c=true then tb σ H1 Q else Q (.bl false) H1
def IX(ta tb:TE):TE:=fun σ H Q=>ta σ H fun x H1=>∃c,x=.bl c/\if c=true then Q (.bl true) H1 else tb σ H1 Q
def Eg(ta:TE):TE:=fun σ H Q=>ta σ H fun x H1=>∃c,x=.bl c/\Q (.bl (!c)) H1
def JI{op}(h:PE X a t):PE X (.BoolOp op [a] pos) t:=fun ρ s σ H Q I hw=>BoolOp_one (h ρ s σ H Q I hw)
def JN(ha:PE X a ta)(hb:PE X (.BoolOp .And (b::rest) pos) tb):PE X (.BoolOp .And (a::b::rest) pos) (Ej ta tb):=by
 intro ρ s σ H Q I h;refine BoolOp_and (thn (ha ρ s σ H _ I h) fun v s1 ⟨x,H1,I1,r1,q1⟩=>?_);obtain⟨c,rfl,q1⟩:=q1;cases r1;refine zbA ?_;cases c with
 |true=>exact hb ρ s1 σ H1 Q I1 q1
 |false=>exact⟨.bl false,H1,I1,rfl,q1⟩
def LX(ha:PE X a ta)(hb:PE X (.BoolOp .Or (b::rest) pos) tb):PE X (.BoolOp .Or (a::b::rest) pos) (IX ta tb):=by
 intro ρ s σ H Q I h;refine BoolOp_or (thn (ha ρ s σ H _ I h) fun v s1 ⟨x,H1,I1,r1,q1⟩=>?_);obtain⟨c,rfl,q1⟩:=q1;cases r1;refine zbA ?_;cases c with
 |false=>exact hb ρ s1 σ H1 Q I1 q1
 |true=>exact⟨.bl true,H1,I1,rfl,q1⟩
def JJ(ha:PE X a ta):PE X (.UnaryOp .Not a pos) (Eg ta):=by
 intro ρ s σ H Q I h;refine UnaryOp_ (thn (ha ρ s σ H _ I h) fun v s1 ⟨x,H1,I1,r1,q1⟩=>?_);obtain⟨c,rfl,q1⟩:=q1;cases r1;exact not_of (zbA ⟨.bl (!c),H1,I1,rfl,q1⟩)
def tIf(t:TT)(ta tb:TE):TE:=fun σ H Q=>t σ H fun c H1=>if c=true then ta σ H1 Q else tb σ H1 Q
def Av(hc:PT X c tA)(ha:PE X a ta)(hb:PE X b tb):PE X (.IfExp c a b pos) (tIf tA ta tb):=by
 intro ρ s σ H Q I h;refine wpAny_IfExp (thn (hc ρ s σ H _ I h) fun d s1 ⟨H1,I1,q1⟩=>?_);cases d with
 |true=>exact ha ρ s1 σ H1 Q I1 q1
 |false=>exact hb ρ s1 σ H1 Q I1 q1
end
def SqL(K:zbY)(H:Hp)(a:Addr)(xs:List V):Prop:=
 Rd H a (.lst xs) \/
  ∃(o:Obj) (its:Array Value) (n:Nat),K.lookup a=some o/\o.cls=.type "list"/\o.dict=none/\o.data=.seq its n/\its.size<=sizeLine/\Vals xs its.toList
def SqT(K:zbY)(H:Hp)(a:Addr)(xs:List V):Prop:=
 Rd H a (.tup xs) \/
  ∃(o:Obj) (its:Array Value) (n:Nat),K.lookup a=some o/\o.cls=.type "tuple"/\o.data=.seq its n/\its.size<=sizeLine/\Vals xs its.toList
def Nv:Value->Option V
 |.none=>some .non
 |.bool b=>some (.bl b)
 |.int i _=>some (.int i)
 |.str x _=>some (.str x)
 |.bytes b _=>some (.byt b)
 |.float b _=>some (.flt b)
 |.ref a=>some (.ref a)
 |.type n=>some (.ty n)
 |_=>none
def RelV.abs{x:V}(r:RelV x u):Nv u=some x:=by
 cases x with
 |non=>cases r;rfl
 |bl _=>cases r;rfl
 |int _=>obtain⟨t,rfl⟩:=r;rfl
 |str _=>obtain⟨t,rfl⟩:=r;rfl
 |byt _=>obtain⟨t,rfl⟩:=r;rfl
 |flt _=>obtain⟨t,rfl⟩:=r;rfl
 |ref _=>cases r;rfl
 |ty _=>cases r;rfl
def RelV.inj{x:V}(r:RelV x u)(q:RelV y u):x=y:=zat (r.abs.symm.trans q.abs)
theorem Vals.inj:∀{xs ys:List V} {us:List Value},Vals xs us->Vals ys us->xs=ys
 |_,_,_,.nil,.nil=>rfl
 |_,_,_,.cons r t,.cons r' t'=>by rw[r.inj r',Vals.inj t t']
section
variable{xs ys:List V}
def SqL.of(h:H a=some (.lst xs)):SqL K H a xs:=.inl (.inl h)
def SqT.of(h:H a=some (.tup xs)):SqT K H a xs:=.inl (.inl h)
def Inv.list(I:Inv X ρ σ H s)(h:SqL X.K H a xs):∃its:List Value,Vals xs its/\PlainL s.heap a its.toArray/\xs.length<=sizeLine:=by
 rcases h with h|⟨o,its,n,hk,hc,hd,hs,hz,r⟩
 ·obtain⟨z,its,n,r,e⟩:=h.ok I.hok;exact⟨its,r,⟨_,n,e,rfl,rfl,rfl⟩,z⟩
 ·refine⟨its.toList,r,⟨o,n,I.kIn a o hk,hc,hd,by simpa using hs⟩,?_⟩;have e:=r.length;simp only[zaY]at e;omega
def Inv.tuple(I:Inv X ρ σ H s)(h:SqT X.K H a xs):∃its:List Value,Vals xs its/\IsTup s.heap a its.toArray/\xs.length<=sizeLine:=by
 rcases h with h|⟨o,its,n,hk,hc,hs,hz,r⟩
 ·obtain⟨z,its,r,p⟩:=h.ok I.hok;exact⟨its,r,p.tup,z⟩
 ·refine⟨its.toList,r,⟨o,I.kIn a o hk,hc,n,by simpa using hs⟩,?_⟩;have e:=r.length;simp only[zaY]at e;omega
def Inv.list_inj(I:Inv X ρ σ H s)(h:SqL X.K H a xs)(h':SqL X.K H a ys):xs=ys:=by
 obtain⟨its,r,⟨o,n,e,_,_,d⟩,_⟩:=I.list h;obtain⟨its',r',⟨o',n',e',_,_,d'⟩,_⟩:=I.list h';rw[e]at e';cases e';rw[d]at d';injection d' with d1 _
 have:its=its':=by simpa using congrArg Array.toList d1
 subst this;exact r.inj r'
def Inv.tuple_inj(I:Inv X ρ σ H s)(h:SqT X.K H a xs)(h':SqT X.K H a ys):xs=ys:=by
 obtain⟨its,r,⟨o,e,_,n,d⟩,_⟩:=I.tuple h;obtain⟨its',r',⟨o',e',_,n',d'⟩,_⟩:=I.tuple h';rw[e]at e';cases e';rw[d]at d';injection d' with d1 _
 have:its=its':=by simpa using congrArg Array.toList d1
 subst this;exact r.inj r'
end
abbrev Cx.wish(X:Cx)(E:Value->Shared->Prop):Cx:={ X with xe:=E }
abbrev Cx.nox(X:Cx):Cx:=X.wish fun _ _=>False
def Cx.Ok.wish(ok:X.Ok)(E:Value->Shared->Prop):(X.wish E).Ok:=
 ⟨ok.mod,ok.kind,ok.glob,ok.blt,ok.above,ok.inj,ok.has,ok.cab,ok.hd,ok.frames,ok.stk,ok.exf,ok.bs,ok.bsz,ok.noex,ok.exfs,ok.funs,ok.frf⟩
def Cx.Ok.unwish(ok:(X.wish E).Ok):X.Ok:=
 ⟨ok.mod,ok.kind,ok.glob,ok.blt,ok.above,ok.inj,ok.has,ok.cab,ok.hd,ok.frames,ok.stk,ok.exf,ok.bs,ok.bsz,ok.noex,ok.exfs,ok.funs,ok.frf⟩
def Inv.wish(I:Inv X ρ σ H s)(E:Value->Shared->Prop):Inv (X.wish E) ρ σ H s:=⟨I.ok.wish E,I.os,I.bare,I.base,I.loc,I.cell,I.free,I.freeC,I.pin,I.hok,I.len⟩
def Inv.unwish(I:Inv (X.wish E) ρ σ H s):Inv X ρ σ H s:=⟨I.ok.unwish,I.os,I.bare,I.base,I.loc,I.cell,I.free,I.freeC,I.pin,I.hok,I.len⟩
theorem SP.unwish{D:Ends}{f:Flow}{s':Shared}(h:SP (X.wish E) ρ D f s'):SP X ρ D f s':=by
 cases f with
 |next=>obtain⟨σ',H',I,q⟩:=h;exact⟨σ',H',I.unwish,q⟩
 |brk=>obtain⟨σ',H',I,q⟩:=h;exact⟨σ',H',I.unwish,q⟩
 |cont=>obtain⟨σ',H',I,q⟩:=h;exact⟨σ',H',I.unwish,q⟩
 |ret u=>obtain⟨v,σ',H',I,r,q⟩:=h;exact⟨v,σ',H',I.unwish,r,q⟩
def PSs.nox{st:List Stmt}{t:TS}(h:PSs X.nox st t):PSs X st t:=fun ρ s σ H D I hw=>
 wpAny_mono (h ρ s σ H D (I.wish _) hw) (fun _ _ q=>q.unwish) fun _ _ z=>False.elim z
section
variable{st:Stmt}{rest:List Stmt}{t u:TS}  
def Eh:TS:=fun D σ H=>D.nx σ H
def IV(t u:TS):TS:=fun D σ H=>t { D with nx:=u D } σ H
def pss_nil:PSs X [] Eh:=fun _ _ σ H _ I h=>wpAny_execs_nil ⟨σ,H,I,h⟩
def Aq(h1:PS X st t)(h2:PSs X rest u):PSs X (st::rest) (IV t u):=by
 intro ρ s σ H D I h;refine wpAny_execs_cons (thn (h1 ρ s σ H { D with nx:=u D } I h) fun f s1 q=>?_);cases f with
 |next=>
  obtain⟨σ',H',I',q⟩:=q;exact h2 ρ s1 σ' H' D I' q
 |ret v=>exact q
 |brk=>exact q
 |cont=>exact q
def E5(h1:PS X st t):PSs X [st] t:=by
 intro ρ s σ H D I h;refine wpAny_execs_cons (thn (h1 ρ s σ H D I h) fun f s1 q=>?_);cases f with
 |next=>exact wpAny_execs_nil q
 |ret v=>exact q
 |brk=>exact q
 |cont=>exact q
def Inv.quiet(I:Inv X ρ σ H s):interactive X.env=false:=by simp[interactive,I.ok.kind]
def wH(te:TE):TS:=fun D σ H=>te σ H fun _ H1=>D.nx σ H1
def vR(he:PE X e te)(hs:swapsWith e none pos.line X.env=pure false:=by rfl):PS X (.Expr e pos) (wH te):=by
 intro ρ s σ H D I h;exact wpAny_Expr_any (thn (he ρ s σ H _ I h) fun v s1 ⟨x,H1,I1,r1,q1⟩=>⟨σ,H1,I1,q1⟩) I.quiet hs
def IW(te:TE):TS:=fun D σ H=>te σ H D.rt
def JE(he:PE X e te):PS X (.Return (some e) pos) (IW te):=by
 intro ρ s σ H D I h;exact wpAny_Return_some (thn (he ρ s σ H _ I h) fun v s1 ⟨x,H1,I1,r1,q1⟩=>⟨x,σ,H1,I1,r1,q1⟩)
def I0(c:TT)(t u:TS):TS:=fun D σ H=>c σ H fun b H1=>if b=true then t D σ H1 else u D σ H1
def LV{a b:List Stmt}(hc:PT X c tc)(ha:PSs X a t)(hb:PSs X b u):PS X (.If c a b pos) (I0 tc t u):=by
 intro ρ s σ H D I h;refine wpAny_If (thn (hc ρ s σ H _ I h) fun d s1 ⟨H1,I1,q1⟩=>?_);cases d with
 |true=>exact ha ρ s1 σ H1 D I1 q1
 |false=>exact hb ρ s1 σ H1 D I1 q1
end
abbrev TG:=V->St->Hp->(St->Hp->Prop)->Prop
abbrev TGs:=List V->St->Hp->(St->Hp->Prop)->Prop
def PG(X:Cx)(target:Expr)(t:TG):Prop:=
 ∀(ρ:List (Addr×Obj)) (s:Shared) (σ:St) (H:Hp) (v:V) (u:Value) (Q:St->Hp->Prop),Inv X ρ σ H s->RelV v u->t v σ H Q ->
  wpAny (model X.prog X.w) X.A (assign target X.env u) (fun _ s'=>∃σ' H',Inv X ρ σ' H' s'/\Q σ' H') X.xe s
def PGs(X:Cx)(ts:List Expr)(t:TGs):Prop:=
 ∀(ρ:List (Addr×Obj)) (s:Shared) (σ:St) (H:Hp) (vs:List V) (us:List Value) (Q:St->Hp->Prop),Inv X ρ σ H s->Vals vs us->t vs σ H Q ->
  wpAny (model X.prog X.w) X.A (assignInOrder ((assignEach ts X.env).map (·.2)) us) (fun _ s'=>∃σ' H',Inv X ρ σ' H' s'/\Q σ' H') X.xe s
abbrev BC:=V->V->V->Hp->(Hp->Prop)->Prop
def LB(X:Cx)(t:BC):Prop:=
 ∀(ρ:List (Addr×Obj)) (s:Shared) (σ:St) (H:Hp) (o i v:V) (ov iv u:Value) (Q:Hp->Prop),Inv X ρ σ H s->RelV o ov->RelV i iv->RelV v u->t o i v H Q ->
  wpAny (model X.prog X.w) X.A (setItem ov iv u) (fun _ s'=>∃H',Inv X ρ σ H' s'/\Q H') X.xe s
def pC(i:Nat):TG:=fun v σ H Q=>Q (σ.set i (some v)) H
def Fc(hN:X.N.Nodup)(hi:X.N[i]?=some x)(hx:Loc X.env.scope x)(hf:X.fn x=true\/X.env.scope.names.lookup x=some .local:=by first|exact .inl rfl|exact .inr rfl|assumption):PG X (.Name x pos) (pC i):=by
 intro ρ s σ H v u Q I r h;exact wpAny_assign_Name (sJ I hN hi hx r (fun s' I'=>⟨_,H,I',h⟩) hf)
def AY:TGs:=fun vs σ H Q=>vs=[]/\Q σ H
def xv(t:TG)(u:TGs):TGs:=fun vs σ H Q=>∃v r,vs=v::r/\t v σ H fun σ' H'=>u r σ' H' Q
def pgs_nil:PGs X [] AY:=by
 intro ρ s σ H vs us Q I r h;obtain⟨e,h⟩:=h;subst e;cases r;exact assignInOrder_nil ⟨σ,H,I,h⟩
def sZ{t:TG}{u:TGs}(h1:PG X e t)(h2:PGs X es u)
  (hs:(assignEach (e::es) X.env).map (·.2)=assign e X.env::(assignEach es X.env).map (·.2):=by rfl):PGs X (e::es) (xv t u):=by
 intro ρ s σ H vs us Q I r h;obtain⟨v,vr,e1,h⟩:=h;subst e1;cases r with
 |cons r rr=>
  rw[hs];refine assignInOrder_cons (thn (h1 ρ s σ H _ _ _ I r h) fun _ s1 ⟨σ1,H1,I1,q1⟩=>?_);exact h2 ρ s1 σ1 H1 _ _ Q I1 rr q1
def AX(K:zbY)(n:Nat)(t:TGs):TG:=fun v σ H Q=>∃a xs,v=.ref a/\SqT K H a xs/\xs.length=n/\t xs σ H Q
def yB{t:TGs}(hc:X.calm=true)(h:PGs X es t)
  (hn:(assignEach es X.env).length=n:=by rfl) (hst:(assignEach es X.env).findIdx? (·.1)=none:=by rfl):PG X (.Tuple es k pos) (AX X.K n t):=by
 intro ρ s σ H v u Q I r hw;obtain⟨a,xs,e1,hq,hl,hw⟩:=hw;subst e1;cases r;obtain⟨its,rv,ht,hz⟩:=I.tuple hq;refine assign_Tuple_tuple (I.ok.hd hc) ht (by simp[hn,<-hl,rv.length]) hst fun h' hx=>?_;have I1:Inv X ρ σ H { s with heap:=h' }:=I.kept (t':=s.toks) fun b o e=>hx b o (zaw (zal e)) e;exact h ρ _ σ H xs _ Q I1 (by simpa using rv) hw
def xu(to ti:TE)(t:BC):TG:=fun v σ H Q=>to σ H fun o H1=>ti σ H1 fun i H2=>t o i v H2 fun H3=>Q σ H3
def tf{o i:Expr}{to ti:TE}{t:BC}(ho:PE X o to)(hi:PE X i ti)(hs:LB X t)
  (ha:∀v,assign (.Subscript o i pos) X.env v=(do
   let ov <-holding [v] (eval o X.env);let iv <-holding [v,ov] (eval i X.env)
   standAt pos
   holding [v,ov,iv] (setItem ov iv v)
   release [v,ov,iv] []):=by intro _;rfl):PG X (.Subscript o i pos) (xu to ti t):=by
 intro ρ s σ H v u Q I r h;rw[ha];refine zam (zbT (thn (ho ρ s σ H _ I h) fun ov s1 ⟨x,H1,I1,r1,q1⟩=>?_));refine zam (zbT (thn (hi ρ s1 σ H1 _ I1 q1) fun iv s2 ⟨y,H2,I2,r2,q2⟩=>?_));refine zam (wpAny_standAt (zam (zbT (thn (hs ρ s2 σ H2 x y v ov iv u _ I2 r1 r2 r q2) fun _ s3 ⟨H3,I3,q3⟩=>?_))));exact wpAny_release ⟨σ,H3,I3,q3⟩
def lZ(te:TE)(g:TG):TS:=fun D σ H=>te σ H fun x H1=>g x σ H1 D.nx
def oZ{g:TG}(he:PE X e te)(hg:PG X tg g)(hs:swapsWithSole [tg] e pos.line X.env=pure false:=by rfl)(hw:swappedStores [tg] e X.env=pure none:=by rfl)
  (h1:(assignEach [tg] X.env).map (·.2)=[assign tg X.env]:=by rfl):PS X (.Assign [tg] e pos) (lZ te g):=by
 intro ρ s σ H D I h;refine wpAny_Assign_stores (thn (he ρ s σ H _ I h) fun v s1 ⟨x,H1,I1,r1,q1⟩=>?_) hs hw;rw[h1];exact thn (hg ρ s1 σ H1 x v _ I1 r1 q1) fun _ s2 q=>q
def JD{pos':Pos}(hN:X.N.Nodup)(hi:X.N[i]?=some x)(hx:Loc X.env.scope x)(he:PE X e te)(hs:swapsWith e (some (.Name x pos')) pos.line X.env=pure false:=by rfl)(hf:X.fn x=true\/X.env.scope.names.lookup x=some .local:=by first|exact .inl rfl|exact .inr rfl|assumption):
  PS X (.Assign [.Name x pos'] e pos) (lZ te (pC i)):=by
 intro ρ s σ H D I h;refine wpAny_Assign_Name (thn (he ρ s σ H _ I h) fun v s1 ⟨y,H1,I1,r1,q1⟩=>?_) hs;exact sJ I1 hN hi hx r1 (fun s2 I2=>⟨_,H1,I2,q1⟩) hf
def ym(c:TT)(tb:TS):TS:=fun D σ H=>∃W:Nat->St->Hp->Prop,(∃m,W m σ H)/\∀m σ H,W m σ H ->
 c σ H fun b H1=>if b=true then ∃N:St->Hp->Prop,(∀σ' H',N σ' H'->∃m',m'<m/\W m' σ' H')/\tb { D with nx:=N,ct:=N,bk:=D.nx } σ H1 else D.nx σ H1
def Ar{tb:TS}(hp:PassesOwn (model X.prog X.w) X.A X.env X.xe)(hc:PT X c tc)(hb:PSs X body tb):PS X (.While c body [] pos) (ym tc tb):=by
 intro ρ s σ H D I h;obtain⟨W,⟨m0,w0⟩,turn⟩:=h;refine wpAny_While (codeAny_whileLoop (fun n s'=>∃σ' H',Inv X ρ σ' H' s'/\W n σ' H') ?_ m0 ⟨σ,H,I,w0⟩);rintro n s1 ⟨σ1,H1,I1,w1⟩;refine wpAny_passesOwn hp (thn (hc ρ s1 σ1 H1 _ I1 (turn n σ1 H1 w1)) fun b s2 ⟨H2,I2,q2⟩=>?_);cases b with
 |true=>
  obtain⟨N,hN,q2⟩:=q2;rw[if_pos rfl];refine wpAny_passesOwn hp (thn (hb ρ s2 σ1 H2 _ I2 q2) fun f s3 q3=>?_);cases f with
  |next=>
   obtain⟨σ3,H3,I3,n3⟩:=q3;obtain⟨m',hm,w3⟩:=hN σ3 H3 n3;exact⟨m',hm,σ3,H3,I3,w3⟩
  |cont=>
   obtain⟨σ3,H3,I3,n3⟩:=q3;obtain⟨m',hm,w3⟩:=hN σ3 H3 n3;exact⟨m',hm,σ3,H3,I3,w3⟩
  |brk=>exact q3
  |ret v=>exact q3
 |false=>
  rw[if_neg zbn];exact wpAny_execs_nil ⟨σ1,H2,I2,q2⟩
structure It where
 go:Nat->Hp->Prop
 yld:Nat->Hp->V->Hp->Prop
 stop:Nat->Hp->Prop
def jq(X:Cx)(ρ:List (Addr×Obj))(H:Hp)(b:Addr):Prop:=
 H b=none/\b≠X.env.locals/\b∉X.fs/\(b∈X.ex\/X.s₀.heap.objs.size<=b)/\(∀x c,X.env.cells.lookup x=some c->c≠b)/\∀p∈X.pn++ρ,p.1≠b
def Inv.fpOk(I:Inv X ρ σ H s)(hb:s.heap.objs.size<=b)(hn:H' b=none):jq X ρ H' b:=by
 refine⟨hn,Nat.ne_of_gt (zag I.lt hb),I.nofs hb,.inr (zau I.sz hb),fun x c e z=>?_,fun p hp z=>?_⟩
 ·obtain⟨v,q⟩:=I.cell x c e;exact absurd (zag q.lt (by rw[z];exact hb)) (zaI _)
 ·exact absurd (zag (zal (I.pin p hp).1) (by rw[z];exact hb)) (zaI _)
structure Turn(P:Program)(w:World)(K:zbY)(tg:Expr)(J:It)(fp:List Addr)(it:Addr)(tn:Nat->Heap->Prop):Prop where
 mem:it∈fp
 obj:∀i h,tn i h->∀b∈fp,∃o,h.get? b=some o/\∀v,o.data≠.cell v
 keep:∀i h h',tn i h->(∀b∈fp,∀o,h.get? b=some o->h'.get? b=some o)->tn i h'
 item:∀(X:Cx),X.prog=P->X.w=w->X.K=K->X.calm=true->∀(i:Nat) (ρ:List (Addr×Obj)) (s:Shared) (σ:St) (H:Hp) (E:Value->Shared->Prop),Inv X ρ σ H s->(∀b∈fp,jq X ρ H b)->tn i s.heap->J.go i H ->
  wpAny (model P w) X.A (pyNext (.ref it)) (fun r s1=>∃u,r=some u /\
   wpAny (model P w) X.A (letOwnedTupleGo tg (.ref it) u) (fun _ s2=>∃x H',Inv X ρ σ H' s2/\RelV x u/\J.yld i H x H'/\tn (i+1) s2.heap/\∀b∈fp,H' b=none) E s1) E s
 done:∀(X:Cx),X.prog=P->X.w=w->X.K=K->X.calm=true->∀(i:Nat) (ρ:List (Addr×Obj)) (s:Shared) (σ:St) (H:Hp) (E:Value->Shared->Prop),Inv X ρ σ H s->(∀b∈fp,jq X ρ H b)->tn i s.heap->J.stop i H ->
  wpAny (model P w) X.A (pyNext (.ref it)) (fun r s1=>r=none/\Inv X ρ σ H s1) E s
 self:∀(A:Around) (i:Nat) (s:Shared) (Q:Value->Shared->Prop) (E:Value->Shared->Prop),tn i s.heap->Q (.ref it) s->wpAny (model P w) A (pyIter (.ref it)) Q E s
abbrev TI:=St->Hp->(It->Hp->Prop)->Prop
def PIE(X:Cx)(ρ:List (Addr×Obj))(σ:St)(tg:Expr)(R:It->Hp->Prop)(itv:Value)(s2:Shared):Prop:=
 ∃(it:Addr) (fp:List Addr) (tn:Nat->Heap->Prop) (J:It) (H':Hp),itv=.ref it/\Inv X ρ σ H' s2/\Turn X.prog X.w X.K tg J fp it tn/\tn 0 s2.heap/\(∀b∈fp,jq X ρ H' b)/\R J H'
def PI(X:Cx)(tg iter:Expr)(wi:TI):Prop:=
 ∀(ρ:List (Addr×Obj)) (s:Shared) (σ:St) (H:Hp) (R:It->Hp->Prop),Inv X ρ σ H s->wi σ H R ->
  wpAny (model X.prog X.w) X.A (eval iter X.env) (fun v s1=>wpAny (model X.prog X.w) X.A (pyIter v) (PIE X ρ σ tg R) X.xe s1) X.xe s
def pB{it:Addr}{o:Obj}{n:String}{vs:Array Value}{Q:Unit->Shared->Prop}(ho:s.heap.get? it=some o)(hc:o.cls=.type n)(hd:o.data=.fields vs)
  (hn:["enumerate","zip","dict_itemiterator","dict_reverseitemiterator","odict_iterator","itertools.zip_longest","itertools.pairwise"].contains n=false) (hQ:Q () s):wpAny M A (letOwnedTupleGo tg (.ref it) u) Q E s:=by
 unfold letOwnedTupleGo;cases tg<;>first
  |exact zaT hQ
  | (cases u<;>first
    |exact zaT hQ
    | (refine zam (wpAny_load ho ?_)
       rw[hc,hd];show wpAny M A (if(["enumerate","zip","dict_itemiterator","dict_reverseitemiterator","odict_iterator","itertools.zip_longest","itertools.pairwise"].contains n&&vs[0]?==some (rawInt _))=true then _ else _) Q E s;rw[if_neg (by intro h;rw[hn,Bool.false_and]at h;cases h)];exact zaT hQ))
def Itl(K:zbY)(a:Addr):It:=
 ⟨fun i H=>∃xs x,SqL K H a xs/\xs[i]?=some x,fun i H x H'=>H'=H/\∀xs,SqL K H a xs->xs[i]?=some x,fun i H=>∃xs,SqL K H a xs/\xs.length<=i⟩
def Itt(K:zbY)(a:Addr):It:=
 ⟨fun i H=>∃xs x,SqT K H a xs/\xs[i]?=some x,fun i H x H'=>H'=H/\∀xs,SqT K H a xs->xs[i]?=some x,fun i H=>∃xs,SqT K H a xs/\xs.length<=i⟩
def Itr(lo:Int)(n:Nat):It:=⟨fun i _=>i<n,fun i H x H'=>H'=H/\x=.int (lo+i),fun i _=>n<=i⟩
def yi(a it:Addr):Turn P w K tg (Itl K a) [it] it (fun i h=>h.IsListIter it a i) where
 mem:=by simp
 obj:=fun i h st b hb=>by
  have e:b=it:=by simpa using hb
  subst e;obtain⟨o,e,c,d⟩:=st;exact⟨o,e,fun v z=>by rw[d]at z;cases z⟩
 keep:=fun i h h' st k=>st.at fun o e=>k it (by simp) o e
 item:=by
  intro X hP hw hK hc i ρ s σ H E I hf st hg;subst hP hw hK;obtain⟨xs,x,hq,hx⟩:=hg;obtain⟨its,rv,p,hz⟩:=I.list hq;obtain⟨u,hu,ru⟩:=rv.get hx;obtain⟨f0,f1,f2,f3,f4,f5⟩:=hf it (by simp);refine wpAny_pyNext_list_item st p.isList (x:=u) (by simpa using hu) fun h' st' sb=>?_;have I1:Inv X ρ σ H { s with heap:=h' }:=I.turned (t':=s.toks) (fun b o hb e=>(sb.2 b hb).trans e) f0 f1 f3 f4 f5;obtain⟨o,e,c,d⟩:=id st';exact⟨u,rfl,pB (s:={ s with heap:=h' }) e c d (by decide) ⟨x,H,I1,ru,⟨rfl,fun ys hy=>by rw[I.list_inj hy hq];exact hx⟩,st',fun b hb=>(hf b hb).1⟩⟩
 done:=by
  intro X hP hw hK hc i ρ s σ H E I hf st hg;subst hP hw hK;obtain⟨xs,hq,hx⟩:=hg;obtain⟨its,rv,p,hz⟩:=I.list hq;obtain⟨f0,f1,f2,f3,f4,f5⟩:=hf it (by simp);have hl:=rv.length;exact wpAny_pyNext_list_end (I.ok.hd hc) st p.isList (by simp;omega) fun h' eb=>⟨rfl,I.turned (t':=s.toks) (fun b o hb e=>eb b o hb e) f0 f1 f3 f4 f5⟩
 self:=fun _ _ _ _ _ st h=>wpAny_pyIter_listiter st h
def wC(a it:Addr):Turn P w K tg (Itt K a) [it] it (fun i h=>h.IsTupleIter it a i) where
 mem:=by simp
 obj:=fun i h st b hb=>by
  have e:b=it:=by simpa using hb
  subst e;obtain⟨o,e,c,d⟩:=st;exact⟨o,e,fun v z=>by rw[d]at z;cases z⟩
 keep:=fun i h h' st k=>st.at fun o e=>k it (by simp) o e
 item:=by
  intro X hP hw hK hc i ρ s σ H E I hf st hg;subst hP hw hK;obtain⟨xs,x,hq,hx⟩:=hg;obtain⟨its,rv,p,hz⟩:=I.tuple hq;obtain⟨u,hu,ru⟩:=rv.get hx;obtain⟨f0,f1,f2,f3,f4,f5⟩:=hf it (by simp);refine wpAny_pyNext_tuple_item st (show s.heap.IsTuple a its.toArray from p) (x:=u) (by simpa using hu) fun h' st' sb=>?_;have I1:Inv X ρ σ H { s with heap:=h' }:=I.turned (t':=s.toks) (fun b o hb e=>(sb.2 b hb).trans e) f0 f1 f3 f4 f5;obtain⟨o,e,c,d⟩:=id st';exact⟨u,rfl,pB (s:={ s with heap:=h' }) e c d (by decide) ⟨x,H,I1,ru,⟨rfl,fun ys hy=>by rw[I.tuple_inj hy hq];exact hx⟩,st',fun b hb=>(hf b hb).1⟩⟩
 done:=by
  intro X hP hw hK hc i ρ s σ H E I hf st hg;subst hP hw hK;obtain⟨xs,hq,hx⟩:=hg;obtain⟨its,rv,p,hz⟩:=I.tuple hq;obtain⟨f0,f1,f2,f3,f4,f5⟩:=hf it (by simp);have hl:=rv.length;exact wpAny_pyNext_tuple_end (I.ok.hd hc) st (show s.heap.IsTuple a its.toArray from p) (by simp;omega) fun h' eb=>⟨rfl,I.turned (t':=s.toks) (fun b o hb e=>eb b o hb e) f0 f1 f3 f4 f5⟩
 self:=fun _ _ _ _ _ st h=>wpAny_pyIter_tupleiter st h
def wD(it:Addr)(lo:Int)(n:Nat):Turn P w K tg (Itr lo n) [it] it (fun i h=>IsRangeIter h it (lo+(i:Nat)*1) ((n:Int)-(i:Nat)) 1) where
 mem:=by simp
 obj:=fun i h st b hb=>by
  have e:b=it:=by simpa using hb
  subst e;exact⟨_,st,fun v z=>by
   have z':Data.fields _=Data.cell v:=z;cases z'⟩
 keep:=fun i h h' st k=>k it (by simp) _ st
 item:=by
  intro X hP hw hK hc i ρ s σ H E I hf st hg;subst hP hw hK;obtain⟨f0,f1,f2,f3,f4,f5⟩:=hf it (by simp);have W:=Walks.range (prog:=X.prog) (w:=X.w) (I.ok.hd hc) it lo 1 n;refine W.item i s _ _ hg st fun v h' tk hv st' kk=>?_;obtain⟨t,rfl⟩:=hv;have I1:Inv X ρ σ H { s with heap:=h',toks:=tk }:=I.turned (fun b o hb e=>kk b o (by simpa using hb) e) f0 f1 f3 f4 f5;refine⟨_,rfl,pB (s:={ s with heap:=h',toks:=tk }) (n:="range_iterator") st' rfl rfl (by decide) ⟨.int (lo+i),H,I1,⟨t,?_⟩,⟨rfl,rfl⟩,st',fun b hb=>(hf b hb).1⟩⟩;rw[Int.mul_one]
 done:=by
  intro X hP hw hK hc i ρ s σ H E I hf st hg;subst hP hw hK;obtain⟨f0,f1,f2,f3,f4,f5⟩:=hf it (by simp);exact wpAny_pyNext_range_end (I.ok.hd hc) st (by have:n<=i:=hg;omega) fun h' eb=>⟨rfl,I.turned (t':=s.toks) (fun b o hb e=>eb b o hb e) f0 f1 f3 f4 f5⟩
 self:=fun _ _ _ _ _ st h=>wpAny_pyIter_rangeiter st h
def Ao{R:It->Hp->Prop}{lo hi:Int}{t u v:Tok}{tk:Nat}(I:Inv X ρ σ H s)(h1:-(2 ^ 62)<=lo)(h2:lo<2 ^ 62)(h3:-(2 ^ 62)<=hi)(h4:hi<2 ^ 62)
  (q:R (Itr lo (hi-lo).toNat) H):wpAny (model X.prog X.w) X.A (pyIter (.ref s.heap.objs.size)) (PIE X ρ σ tg R) E { s with heap:=s.heap.push { cls:=.type "range",data:=.fields #[.int lo t,.int hi u,.int 1 v] },toks:=tk }:=by
 refine wpAny_pyIter_range (IsRange.new ..) (small_one h1 h2 h3 h4) ?_;have I1:Inv X ρ σ H { s with heap:=s.heap.push { cls:=.type "range",data:=.fields #[.int lo t,.int hi u,.int 1 v] },toks:=tk }:=I.kept fun b o e=>zaf _ e;refine⟨(s.heap.push { cls:=.type "range",data:=.fields #[.int lo t,.int hi u,.int 1 v] }).objs.size,[(s.heap.push { cls:=.type "range",data:=.fields #[.int lo t,.int hi u,.int 1 v] }).objs.size],_,_,H,rfl,
  I1.kept (t':=tk) fun b o e=>zaf _ e,wD _ lo (hi-lo).toNat,?_,fun b hb=>?_,q⟩
 ·have e1:lo+((0:Nat):Int)*1=lo:=by simp
  have e2:(((hi-lo).toNat:Nat):Int)-((0:Nat):Int)=Builtin.Range.rangeSize lo hi 1:=by rw[rangeSize_one];split<;>omega
  show IsRangeIter _ _ (lo+((0:Nat):Int)*1) ((((hi-lo).toNat:Nat):Int)-((0:Nat):Int)) 1;rw[e1,e2];exact zan _ rfl
 ·have e:b=(s.heap.push { cls:=.type "range",data:=.fields #[.int lo t,.int hi u,.int 1 v] }).objs.size:=by simpa using hb
  subst e;exact I1.fpOk (zav _) (I1.hok.fresh (zav _))
def Mc(ta:TA):TI:=fun σ H R=>ta σ H fun vs H1=>∃j:Int,vs=[.int j]/\-(2 ^ 62)<=j/\j<2 ^ 62/\R (Itr 0 j.toNat) H1
def yA{a:Expr}{ta:TA}(hg:Gl X "range")(hm:X.mg "range"=none)(ha:PA X [a] ta)(hs:starEach [a] X.env=[(false,eval a X.env)]:=by rfl):PI X tg (.Call (.Name "range" p) [a] [] pos) (Mc ta):=by
 intro ρ s σ H R I h;refine Call_ (mj I hg hm boot_range (PyProof.Rows.callWith_type1 (thn (ha pos ρ s σ H _ I h) fun us s1 ⟨vs,H1,I1,r1,q1⟩=>?_) hs rfl));obtain⟨j,e,q1,q2,q⟩:=q1;subst e;cases r1 with
 |cons r rr=>
  cases rr;obtain⟨t,rfl⟩:=r;exact call_range_1 (Ao I1 (by omega) (by omega) q1 q2 (by simpa using q))
def Ja(wi:TI)(g:TG)(tb:TS):TS:=fun D σ H=>wi σ H fun J H1=>∃W:Nat->Nat->St->Hp->Prop,(∃m,W 0 m σ H1)/\∀i m σ H,W i m σ H ->
 (J.stop i H/\D.nx σ H)\/(J.go i H/\∃N:St->Hp->Prop,(∀σ' H',N σ' H'->∃m',m'<m/\W (i+1) m' σ' H')/\∀x H',J.yld i H x H'->g x σ H' fun σ2 H2=>tb { D with nx:=N,ct:=N,bk:=D.nx } σ2 H2)
def l6(fp:List Addr)(h:Heap):List (Addr×Obj):=fp.filterMap fun b=>(h.get? b).map fun o=>(b,o)
def iN{o:Obj}(hb:b∈fp)(e:h.get? b=some o):(b,o)∈l6 fp h:=List.mem_filterMap.mpr ⟨b,hb,by rw[e];rfl⟩
def yE{p:Addr×Obj}(hp:p∈l6 fp h):p.1∈fp/\h.get? p.1=some p.2:=by
 obtain⟨b,hb,e⟩:=List.mem_filterMap.mp hp;cases q:h.get? b with
 |none=>rw[q]at e;cases e
 |some o=>
  rw[q]at e;have e':(b,o)=p:=zat e;subst e';exact⟨hb,q⟩
def Inv.pinned(I:Inv X ρ σ H s)(hf:∀b∈fp,jq X ρ H b)(ho:∀b∈fp,∃o,s.heap.get? b=some o/\∀v,o.data≠.cell v):Inv X (ρ++l6 fp s.heap) σ H s:=
 I.pins_of fun p hp=>(zax.mp hp).elim (fun z=>I.pin p (zbg _ z)) fun z=>by
  obtain⟨hb,e⟩:=yE z;obtain⟨f0,f1,f2,_⟩:=hf p.1 hb;obtain⟨o,e',d⟩:=ho p.1 hb;rw[e]at e';cases e';exact⟨e,f0,f1,f2,d⟩
def Inv.unpinned{pl:List (Addr×Obj)}(I:Inv X (ρ++pl) σ H s):Inv X ρ σ H s:=I.pins_of fun p hp=>I.pin p (zbg _ (zbf _ hp))
def JF{iter:Expr}{wi:TI}{g:TG}{tb:TS}(hp:PassesOwn (model X.prog X.w) X.A X.env X.xe)(hc:X.calm=true)(hi:PI X tg iter wi)(hg:PG X tg g)(hb:PSs X body tb)
  (hs:∀x,foldedSetIterable iter X.env x=pure x:=by intro _;rfl):PS X (.For tg iter body [] pos) (Ja wi g tb):=by
 intro ρ s σ H D I h;refine wpAny_For (thn (hi ρ s σ H _ I h) fun v s1 h1=>thn h1 fun itv s2 h2=>?_) hs;obtain⟨it,fp,tn,J,H2,e,I2,T,st2,f2,W,⟨m0,w0⟩,turn⟩:=h2;subst e;have stat:∀{H':Hp},(∀b∈fp,H' b=none)->∀b∈fp,jq X ρ H' b:=fun hn b hb=>⟨hn b hb,(f2 b hb).2⟩;refine codeAny_forLoop_any (fun n s'=>∃i σ' H',Inv X ρ σ' H' s'/\tn i s'.heap/\(∀b∈fp,H' b=none)/\W i n σ' H') ?_ m0 ⟨0,σ,H2,I2,st2,fun b hb=>(f2 b hb).1,w0⟩;rintro n s3 ⟨i,σ3,H3,I3,st3,fr3,w3⟩;rcases turn i n σ3 H3 w3 with⟨stop,qn⟩|⟨go,N,hN,step⟩
 ·refine wpAny_passesOwn hp (thn (T.done X rfl rfl rfl hc i ρ s3 σ3 H3 X.xe I3 (stat fr3) st3 stop) fun r s4 ⟨hr,I4⟩=>?_);subst hr;exact wpAny_execs_nil ⟨σ3,H3,I4,qn⟩
 ·refine wpAny_passesOwn hp (thn (T.item X rfl rfl rfl hc i ρ s3 σ3 H3 X.xe I3 (stat fr3) st3 go) fun r s4 ⟨u,hr,h4⟩=>?_);subst hr;refine wpAny_passesOwn hp (thn h4 fun _ s5 ⟨x,H5,I5,r5,y5,st5,fr5⟩=>?_);have I5':=I5.pinned (stat fr5) (T.obj _ _ st5);refine wpAny_passesOwn hp (thn (hg _ s5 σ3 H5 x u _ I5' r5 (step x H5 y5)) fun _ s6 ⟨σ6,H6,I6,q6⟩=>?_);refine wpAny_passesOwn hp (thn (hb _ s6 σ6 H6 _ I6 q6) fun f s7 q7=>?_);have again:∀{σ7:St} {H7:Hp},Inv X (ρ++l6 fp s5.heap) σ7 H7 s7->N σ7 H7->∃m,m<n/\∃i σ' H',Inv X ρ σ' H' s7/\tn i s7.heap/\(∀b∈fp,H' b=none)/\W i m σ' H':=fun {σ7 H7} I7 n7=>by
   obtain⟨m',hm,w7⟩:=hN σ7 H7 n7;refine⟨m',hm,i+1,σ7,H7,I7.unpinned,T.keep _ _ _ st5 fun b hb o e=>(I7.pin (b,o) (zbg _ (zbg _ (iN hb e)))).1,fun b hb=>?_,w7⟩;obtain⟨o,e,d⟩:=T.obj _ _ st5 b hb;exact(I7.pin (b,o) (zbg _ (zbg _ (iN hb e)))).2.1
  cases f with
  |next=>obtain⟨σ7,H7,I7,n7⟩:=q7;exact again I7 n7
  |cont=>obtain⟨σ7,H7,I7,n7⟩:=q7;exact again I7 n7
  |brk=>obtain⟨σ7,H7,I7,q7⟩:=q7;exact⟨σ7,H7,I7.unpinned,q7⟩
  |ret v=>obtain⟨x7,σ7,H7,I7,r7,q7⟩:=q7;exact⟨x7,σ7,H7,I7.unpinned,r7,q7⟩
abbrev R2:=V->V->Hp->VK->Prop
variable{r r':R2}
def OpR(X:Cx)(f:Value->Value->Sem Value)(r:R2):Prop:=
 ∀(ρ:List (Addr×Obj)) (s:Shared) (σ:St) (H:Hp) (x y:V) (v u:Value) (Q:VK),Inv X ρ σ H s->RelV x v->RelV y u->r x y H Q ->
  wpAny (model X.prog X.w) X.A (f v u) (EP X ρ σ Q) X.xe s
def UnR(X:Cx)(f:Value->Sem Value)(r:V->Hp->VK->Prop):Prop:=
 ∀(ρ:List (Addr×Obj)) (s:Shared) (σ:St) (H:Hp) (x:V) (v:Value) (Q:VK),Inv X ρ σ H s->RelV x v->r x H Q ->
  wpAny (model X.prog X.w) X.A (f v) (EP X ρ σ Q) X.xe s
def CallR(X:Cx)(f:Value)(r:List V->Hp->VK->Prop):Prop:=
 ∀(ρ:List (Addr×Obj)) (s:Shared) (σ:St) (H:Hp) (xs:List V) (us:List Value) (Q:VK),Inv X ρ σ H s->Vals xs us->r xs H Q ->
  wpAny (model X.prog X.w) X.A (call f us) (EP X ρ σ Q) X.xe s
def Ny(X:Cx)(r:V->Hp->(Bool->Hp->Prop)->Prop):Prop:=
 ∀(ρ:List (Addr×Obj)) (s:Shared) (σ:St) (H:Hp) (x:V) (v:Value) (Q:Bool->Hp->Prop),Inv X ρ σ H s->RelV x v->r x H Q ->
  wpAny (model X.prog X.w) X.A (truthy v) (TP X ρ σ Q) X.xe s
def tOp(r:R2)(ta tb:TE):TE:=fun σ H Q=>ta σ H fun x H1=>tb σ H1 fun y H2=>r x y H2 Q
def tUn(r:V->Hp->VK->Prop)(ta:TE):TE:=fun σ H Q=>ta σ H fun x H1=>r x H1 Q
def rI(C:Int->Int->Prop)(g:Int->Int->V):R2:=fun x y H Q=>∃i j,x=.int i/\y=.int j/\C i j/\Q (g i j) H
def rI0(g:Int->Int->V):R2:=fun x y H Q=>∃i j,x=.int i/\y=.int j/\Q (g i j) H
def rU(g:Int->V):V->Hp->VK->Prop:=fun x H Q=>∃i,x=.int i/\Q (g i) H
section
variable{a b:Expr}{tc:TE} 
def By(ha:PE X a ta)(hb:PE X b tb){R:V->V->Hp->Prop}(I:Inv X ρ σ H s)
  (h:ta σ H fun x H1=>tb σ H1 fun y H2=>R x y H2) {f:Value->Value->Sem Value}
  (hf:∀v u s2 x y H2,Inv X ρ σ H2 s2->RelV x v->RelV y u->R x y H2->wpAny (model X.prog X.w) X.A (f v u) Q X.xe s2):
  wpAny (model X.prog X.w) X.A (eval a X.env) (fun v s₁=>wpAny (model X.prog X.w) X.A (eval b X.env) (fun u s₂=>wpAny (model X.prog X.w) X.A (f v u) Q X.xe s₂) X.xe s₁) X.xe s:=by
 refine thn (ha ρ s σ H _ I h) ?_;rintro v s1 ⟨x,H1,I1,r1,q1⟩;refine thn (hb ρ s1 σ H1 _ I1 q1) ?_;rintro u s2 ⟨y,H2,I2,r2,q2⟩;exact hf v u s2 x y H2 I2 r1 r2 q2
def LY{op:Operator}(ho:OpR X (binaryOp op) r)(ha:PE X a ta)(hb:PE X b tb):PE X (.BinOp a op b pos) (tOp r ta tb):=by
 intro ρ s σ H Q I h;exact wpAny_BinOp (By ha hb I h fun v u s2 x y H2 I2 rx ry q=>ho ρ s2 σ H2 x y v u Q I2 rx ry q)
def LW{op:UnaryOp}{r:V->Hp->VK->Prop}(ho:UnR X (unaryOp op) r)(ha:PE X a ta):PE X (.UnaryOp op a pos) (tUn r ta):=by
 intro ρ s σ H Q I h;exact UnaryOp_ (thn (ha ρ s σ H _ I h) fun v s1 ⟨x,H1,I1,r1,q1⟩=>ho ρ s1 σ H1 x v Q I1 r1 q1)
def opI{f:Value->Value->Sem Value}{C:Int->Int->Prop} 
  (rule:∀(i j:Int) (t u:Tok) (s:Shared) (Q:Value->Shared->Prop) (E:Value->Shared->Prop),C i j->Q (.int (g i j) s.toks) { s with toks:=s.toks+1 }->wpAny (model X.prog X.w) X.A (f (.int i t) (.int j u)) Q E s):
  OpR X f (rI C fun i j=>.int (g i j)):=by
 intro ρ s σ H x y v u Q I rx ry h;obtain⟨i,j,rfl,rfl,hc,q⟩:=h;obtain⟨t,rfl⟩:=rx;obtain⟨t',rfl⟩:=ry;exact rule i j t t' s _ _ hc ⟨.int (g i j),H,I.tok _,⟨_,rfl⟩,q⟩
def JP{f:Value->Value->Sem Value} 
  (rule:∀(i j:Int) (t u:Tok) (s:Shared) (Q:Value->Shared->Prop) (E:Value->Shared->Prop),Q (.int (g i j) s.toks) { s with toks:=s.toks+1 }->wpAny (model X.prog X.w) X.A (f (.int i t) (.int j u)) Q E s):
  OpR X f (rI0 fun i j=>.int (g i j)):=by
 intro ρ s σ H x y v u Q I rx ry h;obtain⟨i,j,rfl,rfl,q⟩:=h;obtain⟨t,rfl⟩:=rx;obtain⟨t',rfl⟩:=ry;exact rule i j t t' s _ _ ⟨.int (g i j),H,I.tok _,⟨_,rfl⟩,q⟩
def wV{f:Value->Value->Sem Value}{g:Int->Int->Bool}
  (rule:∀(i j:Int) (t u:Tok) (s:Shared) (Q:Value->Shared->Prop) (E:Value->Shared->Prop),Q (.bool (g i j)) s->wpAny (model X.prog X.w) X.A (f (.int i t) (.int j u)) Q E s):
  OpR X f (rI0 fun i j=>.bl (g i j)):=by
 intro ρ s σ H x y v u Q I rx ry h;obtain⟨i,j,rfl,rfl,q⟩:=h;obtain⟨t,rfl⟩:=rx;obtain⟨t',rfl⟩:=ry;exact rule i j t t' s _ _ ⟨.bl (g i j),H,I,rfl,q⟩
def jw(i j:Int):Prop:=0<j/\j<1073741824
def j1(i j:Int):Prop:=0<=j/\j<=1000000/\i.natAbs<2 ^ 64
def CMul(i j:Int):Prop:=(-(2 ^ 64)<i/\i<2 ^ 64)\/(-(2 ^ 64)<j/\j<2 ^ 64)
def CMul.ok{i j:Int}(h:CMul i j):IntMulOk i j:=by
 rcases h with⟨h1,h2⟩|⟨h1,h2⟩
 ·exact .of_left (intBits_le_64 h1 h2)
 ·exact .of_right (intBits_le_64 h1 h2)
def op_add:OpR X (binaryOp .Add) (rI0 fun i j=>.int (i+j)):=JP fun _ _ _ _ _ _ _ q=>add_int q
def op_sub:OpR X (binaryOp .Sub) (rI0 fun i j=>.int (i-j)):=JP fun _ _ _ _ _ _ _ q=>sub_int q
def op_mul:OpR X (binaryOp .Mult) (rI CMul fun i j=>.int (i*j)):=opI fun _ _ _ _ _ _ _ hc q=>mul_int q hc.ok
def op_fdiv:OpR X (binaryOp .FloorDiv) (rI jw fun i j=>.int (i / j)):=opI fun i j _ _ _ _ _ hc q=>by
 have h1:(0:Int)<j:=hc.1;have h2:j<1073741824:=hc.2;exact floordiv_int (by omega) (by rw[Int.fdiv_eq_ediv_of_nonneg i (by omega)];exact q) (.inl (PyProof.noPylong_small (by omega)))
def op_mod:OpR X (binaryOp .Mod) (rI (fun _ j=>0<j) fun i j=>.int (i % j)):=opI fun i j _ _ _ _ _ hc q=>by
 have h1:(0:Int)<j:=hc;exact mod_int' (by omega) (by rw[Int.fmod_eq_emod_of_nonneg i (by omega)];exact q)
def op_pow:OpR X (binaryOp .Pow) (rI j1 fun i j=>.int (i ^ j.toNat)):=opI fun _ _ _ _ _ _ _ hc q=>pow_int_small hc.1 hc.2.1 hc.2.2 q
def unI{f:Value->Sem Value}{g:Int->Int}
  (rule:∀(i:Int) (t:Tok) (s:Shared) (Q:Value->Shared->Prop) (E:Value->Shared->Prop),Q (.int (g i) s.toks) { s with toks:=s.toks+1 }->wpAny (model X.prog X.w) X.A (f (.int i t)) Q E s):
  UnR X f (rU fun i=>.int (g i)):=by
 intro ρ s σ H x v Q I rx h;obtain⟨i,rfl,q⟩:=h;obtain⟨t,rfl⟩:=rx;exact rule i t s _ _ ⟨.int (g i),H,I.tok _,⟨_,rfl⟩,q⟩
def un_neg:UnR X (unaryOp .USub) (rU fun i=>.int (-i)):=unI fun _ _ _ _ _ q=>neg_int q
def zq{Q:VK}{k k':Bool}(I:Inv X ρ σ H s)(q:Q (.bl k) H)(e:k=k'):EP X ρ σ Q (.bool k') s:=by
 subst e;exact⟨.bl k,H,I,rfl,q⟩
def op_lt:OpR X (compareOp .Lt) (rI0 fun i j=>.bl (decide (i<j))):=wV fun _ _ _ _ _ _ _ q=>lt_int q
def op_le:OpR X (compareOp .LtE) (rI0 fun i j=>.bl (decide (i<=j))):=wV fun _ _ _ _ _ _ _ q=>le_int q
def op_gt:OpR X (compareOp .Gt) (rI0 fun i j=>.bl (decide (j<i))):=wV fun _ _ _ _ _ _ _ q=>gt_int q
def op_ge:OpR X (compareOp .GtE) (rI0 fun i j=>.bl (decide (j<=i))):=wV fun _ _ _ _ _ _ _ q=>ge_int q
def op_isN:OpR X (compareOp .Is) (fun x y H Q=>y=.non/\Q (.bl (decide (x=.non))) H):=by
 intro ρ s σ H x y v u Q I rx ry h;obtain⟨rfl,q⟩:=h;cases ry;refine is_none_gen (zq I q ?_);cases x<;>first
  | (cases rx;rfl)
  | (obtain⟨t,rfl⟩:=rx;rfl)
def op_notN:OpR X (compareOp .IsNot) (fun x y H Q=>y=.non/\Q (.bl (!decide (x=.non))) H):=by
 intro ρ s σ H x y v u Q I rx ry h;obtain⟨rfl,q⟩:=h;cases ry;refine isnot_none_gen (zq I q ?_);cases x<;>first
  | (cases rx;rfl)
  | (obtain⟨t,rfl⟩:=rx;rfl)
def aY(b:Expr)(h:op≠.In:=by decide)(h2:op≠.NotIn:=by decide):behindInMarks op b=false:=by
 have e1:(op==CmpOp.In)=false:=by cases op<;>first|rfl|exact absurd rfl h
 have e2:(op==CmpOp.NotIn)=false:=by cases op<;>first|rfl|exact absurd rfl h2
 cases b<;>simp[behindInMarks,e1,e2]
def Fg(ho:OpR X (compareOp op) r)(ha:PE X a ta)(hb:PE X b tb)(hm:behindInMarks op b=false):PE X (.Compare a [op] [b] pos) (tOp r ta tb):=by
 intro ρ s σ H Q I h;exact wpAny_Compare1 (By ha hb I h fun v u s2 x y H2 I2 rx ry q=>ho ρ s2 σ H2 x y v u Q I2 rx ry q) hm
def Ee(t:TE):TT:=fun σ H Q=>t σ H fun x H'=>∃k,x=.bl k/\Q k H'
def E4(ho:OpR X (compareOp op) r)(ha:PE X a ta)(hb:PE X b tb)(hm:behindInMarks op b=false):PT X (.Compare a [op] [b] pos) (Ee (tOp r ta tb)):=by
 intro ρ s σ H Q I h;refine wpAny_isTrue_Compare1 (thn (ha ρ s σ H _ I h) fun v s1 ⟨x,H1,I1,r1,q1⟩=>thn (hb ρ s1 σ H1 _ I1 q1) fun u s2 ⟨y,H2,I2,r2,q2⟩=>
  thn (ho ρ s2 σ H2 x y v u _ I2 r1 r2 q2) fun c s3 ⟨z,H3,I3,r3,k,e,q3⟩=>?_) hm
 subst e;cases r3;exact zbA ⟨H3,I3,q3⟩
def sI(r r':R2)(ta tb tc:TE):TE:=fun σ H Q=>ta σ H fun x H1=>tb σ H1 fun y H2=>r x y H2 fun z H3=>∃k,z=.bl k /\
 (if k=true then tc σ H3 fun w' H4=>r' y w' H4 Q else Q (.bl false) H3)
def Aw(ho:OpR X (compareOp op) r)(ho':OpR X (compareOp op') r')(ha:PE X a ta)(hb:PE X b tb)(hc:PE X c tc)
  (hm:lastMarks [op,op'] [b,c]=false:=by with_unfolding_all rfl):PE X (.Compare a [op,op'] [b,c] pos) (sI r r' ta tb tc):=by
 intro ρ s σ H Q I h;refine Compare_chain (thn (ha ρ s σ H _ I h) fun v s1 ⟨x,H1,I1,r1,q1⟩=>chain_link (thn (hb ρ s1 σ H1 _ I1 q1) fun u s2 ⟨y,H2,I2,r2,q2⟩=>
  thn (ho ρ s2 σ H2 x y v u _ I2 r1 r2 q2) fun d s3 ⟨z,H3,I3,r3,k,e,q3⟩=>?_)) hm
 subst e;cases r3;refine zbA ?_;cases k with
 |false=>exact ite_ff ⟨.bl false,H3,I3,rfl,q3⟩
 |true=>exact ite_tt (chain_last (thn (hc ρ s3 σ H3 _ I3 q3) fun w' s4 ⟨z',H4,I4,r4,q4⟩=>ho' ρ s4 σ H4 y z' u w' Q I4 r2 r4 q4))
def Ap(ho:OpR X (compareOp op) r)(ho':OpR X (compareOp op') r')(ha:PE X a ta)(hb:PE X b tb)(hc:PE X c tc)
  (hm:lastMarks [op,op'] [b,c]=false:=by with_unfolding_all rfl):PT X (.Compare a [op,op'] [b,c] pos) (Ee (sI r r' ta tb tc)):=by
 intro ρ s σ H Q I h;refine isTrue_chain (thn (ha ρ s σ H _ I h) fun v s1 ⟨x,H1,I1,r1,q1⟩=>test_link (thn (hb ρ s1 σ H1 _ I1 q1) fun u s2 ⟨y,H2,I2,r2,q2⟩=>
  thn (ho ρ s2 σ H2 x y v u _ I2 r1 r2 q2) fun d s3 ⟨z,H3,I3,r3,k,e,q3⟩=>?_)) hm
 subst e;cases r3;refine zbA ?_;cases k with
 |false=>
  obtain⟨k',e',q'⟩:=q3;cases e';exact ite_ff ⟨H3,I3,q'⟩
 |true=>
  refine ite_tt (test_last (thn (hc ρ s3 σ H3 _ I3 q3) fun w' s4 ⟨z',H4,I4,r4,q4⟩=>thn (ho' ρ s4 σ H4 y z' u w' _ I4 r2 r4 q4) fun d' s5 ⟨z2,H5,I5,r5,k2,e2,q5⟩=>?_));subst e2;cases r5;exact zbA ⟨H5,I5,q5⟩
def Nx(K:zbY)(x:V)(H:Hp)(k:Bool):Prop:=
 match x with
 |.non=>k=false
 |.bl b=>k=b
 |.int i=>k=(i != 0)
 |.str y=>y.length<=sizeLine/\k=((y.length:Int) != 0)
 |.byt y=>y.size<=sizeLine/\k=((y.size:Int) != 0)
 |.ref p=>(∃xs,SqL K H p xs/\k=!xs.isEmpty)\/(∃xs,SqT K H p xs/\k=!xs.isEmpty)\/∃kvs,H p=some (.dK kvs)/\k=!kvs.isEmpty
 |_=>False
def kc:(sizeLine:Nat)<2 ^ 63:=by rw[sizeLine_eq];decide
def wU:OpR X (binaryOp .Add) (fun x y H Q=>∃i j,x=.str i/\y=.str j/\i.length+j.length<=sizeLine/\Q (.str (i++j)) H):=by
 intro ρ s σ H x y v u Q I rx ry h;obtain⟨i,j,rfl,rfl,hz,q⟩:=h;obtain⟨t,rfl⟩:=rx;obtain⟨t',rfl⟩:=ry;exact add_str (fun t' tk=>⟨.str (i++j),H,I.tok _,⟨_,rfl⟩,q⟩) hz
def dB{x:V}(r:Vals [x] us):∃u,us=[u]/\RelV x u:=by
 cases r with
 |cons r1 r2=>cases r2;exact⟨_,rfl,r1⟩
def wB{x:V}(r:Vals [x,y] us):∃u w',us=[u,w']/\RelV x u/\RelV y w':=by
 cases r with
 |cons r1 r2=>
  cases r2 with
  |cons r3 r4=>cases r4;exact⟨_,_,rfl,r1,r3⟩
def call_abs:CallR X (.builtin "abs") (fun xs H Q=>∃i,xs=[.int i]/\Q (.int (if i<0 then -i else i)) H):=by
 intro ρ s σ H xs us Q I r h;obtain⟨i,rfl,q⟩:=h;obtain⟨u,rfl,t,rfl⟩:=dB r;exact call_abs_int fun u tk=>⟨.int (if i<0 then -i else i),H,I.tok _,⟨_,rfl⟩,q⟩
def zN(hc:X.calm=true):CallR X (.builtin "max") (fun xs H Q=>∃i j,xs=[.int i,.int j]/\Q (.int (if j>i then j else i)) H):=by
 intro ρ s σ H xs us Q I r h;obtain⟨i,j,rfl,q⟩:=h;obtain⟨u,w',rfl,⟨t,rfl⟩,⟨t',rfl⟩⟩:=wB r;refine max_two_ints (I.ok.hd hc) fun h' tk k=>⟨_,H,I.kept k,?_,q⟩;by_cases hj:j>i
 ·rw[if_pos hj,if_pos hj];exact⟨_,rfl⟩
 ·rw[if_neg hj,if_neg hj];exact⟨_,rfl⟩
def call_int1:CallR X (.type "int") (fun xs H Q=>(∃i,xs=[.int i]/\Q (.int i) H)\/∃k,xs=[.bl k]/\Q (.int (if k then 1 else 0)) H):=by
 intro ρ s σ H xs us Q I r h;rcases h with⟨i,rfl,q⟩|⟨k,rfl,q⟩
 ·obtain⟨u,rfl,t,rfl⟩:=dB r;exact call_int_int ⟨.int i,H,I,⟨_,rfl⟩,q⟩
 ·obtain⟨u,rfl,r1⟩:=dB r;cases r1;exact call_int_bool ⟨.int (if k then 1 else 0),H,I.tok _,⟨_,rfl⟩,q⟩
def LD(K:zbY)(x:V)(H:Hp)(n:Nat):Prop:=
 match x with
 |.str y=>y.length<=sizeLine/\n=y.length
 |.byt y=>y.size<=sizeLine/\n=y.size
 |.ref p=>(∃xs,SqL K H p xs/\n=xs.length)\/∃xs,SqT K H p xs/\n=xs.length
 |_=>False
def Bu:CallR X (.builtin "len") (fun xs H Q=>∃x n,xs=[x]/\LD X.K x H n/\Q (.int n) H):=by
 intro ρ s σ H xs us Q I r h;obtain⟨x,n,rfl,e,q⟩:=h;obtain⟨u,rfl,rx⟩:=dB r;have hl:=kc;have hs:sizeLine=16777216:=sizeLine_eq;cases x with
 |str y=>
  obtain⟨t,rfl⟩:=rx;obtain⟨hy,e'⟩:y.length<=sizeLine/\n=y.length:=e;subst e';exact len_str (by omega) ⟨.int _,H,I.tok _,⟨_,rfl⟩,q⟩
 |byt y=>
  obtain⟨t,rfl⟩:=rx;obtain⟨hy,e'⟩:y.size<=sizeLine/\n=y.size:=e;subst e';exact PySem.W.len_bytes (by omega) ⟨.int _,H,I.tok _,⟨_,rfl⟩,q⟩
 |ref p=>
  cases rx;have e':(∃xs,SqL X.K H p xs/\n=xs.length)\/∃xs,SqT X.K H p xs/\n=xs.length:=e;rcases e' with⟨xs,hx,e'⟩|⟨xs,hx,e'⟩
  ·subst e';obtain⟨its,r',pl,hz⟩:=I.list hx;have ξ:=r'.length;exact Calls.call_len_list pl.isList (by simp only[zai];omega) ⟨.int xs.length,H,I.tok _,⟨_,by simp only[zai];rw[ξ]⟩,q⟩
  ·subst e';obtain⟨its,r',pl,hz⟩:=I.tuple hx;have ξ:=r'.length;exact len_tuple pl (by simp only[zai];omega) ⟨.int xs.length,H,I.tok _,⟨_,by simp only[zai];rw[ξ]⟩,q⟩
 |_=>exact(show False from e).elim
end
structure ObjM(h:Heap)(x dx C:Addr)(mA:Str->Option Value):Prop where
 obj:h.get? x=some (PySem.W.instObj C dx)
 ns:h.Ns1 dx mA
 ne:dx≠x
def yJ(n:h.Ns1 dx mA):∃od,h.get? dx=some od/\∀name,PySem.W.lookIn name od=some (mA name):=by
 obtain⟨o,es,ep,ho,hd,hk,_,hm⟩:=n;refine⟨o,ho,fun name=>?_⟩;have e:=hm name;unfold nsFind findBy at e;rw[<-Array.find?_toList]at e;unfold PySem.W.lookIn;rw[hd]
 dsimp only
 split
 ·rename_i y q;rw[q]at e;exact congrArg some e
 ·rename_i q;rw[q]at e;have a:es.toList.any (·.refKey)=false:=by
   rw[List.any_eq_false];intro y hy;obtain⟨z,t,hkey⟩:=hk y (Array.mem_toList_iff.mp hy);simp[DictEntry.refKey,hkey]
  have a':¬es.toList.any (·.refKey)=true:=by rw[a];exact zbn
  rw[if_neg a'];exact congrArg some e
def ObjM.look{x:Addr}(I:ObjM h x dx C mA):∃od,PySem.W.InstAt h x (PySem.W.instObj C dx) C (some od)/\∀name,PySem.W.lookIn name od=some (mA name):=
 let⟨od,ho,hl⟩:=yJ I.ns
 ⟨od,⟨I.obj,rfl,rfl,ho⟩,hl⟩
def RelO.some_of{o:Option Value}(r:RelO (some v) o):∃u,o=some u/\RelV v u:=by
 cases o with
 |none=>exact(show False from r).elim
 |some u=>exact⟨u,rfl,r⟩
section
variable{fs fs':List (Str×V)}
def FD(hok:HOk P w H h)(e:H a=some (.ins C dx fs)):∃mA,ObjM h a dx C mA/\(∀f,RelO (fs.lookup f) (mA f))/\PySem.Within mA (fs.map (·.1))/\fs.length<=1000/\H dx=some (.own a):=by
 obtain⟨d,z,ne,ob,mA,n,r,q⟩:=(show ObjOk P w H h a (.ins C dx fs)from hok a _ e);exact⟨mA,⟨ob,n,ne⟩,r,q,z,d⟩
end
structure Cls(K:zbY)(C:Addr):Prop where
 pg:PySem.W.plainGet K C Str.empty=true
 hd:PySem.W.hasDictIn K C=true
 po:PySem.W.plainOver K C=true
 sa:PySem.W.findIn K (.ref C) "__setattr__"=some (some (.builtin "object.__setattr__"))
def Cls.get(c:Cls K C)(f:Str):PySem.W.plainGet K C f=true:=c.pg
section
variable{c:Value}{b:Bool}
inductive TyOf(K:zbY)(H:Hp):V->Value->Prop where
 |non:TyOf K H .non (.type "NoneType")
 |bl (x:Bool):TyOf K H (.bl x) (.type "bool")
 |int (i:Int):TyOf K H (.int i) (.type "int")
 |str (x:Str):TyOf K H (.str x) (.type "str")
 |flt (x:UInt64):TyOf K H (.flt x) (.type "float")
 |lst {a:Addr} {xs:List V} (e:H a=some (.lst xs)):TyOf K H (.ref a) (.type "list")
 |frz {a:Addr} {o:Obj} {xs:List V} (e:H a=some (.frz o (.lst xs))):TyOf K H (.ref a) (.type "list")
 |tup {a:Addr} {xs:List V} (e:H a=some (.tup xs)):TyOf K H (.ref a) (.type "tuple")
 |dK {a:Addr} {kvs:List (Key×V)} (e:Rd H a (.dK kvs)):TyOf K H (.ref a) (.type "dict")
 |dT {a:Addr} {kvs:List (List Key×V)} (e:H a=some (.dT kvs)):TyOf K H (.ref a) (.type "dict")
 |ins {a C dx:Addr} {fs:List (Str×V)} (e:H a=some (.ins C dx fs)) (cl:Cls K C) (ha:PySem.W.findIn K (.ref C) "__class__"=some (some (.builtin "object.__class__")))
   (hn:PySem.W.specialIn K (.builtin "object.__class__") "__get__"=some (some (.builtin "getset_descriptor.__get__"))) (htk:PySem.W.takesIn K (.builtin "object.__class__")=some true)
   (hm:PySem.W.mroIn K C (.type "object")=some true):TyOf K H (.ref a) (.ref C)
def yW{x:V}{t:Value}(I:Inv X ρ σ H s)(rx:RelV x u)(ty:TyOf X.K H x t)(e:PySem.W.kitOne X.K t c=some b)(h:∀tk,Q (.bool b) { s with toks:=tk }):
  wpAny (model X.prog X.w) A (call (.builtin "isinstance") [u,c]) Q E s:=by
 cases ty with
 |non=>cases(show u=Value.none from rx);exact PySem.W.kia_one PySem.W.kitx_none I.kIn True.intro e (fun z=>nomatch z) h
 |bl y=>cases(show u=Value.bool y from rx);exact PySem.W.kia_one PySem.W.kitx_bool I.kIn True.intro e (fun z=>nomatch z) h
 |int i=>obtain⟨t,q⟩:=(show ∃t,u=Value.int i t from rx);cases q;exact PySem.W.kia_one PySem.W.kitx_int I.kIn True.intro e (fun z=>nomatch z) h
 |str y=>obtain⟨t,q⟩:=(show ∃t,u=Value.str y t from rx);cases q;exact PySem.W.kia_one PySem.W.kitx_str I.kIn True.intro e (fun z=>nomatch z) h
 |flt y=>obtain⟨t,q⟩:=(show ∃t,u=Value.float y t from rx);cases q;exact PySem.W.kia_one PySem.W.kitx_float I.kIn True.intro e (fun z=>nomatch z) h
 |@lst a xs ea=>
  cases(show u=Value.ref a from rx);obtain⟨_,_,n,_,h1⟩:=(show ObjOk X.prog X.w H s.heap a (.lst xs)from I.hok a _ ea);exact PySem.W.kia_one PySem.W.kitx_list I.kIn ⟨_,h1,rfl⟩ e (fun z=>nomatch z) h
 |@frz a ob xs ea=>
  cases(show u=Value.ref a from rx);obtain⟨_,_,_,n,_,h1⟩:=(show ObjOk X.prog X.w H s.heap a (.frz ob (.lst xs))from I.hok a _ ea);exact PySem.W.kia_one PySem.W.kitx_list I.kIn ⟨_,h1,rfl⟩ e (fun z=>nomatch z) h
 |@tup a xs ea=>
  cases(show u=Value.ref a from rx);obtain⟨_,_,_,p⟩:=(show ObjOk X.prog X.w H s.heap a (.tup xs)from I.hok a _ ea);obtain⟨o,h1,h2,_⟩:=p;exact PySem.W.kia_one PySem.W.kitx_tuple I.kIn ⟨o,h1,h2⟩ e (fun z=>nomatch z) h
 |@dK a kvs ea=>
  cases(show u=Value.ref a from rx);obtain⟨_,_,vs,_,p⟩:=(show ObjOk X.prog X.w H s.heap a (.dK kvs)from ea.ok I.hok);obtain⟨o,es,ep,h1,h2,_⟩:=p;exact PySem.W.kia_one PySem.W.kitx_dict I.kIn ⟨o,h1,h2.1⟩ e (fun z=>nomatch z) h
 |@dT a kvs ea=>
  cases(show u=Value.ref a from rx);obtain⟨_,_,xs,_,o,es,ep,h1,h2,_⟩:=(show ObjOk X.prog X.w H s.heap a (.dT kvs)from I.hok a _ ea);exact PySem.W.kia_one PySem.W.kitx_dict I.kIn ⟨o,h1,h2.1⟩ e (fun z=>nomatch z) h
 |@ins a C dx fs ea cl ha hn htk hm=>
  cases(show u=Value.ref a from rx);obtain⟨mA,O,_⟩:=FD I.hok ea;obtain⟨od,J,_⟩:=O.look;exact PySem.W.kia_one (PySem.W.kitx_own (cl.get _) cl.hd ha hn htk hm) I.kIn J e (fun z=>nomatch z) h
end
structure Room(k:Nat)(A:Around):Prop where
 hd:A.handled=none
 dp:A.depth+3*k+5<recursionLimit
 un:A.units+16*k+200<cLine
 gd:A.guards=some []
def Room.mono(r:Room k A)(h:j<=k):Room j A:=⟨r.hd,by have:=r.dp;omega,by have:=r.un;omega,r.gd⟩
def Room.deeper(r:Room (k+1) A)(env:Env):Room k (A.deeper env):=
 ⟨r.hd,by have:=r.dp;show A.depth+1+3*k+5<_;omega,by have:=r.un;show A.units+3+16*k+200<_;omega,r.gd⟩
def Room.depth(r:Room k A):A.depth<recursionLimit:=by have:=r.dp;omega
def Room.units(r:Room k A):A.units+64<cLine:=by have:=r.un;omega
def Ak:TA:=fun _ H Q=>Q [] H
def sg(ta:TE)(tr:TA):TA:=fun σ H Q=>ta σ H fun x H1=>tr σ H1 fun xs H2=>Q (x::xs) H2
section
variable{t:TA} 
def pa_nil:PA X [] Ak:=fun _ _ _ _ H Q I h=>Calls.spliced_nil ⟨[],H,I,.nil,h⟩
def j8(ha:PE X e te)(hr:PA X es t)(hs:starEach (e::es) X.env=(false,eval e X.env)::starEach es X.env:=by rfl):PA X (e::es) (sg te t):=by
 intro pos ρ s σ H Q I h;rw[hs];show wpAny _ _ (spliced ((false,eval e X.env)::backTo pos (starEach es X.env))) _ _ s;refine Calls.spliced_cons (thn (ha ρ s σ H _ I h) fun u s1 ⟨x,H1,I1,r1,q1⟩=>?_);exact thn (hr pos ρ s1 σ H1 _ I1 q1) fun us s2 ⟨xs,H2,I2,r2,q2⟩=>⟨x::xs,H2,I2,.cons r1 r2,q2⟩
def IU(t:TA):TE:=fun σ H Q=>t σ H fun xs H1=>xs.length<=sizeLine/\∀p,H1 p=none->Q (.ref p) (upd H1 p (.tup xs))
def IZ(t:TA):TE:=fun σ H Q=>t σ H fun xs H1=>xs.length<=sizeLine/\∀p,H1 p=none->Q (.ref p) (upd H1 p (.lst xs))
def JH{x1}(h:PA X es t):PE X (.Tuple es x1 pos) (IU t):=by
 intro ρ s σ H Q I hq;refine wpAny_Tuple_spliced (thn (h pos ρ s σ H _ I hq) fun us s1 ⟨xs,H1,I1,r,z,q⟩=>⟨by rw[<-r.length];exact z,?_⟩);have hf:H1 s1.heap.objs.size=none:=I1.hok.fresh (zav _);refine⟨.ref s1.heap.objs.size,upd H1 s1.heap.objs.size (.tup xs),I1.laid (t':=s1.toks) (fun b u e=>zaf _ e) (zav _) ?_,rfl,q _ hf⟩;exact⟨z,us,r,⟨_,zan _ rfl,rfl,_,rfl,rfl⟩⟩
def JK(h:PA X es t):PE X (.List es pos) (IZ t):=by
 intro ρ s σ H Q I hq;refine wpAny_List_spliced (thn (h pos ρ s σ H _ I hq) fun us s1 ⟨xs,H1,I1,r,z,q⟩=>⟨by rw[<-r.length];exact z,?_⟩);have hf:H1 s1.heap.objs.size=none:=I1.hok.fresh (zav _);refine⟨.ref s1.heap.objs.size,upd H1 s1.heap.objs.size (.lst xs),I1.laid (t':=s1.toks) (fun b u e=>zaf _ e) (zav _) ?_,rfl,q _ hf⟩;exact⟨z,us,0,r,zan _ rfl⟩
end
abbrev Sp:=List V->Hp->VK->XK->Prop
variable{sp:Sp}
abbrev CXT:=List Env->Hp->Shared->XK->Value->Shared->Prop
variable{CX:CXT}
structure Env0(P:Program)(w:World)(K:zbY)(mg:Str->Option Value)(base:Heap)(A:Around)(outer:List Env)(s:Shared)(H:Hp):Prop where
 frames:A.frames=some outer
 mod:Mod K mg base
 bs:∀b o,base.get? b=some o->s.heap.get? b=some o/\H b=none
 bsz:base.objs.size<=s.heap.objs.size
 funs:s.heap.FunFrames base outer
 frf:∀b∈frs outer,H b=none
 hok:HOk P w H s.heap
 bare:AllBare s.gens
def CE(outer:List Env)(P:Program)(w:World)(H:Hp)(s:Shared)(Q:VK)(u:Value)(s':Shared):Prop:=
 ∃v H',s'.os=s.os/\AllBare s'.gens/\Un (frs outer) [] H H' s.heap s'.heap/\HOk P w H' s'.heap/\RelV v u/\Q v H'
def CR(CX:CXT)(outer:List Env)(P:Program)(w:World)(H:Hp)(s:Shared)(Q:VK)(E:XK)(r:Result)(s':Shared):Prop:=
 match r with
 |.ok (.ret u)=>CE outer P w H s Q u s'
 |.ok _=>False
 |.error e=>CX outer H s E e s'
structure FnOk(P:Program)(w:World)(K:zbY)(mg:Str->Option Value)(base:Heap)(CX:CXT)(k:Nat)(f:Addr)(fd:FuncData)(ps:List Str)(sp:Sp):Prop where
 len:∀vs H Q E,sp vs H Q E->vs.length=ps.length
 run:∀(A:Around) (outer:List Env) (s:Shared) (H:Hp) (args:Args) (us:List Value) (vs:List V) (Q:VK) (E:XK),Room k A->Env0 P w K mg base A outer s H->BindsTo s fd args (ps.zip us)->Vals vs us->sp vs H Q E ->
  codeAny (model P w) A (.call (.ref f) args) (CR CX outer P w H s Q E) s
def FnOk.mono{P:Program}{w:World}{K:zbY}{mg:Str->Option Value}{base:Heap}{CX:CXT}{j k:Nat}{f:Addr}{fd:FuncData}{ps:List Str}{sp:Sp}(F:FnOk P w K mg base CX j f fd ps sp)(h:j<=k):
  FnOk P w K mg base CX k f fd ps sp:=⟨F.len,fun A outer s H args us vs Q E hr=>F.run A outer s H args us vs Q E (hr.mono h)⟩
def FnOk.imp{base:Heap}{sp':Sp}(F:FnOk P w K mg base CX k f fd ps sp)
  (h:∀vs H Q E,sp' vs H Q E->sp vs H Q E):FnOk P w K mg base CX k f fd ps sp':=
 ⟨fun vs H Q E q=>F.len vs H Q E (h _ _ _ _ q),fun A outer s H args us vs Q E hr he hb hv hs=>F.run A outer s H args us vs Q E hr he hb hv (h _ _ _ _ hs)⟩
def Inv.env0(I:Inv X ρ σ H s):Env0 X.prog X.w X.K X.mg X.base X.A X.stack s H:=
 ⟨I.ok.frames,I.ok.mod,I.bs,zau I.ok.bsz I.sz,I.stack,I.stkFree,I.hok,I.bare⟩
def Inv.after{Q:VK}(I:Inv X ρ σ H s)(h:CE X.stack X.prog X.w H s Q u s'):EP X ρ σ Q u s':=by
 obtain⟨v,H',os,bare,un,hok,r,q⟩:=h;obtain⟨hh,g,d,t,os'⟩:=s';obtain rfl:os'=s.os:=os;exact⟨v,H',I.call (h':=hh) (g':=g) (d':=d) (t':=t) (ch:=[]) un hok bare (fun b z=>absurd z (by simp)),r,q⟩
def oT(sp:Sp)(dvs:List V)(E:XK)(t:TA):TE:=fun σ H Q=>t σ H fun vs H1=>sp (vs++dvs) H1 Q E
def Binds(K:zbY)(fd:FuncData)(ps:List Str)(ds:List Value):Prop:=
 ∀(s:Shared) (us:List Value),K.In s.heap->(us++ds).length=ps.length->BindsTo s fd ⟨us,[]⟩ (ps.zip (us++ds))
def Binds.all(h:∀us:List Value,us.length=ps.length->bindArgs fd ⟨us,[]⟩=pure (ps.zip us)):Binds K fd ps []:=fun s us _ hl=>by
 rw[zbs]at hl ⊢;exact .of_eq (h us hl)
def uP(CX:CXT)(X:Cx)(E:XK):Prop:=∀(ρ:List (Addr×Obj)) (σ:St) (H:Hp) (s:Shared) (e:Value) (s':Shared),Inv X ρ σ H s->CX X.stack H s E e s'->X.xe e s'
section
variable{dvs:List V}{ds:List Value}{E:XK}{m:Str}{μ:Pos}{o:Expr}{t:TA}
def Jm{Q:VK}(F:FnOk X.prog X.w X.K X.mg X.base CX k f fd ps sp)(hr:Room k X.A)(hb:Binds X.K fd ps ds)(hd:Vals dvs ds)(hx:uP CX X E)
  (I:Inv X ρ σ H s) (r:Vals vs us) (h:sp (vs++dvs) H Q E):wpAny (model X.prog X.w) X.A (call (.ref f) us) (EP X ρ σ Q) X.xe s:=by
 have r2:Vals (vs++dvs) (us++ds):=r.append hd;have hl:(us++ds).length=ps.length:=by rw[<-r2.length];exact F.len _ _ _ _ h
 refine wpAny_call (codeAny_mono (F.run X.A X.stack s H ⟨us,[]⟩ (us++ds) (vs++dvs) Q E hr I.env0 (hb s us I.kIn hl) r2 h) fun r s' hq=>?_);cases r with
 |error e=>exact hx ρ σ H s e s' I hq
 |ok fl=>
  cases fl with
  |ret u=>exact I.after hq
  |next=>exact False.elim hq
  |brk=>exact False.elim hq
  |cont=>exact False.elim hq
def Fh(F:FnOk X.prog X.w X.K X.mg X.base CX k f fd ps sp)(hr:Room k X.A)(hg:Gl X x)(hm:X.mg x=some (.ref f))(hk:PySem.W.keepIn X.K (.ref f)=true)(hb:Binds X.K fd ps ds)(hd:Vals dvs ds)(hx:uP CX X E)
  (ha:PA X (e::es) t) (hdb:(x==("__debug__":Str))=false:=by decide) (he:starEach (e::es) X.env=(false,eval e X.env)::starEach es X.env:=by rfl) (hpl:(backTo pos (starEach es X.env)).any (·.1)=false:=by rfl):
  PE X (.Call (.Name x p) (e::es) [] pos) (oT sp dvs E t):=by
 intro ρ s σ H Q I h;refine wpAny_Call_Name_kw (Fy I hg hm ?_ hdb);refine PySem.W.callWith_K (h₀:=X.base) I.ok.mod.kin hk (thn (ha pos ρ s σ H _ I h) fun us s1 ⟨vs,H1,I1,r,q⟩=>⟨I1.kIn,?_⟩) he hpl;exact Jm F hr hb hd hx I1 r q
structure Mk(K:zbY)(C f:Addr):Prop where
 makes:PySem.W.makesIn K C=true
 init:PySem.W.findIn K (.ref C) "__init__"=some (some (.ref f))
 fn:PySem.W.isFn K (.ref f)=true
 kp:PySem.W.keepIn K (.ref C)=true
end
structure FnScope(N P:List Str)(sc:Scope):Prop where
 kind:sc.kind=.function
 co:sc.isCoroutine=false
 gen:sc.isGenerator=false
 nd:N.Nodup
 pre:N.take P.length=P
 par:∀x∈P,sc.names.lookup x=some .local\/sc.names.lookup x=some .cell
 nofree:∀y∈sc.names,y.2≠.free
theorem rC{kindOf:Str->Option NameKind}{x:Str}:∀{binds:List (Str×Value)} {m:Str->Option Value},(∀v,(x,v)∉binds)->bindL kindOf binds m x=m x
 |[],_,_=>rfl
 | (n,v)::r,m,h=>by
  unfold bindL;rw[rC fun w hw=>h w (zaj _ hw)];split
  ·have:x≠n:=by rintro rfl;exact h v zaq
   simp[this]
  ·rfl
theorem rE{kindOf:Str->Option NameKind}{x:Str}:∀{binds:List (Str×Value)} {m:Str->Option Value},(∀v,(x,v)∉binds)->bindC kindOf binds m x=m x
 |[],_,_=>rfl
 | (n,v)::r,m,h=>by
  unfold bindC;rw[rE fun w hw=>h w (zaj _ hw)];split
  ·rfl
  ·have:x≠n:=by rintro rfl;exact h v zaq
   simp[this]
theorem rD{kindOf:Str->Option NameKind}{x:Str}{v:Value}:∀{P:List Str} {vs:List Value} {i:Nat} {m:Str->Option Value},P.Nodup->P[i]?=some x->vs[i]?=some v->kindOf x=some .local ->
  bindL kindOf (P.zip vs) m x=some v
 |[],_,_,_,_,h,_,_=>by simp at h
 |_::_,[],_,_,_,_,h,_=>by simp at h
 |p::P,w::vs,0,m,nd,h1,h2,hk=>by
  simp at h1 h2;subst h1;subst h2;show bindL kindOf ((p,w)::P.zip vs) m p=_;unfold bindL;rw[rC fun v hv=>(zbc.mp nd).1 (List.of_mem_zip hv).1,if_pos hk];simp
 |p::P,w::vs,i+1,m,nd,h1,h2,hk=>by
  show bindL kindOf ((p,w)::P.zip vs) m x=_;unfold bindL;exact rD (i:=i) (zbc.mp nd).2 (by simpa using h1) (by simpa using h2) hk
theorem rF{kindOf:Str->Option NameKind}{x:Str}{v:Value}:∀{P:List Str} {vs:List Value} {i:Nat} {m:Str->Option Value},P.Nodup->P[i]?=some x->vs[i]?=some v->kindOf x≠some .local ->
  bindC kindOf (P.zip vs) m x=some v
 |[],_,_,_,_,h,_,_=>by simp at h
 |_::_,[],_,_,_,_,h,_=>by simp at h
 |p::P,w::vs,0,m,nd,h1,h2,hk=>by
  simp at h1 h2;subst h1;subst h2;show bindC kindOf ((p,w)::P.zip vs) m p=_;unfold bindC;rw[rE fun v hv=>(zbc.mp nd).1 (List.of_mem_zip hv).1,if_neg hk];simp
 |p::P,w::vs,i+1,m,nd,h1,h2,hk=>by
  show bindC kindOf ((p,w)::P.zip vs) m x=_;unfold bindC;exact rF (i:=i) (zbc.mp nd).2 (by simpa using h1) (by simpa using h2) hk
def start(N:List Str)(vs:List V):St:=vs.map some++List.replicate (N.length-vs.length) none
def mz(CX:CXT)(P:Program)(w:World)(K:zbY)(mg:Str->Option Value)(base:Heap)(N:List Str)(qual:Str)(scope:Scope)(f:Addr)(cd:Value)(A:Around)(outer:List Env)(s:Shared)(H:Hp)(E:XK):Cx where
 prog:=P
 w:=w
 K:=K
 mg:=mg
 base:=base
 A:=A.deeper (envOfC qual scope s.heap.objs.size f cd)
 N:=N
 s₀:=s
 H₀:=H
 env:=envOfC qual scope s.heap.objs.size f cd
 outer:=outer
 stack:=envOfC qual scope s.heap.objs.size f cd::outer
 ex:=[]
 calm:=true
 fn:=fun _=>true
 pn:=[]
 xe:=fun e s'=>wpAny (model P w) (A.deeper (envOfC qual scope s.heap.objs.size f cd)) (leaving (envOfC qual scope s.heap.objs.size f cd) e) (fun _ s''=>CX outer H s E e s'') (fun e' s''=>CX outer H s E e' s'') s'
def uH{sc:Scope}(h:sc.names.lookup x=some .cell):∃c,(cellsFrom n sc.names []).lookup x=some c:=by
 have q:=PySem.W.cellsFrom_some sc.names n [] (.inl h);exact Option.isSome_iff_exists.mp q
def yX{base:Heap}{cd:Value}{outer:List Env}{s1:Shared}{E:XK} 
  (S:FnScope N ps scope) (hd:A.handled=none) (e0:Env0 P w K mg base A outer s H) (hl:vs.length=ps.length) (r:Vals vs us)
  (x:InCallC s s.heap.objs.size (bindL (envOfC qual scope s.heap.objs.size f cd).kindOf (ps.zip us) fun _=>none) (cellsFrom (s.heap.objs.size+1) scope.names []) (bindC (envOfC qual scope s.heap.objs.size f cd).kindOf (ps.zip us) fun _=>none) s1):
  Inv (mz CX P w K mg base N qual scope f cd A outer s H E) [] (start N vs) H s1:=by
 have hpl:ps.length<=N.length:=by have:=congrArg List.length S.pre;rw[zaE]at this;omega
 obtain⟨h1,tk,rfl,hk⟩:=x.done;have noA:∀b:Addr,b∉(mz CX P w K mg base N qual scope f cd A outer s H E).ex:=fun b z=>absurd (show b∈([]:List Addr)from z) (by simp);refine⟨⟨e0.mod,S.kind,rfl,rfl,zav _,fun y z c h1 h2=>?_,fun y hy=>?_,fun y c _ h=>?_,fun _=>hd,Around.frames_deeper e0.frames,.inr ⟨rfl,rfl⟩,fun b z=>absurd z (noA b),e0.bs,e0.bsz,fun b _ _=>noA b,fun b z=>absurd z (noA b),e0.funs,e0.frf⟩,
  rfl,e0.bare,Un.kept hk,⟨_,x.toInCall.ns,fun i y v h1 h2 h3=>?_⟩,fun y c h=>⟨_,x.cell y c h⟩,e0.hok.fresh (zav _),fun y c h=>?_,fun p hp=>absurd (show p∈([]:List (Addr×Obj))from hp) (by simp),e0.hok.kept hk,?_⟩
 ·exact name_of_addr x.apart (zaU h1) (zaU h2)
 ·have hy:scope.names.lookup y=some .cell\/scope.names.lookup y=some .free:=hy;rcases hy with hy|hy
  ·exact uH hy
  ·exact absurd rfl (S.nofree _ (zaU hy))
 ·exact zaW (x.above y c (zaU h))
 ·have hi:i<vs.length:=by
   unfold start at h2;by_cases hi:i<vs.length
   ·exact hi
   ·rw[zbI (by simpa using hi)]at h2;rw[List.getElem?_replicate]at h2;split at h2<;>cases h2
  have ha:vs[i]?=some v:=by
   unfold start at h2;rw[zaS (by simpa using hi),zao]at h2;cases e:vs[i]? with
   |none=>rw[e]at h2;cases h2
   |some a=>rw[e]at h2;cases h2;rfl
  obtain⟨u,hu,rv⟩:=r.get ha;have hp:ps[i]?=some y:=by
   rw[<-S.pre,List.getElem?_take_of_lt (by omega)];exact h1
  have ndP:ps.Nodup:=by rw[<-S.pre];exact S.nd.sublist (List.take_sublist _ _)
  refine⟨u,rv,?_⟩;rcases S.par y (zaX hp)with k|k
  ·exact .inl ⟨k,rD ndP hp hu k⟩
  ·obtain⟨c,e⟩:=uH (n:=s.heap.objs.size+1) k;refine .inr ⟨.inl k,c,e,?_⟩;have q:=x.cell y c e;rw[rF ndP hp hu (by show scope.names.lookup y≠_;rw[k];decide)]at q;exact q
 ·exact e0.hok.fresh (zaW (x.above y c (zaU h)))
 ·unfold start;show _=N.length;rw[zae,zad,zaN];omega
def Mi{base:Heap}{name:Str}{params:Arguments}{dV kV doc pm cdv ct oc:Value}{an od:Option Addr}
  {osl:Array (Option Value)}  (lk:K.lookup f=some ⟨oc,od,.func (PySem.W.fnOf name qual params body scope dV kV doc pm an cdv ct),osl⟩) (hcd:PySem.W.codeIn K cdv qual=true) (S:FnScope N ps scope)
  (len:∀vs H Q E,sp vs H Q E->vs.length=ps.length)
  (hbody:∀(A:Around) (outer:List Env) (s:Shared) (H:Hp) (vs:List V) (Q:VK) (E:XK),Room k (A.deeper (envOfC qual scope s.heap.objs.size f cdv))->sp vs H Q E ->
   ∃t,PSs (mz CX P w K mg base N qual scope f cdv A outer s H E) body t/\t { nx:=fun _ H'=>Q .non H',rt:=Q } (start N vs) H):
  FnOk P w K mg base CX (k+1) f (PySem.W.fnOf name qual params body scope dV kV doc pm an cdv ct) ps sp:=by
 refine⟨len,fun A outer s H args us vs Q E hr e0 hb r hsp=>?_⟩;have hl:=len _ _ _ _ hsp;have KX:K.In s.heap:=e0.mod.kin.keeps fun b o e=>(e0.bs b o e).1;have lim:s.heap.NoLimit:=e0.mod.nolimit.keeps fun b o e=>(e0.bs b o e).1;have hkind:∀y∈ps.zip us,scope.names.lookup y.1=some .local\/(scope.names.lookup y.1=some .cell/\((cellsFrom (s.heap.objs.size+1) scope.names []).lookup y.1).isSome=true):=fun⟨n,v⟩ hy=>by
  rcases S.par n (List.of_mem_zip hy).1 with q|q
  ·exact .inl q
  ·exact .inr ⟨q,PySem.W.cellsFrom_some _ _ _ (.inl q)⟩
 refine codeAny_call_function hr.depth (KX _ _ lk) rfl S.co S.gen rfl (PySem.W.codeRec_of KX hcd) (hb _ _ _ _ ?_);refine wpAny_newFunctionEnv_cells S.kind hkind fun env he s1 x=>?_;subst he;refine⟨lim.keeps x.toInCall.keep,codeAny_func ?_⟩;obtain⟨t,ht,hq⟩:=hbody A outer s H vs Q E (hr.deeper _) hsp;have I:Inv (mz CX P w K mg base N qual scope f cdv A outer s H E) [] (start N vs) H s1:=yX S hr.hd e0 hl r x;refine wpAny_mono (ht [] s1 (start N vs) H _ I hq) (fun fl s' hs=>?_) fun e s' hs=>hs;have fin:∀{σ':St} {H':Hp} {v:V} {u:Value},Inv (mz CX P w K mg base N qual scope f cdv A outer s H E) [] σ' H' s'->RelV v u->Q v H'->CE outer P w H s Q u s':=
  fun {σ' H' v u} J rv q=>⟨v,H',J.os,J.bare,J.base,J.hok,rv,q⟩
 cases fl with
 |ret u=>
  obtain⟨v,σ',H',J,rv,q⟩:=hs;exact fin J rv q
 |next=>
  obtain⟨σ',H',J,q⟩:=hs;exact fin (v:=V.non) (u:=Value.none) J rfl q
 |brk=>
  obtain⟨_,_,_,q⟩:=hs;exact False.elim q
 |cont=>
  obtain⟨_,_,_,q⟩:=hs;exact False.elim q
section
variable{t:TA}{id T:String}{r:List V->Hp->VK->Prop}
def tCB(r:List V->Hp->VK->Prop)(t:TA):TE:=fun σ H Q=>t σ H fun vs H1=>r vs H1 Q
def tj(hc:CallR X (.builtin id) r)(hg:Gl X x)(hm:X.mg x=none)(hv:bootBuiltins x=some (.builtin id))(ha:PA X (e::es) t)(hn:x≠"__name__":=by decide)(hdb:(x==("__debug__":Str))=false:=by decide)
  (he:starEach (e::es) X.env=(false,eval e X.env)::starEach es X.env:=by rfl) (hpl:(backTo pos (starEach es X.env)).any (·.1)=false:=by rfl):PE X (.Call (.Name x p) (e::es) [] pos) (tCB r t):=by
 intro ρ s σ H Q I h;refine wpAny_Call_Name_kw (mj I hg hm hv ?_ hn hdb);exact PyProof.Rows.callWith_builtin1 (thn (ha pos ρ s σ H _ I h) fun us s1 ⟨vs,H1,I1,r1,q1⟩=>hc ρ s1 σ H1 vs us Q I1 r1 q1) he hpl
def yC(hc:CallR X (.type T) r)(hg:Gl X x)(hm:X.mg x=none)(hv:bootBuiltins x=some (.type T))(ha:PA X (e::es) t)(hn:x≠"__name__":=by decide)(hdb:(x==("__debug__":Str))=false:=by decide)
  (he:starEach (e::es) X.env=(false,eval e X.env)::starEach es X.env:=by rfl) (hpl:(backTo pos (starEach es X.env)).any (·.1)=false:=by rfl):PE X (.Call (.Name x p) (e::es) [] pos) (tCB r t):=by
 intro ρ s σ H Q I h;refine wpAny_Call_Name_kw (mj I hg hm hv ?_ hn hdb);exact PyProof.Rows.callWith_type1 (thn (ha pos ρ s σ H _ I h) fun us s1 ⟨vs,H1,I1,r1,q1⟩=>hc ρ s1 σ H1 vs us Q I1 r1 q1) he hpl
end
end L2
namespace HT
variable{t sl:Addr}{Q:Value->Shared->Prop}{vl vu:Value}{lo hi:Option Int}
open PySem PyProof.Rows
section
open PySem.SeqAt
open PySem.AutoSeq1 (wpAny_loadPart')
open PySem.MeetsSeq PySem.MeetsSeq2 PySem.MeetsSeq3
end
section
variable{prog:Program}{w:World}{A:Around}{E:Value->Shared->Prop}{s:Shared}
def cat_tup{b:Addr}{vs ws:List Value}(ht:IsTup s.heap t vs.toArray)(hb:IsTup s.heap b ws.toArray)(hv:vs≠[])
  (h1:ws=[]->Q (.ref t) s) (h2:ws≠[]->Q (.ref s.heap.objs.size) { s with heap:=s.heap.push { cls:=.type "tuple",data:=.seq (vs++ws).toArray } })
  (hsz:vs.length+ws.length<=sizeLine):wpAny (model prog w) A (binaryOp .Add (.ref t) (.ref b)) Q E s:=by
 obtain⟨⟨cls,dd,data,sl⟩,ho,hc,n,hd⟩:=id ht;obtain⟨⟨cls2,dd2,data2,sl2⟩,ho2,hc2,n2,hd2⟩:=id hb;simp only at hc hd hc2 hd2;subst hc hd hc2 hd2;have e:vs.toArray++ws.toArray=(vs++ws).toArray:=by simp
 by_cases hw:ws=[]
 ·exact concat_meets ⟨_,ho,rfl⟩ ⟨_,ho2,rfl⟩ noFill_tuple_add seq_tuple_add PySem.F.slot_tuple_add PySem.F.entry_tuple_add (PySem.F.args_tuple_add_2 _ _)
   (tuple_addW1 t b vs.toArray ws.toArray n n2 dd dd2 sl sl2 (by simpa using hv) (by simp[hw])) ⟨ho,ho2,h1 hw⟩
 ·refine concat_meets ⟨_,ho,rfl⟩ ⟨_,ho2,rfl⟩ noFill_tuple_add seq_tuple_add PySem.F.slot_tuple_add PySem.F.entry_tuple_add (PySem.F.args_tuple_add_2 _ _)
   (tuple_addW2 t b vs.toArray ws.toArray n n2 dd dd2 sl sl2 (by simpa using hv) (by simpa using hw) (by rw[zai,zai];exact hsz)) ⟨ho,ho2,?_⟩
  rw[e];exact h2 hw
def sIx(n d:Nat):Option Int->Nat
 |none=>d
 |some v=>if v<0 then(v+(n:Int)).toNat else min v.toNat n
def sIx_none(n d:Nat):sIx n d none=d:=rfl
def sIx_nat(n d k:Nat):sIx n d (some (k:Int))=min k n:=by
 show(if(k:Int)<0 then((k:Int)+(n:Int)).toNat else min (k:Int).toNat n)=min k n;rw[if_neg (by omega),zaL]
def yu(n d:Nat)(hd:d<=n)(o:Option Int):sIx n d o<=n:=by
 cases o with
 |none=>exact hd
 |some v=>
  show(if v<0 then(v+(n:Int)).toNat else min v.toNat n)<=n;by_cases hv:v<0
  ·rw[if_pos hv];omega
  ·rw[if_neg hv];exact Nat.min_le_right _ _
def wp(v:Int)(n d:Nat):(if v<0 then max (v+(n:Int)) 0 else min v (n:Int))=((sIx n d (some v):Nat):Int):=by
 show(if v<0 then max (v+(n:Int)) 0 else min v (n:Int))=(((if v<0 then(v+(n:Int)).toNat else min v.toNat n):Nat):Int);by_cases hv:v<0
 ·simp only[if_pos hv];omega
 ·simp only[if_neg hv];omega
def xI(lo hi:Option Int)(n:Nat):Builtin.Slice.sliceAdjust lo hi 1 (n:Int)=(((sIx n 0 lo:Nat):Int),((sIx n n hi:Nat):Int)):=by
 have h1:¬((1:Int)<0):=by omega
 unfold Builtin.Slice.sliceAdjust;simp only[h1,if_false];refine Prod.ext ?_ ?_
 ·cases lo with
  |none=>rfl
  |some v=>exact wp v n 0
 ·cases hi with
  |none=>rfl
  |some v=>exact wp v n n
def wR(i j:Nat):Builtin.Slice.slicePlaces (i:Int) (j:Int) 1=j-i:=by
 unfold Builtin.Slice.slicePlaces;have h1:(1:Int)>0:=by omega
 simp only[h1,if_true,Int.ediv_one];split<;>omega
def slicePart_{v:Value}{o:Option Int}{Q:Option Int->Shared->Prop}(p:IsPart v o)(h:Q o s):wpAny (model prog w) A (Builtin.Slice.slicePartIndex v) Q E s:=by
 cases p with
 |none=>exact slicePart_none h
 |int i t=>exact slicePart_int h
def i4{n:Nat}{Q:Int×Int×Nat->Shared->Prop}(hs:s.heap.IsSliceOf sl vl vu .none)(pl:IsPart vl lo)(pu:IsPart vu hi)
  (h:Q (((sIx n 0 lo:Nat):Int),1,sIx n n hi-sIx n 0 lo) s):wpAny (model prog w) A (Builtin.Slice.sliceApplied (.ref sl) (pure (n:Int))) Q E s:=by
 obtain⟨os,hos,hcs,hds⟩:=id hs;unfold Builtin.Slice.sliceApplied Builtin.Slice.sliceFields;refine zam (zam (wpAny_field hos hds (x:=vl) rfl (zam (wpAny_field hos hds (x:=vu) rfl (zam (wpAny_field hos hds (x:=.none) rfl (zaT ?_)))))));refine zam (slicePart_none ?_);show wpAny _ _ (if((1:Int)==0)=true then _ else _) _ _ s;rw[if_neg (by decide)];refine zam (slicePart_ pl (zam (slicePart_ pu (zam (zaT ?_)))));show wpAny _ _ (match Builtin.Slice.sliceAdjust lo hi 1 (n:Int)with | (lo,hi)=>pure (lo,(1:Int),Builtin.Slice.slicePlaces lo hi 1)) _ _ s;rw[xI lo hi n];show wpAny _ _ (pure (((sIx n 0 lo:Nat):Int),(1:Int),Builtin.Slice.slicePlaces ((sIx n 0 lo:Nat):Int) ((sIx n n hi:Nat):Int) 1)) _ _ s;rw[wR];exact zaT h
def At(xs:Array Value)(i k:Nat):((List.range k).filterMap fun(m:Nat)=>xs[((i:Int)+(m:Int)*1).toNat]?).toArray=((xs.toList.drop i).take k).toArray:=by
 have e:(fun(m:Nat)=>xs[((i:Int)+(m:Int)*1).toNat]?)=fun m=>xs[i+m]?:=by
  funext m
  have:((i:Int)+(m:Int)*1).toNat=i+m:=by omega
  rw[this]
 rw[e]
 have:=pick_run xs i k;rw[List.filterMap_map]at this;have e2:((fun x=>xs[x]?)∘fun x=>i+x)=fun m=>xs[i+m]?:=rfl;rw[e2]at this;rw[this]
def getItem_tuple_cut{items:Array Value}(ht:IsTup s.heap t items)(hs:s.heap.IsSliceOf sl vl vu .none)(pl:IsPart vl lo)(pu:IsPart vu hi)
  (hw:¬(sIx items.size 0 lo=0/\sIx items.size items.size hi=items.size))
  (h:Q (.ref s.heap.objs.size) { s with heap:=s.heap.push { cls:=.type "tuple",data:=.seq ((items.toList.drop (sIx items.size 0 lo)).take (sIx items.size items.size hi-sIx items.size 0 lo)).toArray } })
  (hsz:items.size<=sizeLine):wpAny (model prog w) A (getItem (.ref t) (.ref sl)) Q E s:=by
 have htake:sizeOk (.seq ((items.toList.drop (sIx items.size 0 lo)).take (sIx items.size items.size hi-sIx items.size 0 lo)).toArray):=by
  show((items.toList.drop (sIx items.size 0 lo)).take (sIx items.size items.size hi-sIx items.size 0 lo)).toArray.size<=sizeLine;rw[zai,zaE,zaF,zaY];omega
 have hj:sIx items.size items.size hi<=items.size:=yu _ _ (zav _) hi;obtain⟨os,hos,hcs,hds⟩:=id hs;have hTs:s.TypeIs (.ref sl) "slice":=⟨os,hos,hcs⟩;unfold getItem
 try with_reducible refine zbT ?_
 first|refine zam (zaT ?_)|skip
 refine zam (wpAny_sequenceKey ht.typeIs (by decide) ?_);refine zam (zbB (name:=Str.ofString "__getitem__") ht.typeIs PyProof.Rows.slot_tuple_getitem
  (wpAny_call_entry PyProof.Rows.slot_tuple_getitem ht.typeIs entry_tuple_getitem ?_ (args_tuple_getitem _ _)))
 show wpAny _ _ (Builtin.Tuple.tupleItemsOf (.ref t) >>= _) _ _ s;refine zam (tupleItemsOf_ ht ?_);refine zam (wpAny_typeOf hTs ?_);rw[if_pos (by decide)];refine zam (i4 hs pl pu ?_);have hno:¬((((sIx items.size 0 lo:Nat):Int)==0&&(1:Int)==1&&(sIx items.size items.size hi-sIx items.size 0 lo)==items.size)=true):=by
  intro q;rw[zbm,zbm]at q;have q1:((sIx items.size 0 lo:Nat):Int)=0:=eq_of_beq q.1.1;have q2:sIx items.size items.size hi-sIx items.size 0 lo=items.size:=eq_of_beq q.2;exact hw ⟨by omega,by omega⟩
 show wpAny _ _ (if(((sIx items.size 0 lo:Nat):Int)==0&&(1:Int)==1&&(sIx items.size items.size hi-sIx items.size 0 lo)==items.size)=true then _ else _) _ _ s;rw[if_neg hno,At]
 first
  |exact zam (m:=Builtin.Tuple.tupleExact _) (wpAny_newObj_type (zaT ⟨_,rfl,zaT h⟩) htake)
  |exact zam (m:=Builtin.Tuple.tupleExact _) (wpAny_newObj_type (zam (zaT (zaT ⟨_,rfl,zaT h⟩))) htake)
  |exact zam (zam (m:=Builtin.Tuple.tupleExact _) (wpAny_newObj_type (zaT (zaT ⟨_,rfl,zaT h⟩)) htake))
  |exact zam (zam (m:=Builtin.Tuple.tupleExact _) (wpAny_newObj_type (zaT ⟨_,rfl,zaT h⟩) htake))
end
end HT
namespace L2
variable{X:Cx}{e:Expr}{pos:Pos}{xs ys:List V}{us its its':List Value}{n t':Nat}{i:Int}{r:R2}{ρ:List (Addr×Obj)}{σ:St}{H:Hp}{s:Shared}{T:String}{x:V}
open PySem PySem.Spec PyProof.Rows
abbrev TO:=St->Hp->(Option Int->Hp->Prop)->Prop
def PO(X:Cx)(e:Option Expr)(t:TO):Prop:=
 ∀(ρ:List (Addr×Obj)) (s:Shared) (σ:St) (H:Hp) (Q:Option Int->Hp->Prop),Inv X ρ σ H s->t σ H Q ->
  wpAny (model X.prog X.w) X.A (evalPart e X.env) (fun u s'=>∃o H',Inv X ρ σ H' s'/\IsPart u o/\Q o H') X.xe s
def ER:TO:=fun _ H Q=>Q none H
def LI(t:TE):TO:=fun σ H Q=>t σ H fun x H1=>∃i,x=.int i/\Q (some i) H1
def xt{ns:List Int}:∀{us:List Value},Vals (ns.map V.int) us->IntsAre us ns:=by
 induction ns with
 |nil=>intro us r;rw[za0]at r;cases r;exact .nil
 |cons n ns ih=>
  intro us r;rw[zar]at r;cases r with
  |cons r1 r2=>
   obtain⟨t,e⟩:=r1;subst e;exact .cons n t (ih r2)
section
variable{te:TE}{lo hi:Option Expr}{tl th:TO}{p2:Pos}
def po_none:PO X none ER:=by
 intro ρ s σ H Q I h;rw[evalPart_none];exact zaT ⟨none,H,I,.none,h⟩
def Fb(h:PE X e te):PO X (some e) (LI te):=by
 intro ρ s σ H Q I hw;rw[evalPart_some];refine thn (h ρ s σ H _ I hw) ?_;rintro u s1 ⟨x,H1,I1,r1,q1⟩;obtain⟨i,rfl,q⟩:=q1;obtain⟨t,rfl⟩:=r1;exact⟨some i,H1,I1,.int i t,q⟩
def SlR(X:Cx)(r:V->Option Int->Option Int->Hp->VK->Prop):Prop:=
 ∀(ρ:List (Addr×Obj)) (s:Shared) (σ:St) (H:Hp) (x:V) (v vl vu:Value) (lo hi:Option Int) (sl:Addr) (Q:VK),Inv X ρ σ H s->RelV x v->s.heap.IsSliceOf sl vl vu .none->IsPart vl lo->IsPart vu hi->r x lo hi H Q ->
  ∃T id,typeLookup (.type T) "__getitem__"=pure (some (.builtin id))/\s.TypeIs v T/\wpAny (model X.prog X.w) X.A (getItem v (.ref sl)) (EP X ρ σ Q) X.xe s
def tSl(r:V->Option Int->Option Int->Hp->VK->Prop)(te:TE)(tl th:TO):TE:=fun σ H Q=>te σ H fun x H1=>tl σ H1 fun l H2=>th σ H2 fun u H3=>r x l u H3 Q
def Au{r:V->Option Int->Option Int->Hp->VK->Prop}(hr:SlR X r)(he:PE X e te)(hl:PO X lo tl)(hu:PO X hi th):PE X (.Subscript e (.Slice lo hi none p2) pos) (tSl r te tl th):=by
 intro ρ s σ H Q I h;refine Subscript_ (thn (he ρ s σ H _ I h) fun v s1 ⟨x,H1,I1,r1,q1⟩=>?_);refine wpAny_Slice (thn (hl ρ s1 σ H1 _ I1 q1) fun vl s2 ⟨l,H2,I2,pl,q2⟩=>thn (hu ρ s2 σ H2 _ I2 q2) fun vu s3 ⟨u,H3,I3,pu,q3⟩=>?_);rw[evalPart_none];refine zaT ?_;have I4:Inv X ρ σ H3 { s3 with heap:=s3.heap.push { cls:=.type "slice",data:=.fields #[vl,vu,.none] } }:=I3.kept (t':=s3.toks) fun b ob q=>zaf _ q;obtain⟨T,id,hT,ht,hg⟩:=hr ρ { s3 with heap:=s3.heap.push { cls:=.type "slice",data:=.fields #[vl,vu,.none] } } σ H3 x v vl vu l u s3.heap.objs.size Q I4 r1 (Heap.IsSliceOf.new ..) pl pu q3;show wpAny (model X.prog X.w) X.A (subscriptTail e (.Slice lo hi none p2) v (.ref s3.heap.objs.size)) (EP X ρ σ Q) X.xe { s3 with heap:=s3.heap.push { cls:=.type "slice",data:=.fields #[vl,vu,.none] } };exact tail_any (ops:=[.ref s3.heap.objs.size,v]) ht hT hg (by with_unfolding_all rfl)
def gh(xs:List V)(lo hi:Option Int):List V:=(xs.drop (HT.sIx xs.length 0 lo)).take (HT.sIx xs.length xs.length hi-HT.sIx xs.length 0 lo)
def nG(xs:List V)(lo hi:Option Int):(gh xs lo hi).length<=xs.length:=by
 unfold gh;rw[zaE,zaF];omega
def Jr(K:zbY):V->Option Int->Option Int->Hp->VK->Prop:=fun x lo hi H Q=>∃a xs,x=.ref a/\SqT K H a xs /\
 ¬(HT.sIx xs.length 0 lo=0/\HT.sIx xs.length xs.length hi=xs.length)/\∀p,H p=none->Q (.ref p) (upd H p (.tup (gh xs lo hi)))
def Ji:SlR X (Jr X.K):=by
 intro ρ s σ H x v vl vu lo hi sl Q I rx hs pl pu h;obtain⟨a,xs,rfl,hx,hw,q⟩:=h;cases rx;obtain⟨its,r,ht,hz⟩:=I.tuple hx;have ξ:its.toArray.size=xs.length:=by rw[zai];exact r.length.symm
 refine⟨"tuple",_,PyProof.Rows.slot_tuple_getitem.lookup,ht.typeIs,?_⟩;refine HT.getItem_tuple_cut ht hs pl pu (by rw[ξ];exact hw) ?_ (by rw[ξ];exact hz);rw[ξ];refine⟨.ref s.heap.objs.size,_,I.laid (t':=s.toks) (o:=.tup (gh xs lo hi)) (fun b ob q=>zaf _ q) (zav _) ?_,rfl,q _ (I.hok.fresh (zav _))⟩;exact⟨zau (nG xs lo hi) hz,_,(r.drop (HT.sIx xs.length 0 lo)).take (HT.sIx xs.length xs.length hi-HT.sIx xs.length 0 lo),IsTupN.new _ _⟩
def Ep(K:zbY):R2:=fun x y H Q=>∃a b xs ys,x=.ref a/\y=.ref b/\SqT K H a xs/\SqT K H b ys/\xs≠[]/\xs.length+ys.length<=sizeLine /\
 (ys=[]->Q (.ref a) H)/\(ys≠[]->∀p,H p=none->Q (.ref p) (upd H p (.tup (xs++ys))))
def Vals.nil_iff(r:Vals xs us):us=[]↔xs=[]:=by
 cases r with
 |nil=>simp
 |cons _ _=>simp
def Fj:OpR X (binaryOp .Add) (Ep X.K):=by
 intro ρ s σ H x y v u Q I rx ry h;obtain⟨a,b,xs,ys,rfl,rfl,ha,hb,hx,hz,q1,q2⟩:=h;cases rx;cases ry;obtain⟨its,r1,p1,_⟩:=I.tuple ha;obtain⟨ν,r2,p2,_⟩:=I.tuple hb;refine HT.cat_tup p1 p2 (fun z=>hx (r1.nil_iff.mp z)) (fun z=>⟨.ref a,H,I,rfl,q1 (r2.nil_iff.mp z)⟩) (fun z=>?_) (by rw[<-r1.length,<-r2.length];exact hz);refine⟨.ref s.heap.objs.size,_,I.laid (t':=s.toks) (o:=.tup (xs++ys)) (fun b ob q=>zaf _ q) (zav _) ?_,rfl,q2 (fun w=>z (r2.nil_iff.mpr w)) _ (I.hok.fresh (zav _))⟩;exact⟨by rw[zae];exact hz,_,r1.append r2,IsTupN.new _ _⟩
end
def ixN(n:Nat)(i:Int):Option Nat:=if 0<=i then(if i<n then some i.toNat else none)else if -(n:Int)<=i then some (i+n).toNat else none
def atI{α:Type}(xs:List α)(i:Int):Option α:=(ixN xs.length i).bind fun j=>xs[j]?
def v8{j:Nat}(h:ixN n i=some j):seqIndex? i n=some j/\j<n/\-(n:Int)<=i/\i<n:=by
 unfold ixN at h;by_cases h0:0<=i
 ·rw[if_pos h0]at h;by_cases h1:i<n
  ·rw[if_pos h1]at h;have e:i.toNat=j:=zat h;exact⟨by rw[seqIndex_of h0 h1,e],by omega,by omega,h1⟩
  ·rw[if_neg h1]at h;cases h
 ·rw[if_neg h0]at h;by_cases h1:-(n:Int)<=i
  ·rw[if_pos h1]at h;have e:(i+n).toNat=j:=zat h;exact⟨by rw[seqIndex_neg (by omega) h1,e],by omega,h1,by omega⟩
  ·rw[if_neg h1]at h;cases h
def qN{α:Type}{xs:List α}{v:α}(h:atI xs i=some v):∃j,seqIndex? i xs.length=some j/\xs[j]?=some v/\j<xs.length/\-(xs.length:Int)<=i/\i<xs.length:=by
 unfold atI at h;cases e:ixN xs.length i with
 |none=>rw[e]at h;cases h
 |some j=>
  rw[e]at h;obtain⟨h1,h2,h3,h4⟩:=v8 e;exact⟨j,h1,h,h2,h3,h4⟩
def gO(b:Expr):Prop:=∀o i,subscripted b false o i=operate [o,i] (getItem o i)
def IxR(X:Cx)(r:R2):Prop:=
 ∀(value slice:Expr) (ρ:List (Addr×Obj)) (s:Shared) (σ:St) (H:Hp) (x y:V) (v u:Value) (Q:VK),Inv X ρ σ H s->RelV x v->RelV y u->r x y H Q ->
  subscripted slice false v u=operate [v,u] (getItem v u)->wpAny (model X.prog X.w) X.A (subscriptTail value slice v u) (EP X ρ σ Q) X.xe s
def MtR(X:Cx)(id:String)(r:V->List V->Hp->VK->Prop):Prop:=
 ∀(ρ:List (Addr×Obj)) (s:Shared) (σ:St) (H:Hp) (x:V) (xs:List V) (v:Value) (us:List Value) (Q:VK),Inv X ρ σ H s->RelV x v->Vals xs us->r x xs H Q ->
  wpAny (model X.prog X.w) X.A (call (.builtin id) (v::us)) (EP X ρ σ Q) X.xe s
section
variable{a b:Expr}{ta tb:TE} 
def IxR.or{r':R2}(h:IxR X r)(h':IxR X r'):IxR X (fun x y H Q=>r x y H Q\/r' x y H Q):=by
 intro value slice ρ s σ H x y v u Q I rx ry q hs;rcases q with q|q
 ·exact h value slice ρ s σ H x y v u Q I rx ry q hs
 ·exact h' value slice ρ s σ H x y v u Q I rx ry q hs
def wS(hr:IxR X r)(ha:PE X a ta)(hb:PE X b tb)(hs:gO b):PE X (.Subscript a b pos) (tOp r ta tb):=by
 intro ρ s σ H Q I h;exact Subscript_ (By ha hb I h fun v u s2 x y H2 I2 rx ry q=>hr a b ρ s2 σ H2 x y v u Q I2 rx ry q (hs _ _))
def wQ(K:zbY):R2:=fun x y H Q=>∃p xs i v,x=.ref p/\y=.int i/\SqL K H p xs/\atI xs i=some v/\Q v H
def Jv(K:zbY):R2:=fun x y H Q=>∃p xs i v,x=.ref p/\y=.int i/\SqT K H p xs/\atI xs i=some v/\Q v H
def Jw:R2:=fun x y H Q=>∃z i c,x=.str z/\y=.int i/\z.length<=sizeLine/\atI z.cps.toList i=some c/\Q (.str ⟨#[c]⟩) H
def ix_list:IxR X (wQ X.K):=by
 intro value slice ρ s σ H x y v u Q I rx ry h hs;obtain⟨p,xs,i,z,rfl,rfl,hq,he,q⟩:=h;cases rx;obtain⟨t,rfl⟩:=ry;obtain⟨its,r,pl,hz⟩:=I.list hq;obtain⟨j,h1,h2,h3,h4,h5⟩:=qN he;obtain⟨w,ew,rw'⟩:=r.get h2;have hl:=r.length;have hn:=kc;have fin:EP X ρ σ Q w s:=⟨z,H,I,rw',q⟩;by_cases h0:0<=i
 ·have hj:i.toNat=j:=by
   rw[seqIndex_of h0 h5]at h1;exact zat h1
  exact item_listR pl.isList h0 (by omega) (by rw[hj];simpa using ew) fin hs
 ·have hj:(i+(its.toArray.size:Int)).toNat=j:=by
   rw[seqIndex_neg (by omega) h4]at h1;rw[zai,<-hl];exact zat h1
  exact subscriptTail_builtinR (x:=w) pl.isList.typeIs slot_list_getitem.lookup
   (wpAny_getItem_list_neg (Q:=fun r s'=>r=w/\EP X ρ σ Q r s') pl.isList (by omega) (by rw[zai]<;>omega) (by omega) (by rw[hj];simpa using ew) ⟨rfl,fin⟩) hs
def ix_tup:IxR X (Jv X.K):=by
 intro value slice ρ s σ H x y v u Q I rx ry h hs;obtain⟨p,xs,i,z,rfl,rfl,hq,he,q⟩:=h;cases rx;obtain⟨t,rfl⟩:=ry;obtain⟨its,r,pl,hz⟩:=I.tuple hq;obtain⟨j,h1,h2,h3,h4,h5⟩:=qN he;obtain⟨w,ew,rw'⟩:=r.get h2;have hl:=r.length;have hn:=kc;have fin:EP X ρ σ Q w s:=⟨z,H,I,rw',q⟩;exact subscriptTail_builtinR (x:=w) pl.typeIs slot_tuple_getitem.lookup
  (getItem_tuple (j:=j) (Q:=fun r s'=>r=w/\EP X ρ σ Q r s') pl (by omega) (by omega) (by rw[zai,<-hl];exact h1) (by simpa using ew) ⟨rfl,fin⟩) hs
def Ko:IxR X Jw:=by
 intro value slice ρ s σ H x y v u Q I rx ry h hs;obtain⟨z,i,c,rfl,rfl,hz,he,q⟩:=h;obtain⟨t,rfl⟩:=rx;obtain⟨t',rfl⟩:=ry;obtain⟨j,h1,h2,h3,h4,h5⟩:=qN he;have hl:z.cps.toList.length=z.length:=by simp[Str.length]
 rw[hl]at h1 h4 h5;have hn:=kc;exact tail_any (typeIs_str s z t) slot_str_getitem.lookup (getItem_str (c:=c) (by
  have e1:decide (i < -(2 ^ 63:Int))=false:=zaA (by omega);have e2:decide (i >= 2 ^ 63)=false:=zaA (by omega);rw[e1,e2,Bool.or_false]) (by rw[h1];simpa using h2) ⟨.str ⟨#[c]⟩,H,I.tok _,⟨_,rfl⟩,q⟩) hs
def rIx(K:zbY):R2:=fun x y H Q=>wQ K x y H Q\/Jv K x y H Q\/Jw x y H Q
def ix_seq:IxR X (rIx X.K):=ix_list.or (ix_tup.or Ko)
def xf(its:List Value)(n j:Nat)(u:Value):Obj.mapSeq (·.setIfInBounds j u) { cls:=.type "list",data:=.seq its.toArray n }={ cls:=.type "list",data:=.seq (its.set j u).toArray n }:=by
 simp[Obj.mapSeq]
def Inv.lst{ρ:List (Addr×Obj)}{σ:St}{H:Hp}{s:Shared}{p:Addr}{xs:List V}(I:Inv X ρ σ H s)(h:H p=some (.lst xs)):
  ∃(its:List Value) (n:Nat),Vals xs its/\s.heap.get? p=some { cls:=.type "list",data:=.seq its.toArray n }/\xs.length<=sizeLine:=by
 obtain⟨z,its,n,r,e⟩:=I.hok p _ h;exact⟨its,n,r,e,z⟩
def Inv.lstUpd{p:Addr}{n':Nat}{f:Obj->Obj}(I:Inv X ρ σ H s)(h:H p=some (.lst xs))
  (ho:s.heap.get? p=some { cls:=.type "list",data:=.seq its.toArray n }) (hf:f { cls:=.type "list",data:=.seq its.toArray n }={ cls:=.type "list",data:=.seq its'.toArray n' }) (r:Vals ys its') (hz:ys.length<=sizeLine) (t:Nat):
  Inv X ρ σ (upd H p (.lst ys)) { s with heap:=s.heap.update p f,toks:=t }:=by
 have e:(s.heap.update p f).get? p=some { cls:=.type "list",data:=.seq its'.toArray n' }:=by
  rw[Heap.get?_update_self f ho (by rw[hf]<;>rfl),hf]
 refine I.write (x:=p) (e:=p) (by rw[h];trivial) (.inl rfl) (fun b u hb q=>(zbz _ _ (Ne.symm hb)).trans q) ⟨_,e⟩ ?_;exact⟨hz,its',n',r,e⟩
def sn:V->V->V->Hp->(Hp->Prop)->Prop:=fun o i v H Q=>∃p xs k j,o=.ref p/\i=.int k/\H p=some (.lst xs)/\ixN xs.length k=some j/\Q (upd H p (.lst (xs.set j v)))
def ou:LB X sn:=by
 intro ρ s σ H o i v ov iv u Q I ro ri rv h;obtain⟨p,xs,k,j,rfl,rfl,hp,hj,q⟩:=h;cases ro;obtain⟨t,rfl⟩:=ri;obtain⟨its,n,r,ho,hz⟩:=I.lst hp;obtain⟨h1,h2,h3,h4⟩:=v8 hj;have hl:=r.length;have hn:=kc;have I':Inv X ρ σ (upd H p (.lst (xs.set j v))) { s with heap:=s.heap.update p (Obj.mapSeq (·.setIfInBounds j u)) }:=
  I.lstUpd hp ho (xf its n j u) (r.set rv j) (by rw[zaV];exact hz) s.toks
 by_cases h0:0<=k
 ·have hk:k.toNat=j:=by
   rw[seqIndex_of h0 h4]at h1;exact zat h1
  exact PySem.W.ki_setAt ho h0 (by omega) (by rw[zai,<-hl];exact h4) (by rw[hk];exact⟨_,I',q⟩)
 ·have hk:(k+(its.toArray.size:Int)).toNat=j:=by
   rw[seqIndex_neg (by omega) h3]at h1;rw[zai,<-hl];exact zat h1
  exact PySem.W.ki_setBack ho (by omega) (by rw[zai,<-hl];exact h3) (by omega) (by rw[hk];exact⟨_,I',q⟩)
def sL(lo hi:Option Int)(n:Nat):(sliceBounds lo hi none n).1=((HT.sIx n 0 lo:Nat):Int)/\(sliceBounds lo hi none n).2.1=((HT.sIx n n hi:Nat):Int)/\(sliceBounds lo hi none n).2.2=1:=by
 refine⟨?_,?_,rfl⟩
 ·cases lo with
  |none=>simp[sliceBounds,HT.sIx]
  |some i=>
   simp only[sliceBounds,HT.sIx,Option.getD_none,show(1:Int)>0 by decide,if_true];by_cases h:i<0
   ·simp only[h,if_true]<;>omega
   ·simp only[h,if_false]<;>omega
 ·cases hi with
  |none=>simp[sliceBounds,HT.sIx]
  |some i=>
   simp only[sliceBounds,HT.sIx,Option.getD_none,show(1:Int)>0 by decide,if_true];by_cases h:i<0
   ·simp only[h,if_true]<;>omega
   ·simp only[h,if_false]<;>omega
def rM(its:List Value)(lo hi:Option Int):slicePick its.toArray lo hi none=((its.drop (HT.sIx its.length 0 lo)).take (HT.sIx its.length its.length hi-HT.sIx its.length 0 lo)).toArray:=by
 obtain⟨h1,h2,h3⟩:=sL lo hi its.toArray.size;unfold slicePick;rw[h1,h2,h3];simp only[sliceRange_one,pick_run,zai]<;>rfl
def Js(K:zbY):V->Option Int->Option Int->Hp->VK->Prop:=fun x lo hi H Q=>∃a xs,x=.ref a/\SqL K H a xs/\∀p,H p=none->Q (.ref p) (upd H p (.lst (gh xs lo hi)))
def EU:SlR X (Js X.K):=by
 intro ρ s σ H x v vl vu lo hi sl Q I rx hs pl pu h;obtain⟨a,xs,rfl,hx,q⟩:=h;cases rx;obtain⟨its,r,ht,hz⟩:=I.list hx;have ξ:=r.length;refine⟨"list",_,slot_list_getitem.lookup,ht.isList.typeIs,?_⟩;refine wpAny_getItem_list_slice ht.isList hs pl pu .none (by simp) ?_ (by rw[zai]<;>omega);rw[rM,<-ξ];refine⟨.ref s.heap.objs.size,_,I.laid (t':=s.toks) (o:=.lst (gh xs lo hi)) (fun b ob q=>zaf _ q) (zav _) ?_,rfl,q _ (I.hok.fresh (zav _))⟩;exact⟨zau (nG xs lo hi) hz,_,0,(r.drop (HT.sIx xs.length 0 lo)).take (HT.sIx xs.length xs.length hi-HT.sIx xs.length 0 lo),zan _ rfl⟩
def uJ:CallR X (.type "list") (fun xs H Q=>∃p ys,xs=[.ref p]/\(SqL X.K H p ys\/SqT X.K H p ys)/\∀l,H l=none->Q (.ref l) (upd H l (.lst ys))):=by
 intro ρ s σ H xs us Q I r h;obtain⟨p,ys,rfl,hq,q⟩:=h;obtain⟨u,rfl,rx⟩:=dB r;cases rx;have fin:∀(its:List Value),Vals ys its->ys.length<=sizeLine->∀(h':Heap) (c':Nat),(∀b o',s.heap.get? b=some o'->h'.get? b=some o') ->
   h'.get? s.heap.objs.size=some { cls:=.type "list",dict:=none,data:=.seq its.toArray c',slots:=#[] }->EP X ρ σ Q (.ref s.heap.objs.size) { s with heap:=h' }:=fun its r' hz h' c' kp e=>
  ⟨.ref s.heap.objs.size,_,I.laid (t':=s.toks) kp (zav _) (show ObjOk X.prog X.w _ h' _ (.lst ys)from⟨hz,its,c',r',e⟩),rfl,q _ (I.hok.fresh (zav _))⟩
 rcases hq with hq|hq
 ·obtain⟨its,r',pl,hz⟩:=I.list hq;have ξ:=r'.length;obtain⟨o,ho,hc,n,hd⟩:=pl.isList;exact call_list_seq p (.inl rfl) ho hc hd (fun h' c' kp e=>fin its r' hz h' c' kp e) (by simp only[zai]<;>omega)
 ·obtain⟨its,r',pl,hz⟩:=I.tuple hq;have ξ:=r'.length;obtain⟨o,ho,hc,n,hd⟩:=pl;exact call_list_seq p (.inr rfl) ho hc hd (fun h' c' kp e=>fin its r' hz h' c' kp e) (by simp only[zai]<;>omega)
def rV:CallR X (.type "tuple") (fun xs H Q=>∃p ys,xs=[.ref p]/\((SqL X.K H p ys/\∀l,H l=none->Q (.ref l) (upd H l (.tup ys)))\/(SqT X.K H p ys/\Q (.ref p) H))):=by
 intro ρ s σ H xs us Q I r h;obtain⟨p,ys,rfl,h⟩:=h;obtain⟨u,rfl,rx⟩:=dB r;cases rx;rcases h with⟨hq,q⟩|⟨hq,q⟩
 ·obtain⟨its,r',pl,hz⟩:=I.list hq;have ξ:=r'.length;refine call_tuple_list pl.isList (fun h' kp=>?_) (by simp only[zai]<;>omega);have I1:Inv X ρ σ H { s with heap:=h' }:=I.kept (t':=s.toks) kp;have I2:Inv X ρ σ (upd H h'.objs.size (.tup ys)) { s with heap:=h'.push { cls:=.type "tuple",data:=.seq its.toArray } }:=
   I1.laid (t':=s.toks) (fun b o e=>zaf _ e) (zav _) (show ObjOk X.prog X.w _ _ _ (.tup ys)from⟨hz,its,r',IsTupN.new _ _⟩)
  exact⟨.ref h'.objs.size,_,I2,rfl,q _ (I1.hok.fresh (zav _))⟩
 ·obtain⟨its,r',pl,hz⟩:=I.tuple hq;exact call_tuple_same pl ⟨.ref p,H,I,rfl,q⟩
def tyV(K:zbY)(T:String)(x:V)(H:Hp):Prop:=match x with
 |.str _=>T="str"
 |.int _=>T="int"
 |.ref p=>(T="list"/\∃xs,SqL K H p xs)\/(T="tuple"/\∃o,K.lookup p=some o/\o.cls=.type "tuple"/\o.dict=none) \/
   (T="dict"/\((∃kvs,H p=some (.dK kvs))\/∃kvs,H p=some (.dT kvs)))\/(T="set"/\∃S n,H p=some (.set S n))
 |_=>False
def IT{v:Value}(I:Inv X ρ σ H s)(r:RelV x v)(ty:tyV X.K T x H):
  s.TypeIs v T/\∀a,v=.ref a->∃ob,s.heap.get? a=some ob/\ob.dict=none:=by
 cases x with
 |str z=>
  obtain⟨t,rfl⟩:=r;cases(show T="str" from ty);exact⟨typeIs_str s z t,fun _ e=>nomatch e⟩
 |int i=>
  obtain⟨t,rfl⟩:=r;cases(show T="int" from ty);exact⟨typeIs_int s i t,fun _ e=>nomatch e⟩
 |ref p=>
  cases r;rcases ty with⟨rfl,xs,hq⟩|⟨rfl,o,hk,hc,hd⟩|⟨rfl,hk⟩|⟨rfl,S,n,hk⟩
  ·obtain⟨its,_,pl,_⟩:=I.list hq;refine⟨pl.isList.typeIs,fun a e=>?_⟩;cases e;obtain⟨o,n,e,c,hd,_⟩:=pl;exact⟨o,e,hd⟩
  ·refine⟨⟨o,I.kIn p o hk,hc⟩,fun a e=>?_⟩;cases e;exact⟨o,I.kIn _ o hk,hd⟩
  ·have z:∃o,s.heap.get? p=some o/\o.ExactDict:=by
    rcases hk with⟨kvs,hk⟩|⟨kvs,hk⟩
    ·obtain⟨_,_,_,_,o,_,_,e,ex,_⟩:=I.hok p _ hk;exact⟨o,e,ex⟩
    ·obtain⟨_,_,_,_,o,_,_,e,ex,_⟩:=I.hok p _ hk;exact⟨o,e,ex⟩
   obtain⟨o,e,ex⟩:=z;refine⟨⟨o,e,ex.1⟩,fun a e2=>?_⟩;cases e2;exact⟨o,e,ex.2.1⟩
  ·obtain⟨o,_,_,_,e,ex,_⟩:=I.hok p _ hk;refine⟨⟨o,e,ex.1⟩,fun a e2=>?_⟩;cases e2;exact⟨o,e,ex.2.1⟩
 |_=>exact False.elim ty
def tBM(K:zbY)(T:String)(r:V->List V->Hp->VK->Prop)(to:TE)(t:TA):TE:=fun σ H Q=>to σ H fun x H1=>tyV K T x H1/\t σ H1 fun xs H2=>r x xs H2 Q
variable{o:Expr}{es:List Expr}{to:TE}{t:TA}{name:Str}{μ ω:Pos}{id:String}{r:V->List V->Hp->VK->Prop}
def LZ(pa:PlainAttrs T)(slot:Slot T name id)(hty:typeOf (.builtin id)=pure (.type "method_descriptor"))(hm:MtR X id r)(ho:PE X o to)(ha:PA X (e::es) t)
  (η:attributeBase o name X.env (eval o X.env)=eval o X.env:=by rfl)
  (hfew:((backTo ω (starEach (e::es) X.env)).all (fun x=>!x.1)&&(backToKw ω (keywordEach [] X.env)).all (fun x=>x.1.isSome)
  &&decide ((e::es).length+([]:List Keyword).length+(if([]:List Keyword).isEmpty then 0 else 1)<30))=true:=by rfl)
  (θ:(μ.endLine==ω.line)=true:=by rfl) (hs:starEach (e::es) X.env=(false,eval e X.env)::starEach es X.env:=by rfl) (ι:(backTo ω (starEach es X.env)).any (·.1)=false:=by rfl):
  PE X (.Call (.Attribute o name μ) (e::es) [] ω) (tBM X.K T r to t):=by
 intro ρ s σ H Q I h;refine wpAny_Call_method_late η hfew θ rfl (thn (ho ρ s σ H _ I h) fun v s1 ⟨x,H1,I1,r1,ty,q1⟩=>?_);obtain⟨h1,h2⟩:=IT I1 r1 ty;refine⟨T,id,pa,slot,hty,h1,h2,?_⟩;have hA:=ha ω ρ s1 σ H1 _ I1 q1;rw[hs]at hA ⊢;refine Calls.callWith_builtin (by show(false || (backTo ω (starEach es X.env)).any (·.1))=false;rw[ι]<;>rfl) (Calls.evalArgs_plain ?_);exact thn hA fun us s2 ⟨vs,H2,I2,r2,q2⟩=>hm ρ s2 σ H2 x vs v us Q I2 r1 r2 q2
end
def MtM(X:Cx)(id:String)(r:V->List V->Hp->VK->Prop):Prop:=
 ∀(ρ:List (Addr×Obj)) (s:Shared) (σ:St) (H:Hp) (x:V) (xs:List V) (v:Value) (us:List Value) (Q:VK),Inv X ρ σ H s->RelV x v->Vals xs us->r x xs H Q ->
  wpAny (model X.prog X.w) X.A (call (.builtin id) (v::us)) (EP X ρ σ Q) X.xe s
def Vals.one:∀{x:V} {us:List Value},Vals [x] us->∃u,us=[u]/\RelV x u
 |_,_,.cons r .nil=>⟨_,rfl,r⟩
def Vals.two{y:V}(h:Vals [x,y] us):∃u v,us=[u,v]/\RelV x u/\RelV y v:=by
 cases h with
 |cons r t=>
  cases t with
  |cons q n=>
   cases n;exact⟨_,_,rfl,r,q⟩
theorem Vals.rep{xs:List V}{us:List Value}(h:Vals xs us):∀k:Nat,Vals (List.replicate k xs).flatten (List.replicate k us).flatten
 |0=>.nil
 |k+1=>by
  rw[List.replicate_succ,List.replicate_succ,List.flatten_cons,List.flatten_cons];exact Vals.append h (Vals.rep h k)
section
variable{l b:Addr}{zs:List V}
def Inv.lset{f:Array Value->Array Value}(I:Inv X ρ σ H s)(hH:H l=some (.lst xs))
  (e:s.heap.get? l=some { cls:=.type "list",data:=.seq its.toArray n }) (hf:f its.toArray=its'.toArray) (hv:Vals ys its') (hz:ys.length<=sizeLine):
  Inv X ρ σ (upd H l (.lst ys)) { s with heap:=s.heap.update l (Obj.mapSeq f),toks:=t' }:=by
 have q:=PySem.IsL.update e f;rw[hf]at q;refine I.write (x:=l) (e:=l) (by rw[hH];exact trivial) (.inl rfl) (fun b' u hb hu=>(zbz s.heap (Obj.mapSeq f) (Ne.symm hb)).trans hu) ⟨_,q⟩ ?_;exact⟨hz,its',_,hv,q⟩
def Inv.lnew(I:Inv X ρ σ H s)(hv:Vals ys its)(hz:ys.length<=sizeLine):
  Inv X ρ σ (upd H s.heap.objs.size (.lst ys)) { s with heap:=s.heap.push { cls:=.type "list",data:=.seq its.toArray },toks:=t' }:=
 I.laid (fun _ _ q=>zaf _ q) (zav _) ⟨hz,its,0,hv,zan _ rfl⟩
def Inv.fresh(I:Inv X ρ σ H s):H s.heap.objs.size=none:=I.hok.fresh (zav _)
def Inv.lstM(I:Inv X ρ σ H s)(hH:H l=some (.lst xs)):xs.length<=sizeLine/\∃(its:List Value) (n:Nat),Vals xs its/\xs.length=its.length/\s.heap.get? l=some { cls:=.type "list",data:=.seq its.toArray n }:=by
 obtain⟨z,its,n,r,e⟩:=I.hok l _ hH;exact⟨z,its,n,r,r.length,e⟩
def Az(h:n<=sizeLine):Builtin.List.listTooLong n=false:=by
 unfold Builtin.List.listTooLong;exact zaA (by omega)
end
def vQ:V->List V->Hp->VK->Prop:=fun x vs H Q=>∃l xs y,x=.ref l/\vs=[y]/\H l=some (.lst xs)/\xs.length<sizeLine/\Q .non (upd H l (.lst (xs++[y])))
def qY:MtM X "list.append" vQ:=by
 intro ρ s σ H x vs v us Q I rx rv h;obtain⟨l,xs,y,rfl,rfl,hH,hz,q⟩:=h;cases rx;obtain⟨u,rfl,ru⟩:=rv.one;obtain⟨z,its,n,r,hl,e⟩:=I.lstM hH;refine call_meets F.slot_list_append ⟨_,e,rfl⟩ F.entry_list_append (F.args_list_append_2 _ _) (PySem.list_append l its.toArray n u (by rw[zai];omega)) ⟨e,?_⟩;refine⟨.non,_,I.lset (its':=its++[u]) hH e (by simp) (r.append (.cons ru .nil)) ?_,rfl,q⟩;rw[zae,List.length_singleton];omega
def Fx{α:Type}(xs:List α)(k:Nat):(List.replicate k xs).flatten.length=k*xs.length:=by
 induction k with
 |zero=>simp
 |succ k ih=>rw[List.replicate_succ,List.flatten_cons,zae,ih,Nat.succ_mul,Nat.add_comm]
end L2
namespace Att
variable{P:Params}{h:Heap}{l:OpenLaw}{n:Nat}
open PySem PySem.W PySem.Calls PyProof.Rows
def pA:∀(ns:List Int) (vs:List Value),WellAll P h vs (ns.map WData.int)->IntsAre vs ns:=by
 intro ns
 induction ns with
 |nil=>
  intro vs w;rw[za0]at w;cases w;exact .nil
 |cons n ns ih=>
  intro vs w;rw[zar]at w;cases w with
  |cons a b=>
   cases a;exact .cons _ _ (ih _ b)
def yt(hn:l.most=some n){args:List WData}{vals:List Value}
  (hpre:l.row.toRowW.claim.pre args=true) (hwl:WellAll P h vals args):
  ∃a vs ns,vals=[Value.ref a]/\args=[WData.list (ns.map WData.int)]/\h.get? a=some { cls:=.type "list",data:=.seq vs.toArray }/\IntsAre vs ns/\ns.length<=n:=by
 have hsh:WShape.hasAll [] args [.list .int]=true:=(pre_splitW hpre).1;have hc:l.pre.holds [] { args:=args }=true:=(pre_splitW hpre).2;obtain⟨d,r,rfl,h1,h2⟩:=hasAllW_cons hsh;obtain rfl:=hasAllW_nil h2;obtain⟨xs,rfl,h3⟩:=hasW_list h1;obtain⟨ns,rfl⟩:=items_int h3;have ξ:ns.length<=n:=by
  unfold OpenLaw.pre at hc;have h4:(WTm.not (.lt (.lit (.int (n:Int))) (.len (.arg 0)))).holds [] { args:=[.list (ns.map .int)] }=true:=by
   have h4:=(holds_andW hc).1;rw[hn]at h4;exact h4
  have h5:=condW_of h4 (w_not (w_lt w_lit (w_len_list (w_arg rfl))));rw[zad]at h5;refine Nat.le_of_not_lt fun q=>?_;have q':(n:Int)<((ns.length:Nat):Int):=by omega
  first
   | (rw[zaB q']at h5;exact absurd h5 (by decide))
   | (simp at h5;omega)
 cases hwl with
 |cons w1 w2=>
  cases w2;cases w1 with
  |list ho hall=>exact⟨_,_,ns,rfl,rfl,ho,pA ns _ hall,ξ⟩
def yz(l:OpenLaw)(args:List WData):l.row.toRowW.claim.post args (.bool true) args=true:=
 postW_of (r:=l.row.toRowW) (X:=(true==true))
  (show WShape.has [] (.bool true) .bool=true by first|rfl|decide|simp[WShape.has,WShape.arms,WShape.armsAll])
  (show(WTm.eq .res (.lit (.bool true))).value [] { args:=args,res:=some (.bool true),after:=args }=some (.bool (true==true))from w_eq_bool (w_res rfl) w_lit) rfl
def attach_call{q:Program}{f':List Str}{XP:(Str->Option Value)->Heap->Prop}{YP:World->Heap->Prop}{d:DefRec}
  (hn:l.most=some n) (hdf:d.params.defaults=[])
  (call:∀(w:World) (s₀ s₁:Shared) (mg mb:Str->Option Value) (fa:Addr) (o:Obj) (pm cd doc:Value) (a:Addr) (vs:List Value) (ns:List Int),
   Ground q f' [] XP w s₀ mg mb s₁.heap->YP w s₁.heap ->
   s₁.heap.get? fa=some o->o.data=.func (docDef d.name d.params d.body d.scope pm cd doc)->s₁.heap.CodeRec cd d.name->mg d.name=some (.ref fa) ->
   s₁.heap.get? a=some { cls:=.type "list",data:=.seq vs.toArray }->IntsAre vs ns->ns.length<=n->s₁.gens=#[] ->
   codeAny (model l.prog w) callerA (.call (.ref fa) ⟨[.ref a],[]⟩) (fun r s'=>r=.ok (.ret (.bool true))/\OldK s₁.heap s'.heap/\s'.os=s₁.os/\AllBare s'.gens) s₁):
  WalkO q f' XP YP l.row.toRowW d [] (fun f vs=>PySem.call f vs):=by
 intro w s₀ s₁ mg mb G Y fa o pm cd doc dV kV ho hd hcd hD hmg hg args vals as hpre hlay hrd hwl hlo;obtain rfl:dV=.none:=Dflts.none hD hdf;obtain rfl:kV=.none:=Dflts.noKw hD;obtain⟨a,vs,ns,rfl,rfl,hobj,hints,ξ⟩:=yt hn hpre hwl;refine enter_call (codeAny_mono (call w s₀ s₁ mg mb fa o pm cd doc a vs ns G Y ho (fd_plain hd) hcd hmg hobj hints ξ hg) fun r s' hq=>?_);obtain⟨rfl,h2,h3,h4⟩:=hq;exact⟨.inl ⟨.bool true,.bool true,[],rfl,fun _=>rfl,.bool true,yz l _,fun _=>⟨List.Pairwise.nil,fun _ hm=>(nomatch hm)⟩⟩,h2,h3,h4⟩
end Att
namespace L2
variable{P:Program}{w:World}{K:zbY}{mg:Str->Option Value}{a f:Addr}{fd:FuncData}{x qual:Str}{sp:Sp}{n:Nat}{X:Cx}{st:Stmt}{ps:List Str}{A:Around}{pos:Pos}{o:Option V}{y:V}{u:Value}{H H':Hp}{kvs:List (List Key×V)}{xs:List (List Key×Addr×Value)}{ρ:List (Addr×Obj)}{σ:St}{s:Shared}{E Q:Value->Shared->Prop}{h':Heap}{value:Expr}{tv:TE}
open PySem PySem.Spec PyProof.Rows
theorem qU:∀{vs:List Value} {ns:List Int},IntsAre vs ns->Vals (ns.map V.int) vs
 |_,_,.nil=>.nil
 |_,_,.cons n t h=>.cons ⟨t,rfl⟩ (qU h)
def BE(H:Hp):Prop:=∀b,H b=none\/∃o xs,H b=some (.frz o (.lst xs))
def AE{mb:Str->Option Value}{CX:CXT}{k:Nat}{fa:Addr}{s₁:Shared}{vs:List Value}{ns:List Int}
  (KX:K.In s₁.heap) (hns:s₁.heap.Ns mainGlobals mg) (hb:s₁.heap.Ns builtinsNs mb) (hbb:∀x:Str,x≠"__name__"->mb x=bootBuiltins x) (hlim:s₁.heap.NoLimit) (hmods:∃mm,s₁.heap.Ns sysModules mm) (hg:s₁.gens=#[])
  (ha:s₁.heap.get? a=some { cls:=.type "list",data:=.seq vs.toArray }) (hi:IntsAre vs ns) (hl:ns.length<=sizeLine) (hr:Room k callerA)
  (F:∀base:Heap,K.In base->base.Ns mainGlobals mg->FnOk P w K mg base CX k fa fd [x] sp) (hbind:∀(s:Shared) (u:Value),BindsTo s fd ⟨[u],[]⟩ [(x,u)])
  (hsp:∀H:Hp,BE H->SqL K H a (ns.map V.int)->sp [.ref a] H (fun v _=>v=.bl true) fun _ _ _=>False)
  (hCX:∀H e s',CX [] H s₁ (fun _ _ _=>False) e s'->False):
  codeAny (model P w) callerA (.call (.ref fa) ⟨[.ref a],[]⟩) (fun r s'=>r=.ok (.ret (.bool true))/\OldK s₁.heap s'.heap/\s'.os=s₁.os/\AllBare s'.gens) s₁:=by
 have rv:=qU hi;have lenV:=hi.length;have core:∀H:Hp,BE H->SqL K H a (ns.map V.int)->HOk P w H s₁.heap->(∀b,H b≠none->b=a)->(H a≠none->K.lookup a=none) ->
   codeAny (model P w) callerA (.call (.ref fa) ⟨[.ref a],[]⟩) (fun r s'=>r=.ok (.ret (.bool true))/\OldK s₁.heap s'.heap/\s'.os=s₁.os/\AllBare s'.gens) s₁:=by
  intro H hO hS hok hA hK;have base_of:∀{b:Addr} {o:Obj},s₁.heap.get? b=some o->H b=none->(k5 s₁.heap H).get? b=some o:=fun e n=>AV e n;have noA:∀{b:Addr} {o:Obj} {es:Array DictEntry} {ep:Nat},s₁.heap.get? b=some o->o.data=.dict es ep->H b=none:=fun {b o es ep} e d=>by
   cases q:H b with
   |none=>rfl
   |some u=>
    have e':b=a:=hA b (by rw[q];simp);subst e';rw[ha]at e;cases e;have d':Data.seq vs.toArray _=Data.dict es ep:=d;cases d'
  have nsK:∀{b:Addr} {m:Str->Option Value},s₁.heap.Ns b m->(k5 s₁.heap H).Ns b m:=fun {b m} ⟨o,es,ep,e,d,r⟩=>⟨o,es,ep,base_of e (noA e d),d,r⟩;have hKb:K.In (k5 s₁.heap H):=fun b o e=>base_of (KX b o e) (by
   cases q:H b with
   |none=>rfl
   |some u=>
    have e':b=a:=hA b (by rw[q];simp);subst e';rw[hK (by rw[q];simp)]at e;cases e)
  have hM:Mod K mg (k5 s₁.heap H):=⟨hKb,nsK hns,⟨mb,nsK hb,hbb⟩,let⟨mc,h1,h2⟩:=hlim;⟨mc,nsK h1,h2⟩,let⟨mm,h1⟩:=hmods;⟨mm,nsK h1⟩⟩;have e0:Env0 P w K mg (k5 s₁.heap H) callerA [] s₁ H:=⟨rfl,hM,fun b o e=>Fk e,Nat.le_of_eq (y2 _ _),trivial,fun b hb=>absurd (show b∈([]:List Addr)from hb) (by simp),hok,.of_eq hg⟩;refine codeAny_mono ((F _ hKb (nsK hns)).run callerA [] s₁ H ⟨[.ref a],[]⟩ [.ref a] [.ref a] _ _ hr e0 (hbind s₁ (.ref a)) (.cons rfl .nil) (hsp H hO hS)) fun r s' h=>?_;cases r with
  |error e=>exact(hCX H e s' h).elim
  |ok fl=>
   cases fl with
   |next=>exact False.elim h
   |brk=>exact False.elim h
   |cont=>exact False.elim h
   |ret u=>
    obtain⟨v,H',os,bare,un,hok',r',q⟩:=h;have q':v=.bl true:=q;subst q';obtain rfl:u=Value.bool true:=r';refine⟨rfl,OldK.of_keep fun b o e=>?_,os,bare⟩;cases q:H b with
    |none=>exact un.keep b o e q (by intro z;exact absurd (show b∈([]:List Addr)from z) (by simp)) (by simp)
    |some u=>
     rcases hO b with z|⟨ob,xs,z⟩
     ·rw[q]at z;cases z
     ·have z2:=un.frzs b ob _ z;obtain⟨e1,_⟩:=hok b _ z;obtain⟨e2,_⟩:=hok' b _ z2;rw[e]at e1;cases e1;exact e2
 cases hk:K.lookup a with
 |some o=>
  have e:=KX a o hk;rw[ha]at e;cases e;refine core (fun _=>none) (fun _=>.inl rfl) (.inr ⟨_,vs.toArray,_,hk,rfl,rfl,rfl,by rw[zai,lenV];exact hl,by simpa using rv⟩) (fun b u z=>by have z':(none:Option HO)=some u:=z;cases z') (fun b z=>absurd rfl z) fun z=>absurd rfl z
 |none=>
  refine core (fun b=>if b=a then some (.frz { cls:=.type "list",data:=.seq vs.toArray } (.lst (ns.map V.int)))else none) (fun b=>?_) (.inl (.inr ⟨{ cls:=.type "list",data:=.seq vs.toArray },if_pos rfl⟩)) (fun b u z=>?_) (fun b z=>?_) fun _=>hk
  ·by_cases hb:b=a
   ·exact .inr ⟨_,_,if_pos hb⟩
   ·exact .inl (if_neg hb)
  ·by_cases hb:b=a
   ·have z':=(if_pos hb).symm.trans z;cases z';subst hb;exact⟨ha,by rw[zad];exact hl,vs,_,rv,ha⟩
   ·have z':=(if_neg hb).symm.trans z;cases z'
  ·by_cases hb:b=a
   ·exact hb
   ·exact absurd (if_neg hb) z
def walk_of{l:PySem.W.OpenLaw}{k:Nat}{q:Program}{f':List Str}{XP:(Str->Option Value)->Heap->Prop}{YP:World->Heap->Prop}{d:DefRec}{K:Params->zbY}{CX:World->CXT}{sp:World->Sp} 
  (hn:l.most=some n) (hn2:n<=sizeLine) (hdf:d.params.defaults=[]) (hr:Room k callerA)
  (hq:importsNone q=true) (hY:∀(w:World) (h:Heap),YP w h->(K w.params).In h)
  (F:∀(w:World) (mg:Str->Option Value) (fa:Addr) (h:Heap),(K w.params).In h->h.Ns mainGlobals mg->mg d.name=some (.ref fa) ->
   ∃fd:FuncData,(∀(s:Shared) (u:Value),BindsTo s fd ⟨[u],[]⟩ [(x,u)]) /\
    ∀base:Heap,(K w.params).In base->base.Ns mainGlobals mg->FnOk l.prog w (K w.params) mg base (CX w) k fa fd [x] (sp w))
  (hsp:∀(w:World) (H:Hp) (a:Addr) (ns:List Int),ns.length<=n->BE H->SqL (K w.params) H a (ns.map V.int)->sp w [.ref a] H (fun v _=>v=.bl true) fun _ _ _=>False)
  (hCX:∀(w:World) (H:Hp) (s:Shared) (e:Value) (s':Shared),CX w [] H s (fun _ _ _=>False) e s'->False):
  PySem.W.WalkO q f' XP YP l.row.toRowW d [] (fun f vs=>PySem.call f vs):=by
 refine Att.attach_call hn hdf fun w s₀ s₁ mg mb fa o pm cd doc a vs ns G Y ho hd hcd hmg hobj hints ξ hg=>?_;have KX:=hY w _ Y;obtain⟨fd,hb,hF⟩:=F w mg fa _ KX G.T.g hmg;exact AE KX G.T.g G.T.b G.T.builtins G.T.nolimit (let⟨mm,hm,_⟩:=(G.T.seer hq).mods;⟨mm,hm⟩) hg hobj hints (zau ξ hn2) hr hF hb (fun H hO hS=>hsp w H a ns ξ hO hS) fun H e s'=>hCX w H s₁ e s'
def e8(s:Stmt):Arguments:=match s with
 |.FunctionDef _ a _ _ _ _ _ _ _ _=>a
 |_=>{ posonlyargs:=[],args:=[],vararg:=none,kwonlyargs:=[],kw_defaults:=[],kwarg:=none,defaults:=[] }
def c9(s:Stmt):List Stmt:=match s with
 |.FunctionDef _ _ b _ _ _ _ _ _ _=>b
 |_=>[]
def aq(s:Stmt):Scope:=match s with
 |.FunctionDef _ _ _ _ _ _ sc _ _ _=>sc
 |_=>{ kind:=.function,names:=[],isGenerator:=false,isCoroutine:=false }
abbrev CX0:CXT:=fun _ _ _ _ _ _=>False
abbrev E0:XK:=fun _ _ _=>False
def L0:uP CX0 X E0:=fun _ _ _ _ _ _ _ h=>h.elim
structure Fun(K:zbY)(x qual:Str)(st:Stmt)(f:Addr)(fd:FuncData):Prop where
 ex:∃(oc:Value) (od:Option Addr) (kV doc pm:Value) (an:Option Addr) (cdv ct:Value) (osl:Array (Option Value)),
  fd=PySem.W.fnOf x qual (e8 st) (c9 st) (aq st) .none kV doc pm an cdv ct/\K.lookup f=some ⟨oc,od,.func fd,osl⟩/\PySem.W.codeIn K cdv qual=true
 kp:PySem.W.keepIn K (.ref f)=true
section
variable{base:Heap}
def Fun.ok{N:List Str}{k:Nat}(F:Fun K x qual st f fd)(S:FnScope N ps (aq st))(len:∀vs H Q E,sp vs H Q E->vs.length=ps.length)
  (hbody:∀(cdv:Value) (A:Around) (outer:List Env) (s:Shared) (H:Hp) (vs:List V) (Q:VK) (E:XK),Room k (A.deeper (envOfC qual (aq st) s.heap.objs.size f cdv))->sp vs H Q E ->
   ∃t,PSs (mz CX0 P w K mg base N qual (aq st) f cdv A outer s H E).nox (c9 st) t/\t { nx:=fun _ H'=>Q .non H',rt:=Q } (start N vs) H):FnOk P w K mg base CX0 (k+1) f fd ps sp:=by
 obtain⟨oc,od,kV,doc,pm,an,cdv,ct,osl,rfl,lk,hcd⟩:=F.ex;refine Mi lk hcd S len fun A outer s H vs Q E hr hsp=>?_;obtain⟨t,h,q⟩:=hbody cdv A outer s H vs Q E hr hsp;exact⟨t,h.nox,q⟩
def Fun.binds(F:Fun K x qual st f fd)
  (h:∀(kV doc pm:Value) (an:Option Addr) (cdv ct:Value) (us:List Value),us.length=ps.length->bindArgs (PySem.W.fnOf x qual (e8 st) (c9 st) (aq st) .none kV doc pm an cdv ct) ⟨us,[]⟩=pure (ps.zip us)):Binds K fd ps []:=by
 obtain⟨oc,od,kV,doc,pm,an,cdv,ct,osl,rfl,lk,hcd⟩:=F.ex;exact .all (h kV doc pm an cdv ct)
def y3{oc:Value}{od an:Option Addr}{osl:Array (Option Value)}{kV doc pm cdv ct:Value}(l:K.lookup f=some ⟨oc,od,.func (PySem.W.fnOf x qual (e8 st) (c9 st) (aq st) .none kV doc pm an cdv ct),osl⟩)
  (c:PySem.W.codeIn K cdv qual=true) (k:PySem.W.keepIn K (.ref f)=true):Fun K x qual st f (PySem.W.fnOf x qual (e8 st) (c9 st) (aq st) .none kV doc pm an cdv ct):=⟨⟨oc,od,kV,doc,pm,an,cdv,ct,osl,rfl,l,c⟩,k⟩
end
def cH{k:Nat}(hr:Room k A):A.units+1<cLine:=zbK (Nat.add_le_add_left (by decide:1<=64) _) hr.units
def yq(h:n<=1000):n<sizeLine:=zbK h (by decide)
def pv(i:Nat)(hN:X.N[i]?=some x:=by rfl)(hv:Vis X.env.scope x:=by first|exact Or.inl rfl|exact Or.inr (Or.inl rfl)|exact Or.inr (Or.inr rfl))(hd:(x==("__debug__":Str))=false:=by decide)
  (hcd:(x==("__classdict__":Str))=false:=by decide):PE X (.Name x pos) (fY i):=cR hN hv hd hcd
def LA(H H':Hp):Prop:=∀b o,H b=some o->H' b=some o
section
variable{κ:Type}[DecidableEq κ]
def dX(kvs:List (κ×V))(k:κ):Option V:=(kvs.find? fun kv=>decide (kv.1=k)).map (·.2)
def cQ(kvs:List (κ×V))(k:κ)(v:V):List (κ×V):=
 if(kvs.any fun kv=>decide (kv.1=k))=true then kvs.map (fun kv=>if kv.1=k then(kv.1,v)else kv)else kvs++[(k,v)]
def kF{p:κ×V}{r:List (κ×V)}{k:κ}(e:p.1=k):dX (p::r) k=some p.2:=by simp[dX,zbo,e]
def kG{p:κ×V}{r:List (κ×V)}{k:κ}(e:¬p.1=k):dX (p::r) k=dX r k:=by simp[dX,zbo,e]
theorem sF(k:κ):∀kvs:List (κ×V),(kvs.any fun kv=>decide (kv.1=k))=(dX kvs k).isSome
 |[]=>rfl
 |p::r=>by
  rw[List.any_cons];by_cases e:p.1=k
  ·simp only[kF e,zaB e,Bool.true_or,Option.isSome_some]
  ·rw[kG e,zaA e,Bool.false_or];exact sF k r
def gQ(kvs:List (κ×V))(k:κ)(v:V):(cQ kvs k v).length<=kvs.length+1:=by
 unfold cQ;split
 ·rw[zad];omega
 ·rw[zae,zac,List.length_nil];omega
def RelO.isSome_eq{u:Option Value}(r:RelO o u):o.isSome=u.isSome:=by
 cases o with
 |none=>cases u with
  |none=>rfl
  |some _=>exact(show False from r).elim
 |some _=>cases u with
  |none=>exact(show False from r).elim
  |some _=>rfl
def KV.val{kvs:List (κ×V)}{vs:List (κ×Value)}(r:KV kvs vs)(k:κ):RelO (dX kvs k) (valueAt vs k):=by
 unfold KV at r
 induction r with
 |nil=>exact True.intro
 |@cons p q ps qs h t ih=>
  obtain⟨h1,h2⟩:=h;by_cases e:p.1=k
  ·have e':q.1=k:=h1.symm.trans e;have b:valueAt (q::qs) k=some q.2:=by simp[valueAt,zbo,e']
   rw[kF e,b];exact h2
  ·have e':¬q.1=k:=fun z=>e (h1.trans z);have b:valueAt (q::qs) k=valueAt qs k:=by simp[valueAt,zbo,e']
   rw[kG e,b];exact ih
theorem KV.any{kvs:List (κ×V)}{vs:List (κ×Value)}(r:KV kvs vs)(k:κ):(kvs.any fun kv=>decide (kv.1=k))=vs.any fun kv=>decide (kv.1=k):=by
 unfold KV at r
 induction r with
 |nil=>rfl
 |cons h t ih=>rw[List.any_cons,List.any_cons,ih,h.1]
def KV.repl{kvs:List (κ×V)}{vs:List (κ×Value)}(r:KV kvs vs)(k:κ)(ry:RelV y u):
  KV (kvs.map fun kv=>if kv.1=k then(kv.1,y)else kv) (vs.map fun kv=>if kv.1=k then(kv.1,u)else kv):=by
 unfold KV at r ⊢
 induction r with
 |nil=>exact .nil
 |@cons p q ps qs h t ih=>
  rw[zar,zar];refine .cons ?_ ih;obtain⟨h1,h2⟩:=h;by_cases e:p.1=k
  ·rw[if_pos e,if_pos (h1.symm.trans e)];exact⟨h1,ry⟩
  ·rw[if_neg e,if_neg (fun z=>e (h1.trans z))];exact⟨h1,h2⟩
def KV.put{kvs:List (κ×V)}{vs:List (κ×Value)}(r:KV kvs vs)(k:κ)(ry:RelV y u):KV (cQ kvs k y) (stored vs k u):=by
 unfold cQ stored;rw[r.any k];by_cases e:(vs.any fun kv=>decide (kv.1=k))=true
 ·rw[if_pos e,if_pos e];exact r.repl k ry
 ·rw[if_neg e,if_neg e];exact Paired.snoc r ⟨rfl,ry⟩
def KV.length{kvs:List (κ×V)}{vs:List (κ×Value)}(r:KV kvs vs):kvs.length=vs.length:=Paired.length r
end
def kY{k:Key}(r:RelV (kV k) u):(bz P w).is k u=true:=by
 cases k with
 |inl i=>obtain⟨t,e⟩:=(show ∃t,u=Value.int i t from r);subst e;exact vo P w i t
 |inr x=>obtain⟨t,e⟩:=(show ∃t,u=Value.str x t from r);subst e;exact vn P w x t
def J8{a b:Key}(e:kV a=kV b):a=b:=by
 cases a with
 |inl i=>cases b with
  |inl j=>have e':V.int i=V.int j:=e;injection e' with e';rw[e']
  |inr y=>exact nomatch (show V.int i=V.str y from e)
 |inr x=>cases b with
  |inl j=>exact nomatch (show V.str x=V.int j from e)
  |inr y=>have e':V.str x=V.str y:=e;injection e' with e';rw[e']
theorem re{P:Program}{w:World}:∀{ks:List Key} {us:List Value},Vals (ks.map kV) us->ItemsAre (bz P w) ks us
 |[],_,r=>by rw[za0]at r;cases r;exact .nil
 |k::ks,_,r=>by
  rw[zar]at r;cases r with
  |cons h t=>exact .cons (kY h) (re t)
abbrev KT(H:Hp):List (List Key×V)->List (List Key×Addr×Value)->Prop:=Paired fun p q=>p.1=q.1/\H q.2.1=some (.tup (p.1.map kV))/\RelV p.2 q.2.2
def KT.val(r:KT H kvs xs)(k:List Key):RelO (dX kvs k) ((atKey xs k).map (·.2)):=by
 induction r with
 |nil=>exact True.intro
 |@cons p q ps qs h t ih=>
  obtain⟨h1,_,h2⟩:=h;by_cases e:p.1=k
  ·have e':q.1=k:=h1.symm.trans e;have b:atKey (q::qs) k=some q.2:=by simp[atKey,zbo,e']
   rw[kF e,b];exact h2
  ·have e':¬q.1=k:=fun z=>e (h1.trans z);have b:atKey (q::qs) k=atKey qs k:=by simp[atKey,zbo,e']
   rw[kG e,b];exact ih
def KT.repl(r:KT H kvs xs)(k:List Key)(ry:RelV y u):
  KT H (kvs.map fun kv=>if kv.1=k then(kv.1,y)else kv) (xs.map (putAt k u)):=by
 induction r with
 |nil=>exact .nil
 |@cons p q ps qs h t ih=>
  rw[zar,zar];refine .cons ?_ ih;obtain⟨h1,h2,h3⟩:=h;unfold putAt;by_cases e:p.1=k
  ·rw[if_pos e,if_pos (h1.symm.trans e)];exact⟨h1,h2,ry⟩
  ·rw[if_neg e,if_neg (fun z=>e (h1.trans z))];exact⟨h1,h2,h3⟩
def KT.put(r:KT H kvs xs)(k:List Key){b:Addr}(hb:H b=some (.tup (k.map kV)))(ry:RelV y u):
  KT H (cQ kvs k y) (storedH xs k b u):=by
 have e:(kvs.any fun kv=>decide (kv.1=k))=(atKey xs k).isSome:=by
  rw[sF,(r.val k).isSome_eq,Option.isSome_map]
 unfold cQ storedH;rw[e];by_cases q:(atKey xs k).isSome=true
 ·rw[if_pos q,if_pos q];exact r.repl k ry
 ·rw[if_neg q,if_neg q];exact Paired.snoc r ⟨rfl,hb,ry⟩
def KT.keeps(r:KT H kvs xs)(ht:∀b ys,H b=some (.tup ys)->H' b=some (.tup ys)):KT H' kvs xs:=
 Paired.mapP r fun _ _ z=>⟨z.1,ht _ _ z.2.1,z.2.2⟩
section
variable{h:Heap} 
def Eo{u:HO}(ok:HOk P w H h)(e:Rd H a u):ObjOk P w H h a u:=e.ok ok
def iP{kvs:List (Key×V)}(ok:HOk P w H h)(e:Rd H a (.dK kvs)):kvs.length<=sizeLine/\(a==sysModules)=false/\∃vs,KV kvs vs/\h.DictOf (bz P w) a vs:=
 show ObjOk P w H h a (.dK kvs)from Eo ok e
def sA{kvs:List (Key×V)}(ok:HOk P w H h)(e:H a=some (.dK kvs)):kvs.length<=sizeLine/\(a==sysModules)=false/\∃vs,KV kvs vs/\h.DictOf (bz P w) a vs:=iP ok (.inl e)
def mn{ks:List Key}(ok:HOk P w H h)(e:H a=some (.tup (ks.map kV))):(tupleKind (bz P w)).is h ks a:=by
 obtain⟨_,its,r,o,h1,h2,n,h3⟩:=(show ObjOk P w H h a (.tup (ks.map kV))from ok a _ e);exact⟨o,its.toArray,n,h1,h2,h3.1,by simpa using re r⟩
def ni(ok:HOk P w H h)(e:Rd H a (.dT kvs)):kvs.length<=sizeLine/\(a==sysModules)=false /\
  ∃xs,KT H kvs xs/\h.DictOfH (tupleKind (bz P w)) a xs:=by
 obtain⟨z,y,xs,r,o,es,ep,h1,h2,h3,h4,h5⟩:=(show ObjOk P w H h a (.dT kvs)from Eo ok e);refine⟨z,y,xs,r,o,es,ep,h1,h2,h3,h4,fun x hx=>?_,h5⟩;have all:∀{l:List (List Key×V)} {m:List (List Key×Addr×Value)},KT H l m->∀x∈m,(tupleKind (bz P w)).is h x.1 x.2.1:=by
  intro l m q
  induction q with
  |nil=>intro x hx;exact nomatch hx
  |@cons p q ps qs hq t ih=>
   intro x hx;rcases zay.mp hx with e|hx
   ·subst e;exact mn ok (by rw[<-hq.1];exact hq.2.1)
   ·exact ih x hx
 exact all r x hx
def xE(ok:HOk P w H h)(e:H a=some (.dT kvs)):kvs.length<=sizeLine/\(a==sysModules)=false /\
  ∃xs,KT H kvs xs/\h.DictOfH (tupleKind (bz P w)) a xs:=ni ok (.inl e)
end
def DGet(H:Hp)(a:Addr)(y:V)(r:Option V):Prop:=
 (∃kvs k,Rd H a (.dK kvs)/\y=kV k/\r=dX kvs k)\/∃kvs k b,Rd H a (.dT kvs)/\y=.ref b/\H b=some (.tup (k.map kV))/\r=dX kvs k
def DPut(H:Hp)(a:Addr)(y v:V)(H':Hp):Prop:=
 (∃kvs k,H a=some (.dK kvs)/\y=kV k/\kvs.length<sizeLine/\H'=upd H a (.dK (cQ kvs k v))) \/
 ∃kvs k b,H a=some (.dT kvs)/\y=.ref b/\H b=some (.tup (k.map kV))/\kvs.length<sizeLine/\H'=upd H a (.dT (cQ kvs k v))
def DGet.k{H:Hp}{a:Addr}{kvs:List (Key×V)}{k:Key}(e:H a=some (.dK kvs)):DGet H a (kV k) (dX kvs k):=.inl ⟨kvs,k,.inl e,rfl,rfl⟩
def DPut.k{H:Hp}{a:Addr}{kvs:List (Key×V)}{k:Key}{v:V}(e:H a=some (.dK kvs))(hl:kvs.length<sizeLine):DPut H a (kV k) v (upd H a (.dK (cQ kvs k v))):=.inl ⟨kvs,k,e,rfl,hl,rfl⟩
section
variable{v:V}{r:Value}  
def Inv.big(I:Inv X ρ σ H s):sysModules<s.heap.objs.size:=by
 have h:mainGlobals<s.heap.objs.size:=(I.mod.glob.keeps I.bk).lt;exact Nat.lt_trans (by decide) h
def zJ(hu:A.units+1<cLine)(I:Inv X ρ σ H s)(g:DGet H a y (some v))(ry:RelV y u)(h:∀w' s',Inv X ρ σ H s'->RelV v w'->Q w' s'):
  wpAny (model X.prog X.w) A (getItem (.ref a) u) Q E s:=by
 rcases g with⟨kvs,k,e,ey,l⟩|⟨kvs,k,b,e,ey,eb,l⟩
 ·subst ey;obtain⟨z,hd,vs,rel,dd⟩:=iP I.hok e;obtain⟨w',hw,rw'⟩:=RelO.some_of (v:=v) (o:=valueAt vs k) (by rw[l];exact rel.val k);exact wpAny_getItem_of (kY ry) dd.mapOf hw (h w' _ (I.tok _) rw')
 ·subst ey;cases(show u=Value.ref b from ry);obtain⟨z,hd,xs,rel,dd⟩:=ni I.hok e;obtain⟨w',hw,rw'⟩:=RelO.some_of (v:=v) (o:=(atKey xs k).map (·.2)) (by rw[l];exact rel.val k);obtain⟨p,hp,hp2⟩:=zab.mp hw;refine wpAny_getItem_heap (tupleKind_room_in1 hu) (mn I.hok eb) dd hp ?_;rw[hp2];exact h w' _ (I.tok _) rw'
def Np(hu:A.units+1<cLine)(I:Inv X ρ σ H s)(g:DGet H a y o)(ry:RelV y u)(h:∀s',Inv X ρ σ H s'->Q (.bool o.isSome) s'):
  wpAny (model X.prog X.w) A (compareOp .In u (.ref a)) Q E s:=by
 rcases g with⟨kvs,k,e,ey,l⟩|⟨kvs,k,b,e,ey,eb,l⟩
 ·subst ey;obtain⟨z,hd,vs,rel,dd⟩:=iP I.hok e;refine wpAny_in_of (kY ry) hd dd.mapOf ?_;rw[<-(rel.val k).isSome_eq,<-l];exact h _ (I.tok _)
 ·subst ey;cases(show u=Value.ref b from ry);obtain⟨z,hd,xs,rel,dd⟩:=ni I.hok e;refine wpAny_in_heap (tupleKind_room_in1 hu) (mn I.hok eb) hd dd ?_;have q:=(rel.val k).isSome_eq;rw[Option.isSome_map]at q;rw[<-q,<-l];exact h _ (I.tok _)
def GJ(hu:A.units+1<cLine)(I:Inv X ρ σ H s)(g:DGet H a y o)(ry:RelV y u)(h:∀s',Inv X ρ σ H s'->Q (.bool (!o.isSome)) s'):
  wpAny (model X.prog X.w) A (compareOp .NotIn u (.ref a)) Q E s:=by
 rcases g with⟨kvs,k,e,ey,l⟩|⟨kvs,k,b,e,ey,eb,l⟩
 ·subst ey;obtain⟨z,hd,vs,rel,dd⟩:=iP I.hok e;refine wpAny_notIn_of (kY ry) hd dd.mapOf ?_;rw[<-(rel.val k).isSome_eq,<-l];exact h _ (I.tok _)
 ·subst ey;cases(show u=Value.ref b from ry);obtain⟨z,hd,xs,rel,dd⟩:=ni I.hok e;refine wpAny_notIn_heap (tupleKind_room_in1 hu) (mn I.hok eb) hd dd ?_;have q:=(rel.val k).isSome_eq;rw[Option.isSome_map]at q;rw[<-q,<-l];exact h _ (I.tok _)
def nj{t':Nat}{ob:HO}(I:Inv X ρ σ H s)(mu:Mut (H a))(hs:Heap.SameBut a s.heap h')(he:∃q,h'.get? a=some q)(new:ObjOk X.prog X.w (upd H a ob) h' a ob):
  Inv X ρ σ (upd H a ob) { s with heap:=h',toks:=t' }:=
 I.write (x:=a) (e:=a) mu (.inl rfl) (fun b q hb z=>(hs.2 b hb).trans z) he new
def uC{kvs:List (Key×V)}{vs:List (Key×Value)}(z:kvs.length<=sizeLine)(hd:(a==sysModules)=false)(rel:KV kvs vs)(dd:h'.DictOf (bz P w) a vs):
  ObjOk P w H' h' a (.dK kvs):=⟨z,hd,vs,rel,dd⟩
def zI{Q:Unit->Shared->Prop}(hu:A.units+1<cLine)(I:Inv X ρ σ H s)(g:DPut H a y v H')(ry:RelV y u)(rv:RelV v r)(h:∀s',Inv X ρ σ H' s'->Q () s'):
  wpAny (model X.prog X.w) A (setItem (.ref a) u r) Q E s:=by
 rcases g with⟨kvs,k,e,ey,l,eH⟩|⟨kvs,k,b,e,ey,eb,l,eH⟩
 ·subst ey eH;obtain⟨z,hd,vs,rel,dd⟩:=sA I.hok e;have hz:vs.length<=sizeLine:=by rw[<-rel.length];exact z
  have hl:(cQ kvs k v).length<=sizeLine:=by have:=gQ kvs k v;omega
  refine wpAny_setItem_pairs (hsz:=hz) (kY ry) dd fun h' dd' hs=>h _ ?_;have he:∃q,h'.get? a=some q:=let⟨q,_,_,hq,_⟩:=dd';⟨q,hq⟩;exact nj I (by rw[e];exact True.intro) hs he (uC hl hd (rel.put k rv) dd')
 ·subst ey eH;cases(show u=Value.ref b from ry);obtain⟨z,hd,xs,rel,dd⟩:=xE I.hok e;have hz:xs.length<=sizeLine:=by rw[<-Paired.length rel];exact z
  have hl:(cQ kvs k v).length<=sizeLine:=by have:=gQ kvs k v;omega
  refine wpAny_setItem_heap (hsz:=hz) (tupleKind_room_in1 hu) (mn I.hok eb) dd fun h' dd' hs=>h _ ?_;obtain⟨q,es,ep,hq,h2,h3,h4,_,h5⟩:=dd';refine nj I (by rw[e];exact True.intro) hs ⟨q,hq⟩ ⟨hl,hd,_,(rel.put k eb rv).keeps fun c ys ec=>?_,q,es,ep,hq,h2,h3,h4,h5⟩;rw[aN (L7 ec e (fun z=>nomatch z))];exact ec
end
def qR(i:Expr):Prop:=∀ov iv,subscripted i false ov iv=operate [ov,iv] (getItem ov iv)
def ES{prog:Program}{env:Env}{slice:Expr}{T id:String} 
  (hl:typeLookup (.type T) "__getitem__"=pure (some (.builtin id))) (hs:qR slice)
  (h:wpAny (model prog w) A (eval value env) (fun o s₁=>wpAny (model prog w) A (eval slice env) (fun i s₂=>s₂.TypeIs o T/\wpAny (model prog w) A (getItem o i) Q E s₂) E s₁) E s):
  wpAny (model prog w) A (eval (.Subscript value slice pos) env) Q E s:=by
 refine Subscript_ (wpAny_mono h (fun o s₁ h₁=>wpAny_mono h₁ (fun i s₂ h₂=>?_) fun _ _ x=>x) fun _ _ x=>x);obtain⟨hT,h₂⟩:=h₂;unfold subscriptTail;refine zam ?_;rw[getitemInPython_of_ne hT.not_modules];refine zam (wpAny_specialOf hT hl ?_);have fin:wpAny (model prog w) A (subscripted slice false o i) (fun r s₃=>wpAny (model prog w) A (letTemporaryGo value o r >>= fun _=>pure r) Q E s₃) E s₂:=by
  rw[hs o i];exact wpAny_operating (wpAny_mono h₂ (fun r s₃ h₃=>zam (wpAny_letTemporaryGo (zaT h₃))) fun _ _ x=>x)
 first
  |exact zaT (zam fin)
  |exact zam (zaT (zam fin))
  |exact zam fin
def vt(I:Inv X ρ σ H s)(g:DGet H a y o):s.TypeIs (.ref a) "dict":=by
 rcases g with⟨kvs,k,e,_,_⟩|⟨kvs,k,b,e,_,_,_⟩
 ·obtain⟨_,_,vs,_,dd⟩:=iP I.hok e;exact dd.typeIs
 ·obtain⟨_,_,xs,_,dd⟩:=ni I.hok e;exact dd.typeIs
def wI(td ty:TE):TE:=fun σ H Q=>td σ H fun x H1=>ty σ H1 fun y H2=>∃a v,x=.ref a/\DGet H2 a y (some v)/\Q v H2
def Jc(ty td:TE):TE:=fun σ H Q=>ty σ H fun y H1=>td σ H1 fun x H2=>∃a o,x=.ref a/\DGet H2 a y o/\Q (.bl o.isSome) H2
def vK(ty td:TE):TE:=fun σ H Q=>ty σ H fun y H1=>td σ H1 fun x H2=>∃a o,x=.ref a/\DGet H2 a y o/\Q (.bl (!o.isSome)) H2
def Em(td ty tv:TE):TS:=fun D σ H=>tv σ H fun v H1=>td σ H1 fun x H2=>ty σ H2 fun y H3=>∃a H4,x=.ref a/\DPut H3 a y v H4/\D.nx σ H4
section
variable{o i e:Expr}{pos' tpos:Pos}{td ty:TE}
def vT(hu:X.A.units+1<cLine)(ho:PE X o td)(hi:PE X i ty)(hs:qR i):PE X (.Subscript o i pos) (wI td ty):=by
 intro ρ s σ H Q I h;refine ES PySem.F.slot_dict_getitem.lookup hs (thn (ho ρ s σ H _ I h) fun u s1 ⟨x,H1,I1,rx,q1⟩=>thn (hi ρ s1 σ H1 _ I1 q1) fun iv s2 ⟨y,H2,I2,ry,a,v,ex,g,q2⟩=>?_);subst ex;obtain rfl:u=Value.ref a:=rx;exact⟨vt I2 g,zJ hu I2 g ry fun w' s3 I3 rw'=>⟨v,H2,I3,rw',q2⟩⟩
def JO(hu:X.A.units+1<cLine)(hi:PE X i ty)(ho:PE X o td):PC X .In i o (Jc ty td):=by
 intro ρ s σ H Q I h;refine thn (hi ρ s σ H _ I h) fun iv s1 ⟨y,H1,I1,ry,q1⟩=>thn (ho ρ s1 σ H1 _ I1 q1) fun u s2 ⟨x,H2,I2,rx,a,ov,ex,g,q2⟩=>?_;subst ex;obtain rfl:u=Value.ref a:=rx;exact Np hu I2 g ry fun s3 I3=>⟨.bl ov.isSome,H2,I3,rfl,q2⟩
def yD(hu:X.A.units+1<cLine)(hi:PE X i ty)(ho:PE X o td):PC X .NotIn i o (vK ty td):=by
 intro ρ s σ H Q I h;refine thn (hi ρ s σ H _ I h) fun iv s1 ⟨y,H1,I1,ry,q1⟩=>thn (ho ρ s1 σ H1 _ I1 q1) fun u s2 ⟨x,H2,I2,rx,a,ov,ex,g,q2⟩=>?_;subst ex;obtain rfl:u=Value.ref a:=rx;exact GJ hu I2 g ry fun s3 I3=>⟨.bl (!ov.isSome),H2,I3,rfl,q2⟩
def E6(hu:X.A.units+1<cLine)(ho:PE X o td)(hi:PE X i ty)(hv:PE X value tv)(hs:swapsWith value (some (.Subscript o i pos')) pos.line X.env=pure false):
  PS X (.Assign [.Subscript o i pos'] value pos) (Em td ty tv):=by
 intro ρ s σ H D I h;refine wpAny_Assign_Subscript (thn (hv ρ s σ H _ I h) fun r s1 ⟨v,H1,I1,rv,q1⟩=>thn (ho ρ s1 σ H1 _ I1 q1) fun u s2 ⟨x,H2,I2,rx,q2⟩=>thn (hi ρ s2 σ H2 _ I2 q2) fun iv s3 ⟨y,H3,I3,ry,a,H4,ex,g,q3⟩=>?_) hs;subst ex;obtain rfl:u=Value.ref a:=rx;exact zI hu I3 g ry rv fun s4 I4=>⟨σ,H4,I4,q3⟩
end
def uD(h:Heap)(hb:sysModules<h.objs.size):ObjOk P w H (h.push { cls:=.type "dict",data:=.dict #[] }) h.objs.size (.dK []):=
 ⟨zbj _,zbR.mpr (Ne.symm (zaw hb)),[],.nil,Heap.DictOf.new h⟩
def Jb:TE:=fun _ H Q=>∀p,H p=none->Q (.ref p) (upd H p (.dK []))
def pe_dnewK:PE X (.Dict [] [] pos) Jb:=fun ρ s σ H Q I h=>
 wpAny_Dict_empty ⟨.ref s.heap.objs.size,_,I.laid (a:=s.heap.objs.size) (o:=.dK []) (t':=s.toks) (fun _ _ q=>zaf _ q) (zav _) (uD s.heap I.big),rfl,h _ (I.hok.fresh (zav _))⟩
def oR:List (TE×TE)->St->Hp->(List (V×V)->Hp->Prop)->Prop
 |[],_,H,Q=>Q [] H
 | (tk,tv)::r,σ,H,Q=>tk σ H fun x H1=>tv σ H1 fun y H2=>oR r σ H2 fun ps H3=>Q ((x,y)::ps) H3
abbrev VV:List (V×V)->List (Value×Value)->Prop:=Paired fun p q=>RelV p.1 q.1/\RelV p.2 q.2
def PPs(X:Cx)(pos:Pos)(keys:List (Option Expr))(values:List Expr)(trs:List (TE×TE)):Prop:=
 ∀(ρ:List (Addr×Obj)) (s:Shared) (σ:St) (H:Hp) (Q:List (V×V)->Hp->Prop),Inv X ρ σ H s->oR trs σ H Q ->
  wpAny (model X.prog X.w) X.A (evalPairs (pairTrees keys values X.env pos)) (fun vs s'=>∃ps H',Inv X ρ σ H' s'/\VV ps vs/\Q ps H') X.xe s
def E8:PPs X pos [] [] []:=fun ρ s σ H Q I h=>pairTrees_nil_walk ⟨[],H,I,.nil,h⟩
def As{k v:Expr}{ks:List (Option Expr)}{vs:List Expr}{tk:TE}{trs:List (TE×TE)}(hk:PE X k tk)(hv:PE X v tv)(hr:PPs X pos ks vs trs):
  PPs X pos (some k::ks) (v::vs) ((tk,tv)::trs):=fun ρ s σ H Q I h=>
 pairTrees_cons_walk (thn (hk ρ s σ H _ I h) fun u s1 ⟨x,H1,I1,rx,q1⟩=>thn (hv ρ s1 σ H1 _ I1 q1) fun w2 s2 ⟨y,H2,I2,ry,q2⟩=>
  thn (hr ρ s2 σ H2 _ I2 q2) fun ws s3 ⟨ps,H3,I3,rel,q3⟩=>⟨(x,y)::ps,H3,I3,.cons ⟨rx,ry⟩ rel,q3⟩)
def ia(kvs more:List (Key×V)):List (Key×V):=more.foldl (fun acc kv=>cQ acc kv.1 kv.2) kvs
def KV.merge:∀{more:List (Key×V)} {rs:List (Key×Value)} {kvs:List (Key×V)} {vs:List (Key×Value)},KV more rs->KV kvs vs->KV (ia kvs more) (merged vs rs):=by
 intro more rs kvs vs r;unfold KV at r
 induction r generalizing kvs vs with
 |nil=>intro q;exact q
 |@cons p q ps qs h t ih=>
  intro r0;have e:KV (cQ kvs p.1 p.2) (stored vs q.1 q.2):=by
   have:=r0.put p.1 h.2;rw[<-h.1];exact this
  exact ih e
theorem lJ:∀(more kvs:List (Key×V)),(ia kvs more).length<=kvs.length+more.length
 |[],kvs=>by show kvs.length<=kvs.length+0;omega
 |p::r,kvs=>by
  have h1:=lJ r (cQ kvs p.1 p.2);have h2:=gQ kvs p.1 p.2;show(ia (cQ kvs p.1 p.2) r).length<=_;rw[zac];omega
theorem pO{P:Program}{w:World}:∀{kvs:List (Key×V)} {ws:List (Value×Value)},VV (kvs.map fun kv=>(kV kv.1,kv.2)) ws->∃rs,Carries (bz P w) ws rs/\KV kvs rs
 |[],_,r=>by rw[za0]at r;cases r;exact⟨[],True.intro,.nil⟩
 |p::kvs,_,r=>by
  rw[zar]at r;cases r with
  |@cons a b as bs h t=>
   obtain⟨rs,c,q⟩:=pO (P:=P) (w:=w) t;obtain⟨b1,b2⟩:=b;exact⟨(p.1,b2)::rs,⟨kY h.1,rfl,c⟩,.cons ⟨rfl,h.2⟩ q⟩
def Ei(trs:List (TE×TE)):TE:=fun σ H Q=>∀p,H p=none->oR trs σ (upd H p (.dK [])) fun ps H2=>H2 p=some (.dK [])/\∃kvs:List (Key×V),ps=kvs.map (fun kv=>(kV kv.1,kv.2))/\kvs.length<=15/\Q (.ref p) (upd H2 p (.dK (ia [] kvs)))
def Ff{keys:List (Option Expr)}{values:List Expr}{trs:List (TE×TE)}(h:PPs X pos keys values trs)(hall:keys.all (·.isSome)=true)(hl:keys.length=values.length)(h0:keys≠[])
  (h15:keys.length<=15):PE X (.Dict keys values pos) (Ei trs):=by
 intro ρ s σ H Q I q;have hn:=I.hok.fresh (zav s.heap.objs.size);have I1:=I.laid (a:=s.heap.objs.size) (o:=.dK []) (h':=s.heap.push { cls:=.type "dict",data:=.dict #[] }) (t':=s.toks) (fun _ _ q=>zaf _ q) (zav _) (uD s.heap I.big);refine wpAny_Dict_walk (knd:=bz X.prog X.w) hall hl h0 h15 (thn (h ρ _ σ _ _ I1 (q _ hn)) fun ws s2 ⟨ps,H2,I2,rel,e,kvs,ep,lk,q2⟩=>?_);subst ep;obtain⟨rs,c,rk⟩:=pO (P:=X.prog) (w:=X.w) rel;obtain⟨z,hd,vs0,r0,dd⟩:=sA I2.hok e;cases r0;refine⟨rs,c,dd,fun h' dd' hs=>⟨.ref s.heap.objs.size,_,?_,rfl,q2⟩⟩;have hz:(ia [] kvs).length<=sizeLine:=by
  have h1:=lJ kvs [];rw[List.length_nil]at h1;rw[sizeLine_eq];omega
 have he:∃q,h'.get? s.heap.objs.size=some q:=let⟨q,_,_,hq,_⟩:=dd';⟨q,hq⟩;exact nj I2 (by rw[e];exact True.intro) hs he (uC hz hd (rk.merge .nil) dd')
structure M2(X:Cx)(o:Expr)(m:Str)(μ:Pos)(e f:Expr)(ω:Pos):Prop where
 base:attributeBase o m X.env (eval o X.env)=eval o X.env
 few:((backTo ω (starEach [e,f] X.env)).all (fun x=>!x.1)&&(backToKw ω (keywordEach [] X.env)).all (fun x=>x.1.isSome)
 &&decide (([e,f]:List Expr).length+([]:List Keyword).length+(if([]:List Keyword).isEmpty then 0 else 1)<30))=true
 line:(μ.endLine==ω.line)=true
 trees:backTo ω (starEach [e,f] X.env)=[(false,eval e X.env),(false,eval f X.env)]
def IsD(H:Hp)(a:Addr):Prop:=(∃kvs,Rd H a (.dK kvs))\/∃kvs,Rd H a (.dT kvs)
def Kp(I:Inv X ρ σ H s)(d:IsD H a):
  s.TypeIs (.ref a) "dict"/\(∀b,Value.ref a=.ref b->∃ob,s.heap.get? b=some ob/\ob.dict=none)/\(a==sysModules)=false:=by
 rcases d with⟨kvs,e⟩|⟨kvs,e⟩
 ·obtain⟨_,hd,vs,_,dd⟩:=iP I.hok e;refine⟨dd.typeIs,fun b q=>?_,hd⟩;cases q;obtain⟨ob,_,_,h1,h2,_⟩:=dd;exact⟨ob,h1,h2.2.1⟩
 ·obtain⟨_,hd,xs,_,dd⟩:=ni I.hok e;refine⟨dd.typeIs,fun b q=>?_,hd⟩;cases q;obtain⟨ob,_,_,h1,h2,_⟩:=dd;exact⟨ob,h1,h2.2.1⟩
end L2
set_option maxHeartbeats 4000000
namespace L2
variable{scope sc0:Scope}{env:Env}{names:List (Str×NameKind)}{n c k i j d d1 d2 d' dr cd:Nat}{X:Cx}{M:Model}{A:Around}{E:Value->Shared->Prop}{ρ:List (Addr×Obj)}{σ σ':St}{H H2 H' H1 H0:Hp}{fp:List Addr}{p p2 p1 q:Bool}{o u:HO}{w:World}{K:zbY}{elts es ifs:List Expr}{tp pos ω μ ζ pos' px:Pos}{e tg elt iter b:Expr}{te tk:TE}{x z:Str}{ps N ns N0:List Str}{l sl jt tu a:Addr}{prog:Program}{Q Q':VK}{js:List (Option Nat)}{vs:List V}{v y:V}{ds ds1 ds2 ds' ds0 dps lk dsi:List Nat}{t':TT}{op op':CmpOp}{T:String}{Dn:Ends}{st:Stmt}{r r':List V->Hp->VK->Prop}{fn:Value}
open PySem PySem.Spec PyProof.Rows
def Gb{α β:Type}{l:List α}{f:α->β->Sem (ForInStep β)}{g:β->α->β}(h:∀x∈l,∀c,f x c=pure (.yield (g c x))):∀c,forIn l c f=pure (l.foldl g c):=by
 induction l with
 |nil=>intro c;rfl
 |cons x l ih=>
  intro c;rw[List.forIn_cons,h x zaq,pure_bind];exact ih (fun y hy=>h y (zaj _ hy)) (g c x)
def fu(env:Env)(acc:List (Str×Addr))(x:Str×NameKind):List (Str×Addr):=
 if x.2==NameKind.free then(x.1,(env.cells.lookup x.1).getD 0)::acc else acc
def eJ(env:Env)(names:List (Str×NameKind)):List (Str×Addr):=names.foldl (fu env) []
def pL(h:∀y∈scope.names,y.2=.free->∃c,env.cells.lookup y.1=some c):closureFor scope env=pure (eJ env scope.names):=by
 simp only[closureFor];rw[Gb (g:=fu env) (fun x hx c=>by
  obtain⟨n,kind⟩:=x;by_cases hk:kind=.free
  ·obtain⟨a,e⟩:=h _ hx hk;subst hk;have e':env.cells.lookup n=some a:=e;simp[cellOf,fu,e']
  ·have hb:(kind==NameKind.free)=false:=by simpa using hk
   simp[fu,hb])]
 rfl
theorem pM{env:Env}:∀(names:List (Str×NameKind)) (acc:List (Str×Addr)) (p:Str×Addr),
  p∈names.foldl (fu env) acc->p∈acc\/((p.1,NameKind.free)∈names/\p.2=(env.cells.lookup p.1).getD 0)
 |[],_,_,h=>.inl h
 | (n,k)::r,acc,p,h=>by
  rw[List.foldl_cons]at h;rcases pM r _ p h with q|⟨q,e⟩
  ·unfold fu at q;by_cases hk:(k==NameKind.free)=true
   ·rw[if_pos hk]at q;rcases zay.mp q with z|z
    ·subst z;have hk':k=NameKind.free:=by simpa using hk
     subst hk';exact .inr ⟨zaq,rfl⟩
    ·exact .inl z
   ·rw[if_neg hk]at q;exact .inl q
  ·exact .inr ⟨zaj _ q,e⟩
theorem nH{env:Env}:∀(names:List (Str×NameKind)) (acc:List (Str×Addr)) (p:Str×Addr),p∈acc->p∈names.foldl (fu env) acc
 |[],_,_,h=>h
 |x::r,acc,p,h=>by
  rw[List.foldl_cons];refine nH r _ p ?_;unfold fu;split
  ·exact zaj _ h
  ·exact h
theorem pN{env:Env}{n:Str}:∀(names:List (Str×NameKind)) (acc:List (Str×Addr)),(n,NameKind.free)∈names->∃c,(n,c)∈names.foldl (fu env) acc
 | (m,k)::r,acc,h=>by
  rw[List.foldl_cons];rcases zay.mp h with e|e
  ·cases e;exact⟨(env.cells.lookup n).getD 0,nH r _ _ (by unfold fu;rw[if_pos (show(((n,NameKind.free):Str×NameKind).2==NameKind.free)=true from rfl)];exact zaq)⟩
  ·exact pN r _ e
theorem iu{α:Type}:∀{l:List (Str×α)} {n:Str} {c:α},(n,c)∈l->∃c',l.lookup n=some c'
 | (m,d)::r,n,c,h=>by
  rw[zas];cases hb:n==m with
  |true=>exact⟨d,rfl⟩
  |false=>
   rcases zay.mp h with e|e
   ·cases e;simp at hb
   ·exact iu e
def uG{n:Str}(h:(n,NameKind.free)∈names):∃c,(eJ env names).lookup n=some c:=
 let⟨_,e⟩:=pN (env:=env) names [] h
 iu e
def rp{n:Str}{c:Addr}(h:∀y∈names,y.2=.free->∃c,env.cells.lookup y.1=some c)(e:(eJ env names).lookup n=some c):env.cells.lookup n=some c:=by
 rcases pM names [] (n,c) (zaU e)with q|⟨q,z⟩
 ·simp at q
 ·obtain⟨a,ea⟩:=h _ q rfl;have z':c=(env.cells.lookup n).getD 0:=z;have ea':env.cells.lookup n=some a:=ea;rw[ea']at z';rw[ea',z'];rfl
theorem kL{env:Env}:∀{names:List (Str×NameKind)} {x:Str} {k:NameKind},
  (names.map fun(n,k)=>if(k==NameKind.free&&env.scope.kind==.function&&env.kindOf n==some .cell)then(n,NameKind.cell)else(n,k)).lookup x=some k ->
  names.lookup x=some k\/(names.lookup x=some .free/\k=.cell)
 |[],_,_,h=>by simp at h
 | (n,k0)::r,x,k,h=>by
  rw[zar]at h;cases hx:x==n with
  |true=>
   rcases Bool.eq_false_or_eq_true (k0==NameKind.free&&env.scope.kind==.function&&env.kindOf n==some .cell)with hc|hc
   ·simp only[hc,if_true,zas,hx]at h;have hk:k0=.free:=by
     simp only[zbm,beq_iff_eq]at hc;exact hc.1.1
    refine .inr ⟨?_,?_⟩
    ·simp only[zas,hx,hk]
    ·exact(zat h).symm
   ·simp only[hc,Bool.false_eq_true,if_false,zas,hx]at h;refine .inl ?_;simp only[zas,hx];exact h
  |false=>
   have h':(r.map fun(n,k)=>if(k==NameKind.free&&env.scope.kind==.function&&env.kindOf n==some .cell)then(n,NameKind.cell)else(n,k)).lookup x=some k:=by
    rcases Bool.eq_false_or_eq_true (k0==NameKind.free&&env.scope.kind==.function&&env.kindOf n==some .cell)with hc|hc
    ·simp only[hc,if_true,zas,hx]at h;exact h
    ·simp only[hc,Bool.false_eq_true,if_false,zas,hx]at h;exact h
   simp only[zas,hx];exact kL h'
theorem kM{env:Env}:∀{names:List (Str×NameKind)} {x:Str},names.lookup x=some .free ->
  (names.map fun(n,k)=>if(k==NameKind.free&&env.scope.kind==.function&&env.kindOf n==some .cell)then(n,NameKind.cell)else(n,k)).lookup x=some .cell \/
  (names.map fun(n,k)=>if(k==NameKind.free&&env.scope.kind==.function&&env.kindOf n==some .cell)then(n,NameKind.cell)else(n,k)).lookup x=some .free
 |[],_,h=>by simp at h
 | (n,k0)::r,x,h=>by
  rw[zar];cases hx:x==n with
  |true=>
   simp only[zas,hx]at h;rcases Bool.eq_false_or_eq_true (k0==NameKind.free&&env.scope.kind==.function&&env.kindOf n==some .cell)with hc|hc
   ·refine .inl ?_;simp only[hc,if_true,zas,hx]
   ·refine .inr ?_;simp only[hc,Bool.false_eq_true,if_false,zas,hx];exact h
  |false=>
   simp only[zas,hx]at h;have ih:=kM (env:=env) h;rcases Bool.eq_false_or_eq_true (k0==NameKind.free&&env.scope.kind==.function&&env.kindOf n==some .cell)with hc|hc
   ·simp only[hc,if_true,zas,hx];exact ih
   ·simp only[hc,Bool.false_eq_true,if_false,zas,hx];exact ih
def fG(js:List (Option Nat))(σ:St):St:=js.map fun j=>match j with
 |some j=>(σ[j]?).join
 |none=>none
def PTs(X:Cx)(ifs:List Expr)(tt:TT):Prop:=
 ∀(ρ:List (Addr×Obj)) (s:Shared) (σ:St) (H:Hp) (Q:Bool->Hp->Prop),Inv X ρ σ H s->tt σ H Q ->
  wpAny (model X.prog X.w) X.A (forIn ifs true fun c r=>if r=true then do let ok <-isTrue c X.env (eval c X.env);pure (ForInStep.yield ok)else pure (ForInStep.yield r)) (TP X ρ σ Q) X.xe s
def M6:TT:=fun _ H Q=>Q true H
def pts_nil:PTs X [] M6:=fun _ _ _ H _ I h=>wpAny_tests_nil ⟨H,I,h⟩
def E3{c:Expr}{tc:TT}(hc:PT X c tc):PTs X [c] tc:=fun ρ s σ H Q I h=>wpAny_tests_one (hc ρ s σ H Q I h)
def J2(g:TG)(tt:TT)(te:TE)(D:Addr)(x:V)(τ:St)(H:Hp)(N:St->Hp->Prop):Prop:=
 g x τ H fun τ4 H4=>tt τ4 H4 fun b H5=>if b=true then te τ4 H5 fun v H6=>∃xs,H6 D=some (.lst xs)/\xs.length<sizeLine/\N τ4 (upd H6 D (.lst (xs++[v])))else N τ4 H5
def Ev(J:It)(g:TG)(tt:TT)(te:TE)(σ0:St)(H1:Hp)(D:Addr)(Q:VK):Prop:=
 ∃W:Nat->Nat->St->Hp->Prop,(∃m,W 0 m σ0 (upd H1 D (.lst []))) /\
  ∀i m τ H2,W i m τ H2->(J.stop i H2/\Q (.ref D) H2)\/(J.go i H2/\∃N:St->Hp->Prop,(∀τ' H',N τ' H'->∃m',m'<m/\W (i+1) m' τ' H')/\∀x H3,J.yld i H2 x H3->J2 g tt te D x τ H3 N)
def tLC(wi:TI)(g:TG)(tt:TT)(te:TE)(js:List (Option Nat)):TE:=fun σ H Q=>
 wi σ H fun J H1=>∀D,H1 D=none->Ev J g tt te (fG js σ) H1 D Q
def thF{α:Type}{t:Sem α}{Q Q':α->Shared->Prop}{s:Shared}(h:wpAny M A t Q (fun _ _=>False) s)(hQ:∀a s,Q a s->Q' a s):wpAny M A t Q' E s:=
 wpAny_mono h hQ fun _ _ x=>x.elim
def xH:∀(bs:List Bool),(List.range bs.length).all (fun i=>bs.getD i true)=bs.all id:=fun bs=>by
 rw[Bool.eq_iff_iff,List.all_eq_true,List.all_eq_true];constructor
 ·intro h b hb;obtain⟨i,hi,e⟩:=List.mem_iff_getElem.mp hb;have q:=h i (zbr.mpr hi);rw[zbh,zak hi,e]at q;exact q
 ·intro h i hi;have hi':=zbr.mp hi;rw[zbh,zak hi'];exact h _ (zaK hi')
def Bw(hc:X.calm=true):CallR X (.builtin "all") (fun xs H Q=>∃(p:Addr) (bs:List Bool),xs=[.ref p]/\SqL X.K H p (bs.map V.bl)/\Q (.bl (bs.all id)) H):=by
 intro ρ s σ H xs us Q I r h;obtain⟨p,bs,rfl,hp,q⟩:=h;obtain⟨u,rfl,ru⟩:=dB r;cases ru;obtain⟨its,rv,pl,hz⟩:=I.list hp;have hl:its.length=bs.length:=by rw[<-rv.length,zad]
 have hlt:p<s.heap.objs.size:=by
  obtain⟨o,n,e,_⟩:=id pl;exact zal e
 refine call_all_walk (wpAny_pyIter_list pl.isList ?_);refine⟨s.heap.objs.size,[s.heap.objs.size,p],[s.heap.objs.size],its.toArray.size,fun i v=>its.toArray[i]?=some v,_,fun i=>bs.getD i true,rfl,Walks.list (A:=X.A.in1) (show X.A.in1.handled=none from I.ok.hd hc) s.heap.objs.size p (zaw hlt) its.toArray,?_,?_,?_⟩
 ·exact⟨⟨_,zan _ rfl,rfl,rfl⟩,pl.isList.push _⟩
 ·intro i v s' Q' E' hv hq;have hv':its[i]?=some v:=by simpa using hv
  have hi:i<bs.length:=by
   rw[<-hl];exact(zah.mp hv').1
  obtain⟨u,hu,ru⟩:=rv.get (i:=i) (x:=V.bl bs[i]) (by rw[zao,zak hi];rfl);rw[hu]at hv';cases hv';cases ru;have e:bs.getD i true=bs[i]:=by rw[zbh,zak hi];rfl
  have hq':Q' (bs.getD i true) s':=hq;rw[e]at hq';exact zbA hq'
 ·intro h' tk hk;have e:(List.range its.toArray.size).all (fun i=>bs.getD i true)=bs.all id:=by
   rw[<-xH bs,zai,hl]
  rw[e];refine⟨.bl (bs.all id),H,I.kept (t':=tk) fun b o z=>hk b o ?_ (zaf _ z),rfl,q⟩;intro z';have z'':b=s.heap.objs.size:=by simpa using z'
  exact zaw (zal z) z''
def Bv:CallR X (.builtin "isinstance") (fun xs H Q=>∃x t n b,xs=[x,.ty n]/\TyOf X.K H x t/\PySem.W.kitOne X.K t (.type n)=some b/\Q (.bl b) H):=by
 intro ρ s σ H xs us Q I r h;obtain⟨x,t,n,b,rfl,ty,e,q⟩:=h;obtain⟨u,w',rfl,r1,r2⟩:=wB r;cases r2;exact yW I r1 ty e fun tk=>⟨.bl b,H,I.tok _,rfl,q⟩
section
open PySem.SeqAt
variable{s:Shared}
end
def Inv.turnedLaid{s:Shared}{h':Heap}{t':Nat}{p:Addr}(I:Inv X ρ σ H s)(f:∀b∈fp,jq X ρ H b)(hp:s.heap.objs.size<=p)
  (k:∀b ob,b∉fp->s.heap.get? b=some ob->h'.get? b=some ob) (th:∀b∈fp,∃ob,h'.get? b=some ob) (new:ObjOk X.prog X.w (upd H p o) h' p o):Inv X ρ σ (upd H p o) { s with heap:=h',toks:=t' }:=by
 have hn:H p=none:=I.hok.fresh hp;have ne:∀b ob,s.heap.get? b=some ob->b≠p:=fun b ob e=>zaw (zag (zal e) hp);have nf:∀b u,H b=some u->b∉fp:=fun b u e z=>by rw[(f b z).1]at e;cases e
 refine I.step (g':=s.gens) (d':=s.drawn) (ch:=fp) (fun b hb=>⟨(f b hb).2.2.2.1,(f b hb).2.1,(f b hb).2.2.2.2.1,(f b hb).2.2.2.2.2⟩) (fun b ob _ _ hc e _=>k b ob hc e) (fun b ob _ _ hc e _=>⟨ob.slots,k b ob hc e⟩)
  (fun b ob _ e n=>by rw[aN (ne b ob e)];exact n) (fun b ob hc e=>⟨ob,k b ob hc e⟩) (fun b xs e=>by rw[aN (cw e hn)];exact e) (fun b ob u e=>by rw[aN (cw e hn)];exact e)
  (fun b ps e=>⟨#[],by rw[aN (cw e hn),e];simp⟩) (fun m hm=>?_) (fun b u e=>?_) I.bare
 ·obtain⟨ob,es,ep,ho,r⟩:=hm;exact⟨ob,es,ep,k _ ob (fun z=>(f _ z).2.1 rfl) ho,r⟩
 ·by_cases hb:b=p
  ·subst hb;rw[aI]at e;cases e;exact new
  ·rw[aN hb]at e;refine(I.hok b u e).stay (fun c v hc q=>k c v ?_ q) (fun c q=>by rw[aN (cw q hn)];exact q) fun c xs q=>by rw[aN (cw q hn)];exact q
   rcases hc with z|z
   ·rw[z];exact nf b u e
   ·exact nf c _ z
def Ite(K:zbY)(a:Addr):It:=
 ⟨fun i H=>∃xs x,SqL K H a xs/\xs[i]?=some x,
  fun i H y H'=>∃p x,y=.ref p/\H p=none/\H'=upd H p (.tup [.int i,x])/\∀xs,SqL K H a xs->xs[i]?=some x,
  fun i H=>∃xs,SqL K H a xs/\xs.length<=i⟩
def yk{P:Program}(a e it:Addr)(hei:e≠it):
  Turn P w K (.Tuple elts k tp) (Ite K a) [e,it] e (fun i h=>(∃old,IsEnum h e it i old)/\h.IsListIter it a i) where
 mem:=by simp
 obj:=fun i h st b hb=>by
  obtain⟨⟨old,he⟩,o,ho,hc,hd⟩:=st;have hb':b=e\/b=it:=by simpa using hb
  rcases hb' with rfl|rfl
  ·exact⟨_,he,fun v z=>by
    have z':Data.fields _=Data.cell v:=z;cases z'⟩
  ·exact⟨o,ho,fun v z=>by rw[hd]at z;cases z⟩
 keep:=fun i h h' st kp=>⟨let⟨old,he⟩:=st.1;⟨old,kp e (by simp) _ he⟩,st.2.at fun o q=>kp it (by simp) o q⟩
 item:=by
  intro X hP hw hK hc i ρ s σ H E I hf st hg;subst hP hw hK;obtain⟨xs,x,hq,hx⟩:=hg;obtain⟨its,rv,p,hz⟩:=I.list hq;obtain⟨u,hu,ru⟩:=rv.get hx;obtain⟨⟨old,he⟩,hit⟩:=st;refine wpAny_pyNext_enum_item he hit p.isList (x:=u) (by simpa using hu) hei fun h1 ho1 hit1 ht1 hz1 hk1=>?_;refine⟨_,rfl,wpAny_letOwnedTupleGo_enum ho1 fun h2 he2 hs2=>?_⟩;have eL:e<s.heap.objs.size:=zal he;have ht2:h2.get? s.heap.objs.size=some { cls:=.type "tuple",data:=.seq #[.int i s.toks,u] }:=(hs2.2 _ (Nat.ne_of_gt eL)).trans ht1;have hit2:h2.IsListIter it a (i+1):=hit1.extBut hs2.extBut hei.symm;have I2:Inv X ρ σ (upd H s.heap.objs.size (.tup [.int i,x])) { s with heap:=h2,toks:=s.toks+1 }:=by
   refine I.turnedLaid (fp:=[e,it]) hf (zav _) (fun b ob hb q=>?_) (fun b hb=>?_) ?_
   ·have h1:b≠e:=fun z=>hb (by simp[z]);have h2':b≠it:=fun z=>hb (by simp[z]);exact(hs2.2 b h1).trans (hk1 b ob h1 h2' q)
   ·have hb':b=e\/b=it:=by simpa using hb
    rcases hb' with rfl|rfl
    ·exact⟨_,he2⟩
    ·obtain⟨o,ho,_⟩:=hit2;exact⟨o,ho⟩
   ·refine⟨(by show 2<=sizeLine;decide),[.int i s.toks,u],.cons ⟨_,rfl⟩ (.cons ru .nil),?_⟩;exact⟨_,ht2,rfl,_,rfl,rfl⟩
  have fr:∀b∈[e,it],upd H s.heap.objs.size (.tup [.int i,x]) b=none:=fun b hb=>by
   have hlt:b<s.heap.objs.size:=by
    have hb':b=e\/b=it:=by simpa using hb
    rcases hb' with rfl|rfl
    ·exact eL
    ·obtain⟨o,ho,_⟩:=hit;exact zal ho
   rw[aN (zaw hlt)];exact(hf b hb).1
  exact⟨.ref s.heap.objs.size,_,I2,rfl,⟨_,x,rfl,I.fresh,rfl,fun ys hy=>by rw[I.list_inj hy hq];exact hx⟩,⟨⟨_,he2⟩,hit2⟩,fr⟩
 done:=by
  intro X hP hw hK hc i ρ s σ H E I hf st hg;subst hP hw hK;obtain⟨xs,hq,hx⟩:=hg;obtain⟨its,rv,p,hz⟩:=I.list hq;obtain⟨⟨old,he⟩,hit⟩:=st;obtain⟨f0,f1,f2,f3,f4,f5⟩:=hf it (by simp);have hl:=rv.length;exact wpAny_pyNext_enum_end (I.ok.hd hc) he hit p.isList (by simp;omega) fun h' eb=>⟨rfl,I.turned (t':=s.toks) (fun b o hb q=>eb b o hb q) f0 f1 f3 f4 f5⟩
 self:=fun _ _ _ _ _ st h=>let⟨⟨_,he⟩,_⟩:=st;wpAny_pyIter_enum he h
def LH(K:zbY)(te tk:TE):TE:=fun σ H Q=>te σ H fun x H1=>tk σ H1 fun y H2=>∃a xs,x=.ref a/\y=.int (-1)/\SqL K H2 a xs/\∀p,H2 p=none->Q (.ref p) (upd H2 p (.lst xs.reverse))
theorem iY:∀{xs:List V} {us:List Value},Vals xs us->Vals xs.reverse us.reverse
 |_,_,.nil=>.nil
 |_,_,.cons r t=>by
  rw[List.reverse_cons,List.reverse_cons];exact(iY t).append (.cons r .nil)
def Fe{k:Expr}{p2:Pos}(he:PE X e te)(hk:PE X k tk):PE X (.Subscript e (.Slice none none (some k) p2) pos) (LH X.K te tk):=by
 intro ρ s σ H Q I h;refine Subscript_ (thn (he ρ s σ H _ I h) fun v s1 ⟨x,H1,I1,r1,q1⟩=>?_);refine wpAny_Slice ?_;rw[evalPart_none];refine zaT (zaT ?_);rw[evalPart_some];refine thn (hk ρ s1 σ H1 _ I1 q1) ?_;rintro vk s3 ⟨y,H3,I3,r3,q3⟩;obtain⟨a,xs,rfl,rfl,hx,q⟩:=q3;obtain⟨t,rfl⟩:=r3;cases r1;have I4:Inv X ρ σ H3 { s3 with heap:=s3.heap.push { cls:=.type "slice",data:=.fields #[.none,.none,.int (-1) t] } }:=I3.kept (t':=s3.toks) fun b ob q=>zaf _ q;obtain⟨its,r,ht,hz⟩:=I4.list hx;show wpAny (model X.prog X.w) X.A (subscriptTail e (.Slice none none (some k) p2) (.ref a) (.ref s3.heap.objs.size)) (EP X ρ σ Q) X.xe { s3 with heap:=s3.heap.push { cls:=.type "slice",data:=.fields #[.none,.none,.int (-1) t] } };refine tail_any (ops:=[.ref a,.ref s3.heap.objs.size]) ht.isList.typeIs slot_list_getitem.lookup ?_ (by with_unfolding_all rfl);have ξ:=r.length;refine wpAny_getItem_list_slice ht.isList (Heap.IsSliceOf.new ..) .none .none (.int (-1) t) (by simp) ?_ (by rw[zai]<;>omega);rw[PySem.W.krv_pick];refine⟨.ref _,_,I4.laid (t':=s3.toks) (o:=.lst xs.reverse) (fun b ob q=>zaf _ q) (zav _) ?_,rfl,q _ (I4.hok.fresh (zav _))⟩;exact⟨by rw[List.length_reverse];exact hz,its.reverse,0,iY r,zan _ rfl⟩
def Kn(P:Program)(w:World)(K:zbY)(mg:Str->Option Value)(base:Heap)(k:Nat)(x:Str)(ps:List Str)(sp:Sp):Prop:=
 ∃f fd,FnOk P w K mg base CX0 k f fd ps sp/\mg x=some (.ref f)/\PySem.W.keepIn K (.ref f)=true/\Binds K fd ps []
def Kn.mono{P:Program}{w:World}{K:zbY}{mg:Str->Option Value}{base:Heap}{j k:Nat}{x:Str}{ps:List Str}{sp:Sp}(G:Kn P w K mg base j x ps sp)(h:j<=k):Kn P w K mg base k x ps sp:=
 let⟨f,fd,a,b,c,d⟩:=G
 ⟨f,fd,a.mono h,b,c,d⟩
section
variable{sp:Sp}{p:Pos}{t:TA}
def wT(G:Kn X.prog X.w X.K X.mg X.base k x ps sp)(hr:Room k X.A)(hg:Gl X x)(ha:PA X (e::es) t)(hdb:(x==("__debug__":Str))=false:=by decide)
  (he:starEach (e::es) X.env=(false,eval e X.env)::starEach es X.env:=by rfl) (hpl:(backTo pos (starEach es X.env)).any (·.1)=false:=by rfl):
  PE X (.Call (.Name x p) (e::es) [] pos) (oT sp [] E0 t):=by
 obtain⟨f,fd,F,hm,hk,hb⟩:=G;exact Fh F hr hg hm hk hb .nil L0 ha hdb he hpl
end
def M8(K:zbY):List V->Hp->VK->Prop:=fun xs H Q=>∃x n,xs=[x]/\LD K x H n/\Q (.int n) H
def EZ(K:zbY):List V->Hp->VK->Prop:=fun xs H Q=>∃p ys,xs=[.ref p]/\(SqL K H p ys\/SqT K H p ys)/\∀l,H l=none->Q (.ref l) (upd H l (.lst ys))
def Jq(K:zbY):List V->Hp->VK->Prop:=fun xs H Q=>∃p ys,xs=[.ref p]/\((SqL K H p ys/\∀l,H l=none->Q (.ref l) (upd H l (.tup ys)))\/(SqT K H p ys/\Q (.ref p) H))
def M9(K:zbY):List V->Hp->VK->Prop:=fun xs H Q=>∃(p:Addr) (bs:List Bool),xs=[.ref p]/\SqL K H p (bs.map V.bl)/\Q (.bl (bs.all id)) H
section
def Ng(hK:X.K=K):CallR X (.builtin "len") (M8 K):=by subst hK;exact Bu
def FA(hK:X.K=K):CallR X (.type "list") (EZ K):=by subst hK;exact uJ
def J9(hK:X.K=K):CallR X (.type "tuple") (Jq K):=by subst hK;exact rV
def Ni(hK:X.K=K)(hc:X.calm=true):CallR X (.builtin "all") (M9 K):=by subst hK;exact Bw hc
def Nh(hK:X.K=K):IxR X (wQ K):=by subst hK;exact ix_list
def Nf(hK:X.K=K):SlR X (Js K):=by subst hK;exact EU
def Nd(hK:X.K=K):SlR X (Jr K):=by subst hK;exact Ji
def Ma(hK:X.K=K):OpR X (binaryOp .Add) (Ep K):=by subst hK;exact Fj
variable{l:Expr}{tl:TE}{t:TGs}{p p2:Pos}
end
def sgn(c:Nat):V:=.str ⟨#[c]⟩
def Its(z:Str):It:=⟨fun i _=>i<z.cps.size,fun i H x H'=>H'=H/\∃c,z.cps[i]?=some c/\x=sgn c,fun i _=>z.cps.size<=i⟩
def Ag{P:Program}(it:Addr)(z:Str)(t:Tok)(ty:String)(hty:ty="str_ascii_iterator"\/ty="str_iterator"):
  Turn P w K tg (Its z) [it] it (fun i h=>h.IsStrIter it ty z t i) where
 mem:=by simp
 obj:=fun i h st b hb=>by
  have e:b=it:=by simpa using hb
  subst e;obtain⟨o,e,c,d⟩:=st;exact⟨o,e,fun v q=>by rw[d]at q;cases q⟩
 keep:=fun i h h' st k=>let⟨o,e,r⟩:=st;⟨o,k it (by simp) o e,r⟩
 item:=by
  intro X hP hw hK hc i ρ s σ H E I hf st hg;subst hP hw hK;obtain⟨f0,f1,f2,f3,f4,f5⟩:=hf it (by simp);have W:Walks X.prog X.w X.A it [it] [it] z.cps.size (SignAt z) (fun i h=>h.IsStrIter it ty z t i):=by
   rcases hty with rfl|rfl
   ·exact Walks.strAscii (I.ok.hd hc) it z t
   ·exact Walks.strWide (I.ok.hd hc) it z t
  refine W.item i s _ _ hg st fun v h' tk hv st' kk=>?_;obtain⟨c,u,hcv,rfl⟩:=hv;have I1:Inv X ρ σ H { s with heap:=h',toks:=tk }:=I.turned (fun b o hb e=>kk b o (by simpa using hb) e) f0 f1 f3 f4 f5;obtain⟨o,e,ec,ed⟩:=id st';refine⟨_,rfl,pB (s:={ s with heap:=h',toks:=tk }) (n:=ty) e ec ed (by rcases hty with rfl|rfl<;>decide) ⟨sgn c,H,I1,⟨u,rfl⟩,⟨rfl,c,hcv,rfl⟩,st',fun b hb=>(hf b hb).1⟩⟩
 done:=by
  intro X hP hw hK hc i ρ s σ H E I hf st hg;subst hP hw hK;obtain⟨f0,f1,f2,f3,f4,f5⟩:=hf it (by simp);have hle:z.cps.size<=i:=hg;rcases hty with rfl|rfl
  ·exact wpAny_pyNext_ascii_end (I.ok.hd hc) st (by simpa using hle) fun h' he=>⟨rfl,I.turned (t':=s.toks) (fun b o hb e=>he b o hb e) f0 f1 f3 f4 f5⟩
  ·exact wpAny_pyNext_wide_end (I.ok.hd hc) st (by simpa using hle) fun h' he=>⟨rfl,I.turned (t':=s.toks) (fun b o hb e=>he b o hb e) f0 f1 f3 f4 f5⟩
 self:=fun A i s Q E st h=>by
  rcases hty with rfl|rfl
  ·exact wpAny_pyIter_striter_ascii st h
  ·exact wpAny_pyIter_striter_wide st h
def eW(z:Str):List V:=z.cps.toList.map sgn
theorem ny:∀{xs:List V} {us:List Value},xs.length=us.length->(∀(i:Nat) x u,xs[i]?=some x->us[i]?=some u->RelV x u)->Vals xs us
 |[],[],_,_=>.nil
 |[],_::_,h,_=>by cases h
 |_::_,[],h,_=>by cases h
 |x::xs,u::us,h,f=>.cons (f 0 x u rfl rfl) (ny (Nat.succ.inj h) fun i y v a b=>f (i+1) y v (by simpa using a) (by simpa using b))
def qL(hc:X.calm=true):CallR X (.type "list") (fun xs H Q=>∃z,xs=[.str z]/\z.cps.size<=sizeLine/\∀l,H l=none->Q (.ref l) (upd H l (.lst (eW z)))):=by
 intro ρ s σ H xs us Q I r h;obtain⟨z,rfl,hz,q⟩:=h;obtain⟨u,rfl,t,rfl⟩:=dB r;refine call_list_str (I.ok.hd hc) z t (fun h' tk acc c' hk ho hi=>?_) hz;have hl:(eW z).length=acc.toList.length:=by
  unfold eW;rw[zad,zaY,zaY,hi.1]
 have rv:Vals (eW z) acc.toList:=ny hl fun i x v a b=>by
  obtain⟨c,tk',hcv,rfl⟩:=hi.2 i v (by simpa using b);unfold eW at a;rw[zao]at a;have e:z.cps.toList[i]?=some c:=by simpa using hcv
  rw[e]at a;cases a;exact⟨_,rfl⟩
 refine⟨.ref s.heap.objs.size,_,I.laid (t':=tk) (o:=.lst (eW z)) hk (zav _) ⟨?_,acc.toList,c',rv,by simpa using ho⟩,rfl,q _ I.fresh⟩;unfold eW;rw[zad,zaY];exact hz
def Nt(xs:List Nat)(lo hi:Option Int):List Nat:=(xs.drop (HT.sIx xs.length 0 lo)).take (HT.sIx xs.length xs.length hi-HT.sIx xs.length 0 lo)
def yu(n d:Nat)(v:Option Int)(h:d<=n):HT.sIx n d v<=n:=by
 cases v with
 |none=>exact h
 |some i=>
  unfold HT.sIx
  dsimp only
  split<;>omega
def Jx(K:zbY):R2:=fun x y H Q=>∃a b ys,x=.ref a/\y=.ref b/\SqT K H a []/\SqT K H b ys/\Q (.ref b) H
def Ax(hK:X.K=K):OpR X (binaryOp .Add) (Jx K):=by
 subst hK;intro ρ s σ H x y v u Q I rx ry h;obtain⟨a,b,ys,rfl,rfl,ha,hb,q⟩:=h;cases rx;cases ry;obtain⟨its,r1,p1,_⟩:=I.tuple ha;obtain⟨ν,r2,p2,_⟩:=I.tuple hb;cases r1;obtain⟨⟨cls,dd,data,sl⟩,ho,hc,n,hd⟩:=id p1;obtain⟨⟨cls2,dd2,data2,sl2⟩,ho2,hc2,n2,hd2⟩:=id p2;simp only at hc hd hc2 hd2;subst hc hd hc2 hd2;exact concat_meets ⟨_,ho,rfl⟩ ⟨_,ho2,rfl⟩ noFill_tuple_add seq_tuple_add PySem.F.slot_tuple_add PySem.F.entry_tuple_add (PySem.F.args_tuple_add_2 _ _)
  (tuple_addW0 a b _ _ n n2 dd dd2 sl sl2 (by simp)) ⟨ho,ho2,⟨.ref b,H,I,rfl,q⟩⟩
theorem uu{α β:Type}{f g:α->Option β}:∀{l:List α},(∀a∈l,f a=g a)->l.filterMap f=l.filterMap g
 |[],_=>rfl
 |a::l,h=>by
  rw[List.filterMap_cons,List.filterMap_cons,h a zaq,uu fun b hb=>h b (zaj _ hb)]
section
variable{s:Shared}
def vw{t:Tok}{Q:Int×Int×Nat->Shared->Prop}(hs:s.heap.IsSliceOf sl .none .none (.int (-1) t))
  (h:Q ((n:Int)-1,-1,n) s):wpAny (model prog w) A (Builtin.Slice.sliceApplied (.ref sl) (pure (n:Int))) Q E s:=by
 obtain⟨os,hos,hcs,hds⟩:=id hs;unfold Builtin.Slice.sliceApplied Builtin.Slice.sliceFields;refine zam (zam (wpAny_field hos hds (x:=.none) rfl (zam (wpAny_field hos hds (x:=.none) rfl (zam (wpAny_field hos hds (x:=.int (-1) t) rfl (zaT ?_)))))));refine zam (HT.slicePart_ (.int (-1) t) ?_);show wpAny _ _ (if((-1:Int)==0)=true then _ else _) _ _ s;rw[if_neg (by decide)];refine zam (HT.slicePart_ .none (zam (HT.slicePart_ .none (zam (zaT ?_)))));show wpAny _ _ (match Builtin.Slice.sliceAdjust none none (-1) (n:Int)with | (lo,hi)=>pure (lo,(-1:Int),Builtin.Slice.slicePlaces lo hi (-1))) _ _ s;have e:Builtin.Slice.sliceAdjust none none (-1) (n:Int)=((n:Int)-1,-1):=by
  first
   |rfl
   |simp[Builtin.Slice.sliceAdjust]
 rw[e];show wpAny _ _ (pure ((n:Int)-1,(-1:Int),Builtin.Slice.slicePlaces ((n:Int)-1) (-1) (-1))) _ _ s;have e2:Builtin.Slice.slicePlaces ((n:Int)-1) (-1) (-1)=n:=by
  unfold Builtin.Slice.slicePlaces;have h1:¬((-1:Int)>0):=by omega
  simp only[h1,if_false];split
  ·simp
   try omega
  ·omega
 rw[e2];exact zaT h
def nu{t:Addr}{u:Tok}{items:Array Value}{Q:Value->Shared->Prop}(ht:IsTup s.heap t items)(hs:s.heap.IsSliceOf sl .none .none (.int (-1) u))
  (h:Q (.ref s.heap.objs.size) { s with heap:=s.heap.push { cls:=.type "tuple",data:=.seq items.toList.reverse.toArray } })
  (hsz:items.size<=sizeLine):wpAny (model prog w) A (getItem (.ref t) (.ref sl)) Q E s:=by
 have htake:sizeOk (.seq items.toList.reverse.toArray):=by
  show items.toList.reverse.toArray.size<=sizeLine;rw[zai,List.length_reverse,zaY];exact hsz
 obtain⟨os,hos,hcs,hds⟩:=id hs;have hTs:s.TypeIs (.ref sl) "slice":=⟨os,hos,hcs⟩;unfold getItem
 try with_reducible refine zbT ?_
 first|refine zam (zaT ?_)|skip
 refine zam (wpAny_sequenceKey ht.typeIs (by decide) ?_);refine zam (zbB (name:=Str.ofString "__getitem__") ht.typeIs PyProof.Rows.slot_tuple_getitem
  (wpAny_call_entry PyProof.Rows.slot_tuple_getitem ht.typeIs entry_tuple_getitem ?_ (args_tuple_getitem _ _)))
 show wpAny _ _ (Builtin.Tuple.tupleItemsOf (.ref t) >>= _) _ _ s;refine zam (tupleItemsOf_ ht ?_);refine zam (wpAny_typeOf hTs ?_);rw[if_pos (by decide)];refine zam (vw hs ?_);have hno:¬(((items.size:Int)-1==0&&(-1:Int)==1&&items.size==items.size)=true):=by
  intro q;rw[show((-1:Int)==1)=false by decide,zbX,Bool.false_and]at q;cases q
 show wpAny _ _ (if((items.size:Int)-1==0&&(-1:Int)==1&&items.size==items.size)=true then _ else _) _ _ s;have qy:((List.range items.size).filterMap fun(m:Nat)=>items[((items.size:Int)-1+(m:Int)*-1).toNat]?).toArray=items.toList.reverse.toArray:=by
  have e:((List.range items.size).filterMap fun(m:Nat)=>items[((items.size:Int)-1+(m:Int)*-1).toNat]?)=((List.range items.size).map fun k=>items.size-1-k).filterMap (items[·]?):=by
   rw[List.filterMap_map];refine uu fun m hm=>?_
   have:=zbr.mp hm;have e:((items.size:Int)-1+(m:Int)*-1).toNat=items.size-1-m:=by omega
   rw[e];rfl
  rw[e,PySem.W.krv_range,List.filterMap_reverse,PySem.W.krv_all]
 rw[if_neg hno,qy]
 first
  |exact zam (m:=Builtin.Tuple.tupleExact _) (wpAny_newObj_type (zaT ⟨_,rfl,zaT h⟩) htake)
  |exact zam (m:=Builtin.Tuple.tupleExact _) (wpAny_newObj_type (zam (zaT (zaT ⟨_,rfl,zaT h⟩))) htake)
  |exact zam (zam (m:=Builtin.Tuple.tupleExact _) (wpAny_newObj_type (zaT (zaT ⟨_,rfl,zaT h⟩)) htake))
  |exact zam (zam (m:=Builtin.Tuple.tupleExact _) (wpAny_newObj_type (zaT ⟨_,rfl,zaT h⟩) htake))
end
def LG(K:zbY)(te tk:TE):TE:=fun σ H Q=>te σ H fun x H1=>tk σ H1 fun y H2=>∃a xs,x=.ref a/\y=.int (-1)/\SqT K H2 a xs/\∀p,H2 p=none->Q (.ref p) (upd H2 p (.tup xs.reverse))
def AF{k:Expr}{p2:Pos}(hK:X.K=K)(he:PE X e te)(hk:PE X k tk):PE X (.Subscript e (.Slice none none (some k) p2) pos) (LG K te tk):=by
 subst hK;intro ρ s σ H Q I h;refine Subscript_ (thn (he ρ s σ H _ I h) fun v s1 ⟨x,H1,I1,r1,q1⟩=>?_);refine wpAny_Slice ?_;rw[evalPart_none];refine zaT (zaT ?_);rw[evalPart_some];refine thn (hk ρ s1 σ H1 _ I1 q1) ?_;rintro vk s3 ⟨y,H3,I3,r3,q3⟩;obtain⟨a,xs,rfl,rfl,hx,q⟩:=q3;obtain⟨t,rfl⟩:=r3;cases r1;have I4:Inv X ρ σ H3 { s3 with heap:=s3.heap.push { cls:=.type "slice",data:=.fields #[.none,.none,.int (-1) t] } }:=I3.kept (t':=s3.toks) fun b ob q=>zaf _ q;obtain⟨its,r,ht,hz⟩:=I4.tuple hx;show wpAny (model X.prog X.w) X.A (subscriptTail e (.Slice none none (some k) p2) (.ref a) (.ref s3.heap.objs.size)) (EP X ρ σ Q) X.xe { s3 with heap:=s3.heap.push { cls:=.type "slice",data:=.fields #[.none,.none,.int (-1) t] } };refine tail_any (ops:=[.ref a,.ref s3.heap.objs.size]) ht.typeIs PyProof.Rows.slot_tuple_getitem.lookup ?_ (by with_unfolding_all rfl);have ξ:=r.length;refine nu ht (Heap.IsSliceOf.new ..) ?_ (by rw[zai]<;>omega);refine⟨.ref _,_,I4.laid (t':=s3.toks) (o:=.tup xs.reverse) (fun b ob q=>zaf _ q) (zav _) ?_,rfl,q _ (I4.hok.fresh (zav _))⟩;exact⟨by rw[List.length_reverse];exact hz,its.reverse,iY r,IsTupN.new _ _⟩
abbrev li(z:Str):List Nat:=z.cps.toList
def mk1(c:Nat):Str:=⟨#[c]⟩
def Sub(x z:List Nat):Prop:=∀c∈x,c∈z
def dL(xs:List V)(i:Int)(h0:0<=i)(h1:i<=(xs.length:Int)):gh xs none (some i)=xs.take i.toNat:=by
 unfold gh HT.sIx
 dsimp only
 rw[if_neg (by omega),List.drop_zero,Nat.sub_zero,Nat.min_eq_left (by omega)]
def fM(xs:List V)(i:Int)(h0:0<=i)(h1:i<=(xs.length:Int)):gh xs (some i) none=xs.drop i.toNat:=by
 unfold gh HT.sIx
 dsimp only
 rw[if_neg (by omega),Nat.min_eq_left (by omega),List.take_of_length_le (by rw[zaF];exact zav _)]
def yZ(z y:Str):Bool:=!(Builtin.Str.occurrences z y 0 z.length 1).isEmpty
section
open PySem.SeqAt
end
theorem fF:∀(names:List (Str×NameKind)) (n:Nat) (acc:List (Str×Addr)),cellsFrom n names acc=cellsFrom n names []++acc
 |[],_,_=>rfl
 | (x,k)::r,n,acc=>by
  unfold cellsFrom;split
  ·rw[fF r (n+1) ((x,n)::acc),fF r (n+1) [(x,n)],List.append_assoc];rfl
  ·exact fF r n acc
theorem iz:∀(names:List (Str×NameKind)) (n:Nat) (acc:List (Str×Addr)) {x:Str} {c:Addr},(x,c)∈cellsFrom n names acc->(x,c)∈acc\/(x,NameKind.cell)∈names
 |[],_,_,_,_,h=>.inl h
 | (y,k)::r,n,acc,x,c,h=>by
  unfold cellsFrom at h;split at h
  ·rename_i hk;rcases iz r _ _ h with h|h
   ·rcases zay.mp h with e|e
    ·have hk':k=.cell:=by simpa using hk
     have e':=(Prod.mk.inj e).1;rw[e',<-hk'];exact .inr zaq
    ·exact .inl e
   ·exact .inr (zaj _ h)
  ·rcases iz r _ _ h with h|h
   ·exact .inl h
   ·exact .inr (zaj _ h)
theorem gL:∀(names:List (Str×NameKind)) (n:Nat) (acc:List (Str×Addr)) {p:Str×Addr},p∈acc->p∈cellsFrom n names acc
 |[],_,_,_,h=>h
 | (y,k)::r,n,acc,p,h=>by
  unfold cellsFrom;split
  ·exact gL r _ _ (zaj _ h)
  ·exact gL r _ _ h
theorem iA:∀(names:List (Str×NameKind)) (n:Nat) (acc:List (Str×Addr)) {x:Str},(x,NameKind.cell)∈names->∃c,(x,c)∈cellsFrom n names acc
 |[],_,_,_,h=>by simp at h
 | (y,k)::r,n,acc,x,h=>by
  unfold cellsFrom;rcases zay.mp h with e|e
  ·cases e;rw[if_pos (by rfl)];exact⟨n,gL r _ _ zaq⟩
  ·split
   ·exact iA r _ _ e
   ·exact iA r _ _ e
theorem tY{α:Type}:∀{a b:List (Str×α)} {x:Str} {c:α},(a++b).lookup x=some c->a.lookup x=some c\/(a.lookup x=none/\b.lookup x=some c)
 |[],_,_,_,h=>.inr ⟨rfl,h⟩
 | (n,v)::r,b,x,c,h=>by
  rw[List.cons_append,zas]at h;rw[zas];cases e:x==n with
  |true=>rw[e]at h;exact .inl h
  |false=>rw[e]at h;exact tY h
theorem mi{α:Type}:∀{a b:List (Str×α)} {x:Str} {c:α},a.lookup x=some c->(a++b).lookup x=some c
 |[],_,_,_,h=>by simp at h
 | (n,v)::r,b,x,c,h=>by
  rw[List.cons_append,zas];rw[zas]at h;cases e:x==n with
  |true=>rw[e]at h;exact h
  |false=>rw[e]at h;exact mi h
theorem kW{α:Type}:∀{a b:List (Str×α)} {x:Str} {c:α},a.lookup x=none->b.lookup x=some c->(a++b).lookup x=some c
 |[],_,_,_,_,h=>h
 | (n,v)::r,b,x,c,hn,h=>by
  rw[List.cons_append,zas];rw[zas]at hn;cases e:x==n with
  |true=>rw[e]at hn;cases hn
  |false=>rw[e]at hn;exact kW hn h
theorem kO{env:Env}:∀{names:List (Str×NameKind)} {x:Str},names.lookup x=some .cell ->
  (names.map fun(n,k)=>if(k==NameKind.free&&env.scope.kind==.function&&env.kindOf n==some .cell)then(n,NameKind.cell)else(n,k)).lookup x=some .cell
 |[],_,h=>by simp at h
 | (n,k)::r,x,h=>by
  show List.lookup x ((if(k==NameKind.free&&env.scope.kind==.function&&env.kindOf n==some .cell)=true then(n,NameKind.cell)else(n,k))::_)=_;cases hx:x==n with
  |true=>
   simp only[zas,hx]at h;cases h;simp[zas,hx]
  |false=>
   simp only[zas,hx]at h;by_cases hc:(k==NameKind.free&&env.scope.kind==.function&&env.kindOf n==some .cell)=true
   ·rw[if_pos hc];simp only[zas,hx];exact kO h
   ·rw[if_neg hc];simp only[zas,hx];exact kO h
abbrev br(X:Cx)(scope:Scope)(ns:List Str)(C:Addr)(cl:List (Str×Addr))(s₀:Shared)(H₀:Hp)(fp:List Addr):Cx:=
 { X with N:=ns,s₀:=s₀,H₀:=H₀,env:=compEnvC scope cl C X.env,outer:=X.stack,ex:=fp,fn:=fun x=>scope.names.lookup x==some NameKind.cell,pn:=[],xe:=fun _ _=>False }
structure BlkOkC(X:Cx)(scope:Scope)(ns:List Str)(js:List (Option Nat)):Prop where
 kind:scope.kind=.function
 uniq:∀y∈scope.names,y.2=.cell->scope.names.lookup y.1=some .cell
 names:∀y∈scope.names,y.2=.local->scope.names.lookup y.1=some .local
 free:∀y∈scope.names,y.2=.free->X.env.kindOf y.1=some .cell\/X.env.kindOf y.1=some .free
 nd:ns.Nodup
 len:js.length=ns.length
 out:∀(i:Nat) (x:Str) (j:Nat),ns[i]?=some x->js[i]?=some (some j)->X.N[j]?=some x/\scope.names.lookup x=some .free
def nk(N:List Str)(sc scope:Scope)(ns:List Str)(js:List (Option Nat)):Bool:=
 decide (scope.kind=.function)&&scope.names.all (fun y=>decide (y.2=.cell->scope.names.lookup y.1=some .cell))&&scope.names.all (fun y=>decide (y.2=.local->scope.names.lookup y.1=some .local)) &&
 scope.names.all (fun y=>decide (y.2=.free->sc.names.lookup y.1=some .cell\/sc.names.lookup y.1=some .free))&&decide ns.Nodup&&decide (js.length=ns.length) &&
 (List.range ns.length).all (fun i=>match js[i]?,ns[i]? with
  |some (some j),some x=>decide (N[j]?=some x)&&decide (scope.names.lookup x=some .free)
  |_,_=>true)
def wq(h7:∀i<ns.length,(match js[i]?,ns[i]? with
  |some (some j),some x=>decide (N[j]?=some x)&&decide (scope.names.lookup x=some .free)
  |_,_=>true)=true)(e1:ns[i]?=some x)(e2:js[i]?=some (some j)):N[j]?=some x/\scope.names.lookup x=some .free:=by
 have q:=h7 i (zah.mp e1).1;rw[e1,e2]at q;simpa using q
def BlkOkC.of(hN:X.N=N0)(hS:X.env.scope=sc0)(h:nk N0 sc0 scope ns js=true):BlkOkC X scope ns js:=by
 unfold nk at h;simp only[zbm,List.all_eq_true,decide_eq_true_eq,zbr]at h;obtain⟨⟨⟨⟨⟨⟨h1,h2⟩,h3⟩,h4⟩,h5⟩,h6⟩,h7⟩:=h;refine⟨h1,fun y hy=>h2 y hy,fun y hy=>h3 y hy,fun y hy hk=>?_,h5,h6,fun i x j e1 e2=>?_⟩
 ·have q:=h4 y hy hk;rw[<-hS]at q;exact q
 ·rw[hN];exact wq h7 e1 e2
section
variable{s:Shared}
def jz{globals:Addr}{closure:List (Str×Addr)}{qual:Str}{outer:Env}{builtins:Addr}{Q:Env->Shared->Prop}
  (hQ:Q (newEnv scope s.heap.objs.size globals (cellsFrom (s.heap.objs.size+1) scope.names closure) qual none .none (some outer) builtins) { s with heap:=pushCells (s.heap.push { cls:=.type "dict",data:=.dict #[] }) scope.names }):
  wpAny M A (newFunctionEnv scope globals closure [] qual none .none (some outer) builtins) Q E s:=by
 simp only[newFunctionEnv,Option.isSome_some,if_true];refine zam (wpAny_alloc ?_);refine zam (wpAny_layCells _ (fun name kind cells=>by cases hkc:kind==NameKind.cell<;>simp[hkc]) _ _ _ _ ?_);rw[show({ s with heap:=s.heap.push { cls:=.type "dict",data:=.dict #[] } }:Shared).heap.objs.size=s.heap.objs.size+1 from zbv ..];rw[List.forIn_nil];exact zam (zaT (zaT hQ))
end
section
variable{wi:TI}{g:TG}{tt:TT} 
def Bx{s3:Shared}{H3:Hp}{h₁:Heap}{tk:Nat}(B:BlkOkC X scope ns js)(I3:Inv X ρ σ H3 s3)
  (f3:∀b∈fp,jq X ρ H3 b) (lt3:∀b∈fp,b<s3.heap.objs.size) (hns:h₁.Ns s3.heap.objs.size (fun _=>none)) (old:∀b u,s3.heap.get? b=some u->h₁.get? b=some u)
  (cok:CellsOk h₁ (s3.heap.objs.size+1) (cellsFrom (s3.heap.objs.size+1) scope.names [])):
  Inv (br X scope ns s3.heap.objs.size (cellsFrom (s3.heap.objs.size+1) scope.names (eJ X.env scope.names)) s3 H3 fp) [] (fG js σ) H3 { s3 with heap:=h₁,toks:=tk }:=by
 rw[fF];have hmem:∀{x:Str} {c:Addr},(x,c)∈cellsFrom (s3.heap.objs.size+1) scope.names []->scope.names.lookup x=some .cell:=fun {x c} h=>by
  rcases iz _ _ _ h with h|h
  ·simp at h
  ·exact B.uniq _ h rfl
 have hhas:∀{x:Str},scope.names.lookup x=some .cell->∃c,(cellsFrom (s3.heap.objs.size+1) scope.names []).lookup x=some c:=fun {x} h=>by
  obtain⟨c,hc⟩:=iA scope.names (s3.heap.objs.size+1) [] (zaU h);exact iu hc
 generalize cellsFrom (s3.heap.objs.size+1) scope.names []=CS at cok hmem hhas;have has:∀y∈scope.names,y.2=.free->∃c,X.env.cells.lookup y.1=some c:=fun y hy hk=>I3.ok.has y.1 (B.free y hy hk);have look:∀{n:Str} {c:Addr},(CS++eJ X.env scope.names).lookup n=some c->(CS.lookup n=some c/\h₁.IsCell c none/\s3.heap.objs.size+1<=c)\/(CS.lookup n=none/\X.env.cells.lookup n=some c/\c<s3.heap.objs.size):=fun {n c} e=>by
  rcases tY e with e|⟨e1,e2⟩
  ·exact .inl ⟨e,cok.empty n c (zaU e)⟩
  ·have e3:=rp has e2;obtain⟨v,hv⟩:=I3.cell n c e3;exact .inr ⟨e1,e3,hv.lt⟩
 refine⟨⟨I3.ok.mod,B.kind,I3.ok.glob,I3.ok.blt,zav _,fun y z c h1 h2=>?_,fun y hy=>?_,fun y c hf h=>?_,I3.ok.hd,I3.ok.frames,.inl rfl,fun b hb=>?_,I3.bs,zau I3.ok.bsz I3.sz,
   fun b o e hb=>?_,fun b hb z=>?_,I3.stack,I3.stkFree⟩,
  rfl,I3.bare,Un.kept old,⟨_,hns,fun i x v h1 h2 h3=>?_⟩,fun y c h=>?_,I3.fresh,fun y c h=>?_,fun p hp=>absurd (show p∈([]:List (Addr×Obj))from hp) (by simp),I3.hok.kept old,?_⟩
 ·rcases look h1 with⟨a1,_,a3⟩|⟨_,a2,a3⟩<;>rcases look h2 with⟨b1,_,b3⟩|⟨_,b2,b3⟩
  ·exact name_of_addr cok.apart (zaU a1) (zaU b1)
  ·exact absurd (zag (zag b3 (Nat.le_succ _)) a3) (zaI _)
  ·exact absurd (zag (zag a3 (Nat.le_succ _)) b3) (zaI _)
  ·exact I3.ok.inj y z c a2 b2
 ·have hf:scope.names.lookup y=some .cell\/scope.names.lookup y=some .free:=by
   rcases hy with hy|hy
   ·rcases kL (env:=X.env) hy with q|q
    ·exact .inl q
    ·exact .inr q.1
   ·rcases kL (env:=X.env) hy with q|q
    ·exact .inr q
    ·exact .inr q.1
  show ∃c,(CS++eJ X.env scope.names).lookup y=some c;rcases hf with hf|hf
  ·obtain⟨c,hc⟩:=hhas hf;exact⟨c,mi hc⟩
  ·obtain⟨c,hc⟩:=uG (env:=X.env) (zaU hf);cases e:CS.lookup y with
   |none=>exact⟨c,kW e hc⟩
   |some d=>exact⟨d,mi e⟩
 ·rcases look h with⟨_,_,a3⟩|⟨a1,_,_⟩
  ·show s3.heap.objs.size<=c;omega
  ·have hf':(scope.names.lookup y==some NameKind.cell)=true:=hf;obtain⟨d,hd⟩:=hhas (by simpa using hf');rw[a1]at hd;cases hd
 ·refine⟨zaw (lt3 b hb),fun x c e=>?_⟩;rcases look e with⟨_,_,a3⟩|⟨_,a2,_⟩
  ·have:=lt3 b hb;intro z;subst z;exact zaI _ (zag (zag this (Nat.le_succ _)) a3)
  ·exact(f3 b hb).2.2.2.2.1 x c a2
 ·rcases(f3 b hb).2.2.2.1 with z|z
  ·exact I3.ok.noex b o e z
  ·exact absurd (zag (zag (zal e) I3.ok.bsz) z) (zaI _)
 ·rcases zay.mp (I3.stkSub b z)with q|q
  ·exact(f3 b hb).2.1 q
  ·exact(f3 b hb).2.2.1 q
 ·have h2':(js.map fun j=>match j with|some j=>(σ[j]?).join|none=>none)[i]?=some (some v):=h2;rw[zao]at h2';obtain⟨j,hj,hσ⟩:∃j,js[i]?=some (some j)/\σ[j]?=some (some v):=by
   cases e:js[i]? with
   |none=>rw[e]at h2';simp at h2'
   |some oj=>
    rw[e]at h2';cases oj with
    |none=>simp at h2'
    |some j=>
     refine⟨j,rfl,?_⟩;have q:(σ[j]?).join=some v:=by simpa using h2'
     cases e2:σ[j]? with
     |none=>rw[e2]at q;simp at q
     |some ov=>
      rw[e2]at q;simp at q;rw[q]
  obtain⟨hN,hfr⟩:=B.out i x j h1 hj;have hf:=B.free (x,.free) (zaU hfr) rfl;have hf':X.env.kindOf x=some .cell\/X.env.kindOf x=some .free:=hf;obtain⟨m,hn,hl⟩:=I3.loc;obtain⟨u,r,l⟩:=hl j x v hN hσ (by
   rcases hf' with z|z
   ·exact .inr (.inl z)
   ·exact .inr (.inr z))
  refine⟨u,r,?_⟩;rcases l with⟨hk,_⟩|⟨hk,c,hc,hcell⟩
  ·rcases hf' with z|z
   ·rw[z]at hk;cases hk
   ·rw[z]at hk;cases hk
  ·obtain⟨c',hc'⟩:=uG (env:=X.env) (zaU hfr);have e':=rp has hc';rw[hc]at e';cases e';obtain⟨o,ho,hd⟩:=hcell;have hno:CS.lookup x=none:=by
    cases e:CS.lookup x with
    |none=>rfl
    |some d=>
     have q:=hmem (zaU e);rw[hfr]at q;cases q
   exact .inr ⟨kM (env:=X.env) hfr,c,kW hno hc',⟨o,old c o ho,hd⟩⟩
 ·rcases look h with⟨_,a2,_⟩|⟨_,a2,_⟩
  ·exact⟨_,a2⟩
  ·obtain⟨v,o,ho,hd⟩:=I3.cell y c a2;exact⟨v,o,old c o ho,hd⟩
 ·rcases look h with⟨_,_,a3⟩|⟨_,a2,_⟩
  ·exact I3.hok.fresh (by omega)
  ·exact I3.freeC y c a2
 ·show(js.map _).length=ns.length;rw[zad];exact B.len
def t8{s2:Shared}{Qv:VK}{J:It}{it:Addr}{tn:Nat->Heap->Prop}{RR:Value->Addr->Result->Shared->Prop}
  (B:BlkOkC X scope ns js) (hc:X.calm=true) (I2:Inv X ρ σ H2 s2) (T:Turn X.prog X.w X.K tg J fp it tn) (st2:tn 0 s2.heap) (f2:∀b∈fp,jq X ρ H2 b)
  (hg:∀C cl s₀ H₀ fp,PG (br X scope ns C cl s₀ H₀ fp) tg g) (ht:∀C cl s₀ H₀ fp,PTs (br X scope ns C cl s₀ H₀ fp) ifs tt) (he:∀C cl s₀ H₀ fp,PE (br X scope ns C cl s₀ H₀ fp) elt te)
  (hw:∀D,H2 D=none->Ev J g tt te (fG js σ) H2 D Qv)
  (hRR:∀D C s' H',Inv X ρ σ H' s'->Qv (.ref D) H'->(∃m,s'.heap.Ns C m)->H' C=none->C≠X.env.locals->X.s₀.heap.objs.size<=C->(∀x c,X.env.cells.lookup x=some c->c≠C)->(∀p∈X.pn++ρ,p.1≠C)->RR (.ref D) C (.ok .next) s'):
  wpAny (model X.prog X.w) X.A (newList []) (fun acc s₃=>wpAny (model X.prog X.w) X.A (newFunctionEnv scope X.env.globals (eJ X.env scope.names) [] X.env.qual none .none (some X.env)) (fun cenv s₄=>
   codeAny (model X.prog X.w) X.A (.compStart (.ListComp elt [⟨tg,iter,ifs,0⟩] scope pos) 0 (.ref it) acc { cenv with scope:=relabel scope X.env }) (RR acc cenv.locals) s₄) X.xe s₃) X.xe s2:=by
 refine wpAny_newObj_type (jz ?_)
 dsimp only
 have I3:Inv X ρ σ (upd H2 s2.heap.objs.size (.lst [])) { s2 with heap:=s2.heap.push { cls:=.type "list",data:=.seq ([]:List Value).toArray },toks:=s2.toks }:=I2.lnew .nil (zbj _);generalize hs3:({ s2 with heap:=s2.heap.push { cls:=.type "list",data:=.seq ([]:List Value).toArray },toks:=s2.toks }:Shared)=s3 at I3;have e3:s3.heap=s2.heap.push { cls:=.type "list",data:=.seq ([]:List Value).toArray }:=by rw[<-hs3]
 have k3:∀b u,s2.heap.get? b=some u->s3.heap.get? b=some u:=fun b u e=>by rw[e3];exact zaf _ e
 have sz3:s3.heap.objs.size=s2.heap.objs.size+1:=by rw[e3,zbv]
 have hD:H2 s2.heap.objs.size=none:=I2.fresh;obtain⟨h₁,hh₁⟩:∃h₁,h₁=pushCells (s3.heap.push { cls:=.type "dict",data:=.dict #[] }) scope.names:=⟨_,rfl⟩;have old:∀b u,s3.heap.get? b=some u->h₁.get? b=some u:=fun b u e=>by
  rw[hh₁];exact pushCells_keeps _ _ b u (zaf _ e)
 have hns:h₁.Ns s3.heap.objs.size (fun _=>none):=by
  rw[hh₁];exact(Heap.Ns.new s3.heap (.type "dict")).keeps (pushCells_keeps _ _)
 have cok:CellsOk h₁ (s3.heap.objs.size+1) (cellsFrom (s3.heap.objs.size+1) scope.names []):=by
  have q:=cellsFrom_ok scope.names (s3.heap.push { cls:=.type "dict",data:=.dict #[] }) (s3.heap.objs.size+1) [] ⟨fun _ _ hm=>(nomatch hm),List.Pairwise.nil⟩ (by rw[zbv];exact zav _);rw[zbv,<-hh₁]at q;exact q
 have obj2:∀b∈fp,b<s2.heap.objs.size:=fun b hb=>let⟨o,e,_⟩:=T.obj 0 _ st2 b hb;zal e;have f3:∀b∈fp,jq X ρ (upd H2 s2.heap.objs.size (.lst [])) b:=fun b hb=>⟨by rw[aN (zaw (obj2 b hb))];exact(f2 b hb).1,(f2 b hb).2⟩;have lt3:∀b∈fp,b<s3.heap.objs.size:=fun b hb=>by rw[sz3];exact Nat.lt_succ_of_lt (obj2 b hb)
 obtain⟨W,⟨m0,w0⟩,turn⟩:=hw _ hD;have J0:=fun tk=>Bx (tk:=tk) B I3 f3 lt3 hns old cok;have has:∀y∈scope.names,y.2=.free->∃c,X.env.cells.lookup y.1=some c:=fun y hy hk=>I2.ok.has y.1 (B.free y hy hk);have stat:∀{H':Hp},(∀b∈fp,H' b=none)->∀b∈fp,jq (br X scope ns s3.heap.objs.size (cellsFrom (s3.heap.objs.size+1) scope.names (eJ X.env scope.names)) s3 (upd H2 s2.heap.objs.size (.lst [])) fp) [] H' b:=fun hn b hb=>
  ⟨hn b hb,zaw (lt3 b hb),(J0 0).ok.exfs b hb,.inl hb,fun x c e=>(J0 0).ok.exf b hb |>.2 x c e,fun p hp=>absurd (show p∈([]:List (Addr×Obj))from hp) (by simp)⟩
 have fin:∀{τ:St} {H':Hp} {s':Shared},Inv (br X scope ns s3.heap.objs.size (cellsFrom (s3.heap.objs.size+1) scope.names (eJ X.env scope.names)) s3 (upd H2 s2.heap.objs.size (.lst [])) fp) [] τ H' s'->Qv (.ref s2.heap.objs.size) H'->RR (.ref s2.heap.objs.size) s3.heap.objs.size (.ok .next) s':=fun {τ H' s'} I6 q=>by
  have u1:Un (frs X.stack) fp H2 (upd H2 s2.heap.objs.size (.lst [])) s2.heap s3.heap:=Un.laid k3 (zav _) hD;have os3:s3.os=s2.os:=by rw[<-hs3]
  have I7:Inv X ρ σ H' s':=I2.call' (ch:=fp) (I6.os.trans os3) (u1.trans I6.base) I6.hok I6.bare fun b hb=>⟨(f2 b hb).2.2.2.1,(f2 b hb).2.1,(f2 b hb).2.2.2.2.1,(f2 b hb).2.2.2.2.2⟩;have le2:s2.heap.objs.size<=s3.heap.objs.size:=by rw[sz3];exact Nat.le_succ _
  refine hRR _ _ s' H' I7 q ?_ I6.free (Nat.ne_of_gt (zag I2.lt le2)) (zau I2.sz le2) (fun x c e z=>?_) fun p hp z=>?_
  ·obtain⟨m,hn,_⟩:=I6.loc;exact⟨m,hn⟩
  ·obtain⟨v,hv⟩:=I2.cell x c e;exact absurd (zag hv.lt (by rw[z];exact le2)) (zaI _)
  ·exact absurd (zag (zal (I2.pin p hp).1) (by rw[z];exact le2)) (zaI _)
 rw[<-e3,<-hh₁];have loop:∀tk,codeAny (model X.prog X.w) X.A (.compLoop (.ListComp elt [⟨tg,iter,ifs,0⟩] scope pos) 0 (.ref it) (.ref s2.heap.objs.size) (compEnvC scope (cellsFrom (s3.heap.objs.size+1) scope.names (eJ X.env scope.names)) s3.heap.objs.size X.env))
   (RR (.ref s2.heap.objs.size) s3.heap.objs.size) { s3 with heap:=h₁,toks:=tk }:=fun tk=>by
  refine codeAny_loop rfl (fun n s'=>∃i τ H',Inv (br X scope ns s3.heap.objs.size (cellsFrom (s3.heap.objs.size+1) scope.names (eJ X.env scope.names)) s3 (upd H2 s2.heap.objs.size (.lst [])) fp) [] τ H' s'/\tn i s'.heap/\(∀b∈fp,H' b=none)/\W i n τ H') (fun n s5 hI=>?_) m0
   ⟨0,_,_,J0 tk,T.keep _ _ _ st2 fun b _ o e=>old b o (k3 b o e),fun b hb=>(f3 b hb).1,w0⟩
  obtain⟨i,τ,H5,I5,st5,fr5,w5⟩:=hI;show wpAny _ X.A ((compTurn (.ListComp elt [⟨tg,iter,ifs,0⟩] scope pos) 0 (.ref it) (.ref s2.heap.objs.size) (compEnvC scope (cellsFrom (s3.heap.objs.size+1) scope.names (eJ X.env scope.names)) s3.heap.objs.size X.env)).onRaise (fun x=>do noteFrame x (compEnvC scope (cellsFrom (s3.heap.objs.size+1) scope.names (eJ X.env scope.names)) s3.heap.objs.size X.env);theTreesLotGoes x)) _ _ s5;refine wpAny_noted ?_;rw[compTurn_list];refine zam (wpAny_standAt (zam ?_));rcases turn i n τ H5 w5 with⟨stop,qn⟩|⟨go,N,hN,step⟩
  ·refine thn (T.done (br X scope ns s3.heap.objs.size (cellsFrom (s3.heap.objs.size+1) scope.names (eJ X.env scope.names)) s3 (upd H2 s2.heap.objs.size (.lst [])) fp) rfl rfl rfl hc i [] s5 τ H5 _ I5 (stat fr5) st5 stop) ?_;rintro r s6 ⟨hr,I6⟩;subst hr;exact zaT (fin I6 qn)
  ·refine thn (T.item (br X scope ns s3.heap.objs.size (cellsFrom (s3.heap.objs.size+1) scope.names (eJ X.env scope.names)) s3 (upd H2 s2.heap.objs.size (.lst [])) fp) rfl rfl rfl hc i [] s5 τ H5 _ I5 (stat fr5) st5 go) ?_;rintro r s6 ⟨u,hr,h6⟩;subst hr
   dsimp only
   refine zam (thn h6 fun _ s7 ⟨x,H7,I7,r7,y7,st7,fr7⟩=>?_);have I7':=I7.pinned (stat fr7) (T.obj _ _ st7);have back:∀{τ9:St} {H9:Hp} {s9:Shared},Inv (br X scope ns s3.heap.objs.size (cellsFrom (s3.heap.objs.size+1) scope.names (eJ X.env scope.names)) s3 (upd H2 s2.heap.objs.size (.lst [])) fp) ([]++l6 fp s7.heap) τ9 H9 s9 ->
     Inv (br X scope ns s3.heap.objs.size (cellsFrom (s3.heap.objs.size+1) scope.names (eJ X.env scope.names)) s3 (upd H2 s2.heap.objs.size (.lst [])) fp) [] τ9 H9 s9/\tn (i+1) s9.heap/\∀b∈fp,H9 b=none:=fun {τ9 H9 s9} I9=>by
    refine⟨I9.unpinned,T.keep _ _ _ st7 fun b hb o e=>(I9.pin (b,o) (zbg _ (zbg _ (iN hb e)))).1,fun b hb=>?_⟩;obtain⟨o,e,d⟩:=T.obj _ _ st7 b hb;exact(I9.pin (b,o) (zbg _ (zbg _ (iN hb e)))).2.1
   refine zam (thF (hg _ _ _ _ _ _ s7 τ H7 x u _ I7' r7 (step x H7 y7)) fun _ s8 ⟨τ8,H8,I8,q8⟩=>?_);refine zam (thF (ht _ _ _ _ _ _ s8 τ8 H8 _ I8 q8) fun b s9 ⟨H9,I9,q9⟩=>?_);cases b with
   |false=>
    rw[if_neg zbn]at q9;obtain⟨m',hm,w9⟩:=hN _ _ q9;obtain⟨a1,a2,a3⟩:=back I9;exact zaT ⟨rfl,m',hm,i+1,τ8,H9,a1,a2,a3,w9⟩
   |true=>
    rw[if_pos rfl]at q9;refine zam (zam (thF (he _ _ _ _ _ _ s9 τ8 H9 _ I9 q9) fun v s10 ⟨y,H10,I10,r10,q10⟩=>?_));obtain⟨xs,hx,hz,n10⟩:=q10;obtain⟨m',hm,w10⟩:=hN _ _ n10;refine zam (thF (qY _ s10 τ8 H10 (.ref s2.heap.objs.size) [y] (.ref s2.heap.objs.size) [v] (fun _ H11=>W (i+1) m' τ8 H11) I10 rfl (.cons r10 .nil) ⟨_,xs,y,rfl,rfl,hx,hz,w10⟩) fun _ s11 ⟨_,H11,I11,_,q11⟩=>?_);obtain⟨a1,a2,a3⟩:=back I11;exact zaT (zaT ⟨rfl,m',hm,i+1,τ8,H11,a1,a2,a3,q11⟩)
 have hst1:tn 0 h₁:=T.keep _ _ _ st2 fun b _ o e=>old b o (k3 b o e);subst hs3;exact codeAny_compStart_list (loop _) (T.self _ 0 _ _ _ hst1 (loop _))
def JL(B:BlkOkC X scope ns js)(hc:X.calm=true)(hi:PI X tg iter wi)
  (hg:∀C cl s₀ H₀ fp,PG (br X scope ns C cl s₀ H₀ fp) tg g) (ht:∀C cl s₀ H₀ fp,PTs (br X scope ns C cl s₀ H₀ fp) ifs tt) (he:∀C cl s₀ H₀ fp,PE (br X scope ns C cl s₀ H₀ fp) elt te)
  (hs:∀x,foldedSetIterable iter X.env x=pure x:=by intro _;rfl):PE X (.ListComp elt [⟨tg,iter,ifs,0⟩] scope pos) (tLC wi g tt te js):=by
 intro ρ s σ H Q I h;rw[eval_ListComp];have hclos:=pL (scope:=scope) (env:=X.env) (fun y hy hk=>I.ok.has y.1 (B.free y hy hk));refine wpAny_comprehension_free (use:=none) rfl hs hclos B.kind B.names (thn (hi ρ s σ H _ I h) fun v s1 h1=>thn h1 fun itv s2 h2=>?_);obtain⟨it,fp,tn,J,H2,e,I2,T,st2,f2,hw⟩:=h2;subst e;refine t8 (RR:=fun acc C=>compPost (model X.prog X.w) X.A X.xe none (EP X ρ σ Q) acc C) B hc I2 T st2 f2 hg ht he hw ?_;intro D C s' H' I' q hm c0 c1 c2 c3 c4;obtain⟨m,hn⟩:=hm;exact⟨m,hn,fun h' hs'=>⟨.ref D,H',I'.turned (t':=s'.toks) (fun b o hb e=>(hs'.2 b hb).trans e) c0 c1 (.inr c2) c3 c4,rfl,q⟩⟩
def yy(hN:X.N.Nodup)(hi':X.N[i]?=some x)(hx:X.env.scope.names.lookup x=some .local)(B:BlkOkC X scope ns js)(hc:X.calm=true)(hi:PI X tg iter wi)
  (hg:∀C cl s₀ H₀ fp,PG (br X scope ns C cl s₀ H₀ fp) tg g) (ht:∀C cl s₀ H₀ fp,PTs (br X scope ns C cl s₀ H₀ fp) ifs tt) (he:∀C cl s₀ H₀ fp,PE (br X scope ns C cl s₀ H₀ fp) elt te)
  (hsw:swapsWith (.ListComp elt [⟨tg,iter,ifs,0⟩] scope pos) (some (.Name x pos')) ζ.line X.env=pure true:=by rfl)
  (hs:∀x,foldedSetIterable iter X.env x=pure x:=by intro _;rfl):PS X (.Assign [.Name x pos'] (.ListComp elt [⟨tg,iter,ifs,0⟩] scope pos) ζ) (lZ (tLC wi g tt te js) (pC i)):=by
 intro ρ s σ H D I h;rw[exec_Assign_Name_used _ _ _ _ hsw];have hclos:=pL (scope:=scope) (env:=X.env) (fun y hy hk=>I.ok.has y.1 (B.free y hy hk));refine zam (wpAny_standAt (zam ?_));show wpAny _ X.A (do let _ <-comprehension (.ListComp elt [⟨tg,iter,ifs,0⟩] scope pos) scope X.env _ (newList []) false (eval iter X.env) (some (assign (.Name x pos') X.env))) _ _ s;refine zam (wpAny_mono (wpAny_comprehension_free (use:=some (assign (.Name x pos') X.env)) (Q:=fun _ s'=>SP X ρ D .next s') rfl hs hclos B.kind B.names
  (thn (hi ρ s σ H _ I h) fun v s1 h1=>thn h1 fun itv s2 h2=>?_)) (fun _ s' hq=>zaT (zaT hq)) fun _ _ e=>e)
 obtain⟨it,fp,tn,J,H2,e,I2,T,st2,f2,hw⟩:=h2;subst e;refine t8 (RR:=fun acc C=>compPost (model X.prog X.w) X.A X.xe (some (assign (.Name x pos') X.env)) (fun _ s'=>SP X ρ D .next s') acc C) B hc I2 T st2 f2 hg ht he hw ?_;intro D' C s' H' I' q hm c0 c1 c2 c3 c4;obtain⟨m,hn⟩:=hm;show wpAny _ X.A (assign (.Name x pos') X.env (.ref D')) _ _ _;refine wpAny_assign_Name (qW (v:=.ref D') I' hN hi' (.inl hx) rfl (fun s4 I4 ⟨a,hsb,ha⟩=>?_) (.inr hx));have ne:C≠a:=by
  rcases ha with z|z
  ·rw[z];exact c1
  ·exact(c3 x a z).symm
 exact⟨m,hn.sameBut hsb ne,fun h' hs'=>⟨_,H',I4.turned (t':=s4.toks) (fun b o hb e=>(hs'.2 b hb).trans e) c0 c1 (.inr c2) c3 c4,q⟩⟩
end
theorem nA(ns:List Int):∀k,k<=ns.length->preSum (fun i=>ns.getD i 0) k=(ns.take k).sum
 |0,_=>rfl
 |k+1,h=>by
  show preSum (fun i=>ns.getD i 0) k+ns.getD k 0=_;rw[nA ns k (by omega),PyProof.Rows.take_sum_succ ns k (by omega)]
mutual
def DV(H:Hp):V->PyData->Prop
 |v,.none=>v=.non
 |v,.bool b=>v=.bl b
 |v,.int i=>v=.int i
 |v,.str x=>v=.str x
 |v,.list ds=>∃a xs,v=.ref a/\H a=some (.lst xs)/\DVs H xs ds
 |v,.tuple ds=>∃a xs,v=.ref a/\H a=some (.tup xs)/\DVs H xs ds
 |_,.dict _=>False
def DVs(H:Hp):List V->List PyData->Prop
 |vs,[]=>vs=[]
 |vs,d::ds=>∃v r,vs=v::r/\DV H v d/\DVs H r ds
end
mutual
theorem DV.same{H H':Hp}(s:LA H H'):∀{v:V} (d:PyData),DV H v d->DV H' v d
 |_,.none,h=>by simpa[DV]using h
 |_,.bool _,h=>by simpa[DV]using h
 |_,.int _,h=>by simpa[DV]using h
 |_,.str _,h=>by simpa[DV]using h
 |_,.list ds,h=>by
  unfold DV at h ⊢;obtain⟨a,xs,e,h1,h2⟩:=h;exact⟨a,xs,e,s _ _ h1,DVs.same s ds h2⟩
 |_,.tuple ds,h=>by
  unfold DV at h ⊢;obtain⟨a,xs,e,h1,h2⟩:=h;exact⟨a,xs,e,s _ _ h1,DVs.same s ds h2⟩
 |_,.dict _,h=>by
  unfold DV at h;exact h.elim
theorem DVs.same{H H':Hp}(s:LA H H'):∀{vs:List V} (ds:List PyData),DVs H vs ds->DVs H' vs ds
 |_,[],h=>by
  unfold DVs at h ⊢;exact h
 |_,d::ds,h=>by
  unfold DVs at h ⊢;obtain⟨v,r,e,h1,h2⟩:=h;exact⟨v,r,e,DV.same s d h1,DVs.same s ds h2⟩
end
section
variable{s:Shared}
mutual
theorem DV.reads(I:Inv X ρ σ H s):∀{v:V} {u:Value} (d:PyData),DV H v d->RelV v u->∃as,Reads s.heap u d as
 |_,_,.none,h,r=>by
  unfold DV at h;subst h;cases r;exact⟨_,.none⟩
 |_,_,.bool b,h,r=>by
  unfold DV at h;subst h;cases r;exact⟨_,.bool _⟩
 |_,_,.int i,h,r=>by
  unfold DV at h;subst h;obtain⟨t,rfl⟩:=r;exact⟨_,.int _ _⟩
 |_,_,.str x,h,r=>by
  unfold DV at h;subst h;obtain⟨t,rfl⟩:=r;exact⟨_,.str _ _⟩
 |_,_,.list ds,h,r=>by
  unfold DV at h;obtain⟨a,xs,rfl,h1,h2⟩:=h;cases r;obtain⟨its,rv,⟨o,n,e1,e2,_,e3⟩,_⟩:=I.list (SqL.of h1);obtain⟨as,ra⟩:=DVs.reads I ds h2 rv;exact⟨_,.list e1 e2 e3 (by simpa using ra)⟩
 |_,_,.tuple ds,h,r=>by
  unfold DV at h;obtain⟨a,xs,rfl,h1,h2⟩:=h;cases r;obtain⟨its,rv,⟨o,e1,e2,n,e3⟩,_⟩:=I.tuple (SqT.of h1);obtain⟨as,ra⟩:=DVs.reads I ds h2 rv;exact⟨_,.tuple e1 e2 e3 (by simpa using ra)⟩
 |_,_,.dict _,h,_=>by
  unfold DV at h;exact h.elim
theorem DVs.reads(I:Inv X ρ σ H s):∀{vs:List V} {us:List Value} (ds:List PyData),DVs H vs ds->Vals vs us->∃as,ReadsAll s.heap us ds as
 |_,_,[],h,r=>by
  unfold DVs at h;subst h;cases r;exact⟨_,.nil⟩
 |_,_,d::ds,h,r=>by
  unfold DVs at h;obtain⟨v,t,rfl,h1,h2⟩:=h;cases r with
  |cons ru rr=>
   obtain⟨as,a1⟩:=DV.reads I d h1 ru;obtain⟨bs,a2⟩:=DVs.reads I ds h2 rr;exact⟨_,.cons a1 a2⟩
end
end
mutual
theorem rm{H:Hp}:∀{v:V} (d:PyData),DV H v d->d.hasDict=false
 |_,.none,_=>by simp only[PyData.hasDict]
 |_,.bool _,_=>by simp only[PyData.hasDict]
 |_,.int _,_=>by simp only[PyData.hasDict]
 |_,.str _,_=>by simp only[PyData.hasDict]
 |_,.list ds,h=>by
  unfold DV at h;obtain⟨a,xs,e,h1,h2⟩:=h;simp only[PyData.hasDict];exact lf ds h2
 |_,.tuple ds,h=>by
  unfold DV at h;obtain⟨a,xs,e,h1,h2⟩:=h;simp only[PyData.hasDict];exact lf ds h2
 |_,.dict _,h=>by
  unfold DV at h;exact h.elim
theorem lf{H:Hp}:∀{vs:List V} (ds:List PyData),DVs H vs ds->PyData.hasDictAll ds=false
 |_,[],_=>by simp only[PyData.hasDictAll]
 |_,d::ds,h=>by
  unfold DVs at h;obtain⟨v,r,e,h1,h2⟩:=h;simp only[PyData.hasDictAll,rm d h1,lf ds h2,Bool.or_self]
end
def LP:List V->Hp->VK->Prop:=fun xs H Q=>∃x d,xs=[x]/\DV H x d/\d.showable=true/\d.depth<=60/\d.shown.length<=sizeLine/\Q (.str d.shown) H
def zM(hg:X.A.guards=some [])(hu:X.A.units+64<cLine):CallR X (.builtin "repr") LP:=by
 intro ρ s σ H xs us Q I r h;obtain⟨x,d,rfl,hd,hsh,hdp,hsz,q⟩:=h;obtain⟨u,rfl,ru⟩:=dB r;have nd:=rm d hd;obtain⟨as,rd⟩:=DV.reads I d hd ru;cases d with
 |none=>
  unfold DV at hd;subst hd;cases ru;have e:(PyData.none).shown=("None":Str):=PyData.shown_none;rw[e]at q;exact P.repr_of_none ⟨.str _,H,I.tok _,⟨_,rfl⟩,q⟩
 |bool b=>
  unfold DV at hd;subst hd;cases ru;have e:(PyData.bool b).shown=(if b then "True" else "False":Str):=PyData.shown_bool b;rw[e]at q;exact P.repr_of_bool ⟨.str (if b then "True" else "False"),H,I.tok _,⟨_,rfl⟩,q⟩
 |int i=>
  unfold DV at hd;subst hd;obtain⟨t,rfl⟩:=ru;have e:(PyData.int i).shown=((toString i:String):Str):=PyData.shown_int i;rw[e]at q;have hl:i.natAbs.log2<1920:=by simpa[PyData.showable]using hsh
  exact P.repr_of_int hl ⟨.str _,H,I.tok _,⟨_,rfl⟩,q⟩
 |str y=>
  unfold DV at hd;subst hd;obtain⟨t,rfl⟩:=ru;have e:(PyData.str y).shown=reprText y:=PyData.shown_str y;rw[e]at q hsz;exact P.repr_of_str ⟨.str _,H,I.tok _,⟨_,rfl⟩,q⟩ hsz
 |list ds=>
  have hd':=hd;unfold DV at hd';obtain⟨a,ys,rfl,_,_⟩:=hd';cases ru;exact repr_of_reads' rd hsh (PyData.noDict_hsm nd) hg (by omega) (fun _ _ e=>e) (fun h' u tk hk=>⟨.str _,H,I.kept (t':=tk) hk,⟨_,rfl⟩,q⟩) hsz
 |tuple ds=>
  have hd':=hd;unfold DV at hd';obtain⟨a,ys,rfl,_,_⟩:=hd';cases ru;exact repr_of_reads' rd hsh (PyData.noDict_hsm nd) hg (by omega) (fun _ _ e=>e) (fun h' u tk hk=>⟨.str _,H,I.kept (t':=tk) hk,⟨_,rfl⟩,q⟩) hsz
 |dict _=>
  unfold DV at hd;exact hd.elim
section
variable{s:Shared}
def wG{vals:Array Value}{y:Value}{R:Value->Shared->Prop}(a1:s.heap.IsTupleIter jt tu n)(a2:s.heap.IsTuple tu vals)(a3:vals[n]?=some y)
  (q:∀g,g.IsTupleIter jt tu (n+1)->Heap.SameBut jt s.heap g->R y { s with heap:=g }):wpAny (model prog w) A (Builtin.SmallTypes.nextOf (.ref jt)) R E s:=by
 obtain⟨ob,b1,b2,b3⟩:=id a1;obtain⟨ot,c1,_,m,c2⟩:=a2;unfold Builtin.SmallTypes.nextOf;refine zam (zbB (name:=Str.ofString "__next__") a1.typeIs F.slot_tuple_iterator_next (wpAny_call_entry F.slot_tuple_iterator_next a1.typeIs F.entry_tuple_iterator_next ?_ (F.args_tuple_iterator_next_1 _)));show wpAny _ _ (field (.ref jt) 0 >>= _) _ _ s;refine zam (wpAny_field b1 b3 (x:=.ref tu) rfl ?_);show wpAny _ _ (if(Value.ref tu==Value.none)=true then _ else _) _ _ s;rw[if_neg (show ¬((Value.ref tu==Value.none)=true)from zbn)];show wpAny _ _ (field (.ref jt) 1 >>= _) _ _ s;refine zam (wpAny_field b1 b3 (x:=.int n 0) rfl ?_);show wpAny _ _ (seqItems? (.ref tu) >>= _) _ _ s;refine zam (wpAny_seqItems c1 c2 ?_);simp only[zaL,a3];refine zam (wpAny_setField b1 b3 (by simp) (zaT ⟨y,rfl,zaT (q _ ?_ (Heap.SameBut.update ..))⟩));refine⟨_,Heap.get?_update_self _ b1 (Obj.isFreed_of_fields (Obj.data_mapFields b3 _)),(Obj.cls_mapFields ..).trans b2,?_⟩;rw[Obj.data_mapFields b3];simp[rawInt]
def qV{vals:Array Value}{R:Value->Shared->Prop}(hh:A.handled=none)(a1:s.heap.IsTupleIter jt tu n)(a2:s.heap.IsTuple tu vals)(a3:vals[n]?=none)
  (q:∀g e,Heap.ExtBut jt s.heap g->(∃o,g.get? e=some o/\o.cls=.type "StopIteration")->E (.ref e) { s with heap:=g }):wpAny (model prog w) A (Builtin.SmallTypes.nextOf (.ref jt)) R E s:=by
 obtain⟨ob,b1,b2,b3⟩:=id a1;obtain⟨ot,c1,_,m,c2⟩:=a2;unfold Builtin.SmallTypes.nextOf;refine zam (zbB (name:=Str.ofString "__next__") a1.typeIs F.slot_tuple_iterator_next (wpAny_call_entry F.slot_tuple_iterator_next a1.typeIs F.entry_tuple_iterator_next ?_ (F.args_tuple_iterator_next_1 _)));show wpAny _ _ (field (.ref jt) 0 >>= _) _ _ s;refine zam (wpAny_field b1 b3 (x:=.ref tu) rfl ?_);show wpAny _ _ (if(Value.ref tu==Value.none)=true then _ else _) _ _ s;rw[if_neg (show ¬((Value.ref tu==Value.none)=true)from zbn)];show wpAny _ _ (field (.ref jt) 1 >>= _) _ _ s;refine zam (wpAny_field b1 b3 (x:=.int n 0) rfl ?_);show wpAny _ _ (seqItems? (.ref tu) >>= _) _ _ s;refine zam (wpAny_seqItems c1 c2 ?_);simp only[zaL,a3];refine zam (wpAny_rule (zam (wpAny_setField b1 b3 (by simp) ?_)));show wpAny _ _ (newExc (.type "StopIteration") [] >>= _) _ _ _;refine zam ?_;simp only[newExc,newTuple];refine zam (wpAny_newObj_type ?_ (by show(0:Nat)<=_;exact zbj _));refine zam (m:=firstArgMember _ _) (wpAny_of_eq (a:=Value.none) (by first|rfl | (simp only[firstArgMember];rfl)) ?_);refine wpAny_newObj_type ?_;simp only[raiseNew];refine zam (wpAny_handled ?_)
 first|rw[show A.in1.handled=none from hh]|rw[hh]
 refine zam (zaT (wpAny_throw ?_));exact q _ _ (((Heap.SameBut.update ..).extBut.push _).push _) ⟨_,zan _ rfl,rfl⟩
def zG(hh:A.handled=none)(jt tu:Addr)(hne:tu≠jt)(vals:Array Value):Draws prog w A jt [jt,tu] vals.size (fun i v=>vals[i]?=some v) (fun i h=>h.IsTupleIter jt tu i/\h.IsTuple tu vals) where
 live:=fun _ _ st=>let⟨o,ho,_⟩:=st.1;⟨o,ho⟩
 frame:=fun _ _ _ st hk=>⟨st.1.at fun o e=>hk jt (by simp) o e,let⟨o,ho,r⟩:=st.2;⟨o,hk tu (by simp) o ho,r⟩⟩
 item:=fun i s Q E hi st hQ=>by
  refine wG st.1 st.2 (y:=vals[i]) (by simp[hi]) fun g st' sb=>?_;exact hQ _ g s.toks (by simp[hi]) ⟨st',let⟨o,ho,r⟩:=st.2;⟨o,sb.extBut _ _ hne ho,r⟩⟩ sb
 done:=fun s Q E st hE=>qV hh st.1 st.2 (by simp) hE
end
def qD(tu:Addr)(vals:Array Value)(n:Nat)(dct:Option Addr)(sl:Array (Option Value)):
  Meets (Builtin.«enumerate.__new__» ⟨[.type "enumerate",.ref tu],[]⟩) (fun _ R s=>s.heap.get? tu=some { cls:=.type "tuple",dict:=dct,data:=.seq vals n,slots:=sl } /\
   R (.ok (.ret (.ref (s.heap.push { cls:=.type "tuple_iterator",data:=.fields #[.ref tu,.int 0 0] }).objs.size)))
    { s with heap:=(s.heap.push { cls:=.type "tuple_iterator",data:=.fields #[.ref tu,.int 0 0] }).push { cls:=.type "enumerate",data:=.fields #[.none,.bool false,.ref s.heap.objs.size,rawInt 0,.none,.none] } }):=
 .of_wp fun prog w A R s h=>by
  obtain⟨hp,g,d,tk,os⟩:=s;obtain⟨ht,h⟩:=h;have hsub:=sub_enumerate;have hT:Heap.IsTuple (Shared.heap ⟨hp,g,d,tk,os⟩) tu vals:=⟨_,ht,rfl,n,rfl⟩
  wp_walk using AutoSeq1.wpAny_loadPart' ht
  refine wpAny_stack_any fun st=>zaT ?_;split
  ·rename_i c _ _ _ _ _;cases(c==Value.type "enumerate")
   ·wp_walk using AutoSeq1.wpAny_loadPart' ht,wpAny_pyIter_tuple hT
    exact⟨_,rfl,h⟩
   ·wp_walk using AutoSeq1.wpAny_loadPart' ht,wpAny_pyIter_tuple hT
    exact⟨_,rfl,h⟩
  ·wp_walk using AutoSeq1.wpAny_loadPart' ht,wpAny_pyIter_tuple hT
   exact⟨_,rfl,h⟩
section
variable{s:Shared}
def rW{vals:Array Value}{Q:Value->Shared->Prop}(hT:s.heap.IsTuple tu vals)
  (h:∀g,IsEnum g (s.heap.objs.size+1) s.heap.objs.size 0 .none->g.IsTupleIter s.heap.objs.size tu 0->g.objs.size=s.heap.objs.size+2 ->
   (∀b o,s.heap.get? b=some o->g.get? b=some o)->Q (.ref (s.heap.objs.size+1)) { s with heap:=g }):
  wpAny (model prog w) A (call (.type "enumerate") [.ref tu]) Q E s:=by
 obtain⟨⟨c,dct,dt,sl⟩,hl,hc,n,hd⟩:=hT;have hc':c=.type "tuple":=hc;have hd':dt=.seq vals n:=hd;subst hc' hd';refine callType_new F.called_enumerate (by decide) (F.typeCall_enumerate_1 _) (F.newCall_enumerate_1 _) (fun ob=>F.args_object_init_2 ob _) F.entry_enumerate_new (qD tu vals n dct sl) ⟨hl,?_⟩;have sz1:(s.heap.push { cls:=.type "tuple_iterator",data:=.fields #[.ref tu,.int 0 0] }).objs.size=s.heap.objs.size+1:=zbv ..;show _/\_;rw[sz1];have g2:=zan (s.heap.push { cls:=.type "tuple_iterator",data:=.fields #[.ref tu,.int 0 0] }) (o:={ cls:=.type "enumerate",data:=.fields #[.none,.bool false,.ref s.heap.objs.size,rawInt 0,.none,.none] }) rfl;rw[sz1]at g2;refine⟨⟨_,g2,rfl⟩,h _ g2 ⟨_,zaf _ (zan _ rfl),rfl,rfl⟩ (by rw[zbv,sz1]) fun b o x=>zaf _ (zaf _ x)⟩
def zC{e it:Addr}{i:Int}{vals:Array Value}{old:Value}{Q:Option Value->Shared->Prop}(hh:A.handled=none)(he:IsEnum s.heap e it i old)(a1:s.heap.IsTupleIter it tu n)(a2:s.heap.IsTuple tu vals)(a3:vals[n]?=none)
  (q:∀g,Heap.ExtBut it s.heap g->Q none { s with heap:=g }):wpAny (model prog w) A (pyNext (.ref e)) Q E s:=by
 have ty:s.TypeIs (.ref e) "enumerate":=⟨_,he,rfl⟩;unfold pyNext;refine zam (wpAny_attempt (zbB (name:=Str.ofString "__next__") ty F.slot_enumerate_next (wpAny_call_entry F.slot_enumerate_next ty F.entry_enumerate_next ?_ (F.args_enumerate_next_1 _))));show wpAny _ _ (field (.ref e) 2 >>= _) _ _ _;refine zam (wpAny_field he rfl (x:=.ref it) rfl ?_);refine zam (qV hh a1 a2 a3 fun g x k hx=>?_);obtain⟨o,ho,hc⟩:=hx;exact zam (wpAny_isInstance (T:="StopIteration") (b:=true) ⟨o,ho,hc⟩ isSubtype_stop (zaT (q _ k)))
end
def ItT(K:zbY)(a:Addr):It:=
 ⟨fun i H=>∃xs x,SqT K H a xs/\xs[i]?=some x,
  fun i H y H'=>∃p x,y=.ref p/\H p=none/\H'=upd H p (.tup [.int i,x])/\∀xs,SqT K H a xs->xs[i]?=some x,
  fun i H=>∃xs,SqT K H a xs/\xs.length<=i⟩
def wF{P:Program}(a e it:Addr)(hei:e≠it)(hai:a≠it):
  Turn P w K (.Tuple elts k tp) (ItT K a) [e,it] e (fun i h=>(∃old,IsEnum h e it i old)/\h.IsTupleIter it a i) where
 mem:=by simp
 obj:=fun i h st b hb=>by
  obtain⟨⟨old,he⟩,o,ho,hc,hd⟩:=st;have hb':b=e\/b=it:=by simpa using hb
  rcases hb' with rfl|rfl
  ·exact⟨_,he,fun v z=>by
    have z':Data.fields _=Data.cell v:=z;cases z'⟩
  ·exact⟨o,ho,fun v z=>by rw[hd]at z;cases z⟩
 keep:=fun i h h' st kp=>⟨let⟨old,he⟩:=st.1;⟨old,kp e (by simp) _ he⟩,st.2.at fun o q=>kp it (by simp) o q⟩
 item:=by
  intro X hP hw hK hc i ρ s σ H E I hf st hg;subst hP hw hK;obtain⟨xs,x,hq,hx⟩:=hg;obtain⟨its,rv,pt,hz⟩:=I.tuple hq;obtain⟨u,hu,ru⟩:=rv.get hx;obtain⟨⟨old,he⟩,hit⟩:=st;have hT:s.heap.IsTuple a its.toArray:=pt;have hea:e≠a:=fun z=>by
   subst z;obtain⟨o,e1,e2,_⟩:=id hT;have he':s.heap.get? e=some _:=he;rw[e1]at he';cases he';simp at e2
  have hu':its.toArray[i]?=some u:=by simpa using hu
  have hlt:i<its.toArray.size:=(Array.getElem?_eq_some_iff.mp hu').1;refine wpAny_pyNext_enum_itemD (zG (A:=X.A.in1) (show X.A.in1.handled=none from I.ok.hd hc) it a hai its.toArray) he ⟨hit,hT⟩ hlt hei (by simp[hei,hea]) fun y h1 tk hy ho1 st1 ht1 hz1 hk1=>?_;rw[hu']at hy;cases hy;refine⟨_,rfl,wpAny_letOwnedTupleGo_enum ho1 fun h2 he2 hs2=>?_⟩;have eL:e<s.heap.objs.size:=zal he;have ht2:h2.get? s.heap.objs.size=some { cls:=.type "tuple",data:=.seq #[.int i tk,u] }:=(hs2.2 _ (Nat.ne_of_gt eL)).trans ht1;have hit2:h2.IsTupleIter it a (i+1):=st1.1.at fun o q=>hs2.extBut _ _ hei.symm q;have I2:Inv X ρ σ (upd H s.heap.objs.size (.tup [.int i,x])) { s with heap:=h2,toks:=tk+1 }:=by
   refine I.turnedLaid (fp:=[e,it]) hf (zav _) (fun b ob hb q=>?_) (fun b hb=>?_) ?_
   ·have h1:b≠e:=fun z=>hb (by simp[z]);have h2':b≠it:=fun z=>hb (by simp[z]);exact(hs2.2 b h1).trans (hk1 b ob h1 h2' q)
   ·have hb':b=e\/b=it:=by simpa using hb
    rcases hb' with rfl|rfl
    ·exact⟨_,he2⟩
    ·obtain⟨o,ho,_⟩:=hit2;exact⟨o,ho⟩
   ·refine⟨(by show 2<=sizeLine;decide),[.int i tk,u],.cons ⟨_,rfl⟩ (.cons ru .nil),?_⟩;exact⟨_,ht2,rfl,_,rfl,rfl⟩
  have fr:∀b∈[e,it],upd H s.heap.objs.size (.tup [.int i,x]) b=none:=fun b hb=>by
   have hlt:b<s.heap.objs.size:=by
    have hb':b=e\/b=it:=by simpa using hb
    rcases hb' with rfl|rfl
    ·exact eL
    ·obtain⟨o,ho,_⟩:=hit;exact zal ho
   rw[aN (zaw hlt)];exact(hf b hb).1
  exact⟨.ref s.heap.objs.size,_,I2,rfl,⟨_,x,rfl,I.fresh,rfl,fun ys hy=>by rw[I.tuple_inj hy hq];exact hx⟩,⟨⟨_,he2⟩,hit2⟩,fr⟩
 done:=by
  intro X hP hw hK hc i ρ s σ H E I hf st hg;subst hP hw hK;obtain⟨xs,hq,hx⟩:=hg;obtain⟨its,rv,pt,hz⟩:=I.tuple hq;obtain⟨⟨old,he⟩,hit⟩:=st;obtain⟨f0,f1,f2,f3,f4,f5⟩:=hf it (by simp);have hl:=rv.length;have hT:s.heap.IsTuple a its.toArray:=pt;exact zC (I.ok.hd hc) he hit hT (by simp;omega) fun h' eb=>⟨rfl,I.turned (t':=s.toks) (fun b o hb q=>eb b o hb q) f0 f1 f3 f4 f5⟩
 self:=fun _ _ _ _ _ st h=>let⟨⟨_,he⟩,_⟩:=st;wpAny_pyIter_enum he h
section
open PySem.SeqAt
end
def Rp(H:Hp)(v:V)(txt:Str):Prop:=(∃d,DV H v d/\d.showable=true/\d.depth<=60/\d.shown.length<=sizeLine/\txt=d.shown)\/∃a,v=.ref a/\Rd H a (.dK [])/\txt=("{}":Str)
def Ju:List V->Hp->VK->Prop:=fun xs H Q=>∃x txt,xs=[x]/\Rp H x txt/\Q (.str txt) H
def xF(hg:X.A.guards=some [])(hu:X.A.units+64<cLine):CallR X (.builtin "repr") Ju:=by
 intro ρ s σ H xs us Q I r h;obtain⟨x,txt,rfl,hd,q⟩:=h;rcases hd with⟨d,h1,h2,h3,h4,rfl⟩|⟨a,rfl,ha,rfl⟩
 ·exact zM hg hu ρ s σ H _ us Q I r ⟨x,d,rfl,h1,h2,h3,h4,q⟩
 ·obtain⟨u,rfl,ru⟩:=dB r;cases ru;obtain⟨_,hsys,vs,kv,dd⟩:=iP I.hok ha;have hv:vs=[]:=by
   have e:=KV.length kv;exact za7.mp e.symm
  subst hv;have rd:Reads s.heap (.ref a) (.dict []) (a::[]++[]):=by
   obtain⟨o,es,n,g1,g2,g3,_,g5,_⟩:=dd;have h0:es.toList=[]:=by
    generalize es.toList=L at g5;cases g5;rfl
   refine .dict g1 g2.1 g3 ?_ ?_
   ·rw[h0];exact .nil
   ·rw[h0];exact .nil
  have e:(PyData.dict []).shown=("{}":Str):=by decide +kernel
  refine repr_of_reads' rd (by decide +kernel) (fun _ hm=>?_) hg (by show X.A.units+(1+1)<cLine;omega) (fun _ _ e=>e) (fun h' u tk hk=>⟨.str _,H,I.kept (t':=tk) hk,⟨_,rfl⟩,?_⟩) (by rw[e];decide)
  ·have hm':sysModules=a:=by simpa using hm
   rw[<-hm']at hsys;simp at hsys
  ·rw[e];exact q
abbrev D:=PyData
variable{t t1 t2:D}{ks:List (D×D)}{g g':D->D->Option D}{ts us:List D}
abbrev En:=List (Option D)
variable{en en' en1 en2:En}
abbrev AS:=Addr->Prop
variable{R R' R1:Nat->AS}{O O' G F2 Ox Ox' F1 F0 F' O1:AS}
def dn:Nat->Nat
 |0=>0
 |1=>0
 |2=>1
 |n+3=>n+3
def qK:∀{a b:Nat},a<=b->dn a<=dn b
 |0,_,_=>zbj _
 |1,_,_=>zbj _
 |2,2,_=>zav _
 |2,b+3,_=>by show 1<=b+3;omega
 |a+3,b+3,h=>h
 |a+3,0,h=>by omega
 |a+3,1,h=>by omega
 |a+3,2,h=>by omega
 |2,0,h=>by omega
 |2,1,h=>by omega
def kD:Key->D
 |.inl i=>.int i
 |.inr x=>.str x
def FzL(K:zbY)(O:AS)(H:Hp)(a:Addr)(vs:List V):Prop:=(Rd H a (.lst vs)/\¬O a)\/∀H',SqL K H' a vs
def FzT(K:zbY)(O:AS)(H:Hp)(a:Addr)(vs:List V):Prop:=H a=some (.tup vs)/\¬O a
def FzL.sq(h:FzL K O H a vs):SqL K H a vs:=h.elim (fun h=>.inl h.1) fun h=>h H
def FzT.sq(h:FzT K O H a vs):SqT K H a vs:=SqT.of h.1
def Lf(a C:Addr):Heap->Prop:=fun h=>∃o,h.get? a=some o/\o.cls=.ref C/\∀c,o.data≠.cls c
def TupD(K:zbY)(H:Hp)(O:AS)(ks:List (D×D))(a:Addr):Prop:=(∃(kk:List Key) (b:Bool),ks=[(.tuple (kk.map kD),.bool b)]/\H a=some (.dT [(kk,.bl b)])/\¬O a) \/
 ∃(x:Str) (C:Addr),ks=[(.none,.str x)]/\PySem.W.nsIn K mainGlobals x=some (some (.ref C))/\H a=some (.ext (Lf a C))/\¬O a
def TupD.to(h:TupD K H O ks a)(k:∀o,H a=some o->¬O a->H' a=some o/\¬O' a):TupD K H' O' ks a:=by
 rcases h with⟨kk,b,h1,h2,h3⟩|⟨x,C,h1,h0,h2,h3⟩
 ·obtain⟨g1,g2⟩:=k _ h2 h3;exact .inl ⟨kk,b,h1,g1,g2⟩
 ·obtain⟨g1,g2⟩:=k _ h2 h3;exact .inr ⟨x,C,h1,h0,g1,g2⟩
mutual
def Ow(K:zbY)(O:AS)(H:Hp):D->Nat->V->AS->Prop
 |.none,_,v,_=>v=.non
 |.bool b,_,v,_=>v=.bl b
 |.int i,_,v,_=>v=.int i
 |.str x,_,v,_=>v=.str x
 |.tuple ts,d,v,F=>∃a vs,v=.ref a/\((d=0/\FzT K O H a vs/\Ows K O H ts 0 vs F)\/(d≠0/\H a=some (.tup vs)/\F a/\∃F':AS,(∀b,F' b->F b/\b≠a)/\Ows K O H ts (dn d) vs F'))
 |.list ts,d,v,F=>∃a vs,v=.ref a/\((d=0/\FzL K O H a vs/\Ows K O H ts 0 vs F)\/(d≠0/\H a=some (.lst vs)/\F a/\∃F':AS,(∀b,F' b->F b/\b≠a)/\Ows K O H ts (dn d) vs F'))
 |.dict ks,d,v,F=>∃a vs,v=.ref a/\((d=0/\Rd H a (.dK vs)/\¬O a/\Owd K O H ks 0 vs F)\/(d≠0/\H a=some (.dK vs)/\F a/\∃F':AS,(∀b,F' b->F b/\b≠a)/\Owd K O H ks (dn d) vs F')\/(d=0/\TupD K H O ks a))
def Ows(K:zbY)(O:AS)(H:Hp):List D->Nat->List V->AS->Prop
 |[],_,vs,_=>vs=[]
 |t::ts,d,vs,F=>∃v r,∃F1 F2:AS,vs=v::r/\(∀b,F1 b->F b)/\(∀b,F2 b->F b)/\(∀b,F1 b->¬F2 b)/\Ow K O H t d v F1/\Ows K O H ts d r F2
def Owd(K:zbY)(O:AS)(H:Hp):List (D×D)->Nat->List (Key×V)->AS->Prop
 |[],_,vs,_=>vs=[]
 | (k,t)::ts,d,vs,F=>∃q v r,∃F1 F2:AS,vs=(q,v)::r/\k=kD q/\(∀b,F1 b->F b)/\(∀b,F2 b->F b)/\(∀b,F1 b->¬F2 b)/\Ow K O H t d v F1/\Owd K O H ts d r F2
end
def Rd.mv(hk:∀o,H a=some o->H' a=some o)(h:Rd H a u):Rd H' a u:=by
 rcases h with h|⟨o,h⟩
 ·exact .inl (hk _ h)
 ·exact .inr ⟨o,hk _ h⟩
def Rd.there(h:Rd H a u):H a≠none:=by
 rcases h with h|⟨o,h⟩<;>rw[h]<;>exact fun z=>nomatch z
structure Mv(O O':AS)(G:AS)(H H':Hp):Prop where
 k:∀a o,H a=some o->(¬O a\/G a)->H' a=some o
 o:∀a,O' a->O a\/H a=none
def FzL.mv{G:AS}{a:Addr}{vs:List V}(m:Mv O O' G H H')(h:FzL K O H a vs):FzL K O' H' a vs:=by
 rcases h with⟨h,n⟩|h
 ·refine .inl ⟨h.mv fun o e=>m.k _ _ e (.inl n),fun z=>?_⟩;rcases m.o _ z with z|z
  ·exact n z
  ·exact h.there z
 ·exact .inr h
def FzT.mv(m:Mv O O' G H H')(h:FzT K O H a vs):FzT K O' H' a vs:=by
 obtain⟨h,n⟩:=h;refine⟨m.k _ _ h (.inl n),fun z=>?_⟩;rcases m.o _ z with z|z
 ·exact n z
 ·rw[h]at z;cases z
mutual
theorem Ow.mv{G:AS}(m:Mv O O' G H H'):∀(t:D) {d:Nat} {v:V} {F:AS},(∀b,F b->G b)->Ow K O H t d v F->Ow K O' H' t d v F
 |.none,_,_,_,_,h=>h
 |.bool _,_,_,_,_,h=>h
 |.int _,_,_,_,_,h=>h
 |.str _,_,_,_,_,h=>h
 |.tuple ts,_,_,_,g,h=>by
  obtain⟨a,vs,e,⟨h0,h1,h2⟩|⟨h0,h1,h2,F',hf,h3⟩⟩:=h
  ·exact⟨a,vs,e,.inl ⟨h0,h1.mv m,Ows.mv m ts g h2⟩⟩
  ·exact⟨a,vs,e,.inr ⟨h0,m.k _ _ h1 (.inr (g _ h2)),h2,F',hf,Ows.mv m ts (fun b hb=>g _ (hf b hb).1) h3⟩⟩
 |.list ts,_,_,_,g,h=>by
  obtain⟨a,vs,e,⟨h0,h1,h2⟩|⟨h0,h1,h2,F',hf,h3⟩⟩:=h
  ·exact⟨a,vs,e,.inl ⟨h0,h1.mv m,Ows.mv m ts g h2⟩⟩
  ·exact⟨a,vs,e,.inr ⟨h0,m.k _ _ h1 (.inr (g _ h2)),h2,F',hf,Ows.mv m ts (fun b hb=>g _ (hf b hb).1) h3⟩⟩
 |.dict ks,_,_,_,g,h=>by
  obtain⟨a,vs,e,⟨h0,h1,hn,h2⟩|⟨h0,h1,h2,F',hf,h3⟩|⟨h0,ht⟩⟩:=h
  ·refine⟨a,vs,e,.inl ⟨h0,h1.mv fun o e=>m.k _ _ e (.inl hn),fun z=>?_,Owd.mv m ks g h2⟩⟩;rcases m.o _ z with z|z
   ·exact hn z
   ·exact h1.there z
  ·exact⟨a,vs,e,.inr (.inl ⟨h0,m.k _ _ h1 (.inr (g _ h2)),h2,F',hf,Owd.mv m ks (fun b hb=>g _ (hf b hb).1) h3⟩)⟩
  ·refine⟨a,vs,e,.inr (.inr ⟨h0,ht.to fun o h2 hn=>⟨m.k _ _ h2 (.inl hn),fun z=>?_⟩⟩)⟩;rcases m.o _ z with z|z
   ·exact hn z
   ·rw[h2]at z;cases z
theorem Ows.mv{G:AS}(m:Mv O O' G H H'):∀(ts:List D) {d:Nat} {vs:List V} {F:AS},(∀b,F b->G b)->Ows K O H ts d vs F->Ows K O' H' ts d vs F
 |[],_,_,_,_,h=>h
 |t::ts,_,_,_,g,h=>by
  obtain⟨v,r,F1,F2,e,h1,h2,h3,h4,h5⟩:=h;exact⟨v,r,F1,F2,e,h1,h2,h3,Ow.mv m t (fun b hb=>g _ (h1 b hb)) h4,Ows.mv m ts (fun b hb=>g _ (h2 b hb)) h5⟩
theorem Owd.mv{G:AS}(m:Mv O O' G H H'):∀(ts:List (D×D)) {d:Nat} {vs:List (Key×V)} {F:AS},(∀b,F b->G b)->Owd K O H ts d vs F->Owd K O' H' ts d vs F
 |[],_,_,_,_,h=>h
 | (k,t)::ts,_,_,_,g,h=>by
  obtain⟨q,v,r,F1,F2,e,e2,h1,h2,h3,h4,h5⟩:=h;exact⟨q,v,r,F1,F2,e,e2,h1,h2,h3,Ow.mv m t (fun b hb=>g _ (h1 b hb)) h4,Owd.mv m ts (fun b hb=>g _ (h2 b hb)) h5⟩
end
def FzL.sub(ho:∀a,O' a->O a)(h:FzL K O H a vs):FzL K O' H a vs:=h.imp (fun h=>⟨h.1,fun z=>h.2 (ho _ z)⟩) id
def FzT.sub(ho:∀a,O' a->O a)(h:FzT K O H a vs):FzT K O' H a vs:=⟨h.1,fun z=>h.2 (ho _ z)⟩
mutual
theorem Ow.cut:∀(t:D) {d d':Nat} {v:V} {F:AS},d'<=d->Ow K O H t d v F->∃F':AS,(∀b,F' b->F b)/\∀O':AS,(∀a,O' a->O a)->(∀a,F a->O' a->F' a)->Ow K O' H t d' v F'
 |.none,_,_,_,F,_,h=>⟨F,fun _ z=>z,fun _ _ _=>h⟩
 |.bool _,_,_,_,F,_,h=>⟨F,fun _ z=>z,fun _ _ _=>h⟩
 |.int _,_,_,_,F,_,h=>⟨F,fun _ z=>z,fun _ _ _=>h⟩
 |.str _,_,_,_,F,_,h=>⟨F,fun _ z=>z,fun _ _ _=>h⟩
 |.tuple ts,d,d',_,F,hd,h=>by
  obtain⟨a,vs,e,⟨h0,h1,h2⟩|⟨h0,h1,h2,G,hg,h3⟩⟩:=h
  ·subst h0;have e0:d'=0:=by omega
   subst e0;obtain⟨F',s1,s2⟩:=Ows.cut ts (zav _) h2;exact⟨F',s1,fun O' ho hx=>⟨a,vs,e,.inl ⟨rfl,h1.sub ho,s2 O' ho hx⟩⟩⟩
  ·by_cases e0:d'=0
   ·subst e0;obtain⟨F',s1,s2⟩:=Ows.cut ts (zbj _) h3;refine⟨F',fun b hb=>(hg _ (s1 b hb)).1,fun O' ho hx=>⟨a,vs,e,.inl ⟨rfl,⟨h1,fun z=>(hg _ (s1 _ (hx _ h2 z))).2 rfl⟩,s2 O' ho fun b hb=>hx b (hg b hb).1⟩⟩⟩
   ·obtain⟨F',s1,s2⟩:=Ows.cut ts (qK hd) h3;refine⟨fun b=>b=a\/F' b,fun b hb=>hb.elim (fun z=>z▸h2) fun z=>(hg _ (s1 b z)).1,fun O' ho hx=>⟨a,vs,e,.inr ⟨e0,h1,.inl rfl,F',fun b hb=>⟨.inr hb,(hg _ (s1 b hb)).2⟩,s2 O' ho fun b hb hz=>?_⟩⟩⟩;exact(hx b (hg b hb).1 hz).elim (fun z=>absurd z (hg b hb).2) id
 |.list ts,d,d',_,F,hd,h=>by
  obtain⟨a,vs,e,⟨h0,h1,h2⟩|⟨h0,h1,h2,G,hg,h3⟩⟩:=h
  ·subst h0;have e0:d'=0:=by omega
   subst e0;obtain⟨F',s1,s2⟩:=Ows.cut ts (zav _) h2;exact⟨F',s1,fun O' ho hx=>⟨a,vs,e,.inl ⟨rfl,h1.sub ho,s2 O' ho hx⟩⟩⟩
  ·by_cases e0:d'=0
   ·subst e0;obtain⟨F',s1,s2⟩:=Ows.cut ts (zbj _) h3;refine⟨F',fun b hb=>(hg _ (s1 b hb)).1,fun O' ho hx=>⟨a,vs,e,.inl ⟨rfl,.inl ⟨.inl h1,fun z=>(hg _ (s1 _ (hx _ h2 z))).2 rfl⟩,s2 O' ho fun b hb=>hx b (hg b hb).1⟩⟩⟩
   ·obtain⟨F',s1,s2⟩:=Ows.cut ts (qK hd) h3;refine⟨fun b=>b=a\/F' b,fun b hb=>hb.elim (fun z=>z▸h2) fun z=>(hg _ (s1 b z)).1,fun O' ho hx=>⟨a,vs,e,.inr ⟨e0,h1,.inl rfl,F',fun b hb=>⟨.inr hb,(hg _ (s1 b hb)).2⟩,s2 O' ho fun b hb hz=>?_⟩⟩⟩;exact(hx b (hg b hb).1 hz).elim (fun z=>absurd z (hg b hb).2) id
 |.dict ts,d,d',_,F,hd,h=>by
  obtain⟨a,vs,e,⟨h0,h1,hn,h2⟩|⟨h0,h1,h2,G,hg,h3⟩|⟨h0,ht⟩⟩:=h
  ·subst h0;have e0:d'=0:=by omega
   subst e0;obtain⟨F',s1,s2⟩:=Owd.cut ts (zav _) h2;exact⟨F',s1,fun O' ho hx=>⟨a,vs,e,.inl ⟨rfl,h1,fun z=>hn (ho _ z),s2 O' ho hx⟩⟩⟩
  ·by_cases e0:d'=0
   ·subst e0;obtain⟨F',s1,s2⟩:=Owd.cut ts (zbj _) h3;refine⟨F',fun b hb=>(hg _ (s1 b hb)).1,fun O' ho hx=>⟨a,vs,e,.inl ⟨rfl,.inl h1,fun z=>(hg _ (s1 _ (hx _ h2 z))).2 rfl,s2 O' ho fun b hb=>hx b (hg b hb).1⟩⟩⟩
   ·obtain⟨F',s1,s2⟩:=Owd.cut ts (qK hd) h3;refine⟨fun b=>b=a\/F' b,fun b hb=>hb.elim (fun z=>z▸h2) fun z=>(hg _ (s1 b z)).1,fun O' ho hx=>⟨a,vs,e,.inr (.inl ⟨e0,h1,.inl rfl,F',fun b hb=>⟨.inr hb,(hg _ (s1 b hb)).2⟩,s2 O' ho fun b hb hz=>?_⟩)⟩⟩;exact(hx b (hg b hb).1 hz).elim (fun z=>absurd z (hg b hb).2) id
  ·subst h0;have e0:d'=0:=by omega
   subst e0;exact⟨F,fun _ z=>z,fun O' ho hx=>⟨a,vs,e,.inr (.inr ⟨rfl,ht.to fun o h2 hn=>⟨h2,fun z=>hn (ho _ z)⟩⟩)⟩⟩
theorem Ows.cut:∀(ts:List D) {d d':Nat} {vs:List V} {F:AS},d'<=d->Ows K O H ts d vs F->∃F':AS,(∀b,F' b->F b)/\∀O':AS,(∀a,O' a->O a)->(∀a,F a->O' a->F' a)->Ows K O' H ts d' vs F'
 |[],_,_,_,F,_,h=>⟨F,fun _ z=>z,fun _ _ _=>h⟩
 |t::ts,_,_,_,F,hd,h=>by
  obtain⟨v,r,F1,F2,e,h1,h2,h3,h4,h5⟩:=h;obtain⟨G1,a1,a2⟩:=Ow.cut t hd h4;obtain⟨G2,b1,b2⟩:=Ows.cut ts hd h5;refine⟨fun b=>G1 b\/G2 b,fun b hb=>hb.elim (fun z=>h1 _ (a1 _ z)) fun z=>h2 _ (b1 _ z),fun O' ho hx=>⟨v,r,G1,G2,e,fun b=>.inl,fun b=>.inr,fun b z1 z2=>h3 b (a1 b z1) (b1 b z2),a2 O' ho fun b hb hz=>?_,b2 O' ho fun b hb hz=>?_⟩⟩
  ·exact(hx b (h1 b hb) hz).elim id fun z=>absurd (b1 b z) (h3 b hb)
  ·exact(hx b (h2 b hb) hz).elim (fun z=>absurd hb (h3 b (a1 b z))) id
theorem Owd.cut:∀(ts:List (D×D)) {d d':Nat} {vs:List (Key×V)} {F:AS},d'<=d->Owd K O H ts d vs F->∃F':AS,(∀b,F' b->F b)/\∀O':AS,(∀a,O' a->O a)->(∀a,F a->O' a->F' a)->Owd K O' H ts d' vs F'
 |[],_,_,_,F,_,h=>⟨F,fun _ z=>z,fun _ _ _=>h⟩
 | (k,t)::ts,_,_,_,F,hd,h=>by
  obtain⟨q,v,r,F1,F2,e,e2,h1,h2,h3,h4,h5⟩:=h;obtain⟨G1,a1,a2⟩:=Ow.cut t hd h4;obtain⟨G2,b1,b2⟩:=Owd.cut ts hd h5;refine⟨fun b=>G1 b\/G2 b,fun b hb=>hb.elim (fun z=>h1 _ (a1 _ z)) fun z=>h2 _ (b1 _ z),fun O' ho hx=>⟨q,v,r,G1,G2,e,e2,fun b=>.inl,fun b=>.inr,fun b z1 z2=>h3 b (a1 b z1) (b1 b z2),a2 O' ho fun b hb hz=>?_,b2 O' ho fun b hb hz=>?_⟩⟩
  ·exact(hx b (h1 b hb) hz).elim id fun z=>absurd (b1 b z) (h3 b hb)
  ·exact(hx b (h2 b hb) hz).elim (fun z=>absurd hb (h3 b (a1 b z))) id
end
mutual
theorem Ow.grow(ho:∀a,O' a->O a):∀(t:D) {d:Nat} {v:V} {F F':AS},(∀b,F b->F' b)->Ow K O H t d v F->Ow K O' H t d v F'
 |.none,_,_,_,_,_,h=>h
 |.bool _,_,_,_,_,_,h=>h
 |.int _,_,_,_,_,_,h=>h
 |.str _,_,_,_,_,_,h=>h
 |.tuple ts,_,_,_,_,hf,h=>by
  obtain⟨a,vs,e,⟨h0,h1,h2⟩|⟨h0,h1,h2,G,hg,h3⟩⟩:=h
  ·exact⟨a,vs,e,.inl ⟨h0,h1.sub ho,Ows.grow ho ts hf h2⟩⟩
  ·exact⟨a,vs,e,.inr ⟨h0,h1,hf _ h2,G,fun b hb=>⟨hf _ (hg b hb).1,(hg b hb).2⟩,Ows.grow ho ts (fun _ z=>z) h3⟩⟩
 |.list ts,_,_,_,_,hf,h=>by
  obtain⟨a,vs,e,⟨h0,h1,h2⟩|⟨h0,h1,h2,G,hg,h3⟩⟩:=h
  ·exact⟨a,vs,e,.inl ⟨h0,h1.sub ho,Ows.grow ho ts hf h2⟩⟩
  ·exact⟨a,vs,e,.inr ⟨h0,h1,hf _ h2,G,fun b hb=>⟨hf _ (hg b hb).1,(hg b hb).2⟩,Ows.grow ho ts (fun _ z=>z) h3⟩⟩
 |.dict ts,_,_,_,_,hf,h=>by
  obtain⟨a,vs,e,⟨h0,h1,hn,h2⟩|⟨h0,h1,h2,G,hg,h3⟩|⟨h0,ht⟩⟩:=h
  ·exact⟨a,vs,e,.inl ⟨h0,h1,fun z=>hn (ho _ z),Owd.grow ho ts hf h2⟩⟩
  ·exact⟨a,vs,e,.inr (.inl ⟨h0,h1,hf _ h2,G,fun b hb=>⟨hf _ (hg b hb).1,(hg b hb).2⟩,Owd.grow ho ts (fun _ z=>z) h3⟩)⟩
  ·exact⟨a,vs,e,.inr (.inr ⟨h0,ht.to fun o h2 hn=>⟨h2,fun z=>hn (ho _ z)⟩⟩)⟩
theorem Ows.grow(ho:∀a,O' a->O a):∀(ts:List D) {d:Nat} {vs:List V} {F F':AS},(∀b,F b->F' b)->Ows K O H ts d vs F->Ows K O' H ts d vs F'
 |[],_,_,_,_,_,h=>h
 |t::ts,_,_,_,_,hf,h=>by
  obtain⟨v,r,F1,F2,e,h1,h2,h3,h4,h5⟩:=h;exact⟨v,r,F1,F2,e,fun b z=>hf _ (h1 b z),fun b z=>hf _ (h2 b z),h3,Ow.grow ho t (fun _ z=>z) h4,Ows.grow ho ts (fun _ z=>z) h5⟩
theorem Owd.grow(ho:∀a,O' a->O a):∀(ts:List (D×D)) {d:Nat} {vs:List (Key×V)} {F F':AS},(∀b,F b->F' b)->Owd K O H ts d vs F->Owd K O' H ts d vs F'
 |[],_,_,_,_,_,h=>h
 | (k,t)::ts,_,_,_,_,hf,h=>by
  obtain⟨q,v,r,F1,F2,e,e2,h1,h2,h3,h4,h5⟩:=h;exact⟨q,v,r,F1,F2,e,e2,fun b z=>hf _ (h1 b z),fun b z=>hf _ (h2 b z),h3,Ow.grow ho t (fun _ z=>z) h4,Owd.grow ho ts (fun _ z=>z) h5⟩
end
mutual
theorem Ow.any0:∀(t:D) {v:V} {F F':AS},Ow K O H t 0 v F->Ow K O H t 0 v F'
 |.none,_,_,_,h=>h
 |.bool _,_,_,_,h=>h
 |.int _,_,_,_,h=>h
 |.str _,_,_,_,h=>h
 |.tuple ts,_,_,_,h=>by
  obtain⟨a,vs,e,⟨h0,h1,h2⟩|⟨h0,_⟩⟩:=h
  ·exact⟨a,vs,e,.inl ⟨rfl,h1,Ows.any0 ts h2⟩⟩
  ·exact absurd rfl h0
 |.list ts,_,_,_,h=>by
  obtain⟨a,vs,e,⟨h0,h1,h2⟩|⟨h0,_⟩⟩:=h
  ·exact⟨a,vs,e,.inl ⟨rfl,h1,Ows.any0 ts h2⟩⟩
  ·exact absurd rfl h0
 |.dict ts,_,_,_,h=>by
  obtain⟨a,vs,e,⟨h0,h1,hn,h2⟩|⟨h0,_⟩|⟨_,ht⟩⟩:=h
  ·exact⟨a,vs,e,.inl ⟨rfl,h1,hn,Owd.any0 ts h2⟩⟩
  ·exact absurd rfl h0
  ·exact⟨a,vs,e,.inr (.inr ⟨rfl,ht⟩)⟩
theorem Ows.any0:∀(ts:List D) {vs:List V} {F F':AS},Ows K O H ts 0 vs F->Ows K O H ts 0 vs F'
 |[],_,_,_,h=>h
 |t::ts,_,_,_,h=>by
  obtain⟨v,r,F1,F2,e,_,_,_,h4,h5⟩:=h;exact⟨v,r,fun _=>False,fun _=>False,e,fun _ z=>z.elim,fun _ z=>z.elim,fun _ z=>z.elim,Ow.any0 t h4,Ows.any0 ts h5⟩
theorem Owd.any0:∀(ts:List (D×D)) {vs:List (Key×V)} {F F':AS},Owd K O H ts 0 vs F->Owd K O H ts 0 vs F'
 |[],_,_,_,h=>h
 | (k,t)::ts,_,_,_,h=>by
  obtain⟨q,v,r,F1,F2,e,e2,_,_,_,h4,h5⟩:=h;exact⟨q,v,r,fun _=>False,fun _=>False,e,e2,fun _ z=>z.elim,fun _ z=>z.elim,fun _ z=>z.elim,Ow.any0 t h4,Owd.any0 ts h5⟩
end
def Ow.fz{F:AS}(ho:∀a,O' a->O a)(hn:∀a,F a->¬O' a)(h:Ow K O H t d v F):Ow K O' H t 0 v F2:=by
 obtain⟨F',s1,s2⟩:=Ow.cut t (zbj d) h;exact Ow.any0 t (s2 O' ho fun a z1 z2=>absurd z2 (hn a z1))
def U(A B:AS):AS:=fun a=>A a\/B a
def Own(R:Nat->AS)(Ox:AS):AS:=fun a=>(∃i,R i a)\/Ox a
def fH{A B:AS}(h:∀a,A a↔B a):A=B:=funext fun a=>propext (h a)
structure EnvOk(K:zbY)(ds:List Nat)(Ox:AS)(H:Hp)(σ:St)(en:En)(R:Nat->AS):Prop where
 at_:∀(i:Nat) (t:D),en[i]?=some (some t)->∃v d,σ[i]?=some (some v)/\ds[i]?=some d/\Ow K (Own R Ox) H t d v (R i)
 dj:∀i j a,R i a->R j a->i=j
 dx:∀i a,R i a->¬Ox a
 dom:∀a,Own R Ox a->∃o,H a=some o
 l1:en.length=σ.length
 l2:ds.length=σ.length
structure Post(K:zbY)(p:Bool)(ds':List Nat)(Ox:AS)(σ:St)(H:Hp)(en:En)(R:Nat->AS)(en':En)(H':Hp)(R':Nat->AS)(F:AS):Prop where
 env:EnvOk K ds' (U F Ox) H' σ en' R'
 fx:∀a,F a->¬Ox a
 keep:∀a o,H a=some o->(∀i,¬R i a)->H' a=some o
 own:∀a,(F a\/∃i,R' i a)->(∃i,R i a)\/H a=none
 dom:∀a o,H a=some o->∃o',H' a=some o'
 pure:p=true->en'=en/\R'=R/\∀a o,H a=some o->H' a=some o
def EnvOk.grow(e:EnvOk K ds Ox H σ en R)(hk:∀a o,H a=some o->H' a=some o){F:AS}(hf:∀a,F a->H a=none/\∃o,H' a=some o):EnvOk K ds (U F Ox) H' σ en R:=by
 have fo:∀a,F a->¬Own R Ox a:=fun a z z2=>by
  obtain⟨o,q⟩:=e.dom a z2;rw[(hf a z).1]at q;cases q
 refine⟨fun i t h=>?_,e.dj,fun i a h z=>?_,fun a h=>?_,e.l1,e.l2⟩
 ·obtain⟨v,d,h1,h2,h3⟩:=e.at_ i t h;refine⟨v,d,h1,h2,Ow.mv (G:=R i) ⟨fun a o q _=>hk a o q,fun a z=>?_⟩ t (fun _ z=>z) h3⟩;rcases z with z|z|z
  ·exact .inl (.inl z)
  ·exact .inr (hf a z).1
  ·exact .inl (.inr z)
 ·rcases z with z|z
  ·exact fo a z (.inl ⟨i,h⟩)
  ·exact e.dx i a h z
 ·rcases h with h|h|h
  ·obtain⟨o,q⟩:=e.dom a (.inl h);exact⟨o,hk a o q⟩
  ·exact(hf a h).2
  ·obtain⟨o,q⟩:=e.dom a (.inr h);exact⟨o,hk a o q⟩
def EnvOk.fewer(e:EnvOk K ds Ox H σ en R)(h:∀a,Ox' a->Ox a):EnvOk K ds Ox' H σ en R:=by
 refine⟨fun i t q=>?_,e.dj,fun i a z1 z2=>e.dx i a z1 (h a z2),fun a z=>e.dom a (z.imp id (h a)),e.l1,e.l2⟩;obtain⟨v,d,h1,h2,h3⟩:=e.at_ i t q;exact⟨v,d,h1,h2,Ow.grow (fun a z=>z.imp id (h a)) t (fun _ z=>z) h3⟩
def tF(K:zbY)(p:Bool)(ds ds':List Nat)(d:Nat)(f:En->Option (D×En)):TE:=fun σ H Q=>
 ∃Ox en R t en',EnvOk K ds Ox H σ en R/\f en=some (t,en')/\∀v H' R' F,Post K p ds' Ox σ H en R en' H' R' F->Ow K (Own R' (U F Ox)) H' t d v F->Q v H'
def Post.refl(e:EnvOk K ds Ox H σ en R):Post K p ds Ox σ H en R en H R (fun _=>False):=by
 have eq:U (fun _=>False) Ox=Ox:=fH fun a=>⟨fun z=>z.elim (fun z=>z.elim) id,.inr⟩;exact⟨eq.symm▸e,fun _ z=>z.elim,fun _ _ q _=>q,fun a z=>z.elim (fun z=>z.elim) .inl,fun a o q=>⟨o,q⟩,fun _=>⟨rfl,rfl,fun _ _ q=>q⟩⟩
def Post.new(e:EnvOk K ds Ox H σ en R)(hk:∀a o,H a=some o->H' a=some o){F:AS}(hf:∀a,F a->H a=none/\∃o,H' a=some o):Post K p ds Ox σ H en R en H' R F:=by
 refine⟨e.grow hk hf,fun a z z2=>?_,fun a o q _=>hk a o q,fun a z=>z.elim (fun z=>.inr (hf a z).1) .inl,fun a o q=>⟨o,hk a o q⟩,fun _=>⟨rfl,rfl,hk⟩⟩;obtain⟨o,q⟩:=e.dom a (.inr z2);rw[(hf a z).1]at q;cases q
theorem Post.trans{H1 H2:Hp}{R1 R2:Nat->AS}{F1 F2:AS}(P1:Post K p1 ds1 Ox σ H en R en1 H1 R1 F1)(P2:Post K p2 ds2 (U F1 Ox) σ H1 en1 R1 en2 H2 R2 F2):
  Post K (p1&&p2) ds2 Ox σ H en R en2 H2 R2 (U F1 F2):=by
 have eq:U F2 (U F1 Ox)=U (U F1 F2) Ox:=fH fun a=>by unfold U;exact⟨fun z=>by rcases z with z|z|z;exact .inl (.inr z);exact .inl (.inl z);exact .inr z,fun z=>by rcases z with (z|z)|z;exact .inr (.inl z);exact .inl z;exact .inr (.inr z)⟩
 have n1:∀a,H1 a=none->H a=none:=fun a z=>by
  cases q:H a with
  |none=>rfl
  |some o=>
   obtain⟨o',q'⟩:=P1.dom a o q;rw[z]at q';cases q'
 refine⟨eq▸P2.env,fun a z z2=>?_,fun a o q n=>?_,fun a z=>?_,fun a o q=>?_,fun hp=>?_⟩
 ·rcases z with z|z
  ·exact P1.fx a z z2
  ·exact P2.fx a z (.inr z2)
 ·refine P2.keep a o (P1.keep a o q n) fun i z=>?_;rcases P1.own a (.inr ⟨i,z⟩)with⟨j,z⟩|z
  ·exact n j z
  ·rw[q]at z;cases z
 ·rcases z with (z|z)|z
  ·exact P1.own a (.inl z)
  ·rcases P2.own a (.inl z)with z|z
   ·exact P1.own a (.inr z)
   ·exact .inr (n1 a z)
  ·rcases P2.own a (.inr z)with z|z
   ·exact P1.own a (.inr z)
   ·exact .inr (n1 a z)
 ·obtain⟨o',q'⟩:=P1.dom a o q;exact P2.dom a o' q'
 ·have h1:p1=true:=by cases p1<;>simp_all
  have h2:p2=true:=by cases p2<;>simp_all
  obtain⟨a1,a2,a3⟩:=P1.pure h1;obtain⟨b1,b2,b3⟩:=P2.pure h2;exact⟨b1.trans a1,b2.trans a2,fun a o q=>b3 a o (a3 a o q)⟩
def Ow.over{R2:Nat->AS}(P1:EnvOk K ds1 (U F1 Ox) H1 σ en1 R1)(P2:Post K p2 ds2 (U F1 Ox) σ H1 en1 R1 en2 H2 R2 F2)(h:Ow K (Own R1 (U F1 Ox)) H1 t d v F1):
  Ow K (Own R2 (U (U F1 F2) Ox)) H2 t d v F1:=by
 refine Ow.mv (G:=F1) ⟨fun a o q z=>P2.keep a o q fun i zi=>?_,fun a z=>?_⟩ t (fun _ z=>z) h
 ·rcases z with z|z
  ·exact z (.inl ⟨i,zi⟩)
  ·exact P1.dx i a zi (.inl z)
 ·rcases z with z | (z|z)|z
  ·rcases P2.own a (.inr z)with z|z
   ·exact .inl (.inl z)
   ·exact .inr z
  ·exact .inl (.inr (.inl z))
  ·rcases P2.own a (.inl z)with z|z
   ·exact .inl (.inl z)
   ·exact .inr z
  ·exact .inl (.inr (.inr z))
def pQ:U F2 (U F1 Ox)=U (U F1 F2) Ox:=fH fun a=>by unfold U;exact⟨fun z=>by rcases z with z|z|z;exact .inl (.inr z);exact .inl (.inl z);exact .inr z,fun z=>by rcases z with (z|z)|z;exact .inr (.inl z);exact .inl z;exact .inr (.inr z)⟩
def two{f g:En->Option (D×En)}{Q:V->V->Hp->Prop}(e:EnvOk K ds Ox H σ en R)(h1:f en=some (t1,en1))(h2:g en1=some (t2,en2))
  (k:∀x y H2 R2 F1 F2,Post K (p1&&p2) ds2 Ox σ H en R en2 H2 R2 (U F1 F2)->Ow K (Own R2 (U (U F1 F2) Ox)) H2 t1 d1 x F1->Ow K (Own R2 (U (U F1 F2) Ox)) H2 t2 d2 y F2->Q x y H2):
  tF K p1 ds ds1 d1 f σ H fun x H1=>tF K p2 ds1 ds2 d2 g σ H1 fun y H2=>Q x y H2:=by
 refine⟨Ox,en,R,t1,en1,e,h1,fun x H1 R1 F1 P1 o1=>?_⟩;refine⟨U F1 Ox,en1,R1,t2,en2,P1.env,h2,fun y H2 R2 F2 P2 o2=>?_⟩;exact k x y H2 R2 F1 F2 (P1.trans P2) (Ow.over P1.env P2 o1) (pQ▸o2)
abbrev ME:=En->Option (D×En)
variable{f f1 f2 fk fe:ME}{fs:List (ME×ME)}
abbrev MT:=En->Option (Bool×En)
variable{c1 c2:MT}
abbrev MA:=En->Option (List (D ⊕ Nat)×En)
variable{fa:MA}
def ad(i:Nat):ME:=fun en=>(en[i]?).join.map fun t=>(t,en)
def eMv(i:Nat):ME:=fun en=>(en[i]?).join.map fun t=>(t,en.set i none)
def eC(t:D):ME:=fun en=>some (t,en)
def e1(g:D->Option D)(f:ME):ME:=fun en=>(f en).bind fun r=>(g r.1).map fun t=>(t,r.2)
def e2(g:D->D->Option D)(f1 f2:ME):ME:=fun en=>(f1 en).bind fun r=>(f2 r.2).bind fun q=>(g r.1 q.1).map fun t=>(t,q.2)
def cW(f g:ME):ME:=fun en=>(f en).bind fun r=>match r.1 with
 |.bool true=>g r.2
 |.bool false=>some (.bool false,r.2)
 |_=>none
def eOr(f g:ME):ME:=fun en=>(f en).bind fun r=>match r.1 with
 |.bool true=>some (.bool true,r.2)
 |.bool false=>g r.2
 |_=>none
def qJ(f:ME):ME:=fun en=>(f en).bind fun r=>match r.1 with
 |.bool b=>some (.bool (!b),r.2)
 |_=>none
def eIf(c:MT)(f g:ME):ME:=fun en=>(c en).bind fun r=>if r.1 then f r.2 else g r.2
def tV(f:ME):MT:=fun en=>(f en).bind fun r=>match r.1 with
 |.bool b=>some (b,r.2)
 |_=>none
def cZ(f g:MT):MT:=fun en=>(f en).bind fun r=>if r.1 then g r.2 else some (false,r.2)
def bOr(f g:MT):MT:=fun en=>(f en).bind fun r=>if r.1 then some (true,r.2)else g r.2
def bV(f:MT):MT:=fun en=>(f en).map fun r=>(!r.1,r.2)
def ag:MA:=fun en=>some ([],en)
def ac(f:ME)(r:MA):MA:=fun en=>(f en).bind fun x=>(r x.2).map fun y=>(.inl x.1::y.1,y.2)
def aD(i:Nat)(r:MA):MA:=fun en=>(en[i]?).join.bind fun _=>(r en).map fun y=>(.inr i::y.1,y.2)
def vals:List (D ⊕ Nat)->Option (List D)
 |[]=>some []
 |.inl t::r=>(vals r).map (t::·)
 |.inr _::_=>none
def eN(g:List D->Option D)(fa:MA):ME:=fun en=>(fa en).bind fun r=>(vals r.1).bind fun ts=>(g ts).map fun t=>(t,r.2)
def NewTo(H H':Hp)(F:AS):Prop:=(∀a o,H a=some o->H' a=some o)/\∀a,F a->H a=none/\∃o,H' a=some o
def NoA:AS:=fun _=>False
def eP{A:AS}:U NoA A=A:=fH fun a=>⟨fun z=>z.elim (fun z=>z.elim) id,.inr⟩
def rF1(K:zbY)(g:D->Option D)(d:Nat):V->Hp->VK->Prop:=fun x H Q=>∃(O:AS) (a t:D),Ow K O H a 0 x NoA/\(∀a,O a->∃o,H a=some o)/\g a=some t/\∀v H' F,NewTo H H' F->Ow K (U F O) H' t d v F->Q v H'
def rF2(K:zbY)(g:D->D->Option D)(d:Nat):R2:=fun x y H Q=>∃(O:AS) (a b t:D),Ow K O H a 0 x NoA/\Ow K O H b 0 y NoA/\(∀a,O a->∃o,H a=some o)/\g a b=some t/\∀v H' F,NewTo H H' F->Ow K (U F O) H' t d v F->Q v H'
def rFn(K:zbY)(g:List D->Option D)(d:Nat):List V->Hp->VK->Prop:=fun xs H Q=>∃(O:AS) (ts:List D) (t:D),Ows K O H ts 0 xs NoA/\(∀a,O a->∃o,H a=some o)/\g ts=some t/\∀v H' F,NewTo H H' F->Ow K (U F O) H' t d v F->Q v H'
section
variable{fa fb:ME}
def pU{F:AS}:U F (Own R Ox)=Own R (U F Ox):=fH fun a=>by
 unfold U Own;exact⟨fun z=>by rcases z with z|z|z;exact .inr (.inl z);exact .inl z;exact .inr (.inr z),fun z=>by rcases z with z|z|z;exact .inr (.inl z);exact .inl z;exact .inr (.inr z)⟩
def Post.fin{F:AS}(P:Post K p ds' Ox σ H en R en' H1 R' F0)(n:NewTo H1 H' F):Post K p ds' Ox σ H en R en' H' R' F:=by
 have e:=P.env.fewer (Ox':=Ox) fun a z=>.inr z;have n1:∀a,H1 a=none->H a=none:=fun a z=>by
  cases q:H a with
  |none=>rfl
  |some o=>
   obtain⟨o',q'⟩:=P.dom a o q;rw[z]at q';cases q'
 refine⟨e.grow n.1 n.2,fun a z z2=>?_,fun a o q nn=>n.1 a o (P.keep a o q nn),fun a z=>?_,fun a o q=>?_,fun hp=>?_⟩
 ·obtain⟨o,q⟩:=e.dom a (.inr z2);rw[(n.2 a z).1]at q;cases q
 ·rcases z with z|z
  ·exact .inr (n1 a (n.2 a z).1)
  ·exact P.own a (.inr z)
 ·obtain⟨o',q'⟩:=P.dom a o q;exact⟨o',n.1 a o' q'⟩
 ·obtain⟨a1,a2,a3⟩:=P.pure hp;exact⟨a1,a2,fun a o q=>n.1 a o (a3 a o q)⟩
def Post.less{F:AS}(P:Post K p ds' Ox σ H en R en' H' R' F)(h:∀a,F' a->F a):Post K p ds' Ox σ H en R en' H' R' F':=
 ⟨P.env.fewer fun a z=>z.imp (h a) id,fun a z=>P.fx a (h a z),P.keep,fun a z=>P.own a (z.imp (h a) id),P.dom,P.pure⟩
def Ow.letgo{F:AS}(P:Post K p ds' Ox σ H en R en' H' R' F0)(hf:∀a,F a->F0 a)(h:Ow K (Own R' (U F0 Ox)) H' t d v F):Ow K (Own R' Ox) H' t 0 v NoA:=by
 refine Ow.fz (fun a z=>z.imp id .inr) (fun a z z2=>?_) h;rcases z2 with⟨i,z2⟩|z2
 ·exact P.env.dx i a z2 (.inl (hf a z))
 ·exact P.fx a (hf a z) z2
def Post.doms(P:Post K p ds' Ox σ H en R en' H' R' F0):∀a,Own R' Ox a->∃o,H' a=some o:=fun a z=>P.env.dom a (z.imp id .inr)
def Mu(hd:ds[i]?=some 0)(h:tF K true ds ds 0 (ad i) σ H Q):fY i σ H Q:=by
 obtain⟨Ox,en,R,t,en',e,hf,k⟩:=h;unfold ad at hf;cases q:en[i]? with
 |none=>rw[q]at hf;cases hf
 |some o=>
  rw[q]at hf;cases o with
  |none=>cases hf
  |some t'=>
   cases hf;obtain⟨v,d,h1,h2,h3⟩:=e.at_ i t q;rw[hd]at h2;cases h2;exact⟨v,h1,k v H R NoA (Post.refl e) (by rw[eP];exact Ow.any0 t h3)⟩
def Nm(hd:ds[i]?=some d)(h:tF K false ds (ds.set i 0) d (eMv i) σ H Q):fY i σ H Q:=by
 obtain⟨Ox,en,R,t,en',e,hf,k⟩:=h;unfold eMv at hf;cases q:en[i]? with
 |none=>rw[q]at hf;cases hf
 |some o=>
  rw[q]at hf;cases o with
  |none=>cases hf
  |some t'=>
   cases hf;obtain⟨v,d',h1,h2,h3⟩:=e.at_ i t q;rw[hd]at h2;cases h2;have eq:Own (fun j=>if j=i then NoA else R j) (U (R i) Ox)=Own R Ox:=fH fun a=>by
    unfold Own U;constructor
    ·rintro (⟨j,z⟩|z|z)
     ·by_cases hj:j=i
      ·rw[if_pos hj]at z;exact z.elim
      ·rw[if_neg hj]at z;exact .inl ⟨j,z⟩
     ·exact .inl ⟨i,z⟩
     ·exact .inr z
    ·rintro (⟨j,z⟩|z)
     ·by_cases hj:j=i
      ·subst hj;exact .inr (.inl z)
      ·exact .inl ⟨j,by show(if j=i then NoA else R j) a;rw[if_neg hj];exact z⟩
     ·exact .inr (.inr z)
   refine⟨v,h1,k v H (fun j=>if j=i then NoA else R j) (R i) ⟨⟨fun j u hu=>?_,fun j j' a z z'=>?_,fun j a z=>?_,fun a z=>e.dom a (eq▸z),?_,?_⟩,e.dx i,fun a o q _=>q,fun a z=>?_,fun a o q=>⟨o,q⟩,fun z=>nomatch z⟩ (eq.symm▸h3)⟩
   ·by_cases hj:j=i
    ·subst hj;rw[List.getElem?_set_self' ]at hu;rw[q]at hu;cases hu
    ·rw[zaO (Ne.symm hj)]at hu;obtain⟨v',d',a1,a2,a3⟩:=e.at_ j u hu;refine⟨v',d',a1,by rw[zaO (Ne.symm hj)];exact a2,?_⟩;rw[if_neg hj,eq];exact a3
   ·by_cases hj:j=i
    ·rw[if_pos hj]at z;exact z.elim
    ·rw[if_neg hj]at z;by_cases hj':j'=i
     ·rw[if_pos hj']at z';exact z'.elim
     ·rw[if_neg hj']at z';exact e.dj j j' a z z'
   ·by_cases hj:j=i
    ·rw[if_pos hj]at z;exact z.elim
    ·rw[if_neg hj]at z;rintro (z2|z2)
     ·exact hj (e.dj j i a z z2)
     ·exact e.dx j a z z2
   ·rw[zaV];exact e.l1
   ·rw[zaV];exact e.l2
   ·rcases z with z|⟨j,z⟩
    ·exact .inl ⟨i,z⟩
    ·by_cases hj:j=i
     ·rw[if_pos hj]at z;exact z.elim
     ·rw[if_neg hj]at z;exact .inl ⟨j,z⟩
def f_c(hv:∀K O H F,Ow K O H t 3 v F)(h:tF K true ds ds 3 (eC t) σ H Q):tC v σ H Q:=by
 obtain⟨Ox,en,R,t',en',e,hf,k⟩:=h;cases hf;exact k v H R NoA (Post.refl e) (hv _ _ _ _)
def Mx(hd:d'<=d)(h:tF K p ds ds' d' f σ H Q):tF K p ds ds' d f σ H Q:=by
 obtain⟨Ox,en,R,t,en',e,hf,k⟩:=h;refine⟨Ox,en,R,t,en',e,hf,fun v H' R' F P o=>?_⟩;obtain⟨F',s1,s2⟩:=Ow.cut t hd o;refine k v H' R' F' (P.less s1) (s2 _ (fun a z=>z.imp id fun z=>z.imp (s1 a) id) fun a z z2=>?_);rcases z2 with⟨i,z2⟩|z2|z2
 ·exact absurd (.inl z) (P.env.dx i a z2)
 ·exact z2
 ·exact absurd z2 (P.fx a z)
def pJ(hp:p'=true->p=true)(h:tF K p' ds ds' d f σ H Q):tF K p ds ds' d f σ H Q:=by
 obtain⟨Ox,en,R,t,en',e,hf,k⟩:=h;exact⟨Ox,en,R,t,en',e,hf,fun v H' R' F P o=>k v H' R' F ⟨P.env,P.fx,P.keep,P.own,P.dom,fun z=>P.pure (hp z)⟩ o⟩
theorem EnvOk.cut(e:EnvOk K ds Ox H σ en R)(hl:ds0.length=ds.length)(hd:∀(i:Nat) a b,ds0[i]?=some a->ds[i]?=some b->a<=b):∃R',(∀i a,R' i a->R i a)/\EnvOk K ds0 Ox H σ en R':=by
 have ch:∀i,∃F':AS,(∀b,F' b->R i b)/\∀t v d0,en[i]?=some (some t)->σ[i]?=some (some v)->ds0[i]?=some d0->∀O':AS,(∀a,O' a->Own R Ox a)->(∀a,R i a->O' a->F' a)->Ow K O' H t d0 v F':=fun i=>by
  by_cases h:∃t,en[i]?=some (some t)
  ·obtain⟨t,ht⟩:=h;obtain⟨v,d,h1,h2,h3⟩:=e.at_ i t ht;cases q:ds0[i]? with
   |none=>exact⟨NoA,fun _ z=>z.elim,fun _ _ _ _ _ z=>nomatch z⟩
   |some d0=>
    obtain⟨F',s1,s2⟩:=Ow.cut t (hd i d0 d q h2) h3;refine⟨F',s1,fun t' v' d0' h1' h2' h3' O'=>?_⟩;rw[ht]at h1';cases h1';rw[h1]at h2';cases h2';cases h3';exact s2 O'
  ·exact⟨NoA,fun _ z=>z.elim,fun t _ _ ht=>absurd ⟨t,ht⟩ h⟩
 refine⟨fun i=>(ch i).choose,fun i=>(ch i).choose_spec.1,fun i t ht=>?_,fun i j a z1 z2=>e.dj i j a ((ch i).choose_spec.1 a z1) ((ch j).choose_spec.1 a z2),fun i a z=>e.dx i a ((ch i).choose_spec.1 a z),fun a z=>e.dom a (z.imp (fun⟨i,z⟩=>⟨i,(ch i).choose_spec.1 a z⟩) id),e.l1,hl.trans e.l2⟩;obtain⟨v,d,h1,h2,h3⟩:=e.at_ i t ht;have hi:i<ds0.length:=by rw[hl];exact(zah.mp h2).1
 refine⟨v,ds0[i],h1,zak hi,(ch i).choose_spec.2 t v _ ht h1 (zak hi) _ (fun a z=>z.imp (fun⟨j,z⟩=>⟨j,(ch j).choose_spec.1 a z⟩) id) fun a z z2=>?_⟩;rcases z2 with⟨j,z2⟩|z2
 ·have:=e.dj i j a z ((ch j).choose_spec.1 a z2);subst this;exact z2
 ·exact absurd z2 (e.dx i a z)
def leD:List Nat->List Nat->Bool
 |[],[]=>true
 |a::r,b::s=>decide (a<=b)&&leD r s
 |_,_=>false
theorem gH:∀{a b:List Nat},leD a b=true->a.length=b.length/\∀(i:Nat) x y,a[i]?=some x->b[i]?=some y->x<=y
 |[],[],_=>⟨rfl,fun i x y h=>by simp at h⟩
 |a::r,b::s,h=>by
  unfold leD at h;rw[zbm]at h;obtain⟨h1,h2⟩:=h;obtain⟨h3,h4⟩:=gH h2;refine⟨by rw[zac,zac,h3],fun i x y e1 e2=>?_⟩;cases i with
  |zero=>cases e1;cases e2;exact of_decide_eq_true h1
  |succ i=>exact h4 i x y e1 e2
 |[],_::_,h=>nomatch h
 |_::_,[],h=>nomatch h
def No(hd:leD ds0 ds=true)(h:tF K false ds ds' d f σ H Q):tF K p ds0 ds' d f σ H Q:=by
 obtain⟨Ox,en,R,t,en',e,hf,k⟩:=h;obtain⟨R1,s1,e1⟩:=e.cut (gH hd).1 (gH hd).2;refine⟨Ox,en,R1,t,en',e1,hf,fun v H' R' F P o=>k v H' R' F ⟨P.env,P.fx,fun a o q n=>P.keep a o q fun i z=>n i (s1 i a z),fun a z=>(P.own a z).imp (fun⟨i,z⟩=>⟨i,s1 i a z⟩) id,P.dom,fun z=>nomatch z⟩ o⟩
def Mz{g:D->Option D}(h:tF K p ds ds1 d (e1 g f) σ H Q):tUn (rF1 K g d) (tF K p ds ds1 d1 f) σ H Q:=by
 obtain⟨Ox,en,R,t,en',e,hf,k⟩:=h;unfold e1 at hf;obtain⟨⟨t1,en1⟩,h1,hf⟩:=zaa.mp hf;obtain⟨t',h3,hf⟩:=zab.mp hf;cases hf;refine⟨Ox,en,R,t1,en1,e,h1,fun v H' R' F P o=>?_⟩;refine⟨Own R' Ox,t1,t,Ow.letgo P (fun _ z=>z) o,P.doms,h3,fun v2 H2 F2 n o2=>k v2 H2 R' F2 (P.fin n) (pU▸o2)⟩
def m9(h:tF K (p1&&p2) ds ds2 d (e2 g f1 f2) σ H Q):tOp (rF2 K g d) (tF K p1 ds ds1 d1 f1) (tF K p2 ds1 ds2 d2 f2) σ H Q:=by
 obtain⟨Ox,en,R,t,en',e,hf,k⟩:=h;unfold e2 at hf;obtain⟨⟨t1,en1⟩,h1,hf⟩:=zaa.mp hf;obtain⟨⟨t2,en2⟩,h2,hf⟩:=zaa.mp hf;obtain⟨t',h3,hf⟩:=zab.mp hf;cases hf;refine two e h1 h2 fun x y H2 R2 F1 F2 P o1 o2=>?_;exact⟨Own R2 Ox,t1,t2,t,Ow.letgo P (fun _=>.inl) o1,Ow.letgo P (fun _=>.inr) o2,P.doms,h3,fun v2 H3 F3 n o3=>k v2 H3 R2 F3 (P.fin n) (pU▸o3)⟩
def Post.after{R2:Nat->AS}{F:AS}(P1:Post K p1 ds1 Ox σ H en R en1 H1 R1 F1)(P2:Post K p2 ds2 Ox σ H1 en1 R1 en2 H' R2 F):Post K (p1&&p2) ds2 Ox σ H en R en2 H' R2 F:=by
 have P1':=P1.less (F':=NoA) fun _ z=>z.elim;have P2':Post K p2 ds2 (U NoA Ox) σ H1 en1 R1 en2 H' R2 F:=by rw[eP];exact P2
 have:=P1'.trans P2';rw[eP]at this;exact this
def Post.env0{F:AS}(P:Post K p ds' Ox σ H en R en' H' R' F):EnvOk K ds' Ox H' σ en' R':=P.env.fewer fun a z=>.inr z
def MJ(h:tF K (p1&&p2) ds ds1 d (cW f1 f2) σ H Q):Ej (tF K p1 ds ds1 d1 f1) (tF K p2 ds1 ds1 d f2) σ H Q:=by
 obtain⟨Ox,en,R,t,en',e,hf,k⟩:=h;unfold cW at hf;obtain⟨⟨t1,en1⟩,h1,hf⟩:=zaa.mp hf;refine⟨Ox,en,R,t1,en1,e,h1,fun v H1 R1 F1 P1 o1=>?_⟩;cases t1 with
 |bool b=>
  have ev:v=.bl b:=o1;refine⟨b,ev,?_⟩;cases b with
  |true=>
   rw[if_pos rfl];exact⟨Ox,en1,R1,t,en',P1.env0,hf,fun v2 H2 R2 F2 P2 o2=>k v2 H2 R2 F2 (P1.after P2) o2⟩
  |false=>
   cases hf;rw[if_neg zbn];refine k _ H1 R1 NoA ?_ rfl
   have:=(P1.less (F':=NoA) fun _ z=>z.elim);exact⟨this.env,this.fx,this.keep,this.own,this.dom,fun hp=>this.pure (by cases p1<;>simp_all)⟩
 |_=>cases hf
def Nl(h:tF K (p1&&p2) ds ds1 d (eOr f1 f2) σ H Q):IX (tF K p1 ds ds1 d1 f1) (tF K p2 ds1 ds1 d f2) σ H Q:=by
 obtain⟨Ox,en,R,t,en',e,hf,k⟩:=h;unfold eOr at hf;obtain⟨⟨t1,en1⟩,h1,hf⟩:=zaa.mp hf;refine⟨Ox,en,R,t1,en1,e,h1,fun v H1 R1 F1 P1 o1=>?_⟩;cases t1 with
 |bool b=>
  have ev:v=.bl b:=o1;refine⟨b,ev,?_⟩;cases b with
  |false=>
   rw[if_neg zbn];exact⟨Ox,en1,R1,t,en',P1.env0,hf,fun v2 H2 R2 F2 P2 o2=>k v2 H2 R2 F2 (P1.after P2) o2⟩
  |true=>
   cases hf;rw[if_pos rfl];refine k _ H1 R1 NoA ?_ rfl
   have:=(P1.less (F':=NoA) fun _ z=>z.elim);exact⟨this.env,this.fx,this.keep,this.own,this.dom,fun hp=>this.pure (by cases p1<;>simp_all)⟩
 |_=>cases hf
def MB(h:tF K p ds ds1 3 (qJ f) σ H Q):Eg (tF K p ds ds1 d1 f) σ H Q:=by
 obtain⟨Ox,en,R,t,en',e,hf,k⟩:=h;unfold qJ at hf;obtain⟨⟨t1,en1⟩,h1,hf⟩:=zaa.mp hf;refine⟨Ox,en,R,t1,en1,e,h1,fun v H1 R1 F1 P1 o1=>?_⟩;cases t1 with
 |bool b=>
  cases hf;exact⟨b,o1,k _ H1 R1 NoA (P1.less fun _ z=>z.elim) rfl⟩
 |_=>cases hf
def tFT(K:zbY)(p:Bool)(ds ds':List Nat)(f:MT):TT:=fun σ H Q=>
 ∃Ox en R b en',EnvOk K ds Ox H σ en R/\f en=some (b,en')/\∀H' R',Post K p ds' Ox σ H en R en' H' R' NoA->Q b H'
variable{c:MT}{QT:Bool->Hp->Prop}
def pD(h:tFT K p ds ds' (tV f) σ H QT):tB (tF K p ds ds' d f) σ H QT:=by
 obtain⟨Ox,en,R,b,en',e,hf,k⟩:=h;unfold tV at hf;obtain⟨⟨t1,en1⟩,h1,hf⟩:=zaa.mp hf;refine⟨Ox,en,R,t1,en1,e,h1,fun v H1 R1 F1 P1 o1=>?_⟩;cases t1 with
 |bool b=>
  cases hf;exact⟨_,o1,k H1 R1 (P1.less fun _ z=>z.elim)⟩
 |_=>cases hf
def Kv(h:tFT K (p1&&p2) ds ds1 (cZ c1 c2) σ H QT):Je (tFT K p1 ds ds1 c1) (tFT K p2 ds1 ds1 c2) σ H QT:=by
 obtain⟨Ox,en,R,b,en',e,hf,k⟩:=h;unfold cZ at hf;obtain⟨⟨b1,en1⟩,h1,hf⟩:=zaa.mp hf;refine⟨Ox,en,R,b1,en1,e,h1,fun H1 R1 P1=>?_⟩;cases b1 with
 |true=>
  rw[if_pos rfl];exact⟨Ox,en1,R1,b,en',P1.env0,hf,fun H2 R2 P2=>k H2 R2 (P1.after P2)⟩
 |false=>
  cases hf;rw[if_neg zbn];exact k H1 R1 ⟨P1.env,P1.fx,P1.keep,P1.own,P1.dom,fun hp=>P1.pure (by cases p1<;>simp_all)⟩
def Me(h:tFT K (p1&&p2) ds ds1 (bOr c1 c2) σ H QT):tOr (tFT K p1 ds ds1 c1) (tFT K p2 ds1 ds1 c2) σ H QT:=by
 obtain⟨Ox,en,R,b,en',e,hf,k⟩:=h;unfold bOr at hf;obtain⟨⟨b1,en1⟩,h1,hf⟩:=zaa.mp hf;refine⟨Ox,en,R,b1,en1,e,h1,fun H1 R1 P1=>?_⟩;cases b1 with
 |false=>
  rw[if_neg zbn];exact⟨Ox,en1,R1,b,en',P1.env0,hf,fun H2 R2 P2=>k H2 R2 (P1.after P2)⟩
 |true=>
  cases hf;rw[if_pos rfl];exact k H1 R1 ⟨P1.env,P1.fx,P1.keep,P1.own,P1.dom,fun hp=>P1.pure (by cases p1<;>simp_all)⟩
def Kt(h:tFT K p ds ds1 (bV c) σ H QT):IY (tFT K p ds ds1 c) σ H QT:=by
 obtain⟨Ox,en,R,b,en',e,hf,k⟩:=h;unfold bV at hf;obtain⟨⟨b1,en1⟩,h1,hf⟩:=zab.mp hf;cases hf;exact⟨Ox,en,R,b1,_,e,h1,fun H1 R1 P1=>k H1 R1 P1⟩
def Ku(hd:leD ds0 ds=true)(h:tFT K true ds ds c σ H QT):tFT K true ds0 ds0 c σ H QT:=by
 obtain⟨Ox,en,R,t,en',e,hf,k⟩:=h;obtain⟨R1,s1,e1⟩:=e.cut (gH hd).1 (gH hd).2;refine⟨Ox,en,R1,t,en',e1,hf,fun H' R' P=>?_⟩;obtain⟨a1,a2,a3⟩:=P.pure rfl;subst a1 a2;exact k H' R (Post.new e a3 fun _ z=>z.elim)
def Nn(h:tF K (p&&(p1&&p2)) ds ds2 d (eIf c f1 f2) σ H Q):tIf (tFT K p ds ds1 c) (tF K p1 ds1 ds2 d f1) (tF K p2 ds1 ds2 d f2) σ H Q:=by
 obtain⟨Ox,en,R,t,en',e,hf,k⟩:=h;unfold eIf at hf;obtain⟨⟨b1,en1⟩,h1,hf⟩:=zaa.mp hf;refine⟨Ox,en,R,b1,en1,e,h1,fun H1 R1 P1=>?_⟩;cases b1 with
 |true=>
  rw[if_pos rfl];refine⟨Ox,en1,R1,t,en',P1.env0,hf,fun v H2 R2 F2 P2 o2=>k v H2 R2 F2 ?_ o2⟩
  have:=P1.after P2;exact⟨this.env,this.fx,this.keep,this.own,this.dom,fun hp=>this.pure (by cases p<;>cases p1<;>simp_all)⟩
 |false=>
  rw[if_neg zbn];refine⟨Ox,en1,R1,t,en',P1.env0,hf,fun v H2 R2 F2 P2 o2=>k v H2 R2 F2 ?_ o2⟩
  have:=P1.after P2;exact⟨this.env,this.fx,this.keep,this.own,this.dom,fun hp=>this.pure (by cases p<;>cases p1<;>simp_all)⟩
end
abbrev Sh:=List (Nat ⊕ Nat)
variable{sh:Sh}
def OwA(K:zbY)(O:AS)(H:Hp)(σ:St):List (D ⊕ Nat)->Sh->List V->AS->Prop
 |[],ds,vs,_=>ds=[]/\vs=[]
 |.inl t::as,ds,vs,F=>∃v r d dr,∃F1 F2:AS,vs=v::r/\ds=.inl d::dr/\(∀b,F1 b->F b)/\(∀b,F2 b->F b)/\(∀b,F1 b->¬F2 b)/\Ow K O H t d v F1/\OwA K O H σ as dr r F2
 |.inr i::as,ds,vs,F=>∃v r dr,vs=v::r/\ds=.inr i::dr/\σ[i]?=some (some v)/\OwA K O H σ as dr r F
def tFA(K:zbY)(p:Bool)(ds ds':List Nat)(sh:Sh)(f:MA):TA:=fun σ H Q=>
 ∃Ox en R as en',EnvOk K ds Ox H σ en R/\f en=some (as,en')/\∀vs H' R' F,Post K p ds' Ox σ H en R en' H' R' F->OwA K (Own R' (U F Ox)) H' σ as sh vs F->Q vs H'
def aw(fa:MA):ME:=fun en=>(fa en).bind fun r=>(vals r.1).bind fun ts=>if ts.length<=sizeLine then some (.list ts,r.2)else none
def bj(fa:MA):ME:=fun en=>(fa en).bind fun r=>(vals r.1).bind fun ts=>if ts.length<=sizeLine then some (.tuple ts,r.2)else none
section
variable{QA:List V->Hp->Prop} 
def K9(h:tFA K true ds ds [] ag σ H QA):Ak σ H QA:=by
 obtain⟨Ox,en,R,as,en',e,hf,k⟩:=h;cases hf;exact k [] H R NoA (Post.refl e) ⟨rfl,rfl⟩
def GF(h:tFA K (p1&&p2) ds ds2 (.inl d::sh) (ac f fa) σ H QA):sg (tF K p1 ds ds1 d f) (tFA K p2 ds1 ds2 sh fa) σ H QA:=by
 obtain⟨Ox,en,R,as,en',e,hf,k⟩:=h;unfold ac at hf;obtain⟨⟨t1,en1⟩,h1,hf⟩:=zaa.mp hf;obtain⟨⟨as2,en2⟩,h2,hf⟩:=zab.mp hf;cases hf;refine⟨Ox,en,R,t1,en1,e,h1,fun x H1 R1 F1 P1 o1=>?_⟩;refine⟨U F1 Ox,en1,R1,as2,en2,P1.env,h2,fun vs H2 R2 F2 P2 o2=>?_⟩;refine k (x::vs) H2 R2 (U F1 F2) (P1.trans P2) ⟨x,vs,d,sh,F1,F2,rfl,rfl,fun _=>.inl,fun _=>.inr,fun b z1 z2=>P2.fx b z2 (.inl z1),Ow.over P1.env P2 o1,?_⟩;rw[<-pQ];exact o2
def GD(h:tFA K p ds ds2 (.inr i::sh) (aD i fa) σ H QA):sg (fY i) (tFA K p ds ds2 sh fa) σ H QA:=by
 obtain⟨Ox,en,R,as,en',e,hf,k⟩:=h;unfold aD at hf;obtain⟨t0,h0,hf⟩:=zaa.mp hf;obtain⟨⟨as2,en2⟩,h2,hf⟩:=zab.mp hf;cases hf;have q:en[i]?=some (some t0):=by
  cases q:en[i]? with
  |none=>rw[q]at h0;cases h0
  |some o=>rw[q]at h0;exact congrArg some h0
 obtain⟨v,d,h1,_⟩:=e.at_ i t0 q;exact⟨v,h1,Ox,en,R,as2,en2,e,h2,fun vs H2 R2 F2 P2 o2=>k (v::vs) H2 R2 F2 P2 ⟨v,vs,sh,rfl,rfl,h1,o2⟩⟩
def dh(c:Nat):Sh->Bool
 |[]=>true
 |.inl d::r=>decide (c<=d)&&dh c r
 |.inr _::_=>false
theorem OwA.ows:∀{as:List (D ⊕ Nat)} {sh:Sh} {vs:List V} {F:AS} {ts:List D} {c:Nat},dh c sh=true->vals as=some ts->OwA K O H σ as sh vs F ->
  ∃F':AS,(∀b,F' b->F b)/\∀O':AS,(∀a,O' a->O a)->(∀a,F a->O' a->F' a)->Ows K O' H ts c vs F'
 |[],_,_,F,ts,c,_,hv,h=>by
  cases hv;exact⟨F,fun _ z=>z,fun _ _ _=>h.2⟩
 |.inl t::as,_,_,F,ts,c,hs,hv,h=>by
  obtain⟨v,r,d,dr,F1,F2,e1,e2,s1,s2,s3,h1,h2⟩:=h;subst e1 e2;unfold vals at hv;obtain⟨ts',hv',e⟩:=zab.mp hv;subst e;unfold dh at hs;rw[zbm]at hs;obtain⟨G1,a1,a2⟩:=Ow.cut t (of_decide_eq_true hs.1) h1;obtain⟨G2,b1,b2⟩:=OwA.ows hs.2 hv' h2;refine⟨fun b=>G1 b\/G2 b,fun b hb=>hb.elim (fun z=>s1 _ (a1 _ z)) fun z=>s2 _ (b1 _ z),fun O' ho hx=>⟨v,r,G1,G2,rfl,fun b=>.inl,fun b=>.inr,fun b z1 z2=>s3 b (a1 b z1) (b1 b z2),a2 O' ho fun b hb hz=>?_,b2 O' ho fun b hb hz=>?_⟩⟩
  ·exact(hx b (s1 b hb) hz).elim id fun z=>absurd (b1 b z) (s3 b hb)
  ·exact(hx b (s2 b hb) hz).elim (fun z=>absurd hb (s3 b (a1 b z))) id
 |.inr i::as,_,_,F,ts,c,_,hv,_=>by cases hv
theorem OwA.len:∀{as:List (D ⊕ Nat)} {sh:Sh} {vs:List V} {F:AS},OwA K O H σ as sh vs F->vs.length=as.length
 |[],_,_,_,h=>by rw[h.2];rfl
 |.inl t::as,_,_,_,h=>by
  obtain⟨v,r,d,dr,F1,F2,e1,e2,s1,s2,s3,h1,h2⟩:=h;rw[e1,zac,zac,h2.len]
 |.inr i::as,_,_,_,h=>by
  obtain⟨v,r,dr,e1,e2,e3,h2⟩:=h;rw[e1,zac,zac,h2.len]
theorem oq:∀{as:List (D ⊕ Nat)} {ts:List D},vals as=some ts->ts.length=as.length
 |[],_,h=>by cases h;rfl
 |.inl t::as,_,h=>by
  unfold vals at h;obtain⟨ts',hv',e⟩:=zab.mp h;subst e;rw[zac,zac,oq hv']
 |.inr _::_,_,h=>by cases h
def zy{g:List D->Option D}(hs:dh 0 sh=true)(h:tF K p ds ds1 d (eN g fa) σ H Q):tCB (rFn K g d) (tFA K p ds ds1 sh fa) σ H Q:=by
 obtain⟨Ox,en,R,t,en',e,hf,k⟩:=h;unfold eN at hf;obtain⟨⟨as,en1⟩,h1,hf⟩:=zaa.mp hf;obtain⟨ts,h2,hf⟩:=zaa.mp hf;obtain⟨t',h3,hf⟩:=zab.mp hf;cases hf;refine⟨Ox,en,R,as,en1,e,h1,fun vs H1 R1 F P o=>?_⟩;obtain⟨F',s1,s2⟩:=OwA.ows hs h2 o;have o2:Ows K (Own R1 Ox) H1 ts 0 vs F':=s2 _ (fun a z=>z.imp id .inr) fun a z z2=>by
  rcases z2 with⟨i,z2⟩|z2
  ·exact absurd (.inl z) (P.env.dx i a z2)
  ·exact absurd z2 (P.fx a z)
 exact⟨Own R1 Ox,ts,t,Ows.any0 ts o2,P.doms,h3,fun v2 H2 F2 n o2=>k v2 H2 R1 F2 (P.fin n) (pU▸o2)⟩
def Post.add{F:AS}(P:Post K p ds' Ox σ H en R en' H1 R' F)(n:NewTo H1 H' G):Post K p ds' Ox σ H en R en' H' R' (U F G):=by
 have P2:Post K true ds' (U F Ox) σ H1 en' R' en' H' R' G:=Post.new P.env n.1 n.2
 have:=P.trans P2;rw[zbW]at this;exact this
def cq(hl:H l=none):NewTo H (upd H l o) (fun b=>b=l):=by
 refine⟨fun a u q=>?_,fun a z=>?_⟩
 ·rw[aN]
  ·exact q
  ·intro z;subst z;rw[hl]at q;cases q
 ·subst z;exact⟨hl,_,aI⟩
def MC(hs:dh c sh=true)(hd:dn d=c)(hz:d≠0)(h:tF K p ds ds1 d (aw fa) σ H Q):IZ (tFA K p ds ds1 sh fa) σ H Q:=by
 obtain⟨Ox,en,R,t,en',e,hf,k⟩:=h;unfold aw at hf;obtain⟨⟨as,en1⟩,h1,hf⟩:=zaa.mp hf;obtain⟨ts,h2,hf⟩:=zaa.mp hf;by_cases ξ:ts.length<=sizeLine
 case neg=>rw[if_neg ξ]at hf;cases hf
 rw[if_pos ξ]at hf;cases hf;refine⟨Ox,en,R,as,en1,e,h1,fun vs H1 R1 F P o=>⟨?_,fun l hl=>?_⟩⟩
 ·rw[o.len,<-oq h2];exact ξ
 obtain⟨F',s1,s2⟩:=OwA.ows hs h2 o;have o2:=s2 (Own R1 (U F' Ox)) (fun a z=>z.imp id fun z=>z.imp (s1 a) id) fun a z z2=>by
  rcases z2 with⟨i,z2⟩|z2|z2
  ·exact absurd (.inl z) (P.env.dx i a z2)
  ·exact z2
  ·exact absurd z2 (P.fx a z)
 have P':=(P.less s1).add (cq (o:=.lst vs) hl);have nl:∀a,F' a->a≠l:=fun a z z2=>by
  subst z2;obtain⟨o',q⟩:=P.env.dom a (.inr (.inl (s1 a z)));rw[hl]at q;cases q
 refine k (.ref l) (upd H1 l (.lst vs)) R1 _ P' ⟨l,vs,rfl,.inr ⟨hz,aI,.inr rfl,F',fun b z=>⟨.inl z,nl b z⟩,?_⟩⟩;rw[hd];refine Ows.mv (G:=F') ⟨fun a o q _=>(cq (o:=.lst vs) hl).1 a o q,fun a z=>?_⟩ ts (fun _ z=>z) o2;rcases z with z | (z|z)|z
 ·exact .inl (.inl z)
 ·exact .inl (.inr (.inl z))
 ·exact .inr (by rw[show a=l from z];exact hl)
 ·exact .inl (.inr (.inr z))
def Mw(hs:dh c sh=true)(hd:dn d=c)(h:tF K p ds ds1 d (bj fa) σ H Q):IU (tFA K p ds ds1 sh fa) σ H Q:=by
 obtain⟨Ox,en,R,t,en',e,hf,k⟩:=h;unfold bj at hf;obtain⟨⟨as,en1⟩,h1,hf⟩:=zaa.mp hf;obtain⟨ts,h2,hf⟩:=zaa.mp hf;by_cases ξ:ts.length<=sizeLine
 case neg=>rw[if_neg ξ]at hf;cases hf
 rw[if_pos ξ]at hf;cases hf;refine⟨Ox,en,R,as,en1,e,h1,fun vs H1 R1 F P o=>⟨?_,fun l hl=>?_⟩⟩
 ·rw[o.len,<-oq h2];exact ξ
 obtain⟨F',s1,s2⟩:=OwA.ows hs h2 o;have o2:=s2 (Own R1 (U F' Ox)) (fun a z=>z.imp id fun z=>z.imp (s1 a) id) fun a z z2=>by
  rcases z2 with⟨i,z2⟩|z2|z2
  ·exact absurd (.inl z) (P.env.dx i a z2)
  ·exact z2
  ·exact absurd z2 (P.fx a z)
 have nl:∀a,Own R1 (U F' Ox) a->a≠l:=fun a z z2=>by
  subst z2;obtain⟨o',q⟩:=P.env.dom a (z.imp id fun z=>z.imp (s1 a) id);rw[hl]at q;cases q
 by_cases hz:d=0
 ·subst hz;have P':=(P.less s1).add (G:=NoA) (H':=upd H1 l (.tup vs)) ⟨(cq (o:=.tup vs) hl).1,fun _ z=>z.elim⟩;have eq:U F' NoA=F':=fH fun a=>⟨fun z=>z.elim id fun z=>z.elim,.inl⟩;rw[eq]at P';refine k (.ref l) (upd H1 l (.tup vs)) R1 _ P' ⟨l,vs,rfl,.inl ⟨rfl,⟨aI,fun z=>nl l z rfl⟩,?_⟩⟩;have hc:c=0:=hd.symm;subst hc;exact Ows.mv (G:=F') ⟨fun a o q _=>(cq (o:=.tup vs) hl).1 a o q,fun a z=>.inl z⟩ ts (fun _ z=>z) o2
 ·have P':=(P.less s1).add (cq (o:=.tup vs) hl);refine k (.ref l) (upd H1 l (.tup vs)) R1 _ P' ⟨l,vs,rfl,.inr ⟨hz,aI,.inr rfl,F',fun b z=>⟨.inl z,nl b (.inr (.inl z))⟩,?_⟩⟩;rw[hd];refine Ows.mv (G:=F') ⟨fun a o q _=>(cq (o:=.tup vs) hl).1 a o q,fun a z=>?_⟩ ts (fun _ z=>z) o2;rcases z with z | (z|z)|z
  ·exact .inl (.inl z)
  ·exact .inl (.inr (.inl z))
  ·exact .inr (by rw[show a=l from z];exact hl)
  ·exact .inl (.inr (.inr z))
end
def spF(K:zbY)(dps:List Nat)(dr:Nat)(F:List D->Option (D×En)):Sp:=fun vs H Q _=>
 ∃Ox ts R r ψ,EnvOk K dps Ox H (vs.map some) (ts.map some) R/\F ts=some (r,ψ) /\
  ∀v H' R' Fr,Post K false dps Ox (vs.map some) H (ts.map some) R ψ H' R' Fr->Ow K (Own R' (U Fr Ox)) H' r dr v Fr->Q v H'
def eK:List (D ⊕ Nat)->En->Option (List D)
 |[],_=>some []
 |.inl t::r,en=>(eK r en).map (t::·)
 |.inr i::r,en=>(en[i]?).join.bind fun t=>(eK r en).map (t::·)
def wb:List (D ⊕ Nat)->En->En->En
 |.inr i::r,o::ψ,en=>wb r ψ (en.set i o)
 |.inl _::r,_::ψ,en=>wb r ψ en
 |_,_,en=>en
def ar(F:List D->Option (D×En))(fa:MA):ME:=fun en=>(fa en).bind fun r=>(eK r.1 r.2).bind fun ts=>(F ts).map fun q=>(q.1,wb r.1 q.2 r.2)
def j5:Sh->List Nat
 |[]=>[]
 |.inl _::r=>j5 r
 |.inr i::r=>i::j5 r
def dC(ds:List Nat):Sh->List Nat->Bool
 |[],[]=>true
 |.inl d::r,q::s=>decide (d=q)&&dC ds r s
 |.inr i::r,q::s=>decide (ds[i]?=some q)&&(decide (i∉j5 r)&&dC ds r s)
 |_,_=>false
def h9:Sh->Bool
 |[]=>true
 |.inl _::r=>h9 r
 |.inr _::_=>false
section
variable{QA:List V->Hp->Prop} 
theorem OwA.parts:∀{as:List (D ⊕ Nat)} {sh:Sh} {vs:List V} {F:AS},OwA K O H σ as sh vs F ->
  ∃Rp:Nat->AS,(∀(j:Nat) t,as[j]?=some (.inl t)->∃v d,vs[j]?=some v/\sh[j]?=some (.inl d)/\Ow K O H t d v (Rp j))/\(∀(j i:Nat),as[j]?=some (.inr i)->∃v,vs[j]?=some v/\sh[j]?=some (.inr i)/\σ[i]?=some (some v)) /\
   (∀j a,Rp j a->F a)/\(∀j j' a,Rp j a->Rp j' a->j=j')
 |[],sh,vs,F,h=>⟨fun _=>NoA,fun j t z=>by simp at z,fun j i z=>by simp at z,fun _ _ z=>z.elim,fun _ _ _ z=>z.elim⟩
 |.inl t::as,sh,vs,F,h=>by
  obtain⟨v,r,d,dr,F1,F2,e1,e2,s1,s2,s3,h1,h2⟩:=h;subst e1 e2;obtain⟨Rp,a1,a2,a3,a4⟩:=h2.parts;refine⟨fun j=>match j with|0=>F1|j+1=>Rp j,fun j u hj=>?_,fun j i hj=>?_,fun j a z=>?_,fun j j' a z z'=>?_⟩
  ·cases j with
   |zero=>
    have:t=u:=by simpa using hj
    subst this;exact⟨v,d,rfl,rfl,h1⟩
   |succ j=>exact a1 j u (by simpa using hj)
  ·cases j with
   |zero=>simp at hj
   |succ j=>exact a2 j i (by simpa using hj)
  ·cases j with
   |zero=>exact s1 a z
   |succ j=>exact s2 a (a3 j a z)
  ·cases j with
   |zero=>
    cases j' with
    |zero=>rfl
    |succ j'=>exact absurd (a3 j' a z') (s3 a z)
   |succ j=>
    cases j' with
    |zero=>exact absurd (a3 j a z) (s3 a z')
    |succ j'=>rw[a4 j j' a z z']
 |.inr i::as,sh,vs,F,h=>by
  obtain⟨v,r,dr,e1,e2,e3,h2⟩:=h;subst e1 e2;obtain⟨Rp,a1,a2,a3,a4⟩:=h2.parts;refine⟨fun j=>match j with|0=>NoA|j+1=>Rp j,fun j u hj=>?_,fun j i' hj=>?_,fun j a z=>?_,fun j j' a z z'=>?_⟩
  ·cases j with
   |zero=>simp at hj
   |succ j=>exact a1 j u (by simpa using hj)
  ·cases j with
   |zero=>
    have:i=i':=by simpa using hj
    subst this;exact⟨v,rfl,rfl,e3⟩
   |succ j=>exact a2 j i' (by simpa using hj)
  ·cases j with
   |zero=>exact z.elim
   |succ j=>exact a3 j a z
  ·cases j with
   |zero=>exact z.elim
   |succ j=>
    cases j' with
    |zero=>exact z'.elim
    |succ j'=>rw[a4 j j' a z z']
theorem oN:∀{as:List (D ⊕ Nat)} {en:En} {ts:List D},eK as en=some ts->ts.length=as.length/\∀(j:Nat) t,ts[j]?=some t->as[j]?=some (.inl t)\/∃i,as[j]?=some (.inr i)/\en[i]?=some (some t)
 |[],_,_,h=>by cases h;exact⟨rfl,fun j t z=>by simp at z⟩
 |.inl t::as,en,_,h=>by
  unfold eK at h;obtain⟨ts',h',e⟩:=zab.mp h;subst e;obtain⟨l,g⟩:=oN h';refine⟨by rw[zac,zac,l],fun j u z=>?_⟩;cases j with
  |zero=>simp at z;subst z;exact .inl rfl
  |succ j=>exact g j u (by simpa using z)
 |.inr i::as,en,_,h=>by
  unfold eK at h;obtain⟨t,ht,h⟩:=zaa.mp h;obtain⟨ts',h',e⟩:=zab.mp h;subst e;obtain⟨l,g⟩:=oN h';refine⟨by rw[zac,zac,l],fun j u z=>?_⟩;cases j with
  |zero=>
   simp at z;subst z;refine .inr ⟨i,rfl,?_⟩;cases q:en[i]? with
   |none=>rw[q]at ht;cases ht
   |some o=>rw[q]at ht;exact congrArg some ht
  |succ j=>exact g j u (by simpa using z)
theorem mB:∀{sh:Sh} {dps:List Nat},dC ds sh dps=true->sh.length=dps.length/\(∀(j d:Nat),sh[j]?=some (.inl d)->dps[j]?=some d)/\(∀(j i:Nat),sh[j]?=some (.inr i)->∃q,dps[j]?=some q/\ds[i]?=some q) /\
   (∀(j j' i:Nat),sh[j]?=some (.inr i)->sh[j']?=some (.inr i)->j=j')
 |[],[],_=>⟨rfl,fun j d z=>by simp at z,fun j d z=>by simp at z,fun j j' d z=>by simp at z⟩
 |.inl d::r,q::s,h=>by
  unfold dC at h;rw[zbm]at h;obtain⟨h1,h2⟩:=h;have h1':=of_decide_eq_true h1;subst h1';obtain⟨l,a,b,c⟩:=mB h2;refine⟨by rw[zac,zac,l],fun j u z=>?_,fun j i z=>?_,fun j j' i z z'=>?_⟩
  ·cases j with
   |zero=>simp at z;subst z;rfl
   |succ j=>exact a j u (by simpa using z)
  ·cases j with
   |zero=>simp at z
   |succ j=>exact b j i (by simpa using z)
  ·cases j with
   |zero=>simp at z
   |succ j=>
    cases j' with
    |zero=>simp at z'
    |succ j'=>rw[c j j' i (by simpa using z) (by simpa using z')]
 |.inr i0::r,q::s,h=>by
  unfold dC at h;rw[zbm,zbm]at h;obtain⟨h1,h2,h3⟩:=h;have h1':=of_decide_eq_true h1;have h2':=of_decide_eq_true h2;obtain⟨l,a,b,c⟩:=mB h3;have mem:∀{r:Sh} {j i:Nat},r[j]?=some (.inr i)->i∈j5 r:=fun {r}=>by
   induction r with
   |nil=>intro j i z;simp at z
   |cons x r ih=>
    intro j i z;cases j with
    |zero=>
     simp at z;subst z;unfold j5;exact zaq
    |succ j=>
     have:=ih (j:=j) (i:=i) (by simpa using z);cases x with
     |inl _=>exact this
     |inr _=>exact zaj _ this
  refine⟨by rw[zac,zac,l],fun j u z=>?_,fun j i z=>?_,fun j j' i z z'=>?_⟩
  ·cases j with
   |zero=>simp at z
   |succ j=>exact a j u (by simpa using z)
  ·cases j with
   |zero=>simp at z;subst z;exact⟨q,rfl,h1'⟩
   |succ j=>exact b j i (by simpa using z)
  ·cases j with
   |zero=>
    simp at z;subst z;cases j' with
    |zero=>rfl
    |succ j'=>exact absurd (mem (by simpa using z')) h2'
   |succ j=>
    cases j' with
    |zero=>
     simp at z';subst z';exact absurd (mem (by simpa using z)) h2'
    |succ j'=>rw[c j j' i (by simpa using z) (by simpa using z')]
 |[],_::_,h=>nomatch h
 |.inl _::_,[],h=>nomatch h
 |.inr _::_,[],h=>nomatch h
theorem sC:∀(as:List (D ⊕ Nat)) (ψ en:En),(wb as ψ en).length=en.length
 |[],_,_=>by unfold wb;rfl
 |.inl _::as,[],_=>by unfold wb;rfl
 |.inr _::as,[],_=>by unfold wb;rfl
 |.inl _::as,o::ψ,en=>by unfold wb;exact sC as ψ en
 |.inr i::as,o::ψ,en=>by unfold wb;rw[sC as ψ _,zaV]
theorem j4:∀(as:List (D ⊕ Nat)) (ψ en:En) (i:Nat),(∀j:Nat,as[j]?≠some (.inr i))->(wb as ψ en)[i]?=en[i]?
 |[],_,_,_,_=>by unfold wb;rfl
 |.inl _::as,[],_,_,_=>by unfold wb;rfl
 |.inr _::as,[],_,_,_=>by unfold wb;rfl
 |.inl _::as,o::ψ,en,i,h=>by unfold wb;exact j4 as ψ en i fun j=>h (j+1)
 |.inr k::as,o::ψ,en,i,h=>by
  unfold wb;rw[j4 as ψ _ i fun j=>h (j+1),zaO];intro e;subst e;exact h 0 rfl
theorem wy:∀(as:List (D ⊕ Nat)) (ψ en:En) (i j:Nat),as[j]?=some (.inr i)->(∀j':Nat,as[j']?=some (.inr i)->j'=j)->ψ.length=as.length->i<en.length->(wb as ψ en)[i]?=ψ[j]?
 |[],_,_,_,_,h,_,_,_=>by simp at h
 |.inl _::as,[],_,_,_,_,_,h,_=>by simp at h
 |.inr _::as,[],_,_,_,_,_,h,_=>by simp at h
 |.inl _::as,o::ψ,en,i,j,h,u,l,b=>by
  unfold wb;cases j with
  |zero=>simp at h
  |succ j=>exact wy as ψ en i j (by simpa using h) (fun j' z=>by have:=u (j'+1) (by simpa using z);omega) (by simpa using l) b
 |.inr k::as,o::ψ,en,i,j,h,u,l,b=>by
  unfold wb;cases j with
  |zero=>
   have e:k=i:=by simpa using h
   subst e;rw[j4 as ψ _ k fun j' z=>by have:=u (j'+1) (by simpa using z);omega];rw[zaP b];rfl
  |succ j=>exact wy as ψ _ i j (by simpa using h) (fun j' z=>by have:=u (j'+1) (by simpa using z);omega) (by simpa using l) (by rw[zaV];exact b)
theorem OwA.shl:∀{as:List (D ⊕ Nat)} {sh:Sh} {vs:List V} {F:AS},OwA K O H σ as sh vs F->sh.length=as.length
 |[],_,_,_,h=>by rw[h.1];rfl
 |.inl t::as,_,_,_,h=>by
  obtain⟨v,r,d,dr,F1,F2,e1,e2,s1,s2,s3,h1,h2⟩:=h;rw[e2,zac,zac,h2.shl]
 |.inr i::as,_,_,_,h=>by
  obtain⟨v,r,dr,e1,e2,e3,h2⟩:=h;rw[e2,zac,zac,h2.shl]
theorem pb:∀{sh:Sh},h9 sh=true->∀(j i:Nat),sh[j]?≠some (.inr i)
 |[],_,j,i,z=>by simp at z
 |.inl _::r,h,j,i,z=>by
  cases j with
  |zero=>simp at z
  |succ j=>exact pb (sh:=r) h j i (by simpa using z)
 |.inr _::r,h,_,_,_=>nomatch h
def EG{E:XK}{F:List D->Option (D×En)}(hc:dC ds1 sh dps=true)(h:∃Ox en R t en',EnvOk K ds Ox H σ en R/\ar F fa en=some (t,en')/\∀v H' R' F,Post K (p&&h9 sh) ds1 Ox σ H en R en' H' R' F->(p=true->∀i0:Nat,(∀j:Nat,sh[j]?≠some (.inr i0))->(∀a o,H a=some o->R i0 a->H' a=some o)/\en'[i0]?=en[i0]?)->Ow K (Own R' (U F Ox)) H' t dr v F->Q v H'):oT (spF K dps dr F) [] E (tFA K p ds ds1 sh fa) σ H Q:=by
 obtain⟨Ox,en,R,t,en',e,hf,k⟩:=h;unfold ar at hf;obtain⟨⟨as,en1⟩,h1,hf⟩:=zaa.mp hf;obtain⟨ts,h2,hf⟩:=zaa.mp hf;obtain⟨⟨r,ψ⟩,h3,hf⟩:=zab.mp hf;cases hf;refine⟨Ox,en,R,as,en1,e,h1,fun vs H1 R1 F0 P o=>?_⟩;obtain⟨cl,c1,c2,c3⟩:=mB hc;obtain⟨Rp,a1,a2,a3,a4⟩:=o.parts;obtain⟨tl,tg⟩:=oN h2;have ol:=o.len;have asl:∀(j i:Nat),as[j]?=some (.inr i)->sh[j]?=some (.inr i):=fun j i z=>(a2 j i z).choose_spec.2.1;have asr:∀(j i:Nat),sh[j]?=some (.inr i)->as[j]?=some (.inr i):=fun j i z=>by
  cases q:as[j]? with
  |none=>
   have e1:as.length<=j:=List.getElem?_eq_none_iff.mp q;have e2:j<sh.length:=(zah.mp z).1
   have:=o.shl;omega
  |some x=>
   cases x with
   |inl t=>
    obtain⟨_,_,_,e2,_⟩:=a1 j t q;rw[z]at e2;cases e2
   |inr i'=>
    have:=asl j i' q;rw[z]at this;cases this;rfl
 let Rq:Nat->AS:=fun j=>match sh[j]? with|some (.inr i)=>R1 i|_=>Rp j
 have rq1:∀j i:Nat,sh[j]?=some (.inr i)->Rq j=R1 i:=fun j i z=>by show(match sh[j]? with|some (.inr i)=>R1 i|_=>Rp j)=R1 i;rw[z]
 have rq2:∀j:Nat,(∀i:Nat,sh[j]?≠some (.inr i))->Rq j=Rp j:=fun j z=>by
  show(match sh[j]? with|some (.inr i)=>R1 i|_=>Rp j)=Rp j;split
  ·next i q=>exact absurd q (z i)
  ·rfl
 have rqc:∀(j:Nat) a,Rq j a->(∃i,sh[j]?=some (.inr i)/\R1 i a)\/Rp j a:=fun j a z=>by
  by_cases q:∃i,sh[j]?=some (.inr i)
  ·obtain⟨i,q⟩:=q;rw[rq1 j i q]at z;exact .inl ⟨i,q,z⟩
  ·rw[rq2 j fun i z=>q ⟨i,z⟩]at z;exact .inr z
 let Oxp:AS:=fun a=>Ox a\/∃i,R1 i a/\∀j:Nat,sh[j]?≠some (.inr i);have sub:∀a,Own Rq Oxp a->Own R1 (U F0 Ox) a:=fun a z=>by
  rcases z with⟨j,z⟩|z|⟨i,z,_⟩
  ·rcases rqc j a z with⟨i,_,z⟩|z
   ·exact .inl ⟨i,z⟩
   ·exact .inr (.inl (a3 j a z))
  ·exact .inr (.inr z)
  ·exact .inl ⟨i,z⟩
 have ec:EnvOk K dps Oxp H1 (vs.map some) (ts.map some) Rq:=by
  refine⟨fun j u hu=>?_,fun j j' a z z'=>?_,fun j a z z2=>?_,fun a z=>P.env.dom a (sub a z),by rw[zad,zad,tl,ol],?_⟩
  ·rw[zao]at hu;obtain⟨u',hu,eu⟩:=zab.mp hu;cases eu;rcases tg j u hu with q|⟨i,q,qe⟩
   ·obtain⟨v,d,b1,b2,b3⟩:=a1 j u q;refine⟨v,d,by rw[zao,b1];rfl,c1 j d b2,?_⟩;rw[rq2 j fun i z=>by rw[b2]at z;cases z];exact Ow.grow sub u (fun _ z=>z) b3
   ·obtain⟨v,b1,b2,b3⟩:=a2 j i q;obtain⟨v',d,g1,g2,g3⟩:=P.env.at_ i u qe;rw[b3]at g1;cases g1;obtain⟨qd,q1,q2⟩:=c2 j i b2;rw[g2]at q2;cases q2;refine⟨v,d,by rw[zao,b1];rfl,q1,?_⟩;rw[rq1 j i b2];exact Ow.grow sub u (fun _ z=>z) g3
  ·rcases rqc j a z with⟨i,q,z⟩|z<;>rcases rqc j' a z' with⟨i',q',z'⟩|z'
   ·have:=P.env.dj i i' a z z';subst this;exact c3 j j' i q q'
   ·exact absurd (.inl (a3 j' a z')) (P.env.dx i a z)
   ·exact absurd (.inl (a3 j a z)) (P.env.dx i' a z')
   ·exact a4 j j' a z z'
  ·rcases rqc j a z with⟨i,q,z⟩|z
   ·rcases z2 with z2|⟨i',z2,n⟩
    ·exact P.env.dx i a z (.inr z2)
    ·have:=P.env.dj i i' a z z2;subst this;exact n j q
   ·rcases z2 with z2|⟨i',z2,n⟩
    ·exact P.fx a (a3 j a z) z2
    ·exact P.env.dx i' a z2 (.inl (a3 j a z))
  ·have:=o.shl;rw[zad];omega
 rw[zbs];refine⟨Oxp,ts,Rq,r,ψ,ec,h3,fun v H2 R2 Fr Pc oc=>?_⟩;have outl:ψ.length=as.length:=by rw[Pc.env.l1,zad];exact ol
 classical
 let R3:Nat->AS:=fun i=>if q:∃j:Nat,sh[j]?=some (.inr i)then R2 q.choose else R1 i
 have r31:∀(i j:Nat),sh[j]?=some (.inr i)->R3 i=R2 j:=fun i j z=>by
  have q:∃j:Nat,sh[j]?=some (.inr i):=⟨j,z⟩
  have:q.choose=j:=c3 _ _ i q.choose_spec z;show(if q:∃j:Nat,sh[j]?=some (.inr i)then R2 q.choose else R1 i)=R2 j;rw[dif_pos q,this]
 have r32:∀i:Nat,(∀j:Nat,sh[j]?≠some (.inr i))->R3 i=R1 i:=fun i z=>by
  show(if q:∃j:Nat,sh[j]?=some (.inr i)then R2 q.choose else R1 i)=R1 i;rw[dif_neg fun⟨j,q⟩=>z j q]
 have r3c:∀(i:Nat) a,R3 i a->(∃j:Nat,sh[j]?=some (.inr i)/\R2 j a)\/((∀j:Nat,sh[j]?≠some (.inr i))/\R1 i a):=fun i a z=>by
  by_cases q:∃j:Nat,sh[j]?=some (.inr i)
  ·obtain⟨j,q⟩:=q;rw[r31 i j q]at z;exact .inl ⟨j,q,z⟩
  ·rw[r32 i fun j z=>q ⟨j,z⟩]at z;exact .inr ⟨fun j z=>q ⟨j,z⟩,z⟩
 have gV:∀a,Own R3 (U Fr Ox) a->Own R2 (U Fr Oxp) a:=fun a z=>by
  rcases z with⟨i,z⟩|z|z
  ·rcases r3c i a z with⟨j,_,z⟩|⟨n,z⟩
   ·exact .inl ⟨j,z⟩
   ·exact .inr (.inr (.inr ⟨i,z,n⟩))
  ·exact .inr (.inl z)
  ·exact .inr (.inr (.inl z))
 have back:∀a,(Fr a\/∃j,R2 j a)->Own R1 (U F0 Ox) a\/H1 a=none:=fun a z=>by
  rcases Pc.own a z with⟨j,z⟩|z
  ·exact .inl (sub a (.inl ⟨j,z⟩))
  ·exact .inr z
 have back2:∀a,(Fr a\/∃j,R2 j a)->(F0 a\/∃i,R1 i a)\/H1 a=none:=fun a z=>by
  rcases Pc.own a z with⟨j,z⟩|z
  ·rcases rqc j a z with⟨i,_,z⟩|z
   ·exact .inl (.inr ⟨i,z⟩)
   ·exact .inl (.inl (a3 j a z))
  ·exact .inr z
 have n1:∀a,H1 a=none->H a=none:=fun a z=>by
  cases q:H a with
  |none=>rfl
  |some o=>
   obtain⟨o',q'⟩:=P.dom a o q;rw[z]at q';cases q'
 have rqsub:∀j a,Rq j a->Own R1 (U F0 Ox) a:=fun j a z=>sub a (.inl ⟨j,z⟩);have env3:EnvOk K ds1 (U Fr Ox) H2 σ (wb as ψ en1) R3:=by
  refine⟨fun i u hu=>?_,fun i i' a z z'=>?_,fun i a z z2=>?_,fun a z=>Pc.env.dom a (gV a z),by rw[sC];exact P.env.l1,P.env.l2⟩
  ·by_cases q:∃j:Nat,as[j]?=some (.inr i)
   ·obtain⟨j,q⟩:=q;obtain⟨v,b1,b2,b3⟩:=a2 j i q;have hil:i<en1.length:=by rw[P.env.l1];exact(zah.mp b3).1
    rw[wy as ψ en1 i j q (fun j' z=>c3 j' j i (asl j' i z) b2) outl hil]at hu;obtain⟨v',d,g1,g2,g3⟩:=Pc.env.at_ j u hu;rw[zao,b1]at g1;cases g1;obtain⟨qd,q1,q2⟩:=c2 j i b2;rw[g2]at q1;cases q1;refine⟨v,d,b3,q2,?_⟩;rw[r31 i j b2];exact Ow.grow gV u (fun _ z=>z) g3
   ·rw[j4 as ψ en1 i fun j z=>q ⟨j,z⟩]at hu;have ns:∀j:Nat,sh[j]?≠some (.inr i):=fun j z=>q ⟨j,asr j i z⟩;obtain⟨v,d,g1,g2,g3⟩:=P.env.at_ i u hu;refine⟨v,d,g1,g2,?_⟩;rw[r32 i ns];refine Ow.mv (G:=R1 i) ⟨fun a o q z=>Pc.keep a o q fun j zj=>?_,fun a z=>?_⟩ u (fun _ z=>z) g3
    ·rcases z with z|z
     ·exact z (rqsub j a zj)
     ·rcases rqc j a zj with⟨i',q',z'⟩|z'
      ·have:=P.env.dj i i' a z z';subst this;exact ns j q'
      ·exact P.env.dx i a z (.inl (a3 j a z'))
    ·rcases z with⟨i',z⟩|z|z
     ·rcases r3c i' a z with⟨j,_,z⟩|⟨n,z⟩
      ·exact back a (.inr ⟨j,z⟩)
      ·exact .inl (.inl ⟨i',z⟩)
     ·exact back a (.inl z)
     ·exact .inl (.inr (.inr z))
  ·rcases r3c i a z with⟨j,q,z⟩|⟨n,z⟩<;>rcases r3c i' a z' with⟨j',q',z'⟩|⟨n',z'⟩
   ·have:=Pc.env.dj j j' a z z';subst this;rw[q]at q';cases q';rfl
   ·exact absurd (.inr (.inr ⟨i',z',n'⟩)) (Pc.env.dx j a z)
   ·exact absurd (.inr (.inr ⟨i,z,n⟩)) (Pc.env.dx j' a z')
   ·exact P.env.dj i i' a z z'
  ·rcases r3c i a z with⟨j,q,z⟩|⟨n,z⟩
   ·exact Pc.env.dx j a z (z2.imp id .inl)
   ·rcases z2 with z2|z2
    ·exact Pc.fx a z2 (.inr ⟨i,z,n⟩)
    ·exact P.env.dx i a z (.inr z2)
 refine k v H2 R3 Fr ⟨env3,fun a z z2=>Pc.fx a z (.inl z2),fun a o q n=>?_,fun a z=>?_,fun a o q=>?_,fun hp=>?_⟩ (fun hp i0 hi0=>⟨fun a o q z=>?_,?_⟩) (Ow.grow gV r (fun _ z=>z) oc)
 ·refine Pc.keep a o (P.keep a o q n) fun j z=>?_;have nn:∀i,¬R1 i a:=fun i z=>by
   rcases P.own a (.inr ⟨i,z⟩)with⟨i',z⟩|z
   ·exact n i' z
   ·rw[q]at z;cases z
  rcases rqc j a z with⟨i,_,z⟩|z
  ·exact nn i z
  ·rcases P.own a (.inl (a3 j a z))with⟨i',z⟩|z
   ·exact n i' z
   ·rw[q]at z;cases z
 ·have:(F0 a\/∃i,R1 i a)\/H1 a=none:=by
   rcases z with z|⟨i,z⟩
   ·exact back2 a (.inl z)
   ·rcases r3c i a z with⟨j,_,z⟩|⟨n,z⟩
    ·exact back2 a (.inr ⟨j,z⟩)
    ·exact .inl (.inr ⟨i,z⟩)
  rcases this with z|z
  ·exact P.own a z
  ·exact .inr (n1 a z)
 ·obtain⟨o',q'⟩:=P.dom a o q;exact Pc.dom a o' q'
 ·obtain⟨hp1,hp2⟩:=(zbm _ _▸hp:p=true/\h9 sh=true);obtain⟨b1,b2,b3⟩:=P.pure hp1;have ns:=pb hp2;refine⟨?_,?_,fun a o q=>?_⟩
  ·show wb as ψ en1=en;rw[<-b1];refine List.ext_getElem? fun i=>?_;exact j4 as ψ en1 i fun j z=>ns j i (asl j i z)
  ·rw[<-b2]
   funext i
   exact r32 i fun j=>ns j i
  ·refine Pc.keep a o (b3 a o q) fun j z=>?_;rcases rqc j a z with⟨i,z,_⟩|z
   ·exact ns j i z
   ·have zf:=a3 j a z;rcases P.own a (.inl zf)with⟨i,z2⟩|z2
    ·rw[<-b2]at z2;exact P.env.dx i a z2 (.inl zf)
    ·rw[q]at z2;cases z2
 ·obtain⟨b1,b2,b3⟩:=P.pure hp;rw[<-b2]at z;refine Pc.keep a o (b3 a o q) fun j zj=>?_;rcases rqc j a zj with⟨i',q',z'⟩|z'
  ·have:=P.env.dj i0 i' a z z';subst this;exact hi0 j q'
  ·exact P.env.dx i0 a z (.inl (a3 j a z'))
 ·obtain⟨b1,b2,b3⟩:=P.pure hp;rw[j4 as ψ en1 i0 fun j z=>hi0 j (asl j i0 z),b1]
def Lc{E:XK}{F:List D->Option (D×En)}(hc:dC ds1 sh dps=true)(h:tF K (p&&h9 sh) ds ds1 dr (ar F fa) σ H Q):oT (spF K dps dr F) [] E (tFA K p ds ds1 sh fa) σ H Q:=
 let⟨Ox,en,R,t,en',e,hf,k⟩:=h
 EG hc ⟨Ox,en,R,t,en',e,hf,fun v H' R' F P _ o=>k v H' R' F P o⟩
end
inductive Fl where
 |nx (en:En)|rt (t:D) (en:En)|ct (en:En)
abbrev MS:=En->Option Fl
variable{m m1 m2:MS}
structure Jd where
 lk:List Nat
 dsr:List Nat
 dr:Nat
 dsl:List Nat
variable{J:Jd}
structure PostS(K:zbY)(lk:List Nat)(ds':List Nat)(Ox:AS)(σ:St)(H:Hp)(R:Nat->AS)(σ':St)(en':En)(H':Hp)(R':Nat->AS)(F:AS):Prop where
 env:EnvOk K ds' (U F Ox) H' σ' en' R'
 fx:∀a,F a->¬Ox a
 keep:∀a o,H a=some o->(∀i,¬R i a)->H' a=some o
 own:∀a,(F a\/∃i,R' i a)->(∃i,R i a)\/H a=none
 dom:∀a o,H a=some o->∃o',H' a=some o'
 lk:∀j∈lk,σ'[j]?=σ[j]?
def tFS(K:zbY)(J:Jd)(ds ds':List Nat)(f:MS):TS:=fun D σ H=>
 ∃Ox en R fl,EnvOk K ds Ox H σ en R/\f en=some fl/\match fl with
  |.nx en'=>∀σ' H' R',PostS K J.lk ds' Ox σ H R σ' en' H' R' NoA->D.nx σ' H'
  |.ct en'=>∀σ' H' R',PostS K J.lk J.dsl Ox σ H R σ' en' H' R' NoA->D.ct σ' H'
  |.rt t en'=>∀v σ' H' R' F,PostS K J.lk J.dsr Ox σ H R σ' en' H' R' F->Ow K (Own R' (U F Ox)) H' t J.dr v F->D.rt v H'
def ak(f g:MS):MS:=fun en=>(f en).bind fun fl=>match fl with
 |.nx en1=>g en1
 |.rt t en1=>some (.rt t en1)
 |.ct en1=>some (.ct en1)
def au(i:Nat)(f:ME):MS:=fun en=>(f en).map fun r=>.nx (r.2.set i (some r.1))
def cG(f:ME):MS:=fun en=>(f en).map fun r=>.nx r.2
def ay(f:ME):MS:=fun en=>(f en).map fun r=>.rt r.1 r.2
def NS:MS:=fun en=>some (.rt .none en)
def aW:MS:=fun en=>some (.nx en)
def NT:MS:=fun en=>some (.ct en)
def NJ:MS:=fun _=>none
def sIf(c:MT)(f g:MS):MS:=fun en=>(c en).bind fun r=>if r.1 then f r.2 else g r.2
section
variable{c:MT}{D:Ends}
def PostS.refl(e:EnvOk K ds Ox H σ en R):PostS K lk ds Ox σ H R σ en H R NoA:=
 ⟨by rw[eP];exact e,fun _ z=>z.elim,fun _ _ q _=>q,fun a z=>z.elim (fun z=>z.elim) .inl,fun a o q=>⟨o,q⟩,fun _ _=>rfl⟩
def PostS.env0{F:AS}(P:PostS K lk ds' Ox σ H R σ' en' H' R' F):EnvOk K ds' Ox H' σ' en' R':=P.env.fewer fun a z=>.inr z
def PostS.less{F:AS}(P:PostS K lk ds' Ox σ H R σ' en' H' R' F)(h:∀a,F' a->F a):PostS K lk ds' Ox σ H R σ' en' H' R' F':=
 ⟨P.env.fewer fun a z=>z.imp (h a) id,fun a z=>P.fx a (h a z),P.keep,fun a z=>P.own a (z.imp (h a) id),P.dom,P.lk⟩
def PostS.after{σ1 σ2:St}{R2:Nat->AS}{F:AS}(P1:PostS K lk ds1 Ox σ H R σ1 en1 H1 R1 NoA)(P2:PostS K lk ds2 Ox σ1 H1 R1 σ2 en2 H' R2 F):PostS K lk ds2 Ox σ H R σ2 en2 H' R2 F:=by
 have n1:∀a,H1 a=none->H a=none:=fun a z=>by
  cases q:H a with
  |none=>rfl
  |some o=>
   obtain⟨o',q'⟩:=P1.dom a o q;rw[z]at q';cases q'
 refine⟨P2.env,P2.fx,fun a o q n=>?_,fun a z=>?_,fun a o q=>?_,fun j hj=>(P2.lk j hj).trans (P1.lk j hj)⟩
 ·refine P2.keep a o (P1.keep a o q n) fun i z=>?_;rcases P1.own a (.inr ⟨i,z⟩)with⟨j,z⟩|z
  ·exact n j z
  ·rw[q]at z;cases z
 ·rcases P2.own a z with z|z
  ·exact P1.own a (.inr z)
  ·exact .inr (n1 a z)
 ·obtain⟨o',q'⟩:=P1.dom a o q;exact P2.dom a o' q'
def Post.s{F:AS}(P:Post K p ds' Ox σ H en R en' H' R' F):PostS K lk ds' Ox σ H R σ en' H' R' F:=⟨P.env,P.fx,P.keep,P.own,P.dom,fun _ _=>rfl⟩
def PostS.cut{F:AS}(P:PostS K lk ds1 Ox σ H R σ' en' H' R' F)(hd:leD ds2 ds1=true):∃R2,(∀i a,R2 i a->R' i a)/\PostS K lk ds2 Ox σ H R σ' en' H' R2 F:=by
 obtain⟨R2,s1,e2⟩:=P.env.cut (gH hd).1 (gH hd).2;exact⟨R2,s1,e2,P.fx,P.keep,fun a z=>P.own a (z.imp id fun⟨i,z⟩=>⟨i,s1 i a z⟩),P.dom,P.lk⟩
def Kz(h:tFS K J ds ds aW D σ H):Eh D σ H:=by
 obtain⟨Ox,en,R,fl,e,hf,k⟩:=h;cases hf;exact k σ H R (PostS.refl e)
def Kx(h:tFS K J ds ds2 (ak m1 m2) D σ H):IV (tFS K J ds ds1 m1) (tFS K J ds1 ds2 m2) D σ H:=by
 obtain⟨Ox,en,R,fl,e,hf,k⟩:=h;unfold ak at hf;obtain⟨fl1,h1,hf⟩:=zaa.mp hf;refine⟨Ox,en,R,fl1,e,h1,?_⟩;cases fl1 with
 |nx en1=>
  intro σ1 H1 R1 P1;refine⟨Ox,en1,R1,fl,P1.env0,hf,?_⟩;cases fl with
  |nx en2=>exact fun σ2 H2 R2 P2=>k σ2 H2 R2 (P1.after P2)
  |ct en2=>exact fun σ2 H2 R2 P2=>k σ2 H2 R2 (P1.after P2)
  |rt t en2=>exact fun v σ2 H2 R2 F P2 o=>k v σ2 H2 R2 F (P1.after P2) o
 |ct en1=>cases hf;exact k
 |rt t en1=>cases hf;exact k
def Kw(hd:leD ds1 ds2=true)(h:tFS K J ds ds1 m D σ H):tFS K J ds ds2 m D σ H:=by
 obtain⟨Ox,en,R,fl,e,hf,k⟩:=h;refine⟨Ox,en,R,fl,e,hf,?_⟩;cases fl with
 |nx en2=>
  intro σ2 H2 R2 P2;obtain⟨R3,_,P3⟩:=P2.cut hd;exact k σ2 H2 R3 P3
 |ct en2=>exact k
 |rt t en2=>exact k
def KB(h:tFS K J ds ds1 (cG f) D σ H):wH (tF K p ds ds1 d f) D σ H:=by
 obtain⟨Ox,en,R,fl,e,hf,k⟩:=h;unfold cG at hf;obtain⟨⟨t,en1⟩,h1,hf⟩:=zab.mp hf;cases hf;exact⟨Ox,en,R,t,en1,e,h1,fun v H1 R1 F P o=>k σ H1 R1 (P.s.less fun _ z=>z.elim)⟩
def Ky(hd:leD J.dsr ds1=true)(h:tFS K J ds ds' (ay f) D σ H):IW (tF K p ds ds1 J.dr f) D σ H:=by
 obtain⟨Ox,en,R,fl,e,hf,k⟩:=h;unfold ay at hf;obtain⟨⟨t,en1⟩,h1,hf⟩:=zab.mp hf;cases hf;refine⟨Ox,en,R,t,en1,e,h1,fun v H1 R1 F P o=>?_⟩;obtain⟨R2,s1,P2⟩:=(P.s (lk:=J.lk)).cut hd;exact k v σ H1 R2 F P2 (Ow.grow (fun a z=>z.imp (fun⟨i,z⟩=>⟨i,s1 i a z⟩) id) t (fun _ z=>z) o)
def Mf(h:tFS K J ds ds2 (sIf c m1 m2) D σ H):I0 (tFT K p ds ds1 c) (tFS K J ds1 ds2 m1) (tFS K J ds1 ds2 m2) D σ H:=by
 obtain⟨Ox,en,R,fl,e,hf,k⟩:=h;unfold sIf at hf;obtain⟨⟨b,en1⟩,h1,hf⟩:=zaa.mp hf;refine⟨Ox,en,R,b,en1,e,h1,fun H1 R1 P1=>?_⟩;have fin:∀m,m en1=some fl->tFS K J ds1 ds2 m D σ H1:=fun m hm=>by
  refine⟨Ox,en1,R1,fl,P1.env0,hm,?_⟩;cases fl with
  |nx en2=>exact fun σ2 H2 R2 P2=>k σ2 H2 R2 (P1.s.after P2)
  |ct en2=>exact fun σ2 H2 R2 P2=>k σ2 H2 R2 (P1.s.after P2)
  |rt t en2=>exact fun v σ2 H2 R2 F P2 o=>k v σ2 H2 R2 F (P1.s.after P2) o
 cases b with
 |true=>exact fin m1 hf
 |false=>exact fin m2 hf
def PostS.store{F:AS}(P:Post K p ds1 Ox σ H en R en1 H' R' F)(o:Ow K (Own R' (U F Ox)) H' t d v F)(hi:i<ds1.length)(hl:i∉lk):
  PostS K lk (ds1.set i d) Ox σ H R (σ.set i (some v)) (en1.set i (some t)) H' (fun j=>if j=i then F else R' j) NoA:=by
 have l1:=P.env.l1;have l2:=P.env.l2;have sub:∀a,Own (fun j=>if j=i then F else R' j) Ox a->Own R' (U F Ox) a:=fun a z=>by
  rcases z with⟨j,z⟩|z
  ·by_cases hj:j=i
   ·rw[if_pos hj]at z;exact .inr (.inl z)
   ·rw[if_neg hj]at z;exact .inl ⟨j,z⟩
  ·exact .inr (.inr z)
 refine⟨?_,fun _ z=>z.elim,P.keep,fun a z=>?_,P.dom,fun j hj=>?_⟩
 ·rw[eP];refine⟨fun j u hu=>?_,fun j j' a z z'=>?_,fun j a z z2=>?_,fun a z=>P.env.dom a (sub a z),by rw[zaV,zaV];exact l1,by rw[zaV,zaV];exact l2⟩
  ·by_cases hj:j=i
   ·subst hj;rw[zaP (by omega)]at hu;cases hu;refine⟨v,d,zaP (by omega),zaP hi,?_⟩;rw[if_pos rfl];exact Ow.grow sub t (fun _ z=>z) o
   ·rw[zaO (Ne.symm hj)]at hu;obtain⟨v',d',g1,g2,g3⟩:=P.env.at_ j u hu;refine⟨v',d',by rw[zaO (Ne.symm hj)];exact g1,by rw[zaO (Ne.symm hj)];exact g2,?_⟩;rw[if_neg hj];exact Ow.grow sub u (fun _ z=>z) g3
  ·by_cases hj:j=i<;>by_cases hj':j'=i
   ·rw[hj,hj']
   ·rw[if_pos hj]at z;rw[if_neg hj']at z';exact absurd (.inl z) (P.env.dx j' a z')
   ·rw[if_neg hj]at z;rw[if_pos hj']at z';exact absurd (.inl z') (P.env.dx j a z)
   ·rw[if_neg hj]at z;rw[if_neg hj']at z';exact P.env.dj j j' a z z'
  ·by_cases hj:j=i
   ·rw[if_pos hj]at z;exact P.fx a z z2
   ·rw[if_neg hj]at z;exact P.env.dx j a z (.inr z2)
 ·rcases z with z|⟨j,z⟩
  ·exact z.elim
  ·by_cases hj:j=i
   ·rw[if_pos hj]at z;exact P.own a (.inl z)
   ·rw[if_neg hj]at z;exact P.own a (.inr ⟨j,z⟩)
 ·rw[zaO];intro z;subst z;exact hl hj
def y4(hi:i<ds1.length)(hl:i∉J.lk)(h:tFS K J ds (ds1.set i d) (au i f) D σ H):lZ (tF K p ds ds1 d f) (pC i) D σ H:=by
 obtain⟨Ox,en,R,fl,e,hf,k⟩:=h;unfold au at hf;obtain⟨⟨t,en1⟩,h1,hf⟩:=zab.mp hf;cases hf;exact⟨Ox,en,R,t,en1,e,h1,fun v H1 R1 F P o=>k _ H1 _ (PostS.store P o hi hl)⟩
abbrev MG:=PyData->En->Option En
def tFG(K:zbY)(lk:List Nat)(ds ds':List Nat)(g:MG):TG:=fun v σ H Q=>
 ∃Ox en R t en',EnvOk K ds Ox H σ en R/\Ow K (Own R Ox) H t 0 v NoA/\g t en=some en'/\∀σ' R',PostS K lk ds' Ox σ H R σ' en' H R' NoA->(∀j∈lk,R' j=R j)->Q σ' H
def iq(K:zbY)(lk:List Nat)(ds ds':List Nat)(g:List PyData->En->Option En):TGs:=fun vs σ H Q=>
 ∃Ox en R ts en',EnvOk K ds Ox H σ en R/\Ows K (Own R Ox) H ts 0 vs NoA/\g ts en=some en'/\∀σ' R',PostS K lk ds' Ox σ H R σ' en' H R' NoA->(∀j∈lk,R' j=R j)->Q σ' H
def gN(i:Nat):MG:=fun t en=>some (en.set i (some t))
def gs0:List PyData->En->Option En:=fun ts en=>match ts with
 |[]=>some en
 |_=>none
def gsC(g:MG)(r:List PyData->En->Option En):List PyData->En->Option En:=fun ts en=>match ts with
 |t::ts=>(g t en).bind fun en1=>r ts en1
 |[]=>none
def gT(g:List PyData->En->Option En):MG:=fun t en=>match t with
 |.tuple ts=>g ts en
 |_=>none
variable{g g1:MG}{gs:List PyData->En->Option En}{QS:St->Hp->Prop}
def Gu(hi:i<ds.length)(hl:i∉lk)(h:tFG K lk ds (ds.set i 0) (gN i) v σ H QS):pC i v σ H QS:=by
 obtain⟨Ox,en,R,t,en',e,o,hf,k⟩:=h;cases hf;exact k _ _ (PostS.store (p:=true) (Post.refl e) (by rw[show(fun _=>False:AS)=NoA from rfl,eP];exact o) hi hl) fun j hj=>if_neg (fun(z:j=i)=>hl (by rw[<-z];exact hj))
def Gq(h:iq K lk ds ds gs0 vs σ H QS):AY vs σ H QS:=by
 obtain⟨Ox,en,R,ts,en',e,o,hf,k⟩:=h;cases ts with
 |nil=>cases hf;exact⟨o,k σ R (PostS.refl e) fun _ _=>rfl⟩
 |cons t ts=>cases hf
def Bc(h:iq K lk ds ds2 (gsC g gs) vs σ H QS):xv (tFG K lk ds ds1 g) (iq K lk ds1 ds2 gs) vs σ H QS:=by
 obtain⟨Ox,en,R,ts,en',e,o,hf,k⟩:=h;cases ts with
 |nil=>cases hf
 |cons t ts=>
  obtain⟨en1,h1,h2⟩:=zaa.mp hf;obtain⟨v,r,F1,F2,e1,s1,s2,s3,o1,o2⟩:=o;refine⟨v,r,e1,Ox,en,R,t,en1,e,Ow.any0 t o1,h1,fun σ1 R1 P1 r1=>?_⟩;refine⟨Ox,en1,R1,ts,en',P1.env0,Ows.any0 ts (Ows.mv (G:=NoA) ⟨fun a o q _=>q,fun a z=>?_⟩ ts (F:=NoA) (fun _ z=>z) (Ows.any0 ts o2)),h2,fun σ2 R2 P2 r2=>k σ2 R2 (P1.after P2) fun j hj=>(r2 j hj).trans (r1 j hj)⟩;rcases z with z|z
  ·exact(P1.own a (.inr z)).imp .inl id
  ·exact .inl (.inr z)
def KO(hn:∀ts en,(∃en',gs ts en=some en')->ts.length=n)(h:tFG K lk ds ds1 (gT gs) v σ H QS):AX K n (iq K lk ds ds1 gs) v σ H QS:=by
 obtain⟨Ox,en,R,t,en',e,o,hf,k⟩:=h;cases t with
 |tuple ts=>
  have hf':gs ts en=some en':=hf;obtain⟨a,vs,e1,⟨_,h1,h2⟩|⟨z,_⟩⟩:=o
  ·refine⟨a,vs,e1,h1.sq,?_,Ox,en,R,ts,en',e,h2,hf',k⟩;rw[<-hn ts en ⟨en',hf'⟩]
   have:∀{ts:List PyData} {vs:List V} {F:AS},Ows K (Own R Ox) H ts 0 vs F->vs.length=ts.length:=fun {ts}=>by
    induction ts with
    |nil=>intro vs F h;rw[show vs=[]from h];rfl
    |cons t ts ih=>
     intro vs F h;obtain⟨v,r,F1,F2,e,h1,h2,h3,h4,h5⟩:=h;rw[e,zac,zac,ih h5]
   exact this h2
  ·exact absurd rfl z
 |_=>cases hf
abbrev MI:=En->Option (List PyData×En)
def lp(K:zbY)(O:AS)(H0:Hp)(J:It)(ts:List PyData):Prop:=
 ∀(i:Nat) (H:Hp) (O1:AS),(∀a o,H0 a=some o->¬O a->H a=some o)->(∀a,O1 a->O a\/H0 a=none)->(∀a,O1 a->∃o,H a=some o) ->
  (∀t,ts[i]?=some t->J.go i H/\∀x H1,J.yld i H x H1->(∀a o,H a=some o->H1 a=some o)/\Ow K O1 H1 t 0 x NoA)/\(ts.length=i->J.stop i H)
def tFI(K:zbY)(p:Bool)(ds ds':List Nat)(f:MI):TI:=fun σ H RJ=>
 ∃Ox en R ts en',EnvOk K ds Ox H σ en R/\f en=some (ts,en')/\∀J H' R',Post K p ds' Ox σ H en R en' H' R' NoA->lp K (Own R' Ox) H' J ts->RJ J H'
def cE(g:MG)(b:MS):List PyData->En->Option Fl
 |[],en=>some (.nx en)
 |t::ts,en=>(g t en).bind fun en1=>(b en1).bind fun fl=>match fl with
  |.nx en2=>cE g b ts en2
  |.ct en2=>cE g b ts en2
  |.rt r en2=>some (.rt r en2)
def bT(fi:MI)(g:MG)(b:MS):MS:=fun en=>(fi en).bind fun r=>cE g b r.1 r.2
def KA{fi:MI}(h:tFS K J ds ds1 (bT fi g m) D σ H):Ja (tFI K p ds ds1 fi) (tFG K J.lk ds1 ds2 g) (tFS K { J with dsl:=ds1 } ds2 ds1 m) D σ H:=by
 obtain⟨Ox,en,R,fl,e,hf,k⟩:=h;unfold bT at hf;obtain⟨⟨ts,en1⟩,h1,hf⟩:=zaa.mp hf;refine⟨Ox,en,R,ts,en1,e,h1,fun Jt H1 R1 P1 wk=>?_⟩;refine⟨fun i n σ' H'=>∃en' R',n=ts.length-i/\i<=ts.length/\PostS K J.lk ds1 Ox σ H1 R1 σ' en' H' R' NoA/\cE g m (ts.drop i) en'=some fl,⟨_,en1,R1,rfl,zbj _,PostS.refl P1.env0,hf⟩,?_⟩;rintro i n σ2 H2 ⟨en2,R2,rfl,hi,P2,hr⟩;obtain⟨w1,w2⟩:=wk i H2 (Own R2 Ox) (fun a o q z=>P2.keep a o q fun j zj=>z (.inl ⟨j,zj⟩)) (fun a z=>by
  rcases z with z|z
  ·exact(P2.own a (.inr z)).imp .inl id
  ·exact .inl (.inr z)) fun a z=>P2.env0.dom a z
 by_cases hlt:i<ts.length
 ·obtain⟨go,yl⟩:=w1 ts[i] (zak hlt);have hd:ts.drop i=ts[i]::ts.drop (i+1):=List.drop_eq_getElem_cons hlt;rw[hd]at hr;obtain⟨en3,h3,hr⟩:=zaa.mp hr;obtain⟨fl2,h4,hr⟩:=zaa.mp hr;refine .inr ⟨go,fun σ' H'=>∃en' R',PostS K J.lk ds1 Ox σ H1 R1 σ' en' H' R' NoA/\cE g m (ts.drop (i+1)) en'=some fl,fun σ' H' ⟨en',R',P',h'⟩=>⟨ts.length-(i+1),by omega,en',R',rfl,hlt,P',h'⟩,fun x H3 y=>?_⟩;obtain⟨gr,ox⟩:=yl x H3 y;have P3:Post K true ds1 Ox σ2 H2 en2 R2 en2 H3 R2 NoA:=Post.new P2.env0 gr fun _ z=>z.elim;refine⟨Ox,en2,R2,ts[i],en3,P3.env0,ox,h3,fun σ4 R4 P4 _=>?_⟩;have P4':=(P2.after P3.s).after P4;refine⟨Ox,en3,R4,fl2,P4.env0,h4,?_⟩;cases fl2 with
  |nx en5=>exact fun σ5 H5 R5 P5=>⟨en5,R5,P4'.after P5,hr⟩
  |ct en5=>exact fun σ5 H5 R5 P5=>⟨en5,R5,P4'.after P5,hr⟩
  |rt t en5=>
   cases hr;exact fun v σ5 H5 R5 F P5 o=>k v σ5 H5 R5 F (P1.s.after (P4'.after P5)) o
 ·have e2:i=ts.length:=by omega
  subst e2;rw[List.drop_length]at hr;cases hr;exact .inl ⟨w2 rfl,k σ2 H2 R2 (P1.s.after P2)⟩
def whN(c:MT)(b:MS):Nat->En->Option Fl
 |0,_=>none
 |n+1,en=>(c en).bind fun r=>if r.1 then(b r.2).bind fun fl=>match fl with
   |.nx en2=>whN c b n en2
   |.ct en2=>whN c b n en2
   |.rt t en2=>some (.rt t en2)
  else some (.nx r.2)
open Classical in
noncomputable def cP(c:MT)(b:MS):MS:=fun en=>if h:∃n fl,whN c b n en=some fl then some h.choose_spec.choose else none
def jN{b:MS}{fl:Fl}(h:cP c b en=some fl):∃n,whN c b n en=some fl:=by
 unfold cP at h;split at h
 ·next q=>
  cases h;exact⟨q.choose,q.choose_spec.choose_spec⟩
 ·cases h
def A1(h:tFS K J ds ds1 (cP c m) D σ H):ym (tFT K p ds ds1 c) (tFS K { J with dsl:=ds } ds1 ds m) D σ H:=by
 obtain⟨Ox,en,R,fl,e,hf,k⟩:=h;obtain⟨n0,hn⟩:=jN hf;refine⟨fun n σ' H'=>∃en' R',PostS K J.lk ds Ox σ H R σ' en' H' R' NoA/\whN c m n en'=some fl,⟨n0,en,R,PostS.refl e,hn⟩,?_⟩;rintro n σ2 H2 ⟨en2,R2,P2,hr⟩;cases n with
 |zero=>cases hr
 |succ n=>
  unfold whN at hr;obtain⟨⟨b,en3⟩,h3,hr⟩:=zaa.mp hr;refine⟨Ox,en2,R2,b,en3,P2.env0,h3,fun H3 R3 P3=>?_⟩;cases b with
  |false=>
   cases hr;rw[if_neg zbn];exact k σ2 H3 R3 (P2.after P3.s)
  |true=>
   rw[if_pos rfl]at hr ⊢;obtain⟨fl2,h4,hr⟩:=zaa.mp hr;refine⟨fun σ' H'=>∃en' R',PostS K J.lk ds Ox σ H R σ' en' H' R' NoA/\whN c m n en'=some fl,fun σ' H' q=>⟨n,zaJ _,q⟩,Ox,en3,R3,fl2,P3.env0,h4,?_⟩;have P3':=P2.after (P3.s (lk:=J.lk));cases fl2 with
   |nx en5=>exact fun σ5 H5 R5 P5=>⟨en5,R5,P3'.after P5,hr⟩
   |ct en5=>exact fun σ5 H5 R5 P5=>⟨en5,R5,P3'.after P5,hr⟩
   |rt t en5=>
    cases hr;exact fun v σ5 H5 R5 F P5 o=>k v σ5 H5 R5 F (P3'.after P5) o
end
variable{g1:MG}{fi:MI}
def lcF(g:MG)(c:MT)(f:ME):List D->List D->En->Option (List D×En)
 |[],acc,en=>some (acc,en)
 |t::ts,acc,en=>(g t en).bind fun en1=>(c en1).bind fun r=>if r.1 then(f r.2).bind fun q=>if acc.length<sizeLine then lcF g c f ts (acc++[q.1]) q.2 else none else lcF g c f ts acc r.2
def dq(js:List (Option Nat))(en:En):En:=js.map fun j=>match j with
 |some j=>(en[j]?).join
 |none=>none
def wbB:List (Option Nat)->En->En->En
 |some j::js,o::r,en=>wbB js r (en.set j o)
 |none::js,_::r,en=>wbB js r en
 |_,_,en=>en
def eLC(q:Bool)(fi:MI)(g:MG)(c:MT)(f:ME)(js:List (Option Nat)):ME:=fun en=>(fi en).bind fun r=>(lcF g c f r.1 [] (dq js r.2)).map fun z=>(.list z.1,if q then r.2 else wbB js z.2 r.2)
def jR(ds:List Nat):List (Option Nat)->List Nat->Bool
 |[],[]=>true
 |some j::js,d::r=>decide (ds[j]?=some d)&&(decide (some j∉js)&&jR ds js r)
 |none::js,_::r=>jR ds js r
 |_,_=>false
section
variable{c:MT}{g:MG}  
theorem oM:∀{js:List (Option Nat)} {dsi:List Nat},jR ds js dsi=true->dsi.length=js.length/\(∀(k j:Nat),js[k]?=some (some j)->∃d,dsi[k]?=some d/\ds[j]?=some d)/\(∀(k k' j:Nat),js[k]?=some (some j)->js[k']?=some (some j)->k=k')
 |[],[],_=>⟨rfl,fun k j z=>by simp at z,fun k k' j z=>by simp at z⟩
 |some j0::js,d::r,h=>by
  unfold jR at h;rw[zbm,zbm]at h;obtain⟨h1,h2,h3⟩:=h;obtain⟨a,b,c⟩:=oM h3;have n:=of_decide_eq_true h2;refine⟨by rw[zac,zac,a],fun k j z=>?_,fun k k' j z z'=>?_⟩
  ·cases k with
   |zero=>simp at z;subst z;exact⟨d,rfl,of_decide_eq_true h1⟩
   |succ k=>exact b k j (by simpa using z)
  ·cases k with
   |zero=>
    simp at z;subst z;cases k' with
    |zero=>rfl
    |succ k'=>exact absurd (zaX (by simpa using z':js[k']?=some (some j0))) n
   |succ k=>
    cases k' with
    |zero=>
     simp at z';subst z';exact absurd (zaX (by simpa using z:js[k]?=some (some j0))) n
    |succ k'=>rw[c k k' j (by simpa using z) (by simpa using z')]
 |none::js,d::r,h=>by
  unfold jR at h;obtain⟨a,b,c⟩:=oM h;refine⟨by rw[zac,zac,a],fun k j z=>?_,fun k k' j z z'=>?_⟩
  ·cases k with
   |zero=>simp at z
   |succ k=>exact b k j (by simpa using z)
  ·cases k with
   |zero=>simp at z
   |succ k=>
    cases k' with
    |zero=>simp at z'
    |succ k'=>rw[c k k' j (by simpa using z) (by simpa using z')]
 |[],_::_,h=>nomatch h
 |some _::_,[],h=>nomatch h
 |none::_,[],h=>nomatch h
theorem ql:∀(js:List (Option Nat)) (r en:En),(wbB js r en).length=en.length
 |[],_,_=>by unfold wbB;rfl
 |some _::_,[],_=>by unfold wbB;rfl
 |none::_,[],_=>by unfold wbB;rfl
 |some j::js,o::r,en=>by unfold wbB;rw[ql js r _,zaV]
 |none::js,o::r,en=>by unfold wbB;exact ql js r _
theorem mY:∀(js:List (Option Nat)) (r en:En) (i:Nat),(∀k:Nat,js[k]?≠some (some i))->(wbB js r en)[i]?=en[i]?
 |[],_,_,_,_=>by unfold wbB;rfl
 |some _::_,[],_,_,_=>by unfold wbB;rfl
 |none::_,[],_,_,_=>by unfold wbB;rfl
 |none::js,o::r,en,i,h=>by unfold wbB;exact mY js r en i fun j=>h (j+1)
 |some k::js,o::r,en,i,h=>by
  unfold wbB;rw[mY js r _ i fun j=>h (j+1),zaO];intro e;subst e;exact h 0 rfl
theorem sD:∀(js:List (Option Nat)) (r en:En) (i k:Nat),js[k]?=some (some i)->(∀k':Nat,js[k']?=some (some i)->k'=k)->r.length=js.length->i<en.length->(wbB js r en)[i]?=r[k]?
 |[],_,_,_,_,h,_,_,_=>by simp at h
 |some _::js,[],_,_,_,_,_,h,_=>by simp at h
 |none::js,[],_,_,_,_,_,h,_=>by simp at h
 |none::js,o::r,en,i,k,h,u,l,b=>by
  unfold wbB;cases k with
  |zero=>simp at h
  |succ k=>exact sD js r en i k (by simpa using h) (fun j' z=>by have:=u (j'+1) (by simpa using z);omega) (by simpa using l) b
 |some j::js,o::r,en,i,k,h,u,l,b=>by
  unfold wbB;cases k with
  |zero=>
   have e:j=i:=by simpa using h
   subst e;rw[mY js r _ j fun j' z=>by have:=u (j'+1) (by simpa using z);omega];rw[zaP b];rfl
  |succ k=>exact sD js r _ i k (by simpa using h) (fun j' z=>by have:=u (j'+1) (by simpa using z);omega) (by simpa using l) (by rw[zaV];exact b)
theorem Ows.snoc:∀{ts:List D} {vs:List V} {F1 F2:AS} {v:V},Ows K O H ts d vs F1->Ow K O H t d v F2->(∀b,F1 b->¬F2 b)->Ows K O H (ts++[t]) d (vs++[v]) (U F1 F2)
 |[],vs,F1,F2,v,h,h2,_=>by
  have e:vs=[]:=h;subst e;exact⟨v,[],F2,NoA,rfl,fun _ z=>.inr z,fun _ z=>z.elim,fun _ _ z=>z.elim,h2,rfl⟩
 |u::ts,vs,F1,F2,v,h,h2,hd=>by
  obtain⟨w,r,G1,G2,e,s1,s2,s3,h4,h5⟩:=h;subst e;refine⟨w,r++[v],G1,U G2 F2,rfl,fun b z=>.inl (s1 b z),fun b z=>z.imp (s2 b) id,fun b z z2=>?_,h4,Ows.snoc h5 h2 fun b z=>hd b (s2 b z)⟩;rcases z2 with z2|z2
  ·exact s3 b z z2
  ·exact hd b (s1 b z) z2
theorem Ows.len:∀{ts:List D} {vs:List V} {F:AS},Ows K O H ts d vs F->vs.length=ts.length
 |[],_,_,h=>by rw[show _=[]from h];rfl
 |t::ts,_,_,h=>by
  obtain⟨v,r,F1,F2,e,h1,h2,h3,h4,h5⟩:=h;rw[e,zac,zac,h5.len]
def jQ:List (Option Nat)->Nat->List Nat
 |[],_=>[]
 |some _::r,n=>n::jQ r (n+1)
 |none::r,n=>jQ r (n+1)
theorem kU:∀{js:List (Option Nat)} {n k j:Nat},js[k]?=some (some j)->n+k∈jQ js n
 |[],n,k,j,h=>by simp at h
 |some x::r,n,k,j,h=>by
  unfold jQ;cases k with
  |zero=>exact zaq
  |succ k=>
   refine zaj _ ?_
   have:=kU (n:=n+1) (k:=k) (j:=j) (by simpa using h);rw[show n+(k+1)=n+1+k by omega];exact this
 |none::r,n,k,j,h=>by
  unfold jQ;cases k with
  |zero=>simp at h
  |succ k=>
   have:=kU (n:=n+1) (k:=k) (j:=j) (by simpa using h);rw[show n+(k+1)=n+1+k by omega];exact this
def uI(js:List (Option Nat))(R1:Nat->AS):Nat->AS:=fun k=>match js[k]? with
 |some (some j)=>R1 j
 |_=>NoA
def GO(h:js[k]?=some (some j)):uI js R1 k=R1 j:=by unfold uI;rw[h]
def GN(h:uI js R1 k a):∃j,js[k]?=some (some j)/\R1 j a:=by
 unfold uI at h;cases q:js[k]? with
 |none=>rw[q]at h;exact h.elim
 |some o=>
  rw[q]at h;cases o with
  |none=>exact h.elim
  |some j=>exact⟨j,rfl,h⟩
def Lb(hc:jR ds1 js dsi=true)(hd:dn d=cd)(hz:d≠0)(hl:lk=jQ js 0)(h:tF K (p&&q) ds ds1 d (eLC q fi g c f js) σ H Q):
  tLC (tFI K p ds ds1 fi) (tFG K lk dsi dsi g) (tFT K q dsi dsi c) (tF K q dsi dsi cd f) js σ H Q:=by
 obtain⟨Ox,en,R,t,en',e,hf,k⟩:=h;unfold eLC at hf;obtain⟨⟨ts,en1⟩,h1,hf⟩:=zaa.mp hf;obtain⟨⟨fin,enf⟩,h2,hf⟩:=zab.mp hf;cases hf;obtain⟨cl,c1,c2⟩:=oM hc;refine⟨Ox,en,R,ts,en1,e,h1,fun J H1 R1 P1 wk D hD=>?_⟩;have E1:=P1.env0;generalize hRI:uI js R1=RI;have ri1:∀k j:Nat,js[k]?=some (some j)->RI k=R1 j:=fun k j z=>by rw[<-hRI];exact GO z
 have ric:∀(k:Nat) a,RI k a->∃j,js[k]?=some (some j)/\R1 j a:=fun k a z=>by rw[<-hRI]at z;exact GN z
 let OxI:AS:=fun a=>Ox a\/a=D\/∃i,R1 i a/\∀k:Nat,js[k]?≠some (some i);have nD:∀a,Own R1 Ox a->a≠D:=fun a z z2=>by
  subst z2;obtain⟨o,q⟩:=E1.dom a z;rw[hD]at q;cases q
 have lI:(dq js en1).length=js.length:=by unfold dq;rw[zad]
 have lS:(fG js σ).length=js.length:=by unfold fG;rw[zad]
 have getE:∀(k:Nat) t,(dq js en1)[k]?=some (some t)->∃j,js[k]?=some (some j)/\en1[j]?=some (some t):=fun k t z=>by
  unfold dq at z;rw[zao]at z;obtain⟨oj,h1,h2⟩:=zab.mp z;cases oj with
  |none=>cases h2
  |some j=>
   refine⟨j,h1,?_⟩;have h2':(en1[j]?).join=some t:=h2;cases q:en1[j]? with
   |none=>rw[q]at h2';cases h2'
   |some o=>rw[q]at h2';exact congrArg some h2'
 have getS:∀(k j:Nat) v,js[k]?=some (some j)->σ[j]?=some (some v)->(fG js σ)[k]?=some (some v):=fun k j v z1 z2=>by
  unfold fG;rw[zao,z1];show some ((σ[j]?).join)=_;rw[z2];rfl
 have u2:∀a o,H1 a=some o->upd H1 D (.lst []) a=some o:=fun a o q=>(cq (o:=.lst []) hD).1 a o q;have EI:EnvOk K dsi OxI (upd H1 D (.lst [])) (fG js σ) (dq js en1) RI:=by
  refine⟨fun k t hk=>?_,fun k k' a z z'=>?_,fun k a z z2=>?_,fun a z=>?_,by rw[lI,lS],by rw[cl,lS]⟩
  ·obtain⟨j,hj,ht⟩:=getE k t hk;obtain⟨v,d,g1,g2,g3⟩:=E1.at_ j t ht;obtain⟨d',q1,q2⟩:=c1 k j hj;rw[g2]at q2;cases q2;refine⟨v,d,getS k j v hj g1,q1,?_⟩;rw[ri1 k j hj];refine Ow.mv (G:=R1 j) ⟨fun a o q _=>u2 a o q,fun a z=>?_⟩ t (fun _ z=>z) g3;rcases z with⟨k',z⟩|z|z|⟨i,z,_⟩
   ·obtain⟨j',_,z⟩:=ric k' a z;exact .inl (.inl ⟨j',z⟩)
   ·exact .inl (.inr z)
   ·exact .inr (z▸hD)
   ·exact .inl (.inl ⟨i,z⟩)
  ·obtain⟨j,hj,z⟩:=ric k a z;obtain⟨j',hj',z'⟩:=ric k' a z'
   have:=E1.dj j j' a z z';subst this;exact c2 k k' j hj hj'
  ·obtain⟨j,hj,z⟩:=ric k a z;rcases z2 with z2|z2|⟨i,z2,n⟩
   ·exact E1.dx j a z z2
   ·exact nD a (.inl ⟨j,z⟩) z2
   ·have:=E1.dj j i a z z2;subst this;exact n k hj
  ·rcases z with⟨k,z⟩|z|z|⟨i,z,_⟩
   ·obtain⟨j,hj,z⟩:=ric k a z;obtain⟨o,q⟩:=E1.dom a (.inl ⟨j,z⟩);exact⟨o,u2 a o q⟩
   ·obtain⟨o,q⟩:=E1.dom a (.inr z);exact⟨o,u2 a o q⟩
   ·subst z;exact⟨_,aI⟩
   ·obtain⟨o,q⟩:=E1.dom a (.inl ⟨i,z⟩);exact⟨o,u2 a o q⟩
 refine⟨fun i n τ H'=>∃eni RI' acc vs Fa,n=ts.length-i/\i<=ts.length/\PostS K lk dsi OxI (fG js σ) H1 RI τ eni H' RI' Fa/\H' D=some (.lst vs)/\Ows K (Own RI' (U Fa OxI)) H' acc cd vs Fa/\lcF g c f (ts.drop i) acc eni=some (fin,enf) /\
   (q=true->(∀k j:Nat,js[k]?=some (some j)->RI' k=RI k)/\(∀a o,H1 a=some o->H' a=some o)),
  ⟨_,dq js en1,RI,[],[],NoA,rfl,zbj _,⟨by rw[eP];exact EI,fun _ z=>z.elim,fun a o q _=>u2 a o q,fun a z=>z.elim (fun z=>z.elim) .inl,fun a o q=>⟨o,u2 a o q⟩,fun _ _=>rfl⟩,aI,rfl,h2,fun _=>⟨fun _ _ _=>rfl,u2⟩⟩,?_⟩
 rintro i n τ H2 ⟨eni,RI2,acc,vs,Fa,rfl,hi,P2,hDl,oacc,hr,pu⟩;have dH:∀a,Own RI2 (U Fa OxI) a->Own R1 Ox a\/H1 a=none:=fun a z=>by
  rcases z with z|z|z|z|⟨i,z,_⟩
  ·rcases P2.own a (.inr z)with⟨k,z⟩|z
   ·obtain⟨j,_,z⟩:=ric k a z;exact .inl (.inl ⟨j,z⟩)
   ·exact .inr z
  ·rcases P2.own a (.inl z)with⟨k,z⟩|z
   ·obtain⟨j,_,z⟩:=ric k a z;exact .inl (.inl ⟨j,z⟩)
   ·exact .inr z
  ·exact .inl (.inr z)
  ·exact .inr (z▸hD)
  ·exact .inl (.inl ⟨i,z⟩)
 obtain⟨w1,w2⟩:=wk i H2 (Own RI2 (U Fa OxI)) (fun a o q z=>P2.keep a o q fun k zk=>by
  obtain⟨j,_,zj⟩:=ric k a zk;exact z (.inl ⟨j,zj⟩)) dH fun a z=>P2.env.dom a z
 have DO:OxI D:=.inr (.inl rfl);by_cases hlt:i<ts.length
 ·obtain⟨go,yl⟩:=w1 ts[i] (zak hlt);rw[List.drop_eq_getElem_cons hlt]at hr;obtain⟨en3,h3,hr⟩:=zaa.mp hr;obtain⟨⟨b,en4⟩,h4,hr⟩:=zaa.mp hr;refine .inr ⟨go,fun τ' H'=>∃eni RI' acc vs Fa,PostS K lk dsi OxI (fG js σ) H1 RI τ' eni H' RI' Fa/\H' D=some (.lst vs)/\Ows K (Own RI' (U Fa OxI)) H' acc cd vs Fa/\lcF g c f (ts.drop (i+1)) acc eni=some (fin,enf)/\(q=true->(∀k j:Nat,js[k]?=some (some j)->RI' k=RI k)/\(∀a o,H1 a=some o->H' a=some o)),
   fun τ' H' ⟨eni,RI',acc,vs,Fa,P',x1,x2,x3,x4⟩=>⟨_,by omega,eni,RI',acc,vs,Fa,rfl,hlt,P',x1,x2,x3,x4⟩,fun x H3 y=>?_⟩
  obtain⟨gr,ox⟩:=yl x H3 y;have P3:Post K true dsi (U Fa OxI) τ H2 eni RI2 eni H3 RI2 NoA:=Post.new P2.env gr fun _ z=>z.elim;have chain:∀{τ5 en5 H5 RI5 F5},PostS K lk dsi (U Fa OxI) τ H2 RI2 τ5 en5 H5 RI5 F5->PostS K lk dsi OxI (fG js σ) H1 RI τ5 en5 H5 RI5 (U Fa F5):=fun {τ5 en5 H5 RI5 F5} P5=>by
   have n1:∀a,H2 a=none->H1 a=none:=fun a z=>by
    cases q:H1 a with
    |none=>rfl
    |some o=>
     obtain⟨o',q'⟩:=P2.dom a o q;rw[z]at q';cases q'
   refine⟨pQ▸P5.env,fun a z z2=>?_,fun a o q n=>?_,fun a z=>?_,fun a o q=>?_,fun j hj=>(P5.lk j hj).trans (P2.lk j hj)⟩
   ·rcases z with z|z
    ·exact P2.fx a z z2
    ·exact P5.fx a z (.inr z2)
   ·refine P5.keep a o (P2.keep a o q n) fun i z=>?_;rcases P2.own a (.inr ⟨i,z⟩)with⟨j,z⟩|z
    ·exact n j z
    ·rw[q]at z;cases z
   ·rcases z with (z|z)|z
    ·exact P2.own a (.inl z)
    ·rcases P5.own a (.inl z)with z|z
     ·exact P2.own a (.inr z)
     ·exact .inr (n1 a z)
    ·rcases P5.own a (.inr z)with z|z
     ·exact P2.own a (.inr z)
     ·exact .inr (n1 a z)
   ·obtain⟨o',q'⟩:=P2.dom a o q;exact P5.dom a o' q'
  have carry:∀{τ5 en5 H5 RI5 F5},PostS K lk dsi (U Fa OxI) τ H2 RI2 τ5 en5 H5 RI5 F5->Ows K (Own RI5 (U (U Fa F5) OxI)) H5 acc cd vs Fa:=fun {τ5 en5 H5 RI5 F5} P5=>by
   refine Ows.mv (G:=Fa) ⟨fun a o q z=>P5.keep a o q fun i zi=>?_,fun a z=>?_⟩ acc (fun _ z=>z) oacc
   ·rcases z with z|z
    ·exact z (.inl ⟨i,zi⟩)
    ·exact P2.env.dx i a zi (.inl z)
   ·rcases z with z | (z|z)|z
    ·exact(P5.own a (.inr z)).imp .inl id
    ·exact .inl (.inr (.inl z))
    ·exact(P5.own a (.inl z)).imp .inl id
    ·exact .inl (.inr (.inr z))
  have UFN:U Fa NoA=Fa:=fH fun a=>⟨fun z=>z.elim id fun z=>z.elim,.inl⟩;refine⟨U Fa OxI,eni,RI2,ts[i],en3,P3.env0,ox,h3,fun τ4 R4 P4 r4=>?_⟩;have P4':=(P3.s (lk:=lk)).after P4;refine⟨U Fa OxI,en3,R4,b,en4,P4.env0,h4,fun H5 R5 P5=>?_⟩;have P5':=P4'.after (P5.s (lk:=lk));have pu5:q=true->(∀k j:Nat,js[k]?=some (some j)->R5 k=RI k)/\(∀a o,H1 a=some o->H5 a=some o):=fun hq=>by
   obtain⟨_,b2,b3⟩:=P5.pure hq;obtain⟨e1,e2⟩:=pu hq;refine⟨fun k j z=>?_,fun a o qq=>b3 a o (gr a o (e2 a o qq))⟩;rw[b2,r4 k (by rw[hl];have:=kU (n:=0) z;rw[za4]at this;exact this)];exact e1 k j z
  cases b with
  |false=>
   dsimp only
   rw[if_neg zbn];have c5:=chain P5';have o5:=carry P5';rw[UFN]at c5 o5;exact⟨en4,R5,acc,vs,Fa,c5,P5'.keep D _ hDl fun k z=>P2.env.dx k D z (.inr DO),o5,hr,pu5⟩
  |true=>
   dsimp only
   rw[if_pos rfl];obtain⟨⟨t6,en6⟩,h6,hr⟩:=zaa.mp (show((f en4).bind fun q=>if acc.length<sizeLine then lcF g c f (ts.drop (i+1)) (acc++[q.1]) q.2 else none)=some (fin,enf)from hr);refine⟨U Fa OxI,en4,R5,t6,en6,P5.env0,h6,fun v H6 R6 F6 P6 o6=>?_⟩;have P6':=P5'.after (P6.s (lk:=lk));by_cases ξ:acc.length<sizeLine
   case neg=>rw[if_neg ξ]at hr;cases hr
   rw[if_pos ξ]at hr;have hD6:=P6'.keep D _ hDl fun k z=>P2.env.dx k D z (.inr DO);refine⟨vs,hD6,by rw[oacc.len];exact ξ,en6,R6,acc++[t6],vs++[v],U Fa F6,?_,aI,?_,hr,?_⟩
   ·have c6:=chain P6';have keepD:∀a o,H6 a=some o->a≠D->upd H6 D (.lst (vs++[v])) a=some o:=fun a o q n=>by rw[aN n];exact q
    refine⟨⟨fun k t hk=>?_,c6.env.dj,c6.env.dx,fun a z=>?_,c6.env.l1,c6.env.l2⟩,c6.fx,fun a o q n=>?_,c6.own,fun a o q=>?_,c6.lk⟩
    ·obtain⟨v',d',g1,g2,g3⟩:=c6.env.at_ k t hk;refine⟨v',d',g1,g2,Ow.mv (G:=R6 k) ⟨fun a o q z=>keepD a o q fun zD=>?_,fun a z=>.inl z⟩ t (fun _ z=>z) g3⟩;subst zD;rcases z with z|z
     ·exact z (.inr (.inr DO))
     ·exact c6.env.dx k a z (.inr DO)
    ·by_cases ha:a=D
     ·subst ha;exact⟨_,aI⟩
     ·obtain⟨o,q⟩:=c6.env.dom a z;exact⟨o,keepD a o q ha⟩
    ·refine keepD a o (c6.keep a o q n) fun zD=>?_;subst zD;rw[hD]at q;cases q
    ·obtain⟨o',q'⟩:=c6.dom a o q;by_cases ha:a=D
     ·subst ha;exact⟨_,aI⟩
     ·exact⟨o',keepD a o' q' ha⟩
   ·have o1:=carry P6';have o2:Ow K (Own R6 (U (U Fa F6) OxI)) H6 t6 cd v F6:=pQ▸o6
    have:=Ows.snoc o1 o2 fun b z1 z2=>P6.fx b z2 (.inl z1);refine Ows.mv (G:=U Fa F6) ⟨fun a o q z=>?_,fun a z=>.inl z⟩ _ (fun _ z=>z) this;rw[aN]
    ·exact q
    ·intro zD;subst zD;rcases z with z|z|z
     ·exact z (.inr (.inr DO))
     ·exact P2.fx a z DO
     ·exact P6.fx a z (.inr DO)
   ·intro hq;obtain⟨_,b2,b3⟩:=P6.pure hq;obtain⟨e1,e2⟩:=pu5 hq;refine⟨fun k j z=>by rw[b2];exact e1 k j z,fun a o qq=>?_⟩;rw[aN]
    ·exact b3 a o (e2 a o qq)
    ·intro zD;subst zD;rw[hD]at qq;cases qq
 ·have e2:i=ts.length:=by omega
  subst e2;rw[List.drop_length]at hr;obtain⟨e3,e4⟩:acc=fin/\eni=enf:=by cases hr;exact⟨rfl,rfl⟩
  subst e3 e4;refine .inl ⟨w2 rfl,?_⟩;have fD:∀a,Fa a->a≠D:=fun a z z2=>by
   subst z2;exact P2.fx a z DO
  cases hq:q with
  |true=>
   obtain⟨e1,e2⟩:=pu hq;subst hq;have fn:∀a,Fa a->H1 a=none:=fun a z=>by
    rcases P2.own a (.inl z)with⟨k,z2⟩|z2
    ·obtain⟨j,hj,z3⟩:=ric k a z2;rw[<-e1 k j hj]at z2;exact absurd (.inl z) (P2.env.dx k a z2)
    ·exact z2
   have nt:NewTo H1 H2 (fun a=>a=D\/Fa a):=⟨e2,fun a z=>by
    rcases z with z|z
    ·subst z;exact⟨hD,_,hDl⟩
    ·exact⟨fn a z,P2.env.dom a (.inr (.inl z))⟩⟩
   have PF:=P1.fin nt;rw[zbW]at k;refine k (.ref D) H2 R1 _ PF ⟨D,vs,rfl,.inr ⟨hz,hDl,.inl rfl,Fa,fun b z=>⟨.inr z,fD b z⟩,?_⟩⟩;rw[hd];refine Ows.grow (fun a z=>?_) _ (fun _ z=>z) oacc;rcases z with⟨i,z⟩ | (z|z)|z
   ·by_cases hc2:∃kk:Nat,js[kk]?=some (some i)
    ·obtain⟨kk,hk⟩:=hc2;refine .inl ⟨kk,?_⟩;rw[e1 kk i hk,ri1 kk i hk];exact z
    ·exact .inr (.inr (.inr (.inr ⟨i,z,fun kk hk=>hc2 ⟨kk,hk⟩⟩)))
   ·exact .inr (.inr (z▸DO))
   ·exact .inr (.inl z)
   ·exact .inr (.inr (.inl z))
  |false=>
   subst hq;rw[zbX]at k
   classical
   let R3:Nat->AS:=fun i=>if hh:∃kk:Nat,js[kk]?=some (some i)then RI2 hh.choose else R1 i
   have r31:∀(i kk:Nat),js[kk]?=some (some i)->R3 i=RI2 kk:=fun i kk z=>by
    have hh:∃kk:Nat,js[kk]?=some (some i):=⟨kk,z⟩
    have:hh.choose=kk:=c2 _ _ i hh.choose_spec z;show(if hh:∃kk:Nat,js[kk]?=some (some i)then RI2 hh.choose else R1 i)=RI2 kk;rw[dif_pos hh,this]
   have r32:∀i:Nat,(∀kk:Nat,js[kk]?≠some (some i))->R3 i=R1 i:=fun i z=>by
    show(if hh:∃kk:Nat,js[kk]?=some (some i)then RI2 hh.choose else R1 i)=R1 i;rw[dif_neg fun⟨j,q⟩=>z j q]
   have r3c:∀(i:Nat) a,R3 i a->(∃kk:Nat,js[kk]?=some (some i)/\RI2 kk a)\/((∀kk:Nat,js[kk]?≠some (some i))/\R1 i a):=fun i a z=>by
    by_cases hh:∃kk:Nat,js[kk]?=some (some i)
    ·obtain⟨kk,hk⟩:=hh;rw[r31 i kk hk]at z;exact .inl ⟨kk,hk,z⟩
    ·rw[r32 i fun j z=>hh ⟨j,z⟩]at z;exact .inr ⟨fun j z=>hh ⟨j,z⟩,z⟩
   have gV:∀a,Own R3 (U (fun a=>a=D\/Fa a) Ox) a->Own RI2 (U Fa OxI) a:=fun a z=>by
    rcases z with⟨i,z⟩ | (z|z)|z
    ·rcases r3c i a z with⟨j,_,z⟩|⟨n,z⟩
     ·exact .inl ⟨j,z⟩
     ·exact .inr (.inr (.inr (.inr ⟨i,z,n⟩)))
    ·exact .inr (.inr (z▸DO))
    ·exact .inr (.inl z)
    ·exact .inr (.inr (.inl z))
   have el:eni.length=js.length:=by rw[P2.env.l1,<-P2.env.l2];exact cl
   have riO:∀(kk:Nat) a,RI kk a->Own R1 Ox a:=fun kk a z=>by
    obtain⟨j,_,z⟩:=ric kk a z;exact .inl ⟨j,z⟩
   have env3:EnvOk K ds1 (U (fun a=>a=D\/Fa a) Ox) H2 σ (wbB js eni en1) R3:=by
    refine⟨fun i u hu=>?_,fun i i' a z z'=>?_,fun i a z z2=>?_,fun a z=>P2.env.dom a (gV a z),by rw[ql];exact E1.l1,E1.l2⟩
    ·by_cases hh:∃kk:Nat,js[kk]?=some (some i)
     ·obtain⟨kk,hk⟩:=hh;obtain⟨dd,q1,q2⟩:=c1 kk i hk;have hil:i<en1.length:=by rw[E1.l1,<-E1.l2];exact(zah.mp q2).1
      rw[sD js eni en1 i kk hk (fun k' z=>c2 k' kk i z hk) el hil]at hu;obtain⟨v,d',g1,g2,g3⟩:=P2.env.at_ kk u hu;rw[q1]at g2;cases g2;have hlk:=P2.lk kk (by rw[hl];have:=kU (n:=0) hk;rw[za4]at this;exact this);rw[hlk]at g1;refine⟨v,dd,?_,q2,?_⟩
      ·unfold fG at g1;rw[zao,hk]at g1;have g1':(σ[i]?).join=some v:=zat g1;cases q3:σ[i]? with
       |none=>rw[q3]at g1';cases g1'
       |some o=>rw[q3]at g1';exact congrArg some g1'
      ·rw[r31 i kk hk];exact Ow.grow gV u (fun _ z=>z) g3
     ·rw[mY js eni en1 i fun j z=>hh ⟨j,z⟩]at hu;have ns:∀j:Nat,js[j]?≠some (some i):=fun j z=>hh ⟨j,z⟩;obtain⟨v,d',g1,g2,g3⟩:=E1.at_ i u hu;refine⟨v,d',g1,g2,?_⟩;rw[r32 i ns];refine Ow.mv (G:=R1 i) ⟨fun a o q z=>P2.keep a o q fun j zj=>?_,fun a z=>dH a (gV a z)⟩ u (fun _ z=>z) g3;obtain⟨j',hj',zj⟩:=ric j a zj;rcases z with z|z
      ·exact z (.inl ⟨j',zj⟩)
      ·have:=E1.dj i j' a z zj;subst this;exact ns j hj'
    ·rcases r3c i a z with⟨j,q,z⟩|⟨n,z⟩<;>rcases r3c i' a z' with⟨j',q',z'⟩|⟨n',z'⟩
     ·have:=P2.env.dj j j' a z z';subst this;rw[q]at q';cases q';rfl
     ·exact absurd (.inr (.inr (.inr ⟨i',z',n'⟩))) (P2.env.dx j a z)
     ·exact absurd (.inr (.inr (.inr ⟨i,z,n⟩))) (P2.env.dx j' a z')
     ·exact E1.dj i i' a z z'
    ·rcases r3c i a z with⟨j,q,z⟩|⟨n,z⟩
     ·refine P2.env.dx j a z ?_;rcases z2 with (z2|z2)|z2
      ·exact .inr (z2▸DO)
      ·exact .inl z2
      ·exact .inr (.inl z2)
     ·rcases z2 with (z2|z2)|z2
      ·exact nD a (.inl ⟨i,z⟩) z2
      ·exact P2.fx a z2 (.inr (.inr ⟨i,z,n⟩))
      ·exact E1.dx i a z z2
   have n1:∀a,H1 a=none->H a=none:=fun a z=>by
    cases q:H a with
    |none=>rfl
    |some o=>
     obtain⟨o',q'⟩:=P1.dom a o q;rw[z]at q';cases q'
   refine k (.ref D) H2 R3 (fun a=>a=D\/Fa a) ⟨env3,fun a z z2=>?_,fun a o q n=>?_,fun a z=>?_,fun a o q=>?_,fun z=>nomatch z⟩ ⟨D,vs,rfl,.inr ⟨hz,hDl,.inl rfl,Fa,fun b z=>⟨.inr z,fD b z⟩,?_⟩⟩
   ·rcases z with z|z
    ·exact nD a (.inr z2) z
    ·exact P2.fx a z (.inl z2)
   ·refine P2.keep a o (P1.keep a o q n) fun kk z=>?_;obtain⟨j,_,z⟩:=ric kk a z;rcases P1.own a (.inr ⟨j,z⟩)with⟨i',z⟩|z
    ·exact n i' z
    ·rw[q]at z;cases z
   ·have h3:(∃i,R1 i a)\/H1 a=none:=by
     have h4:(Fa a\/∃kk,RI2 kk a)->(∃i,R1 i a)\/H1 a=none:=fun z=>by
      rcases P2.own a z with⟨kk,z⟩|z
      ·obtain⟨j,_,z⟩:=ric kk a z;exact .inl ⟨j,z⟩
      ·exact .inr z
     rcases z with (z|z)|⟨i,z⟩
     ·exact .inr (z▸hD)
     ·exact h4 (.inl z)
     ·rcases r3c i a z with⟨j,_,z⟩|⟨n,z⟩
      ·exact h4 (.inr ⟨j,z⟩)
      ·exact .inl ⟨i,z⟩
    rcases h3 with h3|h3
    ·exact P1.own a (.inr h3)
    ·exact .inr (n1 a h3)
   ·obtain⟨o',q'⟩:=P1.dom a o q;exact P2.dom a o' q'
   ·rw[hd];exact Ows.grow gV _ (fun _ z=>z) oacc
end
def msk:List Nat->En->En
 |d::ds,o::en=>(if d=0 then none else o)::msk ds en
 |_,_=>[]
def fnF(n:Nat)(dps:List Nat)(b:MS):List PyData->Option (PyData×En):=fun ts=>(b (ts.map some++List.replicate n none)).bind fun fl=>match fl with
 |.rt t en=>some (t,msk dps en)
 |.nx en=>some (.none,msk dps en)
 |.ct _=>none
def qE(dps:List Nat):List Nat:=(List.range dps.length).filter fun j=>dps[j]? != some 0
section
variable{t t1 t2:PyData}{D:Ends}
theorem vY:∀{dps:List Nat} {en:En} {j:Nat} {u:PyData},(msk dps en)[j]?=some (some u)->∃d,dps[j]?=some d/\d≠0/\en[j]?=some (some u)
 |[],en,j,u,h=>by unfold msk at h;simp at h
 |d::ds,[],j,u,h=>by unfold msk at h;simp at h
 |d::ds,o::en,j,u,h=>by
  unfold msk at h;cases j with
  |zero=>
   by_cases hd:d=0
   ·simp[hd]at h
   ·refine⟨d,rfl,hd,?_⟩;simpa[hd]using h
  |succ j=>
   have:=vY (dps:=ds) (en:=en) (j:=j) (u:=u) (by simpa using h);simpa using this
theorem vX:∀{dps:List Nat} {en:En},dps.length<=en.length->(msk dps en).length=dps.length
 |[],en,_=>by unfold msk;rfl
 |d::ds,[],h=>by simp at h
 |d::ds,o::en,h=>by
  unfold msk;rw[zac,zac,vX (by simpa using h)]
def Gi{E:XK}{b:MS}(hn:N.length-dps.length=n)(h:spF K dps dr (fnF n dps b) vs H Q E):
  tFS K ⟨qE dps,dps++List.replicate n 0,dr,[]⟩ (dps++List.replicate n 0) (dps++List.replicate n 0) b { nx:=fun _ H'=>Q .non H',rt:=Q } (start N vs) H:=by
 obtain⟨Ox,ts,R,r,ψ,e,hf,k⟩:=h;have lv:dps.length=vs.length:=by have:=e.l2;rw[zad]at this;exact this
 have lt:ts.length=vs.length:=by have:=e.l1;rw[zad,zad]at this;exact this
 have hs:start N vs=vs.map some++List.replicate n none:=by unfold start;rw[<-lv,hn]
 unfold fnF at hf;obtain⟨fl,h1,hf⟩:=zaa.mp hf;have get0:∀{α:Type} (xs:List α) (i:Nat) (u:α),(xs.map some++List.replicate n none)[i]?=some (some u)->(xs.map some)[i]?=some (some u)/\i<xs.length:=fun xs i u z=>by
  by_cases hi:i<xs.length
  ·rw[zaS (by rw[zad];exact hi)]at z;exact⟨z,hi⟩
  ·rw[zbI (by rw[zad];omega),List.getElem?_replicate]at z;split at z
   ·cases z
   ·cases z
 have e0:EnvOk K (dps++List.replicate n 0) Ox H (start N vs) (ts.map some++List.replicate n none) R:=by
  rw[hs];refine⟨fun i u hu=>?_,e.dj,e.dx,e.dom,by simp[lt],by simp[lv]⟩;obtain⟨hu',hi⟩:=get0 ts i u hu;obtain⟨v,d,g1,g2,g3⟩:=e.at_ i u hu';refine⟨v,d,?_,?_,g3⟩
  ·rw[zaS (by rw[zad];omega)];exact g1
  ·rw[zaS (by omega)];exact g2
 have back:∀{σ' en' H' R' F},PostS K (qE dps) (dps++List.replicate n 0) Ox (start N vs) H R σ' en' H' R' F->Post K false dps Ox (vs.map some) H (ts.map some) R (msk dps en') H' R' F:=fun {σ' en' H' R' F} P=>by
  have l1:=P.env.l1;have l2:=P.env.l2;rw[zae,zaN]at l2;refine⟨⟨fun j u hu=>?_,P.env.dj,P.env.dx,P.env.dom,by rw[vX (by omega),zad];exact lv,by rw[zad];exact lv⟩,P.fx,P.keep,P.own,P.dom,fun z=>nomatch z⟩;obtain⟨d,a1,a2,a3⟩:=vY hu;obtain⟨v,d',g1,g2,g3⟩:=P.env.at_ j u a3;have hj:j<dps.length:=(zah.mp a1).1;have hlk:j∈qE dps:=by
   unfold qE;rw[zbD,zbr];refine⟨hj,?_⟩;rw[a1];simpa using a2
  rw[P.lk j hlk,hs,zaS (by rw[zad];omega)]at g1;rw[zaS hj]at g2;exact⟨v,d',g1,g2,g3⟩
 refine⟨Ox,_,R,fl,e0,h1,?_⟩;cases fl with
 |nx en2=>
  cases hf;exact fun σ2 H2 R2 P2=>k .non H2 R2 NoA (back P2) rfl
 |ct en2=>cases hf
 |rt t en2=>
  cases hf;exact fun v σ2 H2 R2 F P2 o=>k v H2 R2 F (back P2) o
def Post.slot{F:AS}{o2:HO}(P:Post K p ds1 Ox σ H en R en1 H1 R1 F)(hl:R1 i l)(hi:i<en1.length)(hv:σ[i]?=some (some v))(hd:ds1[i]?=some d)
  (hg:∀a,G a->R1 i a\/F a) (hf:∀a,F' a->R1 i a\/F a) (hx:∀a,G a->¬F' a)
  (ho:Ow K (Own (fun j=>if j=i then G else R1 j) (U F' Ox)) (upd H1 l o2) t d v G):
  Post K false ds1 Ox σ H en R (en1.set i (some t)) (upd H1 l o2) (fun j=>if j=i then G else R1 j) F':=by
 have rc:∀(j:Nat) a,(if j=i then G else R1 j) a->R1 j a\/(j=i/\F a):=fun j a z=>by
  by_cases hj:j=i
  ·rw[if_pos hj]at z;rcases hg a z with z|z
   ·exact .inl (hj▸z)
   ·exact .inr ⟨hj,z⟩
  ·rw[if_neg hj]at z;exact .inl z
 have sub:∀a,Own (fun j=>if j=i then G else R1 j) (U F' Ox) a->Own R1 (U F Ox) a:=fun a z=>by
  rcases z with⟨j,z⟩|z|z
  ·rcases rc j a z with z|⟨_,z⟩
   ·exact .inl ⟨j,z⟩
   ·exact .inr (.inl z)
  ·rcases hf a z with z|z
   ·exact .inl ⟨i,z⟩
   ·exact .inr (.inl z)
  ·exact .inr (.inr z)
 have dom2:∀a o,H1 a=some o->∃o',upd H1 l o2 a=some o':=fun a o q=>by
  by_cases ha:a=l
  ·subst ha;exact⟨_,aI⟩
  ·exact⟨o,by rw[aN ha];exact q⟩
 have nl:∀a o,H1 a=some o->a≠l->upd H1 l o2 a=some o:=fun a o q n=>by rw[aN n];exact q
 refine⟨⟨fun j u hu=>?_,fun j j' a z z'=>?_,fun j a z z2=>?_,fun a z=>?_,by rw[zaV];exact P.env.l1,P.env.l2⟩,fun a z z2=>?_,fun a o q n=>?_,fun a z=>?_,fun a o q=>?_,fun z=>nomatch z⟩
 ·by_cases hj:j=i
  ·subst hj;rw[zaP hi]at hu;cases hu;refine⟨v,d,hv,hd,?_⟩;rw[if_pos rfl];exact ho
  ·rw[zaO (Ne.symm hj)]at hu;obtain⟨v',d',g1,g2,g3⟩:=P.env.at_ j u hu;refine⟨v',d',g1,g2,?_⟩;rw[if_neg hj];refine Ow.mv (G:=R1 j) ⟨fun a o q z=>nl a o q fun za=>?_,fun a z=>.inl (sub a z)⟩ u (fun _ z=>z) g3;subst za;rcases z with z|z
   ·exact z (.inl ⟨i,hl⟩)
   ·exact hj (P.env.dj j i a z hl)
 ·have z0:=z;have z0':=z';by_cases hj:j=i<;>by_cases hj':j'=i
  ·rw[hj,hj']
  ·rw[if_pos hj]at z0;rw[if_neg hj']at z0';rcases hg a z0 with z1|z1
   ·exact absurd (P.env.dj i j' a z1 z0') (fun e=>hj' e.symm)
   ·exact absurd (.inl z1) (P.env.dx j' a z0')
  ·rw[if_neg hj]at z0;rw[if_pos hj']at z0';rcases hg a z0' with z1|z1
   ·exact absurd (P.env.dj j i a z0 z1) hj
   ·exact absurd (.inl z1) (P.env.dx j a z0)
  ·rw[if_neg hj]at z0;rw[if_neg hj']at z0';exact P.env.dj j j' a z0 z0'
 ·have z0:=z;by_cases hj:j=i
  ·rw[if_pos hj]at z0;rcases z2 with z2|z2
   ·exact hx a z0 z2
   ·rcases hg a z0 with z1|z1
    ·exact P.env.dx i a z1 (.inr z2)
    ·exact P.fx a z1 z2
  ·rw[if_neg hj]at z0;rcases z2 with z2|z2
   ·rcases hf a z2 with z1|z1
    ·exact hj (P.env.dj j i a z0 z1)
    ·exact P.env.dx j a z0 (.inl z1)
   ·exact P.env.dx j a z0 (.inr z2)
 ·obtain⟨o,q⟩:=P.env.dom a (sub a z);exact dom2 a o q
 ·rcases hf a z with z1|z1
  ·exact P.env.dx i a z1 (.inr z2)
  ·exact P.fx a z1 z2
 ·refine nl a o (P.keep a o q n) fun za=>?_;subst za;rcases P.own a (.inr ⟨i,hl⟩)with⟨j,z⟩|z
  ·exact n j z
  ·rw[q]at z;cases z
 ·have:F a\/∃j,R1 j a:=by
   rcases z with z|⟨j,z⟩
   ·rcases hf a z with z|z
    ·exact .inr ⟨i,z⟩
    ·exact .inl z
   ·rcases rc j a z with z|⟨_,z⟩
    ·exact .inr ⟨j,z⟩
    ·exact .inl z
  exact P.own a this
 ·obtain⟨o',q'⟩:=P.dom a o q;exact dom2 a o' q'
def kz{F:AS}(hg:∀a,G a->R1 i a\/F a)(hf:∀a,F' a->R1 i a\/F a):∀a,Own (fun j=>if j=i then G else R1 j) (U F' Ox) a->Own R1 (U F Ox) a:=fun a z=>by
 rcases z with⟨j,z⟩|z|z
 ·by_cases hj:j=i
  ·rw[if_pos hj]at z;rcases hg a z with z|z
   ·exact .inl ⟨i,z⟩
   ·exact .inr (.inl z)
  ·rw[if_neg hj]at z;exact .inl ⟨j,z⟩
 ·rcases hf a z with z|z
  ·exact .inl ⟨i,z⟩
  ·exact .inr (.inl z)
 ·exact .inr (.inr z)
def be{α:Type}{en:List (Option α)}{t:α}(h:(en[i]?).join=some t):en[i]?=some (some t):=by
 cases q:en[i]? with
 |none=>rw[q]at h;cases h
 |some o=>rw[q]at h;exact congrArg some h
def Ow.sqL{ts:List PyData}{F:AS}(h:Ow K O H (.list ts) d v F):∃a vs,v=.ref a/\SqL K H a vs:=by
 obtain⟨a,vs,e,⟨_,h1,_⟩|⟨_,h1,_⟩⟩:=h
 ·exact⟨a,vs,e,h1.sq⟩
 ·exact⟨a,vs,e,SqL.of h1⟩
def Ow.ownL{ts:List PyData}{F:AS}(hd:d≠0)(h:Ow K O H (.list ts) d v F):∃a vs,v=.ref a/\H a=some (.lst vs)/\F a/\∃F':AS,(∀b,F' b->F b/\b≠a)/\Ows K O H ts (dn d) vs F':=by
 obtain⟨a,vs,e,⟨h0,_⟩|⟨_,h1,h2,h3⟩⟩:=h
 ·exact absurd h0 hd
 ·exact⟨a,vs,e,h1,h2,h3⟩
def Ows.past{ts:List PyData}{F:AS}(ho:∀a,O' a->O a)(hl:O l)(hf:∀b,F b->b≠l)(h:Ows K O H ts d vs F):Ows K O' (upd H l o) ts d vs F:=
 Ows.mv (G:=F) ⟨fun a u q z=>by
  rw[aN]
  ·exact q
  ·intro za;subst za;rcases z with z|z
   ·exact z hl
   ·exact hf a z rfl,fun a z=>.inl (ho a z)⟩ ts (fun _ z=>z) h
def Ow.past{F:AS}(ho:∀a,O' a->O a)(hl:O l)(hf:∀b,F b->b≠l)(h:Ow K O H t d v F):Ow K O' (upd H l o) t d v F:=
 Ow.mv (G:=F) ⟨fun a u q z=>by
  rw[aN]
  ·exact q
  ·intro za;subst za;rcases z with z|z
   ·exact z hl
   ·exact hf a z rfl,fun a z=>.inl (ho a z)⟩ t (fun _ z=>z) h
def cF(i:Nat)(f:ME):ME:=fun en=>match (en[i]?).join with
 |some (.list _)=>(f en).bind fun r=>match (r.2[i]?).join with
  |some (.list ts)=>if ts.length<sizeLine then some (.none,r.2.set i (some (.list (ts++[r.1]))))else none
  |_=>none
 |_=>none
def MH(hd:ds1[i]?=some d)(hz:d≠0)(hc:dn d=c)(h:tF K false ds ds1 3 (cF i f) σ H Q):tBM K "list" vQ (fY i) (sg (tF K p ds ds1 c f) Ak) σ H Q:=by
 obtain⟨Ox,en,R,t,en',e,hf,k⟩:=h;unfold cF at hf;split at hf
 case h_2=>cases hf
 next ts0 h0=>
 obtain⟨⟨t1,en1⟩,h1,hf⟩:=zaa.mp hf
 dsimp only at hf
 split at hf
 case h_2=>cases hf
 next ts h2=>
 by_cases ξ:ts.length<sizeLine
 case neg=>rw[if_neg ξ]at hf;cases hf
 rw[if_pos ξ]at hf;cases hf;obtain⟨v,d0,a1,_,a3⟩:=e.at_ i _ (be h0);obtain⟨l0,vs0,e0,sq⟩:=a3.sqL;refine⟨v,a1,?_,Ox,en,R,t1,en1,e,h1,fun x H1 R1 F P o=>?_⟩
 ·rw[e0];exact .inl ⟨rfl,vs0,sq⟩
 obtain⟨v',d',b1,b2,b3⟩:=P.env.at_ i _ (be h2);rw[a1]at b1;cases b1;rw[hd]at b2;cases b2;obtain⟨l,vs,el,hl,hr,F',hf',ow⟩:=b3.ownL hz;refine⟨l,vs,x,el,rfl,hl,by rw[ow.len];exact ξ,?_⟩;have hi:i<en1.length:=(zah.mp (be h2)).1;have Fn:∀a,F a->a≠l:=fun a z z2=>by
  subst z2;exact P.env.dx i a hr (.inl z)
 have sub:=kz (i:=i) (R1:=R1) (Ox:=Ox) (G:=fun a=>R1 i a\/F a) (F':=NoA) (F:=F) (fun _ z=>z) (fun _ z=>z.elim);have Ol:Own R1 (U F Ox) l:=.inl ⟨i,hr⟩;refine k .non (upd H1 l (.lst (vs++[x]))) _ NoA (P.slot (G:=fun a=>R1 i a\/F a) hr hi a1 hd (fun _ z=>z) (fun _ z=>z.elim) (fun _ _ z=>z) ?_) rfl;refine⟨l,vs++[x],el,.inr ⟨hz,aI,.inl hr,U F' F,fun b z=>?_,?_⟩⟩
 ·rcases z with z|z
  ·exact⟨.inl (hf' b z).1,(hf' b z).2⟩
  ·exact⟨.inr z,Fn b z⟩
 ·refine Ows.snoc (Ows.past sub Ol (fun b z=>(hf' b z).2) ow) ?_ fun b z1 z2=>P.env.dx i b (hf' b z1).1 (.inl z2);rw[hc];exact Ow.past sub Ol Fn o
theorem Ows.out:∀{ts:List PyData} {vs:List V} {F:AS} {k:Nat} {t:PyData},Ows K O H ts d vs F->ts[k]?=some t ->
  ∃v,∃F1 F2:AS,vs[k]?=some v/\(∀b,F1 b->F b)/\(∀b,F2 b->F b)/\(∀b,F1 b->¬F2 b)/\Ow K O H t d v F1/\Ows K O H (ts.eraseIdx k) d (vs.eraseIdx k) F2
 |[],_,_,k,t,_,h=>by simp at h
 |u::ts,_,F,k,t,h,hk=>by
  obtain⟨v,r,F1,F2,e,s1,s2,s3,h4,h5⟩:=h;subst e;cases k with
  |zero=>
   have:u=t:=by simpa using hk
   subst this;exact⟨v,F1,F2,rfl,s1,s2,s3,h4,h5⟩
  |succ k=>
   obtain⟨w,G1,G2,g1,g2,g3,g4,g5,g6⟩:=Ows.out (k:=k) h5 (by simpa using hk);refine⟨w,G1,U F1 G2,by simpa using g1,fun b z=>s2 b (g2 b z),fun b z=>z.elim (s1 b) fun z=>s2 b (g3 b z),fun b z z2=>?_,g5,v,r.eraseIdx k,F1,G2,rfl,fun b=>.inl,fun b=>.inr,fun b z1 z2=>s3 b z1 (g3 b z2),h4,g6⟩;rcases z2 with z2|z2
   ·exact s3 b z2 (g2 b z)
   ·exact g4 b z z2
def NQ(i:Nat)(f:ME):ME:=fun en=>match (en[i]?).join with
 |some (.list _)=>(f en).bind fun r=>match r.1,(r.2[i]?).join with
  |.int n,some (.list ts)=>if -(2 ^ 63)<=n/\n<2 ^ 63 then(seqIndex? n ts.length).bind fun k=>(ts[k]?).map fun t=>(t,r.2.set i (some (.list (ts.eraseIdx k))))else none
  |_,_=>none
 |_=>none
theorem Ows.rev:∀{ts:List PyData} {vs:List V} {F:AS},Ows K O H ts d vs F->Ows K O H ts.reverse d vs.reverse F
 |[],_,_,h=>by rw[show _=[]from h];rfl
 |t::ts,_,F,h=>by
  obtain⟨v,r,F1,F2,e,s1,s2,s3,h4,h5⟩:=h;subst e;rw[List.reverse_cons,List.reverse_cons];exact Ows.grow (fun _ z=>z) _ (fun b z=>z.elim (s2 b) (s1 b)) (Ows.snoc h5.rev h4 fun b z1 z2=>s3 b z2 z1)
theorem Ows.setAt:∀{ts:List PyData} {vs:List V} {F F2:AS} {k:Nat} {t:PyData} {v:V},Ows K O H ts d vs F->Ow K O H t d v F2->(∀b,F b->¬F2 b)->Ows K O H (ts.set k t) d (vs.set k v) (U F F2)
 |[],_,_,_,_,_,_,h,_,_=>by rw[show _=[]from h];rfl
 |u::ts,_,F,F2,k,t,v,h,h2,hd=>by
  obtain⟨w,r,G1,G2,e,s1,s2,s3,h4,h5⟩:=h;subst e;cases k with
  |zero=>exact⟨v,r,F2,G2,rfl,fun _ z=>.inr z,fun b z=>.inl (s2 b z),fun b z z2=>hd b (s2 b z2) z,h2,h5⟩
  |succ k=>
   refine⟨w,r.set k v,G1,U G2 F2,rfl,fun b z=>.inl (s1 b z),fun b z=>z.imp (s2 b) id,fun b z z2=>?_,h4,Ows.setAt h5 h2 fun b z=>hd b (s2 b z)⟩;rcases z2 with z2|z2
   ·exact s3 b z z2
   ·exact hd b (s1 b z) z2
def eX(i:Nat)(fk fe:ME):MS:=fun en=>(fe en).bind fun r=>match (r.2[i]?).join with
 |some _=>(fk r.2).bind fun q=>match q.1,(q.2[i]?).join with
  |.int n,some (.list ts)=>(ixN ts.length n).map fun k=>.nx (q.2.set i (some (.list (ts.set k r.1))))
  |_,_=>none
 |none=>none
def FT(hd:ds2[i]?=some d)(hz:d≠0)(hc:dn d=c)(h:tFS K J ds ds2 (eX i fk fe) D σ H):
  lZ (tF K p1 ds ds1 c fe) (xu (fY i) (tF K p2 ds1 ds2 d2 fk) sn) D σ H:=by
 obtain⟨Ox,en,R,fl,e,hf,k⟩:=h;unfold eX at hf;obtain⟨⟨t1,en1⟩,h1,hf⟩:=zaa.mp hf
 dsimp only at hf
 split at hf
 case h_2=>cases hf
 next tt h0=>
 obtain⟨⟨t2,en2⟩,h2,hf⟩:=zaa.mp hf
 dsimp only at hf
 split at hf
 case h_2=>cases hf
 next n ts h3=>
 obtain⟨kk,h4,hf⟩:=zab.mp hf;cases hf;refine⟨Ox,en,R,t1,en1,e,h1,fun x H1 R1 F1 P1 o1=>?_⟩;obtain⟨v0,d0,a1,_,_⟩:=P1.env.at_ i tt (be h0);refine⟨v0,a1,?_⟩;refine⟨U F1 Ox,en1,R1,.int n,en2,P1.env,h2,fun y H2 R2 F2 P2 o2=>?_⟩;have P:=P1.trans P2;have o1':=Ow.over P1.env P2 o1;obtain⟨v',d',b1,b2,b3⟩:=P.env.at_ i _ (be h3);rw[a1]at b1;cases b1;rw[hd]at b2;cases b2;obtain⟨l,vs,el,hl,hr,F',hf',ow⟩:=b3.ownL hz;refine⟨l,vs,n,kk,el,o2,hl,by rw[ow.len];exact h4,?_⟩;have hi:i<en2.length:=(zah.mp (be h3)).1;have Fn:∀a,F1 a->a≠l:=fun a z z2=>by
  subst z2;exact P.env.dx i a hr (.inl (.inl z))
 have gG:∀a,(fun a=>R2 i a\/F1 a) a->R2 i a\/U F1 F2 a:=fun a z=>z.imp id .inl;have sub:=kz (i:=i) (R1:=R2) (Ox:=Ox) (G:=fun a=>R2 i a\/F1 a) (F':=NoA) (F:=U F1 F2) gG (fun _ z=>z.elim);have Ol:Own R2 (U (U F1 F2) Ox) l:=.inl ⟨i,hr⟩;have PS:=P.slot (G:=fun a=>R2 i a\/F1 a) (F':=NoA) (o2:=.lst (vs.set kk x)) (t:=.list (ts.set kk t1)) hr hi a1 hd gG (fun _ z=>z.elim) (fun _ _ z=>z) ?_
 ·exact k σ _ _ PS.s
 refine⟨l,vs.set kk x,el,.inr ⟨hz,aI,.inl hr,U F' F1,fun b z=>?_,?_⟩⟩
 ·rcases z with z|z
  ·exact⟨.inl (hf' b z).1,(hf' b z).2⟩
  ·exact⟨.inr z,Fn b z⟩
 ·refine Ows.setAt (Ows.past sub Ol (fun b z=>(hf' b z).2) ow) ?_ fun b z1 z2=>P.env.dx i b (hf' b z1).1 (.inl (.inl z2));rw[hc];exact Ow.past sub Ol Fn o1'
theorem Ows.get:∀{ts:List PyData} {vs:List V} {F:AS} {k:Nat} {t:PyData},Ows K O H ts d vs F->ts[k]?=some t->∃v,vs[k]?=some v/\Ow K O H t d v F
 |[],_,_,k,t,_,h=>by simp at h
 |u::ts,_,F,k,t,h,hk=>by
  obtain⟨v,r,F1,F2,e,s1,s2,s3,h4,h5⟩:=h;subst e;cases k with
  |zero=>
   have:u=t:=by simpa using hk
   subst this;exact⟨v,rfl,Ow.grow (fun _ z=>z) u s1 h4⟩
  |succ k=>
   obtain⟨w,g1,g2⟩:=Ows.get (k:=k) h5 (by simpa using hk);exact⟨w,by simpa using g1,Ow.grow (fun _ z=>z) t s2 g2⟩
def Ows.atI{ts:List PyData}{vs:List V}{F:AS}{n:Int}{t:PyData}(h:Ows K O H ts d vs F)(ht:L2.atI ts n=some t):∃v,L2.atI vs n=some v/\Ow K O H t d v F:=by
 unfold L2.atI at ht ⊢;rw[h.len];obtain⟨k,h1,h2⟩:=zaa.mp ht;obtain⟨v,g1,g2⟩:=h.get h2;exact⟨v,by rw[h1];exact g1,g2⟩
def fj(i:Nat)(f:ME):ME:=fun en=>(en[i]?).join.bind fun _=>(f en).bind fun r=>match r.1,(r.2[i]?).join with
 |.int n,some (.list ts)=>(atI ts n).map fun t=>(t,r.2)
 |_,_=>none
def MD(hd:ds1[i]?=some 1)(h:tF K p ds ds1 0 (fj i f) σ H Q):tOp (wQ K) (fY i) (tF K p ds ds1 d1 f) σ H Q:=by
 obtain⟨Ox,en,R,t,en',e,hf,k⟩:=h;unfold fj at hf;obtain⟨t0,h0,hf⟩:=zaa.mp hf;obtain⟨⟨t1,en1⟩,h1,hf⟩:=zaa.mp hf
 dsimp only at hf
 split at hf
 case h_2=>cases hf
 next n ts h2=>
 obtain⟨t',h3,hf⟩:=zab.mp hf;cases hf;obtain⟨v,d0,a1,_,a3⟩:=e.at_ i _ (be h0);refine⟨v,a1,Ox,en,R,.int n,_,e,h1,fun x H1 R1 F P o=>?_⟩;obtain⟨v',d',b1,b2,b3⟩:=P.env.at_ i _ (be h2);rw[a1]at b1;cases b1;rw[hd]at b2;cases b2;obtain⟨l,vs,el,hl,hr,F',hf',ow⟩:=b3.ownL (by decide);obtain⟨w,g1,g2⟩:=ow.atI h3;refine⟨l,vs,n,w,el,o,SqL.of hl,g1,k w H1 R1 NoA (P.less fun _ z=>z.elim) ?_⟩;exact Ow.any0 _ (Ow.grow (fun a z=>z.imp id fun z=>z.elim (fun z=>False.elim z) Or.inr) _ (fun _ z=>z) g2)
end
def PE.imp{t t':TE}(h:PE X e t)(hi:∀σ H Q,t' σ H Q->t σ H Q):PE X e t':=fun ρ s σ H Q I hw=>h ρ s σ H Q I (hi _ _ _ hw)
def PT.imp{t:TT}(h:PT X e t)(hi:∀σ H Q,t' σ H Q->t σ H Q):PT X e t':=fun ρ s σ H Q I hw=>h ρ s σ H Q I (hi _ _ _ hw)
def PW.imp{t:TT}(h:PW X e t)(hi:∀σ H Q,t' σ H Q->t σ H Q):PW X e t':=fun wh ρ s σ H Q I hw=>h wh ρ s σ H Q I (hi _ _ _ hw)
def PA.imp{e:List Expr}{t t':TA}(h:PA X e t)(hi:∀σ H Q,t' σ H Q->t σ H Q):PA X e t':=fun pos ρ s σ H Q I hw=>h pos ρ s σ H Q I (hi _ _ _ hw)
def PS.imp{e:Stmt}{t t':TS}(h:PS X e t)(hi:∀D σ H,t' D σ H->t D σ H):PS X e t':=fun ρ s σ H D I hw=>h ρ s σ H D I (hi _ _ _ hw)
def PSs.imp{e:List Stmt}{t t':TS}(h:PSs X e t)(hi:∀D σ H,t' D σ H->t D σ H):PSs X e t':=fun ρ s σ H D I hw=>h ρ s σ H D I (hi _ _ _ hw)
def PG.imp{t t':TG}(h:PG X e t)(hi:∀v σ H Q,t' v σ H Q->t v σ H Q):PG X e t':=fun ρ s σ H v u Q I r hw=>h ρ s σ H v u Q I r (hi _ _ _ _ hw)
def PGs.imp{e:List Expr}{t t':TGs}(h:PGs X e t)(hi:∀v σ H Q,t' v σ H Q->t v σ H Q):PGs X e t':=fun ρ s σ H v u Q I r hw=>h ρ s σ H v u Q I r (hi _ _ _ _ hw)
def PI.imp{t t':TI}(h:PI X tg e t)(hi:∀σ H R,t' σ H R->t σ H R):PI X tg e t':=fun ρ s σ H R I hw=>h ρ s σ H R I (hi _ _ _ hw)
def PTs.imp{e:List Expr}{t:TT}(h:PTs X e t)(hi:∀σ H Q,t' σ H Q->t σ H Q):PTs X e t':=fun ρ s σ H Q I hw=>h ρ s σ H Q I (hi _ _ _ hw)
def bc:Expr->Bool
 |.Starred _ _=>false
 |_=>true
def dg(h:bc e=true):starEach (e::es) env=(false,eval e env)::starEach es env:=by
 cases e<;>first|rfl|cases h
theorem gD{pos:Pos}{env:Env}:∀{es:List Expr},es.all bc=true->(backTo pos (starEach es env)).any (·.1)=false
 |[],_=>rfl
 |e::es,h=>by
  rw[List.all_cons,zbm]at h;rw[dg h.1];show(false || (backTo pos (starEach es env)).any (·.1))=false;rw[gD h.2];rfl
section
variable{a c:Expr}{m:MT}    
def KP(hN:X.N[i]?=some x)(hv:Vis X.env.scope x)(h0:ds[i]?=some 0)(hd:(x==("__debug__":Str))=false)(hcd:(x==("__classdict__":Str))=false):PE X (.Name x pos) (tF K p ds ds 0 (ad i)):=
 (cR hN hv hd hcd).imp fun _ _ _ h=>Mu h0 (pJ (fun _=>rfl) h)
def Mn(hN:X.N[i]?=some x)(hv:Vis X.env.scope x)(h0:ds[i]?=some d)(hds:ds.set i 0=ds')(hd:(x==("__debug__":Str))=false)(hcd:(x==("__classdict__":Str))=false):PE X (.Name x pos) (tF K false ds ds' d (eMv i)):=by
 subst hds;exact(cR hN hv hd hcd).imp fun _ _ _=>Nm h0
def K2{n:Int}{j}:PE X (.Constant (.int n) j pos) (tF K p ds ds 3 (eC (.int n))):=pe_int.imp fun _ _ _ h=>f_c (t:=.int n) (fun _ _ _ _=>rfl) (pJ (fun _=>rfl) h)
def Mt{n:Bool}{j}:PE X (.Constant (.bool n) j pos) (tF K p ds ds 3 (eC (.bool n))):=pe_bl.imp fun _ _ _ h=>f_c (t:=.bool n) (fun _ _ _ _=>rfl) (pJ (fun _=>rfl) h)
def KY{j}:PE X (.Constant .none j pos) (tF K p ds ds 3 (eC .none)):=pe_non.imp fun _ _ _ h=>f_c (t:=.none) (fun _ _ _ _=>rfl) (pJ (fun _=>rfl) h)
def KS{n:Str}{j}:PE X (.Constant (.str n) j pos) (tF K p ds ds 3 (eC (.str n))):=pe_str.imp fun _ _ _ h=>f_c (t:=.str n) (fun _ _ _ _=>rfl) (pJ (fun _=>rfl) h)
def KR(h:PE X e (tF K p ds ds' d f))(hd:d'<=d):PE X e (tF K p ds ds' d' f):=h.imp fun _ _ _=>Mx hd
def Mr(h:PE X e (tF K p ds0 ds' d f))(hd:leD ds0 ds=true):PE X e (tF K false ds ds' d f):=h.imp fun _ _ _=>No hd
def Mm{op:Operator}(ho:OpR X (binaryOp op) (rF2 K g d))(ha:PE X a (tF K p ds ds1 d1 f1))(hb:PE X b (tF K p ds1 ds2 d2 f2)):PE X (.BinOp a op b pos) (tF K p ds ds2 d (e2 g f1 f2)):=
 (LY ho ha hb).imp fun _ _ _ h=>m9 (by rw[zbk];exact h)
def Mj{op:UnaryOp}{g:D->Option D}(ho:UnR X (unaryOp op) (rF1 K g d))(ha:PE X a (tF K p ds ds1 d1 f1)):PE X (.UnaryOp op a pos) (tF K p ds ds1 d (e1 g f1)):=
 (LW ho ha).imp fun _ _ _=>Mz
def K6(ho:OpR X (compareOp op) (rF2 K g d))(ha:PE X a (tF K p ds ds1 d1 f1))(hb:PE X b (tF K p ds1 ds2 d2 f2))(hm:behindInMarks op b=false):PE X (.Compare a [op] [b] pos) (tF K p ds ds2 d (e2 g f1 f2)):=
 (Fg ho ha hb hm).imp fun _ _ _ h=>m9 (by rw[zbk];exact h)
def FO(ho:OpR X (compareOp op) (rF2 K g d))(ha:PE X a (tF K p ds ds1 d1 f1))(hb:PE X b (tF K p ds1 ds2 d2 f2))(hm:behindInMarks op b=false):PT X (.Compare a [op] [b] pos) (tFT K p ds ds2 (tV (e2 g f1 f2))):=
 (E4 ho ha hb hm).imp fun σ H Q h=>by
  obtain⟨Ox,en,R,t,en',e,hf,k⟩:=pD (d:=d) h;exact m9 (by rw[zbk];exact⟨Ox,en,R,t,en',e,hf,k⟩)
def FK(h:PE X e (tF K p ds ds' d f))(he:∀χ,isTrue e X.env χ=(do let v <-χ;standAt e.pos;holding [v] (truthy v))):PT X e (tFT K p ds ds' (tV f)):=(JA h he).imp fun _ _ _=>pD
def FG(ha:PT X a (tFT K p ds ds1 c1)):PW X (.BoolOp .And [a] pos) (tFT K p ds ds1 c1):=E2 ha
def Kr(ha:PT X a (tFT K p ds ds1 c1)):PW X (.BoolOp .Or [a] pos) (tFT K p ds ds1 c1):=Jy ha
def Ks{rest:List Expr}(ha:PT X a (tFT K p ds ds1 c1))(hb:PW X (.BoolOp .And (b::rest) pos) (tFT K p ds1 ds1 c2)):PW X (.BoolOp .And (a::b::rest) pos) (tFT K p ds ds1 (cZ c1 c2)):=(Jz ha hb).imp fun _ _ _ h=>Kv (by rw[zbk];exact h)
def Md{rest:List Expr}(ha:PT X a (tFT K p ds ds1 c1))(hb:PW X (.BoolOp .Or (b::rest) pos) (tFT K p ds1 ds1 c2)):PW X (.BoolOp .Or (a::b::rest) pos) (tFT K p ds ds1 (bOr c1 c2)):=(LU ha hb).imp fun _ _ _ h=>Me (by rw[zbk];exact h)
def FM(ha:PT X a (tFT K p ds ds1 c1)):PT X (.UnaryOp .Not a pos) (tFT K p ds ds1 (bV c1)):=(JB ha).imp fun _ _ _=>Kt
def FP(h:PT X e (tFT K true ds0 ds0 c1))(hd:leD ds0 ds=true):PT X e (tFT K p ds ds c1):=h.imp fun _ _ _ ⟨Ox,en,R,t,en',e,hf,k⟩=>Ku hd ⟨Ox,en,R,t,en',e,hf,fun H' R' P=>k H' R' ⟨P.env,P.fx,P.keep,P.own,P.dom,fun _=>P.pure rfl⟩⟩
def KU{op}(h:PE X a (tF K p ds ds1 d f)):PE X (.BoolOp op [a] pos) (tF K p ds ds1 d f):=JI h
def K8{rest:List Expr}(ha:PE X a (tF K p ds ds1 d1 f1))(hb:PE X (.BoolOp .And (b::rest) pos) (tF K p ds1 ds1 d f2)):PE X (.BoolOp .And (a::b::rest) pos) (tF K p ds ds1 d (cW f1 f2)):=(JN ha hb).imp fun _ _ _ h=>MJ (by rw[zbk];exact h)
def Ml{rest:List Expr}(ha:PE X a (tF K p ds ds1 d1 f1))(hb:PE X (.BoolOp .Or (b::rest) pos) (tF K p ds1 ds1 d f2)):PE X (.BoolOp .Or (a::b::rest) pos) (tF K p ds ds1 d (eOr f1 f2)):=(LX ha hb).imp fun _ _ _ h=>Nl (by rw[zbk];exact h)
def KW(ha:PE X a (tF K p ds ds1 d1 f)):PE X (.UnaryOp .Not a pos) (tF K p ds ds1 3 (qJ f)):=(JJ ha).imp fun _ _ _=>MB
def Mq(hc:PT X c (tFT K p ds ds1 c1))(ha:PE X a (tF K p ds1 ds2 d f1))(hb:PE X b (tF K p ds1 ds2 d f2)):PE X (.IfExp c a b pos) (tF K p ds ds2 d (eIf c1 f1 f2)):=(Av hc ha hb).imp fun _ _ _ h=>Nn (by rw[zbk,zbk];exact h)
def GE:PA X [] (tFA K p ds ds [] ag):=pa_nil.imp fun _ _ _ ⟨Ox,en,R,t,en',e,hf,k⟩=>K9 ⟨Ox,en,R,t,en',e,hf,fun vs H' R' F P=>k vs H' R' F ⟨P.env,P.fx,P.keep,P.own,P.dom,fun _=>P.pure rfl⟩⟩
def Bo(ha:PE X e (tF K p ds ds1 d f))(hr:PA X es (tFA K p ds1 ds2 sh fa))(hs:bc e=true):PA X (e::es) (tFA K p ds ds2 (.inl d::sh) (ac f fa)):=(j8 ha hr (dg hs)).imp fun _ _ _ h=>GF (by rw[zbk];exact h)
def Bn(hN:X.N[i]?=some x)(hv:Vis X.env.scope x)(hr:PA X es (tFA K p ds ds2 sh fa))(hd:(x==("__debug__":Str))=false)(hcd:(x==("__classdict__":Str))=false):
  PA X (.Name x pos::es) (tFA K p ds ds2 (.inr i::sh) (aD i fa)):=(j8 (cR hN hv hd hcd) hr (dg rfl)).imp fun _ _ _=>GD
def KZ{c:Nat}(h:PA X es (tFA K p ds ds1 sh fa))(hs:dh c sh=true)(hd:dn d=c)(hz:d≠0):PE X (.List es pos) (tF K p ds ds1 d (aw fa)):=(JK h).imp fun _ _ _=>MC hs hd hz
def KQ{c:Nat}{x1}(h:PA X es (tFA K p ds ds1 sh fa))(hs:dh c sh=true)(hd:dn d=c):PE X (.Tuple es x1 pos) (tF K p ds ds1 d (bj fa)):=(JH h).imp fun _ _ _=>Mw hs hd
def Bm{id:String}{g:List D->Option D}(hc:CallR X (.builtin id) (rFn K g d))(hg:Gl X x)(hm:X.mg x=none)(hv:bootBuiltins x=some (.builtin id))(ha:PA X (e::es) (tFA K p ds ds1 sh fa))(hsh:dh 0 sh=true)(hn:x≠"__name__")(hdb:(x==("__debug__":Str))=false)
  (he:bc e=true) (hpl:es.all bc=true):PE X (.Call (.Name x px) (e::es) [] pos) (tF K p ds ds1 d (eN g fa)):=
 (tj hc hg hm hv ha hn hdb (dg he) (gD hpl)).imp fun _ _ _=>zy hsh
def zx{g:List D->Option D}(hc:CallR X (.type T) (rFn K g d))(hg:Gl X x)(hm:X.mg x=none)(hv:bootBuiltins x=some (.type T))(ha:PA X (e::es) (tFA K p ds ds1 sh fa))(hsh:dh 0 sh=true)(hn:x≠"__name__")(hdb:(x==("__debug__":Str))=false)
  (he:bc e=true) (hpl:es.all bc=true):PE X (.Call (.Name x px) (e::es) [] pos) (tF K p ds ds1 d (eN g fa)):=
 (yC hc hg hm hv ha hn hdb (dg he) (gD hpl)).imp fun _ _ _=>zy hsh
def Ms{F:List D->Option (D×En)}(G:Kn X.prog X.w X.K X.mg X.base k x ps (spF K dps dr F))(hr:Room k X.A)(hg:Gl X x)(ha:PA X (e::es) (tFA K p ds ds1 sh fa))(hns:h9 sh=true)(hcd:dC ds1 sh dps=true)(hdb:(x==("__debug__":Str))=false)
  (he:bc e=true) (hpl:es.all bc=true):
  PE X (.Call (.Name x px) (e::es) [] pos) (tF K p ds ds1 dr (ar F fa)):=(wT G hr hg ha hdb (dg he) (gD hpl)).imp fun _ _ _ h=>Lc hcd (by rw[hns,zbW];exact h)
def K3{F:List D->Option (D×En)}(G:Kn X.prog X.w X.K X.mg X.base k x ps (spF K dps dr F))(hr:Room k X.A)(hg:Gl X x)(ha:PA X (e::es) (tFA K false ds ds1 sh fa))(hcd:dC ds1 sh dps=true)(hdb:(x==("__debug__":Str))=false)
  (he:bc e=true) (hpl:es.all bc=true):
  PE X (.Call (.Name x px) (e::es) [] pos) (tF K false ds ds1 dr (ar F fa)):=(wT G hr hg ha hdb (dg he) (gD hpl)).imp fun _ _ _ h=>Lc hcd h
def Mp(ho:IxR X (rF2 K g d))(ha:PE X a (tF K p ds ds1 d1 f1))(hb:PE X b (tF K p ds1 ds2 d2 f2))(hs:gO b):PE X (.Subscript a b pos) (tF K p ds ds2 d (e2 g f1 f2)):=
 (wS ho ha hb hs).imp fun _ _ _ h=>m9 (by rw[zbk];exact h)
def K0(hK:X.K=K)(hN:X.N[i]?=some x)(hv:Vis X.env.scope x)(h1:ds1[i]?=some 1)(hb:PE X b (tF K p ds ds1 d1 f))(hs:gO b)(hd:(x==("__debug__":Str))=false)(hcd:(x==("__classdict__":Str))=false):
  PE X (.Subscript (.Name x px) b pos) (tF K p ds ds1 0 (fj i f)):=(wS (Nh hK) (cR hN hv hd hcd) hb hs).imp fun _ _ _=>MD h1
def K7{c:Nat}(hK:X.K=K)(hN:X.N[i]?=some x)(hv:Vis X.env.scope x)(h1:ds1[i]?=some d)(he:PE X e (tF K false ds ds1 c f))(hz:d≠0)(hc:dn d=c)
  (hd:(x==("__debug__":Str))=false) (hcd:(x==("__classdict__":Str))=false)
  (η:attributeBase (.Name x px) "append" X.env (eval (.Name x px) X.env)=eval (.Name x px) X.env)
  (hfew:((backTo ω (starEach [e] X.env)).all (fun x=>!x.1)&&(backToKw ω (keywordEach [] X.env)).all (fun x=>x.1.isSome)&&decide (([e]:List Expr).length+([]:List Keyword).length+(if([]:List Keyword).isEmpty then 0 else 1)<30))=true)
  (θ:(μ.endLine==ω.line)=true) (hs:starEach [e] X.env=[(false,eval e X.env)]) (ι:(backTo ω (starEach [] X.env)).any (·.1)=false):
  PE X (.Call (.Attribute (.Name x px) "append" μ) [e] [] ω) (tF K false ds ds1 3 (cF i f)):=by
 subst hK;exact(LZ PySem.F.plainAttrs_list PySem.F.slot_list_append PySem.F.type_list_append qY (cR hN hv hd hcd) (j8 he pa_nil hs) η hfew θ hs ι).imp fun _ _ _=>MH h1 hz hc
def cY:MT:=fun en=>some (true,en)
def FJ:PTs X [] (tFT K p ds ds cY):=pts_nil.imp fun σ H Q ⟨Ox,en,R,b,en',e,hf,k⟩=>by
 cases hf;exact k H R (Post.refl e)
def FH(hc:PT X c (tFT K p ds ds1 c1)):PTs X [c] (tFT K p ds ds1 c1):=E3 hc
def Mo{g:MG}(B:BlkOkC X scope ns js)(hc:X.calm=true)(hi:PI X tg iter (tFI K p ds ds1 fi))
  (hg:∀C cl s₀ H₀ fp,PG (br X scope ns C cl s₀ H₀ fp) tg (tFG K lk dsi dsi g)) (ht:∀C cl s₀ H₀ fp,PTs (br X scope ns C cl s₀ H₀ fp) ifs (tFT K true dsi dsi c1)) (he:∀C cl s₀ H₀ fp,PE (br X scope ns C cl s₀ H₀ fp) elt (tF K true dsi dsi cd f))
  (hcap:jR ds1 js dsi=true) (hd:dn d=cd) (hz:d≠0) (hlk:lk=jQ js 0)
  (hs:∀x,foldedSetIterable iter X.env x=pure x):PE X (.ListComp elt [⟨tg,iter,ifs,0⟩] scope pos) (tF K p ds ds1 d (eLC true fi g c1 f js)):=
 (JL B hc hi hg ht he hs).imp fun _ _ _ h=>Lb hcap hd hz hlk (by rw[zbW];exact h)
end
def ir(f:ME)(g:MG):MS:=fun en=>(f en).bind fun r=>(g r.1 r.2).map .nx
section
variable{g:MG}   
def KC(h:tFS K J ds ds2 (ir f g) Dn σ H):lZ (tF K p ds ds1 0 f) (tFG K J.lk ds1 ds2 g) Dn σ H:=by
 obtain⟨Ox,en,R,fl,e,hf,k⟩:=h;unfold ir at hf;obtain⟨⟨t,en1⟩,h1,hf⟩:=zaa.mp hf;obtain⟨en2,h2,hf⟩:=zab.mp hf;cases hf;refine⟨Ox,en,R,t,en1,e,h1,fun v H1 R1 F P o=>?_⟩;exact⟨Ox,en1,R1,t,en2,P.env0,Ow.letgo P (fun _ z=>z) o,h2,fun σ2 R2 P2 _=>k σ2 H1 R2 ((P.s.less fun _ z=>z.elim).after P2)⟩
end
section
variable{a c:Expr}{rest body x':List Stmt}{g:MG}{gs:List D->En->Option En} 
def FR:PSs X [] (tFS K J ds ds aW):=pss_nil.imp fun _ _ _=>Kz
def A0(h1:PS X st (tFS K J ds ds1 m1))(h2:PSs X rest (tFS K J ds1 ds2 m2)):PSs X (st::rest) (tFS K J ds ds2 (ak m1 m2)):=(Aq h1 h2).imp fun _ _ _=>Kx
def FQ(h1:PS X st (tFS K J ds ds1 m1)):PSs X [st] (tFS K J ds ds1 m1):=E5 h1
def F7(he:PE X e (tF K false ds ds1 d f))(hs:swapsWith e none pos.line X.env=pure false):PS X (.Expr e pos) (tFS K J ds ds1 (cG f)):=(vR he hs).imp fun _ _ _=>KB
def FY(he:PE X e (tF K false ds ds1 J.dr f))(hd:leD J.dsr ds1=true):PS X (.Return (some e) pos) (tFS K J ds ds' (ay f)):=(JE he).imp fun _ _ _=>Ky hd
def KD(hc:PT X c (tFT K false ds ds1 c1))(ha:PSs X body (tFS K J ds1 ds2 m1))(hb:PSs X x' (tFS K J ds1 ds2 m2)):PS X (.If c body x' pos) (tFS K J ds ds2 (sIf c1 m1 m2)):=(LV hc ha hb).imp fun _ _ _=>Mf
def FX(hN:X.N.Nodup)(hi:X.N[i]?=some x)(hx:Loc X.env.scope x)(he:PE X e (tF K false ds ds1 d f))(hds:ds1.set i d=ds')(hl:i<ds1.length)(hk:i∉J.lk)
  (hs:swapsWith e (some (.Name x pos')) pos.line X.env=pure false) (hf:X.fn x=true\/X.env.scope.names.lookup x=some .local):
  PS X (.Assign [.Name x pos'] e pos) (tFS K J ds ds' (au i f)):=by
 subst hds;exact(JD hN hi hx he hs hf).imp fun _ _ _=>y4 hl hk
def y9(hN:X.N.Nodup)(hi':X.N[i]?=some x)(hx:X.env.scope.names.lookup x=some .local)(B:BlkOkC X scope ns js)(hc:X.calm=true)(hi:PI X tg iter (tFI K false ds ds1 fi))
  (hg:∀C cl s₀ H₀ fp,PG (br X scope ns C cl s₀ H₀ fp) tg (tFG K lk dsi dsi g)) (ht:∀C cl s₀ H₀ fp,PTs (br X scope ns C cl s₀ H₀ fp) ifs (tFT K q dsi dsi c1)) (he:∀C cl s₀ H₀ fp,PE (br X scope ns C cl s₀ H₀ fp) elt (tF K q dsi dsi cd f))
  (hds:ds1.set i d=ds') (hcap:jR ds1 js dsi=true) (hd:dn d=cd) (hz:d≠0) (hlk:lk=jQ js 0) (hl:i<ds1.length) (hk:i∉J.lk)
  (hsw:swapsWith (.ListComp elt [⟨tg,iter,ifs,0⟩] scope pos) (some (.Name x pos')) ζ.line X.env=pure true)
  (hs:∀x,foldedSetIterable iter X.env x=pure x):PS X (.Assign [.Name x pos'] (.ListComp elt [⟨tg,iter,ifs,0⟩] scope pos) ζ) (tFS K J ds ds' (au i (eLC q fi g c1 f js))):=by
 subst hds;exact(yy hN hi' hx B hc hi hg ht he hsw hs).imp fun D σ H h=>Lb (p:=false) hcap hd hz hlk (y4 (p:=false&&q) hl hk h)
def F8(hc:X.calm=true)(he:PE X e (tF K false ds ds1 0 f))(hg:PG X tg (tFG K J.lk ds1 ds2 g))(hs:swapsWithSole [tg] e pos.line X.env=pure false)(hw:swappedStores [tg] e X.env=pure none)
  (h1:(assignEach [tg] X.env).map (·.2)=[assign tg X.env]):PS X (.Assign [tg] e pos) (tFS K J ds ds2 (ir f g)):=(oZ he hg hs hw h1).imp fun _ _ _=>KC
def A3{c:Nat}{k:Expr}(hN:X.N[i]?=some x)(hv:Vis X.env.scope x)(he:PE X e (tF K false ds ds1 c fe))(hk:PE X k (tF K false ds1 ds2 d2 fk))(h1:ds2[i]?=some d)(hz:d≠0)(hc:dn d=c)
  (hdb:(x==("__debug__":Str))=false) (hcd:(x==("__classdict__":Str))=false)
  (ha:∀v,assign (.Subscript (.Name x px) k ζ) X.env v=(do
   let ov <-holding [v] (eval (.Name x px) X.env);let iv <-holding [v,ov] (eval k X.env)
   standAt ζ
   holding [v,ov,iv] (setItem ov iv v)
   release [v,ov,iv] []))
  (hs:swapsWithSole [.Subscript (.Name x px) k ζ] e pos.line X.env=pure false) (hw:swappedStores [.Subscript (.Name x px) k ζ] e X.env=pure none)
  (h2:(assignEach [.Subscript (.Name x px) k ζ] X.env).map (·.2)=[assign (.Subscript (.Name x px) k ζ) X.env]):
  PS X (.Assign [.Subscript (.Name x px) k ζ] e pos) (tFS K J ds ds2 (eX i fk fe)):=
 (oZ he (tf (cR hN hv hdb hcd) hk ou ha) hs hw h2).imp fun _ _ _=>FT h1 hz hc
def Bd(hN:X.N.Nodup)(hi:X.N[i]?=some x)(hx:Loc X.env.scope x)(hds:ds.set i 0=ds')(hl:i<ds.length)(hk:i∉lk)(hf:X.fn x=true\/X.env.scope.names.lookup x=some .local):
  PG X (.Name x pos) (tFG K lk ds ds' (gN i)):=by
 subst hds;exact(Fc hN hi hx hf).imp fun _ _ _ _=>Gu hl hk
def Bb:PGs X [] (iq K lk ds ds gs0):=pgs_nil.imp fun _ _ _ _=>Gq
def zu(h1:PG X e (tFG K lk ds ds1 g))(h2:PGs X es (iq K lk ds1 ds2 gs))(hs:(assignEach (e::es) X.env).map (·.2)=assign e X.env::(assignEach es X.env).map (·.2)):PGs X (e::es) (iq K lk ds ds2 (gsC g gs)):=(sZ h1 h2 hs).imp fun _ _ _ _=>Bc
def gI{g2:MG}:∀ts en,(∃en',gsC g1 (gsC g2 gs0) ts en=some en')->ts.length=2:=fun ts en ⟨en',h⟩=>by
 match ts,h with
 |[],h=>cases h
 |[_],h=>
  obtain⟨_,_,h⟩:=zaa.mp h;cases h
 |[_,_],_=>rfl
 |a::b::c::r,h=>
  obtain⟨_,_,h⟩:=zaa.mp h;obtain⟨_,_,h⟩:=zaa.mp h;cases h
def Gs(hK:X.K=K)(hc:X.calm=true)(h:PGs X es (iq K lk ds ds1 gs))(hl:∀ts en,(∃en',gs ts en=some en')->ts.length=n)(hn:(assignEach es X.env).length=n)(hst:(assignEach es X.env).findIdx? (·.1)=none):
  PG X (.Tuple es k pos) (tFG K lk ds ds1 (gT gs)):=by
 subst hK;exact(yB hc h hn hst).imp fun _ _ _ _=>KO hl
def FZ(hc:X.calm=true)(hi:PI X tg iter (tFI K false ds ds1 fi))(hg:PG X tg (tFG K J.lk ds1 ds2 g))(hb:PSs X body (tFS K { J with dsl:=ds1 } ds2 ds1 m))(hp:PassesOwn (model X.prog X.w) X.A X.env X.xe)
  (hs:∀x,foldedSetIterable iter X.env x=pure x):PS X (.For tg iter body [] pos) (tFS K J ds ds1 (bT fi g m)):=(JF hp hc hi hg hb hs).imp fun _ _ _=>KA
def y6(hc:PT X c (tFT K false ds ds1 c1))(hb:PSs X body (tFS K { J with dsl:=ds } ds1 ds m))(hp:PassesOwn (model X.prog X.w) X.A X.env X.xe):PS X (.While c body [] pos) (tFS K J ds ds1 (cP c1 m)):=(Ar hp hc hb).imp fun _ _ _=>A1
end
def Ek:D->Option (List D)
 |.list ts=>some ts
 |.tuple ts=>some ts
 |.str z=>some ((li z).map fun c=>.str (mk1 c))
 |_=>none
def bi(f:ME):MI:=fun en=>(f en).bind fun r=>(Ek r.1).map fun ts=>(ts,r.2)
section
variable{F:AS}
def eS(h1:∀a o,H0 a=some o->¬O a->H a=some o)(h2:∀a,O1 a->O a\/H0 a=none):Mv O O1 NoA H0 H:=⟨fun a o q z=>z.elim (h1 a o q) fun z=>z.elim,h2⟩
def yf(h:FzL K O H0 a vs)(ho:Ows K O H0 ts 0 vs NoA):lp K O H0 (Itl K a) ts:=fun i H O1 h1 h2 h3=>by
 have sq:=(h.mv (eS h1 h2)).sq;refine⟨fun t ht=>?_,fun hl=>⟨vs,sq,by rw[ho.len];omega⟩⟩;obtain⟨v,hv,ov⟩:=ho.get ht;refine⟨⟨vs,v,sq,hv⟩,fun x H1 ⟨e,y⟩=>?_⟩;subst e;have e2:=y vs sq;rw[hv]at e2;cases e2;exact⟨fun _ _ q=>q,Ow.mv (eS h1 h2) t (fun _ z=>z) ov⟩
def Ad(h:FzT K O H0 a vs)(ho:Ows K O H0 ts 0 vs NoA):lp K O H0 (Itt K a) ts:=fun i H O1 h1 h2 h3=>by
 have sq:=(h.mv (eS h1 h2)).sq;refine⟨fun t ht=>?_,fun hl=>⟨vs,sq,by rw[ho.len];omega⟩⟩;obtain⟨v,hv,ov⟩:=ho.get ht;refine⟨⟨vs,v,sq,hv⟩,fun x H1 ⟨e,y⟩=>?_⟩;subst e;have e2:=y vs sq;rw[hv]at e2;cases e2;exact⟨fun _ _ q=>q,Ow.mv (eS h1 h2) t (fun _ z=>z) ov⟩
def Ae:lp K O H0 (Its z) ((li z).map fun c=>.str (mk1 c)):=fun i H O1 h1 h2 h3=>by
 refine⟨fun t ht=>?_,fun hl=>?_⟩
 ·rw[zao]at ht;obtain⟨c,hc,e⟩:=zab.mp ht;have hi:i<z.cps.size:=by
   have:=(zah.mp hc).1;simpa[li]using this
  have hc':z.cps[i]?=some c:=by
   have:z.cps.toList[i]?=some c:=hc;simpa using this
  refine⟨hi,fun x H1 ⟨e1,c',e2,e3⟩=>?_⟩;subst e1 e e3;rw[hc']at e2;cases e2;exact⟨fun _ _ q=>q,rfl⟩
 ·have:z.cps.size=i:=by
   rw[zad]at hl;simpa[li]using hl
  show z.cps.size<=i;omega
def Af{lo:Int}:lp K O H0 (Itr lo n) ((List.range n).map fun k=>.int (lo+(k:Nat))):=fun i H O1 h1 h2 h3=>by
 refine⟨fun t ht=>?_,fun hl=>?_⟩
 ·rw[zao]at ht;obtain⟨c,hc,e⟩:=zab.mp ht;have hi:=(zah.mp hc).1;rw[zbe]at hi;rw[List.getElem?_range hi]at hc;cases hc;refine⟨hi,fun x H1 ⟨e1,e2⟩=>?_⟩;subst e1 e e2;exact⟨fun _ _ q=>q,rfl⟩
 ·rw[zad,zbe]at hl;show n<=i;omega
def vV{p:Addr}(hp:H p=none)(h3:∀a,O1 a->∃o,H a=some o)(ov:Ow K O1 H t 0 v NoA):(∀a o,H a=some o->upd H p (.tup [.int i,v]) a=some o)/\Ow K O1 (upd H p (.tup [.int (i:Nat),v])) (.tuple [.int i,t]) 0 (.ref p) NoA:=by
 have g:=(cq (o:=.tup [.int i,v]) hp).1;refine⟨g,p,[.int i,v],rfl,.inl ⟨rfl,⟨aI,fun z=>?_⟩,.int i,[v],NoA,NoA,rfl,fun _ z=>z,fun _ z=>z,fun _ z=>z.elim,rfl,v,[],NoA,NoA,rfl,fun _ z=>z,fun _ z=>z,fun _ z=>z.elim,?_,rfl⟩⟩
 ·obtain⟨o,q⟩:=h3 p z;rw[hp]at q;cases q
 ·exact Ow.mv (G:=NoA) ⟨fun a o q _=>g a o q,fun a z=>.inl z⟩ t (fun _ z=>z) ov
def eZ(ts:List D):List D:=ts.zipIdx.map fun p=>.tuple [.int (p.2:Nat),p.1]
def fT{u:D}(h:(eZ ts)[i]?=some u):∃t,ts[i]?=some t/\u=.tuple [.int (i:Nat),t]:=by
 unfold eZ at h;rw[zao]at h;obtain⟨⟨t,k⟩,h1,h2⟩:=zab.mp h;rw[List.getElem?_zipIdx]at h1;obtain⟨t',h3,h4⟩:=zab.mp h1;cases h4;refine⟨t,h3,?_⟩;rw[<-h2,za4]
def fS:(eZ ts).length=ts.length:=by unfold eZ;rw[zad,List.length_zipIdx]
def yh(h:FzL K O H0 a vs)(ho:Ows K O H0 ts 0 vs NoA):lp K O H0 (Ite K a) (eZ ts):=fun i H O1 h1 h2 h3=>by
 have sq:=(h.mv (eS h1 h2)).sq;refine⟨fun u hu=>?_,fun hl=>⟨vs,sq,by rw[fS]at hl;rw[ho.len];omega⟩⟩;obtain⟨t,ht,rfl⟩:=fT hu;obtain⟨v,hv,ov⟩:=ho.get ht;refine⟨⟨vs,v,sq,hv⟩,fun x H1 ⟨p,v',e1,hp,e2,y⟩=>?_⟩;have e3:=y vs sq;rw[hv]at e3;cases e3;subst e1 e2;exact vV hp h3 (Ow.mv (eS h1 h2) t (fun _ z=>z) ov)
def wA(h:FzT K O H0 a vs)(ho:Ows K O H0 ts 0 vs NoA):lp K O H0 (ItT K a) (eZ ts):=fun i H O1 h1 h2 h3=>by
 have sq:=(h.mv (eS h1 h2)).sq;refine⟨fun u hu=>?_,fun hl=>⟨vs,sq,by rw[fS]at hl;rw[ho.len];omega⟩⟩;obtain⟨t,ht,rfl⟩:=fT hu;obtain⟨v,hv,ov⟩:=ho.get ht;refine⟨⟨vs,v,sq,hv⟩,fun x H1 ⟨p,v',e1,hp,e2,y⟩=>?_⟩;have e3:=y vs sq;rw[hv]at e3;cases e3;subst e1 e2;exact vV hp h3 (Ow.mv (eS h1 h2) t (fun _ z=>z) ov)
end
def bS(fa:MA):MI:=fun en=>(fa en).bind fun r=>match r.1 with
 |[.inl (.int j)]=>if -(2 ^ 62)<=j/\j<2 ^ 62 then some ((List.range j.toNat).map fun k=>.int (0+(k:Nat)),r.2)else none
 |_=>none
def NO(fa:MA):MI:=fun en=>(fa en).bind fun r=>match r.1 with
 |[.inl (.int i),.inl (.int j)]=>if -(2 ^ 62)<=i/\i<2 ^ 62/\-(2 ^ 62)<=j/\j<2 ^ 62 then some ((List.range (j-i).toNat).map fun k=>.int (i+(k:Nat)),r.2)else none
 |_=>none
def ic(fa:MA):MI:=fun en=>(fa en).bind fun r=>match r.1 with
 |[.inl (.list ts)]=>some (eZ ts,r.2)
 |[.inl (.tuple ts)]=>some (eZ ts,r.2)
 |_=>none
section
variable{l:Expr}  
def KL(hK:X.K=K)(hl:PE X l (tF K p ds ds1 d f)):PI X tg l (tFI K p ds ds1 (bi f)):=by
 subst hK;intro ρ s σ H R I h;obtain⟨Ox,en,Rg,ts,en',e,hf,k⟩:=h;unfold bi at hf;obtain⟨⟨t,en1⟩,h1,hf⟩:=zaa.mp hf;obtain⟨ts',h2,hf⟩:=zab.mp hf;cases hf;refine thn (hl ρ s σ H (fun v H1=>∃R1,Post X.K p ds1 Ox σ H en Rg en1 H1 R1 NoA/\Ow X.K (Own R1 Ox) H1 t 0 v NoA) I ⟨Ox,en,Rg,t,en1,e,h1,fun v H1 R1 F P o=>⟨R1,P.less fun _ z=>z.elim,Ow.letgo P (fun _ z=>z) o⟩⟩) fun v s1 ⟨x,H1,I1,r1,R1,P,o⟩=>?_;cases t with
 |list ts0=>
  cases h2;obtain⟨a,vs,e1,⟨_,fz,ow⟩|⟨z,_⟩⟩:=o
  ·subst e1;cases r1;obtain⟨its,rv,pl,hz⟩:=I1.list fz.sq;refine wpAny_pyIter_list pl.isList ?_;refine⟨s1.heap.objs.size,[s1.heap.objs.size],_,_,H1,rfl,I1.kept (t':=s1.toks) fun b o e=>zaf _ e,yi a _,⟨_,zan _ rfl,rfl,rfl⟩,fun b hb=>?_,k _ H1 R1 P (yf fz ow)⟩;have e:b=s1.heap.objs.size:=by simpa using hb
   subst e;exact I1.fpOk (zav _) (I1.hok.fresh (zav _))
  ·exact absurd rfl z
 |tuple ts0=>
  cases h2;obtain⟨a,vs,e1,⟨_,fz,ow⟩|⟨z,_⟩⟩:=o
  ·subst e1;cases r1;obtain⟨its,rv,pl,hz⟩:=I1.tuple fz.sq;refine wpAny_pyIter_tuple (show s1.heap.IsTuple a its.toArray from pl) ?_;refine⟨s1.heap.objs.size,[s1.heap.objs.size],_,_,H1,rfl,I1.kept (t':=s1.toks) fun b o e=>zaf _ e,wC a _,⟨_,zan _ rfl,rfl,rfl⟩,fun b hb=>?_,k _ H1 R1 P (Ad fz ow)⟩;have e:b=s1.heap.objs.size:=by simpa using hb
   subst e;exact I1.fpOk (zav _) (I1.hok.fresh (zav _))
  ·exact absurd rfl z
 |str z=>
  cases h2;have e1:x=.str z:=o;subst e1;obtain⟨t,rfl⟩:=r1;have fin:∀(ty:String) (o:Obj),(ty="str_ascii_iterator"\/ty="str_iterator")->(s1.heap.push o).IsStrIter s1.heap.objs.size ty z t 0->PIE X ρ σ tg R (.ref s1.heap.objs.size) { s1 with heap:=s1.heap.push o }:=fun ty o hty st=>by
   refine⟨s1.heap.objs.size,[s1.heap.objs.size],_,_,H1,rfl,I1.kept (t':=s1.toks) fun b o e=>zaf _ e,Ag _ z t ty hty,st,fun b hb=>?_,k _ H1 R1 P Ae⟩;have e:b=s1.heap.objs.size:=by simpa using hb
   subst e;exact I1.fpOk (zav _) (I1.hok.fresh (zav _))
  cases ha:z.cps.all (·<128)
  ·exact wpAny_pyIter_wide ha (fin _ _ (.inr rfl) ⟨_,zan _ rfl,rfl,rfl⟩)
  ·exact wpAny_pyIter_ascii ha (fin _ _ (.inl rfl) ⟨_,zan _ rfl,rfl,rfl⟩)
 |_=>cases h2
def Gj{a:Expr}(hg:Gl X "range")(hm:X.mg "range"=none)(ha:PA X [a] (tFA K p ds ds1 sh fa))(hs:bc a=true):PI X tg (.Call (.Name "range" px) [a] [] pos) (tFI K p ds ds1 (bS fa)):=
 (yA hg hm ha (dg hs)).imp fun σ H R ⟨Ox,en,Rg,ts,en',e,hf,k⟩=>by
  unfold bS at hf;obtain⟨⟨as,en1⟩,h1,hf⟩:=zaa.mp hf;refine⟨Ox,en,Rg,as,en1,e,h1,fun vs H1 R1 F P o=>?_⟩
  dsimp only at hf
  split at hf
  case h_2=>cases hf
  next j=>
  by_cases hj:-(2 ^ 62)<=j/\j<2 ^ 62
  case neg=>rw[if_neg hj]at hf;cases hf
  rw[if_pos hj]at hf;cases hf;obtain⟨v,r,d,dr,F1,F2,e1,e2,_,_,_,o1,o2⟩:=o;obtain⟨_,o2⟩:=o2;subst e1 o2;have ev:v=.int j:=o1;subst ev;exact⟨j,rfl,hj.1,hj.2,k _ H1 R1 (P.less fun _ z=>z.elim) Af⟩
def Gk(hK:X.K=K)(hg:Gl X "enumerate")(hm:X.mg "enumerate"=none)(ha:PA X [l] (tFA K p ds ds1 sh fa))(hs:starEach [l] X.env=[(false,eval l X.env)]):
  PI X (.Tuple elts k tp) (.Call (.Name "enumerate" px) [l] [] pos) (tFI K p ds ds1 (ic fa)):=by
 subst hK;intro ρ s σ H R I h;obtain⟨Ox,en,Rg,ts,en',e,hf,k⟩:=h;unfold ic at hf;obtain⟨⟨as,en1⟩,h1,hf⟩:=zaa.mp hf;refine Call_ (mj I hg hm boot_enumerate (PyProof.Rows.callWith_type1 (thn (ha pos ρ s σ H (fun vs H1=>∃R1 t v,as=[.inl t]/\vs=[v]/\Post X.K p ds1 Ox σ H en Rg en1 H1 R1 NoA/\Ow X.K (Own R1 Ox) H1 t 0 v NoA) I ⟨Ox,en,Rg,as,en1,e,h1,fun vs H1 R1 F P o=>?_⟩) fun us s1 ⟨vs,H1,I1,r1,R1,t,v,ea,ev,P,o⟩=>?_) hs rfl))
 ·have one:∃t,as=[.inl t]:=by
   dsimp only at hf
   split at hf
   ·exact⟨_,rfl⟩
   ·exact⟨_,rfl⟩
   ·cases hf
  obtain⟨t,rfl⟩:=one;obtain⟨v,r,d,dr,F1,F2,e1,e2,s1,_,_,o1,o2⟩:=o;obtain⟨_,o2⟩:=o2;subst o2;exact⟨R1,t,v,rfl,e1,P.less fun _ z=>z.elim,Ow.letgo P s1 o1⟩
 subst ea ev;obtain⟨u,rfl,ru⟩:=dB r1;cases t with
 |list ts0=>
  cases hf;obtain⟨a,vs,e1,⟨_,fz,ow⟩|⟨z,_⟩⟩:=o
  ·subst e1;cases ru;obtain⟨its,rv,pl,hz⟩:=I1.list fz.sq;refine call_enumerate_list pl.isList fun h' hE hI hsz hk=>?_;refine wpAny_pyIter_enum hE ?_;have I2:Inv X ρ σ H1 { s1 with heap:=h' }:=I1.kept (t':=s1.toks) hk;refine⟨s1.heap.objs.size+1,[s1.heap.objs.size+1,s1.heap.objs.size],_,_,H1,rfl,I2,yk a _ _ (Nat.succ_ne_self _),⟨⟨_,hE⟩,hI⟩,fun b hb=>?_,k _ H1 R1 P (yh fz ow)⟩;have hb':b=s1.heap.objs.size+1\/b=s1.heap.objs.size:=by simpa using hb
   rcases hb' with rfl|rfl
   ·exact I1.fpOk (Nat.le_succ _) (I1.hok.fresh (Nat.le_succ _))
   ·exact I1.fpOk (zav _) (I1.hok.fresh (zav _))
  ·exact absurd rfl z
 |tuple ts0=>
  cases hf;obtain⟨a,vs,e1,⟨_,fz,ow⟩|⟨z,_⟩⟩:=o
  ·subst e1;cases ru;obtain⟨its,rv,pt,hz⟩:=I1.tuple fz.sq;have hT:s1.heap.IsTuple a its.toArray:=pt;have hlt:a<s1.heap.objs.size:=by
    obtain⟨o,e1,_⟩:=id hT;exact zal e1
   refine rW hT fun h' hE hI hsz hk=>?_;refine wpAny_pyIter_enum hE ?_;have I2:Inv X ρ σ H1 { s1 with heap:=h' }:=I1.kept (t':=s1.toks) hk;refine⟨s1.heap.objs.size+1,[s1.heap.objs.size+1,s1.heap.objs.size],_,_,H1,rfl,I2,wF a _ _ (Nat.succ_ne_self _) (zaw hlt),⟨⟨_,hE⟩,hI⟩,fun b hb=>?_,k _ H1 R1 P (wA fz ow)⟩;have hb':b=s1.heap.objs.size+1\/b=s1.heap.objs.size:=by simpa using hb
   rcases hb' with rfl|rfl
   ·exact I1.fpOk (Nat.le_succ _) (I1.hok.fresh (Nat.le_succ _))
   ·exact I1.fpOk (zav _) (I1.hok.fresh (zav _))
  ·exact absurd rfl z
 |_=>cases hf
end
def NewTo.refl:NewTo H H NoA:=⟨fun _ _ q=>q,fun _ z=>z.elim⟩
def OpR.imp{fn:Value->Value->Sem Value}{r r':R2}(h:OpR X fn r)(hi:∀x y H Q,r' x y H Q->r x y H Q):OpR X fn r':=fun ρ s σ H x y v u Q I rx ry q=>h ρ s σ H x y v u Q I rx ry (hi _ _ _ _ q)
def OpR.or'{fn:Value->Value->Sem Value}{r r':R2}(h:OpR X fn r)(h':OpR X fn r'):OpR X fn (fun x y H Q=>r x y H Q\/r' x y H Q):=fun ρ s σ H x y v u Q I rx ry q=>q.elim (h ρ s σ H x y v u Q I rx ry) (h' ρ s σ H x y v u Q I rx ry)
def UnR.imp{fn:Value->Sem Value}{r r':V->Hp->VK->Prop}(h:UnR X fn r)(hi:∀x H Q,r' x H Q->r x H Q):UnR X fn r':=fun ρ s σ H x v Q I rx q=>h ρ s σ H x v Q I rx (hi _ _ _ q)
def CallR.imp(h:CallR X fn r)(hi:∀x H Q,r' x H Q->r x H Q):CallR X fn r':=fun ρ s σ H x v Q I rx q=>h ρ s σ H x v Q I rx (hi _ _ _ q)
def CallR.or'(h:CallR X fn r)(h':CallR X fn r'):CallR X fn (fun x H Q=>r x H Q\/r' x H Q):=fun ρ s σ H x v Q I rx q=>q.elim (h ρ s σ H x v Q I rx) (h' ρ s σ H x v Q I rx)
def IxR.imp{r r':R2}(h:IxR X r)(hi:∀x y H Q,r' x y H Q->r x y H Q):IxR X r':=fun value slice ρ s σ H x y v u Q I rx ry q=>h value slice ρ s σ H x y v u Q I rx ry (hi _ _ _ _ q)
section
variable{ws:List V}{x:V} 
def ck(hl:H l=none)(hd:∀a,O a->∃o,H a=some o)(h:Ows K O H ts 0 vs NoA):NewTo H (upd H l (.lst vs)) (fun b=>b=l)/\Ow K (U (fun b=>b=l) O) (upd H l (.lst vs)) (.list ts) 1 (.ref l) (fun b=>b=l):=by
 refine⟨cq hl,l,vs,rfl,.inr ⟨by decide,aI,rfl,NoA,fun _ z=>z.elim,?_⟩⟩;refine Ows.mv (G:=NoA) ⟨fun a o q _=>(cq (o:=.lst vs) hl).1 a o q,fun a z=>?_⟩ ts (fun _ z=>z) h;rcases z with z|z
 ·exact .inr (by rw[show a=l from z];exact hl)
 ·exact .inl z
def gE(hl:H l=none)(hd:∀a,O a->∃o,H a=some o)(h:Ows K O H ts 0 vs NoA):NewTo H (upd H l (.tup vs)) NoA/\Ow K (U NoA O) (upd H l (.tup vs)) (.tuple ts) 0 (.ref l) NoA:=by
 refine⟨⟨(cq hl).1,fun _ z=>z.elim⟩,l,vs,rfl,.inl ⟨rfl,⟨aI,fun z=>?_⟩,?_⟩⟩
 ·rcases z with z|z
  ·exact z
  ·obtain⟨o,q⟩:=hd l z;rw[hl]at q;cases q
 ·refine Ows.mv (G:=NoA) ⟨fun a o q _=>(cq (o:=.tup vs) hl).1 a o q,fun a z=>?_⟩ ts (fun _ z=>z) h;rcases z with z|z
  ·exact z.elim
  ·exact .inl z
theorem Ows.app:∀{ts:List D} {vs:List V},Ows K O H ts 0 vs NoA->Ows K O H us 0 ws NoA->Ows K O H (ts++us) 0 (vs++ws) NoA
 |[],_,h,h2=>by rw[show _=[]from h];exact h2
 |t::ts,_,h,h2=>by
  obtain⟨v,r,F1,F2,e,_,_,_,h4,h5⟩:=h;subst e;exact⟨v,r++ws,NoA,NoA,rfl,fun _ z=>z,fun _ z=>z,fun _ z=>z.elim,Ow.any0 t h4,Ows.app (Ows.any0 ts h5) h2⟩
theorem Ows.drop:∀{ts:List D} {vs:List V} (n:Nat),Ows K O H ts 0 vs NoA->Ows K O H (ts.drop n) 0 (vs.drop n) NoA
 |ts,vs,0,h=>h
 |[],_,n+1,h=>by rw[show _=[]from h];rfl
 |t::ts,_,n+1,h=>by
  obtain⟨v,r,F1,F2,e,_,_,_,h4,h5⟩:=h;subst e;exact Ows.drop n (Ows.any0 ts h5)
theorem Ows.take:∀{ts:List D} {vs:List V} (n:Nat),Ows K O H ts 0 vs NoA->Ows K O H (ts.take n) 0 (vs.take n) NoA
 |ts,vs,0,h=>rfl
 |[],_,n+1,h=>by rw[show _=[]from h];rfl
 |t::ts,_,n+1,h=>by
  obtain⟨v,r,F1,F2,e,_,_,_,h4,h5⟩:=h;subst e;exact⟨v,r.take n,NoA,NoA,rfl,fun _ z=>z,fun _ z=>z,fun _ z=>z.elim,Ow.any0 t h4,Ows.take n (Ows.any0 ts h5)⟩
def Ow.lst0(h:Ow K O H (.list ts) 0 v NoA):∃a vs,v=.ref a/\FzL K O H a vs/\Ows K O H ts 0 vs NoA:=by
 obtain⟨a,vs,e,⟨_,h1,h2⟩|⟨z,_⟩⟩:=h
 ·exact⟨a,vs,e,h1,h2⟩
 ·exact absurd rfl z
def Ow.tup0(h:Ow K O H (.tuple ts) 0 v NoA):∃a vs,v=.ref a/\FzT K O H a vs/\Ows K O H ts 0 vs NoA:=by
 obtain⟨a,vs,e,⟨_,h1,h2⟩|⟨z,_⟩⟩:=h
 ·exact⟨a,vs,e,h1,h2⟩
 ·exact absurd rfl z
def Ows.one(h:Ows K O H [t] 0 vs NoA):∃v,vs=[v]/\Ow K O H t 0 v NoA:=by
 obtain⟨v,r,F1,F2,e,_,_,_,h4,h5⟩:=h;rw[show r=[]from h5]at e;exact⟨v,e,Ow.any0 t h4⟩
def Ows.two(h:Ows K O H [t,t2] 0 vs NoA):∃v w,vs=[v,w]/\Ow K O H t 0 v NoA/\Ow K O H t2 0 w NoA:=by
 obtain⟨v,r,F1,F2,e,_,_,_,h4,h5⟩:=h;obtain⟨w,e2,h6⟩:=Ows.one (Ows.any0 [t2] h5);subst e2;exact⟨v,w,e,Ow.any0 t h4,h6⟩
def bh:D->D->Option D
 |.int a,.int b=>some (.int (a+b))
 |.str a,.str b=>if a.length+b.length<=sizeLine then some (.str (a++b))else none
 |_,_=>none
def bC:OpR X (binaryOp .Add) (rF2 K bh 3):=(op_add.or' wU).imp fun x y H Q ⟨O,a,b,t,oa,ob,hd,hg,k⟩=>by
 cases a with
 |int i=>cases b with
  |int j=>cases hg;exact .inl ⟨i,j,oa,ob,k _ H NoA .refl rfl⟩
  |_=>cases hg
 |str i=>cases b with
  |str j=>
   dsimp only[bh]at hg
   by_cases hl:i.length+j.length<=sizeLine
   ·rw[if_pos hl]at hg;cases hg;exact .inr ⟨i,j,oa,ob,hl,k _ H NoA .refl rfl⟩
   ·rw[if_neg hl]at hg;cases hg
  |_=>cases hg
 |_=>cases hg
def jd(g:Int->Int->Option D):D->D->Option D
 |.int a,.int b=>g a b
 |_,_=>none
def dI{g:Int->Int->Option D}{a b:D}(h:jd g a b=some t):∃i j,a=.int i/\b=.int j/\g i j=some t:=by
 cases a with
 |int i=>cases b with
  |int j=>exact⟨i,j,rfl,rfl,h⟩
  |_=>cases h
 |_=>cases h
def dH:D->D->Option D:=jd fun a b=>some (.int (a-b))
def eF:OpR X (binaryOp .Sub) (rF2 K dH 3):=op_sub.imp fun x y H Q ⟨O,a,b,t,oa,ob,hd,hg,k⟩=>by
 obtain⟨i,j,rfl,rfl,h⟩:=dI hg;cases h;exact⟨i,j,oa,ob,k _ H NoA .refl rfl⟩
instance (i j:Int):Decidable (CMul i j):=by unfold CMul;exact inferInstance
instance (i j:Int):Decidable (jw i j):=by unfold jw;exact inferInstance
instance (i j:Int):Decidable (j1 i j):=by unfold j1;exact inferInstance
def cA:D->D->Option D:=jd fun a b=>if CMul a b then some (.int (a*b))else none
def ii:OpR X (binaryOp .Mult) (rF2 K cA 3):=op_mul.imp fun x y H Q ⟨O,a,b,t,oa,ob,hd,hg,k⟩=>by
 obtain⟨i,j,rfl,rfl,h⟩:=dI hg;by_cases hc:CMul i j
 ·rw[if_pos hc]at h;cases h;exact⟨i,j,oa,ob,hc,k _ H NoA .refl rfl⟩
 ·rw[if_neg hc]at h;cases h
def eo:D->D->Option D:=jd fun a b=>if jw a b then some (.int (a / b))else none
def we:OpR X (binaryOp .FloorDiv) (rF2 K eo 3):=op_fdiv.imp fun x y H Q ⟨O,a,b,t,oa,ob,hd,hg,k⟩=>by
 obtain⟨i,j,rfl,rfl,h⟩:=dI hg;by_cases hc:jw i j
 ·rw[if_pos hc]at h;cases h;exact⟨i,j,oa,ob,hc,k _ H NoA .refl rfl⟩
 ·rw[if_neg hc]at h;cases h
def bU:D->D->Option D:=jd fun a b=>if 0<b then some (.int (a % b))else none
def ij:OpR X (binaryOp .Mod) (rF2 K bU 3):=op_mod.imp fun x y H Q ⟨O,a,b,t,oa,ob,hd,hg,k⟩=>by
 obtain⟨i,j,rfl,rfl,h⟩:=dI hg;by_cases hc:0<j
 ·rw[if_pos hc]at h;cases h;exact⟨i,j,oa,ob,hc,k _ H NoA .refl rfl⟩
 ·rw[if_neg hc]at h;cases h
def l5:D->D->Option D:=jd fun a b=>if j1 a b then some (.int (a ^ b.toNat))else none
def zn:OpR X (binaryOp .Pow) (rF2 K l5 3):=op_pow.imp fun x y H Q ⟨O,a,b,t,oa,ob,hd,hg,k⟩=>by
 obtain⟨i,j,rfl,rfl,h⟩:=dI hg;by_cases hc:j1 i j
 ·rw[if_pos hc]at h;cases h;exact⟨i,j,oa,ob,hc,k _ H NoA .refl rfl⟩
 ·rw[if_neg hc]at h;cases h
def ltI:D->D->Option D:=jd fun a b=>some (.bool (decide (a<b)))
def leI:D->D->Option D:=jd fun a b=>some (.bool (decide (a<=b)))
def gtI:D->D->Option D:=jd fun a b=>some (.bool (decide (b<a)))
def geI:D->D->Option D:=jd fun a b=>some (.bool (decide (b<=a)))
def k8:OpR X (compareOp .Lt) (rF2 K ltI 3):=op_lt.imp fun x y H Q ⟨O,a,b,t,oa,ob,hd,hg,k⟩=>by
 obtain⟨i,j,rfl,rfl,h⟩:=dI hg;cases h;exact⟨i,j,oa,ob,k _ H NoA .refl rfl⟩
def k9:OpR X (compareOp .LtE) (rF2 K leI 3):=op_le.imp fun x y H Q ⟨O,a,b,t,oa,ob,hd,hg,k⟩=>by
 obtain⟨i,j,rfl,rfl,h⟩:=dI hg;cases h;exact⟨i,j,oa,ob,k _ H NoA .refl rfl⟩
def xz:OpR X (compareOp .Gt) (rF2 K gtI 3):=op_gt.imp fun x y H Q ⟨O,a,b,t,oa,ob,hd,hg,k⟩=>by
 obtain⟨i,j,rfl,rfl,h⟩:=dI hg;cases h;exact⟨i,j,oa,ob,k _ H NoA .refl rfl⟩
def EF:OpR X (compareOp .GtE) (rF2 K geI 3):=op_ge.imp fun x y H Q ⟨O,a,b,t,oa,ob,hd,hg,k⟩=>by
 obtain⟨i,j,rfl,rfl,h⟩:=dI hg;cases h;exact⟨i,j,oa,ob,k _ H NoA .refl rfl⟩
def iU:D->Bool
 |.none=>true
 |_=>false
def ug{a:D}{F:AS}(h:Ow K O H a d x F):decide (x=.non)=iU a:=by
 cases a with
 |none=>rw[show x=.non from h];rfl
 |bool b=>rw[show x=.bl b from h];rfl
 |int b=>rw[show x=.int b from h];rfl
 |str b=>rw[show x=.str b from h];rfl
 |list ts=>obtain⟨a,vs,e,_⟩:=h;rw[e];rfl
 |tuple ts=>obtain⟨a,vs,e,_⟩:=h;rw[e];rfl
 |dict ts=>obtain⟨a,vs,e,_⟩:=h;rw[e];rfl
def isN:D->D->Option D
 |a,.none=>some (.bool (iU a))
 |_,_=>none
def i9:D->D->Option D
 |a,.none=>some (.bool (!iU a))
 |_,_=>none
def mt:OpR X (compareOp .Is) (rF2 K isN 3):=op_isN.imp fun x y H Q ⟨O,a,b,t,oa,ob,hd,hg,k⟩=>by
 cases b with
 |none=>cases hg;exact⟨ob,by rw[ug oa];exact k _ H NoA .refl rfl⟩
 |_=>cases hg
def iV:OpR X (compareOp .IsNot) (rF2 K i9 3):=op_notN.imp fun x y H Q ⟨O,a,b,t,oa,ob,hd,hg,k⟩=>by
 cases b with
 |none=>cases hg;exact⟨ob,by rw[ug oa];exact k _ H NoA .refl rfl⟩
 |_=>cases hg
def N8:D->D->Option D
 |.str a,.str b=>some (.bool (yZ b a))
 |_,_=>none
def ND:D->D->Option D
 |.str a,.str b=>some (.bool (!yZ b a))
 |_,_=>none
def ixA:D->D->Option D
 |.list ts,.int n=>atI ts n
 |.tuple ts,.int n=>atI ts n
 |.str z,.int n=>if z.length<=sizeLine then(atI z.cps.toList n).map fun c=>.str (mk1 c)else none
 |_,_=>none
def bA(hK:X.K=K):IxR X (rF2 K ixA 0):=by
 subst hK;refine ix_seq.imp ?_;rintro x y H Q ⟨O,a,b,t,oa,ob,hd,hg,k⟩;cases b with
 |int n=>
  cases a with
  |list ts=>
   obtain⟨a,vs,e,fz,ow⟩:=oa.lst0;obtain⟨v,h1,h2⟩:=ow.atI hg;exact .inl ⟨a,vs,n,v,e,ob,fz.sq,h1,k v H NoA .refl (by rw[eP];exact h2)⟩
  |tuple ts=>
   obtain⟨a,vs,e,fz,ow⟩:=oa.tup0;obtain⟨v,h1,h2⟩:=ow.atI hg;exact .inr (.inl ⟨a,vs,n,v,e,ob,fz.sq,h1,k v H NoA .refl (by rw[eP];exact h2)⟩)
  |str z=>
   dsimp only[ixA]at hg
   by_cases hl:z.length<=sizeLine
   ·rw[if_pos hl]at hg;obtain⟨c,h1,h2⟩:=zab.mp hg;cases h2;exact .inr (.inr ⟨z,n,c,oa,ob,hl,h1,k _ H NoA .refl rfl⟩)
   ·rw[if_neg hl]at hg;cases hg
  |_=>cases hg
 |_=>cases a<;>cases hg
def ixT:D->D->Option D
 |.str z,.int n=>if z.length<=sizeLine then(atI z.cps.toList n).map fun c=>.str (mk1 c)else none
 |_,_=>none
def aV:D->D->Option D
 |.list a,.list b=>if a.length+b.length<=sizeLine then some (.list (a++b))else none
 |_,_=>none
def lj:D->D->Option D
 |.tuple a,.tuple b=>if a.length+b.length<=sizeLine then some (.tuple (a++b))else none
 |_,_=>none
end
def grd{α:Type}(c:Prop)[Decidable c](t:α):Option α:=if c then some t else none
def bI{α:Type}{c:Prop}[Decidable c]{t u:α}(h:grd c t=some u):c/\t=u:=by
 unfold grd at h;by_cases hc:c
 ·rw[if_pos hc]at h;exact⟨hc,zat h⟩
 ·rw[if_neg hc]at h;cases h
def fO{α:Type}{c:Prop}[Decidable c]{t:α}(h:c):grd c t=some t:=if_pos h
section
variable{ws:List V}{x:V} 
def LT(K:zbY):R2:=fun x y H Q=>∃l b xs zs,x=.ref l/\y=.ref b/\SqL K H l xs/\SqL K H b zs/\xs.length+zs.length<=sizeLine/\∀p,H p=none->Q (.ref p) (upd H p (.lst (xs++zs)))
def op_catL:OpR X (binaryOp .Add) (LT X.K):=by
 intro ρ s σ H x y v u Q I rx ry h;obtain⟨l,b,xs,zs,rfl,rfl,hH,hB,hz,q⟩:=h;cases rx;cases ry;obtain⟨its,r,⟨⟨c1,dd,da1,sl⟩,n,ho,hc,hdd,hda⟩,_⟩:=I.list hH;obtain⟨ν,r2,⟨⟨c2,dd2,da2,sl2⟩,n2,ho2,hc2,hdd2,hda2⟩,_⟩:=I.list hB;have hl:=r.length;have hl2:=r2.length;simp only at hc hda hc2 hda2;subst hc hda hc2 hda2;refine concat_meets ⟨_,ho,rfl⟩ ⟨_,ho2,rfl⟩ noFill_list_add seq_list_add PySem.F.slot_list_add PySem.F.entry_list_add (PySem.F.args_list_add_2 _ _) (list_addW l b its.toArray ν.toArray n n2 dd dd2 sl sl2 (by simp only[zai];omega)) ⟨ho,ho2,?_⟩;have ea:its.toArray++ν.toArray=(its++ν).toArray:=by simp
 rw[ea];exact⟨.ref _,_,I.lnew (t':=s.toks) (r.append r2) (by rw[zae];omega),rfl,q _ I.fresh⟩
def aQ(hK:X.K=K):OpR X (binaryOp .Add) (rF2 K aV 1):=by
 subst hK;refine op_catL.imp ?_;rintro x y H Q ⟨O,a,b,t,oa,ob,hd,hg,k⟩;cases a with
 |list ts=>cases b with
  |list us=>
   dsimp only[aV]at hg
   by_cases hl:ts.length+us.length<=sizeLine
   case neg=>rw[if_neg hl]at hg;cases hg
   rw[if_pos hl]at hg;cases hg;obtain⟨a,vs,e1,f1,w1⟩:=oa.lst0;obtain⟨b,ws,e2,f2,w2⟩:=ob.lst0;refine⟨a,b,vs,ws,e1,e2,f1.sq,f2.sq,by rw[w1.len,w2.len];exact hl,fun p hp=>?_⟩;obtain⟨n1,n2⟩:=ck hp hd (w1.app w2);exact k _ _ _ n1 n2
  |_=>cases hg
 |_=>cases hg
def kg(hK:X.K=K):OpR X (binaryOp .Add) (rF2 K lj 0):=by
 intro ρ s σ H x y v u Q I rx ry ⟨O,a,b,t,oa,ob,hd,hg,k⟩;cases a with
 |tuple ts=>cases b with
  |tuple us=>
   dsimp only[lj]at hg
   by_cases hl:ts.length+us.length<=sizeLine
   case neg=>rw[if_neg hl]at hg;cases hg
   rw[if_pos hl]at hg;cases hg;obtain⟨a,vs,e1,f1,w1⟩:=oa.tup0;obtain⟨b,ws,e2,f2,w2⟩:=ob.tup0;have l1:=w1.len;have l2:=w2.len;by_cases hx:vs=[]
   ·subst hx;have et:ts=[]:=za7.mp l1.symm;subst et;refine Ax hK ρ s σ H x y v u Q I rx ry ⟨a,b,ws,e1,e2,f1.sq,f2.sq,?_⟩;rw[<-e2];exact k y H NoA .refl (by rw[eP];exact ob)
   ·refine Ma hK ρ s σ H x y v u Q I rx ry ⟨a,b,vs,ws,e1,e2,f1.sq,f2.sq,hx,by omega,fun hy=>?_,fun hy p hp=>?_⟩
    ·subst hy;have et:us=[]:=za7.mp l2.symm;subst et;rw[<-e1];exact k x H NoA .refl (by rw[eP,zbs];exact oa)
    ·obtain⟨n1,n2⟩:=gE hp hd (w1.app w2);exact k _ _ _ n1 n2
  |_=>cases hg
 |_=>cases hg
def LQ(K:zbY):R2:=fun x y H Q=>∃l k xs,x=.ref l/\y=.int k/\SqL K H l xs/\-(2 ^ 63)<=k/\k<2 ^ 63/\xs.length*k.toNat<=sizeLine/\∀p,H p=none->Q (.ref p) (upd H p (.lst (List.replicate k.toNat xs).flatten))
def op_repL:OpR X (binaryOp .Mult) (LQ X.K):=by
 intro ρ s σ H x y v u Q I rx ry h;obtain⟨l,k,xs,rfl,rfl,hH,h1,h2,hz,q⟩:=h;cases rx;obtain⟨t,rfl⟩:=ry;obtain⟨its,r,⟨⟨c1,dd,da1,sl⟩,n,ho,hc,hdd,hda⟩,_⟩:=I.list hH;have hl:=r.length;simp only at hc hda;subst hc hda;have ξ:its.toArray.size*k.toNat<=sizeLine:=by rw[zai,<-hl];exact hz
 have hcap:¬its.toArray.size*k.toNat>(2 ^ 63-1) / 8:=by
  have:(sizeLine:Nat)<=(2 ^ 63-1) / 8:=by decide
  omega
 have hfit:¬(!Builtin.List.listFitsIndex k)=true:=by
  rw[fitsIndex_both h1 h2];exact zbn
 have hlong:¬Builtin.List.listTooLong (its.toArray.size*k.toNat)=true:=by
  rw[Az ξ];exact zbn
 refine wpAny_binaryOp_repeat_ref (T:="list") (U:="int") (by decide) ⟨_,ho,rfl⟩ (fun s'=>typeIs_int s' k t) noFill_list_mul F.fills_int_mul F.slot_int_rmul repeat_list F.slot_int_index.lookup
  (call_meets F.slot_int_rmul (typeIs_int s k t) F.entry_int_rmul (F.args_int_rmul_2 _ _) (lm_int_rmul_list_any k t l its.toArray n dd sl)
   ⟨ho,rfl,⟨_,ho,rfl⟩,call_meets F.slot_list_mul ⟨_,ho,rfl⟩ F.entry_list_mul (F.args_list_mul_2 _ _)
    (lm_list_mul_any l its.toArray n dd sl k t hfit hcap hlong) ⟨ho,?_⟩⟩)
 rw[listMul_foldl_if];exact⟨.ref _,_,I.lnew (t':=s.toks) (r.rep k.toNat) (by rw[Fx,Nat.mul_comm];exact hz),rfl,q _ I.fresh⟩
theorem Ows.rep(h:Ows K O H ts 0 vs NoA):∀n:Nat,Ows K O H (List.replicate n ts).flatten 0 (List.replicate n vs).flatten NoA
 |0=>rfl
 |n+1=>by
  rw[List.replicate_succ,List.replicate_succ,List.flatten_cons,List.flatten_cons];exact h.app (Ows.rep h n)
def w6:D->D->Option D
 |.list ts,.int k=>grd (-(2 ^ 63)<=k/\k<2 ^ 63/\ts.length*k.toNat<=sizeLine) (.list (List.replicate k.toNat ts).flatten)
 |_,_=>none
def wd(hK:X.K=K):OpR X (binaryOp .Mult) (rF2 K w6 1):=by
 subst hK;refine op_repL.imp ?_;rintro x y H Q ⟨O,a,b,t,oa,ob,hd,hg,k⟩;cases a with
 |list ts=>cases b with
  |int n=>
   obtain⟨⟨c1,c2,c3⟩,rfl⟩:=bI hg;obtain⟨a,vs,e1,f1,w1⟩:=oa.lst0;refine⟨a,n,vs,e1,ob,f1.sq,c1,c2,by rw[w1.len];exact c3,fun p hp=>?_⟩;obtain⟨n1,n2⟩:=ck hp hd (w1.rep n.toNat);exact k _ _ _ n1 n2
  |_=>cases hg
 |_=>cases hg
def N7:D->D->Option D
 |.str z,.int k=>grd (z.length<=4000/\-(2 ^ 63)<=k/\k<=4000) (.str (Txt.mul z k))
 |_,_=>none
def ca:D->Option D
 |.int i=>some (.int (-i))
 |_=>none
def cg:UnR X (unaryOp .USub) (rF1 K ca 3):=un_neg.imp fun x H Q ⟨O,a,t,oa,hd,hg,k⟩=>by
 cases a with
 |int i=>cases hg;exact⟨i,oa,k _ H NoA .refl rfl⟩
 |_=>cases hg
def aK:List D->Option D
 |[.list ts]=>some (.int ts.length)
 |[.tuple ts]=>some (.int ts.length)
 |[.str z]=>grd (z.length<=sizeLine) (.int z.length)
 |_=>none
def KI(hK:X.K=K):CallR X (.builtin "len") (rFn K aK 3):=(Ng hK).imp fun xs H Q ⟨O,as,t,oa,hd,hg,k⟩=>by
 match as,hg with
 |[.list ts],hg=>
  cases hg;obtain⟨v,rfl,o⟩:=oa.one;obtain⟨a,vs,rfl,fz,w⟩:=o.lst0;exact⟨_,_,rfl,.inl ⟨vs,fz.sq,rfl⟩,by rw[w.len];exact k _ H NoA .refl rfl⟩
 |[.tuple ts],hg=>
  cases hg;obtain⟨v,rfl,o⟩:=oa.one;obtain⟨a,vs,rfl,fz,w⟩:=o.tup0;exact⟨_,_,rfl,.inr ⟨vs,fz.sq,rfl⟩,by rw[w.len];exact k _ H NoA .refl rfl⟩
 |[.str z],hg=>
  obtain⟨c,rfl⟩:=bI hg;obtain⟨v,rfl,o⟩:=oa.one;exact⟨_,_,rfl,by rw[show v=.str z from o];exact⟨c,rfl⟩,k _ H NoA .refl rfl⟩
def mC:List D->Option D
 |[.int i]=>some (.int (if i<0 then -i else i))
 |_=>none
def zp:CallR X (.builtin "abs") (rFn K mC 3):=call_abs.imp fun xs H Q ⟨O,as,t,oa,hd,hg,k⟩=>by
 match as,hg with
 |[.int i],hg=>
  cases hg;obtain⟨v,rfl,o⟩:=oa.one;exact⟨i,by rw[show v=.int i from o],k _ H NoA .refl rfl⟩
def su:List D->Option D
 |[.int i,.int j]=>some (.int (if j>i then j else i))
 |_=>none
def NW:List D->Option D
 |[.int i,.int j]=>some (.int (if j<i then j else i))
 |_=>none
def Gh(hc:X.calm=true):CallR X (.builtin "max") (rFn K su 3):=(zN hc).imp fun xs H Q ⟨O,as,t,oa,hd,hg,k⟩=>by
 match as,hg with
 |[.int i,.int j],hg=>
  cases hg;obtain⟨v,w,rfl,o,o2⟩:=oa.two;exact⟨i,j,by rw[show v=.int i from o,show w=.int j from o2],k _ H NoA .refl rfl⟩
def kZ:List D->Option D
 |[.int i]=>some (.int i)
 |[.bool b]=>some (.int (if b then 1 else 0))
 |_=>none
def zo:CallR X (.type "int") (rFn K kZ 3):=call_int1.imp fun xs H Q ⟨O,as,t,oa,hd,hg,k⟩=>by
 match as,hg with
 |[.int i],hg=>
  cases hg;obtain⟨v,rfl,o⟩:=oa.one;exact .inl ⟨i,by rw[show v=.int i from o],k _ H NoA .refl rfl⟩
 |[.bool i],hg=>
  cases hg;obtain⟨v,rfl,o⟩:=oa.one;exact .inr ⟨i,by rw[show v=.bl i from o],k _ H NoA .refl rfl⟩
def oV(z:Str):List D:=(li z).map fun c=>.str (mk1 c)
def tm:Ows K O H (oV z) 0 (eW z) NoA:=by
 unfold oV eW;show Ows K O H ((li z).map fun c=>.str (mk1 c)) 0 ((li z).map sgn) NoA;generalize li z=l
 induction l with
 |nil=>rfl
 |cons c r ih=>exact⟨sgn c,r.map sgn,NoA,NoA,rfl,fun _ z=>z,fun _ z=>z,fun _ z=>z.elim,rfl,ih⟩
def gP:List D->Option D
 |[.list ts]=>some (.list ts)
 |[.tuple ts]=>some (.list ts)
 |[.str z]=>grd (z.cps.size<=sizeLine) (.list (oV z))
 |_=>none
def m7(hK:X.K=K)(hc:X.calm=true):CallR X (.type "list") (rFn K gP 1):=((FA hK).or' (qL hc)).imp fun xs H Q ⟨O,as,t,oa,hd,hg,k⟩=>by
 match as,hg with
 |[.list ts],hg=>
  cases hg;obtain⟨v,rfl,o⟩:=oa.one;obtain⟨a,vs,rfl,fz,w⟩:=o.lst0;exact .inl ⟨a,vs,rfl,.inl fz.sq,fun l hl=>k _ _ _ (ck hl hd w).1 (ck hl hd w).2⟩
 |[.tuple ts],hg=>
  cases hg;obtain⟨v,rfl,o⟩:=oa.one;obtain⟨a,vs,rfl,fz,w⟩:=o.tup0;exact .inl ⟨a,vs,rfl,.inr fz.sq,fun l hl=>k _ _ _ (ck hl hd w).1 (ck hl hd w).2⟩
 |[.str z],hg=>
  obtain⟨c,rfl⟩:=bI hg;obtain⟨v,rfl,o⟩:=oa.one;exact .inr ⟨z,by rw[show v=.str z from o],c,fun l hl=>k _ _ _ (ck (K:=K) hl hd tm).1 (ck hl hd tm).2⟩
def qm:List D->Option D
 |[.list ts]=>some (.tuple ts)
 |[.tuple ts]=>some (.tuple ts)
 |_=>none
def uo(hK:X.K=K):CallR X (.type "tuple") (rFn K qm 0):=(J9 hK).imp fun xs H Q ⟨O,as,t,oa,hd,hg,k⟩=>by
 match as,hg with
 |[.list ts],hg=>
  cases hg;obtain⟨v,rfl,o⟩:=oa.one;obtain⟨a,vs,rfl,fz,w⟩:=o.lst0;exact⟨a,vs,rfl,.inl ⟨fz.sq,fun l hl=>k _ _ _ (gE hl hd w).1 (gE hl hd w).2⟩⟩
 |[.tuple ts],hg=>
  cases hg;obtain⟨v,rfl,o⟩:=oa.one;obtain⟨a,vs,rfl,fz,w⟩:=o.tup0;exact⟨a,vs,rfl,.inr ⟨fz.sq,k _ H NoA .refl (by rw[eP];exact o)⟩⟩
def iW:List D->Option (List Bool)
 |[]=>some []
 |.bool b::r=>(iW r).map (b::·)
 |_::_=>none
theorem qX:∀{ts:List D} {vs:List V} {bs:List Bool},Ows K O H ts 0 vs NoA->iW ts=some bs->vs=bs.map V.bl
 |[],_,_,h,hb=>by cases hb;exact h
 |.bool b::r,_,_,h,hb=>by
  obtain⟨v,w,F1,F2,e,_,_,_,h4,h5⟩:=h;obtain⟨bs',h6,h7⟩:=zab.mp hb;subst e h7;rw[show v=.bl b from h4,qX (Ows.any0 r h5) h6];rfl
 |.none::_,_,_,_,hb=>by cases hb
 |.int _::_,_,_,_,hb=>by cases hb
 |.str _::_,_,_,_,hb=>by cases hb
 |.list _::_,_,_,_,hb=>by cases hb
 |.tuple _::_,_,_,_,hb=>by cases hb
 |.dict _::_,_,_,_,hb=>by cases hb
def jg:List D->Option D
 |[.list ts]=>(iW ts).map fun bs=>.bool (bs.all id)
 |_=>none
def je(hK:X.K=K)(hc:X.calm=true):CallR X (.builtin "all") (rFn K jg 3):=(Ni hK hc).imp fun xs H Q ⟨O,as,t,oa,hd,hg,k⟩=>by
 match as,hg with
 |[.list ts],hg=>
  obtain⟨bs,h1,rfl⟩:=zab.mp hg;obtain⟨v,rfl,o⟩:=oa.one;obtain⟨a,vs,rfl,fz,w⟩:=o.lst0;have e:=qX w h1;subst e;exact⟨a,bs,rfl,fz.sq,k _ H NoA .refl rfl⟩
def tyN:D->String
 |.none=>"NoneType" |.bool _=>"bool" |.int _=>"int" |.str _=>"str" |.list _=>"list" |.tuple _=>"tuple" |.dict _=>"dict"
def bO(n T:String):Bool:=n==T || (n=="bool"&&T=="int")
def v7(hT:T∈["int","bool","str","list","tuple","dict"])(a:D):PySem.W.kitOne K (.type (tyN a)) (.type T)=some (bO (tyN a) T):=by
 simp only[zay,zap,or_false]at hT;rcases hT with rfl|rfl|rfl|rfl|rfl|rfl<;>cases a<;>rfl
def isX:D->Bool
 |.dict [(.none,.str _)]=>true
 |_=>false
def LR(K:zbY):List V->Hp->VK->Prop:=fun xs H Q=>∃x T,∃(O:AS) (a:D),xs=[x,.ty T]/\Ow K O H a 0 x NoA/\isX a=false/\T∈["int","bool","str","list","tuple","dict"]/\Q (.bl (bO (tyN a) T)) H
def zO:CallR X (.builtin "isinstance") (LR X.K):=by
 intro ρ s σ H xs us Q I r h;obtain⟨x,T,O,a,rfl,oa,hX,hT,q⟩:=h;have base:∀ty,TyOf X.K H x (.type ty)->tyN a=ty->wpAny (model X.prog X.w) X.A (call (.builtin "isinstance") us) (EP X ρ σ Q) X.xe s:=fun ty h1 h2=>by
  refine Bv ρ s σ H _ us Q I r ⟨x,.type ty,T,bO (tyN a) T,rfl,h1,?_,q⟩;rw[<-h2];exact v7 hT a
 cases a with
 |none=>exact base _ (by rw[show x=.non from oa];exact .non) rfl
 |bool b=>exact base _ (by rw[show x=.bl b from oa];exact .bl b) rfl
 |int b=>exact base _ (by rw[show x=.int b from oa];exact .int b) rfl
 |str b=>exact base _ (by rw[show x=.str b from oa];exact .str b) rfl
 |tuple ts=>
  obtain⟨p,vs,rfl,fz,w⟩:=oa.tup0;exact base _ (.tup fz.1) rfl
 |dict ts=>
  obtain⟨p,vs,rfl,⟨_,h1,_⟩|⟨_,h1,_⟩|⟨_,⟨kk,b,_,h1,_⟩|⟨cn,C,h0,_⟩⟩⟩:=oa
  ·exact base _ (.dK h1) rfl
  ·exact base _ (.dK (.inl h1)) rfl
  ·exact base _ (.dT h1) rfl
  ·subst h0;cases hX
 |list ts=>
  obtain⟨p,vs,rfl,fz,w⟩:=oa.lst0;obtain⟨u,u2,rfl,r1,r2⟩:=r.two;cases r1;cases r2;obtain⟨its,rv,pl,_⟩:=I.list fz.sq;have e:=v7 (K:=X.K) hT (.list ts);obtain⟨o,n,h1,h2,_⟩:=pl;exact PySem.W.kia_one PySem.W.kitx_list I.kIn ⟨o,h1,h2⟩ e (fun z=>nomatch z) fun tk=>⟨.bl _,H,I.tok tk,rfl,q⟩
end
def bg(T:String):D->Option D:=fun a=>if isX a=true then none else some (.bool (bO (tyN a) T))
def K1{T:Str}{n:String}{pt:Pos}(hK:X.K=K)(hg:Gl X "isinstance")(hm:X.mg "isinstance"=none)(hgT:Gl X T)(hmT:X.mg T=none)(hbT:bootBuiltins T=some (.type n))(hT:n∈["int","bool","str","list","tuple","dict"])(he:PE X e (tF K p ds ds1 d1 f))
  (hnT:T≠"__name__") (hdT:(T==("__debug__":Str))=false)
  (hs1:starEach [e,.Name T pt] X.env=(false,eval e X.env)::starEach [.Name T pt] X.env) (hs2:starEach [.Name T pt] X.env=(false,eval (.Name T pt) X.env)::starEach [] X.env) (hpl:(backTo pos (starEach [.Name T pt] X.env)).any (·.1)=false):
  PE X (.Call (.Name "isinstance" px) [e,.Name T pt] [] pos) (tF K p ds ds1 3 (e1 (bg n) f)):=by
 subst hK;refine(tj zO hg hm boot_isinstance (j8 he (j8 (Fi (v:=.ty n) hgT hmT hbT rfl hnT hdT) pa_nil hs2) hs1) (by decide) (by decide) hs1 hpl).imp fun σ H Q h=>?_;obtain⟨Ox,en,R,t,en',e,hf,k⟩:=h;unfold e1 at hf;obtain⟨⟨t1,en1⟩,h1,hf⟩:=zaa.mp hf;obtain⟨t',h3,hf⟩:=zab.mp hf;cases hf;unfold bg at h3;by_cases hX:isX t1=true
 ·rw[if_pos hX]at h3;cases h3
 rw[if_neg hX]at h3;cases h3;refine⟨Ox,en,R,t1,en1,e,h1,fun v H' R' F P o=>?_⟩;exact⟨v,n,Own R' Ox,t1,rfl,Ow.letgo P (fun _ z=>z) o,Bool.eq_false_iff.mpr hX,hT,k _ H' R' NoA (P.less fun _ z=>z.elim) rfl⟩
mutual
def peq:D->D->Bool
 |.none,.none=>true
 |.bool a,.bool b=>a==b
 |.bool a,.int b=>(if a then(1:Int)else 0)==b
 |.int a,.bool b=>a==(if b then(1:Int)else 0)
 |.int a,.int b=>a==b
 |.str a,.str b=>a==b
 |.list a,.list b=>fK a b
 |.tuple a,.tuple b=>fK a b
 |_,_=>false
def fK:List D->List D->Bool
 |[],[]=>true
 |a::r,b::s=>peq a b&&fK r s
 |_,_=>false
end
mutual
def noDict:D->Bool
 |.dict _=>false
 |.list ts=>aF ts
 |.tuple ts=>aF ts
 |_=>true
def aF:List D->Bool
 |[]=>true
 |t::r=>noDict t&&aF r
end
mutual
theorem kQ:∀a:D,noDict a=true->peq a a=true
 |.none,_=>rfl
 |.bool b,_=>by cases b<;>rfl
 |.int i,_=>by simp[peq]
 |.str i,_=>by simp[peq]
 |.list ts,h=>by simp only[peq];exact l7 ts (by simpa[noDict]using h)
 |.tuple ts,h=>by simp only[peq];exact l7 ts (by simpa[noDict]using h)
 |.dict _,h=>by simp[noDict]at h
theorem l7:∀a:List D,aF a=true->fK a a=true
 |[],_=>rfl
 |t::r,h=>by
  have h':noDict t=true/\aF r=true:=by simpa[aF]using h
  simp only[fK,kQ t h'.1,l7 r h'.2,zbk]
end
mutual
def dZ:D->Nat
 |.list ts=>bP ts+1
 |.tuple ts=>bP ts+1
 |_=>0
def bP:List D->Nat
 |[]=>0
 |t::r=>max (dZ t) (bP r)
end
theorem my:∀{ts:List D} {i:Nat} {t:D},ts[i]?=some t->dZ t<=bP ts
 |[],_,_,h=>by simp at h
 |u::r,i,t,h=>by
  simp only[bP];cases i with
  |zero=>simp at h;subst h;exact Nat.le_max_left _ _
  |succ i=>exact zau (my (by simpa using h)) (Nat.le_max_right _ _)
theorem fq:∀{ts:List D} {i:Nat} {t:D},aF ts=true->ts[i]?=some t->noDict t=true
 |[],_,_,_,h=>by simp at h
 |u::r,i,t,hn,h=>by
  have h':noDict u=true/\aF r=true:=by simpa[aF]using hn
  cases i with
  |zero=>simp at h;subst h;exact h'.1
  |succ i=>exact fq h'.2 (by simpa using h)
theorem oC:∀{a b:List D},a.length≠b.length->fK a b=false
 |[],[],h=>absurd rfl h
 |[],_::_,_=>rfl
 |_::_,[],_=>rfl
 |a::r,b::s,h=>by
  simp only[fK,oC (a:=r) (b:=s) (fun z=>h (by rw[zac,zac,z])),zbX]
def eAt(a b:List D)(j:Nat):Bool:=match a[j]?,b[j]? with
 |some x,some y=>peq x y
 |_,_=>true
def qO(n:Nat)(f:Nat->Bool):(List.range (n+1)).all f=(f 0&&(List.range n).all fun j=>f (j+1)):=by
 rw[List.range_succ_eq_map,List.all_cons,List.all_map];rfl
theorem oD:∀{a b:List D},a.length=b.length->(List.range a.length).all (eAt a b)=fK a b
 |[],[],_=>rfl
 |a::r,b::s,h=>by
  rw[zac,qO];have e:(List.range r.length).all (fun j=>eAt (a::r) (b::s) (j+1))=(List.range r.length).all (eAt r s):=by
   congr 1
  rw[e,oD (by simpa using h)];rfl
 |[],_::_,h=>by simp at h
 |_::_,[],h=>by simp at h
section
open PySem.SeqAt
variable{s:Shared} 
def Er{p:Addr}{ws:List V}(I:Inv X ρ σ H s)(h:SqL X.K H p vs)(g:SqT X.K H p ws):False:=by
 obtain⟨its,_,p1,_⟩:=I.list h;obtain⟨ν,_,p2,_⟩:=I.tuple g;exact ne_of_list_tuple p1.isList (show s.heap.IsTuple p ν.toArray from p2) rfl
def JT{p:Addr}{ks:List (List Key×V)}(I:Inv X ρ σ H s)(h:SqL X.K H p vs)(g:H p=some (.dT ks)):False:=by
 obtain⟨its,_,⟨o,n,e1,e2,_⟩,_⟩:=I.list h;obtain⟨_,_,_,_,o',_,_,g1,g2,_⟩:=xE I.hok g;rw[e1]at g1;cases g1;rw[g2.1]at e2;simp at e2
def L4{p:Addr}{ks:List (Key×V)}(I:Inv X ρ σ H s)(h:SqL X.K H p vs)(g:Rd H p (.dK ks)):False:=by
 obtain⟨its,_,⟨o,n,e1,e2,_⟩,_⟩:=I.list h;obtain⟨_,_,_,_,o',_,_,g1,g2,_⟩:=iP I.hok g;rw[e1]at g1;cases g1;rw[g2.1]at e2;simp at e2
mutual
theorem Ow.inj(I:Inv X ρ σ H s):∀(a b:D) {x:V},Ow X.K O H a 0 x NoA->Ow X.K O H b 0 x NoA->noDict a=true->a=b
 |.none,b,_,h,g,_=>by
  cases(show _=_ from h);cases b with
  |none=>rfl
  |list ts=>obtain⟨_,_,z,_⟩:=g;cases z
  |tuple ts=>obtain⟨_,_,z,_⟩:=g;cases z
  |dict ts=>obtain⟨_,_,z,_⟩:=g;cases z
  |bool c=>cases(show V.non=V.bl c from g)
  |int c=>cases(show V.non=V.int c from g)
  |str c=>cases(show V.non=V.str c from g)
 |.bool c,b,_,h,g,_=>by
  cases(show _=_ from h);cases b with
  |none=>cases(show V.bl c=V.non from g)
  |list ts=>obtain⟨_,_,z,_⟩:=g;cases z
  |tuple ts=>obtain⟨_,_,z,_⟩:=g;cases z
  |dict ts=>obtain⟨_,_,z,_⟩:=g;cases z
  |bool c'=>cases(show V.bl c=V.bl c' from g);rfl
  |int c'=>cases(show V.bl c=V.int c' from g)
  |str c'=>cases(show V.bl c=V.str c' from g)
 |.int c,b,_,h,g,_=>by
  cases(show _=_ from h);cases b with
  |none=>cases(show V.int c=V.non from g)
  |list ts=>obtain⟨_,_,z,_⟩:=g;cases z
  |tuple ts=>obtain⟨_,_,z,_⟩:=g;cases z
  |dict ts=>obtain⟨_,_,z,_⟩:=g;cases z
  |bool c'=>cases(show V.int c=V.bl c' from g)
  |int c'=>cases(show V.int c=V.int c' from g);rfl
  |str c'=>cases(show V.int c=V.str c' from g)
 |.str c,b,_,h,g,_=>by
  cases(show _=_ from h);cases b with
  |none=>cases(show V.str c=V.non from g)
  |list ts=>obtain⟨_,_,z,_⟩:=g;cases z
  |tuple ts=>obtain⟨_,_,z,_⟩:=g;cases z
  |dict ts=>obtain⟨_,_,z,_⟩:=g;cases z
  |bool c'=>cases(show V.str c=V.bl c' from g)
  |int c'=>cases(show V.str c=V.int c' from g)
  |str c'=>cases(show V.str c=V.str c' from g);rfl
 |.list ts,b,_,h,g,hn=>by
  obtain⟨p,vs,rfl,fz,w⟩:=h.lst0;cases b with
  |none=>cases(show V.ref p=V.non from g)
  |bool c'=>cases(show V.ref p=V.bl c' from g)
  |int c'=>cases(show V.ref p=V.int c' from g)
  |str c'=>cases(show V.ref p=V.str c' from g)
  |list us=>
   obtain⟨p',vs',e,fz',w'⟩:=g.lst0;cases e
   have:=I.list_inj fz.sq fz'.sq;subst this;rw[Ows.inj I ts us w w' (by simpa[noDict]using hn)]
  |tuple us=>
   obtain⟨p',vs',e,fz',w'⟩:=g.tup0;cases e;exact(Er I fz.sq fz'.sq).elim
  |dict us=>
   obtain⟨p',vs',e,⟨_,g1,_⟩|⟨z,_⟩|⟨_,⟨_,_,_,g1,_⟩|⟨_,C,_,_,g1,_⟩⟩⟩:=g
   ·cases e;exact(L4 I fz.sq g1).elim
   ·exact absurd rfl z
   ·cases e;exact(JT I fz.sq g1).elim
   ·cases e;obtain⟨its,rv,⟨o,n,e1,e2,_⟩,_⟩:=I.list fz.sq;obtain⟨⟨o',x1,x2,_⟩,_⟩:=(show ObjOk X.prog X.w H s.heap p (.ext (Lf p C))from I.hok p _ g1);rw[e1]at x1;cases x1;rw[e2]at x2;cases x2
 |.tuple ts,b,_,h,g,hn=>by
  obtain⟨p,vs,rfl,fz,w⟩:=h.tup0;cases b with
  |none=>cases(show V.ref p=V.non from g)
  |bool c'=>cases(show V.ref p=V.bl c' from g)
  |int c'=>cases(show V.ref p=V.int c' from g)
  |str c'=>cases(show V.ref p=V.str c' from g)
  |tuple us=>
   obtain⟨p',vs',e,fz',w'⟩:=g.tup0;cases e
   have:=fz.1.symm.trans fz'.1;cases this;rw[Ows.inj I ts us w w' (by simpa[noDict]using hn)]
  |list us=>
   obtain⟨p',vs',e,fz',w'⟩:=g.lst0;cases e;exact(Er I fz'.sq fz.sq).elim
  |dict us=>
   obtain⟨p',vs',e,⟨_,g1,_⟩|⟨z,_⟩|⟨_,⟨_,_,_,g1,_⟩|⟨_,C,_,_,g1,_⟩⟩⟩:=g
   ·cases e;rcases g1 with g1|⟨_,g1⟩<;>rw[fz.1]at g1<;>cases g1
   ·exact absurd rfl z
   ·cases e;rw[fz.1]at g1;cases g1
   ·cases e;rw[fz.1]at g1;cases g1
 |.dict _,_,_,_,_,hn=>by simp[noDict]at hn
theorem Ows.inj(I:Inv X ρ σ H s):∀(a b:List D) {x:List V},Ows X.K O H a 0 x NoA->Ows X.K O H b 0 x NoA->aF a=true->a=b
 |[],b,_,h,g,_=>by
  cases(show _=_ from h);cases b with
  |nil=>rfl
  |cons u us=>obtain⟨_,_,_,_,e,_⟩:=g;cases e
 |t::ts,b,_,h,g,hn=>by
  obtain⟨v,r,F1,F2,e,_,_,_,h4,h5⟩:=h;subst e;have hn':noDict t=true/\aF ts=true:=by simpa[aF]using hn
  cases b with
  |nil=>cases(show v::r=[]from g)
  |cons u us=>
   obtain⟨v',r',G1,G2,e,_,_,_,g4,g5⟩:=g;cases e;rw[Ow.inj I t u (Ow.any0 t h4) (Ow.any0 u g4) hn'.1,Ows.inj I ts us (Ows.any0 ts h5) (Ows.any0 us g5) hn'.2]
end
def uf{ws:List V}{its ν:List Value}(w:Ows X.K O H ts 0 vs NoA)(w2:Ows X.K O H us 0 ws NoA)(rv:Vals vs its)(rv2:Vals ws ν)
  (ih:∀(j:Nat) a b x y v u,ts[j]?=some a->us[j]?=some b->Ow X.K O H a 0 x NoA->Ow X.K O H b 0 y NoA->RelV x v->RelV y u->EqAt A s v u (peq a b)):
  ∀j (h1:j<its.toArray.size) (h2:j<ν.toArray.size),EqAt A s its.toArray[j] ν.toArray[j] (eAt ts us j):=fun j h1 h2=>by
 have h1':j<its.length:=by simpa using h1
 have h2':j<ν.length:=by simpa using h2
 have l1:=rv.length;have l2:=rv2.length;have m1:=w.len;have m2:=w2.len;have e1:ts[j]?=some ts[j]:=zak (by omega);have e2:us[j]?=some us[j]:=zak (by omega);obtain⟨x,g1,o1⟩:=w.get e1;obtain⟨y,g2,o2⟩:=w2.get e2;obtain⟨u1,f1,q1⟩:=rv.get g1;obtain⟨u2,f2,q2⟩:=rv2.get g2;have z:=ih j _ _ x y u1 u2 e1 e2 o1 o2 q1 q2;rw[zak h1']at f1;rw[zak h2']at f2;have i1:its.toArray[j]=u1:=by simpa using zat f1
 have i2:ν.toArray[j]=u2:=by simpa using zat f2
 rw[i1,i2];unfold eAt;rw[e1,e2];exact z
inductive Kd(s:Shared):D->Value->Prop
 |n:Kd s .none .none
 |b (c:Bool):Kd s (.bool c) (.bool c)
 |i (c:Int) (t:Nat):Kd s (.int c) (.int c t)
 |t (c:Str) (t:Nat):Kd s (.str c) (.str c t)
 |l {c:List D} {p:Addr} {z:Array Value} (h:s.heap.IsList p z):Kd s (.list c) (.ref p)
 |u {c:List D} {p:Addr} {z:Array Value} (h:s.heap.IsTuple p z):Kd s (.tuple c) (.ref p)
def sv(I:Inv X ρ σ H s){a:D}{x:V}{v:Value}(hn:noDict a=true)(o:Ow X.K O H a 0 x NoA)(r:RelV x v):Kd s a v:=by
 cases a with
 |none=>cases(show x=V.non from o);cases r;exact .n
 |bool c=>cases(show x=V.bl c from o);cases r;exact .b c
 |int c=>cases(show x=V.int c from o);obtain⟨t,rfl⟩:=r;exact .i c t
 |str c=>cases(show x=V.str c from o);obtain⟨t,rfl⟩:=r;exact .t c t
 |list c=>
  obtain⟨p,vs,rfl,fz,w⟩:=o.lst0;cases r;obtain⟨its,rv,pl,_⟩:=I.list fz.sq;exact .l pl.isList
 |tuple c=>
  obtain⟨p,vs,rfl,fz,w⟩:=o.tup0;cases r;obtain⟨its,rv,pl,_⟩:=I.tuple fz.sq;have hl:s.heap.IsTuple p its.toArray:=pl;exact .u hl
 |dict c=>simp[noDict]at hn
def sqB:D->D->Bool
 |.list _,.list _=>true
 |.tuple _,.tuple _=>true
 |_,_=>false
def Ex:∀{a b:D} {v u:Value},Kd s a v->Kd s b u->sqB a b=false->A.units<cLine->EqAt A s v u (peq a b)/\RcAt A s v u (peq a b)/\RcNeAt A s v u (!peq a b)
 |_,_,_,_,.n,.n,_,_=>⟨.same _,.none_none,.none_none⟩
 |_,_,_,_,.n,.b _,_,_=>⟨.none_bool _,.none_bool _,.none_bool _⟩
 |_,_,_,_,.n,.i _ _,_,_=>⟨.none_int _ _,.none_int _ _,.none_int _ _⟩
 |_,_,_,_,.n,.t _ _,_,_=>⟨.none_str _ _,.none_str _ _,.none_str _ _⟩
 |_,_,_,_,.n,.l h2,_,hu=>⟨.none_list h2 hu,.none_list h2 hu,.none_list h2 hu⟩
 |_,_,_,_,.n,.u h2,_,hu=>⟨.none_tuple h2 hu,.none_tuple h2 hu,.none_tuple h2 hu⟩
 |_,_,_,_,.b _,.n,_,_=>⟨.bool_none _,.bool_none _,.bool_none _⟩
 |_,_,_,_,.b _,.b _,_,_=>⟨.bool_bool _ _,.bool_bool _ _,.bool_bool _ _⟩
 |_,_,_,_,.b _,.i _ _,_,_=>⟨.bool_int _ _ _,.bool_int _ _ _,.bool_int _ _ _⟩
 |_,_,_,_,.b _,.t _ _,_,_=>⟨.bool_str _ _ _,.bool_str _ _ _,.bool_str _ _ _⟩
 |_,_,_,_,.b _,.l h2,_,hu=>⟨.bool_list _ h2 hu,.bool_list _ h2 hu,.bool_list _ h2 hu⟩
 |_,_,_,_,.b _,.u h2,_,hu=>⟨.bool_tuple _ h2 hu,.bool_tuple _ h2 hu,.bool_tuple _ h2 hu⟩
 |_,_,_,_,.i _ _,.n,_,_=>⟨.int_none _ _,.int_none _ _,.int_none _ _⟩
 |_,_,_,_,.i _ _,.b _,_,_=>⟨.int_bool _ _ _,.int_bool _ _ _,.int_bool _ _ _⟩
 |_,_,_,_,.i _ _,.i _ _,_,_=>⟨.int_int _ _ _ _,.int_int _ _ _ _,.int_int _ _ _ _⟩
 |_,_,_,_,.i _ _,.t _ _,_,_=>⟨.int_str _ _ _ _,.int_str _ _ _ _,.int_str _ _ _ _⟩
 |_,_,_,_,.i _ _,.l h2,_,hu=>⟨.int_list _ _ h2 hu,.int_list _ _ h2 hu,.int_list _ _ h2 hu⟩
 |_,_,_,_,.i _ _,.u h2,_,hu=>⟨.int_tuple _ _ h2 hu,.int_tuple _ _ h2 hu,.int_tuple _ _ h2 hu⟩
 |_,_,_,_,.t _ _,.n,_,_=>⟨.str_none _ _,.str_none _ _,.str_none _ _⟩
 |_,_,_,_,.t _ _,.b _,_,_=>⟨.str_bool _ _ _,.str_bool _ _ _,.str_bool _ _ _⟩
 |_,_,_,_,.t _ _,.i _ _,_,_=>⟨.str_int _ _ _ _,.str_int _ _ _ _,.str_int _ _ _ _⟩
 |_,_,_,_,.t _ _,.t _ _,_,_=>⟨.str_str _ _ _ _,.str_str _ _ _ _,.str_str _ _ _ _⟩
 |_,_,_,_,.t _ _,.l h2,_,hu=>⟨.str_list _ _ h2 hu,.str_list _ _ h2 hu,.str_list _ _ h2 hu⟩
 |_,_,_,_,.t _ _,.u h2,_,hu=>⟨.str_tuple _ _ h2 hu,.str_tuple _ _ h2 hu,.str_tuple _ _ h2 hu⟩
 |_,_,_,_,.l h1,.n,_,hu=>⟨.list_none h1 hu,.list_none h1 hu,.list_none h1 hu⟩
 |_,_,_,_,.l h1,.b _,_,hu=>⟨.list_bool _ h1 hu,.list_bool _ h1 hu,.list_bool _ h1 hu⟩
 |_,_,_,_,.l h1,.i _ _,_,hu=>⟨.list_int _ _ h1 hu,.list_int _ _ h1 hu,.list_int _ _ h1 hu⟩
 |_,_,_,_,.l h1,.t _ _,_,hu=>⟨.list_str _ _ h1 hu,.list_str _ _ h1 hu,.list_str _ _ h1 hu⟩
 |_,_,_,_,.l h1,.u h2,_,hu=>⟨.list_tuple h1 h2 hu,.list_tuple h1 h2 hu,.list_tuple h1 h2 hu⟩
 |_,_,_,_,.u h1,.n,_,hu=>⟨.tuple_none h1 hu,.tuple_none h1 hu,.tuple_none h1 hu⟩
 |_,_,_,_,.u h1,.b _,_,hu=>⟨.tuple_bool _ h1 hu,.tuple_bool _ h1 hu,.tuple_bool _ h1 hu⟩
 |_,_,_,_,.u h1,.i _ _,_,hu=>⟨.tuple_int _ _ h1 hu,.tuple_int _ _ h1 hu,.tuple_int _ _ h1 hu⟩
 |_,_,_,_,.u h1,.t _ _,_,hu=>⟨.tuple_str _ _ h1 hu,.tuple_str _ _ h1 hu,.tuple_str _ _ h1 hu⟩
 |_,_,_,_,.u h1,.l h2,_,hu=>⟨.tuple_list h1 h2 hu,.tuple_list h1 h2 hu,.tuple_list h1 h2 hu⟩
 |_,_,_,_,.l _,.l _,hq,_=>nomatch (show true=false from hq)
 |_,_,_,_,.u _,.u _,hq,_=>nomatch (show true=false from hq)
def xD(I:Inv X ρ σ H s):∀(n:Nat) (a b:D) (A:Around) (x y:V) (v u:Value),dZ a<=n->noDict a=true->noDict b=true->Ow X.K O H a 0 x NoA->Ow X.K O H b 0 y NoA->RelV x v->RelV y u->A.units+n+1<cLine ->
  EqAt A s v u (peq a b)/\RcAt A s v u (peq a b)/\RcNeAt A s v u (!peq a b):=by
 intro n
 induction n with
 |zero=>
  intro a b A x y v u hdp hna hnb o1 o2 r1 r2 hun;refine Ex (sv I hna o1 r1) (sv I hnb o2 r2) ?_ (by omega);cases a with
  |list c=>simp only[dZ]at hdp;omega
  |tuple c=>simp only[dZ]at hdp;omega
  |_=>rfl
 |succ n ih=>
  intro a b A x y v u hdp hna hnb o1 o2 r1 r2 hun;have hu:A.units<cLine:=by omega
  have hu1:A.in1.units+n+1<cLine:=by
   show A.units+1+n+1<cLine;omega
  cases hq:sqB a b with
  |false=>exact Ex (sv I hna o1 r1) (sv I hnb o2 r2) hq hu
  |true=>
   cases a with
   |list c1=>
    cases b with
    |list c2=>
     obtain⟨p1,vs1,rfl,fz1,w1⟩:=o1.lst0;cases r1;obtain⟨its1,rv1,pl1,_⟩:=I.list fz1.sq;have hl1:=pl1.isList;obtain⟨p2,vs2,rfl,fz2,w2⟩:=o2.lst0;cases r2;obtain⟨ν,rv2,pl2,_⟩:=I.list fz2.sq;have hl2:=pl2.isList;have dl:bP c1<=n:=by simp only[dZ]at hdp;omega
     have nd1:aF c1=true:=by simpa[noDict]using hna
     have nd2:aF c2=true:=by simpa[noDict]using hnb
     have el:=uf (A:=A.in1) w1 w2 rv1 rv2 fun j a b x y v u e1 e2 q1 q2 q3 q4=>(ih a b A.in1 x y v u (zau (my e1) dl) (fq nd1 e1) (fq nd2 e2) q1 q2 q3 q4 hu1).1;have l1:=rv1.length;have l2:=rv2.length;have m1:=w1.len;have m2:=w2.len;have rc:RcAt A s (.ref p1) (.ref p2) (fK c1 c2)/\RcNeAt A s (.ref p1) (.ref p2) (!fK c1 c2):=by
      by_cases hz:c1.length=c2.length
      ·have hs1:its1.toArray.size=ν.toArray.size:=by rw[zai,zai];omega
       have hs2:its1.toArray.size=c1.length:=by rw[zai];omega
       have z1:=RcAt.lists hl1 hl2 hs1 hu el;have z2:=RcNeAt.lists hl1 hl2 hs1 hu el;rw[hs2,oD hz]at z1 z2;exact⟨z1,z2⟩
      ·have hs1:(its1.toArray.size != ν.toArray.size)=true:=by rw[zai,zai,bne_iff_ne];omega
       rw[oC hz];exact⟨RcAt.lists_lengths hl1 hl2 hs1 hu,RcNeAt.lists_lengths hl1 hl2 hs1 hu⟩
     have pe:peq (.list c1) (.list c2)=fK c1 c2:=by simp only[peq]
     refine⟨?_,by rw[pe];exact rc.1,by rw[pe];exact rc.2⟩;by_cases hp:p1=p2
     ·subst hp
      have:=Ow.inj I _ _ o1 o2 hna;cases this;rw[kQ _ hna];exact EqAt.same _
     ·rw[pe];exact EqAt.of_refs hp rc.1
    |_=>cases(show false=true from hq)
   |tuple c1=>
    cases b with
    |tuple c2=>
     obtain⟨p1,vs1,rfl,fz1,w1⟩:=o1.tup0;cases r1;obtain⟨its1,rv1,pl1,_⟩:=I.tuple fz1.sq;have hl1:s.heap.IsTuple p1 its1.toArray:=pl1;obtain⟨p2,vs2,rfl,fz2,w2⟩:=o2.tup0;cases r2;obtain⟨ν,rv2,pl2,_⟩:=I.tuple fz2.sq;have hl2:s.heap.IsTuple p2 ν.toArray:=pl2;have dl:bP c1<=n:=by simp only[dZ]at hdp;omega
     have nd1:aF c1=true:=by simpa[noDict]using hna
     have nd2:aF c2=true:=by simpa[noDict]using hnb
     have el:=uf (A:=A.in1) w1 w2 rv1 rv2 fun j a b x y v u e1 e2 q1 q2 q3 q4=>(ih a b A.in1 x y v u (zau (my e1) dl) (fq nd1 e1) (fq nd2 e2) q1 q2 q3 q4 hu1).1;have l1:=rv1.length;have l2:=rv2.length;have m1:=w1.len;have m2:=w2.len;have rc:RcAt A s (.ref p1) (.ref p2) (fK c1 c2)/\RcNeAt A s (.ref p1) (.ref p2) (!fK c1 c2):=by
      have z1:=RcAt.tuples hl1 hl2 hu el;have z2:=RcNeAt.tuples hl1 hl2 hu el;have ez:((List.range (min its1.toArray.size ν.toArray.size)).all (eAt c1 c2)&&its1.toArray.size==ν.toArray.size)=fK c1 c2:=by
       rw[zai,zai];by_cases hz:c1.length=c2.length
       ·have h3:its1.length=ν.length:=by omega
        have h4:min its1.length ν.length=c1.length:=by omega
        rw[h4,oD hz,h3,beq_self_eq_true,zbW]
       ·have h3:(its1.length==ν.length)=false:=by rw[zbR];omega
        rw[h3,zbX,oC hz]
      rw[ez]at z1 z2;exact⟨z1,z2⟩
     have pe:peq (.tuple c1) (.tuple c2)=fK c1 c2:=by simp only[peq]
     refine⟨?_,by rw[pe];exact rc.1,by rw[pe];exact rc.2⟩;by_cases hp:p1=p2
     ·subst hp
      have:=Ow.inj I _ _ o1 o2 hna;cases this;rw[kQ _ hna];exact EqAt.same _
     ·rw[pe];exact EqAt.of_refs hp rc.1
    |_=>cases(show false=true from hq)
   |_=>cases(show false=true from hq)
end
def eqD(a b:D):Option D:=grd (noDict a=true/\noDict b=true/\dZ a<=60) (.bool (peq a b))
def neD(a b:D):Option D:=grd (noDict a=true/\noDict b=true/\dZ a<=60) (.bool (!peq a b))
def gR(hK:X.K=K)(hu:X.A.units+64<cLine):OpR X (compareOp .Eq) (rF2 K eqD 3):=by
 subst hK;intro ρ s σ H x y v u Q I rx ry ⟨O,a,b,t,oa,ob,hd,hg,k⟩;obtain⟨⟨c1,c2,c3⟩,rfl⟩:=bI hg;exact(xD I 60 a b X.A x y v u c3 c1 c2 oa ob rx ry (by omega)).2.1 X.prog X.w _ _ ⟨.bl _,H,I,rfl,k _ H NoA .refl rfl⟩
def Mh(hK:X.K=K)(hu:X.A.units+64<cLine):OpR X (compareOp .NotEq) (rF2 K neD 3):=by
 subst hK;intro ρ s σ H x y v u Q I rx ry ⟨O,a,b,t,oa,ob,hd,hg,k⟩;obtain⟨⟨c1,c2,c3⟩,rfl⟩:=bI hg;exact(xD I 60 a b X.A x y v u c3 c1 c2 oa ob rx ry (by omega)).2.2 X.prog X.w _ _ ⟨.bl _,H,I,rfl,k _ H NoA .refl rfl⟩
def BlkOkC.inn{cl:List (Str×Addr)}{C:Addr}(hN:X.N=N0)(hE:X.env=compEnvC sc0 cl C env)(h:nk N0 sc0 scope ns js=true):BlkOkC X scope ns js:=by
 unfold nk at h;simp only[zbm,List.all_eq_true,decide_eq_true_eq,zbr]at h;obtain⟨⟨⟨⟨⟨⟨h1,h2⟩,h3⟩,h4⟩,h5⟩,h6⟩,h7⟩:=h;refine⟨h1,fun y hy=>h2 y hy,fun y hy=>h3 y hy,fun y hy hk=>?_,h5,h6,fun i x j e1 e2=>?_⟩
 ·rw[hE];rcases h4 y hy hk with q|q
  ·exact .inl (kO (env:=env) q)
  ·exact kM (env:=env) q
 ·rw[hN];exact wq h7 e1 e2
def ET{F:List D->Option (D×En)}{E:XK}(hn:dps.length=n)(h:spF K dps dr F vs H Q E):vs.length=n:=by
 obtain⟨Ox,ts,R,r,ψ,e,_⟩:=h
 have:=e.l2;rw[zad]at this;omega
section
variable{ds3:List Nat}{d3:Nat}{a c:Expr}{f3:ME}{p2:Pos}
def FW(h:PS X st (tFS K J ds ds2 m))(hd:leD ds1 ds2=true):PS X st (tFS K J ds ds1 m):=h.imp fun _ _ _=>Kw hd
def ft(g g':D->D->Option D)(f1 f2 f3:ME):ME:=fun en=>(f1 en).bind fun r=>(f2 r.2).bind fun q=>(g r.1 q.1).bind fun t=>match t with
 |.bool true=>(f3 q.2).bind fun z=>(g' q.1 z.1).map fun t=>(t,z.2)
 |.bool false=>some (.bool false,q.2)
 |_=>none
def wj(h:tF K p ds ds1 3 (ft g g' f1 f2 f3) σ H Q):
  sI (rF2 K g 3) (rF2 K g' 3) (tF K p ds ds0 d1 f1) (tF K p ds0 ds1 d2 f2) (tF K p ds1 ds1 d3 f3) σ H Q:=by
 obtain⟨Ox,en,R,t,en',e,hf,k⟩:=h;unfold ft at hf;obtain⟨⟨t1,en1⟩,h1,hf⟩:=zaa.mp hf;obtain⟨⟨t2,en2⟩,h2,hf⟩:=zaa.mp hf;obtain⟨tb,h3,hf⟩:=zaa.mp hf;refine two (p1:=p) (p2:=p) e h1 h2 fun x y H2 R2 F1 F2 P o1 o2=>?_;rw[zbk]at P;have oy:=Ow.letgo P (fun _=>.inr) o2;refine⟨Own R2 Ox,t1,t2,tb,Ow.letgo P (fun _=>.inl) o1,oy,P.doms,h3,fun v3 H3 F3 n3 o3=>?_⟩;have P3:=P.fin n3;cases tb with
 |bool bb=>
  refine⟨bb,o3,?_⟩;cases bb with
  |false=>
   cases hf;exact k _ H3 R2 NoA (P3.less fun _ z=>z.elim) rfl
  |true=>
   obtain⟨⟨t4,en4⟩,h4,hf⟩:=zaa.mp hf;obtain⟨t5,h5,hf⟩:=zab.mp hf;cases hf;have P30:=P3.less (F':=NoA) fun _ z=>z.elim;refine⟨Ox,en2,R2,t4,en4,P30.env0,h4,fun v4 H4 R4 F4 P4 o4=>?_⟩;have P34:=P30.after P4;rw[zbk]at P34;have oy3:Ow K (Own R2 Ox) H3 t2 0 y NoA:=Ow.mv (G:=NoA) ⟨fun a o q _=>n3.1 a o q,fun a z=>.inl z⟩ t2 (fun _ z=>z) oy;have oy4:Ow K (Own R4 Ox) H4 t2 0 y NoA:=by
    refine Ow.mv (G:=NoA) ⟨fun a o q z=>P4.keep a o q fun i zi=>?_,fun a z=>?_⟩ t2 (fun _ z=>z) oy3
    ·rcases z with z|z
     ·exact z (.inl ⟨i,zi⟩)
     ·exact z
    ·rcases z with z|z
     ·exact(P4.own a (.inr z)).imp .inl id
     ·exact .inl (.inr z)
   exact⟨Own R4 Ox,t2,t4,_,oy4,Ow.letgo P4 (fun _ z=>z) o4,P4.doms,h5,fun v5 H5 F5 n5 o5=>k v5 H5 R4 F5 (P34.fin n5) (pU▸o5)⟩
 |_=>cases hf
def Bk(ho:OpR X (compareOp op) (rF2 K g 3))(ho':OpR X (compareOp op') (rF2 K g' 3))(ha:PE X a (tF K p ds ds0 d1 f1))(hb:PE X b (tF K p ds0 ds1 d2 f2))(hc:PE X c (tF K p ds1 ds1 d3 f3))
  (hm:lastMarks [op,op'] [b,c]=false):PE X (.Compare a [op,op'] [b,c] pos) (tF K p ds ds1 3 (ft g g' f1 f2 f3)):=(Aw ho ho' ha hb hc hm).imp fun _ _ _=>wj
def AZ(ho:OpR X (compareOp op) (rF2 K g 3))(ho':OpR X (compareOp op') (rF2 K g' 3))(ha:PE X a (tF K p ds ds0 d1 f1))(hb:PE X b (tF K p ds0 ds1 d2 f2))(hc:PE X c (tF K p ds1 ds1 d3 f3))
  (hm:lastMarks [op,op'] [b,c]=false):PT X (.Compare a [op,op'] [b,c] pos) (tFT K p ds ds1 (tV (ft g g' f1 f2 f3))):=
 (Ap ho ho' ha hb hc hm).imp fun σ H Q h=>by
  obtain⟨Ox,en,R,t,en',e,hf,k⟩:=pD (d:=3) h;exact wj ⟨Ox,en,R,t,en',e,hf,k⟩
abbrev MO:=En->Option (Option Int×En)
def tFO(K:zbY)(p:Bool)(ds ds':List Nat)(f:MO):TO:=fun σ H Q=>∃Ox en R o en',EnvOk K ds Ox H σ en R/\f en=some (o,en')/\∀H' R',Post K p ds' Ox σ H en R en' H' R' NoA->Q o H'
def bq:MO:=fun en=>some (none,en)
def bn(f:ME):MO:=fun en=>(f en).bind fun r=>match r.1 with
 |.int i=>some (some i,r.2)
 |_=>none
def PO.imp{e:Option Expr}{t t':TO}(h:PO X e t)(hi:∀σ H Q,t' σ H Q->t σ H Q):PO X e t':=fun ρ s σ H Q I hw=>h ρ s σ H Q I (hi _ _ _ hw)
def Gf:PO X none (tFO K p ds ds bq):=po_none.imp fun σ H Q ⟨Ox,en,R,o,en',e,hf,k⟩=>by
 cases hf;exact k H R (Post.refl e)
def Gc(h:PE X e (tF K p ds ds1 d f)):PO X (some e) (tFO K p ds ds1 (bn f)):=(Fb h).imp fun σ H Q ⟨Ox,en,R,o,en',e,hf,k⟩=>by
 unfold bn at hf;obtain⟨⟨t1,en1⟩,h1,hf⟩:=zaa.mp hf;refine⟨Ox,en,R,t1,en1,e,h1,fun v H' R' F P o=>?_⟩;cases t1 with
 |int i=>cases hf;exact⟨i,o,k H' R' (P.less fun _ z=>z.elim)⟩
 |_=>cases hf
def rFs(K:zbY)(g:D->Option Int->Option Int->Option D)(d:Nat):V->Option Int->Option Int->Hp->VK->Prop:=fun x lo hi H Q=>∃(O:AS) (a t:D),Ow K O H a 0 x NoA/\(∀a,O a->∃o,H a=some o)/\g a lo hi=some t/\∀v H' F,NewTo H H' F->Ow K (U F O) H' t d v F->Q v H'
def eSl(g:D->Option Int->Option Int->Option D)(f:ME)(lo hi:MO):ME:=fun en=>(f en).bind fun r=>(lo r.2).bind fun l=>(hi l.2).bind fun h=>(g r.1 l.1 h.1).map fun t=>(t,h.2)
variable{lo hi:MO}
def Ow.past0{R2:Nat->AS}(P2:Post K p ds2 Ox σ H1 en1 R1 en2 H2 R2 F2)(h:Ow K (Own R1 Ox) H1 t 0 v NoA):Ow K (Own R2 Ox) H2 t 0 v NoA:=by
 refine Ow.mv (G:=NoA) ⟨fun a o q z=>P2.keep a o q fun i zi=>?_,fun a z=>?_⟩ t (fun _ z=>z) h
 ·rcases z with z|z
  ·exact z (.inl ⟨i,zi⟩)
  ·exact z
 ·rcases z with z|z
  ·exact(P2.own a (.inr z)).imp .inl id
  ·exact .inl (.inr z)
def Nj{g:D->Option Int->Option Int->Option D}(h:tF K p ds ds3 d (eSl g f lo hi) σ H Q):tSl (rFs K g d) (tF K p ds ds1 d1 f) (tFO K p ds1 ds2 lo) (tFO K p ds2 ds3 hi) σ H Q:=by
 obtain⟨Ox,en,R,t,en',e,hf,k⟩:=h;unfold eSl at hf;obtain⟨⟨t1,en1⟩,h1,hf⟩:=zaa.mp hf;obtain⟨⟨l,en2⟩,h2,hf⟩:=zaa.mp hf;obtain⟨⟨u,en3⟩,h3,hf⟩:=zaa.mp hf;obtain⟨t',h4,hf⟩:=zab.mp hf;cases hf;refine⟨Ox,en,R,t1,en1,e,h1,fun v H1 R1 F1 P1 o1=>?_⟩;have o0:=Ow.letgo P1 (fun _ z=>z) o1;refine⟨Ox,en1,R1,l,en2,P1.env0,h2,fun H2 R2 P2=>?_⟩;refine⟨Ox,en2,R2,u,en3,P2.env0,h3,fun H3 R3 P3=>?_⟩;have P:=(P1.after P2).after P3;rw[zbk,zbk]at P;exact⟨Own R3 Ox,t1,t,(o0.past0 P2).past0 P3,P3.doms,h4,fun v4 H4 F4 n4 o4=>k v4 H4 R3 F4 (P.fin n4) (pU▸o4)⟩
def SlR.imp{r r':V->Option Int->Option Int->Hp->VK->Prop}(h:SlR X r)(hi:∀x lo hi H Q,r' x lo hi H Q->r x lo hi H Q):SlR X r':=fun ρ s σ H x v vl vu lo hi' sl Q I rx hs pl pu q=>h ρ s σ H x v vl vu lo hi' sl Q I rx hs pl pu (hi _ _ _ _ _ q)
def Be{g:D->Option Int->Option Int->Option D}{elo ehi:Option Expr}(hr:SlR X (rFs K g d))(he:PE X e (tF K p ds ds1 d1 f))(hl:PO X elo (tFO K p ds1 ds2 lo))(hu:PO X ehi (tFO K p ds2 ds3 hi)):PE X (.Subscript e (.Slice elo ehi none p2) pos) (tF K p ds ds3 d (eSl g f lo hi)):=
 (Au hr he hl hu).imp fun _ _ _=>Nj
def a8{α:Type}(xs:List α)(lo hi:Option Int):List α:=(xs.drop (HT.sIx xs.length 0 lo)).take (HT.sIx xs.length xs.length hi-HT.sIx xs.length 0 lo)
def bF:D->Option Int->Option Int->Option D
 |.list ts,lo,hi=>some (.list (a8 ts lo hi))
 |_,_,_=>none
def bL(hK:X.K=K):SlR X (rFs K bF 1):=(Nf hK).imp fun x lo hi H Q ⟨O,a,t,oa,hd,hg,k⟩=>by
 cases a with
 |list ts=>
  cases hg;obtain⟨a,vs,e1,f1,w1⟩:=oa.lst0;refine⟨a,vs,e1,f1.sq,fun p hp=>?_⟩;have w2:Ows K O H (a8 ts lo hi) 0 (gh vs lo hi) NoA:=by
   unfold a8 gh;rw[w1.len];exact(w1.drop _).take _
  exact k _ _ _ (ck hp hd w2).1 (ck hp hd w2).2
 |_=>cases hg
def Oa:D->Option Int->Option Int->Option D
 |.str z,lo,hi=>grd (z.length<=sizeLine) (.str ⟨(Nt z.cps.toList lo hi).toArray⟩)
 |_,_,_=>none
end
def kEq:D->D->Bool
 |.int a,.int b=>a==b
 |.str a,.str b=>a==b
 |_,_=>false
def pq(a b:Key):kEq (kD a) (kD b)=decide (a=b):=by
 cases a with
 |inl i=>cases b with
  |inl j=>rw[yR];rfl
  |inr j=>rw[yQ];rfl
 |inr i=>cases b with
  |inl j=>rw[yP];rfl
  |inr j=>
   rw[yO];show(i==j)=_;by_cases h:i=j
   ·subst h;simp
   ·rw[zaA h,zbR];exact h
def kOf:D->Option Key
 |.int i=>some (.inl i)
 |.str x=>some (.inr x)
 |_=>none
def gb{a:D}{q:Key}(h:kOf a=some q):a=kD q:=by
 cases a<;>cases h<;>rfl
def i6{a:D}{q:Key}{F:AS}(h:kOf a=some q)(o:Ow K O H a d v F):v=kV q:=by
 cases a with
 |int i=>cases h;exact o
 |str i=>cases h;exact o
 |_=>cases h
def ba(ks:List (D×D))(q:D):Option D:=(ks.find? fun kv=>kEq kv.1 q).map (·.2)
def gg(ks:List (D×D))(q t:D):List (D×D):=if ks.any (fun kv=>kEq kv.1 q)then ks.map (fun kv=>if kEq kv.1 q then(kv.1,t)else kv)else ks++[(q,t)]
theorem Owd.look:∀{ks:List (D×D)} {vs:List (Key×V)} {F:AS} (q:Key),Owd K O H ks d vs F->(∃t v,ba ks (kD q)=some t/\dX vs q=some v/\Ow K O H t d v F)\/(ba ks (kD q)=none/\dX vs q=none)
 |[],_,_,q,h=>by rw[show _=[]from h];exact .inr ⟨rfl,rfl⟩
 | (k,t)::ks,_,F,q,h=>by
  obtain⟨q',v,r,F1,F2,e,e2,s1,s2,_,h4,h5⟩:=h;subst e e2;by_cases hq:q'=q
  ·subst hq;refine .inl ⟨t,v,?_,kF rfl,Ow.grow (fun _ z=>z) t s1 h4⟩;unfold ba;rw[zbo,pq,zaB rfl];rfl
  ·have e1:ba ((kD q',t)::ks) (kD q)=ba ks (kD q):=by
    unfold ba;rw[zbo,pq,zaA hq]
   have e2:dX ((q',v)::r) q=dX r q:=kG hq;rw[e1,e2];rcases Owd.look q h5 with⟨t',v',a1,a2,a3⟩|z
   ·exact .inl ⟨t',v',a1,a2,Ow.grow (fun _ z=>z) t' s2 a3⟩
   ·exact .inr z
theorem Owd.any:∀{ks:List (D×D)} {vs:List (Key×V)} {F:AS} (q:Key),Owd K O H ks d vs F->ks.any (fun kv=>kEq kv.1 (kD q))=vs.any (fun kv=>decide (kv.1=q))
 |[],_,_,q,h=>by rw[show _=[]from h];rfl
 | (k,t)::ks,_,F,q,h=>by
  obtain⟨q',v,r,F1,F2,e,e2,_,_,_,_,h5⟩:=h;subst e e2;rw[List.any_cons,List.any_cons,pq,Owd.any q h5]
theorem Owd.len:∀{ks:List (D×D)} {vs:List (Key×V)} {F:AS},Owd K O H ks d vs F->vs.length=ks.length
 |[],_,_,h=>by rw[show _=[]from h];rfl
 | (k,t)::ks,_,F,h=>by
  obtain⟨q',v,r,F1,F2,e,e2,_,_,_,_,h5⟩:=h;rw[e,zac,zac,h5.len]
theorem Owd.rep0{t:D}{v:V}{q:Key}(ht:Ow K O H t 0 v NoA):∀{ks:List (D×D)} {vs:List (Key×V)},Owd K O H ks 0 vs NoA->Owd K O H (ks.map fun kv=>if kEq kv.1 (kD q)then(kv.1,t)else kv) 0 (vs.map fun kv=>if kv.1=q then(kv.1,v)else kv) NoA
 |[],_,h=>by rw[show _=[]from h];rfl
 | (k,u)::ks,_,h=>by
  obtain⟨q',w,r,F1,F2,e,e2,_,_,_,h4,h5⟩:=h;subst e e2;rw[zar,zar];have ih:=Owd.rep0 (q:=q) ht (Owd.any0 ks h5)
  dsimp only
  rw[pq];by_cases hq:q'=q
  ·rw[if_pos hq,if_pos (zaB hq)];exact⟨q',v,_,NoA,NoA,rfl,rfl,fun _ z=>z,fun _ z=>z,fun _ z=>z.elim,ht,ih⟩
  ·rw[if_neg hq,if_neg (by rw[zaA hq];exact zbn)];exact⟨q',w,_,NoA,NoA,rfl,rfl,fun _ z=>z,fun _ z=>z,fun _ z=>z.elim,Ow.any0 u h4,ih⟩
theorem Owd.snoc0{t:D}{v:V}{q:Key}(ht:Ow K O H t 0 v NoA):∀{ks:List (D×D)} {vs:List (Key×V)},Owd K O H ks 0 vs NoA->Owd K O H (ks++[(kD q,t)]) 0 (vs++[(q,v)]) NoA
 |[],_,h=>by
  rw[show _=[]from h];exact⟨q,v,[],NoA,NoA,rfl,rfl,fun _ z=>z,fun _ z=>z,fun _ z=>z.elim,ht,rfl⟩
 | (k,u)::ks,_,h=>by
  obtain⟨q',w,r,F1,F2,e,e2,_,_,_,h4,h5⟩:=h;subst e e2;exact⟨q',w,_,NoA,NoA,rfl,rfl,fun _ z=>z,fun _ z=>z,fun _ z=>z.elim,Ow.any0 u h4,Owd.snoc0 ht (Owd.any0 ks h5)⟩
def Owd.put0{q:Key}{vs:List (Key×V)}(h:Owd K O H ks 0 vs NoA)(ht:Ow K O H t 0 v NoA):Owd K O H (gg ks (kD q) t) 0 (cQ vs q v) NoA:=by
 unfold gg cQ;rw[h.any q];by_cases hq:(vs.any fun kv=>decide (kv.1=q))=true
 ·rw[if_pos hq,if_pos hq];exact Owd.rep0 ht h
 ·rw[if_neg hq,if_neg hq];exact Owd.snoc0 ht h
def Owd.past{vs:List (Key×V)}{F:AS}(ho:∀a,O' a->O a)(hl:O l)(hf:∀b,F b->b≠l)(h:Owd K O H ks d vs F):Owd K O' (upd H l o) ks d vs F:=by
 refine Owd.mv (G:=F) ⟨fun a u q z=>?_,fun a z=>.inl (ho a z)⟩ ks (fun _ z=>z) h;rw[aN]
 ·exact q
 ·intro za;subst za;rcases z with z|z
  ·exact z hl
  ·exact hf a z rfl
def noT:List (D×D)->Bool
 | (.tuple _,_)::_=>false
 | (.none,_)::_=>false
 |_=>true
def DGet.kr{kvs:List (Key×V)}{k:Key}(e:Rd H a (.dK kvs)):DGet H a (kV k) (dX kvs k):=.inl ⟨kvs,k,e,rfl,rfl⟩
def Ow.dict0(hk:noT ks=true)(h:Ow K O H (.dict ks) 0 v NoA):∃a vs,v=.ref a/\Rd H a (.dK vs)/\Owd K O H ks 0 vs NoA:=by
 obtain⟨a,vs,e,⟨_,h1,_,h2⟩|⟨z,_⟩|⟨_,⟨kk,b,h1,_⟩|⟨cn,C,h1,_⟩⟩⟩:=h
 ·exact⟨a,vs,e,h1,h2⟩
 ·exact absurd rfl z
 ·rw[h1]at hk;cases hk
 ·rw[h1]at hk;cases hk
def Ow.dict1{F:AS}(hd:d≠0)(h:Ow K O H (.dict ks) d v F):∃a vs,v=.ref a/\H a=some (.dK vs)/\F a/\∃F':AS,(∀b,F' b->F b/\b≠a)/\Owd K O H ks (dn d) vs F':=by
 obtain⟨a,vs,e,⟨z,_⟩|⟨_,h1,h2,h3⟩|⟨z,_⟩⟩:=h
 ·exact absurd z hd
 ·exact⟨a,vs,e,h1,h2,h3⟩
 ·exact absurd z hd
def lb:ME:=eC (.dict [])
def uE:D->D->Option D
 |.dict ks,q=>(kOf q).bind fun _=>ba ks q
 |_,_=>none
def dIn:D->D->Option D
 |q,.dict ks=>if noT ks=true then(kOf q).map fun _=>.bool (ba ks q).isSome else none
 |_,_=>none
def ik:D->D->Option D
 |q,.dict ks=>if noT ks=true then(kOf q).map fun _=>.bool (!(ba ks q).isSome)else none
 |_,_=>none
section
variable{a c o k:Expr}      
def GA:PE X (.Dict [] [] pos) (tF K p ds ds 3 lb):=pe_dnewK.imp fun σ H Q ⟨Ox,en,R,t,en',e,hf,k⟩=>by
 cases hf;intro l hl;have n:NewTo H (upd H l (.dK [])) (fun b=>b=l):=cq hl;exact k (.ref l) _ R _ (Post.new e n.1 n.2) ⟨l,[],rfl,.inr (.inl ⟨by decide,aI,rfl,NoA,fun _ z=>z.elim,rfl⟩)⟩
def Le(h:tF K p ds ds2 0 (e2 uE f1 f2) σ H Q):wI (tF K p ds ds1 d1 f1) (tF K p ds1 ds2 d2 f2) σ H Q:=by
 obtain⟨Ox,en,R,t,en',e,hf,k⟩:=h;unfold e2 at hf;obtain⟨⟨t1,en1⟩,h1,hf⟩:=zaa.mp hf;obtain⟨⟨t2,en2⟩,h2,hf⟩:=zaa.mp hf;obtain⟨t',h3,hf⟩:=zab.mp hf;cases hf;refine two (p1:=p) (p2:=p) e h1 h2 fun x y H2 R2 F1 F2 P o1 o2=>?_;rw[zbk]at P;have w1:=Ow.letgo P (fun _=>.inl) o1;cases t1 with
 |dict ks=>
  obtain⟨q,hq,h3⟩:=zaa.mp h3;have hk:noT ks=true:=by
   cases ks with
   |nil=>rfl
   |cons kv r=>
    obtain⟨k1,x1⟩:=kv;have go:(∃(kk:List Key) (b:Bool),(k1,x1)::r=[(.tuple (kk.map kD),.bool b)])\/(∃cn,(k1,x1)::r=[(.none,.str cn)])->False:=by
     rintro (⟨kk,b,h1⟩|⟨cn,h1⟩)
     ·cases h1;rw[gb hq]at h3
      have:kEq (.tuple (kk.map kD)) (kD q)=false:=by cases q<;>rfl
      have e:ba [(PyData.tuple (kk.map kD),PyData.bool b)] (kD q)=none:=by
       unfold ba;rw[zbo,this];rfl
      rw[e]at h3;cases h3
     ·cases h1;rw[gb hq]at h3
      have:kEq .none (kD q)=false:=by cases q<;>rfl
      have e:ba [(PyData.none,PyData.str cn)] (kD q)=none:=by
       unfold ba;rw[zbo,this];rfl
      rw[e]at h3;cases h3
    obtain⟨a,vs,_,⟨_,_,_,h2⟩|⟨z,_⟩|⟨_,⟨kk,b,h1,_⟩|⟨cn,C,h1,_⟩⟩⟩:=w1
    ·obtain⟨q',_,_,_,_,_,e2,_⟩:=h2;rw[e2];cases q'<;>rfl
    ·exact absurd rfl z
    ·exact(go (.inl ⟨kk,b,h1⟩)).elim
    ·exact(go (.inr ⟨cn,h1⟩)).elim
  obtain⟨a,vs,ex,ha,ow⟩:=w1.dict0 hk;rw[gb hq]at h3;rcases ow.look q with⟨t',v,a1,a2,a3⟩|⟨z,_⟩
  ·rw[h3]at a1;cases a1;refine⟨a,v,ex,?_,k v H2 R2 NoA (P.less fun _ z=>z.elim) (by rw[eP];exact a3)⟩;rw[<-a2,i6 hq o2];exact DGet.kr ha
  ·rw[h3]at z;cases z
 |_=>cases h3
def GC(hu:X.A.units+1<cLine)(ho:PE X o (tF K p ds ds1 d1 f1))(hi:PE X k (tF K p ds1 ds2 d2 f2))(hs:qR k):PE X (.Subscript o k pos) (tF K p ds ds2 0 (e2 uE f1 f2)):=(vT hu ho hi hs).imp fun _ _ _=>Le
def bG(i:Nat)(f:ME):ME:=fun en=>(en[i]?).join.bind fun _=>(f en).bind fun r=>match (r.2[i]?).join with
 |some (.dict ks)=>(kOf r.1).bind fun _=>(ba ks r.1).map fun t=>(t,r.2)
 |_=>none
def GG(hd:ds1[i]?=some 1)(h:tF K p ds ds1 0 (bG i f) σ H Q):wI (fY i) (tF K p ds ds1 d1 f) σ H Q:=by
 obtain⟨Ox,en,R,t,en',e,hf,k⟩:=h;unfold bG at hf;obtain⟨t0,h0,hf⟩:=zaa.mp hf;obtain⟨⟨t1,en1⟩,h1,hf⟩:=zaa.mp hf
 dsimp only at hf
 split at hf
 case h_2=>cases hf
 next ks h2=>
 obtain⟨q,hq,hf⟩:=zaa.mp hf;obtain⟨t',h3,hf⟩:=zab.mp hf;cases hf;obtain⟨v,d0,a1,_,a3⟩:=e.at_ i _ (be h0);refine⟨v,a1,Ox,en,R,t1,_,e,h1,fun x H1 R1 F P o=>?_⟩;obtain⟨v',d',b1,b2,b3⟩:=P.env.at_ i _ (be h2);rw[a1]at b1;cases b1;rw[hd]at b2;cases b2;obtain⟨l,vs,el,hl,hr,F',hf',ow⟩:=b3.dict1 (by decide);rw[gb hq]at h3;rcases ow.look q with⟨t'',w,c1,c2,c3⟩|⟨z,_⟩
 ·rw[h3]at c1;cases c1;refine⟨l,w,el,?_,k w H1 R1 NoA (P.less fun _ z=>z.elim) ?_⟩
  ·rw[<-c2,i6 hq o];exact DGet.k hl
  ·exact Ow.any0 _ (Ow.grow (fun a z=>z.imp id fun z=>z.elim (fun z=>False.elim z) Or.inr) _ (fun _ z=>z) c3)
 ·rw[h3]at z;cases z
def Bj(hu:X.A.units+1<cLine)(hN:X.N[i]?=some x)(hv:Vis X.env.scope x)(h1:ds1[i]?=some 1)(hi:PE X k (tF K p ds ds1 d1 f))(hs:qR k)(hd:(x==("__debug__":Str))=false)(hcd:(x==("__classdict__":Str))=false):
  PE X (.Subscript (.Name x px) k pos) (tF K p ds ds1 0 (bG i f)):=(vT hu (cR hN hv hd hcd) hi hs).imp fun _ _ _=>GG h1
def EH{neg:Bool}(h:tF K p ds ds2 3 (e2 (if neg then ik else dIn) f1 f2) σ H Q):(if neg then vK else Jc) (tF K p ds ds1 d1 f1) (tF K p ds1 ds2 d2 f2) σ H Q:=by
 obtain⟨Ox,en,R,t,en',e,hf,k⟩:=h;unfold e2 at hf;obtain⟨⟨t1,en1⟩,h1,hf⟩:=zaa.mp hf;obtain⟨⟨t2,en2⟩,h2,hf⟩:=zaa.mp hf;obtain⟨t',h3,hf⟩:=zab.mp hf;cases hf;have go:∀(b:Bool->Bool),(∃q ks,t2=.dict ks/\noT ks=true/\kOf t1=some q/\t=.bool (b (ba ks t1).isSome))->tF K p ds ds1 d1 f1 σ H fun y H1=>tF K p ds1 ds2 d2 f2 σ H1 fun x H2=>∃a o,x=.ref a/\DGet H2 a y o/\Q (.bl (b o.isSome)) H2:=fun b ⟨q,ks,e1,hk,e2,e3⟩=>by
  subst e1 e3;refine two (p1:=p) (p2:=p) e h1 h2 fun x y H2 R2 F1 F2 P o1 o2=>?_;rw[zbk]at P;obtain⟨a,vs,ex,ha,ow⟩:=(Ow.letgo P (fun _=>.inr) o2).dict0 hk;rw[gb e2]at k;rcases ow.look q with⟨t',v,a1,a2,a3⟩|⟨z1,z2⟩
  ·rw[a1]at k;refine⟨a,some v,ex,?_,k _ H2 R2 NoA (P.less fun _ z=>z.elim) rfl⟩;rw[<-a2,i6 e2 o1];exact DGet.kr ha
  ·rw[z1]at k;refine⟨a,none,ex,?_,k _ H2 R2 NoA (P.less fun _ z=>z.elim) rfl⟩;rw[<-z2,i6 e2 o1];exact DGet.kr ha
 cases neg with
 |true=>
  refine go (fun b=>!b) ?_;cases t2 with
  |dict ks=>
   have h4:(if noT ks=true then(kOf t1).map (fun _=>PyData.bool (!(ba ks t1).isSome))else none)=some t:=h3;by_cases hk:noT ks=true
   ·rw[if_pos hk]at h4;obtain⟨q,hq,e⟩:=zab.mp h4;exact⟨q,ks,rfl,hk,hq,e.symm⟩
   ·rw[if_neg hk]at h4;cases h4
  |_=>cases t1<;>cases h3
 |false=>
  refine go (fun b=>b) ?_;cases t2 with
  |dict ks=>
   have h4:(if noT ks=true then(kOf t1).map (fun _=>PyData.bool (ba ks t1).isSome)else none)=some t:=h3;by_cases hk:noT ks=true
   ·rw[if_pos hk]at h4;obtain⟨q,hq,e⟩:=zab.mp h4;exact⟨q,ks,rfl,hk,hq,e.symm⟩
   ·rw[if_neg hk]at h4;cases h4
  |_=>cases t1<;>cases h3
def PC.imp{t t':TE}(h:PC X op a b t)(hi:∀σ H Q,t' σ H Q->t σ H Q):PC X op a b t':=fun ρ s σ H Q I hw=>h ρ s σ H Q I (hi _ _ _ hw)
def K5(hu:X.A.units+1<cLine)(ha:PE X a (tF K p ds ds1 d1 f1))(hb:PE X b (tF K p ds1 ds2 d2 f2))(h1:behindInMarks .In b=false):PE X (.Compare a [.In] [b] pos) (tF K p ds ds2 3 (e2 dIn f1 f2)):=
 JM ((JO hu ha hb).imp fun _ _ _=>EH (neg:=false)) h1
def FN(hu:X.A.units+1<cLine)(ha:PE X a (tF K p ds ds1 d1 f1))(hb:PE X b (tF K p ds1 ds2 d2 f2))(h1:behindInMarks .NotIn b=false):PT X (.Compare a [.NotIn] [b] pos) (tFT K p ds ds2 (tV (e2 ik f1 f2))):=
 (JC ((yD hu ha hb).imp fun _ _ _=>EH (neg:=true)) h1).imp fun _ _ _=>pD
def cV(i:Nat)(fk fe:ME):MS:=fun en=>(fe en).bind fun r=>match (r.2[i]?).join with
 |some _=>(fk r.2).bind fun q=>match (q.2[i]?).join with
  |some (.dict ks)=>(kOf q.1).bind fun _=>if ks.length<sizeLine then some (.nx (q.2.set i (some (.dict (gg ks q.1 r.1)))))else none
  |_=>none
 |none=>none
def FU(hd:ds2[i]?=some 1)(h:tFS K J ds ds2 (cV i fk fe) Dn σ H):Em (fY i) (tF K false ds1 ds2 d2 fk) (tF K false ds ds1 0 fe) Dn σ H:=by
 obtain⟨Ox,en,R,fl,e,hf,k⟩:=h;unfold cV at hf;obtain⟨⟨t1,en1⟩,h1,hf⟩:=zaa.mp hf
 dsimp only at hf
 split at hf
 case h_2=>cases hf
 next tt h0=>
 obtain⟨⟨t2,en2⟩,h2,hf⟩:=zaa.mp hf
 dsimp only at hf
 split at hf
 case h_2=>cases hf
 next ks h3=>
 obtain⟨q,hq,hf⟩:=zaa.mp hf;by_cases ξ:ks.length<sizeLine
 case neg=>rw[if_neg ξ]at hf;cases hf
 rw[if_pos ξ]at hf;cases hf;refine⟨Ox,en,R,t1,en1,e,h1,fun x H1 R1 F1 P1 o1=>?_⟩;obtain⟨v0,d0,a1,_,_⟩:=P1.env.at_ i tt (be h0);refine⟨v0,a1,?_⟩;refine⟨U F1 Ox,en1,R1,t2,en2,P1.env,h2,fun y H2 R2 F2 P2 o2=>?_⟩;have P:=P1.trans P2;have o1':=Ow.over P1.env P2 o1;have w1:=Ow.letgo P (fun _=>.inl) o1';obtain⟨v',d',b1,b2,b3⟩:=P.env.at_ i _ (be h3);rw[a1]at b1;cases b1;rw[hd]at b2;cases b2;obtain⟨l,vs,el,hl,hr,F',hf',ow⟩:=b3.dict1 (by decide);have eq:=i6 hq o2;subst eq;refine⟨l,_,el,DPut.k hl (by rw[ow.len];exact ξ),?_⟩;have hi:i<en2.length:=(zah.mp (be h3)).1;have gG:∀a,(fun a=>R2 i a) a->R2 i a\/U F1 F2 a:=fun a z=>.inl z;have sub:=kz (i:=i) (R1:=R2) (Ox:=Ox) (G:=fun a=>R2 i a) (F':=NoA) (F:=U F1 F2) gG (fun _ z=>z.elim);have Ol:Own R2 (U (U F1 F2) Ox) l:=.inl ⟨i,hr⟩;have PS:=P.slot (G:=fun a=>R2 i a) (F':=NoA) (o2:=.dK (cQ vs q x)) (t:=.dict (gg ks t2 t1)) hr hi a1 hd gG (fun _ z=>z.elim) (fun _ _ z=>z) ?_
 ·exact k σ _ _ PS.s
 refine⟨l,cQ vs q x,el,.inr (.inl ⟨by decide,aI,hr,NoA,fun _ z=>z.elim,?_⟩)⟩;rw[gb hq];refine Owd.put0 (Owd.past sub Ol (fun _ z=>z.elim) (Owd.any0 ks ow)) ?_;refine Ow.past (O:=Own R2 Ox) (fun a z=>?_) (.inl ⟨i,hr⟩) (fun _ z=>z.elim) w1;rcases z with⟨j,z⟩|z|z
 ·by_cases hj:j=i
  ·rw[if_pos hj]at z;exact .inl ⟨i,z⟩
  ·rw[if_neg hj]at z;exact .inl ⟨j,z⟩
 ·exact z.elim
 ·exact .inr z
def A4(hu:X.A.units+1<cLine)(hN:X.N[i]?=some x)(hv:Vis X.env.scope x)(he:PE X e (tF K false ds ds1 0 fe))(hk:PE X k (tF K false ds1 ds2 d2 fk))(h1:ds2[i]?=some 1)
  (hdb:(x==("__debug__":Str))=false) (hcd:(x==("__classdict__":Str))=false) (hs:swapsWith e (some (.Subscript (.Name x px) k ζ)) pos.line X.env=pure false):
  PS X (.Assign [.Subscript (.Name x px) k ζ] e pos) (tFS K J ds ds2 (cV i fk fe)):=(E6 hu (cR hN hv hdb hcd) hk he hs).imp fun _ _ _=>FU h1
end
def evP:List (ME×ME)->En->Option (List (D×D)×En)
 |[],en=>some ([],en)
 | (fk,fv)::r,en=>(fk en).bind fun x=>(fv x.2).bind fun y=>(evP r y.2).bind fun z=>(kOf x.1).map fun _=>((x.1,y.1)::z.1,z.2)
def JY(ks:List (D×D)):List (D×D):=ks.foldl (fun acc kv=>gg acc kv.1 kv.2) []
def e7(fs:List (ME×ME)):ME:=fun en=>(evP fs en).bind fun r=>if r.1.length<=15 then some (.dict (JY r.1),r.2)else none
def OwP(K:zbY)(O:AS)(H:Hp):List (D×D)->List (V×V)->Prop
 |[],ps=>ps=[]
 | (k,t)::r,ps=>∃q v s,ps=(kV q,v)::s/\k=kD q/\Ow K O H t 0 v NoA/\OwP K O H r s
section
variable{a c o k:Expr}         
theorem OwP.mv{O O':AS}{H H':Hp}(m:Mv O O' NoA H H'):∀{ks:List (D×D)} {ps:List (V×V)},OwP K O H ks ps->OwP K O' H' ks ps
 |[],_,h=>h
 | (k,t)::r,_,h=>by
  obtain⟨q,v,s,e1,e2,o,h⟩:=h;exact⟨q,v,s,e1,e2,Ow.mv m t (fun _ z=>z) o,OwP.mv m h⟩
def trs(K:zbY)(p:Bool)(ds:List Nat)(fs:List (ME×ME)):List (TE×TE):=fs.map fun q=>(tF K p ds ds 3 q.1,tF K p ds ds 0 q.2)
def E9{F:AS}(P:Post K p ds1 Ox σ H en R en1 H1 R1 F):Mv (Own R Ox) (Own R1 Ox) NoA H H1:=by
 refine⟨fun a o q z=>P.keep a o q fun i zi=>?_,fun a z=>?_⟩
 ·rcases z with z|z
  ·exact z (.inl ⟨i,zi⟩)
  ·exact z
 ·rcases z with z|z
  ·exact(P.own a (.inr z)).imp .inl id
  ·exact .inl (.inr z)
theorem wg:∀{fs:List (ME×ME)} {σ:St} {H:Hp} {Ox:AS} {en en':En} {R:Nat->AS} {ks:List (D×D)} {QP:List (V×V)->Hp->Prop},EnvOk K ds Ox H σ en R->evP fs en=some (ks,en') ->
  (∀ps H' R',Post K p ds Ox σ H en R en' H' R' NoA->OwP K (Own R' Ox) H' ks ps->QP ps H')->oR (trs K p ds fs) σ H QP
 |[],σ,H,Ox,en,en',R,ks,QP,e,hf,k=>by
  cases hf;exact k [] H R (Post.refl e) rfl
 | (fk,fv)::r,σ,H,Ox,en,en',R,ks,QP,e,hf,k=>by
  unfold evP at hf;obtain⟨⟨t1,en1⟩,h1,hf⟩:=zaa.mp hf;obtain⟨⟨t2,en2⟩,h2,hf⟩:=zaa.mp hf;obtain⟨⟨ks3,en3⟩,h3,hf⟩:=zaa.mp hf;obtain⟨q,hq,hf⟩:=zab.mp hf;cases hf;refine⟨Ox,en,R,t1,en1,e,h1,fun x H1 R1 F1 P1 o1=>?_⟩;refine⟨Ox,en1,R1,t2,en2,P1.env0,h2,fun y H2 R2 F2 P2 o2=>?_⟩;refine wg P2.env0 h3 fun ps H3 R3 P3 op=>?_;have PP:=(P1.after P2).after P3;rw[zbk,zbk]at PP;refine k _ H3 R3 PP ⟨q,y,ps,?_,gb hq,?_,op⟩
  ·rw[i6 hq o1]
  ·exact Ow.mv (E9 P3) t2 (fun _ z=>z) (Ow.letgo P2 (fun _ z=>z) o2)
theorem tS{O:AS}:∀{ks:List (D×D)} {kvs:List (Key×V)} {acc:List (D×D)} {avs:List (Key×V)},OwP K O H ks (kvs.map fun kv=>(kV kv.1,kv.2))->Owd K O H acc 0 avs NoA->Owd K O H (ks.foldl (fun acc kv=>gg acc kv.1 kv.2) acc) 0 (ia avs kvs) NoA
 |[],kvs,acc,avs,h,ha=>by
  have:kvs=[]:=List.map_eq_nil_iff.mp h;subst this;exact ha
 | (k,t)::r,kvs,acc,avs,h,ha=>by
  obtain⟨q,v,s,e1,e2,o,h⟩:=h;cases kvs with
  |nil=>cases e1
  |cons kv kvs=>
   rw[zar]at e1;injection e1 with e3 e4
   injection e3 with e5 e6
   have:=J8 e5;subst this e6 e4 e2;exact tS (ks:=r) (kvs:=kvs) h (ha.put0 o)
theorem vU{O:AS}:∀{ks:List (D×D)} {ps:List (V×V)},OwP K O H ks ps->∃kvs:List (Key×V),ps=kvs.map (fun kv=>(kV kv.1,kv.2))/\kvs.length=ks.length
 |[],_,h=>⟨[],h,rfl⟩
 | (k,t)::r,_,h=>by
  obtain⟨q,v,s,e1,e2,o,h⟩:=h;obtain⟨kvs,e3,e4⟩:=vU h;exact⟨(q,v)::kvs,by rw[e1,e3];rfl,by rw[zac,zac,e4]⟩
def Ld(h:tF K p ds ds 1 (e7 fs) σ H Q):Ei (trs K p ds fs) σ H Q:=by
 obtain⟨Ox,en,R,t,en',e,hf,k⟩:=h;unfold e7 at hf;obtain⟨⟨ks,en1⟩,h1,hf⟩:=zaa.mp hf;by_cases hl:ks.length<=15
 case neg=>rw[if_neg hl]at hf;cases hf
 rw[if_pos hl]at hf;cases hf;intro l hl0;have n0:=cq (o:=.dK []) hl0;have P0:Post K true ds Ox σ H en R en (upd H l (.dK [])) R (fun b=>b=l):=Post.new e n0.1 n0.2;refine wg P0.env h1 fun ps H2 R2 P op=>?_;obtain⟨kvs,e1,e2⟩:=vU op;have lO:U (fun b=>b=l) Ox l:=.inl rfl;have hl2:H2 l=some (.dK []):=P.keep l _ aI fun i z=>by
  obtain⟨o,q⟩:=e.dom l (.inl ⟨i,z⟩);rw[hl0]at q;cases q
 have nl2:∀i,¬R2 i l:=fun i z=>P.env.dx i l z (.inr lO);refine⟨hl2,kvs,e1,by omega,?_⟩;have PP:=P0.trans P;rw[Bool.true_and]at PP;have eU:U (fun b=>b=l) NoA=(fun b=>b=l):=fH fun a=>⟨fun z=>z.elim id fun z=>z.elim,.inl⟩;rw[eU]at PP;have fZ:∀a o,H2 a=some o->a≠l->upd H2 l (.dK (ia [] kvs)) a=some o:=fun a o q n=>by rw[aN n];exact q
 have OO:∀a,Own R2 (U (fun b=>b=l) Ox) a->Own R2 (U (U (fun b=>b=l) Ox) NoA) a:=fun a z=>z.imp id .inl;refine k (.ref l) _ R2 (fun b=>b=l) ⟨⟨fun j u hu=>?_,PP.env.dj,PP.env.dx,fun a z=>?_,PP.env.l1,PP.env.l2⟩,PP.fx,fun a o q n=>?_,PP.own,fun a o q=>?_,fun hp=>?_⟩ ⟨l,_,rfl,.inr (.inl ⟨by decide,aI,rfl,NoA,fun _ z=>z.elim,?_⟩)⟩
 ·obtain⟨v',d',g1,g2,g3⟩:=PP.env.at_ j u hu;refine⟨v',d',g1,g2,Ow.mv (G:=R2 j) ⟨fun a o q z=>fZ a o q fun za=>?_,fun a z=>.inl z⟩ u (fun _ z=>z) g3⟩;subst za;rcases z with z|z
  ·exact z (.inr lO)
  ·exact nl2 j z
 ·by_cases ha:a=l
  ·subst ha;exact⟨_,aI⟩
  ·obtain⟨o,q⟩:=PP.env.dom a z;exact⟨o,fZ a o q ha⟩
 ·refine fZ a o (PP.keep a o q n) fun za=>?_;subst za;rw[hl0]at q;cases q
 ·obtain⟨o',q'⟩:=PP.dom a o q;by_cases ha:a=l
  ·subst ha;exact⟨_,aI⟩
  ·exact⟨o',fZ a o' q' ha⟩
 ·obtain⟨b1,b2,b3⟩:=PP.pure hp;refine⟨b1,b2,fun a o q=>fZ a o (b3 a o q) fun za=>?_⟩;subst za;rw[hl0]at q;cases q
 ·have op2:OwP K (Own R2 (U (fun b=>b=l) Ox)) (upd H2 l (.dK (ia [] kvs))) ks (kvs.map fun kv=>(kV kv.1,kv.2)):=by
   rw[e1]at op;refine OwP.mv ⟨fun a o q z=>fZ a o q fun za=>?_,fun a z=>.inl z⟩ op;subst za;rcases z with z|z
   ·exact z (.inr lO)
   ·exact z
  exact tS op2 rfl
def GB{keys:List (Option Expr)}{values:List Expr}(h:PPs X pos keys values (trs K p ds fs))(hall:keys.all (·.isSome)=true)(hl:keys.length=values.length)(h0:keys≠[])(h15:keys.length<=15):
  PE X (.Dict keys values pos) (tF K p ds ds 1 (e7 fs)):=(Ff h hall hl h0 h15).imp fun _ _ _=>Ld
def KG:PPs X pos [] [] (trs K p ds []):=E8
def Ga{k v:Expr}{ks:List (Option Expr)}{vs:List Expr}{fv:ME}(hk:PE X k (tF K p ds ds 3 fk))(hv:PE X v (tF K p ds ds 0 fv))(hr:PPs X pos ks vs (trs K p ds fs)):PPs X pos (some k::ks) (v::vs) (trs K p ds ((fk,fv)::fs)):=As hk hv hr
def N4(i j:Nat)(fa:MA):MS:=fun en=>(fa en).bind fun r=>match r.1 with
 |[.inl a,.inl b]=>some (.nx ((r.2.set i (some a)).set j (some b)))
 |_=>none
end
section
variable{ws:List V}{x:V} 
def LO(K:zbY):List V->Hp->VK->Prop:=fun xs H Q=>∃(p:Addr) (ns:List Int),xs=[.ref p]/\SqL K H p (ns.map V.int)/\Q (.int ns.sum) H
def zL(hc:X.calm=true):CallR X (.builtin "sum") (LO X.K):=by
 intro ρ s σ H xs us Q I r h;obtain⟨p,ns,rfl,hp,q⟩:=h;obtain⟨u,rfl,ru⟩:=dB r;cases ru;obtain⟨its,rv,pl,hz⟩:=I.list hp;have hl:its.length=ns.length:=by rw[<-rv.length,zad]
 have hlt:p<s.heap.objs.size:=by
  obtain⟨o,n,e,_⟩:=id pl;exact zal e
 have hsz:its.toArray.size=ns.length:=by rw[zai,hl]
 refine call_sum_walkAnyS (wpAny_pyIter_list pl.isList ?_);refine⟨s.heap.objs.size,[s.heap.objs.size,p],[s.heap.objs.size],_,its.toArray.size,fun i v=>its.toArray[i]?=some v,_,fun i=>ns.getD i 0,rfl,(Walks.list (A:=X.A.in1) (show X.A.in1.handled=none from I.ok.hd hc) s.heap.objs.size p (zaw hlt) its.toArray).toS,?_,?_,?_,?_⟩
 ·exact⟨⟨_,zan _ rfl,rfl,rfl⟩,pl.isList.push _⟩
 ·intro b hb;show b<(s.heap.push _).objs.size;rw[zbv];have hb':b=s.heap.objs.size\/b=p:=by simpa using hb
  rcases hb' with rfl|rfl
  ·exact zaJ _
  ·exact Nat.lt_succ_of_lt hlt
 ·intro i v hv;have hv':its[i]?=some v:=by simpa using hv
  have hi:i<ns.length:=by
   rw[<-hl];exact(zah.mp hv').1
  obtain⟨u,hu,ru⟩:=rv.get (i:=i) (x:=V.int ns[i]) (by rw[zao,zak hi];rfl);rw[hu]at hv';cases hv';obtain⟨t,rfl⟩:=ru;refine⟨t,?_⟩;show Value.int ns[i] t=Value.int (ns.getD i 0) t;rw[zbh,zak hi];rfl
 ·intro s' t' hm;have e:preSum (fun i=>ns.getD i 0) its.toArray.size=ns.sum:=by
   rw[hsz,nA ns ns.length (zav _),zaQ]
  rw[e];obtain⟨hh,g,dr,tk,os'⟩:=s';have e1:dr=s.drawn:=hm.drawn;have e2:os'=s.os:=hm.os;have e3:g=s.gens:=hm.gens;subst e1 e2 e3;refine⟨.int ns.sum,H,I.kept (t':=tk) fun b o z=>hm.heap b o ?_ (zaf _ z),⟨_,rfl⟩,q⟩;intro z';have z'':b=s.heap.objs.size:=by simpa using z'
  exact zaw (zal z) z''
def di:List D->Option (List Int)
 |[]=>some []
 |.int i::r=>(di r).map (i::·)
 |_::_=>none
theorem kR:∀{ts:List D} {vs:List V} {bs:List Int},Ows K O H ts 0 vs NoA->di ts=some bs->vs=bs.map V.int
 |[],_,_,h,hb=>by cases hb;exact h
 |.int b::r,_,_,h,hb=>by
  obtain⟨v,w,F1,F2,e,_,_,_,h4,h5⟩:=h;obtain⟨bs',h6,h7⟩:=zab.mp hb;subst e h7;rw[show v=.int b from h4,kR (Ows.any0 r h5) h6];rfl
 |.none::_,_,_,_,hb=>by cases hb
 |.bool _::_,_,_,_,hb=>by cases hb
 |.str _::_,_,_,_,hb=>by cases hb
 |.list _::_,_,_,_,hb=>by cases hb
 |.tuple _::_,_,_,_,hb=>by cases hb
 |.dict _::_,_,_,_,hb=>by cases hb
def Al:List D->Option D
 |[.list ts]=>(di ts).map fun ns=>.int ns.sum
 |_=>none
def KH(hK:X.K=K)(hc:X.calm=true):CallR X (.builtin "sum") (rFn K Al 3):=by
 subst hK;refine(zL hc).imp ?_;rintro xs H Q ⟨O,as,t,oa,hd,hg,k⟩
 match as,hg with
 |[.list ts],hg=>
  obtain⟨ns,h1,rfl⟩:=zab.mp hg;obtain⟨v,rfl,o⟩:=oa.one;obtain⟨a,vs,rfl,fz,w⟩:=o.lst0;have e:=kR w h1;subst e;exact⟨a,ns,rfl,fz.sq,k _ H NoA .refl rfl⟩
end
section
variable{ws:List V}{b:Addr}
def Aa(ts us:List D):List D:=List.zipWith (fun x y=>.tuple [x,y]) ts us
def NY(fa:MA):MI:=fun en=>(fa en).bind fun r=>match r.1 with
 |[.inl (.list ts),.inl (.list us)]=>some (Aa ts us,r.2)
 |_=>none
end
def eM(g:Str->List D->Option D)(f:ME)(fa:MA):ME:=fun en=>(f en).bind fun r=>match r.1 with
 |.str z=>(fa r.2).bind fun q=>(vals q.1).bind fun ts=>(g z ts).map fun t=>(t,q.2)
 |_=>none
def NX:Str->List D->Option D
 |sep,[.list ts]=>(strsOf ts).bind fun ys=>if sep.length<=16/\(ys.map (·.length)).sum+ys.length<=1048576 then some (.str (Txt.join sep ys))else none
 |sep,[.tuple ts]=>(strsOf ts).bind fun ys=>if sep.length<=16/\(ys.map (·.length)).sum+ys.length<=1048576 then some (.str (Txt.join sep ys))else none
 |_,_=>none
where strsOf:List D->Option (List Str)
 |[]=>some []
 |.str z::r=>(strsOf r).map (z::·)
 |_::_=>none
def NC:Str->List D->Option D
 |z,[.str y]=>some (.bool (Txt.startswith z y))
 |_,_=>none
def NZ:Str->List D->Option D
 |z,[.str y]=>some (.bool (Txt.endswith z y))
 |_,_=>none
section
variable{s:Shared} 
mutual
theorem Ow.reads(I:Inv X ρ σ H s):∀(t:D) {v:V} {u:Value},noDict t=true->Ow X.K O H t 0 v NoA->RelV v u->∃as,Reads s.heap u t as
 |.none,_,_,_,h,r=>by
  cases(show _=V.non from h);cases r;exact⟨_,.none⟩
 |.bool b,_,_,_,h,r=>by
  cases(show _=V.bl b from h);cases r;exact⟨_,.bool _⟩
 |.int i,_,_,_,h,r=>by
  cases(show _=V.int i from h);obtain⟨t,rfl⟩:=r;exact⟨_,.int _ _⟩
 |.str x,_,_,_,h,r=>by
  cases(show _=V.str x from h);obtain⟨t,rfl⟩:=r;exact⟨_,.str _ _⟩
 |.list ts,_,_,hn,h,r=>by
  obtain⟨p,vs,rfl,fz,w⟩:=h.lst0;cases r;obtain⟨its,rv,⟨o,n,e1,e2,_,e3⟩,_⟩:=I.list fz.sq;obtain⟨as,ra⟩:=Ows.reads I ts (by simpa[noDict]using hn) w rv;exact⟨_,.list e1 e2 e3 (by simpa using ra)⟩
 |.tuple ts,_,_,hn,h,r=>by
  obtain⟨p,vs,rfl,fz,w⟩:=h.tup0;cases r;obtain⟨its,rv,⟨o,e1,e2,n,e3⟩,_⟩:=I.tuple fz.sq;obtain⟨as,ra⟩:=Ows.reads I ts (by simpa[noDict]using hn) w rv;exact⟨_,.tuple e1 e2 e3 (by simpa using ra)⟩
 |.dict _,_,_,hn,_,_=>by simp[noDict]at hn
theorem Ows.reads(I:Inv X ρ σ H s):∀(ts:List D) {vs:List V} {us:List Value},aF ts=true->Ows X.K O H ts 0 vs NoA->Vals vs us->∃as,ReadsAll s.heap us ts as
 |[],_,_,_,h,r=>by
  cases(show _=[]from h);cases r;exact⟨_,.nil⟩
 |t::ts,_,_,hn,h,r=>by
  obtain⟨v,q,F1,F2,e,_,_,_,h4,h5⟩:=h;subst e;have hn':noDict t=true/\aF ts=true:=by simpa[aF]using hn
  cases r with
  |cons ru rr=>
   obtain⟨as,a1⟩:=Ow.reads I t hn'.1 (Ow.any0 t h4) ru;obtain⟨bs,a2⟩:=Ows.reads I ts hn'.2 (Ows.any0 ts h5) rr;exact⟨_,.cons a1 a2⟩
end
mutual
theorem kT:∀t:D,noDict t=true->t.hasDict=false
 |.none,_=>by simp only[PyData.hasDict]
 |.bool _,_=>by simp only[PyData.hasDict]
 |.int _,_=>by simp only[PyData.hasDict]
 |.str _,_=>by simp only[PyData.hasDict]
 |.list ts,h=>by simp only[PyData.hasDict];exact jO ts (by simpa[noDict]using h)
 |.tuple ts,h=>by simp only[PyData.hasDict];exact jO ts (by simpa[noDict]using h)
 |.dict _,h=>by simp[noDict]at h
theorem jO:∀ts:List D,aF ts=true->PyData.hasDictAll ts=false
 |[],_=>by simp only[PyData.hasDictAll]
 |t::ts,h=>by
  have h':noDict t=true/\aF ts=true:=by simpa[aF]using h
  simp only[PyData.hasDictAll,kT t h'.1,jO ts h'.2,Bool.or_self]
end
def wP:List D->Option D
 |[.dict []]=>some (.str "{}")
 |[t]=>grd (noDict t=true/\t.showable=true/\t.depth<=60/\t.shown.length<=sizeLine) (.str t.shown)
 |_=>none
def Gd(hK:X.K=K)(hg:X.A.guards=some [])(hu:X.A.units+64<cLine):CallR X (.builtin "repr") (rFn K wP 3):=by
 subst hK;intro ρ s σ H xs us Q I r ⟨O,as,t,oa,hd,hr,k⟩;unfold wP at hr;split at hr
 ·cases hr;obtain⟨v,rfl,o⟩:=oa.one;obtain⟨a,vs,rfl,g1,g2⟩:=o.dict0 rfl;have e:vs=[]:=g2;subst e;exact xF hg hu ρ s σ H _ us Q I r ⟨_,_,rfl,.inr ⟨a,rfl,g1,rfl⟩,k _ H NoA .refl rfl⟩
 ·next d hne=>
  obtain⟨⟨c1,c2,c3,c4⟩,rfl⟩:=bI hr;obtain⟨v,rfl,o⟩:=oa.one;obtain⟨u,rfl,ru⟩:=dB r;obtain⟨as,rd⟩:=Ow.reads I d c1 o ru;have q:=k (.str d.shown) H NoA .refl rfl;cases d with
  |none=>
   cases(show v=V.non from o);cases ru;have e:(PyData.none).shown=("None":Str):=PyData.shown_none;rw[e]at q;exact P.repr_of_none ⟨.str _,H,I.tok _,⟨_,rfl⟩,q⟩
  |bool b=>
   cases(show v=V.bl b from o);cases ru;have e:(PyData.bool b).shown=(if b then "True" else "False":Str):=PyData.shown_bool b;rw[e]at q;exact P.repr_of_bool ⟨.str (if b then "True" else "False"),H,I.tok _,⟨_,rfl⟩,q⟩
  |int i=>
   cases(show v=V.int i from o);obtain⟨t,rfl⟩:=ru;have e:(PyData.int i).shown=((toString i:String):Str):=PyData.shown_int i;rw[e]at q;have hl:i.natAbs.log2<1920:=by simpa[PyData.showable]using c2
   exact P.repr_of_int hl ⟨.str _,H,I.tok _,⟨_,rfl⟩,q⟩
  |str y=>
   cases(show v=V.str y from o);obtain⟨t,rfl⟩:=ru;have e:(PyData.str y).shown=reprText y:=PyData.shown_str y;rw[e]at q c4;exact P.repr_of_str ⟨.str _,H,I.tok _,⟨_,rfl⟩,q⟩ c4
  |list ts=>
   obtain⟨p,vs,rfl,_,_⟩:=o.lst0;cases ru;exact repr_of_reads' rd c2 (PyData.noDict_hsm (kT _ c1)) hg (by omega) (fun _ _ e=>e) (fun h' u tk hk=>⟨.str _,H,I.kept (t':=tk) hk,⟨_,rfl⟩,q⟩) c4
  |tuple ts=>
   obtain⟨p,vs,rfl,_,_⟩:=o.tup0;cases ru;exact repr_of_reads' rd c2 (PyData.noDict_hsm (kT _ c1)) hg (by omega) (fun _ _ e=>e) (fun h' u tk hk=>⟨.str _,H,I.kept (t':=tk) hk,⟨_,rfl⟩,q⟩) c4
  |dict _=>simp[noDict]at c1
 ·cases hr
end
section
open PySem.SeqAt Classical
variable{s:Shared} 
noncomputable def eqF(X:Cx)(O:AS)(H:Hp)(a:D)(u:Value):Bool:=decide (∃d v,RelV v u/\noDict d=true/\Ow X.K O H d 0 v NoA/\peq d a=true)
def zB(I:Inv X ρ σ H s){a d:D}{u:Value}(r:RelV v u)(hn:noDict d=true)(o:Ow X.K O H d 0 v NoA):eqF X O H a u=peq d a:=by
 unfold eqF;cases h:peq d a with
 |true=>exact zaB ⟨d,v,r,hn,o,h⟩
 |false=>
  refine zaA fun⟨d',v',r',hn',o',h'⟩=>?_;have e:=r.inj r';subst e
  have:=Ow.inj I d d' o o' hn;subst this;rw[h]at h';cases h'
theorem ko(I:Inv X ρ σ H s){a:D}:∀{ts:List D} {vs:List V} {us:List Value},aF ts=true->Ows X.K O H ts 0 vs NoA->Vals vs us->us.any (eqF X O H a)=ts.any fun t=>peq t a
 |[],_,_,_,h,r=>by
  cases(show _=[]from h);cases r;rfl
 |t::ts,_,_,hn,h,r=>by
  obtain⟨v,q,F1,F2,e,_,_,_,h4,h5⟩:=h;subst e;have hn':noDict t=true/\aF ts=true:=by simpa[aF]using hn
  cases r with
  |cons ru rr=>rw[List.any_cons,List.any_cons,zB I ru hn'.1 (Ow.any0 t h4),ko I hn'.2 (Ows.any0 ts h5) rr]
theorem j9(I:Inv X ρ σ H s){A:Around}{a:D}{x:V}{v:Value}(hna:noDict a=true)(oa:Ow X.K O H a 0 x NoA)(ra:RelV x v)(hu:A.units+60+1<cLine):∀{ts:List D} {vs:List V} {us:List Value},aF ts=true->bP ts<=60->Ows X.K O H ts 0 vs NoA->Vals vs us->∀u∈us,EqAt A s u v (eqF X O H a u)
 |[],_,_,_,_,h,r=>by
  cases(show _=[]from h);cases r;exact fun u hu=>by cases hu
 |t::ts,_,_,hn,hdp,h,r=>by
  obtain⟨w,q,F1,F2,e,_,_,_,h4,h5⟩:=h;subst e;have hn':noDict t=true/\aF ts=true:=by simpa[aF]using hn
  have hd':dZ t<=60/\bP ts<=60:=by simp only[bP]at hdp;omega
  cases r with
  |cons ru rr=>
   intro u' hu';rcases zay.mp hu' with rfl|hu'
   ·rw[zB I ru hn'.1 (Ow.any0 t h4)];exact(xD I 60 t a A w x _ v hd'.1 hn'.1 hna (Ow.any0 t h4) oa ru ra hu).1
   ·exact j9 I hna oa ra hu hn'.2 hd'.2 (Ows.any0 ts h5) rr u' hu'
def inL:D->D->Option D
 |x,.list ts=>grd (noDict x=true/\aF ts=true/\bP ts<=60) (.bool (ts.any fun t=>peq t x))
 |x,.tuple ts=>grd (noDict x=true/\aF ts=true/\bP ts<=60) (.bool (ts.any fun t=>peq t x))
 |_,_=>none
def fm:D->D->Option D
 |x,.list ts=>grd (noDict x=true/\aF ts=true/\bP ts<=60) (.bool (!ts.any fun t=>peq t x))
 |x,.tuple ts=>grd (noDict x=true/\aF ts=true/\bP ts<=60) (.bool (!ts.any fun t=>peq t x))
 |_,_=>none
def xy(hK:X.K=K)(hu:X.A.units+64<cLine):OpR X (compareOp .In) (rF2 K inL 3):=by
 subst hK;intro ρ s σ H x y v u Q I rx ry ⟨O,a,b,t,oa,ob,hd,hg,k⟩;have hu1:X.A.in1.units+60+1<cLine:=by show X.A.units+1+60+1<cLine;omega
 cases b with
 |list ts=>
  obtain⟨⟨c1,c2,c3⟩,rfl⟩:=bI hg;obtain⟨p,vs,rfl,fz,w⟩:=ob.lst0;cases ry;obtain⟨its,r,pl,hz⟩:=I.list fz.sq;refine SeqAt.in_listAt (eqF X O H a) pl.isList (fun z hz=>j9 I c1 oa rx hu1 c2 c3 w r z (by simpa using hz)) ⟨.bl _,H,I,rfl,?_⟩;rw[show its.toArray.any (eqF X O H a)=its.any (eqF X O H a)by simp,ko I c2 w r];exact k _ H NoA .refl rfl
 |tuple ts=>
  obtain⟨⟨c1,c2,c3⟩,rfl⟩:=bI hg;obtain⟨p,vs,rfl,fz,w⟩:=ob.tup0;cases ry;obtain⟨its,r,pl,hz⟩:=I.tuple fz.sq;refine SeqAt.in_tupleAt (eqF X O H a) pl (fun z hz=>j9 I c1 oa rx hu1 c2 c3 w r z (by simpa using hz)) ⟨.bl _,H,I,rfl,?_⟩;rw[show its.toArray.any (eqF X O H a)=its.any (eqF X O H a)by simp,ko I c2 w r];exact k _ H NoA .refl rfl
 |_=>cases hg
def ut(hK:X.K=K)(hu:X.A.units+64<cLine):OpR X (compareOp .NotIn) (rF2 K fm 3):=by
 subst hK;intro ρ s σ H x y v u Q I rx ry ⟨O,a,b,t,oa,ob,hd,hg,k⟩;have hu1:X.A.in1.units+60+1<cLine:=by show X.A.units+1+60+1<cLine;omega
 cases b with
 |list ts=>
  obtain⟨⟨c1,c2,c3⟩,rfl⟩:=bI hg;obtain⟨p,vs,rfl,fz,w⟩:=ob.lst0;cases ry;obtain⟨its,r,pl,hz⟩:=I.list fz.sq;refine SeqAt.notIn_listAt (eqF X O H a) pl.isList (fun z hz=>j9 I c1 oa rx hu1 c2 c3 w r z (by simpa using hz)) ⟨.bl _,H,I,rfl,?_⟩;rw[show its.toArray.any (eqF X O H a)=its.any (eqF X O H a)by simp,ko I c2 w r];exact k _ H NoA .refl rfl
 |tuple ts=>
  obtain⟨⟨c1,c2,c3⟩,rfl⟩:=bI hg;obtain⟨p,vs,rfl,fz,w⟩:=ob.tup0;cases ry;obtain⟨its,r,pl,hz⟩:=I.tuple fz.sq;refine SeqAt.notIn_tupleAt (eqF X O H a) pl (fun z hz=>j9 I c1 oa rx hu1 c2 c3 w r z (by simpa using hz)) ⟨.bl _,H,I,rfl,?_⟩;rw[show its.toArray.any (eqF X O H a)=its.any (eqF X O H a)by simp,ko I c2 w r];exact k _ H NoA .refl rfl
 |_=>cases hg
end
def dns:Nat->Nat->Nat
 |0,d=>d
 |m+1,d=>dns m (dn d)
theorem uB:∀m,dns m 0=0
 |0=>rfl
 |m+1=>uB m
def zH{m:Nat}(h:dns m d≠0):d≠0:=fun z=>h (by rw[z];exact uB m)
def cN:D->List Nat->Option D
 |t,[]=>some t
 |.list ts,k::π=>(ts[k]?).bind fun u=>cN u π
 |.tuple ts,k::π=>(ts[k]?).bind fun u=>cN u π
 |_,_::_=>none
def dD:D->List Nat->D->D
 |_,[],u=>u
 |.list ts,k::π,u=>.list (ts.set k ((ts[k]?).elim .none fun c=>dD c π u))
 |.tuple ts,k::π,u=>.tuple (ts.set k ((ts[k]?).elim .none fun c=>dD c π u))
 |t,_::_,_=>t
def PathV(H:Hp):V->List Nat->V->Prop
 |v,[],w=>v=w
 |v,k::π,w=>∃a vs u,v=.ref a/\(H a=some (.lst vs)\/H a=some (.tup vs))/\vs[k]?=some u/\PathV H u π w
theorem PathV.mono{H H':Hp}(hk:∀a o,H a=some o->H' a=some o):∀{π:List Nat} {v w:V},PathV H v π w->PathV H' v π w
 |[],_,_,h=>h
 |_::_,_,_,⟨a,vs,u,e,h1,h2,h3⟩=>⟨a,vs,u,e,h1.imp (hk _ _) (hk _ _),h2,h3.mono hk⟩
theorem PathV.det{H:Hp}:∀{π:List Nat} {v w w':V},PathV H v π w->PathV H v π w'->w=w'
 |[],_,_,_,h,g=>h.symm.trans g
 |_::_,_,_,_,⟨a,vs,u,e,h1,h2,h3⟩,⟨a',vs',u',e',g1,g2,g3⟩=>by
  rw[e]at e';cases e'
  have:vs=vs':=by
   rcases h1 with h1|h1<;>rcases g1 with g1|g1<;>rw[h1]at g1<;>cases g1<;>rfl
  subst this;rw[h2]at g2;cases g2;exact h3.det g3
theorem PathV.snoc{H:Hp}{a:Addr}{vs:List V}{u:V}{k:Nat}(h1:H a=some (.lst vs)\/H a=some (.tup vs))(h2:vs[k]?=some u):∀{π:List Nat} {v:V},PathV H v π (.ref a)->PathV H v (π++[k]) u
 |[],_,h=>⟨a,vs,u,h,h1,h2,rfl⟩
 |_::_,_,⟨a',vs',u',e,g1,g2,g3⟩=>⟨a',vs',u',e,g1,g2,PathV.snoc h1 h2 g3⟩
theorem Ows.zoom{d:Nat}:∀{ts:List D} {vs:List V} {F:AS} {k:Nat} {u:D},Ows K O H ts d vs F->ts[k]?=some u ->
  ∃w,∃F1 F2:AS,vs[k]?=some w/\(∀b,F1 b->F b)/\(∀b,F2 b->F b)/\(∀b,F1 b->¬F2 b)/\Ow K O H u d w F1 /\
   ∀(O':AS) (H':Hp) (u':D) (G:AS),Mv O O' F2 H H'->(∀b,G b->¬F2 b)->Ow K O' H' u' d w G->Ows K O' H' (ts.set k u') d vs (fun b=>F2 b\/G b)
 |[],_,_,k,u,_,h=>by simp at h
 |t::ts,_,F,k,u,h,hk=>by
  obtain⟨v,r,F1,F2,e,s1,s2,s3,h4,h5⟩:=h;subst e;cases k with
  |zero=>
   have:t=u:=by simpa using hk
   subst this;refine⟨v,F1,F2,rfl,s1,s2,s3,h4,fun O' H' u' G m hd o=>?_⟩;exact⟨v,r,G,F2,rfl,fun _ z=>.inr z,fun _ z=>.inl z,hd,o,Ows.mv m ts (fun _ z=>z) h5⟩
  |succ k=>
   obtain⟨w,G1,G2,g1,g2,g3,g4,g5,g6⟩:=Ows.zoom (k:=k) h5 (by simpa using hk);refine⟨w,G1,fun b=>F1 b\/G2 b,by simpa using g1,fun b z=>s2 b (g2 b z),fun b z=>z.elim (s1 b) fun z=>s2 b (g3 b z),fun b z z2=>?_,g5,fun O' H' u' G m hd o=>?_⟩
   ·rcases z2 with z2|z2
    ·exact s3 b z2 (g2 b z)
    ·exact g4 b z z2
   ·refine⟨v,r,F1,fun b=>G2 b\/G b,rfl,fun b z=>.inl (.inl z),fun b z=>z.imp .inr id,fun b z z2=>?_,Ow.mv ⟨m.k,m.o⟩ t (fun b z=>.inl z) h4,g6 O' H' u' G ⟨fun a o q z=>m.k a o q (z.imp id .inr),m.o⟩ (fun b z z2=>hd b z (.inr z2)) o⟩;rcases z2 with z2|z2
    ·exact s3 b z (g3 b z2)
    ·exact hd b z2 (.inl z)
theorem Ow.zoom:∀{π:List Nat} {t u:D} {d:Nat} {v:V} {F:AS},Ow K O H t d v F->cN t π=some u->dns π.length d≠0 ->
  ∃w,∃F1 Fr:AS,PathV H v π w/\(∀b,F1 b->F b)/\(∀b,Fr b->F b)/\(∀b,F1 b->¬Fr b)/\Ow K O H u (dns π.length d) w F1 /\
   ∀(O':AS) (H':Hp) (u':D) (G:AS),Mv O O' Fr H H'->(∀b,G b->¬Fr b)->Ow K O' H' u' (dns π.length d) w G->Ow K O' H' (dD t π u') d v (fun b=>Fr b\/G b)
 |[],t,u,d,v,F,h,hp,hz=>by
  cases hp;refine⟨v,F,NoA,rfl,fun _ z=>z,fun _ z=>z.elim,fun _ _ z=>z,h,fun O' H' u' G m hd o=>?_⟩;have e:(fun b=>NoA b\/G b)=G:=fH fun b=>⟨fun z=>z.elim (fun z=>z.elim) id,.inr⟩;rw[e];exact o
 |k::π,t,u,d,v,F,h,hp,hz=>by
  have hz1:dns π.length (dn d)≠0:=hz;have hd0:d≠0:=zH (m:=π.length+1) hz;cases t with
  |list ts=>
   obtain⟨c,p1,p2⟩:=zaa.mp hp;obtain⟨a,vs,e,⟨h0,_⟩|⟨_,h1,h2,F',hf,h3⟩⟩:=h
   ·exact absurd h0 hd0
   obtain⟨w,G1,G2,g1,g2,g3,g4,g5,g6⟩:=h3.zoom p1;obtain⟨w2,F1,Fr,q1,q2,q3,q4,q5,q6⟩:=Ow.zoom g5 p2 hz1;refine⟨w2,F1,fun b=>b=a\/G2 b\/Fr b,⟨a,vs,w,e,.inl h1,g1,q1⟩,fun b z=>(hf b (g2 b (q2 b z))).1,fun b z=>?_,fun b z z2=>?_,q5,fun O' H' u' G m hd o=>?_⟩
   ·rcases z with z|z|z
    ·rw[z];exact h2
    ·exact(hf b (g3 b z)).1
    ·exact(hf b (g2 b (q3 b z))).1
   ·rcases z2 with z2|z2|z2
    ·exact(hf b (g2 b (q2 b z))).2 z2
    ·exact g4 b (q2 b z) z2
    ·exact q4 b z z2
   ·have o1:=q6 O' H' u' G ⟨fun x y q z=>m.k x y q (z.imp id fun z=>.inr (.inr z)),m.o⟩ (fun b z z2=>hd b z (.inr (.inr z2))) o;have o2:=g6 O' H' (dD c π u') (fun b=>Fr b\/G b) ⟨fun x y q z=>m.k x y q (z.imp id fun z=>.inr (.inl z)),m.o⟩ (fun b z z2=>?_) o1
    ·refine⟨a,vs,e,.inr ⟨hd0,m.k _ _ h1 (.inr (.inl rfl)),.inl (.inl rfl),fun b=>G2 b\/Fr b\/G b,fun b z=>?_,?_⟩⟩
     ·rcases z with z|z|z
      ·exact⟨.inl (.inr (.inl z)),(hf b (g3 b z)).2⟩
      ·exact⟨.inl (.inr (.inr z)),(hf b (g2 b (q3 b z))).2⟩
      ·exact⟨.inr z,fun ze=>hd b z (.inl ze)⟩
     ·rw[p1];exact o2
    ·rcases z with z|z
     ·exact g4 b (q3 b z) z2
     ·exact hd b z (.inr (.inl z2))
  |tuple ts=>
   obtain⟨c,p1,p2⟩:=zaa.mp hp;obtain⟨a,vs,e,⟨h0,_⟩|⟨_,h1,h2,F',hf,h3⟩⟩:=h
   ·exact absurd h0 hd0
   obtain⟨w,G1,G2,g1,g2,g3,g4,g5,g6⟩:=h3.zoom p1;obtain⟨w2,F1,Fr,q1,q2,q3,q4,q5,q6⟩:=Ow.zoom g5 p2 hz1;refine⟨w2,F1,fun b=>b=a\/G2 b\/Fr b,⟨a,vs,w,e,.inr h1,g1,q1⟩,fun b z=>(hf b (g2 b (q2 b z))).1,fun b z=>?_,fun b z z2=>?_,q5,fun O' H' u' G m hd o=>?_⟩
   ·rcases z with z|z|z
    ·rw[z];exact h2
    ·exact(hf b (g3 b z)).1
    ·exact(hf b (g2 b (q3 b z))).1
   ·rcases z2 with z2|z2|z2
    ·exact(hf b (g2 b (q2 b z))).2 z2
    ·exact g4 b (q2 b z) z2
    ·exact q4 b z z2
   ·have o1:=q6 O' H' u' G ⟨fun x y q z=>m.k x y q (z.imp id fun z=>.inr (.inr z)),m.o⟩ (fun b z z2=>hd b z (.inr (.inr z2))) o;have o2:=g6 O' H' (dD c π u') (fun b=>Fr b\/G b) ⟨fun x y q z=>m.k x y q (z.imp id fun z=>.inr (.inl z)),m.o⟩ (fun b z z2=>?_) o1
    ·refine⟨a,vs,e,.inr ⟨hd0,m.k _ _ h1 (.inr (.inl rfl)),.inl (.inl rfl),fun b=>G2 b\/Fr b\/G b,fun b z=>?_,?_⟩⟩
     ·rcases z with z|z|z
      ·exact⟨.inl (.inr (.inl z)),(hf b (g3 b z)).2⟩
      ·exact⟨.inl (.inr (.inr z)),(hf b (g2 b (q3 b z))).2⟩
      ·exact⟨.inr z,fun ze=>hd b z (.inl ze)⟩
     ·rw[p1];exact o2
    ·rcases z with z|z
     ·exact g4 b (q3 b z) z2
     ·exact hd b z (.inr (.inl z2))
  |_=>cases hp
abbrev MP:=En->Option (List Nat×En)
def tP(K:zbY)(p:Bool)(ds ds':List Nat)(i m:Nat)(mp:MP):TE:=fun σ H Q=>
 ∃Ox en R π en',EnvOk K ds Ox H σ en R/\mp en=some (π,en')/\∀v w H' R',Post K p ds' Ox σ H en R en' H' R' NoA->π.length=m->σ[i]?=some (some v)->PathV H' v π w->Q w H'
def oE(i:Nat):MP:=fun en=>((en[i]?).join).map fun _=>([],en)
def pIx(i:Nat)(mp:MP)(f:ME):MP:=fun en=>(mp en).bind fun r=>(f r.2).bind fun q=>match q.1,(q.2[i]?).join with
 |.int n,some t=>(cN t r.1).bind fun u=>match u with
  |.list ts=>(ixN ts.length n).bind fun k=>if k<ts.length then some (r.1++[k],q.2)else none
  |.tuple ts=>(ixN ts.length n).bind fun k=>if k<ts.length then some (r.1++[k],q.2)else none
  |_=>none
 |_,_=>none
section
variable{m:Nat}{mp:MP}{o:Expr} 
def La(h:tP K true ds ds i 0 (oE i) σ H Q):fY i σ H Q:=by
 obtain⟨Ox,en,R,π,en',e,hf,k⟩:=h;unfold oE at hf;obtain⟨t,h1,h2⟩:=zab.mp hf;cases h2;obtain⟨v,d,a1,_,_⟩:=e.at_ i t (be h1);exact⟨v,a1,k v v H R (Post.refl e) rfl a1 rfl⟩
def My(hpu:p2=true\/m=0)(hd:ds2[i]?=some d)(hz:dns m d≠0)(h:tP K (p1&&p2) ds ds2 i (m+1) (pIx i mp f) σ H Q):tOp (rIx K) (tP K p1 ds ds1 i m mp) (tF K p2 ds1 ds2 d1 f) σ H Q:=by
 obtain⟨Ox,en,R,π,en',e,hf,k⟩:=h;unfold pIx at hf;obtain⟨⟨π0,en1⟩,h1,hf⟩:=zaa.mp hf;obtain⟨⟨t1,en2⟩,h2,hf⟩:=zaa.mp hf
 dsimp only at hf
 split at hf
 case h_2=>cases hf
 next n t h3=>
 obtain⟨u,h4,hf⟩:=zaa.mp hf;refine⟨Ox,en,R,π0,en1,e,h1,fun v w H1 R1 P1 hl hv pv=>?_⟩;refine⟨Ox,en1,R1,.int n,en2,P1.env0,h2,fun y H2 R2 F P2 o=>?_⟩;have ey:y=.int n:=o;subst ey;have P:=P1.after P2;obtain⟨v',d',b1,b2,b3⟩:=P.env.at_ i t (be h3);rw[hv]at b1;cases b1;rw[hd]at b2;cases b2;have pv2:PathV H2 v π0 w:=by
  rcases hpu with hp|hm
  ·exact pv.mono (P2.pure hp).2.2
  ·have e0:π0=[]:=za7.mp (hl.trans hm);subst e0;exact pv
 obtain⟨w2,F1,Fr,q1,q2,q3,q4,q5,_⟩:=b3.zoom h4 (by rw[hl];exact hz);have ew:=pv2.det q1;subst ew;rw[hl]at q5;cases u with
 |list ts=>
  obtain⟨kk,h5,hf⟩:=zaa.mp hf;by_cases hk:kk<ts.length
  case neg=>rw[if_neg hk]at hf;cases hf
  rw[if_pos hk]at hf;cases hf;obtain⟨a,vs,ea,ha,_,F',_,ow⟩:=q5.ownL hz;obtain⟨x,g1,_⟩:=ow.get (zak hk);refine .inl ⟨a,vs,n,x,ea,rfl,SqL.of ha,by unfold atI;rw[ow.len,h5];exact g1,?_⟩;subst ea;exact k v x H2 R2 (P.less fun _ z=>z.elim) (by rw[zae,hl];rfl) hv (PathV.snoc (.inl ha) g1 q1)
 |tuple ts=>
  obtain⟨kk,h5,hf⟩:=zaa.mp hf;by_cases hk:kk<ts.length
  case neg=>rw[if_neg hk]at hf;cases hf
  rw[if_pos hk]at hf;cases hf;obtain⟨a,vs,ea,⟨h0,_⟩|⟨_,ha,_,F',_,ow⟩⟩:=q5
  ·exact absurd h0 hz
  obtain⟨x,g1,_⟩:=ow.get (zak hk);refine .inr (.inl ⟨a,vs,n,x,ea,rfl,SqT.of ha,by unfold atI;rw[ow.len,h5];exact g1,?_⟩);subst ea;exact k v x H2 R2 (P.less fun _ z=>z.elim) (by rw[zae,hl];rfl) hv (PathV.snoc (.inr ha) g1 q1)
 |_=>cases hf
def F9(hN:X.N[i]?=some x)(hv:Vis X.env.scope x)(hd:(x==("__debug__":Str))=false)(hcd:(x==("__classdict__":Str))=false):PE X (.Name x px) (tP K true ds ds i 0 (oE i)):=
 (cR hN hv hd hcd).imp fun _ _ _=>La
def KF(hK:X.K=K)(hd:ds2[i]?=some d)(ho:PE X o (tP K p1 ds ds1 i m mp))(hb:PE X b (tF K p2 ds1 ds2 d1 f))(hz:dns m d≠0)(hpu:p2=true\/m=0)(hs:gO b):PE X (.Subscript o b pos) (tP K (p1&&p2) ds ds2 i (m+1) (pIx i mp f)):=by
 subst hK;exact(wS ix_seq ho hb hs).imp fun _ _ _=>My hpu hd hz
def Post.place{F:AS}{π:List Nat}{w:V}(P:Post K p ds1 Ox σ H en R en1 H1 R1 F)(hi:en1[i]?=some (some t))(hv:σ[i]?=some (some v))(hd:ds1[i]?=some d)(hg:cN t π=some (.list ts))(hz:dns π.length d≠0)(pv:PathV H1 v π w):
  ∃l vs,∃F1:AS,w=.ref l/\H1 l=some (.lst vs)/\R1 i l/\(∀b,F1 b->R1 i b/\b≠l)/\Ows K (Own R1 (U F Ox)) H1 ts (dn (dns π.length d)) vs F1 /\
   ∀(ts':List D) (vs':List V) (G:AS),(∀b,G b->F1 b\/F b)->(∀O',(∀a,O' a->Own R1 (U F Ox) a)->Ows K O' (upd H1 l (.lst vs')) ts' (dn (dns π.length d)) vs' G) ->
    ∃R',Post K false ds1 Ox σ H en R (en1.set i (some (dD t π (.list ts')))) (upd H1 l (.lst vs')) R' NoA:=by
 obtain⟨v',d',b1,b2,b3⟩:=P.env.at_ i t hi;rw[hv]at b1;cases b1;rw[hd]at b2;cases b2;obtain⟨w2,F1,Fr,q1,q2,q3,q4,q5,q6⟩:=b3.zoom hg hz;have ew:=pv.det q1;subst ew;obtain⟨l,vs,el,hl,hr,F',hf',ow⟩:=q5.ownL hz;refine⟨l,vs,F',el,hl,q2 l hr,fun b z=>⟨q2 b (hf' b z).1,(hf' b z).2⟩,ow,fun ts' vs' G hG hO=>?_⟩;have ξ:i<en1.length:=(zah.mp hi).1;have gl:∀b,F b->b≠l:=fun b z ze=>by
  subst ze;exact P.env.dx i b (q2 b hr) (.inl z)
 have gG:∀a,(fun b=>Fr b\/(b=l\/G b)) a->R1 i a\/F a:=fun a z=>by
  rcases z with z|z|z
  ·exact .inl (q3 a z)
  ·rw[z];exact .inl (q2 l hr)
  ·rcases hG a z with z|z
   ·exact .inl (q2 a (hf' a z).1)
   ·exact .inr z
 have sub:=kz (i:=i) (R1:=R1) (Ox:=Ox) (G:=fun b=>Fr b\/(b=l\/G b)) (F':=NoA) (F:=F) gG (fun _ z=>z.elim);have Ol:Own R1 (U F Ox) l:=.inl ⟨i,q2 l hr⟩;refine⟨_,P.slot (G:=fun b=>Fr b\/(b=l\/G b)) (q2 l hr) ξ hv hd gG (fun _ z=>z.elim) (fun _ _ z=>z) ?_⟩;refine q6 _ _ (.list ts') (fun b=>b=l\/G b) ⟨fun a o q z=>?_,fun a z=>.inl (sub a z)⟩ (fun b z z2=>?_) ?_
 ·rw[aN]
  ·exact q
  ·intro za;subst za;rcases z with z|z
   ·exact z Ol
   ·exact q4 a hr z
 ·rcases z with z|z
  ·rw[z]at z2;exact q4 l hr z2
  ·rcases hG b z with z|z
   ·exact q4 b (hf' b z).1 z2
   ·exact P.env.dx i b (q3 b z2) (.inl z)
 ·refine⟨l,vs',el,.inr ⟨hz,aI,.inl rfl,G,fun b z=>⟨.inr z,?_⟩,hO _ sub⟩⟩;rcases hG b z with z|z
  ·exact(hf' b z).2
  ·exact gl b z
def N1(i:Nat)(mp:MP)(f:ME):ME:=fun en=>(mp en).bind fun r=>match (r.2[i]?).join with
 |some t=>(cN t r.1).bind fun u=>match u with
  |.list ts=>(f r.2).bind fun q=>if ts.length<sizeLine then some (.none,q.2.set i (some (dD t r.1 (.list (ts++[q.1])))))else none
  |_=>none
 |none=>none
def kJ(i:Nat)(mp:MP)(fk fe:ME):MS:=fun en=>(fe en).bind fun r=>(mp r.2).bind fun w=>(fk w.2).bind fun q=>match q.1,(q.2[i]?).join with
 |.int n,some t=>(cN t w.1).bind fun u=>match u with
  |.list ts=>(ixN ts.length n).map fun k=>.nx (q.2.set i (some (dD t w.1 (.list (ts.set k r.1)))))
  |_=>none
 |_,_=>none
end
def xa(f:Nat->Str):Nat->List Str
 |0=>[]
 |i+1=>if(xa f i).any (·==f i)=true then xa f i else xa f i++[f i]
section
variable{P:Program}{s:Shared}
def LK(z:Str)(i:Nat):Str:=match z.cps[i]? with
 |some c=>mk1 c
 |none=>""
end
section
variable{k:Expr}{pos2 py:Pos}
def oS(h:∀v H,Q v H->Q' v H):tF K p ds ds1 d f σ H Q->tF K p ds ds1 d f σ H Q'
 |⟨Ox,en,R,t,en',e,hf,k⟩=>⟨Ox,en,R,t,en',e,hf,fun v H' R' F P o=>h _ _ (k v H' R' F P o)⟩
def NL:D->Option D
 |.str z=>grd (z.length<4000) (.int (xa (LK z) z.length).length)
 |_=>none
def kK:D->D->Option D
 |.list ts,.int (-1)=>some (.list ts.reverse)
 |_,_=>none
def mZ:D->D->Option D
 |.tuple ts,.int (-1)=>some (.tuple ts.reverse)
 |_,_=>none
def NU:D->D->Option D
 |.str z,.int (-1)=>grd (z.length<=sizeLine) (.str ⟨z.cps.toList.reverse.toArray⟩)
 |_,_=>none
def Gx(hK:X.K=K)(he:PE X e (tF K p ds ds1 d1 f1))(hk:PE X k (tF K p ds1 ds2 d2 f2)):PE X (.Subscript e (.Slice none none (some k) pos2) pos) (tF K p ds ds2 1 (e2 kK f1 f2)):=by
 subst hK;refine(Fe he hk).imp fun σ H Q h=>?_;refine oS (fun x H1 h1=>oS (fun y H2 h2=>?_) h1) (m9 (by rw[zbk];exact h));obtain⟨O,a,b,t,oa,ob,hd,hg,q⟩:=h2;unfold kK at hg;split at hg
 ·cases hg;obtain⟨a,vs,rfl,fz,w⟩:=oa.lst0;exact⟨a,vs,rfl,ob,fz.sq,fun l hl=>q _ _ _ (ck hl hd w.rev).1 (ck hl hd w.rev).2⟩
 ·cases hg
def Gw(hK:X.K=K)(he:PE X e (tF K p ds ds1 d1 f1))(hk:PE X k (tF K p ds1 ds2 d2 f2)):PE X (.Subscript e (.Slice none none (some k) pos2) pos) (tF K p ds ds2 0 (e2 mZ f1 f2)):=by
 refine(AF hK he hk).imp fun σ H Q h=>?_;refine oS (fun x H1 h1=>oS (fun y H2 h2=>?_) h1) (m9 (by rw[zbk];exact h));obtain⟨O,a,b,t,oa,ob,hd,hg,q⟩:=h2;unfold mZ at hg;split at hg
 ·cases hg;obtain⟨a,vs,rfl,fz,w⟩:=oa.tup0;exact⟨a,vs,rfl,ob,fz.sq,fun l hl=>q _ _ _ (gE hl hd w.rev).1 (gE hl hd w.rev).2⟩
 ·cases hg
def NN(fa:MA):MI:=fun en=>(fa en).bind fun r=>match r.1 with
 |[.inl (.str x),.inl (.str y)]=>some (Aa (oV x) (oV y),r.2)
 |_=>none
def isB:D->D->Option D
 |.bool a,.bool b=>some (.bool (a==b))
 |_,_=>none
end
section
variable{s:Shared} 
def Inv.noSeq(I:Inv X ρ σ H s){o:Obj}{xs:Array Value}(h:s.heap.get? a=some o)(d:o.data=.seq xs n):sysModules≠a:=by
 intro e;obtain⟨mm,hm⟩:=I.mod.mods;obtain⟨ob,es,ep,g1,g2,_⟩:=hm.keeps I.bk;rw[e,h]at g1;cases g1;rw[d]at g2;cases g2
theorem kP{h:Heap}:∀(kk:List Key) {its:List Value},Vals (kk.map kV) its->ReadsAll h its (kk.map kD) []
 |[],_,r=>by cases r;exact .nil
 |.inl i::kk,_,r=>by
  cases r with
  |cons ru rr=>
   obtain⟨t,rfl⟩:=ru;exact .cons (as:=[]) (bs:=[]) (.int i t) (kP kk rr)
 |.inr x::kk,_,r=>by
  cases r with
  |cons ru rr=>
   obtain⟨t,rfl⟩:=ru;exact .cons (as:=[]) (bs:=[]) (.str x t) (kP kk rr)
mutual
def noX:D->Bool
 |.list ts=>ja ts
 |.tuple ts=>ja ts
 |.dict ks=>!isX (.dict ks)&&ma ks
 |_=>true
def ja:List D->Bool
 |[]=>true
 |t::ts=>noX t&&ja ts
def ma:List (D×D)->Bool
 |[]=>true
 | (_,t)::ts=>noX t&&ma ts
end
def L5(h:noX (.dict ks)=true):ma ks=true:=by
 have:(!isX (.dict ks))=true/\ma ks=true:=by simpa[noX]using h
 exact this.2
mutual
theorem Ow.reads2(I:Inv X ρ σ H s):∀(t:D) {v:V} {u:Value},noX t=true->Ow X.K O H t 0 v NoA->RelV v u->∃as,Reads s.heap u t as/\sysModules∉as
 |.none,_,_,hX,h,r=>by
  cases(show _=V.non from h);cases r;exact⟨_,.none,by simp⟩
 |.bool b,_,_,hX,h,r=>by
  cases(show _=V.bl b from h);cases r;exact⟨_,.bool _,by simp⟩
 |.int i,_,_,hX,h,r=>by
  cases(show _=V.int i from h);obtain⟨t,rfl⟩:=r;exact⟨_,.int _ _,by simp⟩
 |.str x,_,_,hX,h,r=>by
  cases(show _=V.str x from h);obtain⟨t,rfl⟩:=r;exact⟨_,.str _ _,by simp⟩
 |.list ts,_,_,hX,h,r=>by
  obtain⟨p,vs,rfl,fz,w⟩:=h.lst0;cases r;obtain⟨its,rv,pl,_⟩:=I.list fz.sq;obtain⟨as,ra,rb⟩:=Ows.reads2 I ts (by simpa[noX]using hX) w rv;obtain⟨o,n,e,e2,_,e3⟩:=pl;refine⟨_,.list e e2 e3 (by simpa using ra),fun hm=>?_⟩;rcases zay.mp hm with z|z
  ·exact I.noSeq e e3 z
  ·exact rb z
 |.tuple ts,_,_,hX,h,r=>by
  obtain⟨p,vs,rfl,fz,w⟩:=h.tup0;cases r;obtain⟨its,rv,⟨o,e1,e2,n,e3⟩,_⟩:=I.tuple fz.sq;obtain⟨as,ra,rb⟩:=Ows.reads2 I ts (by simpa[noX]using hX) w rv;exact⟨_,.tuple e1 e2 e3 (by simpa using ra),rb⟩
 |.dict ks,_,_,hX,h,r=>by
  obtain⟨a,vs,rfl,⟨_,ha,_,g2⟩|⟨z,_⟩|⟨_,⟨kk,b,hk,ha,_⟩|⟨cn,C,hk,_⟩⟩⟩:=h
  ·cases r;obtain⟨_,hsys,us,kv,dd⟩:=iP I.hok ha;obtain⟨o,es,n,g1,gc,g3,_,g5,_⟩:=dd;obtain⟨bs,r1,r2,r3⟩:=Owd.reads2 I ks (L5 hX) g2 kv g5;refine⟨_,.dict g1 gc.1 g3 r1 r2,fun hm=>?_⟩;have hm':sysModules=a\/sysModules∈bs:=by simpa using hm
   rcases hm' with e|e
   ·rw[<-e]at hsys;simp at hsys
   ·exact r3 e
  ·exact absurd rfl z
  ·cases r;subst hk;obtain⟨_,hsys,xs,rel,o,es,ep,g1,gc,g3,g4,_⟩:=xE I.hok ha;cases rel with
   |@cons _ q _ _ rq rr=>
    cases rr;obtain⟨q1,q2,q3⟩:=q;obtain⟨e1,e2,e3⟩:=rq;have e3':q3=.bool b:=e3;subst e3';obtain⟨its,rv,⟨ot,t1,t2,n,t3⟩,_⟩:=I.tuple (SqT.of e2);have rk:=kP (h:=s.heap) kk rv;refine⟨_,.dict g1 gc.1 g3 (as:=[]) (bs:=[]) ?_ ?_,fun hm=>?_⟩
    ·rw[g4];exact .cons (as:=[]) (bs:=[]) (.tuple t1 t2 t3 (by simpa using rk)) .nil
    ·rw[g4];exact .cons (as:=[]) (bs:=[]) (.bool b) .nil
    ·have hm':sysModules=a:=by simpa using hm
     rw[<-hm']at hsys;simp at hsys
  ·subst hk
   have:(!isX (.dict [(.none,.str cn)]))=true/\ma [(.none,.str cn)]=true:=by simpa[noX]using hX
   cases this.1
theorem Ows.reads2(I:Inv X ρ σ H s):∀(ts:List D) {vs:List V} {us:List Value},ja ts=true->Ows X.K O H ts 0 vs NoA->Vals vs us->∃as,ReadsAll s.heap us ts as/\sysModules∉as
 |[],_,_,hX,h,r=>by
  cases(show _=[]from h);cases r;exact⟨_,.nil,by simp⟩
 |t::ts,_,_,hX,h,r=>by
  have hX':noX t=true/\ja ts=true:=by simpa[ja]using hX
  obtain⟨v,q,F1,F2,e,_,_,_,h4,h5⟩:=h;subst e;cases r with
  |cons ru rr=>
   obtain⟨as,a1,b1⟩:=Ow.reads2 I t hX'.1 (Ow.any0 t h4) ru;obtain⟨bs,a2,b2⟩:=Ows.reads2 I ts hX'.2 (Ows.any0 ts h5) rr;exact⟨_,.cons a1 a2,fun z=>(zax.mp z).elim b1 b2⟩
theorem Owd.reads2(I:Inv X ρ σ H s):∀(ks:List (D×D)) {vs:List (Key×V)} {us:List (Key×Value)} {es:List DictEntry},ma ks=true->Owd X.K O H ks 0 vs NoA->KV vs us->Pairs (bz X.prog X.w) es us ->
  ∃bs,ReadsAll s.heap (es.map fun x=>x.key) (ks.map fun x=>x.1) []/\ReadsAll s.heap (es.map fun x=>x.val) (ks.map fun x=>x.2) bs/\sysModules∉bs
 |[],_,_,_,hX,h,r,p=>by
  cases(show _=[]from h);cases r;cases p;exact⟨_,.nil,.nil,by simp⟩
 | (k,t)::ks,_,_,_,hX,h,r,p=>by
  have hX':noX t=true/\ma ks=true:=by simpa[ma]using hX
  obtain⟨q,v,r',F1,F2,e,rfl,_,_,_,h4,h5⟩:=h;subst e;cases r with
  |cons ru rr=>
   cases p with
   |@cons e0 _ _ _ p1 p2 p3=>
    obtain⟨as,a1,b1⟩:=Ow.reads2 I t hX'.1 (Ow.any0 t h4) ru.2;obtain⟨bs,a2,a3,b2⟩:=Owd.reads2 I ks hX'.2 (Owd.any0 ks h5) rr p3;have hk:Reads s.heap e0.key (kD q) []:=by
     have p1':kX _ e0.key=true:=p1;rw[<-ru.1]at p1';rcases bN p1' with⟨i,t,e1,e2⟩|⟨x,t,e1,e2⟩
     ·have e1':q=Sum.inl i:=e1;rw[e1',e2];exact .int _ _
     ·have e1':q=Sum.inr x:=e1;rw[e1',e2];exact .str _ _
    exact⟨as++bs,.cons hk a2,.cons (show Reads s.heap e0.val t as from p2▸a1) a3,fun z=>(zax.mp z).elim b1 b2⟩
end
def oX:List D->Option D
 |[t]=>grd (noX t=true/\t.showable=true/\t.depth<=60/\t.shown.length<=sizeLine) (.str t.shown)
 |_=>none
def uq(hK:X.K=K)(hg:X.A.guards=some [])(hu:X.A.units+64<cLine):CallR X (.builtin "repr") (rFn K oX 3):=by
 intro ρ s σ H xs us Q I r ⟨O,as,t,oa,hd,hr,k⟩;by_cases hold:wP as=some t
 ·exact Gd hK hg hu ρ s σ H xs us Q I r ⟨O,as,t,oa,hd,hold,k⟩
 subst hK;unfold oX at hr;split at hr
 ·next d=>
  obtain⟨⟨cX,c2,c3,c4⟩,rfl⟩:=bI hr;obtain⟨v,rfl,o⟩:=oa.one;obtain⟨u,rfl,ru⟩:=dB r;obtain⟨as,rd,hs⟩:=Ow.reads2 I d cX o ru;have q:=k (.str d.shown) H NoA .refl rfl;obtain⟨a,rfl⟩:∃a,u=.ref a:=by
   cases d with
   |tuple ts=>
    obtain⟨p,vs,rfl,_,_⟩:=o.tup0;exact⟨p,ru⟩
   |list ts=>
    obtain⟨p,vs,rfl,_,_⟩:=o.lst0;exact⟨p,ru⟩
   |dict ks=>
    obtain⟨a,vs,rfl,_⟩:=o;exact⟨a,ru⟩
   |_=>
    refine absurd ?_ hold;show grd _ _=_;exact if_pos ⟨rfl,c2,c3,c4⟩
  exact repr_of_reads' rd c2 (fun _=>hs) hg (by omega) (fun _ _ e=>e) (fun h' u tk hk=>⟨.str _,H,I.kept (t':=tk) hk,⟨_,rfl⟩,q⟩) c4
 ·cases hr
end
section
variable{a:Expr}{ta tb:TE}{rest:List Expr}
def Nq:D->Option Int->Option Int->Option D
 |.tuple ts,lo,hi=>grd (¬(HT.sIx ts.length 0 lo=0/\HT.sIx ts.length ts.length hi=ts.length)) (.tuple (a8 ts lo hi))
 |_,_,_=>none
def KK(hK:X.K=K):SlR X (rFs K Nq 0):=(Nd hK).imp fun x lo hi H Q ⟨O,a,t,oa,hd,hg,k⟩=>by
 cases a with
 |tuple ts=>
  obtain⟨c,rfl⟩:=bI hg;obtain⟨a,vs,e1,f1,w1⟩:=oa.tup0;refine⟨a,vs,e1,f1.sq,by rw[w1.len];exact c,fun p hp=>?_⟩;have w2:Ows K O H (a8 ts lo hi) 0 (gh vs lo hi) NoA:=by
   unfold a8 gh;rw[w1.len];exact(w1.drop _).take _
  exact k _ _ _ (gE hp hd w2).1 (gE hp hd w2).2
 |_=>cases hg
def M4:D->Option Bool
 |.none=>some false
 |.bool b=>some b
 |.list ts=>some (!ts.isEmpty)
 |.tuple ts=>some (!ts.isEmpty)
 |_=>none
def N9(f g:ME):ME:=fun en=>(f en).bind fun r=>(M4 r.1).bind fun c=>if c then some r else g r.2
end
section
variable{a:Expr}    
def oH(x:Int):List Int->List Int
 |[]=>[x]
 |y::r=>if x<=y then x::y::r else y::oH x r
def eV:List Int->List Int
 |[]=>[]
 |x::r=>oH x (eV r)
theorem mr(x:Int):∀l,(oH x l).Perm (x::l)
 |[]=>.refl _
 |y::r=>by
  unfold oH;split
  ·exact .refl _
  ·exact(List.Perm.cons y (mr x r)).trans (List.Perm.swap x y r)
theorem iM:∀l,(eV l).Perm l
 |[]=>.refl _
 |x::r=>(mr x _).trans (List.Perm.cons x (iM r))
theorem nE(x:Int):∀l:List Int,l.Pairwise (·<=·)->(oH x l).Pairwise (·<=·)
 |[],_=>by simp[oH]
 |y::r,h=>by
  obtain⟨h1,h2⟩:=List.pairwise_cons.mp h;unfold oH;split
  ·next hx=>
   refine List.pairwise_cons.mpr ⟨fun z hz=>?_,h⟩;rcases zay.mp hz with rfl|hz
   ·exact hx
   ·exact Int.le_trans hx (h1 z hz)
  ·next hx=>
   refine List.pairwise_cons.mpr ⟨fun z hz=>?_,nE x r h2⟩;rcases zay.mp ((mr x r).mem_iff.mp hz)with rfl|hz
   ·omega
   ·exact h1 z hz
theorem i3:∀l,(eV l).Pairwise (·<=·)
 |[]=>.nil
 |x::r=>nE x _ (i3 r)
theorem sK:∀{l m:List Int},l.Perm m->l.Pairwise (·<=·)->m.Pairwise (·<=·)->l=m
 |[],m,h,_,_=>(List.nil_perm.mp h).symm
 |x::l,m,h,hl,hm=>by
  cases m with
  |nil=>exact absurd h.length_eq (by simp)
  |cons y m=>
   obtain⟨l1,l2⟩:=List.pairwise_cons.mp hl;obtain⟨m1,m2⟩:=List.pairwise_cons.mp hm;have e:x=y:=by
    have a1:x∈y::m:=h.mem_iff.mp zaq;have a2:y∈x::l:=h.mem_iff.mpr zaq;rcases zay.mp a1 with e|a1
    ·exact e
    ·rcases zay.mp a2 with e|a2
     ·exact e.symm
     ·exact Int.le_antisymm (l1 y a2) (m1 x a1)
   subst e;rw[sK (List.perm_cons x |>.mp h) l2 m2]
def sj:List D->Option D
 |[.list ts]=>(di ts).bind fun ns=>grd (ns.length<64) (.list ((eV ns).map .int))
 |_=>none
def sE{us:List Value}{ns:List Int}(h:IntsAre us ns):Vals (ns.map V.int) us:=by
 induction us generalizing ns with
 |nil=>cases ns with
  |nil=>exact .nil
  |cons n r=>exact absurd h.length (by simp)
 |cons u us ih=>
  cases ns with
  |nil=>exact absurd h.length (by simp)
  |cons n r=>
   obtain⟨t,ht⟩:=IntsAre.int_at h 0 u rfl;refine .cons ⟨t,ht⟩ (ih ?_);cases h
   assumption
def zm(hK:X.K=K):CallR X (.builtin "sorted") (rFn K sj 1):=by
 subst hK;intro ρ s σ H xs us Q I r ⟨O,as,t,oa,hd,hr,k⟩
 match as,hr with
 |[.list ts],hr=>
  obtain⟨ns,h1,h2⟩:=zaa.mp hr;obtain⟨c,rfl⟩:=bI h2;obtain⟨v,rfl,o⟩:=oa.one;obtain⟨a,vs,rfl,fz,w⟩:=o.lst0;have e:=kR w h1;subst e;obtain⟨u,rfl,ru⟩:=dB r;cases ru;obtain⟨its,rv,pl,hz⟩:=I.list fz.sq;have hi:IntsAre its ns:=xt rv;refine sorted_ints pl.isList hi (by rw[hi.length];exact c) fun out ns' a1 a2 a3=>?_;obtain⟨e,he⟩:=sortedAll_at s.heap its out;have e1:ns'=eV ns:=sK (a2.trans (iM ns).symm) a3 (i3 ns);subst e1;have hl:(eV ns).length=ns.length:=(iM ns).length_eq;have rv':Vals ((eV ns).map V.int) out.toList:=sE a1;have hp:H (s.heap.objs.size+1)=none:=I.hok.fresh (Nat.le_succ _);have ows:Ows X.K O H ((eV ns).map .int) 0 ((eV ns).map V.int) NoA:=by
   have:∀l:List Int,Ows X.K O H (l.map .int) 0 (l.map V.int) NoA:=fun l=>by
    induction l with
    |nil=>rfl
    |cons n r ih=>exact⟨.int n,r.map V.int,NoA,NoA,rfl,fun _ z=>z,fun _ z=>z,fun _ z=>z.elim,rfl,ih⟩
   exact this _
  refine⟨.ref _,_,I.laid (a:=s.heap.objs.size+1) (o:=.lst ((eV ns).map V.int)) (t':=s.toks) (fun b o e=>sortedAll_old e) (Nat.le_succ _) ?_,rfl,k _ _ _ (ck hp hd ows).1 (ck hp hd ows).2⟩;refine⟨by rw[zad,hl];exact zaW (yq (by omega)),out.toList,e,rv',?_⟩;rw[show out.toList.toArray=out from rfl];exact he
end
end L2
namespace L2
variable{X:Cx}{K:zbY}
open PySem PySem.Spec PyProof.Rows PySem.SeqAt PySem.MeetsSeq
def N6:D->D->Option D
 |.tuple ts,.int k=>grd (1<=k/\k<=1000/\ts.length<=1000) (.tuple (List.replicate k.toNat ts).flatten)
 |_,_=>none
def NV:D->D->Option D
 |.int k,.str z=>grd (z.length<=4000/\1<=k/\k<=4000) (.str (Txt.mul z k))
 |_,_=>none
def gF:List Int->Int
 |[]=>0
 |[a]=>a
 |a::b::r=>max a (gF (b::r))
theorem tT:∀{l:List Int},l≠[]->gF l∈l
 |[a],_=>zaq
 |a::b::r,_=>by
  have ih:=tT (l:=b::r) (by simp);unfold gF;rcases Int.le_total a (gF (b::r))with h|h
  ·rw[Int.max_eq_right h];exact zaj _ ih
  ·rw[Int.max_eq_left h];exact zaq
theorem vZ:∀{l:List Int} {x:Int},x∈l->x<=gF l
 |[a],x,h=>by simp at h;subst h;exact Int.le_refl _
 |a::b::r,x,h=>by
  unfold gF;rcases zay.mp h with rfl|h
  ·exact Int.le_max_left _ _
  ·exact Int.le_trans (vZ h) (Int.le_max_right _ _)
theorem pP(val:Nat->Int):∀k,argBest (fun i j=>decide (val i>val j)) k<=k/\∀i,i<=k->val i<=val (argBest (fun i j=>decide (val i>val j)) k)
 |0=>by
  rw[argBest.eq_1];exact⟨zav _,fun i hi=>by rw[Nat.le_zero.mp hi];exact Int.le_refl _⟩
 |k+1=>by
  obtain⟨h1,h2⟩:=pP val k;rw[argBest.eq_2];by_cases h:val (k+1)>val (argBest (fun i j=>decide (val i>val j)) k)
  ·rw[if_pos (zaB h)];refine⟨zav _,fun i hi=>?_⟩;rcases Nat.lt_or_ge i (k+1)with z|z
   ·exact Int.le_trans (h2 i (by omega)) (Int.le_of_lt h)
   ·rw[show i=k+1 by omega];exact Int.le_refl _
  ·rw[if_neg (by rw[decide_eq_true_eq];exact h)];refine⟨by omega,fun i hi=>?_⟩;rcases Nat.lt_or_ge i (k+1)with z|z
   ·exact h2 i (by omega)
   ·rw[show i=k+1 by omega];omega
def vv(ns:List Int)(h:ns≠[]):ns[argBest (fun i j=>decide (ns.getD i 0>ns.getD j 0)) (ns.length-1)]?=some (gF ns):=by
 obtain⟨h1,h2⟩:=pP (fun i=>ns.getD i 0) (ns.length-1);have hl:0<ns.length:=List.length_pos_iff.mpr h;revert h1 h2;generalize argBest (fun i j=>decide (ns.getD i 0>ns.getD j 0)) (ns.length-1)=k;intro h1 h2;have hk:k<ns.length:=by omega
 have gk:ns.getD k 0=ns[k]:=by rw[zbh,zak hk];rfl
 have e:ns[k]=gF ns:=by
  refine Int.le_antisymm (vZ (zaK hk)) ?_;obtain⟨i,hi,e⟩:=List.mem_iff_getElem.mp (tT h);have z:=h2 i (by omega);rw[gk,zbh,zak hi]at z;rw[<-e];exact z
 rw[zak hk,e]
def xc:List D->Option D
 |[.list ts]=>(di ts).bind fun ns=>grd (ns≠[]) (.int (gF ns))
 |_=>none
def Gg(hK:X.K=K)(hc:X.calm=true):CallR X (.builtin "max") (rFn K xc 3):=by
 subst hK;intro ρ s σ H xs us Q I r ⟨O,as,t,oa,hd,hr,k⟩
 match as,hr with
 |[.list ts],hr=>
  obtain⟨ns,h1,h2⟩:=zaa.mp hr;obtain⟨c,rfl⟩:=bI h2;obtain⟨v,rfl,o⟩:=oa.one;obtain⟨p,vs,rfl,fz,w⟩:=o.lst0;have e:=kR w h1;subst e;obtain⟨u,rfl,ru⟩:=dB r;cases ru;obtain⟨its,rv,pl,hz⟩:=I.list fz.sq;have hl:its.length=ns.length:=by rw[<-rv.length,zad]
  have hlt:p<s.heap.objs.size:=by
   obtain⟨o,n,e,_⟩:=id pl;exact zal e
  have hsz:its.toArray.size=ns.length:=by rw[zai,hl]
  have hn:0<ns.length:=List.length_pos_iff.mpr c;refine call_max_walk (wpAny_pyIter_list pl.isList ?_);refine⟨s.heap.objs.size,[s.heap.objs.size,p],[s.heap.objs.size],its.toArray.size,fun i v=>its.toArray[i]?=some v,_,fun i j=>decide (ns.getD i 0>ns.getD j 0),rfl,Walks.list (A:=X.A.in1) (show X.A.in1.handled=none from I.ok.hd hc) s.heap.objs.size p (zaw hlt) its.toArray,?_,?_,?_,?_,?_⟩
  ·exact⟨⟨_,zan _ rfl,rfl,rfl⟩,pl.isList.push _⟩
  ·intro b hb;show b<(s.heap.push _).objs.size;rw[zbv];have hb':b=s.heap.objs.size\/b=p:=by simpa using hb
   rcases hb' with rfl|rfl
   ·exact zaJ _
   ·exact Nat.lt_succ_of_lt hlt
  ·rw[hsz];exact hn
  ·refine CmpOf.ints_gt (fun i=>ns.getD i 0) fun i v hv=>?_;have hv':its[i]?=some v:=by simpa using hv
   have hi:i<ns.length:=by
    rw[<-hl];exact(zah.mp hv').1
   obtain⟨u,hu,ru⟩:=rv.get (i:=i) (x:=V.int ns[i]) (by rw[zao,zak hi];rfl);rw[hu]at hv';cases hv';obtain⟨t,rfl⟩:=ru;refine⟨t,?_⟩;rw[zbh,zak hi];rfl
  ·intro v h' tk hv hk;rw[hsz]at hv;have hv':its[argBest (fun i j=>decide (ns.getD i 0>ns.getD j 0)) (ns.length-1)]?=some v:=by simpa using hv
   obtain⟨u,hu,ru⟩:=rv.get (i:=argBest (fun i j=>decide (ns.getD i 0>ns.getD j 0)) (ns.length-1)) (x:=V.int (gF ns)) (by rw[zao,vv ns c];rfl);rw[hu]at hv';cases hv';refine⟨.int (gF ns),H,I.kept (t':=tk) fun b o z=>hk b o ?_ (zaf _ z),ru,k _ H NoA .refl rfl⟩;intro z';have z'':b=s.heap.objs.size:=by simpa using z'
   exact zaw (zal z) z''
def NR:D->D->Option D
 |.tuple ts,b=>grd (noDict b=true/\aF ts=true/\bP ts<=60) (.int (ts.countP fun t=>peq t b:Nat))
 |_,_=>none
end L2
namespace L2
open PySem PySem.Spec PyProof.Rows HT
section
variable{prog:Program}{w:World}{A:Around}{E:Value->Shared->Prop}{s:Shared}
def nv{t sl:Addr}{items:Array Value}{vl vu:Value}{lo hi:Option Int}{Q:Value->Shared->Prop}(ht:IsTup s.heap t items)(hs:s.heap.IsSliceOf sl vl vu .none)(pl:IsPart vl lo)(pu:IsPart vu hi)
  (hw:HT.sIx items.size 0 lo=0/\HT.sIx items.size items.size hi=items.size) (h:Q (.ref t) s):wpAny (model prog w) A (getItem (.ref t) (.ref sl)) Q E s:=by
 obtain⟨os,hos,hcs,hds⟩:=id hs;have hTs:s.TypeIs (.ref sl) "slice":=⟨os,hos,hcs⟩;obtain⟨ot,hot,hct,m,hdt⟩:=id ht;obtain⟨cls,dd,data,slo⟩:=ot;simp only at hct hdt;subst hct hdt;unfold getItem
 try with_reducible refine zbT ?_
 first|refine zam (zaT ?_)|skip
 refine zam (wpAny_sequenceKey ht.typeIs (by decide) (zam (zbB (name:=Str.ofString "__getitem__") ht.typeIs PyProof.Rows.slot_tuple_getitem
  (wpAny_call_entry PyProof.Rows.slot_tuple_getitem ht.typeIs entry_tuple_getitem ?_ (args_tuple_getitem _ _)))))
 show wpAny _ _ (Builtin.Tuple.tupleItemsOf (.ref t) >>= _) _ _ s;refine zam (tupleItemsOf_ ht (zam (wpAny_typeOf hTs ?_)));rw[if_pos (by decide)];refine zam (i4 hs pl pu ?_);rw[hw.1,hw.2];have h1:(((0:Nat):Int)==0&&(1:Int)==1&&(items.size-0)==items.size)=true:=by simp
 show wpAny _ _ (if(((0:Nat):Int)==0&&(1:Int)==1&&(items.size-0)==items.size)=true then _ else _) _ _ s;rw[if_pos h1]
 wp_walk using wpAny_loadPart' hot,wpAny_load hot
 exact⟨_,rfl,zaT h⟩
end
def jD:D->Option Int->Option Int->Option D
 |.tuple ts,lo,hi=>some (.tuple (a8 ts lo hi))
 |_,_,_=>none
section
variable{X:Cx}{K:zbY}
def kh(hK:X.K=K):SlR X (rFs K jD 0):=by
 intro ρ s σ H x v vl vu lo hi sl Q I rx hs pl pu ⟨O,a,t,oa,hd,hg,k⟩;cases a with
 |tuple ts=>
  by_cases hw:HT.sIx ts.length 0 lo=0/\HT.sIx ts.length ts.length hi=ts.length
  ·subst hK;obtain⟨a,vs,rfl,fz,w⟩:=id oa.tup0;cases rx;obtain⟨its,r,ht,hz⟩:=I.tuple fz.sq;have ξ:its.toArray.size=ts.length:=by rw[zai,<-w.len];exact r.length.symm
   refine⟨"tuple",_,PyProof.Rows.slot_tuple_getitem.lookup,ht.typeIs,?_⟩;refine nv ht hs pl pu (by rw[ξ];exact hw) ⟨.ref a,H,I,rfl,k _ H NoA .refl ?_⟩;cases hg;have e:a8 ts lo hi=ts:=by
    unfold a8;rw[hw.1,hw.2];simp
   rw[e,eP];exact oa
  ·refine KK hK ρ s σ H x v vl vu lo hi sl Q I rx hs pl pu ⟨O,.tuple ts,t,oa,hd,?_,k⟩;cases hg;show grd _ _=_;unfold grd;rw[if_pos hw]
 |_=>cases hg
end
end L2
namespace L2
open PySem PySem.Spec PyProof.Rows
end L2
namespace L2
open PySem PySem.Spec PyProof.Rows PySem.SeqAt PySem.MeetsSeq
end L2
namespace L2
variable{X:Cx}{K:zbY}{p p1 p2 q b:Bool}{ds ds1 lk ds0 ds2 ds' dsi dps:List Nat}{d d' d1 d2 i j n k dr cd:Nat}{fa:MA}{sh:Sh}{H:Hp}{ts us:List D}{vs:List V}{J:Jd}{f f1 f2 fk fe:ME}{g g':D->D->Option D}{gs:List D->En->Option En}{σ:St}{Dn:Ends}{e tg a c elt iter o:Expr}{es ifs:List Expr}{pos px py ζ pos':Pos}{x y:Str}{c1 c2:MT}{op op':CmpOp}{ps ns:List Str}{F:List D->Option (D×En)}{scope:Scope}{js:List (Option Nat)}{fi:MI}{st:Stmt}{m l:Int}{m1 m2:MS}{Q:VK}{fs:List (ME×ME)}{en en1 en2:En}{fl:Fl}{t:D}{r:Bool×En}
open PySem PySem.Spec PyProof.Rows
section
variable{O O1:AS}{H0:Hp}{ws:List V}{a b:Addr}
def NM(fa:MA):MI:=fun en=>(fa en).bind fun r=>match r.1 with
 |[.inl (.tuple ts),.inl (.tuple us)]=>some (Aa ts us,r.2)
 |_=>none
end
def tFH(K:zbY)(lk:List Nat)(ds ds':List Nat)(g:MG):TG:=fun v σ H Q=>
 ∃Ox en R t en',EnvOk K ds Ox H σ en R/\Ow K (Own R Ox) H t 0 v NoA/\g t en=some en'/\∀σ' H' R',PostS K lk ds' Ox σ H R σ' en' H' R' NoA->Q σ' H'
def ip(K:zbY)(lk:List Nat)(ds ds':List Nat)(g:List PyData->En->Option En):TGs:=fun vs σ H Q=>
 ∃Ox en R ts en',EnvOk K ds Ox H σ en R/\Ows K (Own R Ox) H ts 0 vs NoA/\g ts en=some en'/\∀σ' H' R',PostS K lk ds' Ox σ H R σ' en' H' R' NoA->Q σ' H'
def gS(i j:Nat):MG:=fun t en=>match (en[j]?).join,(en[i]?).join with
 |some (.int n),some (.list ts)=>(ixN ts.length n).map fun k=>en.set i (some (.list (ts.set k t)))
 |_,_=>none
section
variable{g:MG}{v:V}{QS:St->Hp->Prop}
def KN(hd:ds[i]?=some 1)(h:tFH K lk ds ds (gS i j) v σ H QS):xu (fY i) (fY j) sn v σ H QS:=by
 obtain⟨Ox,en,R,t,en',e,o,hf,k⟩:=h;unfold gS at hf;split at hf
 case h_2=>cases hf
 next n ts hj hi0=>
 obtain⟨kk,h4,hf⟩:=zab.mp hf;cases hf;obtain⟨vj,dj,c1,c2,c3⟩:=e.at_ j _ (be hj);obtain⟨v',d',b1,b2,b3⟩:=e.at_ i _ (be hi0);rw[hd]at b2;cases b2;obtain⟨l,vs,el,hl,hr,F',hf',ow⟩:=b3.ownL (by decide);refine⟨v',b1,vj,c1,l,vs,n,kk,el,c3,hl,by rw[ow.len];exact h4,?_⟩;have hi:i<en.length:=(zah.mp (be hi0)).1;have P:=Post.refl (p:=true) e;have gG:∀a,R i a->R i a\/(NoA:AS) a:=fun a z=>.inl z;have Ol:Own R (U NoA Ox) l:=.inl ⟨i,hr⟩;have sub:=kz (i:=i) (R1:=R) (Ox:=Ox) (G:=R i) (F':=NoA) (F:=NoA) gG (fun _ z=>z.elim);have PS:=P.slot (G:=R i) (F':=NoA) (o2:=.lst (vs.set kk v)) (t:=.list (ts.set kk t)) hr hi b1 hd gG (fun _ z=>z.elim) (fun _ _ z=>z) ?_
 ·exact k σ _ _ PS.s
 refine⟨l,vs.set kk v,el,.inr ⟨by decide,aI,hr,F',fun b z=>hf' b z,?_⟩⟩;have e1:U F' NoA=F':=by funext a;exact propext ⟨fun z=>z.elim id fun z=>z.elim,.inl⟩
 rw[<-e1];refine Ows.setAt (Ows.past sub Ol (fun b z=>(hf' b z).2) ?_) ?_ fun b z1 z2=>z2.elim
 ·rw[eP];exact ow
 ·exact Ow.past sub Ol (fun _ z=>z.elim) (by rw[eP];exact o)
def Gn(h:ip K lk ds ds gs0 vs σ H QS):AY vs σ H QS:=by
 obtain⟨Ox,en,R,ts,en',e,o,hf,k⟩:=h;cases ts with
 |nil=>cases hf;exact⟨o,k σ H R (PostS.refl e)⟩
 |cons t ts=>cases hf
def Ba(h:ip K lk ds ds2 (gsC g gs) vs σ H QS):xv (tFH K lk ds ds1 g) (ip K lk ds1 ds2 gs) vs σ H QS:=by
 obtain⟨Ox,en,R,ts,en',e,o,hf,k⟩:=h;cases ts with
 |nil=>cases hf
 |cons t ts=>
  obtain⟨en1,h1,h2⟩:=zaa.mp hf;obtain⟨v,r,F1,F2,e1,s1,s2,s3,o1,o2⟩:=o;refine⟨v,r,e1,Ox,en,R,t,en1,e,Ow.any0 t o1,h1,fun σ1 H1 R1 P1=>?_⟩;refine⟨Ox,en1,R1,ts,en',P1.env0,Ows.any0 ts (Ows.mv (G:=NoA) ⟨fun a o q z=>P1.keep a o q fun i z2=>z.elim (fun z=>z (.inl ⟨i,z2⟩)) (fun z=>z.elim),fun a z=>?_⟩ ts (F:=NoA) (fun _ z=>z) (Ows.any0 ts o2)),h2,fun σ2 H2 R2 P2=>k σ2 H2 R2 (P1.after P2)⟩;rcases z with z|z
  ·exact(P1.own a (.inr z)).imp .inl id
  ·exact .inl (.inr z)
def KM(hn:∀ts en,(∃en',gs ts en=some en')->ts.length=n)(h:tFH K lk ds ds1 (gT gs) v σ H QS):AX K n (ip K lk ds ds1 gs) v σ H QS:=by
 obtain⟨Ox,en,R,t,en',e,o,hf,k⟩:=h;cases t with
 |tuple ts=>
  have hf':gs ts en=some en':=hf;obtain⟨a,vs,e1,⟨_,h1,h2⟩|⟨z,_⟩⟩:=o
  ·exact⟨a,vs,e1,h1.sq,by rw[<-hn ts en ⟨en',hf'⟩];exact h2.len,Ox,en,R,ts,en',e,h2,hf',k⟩
  ·exact absurd rfl z
 |_=>cases hf
def FV(h:tFS K J ds ds2 (ir f g) Dn σ H):lZ (tF K p ds ds1 0 f) (tFH K J.lk ds1 ds2 g) Dn σ H:=by
 obtain⟨Ox,en,R,fl,e,hf,k⟩:=h;unfold ir at hf;obtain⟨⟨t,en1⟩,h1,hf⟩:=zaa.mp hf;obtain⟨en2,h2,hf⟩:=zab.mp hf;cases hf;refine⟨Ox,en,R,t,en1,e,h1,fun v H1 R1 F P o=>?_⟩;exact⟨Ox,en1,R1,t,en2,P.env0,Ow.letgo P (fun _ z=>z) o,h2,fun σ2 H2 R2 P2=>k σ2 H2 R2 ((P.s.less fun _ z=>z.elim).after P2)⟩
end
section
variable{g:MG} 
def Gp(hN:X.N[i]?=some x)(hv:Vis X.env.scope x)(hNj:X.N[j]?=some y)(hvj:Vis X.env.scope y)(hd:ds[i]?=some 1)
  (hdb:(x==("__debug__":Str))=false) (hcd:(x==("__classdict__":Str))=false) (hdb2:(y==("__debug__":Str))=false) (hcd2:(y==("__classdict__":Str))=false)
  (ha:∀v,assign (.Subscript (.Name x px) (.Name y py) ζ) X.env v=(do
   let ov <-holding [v] (eval (.Name x px) X.env);let iv <-holding [v,ov] (eval (.Name y py) X.env)
   standAt ζ
   holding [v,ov,iv] (setItem ov iv v)
   release [v,ov,iv] [])):PG X (.Subscript (.Name x px) (.Name y py) ζ) (tFH K lk ds ds (gS i j)):=
 (tf (cR hN hv hdb hcd) (cR hNj hvj hdb2 hcd2) ou ha).imp fun _ _ _ _=>KN hd
def A9:PGs X [] (ip K lk ds ds gs0):=pgs_nil.imp fun _ _ _ _=>Gn
def zr(h1:PG X e (tFH K lk ds ds1 g))(h2:PGs X es (ip K lk ds1 ds2 gs))(hs:(assignEach (e::es) X.env).map (·.2)=assign e X.env::(assignEach es X.env).map (·.2)):PGs X (e::es) (ip K lk ds ds2 (gsC g gs)):=(sZ h1 h2 hs).imp fun _ _ _ _=>Ba
def Go(hK:X.K=K)(hc:X.calm=true)(h:PGs X es (ip K lk ds ds1 gs))(hl:∀ts en,(∃en',gs ts en=some en')->ts.length=n)(hn:(assignEach es X.env).length=n)(hst:(assignEach es X.env).findIdx? (·.1)=none):
  PG X (.Tuple es k pos) (tFH K lk ds ds1 (gT gs)):=by
 subst hK;exact(yB hc h hn hst).imp fun _ _ _ _=>KM hl
def A5(hc:X.calm=true)(he:PE X e (tF K false ds ds1 0 f))(hg:PG X tg (tFH K J.lk ds1 ds2 g))(hs:swapsWithSole [tg] e pos.line X.env=pure false)(hw:swappedStores [tg] e X.env=pure none)
  (h1:(assignEach [tg] X.env).map (·.2)=[assign tg X.env]):PS X (.Assign [tg] e pos) (tFS K J ds ds2 (ir f g)):=(oZ he hg hs hw h1).imp fun _ _ _=>FV
end
structure QE(X:Cx)(e:Expr)(t:TE):Prop where
 h:PE X e t
structure QT(X:Cx)(e:Expr)(t:TT):Prop where
 h:PT X e t
structure QW(X:Cx)(e:Expr)(t:TT):Prop where
 h:PW X e t
structure QA(X:Cx)(e:List Expr)(t:TA):Prop where
 h:PA X e t
structure QS(X:Cx)(e:Stmt)(t:TS):Prop where
 h:PS X e t
structure QSs(X:Cx)(e:List Stmt)(t:TS):Prop where
 h:PSs X e t
structure QG(X:Cx)(e:Expr)(t:TG):Prop where
 h:PG X e t
structure QGs(X:Cx)(e:List Expr)(t:TGs):Prop where
 h:PGs X e t
structure QI(X:Cx)(tg e:Expr)(t:TI):Prop where
 h:PI X tg e t
structure QTs(X:Cx)(e:List Expr)(t:TT):Prop where
 h:PTs X e t
structure QO(X:Cx)(e:Option Expr)(t:TO):Prop where
 h:PO X e t
structure QPs(X:Cx)(pos:Pos)(ks:List (Option Expr))(vs:List Expr)(t:List (TE×TE)):Prop where
 h:PPs X pos ks vs t
def qpt{t:TT}(h:QW X e t):QT X e t:=⟨h.h.pt⟩
section
variable{b:Expr}{m:MT}    
def bQ(hN:X.N[i]?=some x)(hv:Vis X.env.scope x)(h0:ds[i]?=some 0)(hd:(x==("__debug__":Str))=false)(hcd:(x==("__classdict__":Str))=false):QE X (.Name x pos) (tF K p ds ds 0 (ad i)):=⟨KP hN hv h0 hd hcd⟩
def wf(hN:X.N[i]?=some x)(hv:Vis X.env.scope x)(h0:ds[i]?=some d)(hds:ds.set i 0=ds')(hd:(x==("__debug__":Str))=false)(hcd:(x==("__classdict__":Str))=false):QE X (.Name x pos) (tF K false ds ds' d (eMv i)):=⟨Mn hN hv h0 hds hd hcd⟩
def ai{n:Int}{j}:QE X (.Constant (.int n) j pos) (tF K p ds ds 3 (eC (.int n))):=⟨K2⟩
def bd{n:Bool}{j}:QE X (.Constant (.bool n) j pos) (tF K p ds ds 3 (eC (.bool n))):=⟨Mt⟩
def bo{j}:QE X (.Constant .none j pos) (tF K p ds ds 3 (eC .none)):=⟨KY⟩
def aJ{n:Str}{j}:QE X (.Constant (.str n) j pos) (tF K p ds ds 3 (eC (.str n))):=⟨KS⟩
def dJ(h:QE X e (tF K p ds ds' d f))(hd:d'<=d):QE X e (tF K p ds ds' d' f):=⟨KR h.h hd⟩
def cO(h:QE X e (tF K p ds0 ds' d f))(hd:leD ds0 ds=true):QE X e (tF K false ds ds' d f):=⟨Mr h.h hd⟩
def ao{op:Operator}(ho:OpR X (binaryOp op) (rF2 K g d))(ha:QE X a (tF K p ds ds1 d1 f1))(hb:QE X b (tF K p ds1 ds2 d2 f2)):QE X (.BinOp a op b pos) (tF K p ds ds2 d (e2 g f1 f2)):=⟨Mm ho ha.h hb.h⟩
def bM{op:UnaryOp}{g:D->Option D}(ho:UnR X (unaryOp op) (rF1 K g d))(ha:QE X a (tF K p ds ds1 d1 f1)):QE X (.UnaryOp op a pos) (tF K p ds ds1 d (e1 g f1)):=⟨Mj ho ha.h⟩
def bB(ho:OpR X (compareOp op) (rF2 K g d))(ha:QE X a (tF K p ds ds1 d1 f1))(hb:QE X b (tF K p ds1 ds2 d2 f2))(hm:behindInMarks op b=false):QE X (.Compare a [op] [b] pos) (tF K p ds ds2 d (e2 g f1 f2)):=⟨K6 ho ha.h hb.h hm⟩
def bf(ho:OpR X (compareOp op) (rF2 K g d))(ha:QE X a (tF K p ds ds1 d1 f1))(hb:QE X b (tF K p ds1 ds2 d2 f2))(hm:behindInMarks op b=false):QT X (.Compare a [op] [b] pos) (tFT K p ds ds2 (tV (e2 g f1 f2))):=⟨FO ho ha.h hb.h hm⟩
def aS(h:QE X e (tF K p ds ds' d f))(he:∀χ,isTrue e X.env χ=(do let v <-χ;standAt e.pos;holding [v] (truthy v))):QT X e (tFT K p ds ds' (tV f)):=⟨FK h.h he⟩
def eD(ha:QT X a (tFT K p ds ds1 c1)):QW X (.BoolOp .And [a] pos) (tFT K p ds ds1 c1):=⟨FG ha.h⟩
def cu(ha:QT X a (tFT K p ds ds1 c1)):QW X (.BoolOp .Or [a] pos) (tFT K p ds ds1 c1):=⟨Kr ha.h⟩
def fL{rest:List Expr}(ha:QT X a (tFT K p ds ds1 c1))(hb:QW X (.BoolOp .And (b::rest) pos) (tFT K p ds1 ds1 c2)):QW X (.BoolOp .And (a::b::rest) pos) (tFT K p ds ds1 (cZ c1 c2)):=⟨Ks ha.h hb.h⟩
def bE{rest:List Expr}(ha:QT X a (tFT K p ds ds1 c1))(hb:QW X (.BoolOp .Or (b::rest) pos) (tFT K p ds1 ds1 c2)):QW X (.BoolOp .Or (a::b::rest) pos) (tFT K p ds ds1 (bOr c1 c2)):=⟨Md ha.h hb.h⟩
def bm(ha:QT X a (tFT K p ds ds1 c1)):QT X (.UnaryOp .Not a pos) (tFT K p ds ds1 (bV c1)):=⟨FM ha.h⟩
def ig(h:QT X e (tFT K true ds0 ds0 c1))(hd:leD ds0 ds=true):QT X e (tFT K p ds ds c1):=⟨FP h.h hd⟩
def bJ{op}(h:QE X a (tF K p ds ds1 d f)):QE X (.BoolOp op [a] pos) (tF K p ds ds1 d f):=⟨KU h.h⟩
def bR{rest:List Expr}(ha:QE X a (tF K p ds ds1 d1 f1))(hb:QE X (.BoolOp .And (b::rest) pos) (tF K p ds1 ds1 d f2)):QE X (.BoolOp .And (a::b::rest) pos) (tF K p ds ds1 d (cW f1 f2)):=⟨K8 ha.h hb.h⟩
def qH{rest:List Expr}(ha:QE X a (tF K p ds ds1 d1 f1))(hb:QE X (.BoolOp .Or (b::rest) pos) (tF K p ds1 ds1 d f2)):QE X (.BoolOp .Or (a::b::rest) pos) (tF K p ds ds1 d (eOr f1 f2)):=⟨Ml ha.h hb.h⟩
def Bf(ha:QE X a (tF K p ds ds1 d1 f)):QE X (.UnaryOp .Not a pos) (tF K p ds ds1 3 (qJ f)):=⟨KW ha.h⟩
def Gy(hc:QT X c (tFT K p ds ds1 c1))(ha:QE X a (tF K p ds1 ds2 d f1))(hb:QE X b (tF K p ds1 ds2 d f2)):QE X (.IfExp c a b pos) (tF K p ds ds2 d (eIf c1 f1 f2)):=⟨Mq hc.h ha.h hb.h⟩
def af: QA X [] (tFA K p ds ds [] ag):=⟨GE⟩
def xC(ha:QE X e (tF K p ds ds1 d f))(hr:QA X es (tFA K p ds1 ds2 sh fa))(hs:bc e=true):QA X (e::es) (tFA K p ds ds2 (.inl d::sh) (ac f fa)):=⟨Bo ha.h hr.h hs⟩
def pH(hN:X.N[i]?=some x)(hv:Vis X.env.scope x)(hr:QA X es (tFA K p ds ds2 sh fa))(hd:(x==("__debug__":Str))=false)(hcd:(x==("__classdict__":Str))=false):QA X (.Name x pos::es) (tFA K p ds ds2 (.inr i::sh) (aD i fa)):=⟨Bn hN hv hr.h hd hcd⟩
def av{c:Nat}(h:QA X es (tFA K p ds ds1 sh fa))(hs:dh c sh=true)(hd:dn d=c)(hz:d≠0):QE X (.List es pos) (tF K p ds ds1 d (aw fa)):=⟨KZ h.h hs hd hz⟩
def a7{c:Nat}{x1}(h:QA X es (tFA K p ds ds1 sh fa))(hs:dh c sh=true)(hd:dn d=c):QE X (.Tuple es x1 pos) (tF K p ds ds1 d (bj fa)):=⟨KQ h.h hs hd⟩
def pG{id:String}{g:List D->Option D}(hc:CallR X (.builtin id) (rFn K g d))(hg:Gl X x)(hm:X.mg x=none)(hv:bootBuiltins x=some (.builtin id))(ha:QA X (e::es) (tFA K p ds ds1 sh fa))(hsh:dh 0 sh=true)(hn:x≠"__name__")(hdb:(x==("__debug__":Str))=false)(he:bc e=true)(hpl:es.all bc=true):QE X (.Call (.Name x px) (e::es) [] pos) (tF K p ds ds1 d (eN g fa)):=⟨Bm hc hg hm hv ha.h hsh hn hdb he hpl⟩
def vq{T:String}{g:List D->Option D}(hc:CallR X (.type T) (rFn K g d))(hg:Gl X x)(hm:X.mg x=none)(hv:bootBuiltins x=some (.type T))(ha:QA X (e::es) (tFA K p ds ds1 sh fa))(hsh:dh 0 sh=true)(hn:x≠"__name__")(hdb:(x==("__debug__":Str))=false)(he:bc e=true)(hpl:es.all bc=true):QE X (.Call (.Name x px) (e::es) [] pos) (tF K p ds ds1 d (eN g fa)):=⟨zx hc hg hm hv ha.h hsh hn hdb he hpl⟩
def Gz(G:Kn X.prog X.w X.K X.mg X.base k x ps (spF K dps dr F))(hr:Room k X.A)(hg:Gl X x)(ha:QA X (e::es) (tFA K p ds ds1 sh fa))(hns:h9 sh=true)(hcd:dC ds1 sh dps=true)(hdb:(x==("__debug__":Str))=false)(he:bc e=true)(hpl:es.all bc=true):QE X (.Call (.Name x px) (e::es) [] pos) (tF K p ds ds1 dr (ar F fa)):=⟨Ms G hr hg ha.h hns hcd hdb he hpl⟩
def Bg(G:Kn X.prog X.w X.K X.mg X.base k x ps (spF K dps dr F))(hr:Room k X.A)(hg:Gl X x)(ha:QA X (e::es) (tFA K false ds ds1 sh fa))(hcd:dC ds1 sh dps=true)(hdb:(x==("__debug__":Str))=false)(he:bc e=true)(hpl:es.all bc=true):QE X (.Call (.Name x px) (e::es) [] pos) (tF K false ds ds1 dr (ar F fa)):=⟨K3 G hr hg ha.h hcd hdb he hpl⟩
def aX(ho:IxR X (rF2 K g d))(ha:QE X a (tF K p ds ds1 d1 f1))(hb:QE X b (tF K p ds1 ds2 d2 f2))(hs:gO b):QE X (.Subscript a b pos) (tF K p ds ds2 d (e2 g f1 f2)):=⟨Mp ho ha.h hb.h hs⟩
def oJ(hK:X.K=K)(hN:X.N[i]?=some x)(hv:Vis X.env.scope x)(h1:ds1[i]?=some 1)(hb:QE X b (tF K p ds ds1 d1 f))(hs:gO b)(hd:(x==("__debug__":Str))=false)(hcd:(x==("__classdict__":Str))=false):QE X (.Subscript (.Name x px) b pos) (tF K p ds ds1 0 (fj i f)):=⟨K0 hK hN hv h1 hb.h hs hd hcd⟩
def cS{c:Nat}{μ ω:Pos}(hK:X.K=K)(hN:X.N[i]?=some x)(hv:Vis X.env.scope x)(h1:ds1[i]?=some d)(he:QE X e (tF K false ds ds1 c f))(hz:d≠0)(hc:dn d=c)(hd:(x==("__debug__":Str))=false)(hcd:(x==("__classdict__":Str))=false)(η:attributeBase (.Name x px) "append" X.env (eval (.Name x px) X.env)=eval (.Name x px) X.env)(hfew:((backTo ω (starEach [e] X.env)).all (fun x=>!x.1)&&(backToKw ω (keywordEach [] X.env)).all (fun x=>x.1.isSome)&&decide (([e]:List Expr).length+([]:List Keyword).length+(if([]:List Keyword).isEmpty then 0 else 1)<30))=true)(θ:(μ.endLine==ω.line)=true)(hs:starEach [e] X.env=[(false,eval e X.env)])(ι:(backTo ω (starEach [] X.env)).any (·.1)=false):QE X (.Call (.Attribute (.Name x px) "append" μ) [e] [] ω) (tF K false ds ds1 3 (cF i f)):=⟨K7 hK hN hv h1 he.h hz hc hd hcd η hfew θ hs ι⟩
def bu: QTs X [] (tFT K p ds ds cY):=⟨FJ⟩
def ie(hc:QT X c (tFT K p ds ds1 c1)):QTs X [c] (tFT K p ds ds1 c1):=⟨FH hc.h⟩
def bY{g:MG}(B:BlkOkC X scope ns js)(hc:X.calm=true)(hi:QI X tg iter (tFI K p ds ds1 fi))(hg:∀C cl s₀ H₀ fp,QG (br X scope ns C cl s₀ H₀ fp) tg (tFG K lk dsi dsi g))(ht:∀C cl s₀ H₀ fp,QTs (br X scope ns C cl s₀ H₀ fp) ifs (tFT K true dsi dsi c1))(he:∀C cl s₀ H₀ fp,QE (br X scope ns C cl s₀ H₀ fp) elt (tF K true dsi dsi cd f))(hcap:jR ds1 js dsi=true)(hd:dn d=cd)(hz:d≠0)(hlk:lk=jQ js 0)(hs:∀x,foldedSetIterable iter X.env x=pure x):QE X (.ListComp elt [⟨tg,iter,ifs,0⟩] scope pos) (tF K p ds ds1 d (eLC true fi g c1 f js)):=⟨Mo B hc hi.h (fun C cl s₀ H₀ fp=>(hg C cl s₀ H₀ fp).h) (fun C cl s₀ H₀ fp=>(ht C cl s₀ H₀ fp).h) (fun C cl s₀ H₀ fp=>(he C cl s₀ H₀ fp).h) hcap hd hz hlk hs⟩
end
section
variable{b:Expr}{rest body x':List Stmt}{m:MS}{g:MG}  
def aE: QSs X [] (tFS K J ds ds aW):=⟨FR⟩
def ah(h1:QS X st (tFS K J ds ds1 m1))(h2:QSs X rest (tFS K J ds1 ds2 m2)):QSs X (st::rest) (tFS K J ds ds2 (ak m1 m2)):=⟨A0 h1.h h2.h⟩
def aH(h1:QS X st (tFS K J ds ds1 m1)):QSs X [st] (tFS K J ds ds1 m1):=⟨FQ h1.h⟩
def cC(he:QE X e (tF K false ds ds1 d f))(hs:swapsWith e none pos.line X.env=pure false):QS X (.Expr e pos) (tFS K J ds ds1 (cG f)):=⟨F7 he.h hs⟩
def zb(he:QE X e (tF K false ds ds1 J.dr f))(hd:leD J.dsr ds1=true):QS X (.Return (some e) pos) (tFS K J ds ds' (ay f)):=⟨FY he.h hd⟩
def aL(hc:QT X c (tFT K false ds ds1 c1))(ha:QSs X body (tFS K J ds1 ds2 m1))(hb:QSs X x' (tFS K J ds1 ds2 m2)):QS X (.If c body x' pos) (tFS K J ds ds2 (sIf c1 m1 m2)):=⟨KD hc.h ha.h hb.h⟩
def cB(hN:X.N.Nodup)(hi:X.N[i]?=some x)(hx:Loc X.env.scope x)(he:QE X e (tF K false ds ds1 d f))(hds:ds1.set i d=ds')(hl:i<ds1.length)(hk:i∉J.lk)(hs:swapsWith e (some (.Name x pos')) pos.line X.env=pure false)(hf:X.fn x=true\/X.env.scope.names.lookup x=some .local):QS X (.Assign [.Name x pos'] e pos) (tFS K J ds ds' (au i f)):=⟨FX hN hi hx he.h hds hl hk hs hf⟩
def dz(hN:X.N.Nodup)(hi':X.N[i]?=some x)(hx:X.env.scope.names.lookup x=some .local)(B:BlkOkC X scope ns js)(hc:X.calm=true)(hi:QI X tg iter (tFI K false ds ds1 fi))(hg:∀C cl s₀ H₀ fp,QG (br X scope ns C cl s₀ H₀ fp) tg (tFG K lk dsi dsi g))(ht:∀C cl s₀ H₀ fp,QTs (br X scope ns C cl s₀ H₀ fp) ifs (tFT K q dsi dsi c1))(he:∀C cl s₀ H₀ fp,QE (br X scope ns C cl s₀ H₀ fp) elt (tF K q dsi dsi cd f))(hds:ds1.set i d=ds')(hcap:jR ds1 js dsi=true)(hd:dn d=cd)(hz:d≠0)(hlk:lk=jQ js 0)(hl:i<ds1.length)(hk:i∉J.lk)(hsw:swapsWith (.ListComp elt [⟨tg,iter,ifs,0⟩] scope pos) (some (.Name x pos')) ζ.line X.env=pure true)(hs:∀x,foldedSetIterable iter X.env x=pure x):QS X (.Assign [.Name x pos'] (.ListComp elt [⟨tg,iter,ifs,0⟩] scope pos) ζ) (tFS K J ds ds' (au i (eLC q fi g c1 f js))):=⟨y9 hN hi' hx B hc hi.h (fun C cl s₀ H₀ fp=>(hg C cl s₀ H₀ fp).h) (fun C cl s₀ H₀ fp=>(ht C cl s₀ H₀ fp).h) (fun C cl s₀ H₀ fp=>(he C cl s₀ H₀ fp).h) hds hcap hd hz hlk hl hk hsw hs⟩
def zc(hc:X.calm=true)(he:QE X e (tF K false ds ds1 0 f))(hg:QG X tg (tFG K J.lk ds1 ds2 g))(hs:swapsWithSole [tg] e pos.line X.env=pure false)(hw:swappedStores [tg] e X.env=pure none)(h1:(assignEach [tg] X.env).map (·.2)=[assign tg X.env]):QS X (.Assign [tg] e pos) (tFS K J ds ds2 (ir f g)):=⟨F8 hc he.h hg.h hs hw h1⟩
def k6{c:Nat}{k:Expr}(hN:X.N[i]?=some x)(hv:Vis X.env.scope x)(he:QE X e (tF K false ds ds1 c fe))(hk:QE X k (tF K false ds1 ds2 d2 fk))(h1:ds2[i]?=some d)(hz:d≠0)(hc:dn d=c)(hdb:(x==("__debug__":Str))=false)(hcd:(x==("__classdict__":Str))=false)(ha:∀v,assign (.Subscript (.Name x px) k ζ) X.env v=(do
   let ov <-holding [v] (eval (.Name x px) X.env);let iv <-holding [v,ov] (eval k X.env)
   standAt ζ
   holding [v,ov,iv] (setItem ov iv v)
   release [v,ov,iv] []))(hs:swapsWithSole [.Subscript (.Name x px) k ζ] e pos.line X.env=pure false)(hw:swappedStores [.Subscript (.Name x px) k ζ] e X.env=pure none)(h2:(assignEach [.Subscript (.Name x px) k ζ] X.env).map (·.2)=[assign (.Subscript (.Name x px) k ζ) X.env]):QS X (.Assign [.Subscript (.Name x px) k ζ] e pos) (tFS K J ds ds2 (eX i fk fe)):=⟨A3 hN hv he.h hk.h h1 hz hc hdb hcd ha hs hw h2⟩
def la(hN:X.N.Nodup)(hi:X.N[i]?=some x)(hx:Loc X.env.scope x)(hds:ds.set i 0=ds')(hl:i<ds.length)(hk:i∉lk)(hf:X.fn x=true\/X.env.scope.names.lookup x=some .local):QG X (.Name x pos) (tFG K lk ds ds' (gN i)):=⟨Bd hN hi hx hds hl hk hf⟩
def eY: QGs X [] (iq K lk ds ds gs0):=⟨Bb⟩
def bH(h1:QG X e (tFG K lk ds ds1 g))(h2:QGs X es (iq K lk ds1 ds2 gs))(hs:(assignEach (e::es) X.env).map (·.2)=assign e X.env::(assignEach es X.env).map (·.2)):QGs X (e::es) (iq K lk ds ds2 (gsC g gs)):=⟨zu h1.h h2.h hs⟩
def fR(hK:X.K=K)(hc:X.calm=true)(h:QGs X es (iq K lk ds ds1 gs))(hl:∀ts en,(∃en',gs ts en=some en')->ts.length=n)(hn:(assignEach es X.env).length=n)(hst:(assignEach es X.env).findIdx? (·.1)=none):QG X (.Tuple es k pos) (tFG K lk ds ds1 (gT gs)):=⟨Gs hK hc h.h hl hn hst⟩
def bv(hc:X.calm=true)(hi:QI X tg iter (tFI K false ds ds1 fi))(hg:QG X tg (tFG K J.lk ds1 ds2 g))(hb:QSs X body (tFS K { J with dsl:=ds1 } ds2 ds1 m))(hp:PassesOwn (model X.prog X.w) X.A X.env X.xe)(hs:∀x,foldedSetIterable iter X.env x=pure x):QS X (.For tg iter body [] pos) (tFS K J ds ds1 (bT fi g m)):=⟨FZ hc hi.h hg.h hb.h hp hs⟩
def jP(hc:QT X c (tFT K false ds ds1 c1))(hb:QSs X body (tFS K { J with dsl:=ds } ds1 ds m))(hp:PassesOwn (model X.prog X.w) X.A X.env X.xe):QS X (.While c body [] pos) (tFS K J ds ds1 (cP c1 m)):=⟨y6 hc.h hb.h hp⟩
end
section
variable{l:Expr}  
def aU(hK:X.K=K)(hl:QE X l (tF K p ds ds1 d f)):QI X tg l (tFI K p ds ds1 (bi f)):=⟨KL hK hl.h⟩
def dG(hg:Gl X "range")(hm:X.mg "range"=none)(ha:QA X [a] (tFA K p ds ds1 sh fa))(hs:bc a=true):QI X tg (.Call (.Name "range" px) [a] [] pos) (tFI K p ds ds1 (bS fa)):=⟨Gj hg hm ha.h hs⟩
def jB{elts:List Expr}{tp:Pos}(hK:X.K=K)(hg:Gl X "enumerate")(hm:X.mg "enumerate"=none)(ha:QA X [l] (tFA K p ds ds1 sh fa))(hs:starEach [l] X.env=[(false,eval l X.env)]):QI X (.Tuple elts k tp) (.Call (.Name "enumerate" px) [l] [] pos) (tFI K p ds ds1 (ic fa)):=⟨Gk hK hg hm ha.h hs⟩
end
def bK{T:Str}{n:String}{pt:Pos}(hK:X.K=K)(hg:Gl X "isinstance")(hm:X.mg "isinstance"=none)(hgT:Gl X T)(hmT:X.mg T=none)(hbT:bootBuiltins T=some (.type n))(hT:n∈["int","bool","str","list","tuple","dict"])(he:QE X e (tF K p ds ds1 d1 f))(hnT:T≠"__name__")(hdT:(T==("__debug__":Str))=false)(hs1:starEach [e,.Name T pt] X.env=(false,eval e X.env)::starEach [.Name T pt] X.env)(hs2:starEach [.Name T pt] X.env=(false,eval (.Name T pt) X.env)::starEach [] X.env)(hpl:(backTo pos (starEach [.Name T pt] X.env)).any (·.1)=false):QE X (.Call (.Name "isinstance" px) [e,.Name T pt] [] pos) (tF K p ds ds1 3 (e1 (bg n) f)):=⟨K1 hK hg hm hgT hmT hbT hT he.h hnT hdT hs1 hs2 hpl⟩
section
variable{ds3:List Nat}{d3:Nat}{b:Expr}{f3:ME}{m:MS}{p2:Pos}
def fP(h:QS X st (tFS K J ds ds2 m))(hd:leD ds1 ds2=true):QS X st (tFS K J ds ds1 m):=⟨FW h.h hd⟩
def xB(ho:OpR X (compareOp op) (rF2 K g 3))(ho':OpR X (compareOp op') (rF2 K g' 3))(ha:QE X a (tF K p ds ds0 d1 f1))(hb:QE X b (tF K p ds0 ds1 d2 f2))(hc:QE X c (tF K p ds1 ds1 d3 f3))(hm:lastMarks [op,op'] [b,c]=false):QE X (.Compare a [op,op'] [b,c] pos) (tF K p ds ds1 3 (ft g g' f1 f2 f3)):=⟨Bk ho ho' ha.h hb.h hc.h hm⟩
def pE(ho:OpR X (compareOp op) (rF2 K g 3))(ho':OpR X (compareOp op') (rF2 K g' 3))(ha:QE X a (tF K p ds ds0 d1 f1))(hb:QE X b (tF K p ds0 ds1 d2 f2))(hc:QE X c (tF K p ds1 ds1 d3 f3))(hm:lastMarks [op,op'] [b,c]=false):QT X (.Compare a [op,op'] [b,c] pos) (tFT K p ds ds1 (tV (ft g g' f1 f2 f3))):=⟨AZ ho ho' ha.h hb.h hc.h hm⟩
def a6: QO X none (tFO K p ds ds bq):=⟨Gf⟩
def aZ(h:QE X e (tF K p ds ds1 d f)):QO X (some e) (tFO K p ds ds1 (bn f)):=⟨Gc h.h⟩
variable{lo hi:MO}
def aP{g:D->Option Int->Option Int->Option D}{elo ehi:Option Expr}(hr:SlR X (rFs K g d))(he:QE X e (tF K p ds ds1 d1 f))(hl:QO X elo (tFO K p ds1 ds2 lo))(hu:QO X ehi (tFO K p ds2 ds3 hi)):QE X (.Subscript e (.Slice elo ehi none p2) pos) (tF K p ds ds3 d (eSl g f lo hi)):=⟨Be hr he.h hl.h hu.h⟩
end
section
variable{b k:Expr}      
def rj: QE X (.Dict [] [] pos) (tF K p ds ds 3 lb):=⟨GA⟩
def zw(hu:X.A.units+1<cLine)(ho:QE X o (tF K p ds ds1 d1 f1))(hi:QE X k (tF K p ds1 ds2 d2 f2))(hs:qR k):QE X (.Subscript o k pos) (tF K p ds ds2 0 (e2 uE f1 f2)):=⟨GC hu ho.h hi.h hs⟩
def cx(hu:X.A.units+1<cLine)(hN:X.N[i]?=some x)(hv:Vis X.env.scope x)(h1:ds1[i]?=some 1)(hi:QE X k (tF K p ds ds1 d1 f))(hs:qR k)(hd:(x==("__debug__":Str))=false)(hcd:(x==("__classdict__":Str))=false):QE X (.Subscript (.Name x px) k pos) (tF K p ds ds1 0 (bG i f)):=⟨Bj hu hN hv h1 hi.h hs hd hcd⟩
def Bi(hu:X.A.units+1<cLine)(ha:QE X a (tF K p ds ds1 d1 f1))(hb:QE X b (tF K p ds1 ds2 d2 f2))(h1:behindInMarks .In b=false):QE X (.Compare a [.In] [b] pos) (tF K p ds ds2 3 (e2 dIn f1 f2)):=⟨K5 hu ha.h hb.h h1⟩
def rg(hu:X.A.units+1<cLine)(ha:QE X a (tF K p ds ds1 d1 f1))(hb:QE X b (tF K p ds1 ds2 d2 f2))(h1:behindInMarks .NotIn b=false):QT X (.Compare a [.NotIn] [b] pos) (tFT K p ds ds2 (tV (e2 ik f1 f2))):=⟨FN hu ha.h hb.h h1⟩
def ge(hu:X.A.units+1<cLine)(hN:X.N[i]?=some x)(hv:Vis X.env.scope x)(he:QE X e (tF K false ds ds1 0 fe))(hk:QE X k (tF K false ds1 ds2 d2 fk))(h1:ds2[i]?=some 1)(hdb:(x==("__debug__":Str))=false)(hcd:(x==("__classdict__":Str))=false)(hs:swapsWith e (some (.Subscript (.Name x px) k ζ)) pos.line X.env=pure false):QS X (.Assign [.Subscript (.Name x px) k ζ] e pos) (tFS K J ds ds2 (cV i fk fe)):=⟨A4 hu hN hv he.h hk.h h1 hdb hcd hs⟩
end
section
variable{b k:Expr}         
def jC{keys:List (Option Expr)}{values:List Expr}(h:QPs X pos keys values (trs K p ds fs))(hall:keys.all (·.isSome)=true)(hl:keys.length=values.length)(h0:keys≠[])(h15:keys.length<=15):QE X (.Dict keys values pos) (tF K p ds ds 1 (e7 fs)):=⟨GB h.h hall hl h0 h15⟩
def k7: QPs X pos [] [] (trs K p ds []):=⟨KG⟩
def fQ{k v:Expr}{ks:List (Option Expr)}{vs:List Expr}{fv:ME}(hk:QE X k (tF K p ds ds 3 fk))(hv:QE X v (tF K p ds ds 0 fv))(hr:QPs X pos ks vs (trs K p ds fs)):QPs X pos (some k::ks) (v::vs) (trs K p ds ((fk,fv)::fs)):=⟨Ga hk.h hv.h hr.h⟩
end
section
variable{m:Nat}{mp:MP}{b:Expr} 
def zd(hN:X.N[i]?=some x)(hv:Vis X.env.scope x)(hd:(x==("__debug__":Str))=false)(hcd:(x==("__classdict__":Str))=false):QE X (.Name x px) (tP K true ds ds i 0 (oE i)):=⟨F9 hN hv hd hcd⟩
def A6(hK:X.K=K)(hd:ds2[i]?=some d)(ho:QE X o (tP K p1 ds ds1 i m mp))(hb:QE X b (tF K p2 ds1 ds2 d1 f))(hz:dns m d≠0)(hpu:p2=true\/m=0)(hs:gO b):QE X (.Subscript o b pos) (tP K (p1&&p2) ds ds2 i (m+1) (pIx i mp f)):=⟨KF hK hd ho.h hb.h hz hpu hs⟩
end
section
variable{k:Expr}{Q':VK}{pos2:Pos}
def mw(hK:X.K=K)(he:QE X e (tF K p ds ds1 d1 f1))(hk:QE X k (tF K p ds1 ds2 d2 f2)):QE X (.Subscript e (.Slice none none (some k) pos2) pos) (tF K p ds ds2 1 (e2 kK f1 f2)):=⟨Gx hK he.h hk.h⟩
def zv(hK:X.K=K)(he:QE X e (tF K p ds ds1 d1 f1))(hk:QE X k (tF K p ds1 ds2 d2 f2)):QE X (.Subscript e (.Slice none none (some k) pos2) pos) (tF K p ds ds2 0 (e2 mZ f1 f2)):=⟨Gw hK he.h hk.h⟩
end
section
variable{g:MG} 
def rh(hN:X.N[i]?=some x)(hv:Vis X.env.scope x)(hNj:X.N[j]?=some y)(hvj:Vis X.env.scope y)(hd:ds[i]?=some 1)(hdb:(x==("__debug__":Str))=false)(hcd:(x==("__classdict__":Str))=false)(hdb2:(y==("__debug__":Str))=false)(hcd2:(y==("__classdict__":Str))=false)(ha:∀v,assign (.Subscript (.Name x px) (.Name y py) ζ) X.env v=(do
   let ov <-holding [v] (eval (.Name x px) X.env);let iv <-holding [v,ov] (eval (.Name y py) X.env)
   standAt ζ
   holding [v,ov,iv] (setItem ov iv v)
   release [v,ov,iv] [])):QG X (.Subscript (.Name x px) (.Name y py) ζ) (tFH K lk ds ds (gS i j)):=⟨Gp hN hv hNj hvj hd hdb hcd hdb2 hcd2 ha⟩
def xA: QGs X [] (ip K lk ds ds gs0):=⟨A9⟩
def nF(h1:QG X e (tFH K lk ds ds1 g))(h2:QGs X es (ip K lk ds1 ds2 gs))(hs:(assignEach (e::es) X.env).map (·.2)=assign e X.env::(assignEach es X.env).map (·.2)):QGs X (e::es) (ip K lk ds ds2 (gsC g gs)):=⟨zr h1.h h2.h hs⟩
def zt(hK:X.K=K)(hc:X.calm=true)(h:QGs X es (ip K lk ds ds1 gs))(hl:∀ts en,(∃en',gs ts en=some en')->ts.length=n)(hn:(assignEach es X.env).length=n)(hst:(assignEach es X.env).findIdx? (·.1)=none):QG X (.Tuple es k pos) (tFH K lk ds ds1 (gT gs)):=⟨Go hK hc h.h hl hn hst⟩
def xx(hc:X.calm=true)(he:QE X e (tF K false ds ds1 0 f))(hg:QG X tg (tFH K J.lk ds1 ds2 g))(hs:swapsWithSole [tg] e pos.line X.env=pure false)(hw:swappedStores [tg] e X.env=pure none)(h1:(assignEach [tg] X.env).map (·.2)=[assign tg X.env]):QS X (.Assign [tg] e pos) (tFS K J ds ds2 (ir f g)):=⟨A5 hc he.h hg.h hs hw h1⟩
end
def Fun.okQ{P:Program}{w:World}{mg:Str->Option Value}{base:Heap}{qual:Str}{f:Addr}{fd:FuncData}{N:List Str}{b:MS}
  (F:Fun K x qual st f fd) (S:FnScope N ps (aq st)) (hl:dps.length=ps.length) (hn:N.length-dps.length=n) (hJ:J=⟨qE dps,dps++List.replicate n 0,dr,[]⟩) (hd:ds0=dps++List.replicate n 0)
  (hb:∀(cdv:Value) (A:Around) (outer:List Env) (s:Shared) (H:Hp) (E:XK),Room k (A.deeper (envOfC qual (aq st) s.heap.objs.size f cdv)) ->
   QSs (mz CX0 P w K mg base N qual (aq st) f cdv A outer s H E).nox (c9 st) (tFS K J ds0 ds0 b)):FnOk P w K mg base CX0 (k+1) f fd ps (spF K dps dr (fnF n dps b)):=by
 subst hJ hd;exact F.ok S (fun vs H Q E h=>ET hl h) fun cdv A outer s H vs Q E hr h=>⟨_,(hb cdv A outer s H E hr).h,Gi hn h⟩
def J7(F:List D->Option (D×En)):Prop:=∀ns:List Int,ns.length<=63->∃ψ,F [.list (ns.map .int)]=some (.bool true,ψ)
def oU(K:zbY):Sp:=fun vs H Q _=>∃(a:Addr) (ns:List Int),vs=[.ref a]/\SqL K H a (ns.map V.int)/\(∀b,H b=none\/∃o xs,H b=some (.frz o (.lst xs)))/\ns.length<=63/\∀H':Hp,Q (.bl true) H'
theorem nC{K:zbY}{O:AS}{H:Hp}:∀ns:List Int,Ows K O H (ns.map .int) 0 (ns.map V.int) NoA
 |[]=>rfl
 |n::r=>⟨.int n,r.map V.int,NoA,NoA,rfl,fun _ z=>z,fun _ z=>z,fun _ z=>z.elim,rfl,nC r⟩
def J4(h:J7 F){E:XK}(q:oU K vs H Q E):spF K [0] dr F vs H Q E:=by
 obtain⟨a,ns,rfl,hs,_,hl,q⟩:=q;obtain⟨ψ,e⟩:=h ns hl;have fz:FzL K (fun _=>False) H a (ns.map V.int):=by
  rcases hs with hs|hs
  ·exact .inl ⟨hs,fun z=>z⟩
  ·exact .inr fun H'=>.inr hs
 have eO:Own (fun _=>NoA) NoA=(fun _=>False):=fH fun b=>⟨fun z=>z.elim (fun⟨_,z⟩=>z) fun z=>z,fun z=>z.elim⟩;refine⟨NoA,[.list (ns.map .int)],fun _=>NoA,.bool true,ψ,⟨fun i t hi=>?_,fun _ _ _ z=>z.elim,fun _ _ z=>z.elim,fun b z=>?_,rfl,rfl⟩,e,fun v H' R' Fr _ o=>?_⟩
 ·cases i with
  |zero=>
   have:t=.list (ns.map .int):=by
    have h2:some (some (PyData.list (ns.map .int)))=some (some t):=hi;injection h2 with h3
    injection h3 with h4
    exact h4.symm
   subst this;refine⟨.ref a,0,rfl,rfl,?_⟩;rw[eO];exact⟨a,ns.map V.int,rfl,.inl ⟨rfl,fz,nC ns⟩⟩
  |succ i=>simp at hi
 ·rw[eO]at z;exact z.elim
 ·rw[show v=.bl true from o];exact q H'
inductive All2(r:D->D->Prop):List D->List D->Prop
 |nil:All2 r [] []
 |cons {a b:D} {as bs:List D} (h:r a b) (t:All2 r as bs):All2 r (a::as) (b::bs)
section
variable{c:MT}{b:MS}  
theorem kE:∀{n m:Nat} {en:En} {fl:Fl},whN c b n en=some fl->n<=m->whN c b m en=some fl
 |0,_,_,_,h,_=>by cases h
 |n+1,0,_,_,_,h=>by omega
 |n+1,m+1,en,fl,h,hm=>by
  unfold whN at h ⊢;obtain⟨r,h1,h⟩:=zaa.mp h;rw[h1];show(if r.1=true then _ else _)=_;by_cases hr:r.1=true
  ·rw[if_pos hr]at h ⊢;obtain⟨f1,h2,h⟩:=zaa.mp h;rw[h2];cases f1 with
   |nx e=>exact kE (n:=n) (m:=m) h (by omega)
   |ct e=>exact kE (n:=n) (m:=m) h (by omega)
   |rt t e=>exact h
  ·rw[if_neg hr]at h ⊢;exact h
def jA(h:whN c b n en=some fl):cP c b en=some fl:=by
 have q:∃n fl,whN c b n en=some fl:=⟨n,fl,h⟩;unfold cP;rw[dif_pos q];have h2:=q.choose_spec.choose_spec;have h3:=kE h (Nat.le_max_left n q.choose);have h4:=kE h2 (Nat.le_max_right n q.choose);rw[h3]at h4;exact h4.symm
def u9(h:c en=some (false,en1)):cP c b en=some (.nx en1):=by
 refine jA (n:=1) ?_;unfold whN;rw[h];rfl
def va(h:c en=some (true,en1))(h1:b en1=some (.nx en2))(h2:cP c b en2=some fl):cP c b en=some fl:=by
 obtain⟨n,h3⟩:=jN h2;refine jA (n:=n+1) ?_;unfold whN;rw[h];show(b en1).bind _=_;rw[h1];exact h3
theorem v1{g:MG}{c:MT}{f:ME}(I:Nat->En->Prop)(r:D->D->Prop){N:Nat}(hs:∀n t en,n<N->I n en->∃en1 en2 q en3,g t en=some en1/\c en1=some (true,en2)/\f en2=some (q,en3)/\I (n+1) en3/\r t q):
  ∀(ts acc:List D) (n:Nat) (en:En),I n en->n+ts.length<=N->acc.length+ts.length<=sizeLine->∃us en',lcF g c f ts acc en=some (acc++us,en')/\I (n+ts.length) en'/\All2 r ts us
 |[],acc,n,en,hi,_,_=>⟨[],en,by rw[zbs];rfl,hi,.nil⟩
 |t::ts,acc,n,en,hi,hN,hl=>by
  have hN':n+(ts.length+1)<=N:=hN;obtain⟨en1,en2,q,en3,h1,h2,h3,h4,h5⟩:=hs n t en (by omega) hi;have hl':acc.length+(ts.length+1)<=sizeLine:=hl;obtain⟨us,en',h6,h7,h8⟩:=v1 I r hs ts (acc++[q]) (n+1) en3 h4 (by omega) (by rw[zae];show acc.length+1+_<=_;omega);refine⟨q::us,en',?_,by rw[show n+(t::ts).length=n+1+ts.length by show n+(ts.length+1)=_;omega];exact h7,.cons h5 h8⟩;unfold lcF;rw[h1];show(c en1).bind _=_;rw[h2];show(f en2).bind _=_;rw[h3];show(if acc.length<sizeLine then _ else _)=_;rw[if_pos (by omega),h6];simp
theorem All2.ex{α:Type}{h:α->D}{Q:α->Prop}:∀{ts us:List D},All2 (fun _ q=>∃o,q=h o/\Q o) ts us->∃os:List α,us=os.map h/\os.length=ts.length/\∀o∈os,Q o
 |_,_,.nil=>⟨[],rfl,rfl,fun _ z=>by cases z⟩
 |_,_,.cons ⟨o,e,q⟩ t=>by
  obtain⟨os,e1,e2,e3⟩:=All2.ex t;refine⟨o::os,by rw[e,e1];rfl,by show os.length+1=_+1;rw[e2],fun x hx=>?_⟩;rcases zay.mp hx with rfl|hx
  ·exact q
  ·exact e3 x hx
theorem ga{c:MT}{f:ME}{p:D->Bool}{F:D->D}{rest:En}:∀(ts acc:List D) (o:Option D),(∀t∈ts,c (some t::rest)=some (p t,some t::rest))->(∀t∈ts,p t=true->f (some t::rest)=some (F t,some t::rest))->acc.length+ts.length<=sizeLine ->
  ∃o',lcF (gN 0) c f ts acc (o::rest)=some (acc++(ts.filter p).map F,o'::rest)
 |[],acc,o,_,_,_=>⟨o,by simp[lcF]⟩
 |t::ts,acc,o,hc,hf,hl=>by
  have hl':acc.length+(ts.length+1)<=sizeLine:=hl;cases hp:p t with
  |true=>
   obtain⟨o',h⟩:=ga (c:=c) (f:=f) (p:=p) (F:=F) ts (acc++[F t]) (some t) (fun x hx=>hc x (zaj _ hx)) (fun x hx=>hf x (zaj _ hx)) (by rw[zae];show acc.length+1+_<=_;omega);refine⟨o',?_⟩;unfold lcF;show((c (some t::rest)).bind _)=_;rw[hc t zaq,hp];show((f (some t::rest)).bind _)=_;rw[hf t zaq hp];show(if acc.length<sizeLine then _ else _)=_;rw[if_pos (by omega)]
   dsimp only
   rw[h,List.filter_cons_of_pos hp];simp
  |false=>
   obtain⟨o',h⟩:=ga (c:=c) (f:=f) (p:=p) (F:=F) ts acc (some t) (fun x hx=>hc x (zaj _ hx)) (fun x hx=>hf x (zaj _ hx)) (by omega);refine⟨o',?_⟩;unfold lcF;show((c (some t::rest)).bind _)=_;rw[hc t zaq,hp];show lcF (gN 0) c f ts acc (some t::rest)=_;rw[h,List.filter_cons_of_neg (by rw[hp];decide)]
def qF{F:D->D}{rest:En}(ts acc:List D)(o:Option D)(hf:∀t∈ts,f (some t::rest)=some (F t,some t::rest))(hl:acc.length+ts.length<=sizeLine):
  ∃o',lcF (gN 0) cY f ts acc (o::rest)=some (acc++ts.map F,o'::rest):=by
 obtain⟨o',h⟩:=ga (c:=cY) (f:=f) (p:=fun _=>true) (F:=F) ts acc o (fun _ _=>rfl) (fun t ht _=>hf t ht) hl;rw[List.filter_eq_self.mpr (fun _ _=>rfl)]at h;exact⟨o',h⟩
def A7{g:MG}{b:MS}(I:Nat->En->Prop)(hs:∀i t en,ts[i]?=some t->I i en->∃en1 en2,g t en=some en1/\(b en1=some (.nx en2)\/b en1=some (.ct en2))/\I (i+1) en2)(h0:I 0 en):
  ∃en',cE g b ts en=some (.nx en')/\I ts.length en':=by
 suffices ∀(us:List D) (i:Nat) (en:En),ts.drop i=us->i<=ts.length->I i en->∃en',cE g b us en=some (.nx en')/\I ts.length en' from this ts 0 en rfl (zbj _) h0
 intro us
 induction us with
 |nil=>
  intro i en hu hi h;refine⟨en,rfl,?_⟩
  have:ts.length-i=0:=by rw[<-zaF,hu];rfl
  rw[show ts.length=i by omega];exact h
 |cons t us ih=>
  intro i en hu hi h;have ht:ts[i]?=some t:=by
   have:(ts.drop i)[0]?=some t:=by rw[hu];rfl
   rw[List.getElem?_drop]at this;exact this
  obtain⟨en1,en2,h1,h2,h3⟩:=hs i t en ht h;have hl:i<ts.length:=(zah.mp ht).1;have hd:ts.drop (i+1)=us:=by rw[<-List.drop_drop,hu];rfl
  obtain⟨en',h4,h5⟩:=ih (i+1) en2 hd hl h3;refine⟨en',?_,h5⟩;unfold cE;rw[h1];show(b en1).bind _=_;rcases h2 with h2|h2
  ·rw[h2];exact h4
  ·rw[h2];exact h4
end
section
variable{c:MT}{b:MS}{t1 t2 u:D}{x y:Bool}{as:List (D ⊕ Nat)}{ψ:En} 
def aO(h1:m1 en=some (.nx en1))(h2:m2 en1=some fl):ak m1 m2 en=some fl:=by unfold ak;rw[h1];exact h2
def ki(h1:m1 en=some (.rt t en1)):ak m1 m2 en=some (.rt t en1):=by unfold ak;rw[h1];rfl
def gf{b:Bool}(h1:c en=some (b,en1))(hb:b=true)(h2:m1 en1=some fl):sIf c m1 m2 en=some fl:=by unfold sIf;rw[h1,hb];exact h2
def mx{b:Bool}(h1:c en=some (b,en1))(hb:b=false)(h2:m2 en1=some fl):sIf c m1 m2 en=some fl:=by unfold sIf;rw[h1,hb];exact h2
def dk(h:f en=some (t,en1))(he:en1.set i (some t)=en2):au i f en=some (.nx en2):=by unfold au;rw[h,<-he];rfl
def zz(h:f en=some (t,en1)):cG f en=some (.nx en1):=by unfold cG;rw[h];rfl
def ng(h:f en=some (t,en1)):ay f en=some (.rt t en1):=by unfold ay;rw[h];rfl
def bD(h1:f1 en=some (t1,en1))(h2:f2 en1=some (t2,en2))(h:g t1 t2=some u):e2 g f1 f2 en=some (u,en2):=by
 unfold e2;rw[h1];show(f2 en1).bind _=_;rw[h2];show(g t1 t2).map _=_;rw[h];rfl
def uv{b:Bool}(h1:c1 en=some (b,en1))(hb:b=true):bOr c1 c2 en=some (true,en1):=by unfold bOr;rw[h1,hb];rfl
def pK{b:Bool}(h1:c1 en=some (b,en1))(hb:b=false)(h2:c2 en1=some r):bOr c1 c2 en=some r:=by unfold bOr;rw[h1,hb];exact h2
def wn{b:Bool}(h1:c1 en=some (b,en1))(hb:b=true)(h2:c2 en1=some r):cZ c1 c2 en=some r:=by unfold cZ;rw[h1,hb];exact h2
def wo{b:Bool}(h1:c1 en=some (b,en1))(hb:b=false):cZ c1 c2 en=some (false,en1):=by unfold cZ;rw[h1,hb];rfl
def nc{b:Bool}(h:f en=some (.bool b,en1)):tV f en=some (b,en1):=by unfold tV;rw[h];rfl
def nh(h1:fa en=some (as,en1))(h2:eK as en1=some ts)(h:F ts=some (t,ψ))(hw:wb as ψ en1=en2):ar F fa en=some (t,en2):=by
 subst hw;unfold ar;rw[h1];show(eK as en1).bind _=_;rw[h2];show(F ts).map _=_;rw[h];rfl
def uw{g:List D->Option D}(h1:fa en=some (as,en1))(h2:vals as=some ts)(h:g ts=some t):eN g fa en=some (t,en1):=by
 unfold eN;rw[h1];show(vals as).bind _=_;rw[h2];show(g ts).map _=_;rw[h];rfl
def iO{r:MA}(h1:f en=some (t,en1))(h2:r en1=some (as,en2)):ac f r en=some (.inl t::as,en2):=by
 unfold ac;rw[h1];show(r en1).map _=_;rw[h2];rfl
def ux(h1:fa en=some (as,en1))(h2:vals as=some ts)(h:ts.length<=sizeLine):aw fa en=some (.list ts,en1):=by
 unfold aw;rw[h1];show(vals as).bind _=_;rw[h2];exact if_pos h
def Lg(h1:fa en=some (as,en1))(h2:vals as=some ts)(h:ts.length<=sizeLine):bj fa en=some (.tuple ts,en1):=by
 unfold bj;rw[h1];show(vals as).bind _=_;rw[h2];exact if_pos h
def zA(h0:en[i]?=some (some (.list ts)))(h1:f en=some (t,en1))(h2:en1[i]?=some (some (.list us)))(h:us.length<sizeLine)(he:en1.set i (some (.list (us++[t])))=en2):cF i f en=some (.none,en2):=by
 unfold cF;rw[h0];show(f en).bind _=_;rw[h1];show(match (en1[i]?).join with
  |some (.list ts)=>if ts.length<sizeLine then some (PyData.none,en1.set i (some (.list (ts++[t]))))else none
  |_=>none)=_
 rw[h2,<-he];exact if_pos h
def sy{g:MG}{ex:En}(h1:fi en=some (ts,en1))(h2:lcF g c f ts [] (dq js en1)=some (us,ex))(he:(if q then en1 else wbB js ex en1)=en2):eLC q fi g c f js en=some (.list us,en2):=by
 unfold eLC;rw[h1];show(lcF g c f ts [] (dq js en1)).map _=_;rw[h2,<-he];rfl
def Li{g:MG}(h1:fi en=some (ts,en1))(h2:cE g b ts en1=some fl):bT fi g b en=some fl:=by
 unfold bT;rw[h1];exact h2
def cv:100<=sizeLine:=by rw[sizeLine_eq];decide
def eI(h:b (ts.map some++List.replicate n none)=some (.rt t en)):fnF n dps b ts=some (t,msk dps en):=by
 unfold fnF;rw[h];rfl
end
namespace Pen2
def io:MS:=(ay (e7 [((eC (.str "script")),(ad 0)),((eC (.str "at")),(ad 1)),((eC (.str "left")),(eC (.int 0)))]))
def cL:List D->Option (D×En):=fnF 0 [0,0] io
def hZ:MS:=(ak (au 2 (e2 bU (e2 cA (e2 bh (e2 bh (e2 bU (ad 0) (eC (.int 2147483629))) (e2 cA (eC (.int 40503)) (ad 1))) (eC (.int 24691))) (eC (.int 48271))) (eC (.int 2147483647))))
 (ak (au 3 (e2 bU (e2 bh (e2 bh (e2 cA (ad 2) (ad 2)) (e2 cA (eC (.int 69621)) (ad 2))) (ad 1)) (eC (.int 2147483629))))
 (ay (e2 eo (e2 bU (e2 bh (e2 bh (e2 cA (ad 3) (ad 3)) (e2 cA (eC (.int 16807)) (ad 3))) (e2 cA (eC (.int 31)) (ad 1))) (eC (.int 1073741789))) (eC (.int 64))))))
def dA:List D->Option (D×En):=fnF 2 [0,0] hZ
def lF:MS:=(ak (au 2 (bG 0 (eC (.str "at"))))
 (ak (au 3 (bG 0 (eC (.str "script"))))
 (ak (sIf (tV (e2 eqD (bG 0 (eC (.str "left"))) (eC (.int 0)))) (ak (cV 0 (eC (.str "at")) (e2 bh (ad 2) (eC (.int 1))))
 (ak (au 4 (eC (.int 0)))
 (ak (sIf (tV (e2 gtI (eN aK (ac (ad 3) ag)) (eC (.int 0)))) (au 4 (e2 ixA (ad 3) (e2 bU (ad 2) (eN aK (ac (ad 3) ag))))) aW)
 (ak (sIf (bOr (tV (e2 geI (ad 2) (eN aK (ac (ad 3) ag)))) (tV (e2 ltI (eN mC (ac (ad 4) ag)) (e2 l5 (eC (.int 10)) (eC (.int 18)))))) (ay (e2 bU (ar dA (ac (ad 4) (ac (ad 2) ag))) (ad 1))) aW)
 (cV 0 (eC (.str "left")) (eN mC (ac (ad 4) ag))))))) aW)
 (ak (au 5 (e2 bU (bG 0 (eC (.str "left"))) (ad 1)))
 (ak (cV 0 (eC (.str "left")) (e2 eo (bG 0 (eC (.str "left"))) (ad 1)))
 (ay (ad 5)))))))
def ax:List D->Option (D×En):=fnF 4 [1,0] lF
def penD(ns:List Int)(k l:Int):D:=.dict [(.str "script",.list (ns.map .int)),(.str "at",.int k),(.str "left",.int l)]
def tR{c k:Int}(h0:0<=k)(h1:k<=1000000000):∃r,dA [.int c,.int k]=some (.int r,[none,none])/\0<=r:=by
 have a0:0<=c % 2147483629:=by omega
 have a1:c % 2147483629<2147483629:=by omega
 generalize g1:(c % 2147483629+40503*k+24691)*48271 % 2147483647=x;have x0:0<=x:=by omega
 have x1:x<2147483647:=by omega
 generalize g2:(x*x+69621*x+k) % 2147483629=y;have y0:0<=y:=by omega
 have y1:y<2147483629:=by omega
 refine⟨(y*y+16807*y+31*k) % 1073741789 / 64,?_,by omega⟩;have c1:CMul 40503 k:=.inl (by decide);have c2:CMul (c % 2147483629+40503*k+24691) 48271:=.inr (by decide);have c3:CMul x x:=.inl (by constructor<;>omega);have c4:CMul 69621 x:=.inl (by decide);have c5:CMul y y:=.inl (by constructor<;>omega);have c6:CMul 16807 y:=.inl (by decide);have c7:CMul 31 k:=.inl (by decide);have c8:∀z,jw z 64:=fun z=>by unfold jw;decide
 simp[dA,fnF,hZ,ak,au,ay,e2,ad,eC,bU,cA,bh,eo,jd,c1,c2,c3,c4,c5,c6,c7,c8,g1,g2,msk]
def take_ok{ns:List Int}{k:Int}(h0:0<=k)(h1:k<=1000000000)(h2:0<=l)(h3:0<m)(h4:m<1073741824):
  ∃r k' l',ax [penD ns k l,.int m]=some (.int r,[some (penD ns k' l'),none])/\0<=r/\r<m/\k<=k'/\k'<=k+1/\0<=l':=by
 have cd:∀z,jw z m:=fun z=>⟨h3,h4⟩;have cp:j1 10 18:=by unfold j1;decide
 have md:∀z,bU (.int z) (.int m)=some (.int (z % m)):=fun z=>if_pos h3;have dv:∀z,eo (.int z) (.int m)=some (.int (z / m)):=fun z=>if_pos (cd z);have last:∀(k' b:Int) (x y z:Option D),(ak (au 5 (e2 bU (bG 0 (eC (.str "left"))) (ad 1)))
   (ak (cV 0 (eC (.str "left")) (e2 eo (bG 0 (eC (.str "left"))) (ad 1)))
   (ay (ad 5)))) [some (penD ns k' b),some (.int m),x,y,z,none]=some (.rt (.int (b % m)) [some (penD ns k' (b / m)),some (.int m),x,y,z,some (.int (b % m))]):=by
  intro k' b x y z;refine aO (en1:=[some (penD ns k' b),some (.int m),x,y,z,some (.int (b % m))]) (dk (bD (t1:=.int b) (t2:=.int m) rfl rfl (md b)) rfl) (aO (en1:=[some (penD ns k' (b / m)),some (.int m),x,y,z,some (.int (b % m))]) ?_ rfl);unfold cV;rw[bD (t1:=.int b) (t2:=.int m) (f1:=bG 0 (eC (.str "left"))) (f2:=ad 1) (g:=eo) (en:=[some (penD ns k' b),some (.int m),x,y,z,some (.int (b % m))]) (en1:=[some (penD ns k' b),some (.int m),x,y,z,some (.int (b % m))]) (en2:=[some (penD ns k' b),some (.int m),x,y,z,some (.int (b % m))]) rfl rfl (dv b)];rfl
 by_cases hl:l=0
 ·subst hl;by_cases hn:ns.length=0
  ·have hns:ns=[]:=za7.mp hn;subst hns;obtain⟨r,e,hr⟩:=tR (c:=0) h0 h1;refine⟨r % m,k+1,0,?_,zba _ (by omega),zbb _ h3,by omega,by omega,by omega⟩;refine eI (en:=[some (penD [] (k+1) 0),some (.int m),some (.int k),some (.list []),some (.int 0),none]) (aO rfl (aO rfl (ki (gf (b:=true) rfl rfl (aO (en1:=[some (penD [] (k+1) 0),some (.int m),some (.int k),some (.list []),none,none]) rfl (aO rfl (aO rfl (ki (gf (b:=true) (uv (b:=decide ((0:Int)<=k)) rfl (zaB h0)) rfl (ng (bD (en1:=[some (penD [] (k+1) 0),some (.int m),some (.int k),some (.list []),some (.int 0),none]) (t2:=.int m) (nh (as:=[.inl (.int 0),.inl (.int k)]) (en1:=[some (penD [] (k+1) 0),some (.int m),some (.int k),some (.list []),some (.int 0),none]) rfl rfl e rfl) rfl (md r))))))))))))
  ·obtain⟨j,ej⟩:∃j:Nat,ixN ns.length (k % ns.length)=some j/\j<ns.length:=by
    have q1:0<=k % (ns.length:Int):=zba _ (by omega);have q2:k % (ns.length:Int)<ns.length:=zbb _ (by omega);exact⟨(k % (ns.length:Int)).toNat,by unfold ixN;rw[if_pos q1,if_pos q2],by omega⟩
   obtain⟨c,ec⟩:∃c,ns[j]?=some c:=⟨_,zak ej.2⟩;have at1:ixA (.list (ns.map .int)) (.int (k % ns.length))=some (.int c):=by
    show atI _ _=_;unfold atI;rw[zad,ej.1];show(ns.map PyData.int)[j]?=_;rw[zao,ec];rfl
   have hn1:(0:Int)<ns.length:=by omega
   have len:aK [.list (ns.map .int)]=some (.int ns.length):=by show some (PyData.int (ns.map PyData.int).length)=_;rw[zad]
   have ml:bU (.int k) (.int ns.length)=some (.int (k % ns.length)):=if_pos hn1;obtain⟨r,e,hr⟩:=tR (c:=c) h0 h1;obtain⟨b,ab,b0⟩:∃b,mC [.int c]=some (.int b)/\0<=b:=⟨if c<0 then -c else c,rfl,by split<;>omega⟩;have pw:l5 (.int 10) (.int 18)=some (.int 1000000000000000000):=by
    show(if j1 10 18 then some (PyData.int (10 ^ Int.toNat 18))else none)=_;rw[if_pos cp];rfl
   have ln:∀(x y:Option D) (p:D),(eN aK (ac (ad 3) ag)) [some p,some (.int m),x,some (.list (ns.map .int)),y,none]=some (.int ns.length,[some p,some (.int m),x,some (.list (ns.map .int)),y,none]):=fun x y p=>uw rfl rfl len;have pre:∀(x y:Option D) {m2:MS} {fl:Fl},m2 [some (penD ns (k+1) 0),some (.int m),some (.int k),some (.list (ns.map .int)),some (.int c),none]=some fl->(ak (cV 0 (eC (.str "at")) (e2 bh (ad 2) (eC (.int 1))))
 (ak (au 4 (eC (.int 0)))
 (ak (sIf (tV (e2 gtI (eN aK (ac (ad 3) ag)) (eC (.int 0)))) (au 4 (e2 ixA (ad 3) (e2 bU (ad 2) (eN aK (ac (ad 3) ag))))) aW) m2))) [some (penD ns k 0),some (.int m),some (.int k),some (.list (ns.map .int)),none,none]=some fl:=by
    intro x y m2 fl h;refine aO (en1:=[some (penD ns (k+1) 0),some (.int m),some (.int k),some (.list (ns.map .int)),none,none]) rfl (aO (en1:=[some (penD ns (k+1) 0),some (.int m),some (.int k),some (.list (ns.map .int)),some (.int 0),none]) rfl (aO ?_ h));exact gf (nc (bD (ln _ _ _) rfl rfl)) (zaB hn1) (dk (bD rfl (bD rfl (ln _ _ _) ml) at1) rfl)
   by_cases hq:(ns.length:Int)<=k\/b<1000000000000000000
   ·refine⟨r % m,k+1,0,?_,zba _ (by omega),zbb _ h3,by omega,by omega,by omega⟩;refine eI (en:=[some (penD ns (k+1) 0),some (.int m),some (.int k),some (.list (ns.map .int)),some (.int c),none]) (aO rfl (aO rfl (ki (gf (b:=true) rfl rfl (pre none none (ki (gf (en1:=[some (penD ns (k+1) 0),some (.int m),some (.int k),some (.list (ns.map .int)),some (.int c),none]) (b:=true) ?_ rfl (ng (bD (en1:=[some (penD ns (k+1) 0),some (.int m),some (.int k),some (.list (ns.map .int)),some (.int c),none]) (t2:=.int m) (nh (as:=[.inl (.int c),.inl (.int k)]) (en1:=[some (penD ns (k+1) 0),some (.int m),some (.int k),some (.list (ns.map .int)),some (.int c),none]) rfl rfl e rfl) rfl (md r))))))))));by_cases hq2:(ns.length:Int)<=k
    ·exact uv (nc (bD rfl (ln _ _ _) rfl)) (zaB hq2)
    ·have hq3:=hq.resolve_left hq2;exact pK (nc (bD rfl (ln _ _ _) rfl)) (zaA hq2) (nc (bD (uw rfl rfl ab) (bD rfl rfl pw) (congrArg (fun q=>some (PyData.bool q)) (zaB hq3))))
   ·have hq1:¬(ns.length:Int)<=k:=fun z=>hq (.inl z);have hq2:¬b<1000000000000000000:=fun z=>hq (.inr z);refine⟨b % m,k+1,b / m,?_,zba _ (by omega),zbb _ h3,by omega,by omega,Int.ediv_nonneg b0 (by omega)⟩;refine eI (aO rfl (aO rfl (aO (en1:=[some (penD ns (k+1) b),some (.int m),some (.int k),some (.list (ns.map .int)),some (.int c),none]) (gf (b:=true) rfl rfl (pre none none (aO (mx (pK (nc (bD rfl (ln _ _ _) rfl)) (zaA hq1) (nc (bD (uw rfl rfl ab) (bD rfl rfl pw) rfl))) (zaA hq2) rfl) ?_))) (last _ _ _ _ _))));unfold cV;rw[uw (fa:=ac (ad 4) ag) (en:=[some (penD ns (k+1) 0),some (.int m),some (.int k),some (.list (ns.map .int)),some (.int c),none]) (en1:=[some (penD ns (k+1) 0),some (.int m),some (.int k),some (.list (ns.map .int)),some (.int c),none]) rfl rfl ab];rfl
 ·refine⟨l % m,k,l / m,?_,zba _ (by omega),zbb _ h3,Int.le_refl _,by omega,Int.ediv_nonneg h2 (by omega)⟩;exact eI (aO rfl (aO rfl (aO (mx (b:=l==0) rfl (zbR.mpr hl) rfl) (last k l _ _ _))))
def gJ{ns:List Int}{k:Int}(hp:en[i]?=some (some (penD ns k l)))(hf:fa en=some ([.inr i,.inl (.int m)],en))(h0:0<=k)(h1:k<=1000000000)(h2:0<=l)(h3:0<m)(h4:m<1073741824):
  ∃r k' l',ar ax fa en=some (.int r,en.set i (some (penD ns k' l')))/\0<=r/\r<m/\k<=k'/\k'<=k+1/\0<=l':=by
 obtain⟨r,k',l',e,q⟩:=take_ok (ns:=ns) h0 h1 h2 h3 h4;refine⟨r,k',l',nh hf (ts:=[penD ns k l,.int m]) ?_ e rfl,q⟩;unfold eK;rw[hp];rfl
end Pen2
end L2
namespace L2
variable{P:Program}{w:World}{K:zbY}{mg:Str->Option Value}{k dr:Nat}{x:Str}{ps N:List Str}{dps:List Nat}{st:Stmt}{id:String}
open PySem PySem.Spec PyProof.Rows
def Lk(a b:Int):eqD (.int a) (.int b)=some (.bool (a==b)):=by
 show grd _ _=_;unfold grd;rw[if_pos ⟨rfl,rfl,zbj _⟩];simp only[peq]
def JX(a b:Int):neD (.int a) (.int b)=some (.bool (!(a==b))):=by
 show grd _ _=_;unfold grd;rw[if_pos ⟨rfl,rfl,zbj _⟩];simp only[peq]
structure Df(K:zbY)(x:Str)(st:Stmt)(f:Addr):Prop where
 a:PySem.W.nsIn K mainGlobals x=some (some (.ref f))
 l:∃oc od kV dc pm an cd ct sl,K.lookup f=some ⟨oc,od,.func (PySem.W.fnOf x x (e8 st) (c9 st) (aq st) .none kV dc pm an cd ct),sl⟩/\PySem.W.codeIn K cd x=true
 k:PySem.W.keepIn K (.ref f)=true
section
variable{base h:Heap}{f:Addr}{sp:Sp}
def Df.mk'{oc:Value}{od an:Option Addr}{sl:Array (Option Value)}{kV dc pm cd ct:Value}(a:PySem.W.nsIn K mainGlobals x=some (some (.ref f)))(l:K.lookup f=some ⟨oc,od,.func (PySem.W.fnOf x x (e8 st) (c9 st) (aq st) .none kV dc pm an cd ct),sl⟩)(c:PySem.W.codeIn K cd x=true)(k:PySem.W.keepIn K (.ref f)=true):Df K x st f:=
 ⟨a,⟨oc,od,kV,dc,pm,an,cd,ct,sl,l,c⟩,k⟩
def Df.kn(d:Df K x st f)(X:K.In h)(G:h.Ns mainGlobals mg)(b:∀(kV doc pm:Value) (an:Option Addr) (cdv ct:Value) (us:List Value),us.length=ps.length->bindArgs (PySem.W.fnOf x x (e8 st) (c9 st) (aq st) .none kV doc pm an cdv ct) ⟨us,[]⟩=pure (ps.zip us))
  (ok:∀fd,Fun K x x st f fd->FnOk P w K mg base CX0 k f fd ps sp):Kn P w K mg base k x ps sp:=by
 obtain⟨_,_,_,_,_,_,_,_,_,l,c⟩:=d.l;have F:=y3 (st:=st) l c d.k;exact⟨_,_,ok _ F,PySem.W.mg_of X G d.a,d.k,F.binds b⟩
end
section
variable{X:Cx}{p:Bool}{ds ds1 ds2 ds':List Nat}{d d1 d2:Nat}{a b e:Expr}{es:List Expr}{f f1 f2:ME}{fa:MA}{sh:Sh}{pos px:Pos}{J:Jd}{F:List D->Option (D×En)}{g:List D->Option D}
abbrev vck(X:Cx)(x:Str)(i:Nat)(n:NameKind):Prop:=(X.N[i]?,X.env.scope.names.lookup x,x==("__debug__":Str),x==("__classdict__":Str))=(some x,some n,false,false)
def fv(i:Nat)(h:vck X x i .local:=by rfl)(h0:ds[i]?=some 0:=by rfl):QE X (.Name x pos) (tF K p ds ds 0 (ad i)):=by
 simp only[vck,za1]at h;exact bQ h.1 (.inl h.2.1) h0 h.2.2.1 h.2.2.2
def fvc(i:Nat)(h:vck X x i .cell:=by rfl)(h0:ds[i]?=some 0:=by rfl):QE X (.Name x pos) (tF K p ds ds 0 (ad i)):=by
 simp only[vck,za1]at h;exact bQ h.1 (.inr (.inl h.2.1)) h0 h.2.2.1 h.2.2.2
def fsl(i:Nat)(hr:QA X es (tFA K p ds ds2 sh fa))(h:vck X x i .local:=by rfl):QA X (.Name x pos::es) (tFA K p ds ds2 (.inr i::sh) (aD i fa)):=by
 simp only[vck,za1]at h;exact pH h.1 (.inl h.2.1) hr h.2.2.1 h.2.2.2
def uk(i:Nat)(hr:QA X es (tFA K p ds ds2 sh fa))(h:vck X x i .cell:=by rfl):QA X (.Name x pos::es) (tFA K p ds ds2 (.inr i::sh) (aD i fa)):=by
 simp only[vck,za1]at h;exact pH h.1 (.inr (.inl h.2.1)) hr h.2.2.1 h.2.2.2
def fs0(h:QE X e (tF K p ds ds' d f)):QE X e (tF K p ds ds' 0 f):=dJ h (zbj _)
def frt(he:QE X e (tF K false ds ds1 J.dr f))(hd:leD J.dsr ds1=true:=by rfl):QSs X [.Return (some e) pos] (tFS K J ds ds' (ay f)):=aH (zb he hd)
abbrev cck(X:Cx)(x:Str)(e:Expr)(es:List Expr):Prop:=(X.env.kindOf x,x==("__debug__":Str),bc e,es.all bc)=(some .globalImplicit,false,true,true)
def fnn(G:Kn X.prog X.w X.K X.mg X.base k x ps (spF K dps dr F))(hr:Room k X.A)(ha:QA X (e::es) (tFA K p ds ds1 sh fa))(h:cck X x e es:=by rfl)(h2:(h9 sh,dC ds1 sh dps)=(true,true):=by rfl):QE X (.Call (.Name x px) (e::es) [] pos) (tF K p ds ds1 dr (ar F fa)):=by
 simp only[cck,za1]at h h2;exact Gz G hr h.1 ha h2.1 h2.2 h.2.1 h.2.2.1 h.2.2.2
def fns(G:Kn X.prog X.w X.K X.mg X.base k x ps (spF K dps dr F))(hr:Room k X.A)(ha:QA X (e::es) (tFA K false ds ds1 sh fa))(h:cck X x e es:=by rfl)(h2:dC ds1 sh dps=true:=by rfl):QE X (.Call (.Name x px) (e::es) [] pos) (tF K false ds ds1 dr (ar F fa)):=by
 simp only[cck,za1]at h;exact Bg G hr h.1 ha h2 h.2.1 h.2.2.1 h.2.2.2
def fcb(hc:CallR X (.builtin id) (rFn K g d))(hm:X.mg x=none)(hv:bootBuiltins x=some (.builtin id))(ha:QA X (e::es) (tFA K p ds ds1 sh fa))(h:cck X x e es:=by rfl)(h2:(dh 0 sh,x==("__name__":Str))=(true,false):=by rfl):QE X (.Call (.Name x px) (e::es) [] pos) (tF K p ds ds1 d (eN g fa)):=by
 simp only[cck,za1]at h h2;exact pG hc h.1 hm hv ha h2.1 (by simpa using h2.2) h.2.1 h.2.2.1 h.2.2.2
def fct(hc:CallR X (.type id) (rFn K g d))(hm:X.mg x=none)(hv:bootBuiltins x=some (.type id))(ha:QA X (e::es) (tFA K p ds ds1 sh fa))(h:cck X x e es:=by rfl)(h2:(dh 0 sh,x==("__name__":Str))=(true,false):=by rfl):QE X (.Call (.Name x px) (e::es) [] pos) (tF K p ds ds1 d (eN g fa)):=by
 simp only[cck,za1]at h h2;exact vq hc h.1 hm hv ha h2.1 (by simpa using h2.2) h.2.1 h.2.2.1 h.2.2.2
def fln(hK:X.K=K)(hm:X.mg "len"=none)(ha:QA X (e::es) (tFA K p ds ds1 sh fa))(h:cck X "len" e es:=by rfl)(h2:dh 0 sh=true:=by rfl):QE X (.Call (.Name "len" px) (e::es) [] pos) (tF K p ds ds1 3 (eN aK fa)):=by
 simp only[cck,za1]at h;exact pG (KI hK) h.1 hm (by decide +kernel) ha h2 (by decide) h.2.1 h.2.2.1 h.2.2.2
def fte(hK:X.K=K)(hu:X.A.units+64<cLine)(ha:QE X a (tF K p ds ds1 d1 f1))(hb:QE X b (tF K p ds1 ds2 d2 f2)):QT X (.Compare a [.Eq] [b] pos) (tFT K p ds ds2 (tV (e2 eqD f1 f2))):=bf (gR hK hu) ha hb (aY _)
def ftn(hK:X.K=K)(hu:X.A.units+64<cLine)(ha:QE X a (tF K p ds ds1 d1 f1))(hb:QE X b (tF K p ds1 ds2 d2 f2)):QT X (.Compare a [.NotEq] [b] pos) (tFT K p ds ds2 (tV (e2 neD f1 f2))):=bf (Mh hK hu) ha hb (aY _)
def fxi{n:Int}{j:Nat}{q:Pos}(hK:X.K=K)(ha:QE X a (tF K p ds ds1 d1 f1)):QE X (.Subscript a (.Constant (.int n) j q) pos) (tF K p ds ds1 0 (e2 ixA f1 (eC (.int n)))):=aX (bA hK) ha ai fun _ _=>rfl
def aR(i:Nat)(ds':List Nat){pos':Pos}(hN:X.N.Nodup)(he:QE X e (tF K false ds ds1 d f))(h:(X.N[i]?,X.env.scope.names.lookup x,X.fn x)=(some x,some .local,true):=by rfl)(h2:(ds1.set i d,decide (i<ds1.length),J.lk.contains i)=(ds',true,false):=by rfl)(hs:swapsWith e (some (.Name x pos')) pos.line X.env=pure false:=by rfl):QS X (.Assign [.Name x pos'] e pos) (tFS K J ds ds' (au i f)):=by
 simp only[za1,decide_eq_true_eq]at h h2;exact cB hN h.1 (.inl h.2.1) he h2.1 h2.2.1 (by simpa using h2.2.2) hs (.inl h.2.2)
def fsc{P:List Str}{sc:Scope}(a:sc.kind=.function:=by rfl)(b:sc.isCoroutine=false:=by rfl)(c:sc.isGenerator=false:=by rfl)(d:N.Nodup:=by decide +kernel)(e:N.take P.length=P:=by rfl)(f:∀x∈P,sc.names.lookup x=some .local\/sc.names.lookup x=some .cell:=by decide +kernel)(g:∀y∈sc.names,y.2≠.free:=by decide +kernel):FnScope N P sc:=⟨a,b,c,d,e,f,g⟩
def Fun.okR{base:Heap}{q:Str}{fa:Addr}{fd:FuncData}{n:Nat}{b:MS}(F:Fun K x q st fa fd)(S:FnScope N ps (aq st))(J:Jd)(ds0:List Nat)
  (hb:N.Nodup->∀(cdv:Value) (A:Around) (outer:List Env) (s:Shared) (H:Hp) (E:XK),Room k (A.deeper (envOfC q (aq st) s.heap.objs.size fa cdv))->QSs (mz CX0 P w K mg base N q (aq st) fa cdv A outer s H E).nox (c9 st) (tFS K J ds0 ds0 b)) (hl:dps.length=ps.length:=by rfl) (hn:N.length-dps.length=n:=by rfl) (hJ:J=⟨qE dps,dps++List.replicate n 0,dr,[]⟩:=by rfl) (hd:ds0=dps++List.replicate n 0:=by rfl):FnOk P w K mg base CX0 (k+1) fa fd ps (spF K dps dr (fnF n dps b)):=F.okQ S hl hn hJ hd (hb S.nd)
def ndk(l:List Str)(h:l.Nodup:=by decide +kernel):l.Nodup:=h
def fgn(i:Nat)(ds':List Nat){lk:List Nat}(hN:X.N.Nodup)(hi:X.N[i]?=some x:=by rfl)(hx:Loc X.env.scope x:=by exact .inl rfl)(hds:ds.set i 0=ds':=by rfl)(hl:i<ds.length:=by decide)(hk:i∉lk:=by decide)(hf:X.fn x=true\/X.env.scope.names.lookup x=some .local:=by first|exact .inl rfl|exact .inr rfl):QG X (.Name x pos) (tFG K lk ds ds' (gN i)):=la hN hi hx hds hl hk hf
def fac(ha:QE X e (tF K p ds ds1 d f))(hr:QA X es (tFA K p ds1 ds2 sh fa))(hs:bc e=true:=by rfl):QA X (e::es) (tFA K p ds ds2 (.inl d::sh) (ac f fa)):=xC ha hr hs
end
abbrev MX:=En->Option Unit
abbrev MN:=En->Option Str
end L2
namespace L2
open PySem PySem.Spec PyProof.Rows Builtin Builtin.ObjectAttr Builtin.Getset_descriptor
end L2
namespace L2
open PySem PySem.Spec PyProof.Rows
def yU{P:Program}{w:World}{k:Key}{v:Value}(h:(bz P w).is k v=true):RelV (kV k) v:=by
 rcases bN h with⟨i,t,e1,e2⟩|⟨x,t,e1,e2⟩
 ·have e:k=Sum.inl i:=e1;rw[e,e2];exact⟨t,rfl⟩
 ·have e:k=Sum.inr x:=e1;rw[e,e2];exact⟨t,rfl⟩
end L2
namespace L2
open PySem PySem.Spec PyProof.Rows Builtin
def Na:List Int->Bool
 |[]=>true
 |x::r=>go x r true || go x r false
where go (x:Int):List Int->Bool->Bool
 |[],_=>true
 |y::r,true=>decide (x<=y)&&go y r true
 |y::r,false=>decide (y<x)&&go y r false
def EL(ns:List Int):Prop:=ns.length<64\/(Na ns=true/\ns.length<=5000)
instance (ns:List Int):Decidable (EL ns):=by unfold EL;exact inferInstance
end L2
namespace PySem
end PySem
namespace L2
open PySem PySem.Spec PyProof.Rows
end L2
namespace L2
open PySem PySem.Spec PyProof.Rows Builtin
end L2
namespace L2
open PySem PySem.Spec PyProof.Rows PySem.Calls
end L2
namespace L2
variable{K:zbY}{O:AS}{H:Hp}{t:D}{d ep i n k:Nat}{X:Cx}{ds ds1:List Nat}{e:Expr}{σ:St}{ρ:List (Addr×Obj)}{s:Shared}{a I:Addr}{P:Nat->Value->Prop}{w:World}{A:Around}{E Q:Value->Shared->Prop}{elts:List Expr}{tp px μ ω:Pos}{u:HO}{ks:List (D×D)}{vs:List (Key×V)}{x:Str}{prog:Program}{R:Result->Shared->Prop}{fp wr:List Addr}{key:Value}
open PySem PySem.Spec PyProof.Rows
def scaD:D->Bool
 |.none=>true
 |.bool _=>true
 |.int _=>true
 |.str _=>true
 |_=>false
def eS3(f:ME):ME:=fun en=>(f en).bind fun r=>if scaD r.1=true then some r else none
def Ow.scaD{O':AS}{H':Hp}{d':Nat}{v:V}{F F':AS}(hs:L2.scaD t=true)(h:Ow K O H t d v F):Ow K O' H' t d' v F':=by
 cases t<;>first|exact h|cases hs
section
variable{p:Bool}{f:ME}{Q:VK}
def Nk(h:tF K p ds ds1 3 (eS3 f) σ H Q):tF K p ds ds1 d f σ H Q:=by
 obtain⟨Ox,en,R,t,en',e,hf,k⟩:=h;unfold eS3 at hf;obtain⟨⟨t1,en1⟩,h1,hf⟩:=zaa.mp hf;by_cases hs:scaD t1=true
 ·dsimp only at hf
  rw[if_pos hs]at hf;cases hf;exact⟨Ox,en,R,_,_,e,h1,fun v H' R' F P o=>k v H' R' F P (o.scaD hs)⟩
 ·dsimp only at hf
  rw[if_neg hs]at hf;cases hf
def Gv(h:QE X e (tF K p ds ds1 d f)):QE X e (tF K p ds ds1 3 (eS3 f)):=⟨h.h.imp fun _ _ _=>Nk⟩
end
def LE(o:Obj)(ep:Nat):Prop:=∃es,o.data=.dict es ep
def FzD(H:Hp)(d:Addr)(kvs:List (Key×V))(ep:Nat):Prop:=∃o,H d=some (.frz o (.dK kvs))/\LE o ep
def Itk(d:Addr)(kvs:List (Key×V))(ep:Nat):It:=
 ⟨fun i H=>FzD H d kvs ep/\i<kvs.length,fun i H x H'=>H'=H/\∃kv,kvs[i]?=some kv/\x=kV kv.1,fun i H=>FzD H d kvs ep/\kvs.length<=i⟩
def Itm(d:Addr)(kvs:List (Key×V))(ep:Nat):It:=
 ⟨fun i H=>FzD H d kvs ep/\i<kvs.length,fun i H y H'=>∃p kv,y=.ref p/\H p=none/\H'=upd H p (.tup [kV kv.1,kv.2])/\kvs[i]?=some kv,fun i H=>FzD H d kvs ep/\kvs.length<=i⟩
section
variable{kvs:List (Key×V)} 
def ke(I:Inv X ρ σ H s)(h:FzD H a kvs ep):(a==sysModules)=false/\∃vs,KV kvs vs/\s.heap.DictAt (bz X.prog X.w) a vs ep:=by
 obtain⟨o,h1,es0,h2⟩:=h;obtain⟨g1,_,hd,vs,rel,o',es,ep',g2,g3,g4,g5⟩:=(show ObjOk X.prog X.w H s.heap a (.frz o (.dK kvs))from I.hok a _ h1);rw[g1]at g2;cases g2;have e:=g4.symm.trans h2;injection e with e1 e2
 subst e2;exact⟨hd,vs,rel,o,es,g1,g3,g4,g5⟩
def Inv.freeze(I:Inv X ρ σ H s)(e:H a=some (.dK kvs)):∃o ep,LE o ep/\Inv X ρ σ (upd H a (.frz o (.dK kvs))) s:=by
 obtain⟨z,hd,vs,rel,o,es,ep,g1,g2,g3,g4⟩:=sA I.hok e;refine⟨o,ep,⟨es,g3⟩,?_⟩;exact I.write (x:=a) (e:=a) (h':=s.heap) (t':=s.toks) (by rw[e];exact True.intro) (.inl rfl) (fun b u _ q=>q) ⟨o,g1⟩ ⟨g1,z,hd,vs,rel,o,es,ep,g1,g2,g3,g4⟩
def Ey{vs:List (Key×Value)}(rel:KV kvs vs)(hi:i<kvs.length):∃kv v,kvs[i]?=some kv/\vs[i]?=some (kv.1,v)/\RelV kv.2 v:=by
 induction rel generalizing i with
 |nil=>simp at hi
 |@cons p q r t hpq hr ih=>
  cases i with
  |zero=>exact⟨p,q.2,rfl,by rw[hpq.1];rfl,hpq.2⟩
  |succ j=>exact ih (by simpa using hi)
def gK:entryFor table "dict_itemiterator.__iter__"=some Builtin.«dict_keyiterator.__iter__»:=
 entryFor_alias (id':="dict_keyiterator.__iter__") (by kernel_rfl) rfl (by decide +kernel) (by kernel_rfl)
def oY{P:Program}{it d:Addr}{ok ov:Value}(hit:IsItemIter s.heap it d i n ep ok ov)(h:Q (.ref it) s):wpAny (model P w) A (pyIter (.ref it)) Q E s:=by
 have hT:s.TypeIs (.ref it) "dict_itemiterator":=⟨_,hit,rfl⟩;refine wpAny_pyIter_slot hT F.slot_dict_itemiterator_iter (wpAny_call_entry F.slot_dict_itemiterator_iter hT gK ?_ (F.args_dict_itemiterator_iter_1 _));show wpAny _ _ (ret (.ref it)) _ _ s;exact zaT ⟨_,rfl,"dict_itemiterator",_,hT,F.slot_dict_itemiterator_next.lookup,h⟩
def wE{P:Program}(d it:Addr)(kvs:List (Key×V))(ep:Nat):Turn P w K (.Tuple elts k tp) (Itm d kvs ep) [it] it (fun i h=>∃ok ov,IsItemIter h it d i kvs.length ep ok ov) where
 mem:=by simp
 obj:=fun i h st b hb=>by
  have e:b=it:=by simpa using hb
  subst e;obtain⟨ok,ov,st⟩:=st;exact⟨_,st,fun v z=>by
   have z':Data.fields _=Data.cell v:=z;cases z'⟩
 keep:=fun i h h' st k=>let⟨ok,ov,e⟩:=st;⟨ok,ov,k it (by simp) _ e⟩
 item:=by
  intro X hP hw hK hc i ρ s σ H E I hf st hg;subst hP hw hK;obtain⟨fz,hi⟩:=hg;obtain⟨hd,vs,rel,dd⟩:=ke I fz;have hl:kvs.length=vs.length:=rel.length;obtain⟨kv,x,hkv,hx,rx⟩:=Ey rel hi;obtain⟨ok,ov,st⟩:=st;have iL:it<s.heap.objs.size:=zal st;rw[hl]at st;refine wpAny_pyNext_items_item st dd hx fun key h1 hkey ho1 ht1 hz1 hk1=>?_;refine⟨_,rfl,wpAny_letOwnedTupleGo_items ho1 fun h2 he2 hs2=>?_⟩;have ht2:h2.get? s.heap.objs.size=some { cls:=.type "tuple",data:=.seq #[key,x] }:=(hs2.2 _ (Nat.ne_of_gt iL)).trans ht1;have I2:Inv X ρ σ (upd H s.heap.objs.size (.tup [kV kv.1,kv.2])) { s with heap:=h2 }:=by
   refine I.turnedLaid (t':=s.toks) (fp:=[it]) hf (zav _) (fun b ob hb q=>?_) (fun b hb=>?_) ?_
   ·have h1:b≠it:=fun z=>hb (by simp[z]);exact(hs2.2 b h1).trans (hk1 b ob h1 q)
   ·have e:b=it:=by simpa using hb
    subst e;exact⟨_,he2⟩
   ·refine⟨(by show 2<=sizeLine;decide),[key,x],.cons (yU hkey) (.cons rx .nil),?_⟩;exact⟨_,ht2,rfl,_,rfl,rfl⟩
  have fr:∀b∈[it],upd H s.heap.objs.size (.tup [kV kv.1,kv.2]) b=none:=fun b hb=>by
   have e:b=it:=by simpa using hb
   subst e;rw[aN (zaw iL)];exact(hf b hb).1
  exact⟨.ref s.heap.objs.size,_,I2,rfl,⟨_,kv,rfl,I.fresh,rfl,hkv⟩,⟨key,x,by rw[hl];exact he2⟩,fr⟩
 done:=by
  intro X hP hw hK hc i ρ s σ H E I hf st hg;subst hP hw hK;obtain⟨fz,hi⟩:=hg;obtain⟨hd,vs,rel,dd⟩:=ke I fz;obtain⟨f0,f1,f2,f3,f4,f5⟩:=hf it (by simp);have hl:kvs.length=vs.length:=rel.length;obtain⟨ok,ov,st⟩:=st;rw[hl]at st;exact wpAny_pyNext_items_end (I.ok.hd hc) st dd (zbl (by omega)) fun h' eb=>⟨rfl,I.turned (t':=s.toks) (fun b o hb e=>eb b o hb e) f0 f1 f3 f4 f5⟩
 self:=fun _ _ _ _ _ st h=>let⟨_,_,e⟩:=st;oY e h
end
section
variable{l:Addr}{ws:List (Key×V)}{ob:Obj}
def yx(hl:H l=some (.dK ws))(h:Rd H a u):Rd (upd H l (.frz ob (.dK ws))) a u:=by
 by_cases e:a=l
 ·subst e;rcases h with h|⟨o,h⟩
  ·rw[hl]at h;cases h;exact .inr ⟨ob,aI⟩
  ·rw[hl]at h;cases h
 ·exact h.mv fun o q=>by rw[aN e];exact q
def mf(hl:H l=some (.dK ws))(h:H a=some u)(n:u≠.dK ws):upd H l (.frz ob (.dK ws)) a=some u:=by
 rw[aN fun e=>?_]
 ·exact h
 ·subst e;rw[hl]at h;cases h;exact n rfl
mutual
theorem Ow.frzd(hl:H l=some (.dK ws)):∀(t:D) {d:Nat} {v:V} {F:AS},¬F l->Ow K O H t d v F->Ow K O (upd H l (.frz ob (.dK ws))) t d v F
 |.none,_,_,_,_,h=>h
 |.bool _,_,_,_,_,h=>h
 |.int _,_,_,_,_,h=>h
 |.str _,_,_,_,_,h=>h
 |.tuple ts,_,_,_,g,h=>by
  obtain⟨a,vs,e,⟨h0,h1,h2⟩|⟨h0,h1,h2,F',hf,h3⟩⟩:=h
  ·exact⟨a,vs,e,.inl ⟨h0,⟨mf hl h1.1 (fun z=>nomatch z),h1.2⟩,Ows.frzd hl ts g h2⟩⟩
  ·exact⟨a,vs,e,.inr ⟨h0,mf hl h1 (fun z=>nomatch z),h2,F',hf,Ows.frzd hl ts (fun z=>g (hf _ z).1) h3⟩⟩
 |.list ts,_,_,_,g,h=>by
  obtain⟨a,vs,e,⟨h0,h1,h2⟩|⟨h0,h1,h2,F',hf,h3⟩⟩:=h
  ·exact⟨a,vs,e,.inl ⟨h0,h1.imp (fun h=>⟨yx hl h.1,h.2⟩) id,Ows.frzd hl ts g h2⟩⟩
  ·exact⟨a,vs,e,.inr ⟨h0,mf hl h1 (fun z=>nomatch z),h2,F',hf,Ows.frzd hl ts (fun z=>g (hf _ z).1) h3⟩⟩
 |.dict ks,_,_,_,g,h=>by
  obtain⟨a,vs,e,⟨h0,h1,hn,h2⟩|⟨h0,h1,h2,F',hf,h3⟩|⟨h0,ht⟩⟩:=h
  ·exact⟨a,vs,e,.inl ⟨h0,yx hl h1,hn,Owd.frzd hl ks g h2⟩⟩
  ·refine⟨a,vs,e,.inr (.inl ⟨h0,?_,h2,F',hf,Owd.frzd hl ks (fun z=>g (hf _ z).1) h3⟩)⟩;have na:a≠l:=fun z=>g (by rw[<-z];exact h2);rw[aN na];exact h1
  ·refine⟨a,vs,e,.inr (.inr ⟨h0,?_⟩)⟩;rcases ht with⟨kk,b,h1,h2,h3⟩|⟨x,C,h1,h0',h2,h3⟩
   ·exact .inl ⟨kk,b,h1,mf hl h2 (fun z=>nomatch z),h3⟩
   ·exact .inr ⟨x,C,h1,h0',mf hl h2 (fun z=>nomatch z),h3⟩
theorem Ows.frzd(hl:H l=some (.dK ws)):∀(ts:List D) {d:Nat} {vs:List V} {F:AS},¬F l->Ows K O H ts d vs F->Ows K O (upd H l (.frz ob (.dK ws))) ts d vs F
 |[],_,_,_,_,h=>h
 |t::ts,_,_,_,g,h=>by
  obtain⟨v,r,F1,F2,e,h1,h2,h3,h4,h5⟩:=h;exact⟨v,r,F1,F2,e,h1,h2,h3,Ow.frzd hl t (fun z=>g (h1 _ z)) h4,Ows.frzd hl ts (fun z=>g (h2 _ z)) h5⟩
theorem Owd.frzd(hl:H l=some (.dK ws)):∀(ts:List (D×D)) {d:Nat} {vs:List (Key×V)} {F:AS},¬F l->Owd K O H ts d vs F->Owd K O (upd H l (.frz ob (.dK ws))) ts d vs F
 |[],_,_,_,_,h=>h
 | (k,t)::ts,_,_,_,g,h=>by
  obtain⟨q,v,r,F1,F2,e,e2,h1,h2,h3,h4,h5⟩:=h;exact⟨q,v,r,F1,F2,e,e2,h1,h2,h3,Ow.frzd hl t (fun z=>g (h1 _ z)) h4,Owd.frzd hl ts (fun z=>g (h2 _ z)) h5⟩
end
def Owd.get{k:D}(h:Owd K O H ks 0 vs NoA)(hi:ks[i]?=some (k,t)):∃q v,vs[i]?=some (q,v)/\k=kD q/\Ow K O H t 0 v NoA:=by
 induction ks generalizing vs i with
 |nil=>simp at hi
 |cons p ks ih=>
  obtain⟨k',t'⟩:=p;obtain⟨q,v,r,F1,F2,e,e2,h1,h2,h3,h4,h5⟩:=h;subst e;cases i with
  |zero=>
   cases hi;exact⟨q,v,rfl,e2,Ow.any0 _ h4⟩
  |succ j=>
   obtain⟨q',v',g1,g2,g3⟩:=ih (vs:=r) (i:=j) (Owd.any0 ks h5) (by simpa using hi);exact⟨q',v',by simpa using g1,g2,g3⟩
end
def kys(ks:List (D×D)):List D:=ks.map fun q=>q.1
def prs(ks:List (D×D)):List D:=ks.map fun q=>.tuple [q.1,q.2]
theorem kS{K:zbY}{O:AS}{H:Hp}:∀{ks:List (D×D)} {vs:List (Key×V)} {d:Nat} {F:AS},Owd K O H ks d vs F->vs.length=ks.length
 |[],_,_,_,h=>by rw[show _=[]from h];rfl
 | (k,t)::ks,_,_,_,h=>by
  obtain⟨q,v,r,F1,F2,e,_,_,_,_,_,h5⟩:=h;rw[e,zac,zac,kS h5]
def wz(hf:FzD H a vs ep)(hn:¬O a)(ow:Owd K O H ks 0 vs NoA):lp K O H (Itm a vs ep) (prs ks):=fun i H1 O1 h1 h2 h3=>by
 have fz:FzD H1 a vs ep:=let⟨o,e,q⟩:=hf;⟨o,h1 a _ e hn,q⟩;have hl:=kS ow;refine⟨fun t ht=>?_,fun hl2=>⟨fz,by unfold prs at hl2;rw[zad]at hl2;omega⟩⟩;unfold prs at ht;rw[zao]at ht;obtain⟨⟨k,u⟩,h4,rfl⟩:=zab.mp ht;obtain⟨q,v,h5,rfl,ov⟩:=ow.get h4;refine⟨⟨fz,(zah.mp h5).1⟩,fun x H2 ⟨p,kv,e,hp,h6,h7⟩=>?_⟩;rw[h5]at h7;cases h7;subst e h6;have g:=(cq (o:=.tup [kV q,v]) hp).1;refine⟨g,p,[kV q,v],rfl,.inl ⟨rfl,⟨aI,fun z=>?_⟩,kV q,[v],NoA,NoA,rfl,fun _ z=>z,fun _ z=>z,fun _ z=>z.elim,?_,v,[],NoA,NoA,rfl,fun _ z=>z,fun _ z=>z,fun _ z=>z.elim,?_,rfl⟩⟩
 ·obtain⟨o,q⟩:=h3 p z;rw[hp]at q;cases q
 ·cases q<;>exact rfl
 ·exact Ow.mv (G:=NoA) ⟨fun a o q _=>g a o q,fun a z=>.inl z⟩ u (fun _ z=>z) (Ow.mv (eS h1 h2) u (fun _ z=>z) ov)
def iDk(kp:Bool)(i:Nat):MI:=fun en=>match (en[i]?).join with
 |some (.dict ks)=>some (kys ks,if kp then en else en.set i none)
 |_=>none
def iDm(kp:Bool)(i:Nat):MI:=fun en=>match (en[i]?).join with
 |some (.dict ks)=>some (prs ks,if kp then en else en.set i none)
 |_=>none
section
variable{Ox:AS}{en:En}{R:Nat->AS} 
def sY(e:EnvOk K ds Ox H σ en R)(g0:en[i]?=some (some (.dict ks)))(hi:ds[i]?=some d)(hd:d≠0)(kp:Bool)(h1:(if kp then ds.set i 0 else ds)=ds1):
  ∃a vs,σ[i]?=some (some (.ref a))/\H a=some (.dK vs)/\∀ob,Post K false ds1 Ox σ H en R (if kp then en else en.set i none) (upd H a (.frz ob (.dK vs))) (fun s b=>s≠i/\R s b) NoA/\¬Own (fun s b=>s≠i/\R s b) Ox a/\Owd K (Own (fun s b=>s≠i/\R s b) Ox) (upd H a (.frz ob (.dK vs))) ks 0 vs NoA:=by
 obtain⟨v,d0,a1,a2,a3⟩:=e.at_ i _ g0;rw[hi]at a2;cases a2;obtain⟨a,vs,rfl,ha,Fa,F',hF,ow⟩:=a3.dict1 hd;have sub:∀b,Own (fun s b=>s≠i/\R s b) Ox b->Own R Ox b:=fun b z=>z.imp (fun⟨s,z⟩=>⟨s,z.2⟩) id;have nR:∀b,R i b->¬Own (fun s b=>s≠i/\R s b) Ox b:=fun b z z2=>by
  rcases z2 with⟨s,z2⟩|z2
  ·exact z2.1 (e.dj s i b z2.2 z)
  ·exact e.dx i b z z2
 refine⟨a,vs,a1,ha,fun ob=>?_⟩;have dm:∀b o,H b=some o->∃o',upd H a (.frz ob (.dK vs)) b=some o':=fun b o q=>by
  by_cases z:b=a
  ·subst z;exact⟨_,aI⟩
  ·exact⟨o,by rw[aN z];exact q⟩
 have oi:Ow K (Own (fun s b=>s≠i/\R s b) Ox) H (.dict ks) 0 (.ref a) NoA:=Ow.fz sub nR a3;have oi2:=Ow.frzd (ob:=ob) ha (.dict ks) (fun z=>z) oi;have ow2:Owd K (Own (fun s b=>s≠i/\R s b) Ox) (upd H a (.frz ob (.dK vs))) ks 0 vs NoA:=by
  obtain⟨p,ws,ep,⟨_,q1,_,q2⟩|⟨z,_⟩|⟨_,⟨_,_,_,q1,_⟩|⟨_,_,_,_,q1,_⟩⟩⟩:=oi2
  ·cases ep;rcases q1 with q1|⟨o,q1⟩
   ·rw[aI]at q1;cases q1
   ·rw[aI]at q1;cases q1;exact q2
  ·exact absurd rfl z
  ·cases ep;rw[aI]at q1;cases q1
  ·cases ep;rw[aI]at q1;cases q1
 have il:i<ds.length:=(zah.mp hi).1;have env:EnvOk K ds1 (U NoA Ox) (upd H a (.frz ob (.dK vs))) σ (if kp then en else en.set i none) (fun s b=>s≠i/\R s b):=by
  rw[eP];refine⟨fun s t h=>?_,fun s s' b z z'=>e.dj s s' b z.2 z'.2,fun s b z=>e.dx s b z.2,fun b z=>?_,?_,?_⟩
  ·by_cases hs:s=i
   ·subst hs;cases kp with
    |true=>
     have h':en[s]?=some (some t):=h;rw[g0]at h';cases h';refine⟨.ref a,0,a1,?_,?_⟩
     ·rw[<-h1];exact zaP il
     ·exact Ow.any0 _ oi2
    |false=>
     have h':(en.set s none)[s]?=some (some t):=h;by_cases hl:s<en.length
     ·rw[zaP hl]at h';cases h'
     ·rw[zbl (by rw[zaV];omega)]at h';cases h'
   ·have h':en[s]?=some (some t):=by
     cases kp with
     |true=>exact h
     |false=>
      have h2:(en.set i none)[s]?=some (some t):=h;rw[zaO (Ne.symm hs)]at h2;exact h2
    obtain⟨v,d',g1,g2,g3⟩:=e.at_ s t h';refine⟨v,d',g1,?_,Ow.frzd ha t (fun z=>hs (e.dj s i a z.2 Fa)) (Ow.grow sub t (fun b z=>⟨hs,z⟩) g3)⟩;rw[<-h1];cases kp with
    |true=>
     show(ds.set i 0)[s]?=_;rw[zaO (Ne.symm hs)];exact g2
    |false=>exact g2
  ·obtain⟨o,q⟩:=e.dom b (sub b z);exact dm b o q
  ·cases kp with
   |true=>exact e.l1
   |false=>show(en.set i none).length=_;rw[zaV];exact e.l1
  ·rw[<-h1];cases kp with
   |true=>show(ds.set i 0).length=_;rw[zaV];exact e.l2
   |false=>exact e.l2
 refine⟨⟨env,fun _ z=>z.elim,fun b o q n=>?_,fun b z=>?_,dm,fun z=>nomatch z⟩,nR a Fa,ow2⟩
 ·have na:b≠a:=fun z=>n i (by rw[z];exact Fa);rw[aN na];exact q
 ·rcases z with z|⟨s,z⟩
  ·exact z.elim
  ·exact .inl ⟨s,z.2⟩
end
section
variable{tg:Expr} 
def Gm(kp:Bool)(hK:X.K=K)(hN:X.N[i]?=some x)(hv:Vis X.env.scope x)(hi:ds[i]?=some d)(hd:d≠0)(h1:(if kp then ds.set i 0 else ds)=ds1)
  (hb:attributeBase (.Name x px) "items" X.env (eval (.Name x px) X.env)=eval (.Name x px) X.env) (θ:(μ.endLine==ω.line)=true) (hdb:(x==("__debug__":Str))=false) (hcd:(x==("__classdict__":Str))=false):
  QI X (.Tuple elts k tp) (.Call (.Attribute (.Name x px) "items" μ) [] [] ω) (tFI K false ds ds1 (iDm kp i)):=by
 subst hK;refine⟨?_⟩;intro ρ s σ H R I h;obtain⟨Ox,en,Rg,ts,en',e,hf,k⟩:=h;unfold iDm at hf;split at hf
 case h_2=>cases hf
 next ks g0=>
 cases hf;obtain⟨a,vs,a1,ha,kk⟩:=sY e (be g0) hi hd kp h1;refine wpAny_Call_method (T:="dict") (id:="dict.items") hb rfl θ F.plainAttrs_dict F.slot_dict_items F.type_dict_items (thn (cR hN hv hdb hcd ρ s σ H (fun v H1=>v=.ref a/\H1=H) I ⟨.ref a,a1,rfl,rfl⟩) fun v s1 ⟨y,H1,I1,r1,ey,eH⟩=>?_);subst ey eH;cases r1;obtain⟨o,ep,he,I2⟩:=I1.freeze ha;obtain⟨P,nO,ow⟩:=kk o;have fz:FzD (upd H1 a (.frz o (.dK vs))) a vs ep:=⟨o,aI,he⟩;obtain⟨hds,us,rel,dd⟩:=ke I2 fz;refine⟨dd.dictOf.typeIs,dd.dictOf.mapOf.noDict,?_⟩;show wpAny _ _ (callWith ω (.builtin "dict.items") [.ref a] [] []) _ _ s1;refine method_meetsIn F.slot_dict_items F.entry_dict_items rfl (PySem.evalArgs_none ⟨rfl,dd.dictOf.typeIs,F.args_dict_items_1 _,_,meets_dict_items (bz X.prog X.w) a hds,⟨us,dd.dictOf⟩,?_⟩);refine wpAny_pyIter_items (knd:=bz X.prog X.w) (d:=a) (kvs:=us) (ep:=ep) ⟨_,zan _ rfl,rfl,rfl⟩ (dd.push _) ?_;have I3:Inv X ρ σ (upd H1 a (.frz o (.dK vs))) { s1 with heap:=s1.heap.push { cls:=.type "dict_items",data:=.fields #[.ref a] } }:=I2.kept (t':=s1.toks) fun b o e=>zaf _ e;refine⟨_,[(s1.heap.push { cls:=.type "dict_items",data:=.fields #[.ref a] }).objs.size],_,_,_,rfl,I3.kept (t':=s1.toks) fun b o e=>zaf _ e,wE a _ vs ep,⟨.none,.none,?_⟩,fun b hb=>?_,k _ _ _ P (wz fz nO ow)⟩
 ·rw[rel.length];exact zan _ rfl
 ·have e:b=(s1.heap.push { cls:=.type "dict_items",data:=.fields #[.ref a] }).objs.size:=by simpa using hb
  subst e;exact I3.fpOk (zav _) (I3.hok.fresh (zav _))
end
def bs(val:Nat->Int):Nat->Int
 |0=>0
 |k+1=>if k=0\/val k>bs val k then val k else bs val k
section
variable{St:Nat->Heap->Prop}{val:Nat->Int}{d0:Value}{ky:Str}
def gp(P:Nat->Value->Prop)(val:Nat->Int)(j:Nat)(xs:Array Value):Prop:=(j=0/\xs=#[])\/∃i v,0<j/\P i v/\val i=bs val j/\xs=#[v,v]
end
def cI(its:Nat->List Value):Nat->List Value
 |0=>[]
 |j+1=>cI its j++its j
def GM(its:Nat->List Value){j:Nat}(h:j<=n):(cI its j).length<=(cI its n).length:=by
 induction n with
 |zero=>
  obtain rfl:j=0:=by omega
  exact zav _
 |succ n ih=>
  by_cases e:j=n+1
  ·subst e;exact zav _
  ·have:=ih (by omega);show _<=(cI its n++its n).length;rw[zae];omega
def plk{h h':Heap}{xs:Array Value}(p:PlainL h a xs)(k:∀o,h.get? a=some o->h'.get? a=some o):PlainL h' a xs:=by
 obtain⟨o,n,e,r⟩:=p;exact⟨o,n,k o e,r⟩
section
variable{St:Nat->Heap->Prop}{its:Nat->List Value}{h0:Heap}
def yn(W:Walks prog w A.in1 I fp wr n P St)(hv:∀i v,P i v->∃a,v=.ref a/\PlainL h0 a (its i).toArray)(S:Addr)(hSf:∀b∈fp,b<S)(h0S:h0.objs.size<=S)(h0w:∀b∈wr,h0.objs.size<=b)(hz:(cI its n).length<=sizeLine):
  ∀(k j:Nat) (s:Shared) (c:Nat) (acc:Addr),n-j=k->j<=n->St j s.heap->s.heap.get? S=some { cls:=.type "list",data:=.seq #[.ref acc] c }->(∀b o,h0.get? b=some o->s.heap.get? b=some o) ->
  PlainL s.heap acc (cI its j).toArray->acc≠S->acc∉wr->(j=0\/h0.objs.size<=acc/\∃c',s.heap.get? acc=some { cls:=.type "list",data:=.seq (cI its j).toArray c' }) ->
  (∀a h' tk,(n=0\/h0.objs.size<=a/\∃c',h'.get? a=some { cls:=.type "list",data:=.seq (cI its n).toArray c' })->(∀b o,h0.get? b=some o->h'.get? b=some o)->R (.ok (.ret (.ref a))) { s with heap:=h',toks:=tk }) ->
  codeAny (model prog w) A (.builtin "sum.loop" ⟨[.ref I,.ref S,rawInt 2,rawInt 0],[]⟩) R s:=by
 have nSw:S∉wr:=fun h=>zaI _ (hSf _ (W.sub _ h));have h0n:∀b o,h0.get? b=some o->b∉wr/\b≠S:=fun b o e=>by
  have hl:b<h0.objs.size:=zal e;refine⟨fun z=>?_,fun z=>?_⟩
  ·exact zaI _ (zag hl (h0w b z))
  ·subst z;exact zaI _ (zag hl h0S)
 intro k
 induction k with
 |zero=>
  intro j s c acc hk hj st hS hb pl na nw hacc fin;have ej:j=n:=by omega
  subst ej;refine codeAny_builtin F.entry_sum_loop ?_;rw[Around.under_plainId F.plain_sum_loop _];show wpAny (model prog w) A.in1 (seqItems? (.ref S) >>= fun _=>_) _ _ s;refine zam (wpAny_seqItems hS rfl ?_);show wpAny (model prog w) A.in1 (tryCatch (pyNext (.ref I)) (fun _=>_) >>= fun _=>_) _ _ s;refine zam (wpAny_tryCatch (W.done s _ _ st fun h1 t1 k1=>?_));exact zaT (fin acc h1 t1 (hacc.imp id fun⟨z,c',e⟩=>⟨z,c',k1 acc _ nw e⟩) fun b o e=>k1 b o (h0n b o e).1 (hb b o e))
 |succ k ih=>
  intro j s c acc hk hj st hS hb pl na nw hacc fin;have lt:j<n:=by omega
  refine codeAny_builtin F.entry_sum_loop ?_;rw[Around.under_plainId F.plain_sum_loop _];show wpAny (model prog w) A.in1 (seqItems? (.ref S) >>= fun _=>_) _ _ s;refine zam (wpAny_seqItems hS rfl ?_);show wpAny (model prog w) A.in1 (tryCatch (pyNext (.ref I)) (fun _=>_) >>= fun _=>_) _ _ s;refine zam (wpAny_tryCatch (W.item j s _ _ lt st fun x h1 t1 px st1 k1=>?_));obtain⟨a,rfl,pa⟩:=hv j x px;have hS1:=k1 S _ nSw hS;have hb1:∀b o,h0.get? b=some o->h1.get? b=some o:=fun b o e=>k1 b o (h0n b o e).1 (hb b o e);have pa1:PlainL h1 a (its j).toArray:=plk pa fun o e=>hb1 a o e;have pl1:PlainL h1 acc (cI its j).toArray:=plk pl fun o e=>k1 acc o nw e;have hl2:(cI its (j+1)).length<=sizeLine:=zau (GM its lt) hz;have hl3:(cI its j).length+(its j).length<=sizeLine:=by
   have e:(cI its (j+1)).length=(cI its j).length+(its j).length:=by show(cI its j++its j).length=_;rw[zae]
   omega
  show wpAny (model prog w) A.in1 ((holding [Value.ref a] (binaryOp .Add (.ref acc) (.ref a))).attempt >>= fun _=>_) _ _ _;refine zam (wpAny_attempt (zbT ?_));obtain⟨⟨c1,dd,da1,sl⟩,n1,ho,hc,hdd,hda⟩:=pl1;obtain⟨⟨c2,dd2,da2,sl2⟩,n2,ho2,hc2,hdd2,hda2⟩:=pa1;simp only at hc hda hc2 hda2;subst hc hda hc2 hda2;refine concat_meets ⟨_,ho,rfl⟩ ⟨_,ho2,rfl⟩ noFill_list_add seq_list_add PySem.F.slot_list_add PySem.F.entry_list_add (PySem.F.args_list_add_2 _ _) (list_addW acc a (cI its j).toArray (its j).toArray n1 n2 dd dd2 sl sl2 (by simp only[zai];omega)) ⟨ho,ho2,?_⟩;have ea:(cI its j).toArray++(its j).toArray=(cI its (j+1)).toArray:=by simp[cI]
  rw[ea];have hSl:S<h1.objs.size:=zal hS1;have hS2:(h1.push { cls:=.type "list",data:=.seq (cI its (j+1)).toArray }).get? S=_:=zaf _ hS1;show wpAny (model prog w) A.in1 (updateSeq S (fun _=>#[.ref h1.objs.size]) >>= fun _=>_) _ _ _;refine zam (wpAny_updateSeq hS2 rfl ?_);have hS3:=Heap.get?_update_self (Obj.mapSeq fun _=>#[Value.ref h1.objs.size]) hS2 rfl;refine zam (wpAny_letGo ?_);have keep:∀b o,b≠S->h1.get? b=some o->(((h1.push { cls:=.type "list",data:=.seq (cI its (j+1)).toArray }).update S (Obj.mapSeq fun _=>#[Value.ref h1.objs.size])).update S (Obj.mapSeq fun _=>#[Value.ref h1.objs.size])).get? b=some o:=fun b o q e=>
   (zbz _ _ (Ne.symm q)).trans ((zbz _ _ (Ne.symm q)).trans (zaf _ e))
  have nS:h1.objs.size≠S:=Nat.ne_of_gt hSl;refine zam (wpAny_updateSeq hS3 rfl (zaT ⟨plainId_quiet F.plain_sum_loop _,ih (j+1) _ _ h1.objs.size (by omega) lt (W.frame _ _ _ st1 fun b hb' o e=>keep b o (fun z=>zaw (hSf b hb') z) e) (Heap.get?_update_self _ hS3 rfl) (fun b o e=>keep b o (h0n b o e).2 (hb1 b o e)) ?_ nS (fun z=>?_) (.inr ⟨?_,0,?_⟩) fun a2 h2 t2 g1 g3=>?_⟩))
  ·exact⟨_,0,(zbz _ _ (Ne.symm nS)).trans ((zbz _ _ (Ne.symm nS)).trans (zan _ rfl)),rfl,rfl,rfl⟩
  ·exact zaI _ (Nat.lt_trans (hSf _ (W.sub _ z)) hSl)
  ·exact zaW (zbK h0S hSl)
  ·exact(zbz _ _ (Ne.symm nS)).trans ((zbz _ _ (Ne.symm nS)).trans (zan _ rfl))
  ·exact fin a2 h2 t2 g1 g3
def zQ(a b:Value):argsOk "sum" ⟨[a,b],[]⟩:=by unfold argsOk;kernel_rfl
def uX:isSubtype (.type "list") (.type "bytearray")=pure false:=by rw[isSubtype_type];kernel_rfl
end
section
variable{vs:List V}
def BF(K:zbY)(H:Hp):List V->List (List V)->Prop:=Paired fun v ys=>∃a,v=.ref a/\SqL K H a ys
def LN(K:zbY):List V->Hp->VK->Prop:=fun xs H Q=>∃(p q:Addr) (vs:List V) (yss:List (List V)),xs=[.ref p,.ref q]/\SqL K H p vs/\SqL K H q []/\vs≠[]/\BF K H vs yss/\yss.flatten.length<=sizeLine/\∀r,H r=none->Q (.ref r) (upd H r (.lst yss.flatten))
theorem rA(lss:List (List Value)):∀j,j<=lss.length->cI (fun i=>lss.getD i []) j=(lss.take j).flatten
 |0,_=>by simp[cI]
 |j+1,h=>by
  have hj:j<lss.length:=h;show cI _ j++lss.getD j []=_;rw[rA lss j (zaW hj),List.take_succ_eq_append_getElem hj,List.flatten_append,zbh,zak hj];simp
def Fu(I:Inv X ρ σ H s){vs:List V}{yss:List (List V)}(h:BF X.K H vs yss):∀{its:List Value},Vals vs its ->
  ∃lss:List (List Value),lss.length=its.length/\(∀(i:Nat) v,its[i]?=some v->∃a,v=.ref a/\PlainL s.heap a (lss.getD i []).toArray)/\Vals yss.flatten lss.flatten:=by
 induction h with
 |nil=>
  intro its r;cases r;exact⟨[],rfl,fun i v e=>by simp at e,.nil⟩
 |@cons v ys vr yr hv _ ih=>
  intro its r;cases r with
  |@cons _ u _ ur ru rr=>
   obtain⟨a,rfl,hs⟩:=hv;cases ru;obtain⟨ys',rv,pl,_⟩:=I.list hs;obtain⟨lss,h1,h2,h3⟩:=ih rr;refine⟨ys'::lss,by simp[h1],fun i v e=>?_,?_⟩
   ·cases i with
    |zero=>
     cases e;exact⟨a,rfl,pl⟩
    |succ i=>exact h2 i v (by simpa using e)
   ·rw[List.flatten_cons,List.flatten_cons];exact rv.append h3
def zK(hc:X.calm=true):CallR X (.builtin "sum") (LN X.K):=by
 intro ρ s σ H xs us Q I r h;obtain⟨p,q,vs,yss,rfl,hp,hq,hne,hl,hz,k⟩:=h;obtain⟨u,u2,rfl,ru,ru2⟩:=wB r;cases ru;cases ru2;obtain⟨its,rv,pl,_⟩:=I.list hp;obtain⟨qits,rq,plq,_⟩:=I.list hq;cases rq;obtain⟨lss,g1,g2,g3⟩:=Fu I hl rv;have hlt:p<s.heap.objs.size:=by
  obtain⟨o,n,e,_⟩:=id pl;exact zal e
 have hltq:q<s.heap.objs.size:=by
  obtain⟨o,n,e,_⟩:=id plq;exact zal e
 have hn0:its.toArray.size≠0:=fun z=>by
  have z':its.length=0:=by simpa using z
  have:=rv.length;rw[z']at this;exact hne (za7.mp this)
 have hcat:cI (fun i=>lss.getD i []) its.toArray.size=lss.flatten:=by
  rw[zai,<-g1,rA lss _ (zav _),zaQ]
 have hTq:∀h':Heap,(∀b o,s.heap.get? b=some o->h'.get? b=some o)->∃o,h'.get? q=some o/\o.cls=.type "list":=fun h' k'=>by
  obtain⟨o,n,e,c,_⟩:=plq;exact⟨o,k' _ _ e,c⟩
 refine call_function_tree F.kind_sum F.plain_sum F.entry_sum (zQ _ _) ?_;unfold Builtin.«sum»;simp only[zac,List.length_nil];rw[if_neg (by decide)];refine zam (wpAny_of_eq (show Builtin.Builtins.bindParams "sum" ["start"] 0 { pos:=[Value.ref q],kw:=[] }=pure [some (.ref q)]from rfl) ?_);refine zam (wpAny_pyIter_list pl.isList ?_);refine zam (zaT ?_);simp only[List.forIn_cons,List.forIn_nil];have ty:∀h':Heap,(∀b o,s.heap.get? b=some o->h'.get? b=some o)->∀s':Shared,s'.heap=h'->s'.TypeIs (.ref q) "list":=fun h' k' s' e=>by
  subst e;exact hTq _ k'
 have kp:∀ob:Obj,∀b o,s.heap.get? b=some o->(s.heap.push ob).get? b=some o:=fun ob b o e=>zaf _ e;refine zam (zam (zam (wpAny_isInstance (T:="list") (b:=false) (ty _ (kp _) _ rfl) F.sub_list_str ?_)));simp only[Bool.false_eq_true,if_false];refine zaT (zam (zam (wpAny_isInstance (T:="list") (b:=false) (ty _ (kp _) _ rfl) F.sub_list_bytes ?_)));simp only[Bool.false_eq_true,if_false];refine zaT (zam (zam (wpAny_isInstance (T:="list") (b:=false) (ty _ (kp _) _ rfl) uX ?_)));simp only[Bool.false_eq_true,if_false];refine zaT (zaT ?_);refine zam (wpAny_newObj_type ?_);have Wk:=Walks.list (prog:=X.prog) (w:=X.w) (A:=X.A.in1) (show X.A.in1.handled=none from I.ok.hd hc) s.heap.objs.size p (zaw hlt) its.toArray;refine zaT ⟨plainId_quiet F.plain_sum_loop _,yn (h0:=s.heap) (its:=fun i=>lss.getD i []) Wk ?_ _ ?_ ?_ ?_ ?_ its.toArray.size 0 _ 0 q rfl (zbj _) ?_ (zan _ rfl) ?_ ?_ ?_ ?_ (.inl rfl) ?_⟩
 ·intro i v hv;exact g2 i v (by simpa using hv)
 ·intro b hb;show b<(s.heap.push _).objs.size;rw[zbv];have hb':b=s.heap.objs.size\/b=p:=by simpa using hb
  rcases hb' with rfl|rfl
  ·exact zaJ _
  ·exact Nat.lt_succ_of_lt hlt
 ·show s.heap.objs.size<=(s.heap.push _).objs.size;rw[zbv];exact Nat.le_succ _
 ·intro b hb;have hb':b=s.heap.objs.size:=by simpa using hb
  rw[hb'];exact zav _
 ·rw[hcat];rw[<-g3.length];exact hz
 ·exact⟨⟨_,zaf _ (zan _ rfl),rfl,rfl⟩,(pl.isList.push _).push _⟩
 ·exact fun b o e=>zaf _ (zaf _ e)
 ·exact plk plq fun o e=>zaf _ (zaf _ e)
 ·intro z
  have:q<(s.heap.push { cls:=.type "list_iterator",data:=.fields #[.ref p,rawInt 0] }).objs.size:=by rw[zbv];exact Nat.lt_succ_of_lt hltq
  exact zaw this z
 ·intro z;have z':q=s.heap.objs.size:=by simpa using z
  exact zaw hltq z'
 ·intro a h' tk ha kb;obtain⟨ha',c',e⟩:=ha.elim (fun z=>absurd z hn0) id;rw[hcat]at e;have Hn:H a=none:=I.hok.fresh ha';exact⟨.ref a,upd H a (.lst yss.flatten),I.laid (t':=tk) kb ha' ⟨hz,lss.flatten,c',g3,e⟩,rfl,k a Hn⟩
end
def ka:List D->Option (List (List D))
 |[]=>some []
 |.list ts::r=>(ka r).map (ts::·)
 |_::_=>none
def kI:List D->Option D
 |[.list ts,.list []]=>(ka ts).bind fun ls=>if ts≠[]/\ls.flatten.length<=sizeLine then some (.list ls.flatten)else none
 |_=>none
theorem tq:∀{ts:List D} {vs:List V} {ls:List (List D)},Ows K O H ts 0 vs NoA->ka ts=some ls->∃yss,BF K H vs yss/\Ows K O H ls.flatten 0 yss.flatten NoA/\yss.flatten.length=ls.flatten.length
 |[],_,_,h,hb=>by
  cases hb;cases(show _=[]from h);exact⟨[],.nil,rfl,rfl⟩
 |.list us::r,_,_,h,hb=>by
  obtain⟨v,w,F1,F2,e,_,_,_,h4,h5⟩:=h;obtain⟨bs',h6,h7⟩:=zab.mp hb;subst e h7;obtain⟨yss,g1,g2,g3⟩:=tq (Ows.any0 r h5) h6;obtain⟨a,vs,rfl,fz,ow⟩:=(Ow.any0 (F':=NoA) _ h4).lst0;refine⟨vs::yss,.cons ⟨a,rfl,fz.sq⟩ g1,?_,?_⟩
  ·rw[List.flatten_cons,List.flatten_cons];exact ow.app g2
  ·rw[List.flatten_cons,List.flatten_cons,zae,zae,g3,ow.len]
 |.none::_,_,_,_,hb=>by cases hb
 |.bool _::_,_,_,_,hb=>by cases hb
 |.str _::_,_,_,_,hb=>by cases hb
 |.int _::_,_,_,_,hb=>by cases hb
 |.tuple _::_,_,_,_,hb=>by cases hb
 |.dict _::_,_,_,_,hb=>by cases hb
def m6(hK:X.K=K)(hc:X.calm=true):CallR X (.builtin "sum") (rFn K kI 1):=by
 subst hK;refine(zK hc).imp ?_;rintro xs H Q ⟨O,as,t,oa,hd,hg,k⟩
 match as,hg with
 |[.list ts,.list []],hg=>
  obtain⟨ls,h1,h2⟩:=zaa.mp hg;by_cases hc:ts≠[]/\ls.flatten.length<=sizeLine
  case neg=>rw[if_neg hc]at h2;cases h2
  rw[if_pos hc]at h2;cases h2;obtain⟨x,y,rfl,o1,o2⟩:=oa.two;obtain⟨a,vs,rfl,fz,w⟩:=o1.lst0;obtain⟨b,ws,rfl,fz2,w2⟩:=o2.lst0;cases(show ws=[]from w2);obtain⟨yss,g1,g2,g3⟩:=tq w h1;refine⟨a,b,vs,yss,rfl,fz.sq,fz2.sq,?_,g1,by rw[g3];exact hc.2,fun p hp=>?_⟩
  ·intro z;subst z
   have:=w.len;exact hc.1 (za7.mp this.symm)
  ·obtain⟨n1,n2⟩:=ck hp hd g2;exact k _ _ _ n1 n2
def w4:D->D->Option D
 |.bool a,.bool b=>some (.bool (!(a==b)))
 |_,_=>none
def Ge:OpR X (compareOp .IsNot) (rF2 K w4 3):=by
 intro ρ s σ H x y v u Q I rx ry ⟨O,a,b,t,oa,ob,hd,hg,k⟩;unfold w4 at hg;split at hg
 ·next a b=>
  cases hg;cases(show x=V.bl a from oa);cases(show y=V.bl b from ob);cases rx;cases ry;have q:=k (.bl (!(a==b))) H NoA .refl rfl;exact zaT ⟨.bl (!(a==b)),H,I,by cases a<;>cases b<;>rfl,q⟩
 ·cases hg
section
variable{κ:Type}[DecidableEq κ]{knd:KeyKind prog w κ}  
def oz{d:Addr}{kvs:List (κ×Value)}{k:κ}{dflt:Value}(hkey:knd.is k key=true)(hm:s.heap.DictOf knd d kvs)(hsz:kvs.length<=sizeLine)
  (h1:∀v,valueAt kvs k=some v->Q v { s with toks:=s.toks+1 }) (h2:valueAt kvs k=none->∀h',h'.DictOf knd d (stored kvs k dflt)->Heap.SameBut d s.heap h'->Q dflt { s with heap:=h',toks:=s.toks+1 }):
  wpAny (model prog w) A (dictSetDefault d key dflt) Q E s:=by
 obtain⟨o,es,ep,ho,hc,hd,hk,hp,hn⟩:=hm;have hes:es.size<=sizeLine:=by
  have e1:=hp.length;have e2:es.toList.length=es.size:=by simp
  omega
 unfold dictSetDefault
 try with_reducible refine zbT ?_
 refine zam (knd.pyHash hkey ?_);refine zam (wpAny_dictFind_of (s:={ s with toks:=s.toks+1 }) hkey ho hd hk ?_);have hidx:(es.findIdx? fun e=>knd.is k e.key)=kvs.findIdx? fun kv=>decide (kv.1=k):=by
  rw[<-hp.findIdx k];obtain⟨l⟩:=es;simp
 cases hi:es.findIdx? fun e=>knd.is k e.key with
 |some i=>
  have hl:(es.toList.findIdx? fun e=>knd.is k e.key)=some i:=by
   rw[<-hi];obtain⟨l⟩:=es;simp
  obtain⟨e,he,_,hv⟩:=hp.at hl;have he':es[i]?=some e:=by simpa using he
  refine zam (wpAny_dictEntries (s:={ s with toks:=s.toks+1 }) ho hd ?_);rw[he'];exact zam (wpAny_rule (zaT (h1 e.val hv)))
 |none=>
  have hnot:k∉kvs.map (·.1):=not_mem_of_findIdx_none (hidx▸hi);have hany:¬(kvs.any fun kv=>decide (kv.1=k))=true:=by
   rw[zbQ];rintro⟨kv,hkv,he⟩;exact hnot (zaz.mpr ⟨kv,hkv,of_decide_eq_true he⟩)
  have hv:valueAt kvs k=none:=by
   unfold valueAt;rw[Option.map_eq_none_iff,List.find?_eq_none];intro kv hkv z;exact hnot (zaz.mpr ⟨kv,hkv,of_decide_eq_true z⟩)
  refine zam (wpAny_rule (zam (wpAny_updateDictKeys (hz:=hes) (s:={ s with toks:=s.toks+1 }) ho hd (zaT (h2 hv _ ⟨_,_,ep+1,Heap.get?_update_self _ ho (Obj.isFreed_of_dict (Obj.data_mapDictKeys hd _)),
   hc.mapDictKeys _,Obj.data_mapDictKeys hd _,hk.push hkey _,?_,?_⟩ (Heap.SameBut.update ..))))))
  ·rw[stored,if_neg hany]
   have:=hp.append hkey (knd.hash k) dflt;obtain⟨l⟩:=es;simpa using this
  ·rw[stored,if_neg hany,zaC,List.nodup_append];refine⟨hn,by simp,?_⟩;intro a ha b hb;simp only[zar,za0,zaH]at hb;subst hb;exact fun e=>hnot (e▸ha)
def xb(knd:KeyKind prog w κ){k:κ}(d:Addr)(hkey:knd.is k key=true)(hd:(d==sysModules)=false)(dflt:Value):
  MeetsIn prog w (Builtin.«dict.setdefault» ⟨[.ref d,key,dflt],[]⟩) (fun _ R s=>∃kvs,s.heap.DictOf knd d kvs/\kvs.length<=sizeLine /\
   (∀v,valueAt kvs k=some v->R (.ok (.ret v)) { s with toks:=s.toks+1 }) /\
   (valueAt kvs k=none->∀h',h'.DictOf knd d (stored kvs k dflt)->Heap.SameBut d s.heap h'->R (.ok (.ret dflt)) { s with heap:=h',toks:=s.toks+1 })):=
 .of_wp fun A R s ⟨kvs,hm,hz,h1,h2⟩=>by
  unfold Builtin.«dict.setdefault»;refine zam ?_;unfold Builtin.Dict.keyAndDefault;refine zam (wpAny_notOrdered_dict hm.typeIs ?_);show wpAny _ _ (pure (d,key,some dflt)) _ _ s;refine zaT ?_;show wpAny _ _ (if(d==sysModules)=true then _ else(dictSetDefault d key dflt >>= _)) _ _ s;rw[if_neg (by rw[hd];exact zbn)];exact zam (oz hkey hm hz (fun v hv=>zaT ⟨v,rfl,h1 v hv⟩) fun hn h' hm' hs'=>zaT ⟨dflt,rfl,h2 hn h' hm' hs'⟩)
end
def Ef(td ty tv:TE):TE:=fun σ H Q=>td σ H fun x H1=>∃a,x=.ref a/\IsD H1 a/\ty σ H1 fun y H2=>tv σ H2 fun v H3=>∃kvs k,H3 a=some (.dK kvs)/\y=kV k/\kvs.length<sizeLine /\
 ((∃x,dX kvs k=some x/\Q x H3)\/(dX kvs k=none/\Q v (upd H3 a (.dK (cQ kvs k v)))))
section
variable{o f:Expr}{td ty tx:TE} 
def Fd(ho:PE X o td)(he:PE X e ty)(hf:PE X f tx)(m:M2 X o "setdefault" μ e f ω):PE X (.Call (.Attribute o "setdefault" μ) [e,f] [] ω) (Ef td ty tx):=by
 intro ρ s σ H Q I h;refine wpAny_Call_method m.base m.few m.line PySem.F.plainAttrs_dict PySem.F.slot_dict_setdefault PySem.F.type_dict_setdefault (thn (ho ρ s σ H _ I h) fun u s1 ⟨x,H1,I1,rx,a,ex,d,q1⟩=>?_);subst ex;obtain rfl:u=Value.ref a:=rx;obtain⟨t1,t2,_⟩:=Kp I1 d;refine⟨t1,t2,?_⟩;rw[m.trees];refine Calls.callWith_builtin rfl (Calls.evalArgs_plain (Calls.spliced_cons (thn (he ρ s1 σ H1 _ I1 q1) fun iv s2 ⟨y,H2,I2,ry,q2⟩=>
  Calls.spliced_cons (thn (hf ρ s2 σ H2 _ I2 q2) fun fv s3 ⟨z,H3,I3,rz,kvs,k,e3,ey,hl,q3⟩=>Calls.spliced_nil ?_))))
 subst ey;obtain⟨z1,hd,vs,rel,dd⟩:=sA I3.hok e3;have hz:vs.length<=sizeLine:=by rw[<-rel.length];exact z1
 have hl2:(cQ kvs k z).length<=sizeLine:=by have:=gQ kvs k z;omega
 refine call_meetsIn PySem.F.slot_dict_setdefault dd.typeIs PySem.F.entry_dict_setdefault (PySem.F.args_dict_setdefault_3 _ _ _) (xb (bz X.prog X.w) a (kY ry) hd fv) ⟨vs,dd,hz,fun v hv=>?_,fun hv h' dd' hs=>?_⟩
 ·rcases q3 with⟨x,g1,g2⟩|⟨g1,g2⟩
  ·have r:=rel.val k;rw[g1,hv]at r;exact⟨x,H3,I3.tok _,r,g2⟩
  ·have r:=rel.val k;rw[g1,hv]at r;cases r
 ·rcases q3 with⟨x,g1,g2⟩|⟨g1,g2⟩
  ·have r:=rel.val k;rw[g1,hv]at r;cases r
  ·have he:∃q,h'.get? a=some q:=let⟨q,_,_,hq,_⟩:=dd';⟨q,hq⟩;exact⟨z,_,nj I3 (by rw[e3];exact True.intro) hs he (uC hl2 hd (rel.put k rz) dd'),rz,g2⟩
end
def oW(i:Nat)(fk fe:ME):MS:=fun en=>match (en[i]?).join with
 |some (.dict _)=>(fk en).bind fun q=>(fe q.2).bind fun r=>match (r.2[i]?).join with
  |some (.dict ks)=>(kOf q.1).bind fun _=>if ks.length<sizeLine then(if(ba ks q.1).isSome then some (.nx r.2)else some (.nx (r.2.set i (some (.dict (gg ks q.1 r.1))))))else none
  |_=>none
 |_=>none
section
variable{J:Jd}{ds2:List Nat}{d1:Nat}{fk fe:ME}{Dn:Ends}{k c:Expr}{pos:Pos}
def FS(h0:ds[i]?=some 1)(hd:ds2[i]?=some 1)(h:tFS K J ds ds2 (oW i fk fe) Dn σ H):wH (Ef (fY i) (tF K false ds ds1 d1 fk) (tF K false ds1 ds2 0 fe)) Dn σ H:=by
 obtain⟨Ox,en,R,fl,e,hf,k⟩:=h;unfold oW at hf;split at hf
 case h_2=>cases hf
 next ks0 g0=>
 obtain⟨⟨t1,en1⟩,h1,hf⟩:=zaa.mp hf;obtain⟨⟨t2,en2⟩,h2,hf⟩:=zaa.mp hf
 dsimp only at hf
 split at hf
 case h_2=>cases hf
 next ks g2=>
 obtain⟨q,hq,hf⟩:=zaa.mp hf;by_cases ξ:ks.length<sizeLine
 case neg=>rw[if_neg ξ]at hf;cases hf
 rw[if_pos ξ]at hf;obtain⟨v,d0,a1,a2,a3⟩:=e.at_ i _ (be g0);rw[h0]at a2;cases a2;obtain⟨l0,vs0,el0,hl0,_⟩:=a3.dict1 (by decide);refine⟨v,a1,l0,el0,.inl ⟨_,.inl hl0⟩,two (p1:=false) (p2:=false) e h1 h2 fun x y H2 R2 F1 F2 P o1 o2=>?_⟩;rw[zbk]at P;obtain⟨v',d',b1,b2,b3⟩:=P.env.at_ i _ (be g2);rw[a1]at b1;cases b1;rw[hd]at b2;cases b2;obtain⟨l,vs,el,hl,hr,F',hf',ow⟩:=b3.dict1 (by decide);have ell:l=l0:=by rw[el0]at el;cases el;rfl
 subst ell;have w1:=Ow.letgo P (fun _=>.inr) o2;have eq:=i6 hq o1;subst eq;refine⟨vs,q,hl,rfl,by rw[ow.len];exact ξ,?_⟩;rcases ow.look q with⟨t'',w,c1,c2,c3⟩|⟨c1,c2⟩
 ·left
  refine⟨w,c2,?_⟩;rw[gb hq,c1]at hf;cases hf;exact k σ H2 R2 (P.less fun _ z=>z.elim).s
 ·right
  refine⟨c2,?_⟩;rw[gb hq,c1]at hf;cases hf;have hi:i<en2.length:=(zah.mp (be g2)).1;have gG:∀a,(fun a=>R2 i a) a->R2 i a\/U F1 F2 a:=fun a z=>.inl z;have sub:=kz (i:=i) (R1:=R2) (Ox:=Ox) (G:=fun a=>R2 i a) (F':=NoA) (F:=U F1 F2) gG (fun _ z=>z.elim);have Ol:Own R2 (U (U F1 F2) Ox) l:=.inl ⟨i,hr⟩;have PS:=P.slot (G:=fun a=>R2 i a) (F':=NoA) (o2:=.dK (cQ vs q y)) (t:=.dict (gg ks (kD q) t2)) hr hi a1 hd gG (fun _ z=>z.elim) (fun _ _ z=>z) ?_
  ·exact k σ _ _ PS.s
  refine⟨l,cQ vs q y,el,.inr (.inl ⟨by decide,aI,hr,NoA,fun _ z=>z.elim,?_⟩)⟩;refine Owd.put0 (Owd.past sub Ol (fun _ z=>z.elim) (Owd.any0 ks ow)) ?_;refine Ow.past (O:=Own R2 Ox) (fun a z=>?_) (.inl ⟨i,hr⟩) (fun _ z=>z.elim) w1;rcases z with⟨j,z⟩|z|z
  ·by_cases hj:j=i
   ·rw[if_pos hj]at z;exact .inl ⟨i,z⟩
   ·rw[if_neg hj]at z;exact .inl ⟨j,z⟩
  ·exact z.elim
  ·exact .inr z
def xw(hN:X.N[i]?=some x)(hv:Vis X.env.scope x)(h0:ds[i]?=some 1)(h1:ds2[i]?=some 1)(hk:QE X k (tF K false ds ds1 d1 fk))(hc:QE X c (tF K false ds1 ds2 0 fe))(m:M2 X (.Name x px) "setdefault" μ k c ω)(hdb:(x==("__debug__":Str))=false)(hcd:(x==("__classdict__":Str))=false)
  (hs:swapsWith (.Call (.Attribute (.Name x px) "setdefault" μ) [k,c] [] ω) none pos.line X.env=pure false):QS X (.Expr (.Call (.Attribute (.Name x px) "setdefault" μ) [k,c] [] ω) pos) (tFS K J ds ds2 (oW i fk fe)):=
 ⟨(vR (Fd (cR hN hv hdb hcd) hk.h hc.h m) hs).imp fun _ _ _=>FS h0 h1⟩
end
end L2
namespace PySem
end PySem
namespace PySem
open PySem.SeqAt
end PySem
namespace L2
variable{K:zbY}{p p1 p2:Bool}{ds ds0 ds1 ds2 dps:List Nat}{H:Hp}{σ:St}{d d1 d2 dr i c:Nat}{Q:VK}{f:ME}{fa:MA}{sh:Sh}{F:List D->Option (D×En)}{ζ pos px:Pos}{k:Expr}{x:Str}{ps:List Str}{es:List Expr}
open PySem PySem.Spec PyProof.Rows
def tFk(K:zbY)(ds ds':List Nat)(d i:Nat)(f:En->Option (D×En)):TE:=fun σ H Q=>
 ∃Ox en R t en',EnvOk K ds Ox H σ en R/\f en=some (t,en')/\∀v H' R' F,Post K false ds' Ox σ H en R en' H' R' F->(∀a o,H a=some o->R i a->H' a=some o)->en'[i]?=en[i]?->Ow K (Own R' (U F Ox)) H' t d v F->Q v H'
section
variable{ds':List Nat}{Ox Ox' O O':AS}{H':Hp}{en en' en1 en2:En}{R R':Nat->AS}{d':Nat}{t t1 t2:D}{f1 f2:ME}{QA:List V->Hp->Prop} 
def MF{E:XK}{i0:Nat}(hi0:∀j:Nat,sh[j]?≠some (.inr i0))(hc:dC ds1 sh dps=true)(h:tFk K ds ds1 dr i0 (ar F fa) σ H Q):oT (spF K dps dr F) [] E (tFA K true ds ds1 sh fa) σ H Q:=
 let⟨Ox,en,R,t,en',e,hf,k⟩:=h
 EG hc ⟨Ox,en,R,t,en',e,hf,fun v H' R' F P g o=>
  let⟨g1,g2⟩:=g rfl i0 hi0
  k v H' R' F ⟨P.env,P.fx,P.keep,P.own,P.dom,fun hp=>nomatch hp⟩ g1 g2 o⟩
theorem Ows.at1{K:zbY}{O:AS}{H:Hp}{d:Nat}:∀{ts:List D} {vs:List V} {F:AS} {k:Nat} {u:D} {x:V},Ows K O H ts d vs F->ts[k]?=some u->vs[k]?=some x->∃F1:AS,(∀b,F1 b->F b)/\Ow K O H u d x F1
 |[],_,_,k,u,_,_,h,_=>by simp at h
 |t::ts,_,F,k,u,x,h,hk,hx=>by
  obtain⟨v,r,F1,F2,e,s1,s2,s3,h4,h5⟩:=h;subst e;cases k with
  |zero=>
   have e1:t=u:=by simpa using hk
   have e2:v=x:=by simpa using hx
   subst e1 e2;exact⟨F1,s1,h4⟩
  |succ k=>
   obtain⟨G,g1,g2⟩:=Ows.at1 (k:=k) h5 (by simpa using hk) (by simpa using hx);exact⟨G,fun b z=>s2 b (g1 b z),g2⟩
theorem Ow.pathKeep{K:zbY}{O:AS}{H H':Hp}:∀{π:List Nat} {t u:D} {d:Nat} {v w:V} {F:AS},Ow K O H t d v F->cN t π=some u->dns π.length d≠0->(∀a o,H a=some o->F a->H' a=some o)->PathV H v π w->PathV H' v π w
 |[],_,_,_,_,_,_,_,_,_,_,h=>h
 |k::π,t,u,d,v,w,F,h,hp,hz,hk,⟨a,vs,x,e,g1,g2,g3⟩=>by
  have hz1:dns π.length (dn d)≠0:=hz;have hd0:d≠0:=zH (m:=π.length+1) hz;subst e;cases t with
  |list ts=>
   obtain⟨c,p1,p2⟩:=zaa.mp hp;obtain⟨a',vs',e,⟨h0,_⟩|⟨_,h1,h2,F',hf,h3⟩⟩:=h
   ·exact absurd h0 hd0
   cases e;have ev:vs=vs':=by
    rcases g1 with g1|g1<;>rw[h1]at g1<;>cases g1
    rfl
   subst ev;obtain⟨F1,s1,s2⟩:=h3.at1 p1 g2;exact⟨a,vs,x,rfl,.inl (hk a _ h1 h2),g2,s2.pathKeep p2 hz1 (fun b o q z=>hk b o q (hf b (s1 b z)).1) g3⟩
  |tuple ts=>
   obtain⟨c,p1,p2⟩:=zaa.mp hp;obtain⟨a',vs',e,⟨h0,_⟩|⟨_,h1,h2,F',hf,h3⟩⟩:=h
   ·exact absurd h0 hd0
   cases e;have ev:vs=vs':=by
    rcases g1 with g1|g1<;>rw[h1]at g1<;>cases g1
    rfl
   subst ev;obtain⟨F1,s1,s2⟩:=h3.at1 p1 g2;exact⟨a,vs,x,rfl,.inr (hk a _ h1 h2),g2,s2.pathKeep p2 hz1 (fun b o q z=>hk b o q (hf b (s1 b z)).1) g3⟩
  |_=>cases hp
end
section
variable{X:Cx}{J:Jd}{m:Nat}{fk fe:ME}{mp:MP}{e b o:Expr} 
def A2{D:Ends}(hd1:ds1[i]?=some d)(hd:ds2[i]?=some d)(hz:dns m d≠0)(hc:dn (dns m d)=c)(h:tFS K J ds ds2 (kJ i mp fk fe) D σ H):
  lZ (tF K p ds ds0 c fe) (xu (tP K p1 ds0 ds1 i m mp) (tFk K ds1 ds2 d2 i fk) sn) D σ H:=by
 obtain⟨Ox,en,R,fl,e,hf,k⟩:=h;unfold kJ at hf;obtain⟨⟨t1,en1⟩,h1,hf⟩:=zaa.mp hf;obtain⟨⟨π,en2⟩,h2,hf⟩:=zaa.mp hf;obtain⟨⟨t3,en3⟩,h3,hf⟩:=zaa.mp hf
 dsimp only at hf
 split at hf
 case h_2=>cases hf
 next n t h4=>
 obtain⟨u,h5,hf⟩:=zaa.mp hf;cases u with
 |list ts=>
  obtain⟨kk,h6,hf⟩:=zab.mp hf;cases hf;refine⟨Ox,en,R,t1,en1,e,h1,fun x H1 R1 F1 P1 o1=>?_⟩;refine⟨U F1 Ox,en1,R1,π,en2,P1.env,h2,fun v w H2 R2 P2 hl hv pv=>?_⟩;have P12:=P1.trans P2;have o12:=Ow.over P1.env P2 o1;have e0:U F1 NoA=F1:=fH fun a=>⟨fun z=>z.elim id fun z=>z.elim,.inl⟩;rw[e0]at P12 o12;refine⟨U F1 Ox,en2,R2,.int n,en3,P12.env,h3,fun y H3 R3 F3 P3 kp ei o3=>?_⟩;have P:=P12.trans P3;have o1':=Ow.over P12.env P3 o12;have ey:y=.int n:=o3;subst ey;subst hl;have pv3:PathV H3 v π w:=by
   obtain⟨v',d',b1,b2,b3⟩:=P12.env.at_ i t (by rw[<-ei];exact be h4);rw[hv]at b1;cases b1;rw[hd1]at b2;cases b2;exact b3.pathKeep h5 hz kp pv
  obtain⟨l,vs,G1,el,hl1,hr,hf1,ow,fin⟩:=P.place (be h4) hv hd h5 hz pv3;subst el;refine⟨l,vs,n,kk,rfl,rfl,hl1,by rw[ow.len];exact h6,?_⟩;have Fn:∀a,F1 a->a≠l:=fun a z z2=>by
   subst z2;exact P.env.dx i a hr (.inl (.inl z))
  have Ol:Own R3 (U (U F1 F3) Ox) l:=.inl ⟨i,hr⟩;obtain⟨R',PF⟩:=fin (ts.set kk t1) (vs.set kk x) (U G1 F1) (fun _ z=>z.imp id .inl) fun O' ho=>by
   refine Ows.setAt (Ows.past ho Ol (fun b z=>(hf1 b z).2) ow) ?_ fun b z1 z2=>P.env.dx i b (hf1 b z1).1 (.inl (.inl z2));rw[hc];exact Ow.past ho Ol Fn o1'
  exact k σ _ _ PF.s
 |_=>cases hf
def y8(hd1:ds1[i]?=some d)(hd:ds2[i]?=some d)(he:PE X e (tF K p ds ds0 c fe))(ho:PE X o (tP K p1 ds0 ds1 i m mp))(hk:PE X k (tFk K ds1 ds2 d2 i fk))(hz:dns m d≠0)(hc:dn (dns m d)=c)
  (ha:∀v,assign (.Subscript o k ζ) X.env v=(do
   let ov <-holding [v] (eval o X.env);let iv <-holding [v,ov] (eval k X.env)
   standAt ζ
   holding [v,ov,iv] (setItem ov iv v)
   release [v,ov,iv] []))
  (hs:swapsWithSole [.Subscript o k ζ] e pos.line X.env=pure false) (hw:swappedStores [.Subscript o k ζ] e X.env=pure none)
  (h2:(assignEach [.Subscript o k ζ] X.env).map (·.2)=[assign (.Subscript o k ζ) X.env]):
  PS X (.Assign [.Subscript o k ζ] e pos) (tFS K J ds ds2 (kJ i mp fk fe)):=
 (oZ he (tf ho hk ou ha) hs hw h2).imp fun _ _ _=>A2 hd1 hd hz hc
def K4{k:Nat}(G:Kn X.prog X.w X.K X.mg X.base k x ps (spF K dps dr F))(hr:Room k X.A)(hg:Gl X x)(ha:PA X (e::es) (tFA K true ds ds1 sh fa))(hi:∀j:Nat,sh[j]?≠some (.inr i))(hcd:dC ds1 sh dps=true)(hdb:(x==("__debug__":Str))=false)
  (he:bc e=true) (hpl:es.all bc=true):
  PE X (.Call (.Name x px) (e::es) [] pos) (tFk K ds ds1 dr i (ar F fa)):=(wT G hr hg ha hdb (dg he) (gD hpl)).imp fun _ _ _ h=>MF hi hcd h
def AA(h:sh.all (fun z=>match z with|.inl _=>true|.inr j=>j != i)=true):∀j:Nat,sh[j]?≠some (.inr i):=fun j z=>by
 have:=List.all_eq_true.mp h _ (zaX z);simp at this
def vp(hd1:ds1[i]?=some d)(hd:ds2[i]?=some d)(he:QE X e (tF K p ds ds0 c fe))(ho:QE X o (tP K p1 ds0 ds1 i m mp))(hk:QE X k (tFk K ds1 ds2 d2 i fk))(hz:dns m d≠0)(hc:dn (dns m d)=c)
  (ha:∀v,assign (.Subscript o k ζ) X.env v=(do
   let ov <-holding [v] (eval o X.env);let iv <-holding [v,ov] (eval k X.env)
   standAt ζ
   holding [v,ov,iv] (setItem ov iv v)
   release [v,ov,iv] []))
  (hs:swapsWithSole [.Subscript o k ζ] e pos.line X.env=pure false) (hw:swappedStores [.Subscript o k ζ] e X.env=pure none)
  (h2:(assignEach [.Subscript o k ζ] X.env).map (·.2)=[assign (.Subscript o k ζ) X.env]):
  QS X (.Assign [.Subscript o k ζ] e pos) (tFS K J ds ds2 (kJ i mp fk fe)):=⟨y8 hd1 hd he.h ho.h hk.h hz hc ha hs hw h2⟩
def Bh{k:Nat}(G:Kn X.prog X.w X.K X.mg X.base k x ps (spF K dps dr F))(hr:Room k X.A)(hg:Gl X x)(ha:QA X (e::es) (tFA K true ds ds1 sh fa))(hi:∀j:Nat,sh[j]?≠some (.inr i))(hcd:dC ds1 sh dps=true)(hdb:(x==("__debug__":Str))=false)
  (he:bc e=true) (hpl:es.all bc=true):
  QE X (.Call (.Name x px) (e::es) [] pos) (tFk K ds ds1 dr i (ar F fa)):=⟨K4 G hr hg ha.h hi hcd hdb he hpl⟩
end
end L2
namespace W33
noncomputable section
variable{k:Nat}
open PySem L2
def top(i:Nat):Stmt:=PySem.Challenge.pw_wordrules_k33_what_is_a_shortest.main.body.getD i (.Pass ⟨0,0,0,0⟩)
structure Bl(mg:Str->Option Value):Prop where
 abs0:mg "abs"=none
 all0:mg "all"=none
 bool0:mg "bool"=none
 enumerate0:mg "enumerate"=none
 int0:mg "int"=none
 isinstance0:mg "isinstance"=none
 len0:mg "len"=none
 list0:mg "list"=none
 max0:mg "max"=none
 range0:mg "range"=none
 repr0:mg "repr"=none
 sorted0:mg "sorted"=none
 str0:mg "str"=none
 sum0:mg "sum"=none
 tuple0:mg "tuple"=none
section
variable{P:Program}{w:World}{K:zbY}{mg:Str->Option Value}{base:Heap}{f:Addr}{fd:FuncData}
abbrev mH:Stmt:=top 21
abbrev zX:List Str:=["_law_script","_law_first"]
def wN:FnScope zX ["_law_script","_law_first"] (aq mH):=fsc
def io:MS:=(ay (e7 [((eC (.str "script")),(ad 0)),((eC (.str "at")),(ad 1)),((eC (.str "left")),(eC (.int 0)))]))
def cL:List D->Option (D×En):=fnF 0 [0,0] io
abbrev jV:Stmt:=top 22
abbrev vA:List Str:=["_law_cell","_law_k","_law_one","_law_two"]
def sS:FnScope vA ["_law_cell","_law_k"] (aq jV):=fsc
def hZ:MS:=(ak (au 2 (e2 bU (e2 cA (e2 bh (e2 bh (e2 bU (ad 0) (eC (.int 2147483629))) (e2 cA (eC (.int 40503)) (ad 1))) (eC (.int 24691))) (eC (.int 48271))) (eC (.int 2147483647))))
 (ak (au 3 (e2 bU (e2 bh (e2 bh (e2 cA (ad 2) (ad 2)) (e2 cA (eC (.int 69621)) (ad 2))) (ad 1)) (eC (.int 2147483629))))
 (ay (e2 eo (e2 bU (e2 bh (e2 bh (e2 cA (ad 3) (ad 3)) (e2 cA (eC (.int 16807)) (ad 3))) (e2 cA (eC (.int 31)) (ad 1))) (eC (.int 1073741789))) (eC (.int 64))))))
def dA:List D->Option (D×En):=fnF 2 [0,0] hZ
abbrev lx:Stmt:=top 23
abbrev xO:List Str:=["_law_pen_here","_law_most","_law_k","_law_script","_law_cell","_law_got"]
def u3:FnScope xO ["_law_pen_here","_law_most"] (aq lx):=fsc
def lF:MS:=(ak (au 2 (bG 0 (eC (.str "at"))))
 (ak (au 3 (bG 0 (eC (.str "script"))))
 (ak (sIf (tV (e2 eqD (bG 0 (eC (.str "left"))) (eC (.int 0)))) (ak (cV 0 (eC (.str "at")) (e2 bh (ad 2) (eC (.int 1))))
 (ak (au 4 (eC (.int 0)))
 (ak (sIf (tV (e2 gtI (eN aK (ac (ad 3) ag)) (eC (.int 0)))) (au 4 (e2 ixA (ad 3) (e2 bU (ad 2) (eN aK (ac (ad 3) ag))))) aW)
 (ak (sIf (bOr (tV (e2 geI (ad 2) (eN aK (ac (ad 3) ag)))) (tV (e2 ltI (eN mC (ac (ad 4) ag)) (e2 l5 (eC (.int 10)) (eC (.int 18)))))) (ay (e2 bU (ar dA (ac (ad 4) (ac (ad 2) ag))) (ad 1))) aW)
 (cV 0 (eC (.str "left")) (eN mC (ac (ad 4) ag))))))) aW)
 (ak (au 5 (e2 bU (bG 0 (eC (.str "left"))) (ad 1)))
 (ak (cV 0 (eC (.str "left")) (e2 eo (bG 0 (eC (.str "left"))) (ad 1)))
 (ay (ad 5)))))))
def ax:List D->Option (D×En):=fnF 4 [1,0] lF
abbrev jU:Stmt:=top 24
abbrev vz:List Str:=["_law_pen_here"]
def sR:FnScope vz ["_law_pen_here"] (aq jU):=fsc
def j2:MS:=(ay (e2 ixA (aw (ac (eC (.int 2)) (ac (eC (.int 1)) (ac (eC (.int 3)) (ac (eC (.int 2)) (ac (eC (.int 4)) (ac (eC (.int 3)) (ac (eC (.int 2)) (ac (e2 bh (eC (.int 5)) (ar ax (aD 0 (ac (eC (.int 8)) ag)))) ag))))))))) (ar ax (aD 0 (ac (eC (.int 8)) ag)))))
def cK:List D->Option (D×En):=fnF 0 [1] j2
abbrev lB:Stmt:=top 25
abbrev xR:List Str:=["_law_pen_here","_law_stand","_law_stands_here","_law_way","_law_goal_here"]
def u7:FnScope xR ["_law_pen_here","_law_stand","_law_stands_here","_law_way"] (aq lB):=fsc
def gC:MS:=(ak (au 4 (ar ax (aD 0 (ac (e2 bh (ad 2) (eC (.int 1))) ag))))
 (ak (sIf (bOr (tV (e2 eqD (ad 4) (ad 2))) (cZ (tV (e2 eqD (ad 3) (eC (.int 1)))) (tV (e2 leI (ad 4) (ad 1))))) (ay (eC .none)) aW)
 (ay (ad 4))))
def cz:List D->Option (D×En):=fnF 1 [1,0,0,0] gC
abbrev dP:Stmt:=top 26
abbrev iF:List Str:=["_law_pen_here","_law_signs_here","_law_most","_law_stands_here","_law_way","_law_fence","_law_ends","_law_goes","_law_stand","_law_row"]
def qw:FnScope iF ["_law_pen_here","_law_signs_here","_law_most"] (aq dP):=fsc
def qc:ME:=(ar cz (aD 1 (ac (ad 4) (ac (ad 2) (ac (ad 3) ag)))))
def qb:ME:=(e2 ixA (aw (ac (ad 0) (ac (eC .none) ag))) (eN kZ (ac (eOr (e2 isN (ad 0) (eC .none)) (e2 geI (ad 0) (ad 1))) ag)))
def pZ:MS:=(ak (cG (cF 6 (e2 eqD (ar ax (aD 0 (ac (eC (.int 3)) ag))) (eC (.int 0)))))
 (ak (au 9 (eLC false (bS (ac (ad 1) ag)) (gN 0) cY qc [none,some 0,some 3,some 4,some 8]))
 (ak (sIf (cZ (tV (e2 eqD (ad 4) (eC (.int 2)))) (tV (e2 ltI (ad 8) (ad 5)))) (ak (eX 6 (ad 8) (eC (.bool false)))
 (au 9 (eLC true (bi (ad 9)) (gN 0) cY qb [none,some 5]))) aW)
 (cG (cF 7 (ad 9))))))
def fJ:MS:=(ak (au 3 (e2 bh (eC (.int 1)) (ar ax (aD 0 (ac (ad 2) ag)))))
 (ak (au 4 (ar ax (aD 0 (ac (eC (.int 4)) ag))))
 (ak (au 5 (e2 bh (eC (.int 1)) (ar ax (aD 0 (ac (ad 3) ag)))))
 (ak (au 6 (aw ag))
 (ak (au 7 (aw ag))
 (ak (bT (bS (ac (ad 3) ag)) (gN 8) pZ)
 (ay (bj (ac (ad 6) (ac (ad 7) ag))))))))))
def bZ:List D->Option (D×En):=fnF 7 [1,0,0] fJ
abbrev fw:Stmt:=top 28
abbrev jW:List Str:=["_law_machine_here","_law_most","_law_lists_here","_law_ahead"]
def sQ:FnScope jW ["_law_machine_here","_law_most"] (aq fw):=fsc
def lT:ME:=(eN kZ (ac (ad 0) ag))
def rX:MT:=(tV (e2 i9 (ad 0) (eC .none)))
def sf:ME:=(e2 ixA (ad 1) (ad 0))
def iG:ME:=(eN Al (ac (eLC true (bi (ad 0)) (gN 0) rX sf [none,some 1]) ag))
def lP:MS:=(ak (au 3 (fj 2 (e1 ca (eC (.int 1)))))
 (cG (cF 2 (eLC true (bi (e2 ixA (ad 0) (eC (.int 1)))) (gN 0) cY iG [none,some 3]))))
def lK:MT:=(tV (e2 leI (eN aK (ac (ad 2) ag)) (ad 1)))
def om:MS:=(ak (au 2 (aw (ac (eLC true (bi (e2 ixA (ad 0) (eC (.int 0)))) (gN 0) cY lT [none]) ag)))
 (ak (cP lK lP)
 (ay (ad 2))))
def dU:List D->Option (D×En):=fnF 2 [0,0] om
abbrev fU:Stmt:=top 31
abbrev jH:List Str:=["_law_machine_here","_law_rows","_law_wait","_law_at","_law_here","_law_number","_law_goal_here","_law_ends","_law_longest","_law_layers","_law_size"]
def wO:FnScope jH ["_law_machine_here"] (aq fU):=fsc
def fy:MS:=(sIf (cZ (tV (e2 i9 (ad 6) (eC .none))) (tV (e2 ik (ad 6) (ad 1)))) (ak (cV 1 (ad 6) (e2 aV (bG 1 (ad 4)) (aw (ac (ad 5) ag))))
 (cG (cF 2 (ad 6)))) aW)
def jY:MS:=(ak (au 4 (fj 2 (ad 3)))
 (ak (bT (ic (ac (e2 ixA (e2 ixA (ad 0) (eC (.int 1))) (ad 4)) ag)) (gT (gsC (gN 5) (gsC (gN 6) gs0))) fy)
 (au 3 (e2 bh (ad 3) (eC (.int 1))))))
def gU:MT:=(tV (e2 ltI (ad 3) (eN aK (ac (ad 2) ag))))
def nJ:MT:=(tV (e2 ixA (e2 ixA (ad 1) (eC (.int 0))) (ad 0)))
def hU:ME:=(ad 0)
def n8:ME:=(eN aK (ac (bG 1 (ad 0)) ag))
def nI:MT:=(tV (e2 eqD (eN aK (ac (bG 1 (ad 0)) ag)) (ad 2)))
def jX:MS:=(cG (cF 9 (eN sj (ac (eLC true (bi (ad 2)) (gN 0) nI hU [none,some 1,some 10]) ag))))
def rL:MS:=(ak (au 1 (e7 [((eC (.int 0)),(aw ag))]))
 (ak (au 2 (aw (ac (eC (.int 0)) ag)))
 (ak (au 3 (eC (.int 0)))
 (ak (cP gU jY)
 (ak (au 7 (eLC true (bi (ad 2)) (gN 0) nJ hU [none,some 0]))
 (ak (au 8 (eN xc (ac (eLC true (bi (ad 2)) (gN 0) cY n8 [none,some 1]) ag)))
 (ak (sIf (tV (e2 neD (ad 7) (aw ag))) (au 8 (eN aK (ac (bG 1 (e2 ixA (ad 7) (eC (.int 0)))) ag))) aW)
 (ak (au 9 (aw ag))
 (ak (bT (bS (ac (e2 bh (ad 8) (eC (.int 1))) ag)) (gN 10) jX)
 (ak (sIf (tV (e2 eqD (ad 7) (aw ag))) (ay (bj (ac (eC (.str "none")) (ac (ad 9) ag)))) aW)
 (ay (bj (ac (eC (.str "row")) (ac (bG 1 (e2 ixA (ad 7) (eC (.int 0)))) (ac (ad 9) ag)))))))))))))))
def fX:List D->Option (D×En):=fnF 10 [0] rL
abbrev iC:Stmt:=top 37
abbrev rZ:List Str:=["_law_pen_here","_law_layers","_law_got","_law_at","_law_some","_law_more"]
def qv:FnScope rZ ["_law_pen_here","_law_layers"] (aq iC):=fsc
def jK:MS:=(ak (au 5 (e2 aV (e2 kK (ad 4) (e1 ca (eC (.int 1)))) (eSl bF (ad 4) bq (bn (eC (.int 1))))))
 (ak (sIf (cZ (tV (e2 gtI (ad 3) (eC (.int 0)))) (tV (e2 eqD (ar ax (aD 0 (ac (eC (.int 2)) ag))) (eC (.int 0))))) (au 5 (e2 aV (ad 5) (e2 ixA (ad 1) (ar ax (aD 0 (ac (ad 3) ag)))))) aW)
 (cG (cF 2 (ad 5)))))
def lW:MS:=(ak (au 2 (aw ag))
 (ak (bT (ic (ac (eSl bF (ad 1) bq (bn (e1 ca (eC (.int 1))))) ag)) (gT (gsC (gN 3) (gsC (gN 4) gs0))) jK)
 (ay (e2 aV (ad 2) (aw (ac (e2 aV (e2 ixA (ad 1) (e1 ca (eC (.int 1)))) (eSl bF (e2 ixA (ad 1) (e1 ca (eC (.int 1)))) bq (bn (eC (.int 1))))) ag))))))
def de:List D->Option (D×En):=fnF 4 [1,0] lW
abbrev ji:Stmt:=top 36
abbrev uR:List Str:=["_law_machine_here","_law_start","_law_goals","_law_rows","_law_seen","_law_at","_law_stand","_law_row","_law_number","_law_goal_here"]
def rO:FnScope uR ["_law_machine_here","_law_start","_law_goals"] (aq ji):=fsc
def dF:MS:=(sIf (cZ (tV (e2 i9 (ad 9) (eC .none))) (tV (e2 ik (ad 9) (ad 4)))) (ak (cV 4 (ad 9) (eC (.bool true)))
 (cG (cF 3 (bj (ac (ad 9) (ac (e2 aV (ad 7) (aw (ac (ad 8) ag))) ag)))))) aW)
def kA:MS:=(ak (ir (fj 3 (ad 5)) (gT (gsC (gN 6) (gsC (gN 7) gs0))))
 (ak (sIf (tV (e2 inL (ad 6) (ad 2))) (ay (ad 7)) aW)
 (ak (bT (ic (ac (e2 ixA (e2 ixA (ad 0) (eC (.int 1))) (ad 6)) ag)) (gT (gsC (gN 8) (gsC (gN 9) gs0))) dF)
 (au 5 (e2 bh (ad 5) (eC (.int 1)))))))
def gM:MT:=(tV (e2 ltI (ad 5) (eN aK (ac (ad 3) ag))))
def mW:MS:=(ak (au 3 (aw (ac (bj (ac (ad 1) (ac (aw ag) ag))) ag)))
 (ak (au 4 (e7 [((eS3 (ad 1)),(eC (.bool true)))]))
 (ak (au 5 (eC (.int 0)))
 (ak (cP gM kA)
 (ay (eC .none))))))
def eR:List D->Option (D×En):=fnF 7 [0,0,0] mW
abbrev dO:Stmt:=top 38
abbrev iE:List Str:=["_law_pen_here","_law_machine_here","_law_due_here","_law_layers","_law_got","_law_ends","_law_shut"]
def qu:FnScope iE ["_law_pen_here","_law_machine_here"] (aq dO):=fsc
def jF:MT:=(tV (e2 ixA (e2 ixA (ad 1) (eC (.int 0))) (ad 0)))
def gy:ME:=(ad 0)
def jE:MT:=(tV (e2 isN (ar eR (ac (ad 1) (ac (ad 0) (ac (ad 2) ag)))) (eC .none)))
def lV:MS:=(ak (au 2 (ar fX (ac (ad 1) ag)))
 (ak (au 3 (e2 ixA (ad 2) (e1 ca (eC (.int 1)))))
 (ak (au 4 (aw (ac (ad 2) (ac (e2 lj (eSl jD (ad 2) bq (bn (e1 ca (eC (.int 1))))) (bj (ac (ar de (aD 0 (ac (ad 3) ag))) ag))) ag))))
 (ak (sIf (tV (e2 eqD (eN aK (ac (ad 2) ag)) (eC (.int 2)))) (ak (cG (cF 4 (bj (ac (eC (.str "none")) (ac (aw (ac (eN kI (ac (ad 3) (ac (aw ag) ag))) ag)) ag)))))
 (ak (cG (cF 4 (bj (ac (eC (.str "none")) (ac (aw (ac (eN kI (ac (ad 3) (ac (aw ag) ag))) (ac (aw ag) (ac (e2 ixA (ad 3) (e1 ca (eC (.int 1)))) ag)))) ag)))))
 (ay (ad 4)))) aW)
 (ak (au 5 (eLC true (bS (ac (eN aK (ac (e2 ixA (ad 1) (eC (.int 0))) ag)) ag)) (gN 0) jF gy [none,some 1]))
 (ak (au 6 (eLC true (bS (ac (eN aK (ac (e2 ixA (ad 1) (eC (.int 0))) ag)) ag)) (gN 0) jE gy [none,some 1,some 5]))
 (ay (e2 aV (ad 4) (aw (ac (e2 lj (eSl jD (ad 2) bq (bn (e1 ca (eC (.int 1))))) (bj (ac (e2 aV (aw (ac (e2 aV (e2 ixA (ad 3) (eC (.int 0))) (ad 6)) ag)) (eSl bF (ad 3) (bn (eC (.int 1))) bq)) ag))) ag))))))))))
def db:List D->Option (D×En):=fnF 5 [1,0] lV
abbrev iQ:Stmt:=top 27
abbrev pX:List Str:=["_law_pen_here","_law_signs_here","_law_many","_law_goes","_law_stand","_law_row"]
def u4:FnScope pX ["_law_pen_here","_law_signs_here"] (aq iQ):=fsc
def mR:MS:=(ak (au 5 (e2 w6 (aw (ac (eC .none) ag)) (ad 1)))
 (ak (eX 5 (ar ax (aD 0 (ac (ad 1) ag))) (e2 bU (e2 bh (ad 4) (eC (.int 1))) (e2 dH (ad 2) (eC (.int 1)))))
 (cG (cF 3 (eMv 5)))))
def mU:ME:=(e2 eqD (ad 0) (e2 dH (ad 1) (eC (.int 1))))
def qh:MS:=(ak (au 2 (e2 bh (eC (.int 2)) (ar ax (aD 0 (ac (eC (.int 7)) ag)))))
 (ak (au 3 (aw ag))
 (ak (bT (bS (ac (ad 2) ag)) (gN 4) mR)
 (ak (kJ 3 (pIx 3 (oE 3) (ar ax (aD 0 (ac (e2 dH (ad 2) (eC (.int 1))) ag)))) (ar ax (aD 0 (ac (ad 1) ag))) (e2 dH (ad 2) (eC (.int 1))))
 (ak (eX 3 (e2 dH (ad 2) (eC (.int 1))) (e2 w6 (aw (ac (eC .none) ag)) (ad 1)))
 (ay (bj (ac (eLC true (bS (ac (ad 2) ag)) (gN 0) cY mU [none,some 2]) (ac (ad 3) ag)))))))))
def fg:List D->Option (D×En):=fnF 4 [1,0] qh
abbrev gY:Stmt:=top 39
abbrev nX:List Str:=["_law_pen_here","_law_machine_here","_law_some","_law_at","_law_held","_law_things","_law_got"]
def sT:FnScope nX ["_law_pen_here","_law_machine_here","_law_some"] (aq gY):=fsc
def iH:ME:=(e2 aV (e2 aV (eSl bF (ad 1) bq (bn (ad 2))) (aw (ac (ad 0) ag))) (eSl bF (ad 1) (bn (e2 bh (ad 2) (eC (.int 1)))) bq))
def on:MS:=(ak (au 3 (ar ax (aD 0 (ac (eN su (ac (eC (.int 1)) (ac (eN aK (ac (ad 2) ag)) ag))) ag))))
 (ak (au 4 (ar ax (aD 0 (ac (eN aK (ac (e2 ixA (ad 1) (eC (.int 0))) ag)) ag))))
 (ak (au 5 (aw (ac (eC .none) (ac (e1 ca (eC (.int 1))) (ac (eC (.int 0)) (ac (eC (.bool true)) (ac (eC (.bool false)) (ac (eC (.str "0")) (ac (e2 l5 (eC (.int 10)) (eC (.int 60))) (ac (eN aK (ac (e2 ixA (ad 1) (eC (.int 0))) ag)) (ac (eN aK (ac (e2 ixA (e2 ixA (ad 1) (eC (.int 1))) (eC (.int 0))) ag)) (ac (ad 4) (ac (aw (ac (eC (.int 0)) ag)) ag)))))))))))))
 (ak (au 6 (eLC true (bi (ad 5)) (gN 0) cY iH [none,some 2,some 3]))
 (ak (au 6 (e2 aV (ad 6) (aw (ac (e2 aV (eSl bF (ad 2) bq (bn (ad 3))) (eSl bF (ad 2) (bn (e2 bh (ad 3) (eC (.int 1)))) bq)) (ac (e2 aV (ad 2) (aw (ac (ad 4) ag))) (ac (e2 aV (ad 2) (aw (ac (eC (.int 0)) ag))) (ac (e2 aV (ad 2) (aw (ac (eC (.bool true)) ag))) (ac (e2 kK (ad 2) (e1 ca (eC (.int 1)))) (ac (eN qm (ac (ad 2) ag)) (ac (aw ag) ag))))))))))
 (ay (e2 aV (ad 6) (aw (ac (eC .none) (ac (eC (.int 0)) (ac (eC (.str "0")) (ac (e7 [((eC (.int 0)),(eC (.int 0)))]) (ac (aw (ac (ad 2) ag)) ag)))))))))))))
def cM:List D->Option (D×En):=fnF 4 [1,0,0] on
abbrev fc:Stmt:=top 40
abbrev iS:List Str:=["_law_pen_here","_law_machine_here","_law_thing","_law_layers","_law_at","_law_other","_law_swapped","_law_some","_law_got","_law_word"]
def u8:FnScope iS ["_law_pen_here","_law_machine_here","_law_thing"] (aq fc):=fsc
def jv:ME:=(e2 aV (e2 aV (eSl bF (ad 1) bq (bn (ad 2))) (aw (ac (ad 0) ag))) (eSl bF (ad 1) (bn (e2 bh (ad 2) (eC (.int 1)))) bq))
def ju:ME:=(e2 lj (eSl jD (ad 1) bq (bn (e1 ca (eC (.int 1))))) (bj (ac (ad 0) ag)))
def jr:ME:=(bj (ac (eC (.str "row")) (ac (ad 0) (ac (ad 1) ag))))
def jp:MS:=(cG (cF 8 (e2 lj (bj (ac (ad 9) ag)) (eSl jD (ad 2) (bn (eC (.int 1))) bq))))
def qk:MS:=(ak (au 3 (e2 ixA (ad 2) (e1 ca (eC (.int 1)))))
 (ak (au 4 (ar ax (aD 0 (ac (eN aK (ac (ad 3) ag)) ag))))
 (ak (au 5 (ar ax (aD 0 (ac (eN aK (ac (ad 3) ag)) ag))))
 (ak (au 6 (eN gP (ac (ad 3) ag)))
 (ak (ir (bj (ac (e2 ixA (ad 3) (ad 5)) (ac (e2 ixA (ad 3) (ad 4)) ag))) (gT (gsC (gS 6 4) (gsC (gS 6 5) gs0))))
 (ak (au 7 (eLC true (bi (ar cM (aD 0 (ac (ad 1) (ac (e2 ixA (ad 3) (ad 4)) ag))))) (gN 0) cY jv [none,some 3,some 4]))
 (ak (au 7 (e2 aV (ad 7) (aw (ac (e2 aV (eSl bF (ad 3) bq (bn (ad 4))) (eSl bF (ad 3) (bn (e2 bh (ad 4) (eC (.int 1)))) bq)) (ac (e2 aV (e2 aV (eSl bF (ad 3) bq (bn (ad 4))) (aw (ac (e2 ixA (ad 3) (ad 4)) ag))) (eSl bF (ad 3) (bn (ad 4)) bq)) (ac (ad 6) (ac (e2 kK (ad 3) (e1 ca (eC (.int 1)))) ag)))))))
 (ak (au 7 (e2 aV (ad 7) (aw (ac (e2 aV (ad 3) (aw (ac (aw ag) ag))) (ac (eSl bF (ad 3) bq (bn (e1 ca (eC (.int 1))))) (ac (eSl bF (ad 3) (bn (eC (.int 1))) bq) (ac (eN qm (ac (ad 3) ag)) (ac (aw ag) (ac (eC .none) (ac (eC (.int 0)) (ac (eN kI (ac (ad 3) (ac (aw ag) ag))) ag)))))))))))
 (ak (au 8 (eLC true (bi (ad 7)) (gN 0) cY ju [none,some 2]))
 (ak (sIf (tV (e2 eqD (eN aK (ac (ad 2) ag)) (eC (.int 3)))) (ak (au 8 (e2 aV (ad 8) (eLC true (bi (ar cM (aD 0 (ac (ad 1) (ac (e2 ixA (ad 2) (eC (.int 1))) ag))))) (gN 0) cY jr [none,some 3])))
 (au 8 (e2 aV (ad 8) (aw (ac (bj (ac (eC (.str "row")) (ac (e2 aV (e2 ixA (ad 2) (eC (.int 1))) (aw (ac (eC (.int 0)) ag))) (ac (e2 aV (ad 3) (aw (ac (aw (ac (eC (.int 0)) ag)) ag))) ag)))) (ac (bj (ac (eC (.str "row")) (ac (e2 aV (e2 ixA (ad 2) (eC (.int 1))) (aw (ac (eC (.int 0)) ag))) (ac (e2 aV (ad 3) (aw (ac (aw ag) ag))) ag)))) ag)))))) aW)
 (ak (bT (bi (bj (ac (eC (.str "none")) (ac (eC (.str "row")) (ac (eC (.str "Row")) (ac (eC (.str "")) (ac (eC .none) (ac (eC (.int 0)) (ac (eC (.bool true)) (ac (aw (ac (eC (.str "row")) ag)) ag)))))))))) (gN 9) jp)
 (ak (au 8 (e2 aV (ad 8) (aw (ac (eSl jD (ad 2) bq (bn (e1 ca (eC (.int 1))))) (ac (e2 lj (ad 2) (bj (ac (ad 3) ag))) (ac (eN gP (ac (ad 2) ag)) (ac (bj (ac (ad 2) ag)) (ac (e2 mZ (ad 2) (e1 ca (eC (.int 1)))) (ac (bj (ac (eC (.str "row")) (ac (aw ag) (ac (ad 3) ag)))) (ac (bj (ac (eC (.str "none")) ag)) ag))))))))))
 (ay (e2 aV (ad 8) (aw (ac (eC .none) (ac (eC (.int 0)) (ac (eC (.bool true)) (ac (eC (.str "none")) (ac (bj ag) (ac (aw ag) (ac lb (ac (ad 3) (ac (bj (ac (eC (.str "none")) (ac (ad 3) ag))) (ac (bj (ac (eC (.str "row")) (ac (aw ag) (ac (aw (ac (aw (ac (eC (.int 0)) ag)) ag)) ag)))) ag)))))))))))))))))))))))))
def gw:List D->Option (D×En):=fnF 7 [1,0,0] qk
abbrev mG:Stmt:=top 1
abbrev zW:List Str:=["thing"]
def wM:FnScope zW ["thing"] (aq mG):=fsc
def mV:MS:=(ay (cW (e1 (bg "int") (ad 0)) (qJ (e1 (bg "bool") (ad 0)))))
def fW:List D->Option (D×En):=fnF 0 [0] mV
abbrev fN:Stmt:=top 2
abbrev oO:List Str:=["thing","low","high"]
def nq:FnScope oO ["thing","low","high"] (aq fN):=fsc
def jy:MS:=(ay (cW (ar fW (ac (ad 0) ag)) (ft leI leI (ad 1) (ad 0) (ad 2))))
def cT:List D->Option (D×En):=fnF 0 [0,0,0] jy
abbrev dw:Stmt:=top 7
abbrev im:List Str:=["many","thing"]
def lX:FnScope im ["many","thing"] (aq dw):=fsc
def gx:ME:=(ar cT (ac (ad 0) (ac (eC (.int 0)) (ac (e2 dH (ad 1) (eC (.int 1))) ag))))
def dy:MS:=(ay (cW (e1 (bg "list") (ad 1)) (eN jg (ac (eLC true (bi (ad 1)) (gN 0) cY gx [none,some 0]) ag))))
def bx:List D->Option (D×En):=fnF 0 [0,0] dy
abbrev jT:Stmt:=top 5
abbrev vy:List Str:=["machine","thing"]
def sN:FnScope vy ["machine","thing"] (aq jT):=fsc
def og:MS:=(ay (ar bx (ac (eN aK (ac (e2 ixA (ad 0) (eC (.int 0))) ag)) (ac (ad 1) ag))))
def fB:List D->Option (D×En):=fnF 0 [0,0] og
abbrev gW:Stmt:=top 16
abbrev nV:List Str:=["machine","thing"]
def sO:FnScope nV ["machine","thing"] (aq gW):=fsc
def lQ:ME:=(ar fB (ac (ad 1) (ac (ad 0) ag)))
def hV:MS:=(ak (sIf (bOr (bV (tV (e1 (bg "list") (ad 1)))) (bV (tV (eN jg (ac (eLC true (bi (ad 1)) (gN 0) cY lQ [none,some 0]) ag))))) (ay (eC (.bool false))) aW)
 (ay (cW (e2 gtI (eN aK (ac (ad 1) ag)) (eC (.int 0))) (e2 inL (eC (.int 0)) (e2 ixA (ad 1) (eC (.int 0)))))))
def cJ:List D->Option (D×En):=fnF 0 [0,0] hV
abbrev iB:Stmt:=top 18
abbrev rY:List Str:=["layers","first","number","layer","stand"]
def qt:FnScope rY ["layers"] (aq iB):=fsc
def jJ:MS:=(oW 1 (ad 4) (ad 2))
def jI:MS:=(bT (bi (ad 3)) (gN 4) jJ)
def lU:MS:=(ak (au 1 lb)
 (ak (bT (ic (ac (ad 0) ag)) (gT (gsC (gN 2) (gsC (gN 3) gs0))) jI)
 (ay (eMv 1))))
def dQ:List D->Option (D×En):=fnF 4 [0] lU
abbrev gX:Stmt:=top 19
abbrev nW:List Str:=["ways","first","number"]
def sP:FnScope nW ["ways","first","number"] (aq gX):=fsc
def fI:ME:=(eOr (e2 isN (ad 0) (eC .none)) (cW (e2 dIn (ad 0) (ad 1)) (e2 leI (e2 uE (ad 1) (ad 0)) (ad 2))))
def oh:MS:=(ay (eN jg (ac (eLC true (bi (ad 0)) (gN 0) cY fI [none,some 1,some 2]) ag)))
def fC:List D->Option (D×En):=fnF 0 [0,0,0] oh
abbrev mE:Stmt:=top 17
abbrev zV:List Str:=["machine","layers","many","first","stand","number"]
def wL:FnScope zV ["machine","layers","many"] (aq mE):=fsc
def hR:MS:=(sIf (cZ (tV (e2 ltI (ad 5) (ad 2))) (bOr (tV (e2 ixA (e2 ixA (ad 0) (eC (.int 0))) (ad 4))) (bV (tV (ar fC (ac (e2 ixA (e2 ixA (ad 0) (eC (.int 1))) (ad 4)) (ac (ad 3) (ac (e2 bh (ad 5) (eC (.int 1))) ag)))))))) (ay (eC (.bool false))) aW)
def rK:MS:=(ak (au 3 (ar dQ (ac (ad 1) ag)))
 (ak (bT (iDm true 3) (gT (gsC (gN 4) (gsC (gN 5) gs0))) hR)
 (ay (eC (.bool true)))))
def fV:List D->Option (D×En):=fnF 3 [0,0,0] rK
abbrev jS:Stmt:=top 15
abbrev vx:List Str:=["machine","layers"]
def sM:FnScope vx ["machine","layers"] (aq jS):=fsc
def oe:MS:=(ay (cW (ar cJ (ac (ad 0) (ac (ad 1) ag))) (ar fV (ac (ad 0) (ac (ad 1) (ac (eN aK (ac (ad 1) ag)) ag))))))
def fA:List D->Option (D×En):=fnF 0 [0,0] oe
abbrev qQ:Stmt:=top 8
abbrev GV:List Str:=["machine","stand"]
def Am:FnScope GV ["machine","stand"] (aq qQ):=fsc
def qT:MS:=(ay (cW (e2 i9 (ad 1) (eC .none)) (e2 ixA (e2 ixA (ad 0) (eC (.int 0))) (ad 1))))
def iX:List D->Option (D×En):=fnF 0 [0,0] qT
abbrev BD:Stmt:=top 9
abbrev Nz:List Str:=["machine","stand","sign"]
def LL:FnScope Nz ["machine","stand","sign"] (aq BD):=fsc
def BG:MS:=(ay (eIf (tV (e2 isN (ad 1) (eC .none))) (eC .none) (e2 ixA (e2 ixA (e2 ixA (ad 0) (eC (.int 1))) (ad 1)) (ad 2))))
def qS:List D->Option (D×En):=fnF 0 [0,0,0] BG
abbrev xL:Stmt:=top 10
abbrev M0:List Str:=["machine","stand","row","here","sign"]
def Jl:FnScope M0 ["machine","stand","row"] (aq xL):=fsc
def wu:MS:=(au 3 (ar qS (ac (ad 0) (ac (ad 3) (ac (ad 4) ag)))))
def EN:MS:=(ak (au 3 (ad 1))
 (ak (bT (bi (ad 2)) (gN 4) wu)
 (ay (ad 3))))
def qa:List D->Option (D×En):=fnF 2 [0,0,0] EN
abbrev xK:Stmt:=top 11
abbrev MZ:List Str:=["machine","row"]
def Jk:FnScope MZ ["machine","row"] (aq xK):=fsc
def EM:MS:=(ay (ar iX (ac (ad 0) (ac (ar qa (ac (ad 0) (ac (eC (.int 0)) (ac (ad 1) ag)))) ag))))
def p5:List D->Option (D×En):=fnF 0 [0,0] EM
abbrev gi:Stmt:=top 4
abbrev pV:List Str:=["machine"]
def oA:FnScope pV ["machine"] (aq gi):=fsc
def jM:MS:=(ay (eN aK (ac (e2 ixA (e2 ixA (ad 0) (eC (.int 1))) (eC (.int 0))) ag)))
def eA:List D->Option (D×En):=fnF 0 [0] jM
abbrev lw:Stmt:=top 6
abbrev xN:List Str:=["machine","thing"]
def uZ:FnScope xN ["machine","thing"] (aq lw):=fsc
def qg:MS:=(ay (ar bx (ac (ar eA (ac (ad 0) ag)) (ac (ad 1) ag))))
def gt:List D->Option (D×En):=fnF 0 [0,0] qg
abbrev lu:Stmt:=top 14
abbrev xM:List Str:=["machine","row","layers"]
def uY:FnScope xM ["machine","row","layers"] (aq lu):=fsc
def qf:MS:=(ak (sIf (bOr (bV (tV (ar cJ (ac (ad 0) (ac (ad 2) ag))))) (bV (tV (ar gt (ac (ad 0) (ac (ad 1) ag)))))) (ay (eC (.bool false))) aW)
 (ay (cW (e2 eqD (eN aK (ac (ad 1) ag)) (e2 dH (eN aK (ac (ad 2) ag)) (eC (.int 1)))) (cW (ar p5 (ac (ad 0) (ac (ad 1) ag))) (ar fV (ac (ad 0) (ac (ad 2) (ac (e2 dH (eN aK (ac (ad 2) ag)) (eC (.int 1))) ag))))))))
def gq:List D->Option (D×En):=fnF 0 [0,0,0] qf
abbrev gj:Stmt:=top 13
abbrev pW:List Str:=["machine","thing"]
def oB:FnScope pW ["machine","thing"] (aq gj):=fsc
def bX:MS:=(ak (sIf (bOr (bV (tV (e1 (bg "tuple") (ad 1)))) (bOr (tV (e2 eqD (eN aK (ac (ad 1) ag)) (eC (.int 0)))) (bV (tV (e1 (bg "str") (e2 ixA (ad 1) (eC (.int 0)))))))) (ay (eC (.bool false))) aW)
 (ak (sIf (tV (e2 eqD (e2 ixA (ad 1) (eC (.int 0))) (eC (.str "row")))) (ay (cW (e2 eqD (eN aK (ac (ad 1) ag)) (eC (.int 3))) (ar gq (ac (ad 0) (ac (e2 ixA (ad 1) (eC (.int 1))) (ac (e2 ixA (ad 1) (eC (.int 2))) ag)))))) aW)
 (ay (cW (e2 eqD (e2 ixA (ad 1) (eC (.int 0))) (eC (.str "none"))) (cW (e2 eqD (eN aK (ac (ad 1) ag)) (eC (.int 2))) (ar fA (ac (ad 0) (ac (e2 ixA (ad 1) (eC (.int 1))) ag))))))))
def bt:List D->Option (D×En):=fnF 0 [0,0] bX
abbrev lA:Stmt:=top 29
abbrev xQ:List Str:=["_law_machine_here","_law_stand","_law_row","_law_number"]
def u6:FnScope xQ ["_law_machine_here","_law_stand","_law_row"] (aq lA):=fsc
def jo:MS:=(sIf (tV (e2 i9 (ad 1) (eC .none))) (au 1 (e2 ixA (e2 ixA (e2 ixA (ad 0) (eC (.int 1))) (ad 1)) (ad 3))) aW)
def qj:MS:=(ak (bT (bi (ad 2)) (gN 3) jo)
 (ay (ad 1)))
def gu:List D->Option (D×En):=fnF 1 [0,0,0] qj
abbrev lz:Stmt:=top 30
abbrev xP:List Str:=["_law_machine_here","_law_row","_law_stand"]
def u5:FnScope xP ["_law_machine_here","_law_row"] (aq lz):=fsc
def qi:MS:=(ak (au 2 (ar gu (ac (ad 0) (ac (eC (.int 0)) (ac (ad 1) ag)))))
 (ay (cW (e2 i9 (ad 2) (eC .none)) (e2 ixA (e2 ixA (ad 0) (eC (.int 0))) (ad 2)))))
def fh:List D->Option (D×En):=fnF 1 [0,0] qi
abbrev gZ:Stmt:=top 33
abbrev nY:List Str:=["_law_machine_here","_law_stand","_law_among"]
def sU:FnScope nY ["_law_machine_here","_law_stand","_law_among"] (aq gZ):=fsc
def iI:ME:=(eOr (e2 isN (ad 0) (eC .none)) (e2 inL (ad 0) (ad 1)))
def j3:MS:=(ak (sIf (tV (e2 ixA (e2 ixA (ad 0) (eC (.int 0))) (ad 1))) (ay (eC (.bool false))) aW)
 (ay (eN jg (ac (eLC true (bi (e2 ixA (e2 ixA (ad 0) (eC (.int 1))) (ad 1))) (gN 0) cY iI [none,some 2]) ag))))
def dW:List D->Option (D×En):=fnF 0 [0,0,0] j3
abbrev jj:Stmt:=top 34
abbrev uS:List Str:=["_law_machine_here","_law_layers","_law_last","_law_at","_law_among","_law_stand"]
def rP:FnScope uS ["_law_machine_here","_law_layers","_law_last"] (aq jj):=fsc
def kC:MS:=(sIf (bV (tV (ar dW (ac (ad 0) (ac (ad 5) (ac (ad 4) ag)))))) (ay (eC (.bool false))) aW)
def kB:MS:=(ak (au 4 (eN kI (ac (eSl bF (ad 1) bq (bn (e2 bh (ad 3) (eC (.int 2))))) (ac (aw ag) ag))))
 (bT (bi (e2 ixA (ad 1) (ad 3))) (gN 5) kC))
def mX:MS:=(ak (bT (bS (ac (e2 bh (ad 2) (eC (.int 1))) ag)) (gN 3) kB)
 (ay (eC (.bool true))))
def cD:List D->Option (D×En):=fnF 3 [0,0,0] mX
abbrev jh:Stmt:=top 32
abbrev uQ:List Str:=["_law_machine_here","_law_thing","_law_one"]
def rN:FnScope uQ ["_law_machine_here","_law_thing"] (aq jh):=fsc
def dE:MS:=(sIf (bOr (bV (tV (e1 (bg "int") (ad 2)))) (bOr (tV (e1 (bg "bool") (ad 2))) (bV (tV (ft leI ltI (eC (.int 0)) (ad 2) (eN aK (ac (e2 ixA (ad 0) (eC (.int 0))) ag))))))) (ay (eC (.bool false))) aW)
def gB:MS:=(ak (sIf (bV (tV (e1 (bg "list") (ad 1)))) (ay (eC (.bool false))) aW)
 (ak (bT (bi (ad 1)) (gN 2) dE)
 (ay (eC (.bool true)))))
def cU:List D->Option (D×En):=fnF 1 [0,0] gB
abbrev hC:Stmt:=top 35
abbrev nZ:List Str:=["_law_machine_here","_law_thing","_law_layers","_law_row","_law_one"]
def sV:FnScope nZ ["_law_machine_here","_law_thing"] (aq hC):=fsc
def iJ:ME:=(ar cU (ac (ad 1) (ac (ad 0) ag)))
def da:MS:=(sIf (bOr (bV (tV (e1 (bg "int") (ad 4)))) (bOr (tV (e1 (bg "bool") (ad 4))) (bV (tV (ft leI ltI (eC (.int 0)) (ad 4) (eN aK (ac (e2 ixA (e2 ixA (ad 0) (eC (.int 1))) (eC (.int 0))) ag))))))) (ay (eC (.bool false))) aW)
def oo:MS:=(ak (sIf (bOr (bV (tV (e1 (bg "tuple") (ad 1)))) (bOr (tV (e2 fm (eN aK (ac (ad 1) ag)) (bj (ac (eC (.int 2)) (ac (eC (.int 3)) ag))))) (bV (tV (e1 (bg "str") (e2 ixA (ad 1) (eC (.int 0)))))))) (ay (eC (.bool false))) aW)
 (ak (au 2 (e2 ixA (ad 1) (e1 ca (eC (.int 1)))))
 (ak (sIf (bOr (bV (tV (e1 (bg "list") (ad 2)))) (bOr (tV (e2 eqD (eN aK (ac (ad 2) ag)) (eC (.int 0)))) (bV (tV (eN jg (ac (eLC true (bi (ad 2)) (gN 0) cY iJ [none,some 0]) ag)))))) (ay (eC (.bool false))) aW)
 (ak (sIf (tV (e2 fm (eC (.int 0)) (e2 ixA (ad 2) (eC (.int 0))))) (ay (eC (.bool false))) aW)
 (ak (sIf (tV (e2 eqD (eN aK (ac (ad 1) ag)) (eC (.int 2)))) (ay (cW (e2 eqD (e2 ixA (ad 1) (eC (.int 0))) (eC (.str "none"))) (ar cD (ac (ad 0) (ac (ad 2) (ac (e2 dH (eN aK (ac (ad 2) ag)) (eC (.int 1))) ag)))))) aW)
 (ak (au 3 (e2 ixA (ad 1) (eC (.int 1))))
 (ak (sIf (bOr (tV (e2 neD (e2 ixA (ad 1) (eC (.int 0))) (eC (.str "row")))) (bOr (bV (tV (e1 (bg "list") (ad 3)))) (tV (e2 neD (eN aK (ac (ad 3) ag)) (e2 dH (eN aK (ac (ad 2) ag)) (eC (.int 1))))))) (ay (eC (.bool false))) aW)
 (ak (bT (bi (ad 3)) (gN 4) da)
 (ay (cW (ar fh (ac (ad 0) (ac (ad 3) ag))) (ar cD (ac (ad 0) (ac (ad 2) (ac (e2 dH (eN aK (ac (ad 2) ag)) (eC (.int 2))) ag))))))))))))))
def fE:List D->Option (D×En):=fnF 3 [0,0] oo
abbrev gm:Stmt:=top 41
abbrev lD:List Str:=["_law_lists_here","_law_thing"]
def u0:FnScope lD ["_law_lists_here","_law_thing"] (aq gm):=fsc
def gz:ME:=(e2 eqD (e2 ixA (ad 0) (eC (.int 0))) (eC (.int 0)))
def lE:MS:=(ak (sIf (tV (e2 eqD (e2 ixA (ad 1) (eC (.int 0))) (eC (.str "none")))) (ay (eN jg (ac (eLC true (bi (ad 0)) (gN 0) cY gz [none]) ag))) aW)
 (ay (eN jg (ac (eLC true (bi (eSl bF (ad 0) bq (bn (eN aK (ac (e2 ixA (ad 1) (eC (.int 1))) ag))))) (gN 0) cY gz [none]) ag))))
def ff:List D->Option (D×En):=fnF 0 [0,0] lE
abbrev mF:Stmt:=top 42
abbrev LC:List Str:=["_law_script","_law_pen_here","_law_signs_here","_law_machine_here","_law_lists_here","_law_handed","_law_thing","_law_bent_here","_law_kept","_law_told"]
def LM:FnScope LC ["_law_script"] (aq mF):=fsc
def uW:ME:=(eN gP (ac (ad 0) ag))
def uT:MS:=(ak (au 8 (eN oX (ac (ad 7) ag)))
 (ak (au 9 (ar bt (ac (ad 5) (ac (ad 7) ag))))
 (ak (sIf (bOr (bV (tV (e1 (bg "bool") (ad 9)))) (tV (e2 neD (ad 9) (ar fE (ac (ad 3) (ac (ad 7) ag)))))) (ay (eC (.bool false))) aW)
 (sIf (bOr (tV (e2 neD (eN oX (ac (ad 7) ag)) (ad 8))) (bOr (tV (e2 neD (ad 5) (ad 3))) (cZ (tV (ad 9)) (bV (tV (ar ff (ac (ad 4) (ac (ad 7) ag)))))))) (ay (eC (.bool false))) aW))))
def pY:MS:=(ak (sIf (tV (e2 w4 (ar bt (ac (ad 5) (ac (ad 6) ag))) (eC (.bool true)))) (ay (eC (.bool false))) aW)
 (bT (bi (ar gw (aD 1 (ac (ad 3) (ac (ad 6) ag))))) (gN 7) uT))
def LF:MS:=(ak (au 1 (ar cL (ac (ad 0) (ac (eC (.int 0)) ag))))
 (ak (au 2 (ar cK (aD 1 ag)))
 (ak (au 3 (ar bZ (aD 1 (ac (ad 2) (ac (eC (.int 8)) ag)))))
 (ak (sIf (tV (e2 eqD (ar ax (aD 1 (ac (eC (.int 5)) ag))) (eC (.int 0)))) (au 3 (ar fg (aD 1 (ac (ad 2) ag)))) aW)
 (ak (au 4 (ar dU (ac (ad 3) (ac (e2 bh (e2 cA (eC (.int 2)) (eN aK (ac (e2 ixA (ad 3) (eC (.int 0))) ag))) (eC (.int 2))) ag))))
 (ak (au 5 (bj (ac (eN gP (ac (e2 ixA (ad 3) (eC (.int 0))) ag)) (ac (eLC true (bi (e2 ixA (ad 3) (eC (.int 1)))) (gN 0) cY uW [none]) ag))))
 (ak (au 1 (ar cL (ac (ad 0) (ac (eC (.int 25)) ag))))
 (ak (bT (bi (ar db (aD 1 (ac (ad 3) ag)))) (gN 6) pY)
 (ay (eC (.bool true)))))))))))
def yb:List D->Option (D×En):=fnF 9 [0] LF
section
variable(P:Program)(w:World)(K:zbY)(mg:Str->Option Value)(base:Heap)(k:Nat)
abbrev mN:Prop:=Kn P w K mg base k "_law_mixed" ["_law_cell","_law_k"] (spF K [0,0] 3 dA)
abbrev cy:Prop:=Kn P w K mg base k "_law_take" ["_law_pen_here","_law_most"] (spF K [1,0] 0 ax)
abbrev nT:Prop:=Kn P w K mg base k "_law_goal" ["_law_pen_here","_law_stand","_law_stands_here","_law_way"] (spF K [1,0,0,0] 0 cz)
abbrev pT:Prop:=Kn P w K mg base k "_law_due" ["_law_machine_here"] (spF K [0] 0 fX)
abbrev ku:Prop:=Kn P w K mg base k "_law_mingled" ["_law_pen_here","_law_layers"] (spF K [1,0] 1 de)
abbrev lM:Prop:=Kn P w K mg base k "_law_row_to" ["_law_machine_here","_law_start","_law_goals"] (spF K [0,0,0] 0 eR)
abbrev mO:Prop:=Kn P w K mg base k "_law_lists" ["_law_pen_here","_law_machine_here","_law_some"] (spF K [1,0,0] 1 cM)
abbrev pR:Prop:=Kn P w K mg base k "is_whole" ["thing"] (spF K [0] 3 fW)
abbrev iK:Prop:=Kn P w K mg base k "is_whole_within" ["thing","low","high"] (spF K [0,0,0] 3 cT)
abbrev eh:Prop:=Kn P w K mg base k "are_numbers_below" ["many","thing"] (spF K [0,0] 3 bx)
abbrev mJ:Prop:=Kn P w K mg base k "are_stands" ["machine","thing"] (spF K [0,0] 3 fB)
abbrev kq:Prop:=Kn P w K mg base k "first_layers" ["layers"] (spF K [0] 1 dQ)
abbrev mK:Prop:=Kn P w K mg base k "all_within" ["ways","first","number"] (spF K [0,0,0] 3 fC)
abbrev jn:Prop:=Kn P w K mg base k "are_layers" ["machine","thing"] (spF K [0,0] 3 cJ)
abbrev lC:Prop:=Kn P w K mg base k "leads_on" ["machine","layers","many"] (spF K [0,0,0] 3 fV)
abbrev EJ:Prop:=Kn P w K mg base k "led" ["machine","stand","sign"] (spF K [0,0,0] 0 qS)
abbrev uO:Prop:=Kn P w K mg base k "is_end" ["machine","stand"] (spF K [0,0] 0 iX)
abbrev zU:Prop:=Kn P w K mg base k "gone" ["machine","stand","row"] (spF K [0,0,0] 0 qa)
abbrev jk:Prop:=Kn P w K mg base k "how_many_signs" ["machine"] (spF K [0] 3 eA)
abbrev zT:Prop:=Kn P w K mg base k "lets" ["machine","row"] (spF K [0,0] 0 p5)
abbrev nL:Prop:=Kn P w K mg base k "are_signs" ["machine","thing"] (spF K [0,0] 3 gt)
abbrev mI:Prop:=Kn P w K mg base k "holds_none" ["machine","layers"] (spF K [0,0] 3 fA)
abbrev nK:Prop:=Kn P w K mg base k "holds_row" ["machine","row","layers"] (spF K [0,0,0] 3 gq)
abbrev nQ:Prop:=Kn P w K mg base k "_law_gone" ["_law_machine_here","_law_stand","_law_row"] (spF K [0,0,0] 0 gu)
abbrev mP:Prop:=Kn P w K mg base k "_law_leads" ["_law_machine_here","_law_stand","_law_among"] (spF K [0,0,0] 3 dW)
abbrev nP:Prop:=Kn P w K mg base k "_law_lets" ["_law_machine_here","_law_row"] (spF K [0,0] 0 fh)
abbrev lN:Prop:=Kn P w K mg base k "_law_inside" ["_law_machine_here","_law_layers","_law_last"] (spF K [0,0,0] 3 cD)
abbrev lL:Prop:=Kn P w K mg base k "_law_stands" ["_law_machine_here","_law_thing"] (spF K [0,0] 3 cU)
abbrev pS:Prop:=Kn P w K mg base k "_law_pen" ["_law_script","_law_first"] (spF K [0,0] 1 cL)
abbrev mM:Prop:=Kn P w K mg base k "_law_signs" ["_law_pen_here"] (spF K [1] 0 cK)
abbrev kx:Prop:=Kn P w K mg base k "_law_machine" ["_law_pen_here","_law_signs_here","_law_most"] (spF K [1,0,0] 0 bZ)
abbrev mL:Prop:=Kn P w K mg base k "_law_table" ["_law_machine_here","_law_most"] (spF K [0,0] 0 dU)
abbrev kt:Prop:=Kn P w K mg base k "_law_written" ["_law_pen_here","_law_machine_here"] (spF K [1,0] 0 db)
abbrev nN:Prop:=Kn P w K mg base k "_law_ring" ["_law_pen_here","_law_signs_here"] (spF K [1,0] 0 fg)
abbrev nU:Prop:=Kn P w K mg base k "_law_bent" ["_law_pen_here","_law_machine_here","_law_thing"] (spF K [1,0,0] 1 gw)
abbrev jm:Prop:=Kn P w K mg base k "holds_shortest" ["machine","thing"] (spF K [0,0] 3 bt)
abbrev mQ:Prop:=Kn P w K mg base k "_law_holds" ["_law_machine_here","_law_thing"] (spF K [0,0] 3 fE)
abbrev nM:Prop:=Kn P w K mg base k "_law_true" ["_law_lists_here","_law_thing"] (spF K [0,0] 3 ff)
end
def wY(T:Bl mg)(F:Fun K "_law_pen" "_law_pen" mH f fd):FnOk P w K mg base CX0 (k+1) f fd ["_law_script","_law_first"] (spF K [0,0] 1 cL):=
 F.okR wN ⟨[],[0,0],1,[]⟩ [0,0] fun nd _ _ _ _ _ _ hr=>(frt (jC (fs:=[((eC (.str "script")),(ad 0)),((eC (.str "at")),(ad 1)),((eC (.str "left")),(eC (.int 0)))]) (fQ aJ (fv 0) (fQ aJ (fv 1) (fQ aJ (fs0 ai) k7))) rfl rfl (fun z=>nomatch z) (by decide)))
def tJ(T:Bl mg)(F:Fun K "_law_mixed" "_law_mixed" jV f fd):FnOk P w K mg base CX0 (k+1) f fd ["_law_cell","_law_k"] (spF K [0,0] 3 dA):=
 F.okR sS ⟨[],[0,0,0,0],3,[]⟩ [0,0,0,0] fun nd _ _ _ _ _ _ hr=>(ah (aR 2 [0,0,0,0] nd (fs0 (ao ij (ao ii (ao bC (ao bC (ao ij (fv 0) ai) (ao ii ai (fv 1))) ai) ai) ai))) (ah (aR 3 [0,0,0,0] nd (fs0 (ao ij (ao bC (ao bC (ao ii (fv 2) (fv 2)) (ao ii ai (fv 2))) (fv 1)) ai))) (frt (ao we (ao ij (ao bC (ao bC (ao ii (fv 3) (fv 3)) (ao ii ai (fv 3))) (ao ii ai (fv 1))) ai) ai))))
def ve(T:Bl mg)(vG:mN P w K mg base k)(F:Fun K "_law_take" "_law_take" lx f fd):FnOk P w K mg base CX0 (k+1) f fd ["_law_pen_here","_law_most"] (spF K [1,0] 0 ax):=
 F.okR u3 ⟨[0],[1,0,0,0,0,0],0,[]⟩ [1,0,0,0,0,0] fun nd _ _ _ _ _ _ hr=>(ah (aR 2 [1,0,0,0,0,0] nd (cx (i:=0) (cH hr) rfl (.inl rfl) rfl aJ (fun _ _=>rfl) rfl rfl)) (ah (aR 3 [1,0,0,0,0,0] nd (cx (i:=0) (cH hr) rfl (.inl rfl) rfl aJ (fun _ _=>rfl) rfl rfl)) (ah (aL (ds2:=[1,0,0,0,0,0]) (fte rfl hr.units (cx (i:=0) (cH hr) rfl (.inl rfl) rfl aJ (fun _ _=>rfl) rfl rfl) ai) (ah (ge (i:=0) (cH hr) rfl (.inl rfl) (fs0 (ao bC (fv 2) ai)) aJ rfl rfl rfl rfl) (ah (aR 4 [1,0,0,0,0,0] nd (fs0 ai)) (ah (aL (ds2:=[1,0,0,0,0,0]) (bf xz (fln rfl T.len0 (fac (fv 3) af)) ai (aY _)) (aH (aR 4 [1,0,0,0,0,0] nd (aX (bA (K:=K) rfl) (fv 3) (ao ij (fv 2) (fln rfl T.len0 (fac (fv 3) af))) (fun _ _=>rfl)))) aE) (ah (aL (ds2:=[1,0,0,0,0,0]) (qpt (bE (bf EF (fv 2) (fln rfl T.len0 (fac (fv 3) af)) (aY _)) (cu (bf k8 (fcb zp T.abs0 (by decide +kernel) (fac (fv 4) af)) (ao zn ai ai) (aY _))))) (frt (fs0 (ao ij (fnn vG hr (fac (fv 4) (fac (fv 2) af))) (fv 1)))) aE) (aH (ge (i:=0) (cH hr) rfl (.inl rfl) (fs0 (fcb zp T.abs0 (by decide +kernel) (fac (fv 4) af))) aJ rfl rfl rfl rfl)))))) aE) (ah (aR 5 [1,0,0,0,0,0] nd (fs0 (ao ij (cx (i:=0) (cH hr) rfl (.inl rfl) rfl aJ (fun _ _=>rfl) rfl rfl) (fv 1)))) (ah (ge (i:=0) (cH hr) rfl (.inl rfl) (fs0 (ao we (cx (i:=0) (cH hr) rfl (.inl rfl) rfl aJ (fun _ _=>rfl) rfl rfl) (fv 1))) aJ rfl rfl rfl rfl) (frt (fv 5)))))))
def tI(T:Bl mg)(aM:cy P w K mg base k)(F:Fun K "_law_signs" "_law_signs" jU f fd):FnOk P w K mg base CX0 (k+1) f fd ["_law_pen_here"] (spF K [1] 0 cK):=
 F.okR sR ⟨[0],[1],0,[]⟩ [1] fun nd _ _ _ _ _ _ hr=>(frt (aX (bA (K:=K) rfl) (av (d:=3) (c:=3) (fac ai (fac ai (fac ai (fac ai (fac ai (fac ai (fac ai (fac (ao bC ai (fns aM hr (fsl 0 (fac (fs0 ai) af)))) af)))))))) rfl rfl (by decide)) (fns aM hr (fsl 0 (fac (fs0 ai) af))) (fun _ _=>rfl)))
def vi(T:Bl mg)(aM:cy P w K mg base k)(F:Fun K "_law_goal" "_law_goal" lB f fd):FnOk P w K mg base CX0 (k+1) f fd ["_law_pen_here","_law_stand","_law_stands_here","_law_way"] (spF K [1,0,0,0] 0 cz):=
 F.okR u7 ⟨[0],[1,0,0,0,0],0,[]⟩ [1,0,0,0,0] fun nd _ _ _ _ _ _ hr=>(ah (aR 4 [1,0,0,0,0] nd (fns aM hr (fsl 0 (fac (fs0 (ao bC (fv 2) ai)) af)))) (ah (aL (ds2:=[1,0,0,0,0]) (qpt (bE (fte rfl hr.units (fv 4) (fv 2)) (cu (qpt (fL (fte rfl hr.units (fv 3) ai) (eD (bf k9 (fv 4) (fv 1) (aY _)))))))) (frt (fs0 bo)) aE) (frt (fv 4))))
def qC(T:Bl mg)(aM:cy P w K mg base k)(xZ:nT P w K mg base k)(F:Fun K "_law_machine" "_law_machine" dP f fd):FnOk P w K mg base CX0 (k+1) f fd ["_law_pen_here","_law_signs_here","_law_most"] (spF K [1,0,0] 0 bZ):=
 F.okR qw ⟨[0],[1,0,0,0,0,0,0,0,0,0],0,[]⟩ [1,0,0,0,0,0,0,0,0,0] fun nd _ _ _ _ _ _ hr=>(ah (cB (i:=3) (d:=0) (ds':=[1,0,0,0,0,0,0,0,0,0]) nd rfl (.inr rfl) (fs0 (ao bC ai (fns aM hr (uk 0 (fac (fv 2) af))))) rfl (by decide) (by decide) rfl (.inl rfl)) (ah (cB (i:=4) (d:=0) (ds':=[1,0,0,0,0,0,0,0,0,0]) nd rfl (.inr rfl) (fns aM hr (uk 0 (fac (fs0 ai) af))) rfl (by decide) (by decide) rfl (.inl rfl)) (ah (cB (i:=5) (d:=0) (ds':=[1,0,0,0,0,0,0,0,0,0]) nd rfl (.inr rfl) (fs0 (ao bC ai (fns aM hr (uk 0 (fac (fvc 3) af))))) rfl (by decide) (by decide) rfl (.inl rfl)) (ah (aR 6 [1,0,0,0,0,0,1,0,0,0] nd (dJ (d':=1) (av (d:=3) (c:=3) af rfl rfl (by decide)) (by decide))) (ah (aR 7 [1,0,0,0,0,0,1,1,0,0] nd (dJ (d':=1) (av (d:=3) (c:=3) af rfl rfl (by decide)) (by decide))) (ah (bv (ds1:=[1,0,0,0,0,0,1,1,0,0]) rfl (dG rfl T.range0 (fac (fvc 3) af) rfl) (la (i:=8) (ds':=[1,0,0,0,0,0,1,1,0,0]) nd rfl (.inr rfl) rfl (by decide) (by decide) (.inl rfl)) (ah (cC (cS (K:=K) (i:=6) (d:=1) rfl rfl (.inl rfl) rfl (fs0 (bB (gR (K:=K) rfl hr.units) (fns aM hr (uk 0 (fac (fs0 ai) af))) ai (aY _))) (by decide) rfl rfl rfl rfl rfl rfl rfl rfl) rfl) (ah (fP (ds1:=[1,0,0,0,0,0,1,1,0,0]) (dz (i:=9) (ds':=[1,0,0,0,0,0,1,1,0,1]) (cd:=0) (d:=1) (dsi:=[0,1,0,0,0]) (lk:=[1,2,3,4]) nd rfl rfl (BlkOkC.of (ns:=["_law_number","_law_pen_here","_law_stands_here","_law_way","_law_stand"]) (js:=[none,some 0,some 3,some 4,some 8]) (N0:=iF) (sc0:=aq dP) rfl rfl (by decide +kernel)) rfl (dG rfl T.range0 (fac (fv 1) af) rfl) (fun _ _ _ _ _=>(fgn 0 [0,1,0,0,0] (ndk ["_law_number","_law_pen_here","_law_stands_here","_law_way","_law_stand"]))) (fun _ _ _ _ _=>bu) (fun _ _ _ _ _=>(fns xZ hr (uk 1 (fac (fvc 4) (fac (fvc 2) (fac (fvc 3) af)))))) rfl rfl rfl (by decide) rfl (by decide) (by decide) rfl (fun _=>rfl)) rfl) (ah (aL (ds2:=[1,0,0,0,0,0,1,1,0,0]) (qpt (fL (fte rfl hr.units (fvc 4) ai) (eD (bf k8 (fvc 8) (fvc 5) (aY _))))) (ah (k6 (i:=6) (d:=1) (c:=0) rfl (.inl rfl) (fs0 bd) (fvc 8) rfl (by decide) rfl rfl rfl (fun _=>rfl) rfl rfl rfl) (aH (fP (ds1:=[1,0,0,0,0,0,1,1,0,0]) (dz (i:=9) (ds':=[1,0,0,0,0,0,1,1,0,1]) (cd:=0) (d:=1) (dsi:=[0,0]) (lk:=[1]) nd rfl rfl (BlkOkC.of (ns:=["_law_goal_here","_law_fence"]) (js:=[none,some 5]) (N0:=iF) (sc0:=aq dP) rfl rfl (by decide +kernel)) rfl (aU (K:=K) rfl (fv 9)) (fun _ _ _ _ _=>(fgn 0 [0,0] (ndk ["_law_goal_here","_law_fence"]))) (fun _ _ _ _ _=>bu) (fun _ _ _ _ _=>(aX (bA (K:=K) rfl) (av (d:=1) (c:=0) (fac (fv 0) (fac bo af)) rfl rfl (by decide)) (fct zo T.int0 (by decide +kernel) (fac (fs0 (qH (bB mt (fv 0) bo (aY _)) (bJ (bB EF (fv 0) (fvc 1) (aY _))))) af)) (fun _ _=>rfl))) rfl rfl rfl (by decide) rfl (by decide) (by decide) rfl (fun _=>rfl)) rfl))) aE) (aH (cC (cS (K:=K) (i:=7) (d:=1) rfl rfl (.inl rfl) rfl (fv 9) (by decide) rfl rfl rfl rfl rfl rfl rfl rfl) rfl))))) PassesOwn.never (fun _=>rfl)) (frt (a7 (d:=0) (c:=0) (fac (cO (ds0:=[1,0,0,0,0,0,0,1,0,0]) (bQ (p:=false) (i:=6) rfl (.inl rfl) rfl rfl rfl) rfl) (fac (cO (ds0:=[1,0,0,0,0,0,0,0,0,0]) (bQ (p:=false) (i:=7) rfl (.inl rfl) rfl rfl rfl) rfl) af)) rfl rfl))))))))
def tH(T:Bl mg)(F:Fun K "_law_table" "_law_table" fw f fd):FnOk P w K mg base CX0 (k+1) f fd ["_law_machine_here","_law_most"] (spF K [0,0] 0 dU):=
 F.okR sQ ⟨[],[0,0,0,0],0,[]⟩ [0,0,0,0] fun nd _ _ _ _ _ _ hr=>(ah (aR 2 [0,0,1,0] nd (dJ (d':=1) (av (d:=3) (c:=3) (fac (bY (cd:=3) (d:=3) (dsi:=[0]) (lk:=[]) (BlkOkC.of (ns:=["_law_one"]) (js:=[none]) (N0:=jW) (sc0:=aq fw) rfl rfl (by decide +kernel)) rfl (aU (K:=K) rfl (fxi rfl (fv 0))) (fun _ _ _ _ _=>(fgn 0 [0] (ndk ["_law_one"]))) (fun _ _ _ _ _=>bu) (fun _ _ _ _ _=>(fct zo T.int0 (by decide +kernel) (fac (fv 0) af))) rfl rfl (by decide) rfl (fun _=>rfl)) af) rfl rfl (by decide)) (by decide))) (ah (jP (ds:=[0,0,1,0]) (ig (ds0:=[0,0,0,0]) (bf k9 (fln rfl T.len0 (fac (fv 2) af)) (fv 1) (aY _)) rfl) (ah (cB (i:=3) (d:=0) (ds':=[0,0,1,0]) nd rfl (.inr rfl) (oJ (K:=K) (i:=2) rfl rfl (.inl rfl) rfl (bM cg ai) (fun _ _=>rfl) rfl rfl) rfl (by decide) (by decide) rfl (.inl rfl)) (aH (cC (cS (K:=K) (i:=2) (d:=1) rfl rfl (.inl rfl) rfl (fs0 (bY (cd:=3) (d:=3) (dsi:=[0,0]) (lk:=[1]) (BlkOkC.of (ns:=["_law_row","_law_ahead"]) (js:=[none,some 3]) (N0:=jW) (sc0:=aq fw) rfl rfl (by decide +kernel)) rfl (aU (K:=K) rfl (fxi rfl (fv 0))) (fun _ _ _ _ _=>(fgn 0 [0,0] (ndk ["_law_row","_law_ahead"]))) (fun _ _ _ _ _=>bu) (fun _ _ _ _ _=>(fcb (KH (K:=K) rfl rfl) T.sum0 (by decide +kernel) (fac (fs0 (bY (cd:=0) (d:=1) (dsi:=[0,0]) (lk:=[1]) (BlkOkC.inn (ns:=["_law_goal_here","_law_ahead"]) (js:=[none,some 1]) (N0:=["_law_row","_law_ahead"]) rfl rfl (by decide +kernel)) rfl (aU (K:=K) rfl (fv 0)) (fun _ _ _ _ _=>(fgn 0 [0,0] (ndk ["_law_goal_here","_law_ahead"]))) (fun _ _ _ _ _=>(ie (bf iV (fv 0) bo (aY _)))) (fun _ _ _ _ _=>(aX (bA (K:=K) rfl) (fvc 1) (fv 0) (fun _ _=>rfl))) rfl rfl (by decide) rfl (fun _=>rfl))) af))) rfl rfl (by decide) rfl (fun _=>rfl))) (by decide) rfl rfl rfl rfl rfl rfl rfl rfl) rfl))) PassesOwn.never) (frt (cO (ds0:=[0,0,0,0]) (bQ (p:=false) (i:=2) rfl (.inl rfl) rfl rfl rfl) rfl))))
def wZ(T:Bl mg)(F:Fun K "_law_due" "_law_due" fU f fd):FnOk P w K mg base CX0 (k+1) f fd ["_law_machine_here"] (spF K [0] 0 fX):=
 F.okR wO ⟨[],[0,0,0,0,0,0,0,0,0,0,0],0,[]⟩ [0,0,0,0,0,0,0,0,0,0,0] fun nd _ _ _ _ _ _ hr=>(ah (cB (i:=1) (d:=1) (ds':=[0,1,0,0,0,0,0,0,0,0,0]) nd rfl (.inr rfl) (jC (fs:=[((eC (.int 0)),(aw ag))]) (fQ ai (fs0 (av (d:=3) (c:=3) af rfl rfl (by decide))) k7) rfl rfl (fun z=>nomatch z) (by decide)) rfl (by decide) (by decide) rfl (.inl rfl)) (ah (aR 2 [0,1,1,0,0,0,0,0,0,0,0] nd (dJ (d':=1) (av (d:=3) (c:=3) (fac ai af) rfl rfl (by decide)) (by decide))) (ah (aR 3 [0,1,1,0,0,0,0,0,0,0,0] nd (fs0 ai)) (ah (jP (ds:=[0,1,1,0,0,0,0,0,0,0,0]) (ig (ds0:=[0,1,0,0,0,0,0,0,0,0,0]) (bf k8 (fv 3) (fln rfl T.len0 (fac (fv 2) af)) (aY _)) rfl) (ah (aR 4 [0,1,1,0,0,0,0,0,0,0,0] nd (oJ (K:=K) (i:=2) rfl rfl (.inl rfl) rfl (fv 3) (fun _ _=>rfl) rfl rfl)) (ah (bv (ds1:=[0,1,1,0,0,0,0,0,0,0,0]) rfl (jB (K:=K) rfl rfl T.enumerate0 (fac (aX (bA (K:=K) rfl) (fxi rfl (fvc 0)) (fv 4) (fun _ _=>rfl)) af) rfl) (fR (K:=K) rfl rfl (bH (fgn 5 [0,1,1,0,0,0,0,0,0,0,0] nd) (bH (fgn 6 [0,1,1,0,0,0,0,0,0,0,0] nd) eY rfl) rfl) gI rfl rfl) (aH (aL (ds2:=[0,1,1,0,0,0,0,0,0,0,0]) (ig (ds0:=[0,0,1,0,0,0,0,0,0,0,0]) (qpt (fL (bf iV (fv 6) bo (aY _)) (eD (rg (cH hr) (fv 6) (fvc 1) (by with_unfolding_all rfl))))) rfl) (ah (ge (i:=1) (cH hr) rfl (.inr (.inl rfl)) (fs0 (ao (aQ (K:=K) rfl) (cx (i:=1) (cH hr) rfl (.inr (.inl rfl)) rfl (fv 4) (fun _ _=>rfl) rfl rfl) (av (d:=1) (c:=0) (fac (fv 5) af) rfl rfl (by decide)))) (fv 6) rfl rfl rfl rfl) (aH (cC (cS (K:=K) (i:=2) (d:=1) rfl rfl (.inl rfl) rfl (fv 6) (by decide) rfl rfl rfl rfl rfl rfl rfl rfl) rfl))) aE)) PassesOwn.never (fun _=>rfl)) (aH (aR 3 [0,1,1,0,0,0,0,0,0,0,0] nd (fs0 (ao bC (fv 3) ai)))))) PassesOwn.never) (ah (fP (ds1:=[0,1,0,0,0,0,0,0,0,0,0]) (dz (i:=7) (ds':=[0,1,0,0,0,0,0,1,0,0,0]) (cd:=0) (d:=1) (dsi:=[0,0]) (lk:=[1]) nd rfl rfl (BlkOkC.of (ns:=["_law_stand","_law_machine_here"]) (js:=[none,some 0]) (N0:=jH) (sc0:=aq fU) rfl rfl (by decide +kernel)) rfl (aU (K:=K) rfl (cO (ds0:=[0,1,0,0,0,0,0,0,0,0,0]) (bQ (p:=false) (i:=2) rfl (.inl rfl) rfl rfl rfl) rfl)) (fun _ _ _ _ _=>(fgn 0 [0,0] (ndk ["_law_stand","_law_machine_here"]))) (fun _ _ _ _ _=>(ie (aS (aX (bA (K:=K) rfl) (fxi rfl (fvc 1)) (fv 0) (fun _ _=>rfl)) (fun _=>rfl)))) (fun _ _ _ _ _=>(fv 0)) rfl rfl rfl (by decide) rfl (by decide) (by decide) rfl (fun _=>rfl)) rfl) (ah (aR 8 [0,1,0,0,0,0,0,0,0,0,0] nd (fs0 (fcb (Gg (K:=K) rfl rfl) T.max0 (by decide +kernel) (fac (fs0 (bY (cd:=3) (d:=3) (dsi:=[0,1]) (lk:=[1]) (BlkOkC.of (ns:=["_law_stand","_law_rows"]) (js:=[none,some 1]) (N0:=jH) (sc0:=aq fU) rfl rfl (by decide +kernel)) rfl (aU (K:=K) rfl (fv 2)) (fun _ _ _ _ _=>(fgn 0 [0,1] (ndk ["_law_stand","_law_rows"]))) (fun _ _ _ _ _=>bu) (fun _ _ _ _ _=>(fln rfl T.len0 (fac (cx (i:=1) (cH hr) rfl (.inr (.inl rfl)) rfl (fv 0) (fun _ _=>rfl) rfl rfl) af))) rfl rfl (by decide) rfl (fun _=>rfl))) af)))) (ah (aL (ds2:=[0,1,0,0,0,0,0,0,0,0,0]) (ftn rfl hr.units (fv 7) (av (d:=3) (c:=3) af rfl rfl (by decide))) (aH (aR 8 [0,1,0,0,0,0,0,0,0,0,0] nd (fs0 (fln rfl T.len0 (fac (cx (i:=1) (cH hr) rfl (.inr (.inl rfl)) rfl (fxi rfl (fv 7)) (fun _ _=>rfl) rfl rfl) af))))) aE) (ah (aR 9 [0,1,0,0,0,0,0,0,0,1,0] nd (dJ (d':=1) (av (d:=3) (c:=3) af rfl rfl (by decide)) (by decide))) (ah (bv (ds1:=[0,1,0,0,0,0,0,0,0,1,0]) rfl (dG rfl T.range0 (fac (fs0 (ao bC (fv 8) ai)) af) rfl) (la (i:=10) (ds':=[0,1,0,0,0,0,0,0,0,1,0]) nd rfl (.inr rfl) rfl (by decide) (by decide) (.inl rfl)) (aH (cC (cS (K:=K) (i:=9) (d:=1) rfl rfl (.inl rfl) rfl (fs0 (fcb (zm (K:=K) rfl) T.sorted0 (by decide +kernel) (fac (fs0 (bY (cd:=0) (d:=1) (dsi:=[0,1,0]) (lk:=[1,2]) (BlkOkC.of (ns:=["_law_stand","_law_rows","_law_size"]) (js:=[none,some 1,some 10]) (N0:=jH) (sc0:=aq fU) rfl rfl (by decide +kernel)) rfl (aU (K:=K) rfl (fv 2)) (fun _ _ _ _ _=>(fgn 0 [0,1,0] (ndk ["_law_stand","_law_rows","_law_size"]))) (fun _ _ _ _ _=>(ie (fte rfl hr.units (fln rfl T.len0 (fac (cx (i:=1) (cH hr) rfl (.inr (.inl rfl)) rfl (fv 0) (fun _ _=>rfl) rfl rfl) af)) (fvc 2)))) (fun _ _ _ _ _=>(fv 0)) rfl rfl (by decide) rfl (fun _=>rfl))) af))) (by decide) rfl rfl rfl rfl rfl rfl rfl rfl) rfl)) PassesOwn.never (fun _=>rfl)) (ah (aL (ds2:=[0,1,0,0,0,0,0,0,0,1,0]) (fte rfl hr.units (fv 7) (av (d:=3) (c:=3) af rfl rfl (by decide))) (frt (a7 (d:=0) (c:=0) (fac aJ (fac (cO (ds0:=[0,1,0,0,0,0,0,0,0,0,0]) (bQ (p:=false) (i:=9) rfl (.inl rfl) rfl rfl rfl) rfl) af)) rfl rfl)) aE) (frt (a7 (d:=0) (c:=0) (fac aJ (fac (cx (i:=1) (cH hr) rfl (.inr (.inl rfl)) rfl (fxi rfl (fv 7)) (fun _ _=>rfl) rfl rfl) (fac (cO (ds0:=[0,1,0,0,0,0,0,0,0,0,0]) (bQ (p:=false) (i:=9) rfl (.inl rfl) rfl rfl rfl) rfl) af))) rfl rfl))))))))))))
def qB(T:Bl mg)(aM:cy P w K mg base k)(F:Fun K "_law_mingled" "_law_mingled" iC f fd):FnOk P w K mg base CX0 (k+1) f fd ["_law_pen_here","_law_layers"] (spF K [1,0] 1 de):=
 F.okR qv ⟨[0],[1,0,0,0,0,0],1,[]⟩ [1,0,0,0,0,0] fun nd _ _ _ _ _ _ hr=>(ah (aR 2 [1,0,1,0,0,0] nd (dJ (d':=1) (av (d:=3) (c:=3) af rfl rfl (by decide)) (by decide))) (ah (bv (ds1:=[1,0,1,0,0,0]) rfl (jB (K:=K) rfl rfl T.enumerate0 (fac (fs0 (aP (bL (K:=K) rfl) (fv 1) a6 (aZ (bM cg ai)))) af) rfl) (fR (K:=K) rfl rfl (bH (fgn 3 [1,0,1,0,0,0] nd) (bH (fgn 4 [1,0,1,0,0,0] nd) eY rfl) rfl) gI rfl rfl) (ah (aR 5 [1,0,1,0,0,0] nd (fs0 (ao (aQ (K:=K) rfl) (mw (K:=K) rfl (fv 4) (bM cg ai)) (aP (bL (K:=K) rfl) (fv 4) a6 (aZ ai))))) (ah (aL (ds2:=[1,0,1,0,0,0]) (qpt (fL (bf xz (fv 3) ai (aY _)) (eD (fte rfl hr.units (fns aM hr (fsl 0 (fac (fs0 ai) af))) ai)))) (aH (aR 5 [1,0,1,0,0,0] nd (fs0 (ao (aQ (K:=K) rfl) (fv 5) (aX (bA (K:=K) rfl) (fv 1) (fns aM hr (fsl 0 (fac (fv 3) af))) (fun _ _=>rfl)))))) aE) (aH (cC (cS (K:=K) (i:=2) (d:=1) rfl rfl (.inl rfl) rfl (fv 5) (by decide) rfl rfl rfl rfl rfl rfl rfl rfl) rfl)))) PassesOwn.never (fun _=>rfl)) (frt (ao (aQ (K:=K) rfl) (cO (ds0:=[1,0,0,0,0,0]) (bQ (p:=false) (i:=2) rfl (.inl rfl) rfl rfl rfl) rfl) (av (d:=2) (c:=1) (fac (ao (aQ (K:=K) rfl) (aX (bA (K:=K) rfl) (fv 1) (bM cg ai) (fun _ _=>rfl)) (aP (bL (K:=K) rfl) (aX (bA (K:=K) rfl) (fv 1) (bM cg ai) (fun _ _=>rfl)) a6 (aZ ai))) af) rfl rfl (by decide))))))
def rR(T:Bl mg)(F:Fun K "_law_row_to" "_law_row_to" ji f fd):FnOk P w K mg base CX0 (k+1) f fd ["_law_machine_here","_law_start","_law_goals"] (spF K [0,0,0] 0 eR):=
 F.okR rO ⟨[],[0,0,0,0,0,0,0,0,0,0],0,[]⟩ [0,0,0,0,0,0,0,0,0,0] fun nd _ _ _ _ _ _ hr=>(ah (aR 3 [0,0,0,1,0,0,0,0,0,0] nd (av (d:=1) (c:=0) (fac (a7 (d:=0) (c:=0) (fac (fv 1) (fac (av (d:=3) (c:=3) af rfl rfl (by decide)) af)) rfl rfl) af) rfl rfl (by decide))) (ah (aR 4 [0,0,0,1,1,0,0,0,0,0] nd (jC (fs:=[((eS3 (ad 1)),(eC (.bool true)))]) (fQ (Gv (fv 1)) (fs0 bd) k7) rfl rfl (fun z=>nomatch z) (by decide))) (ah (aR 5 [0,0,0,1,1,0,0,0,0,0] nd (fs0 ai)) (ah (jP (ds:=[0,0,0,1,1,0,0,0,0,0]) (ig (ds0:=[0,0,0,0,1,0,0,0,0,0]) (bf k8 (fv 5) (fln rfl T.len0 (fac (fv 3) af)) (aY _)) rfl) (ah (zc rfl (oJ (K:=K) (i:=3) rfl rfl (.inl rfl) rfl (fv 5) (fun _ _=>rfl) rfl rfl) (fR (K:=K) rfl rfl (bH (fgn 6 [0,0,0,1,1,0,0,0,0,0] nd) (bH (fgn 7 [0,0,0,1,1,0,0,0,0,0] nd) eY rfl) rfl) gI rfl rfl) rfl rfl rfl) (ah (aL (ds2:=[0,0,0,1,1,0,0,0,0,0]) (bf (xy (K:=K) rfl hr.units) (fv 6) (fv 2) (by with_unfolding_all rfl)) (frt (fv 7)) aE) (ah (bv (ds1:=[0,0,0,1,1,0,0,0,0,0]) rfl (jB (K:=K) rfl rfl T.enumerate0 (fac (aX (bA (K:=K) rfl) (fxi rfl (fv 0)) (fv 6) (fun _ _=>rfl)) af) rfl) (fR (K:=K) rfl rfl (bH (fgn 8 [0,0,0,1,1,0,0,0,0,0] nd) (bH (fgn 9 [0,0,0,1,1,0,0,0,0,0] nd) eY rfl) rfl) gI rfl rfl) (aH (aL (ds2:=[0,0,0,1,1,0,0,0,0,0]) (ig (ds0:=[0,0,0,1,0,0,0,0,0,0]) (qpt (fL (bf iV (fv 9) bo (aY _)) (eD (rg (cH hr) (fv 9) (fv 4) (by with_unfolding_all rfl))))) rfl) (ah (ge (i:=4) (cH hr) rfl (.inl rfl) (fs0 bd) (fv 9) rfl rfl rfl rfl) (aH (cC (cS (K:=K) (i:=3) (d:=1) rfl rfl (.inl rfl) rfl (a7 (d:=0) (c:=0) (fac (fv 9) (fac (ao (aQ (K:=K) rfl) (fv 7) (av (d:=1) (c:=0) (fac (fv 8) af) rfl rfl (by decide))) af)) rfl rfl) (by decide) rfl rfl rfl rfl rfl rfl rfl rfl) rfl))) aE)) PassesOwn.never (fun _=>rfl)) (aH (aR 5 [0,0,0,1,1,0,0,0,0,0] nd (fs0 (ao bC (fv 5) ai))))))) PassesOwn.never) (frt (fs0 bo))))))
def qA(T:Bl mg)(zZ:pT P w K mg base k)(sd:ku P w K mg base k)(uV:lM P w K mg base k)(F:Fun K "_law_written" "_law_written" dO f fd):FnOk P w K mg base CX0 (k+1) f fd ["_law_pen_here","_law_machine_here"] (spF K [1,0] 0 db):=
 F.okR qu ⟨[0],[1,0,0,0,0,0,0],0,[]⟩ [1,0,0,0,0,0,0] fun nd _ _ _ _ _ _ hr=>(ah (aR 2 [1,0,0,0,0,0,0] nd (fnn zZ hr (fac (fvc 1) af))) (ah (aR 3 [1,0,0,0,0,0,0] nd (aX (bA (K:=K) rfl) (fv 2) (bM cg ai) (fun _ _=>rfl))) (ah (aR 4 [1,0,0,0,1,0,0] nd (av (d:=1) (c:=0) (fac (fv 2) (fac (ao (kg (K:=K) rfl) (aP (kh (K:=K) rfl) (fv 2) a6 (aZ (bM cg ai))) (a7 (d:=2) (c:=1) (fac (fns sd hr (fsl 0 (fac (fv 3) af))) af) rfl rfl)) af)) rfl rfl (by decide))) (ah (aL (ds2:=[1,0,0,0,1,0,0]) (fte rfl hr.units (fln rfl T.len0 (fac (fv 2) af)) ai) (ah (cC (cS (K:=K) (i:=4) (d:=1) rfl rfl (.inl rfl) rfl (fs0 (a7 (d:=2) (c:=1) (fac aJ (fac (av (d:=2) (c:=1) (fac (fcb (m6 (K:=K) rfl rfl) T.sum0 (by decide +kernel) (fac (fv 3) (fac (fs0 (av (d:=3) (c:=3) af rfl rfl (by decide))) af))) af) rfl rfl (by decide)) af)) rfl rfl)) (by decide) rfl rfl rfl rfl rfl rfl rfl rfl) rfl) (ah (cC (cS (K:=K) (i:=4) (d:=1) rfl rfl (.inl rfl) rfl (fs0 (a7 (d:=2) (c:=1) (fac aJ (fac (av (d:=1) (c:=0) (fac (fcb (m6 (K:=K) rfl rfl) T.sum0 (by decide +kernel) (fac (fv 3) (fac (fs0 (av (d:=3) (c:=3) af rfl rfl (by decide))) af))) (fac (av (d:=3) (c:=3) af rfl rfl (by decide)) (fac (aX (bA (K:=K) rfl) (fv 3) (bM cg ai) (fun _ _=>rfl)) af))) rfl rfl (by decide)) af)) rfl rfl)) (by decide) rfl rfl rfl rfl rfl rfl rfl rfl) rfl) (frt (cO (ds0:=[1,0,0,0,0,0,0]) (bQ (p:=false) (i:=4) rfl (.inl rfl) rfl rfl rfl) rfl)))) aE) (ah (cB (i:=5) (d:=0) (ds':=[1,0,0,0,1,0,0]) nd rfl (.inr rfl) (fs0 (bY (cd:=0) (d:=1) (dsi:=[0,0]) (lk:=[1]) (BlkOkC.of (ns:=["_law_stand","_law_machine_here"]) (js:=[none,some 1]) (N0:=iE) (sc0:=aq dO) rfl rfl (by decide +kernel)) rfl (dG rfl T.range0 (fac (fs0 (fln rfl T.len0 (fac (fxi rfl (fvc 1)) af))) af) rfl) (fun _ _ _ _ _=>(fgn 0 [0,0] (ndk ["_law_stand","_law_machine_here"]))) (fun _ _ _ _ _=>(ie (aS (aX (bA (K:=K) rfl) (fxi rfl (fvc 1)) (fv 0) (fun _ _=>rfl)) (fun _=>rfl)))) (fun _ _ _ _ _=>(fv 0)) rfl rfl (by decide) rfl (fun _=>rfl))) rfl (by decide) (by decide) rfl (.inl rfl)) (ah (fP (ds1:=[1,0,0,0,1,0,0]) (dz (i:=6) (ds':=[1,0,0,0,1,0,1]) (cd:=0) (d:=1) (dsi:=[0,0,0]) (lk:=[1,2]) nd rfl rfl (BlkOkC.of (ns:=["_law_stand","_law_machine_here","_law_ends"]) (js:=[none,some 1,some 5]) (N0:=iE) (sc0:=aq dO) rfl rfl (by decide +kernel)) rfl (dG rfl T.range0 (fac (fs0 (fln rfl T.len0 (fac (fxi rfl (fvc 1)) af))) af) rfl) (fun _ _ _ _ _=>(fgn 0 [0,0,0] (ndk ["_law_stand","_law_machine_here","_law_ends"]))) (fun _ _ _ _ _=>(ie (bf mt (fnn uV hr (fac (fvc 1) (fac (fv 0) (fac (fvc 2) af)))) bo (aY _)))) (fun _ _ _ _ _=>(fv 0)) rfl rfl rfl (by decide) rfl (by decide) (by decide) rfl (fun _=>rfl)) rfl) (frt (fs0 (ao (aQ (K:=K) rfl) (cO (ds0:=[1,0,0,0,0,0,0]) (bQ (p:=false) (i:=4) rfl (.inl rfl) rfl rfl rfl) rfl) (av (d:=1) (c:=0) (fac (ao (kg (K:=K) rfl) (aP (kh (K:=K) rfl) (fv 2) a6 (aZ (bM cg ai))) (a7 (d:=2) (c:=1) (fac (ao (aQ (K:=K) rfl) (av (d:=2) (c:=1) (fac (ao (aQ (K:=K) rfl) (fxi rfl (fv 3)) (fv 6)) af) rfl rfl (by decide)) (aP (bL (K:=K) rfl) (fv 3) (aZ ai) a6)) af) rfl rfl)) af) rfl rfl (by decide)))))))))))
def vf(T:Bl mg)(aM:cy P w K mg base k)(F:Fun K "_law_ring" "_law_ring" iQ f fd):FnOk P w K mg base CX0 (k+1) f fd ["_law_pen_here","_law_signs_here"] (spF K [1,0] 0 fg):=
 F.okR u4 ⟨[0],[1,0,0,0,0,0],0,[]⟩ [1,0,0,0,0,0] fun nd _ _ _ _ _ _ hr=>(ah (cB (i:=2) (d:=0) (ds':=[1,0,0,0,0,0]) nd rfl (.inr rfl) (fs0 (ao bC ai (fns aM hr (fsl 0 (fac (fs0 ai) af))))) rfl (by decide) (by decide) rfl (.inl rfl)) (ah (aR 3 [1,0,0,2,0,0] nd (dJ (d':=2) (av (d:=3) (c:=3) af rfl rfl (by decide)) (by decide))) (ah (bv (ds1:=[1,0,0,2,0,0]) rfl (dG rfl T.range0 (fac (fvc 2) af) rfl) (fgn 4 [1,0,0,2,0,0] nd) (ah (aR 5 [1,0,0,2,0,1] nd (ao (wd (K:=K) rfl) (av (d:=3) (c:=3) (fac bo af) rfl rfl (by decide)) (fv 1))) (ah (k6 (i:=5) (d:=1) (c:=0) rfl (.inl rfl) (fs0 (ao ij (ao bC (fv 4) ai) (ao eF (fvc 2) ai))) (fns aM hr (fsl 0 (fac (fv 1) af))) rfl (by decide) rfl rfl rfl (fun _=>rfl) rfl rfl rfl) (aH (cC (cS (K:=K) (i:=3) (d:=2) rfl rfl (.inl rfl) rfl (wf (i:=5) (ds':=[1,0,0,2,0,0]) rfl (.inl rfl) rfl rfl rfl rfl) (by decide) rfl rfl rfl rfl rfl rfl rfl rfl) rfl)))) PassesOwn.never (fun _=>rfl)) (ah (vp (p:=false) (i:=3) (d:=2) rfl rfl (fs0 (ao eF (fvc 2) ai)) (A6 (i:=3) (d:=2) rfl rfl (zd (i:=3) rfl (.inl rfl) rfl rfl) (fns aM hr (fsl 0 (fac (fs0 (ao eF (fvc 2) ai)) af))) (by decide) (by first|exact .inl rfl|exact .inr rfl) (fun _ _=>rfl)) (Bh aM hr rfl (fsl 0 (fac (fv 1) af)) (AA rfl) rfl rfl rfl rfl) (by decide) rfl (fun _=>rfl) rfl rfl rfl) (ah (k6 (i:=3) (d:=2) (c:=1) rfl (.inl rfl) (ao (wd (K:=K) rfl) (av (d:=3) (c:=3) (fac bo af) rfl rfl (by decide)) (fv 1)) (ao eF (fvc 2) ai) rfl (by decide) rfl rfl rfl (fun _=>rfl) rfl rfl rfl) (frt (a7 (d:=0) (c:=0) (fac (bY (cd:=3) (d:=3) (dsi:=[0,0]) (lk:=[1]) (BlkOkC.of (ns:=["_law_stand","_law_many"]) (js:=[none,some 2]) (N0:=pX) (sc0:=aq iQ) rfl rfl (by decide +kernel)) rfl (dG rfl T.range0 (fac (fvc 2) af) rfl) (fun _ _ _ _ _=>(fgn 0 [0,0] (ndk ["_law_stand","_law_many"]))) (fun _ _ _ _ _=>bu) (fun _ _ _ _ _=>(bB (gR (K:=K) rfl hr.units) (fv 0) (ao eF (fvc 1) ai) (aY _))) rfl rfl (by decide) rfl (fun _=>rfl)) (fac (cO (ds0:=[1,0,0,0,0,0]) (bQ (p:=false) (i:=3) rfl (.inl rfl) rfl rfl rfl) rfl) af)) rfl rfl)))))))
def tK(T:Bl mg)(aM:cy P w K mg base k)(F:Fun K "_law_lists" "_law_lists" gY f fd):FnOk P w K mg base CX0 (k+1) f fd ["_law_pen_here","_law_machine_here","_law_some"] (spF K [1,0,0] 1 cM):=
 F.okR sT ⟨[0],[1,0,0,0,0,0,0],1,[]⟩ [1,0,0,0,0,0,0] fun nd _ _ _ _ _ _ hr=>(ah (cB (i:=3) (d:=0) (ds':=[1,0,0,0,0,0,0]) nd rfl (.inr rfl) (fns aM hr (fsl 0 (fac (fs0 (fcb (Gh rfl) T.max0 (by decide +kernel) (fac (fs0 ai) (fac (fs0 (fln rfl T.len0 (fac (fvc 2) af))) af)))) af))) rfl (by decide) (by decide) rfl (.inl rfl)) (ah (aR 4 [1,0,0,0,0,0,0] nd (fns aM hr (fsl 0 (fac (fs0 (fln rfl T.len0 (fac (fxi rfl (fv 1)) af))) af)))) (ah (aR 5 [1,0,0,0,0,0,0] nd (fs0 (av (d:=1) (c:=0) (fac bo (fac (bM cg ai) (fac ai (fac bd (fac bd (fac aJ (fac (ao zn ai ai) (fac (fln rfl T.len0 (fac (fxi rfl (fv 1)) af)) (fac (fln rfl T.len0 (fac (fxi rfl (fxi rfl (fv 1))) af)) (fac (fv 4) (fac (av (d:=3) (c:=3) (fac ai af) rfl rfl (by decide)) af))))))))))) rfl rfl (by decide)))) (ah (fP (ds1:=[1,0,0,0,0,0,0]) (dz (i:=6) (ds':=[1,0,0,0,0,0,2]) (cd:=1) (d:=2) (dsi:=[0,0,0]) (lk:=[1,2]) nd rfl rfl (BlkOkC.of (ns:=["_law_thing","_law_some","_law_at"]) (js:=[none,some 2,some 3]) (N0:=nX) (sc0:=aq gY) rfl rfl (by decide +kernel)) rfl (aU (K:=K) rfl (fv 5)) (fun _ _ _ _ _=>(fgn 0 [0,0,0] (ndk ["_law_thing","_law_some","_law_at"]))) (fun _ _ _ _ _=>bu) (fun _ _ _ _ _=>(ao (aQ (K:=K) rfl) (ao (aQ (K:=K) rfl) (aP (bL (K:=K) rfl) (fvc 1) a6 (aZ (fvc 2))) (av (d:=1) (c:=0) (fac (fv 0) af) rfl rfl (by decide))) (aP (bL (K:=K) rfl) (fvc 1) (aZ (ao bC (fvc 2) ai)) a6))) rfl rfl rfl (by decide) rfl (by decide) (by decide) rfl (fun _=>rfl)) rfl) (ah (aR 6 [1,0,0,0,0,0,0] nd (fs0 (ao (aQ (K:=K) rfl) (fv 6) (av (d:=1) (c:=0) (fac (ao (aQ (K:=K) rfl) (aP (bL (K:=K) rfl) (fvc 2) a6 (aZ (fvc 3))) (aP (bL (K:=K) rfl) (fvc 2) (aZ (ao bC (fvc 3) ai)) a6)) (fac (ao (aQ (K:=K) rfl) (fvc 2) (av (d:=1) (c:=0) (fac (fv 4) af) rfl rfl (by decide))) (fac (ao (aQ (K:=K) rfl) (fvc 2) (av (d:=3) (c:=3) (fac ai af) rfl rfl (by decide))) (fac (ao (aQ (K:=K) rfl) (fvc 2) (av (d:=3) (c:=3) (fac bd af) rfl rfl (by decide))) (fac (mw (K:=K) rfl (fvc 2) (bM cg ai)) (fac (fct (uo (K:=K) rfl) T.tuple0 (by decide +kernel) (fac (fvc 2) af)) (fac (av (d:=3) (c:=3) af rfl rfl (by decide)) af))))))) rfl rfl (by decide))))) (frt (ao (aQ (K:=K) rfl) (fv 6) (av (d:=2) (c:=1) (fac bo (fac ai (fac aJ (fac (jC (fs:=[((eC (.int 0)),(eC (.int 0)))]) (fQ ai (fs0 ai) k7) rfl rfl (fun z=>nomatch z) (by decide)) (fac (av (d:=1) (c:=0) (fac (fvc 2) af) rfl rfl (by decide)) af))))) rfl rfl (by decide)))))))))
def vm(T:Bl mg)(aM:cy P w K mg base k)(n6:mO P w K mg base k)(F:Fun K "_law_bent" "_law_bent" fc f fd):FnOk P w K mg base CX0 (k+1) f fd ["_law_pen_here","_law_machine_here","_law_thing"] (spF K [1,0,0] 1 gw):=
 F.okR u8 ⟨[0],[1,0,0,0,0,0,0,0,0,0],1,[]⟩ [1,0,0,0,0,0,0,0,0,0] fun nd _ _ _ _ _ _ hr=>(ah (cB (i:=3) (d:=0) (ds':=[1,0,0,0,0,0,0,0,0,0]) nd rfl (.inr rfl) (aX (bA (K:=K) rfl) (fvc 2) (bM cg ai) (fun _ _=>rfl)) rfl (by decide) (by decide) rfl (.inl rfl)) (ah (cB (i:=4) (d:=0) (ds':=[1,0,0,0,0,0,0,0,0,0]) nd rfl (.inr rfl) (fns aM hr (fsl 0 (fac (fs0 (fln rfl T.len0 (fac (fvc 3) af))) af))) rfl (by decide) (by decide) rfl (.inl rfl)) (ah (aR 5 [1,0,0,0,0,0,0,0,0,0] nd (fns aM hr (fsl 0 (fac (fs0 (fln rfl T.len0 (fac (fvc 3) af))) af)))) (ah (aR 6 [1,0,0,0,0,0,1,0,0,0] nd (fct (m7 (K:=K) rfl rfl) T.list0 (by decide +kernel) (fac (fvc 3) af))) (ah (xx rfl (a7 (d:=0) (c:=0) (fac (aX (bA (K:=K) rfl) (fvc 3) (fv 5) (fun _ _=>rfl)) (fac (aX (bA (K:=K) rfl) (fvc 3) (fvc 4) (fun _ _=>rfl)) af)) rfl rfl) (zt (K:=K) rfl rfl (nF (rh (i:=6) (j:=4) rfl (.inl rfl) rfl (.inr (.inl rfl)) rfl rfl rfl rfl rfl (fun _=>rfl)) (nF (rh (i:=6) (j:=5) rfl (.inl rfl) rfl (.inl rfl) rfl rfl rfl rfl rfl (fun _=>rfl)) xA rfl) rfl) gI rfl rfl) rfl rfl rfl) (ah (fP (ds1:=[1,0,0,0,0,0,1,0,0,0]) (dz (i:=7) (ds':=[1,0,0,0,0,0,1,2,0,0]) (cd:=1) (d:=2) (dsi:=[0,0,0]) (lk:=[1,2]) nd rfl rfl (BlkOkC.of (ns:=["_law_bent_here","_law_layers","_law_at"]) (js:=[none,some 3,some 4]) (N0:=iS) (sc0:=aq fc) rfl rfl (by decide +kernel)) rfl (aU (K:=K) rfl (fs0 (fns n6 hr (fsl 0 (fac (fv 1) (fac (aX (bA (K:=K) rfl) (fvc 3) (fvc 4) (fun _ _=>rfl)) af)))))) (fun _ _ _ _ _=>(fgn 0 [0,0,0] (ndk ["_law_bent_here","_law_layers","_law_at"]))) (fun _ _ _ _ _=>bu) (fun _ _ _ _ _=>(ao (aQ (K:=K) rfl) (ao (aQ (K:=K) rfl) (aP (bL (K:=K) rfl) (fvc 1) a6 (aZ (fvc 2))) (av (d:=1) (c:=0) (fac (fv 0) af) rfl rfl (by decide))) (aP (bL (K:=K) rfl) (fvc 1) (aZ (ao bC (fvc 2) ai)) a6))) rfl rfl rfl (by decide) rfl (by decide) (by decide) rfl (fun _=>rfl)) rfl) (ah (aR 7 [1,0,0,0,0,0,0,0,0,0] nd (fs0 (ao (aQ (K:=K) rfl) (fv 7) (av (d:=1) (c:=0) (fac (ao (aQ (K:=K) rfl) (aP (bL (K:=K) rfl) (fvc 3) a6 (aZ (fvc 4))) (aP (bL (K:=K) rfl) (fvc 3) (aZ (ao bC (fvc 4) ai)) a6)) (fac (ao (aQ (K:=K) rfl) (ao (aQ (K:=K) rfl) (aP (bL (K:=K) rfl) (fvc 3) a6 (aZ (fvc 4))) (av (d:=1) (c:=0) (fac (aX (bA (K:=K) rfl) (fvc 3) (fvc 4) (fun _ _=>rfl)) af) rfl rfl (by decide))) (aP (bL (K:=K) rfl) (fvc 3) (aZ (fvc 4)) a6)) (fac (cO (ds0:=[1,0,0,0,0,0,0,0,0,0]) (bQ (p:=false) (i:=6) rfl (.inl rfl) rfl rfl rfl) rfl) (fac (mw (K:=K) rfl (fvc 3) (bM cg ai)) af)))) rfl rfl (by decide))))) (ah (aR 7 [1,0,0,0,0,0,0,0,0,0] nd (fs0 (ao (aQ (K:=K) rfl) (fv 7) (av (d:=1) (c:=0) (fac (ao (aQ (K:=K) rfl) (fvc 3) (av (d:=3) (c:=3) (fac (av (d:=3) (c:=3) af rfl rfl (by decide)) af) rfl rfl (by decide))) (fac (aP (bL (K:=K) rfl) (fvc 3) a6 (aZ (bM cg ai))) (fac (aP (bL (K:=K) rfl) (fvc 3) (aZ ai) a6) (fac (fct (uo (K:=K) rfl) T.tuple0 (by decide +kernel) (fac (fvc 3) af)) (fac (av (d:=3) (c:=3) af rfl rfl (by decide)) (fac bo (fac ai (fac (fcb (m6 (K:=K) rfl rfl) T.sum0 (by decide +kernel) (fac (fvc 3) (fac (fs0 (av (d:=3) (c:=3) af rfl rfl (by decide))) af))) af)))))))) rfl rfl (by decide))))) (ah (dz (i:=8) (ds':=[1,0,0,0,0,0,0,0,1,0]) (cd:=0) (d:=1) (dsi:=[0,0]) (lk:=[1]) nd rfl rfl (BlkOkC.of (ns:=["_law_one","_law_thing"]) (js:=[none,some 2]) (N0:=iS) (sc0:=aq fc) rfl rfl (by decide +kernel)) rfl (aU (K:=K) rfl (fv 7)) (fun _ _ _ _ _=>(fgn 0 [0,0] (ndk ["_law_one","_law_thing"]))) (fun _ _ _ _ _=>bu) (fun _ _ _ _ _=>(ao (kg (K:=K) rfl) (aP (kh (K:=K) rfl) (fvc 1) a6 (aZ (bM cg ai))) (a7 (d:=0) (c:=0) (fac (fv 0) af) rfl rfl))) rfl rfl rfl (by decide) rfl (by decide) (by decide) rfl (fun _=>rfl)) (ah (aL (ds2:=[1,0,0,0,0,0,0,0,1,0]) (fte rfl hr.units (fln rfl T.len0 (fac (fvc 2) af)) ai) (ah (aR 8 [1,0,0,0,0,0,0,0,0,0] nd (fs0 (ao (aQ (K:=K) rfl) (cO (ds0:=[1,0,0,0,0,0,0,0,0,0]) (bQ (p:=false) (i:=8) rfl (.inl rfl) rfl rfl rfl) rfl) (bY (cd:=0) (d:=1) (dsi:=[0,0]) (lk:=[1]) (BlkOkC.of (ns:=["_law_row","_law_layers"]) (js:=[none,some 3]) (N0:=iS) (sc0:=aq fc) rfl rfl (by decide +kernel)) rfl (aU (K:=K) rfl (fs0 (fns n6 hr (fsl 0 (fac (fv 1) (fac (fxi rfl (fvc 2)) af)))))) (fun _ _ _ _ _=>(fgn 0 [0,0] (ndk ["_law_row","_law_layers"]))) (fun _ _ _ _ _=>bu) (fun _ _ _ _ _=>(a7 (d:=0) (c:=0) (fac aJ (fac (fv 0) (fac (fvc 1) af))) rfl rfl)) rfl rfl (by decide) rfl (fun _=>rfl))))) (aH (aR 8 [1,0,0,0,0,0,0,0,1,0] nd (ao (aQ (K:=K) rfl) (fv 8) (av (d:=2) (c:=1) (fac (a7 (d:=2) (c:=1) (fac aJ (fac (ao (aQ (K:=K) rfl) (fxi rfl (fvc 2)) (av (d:=3) (c:=3) (fac ai af) rfl rfl (by decide))) (fac (ao (aQ (K:=K) rfl) (fvc 3) (av (d:=3) (c:=3) (fac (av (d:=3) (c:=3) (fac ai af) rfl rfl (by decide)) af) rfl rfl (by decide))) af))) rfl rfl) (fac (a7 (d:=2) (c:=1) (fac aJ (fac (ao (aQ (K:=K) rfl) (fxi rfl (fvc 2)) (av (d:=3) (c:=3) (fac ai af) rfl rfl (by decide))) (fac (ao (aQ (K:=K) rfl) (fvc 3) (av (d:=3) (c:=3) (fac (av (d:=3) (c:=3) af rfl rfl (by decide)) af) rfl rfl (by decide))) af))) rfl rfl) af)) rfl rfl (by decide)))))) aE) (ah (bv (ds1:=[1,0,0,0,0,0,0,0,1,0]) rfl (aU (K:=K) rfl (fs0 (a7 (d:=3) (c:=3) (fac aJ (fac aJ (fac aJ (fac aJ (fac bo (fac ai (fac bd (fac (av (d:=3) (c:=3) (fac aJ af) rfl rfl (by decide)) af)))))))) rfl rfl))) (fgn 9 [1,0,0,0,0,0,0,0,1,0] nd) (aH (cC (cS (K:=K) (i:=8) (d:=1) rfl rfl (.inl rfl) rfl (ao (kg (K:=K) rfl) (a7 (d:=0) (c:=0) (fac (fv 9) af) rfl rfl) (aP (kh (K:=K) rfl) (fvc 2) (aZ ai) a6)) (by decide) rfl rfl rfl rfl rfl rfl rfl rfl) rfl)) PassesOwn.never (fun _=>rfl)) (ah (aR 8 [1,0,0,0,0,0,0,0,0,0] nd (fs0 (ao (aQ (K:=K) rfl) (cO (ds0:=[1,0,0,0,0,0,0,0,0,0]) (bQ (p:=false) (i:=8) rfl (.inl rfl) rfl rfl rfl) rfl) (av (d:=1) (c:=0) (fac (aP (kh (K:=K) rfl) (fvc 2) a6 (aZ (bM cg ai))) (fac (ao (kg (K:=K) rfl) (fvc 2) (a7 (d:=0) (c:=0) (fac (fvc 3) af) rfl rfl)) (fac (fct (m7 (K:=K) rfl rfl) T.list0 (by decide +kernel) (fac (fvc 2) af)) (fac (a7 (d:=0) (c:=0) (fac (fvc 2) af) rfl rfl) (fac (zv (K:=K) rfl (fvc 2) (bM cg ai)) (fac (a7 (d:=0) (c:=0) (fac aJ (fac (av (d:=3) (c:=3) af rfl rfl (by decide)) (fac (fvc 3) af))) rfl rfl) (fac (a7 (d:=3) (c:=3) (fac aJ af) rfl rfl) af))))))) rfl rfl (by decide))))) (frt (ao (aQ (K:=K) rfl) (fv 8) (av (d:=1) (c:=0) (fac bo (fac ai (fac bd (fac aJ (fac (a7 (d:=3) (c:=3) af rfl rfl) (fac (av (d:=3) (c:=3) af rfl rfl (by decide)) (fac rj (fac (fvc 3) (fac (a7 (d:=0) (c:=0) (fac aJ (fac (fvc 3) af)) rfl rfl) (fac (a7 (d:=3) (c:=3) (fac aJ (fac (av (d:=3) (c:=3) af rfl rfl (by decide)) (fac (av (d:=3) (c:=3) (fac (av (d:=3) (c:=3) (fac ai af) rfl rfl (by decide)) af) rfl rfl (by decide)) af))) rfl rfl) af)))))))))) rfl rfl (by decide))))))))))))))))
def wX(T:Bl mg)(F:Fun K "is_whole" "is_whole" mG f fd):FnOk P w K mg base CX0 (k+1) f fd ["thing"] (spF K [0] 3 fW):=
 F.okR wM ⟨[],[0],3,[]⟩ [0] fun nd _ _ _ _ _ _ hr=>(frt (bR (bK (K:=K) (n:="int") rfl rfl T.isinstance0 rfl T.int0 (by decide +kernel) (by decide) (fv 0) (by decide) rfl rfl rfl rfl) (bJ (Bf (bK (K:=K) (n:="bool") rfl rfl T.isinstance0 rfl T.bool0 (by decide +kernel) (by decide) (fv 0) (by decide) rfl rfl rfl rfl)))))
def nr(T:Bl mg)(zY:pR P w K mg base k)(F:Fun K "is_whole_within" "is_whole_within" fN f fd):FnOk P w K mg base CX0 (k+1) f fd ["thing","low","high"] (spF K [0,0,0] 3 cT):=
 F.okR nq ⟨[],[0,0,0],3,[]⟩ [0,0,0] fun nd _ _ _ _ _ _ hr=>(frt (bR (fnn zY hr (fac (fv 0) af)) (bJ (xB k9 k9 (fv 1) (fv 0) (fv 2) (by with_unfolding_all rfl)))))
def lY(T:Bl mg)(oP:iK P w K mg base k)(F:Fun K "are_numbers_below" "are_numbers_below" dw f fd):FnOk P w K mg base CX0 (k+1) f fd ["many","thing"] (spF K [0,0] 3 bx):=
 F.okR lX ⟨[],[0,0],3,[]⟩ [0,0] fun nd _ _ _ _ _ _ hr=>(frt (bR (bK (K:=K) (n:="list") rfl rfl T.isinstance0 rfl T.list0 (by decide +kernel) (by decide) (fv 1) (by decide) rfl rfl rfl rfl) (bJ (fcb (je (K:=K) rfl rfl) T.all0 (by decide +kernel) (fac (fs0 (bY (cd:=3) (d:=3) (dsi:=[0,0]) (lk:=[1]) (BlkOkC.of (ns:=["number","many"]) (js:=[none,some 0]) (N0:=im) (sc0:=aq dw) rfl rfl (by decide +kernel)) rfl (aU (K:=K) rfl (fv 1)) (fun _ _ _ _ _=>(fgn 0 [0,0] (ndk ["number","many"]))) (fun _ _ _ _ _=>bu) (fun _ _ _ _ _=>(fnn oP hr (fac (fv 0) (fac (fs0 ai) (fac (fs0 (ao eF (fvc 1) ai)) af))))) rfl rfl (by decide) rfl (fun _=>rfl))) af)))))
def tD(T:Bl mg)(eQ:eh P w K mg base k)(F:Fun K "are_stands" "are_stands" jT f fd):FnOk P w K mg base CX0 (k+1) f fd ["machine","thing"] (spF K [0,0] 3 fB):=
 F.okR sN ⟨[],[0,0],3,[]⟩ [0,0] fun nd _ _ _ _ _ _ hr=>(frt (fnn eQ hr (fac (fs0 (fln rfl T.len0 (fac (fxi rfl (fv 0)) af))) (fac (fv 1) af))))
def tE(T:Bl mg)(vC:mJ P w K mg base k)(F:Fun K "are_layers" "are_layers" gW f fd):FnOk P w K mg base CX0 (k+1) f fd ["machine","thing"] (spF K [0,0] 3 cJ):=
 F.okR sO ⟨[],[0,0],3,[]⟩ [0,0] fun nd _ _ _ _ _ _ hr=>(ah (aL (ds2:=[0,0]) (qpt (bE (bm (aS (bK (K:=K) (n:="list") rfl rfl T.isinstance0 rfl T.list0 (by decide +kernel) (by decide) (fv 1) (by decide) rfl rfl rfl rfl) (fun _=>rfl))) (cu (bm (aS (fcb (je (K:=K) rfl rfl) T.all0 (by decide +kernel) (fac (fs0 (bY (cd:=3) (d:=3) (dsi:=[0,0]) (lk:=[1]) (BlkOkC.of (ns:=["layer","machine"]) (js:=[none,some 0]) (N0:=nV) (sc0:=aq gW) rfl rfl (by decide +kernel)) rfl (aU (K:=K) rfl (fv 1)) (fun _ _ _ _ _=>(fgn 0 [0,0] (ndk ["layer","machine"]))) (fun _ _ _ _ _=>bu) (fun _ _ _ _ _=>(fnn vC hr (fac (fvc 1) (fac (fv 0) af)))) rfl rfl (by decide) rfl (fun _=>rfl))) af)) (fun _=>rfl)))))) (frt bd) aE) (frt (bR (bB xz (fln rfl T.len0 (fac (fv 1) af)) ai (aY _)) (bJ (bB (xy (K:=K) rfl hr.units) ai (fxi rfl (fv 1)) (by with_unfolding_all rfl))))))
def qz(T:Bl mg)(F:Fun K "first_layers" "first_layers" iB f fd):FnOk P w K mg base CX0 (k+1) f fd ["layers"] (spF K [0] 1 dQ):=
 F.okR qt ⟨[],[0,0,0,0,0],1,[]⟩ [0,0,0,0,0] fun nd _ _ _ _ _ _ hr=>(ah (aR 1 [0,1,0,0,0] nd (dJ (d':=1) rj (by decide))) (ah (bv (ds1:=[0,1,0,0,0]) rfl (jB (K:=K) rfl rfl T.enumerate0 (fac (fv 0) af) rfl) (fR (K:=K) rfl rfl (bH (fgn 2 [0,1,0,0,0] nd) (bH (fgn 3 [0,1,0,0,0] nd) eY rfl) rfl) gI rfl rfl) (aH (bv (ds1:=[0,1,0,0,0]) rfl (aU (K:=K) rfl (fv 3)) (fgn 4 [0,1,0,0,0] nd) (aH (xw (K:=K) (i:=1) rfl (.inl rfl) rfl rfl (fv 4) (fv 2) ⟨rfl,rfl,rfl,rfl⟩ rfl rfl rfl)) PassesOwn.never (fun _=>rfl))) PassesOwn.never (fun _=>rfl)) (frt (wf (i:=1) (ds':=[0,0,0,0,0]) rfl (.inl rfl) rfl rfl rfl rfl))))
def tG(T:Bl mg)(F:Fun K "all_within" "all_within" gX f fd):FnOk P w K mg base CX0 (k+1) f fd ["ways","first","number"] (spF K [0,0,0] 3 fC):=
 F.okR sP ⟨[],[0,0,0],3,[]⟩ [0,0,0] fun nd _ _ _ _ _ _ hr=>(frt (fcb (je (K:=K) rfl rfl) T.all0 (by decide +kernel) (fac (fs0 (bY (cd:=3) (d:=3) (dsi:=[0,0,0]) (lk:=[1,2]) (BlkOkC.of (ns:=["there","first","number"]) (js:=[none,some 1,some 2]) (N0:=nW) (sc0:=aq gX) rfl rfl (by decide +kernel)) rfl (aU (K:=K) rfl (fv 0)) (fun _ _ _ _ _=>(fgn 0 [0,0,0] (ndk ["there","first","number"]))) (fun _ _ _ _ _=>bu) (fun _ _ _ _ _=>(qH (bB mt (fv 0) bo (aY _)) (bJ (bR (Bi (cH hr) (fv 0) (fvc 1) (by with_unfolding_all rfl)) (bJ (bB k9 (zw (cH hr) (fvc 1) (fv 0) (fun _ _=>rfl)) (fvc 2) (aY _))))))) rfl rfl (by decide) rfl (fun _=>rfl))) af)))
def wW(T:Bl mg)(r6:kq P w K mg base k)(vD:mK P w K mg base k)(F:Fun K "leads_on" "leads_on" mE f fd):FnOk P w K mg base CX0 (k+1) f fd ["machine","layers","many"] (spF K [0,0,0] 3 fV):=
 F.okR wL ⟨[],[0,0,0,0,0,0],3,[]⟩ [0,0,0,0,0,0] fun nd _ _ _ _ _ _ hr=>(ah (aR 3 [0,0,0,1,0,0] nd (fnn r6 hr (fac (fv 1) af))) (ah (bv (ds1:=[0,0,0,0,0,0]) rfl (Gm (K:=K) (i:=3) (d:=1) true rfl rfl (.inl rfl) rfl (by decide) rfl rfl rfl rfl rfl) (fR (K:=K) rfl rfl (bH (fgn 4 [0,0,0,0,0,0] nd) (bH (fgn 5 [0,0,0,0,0,0] nd) eY rfl) rfl) gI rfl rfl) (aH (aL (ds2:=[0,0,0,0,0,0]) (qpt (fL (bf k8 (fv 5) (fv 2) (aY _)) (eD (qpt (bE (aS (aX (bA (K:=K) rfl) (fxi rfl (fv 0)) (fv 4) (fun _ _=>rfl)) (fun _=>rfl)) (cu (bm (aS (fnn vD hr (fac (aX (bA (K:=K) rfl) (fxi rfl (fv 0)) (fv 4) (fun _ _=>rfl)) (fac (fv 3) (fac (fs0 (ao bC (fv 5) ai)) af)))) (fun _=>rfl))))))))) (frt bd) aE)) PassesOwn.never (fun _=>rfl)) (frt bd)))
def tw(T:Bl mg)(jZ:jn P w K mg base k)(mS:lC P w K mg base k)(F:Fun K "holds_none" "holds_none" jS f fd):FnOk P w K mg base CX0 (k+1) f fd ["machine","layers"] (spF K [0,0] 3 fA):=
 F.okR sM ⟨[],[0,0],3,[]⟩ [0,0] fun nd _ _ _ _ _ _ hr=>(frt (bR (fnn jZ hr (fac (fv 0) (fac (fv 1) af))) (bJ (fnn mS hr (fac (fv 0) (fac (fv 1) (fac (fs0 (fln rfl T.len0 (fac (fv 1) af))) af)))))))
def Ay(T:Bl mg)(F:Fun K "is_end" "is_end" qQ f fd):FnOk P w K mg base CX0 (k+1) f fd ["machine","stand"] (spF K [0,0] 0 iX):=
 F.okR Am ⟨[],[0,0],0,[]⟩ [0,0] fun nd _ _ _ _ _ _ hr=>(frt (bR (bB iV (fv 1) bo (aY _)) (bJ (aX (bA (K:=K) rfl) (fxi rfl (fv 0)) (fv 1) (fun _ _=>rfl)))))
def L1(T:Bl mg)(F:Fun K "led" "led" BD f fd):FnOk P w K mg base CX0 (k+1) f fd ["machine","stand","sign"] (spF K [0,0,0] 0 qS):=
 F.okR LL ⟨[],[0,0,0],0,[]⟩ [0,0,0] fun nd _ _ _ _ _ _ hr=>(frt (Gy (bf mt (fv 1) bo (aY _)) (fs0 bo) (aX (bA (K:=K) rfl) (aX (bA (K:=K) rfl) (fxi rfl (fv 0)) (fv 1) (fun _ _=>rfl)) (fv 2) (fun _ _=>rfl))))
def JR(T:Bl mg)(NB:EJ P w K mg base k)(F:Fun K "gone" "gone" xL f fd):FnOk P w K mg base CX0 (k+1) f fd ["machine","stand","row"] (spF K [0,0,0] 0 qa):=
 F.okR Jl ⟨[],[0,0,0,0,0],0,[]⟩ [0,0,0,0,0] fun nd _ _ _ _ _ _ hr=>(ah (aR 3 [0,0,0,0,0] nd (fv 1)) (ah (bv (ds1:=[0,0,0,0,0]) rfl (aU (K:=K) rfl (fv 2)) (fgn 4 [0,0,0,0,0] nd) (aH (aR 3 [0,0,0,0,0] nd (fnn NB hr (fac (fv 0) (fac (fv 3) (fac (fv 4) af)))))) PassesOwn.never (fun _=>rfl)) (frt (fv 3))))
def JQ(T:Bl mg)(GW:uO P w K mg base k)(M3:zU P w K mg base k)(F:Fun K "lets" "lets" xK f fd):FnOk P w K mg base CX0 (k+1) f fd ["machine","row"] (spF K [0,0] 0 p5):=
 F.okR Jk ⟨[],[0,0],0,[]⟩ [0,0] fun nd _ _ _ _ _ _ hr=>(frt (fnn GW hr (fac (fv 0) (fac (fnn M3 hr (fac (fv 0) (fac (fs0 ai) (fac (fv 1) af)))) af))))
def oF(T:Bl mg)(F:Fun K "how_many_signs" "how_many_signs" gi f fd):FnOk P w K mg base CX0 (k+1) f fd ["machine"] (spF K [0] 3 eA):=
 F.okR oA ⟨[],[0],3,[]⟩ [0] fun nd _ _ _ _ _ _ hr=>(frt (fln rfl T.len0 (fac (fxi rfl (fxi rfl (fv 0))) af)))
def vc(T:Bl mg)(eQ:eh P w K mg base k)(p0:jk P w K mg base k)(F:Fun K "are_signs" "are_signs" lw f fd):FnOk P w K mg base CX0 (k+1) f fd ["machine","thing"] (spF K [0,0] 3 gt):=
 F.okR uZ ⟨[],[0,0],3,[]⟩ [0,0] fun nd _ _ _ _ _ _ hr=>(frt (fnn eQ hr (fac (fs0 (fnn p0 hr (fac (fv 0) af))) (fac (fv 1) af))))
def vb(T:Bl mg)(M1:zT P w K mg base k)(mS:lC P w K mg base k)(jZ:jn P w K mg base k)(xU:nL P w K mg base k)(F:Fun K "holds_row" "holds_row" lu f fd):FnOk P w K mg base CX0 (k+1) f fd ["machine","row","layers"] (spF K [0,0,0] 3 gq):=
 F.okR uY ⟨[],[0,0,0],3,[]⟩ [0,0,0] fun nd _ _ _ _ _ _ hr=>(ah (aL (ds2:=[0,0,0]) (qpt (bE (bm (aS (fnn jZ hr (fac (fv 0) (fac (fv 2) af))) (fun _=>rfl))) (cu (bm (aS (fnn xU hr (fac (fv 0) (fac (fv 1) af))) (fun _=>rfl)))))) (frt bd) aE) (frt (bR (bB (gR (K:=K) rfl hr.units) (fln rfl T.len0 (fac (fv 1) af)) (ao eF (fln rfl T.len0 (fac (fv 2) af)) ai) (aY _)) (bR (fnn M1 hr (fac (fv 0) (fac (fv 1) af))) (bJ (fnn mS hr (fac (fv 0) (fac (fv 2) (fac (fs0 (ao eF (fln rfl T.len0 (fac (fv 2) af)) ai)) af)))))))))
def oG(T:Bl mg)(vB:mI P w K mg base k)(xT:nK P w K mg base k)(F:Fun K "holds_shortest" "holds_shortest" gj f fd):FnOk P w K mg base CX0 (k+1) f fd ["machine","thing"] (spF K [0,0] 3 bt):=
 F.okR oB ⟨[],[0,0],3,[]⟩ [0,0] fun nd _ _ _ _ _ _ hr=>(ah (aL (ds2:=[0,0]) (qpt (bE (bm (aS (bK (K:=K) (n:="tuple") rfl rfl T.isinstance0 rfl T.tuple0 (by decide +kernel) (by decide) (fv 1) (by decide) rfl rfl rfl rfl) (fun _=>rfl))) (bE (fte rfl hr.units (fln rfl T.len0 (fac (fv 1) af)) ai) (cu (bm (aS (bK (K:=K) (n:="str") rfl rfl T.isinstance0 rfl T.str0 (by decide +kernel) (by decide) (fxi rfl (fv 1)) (by decide) rfl rfl rfl rfl) (fun _=>rfl))))))) (frt bd) aE) (ah (aL (ds2:=[0,0]) (fte rfl hr.units (fxi rfl (fv 1)) aJ) (frt (bR (bB (gR (K:=K) rfl hr.units) (fln rfl T.len0 (fac (fv 1) af)) ai (aY _)) (bJ (fnn xT hr (fac (fv 0) (fac (fxi rfl (fv 1)) (fac (fxi rfl (fv 1)) af))))))) aE) (frt (bR (bB (gR (K:=K) rfl hr.units) (fxi rfl (fv 1)) aJ (aY _)) (bR (bB (gR (K:=K) rfl hr.units) (fln rfl T.len0 (fac (fv 1) af)) ai (aY _)) (bJ (fnn vB hr (fac (fv 0) (fac (fxi rfl (fv 1)) af)))))))))
def vh(T:Bl mg)(F:Fun K "_law_gone" "_law_gone" lA f fd):FnOk P w K mg base CX0 (k+1) f fd ["_law_machine_here","_law_stand","_law_row"] (spF K [0,0,0] 0 gu):=
 F.okR u6 ⟨[],[0,0,0,0],0,[]⟩ [0,0,0,0] fun nd _ _ _ _ _ _ hr=>(ah (bv (ds1:=[0,0,0,0]) rfl (aU (K:=K) rfl (fv 2)) (fgn 3 [0,0,0,0] nd) (aH (aL (ds2:=[0,0,0,0]) (bf iV (fv 1) bo (aY _)) (aH (aR 1 [0,0,0,0] nd (aX (bA (K:=K) rfl) (aX (bA (K:=K) rfl) (fxi rfl (fv 0)) (fv 1) (fun _ _=>rfl)) (fv 3) (fun _ _=>rfl)))) aE)) PassesOwn.never (fun _=>rfl)) (frt (fv 1)))
def vg(T:Bl mg)(xY:nQ P w K mg base k)(F:Fun K "_law_lets" "_law_lets" lz f fd):FnOk P w K mg base CX0 (k+1) f fd ["_law_machine_here","_law_row"] (spF K [0,0] 0 fh):=
 F.okR u5 ⟨[],[0,0,0],0,[]⟩ [0,0,0] fun nd _ _ _ _ _ _ hr=>(ah (aR 2 [0,0,0] nd (fnn xY hr (fac (fv 0) (fac (fs0 ai) (fac (fv 1) af))))) (frt (bR (bB iV (fv 2) bo (aY _)) (bJ (aX (bA (K:=K) rfl) (fxi rfl (fv 0)) (fv 2) (fun _ _=>rfl))))))
def tL(T:Bl mg)(F:Fun K "_law_leads" "_law_leads" gZ f fd):FnOk P w K mg base CX0 (k+1) f fd ["_law_machine_here","_law_stand","_law_among"] (spF K [0,0,0] 3 dW):=
 F.okR sU ⟨[],[0,0,0],3,[]⟩ [0,0,0] fun nd _ _ _ _ _ _ hr=>(ah (aL (ds2:=[0,0,0]) (aS (aX (bA (K:=K) rfl) (fxi rfl (fv 0)) (fv 1) (fun _ _=>rfl)) (fun _=>rfl)) (frt bd) aE) (frt (fcb (je (K:=K) rfl rfl) T.all0 (by decide +kernel) (fac (fs0 (bY (cd:=3) (d:=3) (dsi:=[0,0]) (lk:=[1]) (BlkOkC.of (ns:=["_law_goal_here","_law_among"]) (js:=[none,some 2]) (N0:=nY) (sc0:=aq gZ) rfl rfl (by decide +kernel)) rfl (aU (K:=K) rfl (aX (bA (K:=K) rfl) (fxi rfl (fv 0)) (fv 1) (fun _ _=>rfl))) (fun _ _ _ _ _=>(fgn 0 [0,0] (ndk ["_law_goal_here","_law_among"]))) (fun _ _ _ _ _=>bu) (fun _ _ _ _ _=>(qH (bB mt (fv 0) bo (aY _)) (bJ (bB (xy (K:=K) rfl hr.units) (fv 0) (fvc 1) (by with_unfolding_all rfl))))) rfl rfl (by decide) rfl (fun _=>rfl))) af))))
def rS(T:Bl mg)(vH:mP P w K mg base k)(F:Fun K "_law_inside" "_law_inside" jj f fd):FnOk P w K mg base CX0 (k+1) f fd ["_law_machine_here","_law_layers","_law_last"] (spF K [0,0,0] 3 cD):=
 F.okR rP ⟨[],[0,0,0,0,0,0],3,[]⟩ [0,0,0,0,0,0] fun nd _ _ _ _ _ _ hr=>(ah (bv (ds1:=[0,0,0,0,0,0]) rfl (dG rfl T.range0 (fac (fs0 (ao bC (fv 2) ai)) af) rfl) (fgn 3 [0,0,0,0,0,0] nd) (ah (aR 4 [0,0,0,0,0,0] nd (fs0 (fcb (m6 (K:=K) rfl rfl) T.sum0 (by decide +kernel) (fac (fs0 (aP (bL (K:=K) rfl) (fv 1) a6 (aZ (ao bC (fv 3) ai)))) (fac (fs0 (av (d:=3) (c:=3) af rfl rfl (by decide))) af))))) (aH (bv (ds1:=[0,0,0,0,0,0]) rfl (aU (K:=K) rfl (aX (bA (K:=K) rfl) (fv 1) (fv 3) (fun _ _=>rfl))) (fgn 5 [0,0,0,0,0,0] nd) (aH (aL (ds2:=[0,0,0,0,0,0]) (bm (aS (fnn vH hr (fac (fv 0) (fac (fv 5) (fac (fv 4) af)))) (fun _=>rfl))) (frt bd) aE)) PassesOwn.never (fun _=>rfl)))) PassesOwn.never (fun _=>rfl)) (frt bd))
def rQ(T:Bl mg)(F:Fun K "_law_stands" "_law_stands" jh f fd):FnOk P w K mg base CX0 (k+1) f fd ["_law_machine_here","_law_thing"] (spF K [0,0] 3 cU):=
 F.okR rN ⟨[],[0,0,0],3,[]⟩ [0,0,0] fun nd _ _ _ _ _ _ hr=>(ah (aL (ds2:=[0,0,0]) (bm (aS (bK (K:=K) (n:="list") rfl rfl T.isinstance0 rfl T.list0 (by decide +kernel) (by decide) (fv 1) (by decide) rfl rfl rfl rfl) (fun _=>rfl))) (frt bd) aE) (ah (bv (ds1:=[0,0,0]) rfl (aU (K:=K) rfl (fv 1)) (fgn 2 [0,0,0] nd) (aH (aL (ds2:=[0,0,0]) (qpt (bE (bm (aS (bK (K:=K) (n:="int") rfl rfl T.isinstance0 rfl T.int0 (by decide +kernel) (by decide) (fv 2) (by decide) rfl rfl rfl rfl) (fun _=>rfl))) (bE (aS (bK (K:=K) (n:="bool") rfl rfl T.isinstance0 rfl T.bool0 (by decide +kernel) (by decide) (fv 2) (by decide) rfl rfl rfl rfl) (fun _=>rfl)) (cu (bm (pE k9 k8 ai (fv 2) (fln rfl T.len0 (fac (fxi rfl (fv 0)) af)) (by with_unfolding_all rfl))))))) (frt bd) aE)) PassesOwn.never (fun _=>rfl)) (frt bd)))
def tM(T:Bl mg)(xX:nP P w K mg base k)(mT:lN P w K mg base k)(uU:lL P w K mg base k)(F:Fun K "_law_holds" "_law_holds" hC f fd):FnOk P w K mg base CX0 (k+1) f fd ["_law_machine_here","_law_thing"] (spF K [0,0] 3 fE):=
 F.okR sV ⟨[],[0,0,0,0,0],3,[]⟩ [0,0,0,0,0] fun nd _ _ _ _ _ _ hr=>(ah (aL (ds2:=[0,0,0,0,0]) (qpt (bE (bm (aS (bK (K:=K) (n:="tuple") rfl rfl T.isinstance0 rfl T.tuple0 (by decide +kernel) (by decide) (fv 1) (by decide) rfl rfl rfl rfl) (fun _=>rfl))) (bE (bf (ut (K:=K) rfl hr.units) (fln rfl T.len0 (fac (fv 1) af)) (a7 (d:=3) (c:=3) (fac ai (fac ai af)) rfl rfl) (by with_unfolding_all rfl)) (cu (bm (aS (bK (K:=K) (n:="str") rfl rfl T.isinstance0 rfl T.str0 (by decide +kernel) (by decide) (fxi rfl (fv 1)) (by decide) rfl rfl rfl rfl) (fun _=>rfl))))))) (frt bd) aE) (ah (aR 2 [0,0,0,0,0] nd (aX (bA (K:=K) rfl) (fv 1) (bM cg ai) (fun _ _=>rfl))) (ah (aL (ds2:=[0,0,0,0,0]) (qpt (bE (bm (aS (bK (K:=K) (n:="list") rfl rfl T.isinstance0 rfl T.list0 (by decide +kernel) (by decide) (fv 2) (by decide) rfl rfl rfl rfl) (fun _=>rfl))) (bE (fte rfl hr.units (fln rfl T.len0 (fac (fv 2) af)) ai) (cu (bm (aS (fcb (je (K:=K) rfl rfl) T.all0 (by decide +kernel) (fac (fs0 (bY (cd:=3) (d:=3) (dsi:=[0,0]) (lk:=[1]) (BlkOkC.of (ns:=["_law_some","_law_machine_here"]) (js:=[none,some 0]) (N0:=nZ) (sc0:=aq hC) rfl rfl (by decide +kernel)) rfl (aU (K:=K) rfl (fv 2)) (fun _ _ _ _ _=>(fgn 0 [0,0] (ndk ["_law_some","_law_machine_here"]))) (fun _ _ _ _ _=>bu) (fun _ _ _ _ _=>(fnn uU hr (fac (fvc 1) (fac (fv 0) af)))) rfl rfl (by decide) rfl (fun _=>rfl))) af)) (fun _=>rfl))))))) (frt bd) aE) (ah (aL (ds2:=[0,0,0,0,0]) (bf (ut (K:=K) rfl hr.units) ai (fxi rfl (fv 2)) (by with_unfolding_all rfl)) (frt bd) aE) (ah (aL (ds2:=[0,0,0,0,0]) (fte rfl hr.units (fln rfl T.len0 (fac (fv 1) af)) ai) (frt (bR (bB (gR (K:=K) rfl hr.units) (fxi rfl (fv 1)) aJ (aY _)) (bJ (fnn mT hr (fac (fvc 0) (fac (fv 2) (fac (fs0 (ao eF (fln rfl T.len0 (fac (fv 2) af)) ai)) af))))))) aE) (ah (aR 3 [0,0,0,0,0] nd (fxi rfl (fv 1))) (ah (aL (ds2:=[0,0,0,0,0]) (qpt (bE (ftn rfl hr.units (fxi rfl (fv 1)) aJ) (bE (bm (aS (bK (K:=K) (n:="list") rfl rfl T.isinstance0 rfl T.list0 (by decide +kernel) (by decide) (fv 3) (by decide) rfl rfl rfl rfl) (fun _=>rfl))) (cu (ftn rfl hr.units (fln rfl T.len0 (fac (fv 3) af)) (ao eF (fln rfl T.len0 (fac (fv 2) af)) ai)))))) (frt bd) aE) (ah (bv (ds1:=[0,0,0,0,0]) rfl (aU (K:=K) rfl (fv 3)) (fgn 4 [0,0,0,0,0] nd) (aH (aL (ds2:=[0,0,0,0,0]) (qpt (bE (bm (aS (bK (K:=K) (n:="int") rfl rfl T.isinstance0 rfl T.int0 (by decide +kernel) (by decide) (fv 4) (by decide) rfl rfl rfl rfl) (fun _=>rfl))) (bE (aS (bK (K:=K) (n:="bool") rfl rfl T.isinstance0 rfl T.bool0 (by decide +kernel) (by decide) (fv 4) (by decide) rfl rfl rfl rfl) (fun _=>rfl)) (cu (bm (pE k9 k8 ai (fv 4) (fln rfl T.len0 (fac (fxi rfl (fxi rfl (fvc 0))) af)) (by with_unfolding_all rfl))))))) (frt bd) aE)) PassesOwn.never (fun _=>rfl)) (frt (bR (fnn xX hr (fac (fvc 0) (fac (fv 3) af))) (bJ (fnn mT hr (fac (fvc 0) (fac (fv 2) (fac (fs0 (ao eF (fln rfl T.len0 (fac (fv 2) af)) ai)) af)))))))))))))))
def vd(T:Bl mg)(F:Fun K "_law_true" "_law_true" gm f fd):FnOk P w K mg base CX0 (k+1) f fd ["_law_lists_here","_law_thing"] (spF K [0,0] 3 ff):=
 F.okR u0 ⟨[],[0,0],3,[]⟩ [0,0] fun nd _ _ _ _ _ _ hr=>(ah (aL (ds2:=[0,0]) (fte rfl hr.units (fxi rfl (fv 1)) aJ) (frt (fcb (je (K:=K) rfl rfl) T.all0 (by decide +kernel) (fac (fs0 (bY (cd:=3) (d:=3) (dsi:=[0]) (lk:=[]) (BlkOkC.of (ns:=["_law_some"]) (js:=[none]) (N0:=lD) (sc0:=aq gm) rfl rfl (by decide +kernel)) rfl (aU (K:=K) rfl (fv 0)) (fun _ _ _ _ _=>(fgn 0 [0] (ndk ["_law_some"]))) (fun _ _ _ _ _=>bu) (fun _ _ _ _ _=>(bB (gR (K:=K) rfl hr.units) (fxi rfl (fv 0)) ai (aY _))) rfl rfl (by decide) rfl (fun _=>rfl))) af))) aE) (frt (fcb (je (K:=K) rfl rfl) T.all0 (by decide +kernel) (fac (fs0 (bY (cd:=3) (d:=3) (dsi:=[0]) (lk:=[]) (BlkOkC.of (ns:=["_law_some"]) (js:=[none]) (N0:=lD) (sc0:=aq gm) rfl rfl (by decide +kernel)) rfl (aU (K:=K) rfl (fs0 (aP (bL (K:=K) rfl) (fv 0) a6 (aZ (fln rfl T.len0 (fac (fxi rfl (fv 1)) af)))))) (fun _ _ _ _ _=>(fgn 0 [0] (ndk ["_law_some"]))) (fun _ _ _ _ _=>bu) (fun _ _ _ _ _=>(bB (gR (K:=K) rfl hr.units) (fxi rfl (fv 0)) ai (aY _))) rfl rfl (by decide) rfl (fun _=>rfl))) af))))
def L3(T:Bl mg)(rJ:pS P w K mg base k)(vF:mM P w K mg base k)(se:kx P w K mg base k)(vE:mL P w K mg base k)(r8:kt P w K mg base k)(aM:cy P w K mg base k)(xW:nN P w K mg base k)(ya:nU P w K mg base k)(jL:jm P w K mg base k)(vI:mQ P w K mg base k)(xV:nM P w K mg base k)(F:Fun K "law" "law" mF f fd):FnOk P w K mg base CX0 (k+1) f fd ["_law_script"] (spF K [0] 3 yb):=
 F.okR LM ⟨[],[0,0,0,0,0,0,0,0,0,0],3,[]⟩ [0,0,0,0,0,0,0,0,0,0] fun nd _ _ _ _ _ _ hr=>(ah (aR 1 [0,1,0,0,0,0,0,0,0,0] nd (fnn rJ hr (fac (fv 0) (fac (fs0 ai) af)))) (ah (aR 2 [0,1,0,0,0,0,0,0,0,0] nd (fns vF hr (fsl 1 af))) (ah (aR 3 [0,1,0,0,0,0,0,0,0,0] nd (fns se hr (fsl 1 (fac (fv 2) (fac (fs0 ai) af))))) (ah (aL (ds2:=[0,1,0,0,0,0,0,0,0,0]) (fte rfl hr.units (fns aM hr (fsl 1 (fac (fs0 ai) af))) ai) (aH (aR 3 [0,1,0,0,0,0,0,0,0,0] nd (fns xW hr (fsl 1 (fac (fv 2) af))))) aE) (ah (aR 4 [0,1,0,0,0,0,0,0,0,0] nd (fnn vE hr (fac (fv 3) (fac (fs0 (ao bC (ao ii ai (fln rfl T.len0 (fac (fxi rfl (fv 3)) af))) ai)) af)))) (ah (aR 5 [0,1,0,0,0,0,0,0,0,0] nd (fs0 (a7 (d:=2) (c:=1) (fac (fct (m7 (K:=K) rfl rfl) T.list0 (by decide +kernel) (fac (fxi rfl (fv 3)) af)) (fac (bY (cd:=1) (d:=2) (dsi:=[0]) (lk:=[]) (BlkOkC.of (ns:=["_law_row"]) (js:=[none]) (N0:=LC) (sc0:=aq mF) rfl rfl (by decide +kernel)) rfl (aU (K:=K) rfl (fxi rfl (fv 3))) (fun _ _ _ _ _=>(fgn 0 [0] (ndk ["_law_row"]))) (fun _ _ _ _ _=>bu) (fun _ _ _ _ _=>(fct (m7 (K:=K) rfl rfl) T.list0 (by decide +kernel) (fac (fv 0) af))) rfl rfl (by decide) rfl (fun _=>rfl)) af)) rfl rfl))) (ah (aR 1 [0,1,0,0,0,0,0,0,0,0] nd (fnn rJ hr (fac (fv 0) (fac (fs0 ai) af)))) (ah (bv (ds1:=[0,1,0,0,0,0,0,0,0,0]) rfl (aU (K:=K) rfl (fns r8 hr (fsl 1 (fac (fv 3) af)))) (fgn 6 [0,1,0,0,0,0,0,0,0,0] nd) (ah (aL (ds2:=[0,1,0,0,0,0,0,0,0,0]) (bf Ge (fnn jL hr (fac (fv 5) (fac (fv 6) af))) bd (aY _)) (frt bd) aE) (aH (bv (ds1:=[0,1,0,0,0,0,0,0,0,0]) rfl (aU (K:=K) rfl (fs0 (fns ya hr (fsl 1 (fac (fv 3) (fac (fv 6) af)))))) (fgn 7 [0,1,0,0,0,0,0,0,0,0] nd) (ah (aR 8 [0,1,0,0,0,0,0,0,0,0] nd (fs0 (fcb (uq (K:=K) rfl hr.gd hr.units) T.repr0 (by decide +kernel) (fac (fv 7) af)))) (ah (aR 9 [0,1,0,0,0,0,0,0,0,0] nd (fs0 (fnn jL hr (fac (fv 5) (fac (fv 7) af))))) (ah (aL (ds2:=[0,1,0,0,0,0,0,0,0,0]) (qpt (bE (bm (aS (bK (K:=K) (n:="bool") rfl rfl T.isinstance0 rfl T.bool0 (by decide +kernel) (by decide) (fv 9) (by decide) rfl rfl rfl rfl) (fun _=>rfl))) (cu (ftn rfl hr.units (fv 9) (fnn vI hr (fac (fv 3) (fac (fv 7) af))))))) (frt bd) aE) (aH (aL (ds2:=[0,1,0,0,0,0,0,0,0,0]) (qpt (bE (ftn rfl hr.units (fcb (uq (K:=K) rfl hr.gd hr.units) T.repr0 (by decide +kernel) (fac (fv 7) af)) (fv 8)) (bE (ftn rfl hr.units (fv 5) (fv 3)) (cu (qpt (fL (aS (fv 9) (fun _=>rfl)) (eD (bm (aS (fnn xV hr (fac (fv 4) (fac (fv 7) af))) (fun _=>rfl)))))))))) (frt bd) aE))))) PassesOwn.never (fun _=>rfl)))) PassesOwn.never (fun _=>rfl)) (frt bd)))))))))
end
end
end W33
namespace L2
open PySem PySem.Spec PyProof.Rows
structure W{α:Type}(x:Option α)(Q:α->Prop):Prop where
 ex:∃a,x=some a/\Q a
def aG{α:Type}(a:α)(Q:α->Prop):W (some a) Q=Q a:=propext ⟨fun⟨b,e,h⟩=>(zat e)▸h,fun h=>⟨a,rfl,h⟩⟩
def bW{α:Type}(Q:α->Prop):W (none:Option α) Q=False:=propext ⟨(fun⟨b,e,h⟩=>by cases e),(fun h=>h.elim)⟩
def W.use{α:Type}{x:Option α}{P Q:α->Prop}(h:W x P)(k:∀a,P a->Q a):W x Q:=
 let⟨a,e,h⟩:=h.ex
 ⟨a,e,k a h⟩
def W.of{α:Type}{x:Option α}{P:α->Prop}{a:α}(e:x=some a)(h:P a):W x P:=⟨a,e,h⟩
def aB{α β:Type}(x:Option α)(f:α->Option β)(Q:β->Prop):W (x.bind f) Q=W x (fun a=>W (f a) Q):=by
 cases x with
 |none=>show W none _=_;rw[bW,bW]
 |some a=>show W (f a) Q=_;rw[aG]
def cf{α β:Type}(x:Option α)(f:α->β)(Q:β->Prop):W (x.map f) Q=W x (fun a=>Q (f a)):=by
 cases x with
 |none=>show W none _=_;rw[bW,bW]
 |some a=>show W (some (f a)) Q=_;rw[aG,aG]
def MY{α:Type}(c:Prop)[Decidable c](a:α)(Q:α->Prop):W (grd c a) Q=(c/\Q a):=by
 unfold grd;by_cases h:c
 ·rw[if_pos h,aG];exact propext ⟨fun z=>⟨h,z⟩,fun z=>z.2⟩
 ·rw[if_neg h,bW];exact propext ⟨fun z=>z.elim,fun z=>h z.1⟩
def lq{α:Type}(c:Prop)[Decidable c](a:α)(Q:α->Prop):W (if c then some a else none) Q=(c/\Q a):=MY c a Q
def gv(en:En)(i:Nat):Option D:=(en[i]?).join
def qr(ts:List D)(n:Int)(t:D):Option (List D):=(ixN ts.length n).map fun k=>ts.set k t
def N5(ts:List D)(n:Int):Option (D×List D):=(seqIndex? n ts.length).bind fun k=>(ts[k]?).map fun t=>(t,ts.eraseIdx k)
def i5(i:Int)(n:Nat):List D:=(List.range n).map fun k=>.int (i+(k:Nat))
section
variable{α β:Type}
def uc(b:MS)(Q:Fl->Prop):Fl->Prop:=fun fl=>W (match fl with|.nx en1=>b en1|.rt t en1=>some (.rt t en1)|.ct en1=>some (.ct en1)) Q
def Kb(i:Nat)(Q:Fl->Prop):D×En->Prop:=fun r=>Q (.nx (r.2.set i (some r.1)))
def Ki(Q:Fl->Prop):D×En->Prop:=fun r=>Q (.nx r.2)
def Kc(Q:Fl->Prop):D×En->Prop:=fun r=>Q (.rt r.1 r.2)
def kIf(f g:En->Option β)(Q:β->Prop):Bool×En->Prop:=fun r=>W (if r.1 then f r.2 else g r.2) Q
def Kh(g:MG)(b:MS)(Q:Fl->Prop):List D×En->Prop:=fun r=>W (cE g b r.1 r.2) Q
def pp(g:MG)(b:MS)(ts:List D)(Q:Fl->Prop):Fl->Prop:=fun fl=>W (match fl with|.nx en2=>cE g b ts en2|.ct en2=>cE g b ts en2|.rt r en2=>some (.rt r en2)) Q
def Ez(g:MG)(b:MS)(ts:List D)(Q:Fl->Prop):En->Prop:=fun en=>W (b en) (pp g b ts Q)
def kNx(Q:Fl->Prop):En->Prop:=fun en=>Q (.nx en)
def Kk(g:MG)(Q:Fl->Prop):D×En->Prop:=fun r=>W (g r.1 r.2) (kNx Q)
def AJ(i:Nat)(en:En)(Q:Fl->Prop):List D->Prop:=fun ts=>Q (.nx (en.set i (some (.list ts))))
def pk(i:Nat)(t:D)(Q:Fl->Prop):D×En->Prop:=fun q=>W (match q.1,(q.2[i]?).join with|.int n,some (.list ts)=>(ixN ts.length n).map fun k=>.nx (q.2.set i (some (.list (ts.set k t))))|_,_=>none) Q
def xi(i:Nat)(fk:ME)(Q:Fl->Prop):D×En->Prop:=fun r=>W (match (r.2[i]?).join with|some _=>((fk r.2).bind fun q=>(match q.1,(q.2[i]?).join with|.int n,some (.list ts)=>(ixN ts.length n).map fun k=>.nx (q.2.set i (some (.list (ts.set k r.1))))|_,_=>none))|none=>none) Q
def yV(i:Nat)(t:D)(fk:ME)(en:En)(Q:Fl->Prop):D->Prop:=fun _x=>W (fk en) (pk i t Q)
def ub(i:Nat)(t:D)(n:Int)(en:En)(Q:Fl->Prop):D->Prop:=fun x=>W (match x with|.list ts=>(ixN ts.length n).map fun k=>.nx (en.set i (some (.list (ts.set k t))))|_=>none) Q
def jc(en:En)(Q:D×En->Prop):D->Prop:=fun t=>Q (t,en)
def kMv(i:Nat)(en:En)(Q:D×En->Prop):D->Prop:=fun t=>Q (t,en.set i none)
def k1(g:D->Option D)(Q:D×En->Prop):D×En->Prop:=fun r=>W (g r.1) (jc r.2 Q)
def k2b(g:D->D->Option D)(t:D)(Q:D×En->Prop):D×En->Prop:=fun q=>W (g t q.1) (jc q.2 Q)
def k2(g:D->D->Option D)(f:ME)(Q:D×En->Prop):D×En->Prop:=fun r=>W (f r.2) (k2b g r.1 Q)
def AQ(g:ME)(Q:D×En->Prop):D×En->Prop:=fun r=>W (match r.1 with|.bool true=>g r.2|.bool false=>some (.bool false,r.2)|_=>none) Q
def kOr(g:ME)(Q:D×En->Prop):D×En->Prop:=fun r=>W (match r.1 with|.bool true=>some (.bool true,r.2)|.bool false=>g r.2|_=>none) Q
def Ke(Q:D×En->Prop):D×En->Prop:=fun r=>W (match r.1 with|.bool b=>some (.bool (!b),r.2)|_=>none) Q
def kTV(Q:Bool×En->Prop):D×En->Prop:=fun r=>W (match r.1 with|.bool b=>some (b,r.2)|_=>none) Q
def xo(g:MT)(Q:Bool×En->Prop):Bool×En->Prop:=fun r=>W (if r.1 then g r.2 else some (false,r.2)) Q
def AN(g:MT)(Q:Bool×En->Prop):Bool×En->Prop:=fun r=>W (if r.1 then some (true,r.2)else g r.2) Q
def EB(Q:Bool×En->Prop):Bool×En->Prop:=fun r=>Q (!r.1,r.2)
def AT(t:D)(Q:List (D ⊕ Nat)×En->Prop):List (D ⊕ Nat)×En->Prop:=fun y=>Q (.inl t::y.1,y.2)
def kAC(r:MA)(Q:List (D ⊕ Nat)×En->Prop):D×En->Prop:=fun x=>W (r x.2) (AT x.1 Q)
def AR(i:Nat)(Q:List (D ⊕ Nat)×En->Prop):List (D ⊕ Nat)×En->Prop:=fun y=>Q (.inr i::y.1,y.2)
def kAS(i:Nat)(r:MA)(en:En)(Q:List (D ⊕ Nat)×En->Prop):D->Prop:=fun _x=>W (r en) (AR i Q)
def kN2(g:List D->Option D)(en:En)(Q:D×En->Prop):List D->Prop:=fun ts=>W (g ts) (jc en Q)
def kN(g:List D->Option D)(Q:D×En->Prop):List (D ⊕ Nat)×En->Prop:=fun r=>W (vals r.1) (kN2 g r.2 Q)
def xj(en:En)(Q:D×En->Prop):List D->Prop:=fun ts=>W (if ts.length<=sizeLine then some (.list ts,en)else none) Q
def Kf(Q:D×En->Prop):List (D ⊕ Nat)×En->Prop:=fun r=>W (vals r.1) (xj r.2 Q)
def xh(en:En)(Q:D×En->Prop):List D->Prop:=fun ts=>W (if ts.length<=sizeLine then some (.tuple ts,en)else none) Q
def Ka(Q:D×En->Prop):List (D ⊕ Nat)×En->Prop:=fun r=>W (vals r.1) (xh r.2 Q)
def ud(as:List (D ⊕ Nat))(en:En)(Q:D×En->Prop):D×En->Prop:=fun q=>Q (q.1,wb as q.2 en)
def ue(F:List D->Option (D×En))(as:List (D ⊕ Nat))(en:En)(Q:D×En->Prop):List D->Prop:=fun ts=>W (F ts) (ud as en Q)
def EA(F:List D->Option (D×En))(Q:D×En->Prop):List (D ⊕ Nat)×En->Prop:=fun r=>W (eK r.1 r.2) (ue F r.1 r.2 Q)
def kFn(dps:List Nat)(Q:D×En->Prop):Fl->Prop:=fun fl=>W (match fl with|.rt t en=>some (t,msk dps en)|.nx en=>some (.none,msk dps en)|.ct _=>none) Q
def AL(q:Bool)(js:List (Option Nat))(en:En)(Q:D×En->Prop):List D×En->Prop:=fun z=>Q (.list z.1,if q then en else wbB js z.2 en)
def kLC(q:Bool)(g:MG)(c:MT)(f:ME)(js:List (Option Nat))(Q:D×En->Prop):List D×En->Prop:=fun r=>W (lcF g c f r.1 [] (dq js r.2)) (AL q js r.2 Q)
def AO(Q:List D×En->Prop):D×En->Prop:=fun r=>W ((Ek r.1).map fun ts=>(ts,r.2)) Q
def kR1(Q:List D×En->Prop):List (D ⊕ Nat)×En->Prop:=fun r=>W (match r.1 with|[.inl (.int j)]=>if -(2 ^ 62)<=j/\j<2 ^ 62 then some ((List.range j.toNat).map fun k=>.int (0+(k:Nat)),r.2)else none|_=>none) Q
def kEn(Q:List D×En->Prop):List (D ⊕ Nat)×En->Prop:=fun r=>W (match r.1 with|[.inl (.list ts)]=>some (eZ ts,r.2)|[.inl (.tuple ts)]=>some (eZ ts,r.2)|_=>none) Q
def yN(n:Int)(en:En)(Q:D×En->Prop):D->Prop:=fun x=>W (match x with|.list ts=>(atI ts n).map fun t=>(t,en)|_=>none) Q
def pj(i:Nat)(Q:D×En->Prop):D×En->Prop:=fun r=>W (match r.1,(r.2[i]?).join with|.int n,some (.list ts)=>(atI ts n).map fun t=>(t,r.2)|_,_=>none) Q
def Ew(i:Nat)(f:ME)(en:En)(Q:D×En->Prop):D->Prop:=fun _x=>W (f en) (pj i Q)
def xq(i:Nat)(Q:D×En->Prop):D×En->Prop:=fun r=>W (match (r.2[i]?).join with|some (.list ts)=>if ts.length<sizeLine then some (PyData.none,r.2.set i (some (.list (ts++[r.1]))))else none|_=>none) Q
def EC(i:Nat)(t:D)(en:En)(Q:D×En->Prop):D->Prop:=fun x=>W (match x with|.list ts=>if ts.length<sizeLine then some (PyData.none,en.set i (some (.list (ts++[t]))))else none|_=>none) Q
def Km(i:Nat)(f:ME)(en:En)(Q:D×En->Prop):D->Prop:=fun x=>W (match x with|.list _=>((f en).bind fun r=>(match (r.2[i]?).join with|some (.list ts)=>if ts.length<sizeLine then some (PyData.none,r.2.set i (some (.list (ts++[r.1]))))else none|_=>none))|_=>none) Q
def xn(g:D->D->Option D)(t:D)(f:ME)(en:En)(Q:D×En->Prop):D->Prop:=fun x=>W (match x with|.bool true=>(f en).bind fun z=>(g t z.1).map fun t=>(t,z.2)|.bool false=>some (.bool false,en)|_=>none) Q
def AM(g g2:D->D->Option D)(f3:ME)(t:D)(Q:D×En->Prop):D×En->Prop:=fun q=>W (g t q.1) (xn g2 q.1 f3 q.2 Q)
def kCh(g g2:D->D->Option D)(f2 f3:ME)(Q:D×En->Prop):D×En->Prop:=fun r=>W (f2 r.2) (AM g g2 f3 r.1 Q)
def kOS(Q:Option Int×En->Prop):D×En->Prop:=fun r=>W (match r.1 with|.int i=>some (some i,r.2)|_=>none) Q
def AH(g:D->Option Int->Option Int->Option D)(t:D)(lo:Option Int)(Q:D×En->Prop):Option Int×En->Prop:=fun h=>W (g t lo h.1) (jc h.2 Q)
def AI(g:D->Option Int->Option Int->Option D)(t:D)(hi:MO)(Q:D×En->Prop):Option Int×En->Prop:=fun l=>W (hi l.2) (AH g t l.1 Q)
def kSl(g:D->Option Int->Option Int->Option D)(lo hi:MO)(Q:D×En->Prop):D×En->Prop:=fun r=>W (lo r.2) (AI g r.1 hi Q)
def xm(i:Nat)(Q:D×En->Prop):D×En->Prop:=fun r=>W (match (r.2[i]?).join with|some (.dict ks)=>(kOf r.1).bind fun _=>(ba ks r.1).map fun t=>(t,r.2)|_=>none) Q
def Kj(q:D)(en:En)(Q:D×En->Prop):D->Prop:=fun x=>W (match x with|.dict ks=>(kOf q).bind fun _=>(ba ks q).map fun t=>(t,en)|_=>none) Q
def kDg(f:ME)(i:Nat)(en:En)(Q:D×En->Prop):D->Prop:=fun _x=>W (f en) (xm i Q)
def kIt(J:En->Prop)(Q:Fl->Prop):Fl->Prop:=fun fl=>match fl with|.nx e=>J e|.ct e=>J e|.rt t e=>Q (.rt t e)
def AK(us:List D)(J:List D->En->Prop):D×En->Prop:=fun r=>J (us++[r.1]) r.2
def xk(f:ME)(us:List D)(J:List D->En->Prop):Bool×En->Prop:=fun r=>if r.1 then W (f r.2) (AK us J)else J us r.2
def Kg(c:MT)(f:ME)(us:List D)(J:List D->En->Prop):En->Prop:=fun en=>W (c en) (xk f us J)
def kWh(b:MS)(J:En->Prop)(Q:Fl->Prop):Bool×En->Prop:=fun r=>if r.1 then W (b r.2) (kIt J Q)else Q (.nx r.2)
def kFg(b:MS)(J:En->Prop)(Q:Fl->Prop):En->Prop:=fun en=>W (b en) (kIt J Q)
def kGs(q:List D->En->Option En)(ts:List D)(Q:En->Prop):En->Prop:=fun en=>W (q ts en) Q
def pr(t:D)(Q:List D->Prop):List D->Prop:=fun ts=>Q (t::ts)
def Kl(r:List (D ⊕ Nat))(en:En)(Q:List D->Prop):D->Prop:=fun t=>W (eK r en) (pr t Q)
def bw{α:Type}(ts:List α)(n:Nat):atI ts (n:Int)=ts[n]?:=by
 unfold atI ixN;rw[if_pos (by omega)];by_cases h:n<ts.length
 ·rw[if_pos (by omega)];rfl
 ·rw[if_neg (by omega),zbl (by omega)];rfl
def wa(a b:Int):(a==b)=decide (a=b):=by
 by_cases h:a=b
 ·rw[h,zaB rfl];exact beq_self_eq_true b
 ·rw[zaA h];exact zbR.mpr h
def vL(a b:Str):(a==b)=decide (a=b):=by
 by_cases h:a=b
 ·rw[h,zaB rfl];exact beq_self_eq_true b
 ·rw[zaA h];exact zbR.mpr h
def Lj(a b:Str):eqD (.str a) (.str b)=some (.bool (decide (a=b))):=by
 show grd _ _=_;unfold grd;rw[if_pos ⟨rfl,rfl,zbj _⟩,<-vL];simp only[peq]
def JU(a b:Str):neD (.str a) (.str b)=some (.bool (!decide (a=b))):=by
 show grd _ _=_;unfold grd;rw[if_pos ⟨rfl,rfl,zbj _⟩,<-vL];simp only[peq]
variable(en:En)(Qs:Fl->Prop)(Qe:D×En->Prop)(Qb:Bool×En->Prop)(Qa:List (D ⊕ Nat)×En->Prop)(Ql:List D×En->Prop)(Qd:D->Prop)(Qt:List D->Prop)(Qn:En->Prop)(f:ME)(g:MG)(fa:MA)(c:MT)(ts:List D)(i:Nat)
def ws0(α:Type)(a:α)(Q:α->Prop):W (some a) Q=Q a:=aG _ _
def ws1(a:Option D)(l:En):gv (a::l) 0=a:=rfl
def ws2(a:Option D)(l:En):gv (a::l) (i+1)=gv l i:=rfl
def ws3(a b:Option D)(l:En):List.set (a::l) 0 b=b::l:=rfl
def ws4(a b:Option D)(l:En):List.set (a::l) (i+1) b=a::List.set l i b:=rfl
def ws5(a b:MS):W (ak a b en) Qs=W (a en) (uc b Qs):=aB _ _ _
def ws6(b:MS):uc b Qs (.nx en)=W (b en) Qs:=rfl
def ws7(b:MS)(t:D):uc b Qs (.rt t en)=Qs (.rt t en):=aG _ _
def ws8:W (au i f en) Qs=W (f en) (Kb i Qs):=cf _ _ _
def ws9(t:D):Kb i Qs (t,en)=Qs (.nx (en.set i (some t))):=rfl
def IS:W (cG f en) Qs=W (f en) (Ki Qs):=cf _ _ _
def IR(t:D):Ki Qs (t,en)=Qs (.nx en):=rfl
def IQ:W (ay f en) Qs=W (f en) (Kc Qs):=cf _ _ _
def IP(t:D):Kc Qs (t,en)=Qs (.rt t en):=rfl
def IN:W (aW en) Qs=Qs (.nx en):=aG _ _
def IM(a b:MS):W (sIf c a b en) Qs=W (c en) (kIf a b Qs):=aB _ _ _
def IL(β:Type)(a b:En->Option β)(Q:β->Prop):kIf a b Q (true,en)=W (a en) Q:=rfl
def IK(β:Type)(a b:En->Option β)(Q:β->Prop):kIf a b Q (false,en)=W (b en) Q:=rfl
def IJ(fi:MI)(b:MS):W (bT fi g b en) Qs=W (fi en) (Kh g b Qs):=aB _ _ _
def II(b:MS):Kh g b Qs (ts,en)=W (cE g b ts en) Qs:=rfl
def IH(b:MS):W (cE g b [] en) Qs=Qs (.nx en):=aG _ _
def IG(b:MS)(t:D):W (cE g b (t::ts) en) Qs=W (g t en) (Ez g b ts Qs):=(aB _ _ _).trans (congrArg _ (funext fun z=>aB _ _ _))
def IF(b:MS):Ez g b ts Qs en=W (b en) (pp g b ts Qs):=rfl
def IE(b:MS):pp g b ts Qs (.nx en)=W (cE g b ts en) Qs:=rfl
def ID(b:MS):pp g b ts Qs (.ct en)=W (cE g b ts en) Qs:=rfl
def IC(b:MS)(t:D):pp g b ts Qs (.rt t en)=Qs (.rt t en):=aG _ _
def IB:W (ir f g en) Qs=W (f en) (Kk g Qs):=(aB _ _ _).trans (congrArg _ (funext fun z=>cf _ _ _))
def IA(t:D):Kk g Qs (t,en)=W (g t en) (kNx Qs):=rfl
def Iz:kNx Qs en=Qs (.nx en):=rfl
def Iy(t:D):W (gN i t en) Qn=Qn (en.set i (some t)):=aG _ _
def Ix(g:List D->En->Option En):W (gT g (.tuple ts) en) Qn=W (g ts en) Qn:=rfl
def Iw(q:List D->En->Option En)(t:D):W (gsC g q (t::ts) en) Qn=W (g t en) (kGs q ts Qn):=aB _ _ _
def Iv(q:List D->En->Option En):kGs q ts Qn en=W (q ts en) Qn:=rfl
def Iu:W (gs0 [] en) Qn=Qn en:=aG _ _
def Ir(fk fe:ME):W (eX i fk fe en) Qs=W (fe en) (xi i fk Qs):=aB _ _ _
def Iq(fk:ME)(t:D):xi i fk Qs (t,en)=W (gv en i) (yV i t fk en Qs):=by unfold xi gv;cases h:(en[i]?).join with|none=>simp only[h,bW]|some x=>simp only[h,aG];exact aB _ _ _
def Ip(t:D)(fk:ME)(x:D):yV i t fk en Qs x=W (fk en) (pk i t Qs):=rfl
def Io(t:D)(n:Int):pk i t Qs (.int n,en)=W (gv en i) (ub i t n en Qs):=by unfold pk gv;cases h:(en[i]?).join with|none=>simp only[h,bW]|some x=>simp only[h,aG];cases x<;>first|rfl|exact(aG _ _).symm | (rw[aG];rfl) | (rw[aG];exact bW _)
def Im(t:D)(n:Int):ub i t n en Qs (.list ts)=W (qr ts n t) (AJ i en Qs):=by unfold ub qr AJ;dsimp only;rw[cf,cf]
def Il:AJ i en Qs ts=Qs (.nx (en.set i (some (.list ts)))):=rfl
def Ik:W (ad i en) Qe=W (gv en i) (jc en Qe):=cf _ _ _
def Ij(t:D):jc en Qe t=Qe (t,en):=rfl
def Ii:W (eMv i en) Qe=W (gv en i) (kMv i en Qe):=cf _ _ _
def Ih(t:D):kMv i en Qe t=Qe (t,en.set i none):=rfl
def Ig(t:D):W (eC t en) Qe=Qe (t,en):=aG _ _
def Ie(g:D->Option D):W (e1 g f en) Qe=W (f en) (k1 g Qe):=(aB _ _ _).trans (congrArg _ (funext fun z=>cf _ _ _))
def Ic(g:D->Option D)(t:D):k1 g Qe (t,en)=W (g t) (jc en Qe):=rfl
def Ib(g:D->D->Option D)(f1 f2:ME):W (e2 g f1 f2 en) Qe=W (f1 en) (k2 g f2 Qe):=(aB _ _ _).trans (congrArg _ (funext fun z=>(aB _ _ _).trans (congrArg _ (funext fun y=>cf _ _ _))))
def Ia(g:D->D->Option D)(f2:ME)(t:D):k2 g f2 Qe (t,en)=W (f2 en) (k2b g t Qe):=rfl
def HZ(g:D->D->Option D)(t u:D):k2b g t Qe (u,en)=W (g t u) (jc en Qe):=rfl
def HY(f g:ME):W (cW f g en) Qe=W (f en) (AQ g Qe):=aB _ _ _
def HX(g:ME):AQ g Qe (.bool true,en)=W (g en) Qe:=rfl
def HW(g:ME):AQ g Qe (.bool false,en)=Qe (.bool false,en):=aG _ _
def HV(f g:ME):W (eOr f g en) Qe=W (f en) (kOr g Qe):=aB _ _ _
def HU(g:ME):kOr g Qe (.bool true,en)=Qe (.bool true,en):=aG _ _
def HS(g:ME):kOr g Qe (.bool false,en)=W (g en) Qe:=rfl
def HR:W (qJ f en) Qe=W (f en) (Ke Qe):=aB _ _ _
def HQ(x:Bool):Ke Qe (.bool x,en)=Qe (.bool (!x),en):=aG _ _
def HP(f g:ME):W (eIf c f g en) Qe=W (c en) (kIf f g Qe):=aB _ _ _
def HN:W (tV f en) Qb=W (f en) (kTV Qb):=aB _ _ _
def HM(x:Bool):kTV Qb (.bool x,en)=Qb (x,en):=aG _ _
def HL(f g:MT):W (cZ f g en) Qb=W (f en) (xo g Qb):=aB _ _ _
def HK(g:MT):xo g Qb (true,en)=W (g en) Qb:=rfl
def HJ(g:MT):xo g Qb (false,en)=Qb (false,en):=aG _ _
def HI(f g:MT):W (bOr f g en) Qb=W (f en) (AN g Qb):=aB _ _ _
def HH(g:MT):AN g Qb (true,en)=Qb (true,en):=aG _ _
def HG(g:MT):AN g Qb (false,en)=W (g en) Qb:=rfl
def HF(f:MT):W (bV f en) Qb=W (f en) (EB Qb):=cf _ _ _
def HE(x:Bool):EB Qb (x,en)=Qb (!x,en):=rfl
def HD:W (cY en) Qb=Qb (true,en):=aG _ _
def HC:W (ag en) Qa=Qa ([],en):=aG _ _
def HB(r:MA):W (ac f r en) Qa=W (f en) (kAC r Qa):=(aB _ _ _).trans (congrArg _ (funext fun z=>cf _ _ _))
def HA(r:MA)(t:D):kAC r Qa (t,en)=W (r en) (AT t Qa):=rfl
def Hz(t:D)(as:List (D ⊕ Nat)):AT t Qa (as,en)=Qa (.inl t::as,en):=rfl
def Hy(r:MA):W (aD i r en) Qa=W (gv en i) (kAS i r en Qa):=(aB _ _ _).trans (congrArg _ (funext fun z=>cf _ _ _))
def Hx(r:MA)(t:D):kAS i r en Qa t=W (r en) (AR i Qa):=rfl
def Hw(as:List (D ⊕ Nat)):AR i Qa (as,en)=Qa (.inr i::as,en):=rfl
def Hv:vals []=some []:=rfl
def Hu(t:D)(r:List (D ⊕ Nat)):W (vals (.inl t::r)) Qt=W (vals r) (pr t Qt):=cf _ _ _
def Ht(t:D):pr t Qt ts=Qt (t::ts):=rfl
def Hs:eK [] en=some []:=rfl
def Hr(t:D)(r:List (D ⊕ Nat)):W (eK (.inl t::r) en) Qt=W (eK r en) (pr t Qt):=cf _ _ _
def Hq(r:List (D ⊕ Nat)):W (eK (.inr i::r) en) Qt=W (gv en i) (Kl r en Qt):=(aB _ _ _).trans (congrArg _ (funext fun z=>cf _ _ _))
def Ho(t:D)(r:List (D ⊕ Nat)):Kl r en Qt t=W (eK r en) (pr t Qt):=rfl
def Hm(r:List (D ⊕ Nat))(o:Option D)(ψ:En):wb (.inr i::r) (o::ψ) en=wb r ψ (en.set i o):=rfl
def Hl(t:D)(r:List (D ⊕ Nat))(o:Option D)(ψ:En):wb (.inl t::r) (o::ψ) en=wb r ψ en:=rfl
def Hk(ψ:En):wb [] ψ en=en:=rfl
def Hj(g:List D->Option D):W (eN g fa en) Qe=W (fa en) (kN g Qe):=(aB _ _ _).trans (congrArg _ (funext fun z=>(aB _ _ _).trans (congrArg _ (funext fun y=>cf _ _ _))))
def Hi(g:List D->Option D)(as:List (D ⊕ Nat)):kN g Qe (as,en)=W (vals as) (kN2 g en Qe):=rfl
def Hh(g:List D->Option D):kN2 g en Qe ts=W (g ts) (jc en Qe):=rfl
def Hg:W (aw fa en) Qe=W (fa en) (Kf Qe):=(aB _ _ _).trans (congrArg _ (funext fun z=>aB _ _ _))
def Hf(as:List (D ⊕ Nat)):Kf Qe (as,en)=W (vals as) (xj en Qe):=rfl
def He:xj en Qe ts=(ts.length<=sizeLine/\Qe (.list ts,en)):=lq _ _ _
def Hd:W (bj fa en) Qe=W (fa en) (Ka Qe):=(aB _ _ _).trans (congrArg _ (funext fun z=>aB _ _ _))
def Hc(as:List (D ⊕ Nat)):Ka Qe (as,en)=W (vals as) (xh en Qe):=rfl
def Hb:xh en Qe ts=(ts.length<=sizeLine/\Qe (.tuple ts,en)):=lq _ _ _
def Ha:(([]:List D).length<=sizeLine)=True:=eq_true (zau (by show 0<=100;decide) cv)
def G9(x0:D):(([x0]:List D).length<=sizeLine)=True:=eq_true (zau (by show 1<=100;decide) cv)
def G8(x0 x1:D):(([x0,x1]:List D).length<=sizeLine)=True:=eq_true (zau (by show 2<=100;decide) cv)
def G7(x0 x1 x2:D):(([x0,x1,x2]:List D).length<=sizeLine)=True:=eq_true (zau (by show 3<=100;decide) cv)
def Ed(x0 x1 x2 x3:D):(([x0,x1,x2,x3]:List D).length<=sizeLine)=True:=eq_true (zau (by show 4<=100;decide) cv)
def Ec(x0 x1 x2 x3 x4:D):(([x0,x1,x2,x3,x4]:List D).length<=sizeLine)=True:=eq_true (zau (by show 5<=100;decide) cv)
def Eb(x0 x1 x2 x3 x4 x5 x6:D):(([x0,x1,x2,x3,x4,x5,x6]:List D).length<=sizeLine)=True:=eq_true (zau (by show 7<=100;decide) cv)
def Ea(x0 x1 x2 x3 x4 x5 x6 x7:D):(([x0,x1,x2,x3,x4,x5,x6,x7]:List D).length<=sizeLine)=True:=eq_true (zau (by show 8<=100;decide) cv)
def D9(x0 x1 x2 x3 x4 x5 x6 x7 x8 x9:D):(([x0,x1,x2,x3,x4,x5,x6,x7,x8,x9]:List D).length<=sizeLine)=True:=eq_true (zau (by show 10<=100;decide) cv)
def D8(x0 x1 x2 x3 x4 x5 x6 x7 x8 x9 x10:D):(([x0,x1,x2,x3,x4,x5,x6,x7,x8,x9,x10]:List D).length<=sizeLine)=True:=eq_true (zau (by show 11<=100;decide) cv)
def D7(F:List D->Option (D×En)):W (ar F fa en) Qe=W (fa en) (EA F Qe):=(aB _ _ _).trans (congrArg _ (funext fun z=>(aB _ _ _).trans (congrArg _ (funext fun y=>cf _ _ _))))
def D6(F:List D->Option (D×En))(as:List (D ⊕ Nat)):EA F Qe (as,en)=W (eK as en) (ue F as en Qe):=rfl
def D5(F:List D->Option (D×En))(as:List (D ⊕ Nat)):ue F as en Qe ts=W (F ts) (ud as en Qe):=rfl
def D4(as:List (D ⊕ Nat))(t:D)(ψ:En):ud as en Qe (t,ψ)=Qe (t,wb as ψ en):=rfl
def D3(q:Bool)(fi:MI)(js:List (Option Nat)):W (eLC q fi g c f js en) Qe=W (fi en) (kLC q g c f js Qe):=(aB _ _ _).trans (congrArg _ (funext fun z=>cf _ _ _))
def D2(q:Bool)(js:List (Option Nat)):kLC q g c f js Qe (ts,en)=W (lcF g c f ts [] (dq js en)) (AL q js en Qe):=rfl
def D1(js:List (Option Nat))(us:List D)(ex:En):AL true js en Qe (us,ex)=Qe (.list us,en):=rfl
def D0:dq [] en=[]:=rfl
def DZ(j:Nat)(js:List (Option Nat)):dq (some j::js) en=gv en j::dq js en:=rfl
def DY(js:List (Option Nat)):dq (none::js) en=none::dq js en:=rfl
def DX:W (lcF g c f [] acc en) Ql=Ql (acc,en):=aG _ _
def DW:W (bi f en) Ql=W (f en) (AO Ql):=aB _ _ _
def DU:AO Ql (.list ts,en)=Ql (ts,en):=aG _ _
def DT:AO Ql (.tuple ts,en)=Ql (ts,en):=aG _ _
def DS:W (bS fa en) Ql=W (fa en) (kR1 Ql):=aB _ _ _
def DR(j:Int):kR1 Ql ([.inl (.int j)],en)=((-(2 ^ 62)<=j/\j<2 ^ 62)/\Ql (i5 0 j.toNat,en)):=lq _ _ _
def DQ:W (ic fa en) Ql=W (fa en) (kEn Ql):=aB _ _ _
def DP:kEn Ql ([.inl (.list ts)],en)=Ql (eZ ts,en):=aG _ _
def DN:W (fj i f en) Qe=W (gv en i) (Ew i f en Qe):=(aB _ _ _).trans (congrArg _ (funext fun z=>aB _ _ _))
def DM(x:D):Ew i f en Qe x=W (f en) (pj i Qe):=rfl
def DL(n:Int):pj i Qe (.int n,en)=W (gv en i) (yN n en Qe):=by unfold pj gv;cases h:(en[i]?).join with|none=>simp only[h,bW]|some x=>simp only[h,aG];cases x<;>first|rfl|exact(aG _ _).symm | (rw[aG];rfl) | (rw[aG];exact bW _)
def DK(n:Int):yN n en Qe (.list ts)=W (atI ts n) (jc en Qe):=cf _ _ _
def DJ:W (cF i f en) Qe=W (gv en i) (Km i f en Qe):=by unfold gv cF;cases(en[i]?).join with|none=>rw[bW,bW]|some x=>cases x<;>first|rfl|exact(aG _ _).symm | (rw[aG];rfl) | (rw[aG];exact bW _)
def DI:Km i f en Qe (.list ts)=W (f en) (xq i Qe):=aB _ _ _
def DH(t:D):xq i Qe (t,en)=W (gv en i) (EC i t en Qe):=by unfold xq gv;cases h:(en[i]?).join with|none=>simp only[h,bW]|some x=>simp only[h,aG];cases x<;>first|rfl|exact(aG _ _).symm | (rw[aG];rfl) | (rw[aG];exact bW _)
def DG(t:D):EC i t en Qe (.list ts)=(ts.length<sizeLine/\Qe (.none,en.set i (some (.list (ts++[t]))))):=lq _ _ _
def DF(g g2:D->D->Option D)(f1 f2 f3:ME):W (ft g g2 f1 f2 f3 en) Qe=W (f1 en) (kCh g g2 f2 f3 Qe):=(aB _ _ _).trans (congrArg _ (funext fun z=>(aB _ _ _).trans (congrArg _ (funext fun y=>aB _ _ _))))
def DE(g g2:D->D->Option D)(f2 f3:ME)(t:D):kCh g g2 f2 f3 Qe (t,en)=W (f2 en) (AM g g2 f3 t Qe):=rfl
def DD(g g2:D->D->Option D)(f3:ME)(t u:D):AM g g2 f3 t Qe (u,en)=W (g t u) (xn g2 u f3 en Qe):=rfl
def DC(g:D->D->Option D)(u:D)(f3:ME):xn g u f3 en Qe (.bool true)=W (f3 en) (k2b g u Qe):=(aB _ _ _).trans (congrArg _ (funext fun z=>cf _ _ _))
def DB(g:D->D->Option D)(u:D)(f3:ME):xn g u f3 en Qe (.bool false)=Qe (.bool false,en):=aG _ _
def DA(Q:Option Int×En->Prop):W (bq en) Q=Q (none,en):=aG _ _
def Dz(Q:Option Int×En->Prop):W (bn f en) Q=W (f en) (kOS Q):=aB _ _ _
def Dy(n:Int)(Q:Option Int×En->Prop):kOS Q (.int n,en)=Q (some n,en):=aG _ _
def Dx(g:D->Option Int->Option Int->Option D)(lo hi:MO):W (eSl g f lo hi en) Qe=W (f en) (kSl g lo hi Qe):=(aB _ _ _).trans (congrArg _ (funext fun z=>(aB _ _ _).trans (congrArg _ (funext fun y=>(aB _ _ _).trans (congrArg _ (funext fun y=>cf _ _ _))))))
def Dw(g:D->Option Int->Option Int->Option D)(lo hi:MO)(t:D):kSl g lo hi Qe (t,en)=W (lo en) (AI g t hi Qe):=rfl
def Dv(g:D->Option Int->Option Int->Option D)(hi:MO)(t:D)(a:Option Int):AI g t hi Qe (a,en)=W (hi en) (AH g t a Qe):=rfl
def Du(g:D->Option Int->Option Int->Option D)(t:D)(a b:Option Int):AH g t a Qe (b,en)=W (g t a b) (jc en Qe):=rfl
def Dt:W (bG i f en) Qe=W (gv en i) (kDg f i en Qe):=(aB _ _ _).trans (congrArg _ (funext fun z=>aB _ _ _))
def Ds(x:D):kDg f i en Qe x=W (f en) (xm i Qe):=rfl
def Dr(q:D):xm i Qe (q,en)=W (gv en i) (Kj q en Qe):=by unfold xm gv;cases h:(en[i]?).join with|none=>simp only[h,bW]|some x=>simp only[h,aG];cases x<;>first|rfl|exact(aG _ _).symm | (rw[aG];rfl) | (rw[aG];exact bW _)
def Dq(J:En->Prop):kIt J Qs (.nx en)=J en:=rfl
def Dp(J:En->Prop):kIt J Qs (.ct en)=J en:=rfl
def Do(J:En->Prop)(t:D):kIt J Qs (.rt t en)=Qs (.rt t en):=rfl
def Dm(b:MS)(J:En->Prop):kFg b J Qs en=W (b en) (kIt J Qs):=rfl
def Dl(b:MS)(J:En->Prop):kWh b J Qs (true,en)=W (b en) (kIt J Qs):=rfl
def Dk(b:MS)(J:En->Prop):kWh b J Qs (false,en)=Qs (.nx en):=rfl
def Dj(us:List D)(J:List D->En->Prop):Kg c f us J en=W (c en) (xk f us J):=rfl
def Di(us:List D)(J:List D->En->Prop):xk f us J (true,en)=W (f en) (AK us J):=rfl
def Dh(us:List D)(J:List D->En->Prop):xk f us J (false,en)=J us en:=rfl
def Dg(us:List D)(J:List D->En->Prop)(t:D):AK us J (t,en)=J (us++[t]) en:=rfl
def De(n:Nat)(dps:List Nat)(b:MS):W (fnF n dps b ts) Qe=W (b (ts.map some++List.replicate n none)) (kFn dps Qe):=aB _ _ _
def Dd(dps:List Nat)(t:D):kFn dps Qe (.rt t en)=Qe (t,msk dps en):=aG _ _
def Dc(d:Nat)(ds:List Nat)(o:Option D):msk ((d+1)::ds) (o::en)=o::msk ds en:=rfl
def Db(ds:List Nat)(o:Option D):msk (0::ds) (o::en)=none::msk ds en:=rfl
def Da:msk [] en=[]:=rfl
def C9(t:D):List.map some (t::ts)=some t::List.map some ts:=rfl
def C8:List.map (some:D->Option D) []=[]:=rfl
def C7(a:Option D)(l m:En):(a::l)++m=a::(l++m):=rfl
def C6(m:En):([]:En)++m=m:=rfl
def C5(a:Option D):List.replicate 0 a=[]:=rfl
def C4(a:Option D)(n:Nat):List.replicate (n+1) a=a::List.replicate n a:=rfl
def C3(a b:Int):bh (.int a) (.int b)=some (.int (a+b)):=rfl
def C2(a b:Int):dH (.int a) (.int b)=some (.int (a-b)):=rfl
def C1(a b:Int):W (cA (.int a) (.int b)) Qd=(CMul a b/\Qd (.int (a*b))):=lq _ _ _
def C0(a b:Int):W (bU (.int a) (.int b)) Qd=(0<b/\Qd (.int (a % b))):=lq _ _ _
def CZ(a b:Int):W (l5 (.int a) (.int b)) Qd=(j1 a b/\Qd (.int (a ^ b.toNat))):=lq _ _ _
def CY(a b:Int):ltI (.int a) (.int b)=some (.bool (decide (a<b))):=rfl
def CW(a b:Int):leI (.int a) (.int b)=some (.bool (decide (a<=b))):=rfl
def CV(a b:Int):gtI (.int a) (.int b)=some (.bool (decide (b<a))):=rfl
def CU(a b:Int):eqD (.int a) (.int b)=some (.bool (decide (a=b))):=(Lk a b).trans (congrArg (fun q=>some (PyData.bool q)) (wa a b))
def CT(a b:Int):neD (.int a) (.int b)=some (.bool (!decide (a=b))):=(JX a b).trans (congrArg (fun q=>some (PyData.bool (!q))) (wa a b))
def CQ:isN .none .none=some (.bool true):=rfl
def CP:i9 .none .none=some (.bool false):=rfl
def CO(x:Int):isN (.int x) .none=some (.bool false):=rfl
def CN(x:Int):i9 (.int x) .none=some (.bool true):=rfl
def CM(x:List D):isN (.list x) .none=some (.bool false):=rfl
def CL:bg "int" (.none)=some (.bool false):=(if_neg (fun z=>nomatch z)).trans (congrArg (fun b=>some (PyData.bool b)) (show bO "NoneType" "int"=false by decide))
def CK:bg "str" (.none)=some (.bool false):=(if_neg (fun z=>nomatch z)).trans (congrArg (fun b=>some (PyData.bool b)) (show bO "NoneType" "str"=false by decide))
def CJ:bg "list" (.none)=some (.bool false):=(if_neg (fun z=>nomatch z)).trans (congrArg (fun b=>some (PyData.bool b)) (show bO "NoneType" "list"=false by decide))
def CI:bg "tuple" (.none)=some (.bool false):=(if_neg (fun z=>nomatch z)).trans (congrArg (fun b=>some (PyData.bool b)) (show bO "NoneType" "tuple"=false by decide))
def CH(x:Int):bg "int" (.int x)=some (.bool true):=(if_neg (fun z=>nomatch z)).trans (congrArg (fun b=>some (PyData.bool b)) (show bO "int" "int"=true by decide))
def CG(x:Int):bg "bool" (.int x)=some (.bool false):=(if_neg (fun z=>nomatch z)).trans (congrArg (fun b=>some (PyData.bool b)) (show bO "int" "bool"=false by decide))
def CF(x:Int):bg "str" (.int x)=some (.bool false):=(if_neg (fun z=>nomatch z)).trans (congrArg (fun b=>some (PyData.bool b)) (show bO "int" "str"=false by decide))
def CD(x:Int):bg "list" (.int x)=some (.bool false):=(if_neg (fun z=>nomatch z)).trans (congrArg (fun b=>some (PyData.bool b)) (show bO "int" "list"=false by decide))
def CC(x:Int):bg "tuple" (.int x)=some (.bool false):=(if_neg (fun z=>nomatch z)).trans (congrArg (fun b=>some (PyData.bool b)) (show bO "int" "tuple"=false by decide))
def CB(x:Bool):bg "int" (.bool x)=some (.bool true):=(if_neg (fun z=>nomatch z)).trans (congrArg (fun b=>some (PyData.bool b)) (show bO "bool" "int"=true by decide))
def CA(x:Bool):bg "bool" (.bool x)=some (.bool true):=(if_neg (fun z=>nomatch z)).trans (congrArg (fun b=>some (PyData.bool b)) (show bO "bool" "bool"=true by decide))
def Cz(x:Bool):bg "str" (.bool x)=some (.bool false):=(if_neg (fun z=>nomatch z)).trans (congrArg (fun b=>some (PyData.bool b)) (show bO "bool" "str"=false by decide))
def Cy(x:Bool):bg "list" (.bool x)=some (.bool false):=(if_neg (fun z=>nomatch z)).trans (congrArg (fun b=>some (PyData.bool b)) (show bO "bool" "list"=false by decide))
def Cw(x:Bool):bg "tuple" (.bool x)=some (.bool false):=(if_neg (fun z=>nomatch z)).trans (congrArg (fun b=>some (PyData.bool b)) (show bO "bool" "tuple"=false by decide))
def Cv(x:Str):bg "int" (.str x)=some (.bool false):=(if_neg (fun z=>nomatch z)).trans (congrArg (fun b=>some (PyData.bool b)) (show bO "str" "int"=false by decide))
def Cu(x:Str):bg "str" (.str x)=some (.bool true):=(if_neg (fun z=>nomatch z)).trans (congrArg (fun b=>some (PyData.bool b)) (show bO "str" "str"=true by decide))
def Ct(x:Str):bg "list" (.str x)=some (.bool false):=(if_neg (fun z=>nomatch z)).trans (congrArg (fun b=>some (PyData.bool b)) (show bO "str" "list"=false by decide))
def Cs(x:Str):bg "tuple" (.str x)=some (.bool false):=(if_neg (fun z=>nomatch z)).trans (congrArg (fun b=>some (PyData.bool b)) (show bO "str" "tuple"=false by decide))
def Cr(x:List D):bg "int" (.list x)=some (.bool false):=(if_neg (fun z=>nomatch z)).trans (congrArg (fun b=>some (PyData.bool b)) (show bO "list" "int"=false by decide))
def Cq(x:List D):bg "str" (.list x)=some (.bool false):=(if_neg (fun z=>nomatch z)).trans (congrArg (fun b=>some (PyData.bool b)) (show bO "list" "str"=false by decide))
def Cp(x:List D):bg "list" (.list x)=some (.bool true):=(if_neg (fun z=>nomatch z)).trans (congrArg (fun b=>some (PyData.bool b)) (show bO "list" "list"=true by decide))
def Co(x:List D):bg "tuple" (.list x)=some (.bool false):=(if_neg (fun z=>nomatch z)).trans (congrArg (fun b=>some (PyData.bool b)) (show bO "list" "tuple"=false by decide))
def Cn(x:List D):bg "int" (.tuple x)=some (.bool false):=(if_neg (fun z=>nomatch z)).trans (congrArg (fun b=>some (PyData.bool b)) (show bO "tuple" "int"=false by decide))
def Cm(x:List D):bg "str" (.tuple x)=some (.bool false):=(if_neg (fun z=>nomatch z)).trans (congrArg (fun b=>some (PyData.bool b)) (show bO "tuple" "str"=false by decide))
def Cl(x:List D):bg "list" (.tuple x)=some (.bool false):=(if_neg (fun z=>nomatch z)).trans (congrArg (fun b=>some (PyData.bool b)) (show bO "tuple" "list"=false by decide))
def Ck(x:List D):bg "tuple" (.tuple x)=some (.bool true):=(if_neg (fun z=>nomatch z)).trans (congrArg (fun b=>some (PyData.bool b)) (show bO "tuple" "tuple"=true by decide))
def Cj:((([]:List D).length:Nat):Int)=0:=rfl
def Ci(x0 x1:D):((([x0,x1]:List D).length:Nat):Int)=2:=rfl
def Ch(x0 x1 x2:D):((([x0,x1,x2]:List D).length:Nat):Int)=3:=rfl
def Cg(α β:Type)(f:α->β)(l:List α):(l.map f).length=l.length:=zad f
def Cf:aK [.list ts]=some (.int ts.length):=rfl
def Ce:aK [.tuple ts]=some (.int ts.length):=rfl
def Cd(a b:Int):su [.int a,.int b]=some (.int (if b>a then b else a)):=rfl
def Cc:kZ [.bool true]=some (.int 1):=rfl
def Cb:kZ [.bool false]=some (.int 0):=rfl
def Ca(a:Int):ca (.int a)=some (.int (-a)):=rfl
def B9:gP [.list ts]=some (.list ts):=rfl
def B8:qm [.list ts]=some (.tuple ts):=rfl
def B7(n:Int):ixA (.list ts) (.int n)=atI ts n:=rfl
def B6:gP [.tuple ts]=some (.list ts):=rfl
def B5(n:Int):ixA (.tuple ts) (.int n)=atI ts n:=rfl
def B4(ts us:List D):W (aV (.list ts) (.list us)) Qd=(ts.length+us.length<=sizeLine/\Qd (.list (ts++us))):=lq _ _ _
def B3(ts us:List D):W (lj (.tuple ts) (.tuple us)) Qd=(ts.length+us.length<=sizeLine/\Qd (.tuple (ts++us))):=lq _ _ _
def B2(lo hi:Option Int):bF (.list ts) lo hi=some (.list (a8 ts lo hi)):=rfl
def B1:atI ts 0=ts[0]?:=bw ts _
def B0:atI ts 1=ts[1]?:=bw ts _
def BZ(t:D):(t::ts)[0]?=some t:=rfl
def BY(t:D):(t::ts)[i+1]?=ts[i]?:=List.getElem?_cons_succ
def BX(lo hi:Option Int):jD (.tuple ts) lo hi=some (.tuple (a8 ts lo hi)):=by first|rfl|exact aG _ _|exact bW _
def BW:kK (.list ts) (.int (-1))=some (.list ts.reverse):=rfl
def BV:mZ (.tuple ts) (.int (-1))=some (.tuple ts.reverse):=rfl
def BU(a b:Str):eqD (.str a) (.str b)=some (.bool (decide (a=b))):=Lj a b
def BT(a b:Str):neD (.str a) (.str b)=some (.bool (!decide (a=b))):=JU a b
def BS(m:List D):([]++m:List D)=m:=rfl
def BR(x:D)(l m:List D):((x::l)++m:List D)=x::(l++m):=rfl
def BQ(x0 x1:D):(([x0,x1]:List D).length<sizeLine)=True:=eq_true (zag (by show 2<100;decide) cv)
def BP(x0 x1 x2:D):(([x0,x1,x2]:List D).length<sizeLine)=True:=eq_true (zag (by show 3<100;decide) cv)
def BN:(!true)=false:=rfl
def BM:(!false)=true:=rfl
def BL(p:Prop):(True/\p)=p:=true_and p
def BK(p:Prop):(p/\True)=p:=and_true p
def BJ(_:Decidable True):decide True=true:=zaB trivial
def BH(_:Decidable False):decide False=false:=zaA (fun z=>z)
end
def zzI{a b:Prop}(x:a)(y:b):a/\b:=⟨x,y⟩
def G6:=zzI @ws0 (zzI @ws1 (zzI @ws2 (zzI @ws3 (zzI @ws4 (zzI @ws5 (zzI @ws6 (zzI @ws7 (zzI @ws8 (zzI @ws9 (zzI @IS (zzI @IR (zzI @IQ (zzI @IP (zzI @IN (zzI @IM (zzI @IL (zzI @IK (zzI @IJ (zzI @II (zzI @IH (zzI @IG (zzI @IF (zzI @IE (zzI @ID (zzI @IC (zzI @IB (zzI @IA (zzI @Iz (zzI @Iy (zzI @Ix (zzI @Iw (zzI @Iv (zzI @Iu (zzI @Ir (zzI @Iq (zzI @Ip (zzI @Io (zzI @Im @Il))))))))))))))))))))))))))))))))))))))
def G5:=zzI @Ik (zzI @Ij (zzI @Ii (zzI @Ih (zzI @Ig (zzI @Ie (zzI @Ic (zzI @Ib (zzI @Ia (zzI @HZ (zzI @HY (zzI @HX (zzI @HW (zzI @HV (zzI @HU (zzI @HS (zzI @HR (zzI @HQ (zzI @HP (zzI @HN (zzI @HM (zzI @HL (zzI @HK (zzI @HJ (zzI @HI (zzI @HH (zzI @HG (zzI @HF (zzI @HE (zzI @HD (zzI @HC (zzI @HB (zzI @HA (zzI @Hz (zzI @Hy (zzI @Hx (zzI @Hw (zzI @Hv (zzI @Hu @Ht))))))))))))))))))))))))))))))))))))))
def G4:=zzI @Hs (zzI @Hr (zzI @Hq (zzI @Ho (zzI @Hm (zzI @Hl (zzI @Hk (zzI @Hj (zzI @Hi (zzI @Hh (zzI @Hg (zzI @Hf (zzI @He (zzI @Hd (zzI @Hc (zzI @Hb (zzI @Ha (zzI @G9 (zzI @G8 (zzI @G7 (zzI @Ed (zzI @Ec (zzI @Eb (zzI @Ea (zzI @D9 (zzI @D8 (zzI @D7 (zzI @D6 (zzI @D5 (zzI @D4 (zzI @D3 (zzI @D2 (zzI @D1 (zzI @D0 (zzI @DZ (zzI @DY (zzI @DX (zzI @DW (zzI @DU @DT))))))))))))))))))))))))))))))))))))))
def G3:=zzI @DS (zzI @DR (zzI @DQ (zzI @DP (zzI @DN (zzI @DM (zzI @DL (zzI @DK (zzI @DJ (zzI @DI (zzI @DH (zzI @DG (zzI @DF (zzI @DE (zzI @DD (zzI @DC (zzI @DB (zzI @DA (zzI @Dz (zzI @Dy (zzI @Dx (zzI @Dw (zzI @Dv (zzI @Du (zzI @Dt (zzI @Ds (zzI @Dr (zzI @Dq (zzI @Dp (zzI @Do (zzI @Dm (zzI @Dl (zzI @Dk (zzI @Dj (zzI @Di (zzI @Dh (zzI @Dg (zzI @De (zzI @Dd @Dc))))))))))))))))))))))))))))))))))))))
def G0:=zzI @Db (zzI @Da (zzI @C9 (zzI @C8 (zzI @C7 (zzI @C6 (zzI @C5 (zzI @C4 (zzI @C3 (zzI @C2 (zzI @C1 (zzI @C0 (zzI @CZ (zzI @CY (zzI @CW (zzI @CV (zzI @CU (zzI @CT (zzI @CQ (zzI @CP (zzI @CO (zzI @CN (zzI @CM (zzI @CL (zzI @CK (zzI @CJ (zzI @CI (zzI @CH (zzI @CG (zzI @CF (zzI @CD (zzI @CC (zzI @CB (zzI @CA (zzI @Cz (zzI @Cy (zzI @Cw (zzI @Cv (zzI @Cu @Ct))))))))))))))))))))))))))))))))))))))
def GZ:=zzI @Cs (zzI @Cr (zzI @Cq (zzI @Cp (zzI @Co (zzI @Cn (zzI @Cm (zzI @Cl (zzI @Ck (zzI @Cj (zzI @Ci (zzI @Ch (zzI @Cg (zzI @Cf (zzI @Ce (zzI @Cd (zzI @Cc (zzI @Cb (zzI @Ca (zzI @B9 (zzI @B8 (zzI @B7 (zzI @B6 (zzI @B5 (zzI @B4 (zzI @B3 (zzI @B2 (zzI @B1 (zzI @B0 (zzI @BZ (zzI @BY (zzI @BX (zzI @BW (zzI @BV (zzI @BU (zzI @BT (zzI @BS (zzI @BR (zzI @BQ @BP))))))))))))))))))))))))))))))))))))))
def GY:=zzI @BN (zzI @BM (zzI @BL (zzI @BK (zzI @BJ @BH))))
def ws:=zzI @G6 (zzI @G5 (zzI @G4 (zzI @G3 (zzI @G0 (zzI @GZ @GY)))))
end L2
namespace L2
namespace Pen3
open PySem L2
def sl1000:1000<=sizeLine:=by rw[sizeLine_eq];decide
end Pen3
end L2
namespace L2
variable{g:MG}{b:MS}{ts:List D}{en:En}{Q:List D×En->Prop}{c:MT}{f:ME}{n:Nat}{o:Option D}
open PySem PySem.Spec PyProof.Rows
def du{Q:Fl->Prop}(I:Nat->En->Prop)(h0:I 0 en)
  (hs:∀i t en,ts[i]?=some t->I i en->W (g t en) (kFg b (I (i+1)) Q)) (hq:∀en,I ts.length en->Q (.nx en)):W (cE g b ts en) Q:=by
 suffices ∀(us:List D) (i:Nat) (en:En),ts.drop i=us->i<=ts.length->I i en->W (cE g b us en) Q from this ts 0 en rfl (zbj _) h0
 intro us
 induction us with
 |nil=>
  intro i en hu hi h
  have:ts.length-i=0:=by rw[<-zaF,hu];rfl
  simp only[ws];exact hq en (by rw[show ts.length=i by omega];exact h)
 |cons t us ih=>
  intro i en hu hi h;have ht:ts[i]?=some t:=by
   have:(ts.drop i)[0]?=some t:=by rw[hu];rfl
   rw[List.getElem?_drop]at this;exact this
  have hl:i<ts.length:=(zah.mp ht).1;have hd:ts.drop (i+1)=us:=by rw[<-List.drop_drop,hu];rfl
  simp only[ws];refine(hs i t en ht h).use fun en1 h1=>?_;simp only[ws]at h1 ⊢;refine h1.use fun fl h2=>?_;cases fl with
  |nx e=>simp only[ws]at h2 ⊢;exact ih (i+1) e hd hl h2
  |ct e=>simp only[ws]at h2 ⊢;exact ih (i+1) e hd hl h2
  |rt t e=>simp only[ws]at h2 ⊢;exact h2
def Nw(I:Nat->List D->En->Prop)(hz:ts.length<=sizeLine)(h0:I 0 [] en)
  (hs:∀i t us en,ts[i]?=some t->us.length<=i->I i us en->W (g t en) (Kg c f us (I (i+1)))) (hq:∀us en,us.length<=ts.length->I ts.length us en->Q (us,en)):W (lcF g c f ts [] en) Q:=by
 suffices ∀(vs:List D) (i:Nat) (us:List D) (en:En),ts.drop i=vs->i<=ts.length->us.length<=i->I i us en->W (lcF g c f vs us en) Q from this ts 0 [] en rfl (zbj _) (zbj _) h0
 intro vs
 induction vs with
 |nil=>
  intro i us en hu hi hl h
  have:ts.length-i=0:=by rw[<-zaF,hu];rfl
  simp only[ws];exact hq us en (by omega) (by rw[show ts.length=i by omega];exact h)
 |cons t vs ih=>
  intro i us en hu hi hl h;have ht:ts[i]?=some t:=by
   have:(ts.drop i)[0]?=some t:=by rw[hu];rfl
   rw[List.getElem?_drop]at this;exact this
  have hlt:i<ts.length:=(zah.mp ht).1;have hd:ts.drop (i+1)=vs:=by rw[<-List.drop_drop,hu];rfl
  unfold lcF;rw[aB];refine(hs i t us en ht hl h).use fun en1 h1=>?_;simp only[ws]at h1;rw[aB];refine h1.use fun r h2=>?_;obtain⟨x,en2⟩:=r;cases x with
  |true=>
   simp only[ws]at h2;show W ((f en2).bind _) Q;rw[aB];refine h2.use fun q h3=>?_;obtain⟨u,en3⟩:=q;simp only[ws]at h3;show W (if us.length<sizeLine then _ else _) Q;rw[if_pos (by omega)];exact ih (i+1) _ _ hd hlt (by rw[zae];show _+1<=_;omega) h3
  |false=>
   simp only[ws]at h2;exact ih (i+1) _ _ hd hlt (by omega) h2
def qP{Q:Fl->Prop}(I:Nat->En->Prop)(hs:∀n en,I n en->W (c en) (kWh b (fun e=>∃m,m<n/\I m e) Q))(h0:I n en):W (cP c b en) Q:=by
 induction n using Nat.strongRecOn generalizing en with
 |_ n ih=>
  obtain⟨⟨x,en1⟩,e1,h1⟩:=(hs n en h0).ex;cases x with
  |false=>simp only[ws]at h1;exact W.of (u9 e1) h1
  |true=>
   simp only[ws]at h1;obtain⟨fl,e2,h2⟩:=h1.ex;cases fl with
   |nx e=>
    obtain⟨m,hm,hi⟩:∃m,m<n/\I m e:=h2;obtain⟨fl,e3,h3⟩:=(ih m hm hi).ex;exact W.of (va e1 e2 e3) h3
   |ct e=>
    obtain⟨m,hm,hi⟩:∃m,m<n/\I m e:=h2;obtain⟨fl,e3,h3⟩:=(ih m hm hi).ex;obtain⟨k,h4⟩:=jN e3;refine W.of (jA (n:=k+1) ?_) h3;unfold whN;rw[e1];show(b en1).bind _=_;rw[e2];exact h4
   |rt t e=>
    refine W.of (jA (n:=1) ?_) (show Q (.rt t e)from h2);unfold whN;rw[e1];show(b en1).bind _=_;rw[e2];rfl
def dM{rest:En}(F:D->D)(hz:ts.length<=sizeLine)(hf:∀t∈ts,W (f (some t::rest)) (fun r=>r=(F t,some t::rest)))(hq:∀o',Q (ts.map F,o'::rest)):W (lcF (gN 0) cY f ts [] (o::rest)) Q:=by
 obtain⟨o',e⟩:=qF (f:=f) (F:=F) (rest:=rest) ts [] o (fun t ht=>by
  obtain⟨r,e,h⟩:=(hf t ht).ex;rw[e,h]) (by simpa using hz)
 exact W.of e (hq o')
def mD{rest:En}(p:D->Bool)(F:D->D)(hz:ts.length<=sizeLine)(hc:∀t∈ts,W (c (some t::rest)) (fun r=>r=(p t,some t::rest)))(hf:∀t∈ts,p t=true->W (f (some t::rest)) (fun r=>r=(F t,some t::rest)))(hq:∀o',Q ((ts.filter p).map F,o'::rest)):W (lcF (gN 0) c f ts [] (o::rest)) Q:=by
 obtain⟨o',e⟩:=ga (c:=c) (f:=f) (p:=p) (F:=F) (rest:=rest) ts [] o (fun t ht=>by
  obtain⟨r,e,h⟩:=(hc t ht).ex;rw[e,h]) (fun t ht hp=>by
  obtain⟨r,e,h⟩:=(hf t ht hp).ex;rw[e,h]) (by simpa using hz)
 exact W.of e (hq o')
def df{α:Type}{ts:List α}{i:Nat}{t:α}(h:ts[i]?=some t):ts.take (i+1)=ts.take i++[t]:=by
 rw[List.take_add_one,h];rfl
def Lx{Q:Fl->Prop}(J:En->Prop)(h0:J en)(hs:∀t∈ts,∀en,J en->W (g t en) (kFg b J Q))(hq:∀en,J en->Q (.nx en)):W (cE g b ts en) Q:=
 du (fun _=>J) h0 (fun _ t en ht hj=>hs t (zaX ht) en hj) hq
def j7{i:Int}{k:Nat}{t:D}(h:(i5 i n)[k]?=some t):k<n/\t=.int (i+(k:Nat)):=by
 unfold i5 at h;rw[zao]at h;obtain⟨j,hj,rfl⟩:=zab.mp h;obtain⟨hl,e⟩:=zah.mp hj;rw[List.getElem_range]at e;rw[zbe]at hl;exact⟨hl,by rw[e]⟩
def j6(i:Int)(n:Nat):(i5 i n).length=n:=by unfold i5;rw[zad,zbe]
def sz(h:n<=1000):n<=sizeLine:=zau h Pen3.sl1000
def szl(h:n<1000):n<sizeLine:=zag h Pen3.sl1000
end L2
namespace Mch
variable{ns v:List Int}{k l way j fence mo:Int}{i S n:Nat}{fa:MA}{en en1:En}{es:List Bool}{gs:List (List (Option Nat))}{y:Option D}{r:List (Option Nat)}
open PySem L2 Pen2
def jx:MS:=(ay (eLC true (bi (e2 ixA (ad 0) (eC (.int 0)))) (gN 0) cY (eIf (tV (ad 0)) (eC (.int 1)) (eC (.int 0))) [none]))
def oQ:List D->Option (D×En):=fnF 0 [0] jx
def j2:MS:=(ay (e2 ixA (aw (ac (eC (.int 2)) (ac (eC (.int 1)) (ac (eC (.int 3)) (ac (eC (.int 2)) (ac (eC (.int 4)) (ac (eC (.int 3)) (ac (eC (.int 2)) (ac (e2 bh (eC (.int 5)) (ar ax (aD 0 (ac (eC (.int 8)) ag)))) ag))))))))) (ar ax (aD 0 (ac (eC (.int 8)) ag)))))
def cK:List D->Option (D×En):=fnF 0 [1] j2
def gC:MS:=(ak (au 4 (ar ax (aD 0 (ac (e2 bh (ad 2) (eC (.int 1))) ag))))
 (ak (sIf (bOr (tV (e2 eqD (ad 4) (ad 2))) (cZ (tV (e2 eqD (ad 3) (eC (.int 1)))) (tV (e2 leI (ad 4) (ad 1))))) (ay (eC .none)) aW)
 (ay (ad 4))))
def cz:List D->Option (D×En):=fnF 1 [1,0,0,0] gC
def fJ:MS:=(ak (au 3 (e2 bh (eC (.int 1)) (ar ax (aD 0 (ac (ad 2) ag)))))
 (ak (au 4 (ar ax (aD 0 (ac (eC (.int 4)) ag))))
 (ak (au 5 (e2 bh (eC (.int 1)) (ar ax (aD 0 (ac (ad 3) ag)))))
 (ak (au 6 (aw ag))
 (ak (au 7 (aw ag))
 (ak (bT (bS (ac (ad 3) ag)) (gN 8) (ak (cG (cF 6 (e2 eqD (ar ax (aD 0 (ac (eC (.int 3)) ag))) (eC (.int 0)))))
 (ak (au 9 (eLC false (bS (ac (ad 1) ag)) (gN 0) cY (ar cz (aD 1 (ac (ad 4) (ac (ad 2) (ac (ad 3) ag))))) [none,some 0,some 3,some 4,some 8]))
 (ak (sIf (cZ (tV (e2 eqD (ad 4) (eC (.int 2)))) (tV (e2 ltI (ad 8) (ad 5)))) (ak (eX 6 (ad 8) (eC (.bool false)))
 (au 9 (eLC true (bi (ad 9)) (gN 0) cY (e2 ixA (aw (ac (ad 0) (ac (eC .none) ag))) (eN kZ (ac (eOr (e2 isN (ad 0) (eC .none)) (e2 geI (ad 0) (ad 1))) ag))) [none,some 5]))) aW)
 (cG (cF 7 (ad 9)))))))
 (ay (bj (ac (ad 6) (ac (ad 7) ag))))))))))
def bZ:List D->Option (D×En):=fnF 7 [1,0,0] fJ
def goD:Option Nat->D
 |none=>.none
 |some j=>.int j
def aT(r:List (Option Nat)):D:=.list (r.map goD)
def aA(es:List Bool)(gs:List (List (Option Nat))):D:=.tuple [.list (es.map .bool),.list (gs.map aT)]
def iR(S W:Nat)(r:List (Option Nat)):Prop:=r.length=W/\∀o∈r,∀j,o=some j->j<S
def signs_ok(h0:0<=k)(h1:k<=1000)(h2:0<=l):∃(s:Nat) (k' l':Int),cK [penD ns k l]=some (.int s,[some (penD ns k' l')])/\1<=s/\s<=12/\k<=k'/\k'<=k+2/\0<=l':=by
 obtain⟨r1,k1,l1,e1,a1,a2,a3,a4,a5⟩:=gJ (ns:=ns) (k:=k) (l:=l) (m:=8) (i:=0) (en:=[some (penD ns k l)]) (fa:=aD 0 (ac (eC (.int 8)) ag)) rfl rfl h0 (by omega) h2 (by decide) (by decide);obtain⟨r2,k2,l2,e2',b1,b2,b3,b4,b5⟩:=gJ (ns:=ns) (k:=k1) (l:=l1) (m:=8) (i:=0) (en:=[some (penD ns k1 l1)]) (fa:=aD 0 (ac (eC (.int 8)) ag)) rfl rfl (by omega) (by omega) a5 (by decide) (by decide);have hx:∃s:Nat,ixA (.list [.int 2,.int 1,.int 3,.int 2,.int 4,.int 3,.int 2,.int (5+r1)]) (.int r2)=some (.int s)/\1<=s/\s<=12:=by
  have:r2=0\/r2=1\/r2=2\/r2=3\/r2=4\/r2=5\/r2=6\/r2=7:=by omega
  rcases this with rfl|rfl|rfl|rfl|rfl|rfl|rfl|rfl
  ·exact⟨2,rfl,by decide,by decide⟩
  ·exact⟨1,rfl,by decide,by decide⟩
  ·exact⟨3,rfl,by decide,by decide⟩
  ·exact⟨2,rfl,by decide,by decide⟩
  ·exact⟨4,rfl,by decide,by decide⟩
  ·exact⟨3,rfl,by decide,by decide⟩
  ·exact⟨2,rfl,by decide,by decide⟩
  ·refine⟨(5+r1).toNat,?_,by omega,by omega⟩;rw[show(((5+r1).toNat:Nat):Int)=5+r1 by omega];rfl
 obtain⟨s,ex,s1,s2⟩:=hx;refine⟨s,k2,l2,?_,s1,s2,by omega,by omega,b5⟩;refine eI (en:=[some (penD ns k2 l2)]) (ng (bD (en1:=[some (penD ns k1 l1)]) (ux (iO rfl (iO rfl (iO rfl (iO rfl (iO rfl (iO rfl (iO rfl (iO (bD rfl e1 rfl) rfl)))))))) rfl ?_) e2' ex));exact zau (by show 8<=100;decide) cv
def FF(hS:S<=60)(h0:0<=k)(h1:k<=10000)(h2:0<=l):∃(o:Option Nat) (k' l':Int),cz [penD ns k l,.int i,.int S,.int way]=some (goD o,[some (penD ns k' l'),none,none,none])/\(∀j,o=some j->j<S)/\k<=k'/\k'<=k+1/\0<=l':=by
 obtain⟨r1,k1,l1,e1,a1,a2,a3,a4,a5⟩:=gJ (ns:=ns) (k:=k) (l:=l) (m:=S+1) (i:=0) (en:=[some (penD ns k l),some (.int i),some (.int S),some (.int way),none]) (fa:=aD 0 (ac (e2 bh (ad 2) (eC (.int 1))) ag)) rfl rfl h0 (by omega) h2 (by omega) (by omega);have c1:(tV (e2 eqD (ad 4) (ad 2))) [some (penD ns k1 l1),some (.int i),some (.int S),some (.int way),some (.int r1)]=some (r1==(S:Int),[some (penD ns k1 l1),some (.int i),some (.int S),some (.int way),some (.int r1)]):=rfl;have c2:(tV (e2 eqD (ad 3) (eC (.int 1)))) [some (penD ns k1 l1),some (.int i),some (.int S),some (.int way),some (.int r1)]=some (way==1,[some (penD ns k1 l1),some (.int i),some (.int S),some (.int way),some (.int r1)]):=rfl;have c3:(tV (e2 leI (ad 4) (ad 1))) [some (penD ns k1 l1),some (.int i),some (.int S),some (.int way),some (.int r1)]=some (decide (r1<=(i:Int)),[some (penD ns k1 l1),some (.int i),some (.int S),some (.int way),some (.int r1)]):=rfl;obtain⟨b,cb,hb⟩:∃b,(bOr (tV (e2 eqD (ad 4) (ad 2))) (cZ (tV (e2 eqD (ad 3) (eC (.int 1)))) (tV (e2 leI (ad 4) (ad 1))))) [some (penD ns k1 l1),some (.int i),some (.int S),some (.int way),some (.int r1)]=some (b,[some (penD ns k1 l1),some (.int i),some (.int S),some (.int way),some (.int r1)])/\(b=false->r1≠S):=by
  cases q1:(r1==(S:Int))with
  |true=>exact⟨true,uv c1 q1,fun z=>by cases z⟩
  |false=>
   have n1:r1≠S:=by simpa using q1
   cases q2:(way==1)with
   |true=>exact⟨_,pK c1 q1 (wn c2 q2 c3),fun _=>n1⟩
   |false=>exact⟨_,pK c1 q1 (wo c2 q2),fun _=>n1⟩
 cases b with
 |true=>exact⟨none,k1,l1,eI (b:=gC) (t:=.none) (en:=[some (penD ns k1 l1),some (.int i),some (.int S),some (.int way),some (.int r1)]) (aO (en1:=[some (penD ns k1 l1),some (.int i),some (.int S),some (.int way),some (.int r1)]) (dk e1 rfl) (ki (gf cb rfl rfl))),fun _ (z:none=some _)=>(by cases z),a3,a4,a5⟩
 |false=>
  have:=hb rfl;refine⟨some r1.toNat,k1,l1,?_,fun j hj=>by cases hj;omega,a3,a4,a5⟩;have e:goD (some r1.toNat)=.int r1:=by show PyData.int ((r1.toNat:Nat):Int)=_;rw[Int.toNat_of_nonneg a1]
  rw[e];exact eI (b:=gC) (en:=[some (penD ns k1 l1),some (.int i),some (.int S),some (.int way),some (.int r1)]) (aO (en1:=[some (penD ns k1 l1),some (.int i),some (.int S),some (.int way),some (.int r1)]) (dk e1 rfl) (aO (mx cb rfl rfl) rfl))
def Jo(n:Nat)(hn:n<1000000):-(2 ^ 62)<=(n:Int)/\(n:Int)<2 ^ 62:=by
 have:(n:Int)<1000000:=by omega
 constructor
 ·exact Int.le_trans (by decide +kernel) (Int.natCast_nonneg n)
 ·exact Int.lt_of_lt_of_le this (by decide +kernel)
def Lh(p1:-(2 ^ 62)<=j/\j<2 ^ 62)(h:fa en=some ([.inl (.int j)],en1)):bS fa en=some ((List.range j.toNat).map fun k=>.int (0+(k:Nat)),en1):=by
 unfold bS;rw[h];simp only[Option.bind_some];exact if_pos p1
def wm(h:fa en=some ([.inl (.int n)],en1))(hn:n<1000000):bS fa en=some ((List.range n).map fun k=>.int (0+(k:Nat)),en1):=by
 have e:=Lh (Jo n hn) h;rw[zaL]at e;exact e
def mEn(mo:Int)(ns:List Int)(k l:Int)(W S:Nat)(way fence:Int)(es:List Bool)(gs:List (List (Option Nat)))(x y:Option D):En:=
 [some (penD ns k l),some (.int W),some (.int mo),some (.int S),some (.int way),some (.int fence),some (.list (es.map .bool)),some (.list (gs.map aT)),x,y]
def oK(fence:Int):Option Nat->Option Nat
 |some j=>if fence<=(j:Int)then none else some j
 |none=>none
def Bs(fence:Int):D->D
 |.int j=>if fence<=j then .none else .int j
 |_=>.none
def Lo(o:Option Nat):Bs fence (goD o)=goD (oK fence o):=by
 cases o with
 |none=>rfl
 |some j=>
  show(if fence<=(j:Int)then PyData.none else .int j)=goD (if fence<=(j:Int)then none else some j);split<;>rfl
def sW{W:Nat}(hW:W<=12)(hS:S<=60)(h0:0<=k)(h1:k<=9000)(h2:0<=l):
  ∃(r:List (Option Nat)) (k' l':Int),eLC false (bS (ac (ad 1) ag)) (gN 0) cY (ar cz (aD 1 (ac (ad 4) (ac (ad 2) (ac (ad 3) ag))))) [none,some 0,some 3,some 4,some 8] (mEn mo ns k l W S way fence es gs (some (.int i)) y)
   = some (aT r,mEn mo ns k' l' W S way fence es gs (some (.int i)) y)/\iR S W r/\k<=k'/\k'<=k+12/\0<=l':=by
 have hl:((List.range W).map fun k=>PyData.int (0+(k:Nat))).length=W:=by rw[zad,zbe]
 obtain⟨us,ex,e1,⟨o,k',l',rfl,q1,q2,q3⟩,a⟩:=v1 (N:=W) (g:=gN 0) (c:=cY) (f:=ar cz (aD 1 (ac (ad 4) (ac (ad 2) (ac (ad 3) ag)))))
  (fun n en=>∃o k' l',en=[o,some (penD ns k' l'),some (.int S),some (.int way),some (.int i)]/\k<=k'/\k'<=k+n/\0<=l') (fun _ q=>∃o,q=goD o/\∀j,o=some j->j<S)
  (fun n t en hn ⟨o,k',l',he,q1,q2,q3⟩=>by
   subst he;obtain⟨o',k2,l2,e,p1,p2,p3,p4⟩:=FF (ns:=ns) (k:=k') (l:=l') (way:=way) (i:=i) (S:=S) hS (by omega) (by omega) q3;exact⟨[some t,some (penD ns k' l'),some (.int S),some (.int way),some (.int i)],[some t,some (penD ns k' l'),some (.int S),some (.int way),some (.int i)],goD o',[some t,some (penD ns k2 l2),some (.int S),some (.int way),some (.int i)],rfl,rfl,nh (as:=[.inr 1,.inl (.int i),.inl (.int S),.inl (.int way)]) rfl rfl e rfl,⟨some t,k2,l2,rfl,by omega,by omega,p4⟩,⟨o',rfl,p1⟩⟩)
  ((List.range W).map fun k=>.int (0+(k:Nat))) [] 0 (dq [none,some 0,some 3,some 4,some 8] (mEn mo ns k l W S way fence es gs (some (.int i)) y)) ⟨none,k,l,rfl,Int.le_refl _,by omega,h2⟩ (by rw[hl];omega) (by rw[hl];show 0+W<=_;exact zau (by omega) cv)
 obtain⟨os,rfl,o1,o2⟩:=a.ex;rw[hl]at o1 q2;refine⟨os,k',l',sy (wm (n:=W) rfl (by omega)) e1 rfl,⟨o1,o2⟩,q1,by omega,q3⟩
def FC(h0:0<=j)(h1:j<n):ixN n j=some j.toNat:=by
 unfold ixN;rw[if_pos h0,if_pos h1]
def iT(h:i<n):ixN n (i:Int)=some i:=by
 have e:=FC (n:=n) (j:=(i:Int)) (Int.natCast_nonneg i) (Int.ofNat_lt.mpr h);rw[zaL]at e;exact e
def GK{W:Nat}(hr:iR S W r)(hW:W<=12):
  eLC true (bi (ad 9)) (gN 0) cY (e2 ixA (aw (ac (ad 0) (ac (eC .none) ag))) (eN kZ (ac (eOr (e2 isN (ad 0) (eC .none)) (e2 geI (ad 0) (ad 1))) ag))) [none,some 5] (mEn mo ns k l W S way fence es gs (some (.int i)) (some (aT r)))
   = some (aT (r.map (oK fence)),mEn mo ns k l W S way fence es gs (some (.int i)) (some (aT r))):=by
 obtain⟨o',e⟩:=qF (F:=Bs fence) (rest:=[some (.int fence)]) (f:=e2 ixA (aw (ac (ad 0) (ac (eC .none) ag))) (eN kZ (ac (eOr (e2 isN (ad 0) (eC .none)) (e2 geI (ad 0) (ad 1))) ag))) (r.map goD) [] none (fun t ht=>by
  obtain⟨o,ho,rfl⟩:=zaz.mp ht;have l2:aw (ac (ad 0) (ac (eC .none) ag)) [some (goD o),some (.int fence)]=some (.list [goD o,.none],[some (goD o),some (.int fence)]):=ux rfl rfl (zau (by show 2<=100;decide) cv);cases o with
  |none=>exact bD l2 (t2:=.int 1) rfl rfl
  |some j=>
   by_cases hf:fence<=(j:Int)
   ·refine bD l2 (t2:=.int 1) ?_ (show _=some (if fence<=(j:Int)then PyData.none else .int j)by rw[if_pos hf];rfl);show some (PyData.int (if decide (fence<=(j:Int))then 1 else 0),_)=_;rw[zaB hf];rfl
   ·refine bD l2 (t2:=.int 0) ?_ (show _=some (if fence<=(j:Int)then PyData.none else .int j)by rw[if_neg hf];rfl);show some (PyData.int (if decide (fence<=(j:Int))then 1 else 0),_)=_;rw[zaA hf];rfl) (by rw[zad,hr.1];exact zau (by show 0+W<=100;omega) cv)
 have em:(r.map goD).map (Bs fence)=(r.map (oK fence)).map goD:=by
  rw[zaR,zaR];exact zbw fun o _=>Lo o
 rw[em]at e;exact sy (en1:=mEn mo ns k l W S way fence es gs (some (.int i)) (some (aT r))) rfl e rfl
def Ln{W:Nat}(hr:iR S W r):iR S W (r.map (oK fence)):=by
 refine⟨by rw[zad,hr.1],fun o ho j hj=>?_⟩;obtain⟨o',h1,h2⟩:=zaz.mp ho;cases o' with
 |none=>rw[hj]at h2;cases h2
 |some j'=>
  rw[hj]at h2;have h3:(if fence<=(j':Int)then none else some j')=some j:=h2;split at h3
  ·cases h3
  ·cases h3;exact hr.2 _ h1 _ rfl
def Et:MS:=(ak (cG (cF 6 (e2 eqD (ar ax (aD 0 (ac (eC (.int 3)) ag))) (eC (.int 0)))))
 (ak (au 9 (eLC false (bS (ac (ad 1) ag)) (gN 0) cY (ar cz (aD 1 (ac (ad 4) (ac (ad 2) (ac (ad 3) ag))))) [none,some 0,some 3,some 4,some 8]))
 (ak (sIf (cZ (tV (e2 eqD (ad 4) (eC (.int 2)))) (tV (e2 ltI (ad 8) (ad 5)))) (ak (eX 6 (ad 8) (eC (.bool false)))
 (au 9 (eLC true (bi (ad 9)) (gN 0) cY (e2 ixA (aw (ac (ad 0) (ac (eC .none) ag))) (eN kZ (ac (eOr (e2 isN (ad 0) (eC .none)) (e2 geI (ad 0) (ad 1))) ag))) [none,some 5]))) aW)
 (cG (cF 7 (ad 9))))))
def GP{W:Nat}(hW:W<=12)(hS:S<=60)(hi:i<60)(h0:0<=k)(h1:k<=8000)(h2:0<=l)(he:es.length=i)(hg:gs.length=i):
  ∃(b:Bool) (r:List (Option Nat)) (k' l':Int) (y':Option D),Et (mEn mo ns k l W S way fence es gs (some (.int i)) y)=some (.nx (mEn mo ns k' l' W S way fence (es++[b]) (gs++[r]) (some (.int i)) y'))/\iR S W r/\k<=k'/\k'<=k+13/\0<=l':=by
 obtain⟨r1,k1,l1,e1,a1,a2,a3,a4,a5⟩:=gJ (ns:=ns) (k:=k) (l:=l) (m:=3) (i:=0) (en:=mEn mo ns k l W S way fence es gs (some (.int i)) y) (fa:=aD 0 (ac (eC (.int 3)) ag)) rfl rfl h0 (by omega) h2 (by decide) (by decide);have lm:(es.map PyData.bool).length<sizeLine:=by rw[zad,he];exact zag (by omega) cv
 have s1:cG (cF 6 (e2 eqD (ar ax (aD 0 (ac (eC (.int 3)) ag))) (eC (.int 0)))) (mEn mo ns k l W S way fence es gs (some (.int i)) y)=some (.nx (mEn mo ns k1 l1 W S way fence (es++[r1==0]) gs (some (.int i)) y)):=by
  refine zz (zA (us:=es.map .bool) (en1:=mEn mo ns k1 l1 W S way fence es gs (some (.int i)) y) rfl (bD (t2:=.int 0) e1 rfl rfl) rfl lm ?_);unfold mEn;rw[zaC];rfl
 obtain⟨r,k2,l2,e2',hr,b3,b4,b5⟩:=sW (mo:=mo) (ns:=ns) (k:=k1) (l:=l1) (way:=way) (fence:=fence) (W:=W) (S:=S) (i:=i) (es:=es++[r1==0]) (gs:=gs) (y:=y) hW hS (by omega) (by omega) a5;have s2:au 9 (eLC false (bS (ac (ad 1) ag)) (gN 0) cY (ar cz (aD 1 (ac (ad 4) (ac (ad 2) (ac (ad 3) ag))))) [none,some 0,some 3,some 4,some 8]) (mEn mo ns k1 l1 W S way fence (es++[r1==0]) gs (some (.int i)) y)=some (.nx (mEn mo ns k2 l2 W S way fence (es++[r1==0]) gs (some (.int i)) (some (aT r)))):=dk e2' rfl;have s4:∀(es':List Bool) (r':List (Option Nat)),cG (cF 7 (ad 9)) (mEn mo ns k2 l2 W S way fence es' gs (some (.int i)) (some (aT r')))=some (.nx (mEn mo ns k2 l2 W S way fence es' (gs++[r']) (some (.int i)) (some (aT r')))):=by
  intro es' r';refine zz (zA (us:=gs.map aT) (en1:=mEn mo ns k2 l2 W S way fence es' gs (some (.int i)) (some (aT r'))) rfl rfl rfl (by rw[zad,hg];exact zag (by omega) cv) ?_);unfold mEn;rw[zaC];rfl
 have c1:tV (e2 eqD (ad 4) (eC (.int 2))) (mEn mo ns k2 l2 W S way fence (es++[r1==0]) gs (some (.int i)) (some (aT r)))=some (way==2,mEn mo ns k2 l2 W S way fence (es++[r1==0]) gs (some (.int i)) (some (aT r))):=rfl;have c2:tV (e2 ltI (ad 8) (ad 5)) (mEn mo ns k2 l2 W S way fence (es++[r1==0]) gs (some (.int i)) (some (aT r)))=some (decide ((i:Int)<fence),mEn mo ns k2 l2 W S way fence (es++[r1==0]) gs (some (.int i)) (some (aT r))):=rfl;obtain⟨b,cb⟩:∃b,cZ (tV (e2 eqD (ad 4) (eC (.int 2)))) (tV (e2 ltI (ad 8) (ad 5))) (mEn mo ns k2 l2 W S way fence (es++[r1==0]) gs (some (.int i)) (some (aT r)))=some (b,mEn mo ns k2 l2 W S way fence (es++[r1==0]) gs (some (.int i)) (some (aT r))):=by
  cases q1:(way==2)with
  |true=>exact⟨_,wn c1 q1 c2⟩
  |false=>exact⟨_,wo c1 q1⟩
 cases b with
 |false=>exact⟨r1==0,r,k2,l2,_,aO s1 (aO s2 (aO (mx cb rfl rfl) (s4 _ _))),hr,by omega,by omega,b5⟩
 |true=>
  refine⟨false,r.map (oK fence),k2,l2,some (aT (r.map (oK fence))),aO s1 (aO s2 (aO (en1:=mEn mo ns k2 l2 W S way fence (es++[false]) gs (some (.int i)) (some (aT (r.map (oK fence))))) (gf cb rfl (aO (en1:=mEn mo ns k2 l2 W S way fence (es++[false]) gs (some (.int i)) (some (aT r))) ?_ (dk (GK hr hW) rfl))) (s4 _ _))),Ln hr,by omega,by omega,b5⟩;have ix:ixN ((es++[r1==0]).map PyData.bool).length (i:Int)=some i:=iT (by rw[zad,zae,he];exact zaJ _);have st:((es++[r1==0]).map PyData.bool).set i (.bool false)=(es++[false]).map PyData.bool:=by
   have e:(es++[r1==0]).set i false=es++[false]:=by
    rw[List.set_append_right _ _ (by omega),he,Nat.sub_self];rfl
   rw[<-e,List.map_set]
  show((ixN ((es++[r1==0]).map PyData.bool).length (i:Int)).map fun k=>Fl.nx ((mEn mo ns k2 l2 W S way fence (es++[r1==0]) gs (some (.int i)) (some (aT r))).set 6 (some (.list (((es++[r1==0]).map PyData.bool).set k (.bool false))))))=_;rw[ix];show some (Fl.nx ((mEn mo ns k2 l2 W S way fence (es++[r1==0]) gs (some (.int i)) (some (aT r))).set 6 (some (.list (((es++[r1==0]).map PyData.bool).set i (.bool false))))))=_;rw[st];rfl
def Fs{W:Nat}(mo1:1<=mo)(mo2:mo<=40)(hW:W<=12)(h0:0<=k)(h1:k<=1000)(h2:0<=l):
  ∃(es:List Bool) (gs:List (List (Option Nat))) (k' l':Int),bZ [penD ns k l,.int W,.int mo]=some (aA es gs,[some (penD ns k' l'),none,none])/\1<=es.length/\(es.length:Int)<=mo/\gs.length=es.length/\(∀r∈gs,iR es.length W r)/\k<=k'/\k'<=k+600/\0<=l':=by
 obtain⟨r1,k1,l1,e1,a1,a2,a3,a4,a5⟩:=gJ (ns:=ns) (k:=k) (l:=l) (m:=mo) (i:=0) (en:=[some (penD ns k l),some (.int W),some (.int mo),none,none,none,none,none,none,none]) (fa:=aD 0 (ac (ad 2) ag)) rfl rfl h0 (by omega) h2 (by omega) (by omega);obtain⟨S,hS⟩:∃S:Nat,(S:Int)=1+r1:=⟨(1+r1).toNat,by omega⟩;obtain⟨way,k2,l2,e2',b1,b2,b3,b4,b5⟩:=gJ (ns:=ns) (k:=k1) (l:=l1) (m:=4) (i:=0) (en:=[some (penD ns k1 l1),some (.int W),some (.int mo),some (.int S),none,none,none,none,none,none]) (fa:=aD 0 (ac (eC (.int 4)) ag)) rfl rfl (by omega) (by omega) a5 (by decide) (by decide);obtain⟨r3,k3,l3,e3,c1,c2,c3,c4,c5⟩:=gJ (ns:=ns) (k:=k2) (l:=l2) (m:=S) (i:=0) (en:=[some (penD ns k2 l2),some (.int W),some (.int mo),some (.int S),some (.int way),none,none,none,none,none]) (fa:=aD 0 (ac (ad 3) ag)) rfl rfl (by omega) (by omega) b5 (by omega) (by omega);have hl:((List.range S).map fun k=>PyData.int (0+(k:Nat))).length=S:=by rw[zad,zbe]
 obtain⟨en',e4,es,gs,k',l',x,y,rfl,d1,d2,d3,d4,d5,d6⟩:=A7 (g:=gN 8) (b:=Et) (ts:=(List.range S).map fun k=>.int (0+(k:Nat)))
  (fun i en=>∃es gs k' l' x y,en=mEn mo ns k' l' W S way (1+r3) es gs x y/\es.length=i/\gs.length=i/\(∀r∈gs,iR S W r)/\k3<=k'/\k'<=k3+13*i/\0<=l')
  (fun i t en ht ⟨es,gs,k',l',x,y,hen,d1,d2,d3,d4,d5,d6⟩=>by
   subst hen;have hi:i<S:=by have:=(zah.mp ht).1;rw[hl]at this;exact this
   have et:t=.int i:=by
    rw[zao,List.getElem?_range hi]at ht;injection ht with ht
    rw[<-ht];show PyData.int (0+(i:Int))=_;rw[zbM]
   subst et;obtain⟨b,r,k4,l4,y',f1,f2,f3,f4,f5⟩:=GP (mo:=mo) (ns:=ns) (k:=k') (l:=l') (way:=way) (fence:=1+r3) (W:=W) (S:=S) (i:=i) (es:=es) (gs:=gs) (y:=y) hW (by omega) (by omega) (by omega) (by omega) d6 d1 d2;refine⟨mEn mo ns k' l' W S way (1+r3) es gs (some (.int i)) y,_,rfl,.inl f1,es++[b],gs++[r],k4,l4,some (.int i),y',rfl,by rw[zae,d1];rfl,by rw[zae,d2];rfl,fun q hq=>?_,by omega,by omega,f5⟩;rcases zax.mp hq with hq|hq
   ·exact d3 q hq
   ·rw[zaH.mp hq];exact f2)
  (en:=mEn mo ns k3 l3 W S way (1+r3) [] [] none none) ⟨[],[],k3,l3,none,none,rfl,rfl,rfl,fun _ z=>(by cases z),Int.le_refl _,by omega,c5⟩
 rw[hl]at d1 d2 d5;refine⟨es,gs,k',l',?_,by omega,by omega,by omega,by rw[d1];exact d3,by omega,by omega,d6⟩;have l0:∀{en:En},aw ag en=some (.list [],en):=fun {en}=>ux rfl rfl (zbj _);refine eI (b:=fJ) (en:=mEn mo ns k' l' W S way (1+r3) es gs x y)
  (aO (en1:=[some (penD ns k1 l1),some (.int W),some (.int mo),some (.int S),none,none,none,none,none,none]) (dk (bD rfl e1 (show _=some (PyData.int S)by rw[hS];rfl)) rfl)
  (aO (en1:=[some (penD ns k2 l2),some (.int W),some (.int mo),some (.int S),some (.int way),none,none,none,none,none]) (dk e2' rfl)
  (aO (en1:=[some (penD ns k3 l3),some (.int W),some (.int mo),some (.int S),some (.int way),some (.int (1+r3)),none,none,none,none]) (dk (bD rfl e3 rfl) rfl)
  (aO (en1:=[some (penD ns k3 l3),some (.int W),some (.int mo),some (.int S),some (.int way),some (.int (1+r3)),some (.list []),none,none,none]) (dk l0 rfl)
  (aO (en1:=[some (penD ns k3 l3),some (.int W),some (.int mo),some (.int S),some (.int way),some (.int (1+r3)),some (.list []),some (.list []),none,none]) (dk l0 rfl)
  (aO (Li (wm (n:=S) rfl (by omega)) e4) (ng (Lg rfl rfl (zau (by show 2<=100;decide) cv)))))))))
def cc(v:List Int):D:=.list (v.map .int)
def qy(v:List Int):D->Option Int
 |.int j=>some (v.getD j.toNat 0)
 |_=>none
def rsD(v:List Int):D->Int
 |.list xs=>(xs.filterMap (qy v)).sum
 |_=>0
def nxt(gs:List (List (Option Nat)))(v:List Int):List Int:=gs.map fun r=>rsD v (aT r)
def base(es:List Bool):List Int:=es.map fun b=>if b then 1 else 0
def it(gs:List (List (Option Nat)))(v:List Int):Nat->List Int
 |0=>v
 |n+1=>nxt gs (it gs v n)
def pF(v:List Int):D->D
 |.int j=>.int (v.getD j.toNat 0)
 |_=>.none
theorem mq(v:List Int):∀r:List (Option Nat),di ((((r.map goD).filter fun t=>!iU t)).map (pF v))=some ((r.map goD).filterMap (qy v))
 |[]=>rfl
 |none::r=>mq v r
 |some j::r=>by
  show(di ((((r.map goD).filter fun t=>!iU t)).map (pF v))).map (v.getD (j:Int).toNat 0::·)=_;rw[mq v r];rfl
def FB{j:Nat}(h:j<v.length):ixA (cc v) (.int j)=some (.int (v.getD j 0)):=by
 show atI (v.map PyData.int) (j:Int)=_;unfold atI;rw[iT (by rw[zad];exact h)];show(v.map PyData.int)[j]?=_;rw[zao,zak h,zbh,zak h];rfl
def inF:ME:=eN Al (ac (eLC true (bi (ad 0)) (gN 0) (tV (e2 i9 (ad 0) (eC .none))) (e2 ixA (ad 1) (ad 0)) [none,some 1]) ag)
def Mb{W:Nat}(hr:iR S W r)(hv:v.length=S)(hW:W<=12):inF [some (aT r),some (cc v)]=some (.int (rsD v (aT r)),[some (aT r),some (cc v)]):=by
 obtain⟨o',e⟩:=ga (c:=tV (e2 i9 (ad 0) (eC .none))) (f:=e2 ixA (ad 1) (ad 0)) (p:=fun t=>!iU t) (F:=pF v) (rest:=[some (cc v)]) (r.map goD) [] none
  (fun t ht=>by
   obtain⟨o,ho,rfl⟩:=zaz.mp ht;cases o<;>rfl)
  (fun t ht hp=>by
   obtain⟨o,ho,rfl⟩:=zaz.mp ht;cases o with
   |none=>cases hp
   |some j=>exact bD rfl rfl (FB (by rw[hv];exact hr.2 _ ho _ rfl)))
  (by rw[zad,hr.1];exact zau (by show 0+W<=100;omega) cv)
 refine uw (iO (sy rfl e rfl) rfl) rfl ?_;show(di _).map _=_;rw[List.nil_append,mq];rfl
def b1F:D->D
 |.bool b=>.int (if b then 1 else 0)
 |_=>.none
def GS{f:ME}(h0:(ad 0) en=some (aA es gs,en))(hf:∀b,f [some (.bool b)]=some (.int (if b then 1 else 0),[some (.bool b)]))(hl:es.length<=60):
  eLC true (bi (e2 ixA (ad 0) (eC (.int 0)))) (gN 0) cY f [none] en=some (cc (base es),en):=by
 obtain⟨o',e⟩:=qF (f:=f) (F:=b1F) (rest:=[]) (es.map .bool) [] none
  (fun t ht=>by
   obtain⟨b,hb,rfl⟩:=zaz.mp ht;exact hf b)
  (by rw[zad];exact zau (by show 0+_<=100;omega) cv)
 have e2':(es.map PyData.bool).map b1F=(base es).map .int:=by
  unfold base;rw[zaR,zaR];rfl
 rw[List.nil_append,e2']at e;refine sy (ts:=es.map .bool) (en1:=en) ?_ e rfl
 have:e2 ixA (ad 0) (eC (.int 0)) en=some (.list (es.map .bool),en):=bD h0 rfl rfl;unfold bi;rw[this];rfl
structure MOk(S W:Nat)(es:List Bool)(gs:List (List (Option Nat))):Prop where
 s1:1<=S
 s2:S<=40
 w1:1<=W
 w2:W<=12
 le:es.length=S
 lg:gs.length=S
 ok:∀r∈gs,iR S W r
section
variable{W:Nat} 
def MOk.lit(M:MOk S W es gs):∀n,(it gs (base es) n).length=S
 |0=>by show(es.map _).length=S;rw[zad,M.le]
 |n+1=>by show(gs.map _).length=S;rw[zad,M.lg]
def kH(gs:List (List (Option Nat)))(es:List Bool)(n:Nat):D:=.list ((List.range (n+1)).map fun i=>cc (it gs (base es) i))
def vJ:((List.range (n+1)).map fun i=>cc (it gs (base es) i)).length=n+1:=by rw[zad,zbe]
def Aj:atI ((List.range (n+1)).map fun i=>cc (it gs (base es) i)) (-1)=some (cc (it gs (base es) n)):=by
 unfold atI ixN;rw[vJ,if_neg (by decide),if_pos (by omega)];show((List.range (n+1)).map fun i=>cc (it gs (base es) i))[((-1:Int)+((n+1:Nat):Int)).toNat]?=_;rw[show((-1:Int)+((n+1:Nat):Int)).toNat=n by omega,zao,List.getElem?_range (by omega)];rfl
def Ai:((List.range (n+1)).map fun i=>cc (it gs (base es) i))++[cc (it gs (base es) (n+1))]=(List.range (n+1+1)).map fun i=>cc (it gs (base es) i):=by
 rw[List.range_succ (n:=n+1),zaC];rfl
def vW(M:MOk S W es gs):oQ [aA es gs]=some (cc (base es),[none]):=
 eI (b:=jx) (en:=[some (aA es gs)]) (ng (GS rfl (fun b=>by cases b<;>rfl) (by rw[M.le];have:=M.s2;omega)))
end
end Mch
set_option maxHeartbeats 1000000
namespace L2
variable{i:Nat}{fk fe:ME}{en:En}{Q:List Nat×En->Prop}{mp:MP}
open PySem PySem.Spec PyProof.Rows
def zS{Q:Fl->Prop}(h:W (fe en) (fun r=>(∃u,(r.2[i]?).join=some u)/\W (fk r.2) (fun q=>∃ks,(q.2[i]?).join=some (.dict ks)/\(kOf q.1).isSome=true/\ks.length<sizeLine/\Q (.nx (q.2.set i (some (.dict (gg ks q.1 r.1)))))))):W (cV i fk fe en) Q:=by
 unfold cV;rw[aB];refine W.use h ?_;rintro r ⟨⟨u,hu⟩,h2⟩;rw[hu];show W ((fk r.2).bind _) Q;rw[aB];refine W.use h2 ?_;rintro q ⟨ks,h3,h4,h5,h6⟩;rw[h3];show W ((kOf q.1).bind _) Q;obtain⟨k,hk⟩:=Option.isSome_iff_exists.mp h4;rw[hk];show W (if ks.length<sizeLine then _ else none) Q;rw[if_pos h5];exact⟨_,rfl,h6⟩
def MV{f:ME}(h:W (mp en) (fun r=>W (f r.2) (fun q=>∃n t ts k,q.1=.int n/\(q.2[i]?).join=some t/\(cN t r.1=some (.list ts)\/cN t r.1=some (.tuple ts))/\ixN ts.length n=some k/\k<ts.length/\Q (r.1++[k],q.2)))):W (pIx i mp f en) Q:=by
 unfold pIx;rw[aB];refine W.use h fun r h2=>?_;rw[aB];refine W.use h2 ?_;rintro q ⟨n,t,ts,k,h3,h4,h5,h6,h7,h8⟩;rw[h3,h4];show W ((cN t r.1).bind _) Q;rcases h5 with h5|h5<;>rw[h5]<;>show W ((ixN ts.length n).bind _) Q<;>rw[h6]<;>show W (if k<ts.length then _ else none) Q<;>rw[if_pos h7]<;>exact⟨_,rfl,h8⟩
def Lv{t:D}(h:(en[i]?).join=some t)(hq:Q ([],en)):W (oE i en) Q:=by
 unfold oE;rw[h];exact⟨_,rfl,hq⟩
def Lu{Q:Fl->Prop}(h:W (fe en) (fun r=>W (mp r.2) (fun w=>W (fk w.2) (fun q=>∃n t ts k,q.1=.int n/\(q.2[i]?).join=some t/\cN t w.1=some (.list ts)/\ixN ts.length n=some k/\Q (.nx (q.2.set i (some (dD t w.1 (.list (ts.set k r.1)))))))))):W (kJ i mp fk fe en) Q:=by
 unfold kJ;rw[aB];refine W.use h fun r h1=>?_;rw[aB];refine W.use h1 fun w h2=>?_;rw[aB];refine W.use h2 ?_;rintro q ⟨n,t,ts,k,e1,e2,e3,e4,hq⟩;rw[e1,e2];show W ((cN t w.1).bind _) Q;rw[e3];show W ((ixN ts.length n).map _) Q;rw[e4];exact⟨_,rfl,hq⟩
def MW{kp:Bool}{ks:List (D×D)}{Q:List D×En->Prop}(h:(en[i]?).join=some (.dict ks))(hq:Q (prs ks,if kp then en else en.set i none)):W (iDm kp i en) Q:=by
 unfold iDm;rw[h];exact⟨_,rfl,hq⟩
end L2
namespace W33
variable{N a j i n k W0 many d b S m s:Nat}{w o:Option Nat}{es:List Bool}{ls ls':List (List Nat)}{l0 l row:List Nat}{ks:List (D×D)}{z:Str}{t u p:D}{en:En}{Q:Fl->Prop}{r:List (Option Nat)}{x0 x3 x7 x8 x9 x10 x4 x5 x6 x1 x2:Option D}{P:D->Prop}{ts got so sw:List D}{f:ME}{J:En->Prop}{v:List Int}{lo hi:Option Int}
open PySem L2 Mch
abbrev Gr:=List (List (Option Nat))
variable{G gs:Gr}
structure Ent where
 k:Nat
 r:List Nat
variable{T:List Ent}{e:Ent}
abbrev keys(T:List Ent):List Nat:=T.map (·.k)
def stp(e:Ent)(T:List Ent)(i:Nat):Option Nat->List Ent
 |none=>T
 |some k=>if k∈keys T then T else T++[⟨k,e.r++[i]⟩]
def fol(e:Ent):List Ent->Nat->List (Option Nat)->List Ent
 |T,_,[]=>T
 |T,i,w::r=>fol e (stp e T i w) (i+1) r
theorem oI(e:Ent):∀(l:List (Option Nat)) (T:List Ent) (j:Nat) (w:Option Nat),fol e T j (l++[w])=stp e (fol e T j l) (j+l.length) w
 |[],T,j,w=>rfl
 |x::l,T,j,w=>by
  show fol e (stp e T j x) (j+1) (l++[w])=stp e (fol e (stp e T j x) (j+1) l) _ w;rw[oI e l];congr 1;show j+1+l.length=j+(l.length+1);omega
def i7(G:Gr)(T:List Ent)(n:Nat):List Ent:=match T[n]? with
 |some e=>fol e T 0 ((G[e.k]?).getD [])
 |none=>T
def TT(G:Gr)(a:Nat):Nat->List Ent
 |0=>[⟨a,[]⟩]
 |n+1=>i7 G (TT G a n) n
structure TOk(N a:Nat)(T:List Ent):Prop where
 nd:(keys T).Nodup
 lt:∀e∈T,e.k<N
 h0:T[0]?=some ⟨a,[]⟩
 rl:∀(i:Nat) (e:Ent),T[i]?=some e->e.r.length<=i
theorem qo:∀{cs A:List Nat},cs.Nodup->(∀c∈cs,c∈A)->cs.length<=A.length
 |[],_,_,_=>zbj _
 |c::cs,A,nd,h=>by
  have hc:=h c zaq;obtain⟨n1,n2⟩:=zbc.mp nd;have ih:=qo (A:=A.erase c) n2 fun x hx=>(List.mem_erase_of_ne (fun z:x=c=>n1 (by rw[<-z];exact hx))).mpr (h x (zaj _ hx));rw[List.length_erase_of_mem hc]at ih
  have:=List.length_pos_of_mem hc;rw[zac];omega
def TOk.len(t:TOk N a T):T.length<=N:=by
 have:=qo (A:=List.range N) t.nd fun c hc=>by
  obtain⟨e,he,rfl⟩:=zaz.mp hc;exact zbr.mpr (t.lt e he)
 rwa[zbe,zad]at this
def Jf(t:TOk N a T)(he:T[j]?=some e)(hw:∀k,w=some k->k<N):TOk N a (stp e T i w):=by
 cases w with
 |none=>exact t
 |some k=>
  show TOk N a (if k∈keys T then T else T++[⟨k,e.r++[i]⟩]);by_cases hk:k∈keys T
  ·rw[if_pos hk];exact t
  ·rw[if_neg hk];have hj:=(zah.mp he).1;refine⟨?_,fun f hf=>?_,?_,fun m f hm=>?_⟩
   ·show(List.map _ (T++_)).Nodup;rw[zaC,List.nodup_append];exact⟨t.nd,by simp,fun a ha b hb z=>hk (by
     have hb':b=k:=zaH.mp hb;rw[<-hb',<-z];exact ha)⟩
   ·rcases zax.mp hf with hf|hf
    ·exact t.lt f hf
    ·rw[zaH.mp hf];exact hw k rfl
   ·rw[zaS (by omega)];exact t.h0
   ·by_cases hm':m<T.length
    ·rw[zaS hm']at hm;exact t.rl m f hm
    ·rw[zbI (by omega)]at hm;have em:m-T.length=0:=by
      have:=(zah.mp hm).1;simp at this;omega
     rw[em]at hm;cases hm
     have:=t.rl j e he;show(e.r++[i]).length<=m;rw[zae];show e.r.length+1<=m;omega
def vM{f:Ent}(h:T[j]?=some f):(stp e T i w)[j]?=some f:=by
 cases w with
 |none=>exact h
 |some k=>
  show(if k∈keys T then T else T++[(⟨k,e.r++[i]⟩:Ent)])[j]?=some f;split
  ·exact h
  ·rw[zaS (zah.mp h).1];exact h
theorem ms{N a:Nat}{e:Ent}{j:Nat}:∀(r:List (Option Nat)) {T:List Ent} {i:Nat},TOk N a T->T[j]?=some e->(∀k,some k∈r->k<N)->TOk N a (fol e T i r)/\(fol e T i r)[j]?=some e
 |[],T,i,t,he,_=>⟨t,he⟩
 |w::r,T,i,t,he,hw=>ms r (Jf t he fun k z=>hw k (by rw[z];exact zaq)) (vM he) fun k z=>hw k (zaj _ z)
structure GOk(G:Gr):Prop where
 n1:1<=G.length
 n:G.length<=1000
 w:∀r∈G,r.length<=12
 lt:∀r∈G,∀k,some k∈r->k<G.length
theorem jG{G:Gr}(g:GOk G){a:Nat}(ha:a<G.length):∀n,TOk G.length a (TT G a n)
 |0=>by
  have:=g.n1;refine⟨by simp[TT,keys],fun e he=>?_,rfl,fun i e he=>?_⟩
  ·rw[show TT G a 0=[⟨a,[]⟩]from rfl]at he;rw[zaH.mp he];exact ha
  ·cases i with
   |zero=>cases he;exact zbj _
   |succ i=>simp[TT]at he
 |n+1=>by
  have ih:=jG g ha n;show TOk _ _ (i7 G (TT G a n) n);unfold i7;cases h:(TT G a n)[n]? with
  |none=>exact ih
  |some e=>
   have hk:=ih.lt e (zaX h);refine(ms _ ih h fun k hk'=>?_).1;rw[zak hk]at hk';exact g.lt _ (zaK hk) k hk'
theorem wt{G:Gr}{a n:Nat}(h:(TT G a n).length<=n):∀m,TT G a (n+m)=TT G a n
 |0=>rfl
 |m+1=>by
  show i7 G (TT G a (n+m)) (n+m)=_;rw[wt h m];unfold i7;rw[zbl (by omega)]
def Lz(g:GOk G)(ha:a<G.length)(h:(TT G a n).length<=n)(h2:n<=(TT G a n).length):TT G a n=TT G a G.length:=by
 have:=(jG g ha n).len;rw[<-wt h (G.length-n)];congr 1;omega
def iD(k:Nat):D:=.int (k:Int)
def nD(l:List Nat):D:=.list (l.map iD)
def kvf(f:Ent->D)(e:Ent):D×D:=(iD e.k,f e)
def iy(f:Ent->D)(T:List Ent):D:=.dict (T.map (kvf f))
def xl(a b:Nat):kEq (iD a) (iD b)=decide (a=b):=by
 show((a:Int)==(b:Int))=_;rw[Bool.eq_iff_iff,beq_iff_eq,zbi];omega
def yF(f:Ent->D)(T:List Ent):noT (T.map (kvf f))=true:=by
 cases T<;>rfl
def m8(f:Ent->D)(T:List Ent)(k:Nat):((T.map (kvf f)).find? fun q=>kEq q.1 (iD k)).isSome=decide (k∈keys T):=by
 induction T with
 |nil=>rfl
 |cons a T ih=>
  rw[zar,zbo];show(match kEq (iD a.k) (iD k)with|true=>some (kvf f a)|false=>_).isSome=decide (k∈a.k::keys T);rw[xl];by_cases h:a.k=k
  ·subst h;simp
  ·simp only[h,decide_false];rw[ih];simp[Ne.symm h]
def yH(f:Ent->D)(T:List Ent)(k:Nat):ik (iD k) (iy f T)=some (.bool (!decide (k∈keys T))):=by
 show(if noT (T.map (kvf f))=true then some (PyData.bool (!(ba (T.map (kvf f)) (iD k)).isSome))else none)=_;rw[if_pos (yF f T)];unfold ba;rw[Option.isSome_map,m8]
def Ls(f:Ent->D)(T:List Ent)(k:Nat):((T.map (kvf f)).any fun q=>kEq q.1 (iD k))=decide (k∈keys T):=by
 rw[<-m8 f]
 induction T with
 |nil=>rfl
 |cons a T ih=>
  rw[zar,List.any_cons,zbo,ih];cases kEq (kvf f a).1 (iD k)<;>simp
def sX{f:Ent->D}(h:k∉keys T)(v:D):gg (T.map (kvf f)) (iD k) v=T.map (kvf f)++[(iD k,v)]:=by
 unfold gg;rw[if_neg (by rw[Ls];simpa using h)]
theorem dS{f:Ent->D}:∀{T:List Ent} {i:Nat} {e:Ent},(keys T).Nodup->T[i]?=some e->ba (T.map (kvf f)) (iD e.k)=some (f e)
 |[],i,e,_,h=>by simp at h
 |a::T,0,e,_,h=>by
  cases h;unfold ba;rw[zar,zbo];show Option.map _ (match kEq (iD a.k) (iD a.k)with|true=>some (kvf f a)|false=>_)=_;rw[xl,zaB rfl];rfl
 |a::T,i+1,e,nd,h=>by
  have h':T[i]?=some e:=by simpa using h
  have nd':=zbc.mp (show(a.k::keys T).Nodup from nd);have ne:a.k≠e.k:=fun z=>nd'.1 (by rw[z];exact List.mem_map_of_mem (zaX h'));have ih:=dS (f:=f) nd'.2 h';unfold ba at ih ⊢;rw[zar,zbo];show Option.map _ (match kEq (iD a.k) (iD e.k)with|true=>some (kvf f a)|false=>_)=_;rw[xl,zaA ne];exact ih
def szB(h:n<=100000):n<=sizeLine:=zau h (by decide)
def iZ(h:n<100000):n<sizeLine:=zag h (by decide)
def ahD(T:List Ent):D:=nD (keys T)
def AG(T:List Ent)(e:Ent):nD (keys (T++[e]))=.list ((keys T).map iD++[iD e.k]):=by
 show PyData.list _=_;rw[show keys (T++[e])=keys T++[e.k]from zaC,zaC];rfl
def ld(G:Gr)(o:Option Nat)(s:Nat):Option Nat:=o.bind fun k=>((G[k]?).getD []).getD s none
structure BO(G:Gr)(W0 a L:Nat)(T:List Ent):Prop where
 way:∀f∈T,f.r.foldl (ld G) (some a)=some f.k/\∀s∈f.r,s<W0
 pw:T.Pairwise fun a b=>a.r.length<=b.r.length
 top:∀f∈T,f.r.length<=L+1
def Jg(b:BO G W0 a e.r.length T)(he:e∈T)(hw:((G[e.k]?).getD []).getD i none=w)(hi:i<W0):
  BO G W0 a e.r.length (stp e T i w)/\(∀k,w=some k->k∈keys (stp e T i w))/\∀f∈T,f∈stp e T i w:=by
 cases w with
 |none=>exact⟨b,fun _ z=>(nomatch z),fun f h=>h⟩
 |some k=>
  show BO G W0 a _ (if k∈keys T then T else T++[⟨k,e.r++[i]⟩])/\(∀k',some k=some k'->k'∈keys (if k∈keys T then T else T++[⟨k,e.r++[i]⟩]))/\∀f∈T,f∈if k∈keys T then T else T++[⟨k,e.r++[i]⟩]
  by_cases hk:k∈keys T
  ·rw[if_pos hk];exact⟨b,fun k' z=>by cases z;exact hk,fun f h=>h⟩
  ·rw[if_neg hk];have ln:(e.r++[i]).length=e.r.length+1:=by rw[zae];rfl
   refine⟨⟨fun f hf=>?_,?_,fun f hf=>?_⟩,fun k' z=>?_,fun f h=>zbf _ h⟩
   ·rcases zax.mp hf with hf|hf
    ·exact b.way f hf
    ·rw[zaH.mp hf];refine⟨?_,fun s hs=>?_⟩
     ·show(e.r++[i]).foldl (ld G) (some a)=some k;rw[List.foldl_append,(b.way e he).1];exact hw
     ·rcases zax.mp hs with hs|hs
      ·exact(b.way e he).2 s hs
      ·rw[zaH.mp hs];exact hi
   ·rw[List.pairwise_append];refine⟨b.pw,List.pairwise_singleton _ _,fun f hf g hg=>?_⟩;rw[zaH.mp hg];show _<=(e.r++[i]).length;rw[ln];exact b.top f hf
   ·rcases zax.mp hf with hf|hf
    ·exact b.top f hf
    ·rw[zaH.mp hf];show(e.r++[i]).length<=_;rw[ln];exact zav _
   ·cases z;unfold keys;rw[zaC];exact zbg _ zaq
theorem zh{G:Gr}{W0 a:Nat}{e:Ent}:∀(r:List (Option Nat)) {T:List Ent} {i:Nat},BO G W0 a e.r.length T->e∈T->(∀j,j<r.length->((G[e.k]?).getD []).getD (i+j) none=r.getD j none)->i+r.length<=W0 ->
  BO G W0 a e.r.length (fol e T i r)/\(∀k,some k∈r->k∈keys (fol e T i r))/\∀f∈T,f∈fol e T i r
 |[],T,i,b,_,_,_=>⟨b,fun k z=>by simp at z,fun f h=>h⟩
 |w::r,T,i,b,he,hr,hl=>by
  rw[zac]at hl;obtain⟨b1,b2,b3⟩:=Jg (i:=i) (w:=w) b he (by have:=hr 0 (by simp);simpa using this) (by omega);obtain⟨c1,c2,c3⟩:=zh r (i:=i+1) b1 (b3 e he) (fun j hj=>by
   have:=hr (j+1) (by simp only[zac];omega);rw[show i+1+j=i+(j+1)by omega,this];simp) (by omega)
  refine⟨c1,fun k hk=>?_,fun f hf=>c3 f (b3 f hf)⟩;rcases zay.mp hk with z|hk
  ·obtain⟨f,hf,e2⟩:=zaz.mp (b2 k z.symm);exact zaz.mpr ⟨f,c3 f hf,e2⟩
  ·exact c2 k hk
theorem m5{e f:Ent}{j:Nat}:∀(r:List (Option Nat)) {T:List Ent} {i:Nat},T[j]?=some f->(fol e T i r)[j]?=some f
 |[],_,_,h=>h
 |w::r,_,_,h=>m5 r (vM h)
structure BI(G:Gr)(W0 a n:Nat)(T:List Ent):Prop where
 way:∀f∈T,f.r.foldl (ld G) (some a)=some f.k/\∀s∈f.r,s<W0
 pw:T.Pairwise fun a b=>a.r.length<=b.r.length
 top:∀c,T[n]?=some c->∀f∈T,f.r.length<=c.r.length+1
 clo:∀(i:Nat) e,i<n->T[i]?=some e->∀row,G[e.k]?=some row->∀w,some w∈row->∃f∈T,f.k=w/\f.r.length<=e.r.length+1
def GX(hW:∀r∈G,r.length=W0)(b:BI G W0 a n T):BI G W0 a (n+1) (i7 G T n):=by
 unfold i7;cases h:T[n]? with
 |none=>
  have hn:T.length<=n:=List.getElem?_eq_none_iff.mp h;refine⟨b.way,b.pw,fun c hc=>?_,fun i e hi he=>?_⟩
  ·have hc':T[n+1]?=some c:=hc
   have:=(zah.mp hc').1;omega
  ·have he':T[i]?=some e:=he
   have:=(zah.mp he').1;exact b.clo i e (by omega) he
 |some c=>
  show BI G W0 a (n+1) (fol c T 0 ((G[c.k]?).getD []));have hc:=zaX h;have hl:((G[c.k]?).getD []).length<=W0:=by
   cases hg:G[c.k]? with
   |none=>exact zbj _
   |some row=>
    have:=hW row (zaX hg);show row.length<=W0;omega
  obtain⟨c1,c2,c3⟩:=zh (G:=G) (W0:=W0) (e:=c) ((G[c.k]?).getD []) (T:=T) (i:=0) ⟨b.way,b.pw,b.top c h⟩ hc (fun j _=>by rw[za4]) (by omega);have hcn:=m5 (e:=c) ((G[c.k]?).getD []) (i:=0) h;refine⟨c1.way,c1.pw,fun c' hc' f hf=>?_,fun i e hi he row hrow w hw=>?_⟩
  ·have:=c1.top f hf;obtain⟨l1,e1⟩:=zah.mp hcn;obtain⟨l2,e2⟩:=zah.mp hc'
   have:=List.pairwise_iff_getElem.mp c1.pw n (n+1) l1 l2 (zaJ _);rw[e1,e2]at this;omega
  ·by_cases hin:i<n
   ·have hT:i<T.length:=by
     have:=(zah.mp h).1;omega
    have hi2:=m5 (e:=c) ((G[c.k]?).getD []) (i:=0) (zak hT);rw[hi2]at he;cases he;obtain⟨f,g1,g2⟩:=b.clo i _ hin (zak hT) row hrow w hw;exact⟨f,c3 f g1,g2⟩
   ·have e0:i=n:=by omega
    subst e0;rw[hcn]at he;cases he
    have:w∈keys (fol c T 0 ((G[c.k]?).getD [])):=c2 w (by rw[hrow];exact hw);obtain⟨f,g1,g2⟩:=zaz.mp this;exact⟨f,g1,g2,c1.top f g1⟩
theorem xJ{G:Gr}{W0:Nat}(hW:∀r∈G,r.length=W0){a:Nat}:∀n,BI G W0 a n (TT G a n)
 |0=>by
  have m0:∀f∈TT G a 0,f=⟨a,[]⟩:=fun f hf=>zaH.mp hf;refine⟨fun f hf=>?_,List.pairwise_singleton _ _,fun c hc f hf=>?_,fun i e hi=>absurd hi (Nat.not_lt_zero _)⟩
  ·rw[m0 f hf];exact⟨rfl,fun s hs=>by simp at hs⟩
  ·rw[m0 f hf];exact zbj _
 |n+1=>GX hW (xJ hW n)
def Pr(es:List Bool)(G:Gr)(ls:List (List Nat))(many:Nat):Prop:=∀(a s:Nat) (l:List Nat),a<many->ls[a]?=some l->s∈l->es.getD s false=false/\∀r,G[s]?=some r->∀w,some w∈r->∃(b:Nat) (m:List Nat),b<=a+1/\ls[b]?=some m/\w∈m
structure Ly(N:Nat)(ls:List (List Nat)):Prop where
 lt:∀l∈ls,∀s∈l,s<N
 h0:∃l,ls[0]?=some l/\0∈l
def lsD(ls:List (List Nat)):D:=.list (ls.map nD)
def enB(es:List Bool):Option Nat->Bool
 |some k=>es.getD k false
 |none=>false
def jb(es:List Bool)(G:Gr)(row:List Nat):Bool:=enB es (row.foldl (ld G) (some 0))
def gp(es:List Bool)(G:Gr)(W0:Nat)(t:D):Prop:=
 (∃ls,t=.tuple [.str "none",lsD ls]/\Ly G.length ls/\Pr es G ls ls.length) \/
 ∃ls row,t=.tuple [.str "row",nD row,lsD ls]/\Ly G.length ls/\(∀s∈row,s<W0)/\row.length+1=ls.length/\jb es G row=true/\Pr es G ls row.length
def Pr.more(h:Pr es G ls many)(hs:∀(i:Nat) l,ls[i]?=some l->∃l',ls'[i]?=some l'/\∀s∈l,s∈l')
  (hb:∀(i:Nat) l',ls'[i]?=some l'->∀s∈l',∃(j:Nat) (l:List Nat),j<=i/\ls[j]?=some l/\s∈l):Pr es G ls' many:=fun a s l' ha hl hm=>by
 obtain⟨j,l,h1,h2,h3⟩:=hb a l' hl s hm;obtain⟨g1,g2⟩:=h j s l (by omega) h2 h3;refine⟨g1,fun r hr w hw=>?_⟩;obtain⟨b,m,q1,q2,q3⟩:=g2 r hr w hw;obtain⟨m',e1,e2⟩:=hs b m q2;exact⟨b,m',by omega,e1,e2 w q3⟩
def Pr.shut(h:Pr es G ls ls.length)(m:Nat)(h0:ls'[0]?=some l0)(hs:∀l∈ls,∀s∈l,s∈l0)(hb:∀l'∈ls',∀s∈l',∃l∈ls,s∈l):Pr es G ls' m:=fun a s l' ha hl hm=>by
 obtain⟨l,h1,h2⟩:=hb l' (zaX hl) s hm;obtain⟨j,hj⟩:=zbq h1;obtain⟨g1,g2⟩:=h j s l (zah.mp hj).1 hj h2;refine⟨g1,fun r hr w hw=>?_⟩;obtain⟨b,m,q1,q2,q3⟩:=g2 r hr w hw;exact⟨0,l0,by omega,h0,hs m (zaX q2) w q3⟩
def dg3{z:Int}{Q:D×En->Prop}(h:ba ks (.int z)=some t):Kj (.int z) en Q (.dict ks)=Q (t,en):=by
 show W ((ba ks (.int z)).map _) Q=_;rw[h];exact aG _ _
def cr(e:Ent):D:=.int (e.r.length:Int)
def isE(es:List Bool)(e:Ent):Bool:=es.getD e.k false
def MU(h:e.k<es.length):atI (es.map PyData.bool) (e.k:Int)=some (.bool (isE es e)):=by
 unfold isE;rw[bw,zao,zak h,zbh,zak h];rfl
def lay(T:List Ent)(l:Nat):List Nat:=(T.filter fun e=>decide (e.r.length=l)).map (·.k)
def hgt:List Ent->Nat
 |[]=>0
 |e::T=>max (e.r.length+1) (hgt T)
theorem kd:∀{T:List Ent} {e:Ent},e∈T->e.r.length+1<=hgt T
 |a::T,e,h=>by
  show _<=max (a.r.length+1) (hgt T);rcases zay.mp h with rfl|h
  ·omega
  ·have:=kd h;omega
theorem uj:∀{T:List Ent} {N:Nat},(∀e∈T,e.r.length+1<=N)->hgt T<=N
 |[],N,_=>zbj _
 |a::T,N,h=>by
  show max (a.r.length+1) (hgt T)<=N;have h1:=h a zaq;have h2:=uj fun e he=>h e (zaj _ he);omega
def srt(S:List Nat):D:=.list ((eV (S.map fun k:Nat=>(k:Int))).map .int)
def LS(T:List Ent)(n:Nat):List D:=(List.range n).map fun l=>srt (lay T l)
theorem yY:∀S:List Nat,di (S.map iD)=some (S.map fun k:Nat=>(k:Int))
 |[]=>rfl
 |k::S=>by
  show(di (S.map iD)).map ((k:Int)::·)=_;rw[yY S];rfl
def rwF(e:Ent):D:=nD e.r
def yG(T:List Ent)(k:Nat):ik (.int (k:Int)) (.dict (T.map (kvf rwF)))=some (.bool (!decide (k∈keys T))):=yH _ _ _
def zF(t:TOk N 0 T)(hN:N<=1000)(he:T[n]?=some e)(hr:∀k,some k∈r->k<N){o5 o6:Option D}{P:Fl->Prop}
  (hP:∀o5 o6,P (.nx [x0,some (.dict ((fol e T 0 r).map (kvf rwF))),some (ahD (fol e T 0 r)),x3,some (.int (e.k:Int)),o5,o6,x7,x8,x9,x10])):
  W (cE (gT (gsC (gN 5) (gsC (gN 6) gs0))) fy (eZ (r.map goD)) [x0,some (.dict (T.map (kvf rwF))),some (ahD T),x3,some (.int (e.k:Int)),o5,o6,x7,x8,x9,x10]) P:=by
 refine du (fun i en=>∃o5 o6,en=[x0,some (.dict ((fol e T 0 (r.take i)).map (kvf rwF))),some (ahD (fol e T 0 (r.take i))),x3,some (.int (e.k:Int)),o5,o6,x7,x8,x9,x10]) ⟨o5,o6,rfl⟩ ?_ ?_
 ·rintro i t' en ht ⟨p6,p7,rfl⟩;obtain⟨u,hu,rfl⟩:=fT ht;rw[zao]at hu;obtain⟨w,hw,rfl⟩:=zab.mp hu;have hi:=(zah.mp hw).1;have et:r.take (i+1)=r.take i++[w]:=by rw[List.take_succ,hw];rfl
  have ef:fol e T 0 (r.take (i+1))=stp e (fol e T 0 (r.take i)) i w:=by
   rw[et,oI,zaE,Nat.min_eq_left (by omega),za4]
  rw[ef];obtain⟨tk,he'⟩:=ms (r.take i) (i:=0) t he fun k z=>hr k (List.mem_of_mem_take z);generalize fol e T 0 (r.take i)=Ti at tk he';have ln:=tk.len;cases w with
  |none=>
   simp only[ws,fy,goD];exact⟨_,_,rfl⟩
  |some k=>
   by_cases hk:k∈keys Ti
   ·simp only[ws,fy,goD,yG,hk];exact⟨_,_,by rw[show stp e Ti i (some k)=if k∈keys Ti then Ti else _ from rfl,if_pos hk]⟩
   ·have lk:ba (Ti.map (kvf rwF)) (.int (e.k:Int))=some (.list (e.r.map iD)):=dS (f:=rwF) tk.nd he';have rl:=tk.rl n e he';have nl:=(zah.mp he').1;simp only[ws,fy,goD,yG,hk];refine zS ?_;simp only[ws,dg3 lk];refine⟨szB (by simp only[zac,List.length_nil];omega),⟨_,rfl⟩,_,rfl,rfl,iZ (by rw[zad];omega),?_⟩;have ed:gg (Ti.map (kvf rwF)) (.int (k:Int)) (.list (e.r.map iD++[.int (i:Int)]))=List.map (kvf rwF) (Ti++[(⟨k,e.r++[i]⟩:Ent)]):=by
     rw[show PyData.int (k:Int)=iD k from rfl,sX hk,zaC];show _=_++[(iD k,PyData.list ((e.r++[i]).map iD))];rw[zaC];rfl
    simp only[ws,ed,ahD,nD];have es:stp e Ti i (some k)=Ti++[⟨k,e.r++[i]⟩]:=if_neg hk;have e4:PyData.list ((keys (Ti++[⟨k,e.r++[i]⟩])).map iD)=.list ((keys Ti).map iD++[.int (k:Int)]):=AG Ti _;refine⟨iZ (by omega),some (.int (i:Int)),some (.int (k:Int)),?_⟩;rw[es,e4]
 ·rintro en ⟨p6,p7,rfl⟩;rw[fS,zad,zaQ];exact hP _ _
def Br(g:GOk G) 
  (hQ:∀o3 o4 o5 o6,Q (.nx [some (.tuple [.list (es.map .bool),.list (G.map aT)]),some (.dict ((TT G 0 G.length).map (kvf rwF))),some (ahD (TT G 0 G.length)),o3,o4,o5,o6,x7,x8,x9,x10])):
  W (cP gU jY [some (.tuple [.list (es.map .bool),.list (G.map aT)]),some (.dict ((TT G 0 0).map (kvf rwF))),some (ahD (TT G 0 0)),some (.int 0),none,none,none,x7,x8,x9,x10]) Q:=by
 have gn:=g.n;refine qP (fun m en=>∃n o5 o6 o7,en=[some (.tuple [.list (es.map .bool),.list (G.map aT)]),some (.dict ((TT G 0 n).map (kvf rwF))),some (ahD (TT G 0 n)),some (.int (n:Int)),o5,o6,o7,x7,x8,x9,x10]/\n<=(TT G 0 n).length/\m=G.length-n) ?_ ⟨0,_,_,_,rfl,zbj _,rfl⟩;rintro m en ⟨n,o5,o6,o7,rfl,h1,rfl⟩;have t:=jG g g.n1 n;have ln:=t.len;by_cases hn:n<(TT G 0 n).length
 ·obtain⟨e,he⟩:∃e,(TT G 0 n)[n]?=some e:=⟨_,zak hn⟩;have hk:=t.lt e (zaX he);obtain⟨r,hr⟩:∃r,G[e.k]?=some r:=⟨_,zak hk⟩;have d1:decide ((n:Int)<((TT G 0 n).length:Nat))=true:=by
   rw[zbi];omega
  have e1:atI ((keys (TT G 0 n)).map iD) (n:Int)=some (.int (e.k:Int)):=by
   rw[bw,zao,zao,he];rfl
  have e2:atI (G.map aT) (e.k:Int)=some (.list (r.map goD)):=by rw[bw,zao,hr];rfl
  have eT:TT G 0 (n+1)=fol e (TT G 0 n) 0 r:=by
   show i7 G (TT G 0 n) n=_;unfold i7;rw[he];show fol e _ 0 ((G[e.k]?).getD [])=_;rw[hr];rfl
  simp only[ws,gU,jY,ahD,nD,d1,e1,e2];have ci:=zF (x0:=some (.tuple [.list (es.map .bool),.list (G.map aT)])) (x3:=some (.int (n:Int))) (o5:=o6) (o6:=o7) (x7:=x7) (x8:=x8) (x9:=x9) (x10:=x10) t gn he (g.lt r (zaX hr)) (P:=fun f=>∃o6 o7,f=.nx [some (.tuple [.list (es.map .bool),.list (G.map aT)]),some (.dict ((TT G 0 (n+1)).map (kvf rwF))),some (ahD (TT G 0 (n+1))),some (.int (n:Int)),some (.int (e.k:Int)),o6,o7,x7,x8,x9,x10]) fun p6 p7=>⟨p6,p7,by rw[eT]⟩;refine W.use ci ?_;rintro _ ⟨p6,p7,rfl⟩;simp only[ws];have t':=(jG g g.n1 (n+1)).len;have up:n+1<=(TT G 0 (n+1)).length:=by
   rw[eT]
   have:=(zah.mp (ms r (i:=0) t he (g.lt r (zaX hr))).2).1;omega
  exact⟨G.length-(n+1),by omega,n+1,_,_,_,rfl,up,rfl⟩
 ·have d1:decide ((n:Int)<((TT G 0 n).length:Nat))=false:=by
   rw[decide_eq_false_iff_not];omega
  simp only[ws,gU,ahD,nD,d1]
  have:=hQ (some (.int (n:Int))) o5 o6 o7;rw[<-Lz g g.n1 (by omega) h1]at this;exact this
def LJ(S:List Nat):∃sk:List Nat,srt S=nD sk/\sk.Perm S/\sk.Pairwise (·<=·):=by
 have pm:=iM (S.map fun k:Nat=>(k:Int));have nn:∀z∈eV (S.map fun k:Nat=>(k:Int)),0<=z:=fun z hz=>by
  obtain⟨k,_,rfl⟩:=zaz.mp (pm.mem_iff.mp hz);omega
 have st:=i3 (S.map fun k:Nat=>(k:Int));refine⟨(eV (S.map fun k:Nat=>(k:Int))).map Int.toNat,?_,?_,?_⟩
 ·unfold srt nD;rw[zaR];congr 1;refine zbw fun z hz=>?_;show PyData.int z=PyData.int ((z.toNat:Nat):Int);rw[Int.toNat_of_nonneg (nn z hz)]
 ·have:=pm.map Int.toNat;rw[zaR]at this;refine this.trans ?_;rw[show(Int.toNat∘fun k:Nat=>(k:Int))=id from funext fun k=>zaL k,List.map_id]
 ·rw[List.pairwise_map];exact st.imp fun h=>Int.toNat_le_toNat h
theorem tU:∀{T:List Ent},T≠[]->gF (T.map fun e=>(e.r.length:Int))=(hgt T:Int)-1
 |[a],_=>by
  show(a.r.length:Int)=((max (a.r.length+1) 0:Nat):Int)-1;omega
 |a::b::T,_=>by
  have ih:=tU (T:=b::T) (by simp);show max (a.r.length:Int) (gF ((b::T).map fun e=>(e.r.length:Int)))=((max (a.r.length+1) (hgt (b::T)):Nat):Int)-1;rw[ih]
  have:1<=hgt (b::T):=by show 1<=max (b.r.length+1) (hgt T);omega
  omega
theorem uh:∀T:List Ent,di (T.map cr)=some (T.map fun e=>(e.r.length:Int))
 |[]=>rfl
 |e::T=>by
  show(di (T.map cr)).map ((e.r.length:Int)::·)=_;rw[uh T];rfl
def Fq(h:T≠[]):xc [.list (T.map cr)]=some (.int ((hgt T:Int)-1)):=by
 show(di (T.map cr)).bind _=_;rw[uh];show grd _ _=_;unfold grd;rw[if_pos (by simpa using h),tU h]
theorem jf:∀M:List Nat,aF (M.map iD)=true/\bP (M.map iD)=0
 |[]=>⟨rfl,rfl⟩
 |k::M=>by
  obtain⟨h1,h2⟩:=jf M;rw[zar];exact⟨by simp[aF,noDict,iD,h1],by simp[bP,dZ,iD,h2]⟩
def JW(M:List Nat):neD (.list (M.map iD)) (.list [])=some (.bool (!decide (M=[]))):=by
 show grd _ _=_;unfold grd;rw[if_pos ⟨by simp only[noDict];exact(jf M).1,rfl,by simp only[dZ,(jf M).2];decide⟩];cases M with
 |nil=>rfl
 |cons u l=>rfl
def Bp(M:List Nat):eqD (.list (M.map iD)) (.list [])=some (.bool (decide (M=[]))):=by
 show grd _ _=_;unfold grd;rw[if_pos ⟨by simp only[noDict];exact(jf M).1,rfl,by simp only[dZ,(jf M).2];decide⟩];cases M with
 |nil=>rfl
 |cons u l=>rfl
def qI(es:List Bool)(T:List Ent):List Nat:=(T.filter (isE es)).map (·.k)
def GH(h:T.find? (isE es)=none):qI es T=[]:=by
 unfold qI;rw[List.filter_eq_nil_iff.mpr]
 ·rfl
 ·exact List.find?_eq_none.mp h
def Bq(h:T.find? (isE es)=some e):∃r,qI es T=e.k::r:=by
 have:(T.filter (isE es)).head?=some e:=by rw[List.head?_filter];exact h
 obtain⟨r,hr⟩:=List.head?_eq_some_iff.mp this;unfold qI;rw[hr];exact⟨_,rfl⟩
def Jh{S:List Nat}(h:S.length<64):sj [nD S]=some (srt S):=by
 show(di (S.map iD)).bind _=_;rw[yY];show grd _ _=_;unfold grd;rw[if_pos (by rw[zad];exact h)];rfl
def J3(nd:(keys T).Nodup)(l:Nat):(List.map iD (keys T)).filter (fun t=>match ba (T.map (kvf rwF)) t with|some (.list u)=>decide (((u.length:Nat):Int)=(l:Int))|_=>false)=(lay T l).map iD:=by
 unfold lay;rw[zaR,List.filter_map,zaR];congr 1;refine List.filter_congr fun e he=>?_;obtain⟨j,hj⟩:=zbq he;show(match ba (T.map (kvf rwF)) (iD e.k)with|some (.list u)=>decide (((u.length:Nat):Int)=(l:Int))|_=>false)=_;rw[dS (f:=rwF) nd hj];show decide ((((e.r.map iD).length:Nat):Int)=(l:Int))=decide (e.r.length=l);rw[zad,Bool.eq_iff_iff,zbi,zbi];omega
def uA(t:TOk N 0 T)(hN:N<64)(hn:n<=100) 
  (hQ:∀o10,Q (.nx [x0,some (.dict (T.map (kvf rwF))),some (ahD T),x3,x4,x5,x6,x7,x8,some (.list ((List.range n).map fun l=>srt (lay T l))),o10])):
  W (cE (gN 10) jX (i5 0 n) [x0,some (.dict (T.map (kvf rwF))),some (ahD T),x3,x4,x5,x6,x7,x8,some (.list []),none]) Q:=by
 have tl:=t.len;refine du (fun i en=>∃o10,en=[x0,some (.dict (T.map (kvf rwF))),some (ahD T),x3,x4,x5,x6,x7,x8,some (.list ((List.range i).map fun l=>srt (lay T l))),o10]) ⟨_,rfl⟩ ?_ ?_
 ·rintro i t' en ht ⟨o10,rfl⟩;obtain⟨hi,rfl⟩:=j7 ht;rw[zbM];simp only[ws,jX,ahD,nD];refine mD (fun t=>match ba (T.map (kvf rwF)) t with|some (.list u)=>decide (((u.length:Nat):Int)=(i:Int))|_=>false) (fun t=>t) (szB (by rw[zad,zad];omega)) (fun t' ht=>?_) (fun t' ht _=>by simp only[ws,hU]) fun o=>?_
  ·rw[zaR]at ht;obtain⟨e,he,rfl⟩:=zaz.mp ht;obtain⟨j,hj⟩:=zbq he;have lk:ba (T.map (kvf rwF)) (.int (e.k:Int))=some (.list (e.r.map iD)):=dS (f:=rwF) t.nd hj;have q:eqD (.int ((e.r.length:Nat):Int)) (.int (i:Int))=some (.bool (decide (((e.r.length:Nat):Int)=(i:Int)))):=by
    show grd _ _=_;rw[fO ⟨rfl,rfl,zbj _⟩];rfl
   simp only[ws,nI,Function.comp_apply,iD,dg3 lk,lk,q,zad]
  rw[List.map_id',J3 t.nd];have hs:sj [.list ((lay T i).map iD)]=some (srt (lay T i)):=Jh (by
   have:=(List.Sublist.map (·.k) (List.filter_sublist (l:=T) (p:=fun e=>decide (e.r.length=i)))).length_le;rw[zad,zad]at this;unfold lay;rw[zad];omega)
  simp only[ws,hs];refine⟨iZ (by rw[zbe];omega),some (.int (i:Int)),?_⟩;rw[List.range_succ,zaC];rfl
 ·rintro en ⟨o10,rfl⟩;rw[j6];exact hQ _
def shD(es:List Bool)(T:List Ent):D:=match T.find? (isE es)with
 |none=>.tuple [.str "none",.list (LS T (hgt T))]
 |some e=>.tuple [.str "row",nD e.r,.list (LS T (e.r.length+1))]
def Lm(g:GOk G)(hes:es.length=G.length)(hN:G.length<64):W (fX [.tuple [.list (es.map .bool),.list (G.map aT)]]) (fun r=>r=(shD es (TT G 0 G.length),[none])):=by
 have t:=jG g g.n1 G.length;have gn:=g.n;simp only[fX,rL,ws];refine W.of (show e7 [(eC (.int 0),aw ag)] [some (.tuple [.list (es.map .bool),.list (G.map aT)]),none,none,none,none,none,none,none,none,none,none]=some (.dict ((TT G 0 0).map (kvf rwF)),[some (.tuple [.list (es.map .bool),.list (G.map aT)]),none,none,none,none,none,none,none,none,none,none])from rfl) ?_;simp only[ws];refine Br g fun o3 o4 o5 o6=>?_;generalize TT G 0 G.length=T at t;have tl:=t.len;have tn:T≠[]:=fun z=>by have:=t.h0;rw[z]at this;simp at this
 have hg:hgt T<=100:=uj fun e he=>by
  obtain⟨j,hj⟩:=zbq he
  have:=t.rl j e hj
  have:=(zah.mp hj).1;omega
 have hg1:1<=hgt T:=by
  have:=kd (zaX t.h0);omega
 simp only[ws,ahD,nD];refine mD (fun t=>match t with|.int z=>es.getD z.toNat false|_=>false) (fun t=>t) (szB (by rw[zad,zad];omega)) (fun t' ht=>?_) (fun t' ht _=>by simp only[ws,hU]) fun o=>?_
 ·rw[zaR]at ht;obtain⟨e,he,rfl⟩:=zaz.mp ht;have ae:=MU (es:=es) (e:=e) (by have:=t.lt e he;omega)
  have:isE es e=es.getD e.k false:=rfl;rw[this]at ae;simp only[ws,nJ,Function.comp_apply,iD,ae,zaL]
 have ef:List.map (fun t=>t) (List.filter (fun t=>match t with|PyData.int z=>es.getD z.toNat false|_=>false) (List.map iD (keys T)))=(qI es T).map iD:=by
  rw[List.map_id',zaR,List.filter_map];unfold qI;rw[zaR];rfl
 simp only[ws,ef];refine dM (fun t=>match ba (T.map (kvf rwF)) t with|some (.list l)=>.int (l.length:Nat)|_=>.none) (szB (by rw[zad,zad];omega)) (fun t' ht=>?_) fun o=>?_
 ·rw[zaR]at ht;obtain⟨e,he,rfl⟩:=zaz.mp ht;obtain⟨j,hj⟩:=zbq he;have lk:ba (T.map (kvf rwF)) (.int (e.k:Int))=some (.list (e.r.map iD)):=dS (f:=rwF) t.nd hj;simp only[ws,n8,Function.comp_apply,iD,dg3 lk,lk]
 have em:List.map (fun t=>match ba (T.map (kvf rwF)) t with|some (.list l)=>PyData.int (l.length:Nat)|_=>.none) (List.map iD (keys T))=T.map cr:=by
  rw[zaR,zaR];refine zbw fun e he=>?_;obtain⟨j,hj⟩:=zbq he;show(match ba (T.map (kvf rwF)) (iD e.k)with|some (.list l)=>PyData.int (l.length:Nat)|_=>.none)=_;rw[dS (f:=rwF) t.nd hj];show PyData.int ((e.r.map iD).length:Nat)=_;rw[zad];rfl
 simp only[ws,em,Fq tn,JW];cases hf:T.find? (isE es)with
 |none=>
  have ek:=GH hf;simp only[ws,ek,JW,Bp];rw[show((hgt T:Int)-1+1).toNat=hgt T by omega];refine⟨⟨by omega,by omega⟩,uA t hN hg fun o10=>?_⟩;have q0:=Bp [];rw[zaB rfl]at q0;simp only[ws,q0,shD,hf,LS]
 |some e=>
  obtain⟨rs,ek⟩:=Bq hf;have he:=List.mem_of_find?_eq_some hf;obtain⟨j,hj⟩:=zbq he;have hm:=kd he;have lk:ba (T.map (kvf rwF)) (.int (e.k:Int))=some (.list (e.r.map iD)):=dS (f:=rwF) t.nd hj;have d0:decide (e.k::rs=[])=false:=by simp
  have a0:atI (PyData.int (e.k:Int)::List.map iD rs) 0=some (.int (e.k:Int)):=bw _ 0;have q0:=Bp (e.k::rs);rw[zar,d0]at q0;simp only[ws,ek,d0,zar,iD,a0,dg3 lk];rw[show((e.r.length:Int)+1).toNat=e.r.length+1 by omega];refine⟨⟨by omega,by omega⟩,uA t hN (n:=e.r.length+1) (by omega) fun o10=>?_⟩;have q1:eqD (.list (PyData.int (e.k:Int)::List.map iD rs)) (.list [])=some (.bool false):=q0;simp only[ws,q1,a0,dg3 lk,shD,hf,nD,LS]
theorem rB{α:Type}(f:α->Bool):∀l:List α,iW (l.map fun a=>.bool (f a))=some (l.map f)
 |[]=>rfl
 |a::r=>by
  show(iW (r.map fun a=>.bool (f a))).map (f a::·)=_;rw[rB f r];rfl
def all_map{α:Type}(f:α->Bool)(l:List α):jg [.list (l.map fun a=>.bool (f a))]=some (.bool (l.all f)):=by
 show(iW _).map _=_;rw[rB];show some (PyData.bool ((l.map f).all id))=_;rw[List.all_map];rfl
def Ft(d b:Nat)(t:D):Prop:=t.showable=true/\t.depth<=d/\t.leavesShort 1921=true/\t.bulk<=b/\noX t=true
def Ft.mono{d' b':Nat}(h:Ft d b t)(hd:d<=d')(hb:b<=b'):Ft d' b' t:=⟨h.1,zau h.2.1 hd,h.2.2.1,zau h.2.2.2.1 hb,h.2.2.2.2⟩
def Ft.rep(h:Ft 60 8000 t):∃z,oX [t]=some (.str z):=by
 obtain⟨h1,h2,h3,h4,h5⟩:=h;refine⟨t.shown,if_pos ⟨h5,h1,h2,zau (PyData.shown_le_bulk 1921 (by decide) t h3) ?_⟩⟩;exact zau (show(1921+2)*t.bulk+1921<=15500000 by omega) (by decide)
theorem Ft.all{d b:Nat}:∀ts:List D,(∀t∈ts,Ft d b t)->PyData.showableAll ts=true/\PyData.depthAll ts<=d/\PyData.leavesShortAll 1921 ts=true/\PyData.bulkAll ts<=ts.length*(b+1)/\ja ts=true
 |[],_=>by simp[PyData.showableAll,PyData.depthAll,PyData.leavesShortAll,PyData.bulkAll,ja]
 |t::ts,h=>by
  obtain⟨a1,a2,a3,a4,a5⟩:=h t (zaq ..);obtain⟨b1,b2,b3,b4,b5⟩:=Ft.all ts fun u hu=>h u (zaj _ hu);refine⟨?_,?_,?_,?_,?_⟩
  ·rw[PyData.showableAll,a1,b1];rfl
  ·rw[PyData.depthAll];exact Nat.max_le.mpr ⟨a2,b2⟩
  ·rw[PyData.leavesShortAll,a3,b3];rfl
  ·rw[PyData.bulkAll,zac,Nat.succ_mul];omega
  ·rw[ja,a5,b5];rfl
def Ft.list{L:Nat}(hl:ts.length<=L)(h:∀t∈ts,Ft d b t):Ft (d+1) (L*(b+1)) (.list ts):=by
 obtain⟨b1,b2,b3,b4,b5⟩:=Ft.all ts h;refine⟨?_,?_,?_,?_,?_⟩
 ·rw[PyData.showable,b1]
 ·rw[PyData.depth];omega
 ·rw[PyData.leavesShort,b3]
 ·rw[PyData.bulk];exact zau b4 (Nat.mul_le_mul_right _ hl)
 ·rw[noX,b5]
def Ft.tup{d b L:Nat}{ts:List D}(hl:ts.length<=L)(h:∀t∈ts,Ft d b t):Ft (d+1) (L*(b+1)) (.tuple ts):=by
 obtain⟨b1,b2,b3,b4,b5⟩:=Ft.all ts h;refine⟨?_,?_,?_,?_,?_⟩
 ·rw[PyData.showable,b1]
 ·rw[PyData.depth];omega
 ·rw[PyData.leavesShort,b3]
 ·rw[PyData.bulk];exact zau b4 (Nat.mul_le_mul_right _ hl)
 ·rw[noX,b5]
def Ft.int{i:Int}(h:i.natAbs<2 ^ 1920):Ft 0 0 (.int i):=by
 have l:i.natAbs.log2<1920:=by
  by_cases z:i.natAbs=0
  ·rw[z];decide
  ·exact(Nat.log2_lt z).mpr h
 refine⟨?_,?_,?_,?_,rfl⟩
 ·rw[PyData.showable];exact zaB l
 ·rw[PyData.depth];exact zav _
 ·rw[PyData.leavesShort,PyData.shown];exact zaB (PyProof.Rows.int_text_len_1921 l)
 ·rw[PyData.bulk];exact zav _
def Ft.bool{b:Bool}:Ft 0 0 (.bool b):=by
 refine⟨?_,?_,?_,?_,rfl⟩<;>simp[PyData.showable,PyData.depth,PyData.leavesShort,PyData.bulk]
def Ft.none:Ft 0 0 .none:=by
 refine⟨?_,?_,?_,?_,rfl⟩<;>simp[PyData.showable,PyData.depth,PyData.leavesShort,PyData.bulk]
def Ft.dict:Ft 1 0 (.dict []):=by
 refine⟨?_,?_,?_,?_,rfl⟩<;>simp[PyData.showable,PyData.showableKv,PyData.depth,PyData.depthKv,PyData.leavesShort,PyData.leavesShortKv,PyData.bulk,PyData.bulkKv]
def Ft.str(hc:∀c∈z.cps.toList,c<16 ^ 8)(hl:z.cps.size<=n):Ft 0 n (.str z):=by
 refine⟨?_,?_,?_,?_,rfl⟩
 ·simp[PyData.showable]
 ·rw[PyData.depth];exact zav _
 ·rw[PyData.leavesShort];exact List.all_eq_true.mpr fun c h=>zaB (hc c h)
 ·rw[PyData.bulk];exact hl
theorem BA{d b:Nat}:∀ts:List D,PyData.showableAll ts=true->PyData.depthAll ts<=d->PyData.leavesShortAll 1921 ts=true->PyData.bulkAll ts<=b->ja ts=true->ts.length<=b/\∀u∈ts,Ft d b u
 |[],_,_,_,_,_=>⟨zbj _,by simp⟩
 |t::ts,h1,h2,h3,h4,h5=>by
  rw[PyData.showableAll,zbm]at h1;rw[PyData.depthAll]at h2;rw[PyData.leavesShortAll,zbm]at h3;rw[PyData.bulkAll]at h4;rw[ja,zbm]at h5;have hd:=Nat.max_le.mp h2;obtain⟨g1,g2⟩:=BA (d:=d) (b:=PyData.bulkAll ts) ts h1.2 hd.2 h3.2 (zav _) h5.2;refine⟨by rw[zac];omega,fun u hu=>?_⟩;rcases zay.mp hu with rfl|hu
  ·exact⟨h1.1,hd.1,h3.1,by omega,h5.1⟩
  ·exact(g2 u hu).mono (zav _) (by omega)
def Ft.its(h:Ft d b (.tuple ts)):ts.length<=b/\∀u∈ts,Ft d b u:=by
 obtain⟨h1,h2,h3,h4,h5⟩:=h;rw[PyData.showable]at h1;rw[PyData.depth]at h2;rw[PyData.leavesShort]at h3;rw[PyData.bulk]at h4;rw[noX]at h5;exact BA ts h1 (by omega) h3 h4 h5
def Ft.itl(h:Ft d b (.list ts)):ts.length<=b/\∀u∈ts,Ft d b u:=by
 obtain⟨h1,h2,h3,h4,h5⟩:=h;rw[PyData.showable]at h1;rw[PyData.depth]at h2;rw[PyData.leavesShort]at h3;rw[PyData.bulk]at h4;rw[noX]at h5;exact BA ts h1 (by omega) h3 h4 h5
def Ft.nx(h:Ft d b t):isX t=false:=by
 have h5:=h.2.2.2.2;cases t with
 |dict ks=>
  rw[noX,zbm]at h5;simpa using h5.1
 |_=>rfl
def iw(h:Ft d b (.dict ks)){T:String}(hT:bO "dict" T=false):bg T (.dict ks)=some (.bool false):=by
 show(if isX _=true then none else some (PyData.bool (bO "dict" T)))=_;rw[h.nx,hT];rfl
abbrev Fz(t:D):Prop:=Ft 60 8000 t
def nB(N:Nat):D->Bool
 |.int i=>decide (0<=i)&&decide (i<=(N:Int)-1)
 |_=>false
def nlB(N:Nat):D->Bool
 |.list ts=>ts.all (nB N)
 |_=>false
def isInt:D->Bool
 |.int _=>true
 |_=>false
def Ac(h:Fz t):W (fW [t]) (fun r=>r=(.bool (isInt t),[none])):=by
 cases t with
 |dict ks=>simp only[ws,fW,mV,isInt,iw h (T:="int") rfl]
 |_=>simp only[ws,fW,mV,isInt]
def ye(h:Fz t):W (cT [t,.int 0,.int ((N:Int)-1)]) (fun r=>r=(.bool (nB N t),[none,none,none])):=by
 simp only[ws,cT,jy];refine W.use (Ac h) ?_;rintro _ rfl;cases t with
 |int i=>
  simp only[ws,isInt,nB];by_cases h1:0<=i<;>by_cases h2:i<=(N:Int)-1<;>simp only[ws,h1,h2,decide_true,decide_false,zbW,zbX]
 |_=>simp only[ws,isInt,nB]
def uL(h:Fz t):W (bx [.int (N:Int),t]) (fun r=>r=(.bool (nlB N t),[none,none])):=by
 cases t with
 |list ts=>
  simp only[ws,bx,dy];refine dM (fun t=>.bool (nB N t)) (szB (by have:=h.itl.1;omega)) (fun u hu=>?_) fun o=>?_
  ·simp only[ws,gx];refine W.use (ye (h.itl.2 u hu)) ?_;rintro _ rfl;simp only[ws]
  ·simp only[ws,all_map,nlB]
 |dict ks=>simp only[ws,bx,dy,nlB,iw h (T:="list") rfl]
 |_=>simp only[ws,bx,dy,nlB]
def yo(M:MOk S W0 es gs)(h:Fz t):W (fB [aA es gs,t]) (fun r=>r=(.bool (nlB S t),[none,none])):=by
 simp only[ws,fB,og,aA];rw[M.le];refine W.use (uL h) ?_;rintro _ rfl;simp only[ws]
theorem m4{N:Nat}:∀ts:List D,ts.all (nB N)=true->∃l:List Nat,ts=l.map iD/\∀s∈l,s<N
 |[],_=>⟨[],rfl,fun s h=>by simp at h⟩
 |t::ts,h=>by
  rw[List.all_cons,zbm]at h;obtain⟨l,rfl,hl⟩:=m4 ts h.2;cases t with
  |int i=>
   have h1:=h.1;unfold nB at h1;rw[zbm,zbi,zbi]at h1;refine⟨i.toNat::l,?_,fun s hs=>?_⟩
   ·rw[zar];show _=PyData.int ((i.toNat:Nat):Int)::_;rw[Int.toNat_of_nonneg h1.1]
   ·rcases zay.mp hs with rfl|hs
    ·omega
    ·exact hl s hs
  |_=>exact absurd h.1 (by simp[nB])
def sr(h:∀s∈l,s<N):nlB N (nD l)=true:=by
 show List.all (l.map iD) _=true;rw[List.all_map,List.all_eq_true];intro s hs;show(decide (0<=(s:Int))&&decide ((s:Int)<=(N:Int)-1))=true
 have:=h s hs;rw[zbm,zbi,zbi];omega
theorem qx{N:Nat}:∀ts:List D,ts.all (nlB N)=true->∃ls:List (List Nat),ts=ls.map nD/\∀l∈ls,∀s∈l,s<N
 |[],_=>⟨[],rfl,fun s h=>by simp at h⟩
 |t::ts,h=>by
  rw[List.all_cons,zbm]at h;obtain⟨ls,rfl,hl⟩:=qx ts h.2;cases t with
  |list us=>
   obtain⟨l,rfl,h2⟩:=m4 us h.1;refine⟨l::ls,rfl,fun x hx=>?_⟩;rcases zay.mp hx with rfl|hx
   ·exact h2
   ·exact hl x hx
  |_=>exact absurd h.1 (by simp[nlB])
def mh{a b:List Nat}(h:nD a=nD b):a=b:=by
 have h':a.map iD=b.map iD:=by injection h
 refine List.map_inj_right (fun x y e=>?_) |>.mp h'
 have:(x:Int)=(y:Int):=by injection e
 omega
def dR{a b:List (List Nat)}(h:lsD a=lsD b):a=b:=by
 have h':a.map nD=b.map nD:=by injection h
 exact List.map_inj_right (fun x y e=>mh e) |>.mp h'
def ui(s:Nat)(M:List Nat):inL (.int (s:Int)) (.list (M.map iD))=some (.bool (decide (s∈M))):=by
 show grd _ _=_;rw[fO ⟨rfl,(jf M).1,by rw[(jf M).2];decide⟩];congr 2;rw[Bool.eq_iff_iff,zbQ,zbi];constructor
 ·rintro⟨t,ht,hp⟩;obtain⟨k,hk,rfl⟩:=zaz.mp ht
  have:(k:Int)=(s:Int):=by simpa[peq,iD]using hp
  rw[show s=k by omega];exact hk
 ·intro h;exact⟨iD s,List.mem_map_of_mem h,by simp[peq,iD]⟩
def qZ(M:MOk S W0 es gs)(h:Fz t):W (cJ [aA es gs,t]) (fun r=>∃b:Bool,r=(.bool b,[none,none])/\(b=true↔∃ls,t=lsD ls/\Ly S ls)):=by
 have no:∀{t:D},(∀ts,t≠.list ts)->(false=true↔∃ls,t=lsD ls/\Ly S ls):=fun hn=>⟨fun z=>(nomatch z),fun⟨ls,e,_⟩=>absurd e (hn _)⟩;cases t with
 |list ts=>
  simp only[ws,cJ,hV];refine dM (fun t=>.bool (nlB S t)) (szB (by have:=h.itl.1;omega)) (fun u hu=>?_) fun o=>?_
  ·simp only[ws,lQ];refine W.use (yo M (h.itl.2 u hu)) ?_;rintro _ rfl;simp only[ws,aA]
  ·simp only[ws,all_map];cases ha:ts.all (nlB S)with
   |false=>
    simp only[ws];refine⟨false,rfl,fun z=>(nomatch z),fun⟨ls,e,L⟩=>?_⟩;have e':ts=ls.map nD:=by injection e
    rw[e',List.all_map,<-Bool.not_eq_true,List.all_eq_true]at ha;exact absurd (fun l hl=>sr (L.lt l hl)) ha
   |true=>
    obtain⟨ls,rfl,hl⟩:=qx ts ha;cases ls with
    |nil=>
     have d0:decide ((0:Int)<((0:Nat):Int))=false:=rfl;simp only[ws,za0,List.length_nil,d0];refine⟨false,rfl,fun z=>(nomatch z),fun⟨ls,e,L⟩=>?_⟩;rw[<-dR (a:=[]) e]at L;obtain⟨l,e,_⟩:=L.h0;simp at e
    |cons l ls=>
     have d1:decide ((0:Int)<((ls.length+1:Nat):Int))=true:=zaB (by omega);have a0:atI (nD l::ls.map nD) 0=some (.list (l.map iD)):=bw (nD l::ls.map nD) 0;simp only[ws,zar,zac,d1,a0,ui 0 l];have i0:inL (.int 0) (.list (l.map iD))=some (.bool (decide (0∈l))):=ui 0 l;simp only[ws,i0];refine⟨decide (0∈l),rfl,?_⟩;rw[zbi];constructor
     ·intro h0;exact⟨l::ls,rfl,hl,l,rfl,h0⟩
     ·rintro⟨ls',e,L⟩;rw[<-dR (a:=l::ls) e]at L;obtain⟨l',e,h0⟩:=L.h0;cases e;exact h0
 |dict ks=>
  simp only[ws,cJ,hV,iw h (T:="list") rfl];exact⟨false,rfl,no fun ts z=>(nomatch z)⟩
 |_=>
  simp only[ws,cJ,hV];exact⟨false,rfl,no fun ts z=>(nomatch z)⟩
def uM{α:Type}(d:α->D){l:List α}{o:Option D}{rest:En}{Q:List D×En->Prop}(F:α->D)(hz:l.length<=1000)(hf:∀a∈l,W (f (some (d a)::rest)) (fun r=>r=(F a,some (d a)::rest)))(hq:∀o',Q (l.map F,o'::rest)):W (lcF (gN 0) cY f (l.map d) [] (o::rest)) Q:=by
 refine Nw (fun i acc en=>acc=(l.take i).map F/\∃o',en=o'::rest) (by rw[zad];exact sz hz) ⟨rfl,o,rfl⟩ ?_ ?_
 ·rintro i t acc en ht _ ⟨rfl,o',rfl⟩;rw[zao]at ht;obtain⟨a,ha,rfl⟩:=zab.mp ht;simp only[ws];refine W.use (hf a (zaX ha)) ?_;rintro _ rfl;refine⟨?_,_,rfl⟩;rw[df ha,zaC];rfl
 ·rintro acc en _ ⟨rfl,o',rfl⟩;rw[zad,zaQ];exact hq o'
def ins(T:List Ent)(k n:Nat):List Ent:=if k∈keys T then T else T++[⟨k,List.replicate n 0⟩]
structure FI(N i:Nat)(ls:List (List Nat))(T:List Ent):Prop where
 nd:(keys T).Nodup
 lt:∀e∈T,e.k<N
 a:∀e∈T,e.r.length<=i/\∃l,ls[e.r.length]?=some l/\e.k∈l
 b:∀(m:Nat) (l:List Nat) (s:Nat),m<i->ls[m]?=some l->s∈l->∃e∈T,e.k=s/\e.r.length<=m
def FI.len(t:FI N i ls T):T.length<=N:=by
 have:=qo (A:=List.range N) t.nd fun c hc=>by
  obtain⟨e,he,rfl⟩:=zaz.mp hc;exact zbr.mpr (t.lt e he)
 rwa[zbe,zad]at this
def FI.ins{N i s:Nat}{ls:List (List Nat)}{l:List Nat}{T:List Ent}(t:FI N i ls T)(hl:ls[i]?=some l)(hs:s∈l)(hN:s<N):FI N i ls (ins T s i)/\(∃e∈ins T s i,e.k=s/\e.r.length<=i)/\∀e∈T,e∈ins T s i:=by
 unfold W33.ins;by_cases hk:s∈keys T
 ·rw[if_pos hk];obtain⟨e,he,rfl⟩:=zaz.mp hk;exact⟨t,⟨e,he,rfl,(t.a e he).1⟩,fun e h=>h⟩
 ·rw[if_neg hk];have lr:(List.replicate i 0).length=i:=zaN;refine⟨⟨?_,fun e he=>?_,fun e he=>?_,fun m l' x hm h1 h2=>?_⟩,⟨_,zbg _ zaq,rfl,Nat.le_of_eq lr⟩,fun e h=>zbf _ h⟩
  ·show(List.map _ (T++_)).Nodup;rw[zaC,List.nodup_append];exact⟨t.nd,by simp,fun a ha b hb z=>hk (by
    have hb':b=s:=zaH.mp hb;rw[<-hb',<-z];exact ha)⟩
  ·rcases zax.mp he with he|he
   ·exact t.lt e he
   ·rw[zaH.mp he];exact hN
  ·rcases zax.mp he with he|he
   ·exact t.a e he
   ·rw[zaH.mp he];show(List.replicate i 0).length<=i/\∃l,ls[(List.replicate i 0).length]?=some l/\s∈l;rw[lr];exact⟨zav _,l,hl,hs⟩
  ·obtain⟨e,he,h3⟩:=t.b m l' x hm h1 h2;exact⟨e,zbf _ he,h3⟩
def Jj(hT:T.length<1000):
  oW 1 (ad 4) (ad 2) [x0,some (iy cr T),some (.int (n:Int)),x3,some (.int (k:Int))]=some (.nx [x0,some (iy cr (ins T k n)),some (.int (n:Int)),x3,some (.int (k:Int))]):=by
 show(if(T.map (kvf cr)).length<sizeLine then(if(ba (T.map (kvf cr)) (iD k)).isSome=true then some (Fl.nx _)else some (Fl.nx [x0,some (.dict (gg (T.map (kvf cr)) (iD k) (.int (n:Int)))),_,x3,_]))else none)=_;rw[if_pos (iZ (by rw[zad];omega))];have e:(ba (T.map (kvf cr)) (iD k)).isSome=decide (k∈keys T):=by
  unfold ba;rw[Option.isSome_map,m8]
 rw[e];unfold ins;by_cases hk:k∈keys T
 ·rw[if_pos (zaB hk),if_pos hk]
 ·rw[if_neg (by simpa using hk),if_neg hk,sX hk];unfold iy;rw[zaC];show _=some (Fl.nx [x0,some (.dict (_++[(iD k,PyData.int ((List.replicate n 0).length:Int))])),_,_,_]);rw[zaN]
def A8(hN:N<=900)(hl:∀l∈ls,∀s∈l,s<N):W (dQ [lsD ls]) (fun r=>∃T,r=(iy cr T,[none])/\FI N ls.length ls T):=by
 simp only[ws,dQ,lU,lsD];refine W.of (show lb _=some (iy cr [],_)from rfl) ?_;simp only[ws];refine du (fun i en=>∃T o2 o3 o4,en=[some (lsD ls),some (iy cr T),o2,o3,o4]/\FI N i ls T) ⟨[],_,_,_,rfl,by simp,by simp,by simp,fun m l s h=>absurd h (Nat.not_lt_zero _)⟩ ?_ ?_
 ·rintro i t' en ht ⟨T,o2,o3,o4,rfl,F⟩;obtain⟨u,hu,rfl⟩:=fT ht;rw[zao]at hu;obtain⟨l,hl',rfl⟩:=zab.mp hu;simp only[ws,jI,nD];refine du (fun j en=>∃T o4,en=[some (lsD ls),some (iy cr T),some (.int (i:Int)),some (nD l),o4]/\FI N i ls T/\∀s∈l.take j,∃e∈T,e.k=s/\e.r.length<=i) ⟨T,_,rfl,F,by simp⟩ ?_ ?_
  ·rintro j t' en ht ⟨T,o4,rfl,F,hj⟩;rw[zao]at ht;obtain⟨s,hs,rfl⟩:=zab.mp ht;have sm:=zaX hs;have fl:=F.len;obtain⟨f1,f2,f3⟩:=F.ins hl' sm (hl l (zaX hl') s sm);simp only[ws,jJ,iD];refine W.of (Jj (by omega)) ⟨_,_,rfl,f1,fun x hx=>?_⟩;rw[df hs]at hx;rcases zax.mp hx with hx|hx
   ·obtain⟨e,he,h2⟩:=hj x hx;exact⟨e,f3 e he,h2⟩
   ·rw[zaH.mp hx];exact f2
  ·rintro en ⟨T,o4,rfl,F,hj⟩;rw[zad,zaQ]at hj;refine⟨T,_,_,_,rfl,F.nd,F.lt,fun e he=>⟨by have:=(F.a e he).1;omega,(F.a e he).2⟩,fun m l' s hm h1 h2=>?_⟩;by_cases e:m=i
   ·subst e;rw[hl']at h1;cases h1;exact hj s h2
   ·exact F.b m l' s (by omega) h1 h2
 ·rintro en ⟨T,o2,o3,o4,rfl,F⟩;rw[fS,zad]at F;simp only[ws];exact⟨T,rfl,F⟩
def okW(T:List Ent)(m:Nat):Option Nat->Bool
 |none=>true
 |some k=>T.any fun e=>decide (e.k=k)&&decide (e.r.length<=m)
def ED(f:Ent->D)(T:List Ent)(k:Nat):dIn (.int (k:Int)) (iy f T)=some (.bool (decide (k∈keys T))):=by
 show(if noT (T.map (kvf f))=true then some (PyData.bool (ba (T.map (kvf f)) (iD k)).isSome)else none)=_;rw[if_pos (yF f T)];unfold ba;rw[Option.isSome_map,m8]
def JS(nd:(keys T).Nodup)(h:T[i]?=some e):okW T m (some e.k)=decide (e.r.length<=m):=by
 show T.any _=_;rw[Bool.eq_iff_iff,zbQ,zbi];constructor
 ·rintro⟨f,hf,h2⟩;rw[zbm,zbi,zbi]at h2;obtain⟨j,hj⟩:=zbq hf;have e1:=dS (f:=cr) nd hj;rw[h2.1,dS (f:=cr) nd h]at e1
  have:PyData.int (e.r.length:Int)=PyData.int (f.r.length:Int):=zat e1;injection this with this
  omega
 ·intro h2;exact⟨e,zaX h,by rw[zbm];exact⟨zaB rfl,zaB h2⟩⟩
def wx(nd:(keys T).Nodup)(hr:r.length<=1000):W (fC [.list (r.map goD),iy cr T,.int (m:Int)]) (fun q=>q=(.bool (r.all (okW T m)),[none,none,none])):=by
 simp only[ws,fC,oh];refine uM goD (fun w=>.bool (okW T m w)) hr (fun w _=>?_) fun o=>?_
 ·cases w with
  |none=>simp only[ws,fI,goD,okW]
  |some k=>
   by_cases hk:k∈keys T
   ·obtain⟨e,he,rfl⟩:=zaz.mp hk;obtain⟨j,hj⟩:=zbq he;have g:uE (iy cr T) (.int (e.k:Int))=some (.int (e.r.length:Int)):=dS (f:=cr) nd hj;simp only[ws,fI,goD,ED,hk,g,JS nd hj,decide_true]
    have:((e.r.length:Int)<=(m:Int))=(e.r.length<=m):=propext (by omega);simp only[this]
   ·have o0:okW T m (some k)=false:=by
     show T.any _=false;rw[<-Bool.not_eq_true,zbQ];rintro⟨f,hf,h2⟩;rw[zbm,zbi]at h2;exact hk (h2.1▸List.mem_map_of_mem hf)
    simp only[ws,fI,goD,ED,hk,o0,decide_false]
 ·simp only[ws,all_map]
def E7(T:List Ent):prs (T.map (kvf cr))=T.map fun e=>.tuple [iD e.k,cr e]:=by
 unfold prs;rw[zaR];rfl
def gd(es:List Bool)(gs:Gr)(T:List Ent)(many:Nat)(e:Ent):Bool:=!decide (e.r.length<many) || (!es.getD e.k false&&((gs[e.k]?).getD []).all (okW T (e.r.length+1)))
def pf(M:MOk S W0 es gs):GOk gs:=⟨by rw[M.lg];exact M.s1,by rw[M.lg];have:=M.s2;omega,fun r hr=>by rw[(M.ok r hr).1];exact M.w2,fun r hr k hk=>by rw[M.lg];exact(M.ok r hr).2 _ hk k rfl⟩
def qM(M:MOk S W0 es gs)(h:k<S):atI (es.map PyData.bool) (k:Int)=some (.bool (es.getD k false)):=by
 have h':k<es.length:=by rw[M.le];exact h
 rw[bw,zao,zak h',zbh,zak h'];rfl
def lh(M:MOk S W0 es gs)(h:k<S):atI (gs.map aT) (k:Int)=some (.list (((gs[k]?).getD []).map goD))/\((gs[k]?).getD []).length=W0:=by
 have h':k<gs.length:=by rw[M.lg];exact h
 rw[bw,zao,zak h'];exact⟨rfl,(M.ok _ (zaK h')).1⟩
def yL(F:FI S ls.length ls T)(M:MOk S W0 es gs)(hm:many<=ls.length):T.all (gd es gs T many)=true↔Pr es gs ls many:=by
 rw[List.all_eq_true];constructor
 ·intro h a s l ha hl hs;obtain⟨e,he,rfl,h2⟩:=F.b a l s (by omega) hl hs;have g:=h e he;unfold gd at g;rw[zaB (show e.r.length<many by omega),Bool.not_true,Bool.false_or,zbm,List.all_eq_true]at g;refine⟨by simpa using g.1,fun r hr w hw=>?_⟩;have q:=g.2 (some w) (by rw[hr];exact hw);obtain⟨f,hf,h3⟩:=zbQ.mp (show T.any _=true from q);rw[zbm,zbi,zbi]at h3;obtain⟨m,h4,h5⟩:=(F.a f hf).2;exact⟨f.r.length,m,by omega,h4,by rw[<-h3.1];exact h5⟩
 ·intro h e he;unfold gd;by_cases hn:e.r.length<many
  ·obtain⟨_,l,h1,h2⟩:=F.a e he;obtain⟨g1,g2⟩:=h e.r.length e.k l hn h1 h2;rw[zaB hn,Bool.not_true,Bool.false_or,zbm,List.all_eq_true,g1];refine⟨rfl,fun w hw=>?_⟩;cases w with
   |none=>rfl
   |some k=>
    have hk:e.k<gs.length:=by rw[M.lg];exact F.lt e he
    have hr:gs[e.k]?=some gs[e.k]:=zak hk;rw[hr]at hw;obtain⟨b,m,h3,h4,h5⟩:=g2 _ hr k hw;obtain⟨f,hf,h6,h7⟩:=F.b b m k (zah.mp h4).1 h4 h5;refine zbQ.mpr ⟨f,hf,?_⟩;rw[zbm,zbi,zbi];exact⟨h6,by omega⟩
  ·rw[zaA hn];rfl
def t7(M:MOk S W0 es gs)(hl:∀l∈ls,∀s∈l,s<S)(hm:many<=ls.length):W (fV [aA es gs,lsD ls,.int (many:Int)]) (fun r=>∃b:Bool,r=(.bool b,[none,none,none])/\(b=true↔Pr es gs ls many)):=by
 have s2:=M.s2;have w2:=M.w2;simp only[ws,fV,rK];refine W.use (A8 (N:=S) (by omega) hl) ?_;rintro _ ⟨T,rfl,F⟩;simp only[ws];refine MW (ks:=T.map (kvf cr)) rfl ?_;rw[E7];simp only[ws,if_true];have fin:=yL F M hm;refine du (fun i en=>∃o4 o5,en=[some (aA es gs),some (lsD ls),some (.int (many:Int)),some (iy cr T),o4,o5]/\∀e∈T.take i,gd es gs T many e=true) ⟨none,none,rfl,by simp⟩ ?_ ?_
 ·rintro i t' en ht ⟨o4,o5,rfl,hg⟩;rw[zao]at ht;obtain⟨e,he,rfl⟩:=zab.mp ht;have em:=zaX he;have el:=F.lt e em;obtain⟨r1,r2⟩:=lh M el;have up:gd es gs T many e=true->∀f∈T.take (i+1),gd es gs T many f=true:=fun h f hf=>by
   rw[df he]at hf;rcases zax.mp hf with hf|hf
   ·exact hg f hf
   ·rw[zaH.mp hf];exact h
  have no:gd es gs T many e=false->(false=true↔Pr es gs ls many):=fun h=>by
   rw[<-fin];refine⟨fun z=>(nomatch z),fun z=>?_⟩;rw[List.all_eq_true]at z;rw[<-h];exact z e em
  have c1:decide ((e.r.length:Int)<(many:Int))=decide (e.r.length<many):=by
   rw[Bool.eq_iff_iff,zbi,zbi];omega
  by_cases hn:e.r.length<many
  ·have c2:decide ((e.r.length:Int)<(many:Int))=true:=by rw[c1];exact zaB hn
   cases hb:es.getD e.k false with
   |true=>
    have a1:=qM M el;rw[hb]at a1;simp only[ws,hR,iD,cr,aA,c2,a1];refine⟨false,rfl,no ?_⟩;unfold gd;rw[zaB hn,hb];rfl
   |false=>
    have a1:=qM M el;rw[hb]at a1;simp only[ws,hR,iD,cr,aA,c2,a1,r1];have q:=wx (T:=T) F.nd (m:=e.r.length+1) (r:=(gs[e.k]?).getD []) (by omega);rw[show((e.r.length+1:Nat):Int)=(e.r.length:Int)+1 by omega]at q;refine W.use q ?_;rintro _ rfl;cases hr:((gs[e.k]?).getD []).all (okW T (e.r.length+1))with
    |true=>
     simp only[ws];refine⟨_,_,rfl,up ?_⟩;unfold gd;rw[hb,hr];simp
    |false=>
     simp only[ws];refine⟨false,rfl,no ?_⟩;unfold gd;rw[zaB hn,hb,hr];rfl
  ·have c2:decide ((e.r.length:Int)<(many:Int))=false:=by rw[c1];exact zaA hn
   simp only[ws,hR,iD,cr,c2];refine⟨_,_,rfl,up ?_⟩;unfold gd;rw[zaA hn];rfl
 ·rintro en ⟨o4,o5,rfl,hg⟩;rw[zad,zaQ]at hg;simp only[ws];exact⟨true,rfl,⟨fun _=>fin.mp (List.all_eq_true.mpr hg),fun _=>rfl⟩⟩
def L9(M:MOk S W0 es gs)(h:ld gs o s=some k):k<S:=by
 unfold ld at h;obtain⟨j,rfl,h2⟩:=zaa.mp h;cases hg:gs[j]? with
 |none=>rw[hg]at h2;simp at h2
 |some r=>
  rw[hg]at h2;have h3:r.getD s none=some k:=h2;rw[zbh]at h3;cases hr:r[s]? with
  |none=>rw[hr]at h3;cases h3
  |some w=>
   rw[hr]at h3;have h4:w=some k:=h3;exact(M.ok r (zaX hg)).2 w (zaX hr) k h4
theorem kf(M:MOk S W0 es gs):∀(row:List Nat) (o:Option Nat),(∀k,o=some k->k<S)->∀k,row.foldl (ld gs) o=some k->k<S
 |[],o,h,k,e=>h k e
 |s::row,o,h,k,e=>kf M row (ld gs o s) (fun k=>L9 M) k e
def yK(M:MOk S W0 es gs)(hk:k<S)(hs:s<W0):atI (((gs[k]?).getD []).map goD) (s:Int)=some (goD (ld gs (some k) s)):=by
 obtain⟨_,r2⟩:=lh M hk;rw[bw,zao];show _=some (goD (((gs[k]?).getD []).getD s none))
 have:s<((gs[k]?).getD []).length:=by rw[r2];exact hs
 rw[zak this,zbh,zak this];rfl
def J1(M:MOk S W0 es gs)(ho:∀k,o=some k->k<S)(hs:s<W0):W (qS [aA es gs,goD o,.int (s:Int)]) (fun r=>r=(goD (ld gs o s),[none,none,none])):=by
 cases o with
 |none=>simp only[ws,qS,BG,goD,ld,Option.bind_none]
 |some k=>
  have hk:=ho k rfl;simp only[ws,qS,BG,goD,aA,(lh M hk).1,yK M hk hs]
def FE(M:MOk S W0 es gs)(hr:∀s∈row,s<W0):W (qa [aA es gs,.int 0,nD row]) (fun r=>r=(goD (row.foldl (ld gs) (some 0)),[none,none,none])):=by
 have s1:=M.s1;simp only[ws,qa,EN,nD];refine du (fun i en=>∃o4,en=[some (aA es gs),some (.int 0),some (nD row),some (goD ((row.take i).foldl (ld gs) (some 0))),o4]) ⟨none,rfl⟩ ?_ ?_
 ·rintro i t' en ht ⟨o4,rfl⟩;rw[zao]at ht;obtain⟨s,hs,rfl⟩:=zab.mp ht;simp only[ws,wu,iD];refine W.use (J1 M (kf M _ _ fun k e=>by cases e;omega) (hr s (zaX hs))) ?_;rintro _ rfl;simp only[ws];refine⟨some (.int (s:Int)),?_⟩;rw[df hs,List.foldl_append];rfl
 ·rintro en ⟨o4,rfl⟩;rw[zad,zaQ];simp only[ws]
def Ll(M:MOk S W0 es gs)(ho:∀k,o=some k->k<S):W (iX [aA es gs,goD o]) (fun r=>r=(.bool (enB es o),[none,none])):=by
 cases o with
 |none=>simp only[ws,iX,qT,goD,enB]
 |some k=>simp only[ws,iX,qT,goD,aA,qM M (ho k rfl),enB]
def Fw(M:MOk S W0 es gs)(hr:∀s∈row,s<W0):W (p5 [aA es gs,nD row]) (fun r=>r=(.bool (jb es gs row),[none,none])):=by
 have s1:=M.s1;simp only[ws,p5,EM];refine W.use (FE M hr) ?_;rintro _ rfl;simp only[ws];refine W.use (Ll M (kf M _ _ fun k e=>by cases e;omega)) ?_;rintro _ rfl;simp only[ws];rfl
def signs_ok(M:MOk S W0 es gs)(h:Fz t):W (gt [aA es gs,t]) (fun r=>r=(.bool (nlB W0 t),[none,none])):=by
 have r:=lh M (k:=0) M.s1;have a0:atI (gs.map aT) 0=some (.list (((gs[0]?).getD []).map goD)):=r.1;simp only[ws,gt,qg,eA,jM,aA,a0];rw[r.2];refine W.use (uL h) ?_;rintro _ rfl;simp only[ws]
def xS(es:List Bool)(gs:Gr)(c:D):Prop:=∃ls,c=lsD ls/\Ly gs.length ls/\Pr es gs ls ls.length
def sB(es:List Bool)(gs:Gr)(W0:Nat)(a c:D):Prop:=∃ls row,a=nD row/\c=lsD ls/\Ly gs.length ls/\(∀s∈row,s<W0)/\row.length+1=ls.length/\jb es gs row=true/\Pr es gs ls row.length
def vW(M:MOk S W0 es gs){c:D}(h:Fz c):W (fA [aA es gs,c]) (fun r=>∃b:Bool,r=(.bool b,[none,none])/\(b=true↔xS es gs c)):=by
 simp only[ws,fA,oe];refine W.use (qZ M h) ?_;rintro _ ⟨b,rfl,hb⟩;cases b with
 |false=>
  simp only[ws];refine⟨false,rfl,fun z=>(nomatch z),fun⟨ls,e,L,_⟩=>?_⟩;rw[M.lg]at L;exact hb.mpr ⟨ls,e,L⟩
 |true=>
  obtain⟨ls,rfl,L⟩:=hb.mp rfl;simp only[ws,lsD];refine W.use (t7 M L.lt (many:=ls.length) (zav _)) ?_;rintro _ ⟨b,rfl,hb⟩;simp only[ws];refine⟨b,rfl,hb.trans ⟨fun h=>⟨ls,rfl,by rw[M.lg];exact L,h⟩,fun⟨ls',e,_,h⟩=>?_⟩⟩;rw[dR (a:=ls) (b:=ls') e];exact h
def sW(M:MOk S W0 es gs){a c:D}(ha:Fz a)(h:Fz c):W (gq [aA es gs,a,c]) (fun r=>∃b:Bool,r=(.bool b,[none,none,none])/\(b=true↔sB es gs W0 a c)):=by
 simp only[ws,gq,qf];refine W.use (qZ M h) ?_;rintro _ ⟨b,rfl,hb⟩;cases b with
 |false=>
  simp only[ws];refine⟨false,rfl,fun z=>(nomatch z),fun⟨ls,_,_,e,L,_⟩=>?_⟩;rw[M.lg]at L;exact hb.mpr ⟨ls,e,L⟩
 |true=>
  obtain⟨ls,rfl,L⟩:=hb.mp rfl;have l1:1<=ls.length:=by
   obtain⟨l,e,_⟩:=L.h0
   have:=(zah.mp e).1;omega
  simp only[ws];refine W.use (signs_ok M ha) ?_;rintro _ rfl;cases hr:nlB W0 a with
  |false=>
   simp only[ws];refine⟨false,rfl,fun z=>(nomatch z),fun⟨_,row,e,_,_,h2,_⟩=>?_⟩;rw[e,sr h2]at hr;cases hr
  |true=>
   obtain⟨row,rfl,r2⟩:∃row,a=nD row/\∀s∈row,s<W0:=by
    cases a with
    |list ts=>
     obtain⟨l,rfl,h2⟩:=m4 ts hr;exact⟨l,rfl,h2⟩
    |_=>cases hr
   have no:¬(row.length+1=ls.length/\jb es gs row=true)->(false=true↔sB es gs W0 (nD row) (lsD ls)):=fun hn=>⟨fun z=>(nomatch z),fun⟨ls',row',e1,e2,_,_,h3,h4,_⟩=>by
    rw[<-mh e1]at h3 h4;rw[<-dR e2]at h3;exact absurd ⟨h3,h4⟩ hn⟩
   simp only[ws,lsD,nD];by_cases hl:(row.length:Int)=(ls.length:Int)-1
   ·have hl':row.length+1=ls.length:=by omega
    simp only[ws,hl];refine W.use (Fw M r2) ?_;rintro _ rfl;cases hb2:jb es gs row with
    |false=>
     simp only[ws];exact⟨false,rfl,no fun z=>by rw[hb2]at z;exact(nomatch z.2)⟩
    |true=>
     simp only[ws];rw[<-hl];refine W.use (t7 M L.lt (many:=row.length) (by omega)) ?_;rintro _ ⟨b,rfl,hb⟩;simp only[ws];refine⟨b,rfl,hb.trans ⟨fun h=>⟨ls,row,rfl,rfl,by rw[M.lg];exact L,r2,hl',hb2,h⟩,fun⟨ls',row',e1,e2,_,_,_,_,h⟩=>?_⟩⟩;rw[dR (a:=ls) (b:=ls') e2,mh (a:=row) (b:=row') e1];exact h
   ·simp only[ws,hl];exact⟨false,rfl,no fun z=>hl (by omega)⟩
def eB:gp es gs W0 t↔(∃c,t=.tuple [.str "none",c]/\xS es gs c)\/∃a c,t=.tuple [.str "row",a,c]/\sB es gs W0 a c:=by
 unfold gp xS sB;constructor
 ·rintro (⟨ls,rfl,h⟩|⟨ls,row,rfl,h⟩)
  ·exact .inl ⟨_,rfl,ls,rfl,h⟩
  ·exact .inr ⟨_,_,rfl,ls,row,rfl,rfl,h⟩
 ·rintro (⟨_,rfl,ls,rfl,h⟩|⟨_,_,rfl,ls,row,rfl,rfl,h⟩)
  ·exact .inl ⟨ls,rfl,h⟩
  ·exact .inr ⟨ls,row,rfl,h⟩
def i8(h1:∀c,t≠.tuple [.str "none",c])(h2:∀a c,t≠.tuple [.str "row",a,c]):false=true↔gp es gs W0 t:=by
 rw[eB];exact⟨fun z=>(nomatch z),fun z=>z.elim (fun⟨c,e,_⟩=>absurd e (h1 c)) fun⟨a,c,e,_⟩=>absurd e (h2 a c)⟩
def pd(h:∀ts,t≠.tuple ts):false=true↔gp es gs W0 t:=i8 (fun _ e=>h _ e) fun _ _ e=>h _ e
def ss{a:D}(h:∀z,a≠.str z):false=true↔gp es gs W0 (.tuple (a::ts)):=i8 (fun _ e=>by injection e with e;injection e with e;exact h _ e) fun _ _ e=>by injection e with e;injection e with e;exact h _ e
def me(h1:z="none"->ts.length≠1)(h2:z="row"->ts.length≠2):false=true↔gp es gs W0 (.tuple (.str z::ts)):=
 i8 (fun _ e=>by injection e with e;injection e with e1 e;injection e1 with e1;exact h1 e1 (by rw[e];rfl)) fun _ _ e=>by injection e with e;injection e with e1 e;injection e1 with e1;exact h2 e1 (by rw[e];rfl)
def rn:("row":Str)≠"none":=by decide
def uy(a b:Str):eqD (.str a) (.str b)=some (.bool (decide (a=b))):=by
 show grd _ _=_;rw[fO ⟨rfl,rfl,zbj _⟩];show some (PyData.bool (a==b))=_;congr 2
def dY(a b:Int):eqD (.int a) (.int b)=some (.bool (decide (a=b))):=by
 show grd _ _=_;rw[fO ⟨rfl,rfl,zbj _⟩];rfl
def vS(M:MOk S W0 es gs)(h:Fz t):W (bt [aA es gs,t]) (fun r=>∃b:Bool,r=(.bool b,[none,none])/\(b=true↔gp es gs W0 t)):=by
 cases t with
 |tuple ts=>
  obtain⟨_,hi⟩:=h.its;cases ts with
  |nil=>
   simp only[ws,bt,bX];exact⟨false,rfl,i8 (fun c z=>by injection z with z;cases z) fun a c z=>by injection z with z;cases z⟩
  |cons a ts=>
   have a0:atI (a::ts) 0=some a:=bw _ 0;have a1:atI (a::ts) 1=ts[0]?:=bw _ 1;have a2:atI (a::ts) 2=ts[1]?:=bw _ 2;have c0:decide (((ts.length+1:Nat):Int)=0)=false:=zaA (by omega);cases a with
   |str z=>
    simp only[ws,bt,bX,zac,dY,c0,a0,uy];by_cases hz:z="row"
    ·subst hz;simp only[ws,decide_true];by_cases hl:ts.length=2
     ·have c3:decide (((ts.length+1:Nat):Int)=3)=true:=zaB (by omega)
      match ts,hl,hi with
      |[b,c],_,hi=>
       have a1:atI [PyData.str "row",b,c] 1=some b:=bw _ 1;have a2:atI [PyData.str "row",b,c] 2=some c:=bw _ 2;simp only[ws,dY,a1,a2];refine W.use (sW M (hi b (by simp)) (hi c (by simp))) ?_;rintro _ ⟨b',rfl,hb⟩;simp only[ws];refine⟨b',rfl,hb.trans ?_⟩;rw[eB];exact⟨fun h=>.inr ⟨b,c,rfl,h⟩,fun z=>z.elim (fun⟨_,e,_⟩=>by injection e with e;cases e) fun⟨a',c',e,h⟩=>by injection e with e;injection e with _ e;injection e with e1 e;injection e with e2 e;rw[e1,e2];exact h⟩
     ·have c3:decide (((ts.length+1:Nat):Int)=3)=false:=zaA (by omega);simp only[ws,zac,dY,c3];exact⟨false,rfl,me (fun z=>absurd z rn) fun _=>hl⟩
    ·simp only[ws,hz,decide_false];by_cases hn:z="none"
     ·subst hn;simp only[ws,decide_true];by_cases hl:ts.length=1
      ·match ts,hl,hi with
       |[c],_,hi=>
        have a1:atI [PyData.str "none",c] 1=some c:=bw _ 1;simp only[ws,dY,a1];refine W.use (vW M (hi c (by simp))) ?_;rintro _ ⟨b',rfl,hb⟩;simp only[ws];refine⟨b',rfl,hb.trans ?_⟩;rw[eB];exact⟨fun h=>.inl ⟨c,rfl,h⟩,fun z=>z.elim (fun⟨c',e,h⟩=>by injection e with e;injection e with _ e;injection e with e1 e;rw[e1];exact h) fun⟨_,_,e,_⟩=>by injection e with e;cases e⟩
      ·have c3:decide (((ts.length+1:Nat):Int)=2)=false:=zaA (by omega);simp only[ws,zac,dY,c3];exact⟨false,rfl,me (fun _=>hl) fun z=>absurd z.symm rn⟩
     ·simp only[ws,hn,decide_false];exact⟨false,rfl,me (fun z=>absurd z hn) fun z=>absurd z hz⟩
   |dict ks=>
    simp only[ws,bt,bX,zac,dY,c0,a0,iw (hi _ zaq) (T:="str") rfl];exact⟨false,rfl,ss fun z e=>(nomatch e)⟩
   |_=>
    simp only[ws,bt,bX,zac,dY,c0,a0];exact⟨false,rfl,ss fun z e=>(nomatch e)⟩
 |dict ks=>
  simp only[ws,bt,bX,iw h (T:="tuple") rfl];exact⟨false,rfl,pd fun ts e=>(nomatch e)⟩
 |_=>
  simp only[ws,bt,bX];exact⟨false,rfl,pd fun ts e=>(nomatch e)⟩
def Eu(i:Int)(N:Nat):decide (i<(N:Int))=decide (i<=(N:Int)-1):=by
 rw[Bool.eq_iff_iff,zbi,zbi];omega
def Bt(M:MOk S W0 es gs)(h:Fz u)(h1:nB S u=true->J [some (aA es gs),x1,some u])(h2:nB S u=false->Q (.rt (.bool false) [some (aA es gs),x1,some u])):W (dE [some (aA es gs),x1,some u]) (kIt J Q):=by
 cases u with
 |int i=>
  have le:=M.le;have c:=Eu i S;by_cases i1:0<=i<;>by_cases i2:i<=(S:Int)-1<;>simp only[ws,dE,aA,le,i1,i2,c,decide_true,decide_false]
  ·exact h1 (by simp[nB,i1,i2])
  ·exact h2 (by simp[nB,i1,i2])
  ·exact h2 (by simp[nB,i1,i2])
  ·exact h2 (by simp[nB,i1,i2])
 |dict ks=>
  simp only[ws,dE,iw h (T:="int") rfl];exact h2 rfl
 |_=>
  simp only[ws,dE];exact h2 rfl
def GL(M:MOk S W0 es gs)(h:Fz u)(h1:nB W0 u=true->J [some (aA es gs),x1,x2,x3,some u])(h2:nB W0 u=false->Q (.rt (.bool false) [some (aA es gs),x1,x2,x3,some u])):W (da [some (aA es gs),x1,x2,x3,some u]) (kIt J Q):=by
 cases u with
 |int i=>
  have r:=lh M (k:=0) M.s1;have a0:atI (gs.map aT) 0=some (.list (((gs[0]?).getD []).map goD)):=r.1;have c:=Eu i W0;by_cases i1:0<=i<;>by_cases i2:i<=(W0:Int)-1<;>simp only[ws,da,aA,a0,r.2,i1,i2,c,decide_true,decide_false]
  ·exact h1 (by simp[nB,i1,i2])
  ·exact h2 (by simp[nB,i1,i2])
  ·exact h2 (by simp[nB,i1,i2])
  ·exact h2 (by simp[nB,i1,i2])
 |dict ks=>
  simp only[ws,da,iw h (T:="int") rfl];exact h2 rfl
 |_=>
  simp only[ws,da];exact h2 rfl
def zR{p:D->Bool}(h:u∈ts)(hu:p u=false):ts.all p=false:=by
 rw[<-Bool.not_eq_true,List.all_eq_true];intro z;rw[z u h]at hu;cases hu
def wK(M:MOk S W0 es gs)(h:Fz t):W (cU [aA es gs,t]) (fun r=>r=(.bool (nlB S t),[none,none])):=by
 cases t with
 |list ts=>
  simp only[ws,cU,gB];refine du (fun i en=>∃o,en=[some (aA es gs),some (.list ts),o]/\∀u∈ts.take i,nB S u=true) ⟨_,rfl,by simp⟩ ?_ ?_
  ·rintro i u en hu ⟨o,rfl,hj⟩;simp only[ws];have um:=zaX hu;refine Bt M (h.itl.2 u um) (fun hb=>⟨_,rfl,fun v hv=>?_⟩) fun hb=>?_
   ·rw[df hu]at hv;rcases zax.mp hv with hv|hv
    ·exact hj v hv
    ·rw[zaH.mp hv];exact hb
   ·simp only[ws,nlB,zR um hb]
  ·rintro en ⟨o,rfl,hj⟩;rw[zaQ]at hj;simp only[ws,nlB,List.all_eq_true.mpr hj]
 |dict ks=>simp only[ws,cU,gB,iw h (T:="list") rfl,nlB]
 |_=>simp only[ws,cU,gB,nlB]
def AW(M:MOk S W0 es gs)(hr:∀s∈row,s<W0):W (gu [aA es gs,.int 0,nD row]) (fun r=>r=(goD (row.foldl (ld gs) (some 0)),[none,none,none])):=by
 have s1:=M.s1;simp only[ws,gu,qj,nD];refine du (fun i en=>∃o,en=[some (aA es gs),some (goD ((row.take i).foldl (ld gs) (some 0))),some (nD row),o]) ⟨none,rfl⟩ ?_ ?_
 ·rintro i t' en ht ⟨o,rfl⟩;rw[zao]at ht;obtain⟨s,hs,rfl⟩:=zab.mp ht;have hk:=kf M (row.take i) (some 0) fun k e=>by cases e;omega
  rw[df hs,List.foldl_append];show W _ (kFg _ (fun en=>∃o,en=[some (aA es gs),some (goD (ld gs ((row.take i).foldl (ld gs) (some 0)) s)),some (nD row),o]) _);cases hf:(row.take i).foldl (ld gs) (some 0)with
  |none=>
   simp only[ws,jo,goD,ld,Option.bind_none];exact⟨_,rfl⟩
  |some k=>
   have kl:=hk k hf;simp only[ws,jo,goD,aA,iD,(lh M kl).1,yK M kl (hr s (zaX hs))];exact⟨_,rfl⟩
 ·rintro en ⟨o,rfl⟩;rw[zad,zaQ];simp only[ws]
def AC(M:MOk S W0 es gs)(hr:∀s∈row,s<W0):W (fh [aA es gs,nD row]) (fun r=>r=(.bool (jb es gs row),[none,none])):=by
 have s1:=M.s1;simp only[ws,fh,qi];refine W.use (AW M hr) ?_;rintro _ rfl;have hk:=kf M row (some 0) fun k e=>by cases e;omega
 unfold jb;cases hf:row.foldl (ld gs) (some 0)with
 |none=>simp only[ws,goD,enB]
 |some k=>simp only[ws,goD,aA,qM M (hk k hf),enB]
def inW(A:List Nat):Option Nat->Bool
 |none=>true
 |some k=>decide (k∈A)
def gA(es:List Bool)(gs:Gr)(A:List Nat)(s:Nat):Bool:=!es.getD s false&&((gs[s]?).getD []).all (inW A)
def yM(M:MOk S W0 es gs){A:List Nat}(hs:s<S):W (dW [aA es gs,.int (s:Int),nD A]) (fun r=>r=(.bool (gA es gs A s),[none,none,none])):=by
 have w2:=M.w2;have a1:=qM M hs;obtain⟨r1,r2⟩:=lh M hs;unfold gA;cases hb:es.getD s false with
 |true=>
  rw[hb]at a1;simp only[ws,dW,j3,aA,a1,Bool.not_true,Bool.false_and]
 |false=>
  rw[hb]at a1;simp only[ws,dW,j3,aA,a1,r1];refine uM goD (fun w=>.bool (inW A w)) (by omega) (fun w _=>?_) fun o=>?_
  ·cases w with
   |none=>simp only[ws,iI,goD,inW]
   |some k=>simp only[ws,iI,goD,inW,nD,ui]
  ·simp only[ws,all_map,Bool.not_false,Bool.true_and]
theorem yI:∀ls:List (List Nat),ka (ls.map nD)=some (ls.map fun l=>l.map iD)
 |[]=>rfl
 |l::ls=>by
  show(ka (ls.map nD)).map _=_;rw[yI ls];rfl
def wJ(h:ls≠[])(hl:ls.flatten.length<=8000):kI [.list (ls.map nD),.list []]=some (nD ls.flatten):=by
 have e:(ls.map fun l=>l.map iD).flatten=ls.flatten.map iD:=by rw[List.map_flatten]
 show(ka (ls.map nD)).bind _=_;rw[yI];show(if ls.map nD≠[]/\(ls.map fun l=>l.map iD).flatten.length<=sizeLine then some (PyData.list (ls.map fun l=>l.map iD).flatten)else none)=_;rw[e,if_pos ⟨by simpa using h,szB (by rw[zad];omega)⟩];rfl
def fM{α:Type}(xs:List α)(n:Nat):a8 xs (some (n:Int)) none=xs.drop n:=by
 unfold a8;rw[HT.sIx_none,HT.sIx_nat,List.take_of_length_le (by rw[zaF];exact zav _)];by_cases h:n<=xs.length
 ·rw[Nat.min_eq_left h]
 ·rw[Nat.min_eq_right (by omega),List.drop_eq_nil_of_le (zav _),List.drop_eq_nil_of_le (by omega)]
def dL{α:Type}(xs:List α)(n:Nat):a8 xs none (some (n:Int))=xs.take n:=by
 unfold a8;rw[HT.sIx_none,HT.sIx_nat,List.drop_zero,Nat.sub_zero];by_cases h:n<=xs.length
 ·rw[Nat.min_eq_left h]
 ·rw[Nat.min_eq_right (by omega),List.take_of_length_le (zav _),List.take_of_length_le (by omega)]
def JG(M:MOk S W0 es gs)(hl:∀l∈ls,∀s∈l,s<S):(∀(a:Nat) (l:List Nat) (s:Nat),a<many->ls[a]?=some l->s∈l->gA es gs (ls.take (a+2)).flatten s=true)↔Pr es gs ls many:=by
 have fl:∀(a w:Nat),w∈(ls.take (a+2)).flatten↔∃(b:Nat) (m:List Nat),b<=a+1/\ls[b]?=some m/\w∈m:=fun a w=>by
  rw[List.mem_flatten];constructor
  ·rintro⟨m,hm,hw⟩;obtain⟨b,hb⟩:=zbq hm;have hb':=(zah.mp hb).1;rw[zaE]at hb';rw[List.getElem?_take_of_lt (by omega)]at hb;exact⟨b,m,by omega,hb,hw⟩
  ·rintro⟨b,m,h1,h2,h3⟩;exact⟨m,zaX (i:=b) (by rw[List.getElem?_take_of_lt (by omega)];exact h2),h3⟩
 constructor
 ·intro h a s l ha h1 h2;have g:=h a l s ha h1 h2;unfold gA at g;rw[zbm,List.all_eq_true]at g;refine⟨by simpa using g.1,fun r hr w hw=>?_⟩
  have:=g.2 (some w) (by rw[hr];exact hw);exact(fl a w).mp (of_decide_eq_true this)
 ·intro h a l s ha h1 h2;obtain⟨g1,g2⟩:=h a s l ha h1 h2;unfold gA;rw[g1,zbm,List.all_eq_true];refine⟨rfl,fun w hw=>?_⟩;cases w with
  |none=>rfl
  |some k=>
   have hs:s<gs.length:=by rw[M.lg];exact hl l (zaX h1) s h2
   rw[zak hs]at hw;exact zaB ((fl a k).mpr (g2 _ (zak hs) k hw))
def rf(M:MOk S W0 es gs)(hl:∀l∈ls,∀s∈l,s<S)(hz:ls.flatten.length<=8000)(hz2:ls.length<=8000){last:Int}(hm:many<=ls.length)(e:last+1=(many:Int)):W (cD [aA es gs,lsD ls,.int last]) (fun r=>∃b:Bool,r=(.bool b,[none,none,none])/\(b=true↔Pr es gs ls many)):=by
 have fin:=JG M (many:=many) hl;simp only[ws,cD,mX];rw[e,zaL];refine⟨⟨by omega,by omega⟩,?_⟩;refine du (fun i en=>∃o3 o4 o5,en=[some (aA es gs),some (lsD ls),some (.int last),o3,o4,o5]/\∀(a:Nat) (l:List Nat) (s:Nat),a<i->ls[a]?=some l->s∈l->gA es gs (ls.take (a+2)).flatten s=true) ⟨_,_,_,rfl,fun a l s h=>absurd h (Nat.not_lt_zero _)⟩ ?_ ?_
 ·rintro i t' en ht ⟨o3,o4,o5,rfl,hj⟩;obtain⟨hi,rfl⟩:=j7 ht;rw[zbM];have il:i<ls.length:=by omega
  have hi':ls[i]?=some ls[i]:=zak il;generalize ls[i]=l at hi';have a1:atI (ls.map nD) (i:Int)=some (.list (l.map iD)):=by rw[bw,zao,hi'];rfl
  have c1:a8 (ls.map nD) none (some ((i:Int)+2))=(ls.take (i+2)).map nD:=by
   rw[show(i:Int)+2=((i+2:Nat):Int)by omega,dL,List.map_take]
  have tz:(ls.take (i+2)).flatten.length<=8000:=by
   have q:=congrArg (fun x=>x.flatten.length) (List.take_append_drop (i+2) ls);simp only[List.flatten_append,zae]at q;omega
  have s1:=wJ (ls:=ls.take (i+2)) (fun z=>by
   have:=congrArg List.length z;rw[zaE,List.length_nil]at this;omega) tz
  simp only[ws,kB,lsD,c1,s1,a1];refine du (fun j en=>∃o5,en=[some (aA es gs),some (lsD ls),some (.int last),some (.int (i:Int)),some (nD (ls.take (i+2)).flatten),o5]/\∀s∈l.take j,gA es gs (ls.take (i+2)).flatten s=true) ⟨_,rfl,by simp⟩ ?_ ?_
  ·rintro j t' en ht ⟨o5,rfl,hk⟩;rw[zao]at ht;obtain⟨s,hs,rfl⟩:=zab.mp ht;have sm:=zaX hs;simp only[ws,kC,iD];refine W.use (yM M (hl l (zaX hi') s sm)) ?_;rintro _ rfl;cases hb:gA es gs (ls.take (i+2)).flatten s with
   |true=>
    simp only[ws];refine⟨_,rfl,fun x hx=>?_⟩;rw[df hs]at hx;rcases zax.mp hx with hx|hx
    ·exact hk x hx
    ·rw[zaH.mp hx];exact hb
   |false=>
    simp only[ws];refine⟨false,rfl,fun z=>(nomatch z),fun z=>?_⟩;rw[<-hb];exact fin.mpr z i l s hi hi' sm
  ·rintro en ⟨o5,rfl,hk⟩;rw[zad,zaQ]at hk;refine⟨_,_,_,rfl,fun a l' s ha h1 h2=>?_⟩;by_cases e:a=i
   ·subst e;rw[hi']at h1;cases h1;exact hk s h2
   ·exact hj a l' s (by omega) h1 h2
 ·rintro en ⟨o3,o4,o5,rfl,hj⟩;rw[j6]at hj;simp only[ws];exact⟨true,rfl,fun _=>fin.mp hj,fun _=>rfl⟩
def L6(s:Nat)(M:List Nat):fm (.int (s:Int)) (.list (M.map iD))=some (.bool (!decide (s∈M))):=by
 have h:=ui s M;have h':grd (noDict (.int (s:Int))=true/\aF (M.map iD)=true/\bP (M.map iD)<=60) (PyData.bool ((M.map iD).any fun t=>peq t (.int (s:Int))))=some (.bool (decide (s∈M))):=h;obtain⟨c,e⟩:=bI h';injection e with e
 show grd _ _=_;rw[fO c,e]
def pc(n:Int):fm (.int n) (.tuple [.int 2,.int 3])=some (.bool (!(decide (2=n) || decide (3=n)))):=by
 show grd _ _=_;rw[fO ⟨rfl,rfl,zbj _⟩];congr 2;show(!([PyData.int 2,.int 3].any fun t=>peq t (.int n)))=_;simp only[List.any_cons,List.any_nil,Bool.or_false];rfl
def EE(h:Fz (lsD ls)):ls.length<=8000/\ls.flatten.length<=8000:=by
 have hb:=h.2.2.2.1;unfold lsD at hb;rw[PyData.bulk]at hb;have q:∀ls:List (List Nat),ls.length<=PyData.bulkAll (ls.map nD)/\ls.flatten.length<=PyData.bulkAll (ls.map nD):=by
  intro ls
  induction ls with
  |nil=>exact⟨zbj _,zbj _⟩
  |cons l ls ih=>
   have k:∀l:List Nat,l.length<=PyData.bulkAll (l.map iD):=by
    intro l
    induction l with
    |nil=>exact zbj _
    |cons s l ih=>
     rw[zar,PyData.bulkAll,zac];omega
   have k1:=k l;rw[zar,PyData.bulkAll,List.flatten_cons,zae,zac];unfold nD at ih ⊢;rw[PyData.bulk];omega
 have:=q ls;omega
def xg:MS:=(ak (sIf (tV (e2 eqD (eN aK (ac (ad 1) ag)) (eC (.int 2)))) (ay (cW (e2 eqD (e2 ixA (ad 1) (eC (.int 0))) (eC (.str "none"))) (ar cD (ac (ad 0) (ac (ad 2) (ac (e2 dH (eN aK (ac (ad 2) ag)) (eC (.int 1))) ag)))))) aW)
 (ak (au 3 (e2 ixA (ad 1) (eC (.int 1))))
 (ak (sIf (bOr (tV (e2 neD (e2 ixA (ad 1) (eC (.int 0))) (eC (.str "row")))) (bOr (bV (tV (e1 (bg "list") (ad 3)))) (tV (e2 neD (eN aK (ac (ad 3) ag)) (e2 dH (eN aK (ac (ad 2) ag)) (eC (.int 1))))))) (ay (eC (.bool false))) aW)
 (ak (bT (bi (ad 3)) (gN 4) da)
 (ay (cW (ar fh (ac (ad 0) (ac (ad 3) ag))) (ar cD (ac (ad 0) (ac (ad 2) (ac (e2 dH (eN aK (ac (ad 2) ag)) (eC (.int 2))) ag))))))))))
def qG:MS:=(ak (sIf (bOr (bV (tV (e1 (bg "list") (ad 2)))) (bOr (tV (e2 eqD (eN aK (ac (ad 2) ag)) (eC (.int 0)))) (bV (tV (eN jg (ac (eLC true (bi (ad 2)) (gN 0) cY iJ [none,some 0]) ag)))))) (ay (eC (.bool false))) aW)
 (ak (sIf (tV (e2 fm (eC (.int 0)) (e2 ixA (ad 2) (eC (.int 0))))) (ay (eC (.bool false))) aW) xg))
def AU:oo=(ak (sIf (bOr (bV (tV (e1 (bg "tuple") (ad 1)))) (bOr (tV (e2 fm (eN aK (ac (ad 1) ag)) (bj (ac (eC (.int 2)) (ac (eC (.int 3)) ag))))) (bV (tV (e1 (bg "str") (e2 ixA (ad 1) (eC (.int 0)))))))) (ay (eC (.bool false))) aW)
 (ak (au 2 (e2 ixA (ad 1) (e1 ca (eC (.int 1))))) qG)):=rfl
def v6(M:MOk S W0 es gs){c:D}(h:Fz c)(hn:(¬∃ls,c=lsD ls/\Ly S ls)->Q (.rt (.bool false) [some (aA es gs),x1,some c,none,none]))(hy:∀ls,c=lsD ls->Ly S ls->W (xg [some (aA es gs),x1,some (lsD ls),none,none]) Q):
  W (qG [some (aA es gs),x1,some c,none,none]) Q:=by
 have no:(∀ts,c≠.list ts)->¬∃ls,c=lsD ls/\Ly S ls:=fun hc ⟨ls,e,_⟩=>hc _ e;cases c with
 |list ts=>
  cases ts with
  |nil=>
   have d0:decide (((0:Nat):Int)=0)=true:=rfl;simp only[ws,qG,List.length_nil,dY,d0];refine hn fun⟨ls,e,L⟩=>?_;rw[<-dR (a:=[]) e]at L;obtain⟨l,e,_⟩:=L.h0;simp at e
  |cons u us=>
   obtain⟨ts,hts⟩:∃ts,ts=u::us:=⟨_,rfl⟩;rw[<-hts]at h hn hy ⊢;have c0:decide ((ts.length:Int)=0)=false:=zaA (by rw[hts,zac];omega);simp only[ws,qG,dY,c0];refine dM (fun t=>.bool (nlB S t)) (szB (by have:=h.itl.1;omega)) (fun u hu=>?_) fun o=>?_
   ·simp only[ws,iJ];refine W.use (wK M (h.itl.2 u hu)) ?_;rintro _ rfl;simp only[ws,aA]
   ·simp only[ws,all_map];cases ha:ts.all (nlB S)with
    |false=>
     simp only[ws];refine hn fun⟨ls,e,L⟩=>?_;have e':ts=ls.map nD:=by injection e
     rw[e',List.all_map,<-Bool.not_eq_true,List.all_eq_true]at ha;exact absurd (fun l hl=>sr (L.lt l hl)) ha
    |true=>
     obtain⟨ls,e,hl⟩:=qx ts ha;subst e;cases ls with
     |nil=>cases hts
     |cons l ls=>
      have a0:atI (nD l::ls.map nD) 0=some (.list (l.map iD)):=bw (nD l::ls.map nD) 0;have i0:fm (.int 0) (.list (l.map iD))=some (.bool (!decide (0∈l))):=L6 0 l;by_cases h0:0∈l
      ·rw[zaB h0]at i0;simp only[ws,zar,a0,i0,Bool.not_true];exact hy (l::ls) rfl ⟨hl,l,rfl,h0⟩
      ·rw[zaA h0]at i0;simp only[ws,zar,a0,i0,Bool.not_false];refine hn fun⟨ls',e,L⟩=>?_;rw[<-dR (a:=l::ls) e]at L;obtain⟨l',e,h1⟩:=L.h0;cases e;exact h0 h1
 |dict ks=>
  simp only[ws,qG,iw h (T:="list") rfl];exact hn (no fun ts z=>(nomatch z))
 |_=>
  simp only[ws,qG];exact hn (no fun ts z=>(nomatch z))
def JV(a b:Str):neD (.str a) (.str b)=some (.bool (!decide (a=b))):=by
 have h:grd _ _=some (PyData.bool (decide (a=b))):=uy a b;obtain⟨c,e⟩:=bI h;show grd _ _=_;rw[fO c];injection e with e
 rw[<-e]
def Nb(a b:Int):neD (.int a) (.int b)=some (.bool (!decide (a=b))):=by
 show grd _ _=_;rw[fO ⟨rfl,rfl,zbj _⟩];rfl
def tW(L:Ly N ls):1<=ls.length:=by
 obtain⟨l,e,_⟩:=L.h0
 have:=(zah.mp e).1;omega
def J5(M:MOk S W0 es gs)(h:Fz t):W (fE [aA es gs,t]) (fun r=>∃b:Bool,r=(.bool b,[none,none])/\(b=true↔gp es gs W0 t)):=by
 simp only[fE,AU];cases t with
 |tuple ts=>
  obtain⟨_,hi⟩:=h.its;by_cases hl:ts.length=2\/ts.length=3
  ·have c23:(!(decide ((2:Int)=(ts.length:Int)) || decide ((3:Int)=(ts.length:Int))))=false:=by
    rcases hl with hl|hl<;>rw[hl]<;>rfl
   cases ts with
   |nil=>rcases hl with hl|hl<;>cases hl
   |cons a ts=>
    have a0:atI (a::ts) 0=some a:=bw _ 0;cases a with
    |str z=>
     rcases hl with hl|hl
     ·match ts,hl,hi,h with
      |[c],_,hi,h=>
       have al:atI [PyData.str z,c] (-1)=some c:=rfl;have n2:fm (.int 2) (.tuple [.int 2,.int 3])=some (.bool false):=pc 2;have hc:=hi c (by simp);simp only[ws,n2,al];refine v6 M hc (fun hn=>?_) fun ls e L=>?_
       ·simp only[ws];refine⟨false,rfl,?_⟩;rw[eB];refine⟨fun z=>(nomatch z),fun z=>z.elim (fun⟨c',e,ls,e2,L,_⟩=>?_) fun⟨_,_,e,_⟩=>by injection e with e;cases e⟩;injection e with e;injection e with _ e;injection e with e _
        rw[M.lg]at L;exact absurd ⟨ls,e.trans e2,L⟩ hn
       ·subst e;obtain⟨f1,f2⟩:=EE hc;have l1:=tW L;have a0:atI [PyData.str z,lsD ls] 0=some (.str z):=rfl;have q2:eqD (.int 2) (.int 2)=some (.bool true):=dY 2 2;simp only[ws,xg,q2,a0,uy];by_cases hz:z="none"
        ·subst hz;simp only[ws,decide_true,lsD];refine W.use (rf M L.lt f2 f1 (many:=ls.length) (zav _) (by omega)) ?_;rintro _ ⟨b,rfl,hb⟩;simp only[ws];refine⟨b,rfl,hb.trans ?_⟩;rw[eB];refine⟨fun h=>.inl ⟨_,rfl,ls,rfl,by rw[M.lg];exact L,h⟩,fun z=>z.elim (fun⟨c',e,ls',e2,_,h⟩=>?_) fun⟨_,_,e,_⟩=>by injection e with e;cases e⟩;injection e with e;injection e with _ e;injection e with e _
         rw[dR (a:=ls) (b:=ls') (e.trans e2)];exact h
        ·simp only[ws,hz,decide_false];exact⟨false,rfl,me (fun z=>absurd z hz) fun _ e=>(nomatch e)⟩
     ·match ts,hl,hi,h with
      |[b,c],_,hi,h=>
       have al:atI [PyData.str z,b,c] (-1)=some c:=rfl;have n3:fm (.int 3) (.tuple [.int 2,.int 3])=some (.bool false):=pc 3;have hc:=hi c (by simp);have hb:=hi b (by simp);simp only[ws,n3,al];refine v6 M hc (fun hn=>?_) fun ls e L=>?_
       ·simp only[ws];refine⟨false,rfl,?_⟩;rw[eB];refine⟨fun z=>(nomatch z),fun z=>z.elim (fun⟨c',e,_⟩=>by injection e with e;cases e) fun⟨_,_,e,ls,_,_,e2,L,_⟩=>?_⟩;injection e with e;injection e with _ e;injection e with _ e;injection e with e _
        rw[M.lg]at L;exact absurd ⟨ls,e.trans e2,L⟩ hn
       ·subst e;obtain⟨f1,f2⟩:=EE hc;have l1:=tW L;have a0:atI [PyData.str z,b,lsD ls] 0=some (.str z):=rfl;have a1:atI [PyData.str z,b,lsD ls] 1=some b:=rfl;have q2:eqD (.int 3) (.int 2)=some (.bool false):=dY 3 2;simp only[ws,xg,q2,a0,a1,JV];by_cases hz:z="row"
        ·subst hz;simp only[ws,decide_true,Bool.not_true];have no:(¬∃row,b=nD row/\(∀s∈row,s<W0)/\row.length+1=ls.length/\jb es gs row=true)->(false=true↔gp es gs W0 (.tuple [.str "row",b,lsD ls])):=fun hn=>by
          rw[eB];refine⟨fun z=>(nomatch z),fun z=>z.elim (fun⟨c',e,_⟩=>by injection e with e;cases e) fun⟨_,_,e,ls',row,e1,e2,_,h2,h3,h4,_⟩=>?_⟩;injection e with e;injection e with _ e;injection e with e3 e;injection e with e _
          rw[<-dR (e.trans e2)]at h3;exact absurd ⟨row,e3.trans e1,h2,h3,h4⟩ hn
         cases b with
         |list us=>
          simp only[ws,lsD,Nb];by_cases hu:(us.length:Int)=(ls.length:Int)-1
          ·simp only[ws,hu,decide_true,Bool.not_true];refine du (fun i en=>∃o,en=[some (aA es gs),some (.tuple [.str "row",.list us,lsD ls]),some (lsD ls),some (.list us),o]/\∀u∈us.take i,nB W0 u=true) ⟨none,rfl,by simp⟩ ?_ ?_
           ·rintro i u en hu' ⟨o,rfl,hj⟩;simp only[ws];have um:=zaX hu';refine GL M (hb.itl.2 u um) (fun hb=>⟨_,rfl,fun v hv=>?_⟩) fun hb=>?_
            ·rw[df hu']at hv;rcases zax.mp hv with hv|hv
             ·exact hj v hv
             ·rw[zaH.mp hv];exact hb
            ·simp only[ws];refine⟨false,rfl,no fun⟨row,e,h2,_⟩=>?_⟩;have e':us=row.map iD:=by injection e
             have:=sr h2;rw[show nlB W0 (nD row)=(row.map iD).all (nB W0)from rfl,<-e',zR um hb]at this;cases this
           ·rintro en ⟨o,rfl,hj⟩;rw[zaQ]at hj;obtain⟨row,rfl,r2⟩:=m4 us (List.all_eq_true.mpr hj);rw[zad]at hu;have hl':row.length+1=ls.length:=by omega
            simp only[ws];refine W.use (AC M r2) ?_;rintro _ rfl;cases hb2:jb es gs row with
            |false=>
             simp only[ws];refine⟨false,rfl,no fun⟨row',e,_,_,h4⟩=>?_⟩;rw[<-mh (a:=row) e,hb2]at h4;cases h4
            |true=>
             simp only[ws,lsD];refine W.use (rf M L.lt f2 f1 (many:=row.length) (by omega) (by omega)) ?_;rintro _ ⟨b,rfl,hb⟩;simp only[ws];refine⟨b,rfl,hb.trans ?_⟩;rw[eB];refine⟨fun h=>.inr ⟨_,_,rfl,ls,row,rfl,rfl,by rw[M.lg];exact L,r2,hl',hb2,h⟩,fun z=>z.elim (fun⟨c',e,_⟩=>by injection e with e;cases e) fun⟨_,_,e,ls',row',e1,e2,_,_,_,_,h⟩=>?_⟩;injection e with e;injection e with _ e;injection e with e3 e;injection e with e _
             rw[dR (a:=ls) (b:=ls') (e.trans e2),mh (a:=row) (b:=row') (e3.trans e1)];exact h
          ·simp only[ws,hu,decide_false,Bool.not_false];refine⟨false,rfl,no fun⟨row,e,_,h3,_⟩=>hu ?_⟩;have e':us=row.map iD:=by injection e
           rw[e',zad];omega
         |dict ks=>
          simp only[ws,iw hb (T:="list") rfl];exact⟨false,rfl,no fun⟨row,e,_⟩=>(nomatch e)⟩
         |_=>
          simp only[ws];exact⟨false,rfl,no fun⟨row,e,_⟩=>(nomatch e)⟩
        ·simp only[ws,hz,decide_false,Bool.not_false];exact⟨false,rfl,me (fun _ e=>(nomatch e)) fun z=>absurd z hz⟩
    |dict ks=>
     simp only[ws,pc,c23,a0,iw (hi _ zaq) (T:="str") rfl];exact⟨false,rfl,ss fun z e=>(nomatch e)⟩
    |_=>
     simp only[ws,pc,c23,a0];exact⟨false,rfl,ss fun z e=>(nomatch e)⟩
  ·have c23:(!(decide ((2:Int)=(ts.length:Int)) || decide ((3:Int)=(ts.length:Int))))=true:=by
    rw[zaA (by omega),zaA (by omega)];rfl
   simp only[ws,pc,c23];refine⟨false,rfl,i8 (fun c e=>?_) fun a c e=>?_⟩
   ·injection e with e;rw[e]at hl;exact hl (.inl rfl)
   ·injection e with e;rw[e]at hl;exact hl (.inr rfl)
 |dict ks=>
  simp only[ws,iw h (T:="tuple") rfl];exact⟨false,rfl,pd fun ts e=>(nomatch e)⟩
 |_=>
  simp only[ws];exact⟨false,rfl,pd fun ts e=>(nomatch e)⟩
theorem EK(T:List Ent):∀n,∃ls:List (List Nat),LS T n=ls.map nD/\ls.length=n/\∀(i:Nat) l,ls[i]?=some l->l.Perm (lay T i)
 |0=>⟨[],rfl,rfl,fun i l h=>by simp at h⟩
 |n+1=>by
  obtain⟨ls,h1,h2,h3⟩:=EK T n;obtain⟨sk,e,p,_⟩:=LJ (lay T n);refine⟨ls++[sk],?_,by rw[zae,h2];rfl,fun i l hi=>?_⟩
  ·show(List.range (n+1)).map _=_;rw[List.range_succ,zaC,zaC,<-h1];show LS T n++[srt (lay T n)]=_;rw[e];rfl
  ·by_cases hl:i<ls.length
   ·rw[zaS hl]at hi;exact h3 i l hi
   ·rw[zbI (by omega)]at hi;have e0:i-ls.length=0:=by
     have:=(zah.mp hi).1;simp at this;omega
    rw[e0]at hi;cases hi;rw[show i=n by omega];exact p
def lay_mem{l:Nat}:s∈lay T l↔∃e∈T,e.k=s/\e.r.length=l:=by
 unfold lay;rw[zaz];constructor
 ·rintro⟨e,he,rfl⟩;obtain⟨h1,h2⟩:=zbD.mp he;exact⟨e,h1,rfl,of_decide_eq_true h2⟩
 ·rintro⟨e,he,rfl,h⟩;exact⟨e,zbD.mpr ⟨he,zaB h⟩,rfl⟩
structure Due(es:List Bool)(gs:Gr)(S W0:Nat)(t:D)(ls:List (List Nat)):Prop where
 ly:Ly S ls
 n:ls.length<=S
 l:∀l∈ls,l.length<=S
 sh:(t=.tuple [.str "none",lsD ls]/\Pr es gs ls ls.length)\/∃row,t=.tuple [.str "row",nD row,lsD ls]/\(∀s∈row,s<W0)/\row.length+1=ls.length/\jb es gs row=true/\Pr es gs ls row.length
def Due.held(M:MOk S W0 es gs)(d:Due es gs S W0 t ls):gp es gs W0 t:=by
 have L:=d.ly;rw[<-M.lg]at L;rcases d.sh with⟨e,h⟩|⟨row,e,h⟩
 ·exact .inl ⟨ls,e,L,h⟩
 ·exact .inr ⟨ls,row,e,L,h⟩
def zE(B:BI gs W0 0 S T)(tl:T.length<=S)(nd:(keys T).Nodup)(hl:ls.length=n)(hp:∀(i:Nat) l,ls[i]?=some l->l.Perm (lay T i))(hm:m<=n)(hc:∀e∈T,e.r.length<m->es.getD e.k false=false)(hx:∀e∈T,e.r.length<m->∀f∈T,f.r.length<=e.r.length+1->f.r.length<n):Pr es gs ls m:=fun a s l ha h1 h2=>by
 obtain⟨e,he,rfl,hr⟩:=lay_mem.mp ((hp a l h1).mem_iff.mp h2);refine⟨hc e he (by omega),fun r hr' w hw=>?_⟩;obtain⟨i,hi⟩:=zbq he;have il:=(zah.mp hi).1;obtain⟨f,hf,h3,h4⟩:=B.clo i e (by omega) hi r hr' w hw;have fl:=hx e he (by omega) f hf h4;have hb:ls[f.r.length]?=some (ls[f.r.length]'(by omega)):=zak _;exact⟨f.r.length,_,by omega,hb,(hp _ _ hb).mem_iff.mpr (lay_mem.mpr ⟨f,hf,h3,rfl⟩)⟩
def GI(M:MOk S W0 es gs):W (fX [aA es gs]) (fun r=>∃t ls,r=(t,[none])/\Due es gs S W0 t ls):=by
 have s2:=M.s2;have lg:=M.lg;refine W.use (Lm (es:=es) (pf M) (by rw[M.le,M.lg]) (by rw[M.lg];omega)) ?_;rintro _ rfl;rw[lg];have t:=jG (pf M) (pf M).n1 S;have B:=xJ (G:=gs) (W0:=W0) (fun r hr=>(M.ok r hr).1) (a:=0) S;rw[lg]at t;generalize TT gs 0 S=T at t B;have tl:=t.len;have hgl:∀e∈T,e.r.length+1<=S:=fun e he=>by
  obtain⟨j,hj⟩:=zbq he
  have:=t.rl j e hj
  have:=(zah.mp hj).1;omega
 have hg:=uj hgl;have layl:∀l,(lay T l).length<=S:=fun l=>by
  unfold lay;rw[zad];exact zau (List.length_filter_le _ _) tl
 have mk:∀n,1<=n->n<=S->∃ls:List (List Nat),LS T n=ls.map nD/\ls.length=n/\(∀(i:Nat) l,ls[i]?=some l->l.Perm (lay T i))/\Ly S ls/\∀l∈ls,l.length<=S:=fun n h1 h2=>by
  obtain⟨ls,e1,e2,e3⟩:=EK T n;refine⟨ls,e1,e2,e3,⟨fun l hl s hs=>?_,?_⟩,fun l hl=>?_⟩
  ·obtain⟨i,hi⟩:=zbq hl;obtain⟨e,he,rfl,_⟩:=lay_mem.mp ((e3 i l hi).mem_iff.mp hs);exact t.lt e he
  ·have hb:ls[0]?=some (ls[0]'(by omega)):=zak _;exact⟨_,hb,(e3 _ _ hb).mem_iff.mpr (lay_mem.mpr ⟨_,zaX t.h0,rfl,rfl⟩)⟩
  ·obtain⟨i,hi⟩:=zbq hl;rw[(e3 i l hi).length_eq];exact layl i
 unfold shD;cases hf:T.find? (isE es)with
 |none=>
  have h1:1<=hgt T:=by
   have:=kd (zaX t.h0);omega
  obtain⟨ls,e1,e2,e3,e4,e5⟩:=mk (hgt T) h1 hg;refine⟨_,ls,rfl,e4,by omega,e5,.inl ⟨by show PyData.tuple [_,.list (LS T (hgt T))]=_;rw[e1];rfl,?_⟩⟩;rw[e2];refine zE B tl t.nd e2 e3 (zav _) (fun e he _=>?_) fun e he _ f hf _=>?_
  ·have:=List.find?_eq_none.mp hf e he;simpa[isE]using this
  ·have:=kd hf;omega
 |some e0=>
  have m0:=List.mem_of_find?_eq_some hf;have l0:=hgl e0 m0;obtain⟨w1,w2⟩:=B.way e0 m0;obtain⟨ls,e1,e2,e3,e4,e5⟩:=mk (e0.r.length+1) (by omega) l0;refine⟨_,ls,rfl,e4,by omega,e5,.inr ⟨e0.r,by show PyData.tuple [_,_,.list (LS T (e0.r.length+1))]=_;rw[e1];rfl,w2,by omega,?_,?_⟩⟩
  ·unfold jb;rw[w1]
   have:=List.find?_some hf;exact this
  ·refine zE B tl t.nd e2 e3 (by omega) (fun e he hl=>?_) fun e he hl f hf hl2=>by omega
   obtain⟨h1,as,bs,h2,h3⟩:=List.find?_eq_some_iff_append.mp hf;rw[h2]at he;rcases zax.mp he with he|he
   ·have:=h3 e he;simpa[isE]using this
   ·have pw:=B.pw;rw[h2,List.pairwise_append]at pw;rcases zay.mp he with rfl|he
    ·omega
    ·have:=(List.pairwise_cons.mp pw.2.1).1 e he;omega
def Pn(n:Nat)(t:D):Prop:=∃ns k l,t=Pen2.penD ns k l/\0<=k/\k<=(n:Int)/\0<=l
def Pn.mono(h:Pn n t)(e:n<=m):Pn m t:=by
 obtain⟨ns,k,l,rfl,h1,h2,h3⟩:=h;exact⟨ns,k,l,rfl,h1,by omega,h3⟩
def dN{m:Int}(hp:Pn n p)(hn:n<=1000000)(h3:0<m)(h4:m<1073741824){Q:D×En->Prop}(h:∀r p',0<=r->r<m->Pn (n+1) p'->Q (.int r,[some p',none])):W (ax [p,.int m]) Q:=by
 obtain⟨ns,k,l,rfl,k0,k1,l0⟩:=hp;obtain⟨r,k',l',e,e1,e2,e3,e4,e5⟩:=Pen2.take_ok (ns:=ns) (k:=k) (l:=l) (m:=m) k0 (by omega) l0 h3 h4;exact W.of (show ax _=_ from e) (h r _ e1 e2 ⟨ns,k',l',rfl,by omega,by omega,e5⟩)
def Mk(s:Nat)(t:D):Prop:=∃S es gs,t=aA es gs/\MOk S s es gs/\S<=8
def GU(hp:Pn n p)(hn:n<=900){Q:D×En->Prop}(h:∀(s:Nat) p',1<=s->s<=12->Pn (n+2) p'->Q (.int (s:Int),[some p'])):W (cK [p]) Q:=by
 obtain⟨ns,k,l,rfl,k0,k1,l0⟩:=hp;obtain⟨s,k',l',e,e1,e2,e3,e4,e5⟩:=Mch.signs_ok (ns:=ns) (k:=k) (l:=l) k0 (by omega) l0;exact W.of (show cK _=_ from e) (h s _ e1 e2 ⟨ns,k',l',rfl,by omega,by omega,e5⟩)
def Lw(hp:Pn n p)(hn:n<=900)(s1:1<=s)(s2:s<=12){Q:D×En->Prop}(h:∀t p',Mk s t->Pn (n+600) p'->Q (t,[some p',none,none])):W (bZ [p,.int (s:Int),.int 8]) Q:=by
 obtain⟨ns,k,l,rfl,k0,k1,l0⟩:=hp;obtain⟨es,gs,k',l',e,b1,b2,b3,b4,b5,b6,b7⟩:=Fs (mo:=8) (ns:=ns) (k:=k) (l:=l) (W:=s) (by decide) (by decide) s2 k0 (by omega) l0;exact W.of (show bZ _=_ from e) (h _ _ ⟨es.length,es,gs,rfl,⟨b1,by omega,s1,s2,rfl,b3,b4⟩,by omega⟩ ⟨ns,k',l',rfl,by omega,by omega,b7⟩)
def isL(e:Int):D->D
 |.int z=>.bool (decide (z=e))
 |_=>.bool false
def EX(n:Nat)(e:Int):∃es:List Bool,(i5 0 n).map (isL e)=es.map PyData.bool/\es.length=n:=by
 refine⟨(List.range n).map fun k:Nat=>decide ((0:Int)+(k:Int)=e),?_,by rw[zad,zbe]⟩;unfold i5;rw[zaR,zaR];rfl
def vN{us:List D}{z:Int}(hz:z=(k:Int))(h:k<us.length):qr us z t=some (us.set k t):=by
 subst hz;unfold qr;rw[iT h];rfl
def uN(N s:Nat)(u:D):Prop:=∃r:List (Option Nat),u=aT r/\r.length=s/\∀k,some k∈r->k<N
theorem yv{N s:Nat}:∀{gs:List D},(∀u∈gs,uN N s u)->∃G:Gr,gs=G.map aT/\∀r∈G,r.length=s/\∀k,some k∈r->k<N
 |[],_=>⟨[],rfl,fun _ z=>by cases z⟩
 |u::gs,h=>by
  obtain⟨G,rfl,hG⟩:=yv fun v hv=>h v (zaj _ hv);obtain⟨r,rfl,h1,h2⟩:=h u zaq;refine⟨r::G,rfl,fun r' z=>?_⟩;rcases zay.mp z with rfl|z
  ·exact⟨h1,h2⟩
  ·exact hG r' z
def tQ(h:s<=1000):w6 (.list [.none]) (.int (s:Int))=some (aT (List.replicate s none)):=by
 show grd _ _=_;unfold grd;rw[if_pos ⟨by omega,by omega,szB (by simp;omega)⟩];show some (PyData.list _)=some (PyData.list _);congr 2;rw[zaL]
 induction s with
 |zero=>rfl
 |succ s ih=>
  rw[List.replicate_succ,List.flatten_cons,ih (by omega),List.replicate_succ,zar];rfl
def vP(h1:r.length=s)(h2:∀k,some k∈r->k<N)(hk:k<N):uN N s (.list ((r.map goD).set j (.int (k:Int)))):=by
 refine⟨r.set j (some k),?_,by rw[zaV];exact h1,fun k' z=>?_⟩
 ·show PyData.list _=PyData.list _;rw[List.map_set];rfl
 ·rcases zbO z with z|z
  ·exact h2 k' z
  ·cases z;exact hk
def An:uN N s (aT (List.replicate s none)):=⟨_,rfl,zaN,fun k z=>by simp at z⟩
def EY(hp:Pn n p)(hn:n<=900000)(s1:1<=s)(s2:s<=12){Q:D×En->Prop}(h:∀t p',Mk s t->Pn (n+11) p'->Q (t,[some p',none])):W (fg [p,.int (s:Int)]) Q:=by
 simp only[fg,qh,ws];refine dN hp (by omega) (by decide) (by decide) fun r p1 r0 r1 hp1=>?_;obtain⟨m,hm⟩:∃m:Nat,(2+r)=(m:Int):=⟨(2+r).toNat,by omega⟩;simp only[ws,hm,zaL];refine⟨⟨by omega,by omega⟩,du (fun i en=>∃gs p o4 o5,en=[some p,some (.int (s:Int)),some (.int (m:Int)),some (.list gs),o4,o5]/\gs.length=i/\(∀u∈gs,uN m s u)/\Pn (n+1+i) p) ⟨[],p1,_,_,rfl,rfl,(fun _ z=>by cases z),hp1⟩ ?_ ?_⟩
 ·rintro i t en ht ⟨gs,p,o4,o5,rfl,g1,g2,hp⟩;obtain⟨hi,rfl⟩:=j7 ht;simp only[ws,mR,tQ (show s<=1000 by omega),aT];have hq:(0:Int)<(m:Int)-1:=by omega
  have q0:0<=((i:Int)+1) % ((m:Int)-1):=zba _ (by omega);have q1:((i:Int)+1) % ((m:Int)-1)<(m:Int)-1:=zbb _ hq;obtain⟨v,hv⟩:∃v:Nat,((i:Int)+1) % ((m:Int)-1)=(v:Int):=⟨_,(Int.toNat_of_nonneg q0).symm⟩;simp only[ws,zbM,hv,hq];refine dN hp (by omega) (by omega) (by omega) fun a p2 a0 a1 hp2=>?_;obtain⟨j,rfl⟩:=zaM a0;have si:=vN (us:=(List.replicate s none).map goD) (k:=j) (z:=(j:Int)) (t:=.int (v:Int)) rfl (by rw[zad,zaN];omega);simp only[ws,si];refine⟨iZ (by omega),gs++[.list (((List.replicate s none).map goD).set j (.int (v:Int)))],p2,_,_,rfl,by rw[zae,g1];rfl,fun u hu=>?_,hp2.mono (by omega)⟩;rcases zax.mp hu with hu|hu
  ·exact g2 u hu
  ·rw[zaH.mp hu];exact vP zaN (fun k z=>by simp at z) (by omega)
 ·rintro en ⟨gs,p,o4,o5,rfl,g1,g2,hp⟩;rw[j6]at g1 hp;simp only[ws];refine Lu ?_;simp only[ws];refine MV (Lv (t:=.list gs) rfl ?_);simp only[ws];refine dN hp (by omega) (by omega) (by omega) fun a p2 a0 a1 hp2=>?_;obtain⟨j,rfl⟩:=zaM a0;simp only[ws];refine⟨_,_,gs,j,rfl,rfl,.inl rfl,iT (by omega),by omega,?_⟩;refine dN hp2 (by omega) (by omega) (by omega) fun b p3 b0 b1 hp3=>?_;obtain⟨k,rfl⟩:=zaM b0;have jl:j<gs.length:=by omega
  obtain⟨r',er,r1',r2'⟩:=g2 gs[j] (zaK jl);have eg:gs[j]?=some (.list (r'.map goD)):=by rw[zak jl,er];rfl
  simp only[ws];refine⟨_,_,r'.map goD,k,rfl,rfl,?_,iT (by rw[zad];omega),?_⟩
  ·show(gs[j]?).bind _=_;rw[eg];rfl
  have ep:dD (.list gs) ([]++[j]) (.list ((r'.map goD).set k (.int ((m:Int)-1))))=.list (gs.set j (.list ((r'.map goD).set k (.int ((m:Int)-1))))):=by
   show PyData.list (gs.set j ((gs[j]?).elim .none fun c=>dD c [] _))=_;rw[eg];rfl
  have si:=vN (us:=gs.set j (.list ((r'.map goD).set k (.int ((m:Int)-1))))) (k:=m-1) (z:=(m:Int)-1) (t:=aT (List.replicate s none)) (by omega) (by rw[zaV];omega);simp only[ws,ep,tQ (show s<=1000 by omega),si,zaL];refine⟨⟨by omega,by omega⟩,dM (isL ((m:Int)-1)) (szB (by rw[j6];omega)) (fun t ht=>?_) fun o=>?_⟩
  ·obtain⟨k,hk⟩:=zbq ht;obtain⟨hk',rfl⟩:=j7 hk;simp only[ws,mU,isL]
  obtain⟨es,ee,el⟩:=EX m ((m:Int)-1);rw[ee];have all:∀u∈(gs.set j (.list ((r'.map goD).set k (.int ((m:Int)-1))))).set (m-1) (aT (List.replicate s none)),uN m s u:=fun u hu=>by
   rcases zbO hu with hu|rfl
   ·rcases zbO hu with hu|rfl
    ·exact g2 u hu
    ·rw[show((m:Int)-1)=((m-1:Nat):Int)by omega];exact vP r1' r2' (by omega)
   ·exact An
  obtain⟨G,eG,hG⟩:=yv all;have lG:G.length=m:=by
   have:=congrArg List.length eG;rw[zaV,zaV,zad]at this;omega
  rw[eG];simp only[ws];exact h _ p3 ⟨m,es,G,rfl,⟨by omega,by omega,s1,s2,by omega,lG,fun r hr=>⟨(hG r hr).1,fun o ho j e=>(hG r hr).2 j (e▸ho)⟩⟩,by omega⟩ (hp3.mono (by omega))
section
variable{gs:List (List (Option Nat))}
def Fm(v:List Int):(gs.map aT).map (fun t=>(.int (rsD v t):D))=(nxt gs v).map .int:=by
 rw[nxt,zaR,zaR];rfl
def Bz:(es.map PyData.bool).map b1F=(base es).map .int:=by
 rw[base,zaR,zaR];rfl
def Jn(M:MOk S W0 es gs)(hv:v.length=S)(ht:t∈gs.map aT):W (iG [some t,some (cc v)]) (fun r=>r=(.int (rsD v t),[some t,some (cc v)])):=by
 obtain⟨r,hr,rfl⟩:=zaz.mp ht;exact W.of (show iG _=_ from Mb (M.ok r hr) hv M.w2) rfl
def sH(gs:List (List (Option Nat)))(es:List Bool)(n:Nat):List D:=(List.range (n+1)).map fun i=>cc (it gs (base es) i)
def sG(n:Nat):(sH gs es n).length=n+1:=vJ
def t9(M:MOk S W0 es gs)(hN:N<=100):W (dU [aA es gs,.int (N:Int)]) (fun r=>r=(kH gs es N,[none,none])):=by
 simp only[ws,dU,om,aA];refine dM b1F (by rw[zad,M.le];exact sz (by have:=M.s2;omega)) (fun t ht=>?_) fun o=>?_
 ·obtain⟨b,_,rfl⟩:=zaz.mp ht;cases b<;>simp only[ws,lT,b1F]<;>rfl
 ·simp only[ws];rw[Bz];refine qP (fun d en=>∃n x,n+d=N/\en=[some (aA es gs),some (.int (N:Int)),some (.list (sH gs es n)),x]) (fun d en ⟨n,x,hd,e⟩=>?_) (n:=N) ⟨0,none,by omega,rfl⟩;subst e;simp only[ws,lK];rw[sG];by_cases hn:n<N
  ·have q:decide (((n+1:Nat):Int)<=(N:Int))=true:=zaB (by omega);have a1:atI (sH gs es n) (-1)=some (cc (it gs (base es) n)):=Aj;simp only[ws,q,lP,a1,aA];refine dM (fun t=>.int (rsD (it gs (base es) n) t)) (by rw[zad,M.lg];exact sz (by have:=M.s2;omega)) (fun t ht=>Jn M (M.lit n) ht) fun o=>?_;rw[Fm];simp only[ws];refine⟨?_,?_⟩
   ·rw[sG];exact szl (by omega)
   ·exact⟨d-1,by omega,n+1,_,by omega,by
     have e:sH gs es n++[cc (it gs (base es) (n+1))]=sH gs es (n+1):=Ai;rw[<-e];rfl⟩
  ·have q:decide (((n+1:Nat):Int)<=(N:Int))=false:=zaA (by omega);simp only[ws,q];rw[show n=N by omega];rfl
end
def EW(h:∀w,some w∈r->v.getD w 0=0):rsD v (aT r)=0:=by
 show((r.map goD).filterMap (qy v)).sum=0
 induction r with
 |nil=>rfl
 |cons w r ih=>
  have ih':=ih fun w hw=>h w (zaj _ hw);cases w with
  |none=>exact ih'
  |some k=>
   have e:qy v (goD (some k))=some 0:=by
    show some (v.getD (Int.toNat (k:Int)) 0)=_;rw[zaL,h k zaq]
   rw[zar,List.filterMap_cons_some e,List.sum_cons,ih'];rfl
def v9(M:MOk S W0 es gs)(hs:s<S)(h:∀r,gs[s]?=some r->∀w,some w∈r->(it gs (base es) k).getD w 0=0):(it gs (base es) (k+1)).getD s 0=0:=by
 show(nxt gs (it gs (base es) k)).getD s 0=0;unfold nxt;have hg:gs[s]?=some (gs[s]'(by rw[M.lg];exact hs)):=zak _;rw[zbh,zao,hg];exact EW (h _ hg)
def rG(h:es.getD s false=false):(base es).getD s 0=0:=by
 unfold base;rw[zbh,zao];rw[zbh]at h;cases he:es[s]? with
 |none=>rfl
 |some b=>
  rw[he]at h;have hb:b=false:=h;rw[hb];rfl
theorem yd(M:MOk S W0 es gs){ls:List (List Nat)}(hl:∀l∈ls,∀s∈l,s<S)(h:Pr es gs ls ls.length):∀(k s:Nat) (l:List Nat),l∈ls->s∈l->(it gs (base es) k).getD s 0=0
 |0,s,l,h1,h2=>by
  obtain⟨j,hj⟩:=zbq h1;exact rG (h j s l (zah.mp hj).1 hj h2).1
 |k+1,s,l,h1,h2=>by
  obtain⟨j,hj⟩:=zbq h1;refine v9 M (hl l h1 s h2) fun r hr w hw=>?_;obtain⟨b,m,_,g1,g2⟩:=(h j s l (zah.mp hj).1 hj h2).2 r hr w hw;exact yd M hl h k w m (zaX g1) g2
theorem yc(M:MOk S W0 es gs){ls:List (List Nat)}{n:Nat}(hl:∀l∈ls,∀s∈l,s<S)(h:Pr es gs ls n):∀(k a s:Nat) (l:List Nat),a+k<n->ls[a]?=some l->s∈l->(it gs (base es) k).getD s 0=0
 |0,a,s,l,h0,h1,h2=>rG (h a s l (by omega) h1 h2).1
 |k+1,a,s,l,h0,h1,h2=>by
  refine v9 M (hl l (zaX h1) s h2) fun r hr w hw=>?_;obtain⟨b,m,hb,g1,g2⟩:=(h a s l (by omega) h1 h2).2 r hr w hw;exact yc M hl h k b w m (by omega) g1 g2
def M5(M:MOk S W0 es gs)(k:Nat):atI ((it gs (base es) k).map PyData.int) 0=some (.int ((it gs (base es) k).getD 0 0)):=by
 have hl:=M.lit k;have s1:=M.s1;have h0:0<(it gs (base es) k).length:=by omega
 have:atI ((it gs (base es) k).map PyData.int) ((0:Nat):Int)=some (.int ((it gs (base es) k).getD 0 0)):=by
  rw[bw,zao,zak h0,zbh,zak h0];rfl
 exact this
def all0(M:MOk S W0 es gs)(hn:n<=1000)(h:∀k,k<n->(it gs (base es) k).getD 0 0=0){o:Option D}{Q:List D×En->Prop}(hq:∀us o',jg [.list us]=some (.bool true)->Q (us,[o'])):W (lcF (gN 0) cY gz ((List.range n).map fun i=>cc (it gs (base es) i)) [] [o]) Q:=by
 refine uM (fun i=>cc (it gs (base es) i)) (fun k=>.bool (decide ((it gs (base es) k).getD 0 0=0))) (by rw[zbe];exact hn) (fun k _=>?_) fun o'=>hq _ o' ?_
 ·simp only[ws,gz,cc,M5 M k,dY]
 ·rw[all_map];congr 2;rw[List.all_eq_true];intro k hk;exact zaB (h k (zbr.mp hk))
def EQ(M:MOk S W0 es gs)(h:gp es gs W0 t)(hN:N<100):W (ff [kH gs es N,t]) (fun r=>r=(.bool true,[none,none])):=by
 rcases h with⟨ls,rfl,L,P⟩|⟨ls,row,rfl,L,r2,r3,r4,P⟩
 ·rw[M.lg]at L;obtain⟨l0,e0,z0⟩:=L.h0;have a0:atI [PyData.str "none",lsD ls] 0=some (.str "none"):=rfl;simp only[ws,ff,lE,kH,a0,uy,decide_true];refine all0 M (by omega) (fun k _=>yd M L.lt P k 0 l0 (zaX e0) z0) fun us o' e=>?_;simp only[ws,e]
 ·rw[M.lg]at L;obtain⟨l0,e0,z0⟩:=L.h0;have a0:atI [PyData.str "row",nD row,lsD ls] 0=some (.str "row"):=rfl;have a1:atI [PyData.str "row",nD row,lsD ls] 1=some (.list (row.map iD)):=rfl;simp only[ws,ff,lE,kH,a0,a1,uy,rn,decide_false];rw[dL,<-List.map_take,List.take_range];refine all0 M (by omega) (fun k hk=>yc M L.lt P k 0 0 l0 (by omega) e0 z0) fun us o' e=>?_;simp only[ws,e]
def tF(_:Ent):D:=.bool true
def rT(e:Ent):D:=.tuple [iD e.k,nD e.r]
def Es(T:List Ent)(k:Nat):ik (.int (k:Int)) (.dict (T.map (kvf tF)))=some (.bool (!decide (k∈keys T))):=yH _ _ _
def Ah(t:TOk N a T)(hN:N<=1000)(he:T[n]?=some e)(hr:∀k,some k∈r->k<N){o8 o9:Option D}{P:Fl->Prop}
  (hP:∀o8 o9,P (.nx [x0,x1,x2,some (.list ((fol e T 0 r).map rT)),some (.dict ((fol e T 0 r).map (kvf tF))),x5,x6,some (nD e.r),o8,o9])):
  W (cE (gT (gsC (gN 8) (gsC (gN 9) gs0))) dF (eZ (r.map goD)) [x0,x1,x2,some (.list (T.map rT)),some (.dict (T.map (kvf tF))),x5,x6,some (nD e.r),o8,o9]) P:=by
 refine du (fun i en=>∃o8 o9,en=[x0,x1,x2,some (.list ((fol e T 0 (r.take i)).map rT)),some (.dict ((fol e T 0 (r.take i)).map (kvf tF))),x5,x6,some (nD e.r),o8,o9]) ⟨o8,o9,rfl⟩ ?_ ?_
 ·rintro i t' en ht ⟨p8,p9,rfl⟩;obtain⟨u,hu,rfl⟩:=fT ht;rw[zao]at hu;obtain⟨w,hw,rfl⟩:=zab.mp hu;have hi:=(zah.mp hw).1;have ef:fol e T 0 (r.take (i+1))=stp e (fol e T 0 (r.take i)) i w:=by
   rw[df hw,oI,zaE,Nat.min_eq_left (by omega),za4]
  rw[ef];obtain⟨tk,he'⟩:=ms (r.take i) (i:=0) t he fun k z=>hr k (List.mem_of_mem_take z);generalize fol e T 0 (r.take i)=Ti at tk he';have ln:=tk.len;cases w with
  |none=>
   simp only[ws,dF,goD];exact⟨_,_,rfl⟩
  |some k=>
   by_cases hk:k∈keys Ti
   ·simp only[ws,dF,goD,Es,hk];exact⟨_,_,by rw[show stp e Ti i (some k)=if k∈keys Ti then Ti else _ from rfl,if_pos hk]⟩
   ·have rl:=tk.rl n e he';have nl:=(zah.mp he').1;simp only[ws,dF,goD,Es,hk];refine zS ?_;simp only[ws];refine⟨⟨_,rfl⟩,_,rfl,rfl,iZ (by rw[zad];omega),?_⟩;have es:stp e Ti i (some k)=Ti++[⟨k,e.r++[i]⟩]:=if_neg hk;have ed:gg (Ti.map (kvf tF)) (.int (k:Int)) (.bool true)=List.map (kvf tF) (Ti++[(⟨k,e.r++[i]⟩:Ent)]):=by
     rw[show PyData.int (k:Int)=iD k from rfl,sX hk,zaC];rfl
    simp only[ws,ed,nD];refine⟨szB (by simp only[zac,List.length_nil];omega),iZ (by omega),some (.int (i:Int)),some (.int (k:Int)),?_⟩;rw[es,zaC (f:=rT)];show _=[x0,x1,x2,some (.list (_++[PyData.tuple [iD k,.list ((e.r++[i]).map iD)]])),_,_,_,_,_,_];rw[zaC (f:=iD)];rfl
 ·rintro en ⟨p8,p9,rfl⟩;rw[fS,zad,zaQ];exact hP _ _
def Nr(es:List Bool)(gs:Gr)(s:Nat):Prop:=∀(row:List Nat) (w:Nat),row.foldl (ld gs) (some s)=some w->es.getD w false=false
def zg(row:List Nat):row.foldl (ld gs) none=none:=by
 induction row with
 |nil=>rfl
 |cons s row ih=>exact ih
theorem ua{T:List Ent}{a n:Nat}(B:BI gs W0 a n T)(hn:T.length<=n):∀(row:List Nat) (k w:Nat),k∈keys T->row.foldl (ld gs) (some k)=some w->w∈keys T
 |[],k,w,hk,e=>by cases e;exact hk
 |s::row,k,w,hk,e=>by
  have e':row.foldl (ld gs) (ld gs (some k) s)=some w:=e;cases hl:ld gs (some k) s with
  |none=>rw[hl,zg]at e';cases e'
  |some k'=>
   rw[hl]at e';refine ua B hn row k' w ?_ e';obtain⟨f,hf,rfl⟩:=zaz.mp hk;obtain⟨i,hi⟩:=zbq hf;have hl':((gs[f.k]?).getD []).getD s none=some k':=hl;cases hg:gs[f.k]? with
   |none=>rw[hg]at hl';simp at hl'
   |some r=>
    rw[hg]at hl';have h3:r.getD s none=some k':=hl';rw[zbh]at h3;cases hr:r[s]? with
    |none=>rw[hr]at h3;cases h3
    |some v=>
     rw[hr]at h3;have h4:v=some k':=h3;have il:=(zah.mp hi).1;obtain⟨g,hg',h5,_⟩:=B.clo i f (by omega) hi r hg k' (h4▸zaX hr);exact h5▸List.mem_map_of_mem hg'
def yw(M:MOk S W0 es gs)(ha:a<S){E:List Nat}(hE:∀s,s<S->(s∈E↔es.getD s false=true)):W (eR [aA es gs,.int (a:Int),nD E]) (fun r=>∃t,r=(t,[none,none,none])/\((t=.none/\Nr es gs a)\/((∃us,t=.list us)/\¬Nr es gs a))):=by
 have g:=pf M;have s2:=M.s2;have lg:=M.lg;have ha':a<gs.length:=by omega
 have hW:∀r∈gs,r.length=W0:=fun r hr=>(M.ok r hr).1;simp only[eR,mW,ws];refine W.of (show e7 [(eS3 (ad 1),eC (.bool true))] [some (aA es gs),some (.int (a:Int)),some (nD E),some (.list [.tuple [.int (a:Int),.list []]]),none,none,none,none,none,none]=some (.dict ((TT gs a 0).map (kvf tF)),[some (aA es gs),some (.int (a:Int)),some (nD E),some (.list ((TT gs a 0).map rT)),none,none,none,none,none,none])from rfl) ?_;simp only[ws];refine qP (fun m en=>∃n o6 o7 o8 o9,en=[some (aA es gs),some (.int (a:Int)),some (nD E),some (.list ((TT gs a n).map rT)),some (.dict ((TT gs a n).map (kvf tF))),some (.int (n:Int)),o6,o7,o8,o9]/\n<=(TT gs a n).length/\m=gs.length-n/\∀(i:Nat) e,i<n->(TT gs a n)[i]?=some e->e.k∉E) ?_ ⟨0,_,_,_,_,rfl,zbj _,rfl,fun i e h=>absurd h (Nat.not_lt_zero _)⟩;rintro m en ⟨n,o6,o7,o8,o9,rfl,h1,rfl,hj⟩;have t:=jG g ha' n;have B:=xJ (G:=gs) (W0:=W0) hW (a:=a) n;have ln:=t.len;by_cases hn:n<(TT gs a n).length
 ·obtain⟨e,he⟩:∃e,(TT gs a n)[n]?=some e:=⟨_,zak hn⟩;have em:=zaX he;have hk:=t.lt e em;have d1:decide ((n:Int)<((TT gs a n).length:Nat))=true:=zaB (by omega);have e1:atI ((TT gs a n).map rT) (n:Int)=some (.tuple [.int (e.k:Int),.list (e.r.map iD)]):=by
   rw[bw,zao,he];rfl
  obtain⟨r1,r2⟩:=lh M (k:=e.k) (by omega);have eT:TT gs a (n+1)=fol e (TT gs a n) 0 ((gs[e.k]?).getD []):=by
   show i7 gs (TT gs a n) n=_;unfold i7;rw[he]
  have hg:gs[e.k]?=some (gs[e.k]'hk):=zak _;have hr:∀k,some k∈(gs[e.k]?).getD []->k<gs.length:=by
   rw[hg];exact g.lt _ (zaK hk)
  simp only[ws,gM,kA,d1,e1,nD,ui];by_cases hE':e.k∈E
  ·simp only[ws,hE',decide_true];refine⟨_,rfl,.inr ⟨⟨_,rfl⟩,fun hN=>?_⟩⟩
   have:=hN e.r e.k (B.way e em).1;rw[(hE e.k (by omega)).mp hE']at this;cases this
  ·simp only[ws,hE',decide_false,aA,r1];refine Ah (x0:=some (aA es gs)) (x1:=some (.int (a:Int))) (x2:=some (nD E)) t (by omega) he hr fun p8 p9=>?_;rw[<-eT];simp only[ws];have t':=(jG g ha' (n+1)).len;have old:∀(i:Nat) f,(TT gs a n)[i]?=some f->(TT gs a (n+1))[i]?=some f:=fun i f h=>by rw[eT];exact m5 _ h
   have up:n+1<=(TT gs a (n+1)).length:=(zah.mp (old n e he)).1;refine⟨gs.length-(n+1),by omega,n+1,_,_,_,_,rfl,up,rfl,fun i f hi hf=>?_⟩;by_cases hin:i=n
   ·subst hin;rw[old i e he]at hf;cases hf;exact hE'
   ·have il:i<(TT gs a n).length:=by omega
    rw[old i _ (zak il)]at hf;cases hf;exact hj i _ (by omega) (zak il)
 ·have d1:decide ((n:Int)<((TT gs a n).length:Nat))=false:=zaA (by omega);simp only[ws,gM,d1];refine⟨_,rfl,.inl ⟨rfl,fun row w hw=>?_⟩⟩;have hw':=ua B (by omega) row a w (zaz.mpr ⟨_,zaX t.h0,rfl⟩) hw;obtain⟨f,hf,rfl⟩:=zaz.mp hw';obtain⟨i,hi⟩:=zbq hf;have il:=(zah.mp hi).1
  have:=hj i f (by omega) hi;rw[hE f.k (by have:=t.lt f hf;omega)]at this;simpa using this
def Nr.step{w:Nat}(h:Nr es gs s)(hr:gs[s]?=some r)(hw:some w∈r):Nr es gs w:=fun row x e=>by
 obtain⟨i,hi⟩:=zbq hw;refine h (i::row) x ?_;show row.foldl (ld gs) (((gs[s]?).getD []).getD i none)=some x;rw[hr];show row.foldl (ld gs) (r.getD i none)=some x;rw[zbh,hi];exact e
def uF{α:Type}(xs:List α)(x:α):a8 (xs++[x]) none (some (-1))=xs:=by
 unfold a8;rw[HT.sIx_none,List.drop_zero,Nat.sub_zero]
 have:HT.sIx (xs++[x]).length (xs++[x]).length (some (-1))=xs.length:=by
  rw[zae];show(if(-1:Int)<0 then(-1+((xs.length+1:Nat):Int)).toNat else(min (-1:Int).toNat (xs.length+1)))=_;rw[if_pos (by decide)];omega
 rw[this,List.take_left]
def xG{α:Type}(xs:List α)(x:α):atI (xs++[x]) (-1)=some x:=by
 unfold atI ixN;rw[zae,if_neg (by decide),if_pos (by simp only[zac,List.length_nil];omega)];show(xs++[x])[(-1+((xs.length+1:Nat):Int)).toNat]?=_;rw[show(-1+((xs.length+1:Nat):Int)).toNat=xs.length by omega,zbI (zav _),Nat.sub_self];rfl
def Mg(ls:List (List Nat))(i:Nat)(l':List Nat):Prop:=(∀l,ls[i]?=some l->∀s∈l,s∈l')/\l'.length<=17/\∀s∈l',∃(j:Nat) (l:List Nat),j<=i/\ls[j]?=some l/\s∈l
def ph{G:List (List Nat)}{m:List Nat}(h:∀(j:Nat) l',G[j]?=some l'->Mg ls j l')(g:G.length=i)(hm:Mg ls i m):∀(j:Nat) l',(G++[m])[j]?=some l'->Mg ls j l':=fun j l' e=>by
 by_cases hj:j<G.length
 ·rw[zaS hj]at e;exact h j l' e
 ·rw[zbI (by omega)]at e;have e0:j-G.length=0:=by
   have:=(zah.mp e).1;simp at this;omega
  rw[e0]at e;cases e;rw[show j=i by omega];exact hm
def w8{A:List (List Nat)}{z:List Nat}(hp:Pn n p)(hn:n<=900)(hA:A.length<=8)(hl:∀l∈A++[z],l.length<=8){Q:D×En->Prop}(h:∀ls' p',ls'.length=A.length+1->(∀(i:Nat) l',ls'[i]?=some l'->Mg (A++[z]) i l')->Pn (n+20) p'->Q (lsD ls',[some p',none])):W (de [p,lsD (A++[z])]) Q:=by
 have ez:(A++[z]).map nD=A.map nD++[nD z]:=by rw[zaC];rfl
 have hz:=hl z (by simp);simp only[ws,de,lW,lsD,ez,uF];refine du (fun i en=>∃G p' o3 o4 o5,en=[some p',some (.list (A.map nD++[nD z])),some (.list (List.map nD G)),o3,o4,o5]/\G.length=i/\(∀(j:Nat) l',G[j]?=some l'->Mg (A++[z]) j l')/\Pn (n+2*i) p') ⟨[],p,none,none,none,rfl,rfl,fun j l' e=>by simp at e,hp⟩ ?_ ?_
 ·rintro i t' en ht ⟨G,p',o3,o4,o5,rfl,g1,g2,hp'⟩;obtain⟨u,hu,rfl⟩:=fT ht;rw[zao]at hu;obtain⟨l,hl',rfl⟩:=zab.mp hu;have il:=(zah.mp hl').1;have l8:=hl l (zbf _ (zaX hl'));have hli:(A++[z])[i]?=some l:=by rw[zaS il];exact hl'
  have c1:a8 (l.map iD) none (some 1)=(l.map iD).take 1:=dL _ 1;have m0:(l.map iD).reverse++(l.map iD).take 1=(l.reverse++l.take 1).map iD:=by rw[<-List.map_reverse,<-List.map_take,<-zaC]
  have tk:(l.take 1).length<=1:=by rw[zaE];omega
  have mg0:Mg (A++[z]) i (l.reverse++l.take 1):=by
   refine⟨fun l2 e s hs=>?_,by rw[zae,List.length_reverse];omega,fun s hs=>⟨i,l,zav _,hli,?_⟩⟩
   ·rw[hli]at e;cases e;exact zbf _ (zbJ.mpr hs)
   ·rcases zax.mp hs with hs|hs
    ·exact zbJ.mp hs
    ·exact List.mem_of_mem_take hs
  have e9:∀m:List Nat,List.map nD G++[.list (m.map iD)]=List.map nD (G++[m]):=fun m=>by rw[zaC];rfl
  have sz1:(l.reverse++l.take 1).length<=9:=by rw[zae,List.length_reverse];omega
  simp only[ws,jK,nD,c1,m0];refine⟨szB (by (try simp only[zad,zae,List.length_reverse,zaE,zac,List.length_nil]);omega),?_⟩;by_cases hi:0<i
  ·have d0:decide ((0:Int)<(i:Int))=true:=zaB (by omega);simp only[ws,d0];refine dN hp' (by omega) (by decide) (by decide) fun r p1 r0 r1 hp1=>?_;simp only[ws,dY];by_cases hr:r=0
   ·simp only[ws,hr,decide_true];refine dN hp1 (by omega) (by omega) (by omega) fun a p2 a0 a1 hp2=>?_;obtain⟨j,rfl⟩:=zaM a0;have jl:j<A.length:=by omega
    have aj:atI (A.map nD++[nD z]) (j:Int)=some (.list ((A[j]).map iD)):=by
     rw[bw,zaS (by rw[zad];exact jl),zao,zak jl];rfl
    have hj8:=hl A[j] (zbf _ (zaK jl));have m1:(l.reverse++l.take 1).map iD++(A[j]).map iD=(l.reverse++l.take 1++A[j]).map iD:=by rw[zaC (l₁:=l.reverse++l.take 1)]
    simp only[nD]at aj;simp only[ws,aj,m1];refine⟨szB (by (try simp only[zad,zae,List.length_reverse,zaE,zac,List.length_nil]);omega),iZ (by (try simp only[zad,zae,List.length_reverse,zaE,zac,List.length_nil]);omega),G++[l.reverse++l.take 1++A[j]],p2,some (.int (i:Int)),some (.list (l.map iD)),some (.list ((l.reverse++l.take 1++A[j]).map iD)),by rw[<-e9],by rw[zae,g1];rfl,ph g2 g1 ⟨fun l2 e s hs=>zbf _ (mg0.1 l2 e s hs),by rw[zae];omega,fun s hs=>?_⟩,hp2.mono (by omega)⟩;rcases zax.mp hs with hs|hs
    ·exact mg0.2.2 s hs
    ·exact⟨j,A[j],by omega,by rw[zaS jl];exact zak jl,hs⟩
   ·simp only[ws,hr,decide_false];exact⟨iZ (by (try simp only[zad,zae,List.length_reverse,zaE,zac,List.length_nil]);omega),G++[l.reverse++l.take 1],p1,some (.int (i:Int)),some (.list (l.map iD)),some (.list ((l.reverse++l.take 1).map iD)),by rw[<-e9],by rw[zae,g1];rfl,ph g2 g1 mg0,hp1.mono (by omega)⟩
  ·have d0:decide ((0:Int)<(i:Int))=false:=zaA (by omega);simp only[ws,d0];exact⟨iZ (by (try simp only[zad,zae,List.length_reverse,zaE,zac,List.length_nil]);omega),G++[l.reverse++l.take 1],p',some (.int (i:Int)),some (.list (l.map iD)),some (.list ((l.reverse++l.take 1).map iD)),by rw[<-e9],by rw[zae,g1];rfl,ph g2 g1 mg0,hp'.mono (by omega)⟩
 ·rintro en ⟨G,p',o3,o4,o5,rfl,g1,g2,hp'⟩;rw[fS,zad]at g1 hp';have c1:a8 (z.map iD) none (some 1)=(z.map iD).take 1:=dL _ 1;have az:atI (A.map nD++[nD z]) (-1)=some (.list (z.map iD)):=xG _ _;have m0:z.map iD++(z.map iD).take 1=(z++z.take 1).map iD:=by rw[<-List.map_take,<-zaC]
  have e9:List.map nD G++[.list ((z++z.take 1).map iD)]=List.map nD (G++[z++z.take 1]):=by rw[zaC (f:=nD)];rfl
  have tk:(z.take 1).length<=1:=by rw[zaE];omega
  have hzi:(A++[z])[A.length]?=some z:=by rw[zbI (zav _),Nat.sub_self];rfl
  simp only[ws,az,c1,m0,e9];refine⟨szB (by (try simp only[zad,zae,List.length_reverse,zaE,zac,List.length_nil]);omega),szB (by (try simp only[zad,zae,List.length_reverse,zaE,zac,List.length_nil]);omega),?_⟩;refine h (G++[z++z.take 1]) p' (by rw[zae,g1];rfl) (ph g2 g1 ⟨fun l2 e s hs=>?_,by rw[zae];omega,fun s hs=>⟨A.length,z,zav _,hzi,?_⟩⟩) (hp'.mono (by omega))
  ·rw[hzi]at e;cases e;exact zbf _ hs
  ·rcases zax.mp hs with hs|hs
   ·exact hs
   ·exact List.mem_of_mem_take hs
def pI(p:Nat->Bool):D->Bool
 |.int z=>p z.toNat
 |_=>false
def rH{c:MT}(hn:n<=1000){o:Option D}{rest:En}{Q:List D×En->Prop}(p:Nat->Bool)(hc:∀k:Nat,k<n->W (c (some (.int (k:Int))::rest)) (fun r=>r=(p k,some (.int (k:Int))::rest)))(hf:∀t en,f (some t::en)=some (t,some t::en))(hq:∀o',Q (((List.range n).filter p).map iD,o'::rest)):W (lcF (gN 0) c f (i5 0 n) [] (o::rest)) Q:=by
 refine mD (pI p) (fun t=>t) (sz (by rw[j6];exact hn)) (fun t ht=>?_) (fun t _ _=>⟨_,hf t rest,rfl⟩) fun o'=>?_
 ·obtain⟨k,hk⟩:=zbq ht;obtain⟨hk',rfl⟩:=j7 hk;rw[zbM];show W _ (fun r=>r=(p (Int.toNat (k:Int)),_));rw[zaL];exact hc k hk'
 ·have e:(i5 0 n).filter (pI p)=((List.range n).filter p).map iD:=by
   unfold i5;rw[List.filter_map];have e1:(pI p∘fun k:Nat=>PyData.int (0+(k:Int)))=p:=funext fun k=>by
    show p (0+(k:Int)).toNat=p k;rw[zbM,zaL]
   rw[e1];refine zbw fun k _=>?_;rw[zbM];rfl
  rw[List.map_id',e];exact hq o'
def Wr(t:D):Prop:=∃pre ls z,t=.tuple (pre++[lsD (ls++[z])])/\(pre=[.str "none"]\/∃row,pre=[.str "row",nD row]/\row.length<=9/\∀s∈row,s<=12)/\ls.length<=8/\∀l∈ls++[z],l.length<=80/\∀s∈l,s<=8
def qp{α:Type}:∀{l:List α},1<=l.length->∃a z,l=a++[z]
 |[],h=>by simp at h
 |x::l,_=>⟨(x::l).dropLast,(x::l).getLast (by simp),(List.dropLast_concat_getLast _).symm⟩
def ww(h1:1<=ls.length)(h2:ls.length<=9)(h3:∀l∈ls,l.length<=80/\∀s∈l,s<=8):Wr (.tuple [.str "none",lsD ls]):=by
 obtain⟨a,z,rfl⟩:=qp h1;rw[zae]at h2;exact⟨_,a,z,rfl,.inl rfl,by simp only[zac,List.length_nil]at h2;omega,h3⟩
def Ab(h1:1<=ls.length)(h2:ls.length<=9)(h3:∀l∈ls,l.length<=80/\∀s∈l,s<=8)(h4:row.length<=9)(h5:∀s∈row,s<=12):Wr (.tuple [.str "row",nD row,lsD ls]):=by
 obtain⟨a,z,rfl⟩:=qp h1;rw[zae]at h2;exact⟨[.str "row",nD row],a,z,rfl,.inr ⟨row,rfl,h4,h5⟩,by simp only[zac,List.length_nil]at h2;omega,h3⟩
def L8(L:Ly S ls)(hl:ls'.length=ls.length)(h:∀(i:Nat) l',ls'[i]?=some l'->Mg ls i l'):Ly S ls'/\∀{m:Nat},Pr es gs ls m->Pr es gs ls' m:=by
 have hs:∀(i:Nat) l,ls[i]?=some l->∃l',ls'[i]?=some l'/\∀s∈l,s∈l':=fun i l e=>by
  have il:=(zah.mp e).1;have e':ls'[i]?=some (ls'[i]'(by omega)):=zak _;exact⟨_,e',(h i _ e').1 l e⟩
 refine⟨⟨fun l' hl' s hs'=>?_,?_⟩,fun P=>P.more hs fun i l' e=>(h i l' e).2.2⟩
 ·obtain⟨i,hi⟩:=zbq hl';obtain⟨j,l,_,e,h2⟩:=(h i l' hi).2.2 s hs';exact L.lt l (zaX e) s h2
 ·obtain⟨l,e,h0⟩:=L.h0;obtain⟨l',e',h1⟩:=hs 0 l e;exact⟨l',e',h1 0 h0⟩
def EV{rest:List (List Nat)}{sh:List Nat}(P:Pr es gs (l0::rest) m)(hs:∀s∈sh,es.getD s false=false/\∀r,gs[s]?=some r->∀w,some w∈r->w∈sh):Pr es gs ((l0++sh)::rest) m:=fun a s l ha e hm=>by
 have up:∀(b:Nat) (m:List Nat) (w:Nat),(l0::rest)[b]?=some m->w∈m->∃m',((l0++sh)::rest)[b]?=some m'/\w∈m':=fun b m w e hw=>by
  cases b with
  |zero=>cases e;exact⟨_,rfl,zbf _ hw⟩
  |succ b=>exact⟨m,by simpa using e,hw⟩
 have go:∀l',(l0::rest)[a]?=some l'->s∈l'->es.getD s false=false/\∀r,gs[s]?=some r->∀w,some w∈r->∃(b:Nat) (m:List Nat),b<=a+1/\((l0++sh)::rest)[b]?=some m/\w∈m:=fun l' e' hm'=>by
  obtain⟨g1,g2⟩:=P a s l' ha e' hm';refine⟨g1,fun r hr w hw=>?_⟩;obtain⟨b,m,q1,q2,q3⟩:=g2 r hr w hw;obtain⟨m',e3,e4⟩:=up b m w q2 q3;exact⟨b,m',q1,e3,e4⟩
 cases a with
 |zero=>
  cases e;rcases zax.mp hm with hm|hm
  ·exact go l0 rfl hm
  ·refine⟨(hs s hm).1,fun r hr w hw=>⟨0,_,by omega,rfl,zbg _ ((hs s hm).2 r hr w hw)⟩⟩
 |succ a=>exact go l (by simpa using e) hm
def Jp(h:n<=1000):-2 ^ 62<=(n:Int)/\(n:Int)<2 ^ 62:=by omega
def KJ(h:∀l∈ls,l.length<=8):ls.flatten.length<=8*ls.length:=by
 induction ls with
 |nil=>exact zbj _
 |cons l ls ih=>
  have h1:=h l zaq;have h2:=ih fun l hl=>h l (zaj _ hl);rw[List.flatten_cons,zae,zac];omega
def wv(M:MOk S W0 es gs)(hS:S<=8)(hp:Pn n p)(hn:n<=900){Q:D×En->Prop}(h:∀ts p',ts.length<=4->(∀t∈ts,Wr t/\gp es gs W0 t)->Pn (n+20) p'->Q (.list ts,[some p',none])):W (db [p,aA es gs]) Q:=by
 have w2:=M.w2;have lg:=M.lg;have le:=M.le;simp only[ws,db,lV];refine W.use (GI M) ?_;rintro _ ⟨t0,ls,rfl,d⟩;have l1:=tW d.ly;have dn:=d.n;obtain⟨A,z,els⟩:=qp l1;have n9:ls.length<=9:=zau dn (zau hS (by decide));have dl:∀l∈ls,l.length<=8:=fun l hl=>zau (d.l l hl) hS;have al:A.length+1=ls.length:=by rw[els,zae];rfl
 have wl:∀l∈ls,l.length<=80/\∀s∈l,s<=8:=fun l hl=>⟨zau (dl l hl) (by decide),fun s hs=>zau (zaW (d.ly.lt l hl s hs)) hS⟩;have hd0:=d.held M;have mgl:∀ls':List (List Nat),ls'.length=A.length+1->(∀(i:Nat) l',ls'[i]?=some l'->Mg (A++[z]) i l')->(Ly S ls'/\∀{m:Nat},Pr es gs ls m->Pr es gs ls' m)/\∀l∈ls',l.length<=80/\∀s∈l,s<=8:=fun ls' e1 e2=>by
  rw[<-els]at e2;obtain⟨q1,q2⟩:=L8 (es:=es) (gs:=gs) d.ly (e1.trans al) e2;refine⟨⟨q1,q2⟩,fun l hl=>?_⟩;obtain⟨i,hi⟩:=zbq hl;exact⟨zau (e2 i l hi).2.1 (by decide),fun s hs=>zau (zaW (q1.lt l hl s hs)) hS⟩
 have fl:ls.flatten.length<=72:=zau (KJ dl) (Nat.mul_le_mul_left 8 n9);have flm:∀s∈ls.flatten,s<S:=fun s hs=>by
  obtain⟨l,hl,h2⟩:=List.mem_flatten.mp hs;exact d.ly.lt l hl s h2
 have mk:∀{Q:D×En->Prop},(∀ls' p',ls'.length=A.length+1->(∀(i:Nat) l',ls'[i]?=some l'->Mg (A++[z]) i l')->Pn (n+20) p'->Q (lsD ls',[some p',none]))->W (de [p,lsD ls]) Q:=fun {Q} hh=>by
  rw[els];exact w8 hp hn (Nat.le_of_succ_le_succ (zau (Nat.le_of_eq al) n9)) (by rw[<-els];exact dl) hh
 have sm:=wJ (ls:=ls) (fun z=>by rw[z]at l1;simp at l1) (zau fl (by decide));have a9:atI (ls.map nD) (-1)=some (nD z):=by rw[els,zaC];exact xG _ _
 rcases d.sh with⟨rfl,P⟩|⟨row,rfl,r2,r3,r4,P⟩
 ·have am:atI [PyData.str "none",lsD ls] (-1)=some (lsD ls):=rfl;have cm:a8 [PyData.str "none",lsD ls] none (some (-1))=[.str "none"]:=uF [PyData.str "none"] _;simp only[ws,am,cm];refine mk fun ls' p' e1 e2 hp'=>?_;obtain⟨⟨q1,q2⟩,q3⟩:=mgl ls' e1 e2;have le':ls.length=ls'.length:=(e1.trans al).symm;have q22:eqD (.int 2) (.int 2)=some (.bool true):=dY 2 2;simp only[ws,q22,lsD,sm,a9];refine⟨szB (by simp),?_⟩;have zl:z∈ls:=by rw[els];simp
  have hz0:(0:Nat)∈ls.flatten:=by
   obtain⟨l0,e0,z0⟩:=d.ly.h0;exact List.mem_flatten.mpr ⟨l0,zaX e0,z0⟩
  refine h [.tuple [.str "none",lsD ls],.tuple [.str "none",lsD ls'],.tuple [.str "none",lsD [ls.flatten]],.tuple [.str "none",lsD [ls.flatten,[],z]]] p' (by simp) (fun t ht=>?_) hp';simp only[zay,zap,or_false]at ht;rcases ht with rfl|rfl|rfl|rfl
  ·exact⟨ww l1 n9 wl,hd0⟩
  ·refine⟨ww (le'▸l1) (le'▸n9) q3,.inl ⟨ls',rfl,by rw[lg];exact q1,?_⟩⟩;rw[e1,al];exact q2 P
  ·refine⟨ww (by simp) (by simp) fun l hl=>?_,.inl ⟨_,rfl,⟨fun l hl s hs=>?_,_,rfl,hz0⟩,P.shut 1 rfl (fun l hl s hs=>List.mem_flatten.mpr ⟨l,hl,hs⟩) fun l' hl' s hs=>?_⟩⟩
   ·rw[zaH.mp hl];exact⟨zau fl (by decide),fun s hs=>zau (zaW (flm s hs)) hS⟩
   ·rw[zaH.mp hl]at hs;rw[lg];exact flm s hs
   ·rw[zaH.mp hl']at hs;exact List.mem_flatten.mp hs
  ·have m3:∀l∈[ls.flatten,[],z],∀s∈l,∃l∈ls,s∈l:=fun l hl s hs=>by
    simp only[zay,zap,or_false]at hl;rcases hl with rfl|rfl|rfl
    ·exact List.mem_flatten.mp hs
    ·simp at hs
    ·exact⟨_,zl,hs⟩
   refine⟨ww (by simp) (by simp) fun l hl=>⟨?_,fun s hs=>?_⟩,.inl ⟨_,rfl,⟨fun l hl s hs=>?_,_,rfl,hz0⟩,P.shut 3 rfl (fun l hl s hs=>List.mem_flatten.mpr ⟨l,hl,hs⟩) m3⟩⟩
   ·simp only[zay,zap,or_false]at hl;rcases hl with rfl|rfl|rfl
    ·exact zau fl (by decide)
    ·exact zbj _
    ·exact(wl _ zl).1
   ·obtain⟨l2,h2,h3⟩:=m3 l hl s hs;exact(wl l2 h2).2 s h3
   ·obtain⟨l2,h2,h3⟩:=m3 l hl s hs;rw[lg];exact d.ly.lt l2 h2 s h3
 ·have am:atI [PyData.str "row",nD row,lsD ls] (-1)=some (lsD ls):=rfl;have cm:a8 [PyData.str "row",nD row,lsD ls] none (some (-1))=[.str "row",nD row]:=uF [PyData.str "row",nD row] _;simp only[ws,am,cm];refine mk fun ls' p' e1 e2 hp'=>?_;obtain⟨⟨q1,q2⟩,q3⟩:=mgl ls' e1 e2;have le':ls.length=ls'.length:=(e1.trans al).symm;have q32:eqD (.int 3) (.int 2)=some (.bool false):=dY 3 2;simp only[ws,q32,aA,zad];have s9:es.length<=1000:=le▸zau hS (by decide);have s8:S<=1000:=le▸s9;refine⟨szB (by simp),Jp s9,?_⟩;rw[M.le,zaL];have f9:∀(t:D) (en:En),gy (some t::en)=some (t,some t::en):=fun t en=>rfl;refine rH s8 (fun k=>es.getD k false) (fun k hk=>?_) f9 fun o=>?_
  ·simp only[ws,jF,aA,qM M hk]
  simp only[ws,zad];refine⟨Jp s9,?_⟩;rw[M.le,zaL];obtain⟨E,eE⟩:∃E,(List.range S).filter (fun k=>es.getD k false)=E:=⟨_,rfl⟩;have hE:∀s,s<S->(s∈E↔es.getD s false=true):=fun s hs=>by
   rw[<-eE,zbD,zbr];exact⟨fun h=>h.2,fun h=>⟨hs,h⟩⟩
  rw[eE]
  classical
  refine rH s8 (fun k=>decide (Nr es gs k)) (fun k hk=>?_) f9 fun o=>?_
  ·simp only[ws,jE];refine W.use (yw M hk hE) ?_;rintro _ ⟨t,rfl,⟨rfl,hN⟩|⟨⟨us,rfl⟩,hN⟩⟩
   ·simp only[ws,aA,hN,decide_true]
   ·simp only[ws,aA,hN,decide_false]
  obtain⟨sh,esh⟩:∃sh,(List.range S).filter (fun k=>decide (Nr es gs k))=sh:=⟨_,rfl⟩;have hsh:∀s,s∈sh↔s<S/\Nr es gs s:=fun s=>by
   rw[<-esh,zbD,zbr,zbi]
  have shl:sh.length<=8:=by
   rw[<-esh];exact zau (List.length_filter_le _ _) (by rw[zbe];exact hS)
  rw[esh];obtain⟨l0,rest,er⟩:∃l0 rest,ls=l0::rest:=by
   cases ls with
   |nil=>simp at l1
   |cons a b=>exact⟨a,b,rfl⟩
  have a0:atI (ls.map nD) 0=some (.list (l0.map iD)):=by rw[er];exact bw (List.map nD (l0::rest)) 0
  have c1:a8 (ls.map nD) (some 1) none=rest.map nD:=by rw[er];exact fM (List.map nD (l0::rest)) 1
  have m0:l0.map iD++sh.map iD=(l0++sh).map iD:=by rw[zaC]
  have l08:=dl l0 (by rw[er];exact zaq);have rl:rest.length+1=ls.length:=by rw[er];rfl
  have cm2:a8 [PyData.str "row",nD row,.list (ls.map nD)] none (some (-1))=[.str "row",nD row]:=cm;simp only[ws,lsD,a0,c1,m0,cm2];refine⟨szB (by (try simp only[zad]);omega),szB (by (try simp only[zad,zac,List.length_nil]);omega),szB (by simp),szB (by simp),?_⟩;have hs2:∀s∈sh,es.getD s false=false/\∀r,gs[s]?=some r->∀w,some w∈r->w∈sh:=fun s hs=>by
   obtain⟨h1,h2⟩:=(hsh s).mp hs;exact⟨h2 [] s rfl,fun r hr w hw=>(hsh w).mpr ⟨lg▸(pf M).lt r (zaX hr) w hw,h2.step hr hw⟩⟩
  refine h [.tuple [.str "row",nD row,lsD ls],.tuple [.str "row",nD row,lsD ls'],.tuple [.str "row",nD row,lsD ((l0++sh)::rest)]] p' (by simp) (fun t ht=>?_) hp';have rw5:∀s∈row,s<=12:=fun s hs=>zau (zaW (r2 s hs)) w2;have r9:row.length<=9:=zau (Nat.le_succ _) (zau (Nat.le_of_eq r3) n9);simp only[zay,zap,or_false]at ht;rcases ht with rfl|rfl|rfl
  ·exact⟨Ab l1 n9 wl r9 rw5,hd0⟩
  ·exact⟨Ab (le'▸l1) (le'▸n9) q3 r9 rw5,.inr ⟨ls',row,rfl,by rw[lg];exact q1,r2,r3.trans le',r4,q2 P⟩⟩
  ·have m3:∀l∈(l0++sh)::rest,l.length<=80/\∀s∈l,s<S:=fun l hl=>by
    rcases zay.mp hl with rfl|hl
    ·refine⟨by rw[zae];omega,fun s hs=>?_⟩;rcases zax.mp hs with hs|hs
     ·exact d.ly.lt l0 (by rw[er];exact zaq) s hs
     ·exact((hsh s).mp hs).1
    ·have:l∈ls:=by rw[er];exact zaj _ hl
     exact⟨(wl l this).1,d.ly.lt l this⟩
   refine⟨Ab (by simp) (zau (Nat.le_of_eq rl) n9) (fun l hl=>⟨(m3 l hl).1,fun s hs=>zau (zaW ((m3 l hl).2 s hs)) hS⟩) r9 rw5,.inr ⟨_,row,rfl,⟨fun l hl s hs=>by rw[lg];exact(m3 l hl).2 s hs,_,rfl,zbf _ ?_⟩,r2,r3.trans rl.symm,r4,EV (by rw[<-er];exact P) hs2⟩⟩;obtain⟨l,e,h0⟩:=d.ly.h0;rw[er]at e;cases e;exact h0
def It(t:D):Prop:=Ft 1 1 t
def El(t:D):Prop:=Ft 3 170 t
def Lr(t:D):Prop:=Ft 4 1900 t
def It.nat(h:s<=100):It (iD s):=(Ft.int (i:=(s:Int)) (by
 rw[Int.natAbs_natCast];exact zbK h (by decide))).mono (by decide) (by decide)
def bp{a b:List D}(h1:∀t∈a,P t)(h2:∀t∈b,P t):∀t∈a++b,P t:=fun t h=>(zax.mp h).elim (h1 t) (h2 t)
def all_cons{a:D}{b:List D}(h1:P a)(h2:∀t∈b,P t):∀t∈a::b,P t:=fun t h=>(zay.mp h).elim (fun e=>e▸h1) (h2 t)
def aC:∀t∈([]:List D),P t:=fun t h=>by simp at h
def kj:∀t∈a8 ts lo hi,t∈ts:=fun t h=>List.mem_of_mem_drop (List.mem_of_mem_take h)
def km:(a8 ts lo hi).length<=ts.length:=by
 unfold a8;rw[zaE,zaF];omega
def El.list{ts:List D}(hl:ts.length<=83)(h:∀t∈ts,It t):El (.list ts):=(Ft.list (L:=83) hl h).mono (by decide) (by decide)
def El.tup{ts:List D}(hl:ts.length<=83)(h:∀t∈ts,It t):El (.tuple ts):=(Ft.tup (L:=83) hl h).mono (by decide) (by decide)
def El.it(h:It t):El t:=h.mono (by decide) (by decide)
def Ft.s0(h:z.cps.toList.all (fun c=>decide (c<16 ^ 8))=true)(hl:z.cps.size<=n):Ft 0 n (.str z):=Ft.str (fun c hc=>of_decide_eq_true (List.all_eq_true.mp h c hc)) hl
def lsR:MS:=(ak (au 6 (eLC true (bi (ad 5)) (gN 0) cY iH [none,some 2,some 3]))
 (ak (au 6 (e2 aV (ad 6) (aw (ac (e2 aV (eSl bF (ad 2) bq (bn (ad 3))) (eSl bF (ad 2) (bn (e2 bh (ad 3) (eC (.int 1)))) bq)) (ac (e2 aV (ad 2) (aw (ac (ad 4) ag))) (ac (e2 aV (ad 2) (aw (ac (eC (.int 0)) ag))) (ac (e2 aV (ad 2) (aw (ac (eC (.bool true)) ag))) (ac (e2 kK (ad 2) (e1 ca (eC (.int 1)))) (ac (eN qm (ac (ad 2) ag)) (ac (aw ag) ag))))))))))
 (ay (e2 aV (ad 6) (aw (ac (eC .none) (ac (eC (.int 0)) (ac (eC (.str "0")) (ac (e7 [((eC (.int 0)),(eC (.int 0)))]) (ac (aw (ac (ad 2) ag)) ag))))))))))
def AB:on=(ak (au 3 (ar ax (aD 0 (ac (eN su (ac (eC (.int 1)) (ac (eN aK (ac (ad 2) ag)) ag))) ag))))
 (ak (au 4 (ar ax (aD 0 (ac (eN aK (ac (e2 ixA (ad 1) (eC (.int 0))) ag)) ag))))
 (ak (au 5 (aw (ac (eC .none) (ac (e1 ca (eC (.int 1))) (ac (eC (.int 0)) (ac (eC (.bool true)) (ac (eC (.bool false)) (ac (eC (.str "0")) (ac (e2 l5 (eC (.int 10)) (eC (.int 60))) (ac (eN aK (ac (e2 ixA (ad 1) (eC (.int 0))) ag)) (ac (eN aK (ac (e2 ixA (e2 ixA (ad 1) (eC (.int 1))) (eC (.int 0))) ag)) (ac (ad 4) (ac (aw (ac (eC (.int 0)) ag)) ag))))))))))))) lsR))):=rfl
def JZ(hl:l.length<=80)(hs:∀s∈l,s<=12){hd:Nat}(hh:hd<=100)(tl:ts.length<=11)(ht:∀t∈ts,It t)(h:∀us o1 o2 o3 o4 o5 o6,us.length<=30->(∀u∈us,El u)->Q (.rt (.list us) [x0,o1,o2,o3,o4,o5,o6])):W (lsR [x0,x1,some (nD l),some (.int (a:Int)),some (.int (hd:Int)),some (.list ts),none]) Q:=by
 have hi:∀t∈l.map iD,It t:=fun t ht=>by
  obtain⟨s,h1,rfl⟩:=zaz.mp ht;exact It.nat (by have:=hs s h1;omega)
 have c:∀lo hi',(a8 (l.map iD) lo hi').length<=80:=fun lo hi'=>zau km (by rw[zad];exact hl);have ci:∀lo hi',∀t∈a8 (l.map iD) lo hi',It t:=fun lo hi' t ht=>hi t (kj t ht);simp only[ws,lsR,nD];refine dM (fun t=>.list (a8 (l.map iD) none (some (a:Int))++[t]++a8 (l.map iD) (some ((a:Int)+1)) none)) (szB (by omega)) (fun t ht=>?_) fun o=>?_
 ·have c1:=c none (some (a:Int));have c2:=c (some ((a:Int)+1)) none;simp only[ws,iH];exact⟨szB (by (try simp only[zae,zac,List.length_nil]);omega),szB (by (try simp only[zae,zac,List.length_nil]);omega)⟩
 obtain⟨us,eu,ul,hu⟩:∃us,ts.map (fun t=>PyData.list (a8 (l.map iD) none (some (a:Int))++[t]++a8 (l.map iD) (some ((a:Int)+1)) none))=us/\us.length<=11/\∀u∈us,El u:=⟨_,rfl,by rw[zad];exact tl,fun u hu=>by
  obtain⟨t,h1,rfl⟩:=zaz.mp hu;have c1:=c none (some (a:Int));have c2:=c (some ((a:Int)+1)) none;have c3:(a8 (l.map iD) none (some (a:Int))).length+(a8 (l.map iD) (some ((a:Int)+1)) none).length<=81:=by
   rw[dL,show(a:Int)+1=((a+1:Nat):Int)by omega,fM,zaE,zaF,zad];omega
  exact El.list (by (try simp only[zae,zac,List.length_nil]);omega) (bp (bp (ci _ _) (all_cons (ht t h1) aC)) (ci _ _))⟩
 rw[eu];have c1:=c none (some (a:Int));have c2:=c (some ((a:Int)+1)) none;have c3:(a8 (l.map iD) none (some (a:Int))).length+(a8 (l.map iD) (some ((a:Int)+1)) none).length<=81:=by
  rw[dL,show(a:Int)+1=((a+1:Nat):Int)by omega,fM,zaE,zaF,zad];omega
 simp only[ws];refine⟨szB (by omega),szB (by simp only[zac,List.length_nil];omega),szB (by simp only[zac,List.length_nil];omega),szB (by simp only[zac,List.length_nil];omega),szB (by simp only[zac,List.length_nil];omega),?_⟩;have hm:∀{d:D},It d->El (.list (l.map iD++[d])):=fun hd=>El.list (by simp only[zae,zad,zac,List.length_nil];omega) (bp hi (all_cons hd aC));obtain⟨vs,ev,vl,hv⟩:∃vs,us++[.list (a8 (l.map iD) none (some (a:Int))++a8 (l.map iD) (some ((a:Int)+1)) none),.list (l.map iD++[.int (hd:Int)]),.list (l.map iD++[.int 0]),.list (l.map iD++[.bool true]),.list (l.map iD).reverse,.tuple (l.map iD),.list []]=vs/\vs.length<=18/\∀u∈vs,El u:=by
  refine⟨_,rfl,by simp only[zae,zac,List.length_nil];omega,bp hu ?_⟩;refine all_cons (El.list (by rw[zae];omega) (bp (ci _ _) (ci _ _))) (all_cons (hm (It.nat hh)) (all_cons (hm (It.nat (s:=0) (by decide))) (all_cons (hm (Ft.bool.mono (by decide) (by decide))) (all_cons (El.list (by rw[List.length_reverse,zad];omega) fun t ht=>hi t (zbJ.mp ht)) (all_cons (El.tup (by rw[zad];omega) hi) (all_cons (El.list (by simp) aC) aC))))))
 rw[ev];refine W.of (show e7 [(eC (.int 0),eC (.int 0))] _=some (.dict [(.int 0,.int 0)],_)from rfl) ?_;simp only[ws];refine⟨szB (by simp only[zac,List.length_nil];omega),h _ _ _ _ _ _ _ (by simp only[zae,zac,List.length_nil];omega) (bp hv ?_)⟩;refine all_cons (Ft.none.mono (by decide) (by decide)) (all_cons (El.it (It.nat (s:=0) (by decide))) (all_cons ((Ft.s0 (z:="0") (n:=1) (by decide +kernel) (by decide +kernel)).mono (by decide) (by decide)) (all_cons ?_ (all_cons ?_ aC))))
 ·exact⟨by decide +kernel,by decide +kernel,by decide +kernel,by decide +kernel,rfl⟩
 ·exact(Ft.list (L:=1) (by simp) (all_cons (Ft.list (L:=80) (by rw[zad];exact hl) (fun t ht=>by
   obtain⟨s,h1,rfl⟩:=zaz.mp ht;exact Ft.int (i:=(s:Int)) (by rw[Int.natAbs_natCast];exact zbK (hs s h1) (by decide)))) aC)).mono (by decide) (by decide)
def tZ(M:MOk S W0 es gs)(hS:S<=8)(hl:l.length<=80)(hs:∀s∈l,s<=12)(hp:Pn n p)(hn:n<=900){Q:D×En->Prop}(h:∀us p',us.length<=30->(∀u∈us,El u)->Pn (n+2) p'->Q (.list us,[some p',none,none])):W (cM [p,aA es gs,nD l]) Q:=by
 have s1:=M.s1;have w2:=M.w2;have r:=lh M (k:=0) M.s1;have a0:atI (gs.map aT) 0=some (.list (((gs[0]?).getD []).map goD)):=r.1;simp only[ws,cM,AB,nD];obtain⟨m,hm,m1,m2⟩:∃m:Int,(if(l.length:Int)>1 then(l.length:Int)else 1)=m/\1<=m/\m<=80:=⟨_,rfl,by split<;>omega,by split<;>omega⟩;rw[hm];refine dN hp (by omega) (by omega) (by omega) fun a p1 a0' a1 hp1=>?_;obtain⟨a,rfl⟩:=zaM a0';have le:=M.le;simp only[ws,aA,zad];rw[le];refine dN hp1 (by omega) (by omega) (by omega) fun b p2 b0 b1 hp2=>?_;obtain⟨b,rfl⟩:=zaM b0;simp only[ws,a0,r.2,zad,le];refine⟨by unfold j1;decide,JZ hl hs (by omega) (by simp) ?_ fun us _ _ _ _ _ _ ul hu=>?_⟩
 ·have i0:∀{s:Nat},s<=100->It (.int (s:Int)):=fun h=>It.nat h;refine all_cons (Ft.none.mono (by decide) (by decide)) (all_cons ((Ft.int (i:=-1) (by decide)).mono (by decide) (by decide)) (all_cons (i0 (s:=0) (by decide)) (all_cons (Ft.bool.mono (by decide) (by decide)) (all_cons (Ft.bool.mono (by decide) (by decide)) (all_cons ((Ft.s0 (z:="0") (n:=1) (by decide +kernel) (by decide +kernel)).mono (by decide) (by decide)) (all_cons ((Ft.int (i:=10 ^ Int.toNat 60) (by decide)).mono (by decide) (by decide)) (all_cons (i0 (by omega)) (all_cons (i0 (by omega)) (all_cons (i0 (by omega)) (all_cons ?_ aC))))))))));exact(Ft.list (L:=1) (b:=0) (by simp) (all_cons (Ft.int (i:=0) (by decide)) aC)).mono (by decide) (by decide)
 ·simp only[ws];exact h us p2 ul hu hp2
def b13:MS:=(ay (e2 aV (ad 8) (aw (ac (eC .none) (ac (eC (.int 0)) (ac (eC (.bool true)) (ac (eC (.str "none")) (ac (bj ag) (ac (aw ag) (ac lb (ac (ad 3) (ac (bj (ac (eC (.str "none")) (ac (ad 3) ag))) (ac (bj (ac (eC (.str "row")) (ac (aw ag) (ac (aw (ac (aw (ac (eC (.int 0)) ag)) ag)) ag)))) ag)))))))))))))
def b12:MS:=(ak (au 8 (e2 aV (ad 8) (aw (ac (eSl jD (ad 2) bq (bn (e1 ca (eC (.int 1))))) (ac (e2 lj (ad 2) (bj (ac (ad 3) ag))) (ac (eN gP (ac (ad 2) ag)) (ac (bj (ac (ad 2) ag)) (ac (e2 mZ (ad 2) (e1 ca (eC (.int 1)))) (ac (bj (ac (eC (.str "row")) (ac (aw ag) (ac (ad 3) ag)))) (ac (bj (ac (eC (.str "none")) ag)) ag)))))))))) b13)
def b11:MS:=(ak (bT (bi (bj (ac (eC (.str "none")) (ac (eC (.str "row")) (ac (eC (.str "Row")) (ac (eC (.str "")) (ac (eC .none) (ac (eC (.int 0)) (ac (eC (.bool true)) (ac (aw (ac (eC (.str "row")) ag)) ag)))))))))) (gN 9) jp) b12)
def b9:MS:=(ak (sIf (tV (e2 eqD (eN aK (ac (ad 2) ag)) (eC (.int 3)))) (ak (au 8 (e2 aV (ad 8) (eLC true (bi (ar cM (aD 0 (ac (ad 1) (ac (e2 ixA (ad 2) (eC (.int 1))) ag))))) (gN 0) cY jr [none,some 3])))
 (au 8 (e2 aV (ad 8) (aw (ac (bj (ac (eC (.str "row")) (ac (e2 aV (e2 ixA (ad 2) (eC (.int 1))) (aw (ac (eC (.int 0)) ag))) (ac (e2 aV (ad 3) (aw (ac (aw (ac (eC (.int 0)) ag)) ag))) ag)))) (ac (bj (ac (eC (.str "row")) (ac (e2 aV (e2 ixA (ad 2) (eC (.int 1))) (aw (ac (eC (.int 0)) ag))) (ac (e2 aV (ad 3) (aw (ac (aw ag) ag))) ag)))) ag)))))) aW) b11)
def b8:MS:=(ak (au 8 (eLC true (bi (ad 7)) (gN 0) cY ju [none,some 2])) b9)
def b7:MS:=(ak (au 7 (e2 aV (ad 7) (aw (ac (e2 aV (ad 3) (aw (ac (aw ag) ag))) (ac (eSl bF (ad 3) bq (bn (e1 ca (eC (.int 1))))) (ac (eSl bF (ad 3) (bn (eC (.int 1))) bq) (ac (eN qm (ac (ad 3) ag)) (ac (aw ag) (ac (eC .none) (ac (eC (.int 0)) (ac (eN kI (ac (ad 3) (ac (aw ag) ag))) ag))))))))))) b8)
def b6:MS:=(ak (au 7 (e2 aV (ad 7) (aw (ac (e2 aV (eSl bF (ad 3) bq (bn (ad 4))) (eSl bF (ad 3) (bn (e2 bh (ad 4) (eC (.int 1)))) bq)) (ac (e2 aV (e2 aV (eSl bF (ad 3) bq (bn (ad 4))) (aw (ac (e2 ixA (ad 3) (ad 4)) ag))) (eSl bF (ad 3) (bn (ad 4)) bq)) (ac (ad 6) (ac (e2 kK (ad 3) (e1 ca (eC (.int 1)))) ag))))))) b7)
def b5:MS:=(ak (au 7 (eLC true (bi (ar cM (aD 0 (ac (ad 1) (ac (e2 ixA (ad 3) (ad 4)) ag))))) (gN 0) cY jv [none,some 3,some 4])) b6)
def GR:qk=(ak (au 3 (e2 ixA (ad 2) (e1 ca (eC (.int 1)))))
 (ak (au 4 (ar ax (aD 0 (ac (eN aK (ac (ad 3) ag)) ag))))
 (ak (au 5 (ar ax (aD 0 (ac (eN aK (ac (ad 3) ag)) ag))))
 (ak (au 6 (eN gP (ac (ad 3) ag)))
 (ak (ir (bj (ac (e2 ixA (ad 3) (ad 5)) (ac (e2 ixA (ad 3) (ad 4)) ag))) (gT (gsC (gS 6 4) (gsC (gS 6 5) gs0)))) b5))))):=rfl
def Fz.tup{ts:List D}(hl:ts.length<=4)(h:∀t∈ts,Lr t):Fz (.tuple ts):=(Ft.tup (L:=4) hl h).mono (by decide) (by decide)
def Fz.list{ts:List D}(hl:ts.length<=4)(h:∀t∈ts,Lr t):Fz (.list ts):=(Ft.list (L:=4) hl h).mono (by decide) (by decide)
def Lr.list{ts:List D}(hl:ts.length<=11)(h:∀t∈ts,El t):Lr (.list ts):=(Ft.list (L:=11) hl h).mono (by decide) (by decide)
def Lr.tup{ts:List D}(hl:ts.length<=11)(h:∀t∈ts,El t):Lr (.tuple ts):=(Ft.tup (L:=11) hl h).mono (by decide) (by decide)
def Lr.el(h:El t):Lr t:=h.mono (by decide) (by decide)
def Lr.fz(h:Lr t):Fz t:=h.mono (by decide) (by decide)
def pi(h:z.cps.toList.all (fun c=>decide (c<16 ^ 8))=true)(hl:z.cps.size<=4):Lr (.str z):=(Ft.s0 h hl).mono (by decide) (by decide)
def tX{i:Int}(h:i.natAbs<2 ^ 1920):Lr (.int i):=(Ft.int h).mono (by decide) (by decide)
def lr_none:Lr .none:=Ft.none.mono (by decide) (by decide)
def lr_bool{b:Bool}:Lr (.bool b):=Ft.bool.mono (by decide) (by decide)
def ib:Lr (.str "row"):=pi (by decide +kernel) (by decide +kernel)
def lr_non:Lr (.str "none"):=pi (by decide +kernel) (by decide +kernel)
def uz(h:l.length<=83)(hs:∀s∈l,s<=12):El (nD l):=El.list (by rw[zad];exact h) fun t ht=>by
 obtain⟨s,h1,rfl⟩:=zaz.mp ht;exact It.nat (by have:=hs s h1;omega)
structure Tp(ts:List D)(ls:List (List Nat))(c:D):Prop where
 ec:c=lsD ls
 n:2<=ts.length/\ts.length<=3
 lr:∀t∈ts,Lr t
 l1:1<=ls.length
 l2:ls.length<=9
 ll:∀l∈ls,l.length<=80/\∀s∈l,s<=8
 cm:∃pre,ts=pre++[c]
 rw:ts.length=3->∃a row,ts=[a,nD row,c]/\row.length<=9/\∀s∈row,s<=12
def Tp.el{c:D}(T:Tp ts ls c):∀u∈ls.map nD,El u:=fun u hu=>by
 obtain⟨l,hl,rfl⟩:=zaz.mp hu;exact uz (by have:=(T.ll l hl).1;omega) fun s hs=>by have:=(T.ll l hl).2 s hs;omega
def Tp.c{c:D}(T:Tp ts ls c):Lr c:=by
 rw[T.ec];exact Lr.list (by rw[zad];have:=T.l2;omega) T.el
def Lp{c:D}(T:Tp ts ls c)(gl:got.length<=150)(hg:∀u∈got,Fz u)(h:∀us,us.length<=200->(∀u∈us,Fz u)->Q (.rt (.list us) [x0,x1,x2,some c,x4,x5,x6,x7,some (.list got),x9])):W (b13 [x0,x1,x2,some c,x4,x5,x6,x7,some (.list got),x9]) Q:=by
 simp only[ws,b13];refine W.of (show lb _=some (.dict [],_)from rfl) ?_;simp only[ws];refine⟨szB (by simp only[zac,List.length_nil];omega),h _ (by simp only[zae,zac,List.length_nil];omega) (bp hg ?_)⟩;have z0:Lr (.list [.list [.int 0]]):=(Ft.list (L:=1) (by simp) (all_cons (Ft.list (L:=1) (by simp) (all_cons (Ft.int (i:=0) (by decide)) aC)) aC)).mono (by decide) (by decide);have n0:Lr (.list []):=Lr.list (by simp) aC;exact all_cons lr_none.fz (all_cons (tX (i:=0) (by decide)).fz (all_cons lr_bool.fz (all_cons lr_non.fz (all_cons (Fz.tup (by simp) aC) (all_cons (Fz.list (by simp) aC) (all_cons (Ft.dict.mono (by decide) (by decide)) (all_cons T.c.fz (all_cons (Fz.tup (by simp) (all_cons lr_non (all_cons T.c aC))) (all_cons (Fz.tup (by simp) (all_cons ib (all_cons n0 (all_cons z0 aC)))) aC)))))))))
def Lq{c:D}(T:Tp ts ls c)(gl:got.length<=140)(hg:∀u∈got,Fz u)(h:∀us en,us.length<=200->(∀u∈us,Fz u)->en.length=9->Q (.rt (.list us) (x0::en))):W (b12 [x0,x1,some (.tuple ts),some c,x4,x5,x6,x7,some (.list got),x9]) Q:=by
 obtain⟨n1,n2⟩:=T.n;have c1:(a8 ts none (some (-1))).length<=4:=zau km (by omega);have n0:Lr (.list []):=Lr.list (by simp) aC;simp only[ws,b12];refine⟨szB (by simp only[zac,List.length_nil];omega),szB (by simp only[zac,List.length_nil];omega),?_⟩;refine Lp T (by simp only[zae,zac,List.length_nil];omega) (bp hg ?_) fun us ul hu=>h us _ ul hu rfl;exact all_cons (Fz.tup c1 fun t ht=>T.lr t (kj t ht)) (all_cons (Fz.tup (by simp only[zae,zac,List.length_nil];omega) (bp T.lr (all_cons T.c aC))) (all_cons (Fz.list (by omega) T.lr) (all_cons ((Ft.tup (L:=1) (by simp) (all_cons (Ft.tup (L:=3) n2 T.lr) aC)).mono (by decide) (by decide)) (all_cons (Fz.tup (by rw[List.length_reverse];omega) fun t ht=>T.lr t (zbJ.mp ht)) (all_cons (Fz.tup (by simp) (all_cons ib (all_cons n0 (all_cons T.c aC)))) (all_cons (Fz.tup (by simp) (all_cons lr_non aC)) aC))))))
def BB{it:MI}{g:MG}{b rest:MS}(P:List D->Prop)(h:W (it en) (fun r=>r.2=en/\P r.1))(h2:∀ts,P ts->W (cE g b ts en) (uc rest Q)):W (ak (bT it g b) rest en) Q:=by
 simp only[ws];refine W.use h ?_;rintro⟨ts,e⟩ ⟨rfl,hp⟩;exact h2 ts hp
def zP{c:D}(T:Tp ts ls c)(gl:got.length<=130)(hg:∀u∈got,Fz u)(h:∀us en,us.length<=200->(∀u∈us,Fz u)->en.length=9->Q (.rt (.list us) (x0::en))):W (b11 [x0,x1,some (.tuple ts),some c,x4,x5,x6,x7,some (.list got),x9]) Q:=by
 obtain⟨n1,n2⟩:=T.n;refine BB (fun ws=>ws.length<=8/\∀w∈ws,Lr w) ?_ fun vs ⟨wl,hw⟩=>?_
 ·simp only[ws];have r0:Lr (.list [.str "row"]):=(Ft.list (L:=1) (by simp) (all_cons (Ft.s0 (z:="row") (n:=4) (by decide +kernel) (by decide +kernel)) aC)).mono (by decide) (by decide);exact⟨by simp,all_cons lr_non (all_cons ib (all_cons (pi (z:="Row") (by decide +kernel) (by decide +kernel)) (all_cons (pi (z:="") (by decide +kernel) (by decide +kernel)) (all_cons lr_none (all_cons (tX (i:=0) (by decide)) (all_cons lr_bool (all_cons r0 aC)))))))⟩
 refine du (fun i en=>∃us o9,en=[x0,x1,some (.tuple ts),some c,x4,x5,x6,x7,some (.list us),o9]/\us.length<=130+i/\∀u∈us,Fz u) ⟨got,x9,rfl,by omega,hg⟩ ?_ ?_
 ·rintro i w en hwi ⟨us,o9,rfl,ul,hu⟩;have hi:=(zah.mp hwi).1;have c1:(a8 ts (some 1) none).length<=3:=zau km n2;simp only[ws,jp];refine⟨szB (by simp only[zac,List.length_nil];omega),iZ (by omega),_,_,rfl,by simp only[zae,zac,List.length_nil];omega,bp hu (all_cons (Fz.tup (by simp only[zac,zae,List.length_nil];omega) ?_) aC)⟩;exact bp (all_cons (hw w (zaX hwi)) aC) fun t ht=>T.lr t (kj t ht)
 ·rintro en ⟨us,o9,rfl,ul,hu⟩;simp only[ws];exact Lq T (by omega) hu h
def MK(M:MOk S W0 es gs)(hS:S<=8){c:D}(T:Tp ts ls c)(gl:got.length<=60)(hg:∀u∈got,Fz u)(hp:Pn n p)(hn:n<=900)(h:∀us p' en,us.length<=200->(∀u∈us,Fz u)->Pn (n+2) p'->en.length=9->Q (.rt (.list us) (some p'::en))):W (b9 [some p,some (aA es gs),some (.tuple ts),some c,x4,x5,x6,x7,some (.list got),x9]) Q:=by
 obtain⟨n1,n2⟩:=T.n;by_cases hl:ts.length=3
 ·obtain⟨a,row,rfl,r1,r2⟩:=T.rw hl;have q3:eqD (.int 3) (.int 3)=some (.bool true):=dY 3 3;have a1:atI [a,nD row,c] 1=some (nD row):=rfl;simp only[ws,b9,q3,a1];refine tZ M hS (by omega) r2 hp hn fun us p' ul hu hp'=>?_;simp only[ws];refine dM (fun t=>.tuple [.str "row",t,c]) (szB (by omega)) (fun t ht=>by simp only[ws,jr]) fun o=>?_;obtain⟨vs,ev,vl,hv⟩:∃vs,us.map (fun t=>PyData.tuple [.str "row",t,c])=vs/\vs.length<=30/\∀u∈vs,Fz u:=⟨_,rfl,by rw[zad];exact ul,fun u hu'=>by
   obtain⟨t,h1,rfl⟩:=zaz.mp hu';exact Fz.tup (by simp) (all_cons ib (all_cons (Lr.el (hu t h1)) (all_cons T.c aC)))⟩
  rw[ev];have l2:=T.l2;have e1:atI [a,nD row,c] 1=some (.list (row.map iD)):=rfl;have ec:=T.ec;unfold lsD at ec;subst ec;simp only[ws,e1];refine⟨szB (by omega),szB (by simp only[zac,List.length_nil];omega),szB (by simp only[zac,List.length_nil];omega),szB (by simp only[zac,List.length_nil];omega),szB (by simp only[zac,List.length_nil];omega),szB (by simp only[zae,zac,List.length_nil];omega),?_⟩;have z0:El (.list [.int 0]):=El.list (by simp) (all_cons (It.nat (s:=0) (by decide)) aC);have r9:Lr (.list (row.map iD++[.int 0])):=Lr.el (El.list (by simp only[zae,zad,zac,List.length_nil];omega) (bp (fun t ht=>by
   obtain⟨s,h1,rfl⟩:=zaz.mp ht;exact It.nat (by have:=r2 s h1;omega)) (all_cons (It.nat (s:=0) (by decide)) aC)))
  have l9:∀{d:D},El d->Lr (.list (ls.map nD++[d])):=fun hd=>Lr.list (by simp only[zae,zad,zac,List.length_nil];omega) (bp T.el (all_cons hd aC));refine zP T (by simp only[zae,zac,List.length_nil];omega) (bp (bp hg hv) (all_cons (Fz.tup (by simp) (all_cons ib (all_cons r9 (all_cons (l9 z0) aC)))) (all_cons (Fz.tup (by simp) (all_cons ib (all_cons r9 (all_cons (l9 (El.list (by simp) aC)) aC)))) aC))) fun us en ul hu e=>h us p' en ul hu hp' e
 ·have q3:eqD (.int (ts.length:Int)) (.int 3)=some (.bool false):=by rw[dY,zaA (by omega)]
  simp only[ws,b9,q3];exact zP T (by omega) hg fun us en ul hu e=>h us p en ul hu (hp.mono (by omega)) e
def ML(M:MOk S W0 es gs)(hS:S<=8){c:D}(T:Tp ts ls c)(gl:so.length<=50)(hg:∀u∈so,Lr u)(hp:Pn n p)(hn:n<=900)(h:∀us p' en,us.length<=200->(∀u∈us,Fz u)->Pn (n+2) p'->en.length=9->Q (.rt (.list us) (some p'::en))):W (b8 [some p,some (aA es gs),some (.tuple ts),some c,x4,x5,x6,some (.list so),x8,x9]) Q:=by
 obtain⟨n1,n2⟩:=T.n;have c1:(a8 ts none (some (-1))).length<=3:=zau km n2;simp only[ws,b8];refine dM (fun t=>.tuple (a8 ts none (some (-1))++[t])) (szB (by omega)) (fun t ht=>?_) fun o=>?_
 ·simp only[ws,ju];exact szB (by simp only[zac,List.length_nil];omega)
 obtain⟨vs,ev,vl,hv⟩:∃vs,so.map (fun t=>PyData.tuple (a8 ts none (some (-1))++[t]))=vs/\vs.length<=50/\∀u∈vs,Fz u:=⟨_,rfl,by rw[zad];exact gl,fun u hu=>by
  obtain⟨t,h1,rfl⟩:=zaz.mp hu;exact Fz.tup (by simp only[zae,zac,List.length_nil];omega) (bp (fun t ht=>T.lr t (kj t ht)) (all_cons (hg t h1) aC))⟩
 rw[ev];simp only[ws];exact MK M hS T (by omega) hv hp hn h
def fl9(h:∀l∈ls,l.length<=80/\∀s∈l,s<=8):ls.flatten.length<=80*ls.length:=by
 induction ls with
 |nil=>exact zbj _
 |cons l ls ih=>
  have h1:=(h l zaq).1;have h2:=ih fun l hl=>h l (zaj _ hl);rw[List.flatten_cons,zae,zac];omega
def MM(M:MOk S W0 es gs)(hS:S<=8)(T:Tp ts ls (lsD ls))(gl:so.length<=40)(hg:∀u∈so,Lr u)(hp:Pn n p)(hn:n<=900)(h:∀us p' en,us.length<=200->(∀u∈us,Fz u)->Pn (n+2) p'->en.length=9->Q (.rt (.list us) (some p'::en))):W (b7 [some p,some (aA es gs),some (.tuple ts),some (lsD ls),x4,x5,x6,some (.list so),x8,x9]) Q:=by
 have l1:=T.l1;have l2:=T.l2;have fl:=fl9 T.ll;have sm:=wJ (ls:=ls) (fun z=>by rw[z]at l1;simp at l1) (by omega);have c:∀lo hi',(a8 (ls.map nD) lo hi').length<=9:=fun lo hi'=>zau km (by rw[zad];exact l2);have ci:∀lo hi',Lr (.list (a8 (ls.map nD) lo hi')):=fun lo hi'=>Lr.list (by have:=c lo hi';omega) fun t ht=>T.el t (kj t ht);simp only[ws,b7,lsD,sm];refine⟨szB (by simp only[zac,List.length_nil];omega),szB (by simp only[zac,List.length_nil];omega),?_⟩;have s9:Lr (nD ls.flatten):=(Ft.list (L:=720) (b:=0) (d:=0) (by rw[zad];omega) fun t ht=>by
  obtain⟨s,h1,rfl⟩:=zaz.mp ht;obtain⟨l,hl,h2⟩:=List.mem_flatten.mp h1;exact Ft.int (i:=(s:Int)) (by rw[Int.natAbs_natCast];exact zbK ((T.ll l hl).2 s h2) (by decide))).mono (by decide) (by decide)
 refine ML M hS T (by simp only[zae,zac,List.length_nil];omega) (bp hg ?_) hp hn h;exact all_cons (Lr.list (by simp only[zae,zad,zac,List.length_nil];omega) (bp T.el (all_cons (El.list (by simp) aC) aC))) (all_cons (ci _ _) (all_cons (ci _ _) (all_cons (Lr.tup (by rw[zad];omega) T.el) (all_cons (Lr.list (by simp) aC) (all_cons lr_none (all_cons (tX (i:=0) (by decide)) (all_cons s9 aC)))))))
def MQ(M:MOk S W0 es gs)(hS:S<=8)(T:Tp ts ls (lsD ls))(gl:so.length<=30)(hg:∀u∈so,Lr u)(sl:sw.length<=9)(hsw:∀u∈sw,El u)(ha:a<ls.length)(hp:Pn n p)(hn:n<=900)(h:∀us p' en,us.length<=200->(∀u∈us,Fz u)->Pn (n+2) p'->en.length=9->Q (.rt (.list us) (some p'::en))):W (b6 [some p,some (aA es gs),some (.tuple ts),some (lsD ls),some (.int (a:Int)),x5,some (.list sw),some (.list so),x8,x9]) Q:=by
 have l2:=T.l2;have k1:a8 (ls.map nD) none (some (a:Int))=(ls.map nD).take a:=dL _ a;have k2:a8 (ls.map nD) (some ((a:Int)+1)) none=(ls.map nD).drop (a+1):=by rw[show(a:Int)+1=((a+1:Nat):Int)by omega,fM]
 have k3:a8 (ls.map nD) (some (a:Int)) none=(ls.map nD).drop a:=fM _ a;have aa:atI (ls.map nD) (a:Int)=some (nD ls[a]):=by rw[bw,zao,zak ha];rfl
 have t1:((ls.map nD).take a).length=a:=by rw[zaE,zad];omega
 have t2:((ls.map nD).drop (a+1)).length=ls.length-(a+1):=by rw[zaF,zad]
 have t3:((ls.map nD).drop a).length=ls.length-a:=by rw[zaF,zad]
 have e1:∀t∈(ls.map nD).take a,El t:=fun t ht=>T.el t (List.mem_of_mem_take ht);have e2:∀t∈(ls.map nD).drop (a+1),El t:=fun t ht=>T.el t (List.mem_of_mem_drop ht);have e3:∀t∈(ls.map nD).drop a,El t:=fun t ht=>T.el t (List.mem_of_mem_drop ht);have ea:El (nD ls[a]):=T.el _ (List.mem_map_of_mem (zaK ha));simp only[ws,b6,lsD,k1,k2,k3,aa];refine⟨szB (by omega),szB (by simp only[zac,List.length_nil];omega),szB (by simp only[zae,zac,List.length_nil];omega),szB (by simp only[zac,List.length_nil];omega),?_⟩;refine MM M hS T (by simp only[zae,zac,List.length_nil];omega) (bp hg ?_) hp hn h;exact all_cons (Lr.list (by rw[zae];omega) (bp e1 e2)) (all_cons (Lr.list (by simp only[zae,zac,List.length_nil];omega) (bp (bp e1 (all_cons ea aC)) e3)) (all_cons (Lr.list (by omega) hsw) (all_cons (Lr.list (by rw[List.length_reverse,zad];omega) fun t ht=>T.el t (zbJ.mp ht)) aC)))
def MR(M:MOk S W0 es gs)(hS:S<=8)(T:Tp ts ls (lsD ls))(sl:sw.length<=9)(hsw:∀u∈sw,El u)(ha:a<ls.length)(hp:Pn n p)(hn:n<=800)(h:∀us p' en,us.length<=200->(∀u∈us,Fz u)->Pn (n+4) p'->en.length=9->Q (.rt (.list us) (some p'::en))):W (b5 [some p,some (aA es gs),some (.tuple ts),some (lsD ls),some (.int (a:Int)),x5,some (.list sw),x7,x8,x9]) Q:=by
 have l2:=T.l2;have aa:atI (ls.map nD) (a:Int)=some (nD ls[a]):=by rw[bw,zao,zak ha];rfl
 have hl:=T.ll ls[a] (zaK ha);simp only[ws,b5,lsD,aa];refine tZ M hS hl.1 (fun s hs=>by have:=hl.2 s hs;omega) hp (by omega) fun us p' ul hu hp'=>?_;simp only[ws];have k1:a8 (ls.map nD) none (some (a:Int))=(ls.map nD).take a:=dL _ a;have k2:a8 (ls.map nD) (some ((a:Int)+1)) none=(ls.map nD).drop (a+1):=by rw[show(a:Int)+1=((a+1:Nat):Int)by omega,fM]
 have t1:((ls.map nD).take a).length=a:=by rw[zaE,zad];omega
 have t2:((ls.map nD).drop (a+1)).length=ls.length-(a+1):=by rw[zaF,zad]
 refine dM (fun t=>.list ((ls.map nD).take a++[t]++(ls.map nD).drop (a+1))) (szB (by omega)) (fun t ht=>?_) fun o=>?_
 ·simp only[ws,jv,k1,k2];exact⟨szB (by simp only[zac,List.length_nil];omega),szB (by simp only[zae,zac,List.length_nil];omega)⟩
 obtain⟨vs,ev,vl,hv⟩:∃vs,us.map (fun t=>PyData.list ((ls.map nD).take a++[t]++(ls.map nD).drop (a+1)))=vs/\vs.length<=30/\∀u∈vs,Lr u:=⟨_,rfl,by rw[zad];exact ul,fun u hu'=>by
  obtain⟨t,h1,rfl⟩:=zaz.mp hu';exact Lr.list (by simp only[zae,zac,List.length_nil];omega) (bp (bp (fun t ht=>T.el t (List.mem_of_mem_take ht)) (all_cons (hu t h1) aC)) fun t ht=>T.el t (List.mem_of_mem_drop ht))⟩
 rw[ev];simp only[ws];exact MQ M hS T vl hv sl hsw ha hp' (by omega) fun us p' en h1 h2 h3 h4=>h us p' en h1 h2 (h3.mono (by omega)) h4
def Kq(hj:(en[j]?).join=some (.int (k:Int)))(hi:(en[i]?).join=some (.list ts))(hk:k<ts.length):gS i j t en=some (en.set i (some (.list (ts.set k t)))):=by
 unfold gS;rw[hj,hi];show(ixN ts.length (k:Int)).map _=_;rw[iT hk];rfl
theorem uK:∀es:List Bool,aF (es.map PyData.bool)=true/\bP (es.map PyData.bool)=0
 |[]=>⟨rfl,rfl⟩
 |b::es=>by
  obtain⟨h1,h2⟩:=uK es;rw[zar];exact⟨by simp[aF,noDict,h1],by simp[bP,dZ,h2]⟩
theorem wc:∀r:List (Option Nat),aF (r.map goD)=true/\bP (r.map goD)=0
 |[]=>⟨rfl,rfl⟩
 |w::r=>by
  obtain⟨h1,h2⟩:=wc r;rw[zar];cases w<;>exact⟨by simp[aF,noDict,goD,h1],by simp[bP,dZ,goD,h2]⟩
theorem vO:∀G:Gr,aF (G.map aT)=true/\bP (G.map aT)<=1
 |[]=>⟨rfl,zbj _⟩
 |r::G=>by
  obtain⟨h1,h2⟩:=vO G;obtain⟨h3,h4⟩:=wc r;rw[zar];exact⟨by simp[aF,noDict,aT,h1,h3],by simp[bP,dZ,aT,h4];omega⟩
def Fo(h1:noDict t=true)(h2:dZ t<=60):neD t t=some (.bool false):=by
 show grd _ _=_;unfold grd;rw[if_pos ⟨h1,h1,h2⟩,kQ t h1];rfl
def Fp(es:List Bool)(G:Gr):neD (.tuple [.list (es.map .bool),.list (G.map aT)]) (.tuple [.list (es.map .bool),.list (G.map aT)])=some (.bool false):=by
 obtain⟨h1,h2⟩:=uK es;obtain⟨h3,h4⟩:=vO G;refine Fo ?_ ?_
 ·simp[noDict,aF,h1,h3]
 ·simp[dZ,bP,h2];omega
def GQ(M:MOk S W0 es gs)(hS:S<=8)(h:Wr t)(hp:Pn n p)(hn:n<=700){Q:D×En->Prop}(hq:∀us p',us.length<=200->(∀u∈us,Fz u)->Pn (n+6) p'->Q (.list us,[some p',none,none])):W (gw [p,aA es gs,t]) Q:=by
 obtain⟨pre,A,z,rfl,hpre,hA,hl⟩:=h;obtain⟨ls,els⟩:∃ls,A++[z]=ls:=⟨_,rfl⟩;have ll:ls.length=A.length+1:=by rw[<-els,zae];rfl
 rw[els]at hl ⊢;have T:Tp (pre++[lsD ls]) ls (lsD ls):=by
  have ce:∀u∈ls.map nD,El u:=fun u hu=>by
   obtain⟨l,hl',rfl⟩:=zaz.mp hu;exact uz (by have:=(hl l hl').1;omega) fun s hs=>by have:=(hl l hl').2 s hs;omega
  have cl:Lr (lsD ls):=Lr.list (by rw[zad];omega) ce;refine⟨rfl,?_,?_,by omega,by omega,hl,⟨pre,rfl⟩,fun e=>?_⟩
  ·rcases hpre with rfl|⟨row,rfl,_⟩<;>simp
  ·refine bp ?_ (all_cons cl aC);rcases hpre with rfl|⟨row,rfl,h1,h2⟩
   ·exact all_cons lr_non aC
   ·exact all_cons ib (all_cons (Lr.el (uz (by omega) h2)) aC)
  ·rcases hpre with rfl|⟨row,rfl,h1,h2⟩
   ·simp at e
   ·exact⟨_,row,rfl,h1,h2⟩
 have am:atI (pre++[lsD ls]) (-1)=some (lsD ls):=xG _ _;obtain⟨ts,ets⟩:∃ts,pre++[lsD ls]=ts:=⟨_,rfl⟩;rw[ets]at T am ⊢;simp only[ws,gw,GR,am,lsD,zad];refine dN hp (by omega) (by omega) (by omega) fun a p1 a0 a1 hp1=>?_;obtain⟨a,rfl⟩:=zaM a0;simp only[ws,zad];refine dN hp1 (by omega) (by omega) (by omega) fun b p2 b0 b1 hp2=>?_;obtain⟨b,rfl⟩:=zaM b0;have al:a<ls.length:=by omega
 have bl:b<ls.length:=by omega
 have aa:atI (ls.map nD) (a:Int)=some (nD ls[a]):=by rw[bw,zao,zak al];rfl
 have ab:atI (ls.map nD) (b:Int)=some (nD ls[b]):=by rw[bw,zao,zak bl];rfl
 simp only[ws,aa,ab];refine W.of (Kq (k:=a) (ts:=ls.map nD) rfl rfl (by rw[zad];exact al)) ?_;simp only[ws];refine W.of (Kq (k:=b) (ts:=(ls.map nD).set a (nD ls[b])) rfl rfl (by rw[zaV,zad];exact bl)) ?_;simp only[ws];refine MR M hS T (by rw[zaV,zaV,zad];have:=T.l2;omega) (fun t ht=>?_) al hp2 (by omega) fun us p' en h1 h2 h3 h4=>?_
 ·rcases zbO ht with ht|rfl
  ·rcases zbO ht with ht|rfl
   ·exact T.el t ht
   ·exact T.el _ (List.mem_map_of_mem (zaK bl))
  ·exact T.el _ (List.mem_map_of_mem (zaK al))
 ·match en,h4 with
  |[_,_,_,_,_,_,_,_,_],_=>
   simp only[ws];exact hq us p' h1 h2 h3
def EO(M:MOk S W0 es gs)(h:Fz t)(hN:N<100)(hj:∀x8 x9,J [x0,x1,x2,some (aA es gs),some (kH gs es N),some (aA es gs),x6,some t,x8,x9]):
  W (gN 7 t [x0,x1,x2,some (aA es gs),some (kH gs es N),some (aA es gs),x6,x7,x8,x9]) (kFg uT J Q):=by
 obtain⟨z,hz⟩:=h.rep;have nm:neD (aA es gs) (aA es gs)=some (.bool false):=Fp es gs;have nz:neD (.str z) (.str z)=some (.bool false):=by rw[JV,zaB rfl];rfl
 simp only[ws,uT,hz];refine W.use (vS M h) ?_;rintro _ ⟨c,rfl,hc⟩;simp only[ws];refine W.use (J5 M h) ?_;rintro _ ⟨c',rfl,hc'⟩;have e:c'=c:=Bool.eq_iff_iff.mpr (hc'.trans hc.symm);subst e;have nb:neD (.bool c') (.bool c')=some (.bool false):=by cases c'<;>rfl
 cases c' with
 |false=>
  simp only[ws,hz,nz,nm,nb];exact hj _ _
 |true=>
  simp only[ws,hz,nz,nm,nb];refine W.use (EQ M (hc.mp rfl) hN) ?_;rintro _ rfl;simp only[ws];exact hj _ _
def Fv(M:MOk S W0 es gs)(hS:S<=8)(hN:N<100)(tl:ts.length<=4)(ht:∀t∈ts,Wr t/\gp es gs W0 t)(hp:Pn n p)(hn:n<=500):W (cE (gN 6) pY ts [x0,some p,x2,some (aA es gs),some (kH gs es N),some (aA es gs),none,none,none,none]) (uc (ay (eC (.bool true))) (kFn [0] fun r=>∃o,r=(.bool true,o))):=by
 refine du (fun i en=>∃p o6 o7 o8 o9,en=[x0,some p,x2,some (aA es gs),some (kH gs es N),some (aA es gs),o6,o7,o8,o9]/\Pn (n+6*i) p) ⟨p,_,_,_,_,rfl,hp⟩ ?_ ?_
 ·rintro i t en hti ⟨p,o6,o7,o8,o9,rfl,hp⟩;have il:=(zah.mp hti).1;obtain⟨hw,hh⟩:=ht t (zaX hti);have fz:Fz t:=by
   obtain⟨pre,A,z,rfl,hpre,hA,hl⟩:=hw;have ce:∀u∈(A++[z]).map nD,El u:=fun u hu=>by
    obtain⟨l,hl',rfl⟩:=zaz.mp hu;exact uz (by have:=(hl l hl').1;omega) fun s hs=>by have:=(hl l hl').2 s hs;omega
   have cl:Lr (lsD (A++[z])):=Lr.list (by rw[zad,zae];show A.length+1<=11;omega) ce;rcases hpre with rfl|⟨row,rfl,h1,h2⟩
   ·exact Fz.tup (by simp) (all_cons lr_non (all_cons cl aC))
   ·exact Fz.tup (by simp) (all_cons ib (all_cons (Lr.el (uz (by omega) h2)) (all_cons cl aC)))
  simp only[ws,pY];refine W.use (vS M fz) ?_;rintro _ ⟨c,rfl,hc⟩;have c1:c=true:=hc.mpr hh;subst c1;have nb:w4 (.bool true) (.bool true)=some (.bool false):=rfl;simp only[ws,nb];refine GQ M hS hw hp (by omega) fun us p' ul hu hp'=>?_;simp only[ws];refine Lx (fun en=>∃o7 o8 o9,en=[x0,some p',x2,some (aA es gs),some (kH gs es N),some (aA es gs),some t,o7,o8,o9]) ⟨_,_,_,rfl⟩ (fun u hu' en hJ=>?_) fun en hJ=>?_
  ·obtain⟨o7,o8,o9,rfl⟩:=hJ;exact EO M (hu u hu') hN fun x8 x9=>⟨_,_,_,rfl⟩
  ·obtain⟨o7,o8,o9,rfl⟩:=hJ;exact⟨_,_,_,_,_,rfl,hp'.mono (by omega)⟩
 ·rintro en ⟨p,o6,o7,o8,o9,rfl,hp⟩;simp only[ws];exact⟨_,rfl⟩
noncomputable def lR:MS:=(ak (au 4 (ar dU (ac (ad 3) (ac (e2 bh (e2 cA (eC (.int 2)) (eN aK (ac (e2 ixA (ad 3) (eC (.int 0))) ag))) (eC (.int 2))) ag))))
 (ak (au 5 (bj (ac (eN gP (ac (e2 ixA (ad 3) (eC (.int 0))) ag)) (ac (eLC true (bi (e2 ixA (ad 3) (eC (.int 1)))) (gN 0) cY uW [none]) ag))))
 (ak (au 1 (ar cL (ac (ad 0) (ac (eC (.int 25)) ag))))
 (ak (bT (bi (ar db (aD 1 (ac (ad 3) ag)))) (gN 6) pY)
 (ay (eC (.bool true)))))))
def J6:LF=(ak (au 1 (ar cL (ac (ad 0) (ac (eC (.int 0)) ag))))
 (ak (au 2 (ar cK (aD 1 ag)))
 (ak (au 3 (ar bZ (aD 1 (ac (ad 2) (ac (eC (.int 8)) ag)))))
 (ak (sIf (tV (e2 eqD (ar ax (aD 1 (ac (eC (.int 5)) ag))) (eC (.int 0)))) (au 3 (ar fg (aD 1 (ac (ad 2) ag)))) aW) lR)))):=rfl
def AD:J7 yb:=by
 intro ns hn
 suffices W (yb [.list (ns.map .int)]) (fun r=>∃o,r=(.bool true,o))by
  obtain⟨_,e,o,rfl⟩:=this.ex;exact⟨o,e⟩
 simp only[ws,yb,J6];refine W.of (show cL [.list (ns.map .int),.int 0]=some (Pen2.penD ns 0 0,[none,none])from rfl) ?_;simp only[ws];refine GU (n:=0) ⟨ns,0,0,rfl,by decide,by decide,by decide⟩ (by decide) fun s p1 s1 s2 hp1=>?_;simp only[ws];refine Lw hp1 (by omega) s1 s2 fun t0 p2 hm hp2=>?_;simp only[ws];refine dN hp2 (by omega) (by decide) (by decide) fun r p3 r0 r1 hp3=>?_;have fin:∀(t:D) (q x:Option D),Mk s t->W (lR [some (.list (ns.map .int)),q,x,some t,none,none,none,none,none,none]) (kFn [0] fun r=>∃o,r=(.bool true,o)):=fun t q x ⟨S,es,gs,e,M,hS⟩=>by
  subst e;have le:=M.le;have lg:=M.lg;simp only[ws,lR,aA,zad];rw[le,show(2*(S:Int)+2)=((2*S+2:Nat):Int)by omega];refine⟨.inl ⟨by decide,by decide⟩,?_⟩;refine W.use (t9 M (N:=2*S+2) (by omega)) ?_;rintro _ rfl;simp only[ws];refine dM (fun t=>t) (by rw[zad,lg];exact sz (by omega)) (fun t ht=>?_) fun o=>?_
  ·obtain⟨r,_,rfl⟩:=zaz.mp ht;simp only[ws,uW,aT]
  rw[List.map_id'];simp only[ws];refine W.of (show cL [.list (ns.map .int),.int 25]=some (Pen2.penD ns 25 0,[none,none])from rfl) ?_;simp only[ws];refine wv M hS (n:=25) ⟨ns,25,0,rfl,by decide,by decide,by decide⟩ (by decide) fun ts p' tl ht hp'=>?_;simp only[ws];exact Fv M hS (by omega) tl ht hp' (by decide)
 simp only[ws,dY];by_cases hr:r=0
 ·simp only[ws,hr,decide_true];refine EY hp3 (by omega) s1 s2 fun t p4 hm hp4=>?_;simp only[ws];exact fin t _ _ hm
 ·simp only[ws,hr,decide_false];exact fin t0 _ _ hm
end W33
set_option maxHeartbeats 4000000
namespace W33
variable{w:World}{K:zbY}{mg:Str->Option Value}{h:Heap}
open PySem L2
section
variable{P:Program}{base:Heap}{k dr:Nat}{x:Str}{ps:List Str}{dps:List Nat}{f:Addr}{st:Stmt}{sp:L2.Sp}
abbrev Nu(x:Str)(st:Stmt)(ps:List Str):Prop:=∀(kV doc pm:Value) (an:Option Addr) (cdv ct:Value) (us:List Value),us.length=ps.length->bindArgs (PySem.W.fnOf x x (e8 st) (c9 st) (aq st) .none kV doc pm an cdv ct) ⟨us,[]⟩=pure (ps.zip us)
def _root_.L2.Kn.up{j:Nat}(G:Kn P w K mg base j x ps sp)(h:j<=k:=by decide):Kn P w K mg base k x ps sp:=G.mono h
def knA(d:Df K x st f)(X:K.In h)(G:h.Ns mainGlobals mg)(ok:∀fd,Fun K x x st f fd->FnOk P w K mg base CX0 k f fd ps sp)(b:Nu x st ps:=by intro _ _ _ _ _ _ us hl;rcases us with _|⟨_,_|⟨_,_|⟨_,_|⟨_,_|⟨_,_⟩⟩⟩⟩⟩<;>first|rfl|cases hl):Kn P w K mg base k x ps sp:=d.kn X G b ok
end
def all_mk{l:PySem.W.OpenLaw}{fa f0 f1 f2 f3 f4 f5 f6 f7 f8 f9 f10 f11 f12 f13 f14 f15 f16 f17 f18 f19 f20 f21 f22 f23 f24 f25 f26 f27 f28 f29 f30 f31 f32 f33 f34 f35 f36 f37 f38:Addr}(X:K.In h)(G:h.Ns mainGlobals mg)(hfa:mg "law"=some (.ref fa))
  (d0:Df K "_law_pen" mH f0)
  (d1:Df K "_law_mixed" jV f1)
  (d2:Df K "_law_take" lx f2)
  (d3:Df K "_law_signs" jU f3)
  (d4:Df K "_law_goal" lB f4)
  (d5:Df K "_law_machine" dP f5)
  (d6:Df K "_law_table" fw f6)
  (d7:Df K "_law_due" fU f7)
  (d8:Df K "_law_mingled" iC f8)
  (d9:Df K "_law_row_to" ji f9)
  (d10:Df K "_law_written" dO f10)
  (d11:Df K "_law_ring" iQ f11)
  (d12:Df K "_law_lists" gY f12)
  (d13:Df K "_law_bent" fc f13)
  (d14:Df K "is_whole" mG f14)
  (d15:Df K "is_whole_within" fN f15)
  (d16:Df K "are_numbers_below" dw f16)
  (d17:Df K "are_stands" jT f17)
  (d18:Df K "are_layers" gW f18)
  (d19:Df K "first_layers" iB f19)
  (d20:Df K "all_within" gX f20)
  (d21:Df K "leads_on" mE f21)
  (d22:Df K "holds_none" jS f22)
  (d23:Df K "is_end" qQ f23)
  (d24:Df K "led" BD f24)
  (d25:Df K "gone" xL f25)
  (d26:Df K "lets" xK f26)
  (d27:Df K "how_many_signs" gi f27)
  (d28:Df K "are_signs" lw f28)
  (d29:Df K "holds_row" lu f29)
  (d30:Df K "holds_shortest" gj f30)
  (d31:Df K "_law_gone" lA f31)
  (d32:Df K "_law_lets" lz f32)
  (d33:Df K "_law_leads" gZ f33)
  (d34:Df K "_law_inside" jj f34)
  (d35:Df K "_law_stands" jh f35)
  (d36:Df K "_law_holds" hC f36)
  (d37:Df K "_law_true" gm f37)
  (d38:Df K "law" mF f38)
  (z0:PySem.W.nsIn K mainGlobals "abs"=some none)
  (z1:PySem.W.nsIn K mainGlobals "all"=some none)
  (z2:PySem.W.nsIn K mainGlobals "bool"=some none)
  (z3:PySem.W.nsIn K mainGlobals "enumerate"=some none)
  (z4:PySem.W.nsIn K mainGlobals "int"=some none)
  (z5:PySem.W.nsIn K mainGlobals "isinstance"=some none)
  (z6:PySem.W.nsIn K mainGlobals "len"=some none)
  (z7:PySem.W.nsIn K mainGlobals "list"=some none)
  (z8:PySem.W.nsIn K mainGlobals "max"=some none)
  (z9:PySem.W.nsIn K mainGlobals "range"=some none)
  (z10:PySem.W.nsIn K mainGlobals "repr"=some none)
  (z11:PySem.W.nsIn K mainGlobals "sorted"=some none)
  (z12:PySem.W.nsIn K mainGlobals "str"=some none)
  (z13:PySem.W.nsIn K mainGlobals "sum"=some none)
  (z14:PySem.W.nsIn K mainGlobals "tuple"=some none):
  ∃fd:FuncData,(∀(s:Shared) (v:Value),BindsTo s fd ⟨[v],[]⟩ [("_law_script",v)])/\∀base:Heap,K.In base->base.Ns mainGlobals mg->FnOk l.prog w K mg base CX0 8 fa fd ["_law_script"] (oU K):=by
 have e:=hfa.symm.trans (PySem.W.mg_of X G d38.a);cases e;have m:=fun {x:Str} (z:PySem.W.nsIn K mainGlobals x=some none)=>PySem.W.mg_none_of X G z;have T:Bl mg:=⟨(m z0),(m z1),(m z2),(m z3),(m z4),(m z5),(m z6),(m z7),(m z8),(m z9),(m z10),(m z11),(m z12),(m z13),(m z14)⟩;obtain⟨oc,od,kV,dc,pm,an,cd,ct,sl,ll,lc⟩:=d38.l;have FL:=y3 (st:=mF) ll lc d38.k;refine⟨PySem.W.fnOf "law" "law" (e8 mF) (c9 mF) (aq mF) .none kV dc pm an cd ct,fun s v=>.of_eq rfl,fun base _ _=>?_⟩;have g0:pS l.prog w K mg base 1:=knA d0 X G fun _ F=>wY (k:=0) T     F;have g1:mN l.prog w K mg base 1:=knA d1 X G fun _ F=>tJ (k:=0) T     F;have g2:cy l.prog w K mg base 2:=knA d2 X G fun _ F=>ve (k:=1) T  g1.up   F;have g3:mM l.prog w K mg base 3:=knA d3 X G fun _ F=>tI (k:=2) T  g2.up   F;have g4:nT l.prog w K mg base 3:=knA d4 X G fun _ F=>vi (k:=2) T  g2.up   F;have g5:kx l.prog w K mg base 4:=knA d5 X G fun _ F=>qC (k:=3) T  g2.up g4.up   F;have g6:mL l.prog w K mg base 1:=knA d6 X G fun _ F=>tH (k:=0) T     F;have g7:pT l.prog w K mg base 1:=knA d7 X G fun _ F=>wZ (k:=0) T     F;have g8:ku l.prog w K mg base 3:=knA d8 X G fun _ F=>qB (k:=2) T  g2.up   F;have g9:lM l.prog w K mg base 1:=knA d9 X G fun _ F=>rR (k:=0) T     F;have g10:kt l.prog w K mg base 4:=knA d10 X G fun _ F=>qA (k:=3) T  g7.up g8.up g9.up   F;have g11:nN l.prog w K mg base 3:=knA d11 X G fun _ F=>vf (k:=2) T  g2.up   F;have g12:mO l.prog w K mg base 3:=knA d12 X G fun _ F=>tK (k:=2) T  g2.up   F;have g13:nU l.prog w K mg base 4:=knA d13 X G fun _ F=>vm (k:=3) T  g2.up g12.up   F;have g14:pR l.prog w K mg base 1:=knA d14 X G fun _ F=>wX (k:=0) T     F;have g15:iK l.prog w K mg base 2:=knA d15 X G fun _ F=>nr (k:=1) T  g14.up   F;have g16:eh l.prog w K mg base 3:=knA d16 X G fun _ F=>lY (k:=2) T  g15.up   F;have g17:mJ l.prog w K mg base 4:=knA d17 X G fun _ F=>tD (k:=3) T  g16.up   F;have g18:jn l.prog w K mg base 5:=knA d18 X G fun _ F=>tE (k:=4) T  g17.up   F;have g19:kq l.prog w K mg base 1:=knA d19 X G fun _ F=>qz (k:=0) T     F;have g20:mK l.prog w K mg base 1:=knA d20 X G fun _ F=>tG (k:=0) T     F;have g21:lC l.prog w K mg base 2:=knA d21 X G fun _ F=>wW (k:=1) T  g19.up g20.up   F;have g22:mI l.prog w K mg base 6:=knA d22 X G fun _ F=>tw (k:=5) T  g18.up g21.up   F;have g23:uO l.prog w K mg base 1:=knA d23 X G fun _ F=>Ay (k:=0) T     F;have g24:EJ l.prog w K mg base 1:=knA d24 X G fun _ F=>L1 (k:=0) T     F;have g25:zU l.prog w K mg base 2:=knA d25 X G fun _ F=>JR (k:=1) T  g24.up   F;have g26:zT l.prog w K mg base 3:=knA d26 X G fun _ F=>JQ (k:=2) T  g23.up g25.up   F;have g27:jk l.prog w K mg base 1:=knA d27 X G fun _ F=>oF (k:=0) T     F;have g28:nL l.prog w K mg base 4:=knA d28 X G fun _ F=>vc (k:=3) T  g16.up g27.up   F;have g29:nK l.prog w K mg base 6:=knA d29 X G fun _ F=>vb (k:=5) T  g26.up g21.up g18.up g28.up   F;have g30:jm l.prog w K mg base 7:=knA d30 X G fun _ F=>oG (k:=6) T  g22.up g29.up   F;have g31:nQ l.prog w K mg base 1:=knA d31 X G fun _ F=>vh (k:=0) T     F;have g32:nP l.prog w K mg base 2:=knA d32 X G fun _ F=>vg (k:=1) T  g31.up   F;have g33:mP l.prog w K mg base 1:=knA d33 X G fun _ F=>tL (k:=0) T     F;have g34:lN l.prog w K mg base 2:=knA d34 X G fun _ F=>rS (k:=1) T  g33.up   F;have g35:lL l.prog w K mg base 1:=knA d35 X G fun _ F=>rQ (k:=0) T     F;have g36:mQ l.prog w K mg base 3:=knA d36 X G fun _ F=>tM (k:=2) T  g32.up g34.up g35.up   F;have g37:nM l.prog w K mg base 1:=knA d37 X G fun _ F=>vd (k:=0) T     F;exact(L3 (k:=7) T  g0.up g3.up g5.up g6.up g10.up g2.up g11.up g13.up g30.up g36.up g37.up   FL).imp fun vs H Q E h=>J4 AD h
def walk{l:PySem.W.OpenLaw}{q:Program}{f':List Str}{XP:(Str->Option Value)->Heap->Prop}{YP:World->Heap->Prop}{d:DefRec}{K:Params->zbY}(hn:l.most=some 63)(hdf:d.params.defaults=[])(hq:PyProof.Rows.importsNone q=true)
  (hY:∀(w:World) (h:Heap),YP w h->(K w.params).In h)
  (F:∀(w:World) (mg:Str->Option Value) (fa:Addr) (h:Heap),(K w.params).In h->h.Ns mainGlobals mg->mg d.name=some (.ref fa) ->
   ∃fd:FuncData,(∀(s:Shared) (u:Value),BindsTo s fd ⟨[u],[]⟩ [("_law_script",u)])/\∀base:Heap,(K w.params).In base->base.Ns mainGlobals mg->FnOk l.prog w (K w.params) mg base CX0 8 fa fd ["_law_script"] (oU (K w.params))):
  PySem.W.WalkO q f' XP YP l.row.toRowW d [] (fun f vs=>PySem.call f vs):=
 L2.walk_of (n:=63) (k:=8) (x:="_law_script") (CX:=fun _=>CX0) (sp:=fun w=>oU (K w.params)) hn (by decide) hdf ⟨rfl,by decide,by decide,rfl⟩ hq hY F (fun _ _ a ns hl hO hS=>⟨a,ns,rfl,hS,hO,hl,fun _=>rfl⟩) fun _ _ _ _ _ z=>z
end W33
open PySem PySem.W PyProof.Rows
set_option maxRecDepth 100000 in
set_option maxHeartbeats 0 in
theorem PySem.Challenge.cw_wordrules_k33_what_is_a_shortest_holds : PySem.Challenge.rw_wordrules_k33_what_is_a_shortest.Holds := by
 w_on;o_law;k_head;(case hw=>w_witness2)
 k_fill
 refine W33.walk (l:=PySem.Challenge.rw_wordrules_k33_what_is_a_shortest) rfl rfl rfl (fun w h Y=>PySem.W.kIn_of Y) ?F
 case F=>
  intro w mg fa h KX G hmg;refine' W33.all_mk KX G hmg (.mk' ?_ ?_ ?_ ?_) (.mk' ?_ ?_ ?_ ?_) (.mk' ?_ ?_ ?_ ?_) (.mk' ?_ ?_ ?_ ?_) (.mk' ?_ ?_ ?_ ?_) (.mk' ?_ ?_ ?_ ?_) (.mk' ?_ ?_ ?_ ?_) (.mk' ?_ ?_ ?_ ?_) (.mk' ?_ ?_ ?_ ?_) (.mk' ?_ ?_ ?_ ?_) (.mk' ?_ ?_ ?_ ?_) (.mk' ?_ ?_ ?_ ?_) (.mk' ?_ ?_ ?_ ?_) (.mk' ?_ ?_ ?_ ?_) (.mk' ?_ ?_ ?_ ?_) (.mk' ?_ ?_ ?_ ?_) (.mk' ?_ ?_ ?_ ?_) (.mk' ?_ ?_ ?_ ?_) (.mk' ?_ ?_ ?_ ?_) (.mk' ?_ ?_ ?_ ?_) (.mk' ?_ ?_ ?_ ?_) (.mk' ?_ ?_ ?_ ?_) (.mk' ?_ ?_ ?_ ?_) (.mk' ?_ ?_ ?_ ?_) (.mk' ?_ ?_ ?_ ?_) (.mk' ?_ ?_ ?_ ?_) (.mk' ?_ ?_ ?_ ?_) (.mk' ?_ ?_ ?_ ?_) (.mk' ?_ ?_ ?_ ?_) (.mk' ?_ ?_ ?_ ?_) (.mk' ?_ ?_ ?_ ?_) (.mk' ?_ ?_ ?_ ?_) (.mk' ?_ ?_ ?_ ?_) (.mk' ?_ ?_ ?_ ?_) (.mk' ?_ ?_ ?_ ?_) (.mk' ?_ ?_ ?_ ?_) (.mk' ?_ ?_ ?_ ?_) (.mk' ?_ ?_ ?_ ?_) (.mk' ?_ ?_ ?_ ?_) ?_ ?_ ?_ ?_ ?_ ?_ ?_ ?_ ?_ ?_ ?_ ?_ ?_ ?_ ?_
  all_goals (try k_is)

