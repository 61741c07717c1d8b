import PyProof.Rows.All
import Wide.All
import OpenK.AllK
import Wide.FinOn
import Lean
import PyProof.EqAt
import PyProof.EqKinds
import PyProof.TupleCall
import PyProof.NeKinds
import PyProof.ConsumeWalk
import PyProof.ZipIter
import PyProof.EnumMake
import PyProof.EnumFor
import PyProof.StrWalks
import PyProof.ListStr
import PyProof.SliceStr2
import PyProof.StrBlockI
import PyProof.Rows.StrWeight2
import PyProof.Rows.ZipGen
import PyProof.Rows.StrIndexOr
import PyProof.Draws
import PyProof.RaisesStr
import PyProof.Rows.StrCountLaw
import PyProof.SumWalk
import PyProof.ReprRoads
import PyProof.ReprLen
import PyProof.CallFns
import PyProof.SumAny
import PyProof.SumAnyB
import KE.KRevIter
import PyProof.Rows.SetFrom
import PySem.Challenge.RW_wordrules_k36_pairs_looked_at
set_option Elab.async false
set_option linter.all false
set_option maxRecDepth 100000
section
open PySem PyProof.Rows
def zaa:=@Option.bind_eq_some_iff
def zab:=@Option.map_eq_some_iff
def zac:=@List.length_cons
def zad:=@List.length_map
def zae:=@List.length_append
def zaf:=@Heap.get?_push_of_some
def zag:=@Nat.lt_of_lt_of_le
def zah:=@List.getElem?_eq_some_iff
def zai:=@List.size_toArray
def zaj:=@List.mem_cons_of_mem
def zak:=@List.getElem?_eq_getElem
def zal:=@Heap.lt_size
def zam:=@wpAny_bind
def zan:=@Heap.get?_push_size
def zao:=@List.getElem?_map
def zaq:=@List.mem_cons_self
def zar:=@List.map_cons
def zas:=@List.lookup_cons
def zat:=@Option.some.inj
def zau:=@Nat.le_trans
def zav:=@Nat.le_refl
def zaw:=@Nat.ne_of_lt
def zax:=@List.mem_append
def zay:=@List.mem_cons
def zaz:=@List.mem_map
def zaA:=@decide_eq_false
def zaB:=@decide_eq_true
def zaC:=@List.map_append
def zaE:=@List.length_take
def zaF:=@List.length_drop
def zaG:=@Bool.true_and
def zaH:=@List.mem_singleton
def zaI:=@Nat.lt_irrefl
def zaL:=@Int.toNat_natCast
def zaO:=@List.getElem?_set_ne
def zaP:=@List.getElem?_set_self
def zaQ:=@List.take_length
def zaR:=@List.map_map
def zaS:=@List.getElem?_append_left
def zaT:=@wpAny_pure
def zaU:=@PySem.mem_of_lookup
def zaV:=@List.length_set
def zaX:=@List.mem_of_getElem?
def zaY:=@Array.length_toList
def za1:=@Prod.mk.injEq
def za4:=@List.length_eq_zero_iff
def za9:=@List.nodup_cons
def zbb:=@List.length_range
def zbd:=@List.mem_append_right
def zbe:=@List.getD_eq_getElem?_getD
def zbf:=@decide_eq_true_iff
def zbg:=@Nat.zero_le
def zbh:=@Bool.and_self
def zbi:=@List.getElem?_eq_none
def zbj:=@Bool.and_eq_true
def zbk:=@Bool.false_ne_true
def zbl:=@List.find?_cons
def zbn:=@List.mem_range
def zbr:=@Heap.size_push
def zbs:=@List.map_congr_left
def zbw:=@wpAny_truthy_bool
def zbx:=@wpAny_callSpecial?_slot
def zby:=@List.mem_filter
def zbG:=@Int.zero_add
def zbH:=@List.mem_or_eq_of_mem_set
def zbK:=@beq_eq_false_iff_ne
def zbM:=@wpAny_holding
def zbO:=@Bool.and_true
def zbP:=@Bool.and_false
abbrev zbQ:=PySem.W.Frag
end
namespace PySem.W.Fast
def tw10047130839011704484:=0
def tw10437566585006818702:=0
def tw10467245202230390011:=0
def tw10468952213747358524:=0
def tw10488143976046463696:=0
def tw10488705978885834538:=0
def tw10776378695840443764:=0
def tw10810249557079348112:=0
def tw10810394332430336862:=0
def tw10933642066108557194:=0
def tw11019528210661328472:=0
def tw11105726139479201396:=0
def tw11114435617770812002:=0
def tw11138565819052694576:=0
def tw11230129497255474726:=0
def tw11293615777036493902:=0
def tw11317221883812607280:=0
def tw11374377230086628233:=0
def tw11405109365562552882:=0
def tw11424306463358452385:=0
def tw11434529430755269055:=0
def tw11470257064840756139:=0
def tw11638230061522374151:=0
def tw11730420048261046975:=0
def tw11742027894923878575:=0
def tw11747158823343684616:=0
def tw11823626831394659300:=0
def tw11826208144077136191:=0
def tw11890004931815830157:=0
def tw11936528853804964347:=0
def tw11943052838785046213:=0
def tw11975498046887863856:=0
def tw12135493896622518526:=0
def tw12176858943952551268:=0
def tw12270047074432937404:=0
def tw12360849624453014660:=0
def tw12471893048056376337:=0
def tw12645610113177949681:=0
def tw12840373824781707832:=0
def tw1286002531207119778:=0
def tw12936436373094254116:=0
def tw13310477889218550366:=0
def tw13396522539403005352:=0
def tw13397699920905774232:=0
def tw13512312486340929041:=0
def tw13648897725233006154:=0
def tw13652966377987323049:=0
def tw13703375797858394875:=0
def tw13748316477419350510:=0
def tw13805316455134351317:=0
def tw13982027040327987643:=0
def tw14004493876695395315:=0
def tw14012133277650943735:=0
def tw14040361166436530531:=0
def tw14089790285556984746:=0
def tw14102051041253627283:=0
def tw14160533994473710480:=0
def tw14194002215205175263:=0
def tw14207899130333043935:=0
def tw1421766399634083758:=0
def tw14218581091592670343:=0
def tw14288206196421658114:=0
def tw14373464865984148297:=0
def tw14450114632956545547:=0
def tw14589851513851402302:=0
def tw14643701846827366629:=0
def tw14693915875651198889:=0
def tw14821248905466836615:=0
def tw14849182315102659772:=0
def tw14860944533251439791:=0
def tw14907870722463979144:=0
def tw15013902738590396793:=0
def tw15146654924900583562:=0
def tw15175432688996503940:=0
def tw15197584432826270902:=0
def tw1524814816352669871:=0
def tw15527813767097642722:=0
def tw15701410342080840463:=0
def tw15950561460479941043:=0
def tw15968836376417581634:=0
def tw16122258283191351390:=0
def tw16173007211455798417:=0
def tw16245210090275604585:=0
def tw16305676147135042719:=0
def tw16385827747144915191:=0
def tw16514889900535720733:=0
def tw16583387475513324641:=0
def tw16698175273770009250:=0
def tw16709732458569641095:=0
def tw16802463293132075704:=0
def tw16821113892179500775:=0
def tw16898486322332469461:=0
def tw17038411865072566867:=0
def tw17168879610512279849:=0
def tw17312651763034784914:=0
def tw17440561457950793469:=0
def tw17622810633148125866:=0
def tw17637866769476247885:=0
def tw17700083407707738825:=0
def tw1770330587877978740:=0
def tw17755164068769617168:=0
def tw17759199803374754358:=0
def tw17773502885238482077:=0
def tw17811620140160831902:=0
def tw17819423853463204240:=0
def tw18054462688499630371:=0
def tw18243176959080321907:=0
def tw18247530776564969334:=0
def tw18305899442038108984:=0
def tw1966356265334667813:=0
def tw2055409620689825214:=0
def tw2167621068156585137:=0
def tw2243996270798697602:=0
def tw2371805548228568749:=0
def tw2409146030369105482:=0
def tw2410554441170741930:=0
def tw2464689024407106617:=0
def tw2479895671771354421:=0
def tw2543846513938361459:=0
def tw2560523526263851816:=0
def tw2616477660378677402:=0
def tw2750400074099229619:=0
def tw3013541361152707531:=0
def tw3019609654098092896:=0
def tw3217224677931599876:=0
def tw3344832469086682137:=0
def tw3367447896200033119:=0
def tw3453107744939242833:=0
def tw3663647510173783079:=0
def tw375652360718557880:=0
def tw3848484754818187179:=0
def tw3915396508595967822:=0
def tw4015276842810101220:=0
def tw4033349051135128741:=0
def tw4089944430982456195:=0
def tw4108879892453220489:=0
def tw4116192742159660732:=0
def tw4128285633699547047:=0
def tw4174138363035466956:=0
def tw4291264025025104897:=0
def tw4342777484210979506:=0
def tw436822677727020050:=0
def tw43972193499343468:=0
def tw4430316525177448600:=0
def tw4491765568653166299:=0
def tw4521866454582281574:=0
def tw4586863174901600075:=0
def tw4646750974372178260:=0
def tw4674595314076235181:=0
def tw4692269606231497674:=0
def tw4816956390246308532:=0
def tw4830340545494815271:=0
def tw4961399656958506583:=0
def tw5053282873311731454:=0
def tw5265770645312610047:=0
def tw5318222969587300681:=0
def tw5344569562772272027:=0
def tw5572070193113128911:=0
def tw5586333697459542908:=0
def tw5612456838163527372:=0
def tw5661852145946584996:=0
def tw5817477882728246641:=0
def tw5836560435091978662:=0
def tw585871983220242302:=0
def tw6021848086161174372:=0
def tw6175084879725226910:=0
def tw6176225965551709317:=0
def tw6284109190540626422:=0
def tw6421408884710109994:=0
def tw6478619887779233408:=0
def tw652815603613830263:=0
def tw6630762497956868689:=0
def tw6661888269000265563:=0
def tw6728531590591965701:=0
def tw673647863412752229:=0
def tw6776514890010102218:=0
def tw6817074487827038739:=0
def tw6900984319754644580:=0
def tw6943299159560239981:=0
def tw6947534966971223280:=0
def tw7062581525548414253:=0
def tw7245004258541517043:=0
def tw7359954867844058388:=0
def tw7570399555091099227:=0
def tw772476050945228747:=0
def tw7788383996569671489:=0
def tw7809065840969298831:=0
def tw7921699717666132333:=0
def tw7935757335709740559:=0
def tw8040896677082837834:=0
def tw8077565618993916299:=0
def tw8111844846843654354:=0
def tw8205943523912273742:=0
def tw8249087148092602612:=0
def tw8277716090946803164:=0
def tw8331592916253889463:=0
def tw8521722294003455663:=0
def tw85659645000689555:=0
def tw8604463020738000468:=0
def tw8628058166734396036:=0
def tw8645391084448007505:=0
def tw868382835501917977:=0
def tw8747818410541326834:=0
def tw8757219736368945385:=0
def tw8787474276980073059:=0
def tw8903264236630215029:=0
def tw893530950454170431:=0
def tw8994964500737878270:=0
def tw9110469490395111851:=0
def tw9455572276384916637:=0
def tw9468093707223518270:=0
def tw9592500763937129626:=0
def tw962698957377255264:=0
def tw9669741116258772984:=0
def tw9757318683547968804:=0
def tw9860242825586900458:=0
def tw9896465176188446395:=0
def tw9917439082028130824:=0
end PySem.W.Fast
namespace L2
variable{w:World}{A:Around}{E Q:Value->Shared->Prop}{s s':Shared}{a b dx C f:Addr}{u:Value}{h h':Heap}{P:Program}{x qual:Str}{e c tg:Expr}{ρ:List (Addr×Obj)}{g':Array GenState}{t' i j k n:Nat}{d':Drawn}{ch fp:List Addr}{N ps:List Str}{M:Model}{pos p:Pos}{op:CmpOp}{K:zbQ}{es:List Expr}{g:Int->Int->Int}{body:List Stmt}{us:List Value}{mA mg:Str->Option Value}{fd:FuncData}{scope:Scope}
open PySem PySem.Spec PyProof.Rows
abbrev Key:=Sum Int Str
def ji:Key->Value->Bool
 |.inl k,v=>Value.isInt k v
 |.inr x,v=>Value.isStrOf x v
def E4(w:World):Key->Int
 |.inl k=>hashInt k
 |.inr x=>hashStr w x
def aZ:∀{k:Key} {v:Value},ji k v=true->(∃i t,k=Sum.inl i/\v=Value.int i t)\/(∃x t,k=Sum.inr x/\v=Value.str x t)
 |.inl i,v,h=>by
  obtain⟨t,e⟩:=Value.isInt_shape (k:=i) (v:=v) h;exact .inl ⟨i,t,rfl,e⟩
 |.inr x,v,h=>by
  obtain⟨t,e⟩:=Value.isStrOf_shape (x:=x) (v:=v) h;exact .inr ⟨x,t,rfl,e⟩
def u9(i:Int)(t:Tok):ji (.inl i) (.int i t)=true:=by simp[ji,Value.isInt]
def u8(x:Str)(t:Tok):ji (.inr x) (.str x t)=true:=by simp[ji,Value.isStrOf]
def E3(a b:Int):decide ((Sum.inl a:Key)=Sum.inl b)=(a==b):=by
 by_cases e:a=b
 ·subst e;simp
 ·have h:¬(Sum.inl a:Key)=Sum.inl b:=fun q=>e (Sum.inl.inj q);rw[zaA h];exact(zbK.mpr e).symm
def EY(a b:Str):decide ((Sum.inr a:Key)=Sum.inr b)=decide (a=b):=by
 by_cases e:a=b
 ·subst e;simp
 ·have h:¬(Sum.inr a:Key)=Sum.inr b:=fun q=>e (Sum.inr.inj q);rw[zaA h,zaA e]
def E2(a:Int)(b:Str):decide ((Sum.inl a:Key)=Sum.inr b)=false:=zaA (fun q=>nomatch q)
def EZ(a:Str)(b:Int):decide ((Sum.inr a:Key)=Sum.inl b)=false:=zaA (fun q=>nomatch q)
def bg(prog:Program)(w:World):PySem.KeyKind prog w Key where
 is:=ji
 hash:=E4 w
 inj:=fun v a b ha hb=>by
  rcases aZ ha with⟨i,t,rfl,rfl⟩|⟨x,t,rfl,rfl⟩
  ·rcases aZ hb with⟨j,u,rfl,e⟩|⟨y,u,rfl,e⟩
   ·injection e with e1 _;rw[e1]
   ·exact nomatch e
  ·rcases aZ hb with⟨j,u,rfl,e⟩|⟨y,u,rfl,e⟩
   ·exact nomatch e
   ·injection e with e1 _;rw[e1]
 byValue:=fun k v h=>by
  rcases aZ h with⟨i,t,rfl,rfl⟩|⟨x,t,rfl,rfl⟩<;>rfl
 pyHash:=fun hv h=>by
  rcases aZ hv with⟨i,t,rfl,rfl⟩|⟨x,t,rfl,rfl⟩
  ·exact wpAny_pyHash_int h
  ·exact wpAny_pyHash_str h
 eqBool:=fun hu hv h=>by
  rcases aZ hu with⟨i,t,rfl,rfl⟩|⟨x,t,rfl,rfl⟩
  ·rcases aZ hv with⟨j,u,rfl,rfl⟩|⟨y,u,rfl,rfl⟩
   ·rw[E3]at h;exact wpAny_eqBool_int h
   ·rw[E2]at h;exact SeqAt.EqAt.int_str i t y u _ _ _ _ h
  ·rcases aZ hv with⟨j,u,rfl,rfl⟩|⟨y,u,rfl,rfl⟩
   ·rw[EZ]at h;exact SeqAt.EqAt.str_int x t j u _ _ _ _ h
   ·rw[EY]at h;exact wpAny_eqBool_str h
 «strs»:=fun k x t v h=>by
  rcases aZ h with⟨i,u,rfl,e⟩|⟨y,u,rfl,e⟩
  ·exact nomatch e
  ·injection e with e1 _
   subst e1;cases v<;>rfl
def rC(prog:Program)(w:World)(i:Int)(t:Tok):(bg prog w).is (.inl i) (.int i t)=true:=u9 i t
def rB(prog:Program)(w:World)(x:Str)(t:Tok):(bg prog w).is (.inr x) (.str x t)=true:=u8 x t
section
variable{prog:Program}   
def vn{Q:Int->Shared->Prop}(h:Q (reduceHash 0xFCA86420) { s with toks:=s.toks+1 }):wpAny (model prog w) A (pyHash .none) Q E s:=by
 have ty:s.TypeIs .none "NoneType":=rfl;show wpAny _ _ (pyHashByItsType .none) Q E s;refine PySem.W.pyHash_slot ty F.slot_NoneType_hash F.entry_NoneType_hash (F.args_NoneType_hash_1 _) (by decide) (.inl rfl) ?_;obtain⟨hp,g,d,tk,os⟩:=s;unfold Builtin.«NoneType.__hash__»
 wp_walk
 exact⟨_,_,rfl,h⟩
def ph:Option Key->Value->Bool
 |none,.none=>true
 |none,_=>false
 |some k,v=>ji k v
def bT{v:Value}(h:ph none v=true):v=.none:=by
 cases v<;>first|rfl|cases h
def dZ(prog:Program)(w:World):PySem.KeyKind prog w (Option Key) where
 is:=ph
 hash:=fun k=>match k with
  |none=>reduceHash 0xFCA86420
  |some k=>E4 w k
 inj:=fun v a b ha hb=>by
  cases a with
  |none=>
   cases b with
   |none=>rfl
   |some k=>
    rw[bT ha]at hb;cases k<;>cases hb
  |some k=>
   cases b with
   |none=>
    rw[bT hb]at ha;cases k<;>cases ha
   |some j=>rw[(bg prog w).inj v k j ha hb]
 byValue:=fun k v h=>by
  cases k with
  |none=>rw[bT h];rfl
  |some k=>exact(bg prog w).byValue k v h
 pyHash:=fun {A E s k v Q} hv h=>by
  cases k with
  |none=>rw[bT hv];exact vn h
  |some k=>exact(bg prog w).pyHash (k:=k) hv h
 eqBool:=fun {A E s a b u v Q} hu hv h=>by
  cases a with
  |none=>
   rw[bT hu];cases b with
   |none=>
    rw[bT hv];unfold PySem.eqBool;exact zam (wpAny_rule (zaT (by simpa using h)))
   |some k=>
    have e:decide ((none:Option Key)=some k)=false:=rfl;rw[e]at h;rcases aZ hv with⟨i,t,rfl,rfl⟩|⟨x,t,rfl,rfl⟩
    ·exact SeqAt.EqAt.none_int i t _ _ _ _ h
    ·exact SeqAt.EqAt.none_str x t _ _ _ _ h
  |some k=>
   cases b with
   |none=>
    rw[bT hv];have e:decide (some k=(none:Option Key))=false:=rfl;rw[e]at h;rcases aZ hu with⟨i,t,rfl,rfl⟩|⟨x,t,rfl,rfl⟩
    ·exact SeqAt.EqAt.int_none i t _ _ _ _ h
    ·exact SeqAt.EqAt.str_none x t _ _ _ _ h
   |some j=>
    refine(bg prog w).eqBool (a:=k) (b:=j) hu hv ?_;have e:decide (k=j)=decide (some k=some j):=by
     rw[decide_eq_decide];exact⟨fun z=>by rw[z],fun z=>zat z⟩
    rw[e];exact h
 «strs»:=fun k x t v h=>by
  cases k with
  |none=>cases h
  |some k=>exact(bg prog w).strs k x t v h
end
inductive V where
 |non|bl (b:Bool)|int (i:Int)|str (x:Str)|byt (b:Array UInt8)|flt (b:UInt64)|ref (a:Addr)|ty (n:String)
 deriving DecidableEq
variable{v y:V}{vs:List V}
def RelV:V->Value->Prop
 |.non,u=>u=Value.none
 |.bl b,u=>u=Value.bool b
 |.int i,u=>∃t,u=Value.int i t
 |.str x,u=>∃t,u=Value.str x t
 |.byt b,u=>∃t,u=Value.bytes b t
 |.flt b,u=>∃t,u=Value.float b t
 |.ref a,u=>u=Value.ref a
 |.ty n,u=>u=Value.type n
abbrev Vals:List V->List Value->Prop:=Paired RelV
def Vals.length{xs:List V}{us:List Value}(r:Vals xs us):xs.length=us.length:=Paired.length r
theorem Vals.get:∀{xs:List V} {us:List Value} {i:Nat} {x:V},Vals xs us->xs[i]?=some x->∃u,us[i]?=some u/\RelV x u
 |_,_,_,_,.nil,e=>by simp at e
 |_,_,0,_,.cons r _,e=>by simp at e;subst e;exact⟨_,rfl,r⟩
 |_,_,i+1,x,.cons _ t,e=>by
  obtain⟨u,h1,h2⟩:=Vals.get (i:=i) (x:=x) t (by simpa using e);exact⟨u,by simpa using h1,h2⟩
theorem Vals.set{x:V}{u:Value}(r:RelV x u):∀{xs:List V} {us:List Value} (i:Nat),Vals xs us->Vals (xs.set i x) (us.set i u)
 |_,_,_,.nil=>.nil
 |_,_,0,.cons _ t=>.cons r t
 |_,_,i+1,.cons q t=>.cons q (Vals.set r i t)
theorem Vals.append:∀{xs ys:List V} {us ws:List Value},Vals xs us->Vals ys ws->Vals (xs++ys) (us++ws)
 |_,_,_,_,.nil,s=>s
 |_,_,_,_,.cons r t,s=>.cons r (Vals.append t s)
theorem Vals.take:∀{xs:List V} {us:List Value} (n:Nat),Vals xs us->Vals (xs.take n) (us.take n)
 |_,_,0,_=>.nil
 |_,_,_+1,.nil=>.nil
 |_,_,n+1,.cons r t=>.cons r (Vals.take n t)
theorem Vals.drop:∀{xs:List V} {us:List Value} (n:Nat),Vals xs us->Vals (xs.drop n) (us.drop n)
 |_,_,0,r=>r
 |_,_,_+1,.nil=>.nil
 |_,_,n+1,.cons _ t=>Vals.drop n t
def RelO:Option V->Option Value->Prop
 |some v,some u=>RelV v u
 |none,none=>True
 |_,_=>False
def KV{κ:Type}:List (κ×V)->List (κ×Value)->Prop:=Paired fun(p:κ×V) (q:κ×Value)=>p.1=q.1/\RelV p.2 q.2
def kV:Key->V
 |.inl i=>.int i
 |.inr x=>.str x
def oV:Option Key->V
 |none=>.non
 |some k=>kV k
inductive HO where
 |lst (xs:List V)
 |tup (xs:List V)
 |dK (kvs:List (Key×V))|dT (kvs:List (List (Option Key)×V)) (ad:Addr->Prop)
 |set (S:Int->Bool) (n:Nat)
 |ins (C dx:Addr) (fs:List (Str×V))
 |own (x:Addr)
 |xd (fs:List (Str×V))
 |met (f x:Addr)
 |rng (lo hi:Int)
 |frz (o:Obj) (u:HO)
 |tbl (ps:Array Value)
 |ext (φ:Heap->Prop)
variable{o:HO}
abbrev Hp:=Addr->Option HO
variable{H H':Hp}
def upd(H:Hp)(a:Addr)(o:HO):Hp:=fun b=>if b=a then some o else H b
def ax:upd H a o a=some o:=by unfold upd;rw[if_pos rfl]
def au(h:b≠a):upd H a o b=H b:=by unfold upd;rw[if_neg h]
def pi{u:HO}(h:H a=some o)(h':H b=some u)(d:o≠u):a≠b:=by
 intro e;subst e;rw[h]at h';exact d (zat h')
def bn(h:H a=some o)(h':H b=none):a≠b:=by
 intro e;subst e;rw[h]at h';cases h'
def IsTupN(h:Heap)(a:Addr)(its:Array Value):Prop:=∃o,h.get? a=some o/\o.cls=.type "tuple"/\∃n,o.data=.seq its n/\o.dict=none
def IsTupN.tup{h:Heap}{a:Addr}{its:Array Value}(x:IsTupN h a its):IsTup h a its:=by
 obtain⟨o,h1,h2,n,h3,_⟩:=x;exact⟨o,h1,h2,n,h3⟩
def IsTupN.lt{its:Array Value}(x:IsTupN h a its):a<h.objs.size:=zal x.choose_spec.1
def IsTupN.new(h:Heap)(its:Array Value):IsTupN (h.push { cls:=.type "tuple",data:=.seq its }) h.objs.size its:=⟨_,zan _ rfl,rfl,_,rfl,rfl⟩
section
variable(P:Program)(w:World)
def ObjOk(H:Hp)(h:Heap)(a:Addr):HO->Prop
 |.lst xs=>xs.length<=sizeLine/\∃(its:List Value) (n:Nat),Vals xs its/\h.get? a=some { cls:=.type "list",data:=.seq its.toArray n }
 |.tup xs=>xs.length<=sizeLine/\∃its:List Value,Vals xs its/\IsTupN h a its.toArray
 |.dK kvs=>kvs.length<=sizeLine/\(a==sysModules)=false/\∃vs,KV kvs vs/\h.DictOf (bg P w) a vs
 |.dT kvs ad=>kvs.length<=sizeLine/\(a==sysModules)=false/\∃xs:List (List (Option Key)×Addr×Value),
   Paired (fun(p:List (Option Key)×V) (q:List (Option Key)×Addr×Value)=>p.1=q.1/\(H q.2.1=some (.tup (p.1.map oV))/\ad q.2.1)/\RelV p.2 q.2.2) kvs xs /\
   ∃o es ep,h.get? a=some o/\o.ExactDict/\o.data=.dict es ep/\es.toList=xs.map (entryOfKey (tupleKind (dZ P w)))/\(xs.map (·.1)).Nodup
 |.set S n=>h.SetOf (intKind P w) a S n
 |.ins C dx fs=>H dx=some (.own a)/\fs.length<=1000/\dx≠a/\h.get? a=some (PySem.W.instObj C dx) /\
   ∃mA,h.Ns1 dx mA/\(∀f,RelO (fs.lookup f) (mA f))/\PySem.Within mA (fs.map (·.1))
 |.own _=>∃o,h.get? a=some o
 |.xd fs=>∃mA,h.Ns1 a mA/\∀f,RelO (fs.lookup f) (mA f)
 |.rng lo hi=>∃t u v,h.get? a=some { cls:=.type "range",data:=.fields #[.int lo t,.int hi u,.int 1 v] }
 |.frz o u=>h.get? a=some o/\ObjOk H h a u
 |.tbl ps=>h.get? a=some { cls:=.none,data:=.fields ps }
 |.met f x=>h.get? a=some (PySem.W.methodObj (.ref f) (.ref x))
 |.ext φ=>φ h/\(∃o,h.get? a=some o)/\∀h1 h2:Heap,φ h1->(∀o,h1.get? a=some o->h2.get? a=some o)->φ h2
def HOk(H:Hp)(h:Heap):Prop:=∀a o,H a=some o->ObjOk P w H h a o
end
theorem ObjOk.lt(x:ObjOk P w H h a o):a<h.objs.size:=by
 cases o with
 |lst xs=>obtain⟨_,_,_,_,e⟩:=x;exact zal e
 |tup xs=>obtain⟨_,_,_,p⟩:=x;exact p.lt
 |dK kvs=>obtain⟨_,_,_,_,o,_,_,e,_⟩:=x;exact zal e
 |dT kvs ad=>obtain⟨_,_,_,_,o,_,_,e,_⟩:=x;exact zal e
 |set S n=>obtain⟨o,_,_,_,e,_⟩:=x;exact zal e
 |ins C dx fs=>obtain⟨_,_,_,e,_⟩:=x;exact zal e
 |own y=>obtain⟨_,e⟩:=x;exact zal e
 |xd fs=>obtain⟨_,⟨_,_,_,e,_⟩,_⟩:=x;exact zal e
 |rng lo hi=>obtain⟨_,_,_,e⟩:=x;exact zal e
 |frz ob u=>obtain⟨e,_⟩:=x;exact zal e
 |tbl ps=>exact zal (show h.get? a=some _ from x)
 |met f y=>exact zal (show h.get? a=some _ from x)
 |ext φ=>obtain⟨_,⟨_,e⟩,_⟩:=x;exact zal e
theorem Paired.mapP{α β:Type}{F G:α->β->Prop}:∀{l₁:List α} {l₂:List β},Paired F l₁ l₂->(∀a b,F a b->G a b)->Paired G l₁ l₂
 |_,_,.nil,_=>.nil
 |_,_,.cons r t,f=>.cons (f _ _ r) (Paired.mapP t f)
def ObjOk.stay(x:ObjOk P w H h a o)(k:∀b u,(b=a\/H b=some (.own a))->h.get? b=some u->h'.get? b=some u)
  (ho:∀b,H b=some (.own a)->H' b=some (.own a)) (ht:∀b xs,H b=some (.tup xs)->H' b=some (.tup xs)):ObjOk P w H' h' a o:=by
 induction o with
 |lst xs=>obtain⟨z,its,n,r,e⟩:=x;exact⟨z,its,n,r,k _ _ (.inl rfl) e⟩
 |tup xs=>obtain⟨z,its,r,ob,e,c⟩:=x;exact⟨z,its,r,ob,k _ _ (.inl rfl) e,c⟩
 |dK kvs=>obtain⟨z,y,vs,r,ob,es,ep,e,c⟩:=x;exact⟨z,y,vs,r,ob,es,ep,k _ _ (.inl rfl) e,c⟩
 |dT kvs ad=>
  obtain⟨z,y,xs,r,ob,es,ep,e,c⟩:=x;exact⟨z,y,xs,Paired.mapP r fun p q z=>⟨z.1,⟨ht _ _ z.2.1.1,z.2.1.2⟩,z.2.2⟩,ob,es,ep,k _ _ (.inl rfl) e,c⟩
 |set S n=>obtain⟨ob,es,ep,t,e,c⟩:=x;exact⟨ob,es,ep,t,k _ _ (.inl rfl) e,c⟩
 |ins C dx fs=>
  obtain⟨d,z,ne,e,mA,⟨od,es,ep,e2,c⟩,r⟩:=x;exact⟨ho _ d,z,ne,k _ _ (.inl rfl) e,mA,⟨od,es,ep,k _ _ (.inr d) e2,c⟩,r⟩
 |own y=>obtain⟨ob,e⟩:=x;exact⟨ob,k _ _ (.inl rfl) e⟩
 |xd fs=>obtain⟨mA,⟨od,es,ep,e,c⟩,r⟩:=x;exact⟨mA,⟨od,es,ep,k _ _ (.inl rfl) e,c⟩,r⟩
 |rng lo hi=>obtain⟨t,u,v,e⟩:=x;exact⟨t,u,v,k _ _ (.inl rfl) e⟩
 |frz ob u ih=>obtain⟨e,q⟩:=x;exact⟨k _ _ (.inl rfl) e,ih q⟩
 |tbl ps=>
  have e:h.get? a=some { cls:=.none,data:=.fields ps }:=x;show h'.get? a=some { cls:=.none,data:=.fields ps };exact k a _ (.inl rfl) e
 |met f y=>
  have e:h.get? a=some (PySem.W.methodObj (.ref f) (.ref y)):=x;show h'.get? a=some (PySem.W.methodObj (.ref f) (.ref y));exact k a _ (.inl rfl) e
 |ext φ=>obtain⟨p,⟨o,e⟩,st⟩:=x;exact⟨st _ _ p fun o q=>k _ _ (.inl rfl) q,⟨o,k _ _ (.inl rfl) e⟩,st⟩
def HOk.lt(x:HOk P w H h)(e:H a=some o):a<h.objs.size:=(x a o e).lt
def HOk.fresh(x:HOk P w H h)(e:h.objs.size<=a):H a=none:=by
 cases q:H a with
 |none=>rfl
 |some u=>exact absurd (zag (x.lt q) e) (zaI _)
def HOk.kept(x:HOk P w H h)(k:∀b u,h.get? b=some u->h'.get? b=some u):HOk P w H h':=fun a o e=>
 (x a o e).stay (fun b u _ q=>k b u q) (fun _ q=>q) fun _ _ q=>q
def HOk.laid(x:HOk P w H h)(k:∀b u,h.get? b=some u->h'.get? b=some u)(hp:h.objs.size<=a)(new:ObjOk P w (upd H a o) h' a o):HOk P w (upd H a o) h':=fun b u e=>by
 have hn:=x.fresh hp;by_cases hb:b=a
 ·subst hb;rw[ax]at e;cases e;exact new
 ·rw[au hb]at e;exact(x b u e).stay (fun c v _ q=>k c v q) (fun c q=>by rw[au (bn q hn)];exact q) fun c xs q=>by rw[au (bn q hn)];exact q
def Rd(H:Hp)(a:Addr)(u:HO):Prop:=H a=some u\/∃o,H a=some (.frz o u)
def Rd.ok{u:HO}(r:Rd H a u)(x:HOk P w H h):ObjOk P w H h a u:=by
 rcases r with r|⟨o,r⟩
 ·exact x a u r
 ·obtain⟨_,q⟩:=x a _ r;exact q
def Mut:Option HO->Prop
 |some (.lst _)=>True
 |some (.dK _)=>True
 |some (.dT _ _)=>True
 |some (.set _ _)=>True
 |some (.ins _ _ _)=>True
 |some (.ext _)=>True
 |_=>False
section
variable{x e:Addr}{o':HO}
def HOk.write(ok:HOk P w H h)(mu:Mut (H x))(he:e=x\/H e=some (.own x))(k:∀b u,b≠e->h.get? b=some u->h'.get? b=some u)(heo:∃u,h'.get? e=some u)
  (new:ObjOk P w (upd H x o') h' x o'):HOk P w (upd H x o') h':=fun b u q=>by
 have nown:∀c y,H c=some (.own y)->c≠x:=fun c y r z=>by subst z;rw[r]at mu;exact mu
 have ntup:∀c xs,H c=some (.tup xs)->c≠x:=fun c xs r z=>by subst z;rw[r]at mu;exact mu
 by_cases hb:b=x
 ·subst hb;rw[ax]at q;cases q;exact new
 ·rw[au hb]at q;by_cases hbe:b=e
  ·have q':H b=some (.own x):=by
    rcases he with z|z
    ·exact absurd (hbe.trans z) hb
    ·rw[hbe];exact z
   rw[q]at q';cases q';obtain⟨v,hv⟩:=heo;exact⟨v,by rw[hbe];exact hv⟩
  ·refine(ok b u q).stay (fun c v hc r=>k c v ?_ r) (fun c r=>by rw[au (nown c b r)];exact r) fun c xs r=>by rw[au (ntup c xs r)];exact r
   rcases hc with rfl|hc
   ·exact hbe
   ·rintro rfl;rcases he with z|z
    ·exact nown c b hc z
    ·rw[hc]at z;cases z;exact hb rfl
end
structure Un(fs ex:List Addr)(H H':Hp)(h h':Heap):Prop where
 keep:∀b o,h.get? b=some o->H b=none->b∉fs->b∉ex->h'.get? b=some o
 slot:∀b o,h.get? b=some o->H b=none->b∈fs->b∉ex->∃sl,h'.get? b=some { o with slots:=sl }
 free:∀b o,h.get? b=some o->H b=none->b∉ex->H' b=none
 there:∀b o,h.get? b=some o->b∉ex->∃o',h'.get? b=some o'
 tups:∀b xs,H b=some (.tup xs)->H' b=some (.tup xs)
 frzs:∀b o u,H b=some (.frz o u)->H' b=some (.frz o u)
 tbls:∀b ps,H b=some (.tbl ps)->∃more,H' b=some (.tbl (ps++more))
section
variable{fs fs' ex ex':List Addr}{H1 H2:Hp}{h1 h2:Heap}{x e:Addr} 
def Un.any(u:Un fs ex H H1 h h1){ob:Obj}(q:h.get? b=some ob)(n:H b=none)(hx:b∉ex):∃sl,h1.get? b=some { ob with slots:=sl }:=by
 by_cases hb:b∈fs
 ·exact u.slot b ob q n hb hx
 ·exact⟨ob.slots,u.keep b ob q n hb hx⟩
def Un.trans(a:Un fs ex H H1 h h1)(b:Un fs ex H1 H2 h1 h2):Un fs ex H H2 h h2 where
 keep:=fun c ob q n hc hx=>b.keep c ob (a.keep c ob q n hc hx) (a.free c ob q n hx) hc hx
 slot:=fun c ob q n hc hx=>by
  obtain⟨sl,e1⟩:=a.slot c ob q n hc hx;obtain⟨sl',e2⟩:=b.slot c _ e1 (a.free c ob q n hx) hc hx;exact⟨sl',e2⟩
 free:=fun c ob q n hx=>by
  obtain⟨o',e1⟩:=a.there c ob q hx;exact b.free c o' e1 (a.free c ob q n hx) hx
 there:=fun c ob q hx=>by
  obtain⟨o',e1⟩:=a.there c ob q hx;exact b.there c o' e1 hx
 tups:=fun c xs q=>b.tups c xs (a.tups c xs q)
 frzs:=fun c ob xs q=>b.frzs c ob xs (a.frzs c ob xs q)
 tbls:=fun c ps q=>by
  obtain⟨m1,e1⟩:=a.tbls c ps q;obtain⟨m2,e2⟩:=b.tbls c _ e1;exact⟨m1++m2,by rw[e2,Array.append_assoc]⟩
def Un.kept(k:∀b u,h.get? b=some u->h'.get? b=some u):Un fs ex H H h h':=
 ⟨fun b ob q _ _ _=>k b ob q,fun b ob q _ _ _=>⟨ob.slots,k b ob q⟩,fun _ _ _ n _=>n,fun b ob q _=>⟨ob,k b ob q⟩,fun _ _ q=>q,fun _ _ _ q=>q,fun _ ps q=>⟨#[],by rw[q];simp⟩⟩
def Un.refl:Un fs ex H H h h:=Un.kept fun _ _ q=>q
def Un.laid(k:∀b u,h.get? b=some u->h'.get? b=some u)(hp:h.objs.size<=a)(hn:H a=none):Un fs ex H (upd H a o) h h' where
 keep:=fun b u q _ _ _=>k b u q
 slot:=fun b u q _ _ _=>⟨u.slots,k b u q⟩
 free:=fun b u q n _=>by rw[au (zaw (zag (zal q) hp))];exact n
 there:=fun b u q _=>⟨u,k b u q⟩
 tups:=fun b xs q=>by rw[au (bn q hn)];exact q
 frzs:=fun b u xs q=>by rw[au (bn q hn)];exact q
 tbls:=fun b ps q=>⟨#[],by rw[au (bn q hn),q];simp⟩
def Un.write(mu:Mut (H x))(he:e=x\/H e=some (.own x))(k:∀b u,b≠e->h.get? b=some u->h'.get? b=some u)(heo:∃u,h'.get? e=some u):Un fs ex H (upd H x o) h h':=by
 have hx:∀b,H b=none->b≠x:=fun b n z=>by subst z;rw[n]at mu;exact mu
 have hb:∀b,H b=none->b≠e:=fun b n z=>by
  subst z;rcases he with r|r
  ·exact hx b n r
  ·rw[n]at r;cases r
 have hm:∀b u,H b=some u->¬Mut (some u)->b≠x:=fun b u q nm z=>by subst z;rw[q]at mu;exact nm mu
 refine⟨fun b u q n _ _=>k b u (hb b n) q,fun b u q n _ _=>⟨u.slots,k b u (hb b n) q⟩,fun b u q n _=>by rw[au (hx b n)];exact n,fun b u q _=>?_,
  fun b xs q=>by rw[au (hm b _ q fun z=>z)];exact q,fun b u xs q=>by rw[au (hm b _ q fun z=>z)];exact q,fun b ps q=>⟨#[],by rw[au (hm b _ q fun z=>z),q];simp⟩⟩
 by_cases hbe:b=e
 ·subst hbe;exact heo
 ·exact⟨u,k b u hbe q⟩
end
def trk(h:Heap)(H:Hp):List Addr:=(List.range h.objs.size).filter fun a=>(H a).isSome
def jk(h:Heap)(H:Hp):Heap:=PySem.W.hideAll h (trk h H)
def vm(h:Heap)(H:Hp):(jk h H).objs.size=h.objs.size:=PySem.W.hideAll_size _ _
def wY{o:Obj}(e:h.get? b=some o)(n:H b=none):(jk h H).get? b=some o:=
 PySem.W.hideAll_get _ e fun hm=>by
  have q:(H b).isSome=true:=(zby.mp hm).2;rw[n]at q;simp at q
def Bo{o:Obj}(e:(jk h H).get? b=some o):h.get? b=some o/\H b=none:=by
 have e':h.get? b=some o:=PySem.W.of_hideAll (trk h H) e;refine⟨e',?_⟩;cases q:H b with
 |none=>rfl
 |some x=>
  have hm:b∈trk h H:=zby.mpr ⟨zbn.mpr (zal e'),by simp[q]⟩;have z:(jk h H).get? b=none:=PySem.W.hideAll_none (trk h H) hm;rw[z]at e;cases e
def Cl(g h:Heap)(L:Addr):List (Addr×Obj):=(List.range h.objs.size).filterMap fun a=>if a=L\/(g.get? a).isSome=true then none else(h.get? a).map fun o=>(a,o)
def rest(g h:Heap)(L d:Addr):List (Addr×Obj):=(Cl g h L).filter fun p=>decide (p.1≠d)
structure Mod(K:zbQ)(mg:Str->Option Value)(base:Heap):Prop where
 kin:K.In base
 glob:base.Ns mainGlobals mg
 blt:∃mb,base.Ns builtinsNs mb/\∀x:Str,x≠"__name__"->mb x=bootBuiltins x
 nolimit:base.NoLimit
 mods:∃mm,base.Ns sysModules mm
structure Cx where
 prog:Program
 w:World
 K:zbQ
 mg:Str->Option Value
 base:Heap
 A:Around
 N:List Str
 s₀:Shared
 H₀:Hp
 env:Env
 outer:List Env
 stack:List Env
 ex:List Addr
 fn:Str->Bool
 calm:Bool
 pn:List (Addr×Obj)
 xe:Value->Shared->Prop
variable{X:Cx}
def frs(l:List Env):List Addr:=l.filterMap (·.frame)
abbrev Cx.fs(X:Cx):List Addr:=frs X.outer
def Vis(sc:Scope)(x:Str):Prop:=sc.names.lookup x=some .local\/sc.names.lookup x=some .cell\/sc.names.lookup x=some .free
def Loc(sc:Scope)(x:Str):Prop:=sc.names.lookup x=some .local\/sc.names.lookup x=some .cell
def Iv(env:Env)(h:Heap)(m:Str->Option Value)(x:Str)(u:Value):Prop:=
 (env.kindOf x=some .local/\m x=some u)\/((env.kindOf x=some .cell\/env.kindOf x=some .free)/\∃c,env.cells.lookup x=some c/\h.IsCell c (some u))
structure Cx.Ok(X:Cx):Prop where
 mod:Mod X.K X.mg X.base
 kind:X.env.scope.kind=.function
 glob:X.env.globals=mainGlobals
 blt:X.env.builtins=builtinsNs
 above:X.s₀.heap.objs.size<=X.env.locals
 inj:∀x y c,X.env.cells.lookup x=some c->X.env.cells.lookup y=some c->x=y
 has:∀x,(X.env.kindOf x=some .cell\/X.env.kindOf x=some .free)->∃c,X.env.cells.lookup x=some c
 cab:∀x c,X.fn x=true->X.env.cells.lookup x=some c->X.s₀.heap.objs.size<=c
 hd:X.calm=true->X.A.handled=none
 frames:X.A.frames=some X.stack
 stk:X.stack=X.outer\/(X.stack=X.env::X.outer/\X.env.frame=some X.env.locals)
 exf:∀b∈X.ex,b≠X.env.locals/\∀x c,X.env.cells.lookup x=some c->c≠b
 bs:∀b o,X.base.get? b=some o->X.s₀.heap.get? b=some o/\X.H₀ b=none
 bsz:X.base.objs.size<=X.s₀.heap.objs.size
 noex:∀b o,X.base.get? b=some o->b∉X.ex
 exfs:∀b∈X.ex,b∉X.fs
 funs:X.s₀.heap.FunFrames X.base X.outer
 frf:∀b∈X.fs,X.H₀ b=none
structure Inv(X:Cx)(ρ:List (Addr×Obj))(σ:List (Option V))(H:Hp)(s:Shared):Prop where
 ok:X.Ok
 os:s.os=X.s₀.os
 bare:AllBare s.gens
 base:Un X.fs X.ex X.H₀ H X.s₀.heap s.heap
 loc:∃m,s.heap.Ns X.env.locals m/\∀(i:Nat) (x:Str) (v:V),X.N[i]?=some x->σ[i]?=some (some v)->Vis X.env.scope x->∃u,RelV v u/\Iv X.env s.heap m x u
 cell:∀x c,X.env.cells.lookup x=some c->∃v,s.heap.IsCell c v
 free:H X.env.locals=none
 freeC:∀x c,X.env.cells.lookup x=some c->H c=none
 pin:∀p∈X.pn++ρ,s.heap.get? p.1=some p.2/\H p.1=none/\p.1≠X.env.locals/\p.1∉X.fs/\∀v,p.2.data≠.cell v
 hok:HOk X.prog X.w H s.heap
 len:σ.length=X.N.length
section
variable{σ:List (Option V)}  
def Cx.Ok.nofr(ok:X.Ok){o:Obj}(e:X.base.get? b=some o):b∉X.fs:=fun hb=>by
 have:=(ok.funs.mem hb).1;rw[e]at this;cases this
def Inv.bs(I:Inv X ρ σ H s):∀b o,X.base.get? b=some o->s.heap.get? b=some o/\H b=none:=fun b o e=>
 ⟨I.base.keep b o (I.ok.bs b o e).1 (I.ok.bs b o e).2 (I.ok.nofr e) (I.ok.noex b o e),I.base.free b o (I.ok.bs b o e).1 (I.ok.bs b o e).2 (I.ok.noex b o e)⟩
def Inv.bk(I:Inv X ρ σ H s):∀b o,X.base.get? b=some o->s.heap.get? b=some o:=fun b o e=>(I.bs b o e).1
def Inv.mod(I:Inv X ρ σ H s):Mod X.K X.mg X.base:=I.ok.mod
def Inv.kIn(I:Inv X ρ σ H s):X.K.In s.heap:=I.ok.mod.kin.keeps I.bk
def Inv.lt(I:Inv X ρ σ H s):X.env.locals<s.heap.objs.size:=let⟨_,hn,_⟩:=I.loc;hn.lt
def Inv.sz(I:Inv X ρ σ H s):X.s₀.heap.objs.size<=s.heap.objs.size:=zau I.ok.above (Nat.le_of_lt I.lt)
def Inv.nofs(I:Inv X ρ σ H s)(h:s.heap.objs.size<=a):a∉X.fs:=fun hb=>by
 obtain⟨_,o,ho,_⟩:=I.ok.funs.mem hb;exact absurd (zag (zal ho) (zau I.sz h)) (zaI _)
def Inv.cne(I:Inv X ρ σ H s):∀x c,X.env.cells.lookup x=some c->c≠X.env.locals:=fun x c e z=>by
 obtain⟨v,o,ho,hd⟩:=I.cell x c e;obtain⟨m,⟨o',es,ep,ho',hd',_⟩,_⟩:=I.loc;rw[z,ho']at ho;cases ho;rw[hd']at hd;cases hd
theorem Inv.funs(I:Inv X ρ σ H s):s.heap.FunFrames X.base X.outer:=by
 have all:∀(l:List Env),(∀b∈frs l,b∈X.fs)->X.s₀.heap.FunFrames X.base l->s.heap.FunFrames X.base l:=by
  intro l
  induction l with
  |nil=>intro _ _;trivial
  |cons env r ih=>
   intro hs hl;obtain⟨hk,⟨L,o,hf,hn,ho,hd⟩,hr⟩:=hl;have hL:L∈X.fs:=hs L (by unfold frs;rw[List.filterMap_cons,hf];exact zaq);obtain⟨sl,e⟩:=I.base.slot L o ho (I.ok.frf L hL) hL fun z=>I.ok.exfs L z hL;exact⟨hk,⟨L,_,hf,hn,e,hd⟩,ih (fun b hb=>hs b (by unfold frs;rw[List.filterMap_cons,hf];exact zaj _ hb)) hr⟩
 exact all X.outer (fun _ hb=>hb) I.ok.funs
def Inv.stack(I:Inv X ρ σ H s):s.heap.FunFrames X.base X.stack:=by
 rcases I.ok.stk with e|⟨e,hf⟩
 ·rw[e];exact I.funs
 ·rw[e];obtain⟨m,hn,_⟩:=I.loc;refine .cons (by rw[I.ok.kind];decide) hf hn ?_ I.funs;exact Heap.get?_none_of_le (zau I.ok.bsz I.ok.above)
def Inv.stkSub(I:Inv X ρ σ H s):∀b∈frs X.stack,b∈X.env.locals::X.fs:=fun b hb=>by
 rcases I.ok.stk with e|⟨e,hf⟩
 ·rw[e]at hb;exact zaj _ hb
 ·rw[e]at hb;unfold frs at hb;rw[List.filterMap_cons,hf]at hb;exact hb
def Inv.stkFree(I:Inv X ρ σ H s):∀b∈frs X.stack,H b=none:=fun b hb=>by
 rcases zay.mp (I.stkSub b hb)with e|hb
 ·rw[e];exact I.free
 ·obtain⟨_,o,ho,_⟩:=I.ok.funs.mem hb;exact I.base.free b o ho (I.ok.frf b hb) fun z=>I.ok.exfs b z hb
def Inv.step(I:Inv X ρ σ H s)
  (hch:∀b∈ch,(b∈X.ex\/X.s₀.heap.objs.size<=b)/\b≠X.env.locals/\(∀x c,X.env.cells.lookup x=some c->c≠b)/\∀p∈X.pn++ρ,p.1≠b)
  (keep:∀b o,b≠X.env.locals->b∉X.fs->b∉ch->s.heap.get? b=some o->H b=none->h'.get? b=some o)
  (slot:∀b o,b≠X.env.locals->b∈X.fs->b∉ch->s.heap.get? b=some o->H b=none->∃sl,h'.get? b=some { o with slots:=sl }) (free:∀b o,b∉ch->s.heap.get? b=some o->H b=none->H' b=none)
  (there:∀b o,b∉ch->s.heap.get? b=some o->∃o',h'.get? b=some o')
  (tups:∀b xs,H b=some (.tup xs)->H' b=some (.tup xs)) (frzs:∀b o u,H b=some (.frz o u)->H' b=some (.frz o u)) (tbls:∀b ps,H b=some (.tbl ps)->∃more,H' b=some (.tbl (ps++more)))
  (ns:∀m,s.heap.Ns X.env.locals m->h'.Ns X.env.locals m) (hok:HOk X.prog X.w H' h') (hg:AllBare g'):
  Inv X ρ σ H' { s with heap:=h',gens:=g',drawn:=d',toks:=t' }:=by
 have neL:∀b o,X.s₀.heap.get? b=some o->b≠X.env.locals:=fun b o e=>zaw (zag (zal e) I.ok.above);have neC:∀b o,X.s₀.heap.get? b=some o->b∉X.ex->b∉ch:=fun b o e hx hb=>by
  rcases(hch b hb).1 with z|z
  ·exact hx z
  ·exact absurd (zag (zal e) z) (zaI _)
 have cellK:∀x c,X.env.cells.lookup x=some c->∀v,s.heap.IsCell c v->h'.IsCell c v:=fun x c e v ⟨o,ho,hd⟩=>by
  have nch:c∉ch:=fun z=>(hch c z).2.2.1 x c e rfl;by_cases hc:c∈X.fs
  ·obtain⟨sl,q⟩:=slot c o (I.cne x c e) hc nch ho (I.freeC x c e);exact⟨_,q,hd⟩
  ·exact⟨o,keep c o (I.cne x c e) hc nch ho (I.freeC x c e),hd⟩
 refine⟨I.ok,I.os,hg,⟨fun b o e n hb hx=>?_,fun b o e n hb hx=>?_,fun b o e n hx=>?_,fun b o e hx=>?_,fun b xs e=>tups b xs (I.base.tups b xs e),fun b o xs e=>frzs b o xs (I.base.frzs b o xs e),fun b ps e=>?_⟩,?_,fun x c e=>?_,?_,fun x c e=>?_,fun p hp=>?_,hok,I.len⟩
 ·exact keep b o (neL b o e) hb (neC b o e hx) (I.base.keep b o e n hb hx) (I.base.free b o e n hx)
 ·obtain⟨sl,e1⟩:=I.base.slot b o e n hb hx;obtain⟨sl',e2⟩:=slot b _ (neL b o e) hb (neC b o e hx) e1 (I.base.free b o e n hx);exact⟨sl',e2⟩
 ·obtain⟨o',e1⟩:=I.base.there b o e hx;exact free b o' (neC b o e hx) e1 (I.base.free b o e n hx)
 ·obtain⟨o',e1⟩:=I.base.there b o e hx;exact there b o' (neC b o e hx) e1
 ·obtain⟨m1,e1⟩:=I.base.tbls b ps e;obtain⟨m2,e2⟩:=tbls b _ e1;exact⟨m1++m2,by rw[e2,Array.append_assoc]⟩
 ·obtain⟨m,hn,hl⟩:=I.loc;refine⟨m,ns m hn,fun i x v e1 e2 e3=>?_⟩;obtain⟨u,r,l⟩:=hl i x v e1 e2 e3;refine⟨u,r,?_⟩;rcases l with l|⟨k,c,e,z⟩
  ·exact .inl l
  ·exact .inr ⟨k,c,e,cellK x c e _ z⟩
 ·obtain⟨v,z⟩:=I.cell x c e;exact⟨v,cellK x c e v z⟩
 ·obtain⟨m,⟨o,_,_,ho,_⟩,_⟩:=I.loc;exact free _ o (fun z=>(hch _ z).2.1 rfl) ho I.free
 ·obtain⟨v,o,ho,hd⟩:=I.cell x c e;exact free c o (fun z=>(hch c z).2.2.1 x c e rfl) ho (I.freeC x c e)
 ·obtain⟨e,n,ne,nf,d⟩:=I.pin p hp;have nch:p.1∉ch:=fun z=>(hch p.1 z).2.2.2 p hp rfl;exact⟨keep p.1 p.2 ne nf nch e n,free p.1 p.2 nch e n,ne,nf,d⟩
def Inv.un(I:Inv X ρ σ H s)(u:Un X.fs [] H H' s.heap h')(hok:HOk X.prog X.w H' h'):Inv X ρ σ H' { s with heap:=h',toks:=t' }:=by
 obtain⟨m,⟨o,es,ep,ho,r⟩,_⟩:=id I.loc;obtain⟨sl,hL⟩:=u.any ho I.free (by simp);exact I.step (g':=s.gens) (d':=s.drawn) (ch:=[]) (fun _ z=>nomatch z) (fun b o _ hb _ e n=>u.keep b o e n hb (by simp)) (fun b o _ hb _ e n=>u.slot b o e n hb (by simp)) (fun b o _ e n=>u.free b o e n (by simp)) (fun b o _ e=>u.there b o e (by simp)) u.tups u.frzs u.tbls (fun m' hm=>by
  obtain⟨o',es',ep',ho',r'⟩:=hm;rw[ho]at ho';cases ho';exact⟨_,es',ep',hL,r'⟩) hok I.bare
def Inv.call(I:Inv X ρ σ H s)(u:Un (frs X.stack) ch H H' s.heap h')(hok:HOk X.prog X.w H' h')(hg:AllBare g')
  (hch:∀b∈ch,(b∈X.ex\/X.s₀.heap.objs.size<=b)/\b≠X.env.locals/\(∀x c,X.env.cells.lookup x=some c->c≠b)/\∀p∈X.pn++ρ,p.1≠b):
  Inv X ρ σ H' { s with heap:=h',gens:=g',drawn:=d',toks:=t' }:=by
 obtain⟨m,⟨o,es,ep,ho,r⟩,_⟩:=id I.loc;obtain⟨sl,hL⟩:=u.any ho I.free fun z=>(hch _ z).2.1 rfl;exact I.step (ch:=ch) hch (fun b o hL hb hc e n=>u.keep b o e n (fun z=>(zay.mp (I.stkSub b z)).elim hL hb) hc) (fun b o _ _ hc e n=>u.any e n hc) (fun b o hc e n=>u.free b o e n hc) (fun b o hc e=>u.there b o e hc) u.tups u.frzs u.tbls (fun m' hm=>by
  obtain⟨o',es',ep',ho',r'⟩:=hm;rw[ho]at ho';cases ho';exact⟨_,es',ep',hL,r'⟩) hok hg
def Inv.turned{it:Addr}(I:Inv X ρ σ H s)(k:∀b o,b≠it->s.heap.get? b=some o->h'.get? b=some o)(hn:H it=none)(hL:it≠X.env.locals)
  (h1:it∈X.ex\/X.s₀.heap.objs.size<=it) (h2:∀x c,X.env.cells.lookup x=some c->c≠it) (h3:∀p∈X.pn++ρ,p.1≠it):Inv X ρ σ H { s with heap:=h',toks:=t' }:=by
 have nit:∀b u,H b=some u->b≠it:=fun b u e z=>by rw[z,hn]at e;cases e
 refine I.step (g':=s.gens) (d':=s.drawn) (ch:=[it]) (fun b hb=>?_) (fun b o _ _ hc e _=>k b o (fun z=>hc (by simp[z])) e) (fun b o _ _ hc e _=>⟨o.slots,k b o (fun z=>hc (by simp[z])) e⟩) (fun _ _ _ _ n=>n)
  (fun b o hc e=>⟨o,k b o (fun z=>hc (by simp[z])) e⟩) (fun _ _ e=>e) (fun _ _ _ e=>e) (fun b ps e=>⟨#[],by rw[e];simp⟩) (fun m hm=>?_) (fun b u e=>?_) I.bare
 ·have e:b=it:=by simpa using hb
  subst e;exact⟨h1,hL,h2,h3⟩
 ·obtain⟨o,es,ep,ho,r⟩:=hm;exact⟨o,es,ep,k _ o (Ne.symm hL) ho,r⟩
 ·refine(I.hok b u e).stay (fun c v hc q=>k c v ?_ q) (fun _ q=>q) fun _ _ q=>q;rcases hc with z|z
  ·rw[z];exact nit b u e
  ·exact nit c _ z
def Inv.tok(I:Inv X ρ σ H s)(t:Nat):Inv X ρ σ H { s with toks:=t }:=I.un (h':=s.heap) (t':=t) Un.refl I.hok
def Inv.kept{t':Nat}(I:Inv X ρ σ H s)(k:∀b u,s.heap.get? b=some u->h'.get? b=some u):Inv X ρ σ H { s with heap:=h',toks:=t' }:=I.un (Un.kept k) (I.hok.kept k)
def Inv.laid{a:Addr}{o:HO}{t':Nat}(I:Inv X ρ σ H s)(k:∀b u,s.heap.get? b=some u->h'.get? b=some u)(hp:s.heap.objs.size<=a)(new:ObjOk X.prog X.w (upd H a o) h' a o):
  Inv X ρ σ (upd H a o) { s with heap:=h',toks:=t' }:=I.un (Un.laid k hp (I.hok.fresh hp)) (I.hok.laid k hp new)
def Inv.write{x e:Addr}{o:HO}{t':Nat}(I:Inv X ρ σ H s)(mu:Mut (H x))(he:e=x\/H e=some (.own x))(k:∀b u,b≠e->s.heap.get? b=some u->h'.get? b=some u)(heo:∃u,h'.get? e=some u)
  (new:ObjOk X.prog X.w (upd H x o) h' x o):Inv X ρ σ (upd H x o) { s with heap:=h',toks:=t' }:=I.un (Un.write mu he k heo) (I.hok.write mu he k heo new)
def Inv.pins_of{pins':List (Addr×Obj)}(I:Inv X ρ σ H s)(h:∀p∈pins',s.heap.get? p.1=some p.2/\H p.1=none/\p.1≠X.env.locals/\p.1∉X.fs/\∀v,p.2.data≠.cell v):Inv X pins' σ H s:=
 ⟨I.ok,I.os,I.bare,I.base,I.loc,I.cell,I.free,I.freeC,fun p hp=>(zax.mp hp).elim (fun z=>I.pin p (List.mem_append_left _ z)) (h p),I.hok,I.len⟩
def qb(hN:N.Nodup)(a:N[i]?=some x)(b:N[j]?=some x):i=j:=by
 obtain⟨h1,e1⟩:=zah.mp a;obtain⟨h2,e2⟩:=zah.mp b;exact(List.getElem_inj hN).mp (e1.trans e2.symm)
def nW{Q:Unit->Shared->Prop}(I:Inv X ρ σ H s)(hN:X.N.Nodup)(hi:X.N[i]?=some x)(hx:Loc X.env.scope x)(r:RelV v u)
  (h:∀s',Inv X ρ (σ.set i (some v)) H s'->(∃a,Heap.SameBut a s.heap s'.heap/\(a=X.env.locals\/X.env.cells.lookup x=some a))->Q () s') (hf:X.fn x=true\/X.env.scope.names.lookup x=some .local:=by first|exact .inl rfl|exact .inr rfl|assumption):wpAny M A (storeName X.env x u) Q E s:=by
 obtain⟨m,hn,hl⟩:=id I.loc;have hcls:(X.env.scope.kind==.class || (X.env.scope.kind==.module&&X.env.locals != X.env.globals))=false:=by rw[I.ok.kind];rfl
 have hiσ:i<σ.length:=by rw[I.len];exact(zah.mp hi).1
 have cne:=I.cne;have rL:∀{a:Addr} {h':Heap},(∃o,s.heap.get? a=some o/\H a=none)->Heap.SameBut a s.heap h'->HOk X.prog X.w H h':=fun {a h'} ha hs b ob e=>by
  obtain⟨_,_,hfree⟩:=ha;refine(I.hok b ob e).stay (fun c w' hc q=>(hs.2 c ?_).trans q) (fun _ q=>q) fun _ _ q=>q;rintro rfl;rcases hc with rfl|hc
  ·rw[hfree]at e;cases e
  ·rw[hfree]at hc;cases hc
 rcases hx with hk|hk
 ·refine wpAny_storeName_local hk hn (fun h' hn' hs=>?_) hcls;obtain⟨oL,_,_,hoL,_⟩:=id hn;refine h _ ⟨I.ok,I.os,I.bare,⟨fun b o e n hb hx=>?_,fun b o e n hb hx=>?_,I.base.free,fun b o e hx=>?_,I.base.tups,I.base.frzs,I.base.tbls⟩,⟨_,hn',fun j y v' e1 e2 e3=>?_⟩,fun y c e=>?_,I.free,I.freeC,fun p hp=>?_,rL ⟨oL,hoL,I.free⟩ hs,by simpa using I.len⟩ ⟨_,hs,.inl rfl⟩
  ·exact(hs.2 b (zaw (zag (zal e) I.ok.above))).trans (I.base.keep b o e n hb hx)
  ·obtain⟨sl,e1⟩:=I.base.slot b o e n hb hx;exact⟨sl,(hs.2 b (zaw (zag (zal e) I.ok.above))).trans e1⟩
  ·obtain⟨o',e1⟩:=I.base.there b o e hx;exact⟨o',(hs.2 b (zaw (zag (zal e) I.ok.above))).trans e1⟩
  ·by_cases hj:j=i
   ·subst hj;rw[hi]at e1;cases e1;rw[zaP hiσ]at e2;cases e2;exact⟨u,r,.inl ⟨hk,by simp⟩⟩
   ·rw[zaO (Ne.symm hj)]at e2;obtain⟨u',r',q⟩:=hl j y v' e1 e2 e3;refine⟨u',r',?_⟩;rcases q with⟨k,e⟩|⟨k,c,e,z⟩
    ·refine .inl ⟨k,?_⟩
     have:y≠x:=fun e=>hj (qb hN e1 (e▸hi));simp[this,e]
    ·exact .inr ⟨k,c,e,z.sameBut hs (cne y c e)⟩
  ·obtain⟨w',z⟩:=I.cell y c e;exact⟨w',z.sameBut hs (cne y c e)⟩
  ·obtain⟨e,n,ne,nf,d⟩:=I.pin p hp;exact⟨(hs.2 p.1 ne).trans e,n,ne,nf,d⟩
 ·have hfn:X.fn x=true:=by
   rcases hf with z|z
   ·exact z
   ·rw[z]at hk;cases hk
  obtain⟨c,hc⟩:=I.ok.has x (.inl hk);obtain⟨w',z⟩:=I.cell x c hc;refine wpAny_storeName_cell I.ok.kind hk hc z (fun h' hc' hs=>?_);obtain⟨oc,hoc,hocd⟩:=id z;refine h { s with heap:=h' } ⟨I.ok,I.os,I.bare,⟨fun b o e n hb hx=>?_,fun b o e n hb hx=>?_,I.base.free,fun b o e hx=>?_,I.base.tups,I.base.frzs,I.base.tbls⟩,⟨m,hn.sameBut hs (Ne.symm (cne x c hc)),fun j y v' e1 e2 e3=>?_⟩,fun y c' e=>?_,I.free,I.freeC,fun p hp=>?_,rL ⟨oc,hoc,I.freeC x c hc⟩ hs,by simpa using I.len⟩ ⟨c,hs,.inr hc⟩
  ·exact(hs.2 b (zaw (zag (zal e) (I.ok.cab x c hfn hc)))).trans (I.base.keep b o e n hb hx)
  ·obtain⟨sl,e1⟩:=I.base.slot b o e n hb hx;exact⟨sl,(hs.2 b (zaw (zag (zal e) (I.ok.cab x c hfn hc)))).trans e1⟩
  ·obtain⟨o',e1⟩:=I.base.there b o e hx;exact⟨o',(hs.2 b (zaw (zag (zal e) (I.ok.cab x c hfn hc)))).trans e1⟩
  ·by_cases hj:j=i
   ·subst hj;rw[hi]at e1;cases e1;rw[zaP hiσ]at e2;cases e2;exact⟨u,r,.inr ⟨.inl hk,c,hc,hc'⟩⟩
   ·rw[zaO (Ne.symm hj)]at e2;obtain⟨u',r',q⟩:=hl j y v' e1 e2 e3;refine⟨u',r',?_⟩;rcases q with q|⟨k,c',e,z'⟩
    ·exact .inl q
    ·refine .inr ⟨k,c',e,z'.sameBut hs ?_⟩;rintro rfl;exact hj (qb hN e1 (I.ok.inj _ _ _ e hc▸hi))
  ·by_cases hcc:c'=c
   ·subst hcc;exact⟨_,hc'⟩
   ·obtain⟨w2,z2⟩:=I.cell y c' e;exact⟨w2,z2.sameBut hs hcc⟩
  ·obtain⟨e,n,ne,nf,d⟩:=I.pin p hp;refine⟨(hs.2 p.1 ?_).trans e,n,ne,nf,d⟩;intro q;rw[q,hoc]at e;have q':oc=p.2:=zat e;exact d w' (by rw[<-q'];exact hocd)
def pH{Q:Unit->Shared->Prop}(I:Inv X ρ σ H s)(hN:X.N.Nodup)(hi:X.N[i]?=some x)(hx:Loc X.env.scope x)(r:RelV v u)
  (h:∀s',Inv X ρ (σ.set i (some v)) H s'->Q () s') (hf:X.fn x=true\/X.env.scope.names.lookup x=some .local:=by first|exact .inl rfl|exact .inr rfl|assumption):wpAny M A (storeName X.env x u) Q E s:=
 nW I hN hi hx r (fun s' I' _=>h s' I') hf
def Inv.call'(I:Inv X ρ σ H s)(ho:s'.os=s.os)(u:Un (frs X.stack) ch H H' s.heap s'.heap)(hok:HOk X.prog X.w H' s'.heap)(hg:AllBare s'.gens)
  (hch:∀b∈ch,(b∈X.ex\/X.s₀.heap.objs.size<=b)/\b≠X.env.locals/\(∀x c,X.env.cells.lookup x=some c->c≠b)/\∀p∈X.pn++ρ,p.1≠b):Inv X ρ σ H' s':=by
 obtain⟨h',g',d',t',o'⟩:=s';have e:o'=s.os:=ho;subst e;exact I.call (g':=g') (t':=t') (d':=d') u hok hg hch
end
abbrev XK:=Value->Option Addr->Hp->Prop
abbrev St:=List (Option V)
variable{σ:St}
abbrev VK:=V->Hp->Prop
abbrev TE:=St->Hp->VK->Prop
variable{ta tb t te:TE}
abbrev TT:=St->Hp->(Bool->Hp->Prop)->Prop
abbrev TA:=St->Hp->(List V->Hp->Prop)->Prop
structure Ends where
 nx:St->Hp->Prop
 rt:VK
 bk:St->Hp->Prop:=fun _ _=>False
 ct:St->Hp->Prop:=fun _ _=>False
abbrev TS:=Ends->St->Hp->Prop
def EP(X:Cx)(ρ:List (Addr×Obj))(σ:St)(Q:VK)(u:Value)(s':Shared):Prop:=∃v H',Inv X ρ σ H' s'/\RelV v u/\Q v H'
def TP(X:Cx)(ρ:List (Addr×Obj))(σ:St)(Q:Bool->Hp->Prop)(b:Bool)(s':Shared):Prop:=∃H',Inv X ρ σ H' s'/\Q b H'
def AP(X:Cx)(ρ:List (Addr×Obj))(σ:St)(Q:List V->Hp->Prop)(us:List Value)(s':Shared):Prop:=∃vs H',Inv X ρ σ H' s'/\Vals vs us/\Q vs H'
def SP(X:Cx)(ρ:List (Addr×Obj))(D:Ends)(f:Flow)(s':Shared):Prop:=
 match f with
 |.next=>∃σ' H',Inv X ρ σ' H' s'/\D.nx σ' H'
 |.brk=>∃σ' H',Inv X ρ σ' H' s'/\D.bk σ' H'
 |.cont=>∃σ' H',Inv X ρ σ' H' s'/\D.ct σ' H'
 |.ret u=>∃v σ' H',Inv X ρ σ' H' s'/\RelV v u/\D.rt v H'
def PE(X:Cx)(e:Expr)(t:TE):Prop:=
 ∀(ρ:List (Addr×Obj)) (s:Shared) (σ:St) (H:Hp) (Q:VK),Inv X ρ σ H s->t σ H Q->wpAny (model X.prog X.w) X.A (eval e X.env) (EP X ρ σ Q) X.xe s
def PT(X:Cx)(e:Expr)(t:TT):Prop:=
 ∀(ρ:List (Addr×Obj)) (s:Shared) (σ:St) (H:Hp) (Q:Bool->Hp->Prop),Inv X ρ σ H s->t σ H Q->wpAny (model X.prog X.w) X.A (isTrue e X.env (eval e X.env)) (TP X ρ σ Q) X.xe s
def PW(X:Cx)(e:Expr)(t:TT):Prop:=
 ∀(χ:Sem Value) (ρ:List (Addr×Obj)) (s:Shared) (σ:St) (H:Hp) (Q:Bool->Hp->Prop),Inv X ρ σ H s->t σ H Q->wpAny (model X.prog X.w) X.A (isTrue e X.env χ) (TP X ρ σ Q) X.xe s
def PW.pt{t:TT}(h:PW X e t):PT X e t:=h _
def PA(X:Cx)(es:List Expr)(t:TA):Prop:=
 ∀(pos:Pos) (ρ:List (Addr×Obj)) (s:Shared) (σ:St) (H:Hp) (Q:List V->Hp->Prop),Inv X ρ σ H s->t σ H Q->wpAny (model X.prog X.w) X.A (spliced (backTo pos (starEach es X.env))) (AP X ρ σ Q) X.xe s
def PS(X:Cx)(st:Stmt)(t:TS):Prop:=
 ∀(ρ:List (Addr×Obj)) (s:Shared) (σ:St) (H:Hp) (D:Ends),Inv X ρ σ H s->t D σ H->wpAny (model X.prog X.w) X.A (exec st X.env) (SP X ρ D) X.xe s
def PSs(X:Cx)(st:List Stmt)(t:TS):Prop:=
 ∀(ρ:List (Addr×Obj)) (s:Shared) (σ:St) (H:Hp) (D:Ends),Inv X ρ σ H s->t D σ H->wpAny (model X.prog X.w) X.A (execs st X.env) (SP X ρ D) X.xe s
def thn{α:Type}{t:Sem α}{Q Q':α->Shared->Prop}(h:wpAny M A t Q E s)(hQ:∀a s,Q a s->Q' a s):wpAny M A t Q' E s:=wpAny_mono h hQ fun _ _ x=>x
section
def eA(i:Nat):TE:=fun σ H Q=>∃v,σ[i]?=some (some v)/\Q v H
def tC(v:V):TE:=fun _ H Q=>Q v H
def cf(hN:X.N[i]?=some x)(hv:Vis X.env.scope x)(hd:(x==("__debug__":Str))=false:=by decide)(hcd:(x==("__classdict__":Str))=false:=by decide):PE X (.Name x pos) (eA i):=by
 intro ρ s σ H Q I h;obtain⟨v,e,h⟩:=h;obtain⟨m,hn,hl⟩:=I.loc;obtain⟨u,r,l⟩:=hl i x v hN e hv;have fin:EP X ρ σ Q u s:=⟨v,H,I,r,h⟩;rcases l with⟨hk,hm⟩|⟨hk,c,hc,hcell⟩
 ·exact wpAny_Name (wpAny_loadName_local I.ok.kind hk hn hm fin) hd
 ·rcases hk with hk|hk
  ·exact wpAny_Name (wpAny_loadName_cell I.ok.kind hk hc hcell fin) hd
  ·exact wpAny_Name (wpAny_loadName_free I.ok.kind hk hc hcell fin hcd) hd
def pe_int{i j pos}:PE X (.Constant (.int i) j pos) (tC (.int i)):=fun _ _ _ H _ I h=>wpAny_Constant_int ⟨.int i,H,I.tok _,⟨_,rfl⟩,h⟩
def pe_bl{b j pos}:PE X (.Constant (.bool b) j pos) (tC (.bl b)):=fun _ _ _ H _ I h=>Constant_bool ⟨.bl b,H,I,rfl,h⟩
def pe_non{j pos}:PE X (.Constant .none j pos) (tC .non):=fun _ _ _ H _ I h=>Constant_none ⟨.non,H,I,rfl,h⟩
def pe_str{x j pos}:PE X (.Constant (.str x) j pos) (tC (.str x)):=fun _ _ _ H _ I h=>Calls.Constant_str ⟨.str x,H,I.tok _,⟨_,rfl⟩,h⟩
def Gl(X:Cx)(x:Str):Prop:=X.env.kindOf x=some .globalImplicit
def Bq(I:Inv X ρ σ H s)(hg:Gl X x)(hm:X.mg x=some u)(h:Q u s)
  (hd:(x==("__debug__":Str))=false:=by decide):wpAny (model X.prog X.w) X.A (eval (.Name x pos) X.env) Q E s:=
 Calls.Name_function_global I.ok.kind hg (Calls.loadGlobal_global (by rw[I.ok.glob];exact I.mod.glob.keeps I.bk) hm h) hd
def jY(I:Inv X ρ σ H s)(hg:Gl X x)(hm:X.mg x=none)(hv:bootBuiltins x=some u)(h:Q u s)
  (hn:x≠"__name__":=by decide) (hd:(x==("__debug__":Str))=false:=by decide):wpAny (model X.prog X.w) X.A (eval (.Name x pos) X.env) Q E s:=by
 obtain⟨mb,h1,h2⟩:=I.mod.blt;exact Calls.Name_function_global I.ok.kind hg (Calls.loadGlobal_builtin (by rw[I.ok.glob];exact I.mod.glob.keeps I.bk) hm (by rw[I.ok.blt];exact h1.keeps I.bk) ((h2 x hn).trans hv) h) hd
def Bj(hg:Gl X x)(hm:X.mg x=none)(hv:bootBuiltins x=some u)(r:RelV v u)(hn:x≠"__name__":=by decide)(hd:(x==("__debug__":Str))=false:=by decide):PE X (.Name x pos) (tC v):=
 fun _ _ _ H _ I h=>jY I hg hm hv ⟨v,H,I,r,h⟩ hn hd
variable{a b:Expr} 
def PC(X:Cx)(op:CmpOp)(a b:Expr)(t:TE):Prop:=
 ∀(ρ:List (Addr×Obj)) (s:Shared) (σ:St) (H:Hp) (Q:VK),Inv X ρ σ H s->t σ H Q ->
  wpAny (model X.prog X.w) X.A (eval a X.env) (fun v s₁=>wpAny (model X.prog X.w) X.A (eval b X.env) (fun u s₂=>wpAny (model X.prog X.w) X.A (compareOp op v u) (EP X ρ σ Q) X.xe s₂) X.xe s₁) X.xe s
def qc(b:Expr)(h:op≠.In)(h2:op≠.NotIn):behindInMarks op b=false:=by
 have e1:(op==CmpOp.In)=false:=by cases op<;>first|rfl|exact absurd rfl h
 have e2:(op==CmpOp.NotIn)=false:=by cases op<;>first|rfl|exact absurd rfl h2
 cases b<;>simp[behindInMarks,e1,e2]
def tB(t:TE):TT:=fun σ H Q=>t σ H fun x H1=>∃c,x=.bl c/\Q c H1
def EG(h:PC X op a b t)(h1:behindInMarks op b=false:=by first|exact qc _ (by decide) (by decide)|rfl):PE X (.Compare a [op] [b] pos) t:=fun ρ s σ H Q I hw=>wpAny_Compare1 (h ρ s σ H Q I hw) h1
def Ey(h:PC X op a b t)(h1:behindInMarks op b=false:=by first|exact qc _ (by decide) (by decide)|rfl):PT X (.Compare a [op] [b] pos) (tB t):=by
 intro ρ s σ H Q I hw;refine wpAny_isTrue_Compare1 (thn (h ρ s σ H _ I hw) fun v s1 h1=>thn h1 fun u s2 h2=>thn h2 fun c s3 ⟨x,H1,I1,r1,q1⟩=>?_) h1;obtain⟨d,rfl,q⟩:=q1;cases r1;exact zbw ⟨H1,I1,q⟩
def Ew(h:PE X e t)(he:∀χ,isTrue e X.env χ=(do let v <-χ;standAt e.pos;holding [v] (truthy v)):=by intro _;rfl):PT X e (tB t):=by
 intro ρ s σ H Q I hw;refine isTrue_plain (thn (h ρ s σ H _ I hw) fun v s1 ⟨x,H1,I1,r1,q1⟩=>?_) (he _);obtain⟨d,rfl,q⟩:=q1;cases r1;exact zbw ⟨H1,I1,q⟩
variable{tA tB':TT}{rest:List Expr}
def Ej(t u:TT):TT:=fun σ H Q=>t σ H fun c H1=>if c=true then u σ H1 Q else Q false H1
def tOr(t u:TT):TT:=fun σ H Q=>t σ H fun c H1=>if c=true then Q true H1 else u σ H1 Q
def Ec(t:TT):TT:=fun σ H Q=>t σ H fun c H1=>Q (!c) H1
def A7(ha:PT X a tA):PW X (.BoolOp .And [a] pos) tA:=by
 intro wh ρ s σ H Q I h;refine isTrue_and (thn (ha ρ s σ H Q I h) fun c s1 e=>?_);cases c with
 |true=>exact isTrue_and_nil e
 |false=>exact e
def Eu(ha:PT X a tA):PW X (.BoolOp .Or [a] pos) tA:=by
 intro wh ρ s σ H Q I h;refine isTrue_or (thn (ha ρ s σ H Q I h) fun c s1 e=>?_);cases c with
 |false=>exact isTrue_or_nil e
 |true=>exact e
def Ev(ha:PT X a tA)(hb:PW X (.BoolOp .And (b::rest) pos) tB'):PW X (.BoolOp .And (a::b::rest) pos) (Ej tA tB'):=by
 intro wh ρ s σ H Q I h;refine isTrue_and (thn (ha ρ s σ H _ I h) fun c s1 ⟨H1,I1,q1⟩=>?_);cases c with
 |true=>exact hb wh ρ s1 σ H1 Q I1 q1
 |false=>exact⟨H1,I1,q1⟩
def GN(ha:PT X a tA)(hb:PW X (.BoolOp .Or (b::rest) pos) tB'):PW X (.BoolOp .Or (a::b::rest) pos) (tOr tA tB'):=by
 intro wh ρ s σ H Q I h;refine isTrue_or (thn (ha ρ s σ H _ I h) fun c s1 ⟨H1,I1,q1⟩=>?_);cases c with
 |true=>exact⟨H1,I1,q1⟩
 |false=>exact hb wh ρ s1 σ H1 Q I1 q1
def Ex(ha:PT X a tA):PT X (.UnaryOp .Not a pos) (Ec tA):=by
 intro ρ s σ H Q I h;exact isTrue_not (ha ρ s σ H (fun c H1=>Q (!c) H1) I h)
def At(ta tb:TE):TE:=fun σ H Q=>ta σ H fun x H1=>∃c,x=.bl c/\if c=true then tb σ H1 Q else Q (.bl false) H1
def Ea(ta tb:TE):TE:=fun σ H Q=>ta σ H fun x H1=>∃c,x=.bl c/\if c=true then Q (.bl true) H1 else tb σ H1 Q
def Aq(ta:TE):TE:=fun σ H Q=>ta σ H fun x H1=>∃c,x=.bl c/\Q (.bl (!c)) H1
def EE{op}(h:PE X a t):PE X (.BoolOp op [a] pos) t:=fun ρ s σ H Q I hw=>BoolOp_one (h ρ s σ H Q I hw)
def EH(ha:PE X a ta)(hb:PE X (.BoolOp .And (b::rest) pos) tb):PE X (.BoolOp .And (a::b::rest) pos) (At ta tb):=by
 intro ρ s σ H Q I h;refine BoolOp_and (thn (ha ρ s σ H _ I h) fun v s1 ⟨x,H1,I1,r1,q1⟩=>?_);obtain⟨c,rfl,q1⟩:=q1;cases r1;refine zbw ?_;cases c with
 |true=>exact hb ρ s1 σ H1 Q I1 q1
 |false=>exact⟨.bl false,H1,I1,rfl,q1⟩
def GR(ha:PE X a ta)(hb:PE X (.BoolOp .Or (b::rest) pos) tb):PE X (.BoolOp .Or (a::b::rest) pos) (Ea ta tb):=by
 intro ρ s σ H Q I h;refine BoolOp_or (thn (ha ρ s σ H _ I h) fun v s1 ⟨x,H1,I1,r1,q1⟩=>?_);obtain⟨c,rfl,q1⟩:=q1;cases r1;refine zbw ?_;cases c with
 |false=>exact hb ρ s1 σ H1 Q I1 q1
 |true=>exact⟨.bl true,H1,I1,rfl,q1⟩
def EF(ha:PE X a ta):PE X (.UnaryOp .Not a pos) (Aq ta):=by
 intro ρ s σ H Q I h;refine UnaryOp_ (thn (ha ρ s σ H _ I h) fun v s1 ⟨x,H1,I1,r1,q1⟩=>?_);obtain⟨c,rfl,q1⟩:=q1;cases r1;exact not_of (zbw ⟨.bl (!c),H1,I1,rfl,q1⟩)
def tIf(t:TT)(ta tb:TE):TE:=fun σ H Q=>t σ H fun c H1=>if c=true then ta σ H1 Q else tb σ H1 Q
def wA(hc:PT X c tA)(ha:PE X a ta)(hb:PE X b tb):PE X (.IfExp c a b pos) (tIf tA ta tb):=by
 intro ρ s σ H Q I h;refine wpAny_IfExp (thn (hc ρ s σ H _ I h) fun d s1 ⟨H1,I1,q1⟩=>?_);cases d with
 |true=>exact ha ρ s1 σ H1 Q I1 q1
 |false=>exact hb ρ s1 σ H1 Q I1 q1
end
def SqL(K:zbQ)(H:Hp)(a:Addr)(xs:List V):Prop:=
 Rd H a (.lst xs) \/
  ∃(o:Obj) (its:Array Value) (n:Nat),K.lookup a=some o/\o.cls=.type "list"/\o.dict=none/\o.data=.seq its n/\its.size<=sizeLine/\Vals xs its.toList
def SqT(K:zbQ)(H:Hp)(a:Addr)(xs:List V):Prop:=
 Rd H a (.tup xs) \/
  ∃(o:Obj) (its:Array Value) (n:Nat),K.lookup a=some o/\o.cls=.type "tuple"/\o.data=.seq its n/\its.size<=sizeLine/\Vals xs its.toList
def Io:Value->Option V
 |.none=>some .non
 |.bool b=>some (.bl b)
 |.int i _=>some (.int i)
 |.str x _=>some (.str x)
 |.bytes b _=>some (.byt b)
 |.float b _=>some (.flt b)
 |.ref a=>some (.ref a)
 |.type n=>some (.ty n)
 |_=>none
def RelV.abs{x:V}(r:RelV x u):Io u=some x:=by
 cases x with
 |non=>cases r;rfl
 |bl _=>cases r;rfl
 |int _=>obtain⟨t,rfl⟩:=r;rfl
 |str _=>obtain⟨t,rfl⟩:=r;rfl
 |byt _=>obtain⟨t,rfl⟩:=r;rfl
 |flt _=>obtain⟨t,rfl⟩:=r;rfl
 |ref _=>cases r;rfl
 |ty _=>cases r;rfl
def RelV.inj{x:V}(r:RelV x u)(q:RelV y u):x=y:=zat (r.abs.symm.trans q.abs)
theorem Vals.inj:∀{xs ys:List V} {us:List Value},Vals xs us->Vals ys us->xs=ys
 |_,_,_,.nil,.nil=>rfl
 |_,_,_,.cons r t,.cons r' t'=>by rw[r.inj r',Vals.inj t t']
section
variable{xs ys:List V}
def SqL.of(h:H a=some (.lst xs)):SqL K H a xs:=.inl (.inl h)
def SqT.of(h:H a=some (.tup xs)):SqT K H a xs:=.inl (.inl h)
def Inv.list(I:Inv X ρ σ H s)(h:SqL X.K H a xs):∃its:List Value,Vals xs its/\PlainL s.heap a its.toArray/\xs.length<=sizeLine:=by
 rcases h with h|⟨o,its,n,hk,hc,hd,hs,hz,r⟩
 ·obtain⟨z,its,n,r,e⟩:=h.ok I.hok;exact⟨its,r,⟨_,n,e,rfl,rfl,rfl⟩,z⟩
 ·refine⟨its.toList,r,⟨o,n,I.kIn a o hk,hc,hd,by simpa using hs⟩,?_⟩;have e:=r.length;simp only[zaY]at e;omega
def Inv.tuple(I:Inv X ρ σ H s)(h:SqT X.K H a xs):∃its:List Value,Vals xs its/\IsTup s.heap a its.toArray/\xs.length<=sizeLine:=by
 rcases h with h|⟨o,its,n,hk,hc,hs,hz,r⟩
 ·obtain⟨z,its,r,p⟩:=h.ok I.hok;exact⟨its,r,p.tup,z⟩
 ·refine⟨its.toList,r,⟨o,I.kIn a o hk,hc,n,by simpa using hs⟩,?_⟩;have e:=r.length;simp only[zaY]at e;omega
def Inv.list_inj(I:Inv X ρ σ H s)(h:SqL X.K H a xs)(h':SqL X.K H a ys):xs=ys:=by
 obtain⟨its,r,⟨o,n,e,_,_,d⟩,_⟩:=I.list h;obtain⟨its',r',⟨o',n',e',_,_,d'⟩,_⟩:=I.list h';rw[e]at e';cases e';rw[d]at d';injection d' with d1 _
 have:its=its':=by simpa using congrArg Array.toList d1
 subst this;exact r.inj r'
def Inv.tuple_inj(I:Inv X ρ σ H s)(h:SqT X.K H a xs)(h':SqT X.K H a ys):xs=ys:=by
 obtain⟨its,r,⟨o,e,_,n,d⟩,_⟩:=I.tuple h;obtain⟨its',r',⟨o',e',_,n',d'⟩,_⟩:=I.tuple h';rw[e]at e';cases e';rw[d]at d';injection d' with d1 _
 have:its=its':=by simpa using congrArg Array.toList d1
 subst this;exact r.inj r'
end
abbrev Cx.wish(X:Cx)(E:Value->Shared->Prop):Cx:={ X with xe:=E }
abbrev Cx.nox(X:Cx):Cx:=X.wish fun _ _=>False
def Cx.Ok.wish(ok:X.Ok)(E:Value->Shared->Prop):(X.wish E).Ok:=
 ⟨ok.mod,ok.kind,ok.glob,ok.blt,ok.above,ok.inj,ok.has,ok.cab,ok.hd,ok.frames,ok.stk,ok.exf,ok.bs,ok.bsz,ok.noex,ok.exfs,ok.funs,ok.frf⟩
def Cx.Ok.unwish(ok:(X.wish E).Ok):X.Ok:=
 ⟨ok.mod,ok.kind,ok.glob,ok.blt,ok.above,ok.inj,ok.has,ok.cab,ok.hd,ok.frames,ok.stk,ok.exf,ok.bs,ok.bsz,ok.noex,ok.exfs,ok.funs,ok.frf⟩
def Inv.wish(I:Inv X ρ σ H s)(E:Value->Shared->Prop):Inv (X.wish E) ρ σ H s:=⟨I.ok.wish E,I.os,I.bare,I.base,I.loc,I.cell,I.free,I.freeC,I.pin,I.hok,I.len⟩
def Inv.unwish(I:Inv (X.wish E) ρ σ H s):Inv X ρ σ H s:=⟨I.ok.unwish,I.os,I.bare,I.base,I.loc,I.cell,I.free,I.freeC,I.pin,I.hok,I.len⟩
theorem SP.unwish{D:Ends}{f:Flow}{s':Shared}(h:SP (X.wish E) ρ D f s'):SP X ρ D f s':=by
 cases f with
 |next=>obtain⟨σ',H',I,q⟩:=h;exact⟨σ',H',I.unwish,q⟩
 |brk=>obtain⟨σ',H',I,q⟩:=h;exact⟨σ',H',I.unwish,q⟩
 |cont=>obtain⟨σ',H',I,q⟩:=h;exact⟨σ',H',I.unwish,q⟩
 |ret u=>obtain⟨v,σ',H',I,r,q⟩:=h;exact⟨v,σ',H',I.unwish,r,q⟩
def PSs.nox{st:List Stmt}{t:TS}(h:PSs X.nox st t):PSs X st t:=fun ρ s σ H D I hw=>
 wpAny_mono (h ρ s σ H D (I.wish _) hw) (fun _ _ q=>q.unwish) fun _ _ z=>False.elim z
section
variable{st:Stmt}{rest:List Stmt}{t u:TS}  
def Ar:TS:=fun D σ H=>D.nx σ H
def sI(t u:TS):TS:=fun D σ H=>t { D with nx:=u D } σ H
def pss_nil:PSs X [] Ar:=fun _ _ σ H _ I h=>wpAny_execs_nil ⟨σ,H,I,h⟩
def jc(h1:PS X st t)(h2:PSs X rest u):PSs X (st::rest) (sI t u):=by
 intro ρ s σ H D I h;refine wpAny_execs_cons (thn (h1 ρ s σ H { D with nx:=u D } I h) fun f s1 q=>?_);cases f with
 |next=>
  obtain⟨σ',H',I',q⟩:=q;exact h2 ρ s1 σ' H' D I' q
 |ret v=>exact q
 |brk=>exact q
 |cont=>exact q
def Bc(h1:PS X st t):PSs X [st] t:=by
 intro ρ s σ H D I h;refine wpAny_execs_cons (thn (h1 ρ s σ H D I h) fun f s1 q=>?_);cases f with
 |next=>exact wpAny_execs_nil q
 |ret v=>exact q
 |brk=>exact q
 |cont=>exact q
def Inv.quiet(I:Inv X ρ σ H s):interactive X.env=false:=by simp[interactive,I.ok.kind]
def As(te:TE):TS:=fun D σ H=>te σ H fun _ H1=>D.nx σ H1
def Bd(he:PE X e te)(hs:swapsWith e none pos.line X.env=pure false:=by rfl):PS X (.Expr e pos) (As te):=by
 intro ρ s σ H D I h;exact wpAny_Expr_any (thn (he ρ s σ H _ I h) fun v s1 ⟨x,H1,I1,r1,q1⟩=>⟨σ,H1,I1,q1⟩) I.quiet hs
def D9(te:TE):TS:=fun D σ H=>te σ H D.rt
def Ez(he:PE X e te):PS X (.Return (some e) pos) (D9 te):=by
 intro ρ s σ H D I h;exact wpAny_Return_some (thn (he ρ s σ H _ I h) fun v s1 ⟨x,H1,I1,r1,q1⟩=>⟨x,σ,H1,I1,r1,q1⟩)
def Ed(c:TT)(t u:TS):TS:=fun D σ H=>c σ H fun b H1=>if b=true then t D σ H1 else u D σ H1
def GO{a b:List Stmt}{tc:TT}(hc:PT X c tc)(ha:PSs X a t)(hb:PSs X b u):PS X (.If c a b pos) (Ed tc t u):=by
 intro ρ s σ H D I h;refine wpAny_If (thn (hc ρ s σ H _ I h) fun d s1 ⟨H1,I1,q1⟩=>?_);cases d with
 |true=>exact ha ρ s1 σ H1 D I1 q1
 |false=>exact hb ρ s1 σ H1 D I1 q1
end
abbrev TG:=V->St->Hp->(St->Hp->Prop)->Prop
abbrev TGs:=List V->St->Hp->(St->Hp->Prop)->Prop
def PG(X:Cx)(target:Expr)(t:TG):Prop:=
 ∀(ρ:List (Addr×Obj)) (s:Shared) (σ:St) (H:Hp) (v:V) (u:Value) (Q:St->Hp->Prop),Inv X ρ σ H s->RelV v u->t v σ H Q ->
  wpAny (model X.prog X.w) X.A (assign target X.env u) (fun _ s'=>∃σ' H',Inv X ρ σ' H' s'/\Q σ' H') X.xe s
def PGs(X:Cx)(ts:List Expr)(t:TGs):Prop:=
 ∀(ρ:List (Addr×Obj)) (s:Shared) (σ:St) (H:Hp) (vs:List V) (us:List Value) (Q:St->Hp->Prop),Inv X ρ σ H s->Vals vs us->t vs σ H Q ->
  wpAny (model X.prog X.w) X.A (assignInOrder ((assignEach ts X.env).map (·.2)) us) (fun _ s'=>∃σ' H',Inv X ρ σ' H' s'/\Q σ' H') X.xe s
abbrev xG:=V->V->V->Hp->(Hp->Prop)->Prop
def Gw(X:Cx)(t:xG):Prop:=
 ∀(ρ:List (Addr×Obj)) (s:Shared) (σ:St) (H:Hp) (o i v:V) (ov iv u:Value) (Q:Hp->Prop),Inv X ρ σ H s->RelV o ov->RelV i iv->RelV v u->t o i v H Q ->
  wpAny (model X.prog X.w) X.A (setItem ov iv u) (fun _ s'=>∃H',Inv X ρ σ H' s'/\Q H') X.xe s
def jl(i:Nat):TG:=fun v σ H Q=>Q (σ.set i (some v)) H
def Bg(hN:X.N.Nodup)(hi:X.N[i]?=some x)(hx:Loc X.env.scope x)(hf:X.fn x=true\/X.env.scope.names.lookup x=some .local:=by first|exact .inl rfl|exact .inr rfl|assumption):PG X (.Name x pos) (jl i):=by
 intro ρ s σ H v u Q I r h;exact wpAny_assign_Name (pH I hN hi hx r (fun s' I'=>⟨_,H,I',h⟩) hf)
def Fq:TGs:=fun vs σ H Q=>vs=[]/\Q σ H
def AR(t:TG)(u:TGs):TGs:=fun vs σ H Q=>∃v r,vs=v::r/\t v σ H fun σ' H'=>u r σ' H' Q
def pgs_nil:PGs X [] Fq:=by
 intro ρ s σ H vs us Q I r h;obtain⟨e,h⟩:=h;subst e;cases r;exact assignInOrder_nil ⟨σ,H,I,h⟩
def wx{t:TG}{u:TGs}(h1:PG X e t)(h2:PGs X es u)
  (hs:(assignEach (e::es) X.env).map (·.2)=assign e X.env::(assignEach es X.env).map (·.2):=by rfl):PGs X (e::es) (AR t u):=by
 intro ρ s σ H vs us Q I r h;obtain⟨v,vr,e1,h⟩:=h;subst e1;cases r with
 |cons r rr=>
  rw[hs];refine assignInOrder_cons (thn (h1 ρ s σ H _ _ _ I r h) fun _ s1 ⟨σ1,H1,I1,q1⟩=>?_);exact h2 ρ s1 σ1 H1 _ _ Q I1 rr q1
def Fp(K:zbQ)(n:Nat)(t:TGs):TG:=fun v σ H Q=>∃a xs,v=.ref a/\SqT K H a xs/\xs.length=n/\t xs σ H Q
def EC{t:TGs}(hc:X.calm=true)(h:PGs X es t)
  (hn:(assignEach es X.env).length=n:=by rfl) (hst:(assignEach es X.env).findIdx? (·.1)=none:=by rfl):PG X (.Tuple es k pos) (Fp X.K n t):=by
 intro ρ s σ H v u Q I r hw;obtain⟨a,xs,e1,hq,hl,hw⟩:=hw;subst e1;cases r;obtain⟨its,rv,ht,hz⟩:=I.tuple hq;refine assign_Tuple_tuple (I.ok.hd hc) ht (by simp[hn,<-hl,rv.length]) hst fun h' hx=>?_;have I1:Inv X ρ σ H { s with heap:=h' }:=I.kept (t':=s.toks) fun b o e=>hx b o (zaw (zal e)) e;exact h ρ _ σ H xs _ Q I1 (by simpa using rv) hw
def tT(to ti:TE)(t:xG):TG:=fun v σ H Q=>to σ H fun o H1=>ti σ H1 fun i H2=>t o i v H2 fun H3=>Q σ H3
def pV{o i:Expr}{to ti:TE}{t:xG}(ho:PE X o to)(hi:PE X i ti)(hs:Gw X t)
  (ha:∀v,assign (.Subscript o i pos) X.env v=(do
   let ov <-holding [v] (eval o X.env);let iv <-holding [v,ov] (eval i X.env)
   standAt pos
   holding [v,ov,iv] (setItem ov iv v)
   release [v,ov,iv] []):=by intro _;rfl):PG X (.Subscript o i pos) (tT to ti t):=by
 intro ρ s σ H v u Q I r h;rw[ha];refine zam (zbM (thn (ho ρ s σ H _ I h) fun ov s1 ⟨x,H1,I1,r1,q1⟩=>?_));refine zam (zbM (thn (hi ρ s1 σ H1 _ I1 q1) fun iv s2 ⟨y,H2,I2,r2,q2⟩=>?_));refine zam (wpAny_standAt (zam (zbM (thn (hs ρ s2 σ H2 x y v ov iv u _ I2 r1 r2 r q2) fun _ s3 ⟨H3,I3,q3⟩=>?_))));exact wpAny_release ⟨σ,H3,I3,q3⟩
def i7(te:TE)(g:TG):TS:=fun D σ H=>te σ H fun x H1=>g x σ H1 D.nx
def pT{g:TG}(he:PE X e te)(hg:PG X tg g)(hs:swapsWithSole [tg] e pos.line X.env=pure false:=by rfl)(hw:swappedStores [tg] e X.env=pure none:=by rfl)
  (h1:(assignEach [tg] X.env).map (·.2)=[assign tg X.env]:=by rfl):PS X (.Assign [tg] e pos) (i7 te g):=by
 intro ρ s σ H D I h;refine wpAny_Assign_stores (thn (he ρ s σ H _ I h) fun v s1 ⟨x,H1,I1,r1,q1⟩=>?_) hs hw;rw[h1];exact thn (hg ρ s1 σ H1 x v _ I1 r1 q1) fun _ s2 q=>q
def pS{pos':Pos}(hN:X.N.Nodup)(hi:X.N[i]?=some x)(hx:Loc X.env.scope x)(he:PE X e te)(hs:swapsWith e (some (.Name x pos')) pos.line X.env=pure false:=by rfl)(hf:X.fn x=true\/X.env.scope.names.lookup x=some .local:=by first|exact .inl rfl|exact .inr rfl|assumption):
  PS X (.Assign [.Name x pos'] e pos) (i7 te (jl i)):=by
 intro ρ s σ H D I h;refine wpAny_Assign_Name (thn (he ρ s σ H _ I h) fun v s1 ⟨y,H1,I1,r1,q1⟩=>?_) hs;exact pH I1 hN hi hx r1 (fun s2 I2=>⟨_,H1,I2,q1⟩) hf
structure It where
 go:Nat->Hp->Prop
 yld:Nat->Hp->V->Hp->Prop
 stop:Nat->Hp->Prop
def hZ(X:Cx)(ρ:List (Addr×Obj))(H:Hp)(b:Addr):Prop:=
 H b=none/\b≠X.env.locals/\b∉X.fs/\(b∈X.ex\/X.s₀.heap.objs.size<=b)/\(∀x c,X.env.cells.lookup x=some c->c≠b)/\∀p∈X.pn++ρ,p.1≠b
def Inv.fpOk(I:Inv X ρ σ H s)(hb:s.heap.objs.size<=b)(hn:H' b=none):hZ X ρ H' b:=by
 refine⟨hn,Nat.ne_of_gt (zag I.lt hb),I.nofs hb,.inr (zau I.sz hb),fun x c e z=>?_,fun p hp z=>?_⟩
 ·obtain⟨v,q⟩:=I.cell x c e;exact absurd (zag q.lt (by rw[z];exact hb)) (zaI _)
 ·exact absurd (zag (zal (I.pin p hp).1) (by rw[z];exact hb)) (zaI _)
structure Turn(P:Program)(w:World)(K:zbQ)(tg:Expr)(J:It)(fp:List Addr)(it:Addr)(tn:Nat->Heap->Prop):Prop where
 mem:it∈fp
 obj:∀i h,tn i h->∀b∈fp,∃o,h.get? b=some o/\∀v,o.data≠.cell v
 keep:∀i h h',tn i h->(∀b∈fp,∀o,h.get? b=some o->h'.get? b=some o)->tn i h'
 item:∀(X:Cx),X.prog=P->X.w=w->X.K=K->X.calm=true->∀(i:Nat) (ρ:List (Addr×Obj)) (s:Shared) (σ:St) (H:Hp) (E:Value->Shared->Prop),Inv X ρ σ H s->(∀b∈fp,hZ X ρ H b)->tn i s.heap->J.go i H ->
  wpAny (model P w) X.A (pyNext (.ref it)) (fun r s1=>∃u,r=some u /\
   wpAny (model P w) X.A (letOwnedTupleGo tg (.ref it) u) (fun _ s2=>∃x H',Inv X ρ σ H' s2/\RelV x u/\J.yld i H x H'/\tn (i+1) s2.heap/\∀b∈fp,H' b=none) E s1) E s
 done:∀(X:Cx),X.prog=P->X.w=w->X.K=K->X.calm=true->∀(i:Nat) (ρ:List (Addr×Obj)) (s:Shared) (σ:St) (H:Hp) (E:Value->Shared->Prop),Inv X ρ σ H s->(∀b∈fp,hZ X ρ H b)->tn i s.heap->J.stop i H ->
  wpAny (model P w) X.A (pyNext (.ref it)) (fun r s1=>r=none/\Inv X ρ σ H s1) E s
 self:∀(A:Around) (i:Nat) (s:Shared) (Q:Value->Shared->Prop) (E:Value->Shared->Prop),tn i s.heap->Q (.ref it) s->wpAny (model P w) A (pyIter (.ref it)) Q E s
abbrev TI:=St->Hp->(It->Hp->Prop)->Prop
def PIE(X:Cx)(ρ:List (Addr×Obj))(σ:St)(tg:Expr)(R:It->Hp->Prop)(itv:Value)(s2:Shared):Prop:=
 ∃(it:Addr) (fp:List Addr) (tn:Nat->Heap->Prop) (J:It) (H':Hp),itv=.ref it/\Inv X ρ σ H' s2/\Turn X.prog X.w X.K tg J fp it tn/\tn 0 s2.heap/\(∀b∈fp,hZ X ρ H' b)/\R J H'
def PI(X:Cx)(tg iter:Expr)(wi:TI):Prop:=
 ∀(ρ:List (Addr×Obj)) (s:Shared) (σ:St) (H:Hp) (R:It->Hp->Prop),Inv X ρ σ H s->wi σ H R ->
  wpAny (model X.prog X.w) X.A (eval iter X.env) (fun v s1=>wpAny (model X.prog X.w) X.A (pyIter v) (PIE X ρ σ tg R) X.xe s1) X.xe s
def kM{it:Addr}{o:Obj}{n:String}{vs:Array Value}{Q:Unit->Shared->Prop}(ho:s.heap.get? it=some o)(hc:o.cls=.type n)(hd:o.data=.fields vs)
  (hn:["enumerate","zip","dict_itemiterator","dict_reverseitemiterator","odict_iterator","itertools.zip_longest","itertools.pairwise"].contains n=false) (hQ:Q () s):wpAny M A (letOwnedTupleGo tg (.ref it) u) Q E s:=by
 unfold letOwnedTupleGo;cases tg<;>first
  |exact zaT hQ
  | (cases u<;>first
    |exact zaT hQ
    | (refine zam (wpAny_load ho ?_)
       rw[hc,hd];show wpAny M A (if(["enumerate","zip","dict_itemiterator","dict_reverseitemiterator","odict_iterator","itertools.zip_longest","itertools.pairwise"].contains n&&vs[0]?==some (rawInt _))=true then _ else _) Q E s;rw[if_neg (by intro h;rw[hn,Bool.false_and]at h;cases h)];exact zaT hQ))
def Itl(K:zbQ)(a:Addr):It:=
 ⟨fun i H=>∃xs x,SqL K H a xs/\xs[i]?=some x,fun i H x H'=>H'=H/\∀xs,SqL K H a xs->xs[i]?=some x,fun i H=>∃xs,SqL K H a xs/\xs.length<=i⟩
def Itt(K:zbQ)(a:Addr):It:=
 ⟨fun i H=>∃xs x,SqT K H a xs/\xs[i]?=some x,fun i H x H'=>H'=H/\∀xs,SqT K H a xs->xs[i]?=some x,fun i H=>∃xs,SqT K H a xs/\xs.length<=i⟩
def Itr(lo:Int)(n:Nat):It:=⟨fun i _=>i<n,fun i H x H'=>H'=H/\x=.int (lo+i),fun i _=>n<=i⟩
def uF(a it:Addr):Turn P w K tg (Itl K a) [it] it (fun i h=>h.IsListIter it a i) where
 mem:=by simp
 obj:=fun i h st b hb=>by
  have e:b=it:=by simpa using hb
  subst e;obtain⟨o,e,c,d⟩:=st;exact⟨o,e,fun v z=>by rw[d]at z;cases z⟩
 keep:=fun i h h' st k=>st.at fun o e=>k it (by simp) o e
 item:=by
  intro X hP hw hK hc i ρ s σ H E I hf st hg;subst hP hw hK;obtain⟨xs,x,hq,hx⟩:=hg;obtain⟨its,rv,p,hz⟩:=I.list hq;obtain⟨u,hu,ru⟩:=rv.get hx;obtain⟨f0,f1,f2,f3,f4,f5⟩:=hf it (by simp);refine wpAny_pyNext_list_item st p.isList (x:=u) (by simpa using hu) fun h' st' sb=>?_;have I1:Inv X ρ σ H { s with heap:=h' }:=I.turned (t':=s.toks) (fun b o hb e=>(sb.2 b hb).trans e) f0 f1 f3 f4 f5;obtain⟨o,e,c,d⟩:=id st';exact⟨u,rfl,kM (s:={ s with heap:=h' }) e c d (by decide) ⟨x,H,I1,ru,⟨rfl,fun ys hy=>by rw[I.list_inj hy hq];exact hx⟩,st',fun b hb=>(hf b hb).1⟩⟩
 done:=by
  intro X hP hw hK hc i ρ s σ H E I hf st hg;subst hP hw hK;obtain⟨xs,hq,hx⟩:=hg;obtain⟨its,rv,p,hz⟩:=I.list hq;obtain⟨f0,f1,f2,f3,f4,f5⟩:=hf it (by simp);have hl:=rv.length;exact wpAny_pyNext_list_end (I.ok.hd hc) st p.isList (by simp;omega) fun h' eb=>⟨rfl,I.turned (t':=s.toks) (fun b o hb e=>eb b o hb e) f0 f1 f3 f4 f5⟩
 self:=fun _ _ _ _ _ st h=>wpAny_pyIter_listiter st h
def sA(a it:Addr):Turn P w K tg (Itt K a) [it] it (fun i h=>h.IsTupleIter it a i) where
 mem:=by simp
 obj:=fun i h st b hb=>by
  have e:b=it:=by simpa using hb
  subst e;obtain⟨o,e,c,d⟩:=st;exact⟨o,e,fun v z=>by rw[d]at z;cases z⟩
 keep:=fun i h h' st k=>st.at fun o e=>k it (by simp) o e
 item:=by
  intro X hP hw hK hc i ρ s σ H E I hf st hg;subst hP hw hK;obtain⟨xs,x,hq,hx⟩:=hg;obtain⟨its,rv,p,hz⟩:=I.tuple hq;obtain⟨u,hu,ru⟩:=rv.get hx;obtain⟨f0,f1,f2,f3,f4,f5⟩:=hf it (by simp);refine wpAny_pyNext_tuple_item st (show s.heap.IsTuple a its.toArray from p) (x:=u) (by simpa using hu) fun h' st' sb=>?_;have I1:Inv X ρ σ H { s with heap:=h' }:=I.turned (t':=s.toks) (fun b o hb e=>(sb.2 b hb).trans e) f0 f1 f3 f4 f5;obtain⟨o,e,c,d⟩:=id st';exact⟨u,rfl,kM (s:={ s with heap:=h' }) e c d (by decide) ⟨x,H,I1,ru,⟨rfl,fun ys hy=>by rw[I.tuple_inj hy hq];exact hx⟩,st',fun b hb=>(hf b hb).1⟩⟩
 done:=by
  intro X hP hw hK hc i ρ s σ H E I hf st hg;subst hP hw hK;obtain⟨xs,hq,hx⟩:=hg;obtain⟨its,rv,p,hz⟩:=I.tuple hq;obtain⟨f0,f1,f2,f3,f4,f5⟩:=hf it (by simp);have hl:=rv.length;exact wpAny_pyNext_tuple_end (I.ok.hd hc) st (show s.heap.IsTuple a its.toArray from p) (by simp;omega) fun h' eb=>⟨rfl,I.turned (t':=s.toks) (fun b o hb e=>eb b o hb e) f0 f1 f3 f4 f5⟩
 self:=fun _ _ _ _ _ st h=>wpAny_pyIter_tupleiter st h
def sC(it:Addr)(lo:Int)(n:Nat):Turn P w K tg (Itr lo n) [it] it (fun i h=>IsRangeIter h it (lo+(i:Nat)*1) ((n:Int)-(i:Nat)) 1) where
 mem:=by simp
 obj:=fun i h st b hb=>by
  have e:b=it:=by simpa using hb
  subst e;exact⟨_,st,fun v z=>by
   have z':Data.fields _=Data.cell v:=z;cases z'⟩
 keep:=fun i h h' st k=>k it (by simp) _ st
 item:=by
  intro X hP hw hK hc i ρ s σ H E I hf st hg;subst hP hw hK;obtain⟨f0,f1,f2,f3,f4,f5⟩:=hf it (by simp);have W:=Walks.range (prog:=X.prog) (w:=X.w) (I.ok.hd hc) it lo 1 n;refine W.item i s _ _ hg st fun v h' tk hv st' kk=>?_;obtain⟨t,rfl⟩:=hv;have I1:Inv X ρ σ H { s with heap:=h',toks:=tk }:=I.turned (fun b o hb e=>kk b o (by simpa using hb) e) f0 f1 f3 f4 f5;refine⟨_,rfl,kM (s:={ s with heap:=h',toks:=tk }) (n:="range_iterator") st' rfl rfl (by decide) ⟨.int (lo+i),H,I1,⟨t,?_⟩,⟨rfl,rfl⟩,st',fun b hb=>(hf b hb).1⟩⟩;rw[Int.mul_one]
 done:=by
  intro X hP hw hK hc i ρ s σ H E I hf st hg;subst hP hw hK;obtain⟨f0,f1,f2,f3,f4,f5⟩:=hf it (by simp);exact wpAny_pyNext_range_end (I.ok.hd hc) st (by have:n<=i:=hg;omega) fun h' eb=>⟨rfl,I.turned (t':=s.toks) (fun b o hb e=>eb b o hb e) f0 f1 f3 f4 f5⟩
 self:=fun _ _ _ _ _ st h=>wpAny_pyIter_rangeiter st h
def wu{R:It->Hp->Prop}{lo hi:Int}{t u v:Tok}{tk:Nat}(I:Inv X ρ σ H s)(h1:-(2 ^ 62)<=lo)(h2:lo<2 ^ 62)(h3:-(2 ^ 62)<=hi)(h4:hi<2 ^ 62)
  (q:R (Itr lo (hi-lo).toNat) H):wpAny (model X.prog X.w) X.A (pyIter (.ref s.heap.objs.size)) (PIE X ρ σ tg R) E { s with heap:=s.heap.push { cls:=.type "range",data:=.fields #[.int lo t,.int hi u,.int 1 v] },toks:=tk }:=by
 refine wpAny_pyIter_range (IsRange.new ..) (small_one h1 h2 h3 h4) ?_;have I1:Inv X ρ σ H { s with heap:=s.heap.push { cls:=.type "range",data:=.fields #[.int lo t,.int hi u,.int 1 v] },toks:=tk }:=I.kept fun b o e=>zaf _ e;refine⟨(s.heap.push { cls:=.type "range",data:=.fields #[.int lo t,.int hi u,.int 1 v] }).objs.size,[(s.heap.push { cls:=.type "range",data:=.fields #[.int lo t,.int hi u,.int 1 v] }).objs.size],_,_,H,rfl,
  I1.kept (t':=tk) fun b o e=>zaf _ e,sC _ lo (hi-lo).toNat,?_,fun b hb=>?_,q⟩
 ·have e1:lo+((0:Nat):Int)*1=lo:=by simp
  have e2:(((hi-lo).toNat:Nat):Int)-((0:Nat):Int)=Builtin.Range.rangeSize lo hi 1:=by rw[rangeSize_one];split<;>omega
  show IsRangeIter _ _ (lo+((0:Nat):Int)*1) ((((hi-lo).toNat:Nat):Int)-((0:Nat):Int)) 1;rw[e1,e2];exact zan _ rfl
 ·have e:b=(s.heap.push { cls:=.type "range",data:=.fields #[.int lo t,.int hi u,.int 1 v] }).objs.size:=by simpa using hb
  subst e;exact I1.fpOk (zav _) (I1.hok.fresh (zav _))
def G6(ta:TA):TI:=fun σ H R=>ta σ H fun vs H1=>∃j:Int,vs=[.int j]/\-(2 ^ 62)<=j/\j<2 ^ 62/\R (Itr 0 j.toNat) H1
def uT{a:Expr}{ta:TA}(hg:Gl X "range")(hm:X.mg "range"=none)(ha:PA X [a] ta)(hs:starEach [a] X.env=[(false,eval a X.env)]:=by rfl):PI X tg (.Call (.Name "range" p) [a] [] pos) (G6 ta):=by
 intro ρ s σ H R I h;refine Call_ (jY I hg hm boot_range (PyProof.Rows.callWith_type1 (thn (ha pos ρ s σ H _ I h) fun us s1 ⟨vs,H1,I1,r1,q1⟩=>?_) hs rfl));obtain⟨j,e,q1,q2,q⟩:=q1;subst e;cases r1 with
 |cons r rr=>
  cases rr;obtain⟨t,rfl⟩:=r;exact call_range_1 (wu I1 (by omega) (by omega) q1 q2 (by simpa using q))
def Ee(wi:TI)(g:TG)(tb:TS):TS:=fun D σ H=>wi σ H fun J H1=>∃W:Nat->Nat->St->Hp->Prop,(∃m,W 0 m σ H1)/\∀i m σ H,W i m σ H ->
 (J.stop i H/\D.nx σ H)\/(J.go i H/\∃N:St->Hp->Prop,(∀σ' H',N σ' H'->∃m',m'<m/\W (i+1) m' σ' H')/\∀x H',J.yld i H x H'->g x σ H' fun σ2 H2=>tb { D with nx:=N,ct:=N,bk:=D.nx } σ2 H2)
def jP(fp:List Addr)(h:Heap):List (Addr×Obj):=fp.filterMap fun b=>(h.get? b).map fun o=>(b,o)
def gq{o:Obj}(hb:b∈fp)(e:h.get? b=some o):(b,o)∈jP fp h:=List.mem_filterMap.mpr ⟨b,hb,by rw[e];rfl⟩
def uY{p:Addr×Obj}(hp:p∈jP fp h):p.1∈fp/\h.get? p.1=some p.2:=by
 obtain⟨b,hb,e⟩:=List.mem_filterMap.mp hp;cases q:h.get? b with
 |none=>rw[q]at e;cases e
 |some o=>
  rw[q]at e;have e':(b,o)=p:=zat e;subst e';exact⟨hb,q⟩
def Inv.pinned(I:Inv X ρ σ H s)(hf:∀b∈fp,hZ X ρ H b)(ho:∀b∈fp,∃o,s.heap.get? b=some o/\∀v,o.data≠.cell v):Inv X (ρ++jP fp s.heap) σ H s:=
 I.pins_of fun p hp=>(zax.mp hp).elim (fun z=>I.pin p (zbd _ z)) fun z=>by
  obtain⟨hb,e⟩:=uY z;obtain⟨f0,f1,f2,_⟩:=hf p.1 hb;obtain⟨o,e',d⟩:=ho p.1 hb;rw[e]at e';cases e';exact⟨e,f0,f1,f2,d⟩
def Inv.unpinned{pl:List (Addr×Obj)}(I:Inv X (ρ++pl) σ H s):Inv X ρ σ H s:=I.pins_of fun p hp=>I.pin p (zbd _ (List.mem_append_left _ hp))
def EA{iter:Expr}{wi:TI}{g:TG}{tb:TS}(hp:PassesOwn (model X.prog X.w) X.A X.env X.xe)(hc:X.calm=true)(hi:PI X tg iter wi)(hg:PG X tg g)(hb:PSs X body tb)
  (hs:∀x,foldedSetIterable iter X.env x=pure x:=by intro _;rfl):PS X (.For tg iter body [] pos) (Ee wi g tb):=by
 intro ρ s σ H D I h;refine wpAny_For (thn (hi ρ s σ H _ I h) fun v s1 h1=>thn h1 fun itv s2 h2=>?_) hs;obtain⟨it,fp,tn,J,H2,e,I2,T,st2,f2,W,⟨m0,w0⟩,turn⟩:=h2;subst e;have stat:∀{H':Hp},(∀b∈fp,H' b=none)->∀b∈fp,hZ X ρ H' b:=fun hn b hb=>⟨hn b hb,(f2 b hb).2⟩;refine codeAny_forLoop_any (fun n s'=>∃i σ' H',Inv X ρ σ' H' s'/\tn i s'.heap/\(∀b∈fp,H' b=none)/\W i n σ' H') ?_ m0 ⟨0,σ,H2,I2,st2,fun b hb=>(f2 b hb).1,w0⟩;rintro n s3 ⟨i,σ3,H3,I3,st3,fr3,w3⟩;rcases turn i n σ3 H3 w3 with⟨stop,qn⟩|⟨go,N,hN,step⟩
 ·refine wpAny_passesOwn hp (thn (T.done X rfl rfl rfl hc i ρ s3 σ3 H3 X.xe I3 (stat fr3) st3 stop) fun r s4 ⟨hr,I4⟩=>?_);subst hr;exact wpAny_execs_nil ⟨σ3,H3,I4,qn⟩
 ·refine wpAny_passesOwn hp (thn (T.item X rfl rfl rfl hc i ρ s3 σ3 H3 X.xe I3 (stat fr3) st3 go) fun r s4 ⟨u,hr,h4⟩=>?_);subst hr;refine wpAny_passesOwn hp (thn h4 fun _ s5 ⟨x,H5,I5,r5,y5,st5,fr5⟩=>?_);have I5':=I5.pinned (stat fr5) (T.obj _ _ st5);refine wpAny_passesOwn hp (thn (hg _ s5 σ3 H5 x u _ I5' r5 (step x H5 y5)) fun _ s6 ⟨σ6,H6,I6,q6⟩=>?_);refine wpAny_passesOwn hp (thn (hb _ s6 σ6 H6 _ I6 q6) fun f s7 q7=>?_);have again:∀{σ7:St} {H7:Hp},Inv X (ρ++jP fp s5.heap) σ7 H7 s7->N σ7 H7->∃m,m<n/\∃i σ' H',Inv X ρ σ' H' s7/\tn i s7.heap/\(∀b∈fp,H' b=none)/\W i m σ' H':=fun {σ7 H7} I7 n7=>by
   obtain⟨m',hm,w7⟩:=hN σ7 H7 n7;refine⟨m',hm,i+1,σ7,H7,I7.unpinned,T.keep _ _ _ st5 fun b hb o e=>(I7.pin (b,o) (zbd _ (zbd _ (gq hb e)))).1,fun b hb=>?_,w7⟩;obtain⟨o,e,d⟩:=T.obj _ _ st5 b hb;exact(I7.pin (b,o) (zbd _ (zbd _ (gq hb e)))).2.1
  cases f with
  |next=>obtain⟨σ7,H7,I7,n7⟩:=q7;exact again I7 n7
  |cont=>obtain⟨σ7,H7,I7,n7⟩:=q7;exact again I7 n7
  |brk=>obtain⟨σ7,H7,I7,q7⟩:=q7;exact⟨σ7,H7,I7.unpinned,q7⟩
  |ret v=>obtain⟨x7,σ7,H7,I7,r7,q7⟩:=q7;exact⟨x7,σ7,H7,I7.unpinned,r7,q7⟩
abbrev R2:=V->V->Hp->VK->Prop
variable{r:R2}
def OpR(X:Cx)(f:Value->Value->Sem Value)(r:R2):Prop:=
 ∀(ρ:List (Addr×Obj)) (s:Shared) (σ:St) (H:Hp) (x y:V) (v u:Value) (Q:VK),Inv X ρ σ H s->RelV x v->RelV y u->r x y H Q ->
  wpAny (model X.prog X.w) X.A (f v u) (EP X ρ σ Q) X.xe s
def UnR(X:Cx)(f:Value->Sem Value)(r:V->Hp->VK->Prop):Prop:=
 ∀(ρ:List (Addr×Obj)) (s:Shared) (σ:St) (H:Hp) (x:V) (v:Value) (Q:VK),Inv X ρ σ H s->RelV x v->r x H Q ->
  wpAny (model X.prog X.w) X.A (f v) (EP X ρ σ Q) X.xe s
def CallR(X:Cx)(f:Value)(r:List V->Hp->VK->Prop):Prop:=
 ∀(ρ:List (Addr×Obj)) (s:Shared) (σ:St) (H:Hp) (xs:List V) (us:List Value) (Q:VK),Inv X ρ σ H s->Vals xs us->r xs H Q ->
  wpAny (model X.prog X.w) X.A (call f us) (EP X ρ σ Q) X.xe s
def Ir(X:Cx)(r:V->Hp->(Bool->Hp->Prop)->Prop):Prop:=
 ∀(ρ:List (Addr×Obj)) (s:Shared) (σ:St) (H:Hp) (x:V) (v:Value) (Q:Bool->Hp->Prop),Inv X ρ σ H s->RelV x v->r x H Q ->
  wpAny (model X.prog X.w) X.A (truthy v) (TP X ρ σ Q) X.xe s
def tOp(r:R2)(ta tb:TE):TE:=fun σ H Q=>ta σ H fun x H1=>tb σ H1 fun y H2=>r x y H2 Q
def tUn(r:V->Hp->VK->Prop)(ta:TE):TE:=fun σ H Q=>ta σ H fun x H1=>r x H1 Q
def rI(C:Int->Int->Prop)(g:Int->Int->V):R2:=fun x y H Q=>∃i j,x=.int i/\y=.int j/\C i j/\Q (g i j) H
def rI0(g:Int->Int->V):R2:=fun x y H Q=>∃i j,x=.int i/\y=.int j/\Q (g i j) H
def rU(g:Int->V):V->Hp->VK->Prop:=fun x H Q=>∃i,x=.int i/\Q (g i) H
section
variable{a b:Expr}{tc:TE} 
def xE(ha:PE X a ta)(hb:PE X b tb){R:V->V->Hp->Prop}(I:Inv X ρ σ H s)
  (h:ta σ H fun x H1=>tb σ H1 fun y H2=>R x y H2) {f:Value->Value->Sem Value}
  (hf:∀v u s2 x y H2,Inv X ρ σ H2 s2->RelV x v->RelV y u->R x y H2->wpAny (model X.prog X.w) X.A (f v u) Q X.xe s2):
  wpAny (model X.prog X.w) X.A (eval a X.env) (fun v s₁=>wpAny (model X.prog X.w) X.A (eval b X.env) (fun u s₂=>wpAny (model X.prog X.w) X.A (f v u) Q X.xe s₂) X.xe s₁) X.xe s:=by
 refine thn (ha ρ s σ H _ I h) ?_;rintro v s1 ⟨x,H1,I1,r1,q1⟩;refine thn (hb ρ s1 σ H1 _ I1 q1) ?_;rintro u s2 ⟨y,H2,I2,r2,q2⟩;exact hf v u s2 x y H2 I2 r1 r2 q2
def GS{op:Operator}(ho:OpR X (binaryOp op) r)(ha:PE X a ta)(hb:PE X b tb):PE X (.BinOp a op b pos) (tOp r ta tb):=by
 intro ρ s σ H Q I h;exact wpAny_BinOp (xE ha hb I h fun v u s2 x y H2 I2 rx ry q=>ho ρ s2 σ H2 x y v u Q I2 rx ry q)
def GP{op:UnaryOp}{r:V->Hp->VK->Prop}(ho:UnR X (unaryOp op) r)(ha:PE X a ta):PE X (.UnaryOp op a pos) (tUn r ta):=by
 intro ρ s σ H Q I h;exact UnaryOp_ (thn (ha ρ s σ H _ I h) fun v s1 ⟨x,H1,I1,r1,q1⟩=>ho ρ s1 σ H1 x v Q I1 r1 q1)
def opI{f:Value->Value->Sem Value}{C:Int->Int->Prop} 
  (rule:∀(i j:Int) (t u:Tok) (s:Shared) (Q:Value->Shared->Prop) (E:Value->Shared->Prop),C i j->Q (.int (g i j) s.toks) { s with toks:=s.toks+1 }->wpAny (model X.prog X.w) X.A (f (.int i t) (.int j u)) Q E s):
  OpR X f (rI C fun i j=>.int (g i j)):=by
 intro ρ s σ H x y v u Q I rx ry h;obtain⟨i,j,rfl,rfl,hc,q⟩:=h;obtain⟨t,rfl⟩:=rx;obtain⟨t',rfl⟩:=ry;exact rule i j t t' s _ _ hc ⟨.int (g i j),H,I.tok _,⟨_,rfl⟩,q⟩
def EM{f:Value->Value->Sem Value} 
  (rule:∀(i j:Int) (t u:Tok) (s:Shared) (Q:Value->Shared->Prop) (E:Value->Shared->Prop),Q (.int (g i j) s.toks) { s with toks:=s.toks+1 }->wpAny (model X.prog X.w) X.A (f (.int i t) (.int j u)) Q E s):
  OpR X f (rI0 fun i j=>.int (g i j)):=by
 intro ρ s σ H x y v u Q I rx ry h;obtain⟨i,j,rfl,rfl,q⟩:=h;obtain⟨t,rfl⟩:=rx;obtain⟨t',rfl⟩:=ry;exact rule i j t t' s _ _ ⟨.int (g i j),H,I.tok _,⟨_,rfl⟩,q⟩
def sV{f:Value->Value->Sem Value}{g:Int->Int->Bool}
  (rule:∀(i j:Int) (t u:Tok) (s:Shared) (Q:Value->Shared->Prop) (E:Value->Shared->Prop),Q (.bool (g i j)) s->wpAny (model X.prog X.w) X.A (f (.int i t) (.int j u)) Q E s):
  OpR X f (rI0 fun i j=>.bl (g i j)):=by
 intro ρ s σ H x y v u Q I rx ry h;obtain⟨i,j,rfl,rfl,q⟩:=h;obtain⟨t,rfl⟩:=rx;obtain⟨t',rfl⟩:=ry;exact rule i j t t' s _ _ ⟨.bl (g i j),H,I,rfl,q⟩
def nS(i j:Int):Prop:=0<j/\j<1073741824
def kA(i j:Int):Prop:=0<=j/\j<=1000000/\i.natAbs<2 ^ 64
def CMul(i j:Int):Prop:=(-(2 ^ 64)<i/\i<2 ^ 64)\/(-(2 ^ 64)<j/\j<2 ^ 64)
def CMul.ok{i j:Int}(h:CMul i j):IntMulOk i j:=by
 rcases h with⟨h1,h2⟩|⟨h1,h2⟩
 ·exact .of_left (intBits_le_64 h1 h2)
 ·exact .of_right (intBits_le_64 h1 h2)
def op_add:OpR X (binaryOp .Add) (rI0 fun i j=>.int (i+j)):=EM fun _ _ _ _ _ _ _ q=>add_int q
def op_sub:OpR X (binaryOp .Sub) (rI0 fun i j=>.int (i-j)):=EM fun _ _ _ _ _ _ _ q=>sub_int q
def op_mul:OpR X (binaryOp .Mult) (rI CMul fun i j=>.int (i*j)):=opI fun _ _ _ _ _ _ _ hc q=>mul_int q hc.ok
def op_fdiv:OpR X (binaryOp .FloorDiv) (rI nS fun i j=>.int (i / j)):=opI fun i j _ _ _ _ _ hc q=>by
 have h1:(0:Int)<j:=hc.1;have h2:j<1073741824:=hc.2;exact floordiv_int (by omega) (by rw[Int.fdiv_eq_ediv_of_nonneg i (by omega)];exact q) (.inl (PyProof.noPylong_small (by omega)))
def op_mod:OpR X (binaryOp .Mod) (rI (fun _ j=>0<j) fun i j=>.int (i % j)):=opI fun i j _ _ _ _ _ hc q=>by
 have h1:(0:Int)<j:=hc;exact mod_int' (by omega) (by rw[Int.fmod_eq_emod_of_nonneg i (by omega)];exact q)
def op_pow:OpR X (binaryOp .Pow) (rI kA fun i j=>.int (i ^ j.toNat)):=opI fun _ _ _ _ _ _ _ hc q=>pow_int_small hc.1 hc.2.1 hc.2.2 q
def unI{f:Value->Sem Value}{g:Int->Int}
  (rule:∀(i:Int) (t:Tok) (s:Shared) (Q:Value->Shared->Prop) (E:Value->Shared->Prop),Q (.int (g i) s.toks) { s with toks:=s.toks+1 }->wpAny (model X.prog X.w) X.A (f (.int i t)) Q E s):
  UnR X f (rU fun i=>.int (g i)):=by
 intro ρ s σ H x v Q I rx h;obtain⟨i,rfl,q⟩:=h;obtain⟨t,rfl⟩:=rx;exact rule i t s _ _ ⟨.int (g i),H,I.tok _,⟨_,rfl⟩,q⟩
def un_neg:UnR X (unaryOp .USub) (rU fun i=>.int (-i)):=unI fun _ _ _ _ _ q=>neg_int q
def vD{Q:VK}{k k':Bool}(I:Inv X ρ σ H s)(q:Q (.bl k) H)(e:k=k'):EP X ρ σ Q (.bool k') s:=by
 subst e;exact⟨.bl k,H,I,rfl,q⟩
def op_lt:OpR X (compareOp .Lt) (rI0 fun i j=>.bl (decide (i<j))):=sV fun _ _ _ _ _ _ _ q=>lt_int q
def op_le:OpR X (compareOp .LtE) (rI0 fun i j=>.bl (decide (i<=j))):=sV fun _ _ _ _ _ _ _ q=>le_int q
def op_gt:OpR X (compareOp .Gt) (rI0 fun i j=>.bl (decide (j<i))):=sV fun _ _ _ _ _ _ _ q=>gt_int q
def op_ge:OpR X (compareOp .GtE) (rI0 fun i j=>.bl (decide (j<=i))):=sV fun _ _ _ _ _ _ _ q=>ge_int q
def op_isN:OpR X (compareOp .Is) (fun x y H Q=>y=.non/\Q (.bl (decide (x=.non))) H):=by
 intro ρ s σ H x y v u Q I rx ry h;obtain⟨rfl,q⟩:=h;cases ry;refine is_none_gen (vD I q ?_);cases x<;>first
  | (cases rx;rfl)
  | (obtain⟨t,rfl⟩:=rx;rfl)
def op_notN:OpR X (compareOp .IsNot) (fun x y H Q=>y=.non/\Q (.bl (!decide (x=.non))) H):=by
 intro ρ s σ H x y v u Q I rx ry h;obtain⟨rfl,q⟩:=h;cases ry;refine isnot_none_gen (vD I q ?_);cases x<;>first
  | (cases rx;rfl)
  | (obtain⟨t,rfl⟩:=rx;rfl)
def aN(b:Expr)(h:op≠.In:=by decide)(h2:op≠.NotIn:=by decide):behindInMarks op b=false:=by
 have e1:(op==CmpOp.In)=false:=by cases op<;>first|rfl|exact absurd rfl h
 have e2:(op==CmpOp.NotIn)=false:=by cases op<;>first|rfl|exact absurd rfl h2
 cases b<;>simp[behindInMarks,e1,e2]
def Bh(ho:OpR X (compareOp op) r)(ha:PE X a ta)(hb:PE X b tb)(hm:behindInMarks op b=false):PE X (.Compare a [op] [b] pos) (tOp r ta tb):=by
 intro ρ s σ H Q I h;exact wpAny_Compare1 (xE ha hb I h fun v u s2 x y H2 I2 rx ry q=>ho ρ s2 σ H2 x y v u Q I2 rx ry q) hm
def GD(t:TE):TT:=fun σ H Q=>t σ H fun x H'=>∃k,x=.bl k/\Q k H'
def Bb(ho:OpR X (compareOp op) r)(ha:PE X a ta)(hb:PE X b tb)(hm:behindInMarks op b=false):PT X (.Compare a [op] [b] pos) (GD (tOp r ta tb)):=by
 intro ρ s σ H Q I h;refine wpAny_isTrue_Compare1 (thn (ha ρ s σ H _ I h) fun v s1 ⟨x,H1,I1,r1,q1⟩=>thn (hb ρ s1 σ H1 _ I1 q1) fun u s2 ⟨y,H2,I2,r2,q2⟩=>
  thn (ho ρ s2 σ H2 x y v u _ I2 r1 r2 q2) fun c s3 ⟨z,H3,I3,r3,k,e,q3⟩=>?_) hm
 subst e;cases r3;exact zbw ⟨H3,I3,q3⟩
def uL(r r':R2)(ta tb tc:TE):TE:=fun σ H Q=>ta σ H fun x H1=>tb σ H1 fun y H2=>r x y H2 fun z H3=>∃k,z=.bl k /\
 (if k=true then tc σ H3 fun w' H4=>r' y w' H4 Q else Q (.bl false) H3)
def wB{op':CmpOp}{r':R2}(ho:OpR X (compareOp op) r)(ho':OpR X (compareOp op') r')(ha:PE X a ta)(hb:PE X b tb)(hc:PE X c tc)
  (hm:lastMarks [op,op'] [b,c]=false:=by with_unfolding_all rfl):PE X (.Compare a [op,op'] [b,c] pos) (uL r r' ta tb tc):=by
 intro ρ s σ H Q I h;refine Compare_chain (thn (ha ρ s σ H _ I h) fun v s1 ⟨x,H1,I1,r1,q1⟩=>chain_link (thn (hb ρ s1 σ H1 _ I1 q1) fun u s2 ⟨y,H2,I2,r2,q2⟩=>
  thn (ho ρ s2 σ H2 x y v u _ I2 r1 r2 q2) fun d s3 ⟨z,H3,I3,r3,k,e,q3⟩=>?_)) hm
 subst e;cases r3;refine zbw ?_;cases k with
 |false=>exact ite_ff ⟨.bl false,H3,I3,rfl,q3⟩
 |true=>exact ite_tt (chain_last (thn (hc ρ s3 σ H3 _ I3 q3) fun w' s4 ⟨z',H4,I4,r4,q4⟩=>ho' ρ s4 σ H4 y z' u w' Q I4 r2 r4 q4))
def Iq(K:zbQ)(x:V)(H:Hp)(k:Bool):Prop:=
 match x with
 |.non=>k=false
 |.bl b=>k=b
 |.int i=>k=(i != 0)
 |.str y=>y.length<=sizeLine/\k=((y.length:Int) != 0)
 |.byt y=>y.size<=sizeLine/\k=((y.size:Int) != 0)
 |.ref p=>(∃xs,SqL K H p xs/\k=!xs.isEmpty)\/(∃xs,SqT K H p xs/\k=!xs.isEmpty)\/∃kvs,H p=some (.dK kvs)/\k=!kvs.isEmpty
 |_=>False
def iQ:(sizeLine:Nat)<2 ^ 63:=by rw[sizeLine_eq];decide
def sU:OpR X (binaryOp .Add) (fun x y H Q=>∃i j,x=.str i/\y=.str j/\i.length+j.length<=sizeLine/\Q (.str (i++j)) H):=by
 intro ρ s σ H x y v u Q I rx ry h;obtain⟨i,j,rfl,rfl,hz,q⟩:=h;obtain⟨t,rfl⟩:=rx;obtain⟨t',rfl⟩:=ry;exact add_str (fun t' tk=>⟨.str (i++j),H,I.tok _,⟨_,rfl⟩,q⟩) hz
def kG{x:V}(r:Vals [x] us):∃u,us=[u]/\RelV x u:=by
 cases r with
 |cons r1 r2=>cases r2;exact⟨_,rfl,r1⟩
def Ap{x:V}(r:Vals [x,y] us):∃u w',us=[u,w']/\RelV x u/\RelV y w':=by
 cases r with
 |cons r1 r2=>
  cases r2 with
  |cons r3 r4=>cases r4;exact⟨_,_,rfl,r1,r3⟩
def Gy(K:zbQ)(x:V)(H:Hp)(n:Nat):Prop:=
 match x with
 |.str y=>y.length<=sizeLine/\n=y.length
 |.byt y=>y.size<=sizeLine/\n=y.size
 |.ref p=>(∃xs,SqL K H p xs/\n=xs.length)\/∃xs,SqT K H p xs/\n=xs.length
 |_=>False
def xA:CallR X (.builtin "len") (fun xs H Q=>∃x n,xs=[x]/\Gy X.K x H n/\Q (.int n) H):=by
 intro ρ s σ H xs us Q I r h;obtain⟨x,n,rfl,e,q⟩:=h;obtain⟨u,rfl,rx⟩:=kG r;have hl:=iQ;have hs:sizeLine=16777216:=sizeLine_eq;cases x with
 |str y=>
  obtain⟨t,rfl⟩:=rx;obtain⟨hy,e'⟩:y.length<=sizeLine/\n=y.length:=e;subst e';exact len_str (by omega) ⟨.int _,H,I.tok _,⟨_,rfl⟩,q⟩
 |byt y=>
  obtain⟨t,rfl⟩:=rx;obtain⟨hy,e'⟩:y.size<=sizeLine/\n=y.size:=e;subst e';exact PySem.W.len_bytes (by omega) ⟨.int _,H,I.tok _,⟨_,rfl⟩,q⟩
 |ref p=>
  cases rx;have e':(∃xs,SqL X.K H p xs/\n=xs.length)\/∃xs,SqT X.K H p xs/\n=xs.length:=e;rcases e' with⟨xs,hx,e'⟩|⟨xs,hx,e'⟩
  ·subst e';obtain⟨its,r',pl,hz⟩:=I.list hx;have ξ:=r'.length;exact Calls.call_len_list pl.isList (by simp only[zai];omega) ⟨.int xs.length,H,I.tok _,⟨_,by simp only[zai];rw[ξ]⟩,q⟩
  ·subst e';obtain⟨its,r',pl,hz⟩:=I.tuple hx;have ξ:=r'.length;exact len_tuple pl (by simp only[zai];omega) ⟨.int xs.length,H,I.tok _,⟨_,by simp only[zai];rw[ξ]⟩,q⟩
 |_=>exact(show False from e).elim
end
structure ObjM(h:Heap)(x dx C:Addr)(mA:Str->Option Value):Prop where
 obj:h.get? x=some (PySem.W.instObj C dx)
 ns:h.Ns1 dx mA
 ne:dx≠x
def u0(n:h.Ns1 dx mA):∃od,h.get? dx=some od/\∀name,PySem.W.lookIn name od=some (mA name):=by
 obtain⟨o,es,ep,ho,hd,hk,_,hm⟩:=n;refine⟨o,ho,fun name=>?_⟩;have e:=hm name;unfold nsFind findBy at e;rw[<-Array.find?_toList]at e;unfold PySem.W.lookIn;rw[hd]
 dsimp only
 split
 ·rename_i y q;rw[q]at e;exact congrArg some e
 ·rename_i q;rw[q]at e;have a:es.toList.any (·.refKey)=false:=by
   rw[List.any_eq_false];intro y hy;obtain⟨z,t,hkey⟩:=hk y (Array.mem_toList_iff.mp hy);simp[DictEntry.refKey,hkey]
  have a':¬es.toList.any (·.refKey)=true:=by rw[a];exact zbk
  rw[if_neg a'];exact congrArg some e
def ObjM.look{x:Addr}(I:ObjM h x dx C mA):∃od,PySem.W.InstAt h x (PySem.W.instObj C dx) C (some od)/\∀name,PySem.W.lookIn name od=some (mA name):=
 let⟨od,ho,hl⟩:=u0 I.ns
 ⟨od,⟨I.obj,rfl,rfl,ho⟩,hl⟩
section
variable{fs fs':List (Str×V)}
def Bv(hok:HOk P w H h)(e:H a=some (.ins C dx fs)):∃mA,ObjM h a dx C mA/\(∀f,RelO (fs.lookup f) (mA f))/\PySem.Within mA (fs.map (·.1))/\fs.length<=1000/\H dx=some (.own a):=by
 obtain⟨d,z,ne,ob,mA,n,r,q⟩:=(show ObjOk P w H h a (.ins C dx fs)from hok a _ e);exact⟨mA,⟨ob,n,ne⟩,r,q,z,d⟩
end
structure Cls(K:zbQ)(C:Addr):Prop where
 pg:PySem.W.plainGet K C Str.empty=true
 hd:PySem.W.hasDictIn K C=true
 po:PySem.W.plainOver K C=true
 sa:PySem.W.findIn K (.ref C) "__setattr__"=some (some (.builtin "object.__setattr__"))
def Cls.get(c:Cls K C)(f:Str):PySem.W.plainGet K C f=true:=c.pg
section
variable{c:Value}{b:Bool}
inductive TyOf(K:zbQ)(H:Hp):V->Value->Prop where
 |non:TyOf K H .non (.type "NoneType")
 |bl (x:Bool):TyOf K H (.bl x) (.type "bool")
 |int (i:Int):TyOf K H (.int i) (.type "int")
 |str (x:Str):TyOf K H (.str x) (.type "str")
 |flt (x:UInt64):TyOf K H (.flt x) (.type "float")
 |lst {a:Addr} {xs:List V} (e:H a=some (.lst xs)):TyOf K H (.ref a) (.type "list")
 |frz {a:Addr} {o:Obj} {xs:List V} (e:H a=some (.frz o (.lst xs))):TyOf K H (.ref a) (.type "list")
 |tup {a:Addr} {xs:List V} (e:H a=some (.tup xs)):TyOf K H (.ref a) (.type "tuple")
 |dK {a:Addr} {kvs:List (Key×V)} (e:Rd H a (.dK kvs)):TyOf K H (.ref a) (.type "dict")
 |dT {a:Addr} {kvs:List (List (Option Key)×V)} {ad:Addr->Prop} (e:Rd H a (.dT kvs ad)):TyOf K H (.ref a) (.type "dict")
 |ins {a C dx:Addr} {fs:List (Str×V)} (e:H a=some (.ins C dx fs)) (cl:Cls K C) (ha:PySem.W.findIn K (.ref C) "__class__"=some (some (.builtin "object.__class__")))
   (hn:PySem.W.specialIn K (.builtin "object.__class__") "__get__"=some (some (.builtin "getset_descriptor.__get__"))) (htk:PySem.W.takesIn K (.builtin "object.__class__")=some true)
   (hm:PySem.W.mroIn K C (.type "object")=some true):TyOf K H (.ref a) (.ref C)
def vc{x:V}{t:Value}(I:Inv X ρ σ H s)(rx:RelV x u)(ty:TyOf X.K H x t)(e:PySem.W.kitOne X.K t c=some b)(h:∀tk,Q (.bool b) { s with toks:=tk }):
  wpAny (model X.prog X.w) A (call (.builtin "isinstance") [u,c]) Q E s:=by
 cases ty with
 |non=>cases(show u=Value.none from rx);exact PySem.W.kia_one PySem.W.kitx_none I.kIn True.intro e (fun z=>nomatch z) h
 |bl y=>cases(show u=Value.bool y from rx);exact PySem.W.kia_one PySem.W.kitx_bool I.kIn True.intro e (fun z=>nomatch z) h
 |int i=>obtain⟨t,q⟩:=(show ∃t,u=Value.int i t from rx);cases q;exact PySem.W.kia_one PySem.W.kitx_int I.kIn True.intro e (fun z=>nomatch z) h
 |str y=>obtain⟨t,q⟩:=(show ∃t,u=Value.str y t from rx);cases q;exact PySem.W.kia_one PySem.W.kitx_str I.kIn True.intro e (fun z=>nomatch z) h
 |flt y=>obtain⟨t,q⟩:=(show ∃t,u=Value.float y t from rx);cases q;exact PySem.W.kia_one PySem.W.kitx_float I.kIn True.intro e (fun z=>nomatch z) h
 |@lst a xs ea=>
  cases(show u=Value.ref a from rx);obtain⟨_,_,n,_,h1⟩:=(show ObjOk X.prog X.w H s.heap a (.lst xs)from I.hok a _ ea);exact PySem.W.kia_one PySem.W.kitx_list I.kIn ⟨_,h1,rfl⟩ e (fun z=>nomatch z) h
 |@frz a ob xs ea=>
  cases(show u=Value.ref a from rx);obtain⟨_,_,_,n,_,h1⟩:=(show ObjOk X.prog X.w H s.heap a (.frz ob (.lst xs))from I.hok a _ ea);exact PySem.W.kia_one PySem.W.kitx_list I.kIn ⟨_,h1,rfl⟩ e (fun z=>nomatch z) h
 |@tup a xs ea=>
  cases(show u=Value.ref a from rx);obtain⟨_,_,_,p⟩:=(show ObjOk X.prog X.w H s.heap a (.tup xs)from I.hok a _ ea);obtain⟨o,h1,h2,_⟩:=p;exact PySem.W.kia_one PySem.W.kitx_tuple I.kIn ⟨o,h1,h2⟩ e (fun z=>nomatch z) h
 |@dK a kvs ea=>
  cases(show u=Value.ref a from rx);obtain⟨_,_,vs,_,p⟩:=(show ObjOk X.prog X.w H s.heap a (.dK kvs)from ea.ok I.hok);obtain⟨o,es,ep,h1,h2,_⟩:=p;exact PySem.W.kia_one PySem.W.kitx_dict I.kIn ⟨o,h1,h2.1⟩ e (fun z=>nomatch z) h
 |@dT a kvs ad ea=>
  cases(show u=Value.ref a from rx);obtain⟨_,_,xs,_,o,es,ep,h1,h2,_⟩:=(show ObjOk X.prog X.w H s.heap a (.dT kvs ad)from ea.ok I.hok);exact PySem.W.kia_one PySem.W.kitx_dict I.kIn ⟨o,h1,h2.1⟩ e (fun z=>nomatch z) h
 |@ins a C dx fs ea cl ha hn htk hm=>
  cases(show u=Value.ref a from rx);obtain⟨mA,O,_⟩:=Bv I.hok ea;obtain⟨od,J,_⟩:=O.look;exact PySem.W.kia_one (PySem.W.kitx_own (cl.get _) cl.hd ha hn htk hm) I.kIn J e (fun z=>nomatch z) h
end
structure Room(k:Nat)(A:Around):Prop where
 hd:A.handled=none
 dp:A.depth+3*k+5<recursionLimit
 un:A.units+16*k+200<cLine
 gd:A.guards=some []
def Room.mono(r:Room k A)(h:j<=k):Room j A:=⟨r.hd,by have:=r.dp;omega,by have:=r.un;omega,r.gd⟩
def Room.deeper(r:Room (k+1) A)(env:Env):Room k (A.deeper env):=
 ⟨r.hd,by have:=r.dp;show A.depth+1+3*k+5<_;omega,by have:=r.un;show A.units+3+16*k+200<_;omega,r.gd⟩
def Room.depth(r:Room k A):A.depth<recursionLimit:=by have:=r.dp;omega
def Room.units(r:Room k A):A.units+64<cLine:=by have:=r.un;omega
def pG:TA:=fun _ H Q=>Q [] H
def ig(ta:TE)(tr:TA):TA:=fun σ H Q=>ta σ H fun x H1=>tr σ H1 fun xs H2=>Q (x::xs) H2
section
variable{t:TA} 
def pa_nil:PA X [] pG:=fun _ _ _ _ H Q I h=>Calls.spliced_nil ⟨[],H,I,.nil,h⟩
def dk(ha:PE X e te)(hr:PA X es t)(hs:starEach (e::es) X.env=(false,eval e X.env)::starEach es X.env:=by rfl):PA X (e::es) (ig te t):=by
 intro pos ρ s σ H Q I h;rw[hs];show wpAny _ _ (spliced ((false,eval e X.env)::backTo pos (starEach es X.env))) _ _ s;refine Calls.spliced_cons (thn (ha ρ s σ H _ I h) fun u s1 ⟨x,H1,I1,r1,q1⟩=>?_);exact thn (hr pos ρ s1 σ H1 _ I1 q1) fun us s2 ⟨xs,H2,I2,r2,q2⟩=>⟨x::xs,H2,I2,.cons r1 r2,q2⟩
def D7(t:TA):TE:=fun σ H Q=>t σ H fun xs H1=>xs.length<=sizeLine/\∀p,H1 p=none->Q (.ref p) (upd H1 p (.tup xs))
def wp(t:TA):TE:=fun σ H Q=>t σ H fun xs H1=>xs.length<=sizeLine/\∀p,H1 p=none->Q (.ref p) (upd H1 p (.lst xs))
def ED{x1}(h:PA X es t):PE X (.Tuple es x1 pos) (D7 t):=by
 intro ρ s σ H Q I hq;refine wpAny_Tuple_spliced (thn (h pos ρ s σ H _ I hq) fun us s1 ⟨xs,H1,I1,r,z,q⟩=>⟨by rw[<-r.length];exact z,?_⟩);have hf:H1 s1.heap.objs.size=none:=I1.hok.fresh (zav _);refine⟨.ref s1.heap.objs.size,upd H1 s1.heap.objs.size (.tup xs),I1.laid (t':=s1.toks) (fun b u e=>zaf _ e) (zav _) ?_,rfl,q _ hf⟩;exact⟨z,us,r,⟨_,zan _ rfl,rfl,_,rfl,rfl⟩⟩
def uU(h:PA X es t):PE X (.List es pos) (wp t):=by
 intro ρ s σ H Q I hq;refine wpAny_List_spliced (thn (h pos ρ s σ H _ I hq) fun us s1 ⟨xs,H1,I1,r,z,q⟩=>⟨by rw[<-r.length];exact z,?_⟩);have hf:H1 s1.heap.objs.size=none:=I1.hok.fresh (zav _);refine⟨.ref s1.heap.objs.size,upd H1 s1.heap.objs.size (.lst xs),I1.laid (t':=s1.toks) (fun b u e=>zaf _ e) (zav _) ?_,rfl,q _ hf⟩;exact⟨z,us,0,r,zan _ rfl⟩
end
abbrev Sp:=List V->Hp->VK->XK->Prop
variable{sp:Sp}
abbrev CXT:=List Env->Hp->Shared->XK->Value->Shared->Prop
variable{CX:CXT}
structure Env0(P:Program)(w:World)(K:zbQ)(mg:Str->Option Value)(base:Heap)(A:Around)(outer:List Env)(s:Shared)(H:Hp):Prop where
 frames:A.frames=some outer
 mod:Mod K mg base
 bs:∀b o,base.get? b=some o->s.heap.get? b=some o/\H b=none
 bsz:base.objs.size<=s.heap.objs.size
 funs:s.heap.FunFrames base outer
 frf:∀b∈frs outer,H b=none
 hok:HOk P w H s.heap
 bare:AllBare s.gens
def CE(outer:List Env)(P:Program)(w:World)(H:Hp)(s:Shared)(Q:VK)(u:Value)(s':Shared):Prop:=
 ∃v H',s'.os=s.os/\AllBare s'.gens/\Un (frs outer) [] H H' s.heap s'.heap/\HOk P w H' s'.heap/\RelV v u/\Q v H'
def CR(CX:CXT)(outer:List Env)(P:Program)(w:World)(H:Hp)(s:Shared)(Q:VK)(E:XK)(r:Result)(s':Shared):Prop:=
 match r with
 |.ok (.ret u)=>CE outer P w H s Q u s'
 |.ok _=>False
 |.error e=>CX outer H s E e s'
structure FnOk(P:Program)(w:World)(K:zbQ)(mg:Str->Option Value)(base:Heap)(CX:CXT)(k:Nat)(f:Addr)(fd:FuncData)(ps:List Str)(sp:Sp):Prop where
 len:∀vs H Q E,sp vs H Q E->vs.length=ps.length
 run:∀(A:Around) (outer:List Env) (s:Shared) (H:Hp) (args:Args) (us:List Value) (vs:List V) (Q:VK) (E:XK),Room k A->Env0 P w K mg base A outer s H->BindsTo s fd args (ps.zip us)->Vals vs us->sp vs H Q E ->
  codeAny (model P w) A (.call (.ref f) args) (CR CX outer P w H s Q E) s
def FnOk.mono{P:Program}{w:World}{K:zbQ}{mg:Str->Option Value}{base:Heap}{CX:CXT}{j k:Nat}{f:Addr}{fd:FuncData}{ps:List Str}{sp:Sp}(F:FnOk P w K mg base CX j f fd ps sp)(h:j<=k):
  FnOk P w K mg base CX k f fd ps sp:=⟨F.len,fun A outer s H args us vs Q E hr=>F.run A outer s H args us vs Q E (hr.mono h)⟩
def FnOk.imp{base:Heap}{sp':Sp}(F:FnOk P w K mg base CX k f fd ps sp)
  (h:∀vs H Q E,sp' vs H Q E->sp vs H Q E):FnOk P w K mg base CX k f fd ps sp':=
 ⟨fun vs H Q E q=>F.len vs H Q E (h _ _ _ _ q),fun A outer s H args us vs Q E hr he hb hv hs=>F.run A outer s H args us vs Q E hr he hb hv (h _ _ _ _ hs)⟩
def Inv.env0(I:Inv X ρ σ H s):Env0 X.prog X.w X.K X.mg X.base X.A X.stack s H:=
 ⟨I.ok.frames,I.ok.mod,I.bs,zau I.ok.bsz I.sz,I.stack,I.stkFree,I.hok,I.bare⟩
def Inv.after{Q:VK}(I:Inv X ρ σ H s)(h:CE X.stack X.prog X.w H s Q u s'):EP X ρ σ Q u s':=by
 obtain⟨v,H',os,bare,un,hok,r,q⟩:=h;obtain⟨hh,g,d,t,os'⟩:=s';obtain rfl:os'=s.os:=os;exact⟨v,H',I.call (h':=hh) (g':=g) (d':=d) (t':=t) (ch:=[]) un hok bare (fun b z=>absurd z (by simp)),r,q⟩
def lU(sp:Sp)(dvs:List V)(E:XK)(t:TA):TE:=fun σ H Q=>t σ H fun vs H1=>sp (vs++dvs) H1 Q E
def Binds(K:zbQ)(fd:FuncData)(ps:List Str)(ds:List Value):Prop:=
 ∀(s:Shared) (us:List Value),K.In s.heap->(us++ds).length=ps.length->BindsTo s fd ⟨us,[]⟩ (ps.zip (us++ds))
def Binds.all(h:∀us:List Value,us.length=ps.length->bindArgs fd ⟨us,[]⟩=pure (ps.zip us)):Binds K fd ps []:=fun s us _ hl=>by
 rw[List.append_nil]at hl ⊢;exact .of_eq (h us hl)
def qR(CX:CXT)(X:Cx)(E:XK):Prop:=∀(ρ:List (Addr×Obj)) (σ:St) (H:Hp) (s:Shared) (e:Value) (s':Shared),Inv X ρ σ H s->CX X.stack H s E e s'->X.xe e s'
section
variable{dvs:List V}{ds:List Value}{E:XK}{m:Str}{μ:Pos}{o:Expr}{t:TA}
def El{Q:VK}(F:FnOk X.prog X.w X.K X.mg X.base CX k f fd ps sp)(hr:Room k X.A)(hb:Binds X.K fd ps ds)(hd:Vals dvs ds)(hx:qR CX X E)
  (I:Inv X ρ σ H s) (r:Vals vs us) (h:sp (vs++dvs) H Q E):wpAny (model X.prog X.w) X.A (call (.ref f) us) (EP X ρ σ Q) X.xe s:=by
 have r2:Vals (vs++dvs) (us++ds):=r.append hd;have hl:(us++ds).length=ps.length:=by rw[<-r2.length];exact F.len _ _ _ _ h
 refine wpAny_call (codeAny_mono (F.run X.A X.stack s H ⟨us,[]⟩ (us++ds) (vs++dvs) Q E hr I.env0 (hb s us I.kIn hl) r2 h) fun r s' hq=>?_);cases r with
 |error e=>exact hx ρ σ H s e s' I hq
 |ok fl=>
  cases fl with
  |ret u=>exact I.after hq
  |next=>exact False.elim hq
  |brk=>exact False.elim hq
  |cont=>exact False.elim hq
def Bi(F:FnOk X.prog X.w X.K X.mg X.base CX k f fd ps sp)(hr:Room k X.A)(hg:Gl X x)(hm:X.mg x=some (.ref f))(hk:PySem.W.keepIn X.K (.ref f)=true)(hb:Binds X.K fd ps ds)(hd:Vals dvs ds)(hx:qR CX X E)
  (ha:PA X (e::es) t) (hdb:(x==("__debug__":Str))=false:=by decide) (he:starEach (e::es) X.env=(false,eval e X.env)::starEach es X.env:=by rfl) (hpl:(backTo pos (starEach es X.env)).any (·.1)=false:=by rfl):
  PE X (.Call (.Name x p) (e::es) [] pos) (lU sp dvs E t):=by
 intro ρ s σ H Q I h;refine wpAny_Call_Name_kw (Bq I hg hm ?_ hdb);refine PySem.W.callWith_K (h₀:=X.base) I.ok.mod.kin hk (thn (ha pos ρ s σ H _ I h) fun us s1 ⟨vs,H1,I1,r,q⟩=>⟨I1.kIn,?_⟩) he hpl;exact El F hr hb hd hx I1 r q
end
structure FnScope(N P:List Str)(sc:Scope):Prop where
 kind:sc.kind=.function
 co:sc.isCoroutine=false
 gen:sc.isGenerator=false
 nd:N.Nodup
 pre:N.take P.length=P
 par:∀x∈P,sc.names.lookup x=some .local\/sc.names.lookup x=some .cell
 nofree:∀y∈sc.names,y.2≠.free
theorem ou{kindOf:Str->Option NameKind}{x:Str}:∀{binds:List (Str×Value)} {m:Str->Option Value},(∀v,(x,v)∉binds)->bindL kindOf binds m x=m x
 |[],_,_=>rfl
 | (n,v)::r,m,h=>by
  unfold bindL;rw[ou fun w hw=>h w (zaj _ hw)];split
  ·have:x≠n:=by rintro rfl;exact h v zaq
   simp[this]
  ·rfl
theorem oA{kindOf:Str->Option NameKind}{x:Str}:∀{binds:List (Str×Value)} {m:Str->Option Value},(∀v,(x,v)∉binds)->bindC kindOf binds m x=m x
 |[],_,_=>rfl
 | (n,v)::r,m,h=>by
  unfold bindC;rw[oA fun w hw=>h w (zaj _ hw)];split
  ·rfl
  ·have:x≠n:=by rintro rfl;exact h v zaq
   simp[this]
theorem oz{kindOf:Str->Option NameKind}{x:Str}{v:Value}:∀{P:List Str} {vs:List Value} {i:Nat} {m:Str->Option Value},P.Nodup->P[i]?=some x->vs[i]?=some v->kindOf x=some .local ->
  bindL kindOf (P.zip vs) m x=some v
 |[],_,_,_,_,h,_,_=>by simp at h
 |_::_,[],_,_,_,_,h,_=>by simp at h
 |p::P,w::vs,0,m,nd,h1,h2,hk=>by
  simp at h1 h2;subst h1;subst h2;show bindL kindOf ((p,w)::P.zip vs) m p=_;unfold bindL;rw[ou fun v hv=>(za9.mp nd).1 (List.of_mem_zip hv).1,if_pos hk];simp
 |p::P,w::vs,i+1,m,nd,h1,h2,hk=>by
  show bindL kindOf ((p,w)::P.zip vs) m x=_;unfold bindL;exact oz (i:=i) (za9.mp nd).2 (by simpa using h1) (by simpa using h2) hk
theorem oB{kindOf:Str->Option NameKind}{x:Str}{v:Value}:∀{P:List Str} {vs:List Value} {i:Nat} {m:Str->Option Value},P.Nodup->P[i]?=some x->vs[i]?=some v->kindOf x≠some .local ->
  bindC kindOf (P.zip vs) m x=some v
 |[],_,_,_,_,h,_,_=>by simp at h
 |_::_,[],_,_,_,_,h,_=>by simp at h
 |p::P,w::vs,0,m,nd,h1,h2,hk=>by
  simp at h1 h2;subst h1;subst h2;show bindC kindOf ((p,w)::P.zip vs) m p=_;unfold bindC;rw[oA fun v hv=>(za9.mp nd).1 (List.of_mem_zip hv).1,if_neg hk];simp
 |p::P,w::vs,i+1,m,nd,h1,h2,hk=>by
  show bindC kindOf ((p,w)::P.zip vs) m x=_;unfold bindC;exact oB (i:=i) (za9.mp nd).2 (by simpa using h1) (by simpa using h2) hk
def dh(N:List Str)(vs:List V):St:=vs.map some++List.replicate (N.length-vs.length) none
def j8(CX:CXT)(P:Program)(w:World)(K:zbQ)(mg:Str->Option Value)(base:Heap)(N:List Str)(qual:Str)(scope:Scope)(f:Addr)(cd:Value)(A:Around)(outer:List Env)(s:Shared)(H:Hp)(E:XK):Cx where
 prog:=P
 w:=w
 K:=K
 mg:=mg
 base:=base
 A:=A.deeper (envOfC qual scope s.heap.objs.size f cd)
 N:=N
 s₀:=s
 H₀:=H
 env:=envOfC qual scope s.heap.objs.size f cd
 outer:=outer
 stack:=envOfC qual scope s.heap.objs.size f cd::outer
 ex:=[]
 calm:=true
 fn:=fun _=>true
 pn:=[]
 xe:=fun e s'=>wpAny (model P w) (A.deeper (envOfC qual scope s.heap.objs.size f cd)) (leaving (envOfC qual scope s.heap.objs.size f cd) e) (fun _ s''=>CX outer H s E e s'') (fun e' s''=>CX outer H s E e' s'') s'
def qK{sc:Scope}(h:sc.names.lookup x=some .cell):∃c,(cellsFrom n sc.names []).lookup x=some c:=by
 have q:=PySem.W.cellsFrom_some sc.names n [] (.inl h);exact Option.isSome_iff_exists.mp q
def vd{base:Heap}{cd:Value}{outer:List Env}{s1:Shared}{E:XK} 
  (S:FnScope N ps scope) (hd:A.handled=none) (e0:Env0 P w K mg base A outer s H) (hl:vs.length=ps.length) (r:Vals vs us)
  (x:InCallC s s.heap.objs.size (bindL (envOfC qual scope s.heap.objs.size f cd).kindOf (ps.zip us) fun _=>none) (cellsFrom (s.heap.objs.size+1) scope.names []) (bindC (envOfC qual scope s.heap.objs.size f cd).kindOf (ps.zip us) fun _=>none) s1):
  Inv (j8 CX P w K mg base N qual scope f cd A outer s H E) [] (dh N vs) H s1:=by
 have hpl:ps.length<=N.length:=by have:=congrArg List.length S.pre;rw[zaE]at this;omega
 obtain⟨h1,tk,rfl,hk⟩:=x.done;have noA:∀b:Addr,b∉(j8 CX P w K mg base N qual scope f cd A outer s H E).ex:=fun b z=>absurd (show b∈([]:List Addr)from z) (by simp);refine⟨⟨e0.mod,S.kind,rfl,rfl,zav _,fun y z c h1 h2=>?_,fun y hy=>?_,fun y c _ h=>?_,fun _=>hd,Around.frames_deeper e0.frames,.inr ⟨rfl,rfl⟩,fun b z=>absurd z (noA b),e0.bs,e0.bsz,fun b _ _=>noA b,fun b z=>absurd z (noA b),e0.funs,e0.frf⟩,
  rfl,e0.bare,Un.kept hk,⟨_,x.toInCall.ns,fun i y v h1 h2 h3=>?_⟩,fun y c h=>⟨_,x.cell y c h⟩,e0.hok.fresh (zav _),fun y c h=>?_,fun p hp=>absurd (show p∈([]:List (Addr×Obj))from hp) (by simp),e0.hok.kept hk,?_⟩
 ·exact name_of_addr x.apart (zaU h1) (zaU h2)
 ·have hy:scope.names.lookup y=some .cell\/scope.names.lookup y=some .free:=hy;rcases hy with hy|hy
  ·exact qK hy
  ·exact absurd rfl (S.nofree _ (zaU hy))
 ·exact Nat.le_of_lt (x.above y c (zaU h))
 ·have hi:i<vs.length:=by
   unfold dh at h2;by_cases hi:i<vs.length
   ·exact hi
   ·rw[List.getElem?_append_right (by simpa using hi)]at h2;rw[List.getElem?_replicate]at h2;split at h2<;>cases h2
  have ha:vs[i]?=some v:=by
   unfold dh at h2;rw[zaS (by simpa using hi),zao]at h2;cases e:vs[i]? with
   |none=>rw[e]at h2;cases h2
   |some a=>rw[e]at h2;cases h2;rfl
  obtain⟨u,hu,rv⟩:=r.get ha;have hp:ps[i]?=some y:=by
   rw[<-S.pre,List.getElem?_take_of_lt (by omega)];exact h1
  have ndP:ps.Nodup:=by rw[<-S.pre];exact S.nd.sublist (List.take_sublist _ _)
  refine⟨u,rv,?_⟩;rcases S.par y (zaX hp)with k|k
  ·exact .inl ⟨k,oz ndP hp hu k⟩
  ·obtain⟨c,e⟩:=qK (n:=s.heap.objs.size+1) k;refine .inr ⟨.inl k,c,e,?_⟩;have q:=x.cell y c e;rw[oB ndP hp hu (by show scope.names.lookup y≠_;rw[k];decide)]at q;exact q
 ·exact e0.hok.fresh (Nat.le_of_lt (x.above y c (zaU h)))
 ·unfold dh;show _=N.length;rw[zae,zad,List.length_replicate];omega
def Hd{base:Heap}{name:Str}{params:Arguments}{dV kV doc pm cdv ct oc:Value}{an od:Option Addr}
  {osl:Array (Option Value)}  (lk:K.lookup f=some ⟨oc,od,.func (PySem.W.fnOf name qual params body scope dV kV doc pm an cdv ct),osl⟩) (hcd:PySem.W.codeIn K cdv qual=true) (S:FnScope N ps scope)
  (len:∀vs H Q E,sp vs H Q E->vs.length=ps.length)
  (hbody:∀(A:Around) (outer:List Env) (s:Shared) (H:Hp) (vs:List V) (Q:VK) (E:XK),Room k (A.deeper (envOfC qual scope s.heap.objs.size f cdv))->sp vs H Q E ->
   ∃t,PSs (j8 CX P w K mg base N qual scope f cdv A outer s H E) body t/\t { nx:=fun _ H'=>Q .non H',rt:=Q } (dh N vs) H):
  FnOk P w K mg base CX (k+1) f (PySem.W.fnOf name qual params body scope dV kV doc pm an cdv ct) ps sp:=by
 refine⟨len,fun A outer s H args us vs Q E hr e0 hb r hsp=>?_⟩;have hl:=len _ _ _ _ hsp;have KX:K.In s.heap:=e0.mod.kin.keeps fun b o e=>(e0.bs b o e).1;have lim:s.heap.NoLimit:=e0.mod.nolimit.keeps fun b o e=>(e0.bs b o e).1;have hkind:∀y∈ps.zip us,scope.names.lookup y.1=some .local\/(scope.names.lookup y.1=some .cell/\((cellsFrom (s.heap.objs.size+1) scope.names []).lookup y.1).isSome=true):=fun⟨n,v⟩ hy=>by
  rcases S.par n (List.of_mem_zip hy).1 with q|q
  ·exact .inl q
  ·exact .inr ⟨q,PySem.W.cellsFrom_some _ _ _ (.inl q)⟩
 refine codeAny_call_function hr.depth (KX _ _ lk) rfl S.co S.gen rfl (PySem.W.codeRec_of KX hcd) (hb _ _ _ _ ?_);refine wpAny_newFunctionEnv_cells S.kind hkind fun env he s1 x=>?_;subst he;refine⟨lim.keeps x.toInCall.keep,codeAny_func ?_⟩;obtain⟨t,ht,hq⟩:=hbody A outer s H vs Q E (hr.deeper _) hsp;have I:Inv (j8 CX P w K mg base N qual scope f cdv A outer s H E) [] (dh N vs) H s1:=vd S hr.hd e0 hl r x;refine wpAny_mono (ht [] s1 (dh N vs) H _ I hq) (fun fl s' hs=>?_) fun e s' hs=>hs;have fin:∀{σ':St} {H':Hp} {v:V} {u:Value},Inv (j8 CX P w K mg base N qual scope f cdv A outer s H E) [] σ' H' s'->RelV v u->Q v H'->CE outer P w H s Q u s':=
  fun {σ' H' v u} J rv q=>⟨v,H',J.os,J.bare,J.base,J.hok,rv,q⟩
 cases fl with
 |ret u=>
  obtain⟨v,σ',H',J,rv,q⟩:=hs;exact fin J rv q
 |next=>
  obtain⟨σ',H',J,q⟩:=hs;exact fin (v:=V.non) (u:=Value.none) J rfl q
 |brk=>
  obtain⟨_,_,_,q⟩:=hs;exact False.elim q
 |cont=>
  obtain⟨_,_,_,q⟩:=hs;exact False.elim q
section
variable{t:TA}{id T:String}{r:List V->Hp->VK->Prop}
def tCB(r:List V->Hp->VK->Prop)(t:TA):TE:=fun σ H Q=>t σ H fun vs H1=>r vs H1 Q
def pX(hc:CallR X (.builtin id) r)(hg:Gl X x)(hm:X.mg x=none)(hv:bootBuiltins x=some (.builtin id))(ha:PA X (e::es) t)(hn:x≠"__name__":=by decide)(hdb:(x==("__debug__":Str))=false:=by decide)
  (he:starEach (e::es) X.env=(false,eval e X.env)::starEach es X.env:=by rfl) (hpl:(backTo pos (starEach es X.env)).any (·.1)=false:=by rfl):PE X (.Call (.Name x p) (e::es) [] pos) (tCB r t):=by
 intro ρ s σ H Q I h;refine wpAny_Call_Name_kw (jY I hg hm hv ?_ hn hdb);exact PyProof.Rows.callWith_builtin1 (thn (ha pos ρ s σ H _ I h) fun us s1 ⟨vs,H1,I1,r1,q1⟩=>hc ρ s1 σ H1 vs us Q I1 r1 q1) he hpl
def uV(hc:CallR X (.type T) r)(hg:Gl X x)(hm:X.mg x=none)(hv:bootBuiltins x=some (.type T))(ha:PA X (e::es) t)(hn:x≠"__name__":=by decide)(hdb:(x==("__debug__":Str))=false:=by decide)
  (he:starEach (e::es) X.env=(false,eval e X.env)::starEach es X.env:=by rfl) (hpl:(backTo pos (starEach es X.env)).any (·.1)=false:=by rfl):PE X (.Call (.Name x p) (e::es) [] pos) (tCB r t):=by
 intro ρ s σ H Q I h;refine wpAny_Call_Name_kw (jY I hg hm hv ?_ hn hdb);exact PyProof.Rows.callWith_type1 (thn (ha pos ρ s σ H _ I h) fun us s1 ⟨vs,H1,I1,r1,q1⟩=>hc ρ s1 σ H1 vs us Q I1 r1 q1) he hpl
end
end L2
namespace HT
variable{t sl:Addr}{Q:Value->Shared->Prop}{vl vu:Value}{lo hi:Option Int}
open PySem PyProof.Rows
section
open PySem.SeqAt
open PySem.AutoSeq1 (wpAny_loadPart')
open PySem.MeetsSeq PySem.MeetsSeq2 PySem.MeetsSeq3
end
section
variable{prog:Program}{w:World}{A:Around}{E:Value->Shared->Prop}{s:Shared}
def cat_tup{b:Addr}{vs ws:List Value}(ht:IsTup s.heap t vs.toArray)(hb:IsTup s.heap b ws.toArray)(hv:vs≠[])
  (h1:ws=[]->Q (.ref t) s) (h2:ws≠[]->Q (.ref s.heap.objs.size) { s with heap:=s.heap.push { cls:=.type "tuple",data:=.seq (vs++ws).toArray } })
  (hsz:vs.length+ws.length<=sizeLine):wpAny (model prog w) A (binaryOp .Add (.ref t) (.ref b)) Q E s:=by
 obtain⟨⟨cls,dd,data,sl⟩,ho,hc,n,hd⟩:=id ht;obtain⟨⟨cls2,dd2,data2,sl2⟩,ho2,hc2,n2,hd2⟩:=id hb;simp only at hc hd hc2 hd2;subst hc hd hc2 hd2;have e:vs.toArray++ws.toArray=(vs++ws).toArray:=by simp
 by_cases hw:ws=[]
 ·exact concat_meets ⟨_,ho,rfl⟩ ⟨_,ho2,rfl⟩ noFill_tuple_add seq_tuple_add PySem.F.slot_tuple_add PySem.F.entry_tuple_add (PySem.F.args_tuple_add_2 _ _)
   (tuple_addW1 t b vs.toArray ws.toArray n n2 dd dd2 sl sl2 (by simpa using hv) (by simp[hw])) ⟨ho,ho2,h1 hw⟩
 ·refine concat_meets ⟨_,ho,rfl⟩ ⟨_,ho2,rfl⟩ noFill_tuple_add seq_tuple_add PySem.F.slot_tuple_add PySem.F.entry_tuple_add (PySem.F.args_tuple_add_2 _ _)
   (tuple_addW2 t b vs.toArray ws.toArray n n2 dd dd2 sl sl2 (by simpa using hv) (by simpa using hw) (by rw[zai,zai];exact hsz)) ⟨ho,ho2,?_⟩
  rw[e];exact h2 hw
def sIx(n d:Nat):Option Int->Nat
 |none=>d
 |some v=>if v<0 then(v+(n:Int)).toNat else min v.toNat n
def uQ(n d:Nat)(hd:d<=n)(o:Option Int):sIx n d o<=n:=by
 cases o with
 |none=>exact hd
 |some v=>
  show(if v<0 then(v+(n:Int)).toNat else min v.toNat n)<=n;by_cases hv:v<0
  ·rw[if_pos hv];omega
  ·rw[if_neg hv];exact Nat.min_le_right _ _
def sk(v:Int)(n d:Nat):(if v<0 then max (v+(n:Int)) 0 else min v (n:Int))=((sIx n d (some v):Nat):Int):=by
 show(if v<0 then max (v+(n:Int)) 0 else min v (n:Int))=(((if v<0 then(v+(n:Int)).toNat else min v.toNat n):Nat):Int);by_cases hv:v<0
 ·simp only[if_pos hv];omega
 ·simp only[if_neg hv];omega
def ua(lo hi:Option Int)(n:Nat):Builtin.Slice.sliceAdjust lo hi 1 (n:Int)=(((sIx n 0 lo:Nat):Int),((sIx n n hi:Nat):Int)):=by
 have h1:¬((1:Int)<0):=by omega
 unfold Builtin.Slice.sliceAdjust;simp only[h1,if_false];refine Prod.ext ?_ ?_
 ·cases lo with
  |none=>rfl
  |some v=>exact sk v n 0
 ·cases hi with
  |none=>rfl
  |some v=>exact sk v n n
def sR(i j:Nat):Builtin.Slice.slicePlaces (i:Int) (j:Int) 1=j-i:=by
 unfold Builtin.Slice.slicePlaces;have h1:(1:Int)>0:=by omega
 simp only[h1,if_true,Int.ediv_one];split<;>omega
def slicePart_{v:Value}{o:Option Int}{Q:Option Int->Shared->Prop}(p:IsPart v o)(h:Q o s):wpAny (model prog w) A (Builtin.Slice.slicePartIndex v) Q E s:=by
 cases p with
 |none=>exact slicePart_none h
 |int i t=>exact slicePart_int h
def gH{n:Nat}{Q:Int×Int×Nat->Shared->Prop}(hs:s.heap.IsSliceOf sl vl vu .none)(pl:IsPart vl lo)(pu:IsPart vu hi)
  (h:Q (((sIx n 0 lo:Nat):Int),1,sIx n n hi-sIx n 0 lo) s):wpAny (model prog w) A (Builtin.Slice.sliceApplied (.ref sl) (pure (n:Int))) Q E s:=by
 obtain⟨os,hos,hcs,hds⟩:=id hs;unfold Builtin.Slice.sliceApplied Builtin.Slice.sliceFields;refine zam (zam (wpAny_field hos hds (x:=vl) rfl (zam (wpAny_field hos hds (x:=vu) rfl (zam (wpAny_field hos hds (x:=.none) rfl (zaT ?_)))))));refine zam (slicePart_none ?_);show wpAny _ _ (if((1:Int)==0)=true then _ else _) _ _ s;rw[if_neg (by decide)];refine zam (slicePart_ pl (zam (slicePart_ pu (zam (zaT ?_)))));show wpAny _ _ (match Builtin.Slice.sliceAdjust lo hi 1 (n:Int)with | (lo,hi)=>pure (lo,(1:Int),Builtin.Slice.slicePlaces lo hi 1)) _ _ s;rw[ua lo hi n];show wpAny _ _ (pure (((sIx n 0 lo:Nat):Int),(1:Int),Builtin.Slice.slicePlaces ((sIx n 0 lo:Nat):Int) ((sIx n n hi:Nat):Int) 1)) _ _ s;rw[sR];exact zaT h
def wv(xs:Array Value)(i k:Nat):((List.range k).filterMap fun(m:Nat)=>xs[((i:Int)+(m:Int)*1).toNat]?).toArray=((xs.toList.drop i).take k).toArray:=by
 have e:(fun(m:Nat)=>xs[((i:Int)+(m:Int)*1).toNat]?)=fun m=>xs[i+m]?:=by
  funext m
  have:((i:Int)+(m:Int)*1).toNat=i+m:=by omega
  rw[this]
 rw[e]
 have:=pick_run xs i k;rw[List.filterMap_map]at this;have e2:((fun x=>xs[x]?)∘fun x=>i+x)=fun m=>xs[i+m]?:=rfl;rw[e2]at this;rw[this]
def getItem_tuple_cut{items:Array Value}(ht:IsTup s.heap t items)(hs:s.heap.IsSliceOf sl vl vu .none)(pl:IsPart vl lo)(pu:IsPart vu hi)
  (hw:¬(sIx items.size 0 lo=0/\sIx items.size items.size hi=items.size))
  (h:Q (.ref s.heap.objs.size) { s with heap:=s.heap.push { cls:=.type "tuple",data:=.seq ((items.toList.drop (sIx items.size 0 lo)).take (sIx items.size items.size hi-sIx items.size 0 lo)).toArray } })
  (hsz:items.size<=sizeLine):wpAny (model prog w) A (getItem (.ref t) (.ref sl)) Q E s:=by
 have htake:sizeOk (.seq ((items.toList.drop (sIx items.size 0 lo)).take (sIx items.size items.size hi-sIx items.size 0 lo)).toArray):=by
  show((items.toList.drop (sIx items.size 0 lo)).take (sIx items.size items.size hi-sIx items.size 0 lo)).toArray.size<=sizeLine;rw[zai,zaE,zaF,zaY];omega
 have hj:sIx items.size items.size hi<=items.size:=uQ _ _ (zav _) hi;obtain⟨os,hos,hcs,hds⟩:=id hs;have hTs:s.TypeIs (.ref sl) "slice":=⟨os,hos,hcs⟩;unfold getItem
 try with_reducible refine zbM ?_
 first|refine zam (zaT ?_)|skip
 refine zam (wpAny_sequenceKey ht.typeIs (by decide) ?_);refine zam (zbx (name:=Str.ofString "__getitem__") ht.typeIs PyProof.Rows.slot_tuple_getitem
  (wpAny_call_entry PyProof.Rows.slot_tuple_getitem ht.typeIs entry_tuple_getitem ?_ (args_tuple_getitem _ _)))
 show wpAny _ _ (Builtin.Tuple.tupleItemsOf (.ref t) >>= _) _ _ s;refine zam (tupleItemsOf_ ht ?_);refine zam (wpAny_typeOf hTs ?_);rw[if_pos (by decide)];refine zam (gH hs pl pu ?_);have hno:¬((((sIx items.size 0 lo:Nat):Int)==0&&(1:Int)==1&&(sIx items.size items.size hi-sIx items.size 0 lo)==items.size)=true):=by
  intro q;rw[zbj,zbj]at q;have q1:((sIx items.size 0 lo:Nat):Int)=0:=eq_of_beq q.1.1;have q2:sIx items.size items.size hi-sIx items.size 0 lo=items.size:=eq_of_beq q.2;exact hw ⟨by omega,by omega⟩
 show wpAny _ _ (if(((sIx items.size 0 lo:Nat):Int)==0&&(1:Int)==1&&(sIx items.size items.size hi-sIx items.size 0 lo)==items.size)=true then _ else _) _ _ s;rw[if_neg hno,wv]
 first
  |exact zam (m:=Builtin.Tuple.tupleExact _) (wpAny_newObj_type (zaT ⟨_,rfl,zaT h⟩) htake)
  |exact zam (m:=Builtin.Tuple.tupleExact _) (wpAny_newObj_type (zam (zaT (zaT ⟨_,rfl,zaT h⟩))) htake)
  |exact zam (zam (m:=Builtin.Tuple.tupleExact _) (wpAny_newObj_type (zaT (zaT ⟨_,rfl,zaT h⟩)) htake))
  |exact zam (zam (m:=Builtin.Tuple.tupleExact _) (wpAny_newObj_type (zaT ⟨_,rfl,zaT h⟩) htake))
end
end HT
namespace L2
variable{X:Cx}{e:Expr}{pos:Pos}{xs ys:List V}{us its its':List Value}{n t':Nat}{i:Int}{r:R2}{ρ:List (Addr×Obj)}{σ:St}{H:Hp}{s:Shared}{T:String}{x:V}
open PySem PySem.Spec PyProof.Rows
abbrev TO:=St->Hp->(Option Int->Hp->Prop)->Prop
def PO(X:Cx)(e:Option Expr)(t:TO):Prop:=
 ∀(ρ:List (Addr×Obj)) (s:Shared) (σ:St) (H:Hp) (Q:Option Int->Hp->Prop),Inv X ρ σ H s->t σ H Q ->
  wpAny (model X.prog X.w) X.A (evalPart e X.env) (fun u s'=>∃o H',Inv X ρ σ H' s'/\IsPart u o/\Q o H') X.xe s
def A2:TO:=fun _ H Q=>Q none H
def GF(t:TE):TO:=fun σ H Q=>t σ H fun x H1=>∃i,x=.int i/\Q (some i) H1
section
variable{te:TE}{lo hi:Option Expr}{tl th:TO}{p2:Pos}
def po_none:PO X none A2:=by
 intro ρ s σ H Q I h;rw[evalPart_none];exact zaT ⟨none,H,I,.none,h⟩
def Bf(h:PE X e te):PO X (some e) (GF te):=by
 intro ρ s σ H Q I hw;rw[evalPart_some];refine thn (h ρ s σ H _ I hw) ?_;rintro u s1 ⟨x,H1,I1,r1,q1⟩;obtain⟨i,rfl,q⟩:=q1;obtain⟨t,rfl⟩:=r1;exact⟨some i,H1,I1,.int i t,q⟩
def SlR(X:Cx)(r:V->Option Int->Option Int->Hp->VK->Prop):Prop:=
 ∀(ρ:List (Addr×Obj)) (s:Shared) (σ:St) (H:Hp) (x:V) (v vl vu:Value) (lo hi:Option Int) (sl:Addr) (Q:VK),Inv X ρ σ H s->RelV x v->s.heap.IsSliceOf sl vl vu .none->IsPart vl lo->IsPart vu hi->r x lo hi H Q ->
  ∃T id,typeLookup (.type T) "__getitem__"=pure (some (.builtin id))/\s.TypeIs v T/\wpAny (model X.prog X.w) X.A (getItem v (.ref sl)) (EP X ρ σ Q) X.xe s
def tSl(r:V->Option Int->Option Int->Hp->VK->Prop)(te:TE)(tl th:TO):TE:=fun σ H Q=>te σ H fun x H1=>tl σ H1 fun l H2=>th σ H2 fun u H3=>r x l u H3 Q
def wz{r:V->Option Int->Option Int->Hp->VK->Prop}(hr:SlR X r)(he:PE X e te)(hl:PO X lo tl)(hu:PO X hi th):PE X (.Subscript e (.Slice lo hi none p2) pos) (tSl r te tl th):=by
 intro ρ s σ H Q I h;refine Subscript_ (thn (he ρ s σ H _ I h) fun v s1 ⟨x,H1,I1,r1,q1⟩=>?_);refine wpAny_Slice (thn (hl ρ s1 σ H1 _ I1 q1) fun vl s2 ⟨l,H2,I2,pl,q2⟩=>thn (hu ρ s2 σ H2 _ I2 q2) fun vu s3 ⟨u,H3,I3,pu,q3⟩=>?_);rw[evalPart_none];refine zaT ?_;have I4:Inv X ρ σ H3 { s3 with heap:=s3.heap.push { cls:=.type "slice",data:=.fields #[vl,vu,.none] } }:=I3.kept (t':=s3.toks) fun b ob q=>zaf _ q;obtain⟨T,id,hT,ht,hg⟩:=hr ρ { s3 with heap:=s3.heap.push { cls:=.type "slice",data:=.fields #[vl,vu,.none] } } σ H3 x v vl vu l u s3.heap.objs.size Q I4 r1 (Heap.IsSliceOf.new ..) pl pu q3;show wpAny (model X.prog X.w) X.A (subscriptTail e (.Slice lo hi none p2) v (.ref s3.heap.objs.size)) (EP X ρ σ Q) X.xe { s3 with heap:=s3.heap.push { cls:=.type "slice",data:=.fields #[vl,vu,.none] } };exact tail_any (ops:=[.ref s3.heap.objs.size,v]) ht hT hg (by with_unfolding_all rfl)
def iF(xs:List V)(lo hi:Option Int):List V:=(xs.drop (HT.sIx xs.length 0 lo)).take (HT.sIx xs.length xs.length hi-HT.sIx xs.length 0 lo)
def lb(xs:List V)(lo hi:Option Int):(iF xs lo hi).length<=xs.length:=by
 unfold iF;rw[zaE,zaF];omega
def Eo(K:zbQ):V->Option Int->Option Int->Hp->VK->Prop:=fun x lo hi H Q=>∃a xs,x=.ref a/\SqT K H a xs /\
 ¬(HT.sIx xs.length 0 lo=0/\HT.sIx xs.length xs.length hi=xs.length)/\∀p,H p=none->Q (.ref p) (upd H p (.tup (iF xs lo hi)))
def Ek:SlR X (Eo X.K):=by
 intro ρ s σ H x v vl vu lo hi sl Q I rx hs pl pu h;obtain⟨a,xs,rfl,hx,hw,q⟩:=h;cases rx;obtain⟨its,r,ht,hz⟩:=I.tuple hx;have ξ:its.toArray.size=xs.length:=by rw[zai];exact r.length.symm
 refine⟨"tuple",_,PyProof.Rows.slot_tuple_getitem.lookup,ht.typeIs,?_⟩;refine HT.getItem_tuple_cut ht hs pl pu (by rw[ξ];exact hw) ?_ (by rw[ξ];exact hz);rw[ξ];refine⟨.ref s.heap.objs.size,_,I.laid (t':=s.toks) (o:=.tup (iF xs lo hi)) (fun b ob q=>zaf _ q) (zav _) ?_,rfl,q _ (I.hok.fresh (zav _))⟩;exact⟨zau (lb xs lo hi) hz,_,(r.drop (HT.sIx xs.length 0 lo)).take (HT.sIx xs.length xs.length hi-HT.sIx xs.length 0 lo),IsTupN.new _ _⟩
def AA(K:zbQ):R2:=fun x y H Q=>∃a b xs ys,x=.ref a/\y=.ref b/\SqT K H a xs/\SqT K H b ys/\xs≠[]/\xs.length+ys.length<=sizeLine /\
 (ys=[]->Q (.ref a) H)/\(ys≠[]->∀p,H p=none->Q (.ref p) (upd H p (.tup (xs++ys))))
def Vals.nil_iff(r:Vals xs us):us=[]↔xs=[]:=by
 cases r with
 |nil=>simp
 |cons _ _=>simp
def Bn:OpR X (binaryOp .Add) (AA X.K):=by
 intro ρ s σ H x y v u Q I rx ry h;obtain⟨a,b,xs,ys,rfl,rfl,ha,hb,hx,hz,q1,q2⟩:=h;cases rx;cases ry;obtain⟨its,r1,p1,_⟩:=I.tuple ha;obtain⟨ν,r2,p2,_⟩:=I.tuple hb;refine HT.cat_tup p1 p2 (fun z=>hx (r1.nil_iff.mp z)) (fun z=>⟨.ref a,H,I,rfl,q1 (r2.nil_iff.mp z)⟩) (fun z=>?_) (by rw[<-r1.length,<-r2.length];exact hz);refine⟨.ref s.heap.objs.size,_,I.laid (t':=s.toks) (o:=.tup (xs++ys)) (fun b ob q=>zaf _ q) (zav _) ?_,rfl,q2 (fun w=>z (r2.nil_iff.mpr w)) _ (I.hok.fresh (zav _))⟩;exact⟨by rw[zae];exact hz,_,r1.append r2,IsTupN.new _ _⟩
end
def ixN(n:Nat)(i:Int):Option Nat:=if 0<=i then(if i<n then some i.toNat else none)else if -(n:Int)<=i then some (i+n).toNat else none
def atI{α:Type}(xs:List α)(i:Int):Option α:=(ixN xs.length i).bind fun j=>xs[j]?
def rY{j:Nat}(h:ixN n i=some j):seqIndex? i n=some j/\j<n/\-(n:Int)<=i/\i<n:=by
 unfold ixN at h;by_cases h0:0<=i
 ·rw[if_pos h0]at h;by_cases h1:i<n
  ·rw[if_pos h1]at h;have e:i.toNat=j:=zat h;exact⟨by rw[seqIndex_of h0 h1,e],by omega,by omega,h1⟩
  ·rw[if_neg h1]at h;cases h
 ·rw[if_neg h0]at h;by_cases h1:-(n:Int)<=i
  ·rw[if_pos h1]at h;have e:(i+n).toNat=j:=zat h;exact⟨by rw[seqIndex_neg (by omega) h1,e],by omega,h1,by omega⟩
  ·rw[if_neg h1]at h;cases h
def nJ{α:Type}{xs:List α}{v:α}(h:atI xs i=some v):∃j,seqIndex? i xs.length=some j/\xs[j]?=some v/\j<xs.length/\-(xs.length:Int)<=i/\i<xs.length:=by
 unfold atI at h;cases e:ixN xs.length i with
 |none=>rw[e]at h;cases h
 |some j=>
  rw[e]at h;obtain⟨h1,h2,h3,h4⟩:=rY e;exact⟨j,h1,h,h2,h3,h4⟩
def dw(b:Expr):Prop:=∀o i,subscripted b false o i=operate [o,i] (getItem o i)
def IxR(X:Cx)(r:R2):Prop:=
 ∀(value slice:Expr) (ρ:List (Addr×Obj)) (s:Shared) (σ:St) (H:Hp) (x y:V) (v u:Value) (Q:VK),Inv X ρ σ H s->RelV x v->RelV y u->r x y H Q ->
  subscripted slice false v u=operate [v,u] (getItem v u)->wpAny (model X.prog X.w) X.A (subscriptTail value slice v u) (EP X ρ σ Q) X.xe s
def MtR(X:Cx)(id:String)(r:V->List V->Hp->VK->Prop):Prop:=
 ∀(ρ:List (Addr×Obj)) (s:Shared) (σ:St) (H:Hp) (x:V) (xs:List V) (v:Value) (us:List Value) (Q:VK),Inv X ρ σ H s->RelV x v->Vals xs us->r x xs H Q ->
  wpAny (model X.prog X.w) X.A (call (.builtin id) (v::us)) (EP X ρ σ Q) X.xe s
section
variable{a b:Expr}{ta tb:TE} 
def IxR.or{r':R2}(h:IxR X r)(h':IxR X r'):IxR X (fun x y H Q=>r x y H Q\/r' x y H Q):=by
 intro value slice ρ s σ H x y v u Q I rx ry q hs;rcases q with q|q
 ·exact h value slice ρ s σ H x y v u Q I rx ry q hs
 ·exact h' value slice ρ s σ H x y v u Q I rx ry q hs
def l5(hr:IxR X r)(ha:PE X a ta)(hb:PE X b tb)(hs:dw b):PE X (.Subscript a b pos) (tOp r ta tb):=by
 intro ρ s σ H Q I h;exact Subscript_ (xE ha hb I h fun v u s2 x y H2 I2 rx ry q=>hr a b ρ s2 σ H2 x y v u Q I2 rx ry q (hs _ _))
def sQ(K:zbQ):R2:=fun x y H Q=>∃p xs i v,x=.ref p/\y=.int i/\SqL K H p xs/\atI xs i=some v/\Q v H
def Er(K:zbQ):R2:=fun x y H Q=>∃p xs i v,x=.ref p/\y=.int i/\SqT K H p xs/\atI xs i=some v/\Q v H
def Es:R2:=fun x y H Q=>∃z i c,x=.str z/\y=.int i/\z.length<=sizeLine/\atI z.cps.toList i=some c/\Q (.str ⟨#[c]⟩) H
def ix_list:IxR X (sQ X.K):=by
 intro value slice ρ s σ H x y v u Q I rx ry h hs;obtain⟨p,xs,i,z,rfl,rfl,hq,he,q⟩:=h;cases rx;obtain⟨t,rfl⟩:=ry;obtain⟨its,r,pl,hz⟩:=I.list hq;obtain⟨j,h1,h2,h3,h4,h5⟩:=nJ he;obtain⟨w,ew,rw'⟩:=r.get h2;have hl:=r.length;have hn:=iQ;have fin:EP X ρ σ Q w s:=⟨z,H,I,rw',q⟩;by_cases h0:0<=i
 ·have hj:i.toNat=j:=by
   rw[seqIndex_of h0 h5]at h1;exact zat h1
  exact item_listR pl.isList h0 (by omega) (by rw[hj];simpa using ew) fin hs
 ·have hj:(i+(its.toArray.size:Int)).toNat=j:=by
   rw[seqIndex_neg (by omega) h4]at h1;rw[zai,<-hl];exact zat h1
  exact subscriptTail_builtinR (x:=w) pl.isList.typeIs slot_list_getitem.lookup
   (wpAny_getItem_list_neg (Q:=fun r s'=>r=w/\EP X ρ σ Q r s') pl.isList (by omega) (by rw[zai]<;>omega) (by omega) (by rw[hj];simpa using ew) ⟨rfl,fin⟩) hs
def ix_tup:IxR X (Er X.K):=by
 intro value slice ρ s σ H x y v u Q I rx ry h hs;obtain⟨p,xs,i,z,rfl,rfl,hq,he,q⟩:=h;cases rx;obtain⟨t,rfl⟩:=ry;obtain⟨its,r,pl,hz⟩:=I.tuple hq;obtain⟨j,h1,h2,h3,h4,h5⟩:=nJ he;obtain⟨w,ew,rw'⟩:=r.get h2;have hl:=r.length;have hn:=iQ;have fin:EP X ρ σ Q w s:=⟨z,H,I,rw',q⟩;exact subscriptTail_builtinR (x:=w) pl.typeIs slot_tuple_getitem.lookup
  (getItem_tuple (j:=j) (Q:=fun r s'=>r=w/\EP X ρ σ Q r s') pl (by omega) (by omega) (by rw[zai,<-hl];exact h1) (by simpa using ew) ⟨rfl,fin⟩) hs
def Fj:IxR X Es:=by
 intro value slice ρ s σ H x y v u Q I rx ry h hs;obtain⟨z,i,c,rfl,rfl,hz,he,q⟩:=h;obtain⟨t,rfl⟩:=rx;obtain⟨t',rfl⟩:=ry;obtain⟨j,h1,h2,h3,h4,h5⟩:=nJ he;have hl:z.cps.toList.length=z.length:=by simp[Str.length]
 rw[hl]at h1 h4 h5;have hn:=iQ;exact tail_any (typeIs_str s z t) slot_str_getitem.lookup (getItem_str (c:=c) (by
  have e1:decide (i < -(2 ^ 63:Int))=false:=zaA (by omega);have e2:decide (i >= 2 ^ 63)=false:=zaA (by omega);rw[e1,e2,Bool.or_false]) (by rw[h1];simpa using h2) ⟨.str ⟨#[c]⟩,H,I.tok _,⟨_,rfl⟩,q⟩) hs
def rIx(K:zbQ):R2:=fun x y H Q=>sQ K x y H Q\/Er K x y H Q\/Es x y H Q
def ix_seq:IxR X (rIx X.K):=ix_list.or (ix_tup.or Fj)
def tE(its:List Value)(n j:Nat)(u:Value):Obj.mapSeq (·.setIfInBounds j u) { cls:=.type "list",data:=.seq its.toArray n }={ cls:=.type "list",data:=.seq (its.set j u).toArray n }:=by
 simp[Obj.mapSeq]
def Inv.lst{ρ:List (Addr×Obj)}{σ:St}{H:Hp}{s:Shared}{p:Addr}{xs:List V}(I:Inv X ρ σ H s)(h:H p=some (.lst xs)):
  ∃(its:List Value) (n:Nat),Vals xs its/\s.heap.get? p=some { cls:=.type "list",data:=.seq its.toArray n }/\xs.length<=sizeLine:=by
 obtain⟨z,its,n,r,e⟩:=I.hok p _ h;exact⟨its,n,r,e,z⟩
def Inv.lstUpd{p:Addr}{n':Nat}{f:Obj->Obj}(I:Inv X ρ σ H s)(h:H p=some (.lst xs))
  (ho:s.heap.get? p=some { cls:=.type "list",data:=.seq its.toArray n }) (hf:f { cls:=.type "list",data:=.seq its.toArray n }={ cls:=.type "list",data:=.seq its'.toArray n' }) (r:Vals ys its') (hz:ys.length<=sizeLine) (t:Nat):
  Inv X ρ σ (upd H p (.lst ys)) { s with heap:=s.heap.update p f,toks:=t }:=by
 have e:(s.heap.update p f).get? p=some { cls:=.type "list",data:=.seq its'.toArray n' }:=by
  rw[Heap.get?_update_self f ho (by rw[hf]<;>rfl),hf]
 refine I.write (x:=p) (e:=p) (by rw[h];trivial) (.inl rfl) (fun b u hb q=>(Heap.get?_update_other _ _ (Ne.symm hb)).trans q) ⟨_,e⟩ ?_;exact⟨hz,its',n',r,e⟩
def pf:V->V->V->Hp->(Hp->Prop)->Prop:=fun o i v H Q=>∃p xs k j,o=.ref p/\i=.int k/\H p=some (.lst xs)/\ixN xs.length k=some j/\Q (upd H p (.lst (xs.set j v)))
def ls:Gw X pf:=by
 intro ρ s σ H o i v ov iv u Q I ro ri rv h;obtain⟨p,xs,k,j,rfl,rfl,hp,hj,q⟩:=h;cases ro;obtain⟨t,rfl⟩:=ri;obtain⟨its,n,r,ho,hz⟩:=I.lst hp;obtain⟨h1,h2,h3,h4⟩:=rY hj;have hl:=r.length;have hn:=iQ;have I':Inv X ρ σ (upd H p (.lst (xs.set j v))) { s with heap:=s.heap.update p (Obj.mapSeq (·.setIfInBounds j u)) }:=
  I.lstUpd hp ho (tE its n j u) (r.set rv j) (by rw[zaV];exact hz) s.toks
 by_cases h0:0<=k
 ·have hk:k.toNat=j:=by
   rw[seqIndex_of h0 h4]at h1;exact zat h1
  exact PySem.W.ki_setAt ho h0 (by omega) (by rw[zai,<-hl];exact h4) (by rw[hk];exact⟨_,I',q⟩)
 ·have hk:(k+(its.toArray.size:Int)).toNat=j:=by
   rw[seqIndex_neg (by omega) h3]at h1;rw[zai,<-hl];exact zat h1
  exact PySem.W.ki_setBack ho (by omega) (by rw[zai,<-hl];exact h3) (by omega) (by rw[hk];exact⟨_,I',q⟩)
def pJ(lo hi:Option Int)(n:Nat):(sliceBounds lo hi none n).1=((HT.sIx n 0 lo:Nat):Int)/\(sliceBounds lo hi none n).2.1=((HT.sIx n n hi:Nat):Int)/\(sliceBounds lo hi none n).2.2=1:=by
 refine⟨?_,?_,rfl⟩
 ·cases lo with
  |none=>simp[sliceBounds,HT.sIx]
  |some i=>
   simp only[sliceBounds,HT.sIx,Option.getD_none,show(1:Int)>0 by decide,if_true];by_cases h:i<0
   ·simp only[h,if_true]<;>omega
   ·simp only[h,if_false]<;>omega
 ·cases hi with
  |none=>simp[sliceBounds,HT.sIx]
  |some i=>
   simp only[sliceBounds,HT.sIx,Option.getD_none,show(1:Int)>0 by decide,if_true];by_cases h:i<0
   ·simp only[h,if_true]<;>omega
   ·simp only[h,if_false]<;>omega
def oM(its:List Value)(lo hi:Option Int):slicePick its.toArray lo hi none=((its.drop (HT.sIx its.length 0 lo)).take (HT.sIx its.length its.length hi-HT.sIx its.length 0 lo)).toArray:=by
 obtain⟨h1,h2,h3⟩:=pJ lo hi its.toArray.size;unfold slicePick;rw[h1,h2,h3];simp only[sliceRange_one,pick_run,zai]<;>rfl
def Ep(K:zbQ):V->Option Int->Option Int->Hp->VK->Prop:=fun x lo hi H Q=>∃a xs,x=.ref a/\SqL K H a xs/\∀p,H p=none->Q (.ref p) (upd H p (.lst (iF xs lo hi)))
def A4:SlR X (Ep X.K):=by
 intro ρ s σ H x v vl vu lo hi sl Q I rx hs pl pu h;obtain⟨a,xs,rfl,hx,q⟩:=h;cases rx;obtain⟨its,r,ht,hz⟩:=I.list hx;have ξ:=r.length;refine⟨"list",_,slot_list_getitem.lookup,ht.isList.typeIs,?_⟩;refine wpAny_getItem_list_slice ht.isList hs pl pu .none (by simp) ?_ (by rw[zai]<;>omega);rw[oM,<-ξ];refine⟨.ref s.heap.objs.size,_,I.laid (t':=s.toks) (o:=.lst (iF xs lo hi)) (fun b ob q=>zaf _ q) (zav _) ?_,rfl,q _ (I.hok.fresh (zav _))⟩;exact⟨zau (lb xs lo hi) hz,_,0,(r.drop (HT.sIx xs.length 0 lo)).take (HT.sIx xs.length xs.length hi-HT.sIx xs.length 0 lo),zan _ rfl⟩
def qM:CallR X (.type "list") (fun xs H Q=>∃p ys,xs=[.ref p]/\(SqL X.K H p ys\/SqT X.K H p ys)/\∀l,H l=none->Q (.ref l) (upd H l (.lst ys))):=by
 intro ρ s σ H xs us Q I r h;obtain⟨p,ys,rfl,hq,q⟩:=h;obtain⟨u,rfl,rx⟩:=kG r;cases rx;have fin:∀(its:List Value),Vals ys its->ys.length<=sizeLine->∀(h':Heap) (c':Nat),(∀b o',s.heap.get? b=some o'->h'.get? b=some o') ->
   h'.get? s.heap.objs.size=some { cls:=.type "list",dict:=none,data:=.seq its.toArray c',slots:=#[] }->EP X ρ σ Q (.ref s.heap.objs.size) { s with heap:=h' }:=fun its r' hz h' c' kp e=>
  ⟨.ref s.heap.objs.size,_,I.laid (t':=s.toks) kp (zav _) (show ObjOk X.prog X.w _ h' _ (.lst ys)from⟨hz,its,c',r',e⟩),rfl,q _ (I.hok.fresh (zav _))⟩
 rcases hq with hq|hq
 ·obtain⟨its,r',pl,hz⟩:=I.list hq;have ξ:=r'.length;obtain⟨o,ho,hc,n,hd⟩:=pl.isList;exact call_list_seq p (.inl rfl) ho hc hd (fun h' c' kp e=>fin its r' hz h' c' kp e) (by simp only[zai]<;>omega)
 ·obtain⟨its,r',pl,hz⟩:=I.tuple hq;have ξ:=r'.length;obtain⟨o,ho,hc,n,hd⟩:=pl;exact call_list_seq p (.inr rfl) ho hc hd (fun h' c' kp e=>fin its r' hz h' c' kp e) (by simp only[zai]<;>omega)
def oY:CallR X (.type "tuple") (fun xs H Q=>∃p ys,xs=[.ref p]/\((SqL X.K H p ys/\∀l,H l=none->Q (.ref l) (upd H l (.tup ys)))\/(SqT X.K H p ys/\Q (.ref p) H))):=by
 intro ρ s σ H xs us Q I r h;obtain⟨p,ys,rfl,h⟩:=h;obtain⟨u,rfl,rx⟩:=kG r;cases rx;rcases h with⟨hq,q⟩|⟨hq,q⟩
 ·obtain⟨its,r',pl,hz⟩:=I.list hq;have ξ:=r'.length;refine call_tuple_list pl.isList (fun h' kp=>?_) (by simp only[zai]<;>omega);have I1:Inv X ρ σ H { s with heap:=h' }:=I.kept (t':=s.toks) kp;have I2:Inv X ρ σ (upd H h'.objs.size (.tup ys)) { s with heap:=h'.push { cls:=.type "tuple",data:=.seq its.toArray } }:=
   I1.laid (t':=s.toks) (fun b o e=>zaf _ e) (zav _) (show ObjOk X.prog X.w _ _ _ (.tup ys)from⟨hz,its,r',IsTupN.new _ _⟩)
  exact⟨.ref h'.objs.size,_,I2,rfl,q _ (I1.hok.fresh (zav _))⟩
 ·obtain⟨its,r',pl,hz⟩:=I.tuple hq;exact call_tuple_same pl ⟨.ref p,H,I,rfl,q⟩
def tyV(K:zbQ)(T:String)(x:V)(H:Hp):Prop:=match x with
 |.str _=>T="str"
 |.int _=>T="int"
 |.ref p=>(T="list"/\∃xs,SqL K H p xs)\/(T="tuple"/\∃o,K.lookup p=some o/\o.cls=.type "tuple"/\o.dict=none) \/
   (T="dict"/\((∃kvs,H p=some (.dK kvs))\/∃kvs ad,H p=some (.dT kvs ad)))\/(T="set"/\∃S n,H p=some (.set S n))
 |_=>False
def D6{v:Value}(I:Inv X ρ σ H s)(r:RelV x v)(ty:tyV X.K T x H):
  s.TypeIs v T/\∀a,v=.ref a->∃ob,s.heap.get? a=some ob/\ob.dict=none:=by
 cases x with
 |str z=>
  obtain⟨t,rfl⟩:=r;cases(show T="str" from ty);exact⟨typeIs_str s z t,fun _ e=>nomatch e⟩
 |int i=>
  obtain⟨t,rfl⟩:=r;cases(show T="int" from ty);exact⟨typeIs_int s i t,fun _ e=>nomatch e⟩
 |ref p=>
  cases r;rcases ty with⟨rfl,xs,hq⟩|⟨rfl,o,hk,hc,hd⟩|⟨rfl,hk⟩|⟨rfl,S,n,hk⟩
  ·obtain⟨its,_,pl,_⟩:=I.list hq;refine⟨pl.isList.typeIs,fun a e=>?_⟩;cases e;obtain⟨o,n,e,c,hd,_⟩:=pl;exact⟨o,e,hd⟩
  ·refine⟨⟨o,I.kIn p o hk,hc⟩,fun a e=>?_⟩;cases e;exact⟨o,I.kIn _ o hk,hd⟩
  ·have z:∃o,s.heap.get? p=some o/\o.ExactDict:=by
    rcases hk with⟨kvs,hk⟩|⟨kvs,ad,hk⟩
    ·obtain⟨_,_,_,_,o,_,_,e,ex,_⟩:=I.hok p _ hk;exact⟨o,e,ex⟩
    ·obtain⟨_,_,_,_,o,_,_,e,ex,_⟩:=I.hok p _ hk;exact⟨o,e,ex⟩
   obtain⟨o,e,ex⟩:=z;refine⟨⟨o,e,ex.1⟩,fun a e2=>?_⟩;cases e2;exact⟨o,e,ex.2.1⟩
  ·obtain⟨o,_,_,_,e,ex,_⟩:=I.hok p _ hk;refine⟨⟨o,e,ex.1⟩,fun a e2=>?_⟩;cases e2;exact⟨o,e,ex.2.1⟩
 |_=>exact False.elim ty
def tBM(K:zbQ)(T:String)(r:V->List V->Hp->VK->Prop)(to:TE)(t:TA):TE:=fun σ H Q=>to σ H fun x H1=>tyV K T x H1/\t σ H1 fun xs H2=>r x xs H2 Q
variable{o:Expr}{es:List Expr}{to:TE}{t:TA}{name:Str}{μ ω:Pos}{id:String}{r:V->List V->Hp->VK->Prop}
def AD(pa:PlainAttrs T)(slot:Slot T name id)(hty:typeOf (.builtin id)=pure (.type "method_descriptor"))(hm:MtR X id r)(ho:PE X o to)(ha:PA X (e::es) t)
  (η:attributeBase o name X.env (eval o X.env)=eval o X.env:=by rfl)
  (hfew:((backTo ω (starEach (e::es) X.env)).all (fun x=>!x.1)&&(backToKw ω (keywordEach [] X.env)).all (fun x=>x.1.isSome)
  &&decide ((e::es).length+([]:List Keyword).length+(if([]:List Keyword).isEmpty then 0 else 1)<30))=true:=by rfl)
  (θ:(μ.endLine==ω.line)=true:=by rfl) (hs:starEach (e::es) X.env=(false,eval e X.env)::starEach es X.env:=by rfl) (ι:(backTo ω (starEach es X.env)).any (·.1)=false:=by rfl):
  PE X (.Call (.Attribute o name μ) (e::es) [] ω) (tBM X.K T r to t):=by
 intro ρ s σ H Q I h;refine wpAny_Call_method_late η hfew θ rfl (thn (ho ρ s σ H _ I h) fun v s1 ⟨x,H1,I1,r1,ty,q1⟩=>?_);obtain⟨h1,h2⟩:=D6 I1 r1 ty;refine⟨T,id,pa,slot,hty,h1,h2,?_⟩;have hA:=ha ω ρ s1 σ H1 _ I1 q1;rw[hs]at hA ⊢;refine Calls.callWith_builtin (by show(false || (backTo ω (starEach es X.env)).any (·.1))=false;rw[ι]<;>rfl) (Calls.evalArgs_plain ?_);exact thn hA fun us s2 ⟨vs,H2,I2,r2,q2⟩=>hm ρ s2 σ H2 x vs v us Q I2 r1 r2 q2
end
def MtM(X:Cx)(id:String)(r:V->List V->Hp->VK->Prop):Prop:=
 ∀(ρ:List (Addr×Obj)) (s:Shared) (σ:St) (H:Hp) (x:V) (xs:List V) (v:Value) (us:List Value) (Q:VK),Inv X ρ σ H s->RelV x v->Vals xs us->r x xs H Q ->
  wpAny (model X.prog X.w) X.A (call (.builtin id) (v::us)) (EP X ρ σ Q) X.xe s
def Vals.one:∀{x:V} {us:List Value},Vals [x] us->∃u,us=[u]/\RelV x u
 |_,_,.cons r .nil=>⟨_,rfl,r⟩
def Vals.two{y:V}(h:Vals [x,y] us):∃u v,us=[u,v]/\RelV x u/\RelV y v:=by
 cases h with
 |cons r t=>
  cases t with
  |cons q n=>
   cases n;exact⟨_,_,rfl,r,q⟩
theorem Vals.rep{xs:List V}{us:List Value}(h:Vals xs us):∀k:Nat,Vals (List.replicate k xs).flatten (List.replicate k us).flatten
 |0=>.nil
 |k+1=>by
  rw[List.replicate_succ,List.replicate_succ,List.flatten_cons,List.flatten_cons];exact Vals.append h (Vals.rep h k)
section
variable{l b:Addr}{zs:List V}
def Inv.lset{f:Array Value->Array Value}(I:Inv X ρ σ H s)(hH:H l=some (.lst xs))
  (e:s.heap.get? l=some { cls:=.type "list",data:=.seq its.toArray n }) (hf:f its.toArray=its'.toArray) (hv:Vals ys its') (hz:ys.length<=sizeLine):
  Inv X ρ σ (upd H l (.lst ys)) { s with heap:=s.heap.update l (Obj.mapSeq f),toks:=t' }:=by
 have q:=PySem.IsL.update e f;rw[hf]at q;refine I.write (x:=l) (e:=l) (by rw[hH];exact trivial) (.inl rfl) (fun b' u hb hu=>(Heap.get?_update_other s.heap (Obj.mapSeq f) (Ne.symm hb)).trans hu) ⟨_,q⟩ ?_;exact⟨hz,its',_,hv,q⟩
def Inv.lnew(I:Inv X ρ σ H s)(hv:Vals ys its)(hz:ys.length<=sizeLine):
  Inv X ρ σ (upd H s.heap.objs.size (.lst ys)) { s with heap:=s.heap.push { cls:=.type "list",data:=.seq its.toArray },toks:=t' }:=
 I.laid (fun _ _ q=>zaf _ q) (zav _) ⟨hz,its,0,hv,zan _ rfl⟩
def Inv.fresh(I:Inv X ρ σ H s):H s.heap.objs.size=none:=I.hok.fresh (zav _)
def Inv.lstM(I:Inv X ρ σ H s)(hH:H l=some (.lst xs)):xs.length<=sizeLine/\∃(its:List Value) (n:Nat),Vals xs its/\xs.length=its.length/\s.heap.get? l=some { cls:=.type "list",data:=.seq its.toArray n }:=by
 obtain⟨z,its,n,r,e⟩:=I.hok l _ hH;exact⟨z,its,n,r,r.length,e⟩
def wG(h:n<=sizeLine):Builtin.List.listTooLong n=false:=by
 unfold Builtin.List.listTooLong;exact zaA (by omega)
end
def rO:V->List V->Hp->VK->Prop:=fun x vs H Q=>∃l xs y,x=.ref l/\vs=[y]/\H l=some (.lst xs)/\xs.length<sizeLine/\Q .non (upd H l (.lst (xs++[y])))
def nY:MtM X "list.append" rO:=by
 intro ρ s σ H x vs v us Q I rx rv h;obtain⟨l,xs,y,rfl,rfl,hH,hz,q⟩:=h;cases rx;obtain⟨u,rfl,ru⟩:=rv.one;obtain⟨z,its,n,r,hl,e⟩:=I.lstM hH;refine call_meets F.slot_list_append ⟨_,e,rfl⟩ F.entry_list_append (F.args_list_append_2 _ _) (PySem.list_append l its.toArray n u (by rw[zai];omega)) ⟨e,?_⟩;refine⟨.non,_,I.lset (its':=its++[u]) hH e (by simp) (r.append (.cons ru .nil)) ?_,rfl,q⟩;rw[zae,List.length_singleton];omega
def rW{α:Type}(xs:List α)(k:Nat):(List.replicate k xs).flatten.length=k*xs.length:=by
 induction k with
 |zero=>simp
 |succ k ih=>rw[List.replicate_succ,List.flatten_cons,zae,ih,Nat.succ_mul,Nat.add_comm]
end L2
namespace Att
variable{P:Params}{h:Heap}{l:OpenLaw}{n:Nat}
open PySem PySem.W PySem.Calls PyProof.Rows
def mn:∀(ns:List Int) (vs:List Value),WellAll P h vs (ns.map WData.int)->IntsAre vs ns:=by
 intro ns
 induction ns with
 |nil=>
  intro vs w;rw[List.map_nil]at w;cases w;exact .nil
 |cons n ns ih=>
  intro vs w;rw[zar]at w;cases w with
  |cons a b=>
   cases a;exact .cons _ _ (ih _ b)
def uO(hn:l.most=some n){args:List WData}{vals:List Value}
  (hpre:l.row.toRowW.claim.pre args=true) (hwl:WellAll P h vals args):
  ∃a vs ns,vals=[Value.ref a]/\args=[WData.list (ns.map WData.int)]/\h.get? a=some { cls:=.type "list",data:=.seq vs.toArray }/\IntsAre vs ns/\ns.length<=n:=by
 have hsh:WShape.hasAll [] args [.list .int]=true:=(pre_splitW hpre).1;have hc:l.pre.holds [] { args:=args }=true:=(pre_splitW hpre).2;obtain⟨d,r,rfl,h1,h2⟩:=hasAllW_cons hsh;obtain rfl:=hasAllW_nil h2;obtain⟨xs,rfl,h3⟩:=hasW_list h1;obtain⟨ns,rfl⟩:=items_int h3;have ξ:ns.length<=n:=by
  unfold OpenLaw.pre at hc;have h4:(WTm.not (.lt (.lit (.int (n:Int))) (.len (.arg 0)))).holds [] { args:=[.list (ns.map .int)] }=true:=by
   have h4:=(holds_andW hc).1;rw[hn]at h4;exact h4
  have h5:=condW_of h4 (w_not (w_lt w_lit (w_len_list (w_arg rfl))));rw[zad]at h5;refine Nat.le_of_not_lt fun q=>?_;have q':(n:Int)<((ns.length:Nat):Int):=by omega
  first
   | (rw[zaB q']at h5;exact absurd h5 (by decide))
   | (simp at h5;omega)
 cases hwl with
 |cons w1 w2=>
  cases w2;cases w1 with
  |list ho hall=>exact⟨_,_,ns,rfl,rfl,ho,mn ns _ hall,ξ⟩
def uS(l:OpenLaw)(args:List WData):l.row.toRowW.claim.post args (.bool true) args=true:=
 postW_of (r:=l.row.toRowW) (X:=(true==true))
  (show WShape.has [] (.bool true) .bool=true by first|rfl|decide|simp[WShape.has,WShape.arms,WShape.armsAll])
  (show(WTm.eq .res (.lit (.bool true))).value [] { args:=args,res:=some (.bool true),after:=args }=some (.bool (true==true))from w_eq_bool (w_res rfl) w_lit) rfl
def attach_call{q:Program}{f':List Str}{XP:(Str->Option Value)->Heap->Prop}{YP:World->Heap->Prop}{d:DefRec}
  (hn:l.most=some n) (hdf:d.params.defaults=[])
  (call:∀(w:World) (s₀ s₁:Shared) (mg mb:Str->Option Value) (fa:Addr) (o:Obj) (pm cd doc:Value) (a:Addr) (vs:List Value) (ns:List Int),
   Ground q f' [] XP w s₀ mg mb s₁.heap->YP w s₁.heap ->
   s₁.heap.get? fa=some o->o.data=.func (docDef d.name d.params d.body d.scope pm cd doc)->s₁.heap.CodeRec cd d.name->mg d.name=some (.ref fa) ->
   s₁.heap.get? a=some { cls:=.type "list",data:=.seq vs.toArray }->IntsAre vs ns->ns.length<=n->s₁.gens=#[] ->
   codeAny (model l.prog w) callerA (.call (.ref fa) ⟨[.ref a],[]⟩) (fun r s'=>r=.ok (.ret (.bool true))/\OldK s₁.heap s'.heap/\s'.os=s₁.os/\AllBare s'.gens) s₁):
  WalkO q f' XP YP l.row.toRowW d [] (fun f vs=>PySem.call f vs):=by
 intro w s₀ s₁ mg mb G Y fa o pm cd doc dV kV ho hd hcd hD hmg hg args vals as hpre hlay hrd hwl hlo;obtain rfl:dV=.none:=Dflts.none hD hdf;obtain rfl:kV=.none:=Dflts.noKw hD;obtain⟨a,vs,ns,rfl,rfl,hobj,hints,ξ⟩:=uO hn hpre hwl;refine enter_call (codeAny_mono (call w s₀ s₁ mg mb fa o pm cd doc a vs ns G Y ho (fd_plain hd) hcd hmg hobj hints ξ hg) fun r s' hq=>?_);obtain⟨rfl,h2,h3,h4⟩:=hq;exact⟨.inl ⟨.bool true,.bool true,[],rfl,fun _=>rfl,.bool true,uS l _,fun _=>⟨List.Pairwise.nil,fun _ hm=>(nomatch hm)⟩⟩,h2,h3,h4⟩
end Att
namespace L2
variable{P:Program}{w:World}{K:zbQ}{mg:Str->Option Value}{k:List (Option Key)}{a f b:Addr}{fd:FuncData}{x qual:Str}{sp:Sp}{X:Cx}{st:Stmt}{ps:List Str}{A:Around}{pos:Pos}{o:Option V}{y v:V}{u:Value}{H H':Hp}{kvs:List (List (Option Key)×V)}{xs:List (List (Option Key)×Addr×Value)}{ad:Addr->Prop}{Q:Value->Shared->Prop}{h':Heap}
open PySem PySem.Spec PyProof.Rows
theorem nU:∀{vs:List Value} {ns:List Int},IntsAre vs ns->Vals (ns.map V.int) vs
 |_,_,.nil=>.nil
 |_,_,.cons n t h=>.cons ⟨t,rfl⟩ (nU h)
def xI(H:Hp):Prop:=∀b,H b=none\/∃o xs,H b=some (.frz o (.lst xs))
def wL{mb:Str->Option Value}{CX:CXT}{k:Nat}{fa:Addr}{s₁:Shared}{vs:List Value}{ns:List Int}
  (KX:K.In s₁.heap) (hns:s₁.heap.Ns mainGlobals mg) (hb:s₁.heap.Ns builtinsNs mb) (hbb:∀x:Str,x≠"__name__"->mb x=bootBuiltins x) (hlim:s₁.heap.NoLimit) (hmods:∃mm,s₁.heap.Ns sysModules mm) (hg:s₁.gens=#[])
  (ha:s₁.heap.get? a=some { cls:=.type "list",data:=.seq vs.toArray }) (hi:IntsAre vs ns) (hl:ns.length<=sizeLine) (hr:Room k callerA)
  (F:∀base:Heap,K.In base->base.Ns mainGlobals mg->FnOk P w K mg base CX k fa fd [x] sp) (hbind:∀(s:Shared) (u:Value),BindsTo s fd ⟨[u],[]⟩ [(x,u)])
  (hsp:∀H:Hp,xI H->SqL K H a (ns.map V.int)->sp [.ref a] H (fun v _=>v=.bl true) fun _ _ _=>False)
  (hCX:∀H e s',CX [] H s₁ (fun _ _ _=>False) e s'->False):
  codeAny (model P w) callerA (.call (.ref fa) ⟨[.ref a],[]⟩) (fun r s'=>r=.ok (.ret (.bool true))/\OldK s₁.heap s'.heap/\s'.os=s₁.os/\AllBare s'.gens) s₁:=by
 have rv:=nU hi;have lenV:=hi.length;have core:∀H:Hp,xI H->SqL K H a (ns.map V.int)->HOk P w H s₁.heap->(∀b,H b≠none->b=a)->(H a≠none->K.lookup a=none) ->
   codeAny (model P w) callerA (.call (.ref fa) ⟨[.ref a],[]⟩) (fun r s'=>r=.ok (.ret (.bool true))/\OldK s₁.heap s'.heap/\s'.os=s₁.os/\AllBare s'.gens) s₁:=by
  intro H hO hS hok hA hK;have base_of:∀{b:Addr} {o:Obj},s₁.heap.get? b=some o->H b=none->(jk s₁.heap H).get? b=some o:=fun e n=>wY e n;have noA:∀{b:Addr} {o:Obj} {es:Array DictEntry} {ep:Nat},s₁.heap.get? b=some o->o.data=.dict es ep->H b=none:=fun {b o es ep} e d=>by
   cases q:H b with
   |none=>rfl
   |some u=>
    have e':b=a:=hA b (by rw[q];simp);subst e';rw[ha]at e;cases e;have d':Data.seq vs.toArray _=Data.dict es ep:=d;cases d'
  have nsK:∀{b:Addr} {m:Str->Option Value},s₁.heap.Ns b m->(jk s₁.heap H).Ns b m:=fun {b m} ⟨o,es,ep,e,d,r⟩=>⟨o,es,ep,base_of e (noA e d),d,r⟩;have hKb:K.In (jk s₁.heap H):=fun b o e=>base_of (KX b o e) (by
   cases q:H b with
   |none=>rfl
   |some u=>
    have e':b=a:=hA b (by rw[q];simp);subst e';rw[hK (by rw[q];simp)]at e;cases e)
  have hM:Mod K mg (jk s₁.heap H):=⟨hKb,nsK hns,⟨mb,nsK hb,hbb⟩,let⟨mc,h1,h2⟩:=hlim;⟨mc,nsK h1,h2⟩,let⟨mm,h1⟩:=hmods;⟨mm,nsK h1⟩⟩;have e0:Env0 P w K mg (jk s₁.heap H) callerA [] s₁ H:=⟨rfl,hM,fun b o e=>Bo e,Nat.le_of_eq (vm _ _),trivial,fun b hb=>absurd (show b∈([]:List Addr)from hb) (by simp),hok,.of_eq hg⟩;refine codeAny_mono ((F _ hKb (nsK hns)).run callerA [] s₁ H ⟨[.ref a],[]⟩ [.ref a] [.ref a] _ _ hr e0 (hbind s₁ (.ref a)) (.cons rfl .nil) (hsp H hO hS)) fun r s' h=>?_;cases r with
  |error e=>exact(hCX H e s' h).elim
  |ok fl=>
   cases fl with
   |next=>exact False.elim h
   |brk=>exact False.elim h
   |cont=>exact False.elim h
   |ret u=>
    obtain⟨v,H',os,bare,un,hok',r',q⟩:=h;have q':v=.bl true:=q;subst q';obtain rfl:u=Value.bool true:=r';refine⟨rfl,OldK.of_keep fun b o e=>?_,os,bare⟩;cases q:H b with
    |none=>exact un.keep b o e q (by intro z;exact absurd (show b∈([]:List Addr)from z) (by simp)) (by simp)
    |some u=>
     rcases hO b with z|⟨ob,xs,z⟩
     ·rw[q]at z;cases z
     ·have z2:=un.frzs b ob _ z;obtain⟨e1,_⟩:=hok b _ z;obtain⟨e2,_⟩:=hok' b _ z2;rw[e]at e1;cases e1;exact e2
 cases hk:K.lookup a with
 |some o=>
  have e:=KX a o hk;rw[ha]at e;cases e;refine core (fun _=>none) (fun _=>.inl rfl) (.inr ⟨_,vs.toArray,_,hk,rfl,rfl,rfl,by rw[zai,lenV];exact hl,by simpa using rv⟩) (fun b u z=>by have z':(none:Option HO)=some u:=z;cases z') (fun b z=>absurd rfl z) fun z=>absurd rfl z
 |none=>
  refine core (fun b=>if b=a then some (.frz { cls:=.type "list",data:=.seq vs.toArray } (.lst (ns.map V.int)))else none) (fun b=>?_) (.inl (.inr ⟨{ cls:=.type "list",data:=.seq vs.toArray },if_pos rfl⟩)) (fun b u z=>?_) (fun b z=>?_) fun _=>hk
  ·by_cases hb:b=a
   ·exact .inr ⟨_,_,if_pos hb⟩
   ·exact .inl (if_neg hb)
  ·by_cases hb:b=a
   ·have z':=(if_pos hb).symm.trans z;cases z';subst hb;exact⟨ha,by rw[zad];exact hl,vs,_,rv,ha⟩
   ·have z':=(if_neg hb).symm.trans z;cases z'
  ·by_cases hb:b=a
   ·exact hb
   ·exact absurd (if_neg hb) z
def walk_of{l:PySem.W.OpenLaw}{n k:Nat}{q:Program}{f':List Str}{XP:(Str->Option Value)->Heap->Prop}{YP:World->Heap->Prop}{d:DefRec}{K:Params->zbQ}{CX:World->CXT}{sp:World->Sp} 
  (hn:l.most=some n) (hn2:n<=sizeLine) (hdf:d.params.defaults=[]) (hr:Room k callerA)
  (hq:importsNone q=true) (hY:∀(w:World) (h:Heap),YP w h->(K w.params).In h)
  (F:∀(w:World) (mg:Str->Option Value) (fa:Addr) (h:Heap),(K w.params).In h->h.Ns mainGlobals mg->mg d.name=some (.ref fa) ->
   ∃fd:FuncData,(∀(s:Shared) (u:Value),BindsTo s fd ⟨[u],[]⟩ [(x,u)]) /\
    ∀base:Heap,(K w.params).In base->base.Ns mainGlobals mg->FnOk l.prog w (K w.params) mg base (CX w) k fa fd [x] (sp w))
  (hsp:∀(w:World) (H:Hp) (a:Addr) (ns:List Int),ns.length<=n->xI H->SqL (K w.params) H a (ns.map V.int)->sp w [.ref a] H (fun v _=>v=.bl true) fun _ _ _=>False)
  (hCX:∀(w:World) (H:Hp) (s:Shared) (e:Value) (s':Shared),CX w [] H s (fun _ _ _=>False) e s'->False):
  PySem.W.WalkO q f' XP YP l.row.toRowW d [] (fun f vs=>PySem.call f vs):=by
 refine Att.attach_call hn hdf fun w s₀ s₁ mg mb fa o pm cd doc a vs ns G Y ho hd hcd hmg hobj hints ξ hg=>?_;have KX:=hY w _ Y;obtain⟨fd,hb,hF⟩:=F w mg fa _ KX G.T.g hmg;exact wL KX G.T.g G.T.b G.T.builtins G.T.nolimit (let⟨mm,hm,_⟩:=(G.T.seer hq).mods;⟨mm,hm⟩) hg hobj hints (zau ξ hn2) hr hF hb (fun H hO hS=>hsp w H a ns ξ hO hS) fun H e s'=>hCX w H s₁ e s'
def du(s:Stmt):Arguments:=match s with
 |.FunctionDef _ a _ _ _ _ _ _ _ _=>a
 |_=>{ posonlyargs:=[],args:=[],vararg:=none,kwonlyargs:=[],kw_defaults:=[],kwarg:=none,defaults:=[] }
def bP(s:Stmt):List Stmt:=match s with
 |.FunctionDef _ _ b _ _ _ _ _ _ _=>b
 |_=>[]
def ah(s:Stmt):Scope:=match s with
 |.FunctionDef _ _ _ _ _ _ sc _ _ _=>sc
 |_=>{ kind:=.function,names:=[],isGenerator:=false,isCoroutine:=false }
abbrev CX0:CXT:=fun _ _ _ _ _ _=>False
abbrev E0:XK:=fun _ _ _=>False
def GT:qR CX0 X E0:=fun _ _ _ _ _ _ _ h=>h.elim
structure Fun(K:zbQ)(x qual:Str)(st:Stmt)(f:Addr)(fd:FuncData):Prop where
 ex:∃(oc:Value) (od:Option Addr) (kV doc pm:Value) (an:Option Addr) (cdv ct:Value) (osl:Array (Option Value)),
  fd=PySem.W.fnOf x qual (du st) (bP st) (ah st) .none kV doc pm an cdv ct/\K.lookup f=some ⟨oc,od,.func fd,osl⟩/\PySem.W.codeIn K cdv qual=true
 kp:PySem.W.keepIn K (.ref f)=true
section
variable{base:Heap}
def Fun.ok{N:List Str}{k:Nat}(F:Fun K x qual st f fd)(S:FnScope N ps (ah st))(len:∀vs H Q E,sp vs H Q E->vs.length=ps.length)
  (hbody:∀(cdv:Value) (A:Around) (outer:List Env) (s:Shared) (H:Hp) (vs:List V) (Q:VK) (E:XK),Room k (A.deeper (envOfC qual (ah st) s.heap.objs.size f cdv))->sp vs H Q E ->
   ∃t,PSs (j8 CX0 P w K mg base N qual (ah st) f cdv A outer s H E).nox (bP st) t/\t { nx:=fun _ H'=>Q .non H',rt:=Q } (dh N vs) H):FnOk P w K mg base CX0 (k+1) f fd ps sp:=by
 obtain⟨oc,od,kV,doc,pm,an,cdv,ct,osl,rfl,lk,hcd⟩:=F.ex;refine Hd lk hcd S len fun A outer s H vs Q E hr hsp=>?_;obtain⟨t,h,q⟩:=hbody cdv A outer s H vs Q E hr hsp;exact⟨t,h.nox,q⟩
def Fun.binds(F:Fun K x qual st f fd)
  (h:∀(kV doc pm:Value) (an:Option Addr) (cdv ct:Value) (us:List Value),us.length=ps.length->bindArgs (PySem.W.fnOf x qual (du st) (bP st) (ah st) .none kV doc pm an cdv ct) ⟨us,[]⟩=pure (ps.zip us)):Binds K fd ps []:=by
 obtain⟨oc,od,kV,doc,pm,an,cdv,ct,osl,rfl,lk,hcd⟩:=F.ex;exact .all (h kV doc pm an cdv ct)
def vo{oc:Value}{od an:Option Addr}{osl:Array (Option Value)}{kV doc pm cdv ct:Value}(l:K.lookup f=some ⟨oc,od,.func (PySem.W.fnOf x qual (du st) (bP st) (ah st) .none kV doc pm an cdv ct),osl⟩)
  (c:PySem.W.codeIn K cdv qual=true) (k:PySem.W.keepIn K (.ref f)=true):Fun K x qual st f (PySem.W.fnOf x qual (du st) (bP st) (ah st) .none kV doc pm an cdv ct):=⟨⟨oc,od,kV,doc,pm,an,cdv,ct,osl,rfl,l,c⟩,k⟩
end
def kL{k:Nat}(hr:Room k A):A.units+1<cLine:=Nat.lt_of_le_of_lt (Nat.add_le_add_left (by decide:1<=64) _) hr.units
def pv(i:Nat)(hN:X.N[i]?=some x:=by rfl)(hv:Vis X.env.scope x:=by first|exact Or.inl rfl|exact Or.inr (Or.inl rfl)|exact Or.inr (Or.inr rfl))(hd:(x==("__debug__":Str))=false:=by decide)
  (hcd:(x==("__classdict__":Str))=false:=by decide):PE X (.Name x pos) (eA i):=cf hN hv hd hcd
section
variable{κ:Type}[DecidableEq κ]
def fq(kvs:List (κ×V))(k:κ):Option V:=(kvs.find? fun kv=>decide (kv.1=k)).map (·.2)
def eB(kvs:List (κ×V))(k:κ)(v:V):List (κ×V):=
 if(kvs.any fun kv=>decide (kv.1=k))=true then kvs.map (fun kv=>if kv.1=k then(kv.1,v)else kv)else kvs++[(k,v)]
def lp{p:κ×V}{r:List (κ×V)}{k:κ}(e:p.1=k):fq (p::r) k=some p.2:=by simp[fq,zbl,e]
def lq{p:κ×V}{r:List (κ×V)}{k:κ}(e:¬p.1=k):fq (p::r) k=fq r k:=by simp[fq,zbl,e]
theorem pE(k:κ):∀kvs:List (κ×V),(kvs.any fun kv=>decide (kv.1=k))=(fq kvs k).isSome
 |[]=>rfl
 |p::r=>by
  rw[List.any_cons];by_cases e:p.1=k
  ·simp only[lp e,zaB e,Bool.true_or,Option.isSome_some]
  ·rw[lq e,zaA e,Bool.false_or];exact pE k r
def k9(kvs:List (κ×V))(k:κ)(v:V):(eB kvs k v).length<=kvs.length+1:=by
 unfold eB;split
 ·rw[zad];omega
 ·rw[zae,zac,List.length_nil];omega
def RelO.isSome_eq{u:Option Value}(r:RelO o u):o.isSome=u.isSome:=by
 cases o with
 |none=>cases u with
  |none=>rfl
  |some _=>exact(show False from r).elim
 |some _=>cases u with
  |none=>exact(show False from r).elim
  |some _=>rfl
def KV.val{kvs:List (κ×V)}{vs:List (κ×Value)}(r:KV kvs vs)(k:κ):RelO (fq kvs k) (valueAt vs k):=by
 unfold KV at r
 induction r with
 |nil=>exact True.intro
 |@cons p q ps qs h t ih=>
  obtain⟨h1,h2⟩:=h;by_cases e:p.1=k
  ·have e':q.1=k:=h1.symm.trans e;have b:valueAt (q::qs) k=some q.2:=by simp[valueAt,zbl,e']
   rw[lp e,b];exact h2
  ·have e':¬q.1=k:=fun z=>e (h1.trans z);have b:valueAt (q::qs) k=valueAt qs k:=by simp[valueAt,zbl,e']
   rw[lq e,b];exact ih
theorem KV.any{kvs:List (κ×V)}{vs:List (κ×Value)}(r:KV kvs vs)(k:κ):(kvs.any fun kv=>decide (kv.1=k))=vs.any fun kv=>decide (kv.1=k):=by
 unfold KV at r
 induction r with
 |nil=>rfl
 |cons h t ih=>rw[List.any_cons,List.any_cons,ih,h.1]
def KV.repl{kvs:List (κ×V)}{vs:List (κ×Value)}(r:KV kvs vs)(k:κ)(ry:RelV y u):
  KV (kvs.map fun kv=>if kv.1=k then(kv.1,y)else kv) (vs.map fun kv=>if kv.1=k then(kv.1,u)else kv):=by
 unfold KV at r ⊢
 induction r with
 |nil=>exact .nil
 |@cons p q ps qs h t ih=>
  rw[zar,zar];refine .cons ?_ ih;obtain⟨h1,h2⟩:=h;by_cases e:p.1=k
  ·rw[if_pos e,if_pos (h1.symm.trans e)];exact⟨h1,ry⟩
  ·rw[if_neg e,if_neg (fun z=>e (h1.trans z))];exact⟨h1,h2⟩
def KV.put{kvs:List (κ×V)}{vs:List (κ×Value)}(r:KV kvs vs)(k:κ)(ry:RelV y u):KV (eB kvs k y) (stored vs k u):=by
 unfold eB stored;rw[r.any k];by_cases e:(vs.any fun kv=>decide (kv.1=k))=true
 ·rw[if_pos e,if_pos e];exact r.repl k ry
 ·rw[if_neg e,if_neg e];exact Paired.snoc r ⟨rfl,ry⟩
def KV.length{kvs:List (κ×V)}{vs:List (κ×Value)}(r:KV kvs vs):kvs.length=vs.length:=Paired.length r
end
def pk{k:Key}(r:RelV (kV k) u):(bg P w).is k u=true:=by
 cases k with
 |inl i=>obtain⟨t,e⟩:=(show ∃t,u=Value.int i t from r);subst e;exact rC P w i t
 |inr x=>obtain⟨t,e⟩:=(show ∃t,u=Value.str x t from r);subst e;exact rB P w x t
def GX{k:Option Key}(r:RelV (oV k) u):(dZ P w).is k u=true:=by
 cases k with
 |none=>rw[show u=Value.none from r];rfl
 |some k=>exact pk (P:=P) (w:=w) r
theorem oe{P:Program}{w:World}:∀{ks:List (Option Key)} {us:List Value},Vals (ks.map oV) us->ItemsAre (dZ P w) ks us
 |[],_,r=>by rw[List.map_nil]at r;cases r;exact .nil
 |k::ks,_,r=>by
  rw[zar]at r;cases r with
  |cons h t=>exact .cons (GX h) (oe t)
abbrev KT(H:Hp)(ad:Addr->Prop):List (List (Option Key)×V)->List (List (Option Key)×Addr×Value)->Prop:=Paired fun p q=>p.1=q.1/\(H q.2.1=some (.tup (p.1.map oV))/\ad q.2.1)/\RelV p.2 q.2.2
def KT.val(r:KT H ad kvs xs)(k:List (Option Key)):RelO (fq kvs k) ((atKey xs k).map (·.2)):=by
 induction r with
 |nil=>exact True.intro
 |@cons p q ps qs h t ih=>
  obtain⟨h1,_,h2⟩:=h;by_cases e:p.1=k
  ·have e':q.1=k:=h1.symm.trans e;have b:atKey (q::qs) k=some q.2:=by simp[atKey,zbl,e']
   rw[lp e,b];exact h2
  ·have e':¬q.1=k:=fun z=>e (h1.trans z);have b:atKey (q::qs) k=atKey qs k:=by simp[atKey,zbl,e']
   rw[lq e,b];exact ih
def KT.repl(r:KT H ad kvs xs)(k:List (Option Key))(ry:RelV y u):
  KT H ad (kvs.map fun kv=>if kv.1=k then(kv.1,y)else kv) (xs.map (putAt k u)):=by
 induction r with
 |nil=>exact .nil
 |@cons p q ps qs h t ih=>
  rw[zar,zar];refine .cons ?_ ih;obtain⟨h1,h2,h3⟩:=h;unfold putAt;by_cases e:p.1=k
  ·rw[if_pos e,if_pos (h1.symm.trans e)];exact⟨h1,h2,ry⟩
  ·rw[if_neg e,if_neg (fun z=>e (h1.trans z))];exact⟨h1,h2,h3⟩
def KT.put(r:KT H ad kvs xs)(k:List (Option Key))(hb:H b=some (.tup (k.map oV)))(ry:RelV y u):
  KT H (fun x=>ad x\/x=b) (eB kvs k y) (storedH xs k b u):=by
 have e:(kvs.any fun kv=>decide (kv.1=k))=(atKey xs k).isSome:=by
  rw[pE,(r.val k).isSome_eq,Option.isSome_map]
 unfold eB storedH;rw[e];by_cases q:(atKey xs k).isSome=true
 ·rw[if_pos q,if_pos q];exact Paired.mapP (r.repl k ry) fun _ _ z=>⟨z.1,⟨z.2.1.1,.inl z.2.1.2⟩,z.2.2⟩
 ·rw[if_neg q,if_neg q];exact Paired.snoc (Paired.mapP r fun _ _ z=>⟨z.1,⟨z.2.1.1,.inl z.2.1.2⟩,z.2.2⟩) ⟨rfl,⟨hb,.inr rfl⟩,ry⟩
def KT.keeps(r:KT H ad kvs xs)(ht:∀b ys,H b=some (.tup ys)->H' b=some (.tup ys)):KT H' ad kvs xs:=
 Paired.mapP r fun _ _ z=>⟨z.1,⟨ht _ _ z.2.1.1,z.2.1.2⟩,z.2.2⟩
section
variable{h:Heap} 
def Az{u:HO}(ok:HOk P w H h)(e:Rd H a u):ObjOk P w H h a u:=e.ok ok
def kQ{kvs:List (Key×V)}(ok:HOk P w H h)(e:Rd H a (.dK kvs)):kvs.length<=sizeLine/\(a==sysModules)=false/\∃vs,KV kvs vs/\h.DictOf (bg P w) a vs:=
 show ObjOk P w H h a (.dK kvs)from Az ok e
def AV{kvs:List (Key×V)}(ok:HOk P w H h)(e:H a=some (.dK kvs)):kvs.length<=sizeLine/\(a==sysModules)=false/\∃vs,KV kvs vs/\h.DictOf (bg P w) a vs:=kQ ok (.inl e)
def me{ks:List (Option Key)}(ok:HOk P w H h)(e:H a=some (.tup (ks.map oV))):(tupleKind (dZ P w)).is h ks a:=by
 obtain⟨_,its,r,o,h1,h2,n,h3⟩:=(show ObjOk P w H h a (.tup (ks.map oV))from ok a _ e);exact⟨o,its.toArray,n,h1,h2,h3.1,by simpa using oe r⟩
def pq(ok:HOk P w H h)(e:Rd H a (.dT kvs ad)):kvs.length<=sizeLine/\(a==sysModules)=false /\
  ∃xs,KT H ad kvs xs/\h.DictOfH (tupleKind (dZ P w)) a xs:=by
 obtain⟨z,y,xs,r,o,es,ep,h1,h2,h3,h4,h5⟩:=(show ObjOk P w H h a (.dT kvs ad)from Az ok e);refine⟨z,y,xs,r,o,es,ep,h1,h2,h3,h4,fun x hx=>?_,h5⟩;have all:∀{l:List (List (Option Key)×V)} {m:List (List (Option Key)×Addr×Value)},KT H ad l m->∀x∈m,(tupleKind (dZ P w)).is h x.1 x.2.1:=by
  intro l m q
  induction q with
  |nil=>intro x hx;exact nomatch hx
  |@cons p q ps qs hq t ih=>
   intro x hx;rcases zay.mp hx with e|hx
   ·subst e;exact me ok (by rw[<-hq.1];exact hq.2.1.1)
   ·exact ih x hx
 exact all r x hx
def HE(ok:HOk P w H h)(e:H a=some (.dT kvs ad)):kvs.length<=sizeLine/\(a==sysModules)=false /\
  ∃xs,KT H ad kvs xs/\h.DictOfH (tupleKind (dZ P w)) a xs:=pq ok (.inl e)
end
def DGet(H:Hp)(a:Addr)(y:V)(r:Option V):Prop:=
 (∃kvs k,Rd H a (.dK kvs)/\y=kV k/\r=fq kvs k)\/∃kvs ad k b,Rd H a (.dT kvs ad)/\y=.ref b/\H b=some (.tup (k.map oV))/\r=fq kvs k
def DPut(H:Hp)(a:Addr)(y v:V)(H':Hp):Prop:=
 (∃kvs k,H a=some (.dK kvs)/\y=kV k/\kvs.length<sizeLine/\H'=upd H a (.dK (eB kvs k v))) \/
 ∃kvs ad k b,H a=some (.dT kvs ad)/\y=.ref b/\H b=some (.tup (k.map oV))/\kvs.length<sizeLine/\H'=upd H a (.dT (eB kvs k v) fun x=>ad x\/x=b)
def DGet.t(e:Rd H a (.dT kvs ad))(eb:H b=some (.tup (k.map oV))):DGet H a (.ref b) (fq kvs k):=.inr ⟨kvs,ad,k,b,e,rfl,eb,rfl⟩
def DPut.t(e:H a=some (.dT kvs ad))(eb:H b=some (.tup (k.map oV)))(hl:kvs.length<sizeLine):
  DPut H a (.ref b) v (upd H a (.dT (eB kvs k v) fun x=>ad x\/x=b)):=.inr ⟨kvs,ad,k,b,e,rfl,eb,hl,rfl⟩
section
variable{ρ:List (Addr×Obj)}{σ:St}{s:Shared}{r:Value}{E:Value->Shared->Prop}
def Inv.big(I:Inv X ρ σ H s):sysModules<s.heap.objs.size:=by
 have h:mainGlobals<s.heap.objs.size:=(I.mod.glob.keeps I.bk).lt;exact Nat.lt_trans (by decide) h
def Ij(hu:A.units+1<cLine)(I:Inv X ρ σ H s)(g:DGet H a y o)(ry:RelV y u)(h:∀s',Inv X ρ σ H s'->Q (.bool o.isSome) s'):
  wpAny (model X.prog X.w) A (compareOp .In u (.ref a)) Q E s:=by
 rcases g with⟨kvs,k,e,ey,l⟩|⟨kvs,ad,k,b,e,ey,eb,l⟩
 ·subst ey;obtain⟨z,hd,vs,rel,dd⟩:=kQ I.hok e;refine wpAny_in_of (pk ry) hd dd.mapOf ?_;rw[<-(rel.val k).isSome_eq,<-l];exact h _ (I.tok _)
 ·subst ey;cases(show u=Value.ref b from ry);obtain⟨z,hd,xs,rel,dd⟩:=pq I.hok e;refine wpAny_in_heap (tupleKind_room_in1 hu) (me I.hok eb) hd dd ?_;have q:=(rel.val k).isSome_eq;rw[Option.isSome_map]at q;rw[<-q,<-l];exact h _ (I.tok _)
def Cf(hu:A.units+1<cLine)(I:Inv X ρ σ H s)(g:DGet H a y o)(ry:RelV y u)(h:∀s',Inv X ρ σ H s'->Q (.bool (!o.isSome)) s'):
  wpAny (model X.prog X.w) A (compareOp .NotIn u (.ref a)) Q E s:=by
 rcases g with⟨kvs,k,e,ey,l⟩|⟨kvs,ad,k,b,e,ey,eb,l⟩
 ·subst ey;obtain⟨z,hd,vs,rel,dd⟩:=kQ I.hok e;refine wpAny_notIn_of (pk ry) hd dd.mapOf ?_;rw[<-(rel.val k).isSome_eq,<-l];exact h _ (I.tok _)
 ·subst ey;cases(show u=Value.ref b from ry);obtain⟨z,hd,xs,rel,dd⟩:=pq I.hok e;refine wpAny_notIn_heap (tupleKind_room_in1 hu) (me I.hok eb) hd dd ?_;have q:=(rel.val k).isSome_eq;rw[Option.isSome_map]at q;rw[<-q,<-l];exact h _ (I.tok _)
def sf{t':Nat}{ob:HO}(I:Inv X ρ σ H s)(mu:Mut (H a))(hs:Heap.SameBut a s.heap h')(he:∃q,h'.get? a=some q)(new:ObjOk X.prog X.w (upd H a ob) h' a ob):
  Inv X ρ σ (upd H a ob) { s with heap:=h',toks:=t' }:=
 I.write (x:=a) (e:=a) mu (.inl rfl) (fun b q hb z=>(hs.2 b hb).trans z) he new
def Gm{kvs:List (Key×V)}{vs:List (Key×Value)}(z:kvs.length<=sizeLine)(hd:(a==sysModules)=false)(rel:KV kvs vs)(dd:h'.DictOf (bg P w) a vs):
  ObjOk P w H' h' a (.dK kvs):=⟨z,hd,vs,rel,dd⟩
def vO{Q:Unit->Shared->Prop}(hu:A.units+1<cLine)(I:Inv X ρ σ H s)(g:DPut H a y v H')(ry:RelV y u)(rv:RelV v r)(h:∀s',Inv X ρ σ H' s'->Q () s'):
  wpAny (model X.prog X.w) A (setItem (.ref a) u r) Q E s:=by
 rcases g with⟨kvs,k,e,ey,l,eH⟩|⟨kvs,ad,k,b,e,ey,eb,l,eH⟩
 ·subst ey eH;obtain⟨z,hd,vs,rel,dd⟩:=AV I.hok e;have hz:vs.length<=sizeLine:=by rw[<-rel.length];exact z
  have hl:(eB kvs k v).length<=sizeLine:=by have:=k9 kvs k v;omega
  refine wpAny_setItem_pairs (hsz:=hz) (pk ry) dd fun h' dd' hs=>h _ ?_;have he:∃q,h'.get? a=some q:=let⟨q,_,_,hq,_⟩:=dd';⟨q,hq⟩;exact sf I (by rw[e];exact True.intro) hs he (Gm hl hd (rel.put k rv) dd')
 ·subst ey eH;cases(show u=Value.ref b from ry);obtain⟨z,hd,xs,rel,dd⟩:=HE I.hok e;have hz:xs.length<=sizeLine:=by rw[<-Paired.length rel];exact z
  have hl:(eB kvs k v).length<=sizeLine:=by have:=k9 kvs k v;omega
  refine wpAny_setItem_heap (hsz:=hz) (tupleKind_room_in1 hu) (me I.hok eb) dd fun h' dd' hs=>h _ ?_;obtain⟨q,es,ep,hq,h2,h3,h4,_,h5⟩:=dd';refine sf I (by rw[e];exact True.intro) hs ⟨q,hq⟩ ⟨hl,hd,_,(rel.put k eb rv).keeps fun c ys ec=>?_,q,es,ep,hq,h2,h3,h4,h5⟩;rw[au (pi ec e (fun z=>nomatch z))];exact ec
end
def Ei(ty td:TE):TE:=fun σ H Q=>ty σ H fun y H1=>td σ H1 fun x H2=>∃a o,x=.ref a/\DGet H2 a y o/\Q (.bl o.isSome) H2
def Ax(td ty tv:TE):TS:=fun D σ H=>tv σ H fun v H1=>td σ H1 fun x H2=>ty σ H2 fun y H3=>∃a H4,x=.ref a/\DPut H3 a y v H4/\D.nx σ H4
section
variable{o i e value:Expr}{pos' tpos:Pos}{td ty tv:TE}
def EJ(hu:X.A.units+1<cLine)(hi:PE X i ty)(ho:PE X o td):PC X .In i o (Ei ty td):=by
 intro ρ s σ H Q I h;refine thn (hi ρ s σ H _ I h) fun iv s1 ⟨y,H1,I1,ry,q1⟩=>thn (ho ρ s1 σ H1 _ I1 q1) fun u s2 ⟨x,H2,I2,rx,a,ov,ex,g,q2⟩=>?_;subst ex;obtain rfl:u=Value.ref a:=rx;exact Ij hu I2 g ry fun s3 I3=>⟨.bl ov.isSome,H2,I3,rfl,q2⟩
def Be(hu:X.A.units+1<cLine)(ho:PE X o td)(hi:PE X i ty)(hv:PE X value tv)(hs:swapsWith value (some (.Subscript o i pos')) pos.line X.env=pure false):
  PS X (.Assign [.Subscript o i pos'] value pos) (Ax td ty tv):=by
 intro ρ s σ H D I h;refine wpAny_Assign_Subscript (thn (hv ρ s σ H _ I h) fun r s1 ⟨v,H1,I1,rv,q1⟩=>thn (ho ρ s1 σ H1 _ I1 q1) fun u s2 ⟨x,H2,I2,rx,q2⟩=>thn (hi ρ s2 σ H2 _ I2 q2) fun iv s3 ⟨y,H3,I3,ry,a,H4,ex,g,q3⟩=>?_) hs;subst ex;obtain rfl:u=Value.ref a:=rx;exact vO hu I3 g ry rv fun s4 I4=>⟨σ,H4,I4,q3⟩
end
def xy(h:Heap)(hb:sysModules<h.objs.size):ObjOk P w H (h.push { cls:=.type "dict",data:=.dict #[] }) h.objs.size (.dK []):=
 ⟨zbg _,zbK.mpr (Ne.symm (zaw hb)),[],.nil,Heap.DictOf.new h⟩
def xx(h:Heap)(hb:sysModules<h.objs.size):ObjOk P w H (h.push { cls:=.type "dict",data:=.dict #[] }) h.objs.size (.dT [] fun _=>False):=
 ⟨zbg _,zbK.mpr (Ne.symm (zaw hb)),[],.nil,_,#[],0,zan _ rfl,⟨rfl,rfl,rfl⟩,rfl,rfl,List.nodup_nil⟩
def Eh:TE:=fun _ H Q=>∀p,H p=none->Q (.ref p) (upd H p (.dK []))
def Eg:TE:=fun _ H Q=>∀p,H p=none->Q (.ref p) (upd H p (.dT [] fun _=>False))
def pe_dnewK:PE X (.Dict [] [] pos) Eh:=fun ρ s σ H Q I h=>
 wpAny_Dict_empty ⟨.ref s.heap.objs.size,_,I.laid (a:=s.heap.objs.size) (o:=.dK []) (t':=s.toks) (fun _ _ q=>zaf _ q) (zav _) (xy s.heap I.big),rfl,h _ (I.hok.fresh (zav _))⟩
def pe_dnewT:PE X (.Dict [] [] pos) Eg:=fun ρ s σ H Q I h=>
 wpAny_Dict_empty ⟨.ref s.heap.objs.size,_,I.laid (a:=s.heap.objs.size) (o:=.dT [] fun _=>False) (t':=s.toks) (fun _ _ q=>zaf _ q) (zav _) (xx s.heap I.big),rfl,h _ (I.hok.fresh (zav _))⟩
end L2
set_option maxHeartbeats 4000000
namespace L2
variable{scope:Scope}{env:Env}{names:List (Str×NameKind)}{n c k i j d d1 d2 d' dr cd:Nat}{X:Cx}{M:Model}{A:Around}{E:Value->Shared->Prop}{ρ:List (Addr×Obj)}{σ σ':St}{H H2 H' H1 H0:Hp}{fp:List Addr}{p p2 p1 q:Bool}{o e tg elt iter b:Expr}{P prog:Program}{w:World}{K:zbQ}{elts es ifs:List Expr}{tp pos ω μ ζ pos' px:Pos}{x z:Str}{ps N ns:List Str}{l sl jt tu a:Addr}{Q Q':VK}{te:TE}{js:List (Option Nat)}{vs:List V}{rd rd':HO->Prop}{u:HO}{v y:V}{ds ds1 ds2 ds' ds0 lk dsi:List Nat}{t':TT}{op:CmpOp}{T:String}{st:Stmt}{r r':List V->Hp->VK->Prop}{fn:Value}{Dn:Ends}
open PySem PySem.Spec PyProof.Rows
def BO{α β:Type}{l:List α}{f:α->β->Sem (ForInStep β)}{g:β->α->β}(h:∀x∈l,∀c,f x c=pure (.yield (g c x))):∀c,forIn l c f=pure (l.foldl g c):=by
 induction l with
 |nil=>intro c;rfl
 |cons x l ih=>
  intro c;rw[List.forIn_cons,h x zaq,pure_bind];exact ih (fun y hy=>h y (zaj _ hy)) (g c x)
def dI(env:Env)(acc:List (Str×Addr))(x:Str×NameKind):List (Str×Addr):=
 if x.2==NameKind.free then(x.1,(env.cells.lookup x.1).getD 0)::acc else acc
def cV(env:Env)(names:List (Str×NameKind)):List (Str×Addr):=names.foldl (dI env) []
def mE(h:∀y∈scope.names,y.2=.free->∃c,env.cells.lookup y.1=some c):closureFor scope env=pure (cV env scope.names):=by
 simp only[closureFor];rw[BO (g:=dI env) (fun x hx c=>by
  obtain⟨n,kind⟩:=x;by_cases hk:kind=.free
  ·obtain⟨a,e⟩:=h _ hx hk;subst hk;have e':env.cells.lookup n=some a:=e;simp[cellOf,dI,e']
  ·have hb:(kind==NameKind.free)=false:=by simpa using hk
   simp[dI,hb])]
 rfl
theorem mF{env:Env}:∀(names:List (Str×NameKind)) (acc:List (Str×Addr)) (p:Str×Addr),
  p∈names.foldl (dI env) acc->p∈acc\/((p.1,NameKind.free)∈names/\p.2=(env.cells.lookup p.1).getD 0)
 |[],_,_,h=>.inl h
 | (n,k)::r,acc,p,h=>by
  rw[List.foldl_cons]at h;rcases mF r _ p h with q|⟨q,e⟩
  ·unfold dI at q;by_cases hk:(k==NameKind.free)=true
   ·rw[if_pos hk]at q;rcases zay.mp q with z|z
    ·subst z;have hk':k=NameKind.free:=by simpa using hk
     subst hk';exact .inr ⟨zaq,rfl⟩
    ·exact .inl z
   ·rw[if_neg hk]at q;exact .inl q
  ·exact .inr ⟨zaj _ q,e⟩
theorem ld{env:Env}:∀(names:List (Str×NameKind)) (acc:List (Str×Addr)) (p:Str×Addr),p∈acc->p∈names.foldl (dI env) acc
 |[],_,_,h=>h
 |x::r,acc,p,h=>by
  rw[List.foldl_cons];refine ld r _ p ?_;unfold dI;split
  ·exact zaj _ h
  ·exact h
theorem mG{env:Env}{n:Str}:∀(names:List (Str×NameKind)) (acc:List (Str×Addr)),(n,NameKind.free)∈names->∃c,(n,c)∈names.foldl (dI env) acc
 | (m,k)::r,acc,h=>by
  rw[List.foldl_cons];rcases zay.mp h with e|e
  ·cases e;exact⟨(env.cells.lookup n).getD 0,ld r _ _ (by unfold dI;rw[if_pos (show(((n,NameKind.free):Str×NameKind).2==NameKind.free)=true from rfl)];exact zaq)⟩
  ·exact mG r _ e
theorem fW{α:Type}:∀{l:List (Str×α)} {n:Str} {c:α},(n,c)∈l->∃c',l.lookup n=some c'
 | (m,d)::r,n,c,h=>by
  rw[zas];cases hb:n==m with
  |true=>exact⟨d,rfl⟩
  |false=>
   rcases zay.mp h with e|e
   ·cases e;simp at hb
   ·exact fW e
def qJ{n:Str}(h:(n,NameKind.free)∈names):∃c,(cV env names).lookup n=some c:=
 let⟨_,e⟩:=mG (env:=env) names [] h
 fW e
def om{n:Str}{c:Addr}(h:∀y∈names,y.2=.free->∃c,env.cells.lookup y.1=some c)(e:(cV env names).lookup n=some c):env.cells.lookup n=some c:=by
 rcases mF names [] (n,c) (zaU e)with q|⟨q,z⟩
 ·simp at q
 ·obtain⟨a,ea⟩:=h _ q rfl;have z':c=(env.cells.lookup n).getD 0:=z;have ea':env.cells.lookup n=some a:=ea;rw[ea']at z';rw[ea',z'];rfl
theorem jb{env:Env}:∀{names:List (Str×NameKind)} {x:Str} {k:NameKind},
  (names.map fun(n,k)=>if(k==NameKind.free&&env.scope.kind==.function&&env.kindOf n==some .cell)then(n,NameKind.cell)else(n,k)).lookup x=some k ->
  names.lookup x=some k\/(names.lookup x=some .free/\k=.cell)
 |[],_,_,h=>by simp at h
 | (n,k0)::r,x,k,h=>by
  rw[zar]at h;cases hx:x==n with
  |true=>
   rcases Bool.eq_false_or_eq_true (k0==NameKind.free&&env.scope.kind==.function&&env.kindOf n==some .cell)with hc|hc
   ·simp only[hc,if_true,zas,hx]at h;have hk:k0=.free:=by
     simp only[zbj,beq_iff_eq]at hc;exact hc.1.1
    refine .inr ⟨?_,?_⟩
    ·simp only[zas,hx,hk]
    ·exact(zat h).symm
   ·simp only[hc,Bool.false_eq_true,if_false,zas,hx]at h;refine .inl ?_;simp only[zas,hx];exact h
  |false=>
   have h':(r.map fun(n,k)=>if(k==NameKind.free&&env.scope.kind==.function&&env.kindOf n==some .cell)then(n,NameKind.cell)else(n,k)).lookup x=some k:=by
    rcases Bool.eq_false_or_eq_true (k0==NameKind.free&&env.scope.kind==.function&&env.kindOf n==some .cell)with hc|hc
    ·simp only[hc,if_true,zas,hx]at h;exact h
    ·simp only[hc,Bool.false_eq_true,if_false,zas,hx]at h;exact h
   simp only[zas,hx];exact jb h'
theorem l4{env:Env}:∀{names:List (Str×NameKind)} {x:Str},names.lookup x=some .free ->
  (names.map fun(n,k)=>if(k==NameKind.free&&env.scope.kind==.function&&env.kindOf n==some .cell)then(n,NameKind.cell)else(n,k)).lookup x=some .cell \/
  (names.map fun(n,k)=>if(k==NameKind.free&&env.scope.kind==.function&&env.kindOf n==some .cell)then(n,NameKind.cell)else(n,k)).lookup x=some .free
 |[],_,h=>by simp at h
 | (n,k0)::r,x,h=>by
  rw[zar];cases hx:x==n with
  |true=>
   simp only[zas,hx]at h;rcases Bool.eq_false_or_eq_true (k0==NameKind.free&&env.scope.kind==.function&&env.kindOf n==some .cell)with hc|hc
   ·refine .inl ?_;simp only[hc,if_true,zas,hx]
   ·refine .inr ?_;simp only[hc,Bool.false_eq_true,if_false,zas,hx];exact h
  |false=>
   simp only[zas,hx]at h;have ih:=l4 (env:=env) h;rcases Bool.eq_false_or_eq_true (k0==NameKind.free&&env.scope.kind==.function&&env.kindOf n==some .cell)with hc|hc
   ·simp only[hc,if_true,zas,hx];exact ih
   ·simp only[hc,Bool.false_eq_true,if_false,zas,hx];exact ih
def dv(js:List (Option Nat))(σ:St):St:=js.map fun j=>match j with
 |some j=>(σ[j]?).join
 |none=>none
def PTs(X:Cx)(ifs:List Expr)(tt:TT):Prop:=
 ∀(ρ:List (Addr×Obj)) (s:Shared) (σ:St) (H:Hp) (Q:Bool->Hp->Prop),Inv X ρ σ H s->tt σ H Q ->
  wpAny (model X.prog X.w) X.A (forIn ifs true fun c r=>if r=true then do let ok <-isTrue c X.env (eval c X.env);pure (ForInStep.yield ok)else pure (ForInStep.yield r)) (TP X ρ σ Q) X.xe s
def HK:TT:=fun _ H Q=>Q true H
def pts_nil:PTs X [] HK:=fun _ _ _ H _ I h=>wpAny_tests_nil ⟨H,I,h⟩
def Ba{c:Expr}{tc:TT}(hc:PT X c tc):PTs X [c] tc:=fun ρ s σ H Q I h=>wpAny_tests_one (hc ρ s σ H Q I h)
def EV(g:TG)(tt:TT)(te:TE)(D:Addr)(x:V)(τ:St)(H:Hp)(N:St->Hp->Prop):Prop:=
 g x τ H fun τ4 H4=>tt τ4 H4 fun b H5=>if b=true then te τ4 H5 fun v H6=>∃xs,H6 D=some (.lst xs)/\xs.length<sizeLine/\N τ4 (upd H6 D (.lst (xs++[v])))else N τ4 H5
def tH(J:It)(g:TG)(tt:TT)(te:TE)(σ0:St)(H1:Hp)(D:Addr)(Q:VK):Prop:=
 ∃W:Nat->Nat->St->Hp->Prop,(∃m,W 0 m σ0 (upd H1 D (.lst []))) /\
  ∀i m τ H2,W i m τ H2->(J.stop i H2/\Q (.ref D) H2)\/(J.go i H2/\∃N:St->Hp->Prop,(∀τ' H',N τ' H'->∃m',m'<m/\W (i+1) m' τ' H')/\∀x H3,J.yld i H2 x H3->EV g tt te D x τ H3 N)
def tLC(wi:TI)(g:TG)(tt:TT)(te:TE)(js:List (Option Nat)):TE:=fun σ H Q=>
 wi σ H fun J H1=>∀D,H1 D=none->tH J g tt te (dv js σ) H1 D Q
def thF{α:Type}{t:Sem α}{Q Q':α->Shared->Prop}{s:Shared}(h:wpAny M A t Q (fun _ _=>False) s)(hQ:∀a s,Q a s->Q' a s):wpAny M A t Q' E s:=
 wpAny_mono h hQ fun _ _ x=>x.elim
def t9:∀(bs:List Bool),(List.range bs.length).all (fun i=>bs.getD i true)=bs.all id:=fun bs=>by
 rw[Bool.eq_iff_iff,List.all_eq_true,List.all_eq_true];constructor
 ·intro h b hb;obtain⟨i,hi,e⟩:=List.mem_iff_getElem.mp hb;have q:=h i (zbn.mpr hi);rw[zbe,zak hi,e]at q;exact q
 ·intro h i hi;have hi':=zbn.mp hi;rw[zbe,zak hi'];exact h _ (List.getElem_mem hi')
def xC(hc:X.calm=true):CallR X (.builtin "all") (fun xs H Q=>∃(p:Addr) (bs:List Bool),xs=[.ref p]/\SqL X.K H p (bs.map V.bl)/\Q (.bl (bs.all id)) H):=by
 intro ρ s σ H xs us Q I r h;obtain⟨p,bs,rfl,hp,q⟩:=h;obtain⟨u,rfl,ru⟩:=kG r;cases ru;obtain⟨its,rv,pl,hz⟩:=I.list hp;have hl:its.length=bs.length:=by rw[<-rv.length,zad]
 have hlt:p<s.heap.objs.size:=by
  obtain⟨o,n,e,_⟩:=id pl;exact zal e
 refine call_all_walk (wpAny_pyIter_list pl.isList ?_);refine⟨s.heap.objs.size,[s.heap.objs.size,p],[s.heap.objs.size],its.toArray.size,fun i v=>its.toArray[i]?=some v,_,fun i=>bs.getD i true,rfl,Walks.list (A:=X.A.in1) (show X.A.in1.handled=none from I.ok.hd hc) s.heap.objs.size p (zaw hlt) its.toArray,?_,?_,?_⟩
 ·exact⟨⟨_,zan _ rfl,rfl,rfl⟩,pl.isList.push _⟩
 ·intro i v s' Q' E' hv hq;have hv':its[i]?=some v:=by simpa using hv
  have hi:i<bs.length:=by
   rw[<-hl];exact(zah.mp hv').1
  obtain⟨u,hu,ru⟩:=rv.get (i:=i) (x:=V.bl bs[i]) (by rw[zao,zak hi];rfl);rw[hu]at hv';cases hv';cases ru;have e:bs.getD i true=bs[i]:=by rw[zbe,zak hi];rfl
  have hq':Q' (bs.getD i true) s':=hq;rw[e]at hq';exact zbw hq'
 ·intro h' tk hk;have e:(List.range its.toArray.size).all (fun i=>bs.getD i true)=bs.all id:=by
   rw[<-t9 bs,zai,hl]
  rw[e];refine⟨.bl (bs.all id),H,I.kept (t':=tk) fun b o z=>hk b o ?_ (zaf _ z),rfl,q⟩;intro z';have z'':b=s.heap.objs.size:=by simpa using z'
  exact zaw (zal z) z''
def xB:CallR X (.builtin "isinstance") (fun xs H Q=>∃x t n b,xs=[x,.ty n]/\TyOf X.K H x t/\PySem.W.kitOne X.K t (.type n)=some b/\Q (.bl b) H):=by
 intro ρ s σ H xs us Q I r h;obtain⟨x,t,n,b,rfl,ty,e,q⟩:=h;obtain⟨u,w',rfl,r1,r2⟩:=Ap r;cases r2;exact vc I r1 ty e fun tk=>⟨.bl b,H,I.tok _,rfl,q⟩
section
open PySem.SeqAt
variable{s:Shared}
end
def Inv.turnedLaid{s:Shared}{h':Heap}{t':Nat}{p:Addr}{o:HO}(I:Inv X ρ σ H s)(f:∀b∈fp,hZ X ρ H b)(hp:s.heap.objs.size<=p)
  (k:∀b ob,b∉fp->s.heap.get? b=some ob->h'.get? b=some ob) (th:∀b∈fp,∃ob,h'.get? b=some ob) (new:ObjOk X.prog X.w (upd H p o) h' p o):Inv X ρ σ (upd H p o) { s with heap:=h',toks:=t' }:=by
 have hn:H p=none:=I.hok.fresh hp;have ne:∀b ob,s.heap.get? b=some ob->b≠p:=fun b ob e=>zaw (zag (zal e) hp);have nf:∀b u,H b=some u->b∉fp:=fun b u e z=>by rw[(f b z).1]at e;cases e
 refine I.step (g':=s.gens) (d':=s.drawn) (ch:=fp) (fun b hb=>⟨(f b hb).2.2.2.1,(f b hb).2.1,(f b hb).2.2.2.2.1,(f b hb).2.2.2.2.2⟩) (fun b ob _ _ hc e _=>k b ob hc e) (fun b ob _ _ hc e _=>⟨ob.slots,k b ob hc e⟩)
  (fun b ob _ e n=>by rw[au (ne b ob e)];exact n) (fun b ob hc e=>⟨ob,k b ob hc e⟩) (fun b xs e=>by rw[au (bn e hn)];exact e) (fun b ob u e=>by rw[au (bn e hn)];exact e)
  (fun b ps e=>⟨#[],by rw[au (bn e hn),e];simp⟩) (fun m hm=>?_) (fun b u e=>?_) I.bare
 ·obtain⟨ob,es,ep,ho,r⟩:=hm;exact⟨ob,es,ep,k _ ob (fun z=>(f _ z).2.1 rfl) ho,r⟩
 ·by_cases hb:b=p
  ·subst hb;rw[ax]at e;cases e;exact new
  ·rw[au hb]at e;refine(I.hok b u e).stay (fun c v hc q=>k c v ?_ q) (fun c q=>by rw[au (bn q hn)];exact q) fun c xs q=>by rw[au (bn q hn)];exact q
   rcases hc with z|z
   ·rw[z];exact nf b u e
   ·exact nf c _ z
def Ite(K:zbQ)(a:Addr):It:=
 ⟨fun i H=>∃xs x,SqL K H a xs/\xs[i]?=some x,
  fun i H y H'=>∃p x,y=.ref p/\H p=none/\H'=upd H p (.tup [.int i,x])/\∀xs,SqL K H a xs->xs[i]?=some x,
  fun i H=>∃xs,SqL K H a xs/\xs.length<=i⟩
def uH(a e it:Addr)(hei:e≠it):
  Turn P w K (.Tuple elts k tp) (Ite K a) [e,it] e (fun i h=>(∃old,IsEnum h e it i old)/\h.IsListIter it a i) where
 mem:=by simp
 obj:=fun i h st b hb=>by
  obtain⟨⟨old,he⟩,o,ho,hc,hd⟩:=st;have hb':b=e\/b=it:=by simpa using hb
  rcases hb' with rfl|rfl
  ·exact⟨_,he,fun v z=>by
    have z':Data.fields _=Data.cell v:=z;cases z'⟩
  ·exact⟨o,ho,fun v z=>by rw[hd]at z;cases z⟩
 keep:=fun i h h' st kp=>⟨let⟨old,he⟩:=st.1;⟨old,kp e (by simp) _ he⟩,st.2.at fun o q=>kp it (by simp) o q⟩
 item:=by
  intro X hP hw hK hc i ρ s σ H E I hf st hg;subst hP hw hK;obtain⟨xs,x,hq,hx⟩:=hg;obtain⟨its,rv,p,hz⟩:=I.list hq;obtain⟨u,hu,ru⟩:=rv.get hx;obtain⟨⟨old,he⟩,hit⟩:=st;refine wpAny_pyNext_enum_item he hit p.isList (x:=u) (by simpa using hu) hei fun h1 ho1 hit1 ht1 hz1 hk1=>?_;refine⟨_,rfl,wpAny_letOwnedTupleGo_enum ho1 fun h2 he2 hs2=>?_⟩;have eL:e<s.heap.objs.size:=zal he;have ht2:h2.get? s.heap.objs.size=some { cls:=.type "tuple",data:=.seq #[.int i s.toks,u] }:=(hs2.2 _ (Nat.ne_of_gt eL)).trans ht1;have hit2:h2.IsListIter it a (i+1):=hit1.extBut hs2.extBut hei.symm;have I2:Inv X ρ σ (upd H s.heap.objs.size (.tup [.int i,x])) { s with heap:=h2,toks:=s.toks+1 }:=by
   refine I.turnedLaid (fp:=[e,it]) hf (zav _) (fun b ob hb q=>?_) (fun b hb=>?_) ?_
   ·have h1:b≠e:=fun z=>hb (by simp[z]);have h2':b≠it:=fun z=>hb (by simp[z]);exact(hs2.2 b h1).trans (hk1 b ob h1 h2' q)
   ·have hb':b=e\/b=it:=by simpa using hb
    rcases hb' with rfl|rfl
    ·exact⟨_,he2⟩
    ·obtain⟨o,ho,_⟩:=hit2;exact⟨o,ho⟩
   ·refine⟨(by show 2<=sizeLine;decide),[.int i s.toks,u],.cons ⟨_,rfl⟩ (.cons ru .nil),?_⟩;exact⟨_,ht2,rfl,_,rfl,rfl⟩
  have fr:∀b∈[e,it],upd H s.heap.objs.size (.tup [.int i,x]) b=none:=fun b hb=>by
   have hlt:b<s.heap.objs.size:=by
    have hb':b=e\/b=it:=by simpa using hb
    rcases hb' with rfl|rfl
    ·exact eL
    ·obtain⟨o,ho,_⟩:=hit;exact zal ho
   rw[au (zaw hlt)];exact(hf b hb).1
  exact⟨.ref s.heap.objs.size,_,I2,rfl,⟨_,x,rfl,I.fresh,rfl,fun ys hy=>by rw[I.list_inj hy hq];exact hx⟩,⟨⟨_,he2⟩,hit2⟩,fr⟩
 done:=by
  intro X hP hw hK hc i ρ s σ H E I hf st hg;subst hP hw hK;obtain⟨xs,hq,hx⟩:=hg;obtain⟨its,rv,p,hz⟩:=I.list hq;obtain⟨⟨old,he⟩,hit⟩:=st;obtain⟨f0,f1,f2,f3,f4,f5⟩:=hf it (by simp);have hl:=rv.length;exact wpAny_pyNext_enum_end (I.ok.hd hc) he hit p.isList (by simp;omega) fun h' eb=>⟨rfl,I.turned (t':=s.toks) (fun b o hb q=>eb b o hb q) f0 f1 f3 f4 f5⟩
 self:=fun _ _ _ _ _ st h=>let⟨⟨_,he⟩,_⟩:=st;wpAny_pyIter_enum he h
theorem jL:∀{xs:List V} {us:List Value},Vals xs us->Vals xs.reverse us.reverse
 |_,_,.nil=>.nil
 |_,_,.cons r t=>by
  rw[List.reverse_cons,List.reverse_cons];exact(jL t).append (.cons r .nil)
def Kn(P:Program)(w:World)(K:zbQ)(mg:Str->Option Value)(base:Heap)(k:Nat)(x:Str)(ps:List Str)(sp:Sp):Prop:=
 ∃f fd,FnOk P w K mg base CX0 k f fd ps sp/\mg x=some (.ref f)/\PySem.W.keepIn K (.ref f)=true/\Binds K fd ps []
def Kn.mono{P:Program}{w:World}{K:zbQ}{mg:Str->Option Value}{base:Heap}{j k:Nat}{x:Str}{ps:List Str}{sp:Sp}(G:Kn P w K mg base j x ps sp)(h:j<=k):Kn P w K mg base k x ps sp:=
 let⟨f,fd,a,b,c,d⟩:=G
 ⟨f,fd,a.mono h,b,c,d⟩
section
variable{sp:Sp}{p:Pos}{t:TA}
def sT(G:Kn X.prog X.w X.K X.mg X.base k x ps sp)(hr:Room k X.A)(hg:Gl X x)(ha:PA X (e::es) t)(hdb:(x==("__debug__":Str))=false:=by decide)
  (he:starEach (e::es) X.env=(false,eval e X.env)::starEach es X.env:=by rfl) (hpl:(backTo pos (starEach es X.env)).any (·.1)=false:=by rfl):
  PE X (.Call (.Name x p) (e::es) [] pos) (lU sp [] E0 t):=by
 obtain⟨f,fd,F,hm,hk,hb⟩:=G;exact Bi F hr hg hm hk hb .nil GT ha hdb he hpl
end
def HN(K:zbQ):List V->Hp->VK->Prop:=fun xs H Q=>∃x n,xs=[x]/\Gy K x H n/\Q (.int n) H
def A6(K:zbQ):List V->Hp->VK->Prop:=fun xs H Q=>∃p ys,xs=[.ref p]/\(SqL K H p ys\/SqT K H p ys)/\∀l,H l=none->Q (.ref l) (upd H l (.lst ys))
def Em(K:zbQ):List V->Hp->VK->Prop:=fun xs H Q=>∃p ys,xs=[.ref p]/\((SqL K H p ys/\∀l,H l=none->Q (.ref l) (upd H l (.tup ys)))\/(SqT K H p ys/\Q (.ref p) H))
def HP(K:zbQ):List V->Hp->VK->Prop:=fun xs H Q=>∃(p:Addr) (bs:List Bool),xs=[.ref p]/\SqL K H p (bs.map V.bl)/\Q (.bl (bs.all id)) H
section
def HU(hK:X.K=K):CallR X (.builtin "len") (HN K):=by subst hK;exact xA
def Bs(hK:X.K=K):CallR X (.type "list") (A6 K):=by subst hK;exact qM
def E6(hK:X.K=K):CallR X (.type "tuple") (Em K):=by subst hK;exact oY
def HW(hK:X.K=K)(hc:X.calm=true):CallR X (.builtin "all") (HP K):=by subst hK;exact xC hc
def HV(hK:X.K=K):IxR X (sQ K):=by subst hK;exact ix_list
def HS(hK:X.K=K):SlR X (Ep K):=by subst hK;exact A4
def HR(hK:X.K=K):SlR X (Eo K):=by subst hK;exact Ek
def G5(hK:X.K=K):OpR X (binaryOp .Add) (AA K):=by subst hK;exact Bn
variable{l:Expr}{tl:TE}{t:TGs}{p p2:Pos}
end
def sgn(c:Nat):V:=.str ⟨#[c]⟩
def Its(z:Str):It:=⟨fun i _=>i<z.cps.size,fun i H x H'=>H'=H/\∃c,z.cps[i]?=some c/\x=sgn c,fun i _=>z.cps.size<=i⟩
def wm(it:Addr)(z:Str)(t:Tok)(ty:String)(hty:ty="str_ascii_iterator"\/ty="str_iterator"):
  Turn P w K tg (Its z) [it] it (fun i h=>h.IsStrIter it ty z t i) where
 mem:=by simp
 obj:=fun i h st b hb=>by
  have e:b=it:=by simpa using hb
  subst e;obtain⟨o,e,c,d⟩:=st;exact⟨o,e,fun v q=>by rw[d]at q;cases q⟩
 keep:=fun i h h' st k=>let⟨o,e,r⟩:=st;⟨o,k it (by simp) o e,r⟩
 item:=by
  intro X hP hw hK hc i ρ s σ H E I hf st hg;subst hP hw hK;obtain⟨f0,f1,f2,f3,f4,f5⟩:=hf it (by simp);have W:Walks X.prog X.w X.A it [it] [it] z.cps.size (SignAt z) (fun i h=>h.IsStrIter it ty z t i):=by
   rcases hty with rfl|rfl
   ·exact Walks.strAscii (I.ok.hd hc) it z t
   ·exact Walks.strWide (I.ok.hd hc) it z t
  refine W.item i s _ _ hg st fun v h' tk hv st' kk=>?_;obtain⟨c,u,hcv,rfl⟩:=hv;have I1:Inv X ρ σ H { s with heap:=h',toks:=tk }:=I.turned (fun b o hb e=>kk b o (by simpa using hb) e) f0 f1 f3 f4 f5;obtain⟨o,e,ec,ed⟩:=id st';refine⟨_,rfl,kM (s:={ s with heap:=h',toks:=tk }) (n:=ty) e ec ed (by rcases hty with rfl|rfl<;>decide) ⟨sgn c,H,I1,⟨u,rfl⟩,⟨rfl,c,hcv,rfl⟩,st',fun b hb=>(hf b hb).1⟩⟩
 done:=by
  intro X hP hw hK hc i ρ s σ H E I hf st hg;subst hP hw hK;obtain⟨f0,f1,f2,f3,f4,f5⟩:=hf it (by simp);have hle:z.cps.size<=i:=hg;rcases hty with rfl|rfl
  ·exact wpAny_pyNext_ascii_end (I.ok.hd hc) st (by simpa using hle) fun h' he=>⟨rfl,I.turned (t':=s.toks) (fun b o hb e=>he b o hb e) f0 f1 f3 f4 f5⟩
  ·exact wpAny_pyNext_wide_end (I.ok.hd hc) st (by simpa using hle) fun h' he=>⟨rfl,I.turned (t':=s.toks) (fun b o hb e=>he b o hb e) f0 f1 f3 f4 f5⟩
 self:=fun A i s Q E st h=>by
  rcases hty with rfl|rfl
  ·exact wpAny_pyIter_striter_ascii st h
  ·exact wpAny_pyIter_striter_wide st h
def di(z:Str):List V:=z.cps.toList.map sgn
theorem k7:∀{xs:List V} {us:List Value},xs.length=us.length->(∀(i:Nat) x u,xs[i]?=some x->us[i]?=some u->RelV x u)->Vals xs us
 |[],[],_,_=>.nil
 |[],_::_,h,_=>by cases h
 |_::_,[],h,_=>by cases h
 |x::xs,u::us,h,f=>.cons (f 0 x u rfl rfl) (k7 (Nat.succ.inj h) fun i y v a b=>f (i+1) y v (by simpa using a) (by simpa using b))
def nI(hc:X.calm=true):CallR X (.type "list") (fun xs H Q=>∃z,xs=[.str z]/\z.cps.size<=sizeLine/\∀l,H l=none->Q (.ref l) (upd H l (.lst (di z)))):=by
 intro ρ s σ H xs us Q I r h;obtain⟨z,rfl,hz,q⟩:=h;obtain⟨u,rfl,t,rfl⟩:=kG r;refine call_list_str (I.ok.hd hc) z t (fun h' tk acc c' hk ho hi=>?_) hz;have hl:(di z).length=acc.toList.length:=by
  unfold di;rw[zad,zaY,zaY,hi.1]
 have rv:Vals (di z) acc.toList:=k7 hl fun i x v a b=>by
  obtain⟨c,tk',hcv,rfl⟩:=hi.2 i v (by simpa using b);unfold di at a;rw[zao]at a;have e:z.cps.toList[i]?=some c:=by simpa using hcv
  rw[e]at a;cases a;exact⟨_,rfl⟩
 refine⟨.ref s.heap.objs.size,_,I.laid (t':=tk) (o:=.lst (di z)) hk (zav _) ⟨?_,acc.toList,c',rv,by simpa using ho⟩,rfl,q _ I.fresh⟩;unfold di;rw[zad,zaY];exact hz
def Il(xs:List Nat)(lo hi:Option Int):List Nat:=(xs.drop (HT.sIx xs.length 0 lo)).take (HT.sIx xs.length xs.length hi-HT.sIx xs.length 0 lo)
def uQ(n d:Nat)(v:Option Int)(h:d<=n):HT.sIx n d v<=n:=by
 cases v with
 |none=>exact h
 |some i=>
  unfold HT.sIx
  dsimp only
  split<;>omega
def Et(K:zbQ):R2:=fun x y H Q=>∃a b ys,x=.ref a/\y=.ref b/\SqT K H a []/\SqT K H b ys/\Q (.ref b) H
def wD(hK:X.K=K):OpR X (binaryOp .Add) (Et K):=by
 subst hK;intro ρ s σ H x y v u Q I rx ry h;obtain⟨a,b,ys,rfl,rfl,ha,hb,q⟩:=h;cases rx;cases ry;obtain⟨its,r1,p1,_⟩:=I.tuple ha;obtain⟨ν,r2,p2,_⟩:=I.tuple hb;cases r1;obtain⟨⟨cls,dd,data,sl⟩,ho,hc,n,hd⟩:=id p1;obtain⟨⟨cls2,dd2,data2,sl2⟩,ho2,hc2,n2,hd2⟩:=id p2;simp only at hc hd hc2 hd2;subst hc hd hc2 hd2;exact concat_meets ⟨_,ho,rfl⟩ ⟨_,ho2,rfl⟩ noFill_tuple_add seq_tuple_add PySem.F.slot_tuple_add PySem.F.entry_tuple_add (PySem.F.args_tuple_add_2 _ _)
  (tuple_addW0 a b _ _ n n2 dd dd2 sl sl2 (by simp)) ⟨ho,ho2,⟨.ref b,H,I,rfl,q⟩⟩
theorem qA{α β:Type}{f g:α->Option β}:∀{l:List α},(∀a∈l,f a=g a)->l.filterMap f=l.filterMap g
 |[],_=>rfl
 |a::l,h=>by
  rw[List.filterMap_cons,List.filterMap_cons,h a zaq,qA fun b hb=>h b (zaj _ hb)]
section
variable{s:Shared}
def rF{t:Tok}{Q:Int×Int×Nat->Shared->Prop}(hs:s.heap.IsSliceOf sl .none .none (.int (-1) t))
  (h:Q ((n:Int)-1,-1,n) s):wpAny (model prog w) A (Builtin.Slice.sliceApplied (.ref sl) (pure (n:Int))) Q E s:=by
 obtain⟨os,hos,hcs,hds⟩:=id hs;unfold Builtin.Slice.sliceApplied Builtin.Slice.sliceFields;refine zam (zam (wpAny_field hos hds (x:=.none) rfl (zam (wpAny_field hos hds (x:=.none) rfl (zam (wpAny_field hos hds (x:=.int (-1) t) rfl (zaT ?_)))))));refine zam (HT.slicePart_ (.int (-1) t) ?_);show wpAny _ _ (if((-1:Int)==0)=true then _ else _) _ _ s;rw[if_neg (by decide)];refine zam (HT.slicePart_ .none (zam (HT.slicePart_ .none (zam (zaT ?_)))));show wpAny _ _ (match Builtin.Slice.sliceAdjust none none (-1) (n:Int)with | (lo,hi)=>pure (lo,(-1:Int),Builtin.Slice.slicePlaces lo hi (-1))) _ _ s;have e:Builtin.Slice.sliceAdjust none none (-1) (n:Int)=((n:Int)-1,-1):=by
  first
   |rfl
   |simp[Builtin.Slice.sliceAdjust]
 rw[e];show wpAny _ _ (pure ((n:Int)-1,(-1:Int),Builtin.Slice.slicePlaces ((n:Int)-1) (-1) (-1))) _ _ s;have e2:Builtin.Slice.slicePlaces ((n:Int)-1) (-1) (-1)=n:=by
  unfold Builtin.Slice.slicePlaces;have h1:¬((-1:Int)>0):=by omega
  simp only[h1,if_false];split
  ·simp
   try omega
  ·omega
 rw[e2];exact zaT h
def kY{t:Addr}{u:Tok}{items:Array Value}{Q:Value->Shared->Prop}(ht:IsTup s.heap t items)(hs:s.heap.IsSliceOf sl .none .none (.int (-1) u))
  (h:Q (.ref s.heap.objs.size) { s with heap:=s.heap.push { cls:=.type "tuple",data:=.seq items.toList.reverse.toArray } })
  (hsz:items.size<=sizeLine):wpAny (model prog w) A (getItem (.ref t) (.ref sl)) Q E s:=by
 have htake:sizeOk (.seq items.toList.reverse.toArray):=by
  show items.toList.reverse.toArray.size<=sizeLine;rw[zai,List.length_reverse,zaY];exact hsz
 obtain⟨os,hos,hcs,hds⟩:=id hs;have hTs:s.TypeIs (.ref sl) "slice":=⟨os,hos,hcs⟩;unfold getItem
 try with_reducible refine zbM ?_
 first|refine zam (zaT ?_)|skip
 refine zam (wpAny_sequenceKey ht.typeIs (by decide) ?_);refine zam (zbx (name:=Str.ofString "__getitem__") ht.typeIs PyProof.Rows.slot_tuple_getitem
  (wpAny_call_entry PyProof.Rows.slot_tuple_getitem ht.typeIs entry_tuple_getitem ?_ (args_tuple_getitem _ _)))
 show wpAny _ _ (Builtin.Tuple.tupleItemsOf (.ref t) >>= _) _ _ s;refine zam (tupleItemsOf_ ht ?_);refine zam (wpAny_typeOf hTs ?_);rw[if_pos (by decide)];refine zam (rF hs ?_);have hno:¬(((items.size:Int)-1==0&&(-1:Int)==1&&items.size==items.size)=true):=by
  intro q;rw[show((-1:Int)==1)=false by decide,zbP,Bool.false_and]at q;cases q
 show wpAny _ _ (if((items.size:Int)-1==0&&(-1:Int)==1&&items.size==items.size)=true then _ else _) _ _ s;have ww:((List.range items.size).filterMap fun(m:Nat)=>items[((items.size:Int)-1+(m:Int)*-1).toNat]?).toArray=items.toList.reverse.toArray:=by
  have e:((List.range items.size).filterMap fun(m:Nat)=>items[((items.size:Int)-1+(m:Int)*-1).toNat]?)=((List.range items.size).map fun k=>items.size-1-k).filterMap (items[·]?):=by
   rw[List.filterMap_map];refine qA fun m hm=>?_
   have:=zbn.mp hm;have e:((items.size:Int)-1+(m:Int)*-1).toNat=items.size-1-m:=by omega
   rw[e];rfl
  rw[e,PySem.W.krv_range,List.filterMap_reverse,PySem.W.krv_all]
 rw[if_neg hno,ww]
 first
  |exact zam (m:=Builtin.Tuple.tupleExact _) (wpAny_newObj_type (zaT ⟨_,rfl,zaT h⟩) htake)
  |exact zam (m:=Builtin.Tuple.tupleExact _) (wpAny_newObj_type (zam (zaT (zaT ⟨_,rfl,zaT h⟩))) htake)
  |exact zam (zam (m:=Builtin.Tuple.tupleExact _) (wpAny_newObj_type (zaT (zaT ⟨_,rfl,zaT h⟩)) htake))
  |exact zam (zam (m:=Builtin.Tuple.tupleExact _) (wpAny_newObj_type (zaT ⟨_,rfl,zaT h⟩) htake))
end
def GE(K:zbQ)(te tk:TE):TE:=fun σ H Q=>te σ H fun x H1=>tk σ H1 fun y H2=>∃a xs,x=.ref a/\y=.int (-1)/\SqT K H2 a xs/\∀p,H2 p=none->Q (.ref p) (upd H2 p (.tup xs.reverse))
def wM{k:Expr}{tk:TE}{p2:Pos}(hK:X.K=K)(he:PE X e te)(hk:PE X k tk):PE X (.Subscript e (.Slice none none (some k) p2) pos) (GE K te tk):=by
 subst hK;intro ρ s σ H Q I h;refine Subscript_ (thn (he ρ s σ H _ I h) fun v s1 ⟨x,H1,I1,r1,q1⟩=>?_);refine wpAny_Slice ?_;rw[evalPart_none];refine zaT (zaT ?_);rw[evalPart_some];refine thn (hk ρ s1 σ H1 _ I1 q1) ?_;rintro vk s3 ⟨y,H3,I3,r3,q3⟩;obtain⟨a,xs,rfl,rfl,hx,q⟩:=q3;obtain⟨t,rfl⟩:=r3;cases r1;have I4:Inv X ρ σ H3 { s3 with heap:=s3.heap.push { cls:=.type "slice",data:=.fields #[.none,.none,.int (-1) t] } }:=I3.kept (t':=s3.toks) fun b ob q=>zaf _ q;obtain⟨its,r,ht,hz⟩:=I4.tuple hx;show wpAny (model X.prog X.w) X.A (subscriptTail e (.Slice none none (some k) p2) (.ref a) (.ref s3.heap.objs.size)) (EP X ρ σ Q) X.xe { s3 with heap:=s3.heap.push { cls:=.type "slice",data:=.fields #[.none,.none,.int (-1) t] } };refine tail_any (ops:=[.ref a,.ref s3.heap.objs.size]) ht.typeIs PyProof.Rows.slot_tuple_getitem.lookup ?_ (by with_unfolding_all rfl);have ξ:=r.length;refine kY ht (Heap.IsSliceOf.new ..) ?_ (by rw[zai]<;>omega);refine⟨.ref _,_,I4.laid (t':=s3.toks) (o:=.tup xs.reverse) (fun b ob q=>zaf _ q) (zav _) ?_,rfl,q _ (I4.hok.fresh (zav _))⟩;exact⟨by rw[List.length_reverse];exact hz,its.reverse,jL r,IsTupN.new _ _⟩
abbrev li(z:Str):List Nat:=z.cps.toList
def mk1(c:Nat):Str:=⟨#[c]⟩
def Sub(x z:List Nat):Prop:=∀c∈x,c∈z
def vf(z y:Str):Bool:=!(Builtin.Str.occurrences z y 0 z.length 1).isEmpty
section
open PySem.SeqAt
end
theorem dM:∀(names:List (Str×NameKind)) (n:Nat) (acc:List (Str×Addr)),cellsFrom n names acc=cellsFrom n names []++acc
 |[],_,_=>rfl
 | (x,k)::r,n,acc=>by
  unfold cellsFrom;split
  ·rw[dM r (n+1) ((x,n)::acc),dM r (n+1) [(x,n)],List.append_assoc];rfl
  ·exact dM r n acc
theorem fY:∀(names:List (Str×NameKind)) (n:Nat) (acc:List (Str×Addr)) {x:Str} {c:Addr},(x,c)∈cellsFrom n names acc->(x,c)∈acc\/(x,NameKind.cell)∈names
 |[],_,_,_,_,h=>.inl h
 | (y,k)::r,n,acc,x,c,h=>by
  unfold cellsFrom at h;split at h
  ·rename_i hk;rcases fY r _ _ h with h|h
   ·rcases zay.mp h with e|e
    ·have hk':k=.cell:=by simpa using hk
     have e':=(Prod.mk.inj e).1;rw[e',<-hk'];exact .inr zaq
    ·exact .inl e
   ·exact .inr (zaj _ h)
  ·rcases fY r _ _ h with h|h
   ·exact .inl h
   ·exact .inr (zaj _ h)
theorem fA:∀(names:List (Str×NameKind)) (n:Nat) (acc:List (Str×Addr)) {p:Str×Addr},p∈acc->p∈cellsFrom n names acc
 |[],_,_,_,h=>h
 | (y,k)::r,n,acc,p,h=>by
  unfold cellsFrom;split
  ·exact fA r _ _ (zaj _ h)
  ·exact fA r _ _ h
theorem fZ:∀(names:List (Str×NameKind)) (n:Nat) (acc:List (Str×Addr)) {x:Str},(x,NameKind.cell)∈names->∃c,(x,c)∈cellsFrom n names acc
 |[],_,_,_,h=>by simp at h
 | (y,k)::r,n,acc,x,h=>by
  unfold cellsFrom;rcases zay.mp h with e|e
  ·cases e;rw[if_pos (by rfl)];exact⟨n,fA r _ _ zaq⟩
  ·split
   ·exact fZ r _ _ e
   ·exact fZ r _ _ e
theorem qi{α:Type}:∀{a b:List (Str×α)} {x:Str} {c:α},(a++b).lookup x=some c->a.lookup x=some c\/(a.lookup x=none/\b.lookup x=some c)
 |[],_,_,_,h=>.inr ⟨rfl,h⟩
 | (n,v)::r,b,x,c,h=>by
  rw[List.cons_append,zas]at h;rw[zas];cases e:x==n with
  |true=>rw[e]at h;exact .inl h
  |false=>rw[e]at h;exact qi h
theorem jV{α:Type}:∀{a b:List (Str×α)} {x:Str} {c:α},a.lookup x=some c->(a++b).lookup x=some c
 |[],_,_,_,h=>by simp at h
 | (n,v)::r,b,x,c,h=>by
  rw[List.cons_append,zas];rw[zas]at h;cases e:x==n with
  |true=>rw[e]at h;exact h
  |false=>rw[e]at h;exact jV h
theorem jh{α:Type}:∀{a b:List (Str×α)} {x:Str} {c:α},a.lookup x=none->b.lookup x=some c->(a++b).lookup x=some c
 |[],_,_,_,_,h=>h
 | (n,v)::r,b,x,c,hn,h=>by
  rw[List.cons_append,zas];rw[zas]at hn;cases e:x==n with
  |true=>rw[e]at hn;cases hn
  |false=>rw[e]at hn;exact jh hn h
abbrev aE(X:Cx)(scope:Scope)(ns:List Str)(C:Addr)(cl:List (Str×Addr))(s₀:Shared)(H₀:Hp)(fp:List Addr):Cx:=
 { X with N:=ns,s₀:=s₀,H₀:=H₀,env:=compEnvC scope cl C X.env,outer:=X.stack,ex:=fp,fn:=fun x=>scope.names.lookup x==some NameKind.cell,pn:=[],xe:=fun _ _=>False }
structure BlkOkC(X:Cx)(scope:Scope)(ns:List Str)(js:List (Option Nat)):Prop where
 kind:scope.kind=.function
 uniq:∀y∈scope.names,y.2=.cell->scope.names.lookup y.1=some .cell
 names:∀y∈scope.names,y.2=.local->scope.names.lookup y.1=some .local
 free:∀y∈scope.names,y.2=.free->X.env.kindOf y.1=some .cell\/X.env.kindOf y.1=some .free
 nd:ns.Nodup
 len:js.length=ns.length
 out:∀(i:Nat) (x:Str) (j:Nat),ns[i]?=some x->js[i]?=some (some j)->X.N[j]?=some x/\scope.names.lookup x=some .free
def sn(N:List Str)(sc scope:Scope)(ns:List Str)(js:List (Option Nat)):Bool:=
 decide (scope.kind=.function)&&scope.names.all (fun y=>decide (y.2=.cell->scope.names.lookup y.1=some .cell))&&scope.names.all (fun y=>decide (y.2=.local->scope.names.lookup y.1=some .local)) &&
 scope.names.all (fun y=>decide (y.2=.free->sc.names.lookup y.1=some .cell\/sc.names.lookup y.1=some .free))&&decide ns.Nodup&&decide (js.length=ns.length) &&
 (List.range ns.length).all (fun i=>match js[i]?,ns[i]? with
  |some (some j),some x=>decide (N[j]?=some x)&&decide (scope.names.lookup x=some .free)
  |_,_=>true)
def Cg(h7:∀i<ns.length,(match js[i]?,ns[i]? with
  |some (some j),some x=>decide (N[j]?=some x)&&decide (scope.names.lookup x=some .free)
  |_,_=>true)=true)(e1:ns[i]?=some x)(e2:js[i]?=some (some j)):N[j]?=some x/\scope.names.lookup x=some .free:=by
 have q:=h7 i (zah.mp e1).1;rw[e1,e2]at q;simpa using q
def BlkOkC.of{N0:List Str}{sc0:Scope}(hN:X.N=N0)(hS:X.env.scope=sc0)(h:sn N0 sc0 scope ns js=true):BlkOkC X scope ns js:=by
 unfold sn at h;simp only[zbj,List.all_eq_true,decide_eq_true_eq,zbn]at h;obtain⟨⟨⟨⟨⟨⟨h1,h2⟩,h3⟩,h4⟩,h5⟩,h6⟩,h7⟩:=h;refine⟨h1,fun y hy=>h2 y hy,fun y hy=>h3 y hy,fun y hy hk=>?_,h5,h6,fun i x j e1 e2=>?_⟩
 ·have q:=h4 y hy hk;rw[<-hS]at q;exact q
 ·rw[hN];exact Cg h7 e1 e2
section
variable{s:Shared}
def ie{globals:Addr}{closure:List (Str×Addr)}{qual:Str}{outer:Env}{builtins:Addr}{Q:Env->Shared->Prop}
  (hQ:Q (newEnv scope s.heap.objs.size globals (cellsFrom (s.heap.objs.size+1) scope.names closure) qual none .none (some outer) builtins) { s with heap:=pushCells (s.heap.push { cls:=.type "dict",data:=.dict #[] }) scope.names }):
  wpAny M A (newFunctionEnv scope globals closure [] qual none .none (some outer) builtins) Q E s:=by
 simp only[newFunctionEnv,Option.isSome_some,if_true];refine zam (wpAny_alloc ?_);refine zam (wpAny_layCells _ (fun name kind cells=>by cases hkc:kind==NameKind.cell<;>simp[hkc]) _ _ _ _ ?_);rw[show({ s with heap:=s.heap.push { cls:=.type "dict",data:=.dict #[] } }:Shared).heap.objs.size=s.heap.objs.size+1 from zbr ..];rw[List.forIn_nil];exact zam (zaT (zaT hQ))
end
section
variable{wi:TI}{g:TG}{tt:TT} 
def xD{s3:Shared}{H3:Hp}{h₁:Heap}{tk:Nat}(B:BlkOkC X scope ns js)(I3:Inv X ρ σ H3 s3)
  (f3:∀b∈fp,hZ X ρ H3 b) (lt3:∀b∈fp,b<s3.heap.objs.size) (hns:h₁.Ns s3.heap.objs.size (fun _=>none)) (old:∀b u,s3.heap.get? b=some u->h₁.get? b=some u)
  (cok:CellsOk h₁ (s3.heap.objs.size+1) (cellsFrom (s3.heap.objs.size+1) scope.names [])):
  Inv (aE X scope ns s3.heap.objs.size (cellsFrom (s3.heap.objs.size+1) scope.names (cV X.env scope.names)) s3 H3 fp) [] (dv js σ) H3 { s3 with heap:=h₁,toks:=tk }:=by
 rw[dM];have hmem:∀{x:Str} {c:Addr},(x,c)∈cellsFrom (s3.heap.objs.size+1) scope.names []->scope.names.lookup x=some .cell:=fun {x c} h=>by
  rcases fY _ _ _ h with h|h
  ·simp at h
  ·exact B.uniq _ h rfl
 have hhas:∀{x:Str},scope.names.lookup x=some .cell->∃c,(cellsFrom (s3.heap.objs.size+1) scope.names []).lookup x=some c:=fun {x} h=>by
  obtain⟨c,hc⟩:=fZ scope.names (s3.heap.objs.size+1) [] (zaU h);exact fW hc
 generalize cellsFrom (s3.heap.objs.size+1) scope.names []=CS at cok hmem hhas;have has:∀y∈scope.names,y.2=.free->∃c,X.env.cells.lookup y.1=some c:=fun y hy hk=>I3.ok.has y.1 (B.free y hy hk);have look:∀{n:Str} {c:Addr},(CS++cV X.env scope.names).lookup n=some c->(CS.lookup n=some c/\h₁.IsCell c none/\s3.heap.objs.size+1<=c)\/(CS.lookup n=none/\X.env.cells.lookup n=some c/\c<s3.heap.objs.size):=fun {n c} e=>by
  rcases qi e with e|⟨e1,e2⟩
  ·exact .inl ⟨e,cok.empty n c (zaU e)⟩
  ·have e3:=om has e2;obtain⟨v,hv⟩:=I3.cell n c e3;exact .inr ⟨e1,e3,hv.lt⟩
 refine⟨⟨I3.ok.mod,B.kind,I3.ok.glob,I3.ok.blt,zav _,fun y z c h1 h2=>?_,fun y hy=>?_,fun y c hf h=>?_,I3.ok.hd,I3.ok.frames,.inl rfl,fun b hb=>?_,I3.bs,zau I3.ok.bsz I3.sz,
   fun b o e hb=>?_,fun b hb z=>?_,I3.stack,I3.stkFree⟩,
  rfl,I3.bare,Un.kept old,⟨_,hns,fun i x v h1 h2 h3=>?_⟩,fun y c h=>?_,I3.fresh,fun y c h=>?_,fun p hp=>absurd (show p∈([]:List (Addr×Obj))from hp) (by simp),I3.hok.kept old,?_⟩
 ·rcases look h1 with⟨a1,_,a3⟩|⟨_,a2,a3⟩<;>rcases look h2 with⟨b1,_,b3⟩|⟨_,b2,b3⟩
  ·exact name_of_addr cok.apart (zaU a1) (zaU b1)
  ·exact absurd (zag (zag b3 (Nat.le_succ _)) a3) (zaI _)
  ·exact absurd (zag (zag a3 (Nat.le_succ _)) b3) (zaI _)
  ·exact I3.ok.inj y z c a2 b2
 ·have hf:scope.names.lookup y=some .cell\/scope.names.lookup y=some .free:=by
   rcases hy with hy|hy
   ·rcases jb (env:=X.env) hy with q|q
    ·exact .inl q
    ·exact .inr q.1
   ·rcases jb (env:=X.env) hy with q|q
    ·exact .inr q
    ·exact .inr q.1
  show ∃c,(CS++cV X.env scope.names).lookup y=some c;rcases hf with hf|hf
  ·obtain⟨c,hc⟩:=hhas hf;exact⟨c,jV hc⟩
  ·obtain⟨c,hc⟩:=qJ (env:=X.env) (zaU hf);cases e:CS.lookup y with
   |none=>exact⟨c,jh e hc⟩
   |some d=>exact⟨d,jV e⟩
 ·rcases look h with⟨_,_,a3⟩|⟨a1,_,_⟩
  ·show s3.heap.objs.size<=c;omega
  ·have hf':(scope.names.lookup y==some NameKind.cell)=true:=hf;obtain⟨d,hd⟩:=hhas (by simpa using hf');rw[a1]at hd;cases hd
 ·refine⟨zaw (lt3 b hb),fun x c e=>?_⟩;rcases look e with⟨_,_,a3⟩|⟨_,a2,_⟩
  ·have:=lt3 b hb;intro z;subst z;exact zaI _ (zag (zag this (Nat.le_succ _)) a3)
  ·exact(f3 b hb).2.2.2.2.1 x c a2
 ·rcases(f3 b hb).2.2.2.1 with z|z
  ·exact I3.ok.noex b o e z
  ·exact absurd (zag (zag (zal e) I3.ok.bsz) z) (zaI _)
 ·rcases zay.mp (I3.stkSub b z)with q|q
  ·exact(f3 b hb).2.1 q
  ·exact(f3 b hb).2.2.1 q
 ·have h2':(js.map fun j=>match j with|some j=>(σ[j]?).join|none=>none)[i]?=some (some v):=h2;rw[zao]at h2';obtain⟨j,hj,hσ⟩:∃j,js[i]?=some (some j)/\σ[j]?=some (some v):=by
   cases e:js[i]? with
   |none=>rw[e]at h2';simp at h2'
   |some oj=>
    rw[e]at h2';cases oj with
    |none=>simp at h2'
    |some j=>
     refine⟨j,rfl,?_⟩;have q:(σ[j]?).join=some v:=by simpa using h2'
     cases e2:σ[j]? with
     |none=>rw[e2]at q;simp at q
     |some ov=>
      rw[e2]at q;simp at q;rw[q]
  obtain⟨hN,hfr⟩:=B.out i x j h1 hj;have hf:=B.free (x,.free) (zaU hfr) rfl;have hf':X.env.kindOf x=some .cell\/X.env.kindOf x=some .free:=hf;obtain⟨m,hn,hl⟩:=I3.loc;obtain⟨u,r,l⟩:=hl j x v hN hσ (by
   rcases hf' with z|z
   ·exact .inr (.inl z)
   ·exact .inr (.inr z))
  refine⟨u,r,?_⟩;rcases l with⟨hk,_⟩|⟨hk,c,hc,hcell⟩
  ·rcases hf' with z|z
   ·rw[z]at hk;cases hk
   ·rw[z]at hk;cases hk
  ·obtain⟨c',hc'⟩:=qJ (env:=X.env) (zaU hfr);have e':=om has hc';rw[hc]at e';cases e';obtain⟨o,ho,hd⟩:=hcell;have hno:CS.lookup x=none:=by
    cases e:CS.lookup x with
    |none=>rfl
    |some d=>
     have q:=hmem (zaU e);rw[hfr]at q;cases q
   exact .inr ⟨l4 (env:=X.env) hfr,c,jh hno hc',⟨o,old c o ho,hd⟩⟩
 ·rcases look h with⟨_,a2,_⟩|⟨_,a2,_⟩
  ·exact⟨_,a2⟩
  ·obtain⟨v,o,ho,hd⟩:=I3.cell y c a2;exact⟨v,o,old c o ho,hd⟩
 ·rcases look h with⟨_,_,a3⟩|⟨_,a2,_⟩
  ·exact I3.hok.fresh (by omega)
  ·exact I3.freeC y c a2
 ·show(js.map _).length=ns.length;rw[zad];exact B.len
def qm{s2:Shared}{Qv:VK}{J:It}{it:Addr}{tn:Nat->Heap->Prop}{RR:Value->Addr->Result->Shared->Prop}
  (B:BlkOkC X scope ns js) (hc:X.calm=true) (I2:Inv X ρ σ H2 s2) (T:Turn X.prog X.w X.K tg J fp it tn) (st2:tn 0 s2.heap) (f2:∀b∈fp,hZ X ρ H2 b)
  (hg:∀C cl s₀ H₀ fp,PG (aE X scope ns C cl s₀ H₀ fp) tg g) (ht:∀C cl s₀ H₀ fp,PTs (aE X scope ns C cl s₀ H₀ fp) ifs tt) (he:∀C cl s₀ H₀ fp,PE (aE X scope ns C cl s₀ H₀ fp) elt te)
  (hw:∀D,H2 D=none->tH J g tt te (dv js σ) H2 D Qv)
  (hRR:∀D C s' H',Inv X ρ σ H' s'->Qv (.ref D) H'->(∃m,s'.heap.Ns C m)->H' C=none->C≠X.env.locals->X.s₀.heap.objs.size<=C->(∀x c,X.env.cells.lookup x=some c->c≠C)->(∀p∈X.pn++ρ,p.1≠C)->RR (.ref D) C (.ok .next) s'):
  wpAny (model X.prog X.w) X.A (newList []) (fun acc s₃=>wpAny (model X.prog X.w) X.A (newFunctionEnv scope X.env.globals (cV X.env scope.names) [] X.env.qual none .none (some X.env)) (fun cenv s₄=>
   codeAny (model X.prog X.w) X.A (.compStart (.ListComp elt [⟨tg,iter,ifs,0⟩] scope pos) 0 (.ref it) acc { cenv with scope:=relabel scope X.env }) (RR acc cenv.locals) s₄) X.xe s₃) X.xe s2:=by
 refine wpAny_newObj_type (ie ?_)
 dsimp only
 have I3:Inv X ρ σ (upd H2 s2.heap.objs.size (.lst [])) { s2 with heap:=s2.heap.push { cls:=.type "list",data:=.seq ([]:List Value).toArray },toks:=s2.toks }:=I2.lnew .nil (zbg _);generalize hs3:({ s2 with heap:=s2.heap.push { cls:=.type "list",data:=.seq ([]:List Value).toArray },toks:=s2.toks }:Shared)=s3 at I3;have e3:s3.heap=s2.heap.push { cls:=.type "list",data:=.seq ([]:List Value).toArray }:=by rw[<-hs3]
 have k3:∀b u,s2.heap.get? b=some u->s3.heap.get? b=some u:=fun b u e=>by rw[e3];exact zaf _ e
 have sz3:s3.heap.objs.size=s2.heap.objs.size+1:=by rw[e3,zbr]
 have hD:H2 s2.heap.objs.size=none:=I2.fresh;obtain⟨h₁,hh₁⟩:∃h₁,h₁=pushCells (s3.heap.push { cls:=.type "dict",data:=.dict #[] }) scope.names:=⟨_,rfl⟩;have old:∀b u,s3.heap.get? b=some u->h₁.get? b=some u:=fun b u e=>by
  rw[hh₁];exact pushCells_keeps _ _ b u (zaf _ e)
 have hns:h₁.Ns s3.heap.objs.size (fun _=>none):=by
  rw[hh₁];exact(Heap.Ns.new s3.heap (.type "dict")).keeps (pushCells_keeps _ _)
 have cok:CellsOk h₁ (s3.heap.objs.size+1) (cellsFrom (s3.heap.objs.size+1) scope.names []):=by
  have q:=cellsFrom_ok scope.names (s3.heap.push { cls:=.type "dict",data:=.dict #[] }) (s3.heap.objs.size+1) [] ⟨fun _ _ hm=>(nomatch hm),List.Pairwise.nil⟩ (by rw[zbr];exact zav _);rw[zbr,<-hh₁]at q;exact q
 have obj2:∀b∈fp,b<s2.heap.objs.size:=fun b hb=>let⟨o,e,_⟩:=T.obj 0 _ st2 b hb;zal e;have f3:∀b∈fp,hZ X ρ (upd H2 s2.heap.objs.size (.lst [])) b:=fun b hb=>⟨by rw[au (zaw (obj2 b hb))];exact(f2 b hb).1,(f2 b hb).2⟩;have lt3:∀b∈fp,b<s3.heap.objs.size:=fun b hb=>by rw[sz3];exact Nat.lt_succ_of_lt (obj2 b hb)
 obtain⟨W,⟨m0,w0⟩,turn⟩:=hw _ hD;have J0:=fun tk=>xD (tk:=tk) B I3 f3 lt3 hns old cok;have has:∀y∈scope.names,y.2=.free->∃c,X.env.cells.lookup y.1=some c:=fun y hy hk=>I2.ok.has y.1 (B.free y hy hk);have stat:∀{H':Hp},(∀b∈fp,H' b=none)->∀b∈fp,hZ (aE X scope ns s3.heap.objs.size (cellsFrom (s3.heap.objs.size+1) scope.names (cV X.env scope.names)) s3 (upd H2 s2.heap.objs.size (.lst [])) fp) [] H' b:=fun hn b hb=>
  ⟨hn b hb,zaw (lt3 b hb),(J0 0).ok.exfs b hb,.inl hb,fun x c e=>(J0 0).ok.exf b hb |>.2 x c e,fun p hp=>absurd (show p∈([]:List (Addr×Obj))from hp) (by simp)⟩
 have fin:∀{τ:St} {H':Hp} {s':Shared},Inv (aE X scope ns s3.heap.objs.size (cellsFrom (s3.heap.objs.size+1) scope.names (cV X.env scope.names)) s3 (upd H2 s2.heap.objs.size (.lst [])) fp) [] τ H' s'->Qv (.ref s2.heap.objs.size) H'->RR (.ref s2.heap.objs.size) s3.heap.objs.size (.ok .next) s':=fun {τ H' s'} I6 q=>by
  have u1:Un (frs X.stack) fp H2 (upd H2 s2.heap.objs.size (.lst [])) s2.heap s3.heap:=Un.laid k3 (zav _) hD;have os3:s3.os=s2.os:=by rw[<-hs3]
  have I7:Inv X ρ σ H' s':=I2.call' (ch:=fp) (I6.os.trans os3) (u1.trans I6.base) I6.hok I6.bare fun b hb=>⟨(f2 b hb).2.2.2.1,(f2 b hb).2.1,(f2 b hb).2.2.2.2.1,(f2 b hb).2.2.2.2.2⟩;have le2:s2.heap.objs.size<=s3.heap.objs.size:=by rw[sz3];exact Nat.le_succ _
  refine hRR _ _ s' H' I7 q ?_ I6.free (Nat.ne_of_gt (zag I2.lt le2)) (zau I2.sz le2) (fun x c e z=>?_) fun p hp z=>?_
  ·obtain⟨m,hn,_⟩:=I6.loc;exact⟨m,hn⟩
  ·obtain⟨v,hv⟩:=I2.cell x c e;exact absurd (zag hv.lt (by rw[z];exact le2)) (zaI _)
  ·exact absurd (zag (zal (I2.pin p hp).1) (by rw[z];exact le2)) (zaI _)
 rw[<-e3,<-hh₁];have loop:∀tk,codeAny (model X.prog X.w) X.A (.compLoop (.ListComp elt [⟨tg,iter,ifs,0⟩] scope pos) 0 (.ref it) (.ref s2.heap.objs.size) (compEnvC scope (cellsFrom (s3.heap.objs.size+1) scope.names (cV X.env scope.names)) s3.heap.objs.size X.env))
   (RR (.ref s2.heap.objs.size) s3.heap.objs.size) { s3 with heap:=h₁,toks:=tk }:=fun tk=>by
  refine codeAny_loop rfl (fun n s'=>∃i τ H',Inv (aE X scope ns s3.heap.objs.size (cellsFrom (s3.heap.objs.size+1) scope.names (cV X.env scope.names)) s3 (upd H2 s2.heap.objs.size (.lst [])) fp) [] τ H' s'/\tn i s'.heap/\(∀b∈fp,H' b=none)/\W i n τ H') (fun n s5 hI=>?_) m0
   ⟨0,_,_,J0 tk,T.keep _ _ _ st2 fun b _ o e=>old b o (k3 b o e),fun b hb=>(f3 b hb).1,w0⟩
  obtain⟨i,τ,H5,I5,st5,fr5,w5⟩:=hI;show wpAny _ X.A ((compTurn (.ListComp elt [⟨tg,iter,ifs,0⟩] scope pos) 0 (.ref it) (.ref s2.heap.objs.size) (compEnvC scope (cellsFrom (s3.heap.objs.size+1) scope.names (cV X.env scope.names)) s3.heap.objs.size X.env)).onRaise (fun x=>do noteFrame x (compEnvC scope (cellsFrom (s3.heap.objs.size+1) scope.names (cV X.env scope.names)) s3.heap.objs.size X.env);theTreesLotGoes x)) _ _ s5;refine wpAny_noted ?_;rw[compTurn_list];refine zam (wpAny_standAt (zam ?_));rcases turn i n τ H5 w5 with⟨stop,qn⟩|⟨go,N,hN,step⟩
  ·refine thn (T.done (aE X scope ns s3.heap.objs.size (cellsFrom (s3.heap.objs.size+1) scope.names (cV X.env scope.names)) s3 (upd H2 s2.heap.objs.size (.lst [])) fp) rfl rfl rfl hc i [] s5 τ H5 _ I5 (stat fr5) st5 stop) ?_;rintro r s6 ⟨hr,I6⟩;subst hr;exact zaT (fin I6 qn)
  ·refine thn (T.item (aE X scope ns s3.heap.objs.size (cellsFrom (s3.heap.objs.size+1) scope.names (cV X.env scope.names)) s3 (upd H2 s2.heap.objs.size (.lst [])) fp) rfl rfl rfl hc i [] s5 τ H5 _ I5 (stat fr5) st5 go) ?_;rintro r s6 ⟨u,hr,h6⟩;subst hr
   dsimp only
   refine zam (thn h6 fun _ s7 ⟨x,H7,I7,r7,y7,st7,fr7⟩=>?_);have I7':=I7.pinned (stat fr7) (T.obj _ _ st7);have back:∀{τ9:St} {H9:Hp} {s9:Shared},Inv (aE X scope ns s3.heap.objs.size (cellsFrom (s3.heap.objs.size+1) scope.names (cV X.env scope.names)) s3 (upd H2 s2.heap.objs.size (.lst [])) fp) ([]++jP fp s7.heap) τ9 H9 s9 ->
     Inv (aE X scope ns s3.heap.objs.size (cellsFrom (s3.heap.objs.size+1) scope.names (cV X.env scope.names)) s3 (upd H2 s2.heap.objs.size (.lst [])) fp) [] τ9 H9 s9/\tn (i+1) s9.heap/\∀b∈fp,H9 b=none:=fun {τ9 H9 s9} I9=>by
    refine⟨I9.unpinned,T.keep _ _ _ st7 fun b hb o e=>(I9.pin (b,o) (zbd _ (zbd _ (gq hb e)))).1,fun b hb=>?_⟩;obtain⟨o,e,d⟩:=T.obj _ _ st7 b hb;exact(I9.pin (b,o) (zbd _ (zbd _ (gq hb e)))).2.1
   refine zam (thF (hg _ _ _ _ _ _ s7 τ H7 x u _ I7' r7 (step x H7 y7)) fun _ s8 ⟨τ8,H8,I8,q8⟩=>?_);refine zam (thF (ht _ _ _ _ _ _ s8 τ8 H8 _ I8 q8) fun b s9 ⟨H9,I9,q9⟩=>?_);cases b with
   |false=>
    rw[if_neg zbk]at q9;obtain⟨m',hm,w9⟩:=hN _ _ q9;obtain⟨a1,a2,a3⟩:=back I9;exact zaT ⟨rfl,m',hm,i+1,τ8,H9,a1,a2,a3,w9⟩
   |true=>
    rw[if_pos rfl]at q9;refine zam (zam (thF (he _ _ _ _ _ _ s9 τ8 H9 _ I9 q9) fun v s10 ⟨y,H10,I10,r10,q10⟩=>?_));obtain⟨xs,hx,hz,n10⟩:=q10;obtain⟨m',hm,w10⟩:=hN _ _ n10;refine zam (thF (nY _ s10 τ8 H10 (.ref s2.heap.objs.size) [y] (.ref s2.heap.objs.size) [v] (fun _ H11=>W (i+1) m' τ8 H11) I10 rfl (.cons r10 .nil) ⟨_,xs,y,rfl,rfl,hx,hz,w10⟩) fun _ s11 ⟨_,H11,I11,_,q11⟩=>?_);obtain⟨a1,a2,a3⟩:=back I11;exact zaT (zaT ⟨rfl,m',hm,i+1,τ8,H11,a1,a2,a3,q11⟩)
 have hst1:tn 0 h₁:=T.keep _ _ _ st2 fun b _ o e=>old b o (k3 b o e);subst hs3;exact codeAny_compStart_list (loop _) (T.self _ 0 _ _ _ hst1 (loop _))
def pW(B:BlkOkC X scope ns js)(hc:X.calm=true)(hi:PI X tg iter wi)
  (hg:∀C cl s₀ H₀ fp,PG (aE X scope ns C cl s₀ H₀ fp) tg g) (ht:∀C cl s₀ H₀ fp,PTs (aE X scope ns C cl s₀ H₀ fp) ifs tt) (he:∀C cl s₀ H₀ fp,PE (aE X scope ns C cl s₀ H₀ fp) elt te)
  (hs:∀x,foldedSetIterable iter X.env x=pure x:=by intro _;rfl):PE X (.ListComp elt [⟨tg,iter,ifs,0⟩] scope pos) (tLC wi g tt te js):=by
 intro ρ s σ H Q I h;rw[eval_ListComp];have hclos:=mE (scope:=scope) (env:=X.env) (fun y hy hk=>I.ok.has y.1 (B.free y hy hk));refine wpAny_comprehension_free (use:=none) rfl hs hclos B.kind B.names (thn (hi ρ s σ H _ I h) fun v s1 h1=>thn h1 fun itv s2 h2=>?_);obtain⟨it,fp,tn,J,H2,e,I2,T,st2,f2,hw⟩:=h2;subst e;refine qm (RR:=fun acc C=>compPost (model X.prog X.w) X.A X.xe none (EP X ρ σ Q) acc C) B hc I2 T st2 f2 hg ht he hw ?_;intro D C s' H' I' q hm c0 c1 c2 c3 c4;obtain⟨m,hn⟩:=hm;exact⟨m,hn,fun h' hs'=>⟨.ref D,H',I'.turned (t':=s'.toks) (fun b o hb e=>(hs'.2 b hb).trans e) c0 c1 (.inr c2) c3 c4,rfl,q⟩⟩
def uR(hN:X.N.Nodup)(hi':X.N[i]?=some x)(hx:X.env.scope.names.lookup x=some .local)(B:BlkOkC X scope ns js)(hc:X.calm=true)(hi:PI X tg iter wi)
  (hg:∀C cl s₀ H₀ fp,PG (aE X scope ns C cl s₀ H₀ fp) tg g) (ht:∀C cl s₀ H₀ fp,PTs (aE X scope ns C cl s₀ H₀ fp) ifs tt) (he:∀C cl s₀ H₀ fp,PE (aE X scope ns C cl s₀ H₀ fp) elt te)
  (hsw:swapsWith (.ListComp elt [⟨tg,iter,ifs,0⟩] scope pos) (some (.Name x pos')) ζ.line X.env=pure true:=by rfl)
  (hs:∀x,foldedSetIterable iter X.env x=pure x:=by intro _;rfl):PS X (.Assign [.Name x pos'] (.ListComp elt [⟨tg,iter,ifs,0⟩] scope pos) ζ) (i7 (tLC wi g tt te js) (jl i)):=by
 intro ρ s σ H D I h;rw[exec_Assign_Name_used _ _ _ _ hsw];have hclos:=mE (scope:=scope) (env:=X.env) (fun y hy hk=>I.ok.has y.1 (B.free y hy hk));refine zam (wpAny_standAt (zam ?_));show wpAny _ X.A (do let _ <-comprehension (.ListComp elt [⟨tg,iter,ifs,0⟩] scope pos) scope X.env _ (newList []) false (eval iter X.env) (some (assign (.Name x pos') X.env))) _ _ s;refine zam (wpAny_mono (wpAny_comprehension_free (use:=some (assign (.Name x pos') X.env)) (Q:=fun _ s'=>SP X ρ D .next s') rfl hs hclos B.kind B.names
  (thn (hi ρ s σ H _ I h) fun v s1 h1=>thn h1 fun itv s2 h2=>?_)) (fun _ s' hq=>zaT (zaT hq)) fun _ _ e=>e)
 obtain⟨it,fp,tn,J,H2,e,I2,T,st2,f2,hw⟩:=h2;subst e;refine qm (RR:=fun acc C=>compPost (model X.prog X.w) X.A X.xe (some (assign (.Name x pos') X.env)) (fun _ s'=>SP X ρ D .next s') acc C) B hc I2 T st2 f2 hg ht he hw ?_;intro D' C s' H' I' q hm c0 c1 c2 c3 c4;obtain⟨m,hn⟩:=hm;show wpAny _ X.A (assign (.Name x pos') X.env (.ref D')) _ _ _;refine wpAny_assign_Name (nW (v:=.ref D') I' hN hi' (.inl hx) rfl (fun s4 I4 ⟨a,hsb,ha⟩=>?_) (.inr hx));have ne:C≠a:=by
  rcases ha with z|z
  ·rw[z];exact c1
  ·exact(c3 x a z).symm
 exact⟨m,hn.sameBut hsb ne,fun h' hs'=>⟨_,H',I4.turned (t':=s4.toks) (fun b o hb e=>(hs'.2 b hb).trans e) c0 c1 (.inr c2) c3 c4,q⟩⟩
end
mutual
def DV(H:Hp):V->PyData->Prop
 |v,.none=>v=.non
 |v,.bool b=>v=.bl b
 |v,.int i=>v=.int i
 |v,.str x=>v=.str x
 |v,.list ds=>∃a xs,v=.ref a/\H a=some (.lst xs)/\DVs H xs ds
 |v,.tuple ds=>∃a xs,v=.ref a/\H a=some (.tup xs)/\DVs H xs ds
 |_,.dict _=>False
def DVs(H:Hp):List V->List PyData->Prop
 |vs,[]=>vs=[]
 |vs,d::ds=>∃v r,vs=v::r/\DV H v d/\DVs H r ds
end
section
variable{s:Shared}
def sF{vals:Array Value}{y:Value}{R:Value->Shared->Prop}(a1:s.heap.IsTupleIter jt tu n)(a2:s.heap.IsTuple tu vals)(a3:vals[n]?=some y)
  (q:∀g,g.IsTupleIter jt tu (n+1)->Heap.SameBut jt s.heap g->R y { s with heap:=g }):wpAny (model prog w) A (Builtin.SmallTypes.nextOf (.ref jt)) R E s:=by
 obtain⟨ob,b1,b2,b3⟩:=id a1;obtain⟨ot,c1,_,m,c2⟩:=a2;unfold Builtin.SmallTypes.nextOf;refine zam (zbx (name:=Str.ofString "__next__") a1.typeIs F.slot_tuple_iterator_next (wpAny_call_entry F.slot_tuple_iterator_next a1.typeIs F.entry_tuple_iterator_next ?_ (F.args_tuple_iterator_next_1 _)));show wpAny _ _ (field (.ref jt) 0 >>= _) _ _ s;refine zam (wpAny_field b1 b3 (x:=.ref tu) rfl ?_);show wpAny _ _ (if(Value.ref tu==Value.none)=true then _ else _) _ _ s;rw[if_neg (show ¬((Value.ref tu==Value.none)=true)from zbk)];show wpAny _ _ (field (.ref jt) 1 >>= _) _ _ s;refine zam (wpAny_field b1 b3 (x:=.int n 0) rfl ?_);show wpAny _ _ (seqItems? (.ref tu) >>= _) _ _ s;refine zam (wpAny_seqItems c1 c2 ?_);simp only[zaL,a3];refine zam (wpAny_setField b1 b3 (by simp) (zaT ⟨y,rfl,zaT (q _ ?_ (Heap.SameBut.update ..))⟩));refine⟨_,Heap.get?_update_self _ b1 (Obj.isFreed_of_fields (Obj.data_mapFields b3 _)),(Obj.cls_mapFields ..).trans b2,?_⟩;rw[Obj.data_mapFields b3];simp[rawInt]
def nV{vals:Array Value}{R:Value->Shared->Prop}(hh:A.handled=none)(a1:s.heap.IsTupleIter jt tu n)(a2:s.heap.IsTuple tu vals)(a3:vals[n]?=none)
  (q:∀g e,Heap.ExtBut jt s.heap g->(∃o,g.get? e=some o/\o.cls=.type "StopIteration")->E (.ref e) { s with heap:=g }):wpAny (model prog w) A (Builtin.SmallTypes.nextOf (.ref jt)) R E s:=by
 obtain⟨ob,b1,b2,b3⟩:=id a1;obtain⟨ot,c1,_,m,c2⟩:=a2;unfold Builtin.SmallTypes.nextOf;refine zam (zbx (name:=Str.ofString "__next__") a1.typeIs F.slot_tuple_iterator_next (wpAny_call_entry F.slot_tuple_iterator_next a1.typeIs F.entry_tuple_iterator_next ?_ (F.args_tuple_iterator_next_1 _)));show wpAny _ _ (field (.ref jt) 0 >>= _) _ _ s;refine zam (wpAny_field b1 b3 (x:=.ref tu) rfl ?_);show wpAny _ _ (if(Value.ref tu==Value.none)=true then _ else _) _ _ s;rw[if_neg (show ¬((Value.ref tu==Value.none)=true)from zbk)];show wpAny _ _ (field (.ref jt) 1 >>= _) _ _ s;refine zam (wpAny_field b1 b3 (x:=.int n 0) rfl ?_);show wpAny _ _ (seqItems? (.ref tu) >>= _) _ _ s;refine zam (wpAny_seqItems c1 c2 ?_);simp only[zaL,a3];refine zam (wpAny_rule (zam (wpAny_setField b1 b3 (by simp) ?_)));show wpAny _ _ (newExc (.type "StopIteration") [] >>= _) _ _ _;refine zam ?_;simp only[newExc,newTuple];refine zam (wpAny_newObj_type ?_ (by show(0:Nat)<=_;exact zbg _));refine zam (m:=firstArgMember _ _) (wpAny_of_eq (a:=Value.none) (by first|rfl | (simp only[firstArgMember];rfl)) ?_);refine wpAny_newObj_type ?_;simp only[raiseNew];refine zam (wpAny_handled ?_)
 first|rw[show A.in1.handled=none from hh]|rw[hh]
 refine zam (zaT (wpAny_throw ?_));exact q _ _ (((Heap.SameBut.update ..).extBut.push _).push _) ⟨_,zan _ rfl,rfl⟩
def vM(hh:A.handled=none)(jt tu:Addr)(hne:tu≠jt)(vals:Array Value):Draws prog w A jt [jt,tu] vals.size (fun i v=>vals[i]?=some v) (fun i h=>h.IsTupleIter jt tu i/\h.IsTuple tu vals) where
 live:=fun _ _ st=>let⟨o,ho,_⟩:=st.1;⟨o,ho⟩
 frame:=fun _ _ _ st hk=>⟨st.1.at fun o e=>hk jt (by simp) o e,let⟨o,ho,r⟩:=st.2;⟨o,hk tu (by simp) o ho,r⟩⟩
 item:=fun i s Q E hi st hQ=>by
  refine sF st.1 st.2 (y:=vals[i]) (by simp[hi]) fun g st' sb=>?_;exact hQ _ g s.toks (by simp[hi]) ⟨st',let⟨o,ho,r⟩:=st.2;⟨o,sb.extBut _ _ hne ho,r⟩⟩ sb
 done:=fun s Q E st hE=>nV hh st.1 st.2 (by simp) hE
end
def nq(tu:Addr)(vals:Array Value)(n:Nat)(dct:Option Addr)(sl:Array (Option Value)):
  Meets (Builtin.«enumerate.__new__» ⟨[.type "enumerate",.ref tu],[]⟩) (fun _ R s=>s.heap.get? tu=some { cls:=.type "tuple",dict:=dct,data:=.seq vals n,slots:=sl } /\
   R (.ok (.ret (.ref (s.heap.push { cls:=.type "tuple_iterator",data:=.fields #[.ref tu,.int 0 0] }).objs.size)))
    { s with heap:=(s.heap.push { cls:=.type "tuple_iterator",data:=.fields #[.ref tu,.int 0 0] }).push { cls:=.type "enumerate",data:=.fields #[.none,.bool false,.ref s.heap.objs.size,rawInt 0,.none,.none] } }):=
 .of_wp fun prog w A R s h=>by
  obtain⟨hp,g,d,tk,os⟩:=s;obtain⟨ht,h⟩:=h;have hsub:=sub_enumerate;have hT:Heap.IsTuple (Shared.heap ⟨hp,g,d,tk,os⟩) tu vals:=⟨_,ht,rfl,n,rfl⟩
  wp_walk using AutoSeq1.wpAny_loadPart' ht
  refine wpAny_stack_any fun st=>zaT ?_;split
  ·rename_i c _ _ _ _ _;cases(c==Value.type "enumerate")
   ·wp_walk using AutoSeq1.wpAny_loadPart' ht,wpAny_pyIter_tuple hT
    exact⟨_,rfl,h⟩
   ·wp_walk using AutoSeq1.wpAny_loadPart' ht,wpAny_pyIter_tuple hT
    exact⟨_,rfl,h⟩
  ·wp_walk using AutoSeq1.wpAny_loadPart' ht,wpAny_pyIter_tuple hT
   exact⟨_,rfl,h⟩
section
variable{s:Shared}
def oZ{vals:Array Value}{Q:Value->Shared->Prop}(hT:s.heap.IsTuple tu vals)
  (h:∀g,IsEnum g (s.heap.objs.size+1) s.heap.objs.size 0 .none->g.IsTupleIter s.heap.objs.size tu 0->g.objs.size=s.heap.objs.size+2 ->
   (∀b o,s.heap.get? b=some o->g.get? b=some o)->Q (.ref (s.heap.objs.size+1)) { s with heap:=g }):
  wpAny (model prog w) A (call (.type "enumerate") [.ref tu]) Q E s:=by
 obtain⟨⟨c,dct,dt,sl⟩,hl,hc,n,hd⟩:=hT;have hc':c=.type "tuple":=hc;have hd':dt=.seq vals n:=hd;subst hc' hd';refine callType_new F.called_enumerate (by decide) (F.typeCall_enumerate_1 _) (F.newCall_enumerate_1 _) (fun ob=>F.args_object_init_2 ob _) F.entry_enumerate_new (nq tu vals n dct sl) ⟨hl,?_⟩;have sz1:(s.heap.push { cls:=.type "tuple_iterator",data:=.fields #[.ref tu,.int 0 0] }).objs.size=s.heap.objs.size+1:=zbr ..;show _/\_;rw[sz1];have g2:=zan (s.heap.push { cls:=.type "tuple_iterator",data:=.fields #[.ref tu,.int 0 0] }) (o:={ cls:=.type "enumerate",data:=.fields #[.none,.bool false,.ref s.heap.objs.size,rawInt 0,.none,.none] }) rfl;rw[sz1]at g2;refine⟨⟨_,g2,rfl⟩,h _ g2 ⟨_,zaf _ (zan _ rfl),rfl,rfl⟩ (by rw[zbr,sz1]) fun b o x=>zaf _ (zaf _ x)⟩
def vL{e it:Addr}{i:Int}{vals:Array Value}{old:Value}{Q:Option Value->Shared->Prop}(hh:A.handled=none)(he:IsEnum s.heap e it i old)(a1:s.heap.IsTupleIter it tu n)(a2:s.heap.IsTuple tu vals)(a3:vals[n]?=none)
  (q:∀g,Heap.ExtBut it s.heap g->Q none { s with heap:=g }):wpAny (model prog w) A (pyNext (.ref e)) Q E s:=by
 have ty:s.TypeIs (.ref e) "enumerate":=⟨_,he,rfl⟩;unfold pyNext;refine zam (wpAny_attempt (zbx (name:=Str.ofString "__next__") ty F.slot_enumerate_next (wpAny_call_entry F.slot_enumerate_next ty F.entry_enumerate_next ?_ (F.args_enumerate_next_1 _))));show wpAny _ _ (field (.ref e) 2 >>= _) _ _ _;refine zam (wpAny_field he rfl (x:=.ref it) rfl ?_);refine zam (nV hh a1 a2 a3 fun g x k hx=>?_);obtain⟨o,ho,hc⟩:=hx;exact zam (wpAny_isInstance (T:="StopIteration") (b:=true) ⟨o,ho,hc⟩ isSubtype_stop (zaT (q _ k)))
end
def ItT(K:zbQ)(a:Addr):It:=
 ⟨fun i H=>∃xs x,SqT K H a xs/\xs[i]?=some x,
  fun i H y H'=>∃p x,y=.ref p/\H p=none/\H'=upd H p (.tup [.int i,x])/\∀xs,SqT K H a xs->xs[i]?=some x,
  fun i H=>∃xs,SqT K H a xs/\xs.length<=i⟩
def sD(a e it:Addr)(hei:e≠it)(hai:a≠it):
  Turn P w K (.Tuple elts k tp) (ItT K a) [e,it] e (fun i h=>(∃old,IsEnum h e it i old)/\h.IsTupleIter it a i) where
 mem:=by simp
 obj:=fun i h st b hb=>by
  obtain⟨⟨old,he⟩,o,ho,hc,hd⟩:=st;have hb':b=e\/b=it:=by simpa using hb
  rcases hb' with rfl|rfl
  ·exact⟨_,he,fun v z=>by
    have z':Data.fields _=Data.cell v:=z;cases z'⟩
  ·exact⟨o,ho,fun v z=>by rw[hd]at z;cases z⟩
 keep:=fun i h h' st kp=>⟨let⟨old,he⟩:=st.1;⟨old,kp e (by simp) _ he⟩,st.2.at fun o q=>kp it (by simp) o q⟩
 item:=by
  intro X hP hw hK hc i ρ s σ H E I hf st hg;subst hP hw hK;obtain⟨xs,x,hq,hx⟩:=hg;obtain⟨its,rv,pt,hz⟩:=I.tuple hq;obtain⟨u,hu,ru⟩:=rv.get hx;obtain⟨⟨old,he⟩,hit⟩:=st;have hT:s.heap.IsTuple a its.toArray:=pt;have hea:e≠a:=fun z=>by
   subst z;obtain⟨o,e1,e2,_⟩:=id hT;have he':s.heap.get? e=some _:=he;rw[e1]at he';cases he';simp at e2
  have hu':its.toArray[i]?=some u:=by simpa using hu
  have hlt:i<its.toArray.size:=(Array.getElem?_eq_some_iff.mp hu').1;refine wpAny_pyNext_enum_itemD (vM (A:=X.A.in1) (show X.A.in1.handled=none from I.ok.hd hc) it a hai its.toArray) he ⟨hit,hT⟩ hlt hei (by simp[hei,hea]) fun y h1 tk hy ho1 st1 ht1 hz1 hk1=>?_;rw[hu']at hy;cases hy;refine⟨_,rfl,wpAny_letOwnedTupleGo_enum ho1 fun h2 he2 hs2=>?_⟩;have eL:e<s.heap.objs.size:=zal he;have ht2:h2.get? s.heap.objs.size=some { cls:=.type "tuple",data:=.seq #[.int i tk,u] }:=(hs2.2 _ (Nat.ne_of_gt eL)).trans ht1;have hit2:h2.IsTupleIter it a (i+1):=st1.1.at fun o q=>hs2.extBut _ _ hei.symm q;have I2:Inv X ρ σ (upd H s.heap.objs.size (.tup [.int i,x])) { s with heap:=h2,toks:=tk+1 }:=by
   refine I.turnedLaid (fp:=[e,it]) hf (zav _) (fun b ob hb q=>?_) (fun b hb=>?_) ?_
   ·have h1:b≠e:=fun z=>hb (by simp[z]);have h2':b≠it:=fun z=>hb (by simp[z]);exact(hs2.2 b h1).trans (hk1 b ob h1 h2' q)
   ·have hb':b=e\/b=it:=by simpa using hb
    rcases hb' with rfl|rfl
    ·exact⟨_,he2⟩
    ·obtain⟨o,ho,_⟩:=hit2;exact⟨o,ho⟩
   ·refine⟨(by show 2<=sizeLine;decide),[.int i tk,u],.cons ⟨_,rfl⟩ (.cons ru .nil),?_⟩;exact⟨_,ht2,rfl,_,rfl,rfl⟩
  have fr:∀b∈[e,it],upd H s.heap.objs.size (.tup [.int i,x]) b=none:=fun b hb=>by
   have hlt:b<s.heap.objs.size:=by
    have hb':b=e\/b=it:=by simpa using hb
    rcases hb' with rfl|rfl
    ·exact eL
    ·obtain⟨o,ho,_⟩:=hit;exact zal ho
   rw[au (zaw hlt)];exact(hf b hb).1
  exact⟨.ref s.heap.objs.size,_,I2,rfl,⟨_,x,rfl,I.fresh,rfl,fun ys hy=>by rw[I.tuple_inj hy hq];exact hx⟩,⟨⟨_,he2⟩,hit2⟩,fr⟩
 done:=by
  intro X hP hw hK hc i ρ s σ H E I hf st hg;subst hP hw hK;obtain⟨xs,hq,hx⟩:=hg;obtain⟨its,rv,pt,hz⟩:=I.tuple hq;obtain⟨⟨old,he⟩,hit⟩:=st;obtain⟨f0,f1,f2,f3,f4,f5⟩:=hf it (by simp);have hl:=rv.length;have hT:s.heap.IsTuple a its.toArray:=pt;exact vL (I.ok.hd hc) he hit hT (by simp;omega) fun h' eb=>⟨rfl,I.turned (t':=s.toks) (fun b o hb q=>eb b o hb q) f0 f1 f3 f4 f5⟩
 self:=fun _ _ _ _ _ st h=>let⟨⟨_,he⟩,_⟩:=st;wpAny_pyIter_enum he h
section
open PySem.SeqAt
end
def Rp(H:Hp)(v:V)(txt:Str):Prop:=(∃d,DV H v d/\d.showable=true/\d.depth<=60/\d.shown.length<=sizeLine/\txt=d.shown)\/∃a,v=.ref a/\Rd H a (.dK [])/\txt=("{}":Str)
abbrev D:=PyData
variable{t t1 t2:D}{ks:List (D×D)}{g g':D->D->Option D}{ts us:List D}
abbrev En:=List (Option D)
variable{en en' en1 en2:En}
abbrev AS:=Addr->Prop
variable{R R' R1:Nat->AS}{O O' G F2 Ox Ox' F1 F0 F' O1:AS}
def dn:Nat->Nat
 |0=>0
 |1=>0
 |2=>1
 |n+3=>n+3
def Ce:∀{a b:Nat},a<=b->dn a<=dn b
 |0,_,_=>zbg _
 |1,_,_=>zbg _
 |2,2,_=>zav _
 |2,b+3,_=>by show 1<=b+3;omega
 |a+3,b+3,h=>h
 |a+3,0,h=>by omega
 |a+3,1,h=>by omega
 |a+3,2,h=>by omega
 |2,0,h=>by omega
 |2,1,h=>by omega
def kD:Key->D
 |.inl i=>.int i
 |.inr x=>.str x
def FzL(K:zbQ)(O:AS)(H:Hp)(a:Addr)(vs:List V):Prop:=(Rd H a (.lst vs)/\¬O a)\/∀H',SqL K H' a vs
def FzT(K:zbQ)(O:AS)(H:Hp)(a:Addr)(vs:List V):Prop:=H a=some (.tup vs)/\¬O a
def FzL.sq(h:FzL K O H a vs):SqL K H a vs:=h.elim (fun h=>.inl h.1) fun h=>h H
def FzT.sq(h:FzT K O H a vs):SqT K H a vs:=SqT.of h.1
def Gh(a C:Addr):Heap->Prop:=fun h=>∃o,h.get? a=some o/\o.cls=.ref C/\∀c,o.data≠.cls c
def oD:Option Key->D
 |none=>.none
 |some k=>kD k
def scaD:D->Bool
 |.none=>true
 |.bool _=>true
 |.int _=>true
 |.str _=>true
 |_=>false
def dV:D->V
 |.bool b=>.bl b
 |.int i=>.int i
 |.str x=>.str x
 |_=>.non
abbrev TKs:=List (List (Option Key)×D)
def tkD(q:List (Option Key)×D):D×D:=(.tuple (q.1.map oD),q.2)
def tkL(kvs:TKs):List (D×D):=(.none,.none)::kvs.map tkD
def tkV(q:List (Option Key)×D):List (Option Key)×V:=(q.1,dV q.2)
def PrD(O:AS)(H:Hp)(rd:HO->Prop)(ks:List (D×D)):Prop:=∃(kvs:TKs) (ad:Addr->Prop),(kvs.all fun q=>scaD q.2)=true/\ks=tkL kvs/\rd (.dT (kvs.map tkV) ad)/\∀b,ad b->¬O b/\∃vs,H b=some (.tup vs)
def TupD(K:zbQ)(H:Hp)(O:AS)(ks:List (D×D))(a:Addr):Prop:=(PrD O H (Rd H a) ks/\¬O a) \/
 ∃(x:Str) (C:Addr),ks=[(.none,.str x)]/\PySem.W.nsIn K mainGlobals x=some (some (.ref C))/\H a=some (.ext (Gh a C))/\¬O a
def PrD.to(h:PrD O H rd ks)(k0:∀kvs ad,rd (.dT kvs ad)->rd' (.dT kvs ad))(k:∀b o,H b=some o->¬O b->H' b=some o/\¬O' b):PrD O' H' rd' ks:=by
 obtain⟨kvs,ad,h2,h3,h4,h5⟩:=h;refine⟨kvs,ad,h2,h3,k0 _ _ h4,fun b z=>?_⟩;obtain⟨g1,vs,g2⟩:=h5 b z;exact⟨(k b _ g2 g1).2,vs,(k b _ g2 g1).1⟩
def PrD.toT(h:PrD O H rd ks)(k0:∀kvs ad,rd (.dT kvs ad)->rd' (.dT kvs ad))(k:∀b vs,H b=some (.tup vs)->H' b=some (.tup vs)):PrD O H' rd' ks:=by
 obtain⟨kvs,ad,h2,h3,h4,h5⟩:=h;exact⟨kvs,ad,h2,h3,k0 _ _ h4,fun b z=>⟨(h5 b z).1,(h5 b z).2.imp fun vs q=>k b vs q⟩⟩
def TupD.to{K:zbQ}{H H':Hp}{O O':AS}{ks:List (D×D)}{a:Addr}(h:TupD K H O ks a)(k:∀b o,H b=some o->¬O b->H' b=some o/\¬O' b):TupD K H' O' ks a:=by
 rcases h with⟨h2,h3⟩|⟨x,C,h1,h0,h2,h3⟩
 ·refine .inl ⟨h2.to (fun kvs ad r=>?_) k,?_⟩
  ·rcases r with r|⟨o,r⟩
   ·exact .inl (k a _ r h3).1
   ·exact .inr ⟨o,(k a _ r h3).1⟩
  ·obtain⟨_,_,_,_,r,_⟩:=h2;rcases r with r|⟨o,r⟩<;>exact(k a _ r h3).2
 ·obtain⟨g1,g2⟩:=k a _ h2 h3;exact .inr ⟨x,C,h1,h0,g1,g2⟩
def Le4(a b:Nat):Prop:=a<=b/\(b=4->a=0\/a=4)
instance (a b:Nat):Decidable (Le4 a b):=inferInstanceAs (Decidable (_/\_))
def Le4.refl(a:Nat):Le4 a a:=⟨zav _,.inr⟩
def Le4.zero(a:Nat):Le4 0 a:=⟨zbg _,fun _=>.inl rfl⟩
theorem Le4.dn{a b:Nat}(h:Le4 a b):Le4 (L2.dn a) (L2.dn b):=⟨Ce h.1,fun e=>by
 have:b=4:=by
  match b,e with
  |0,e=>cases e
  |1,e=>cases e
  |2,e=>cases e
  |n+3,e=>exact e
 exact(h.2 this).imp (fun z=>by rw[z];rfl) fun z=>by rw[z];rfl⟩
mutual
def Ow(K:zbQ)(O:AS)(H:Hp):D->Nat->V->AS->Prop
 |.none,_,v,_=>v=.non
 |.bool b,_,v,_=>v=.bl b
 |.int i,_,v,_=>v=.int i
 |.str x,_,v,_=>v=.str x
 |.tuple ts,d,v,F=>∃a vs,v=.ref a/\((d=0/\FzT K O H a vs/\Ows K O H ts 0 vs F)\/(d≠0/\H a=some (.tup vs)/\F a/\∃F':AS,(∀b,F' b->F b/\b≠a)/\Ows K O H ts (dn d) vs F'))
 |.list ts,d,v,F=>∃a vs,v=.ref a/\((d=0/\FzL K O H a vs/\Ows K O H ts 0 vs F)\/(d≠0/\H a=some (.lst vs)/\F a/\∃F':AS,(∀b,F' b->F b/\b≠a)/\Ows K O H ts (dn d) vs F'))
 |.dict ks,d,v,F=>∃a vs,v=.ref a/\((d=0/\Rd H a (.dK vs)/\¬O a/\Owd K O H ks 0 vs F)\/(d≠0/\H a=some (.dK vs)/\F a/\∃F':AS,(∀b,F' b->F b/\b≠a)/\Owd K O H ks (dn d) vs F')\/(d=0/\TupD K H O ks a)\/(d=4/\F a/\PrD O H (fun u=>H a=some u) ks))
def Ows(K:zbQ)(O:AS)(H:Hp):List D->Nat->List V->AS->Prop
 |[],_,vs,_=>vs=[]
 |t::ts,d,vs,F=>∃v r,∃F1 F2:AS,vs=v::r/\(∀b,F1 b->F b)/\(∀b,F2 b->F b)/\(∀b,F1 b->¬F2 b)/\Ow K O H t d v F1/\Ows K O H ts d r F2
def Owd(K:zbQ)(O:AS)(H:Hp):List (D×D)->Nat->List (Key×V)->AS->Prop
 |[],_,vs,_=>vs=[]
 | (k,t)::ts,d,vs,F=>∃q v r,∃F1 F2:AS,vs=(q,v)::r/\k=kD q/\(∀b,F1 b->F b)/\(∀b,F2 b->F b)/\(∀b,F1 b->¬F2 b)/\Ow K O H t d v F1/\Owd K O H ts d r F2
end
def Rd.mv(hk:∀o,H a=some o->H' a=some o)(h:Rd H a u):Rd H' a u:=by
 rcases h with h|⟨o,h⟩
 ·exact .inl (hk _ h)
 ·exact .inr ⟨o,hk _ h⟩
def Rd.there(h:Rd H a u):H a≠none:=by
 rcases h with h|⟨o,h⟩<;>rw[h]<;>exact fun z=>nomatch z
structure Mv(O O':AS)(G:AS)(H H':Hp):Prop where
 k:∀a o,H a=some o->(¬O a\/G a)->H' a=some o
 o:∀a,O' a->O a\/H a=none
def FzL.mv{G:AS}{a:Addr}{vs:List V}(m:Mv O O' G H H')(h:FzL K O H a vs):FzL K O' H' a vs:=by
 rcases h with⟨h,n⟩|h
 ·refine .inl ⟨h.mv fun o e=>m.k _ _ e (.inl n),fun z=>?_⟩;rcases m.o _ z with z|z
  ·exact n z
  ·exact h.there z
 ·exact .inr h
def FzT.mv(m:Mv O O' G H H')(h:FzT K O H a vs):FzT K O' H' a vs:=by
 obtain⟨h,n⟩:=h;refine⟨m.k _ _ h (.inl n),fun z=>?_⟩;rcases m.o _ z with z|z
 ·exact n z
 ·rw[h]at z;cases z
mutual
theorem Ow.mv{G:AS}(m:Mv O O' G H H'):∀(t:D) {d:Nat} {v:V} {F:AS},(∀b,F b->G b)->Ow K O H t d v F->Ow K O' H' t d v F
 |.none,_,_,_,_,h=>h
 |.bool _,_,_,_,_,h=>h
 |.int _,_,_,_,_,h=>h
 |.str _,_,_,_,_,h=>h
 |.tuple ts,_,_,_,g,h=>by
  obtain⟨a,vs,e,⟨h0,h1,h2⟩|⟨h0,h1,h2,F',hf,h3⟩⟩:=h
  ·exact⟨a,vs,e,.inl ⟨h0,h1.mv m,Ows.mv m ts g h2⟩⟩
  ·exact⟨a,vs,e,.inr ⟨h0,m.k _ _ h1 (.inr (g _ h2)),h2,F',hf,Ows.mv m ts (fun b hb=>g _ (hf b hb).1) h3⟩⟩
 |.list ts,_,_,_,g,h=>by
  obtain⟨a,vs,e,⟨h0,h1,h2⟩|⟨h0,h1,h2,F',hf,h3⟩⟩:=h
  ·exact⟨a,vs,e,.inl ⟨h0,h1.mv m,Ows.mv m ts g h2⟩⟩
  ·exact⟨a,vs,e,.inr ⟨h0,m.k _ _ h1 (.inr (g _ h2)),h2,F',hf,Ows.mv m ts (fun b hb=>g _ (hf b hb).1) h3⟩⟩
 |.dict ks,_,_,_,g,h=>by
  obtain⟨a,vs,e,⟨h0,h1,hn,h2⟩|⟨h0,h1,h2,F',hf,h3⟩|⟨h0,ht⟩|⟨h0,h1,hp⟩⟩:=h
  ·refine⟨a,vs,e,.inl ⟨h0,h1.mv fun o e=>m.k _ _ e (.inl hn),fun z=>?_,Owd.mv m ks g h2⟩⟩;rcases m.o _ z with z|z
   ·exact hn z
   ·exact h1.there z
  ·exact⟨a,vs,e,.inr (.inl ⟨h0,m.k _ _ h1 (.inr (g _ h2)),h2,F',hf,Owd.mv m ks (fun b hb=>g _ (hf b hb).1) h3⟩)⟩
  ·refine⟨a,vs,e,.inr (.inr (.inl ⟨h0,ht.to fun b o h2 hn=>⟨m.k _ _ h2 (.inl hn),fun z=>?_⟩⟩))⟩;rcases m.o _ z with z|z
   ·exact hn z
   ·rw[h2]at z;cases z
  ·refine⟨a,vs,e,.inr (.inr (.inr ⟨h0,h1,hp.to (fun _ _ q=>m.k _ _ q (.inr (g _ h1))) fun b o h2 hn=>⟨m.k _ _ h2 (.inl hn),fun z=>?_⟩⟩))⟩;rcases m.o _ z with z|z
   ·exact hn z
   ·rw[h2]at z;cases z
theorem Ows.mv{G:AS}(m:Mv O O' G H H'):∀(ts:List D) {d:Nat} {vs:List V} {F:AS},(∀b,F b->G b)->Ows K O H ts d vs F->Ows K O' H' ts d vs F
 |[],_,_,_,_,h=>h
 |t::ts,_,_,_,g,h=>by
  obtain⟨v,r,F1,F2,e,h1,h2,h3,h4,h5⟩:=h;exact⟨v,r,F1,F2,e,h1,h2,h3,Ow.mv m t (fun b hb=>g _ (h1 b hb)) h4,Ows.mv m ts (fun b hb=>g _ (h2 b hb)) h5⟩
theorem Owd.mv{G:AS}(m:Mv O O' G H H'):∀(ts:List (D×D)) {d:Nat} {vs:List (Key×V)} {F:AS},(∀b,F b->G b)->Owd K O H ts d vs F->Owd K O' H' ts d vs F
 |[],_,_,_,_,h=>h
 | (k,t)::ts,_,_,_,g,h=>by
  obtain⟨q,v,r,F1,F2,e,e2,h1,h2,h3,h4,h5⟩:=h;exact⟨q,v,r,F1,F2,e,e2,h1,h2,h3,Ow.mv m t (fun b hb=>g _ (h1 b hb)) h4,Owd.mv m ts (fun b hb=>g _ (h2 b hb)) h5⟩
end
def FzL.sub(ho:∀a,O' a->O a)(h:FzL K O H a vs):FzL K O' H a vs:=h.imp (fun h=>⟨h.1,fun z=>h.2 (ho _ z)⟩) id
def FzT.sub(ho:∀a,O' a->O a)(h:FzT K O H a vs):FzT K O' H a vs:=⟨h.1,fun z=>h.2 (ho _ z)⟩
mutual
theorem Ow.cut:∀(t:D) {d d':Nat} {v:V} {F:AS},Le4 d' d->Ow K O H t d v F->∃F':AS,(∀b,F' b->F b)/\∀O':AS,(∀a,O' a->O a)->(∀a,F a->O' a->F' a)->Ow K O' H t d' v F'
 |.none,_,_,_,F,_,h=>⟨F,fun _ z=>z,fun _ _ _=>h⟩
 |.bool _,_,_,_,F,_,h=>⟨F,fun _ z=>z,fun _ _ _=>h⟩
 |.int _,_,_,_,F,_,h=>⟨F,fun _ z=>z,fun _ _ _=>h⟩
 |.str _,_,_,_,F,_,h=>⟨F,fun _ z=>z,fun _ _ _=>h⟩
 |.tuple ts,d,d',_,F,hd,h=>by
  obtain⟨a,vs,e,⟨h0,h1,h2⟩|⟨h0,h1,h2,G,hg,h3⟩⟩:=h
  ·subst h0;have e0:d'=0:=Nat.le_zero.mp hd.1;subst e0;obtain⟨F',s1,s2⟩:=Ows.cut ts (.refl _) h2;exact⟨F',s1,fun O' ho hx=>⟨a,vs,e,.inl ⟨rfl,h1.sub ho,s2 O' ho hx⟩⟩⟩
  ·by_cases e0:d'=0
   ·subst e0;obtain⟨F',s1,s2⟩:=Ows.cut ts (.zero _) h3;refine⟨F',fun b hb=>(hg _ (s1 b hb)).1,fun O' ho hx=>⟨a,vs,e,.inl ⟨rfl,⟨h1,fun z=>(hg _ (s1 _ (hx _ h2 z))).2 rfl⟩,s2 O' ho fun b hb=>hx b (hg b hb).1⟩⟩⟩
   ·obtain⟨F',s1,s2⟩:=Ows.cut ts hd.dn h3;refine⟨fun b=>b=a\/F' b,fun b hb=>hb.elim (fun z=>z▸h2) fun z=>(hg _ (s1 b z)).1,fun O' ho hx=>⟨a,vs,e,.inr ⟨e0,h1,.inl rfl,F',fun b hb=>⟨.inr hb,(hg _ (s1 b hb)).2⟩,s2 O' ho fun b hb hz=>?_⟩⟩⟩;exact(hx b (hg b hb).1 hz).elim (fun z=>absurd z (hg b hb).2) id
 |.list ts,d,d',_,F,hd,h=>by
  obtain⟨a,vs,e,⟨h0,h1,h2⟩|⟨h0,h1,h2,G,hg,h3⟩⟩:=h
  ·subst h0;have e0:d'=0:=Nat.le_zero.mp hd.1;subst e0;obtain⟨F',s1,s2⟩:=Ows.cut ts (.refl _) h2;exact⟨F',s1,fun O' ho hx=>⟨a,vs,e,.inl ⟨rfl,h1.sub ho,s2 O' ho hx⟩⟩⟩
  ·by_cases e0:d'=0
   ·subst e0;obtain⟨F',s1,s2⟩:=Ows.cut ts (.zero _) h3;refine⟨F',fun b hb=>(hg _ (s1 b hb)).1,fun O' ho hx=>⟨a,vs,e,.inl ⟨rfl,.inl ⟨.inl h1,fun z=>(hg _ (s1 _ (hx _ h2 z))).2 rfl⟩,s2 O' ho fun b hb=>hx b (hg b hb).1⟩⟩⟩
   ·obtain⟨F',s1,s2⟩:=Ows.cut ts hd.dn h3;refine⟨fun b=>b=a\/F' b,fun b hb=>hb.elim (fun z=>z▸h2) fun z=>(hg _ (s1 b z)).1,fun O' ho hx=>⟨a,vs,e,.inr ⟨e0,h1,.inl rfl,F',fun b hb=>⟨.inr hb,(hg _ (s1 b hb)).2⟩,s2 O' ho fun b hb hz=>?_⟩⟩⟩;exact(hx b (hg b hb).1 hz).elim (fun z=>absurd z (hg b hb).2) id
 |.dict ts,d,d',_,F,hd,h=>by
  obtain⟨a,vs,e,⟨h0,h1,hn,h2⟩|⟨h0,h1,h2,G,hg,h3⟩|⟨h0,ht⟩|⟨h0,h1,hp⟩⟩:=h
  ·subst h0;have e0:d'=0:=Nat.le_zero.mp hd.1;subst e0;obtain⟨F',s1,s2⟩:=Owd.cut ts (.refl _) h2;exact⟨F',s1,fun O' ho hx=>⟨a,vs,e,.inl ⟨rfl,h1,fun z=>hn (ho _ z),s2 O' ho hx⟩⟩⟩
  ·by_cases e0:d'=0
   ·subst e0;obtain⟨F',s1,s2⟩:=Owd.cut ts (.zero _) h3;refine⟨F',fun b hb=>(hg _ (s1 b hb)).1,fun O' ho hx=>⟨a,vs,e,.inl ⟨rfl,.inl h1,fun z=>(hg _ (s1 _ (hx _ h2 z))).2 rfl,s2 O' ho fun b hb=>hx b (hg b hb).1⟩⟩⟩
   ·obtain⟨F',s1,s2⟩:=Owd.cut ts hd.dn h3;refine⟨fun b=>b=a\/F' b,fun b hb=>hb.elim (fun z=>z▸h2) fun z=>(hg _ (s1 b z)).1,fun O' ho hx=>⟨a,vs,e,.inr (.inl ⟨e0,h1,.inl rfl,F',fun b hb=>⟨.inr hb,(hg _ (s1 b hb)).2⟩,s2 O' ho fun b hb hz=>?_⟩)⟩⟩;exact(hx b (hg b hb).1 hz).elim (fun z=>absurd z (hg b hb).2) id
  ·subst h0;have e0:d'=0:=Nat.le_zero.mp hd.1;subst e0;exact⟨F,fun _ z=>z,fun O' ho hx=>⟨a,vs,e,.inr (.inr (.inl ⟨rfl,ht.to fun _ o h2 hn=>⟨h2,fun z=>hn (ho _ z)⟩⟩))⟩⟩
  ·rcases hd.2 h0 with e0|e0
   ·exact⟨fun _=>False,fun _ z=>z.elim,fun O' ho hx=>⟨a,vs,e,.inr (.inr (.inl ⟨e0,.inl ⟨hp.to (fun _ _ q=>.inl q) fun _ o h2 hn=>⟨h2,fun z=>hn (ho _ z)⟩,fun z=>hx a h1 z⟩⟩))⟩⟩
   ·exact⟨F,fun _ z=>z,fun O' ho hx=>⟨a,vs,e,.inr (.inr (.inr ⟨e0,h1,hp.to (fun _ _ q=>q) fun _ o h2 hn=>⟨h2,fun z=>hn (ho _ z)⟩⟩))⟩⟩
theorem Ows.cut:∀(ts:List D) {d d':Nat} {vs:List V} {F:AS},Le4 d' d->Ows K O H ts d vs F->∃F':AS,(∀b,F' b->F b)/\∀O':AS,(∀a,O' a->O a)->(∀a,F a->O' a->F' a)->Ows K O' H ts d' vs F'
 |[],_,_,_,F,_,h=>⟨F,fun _ z=>z,fun _ _ _=>h⟩
 |t::ts,_,_,_,F,hd,h=>by
  obtain⟨v,r,F1,F2,e,h1,h2,h3,h4,h5⟩:=h;obtain⟨G1,a1,a2⟩:=Ow.cut t hd h4;obtain⟨G2,b1,b2⟩:=Ows.cut ts hd h5;refine⟨fun b=>G1 b\/G2 b,fun b hb=>hb.elim (fun z=>h1 _ (a1 _ z)) fun z=>h2 _ (b1 _ z),fun O' ho hx=>⟨v,r,G1,G2,e,fun b=>.inl,fun b=>.inr,fun b z1 z2=>h3 b (a1 b z1) (b1 b z2),a2 O' ho fun b hb hz=>?_,b2 O' ho fun b hb hz=>?_⟩⟩
  ·exact(hx b (h1 b hb) hz).elim id fun z=>absurd (b1 b z) (h3 b hb)
  ·exact(hx b (h2 b hb) hz).elim (fun z=>absurd hb (h3 b (a1 b z))) id
theorem Owd.cut:∀(ts:List (D×D)) {d d':Nat} {vs:List (Key×V)} {F:AS},Le4 d' d->Owd K O H ts d vs F->∃F':AS,(∀b,F' b->F b)/\∀O':AS,(∀a,O' a->O a)->(∀a,F a->O' a->F' a)->Owd K O' H ts d' vs F'
 |[],_,_,_,F,_,h=>⟨F,fun _ z=>z,fun _ _ _=>h⟩
 | (k,t)::ts,_,_,_,F,hd,h=>by
  obtain⟨q,v,r,F1,F2,e,e2,h1,h2,h3,h4,h5⟩:=h;obtain⟨G1,a1,a2⟩:=Ow.cut t hd h4;obtain⟨G2,b1,b2⟩:=Owd.cut ts hd h5;refine⟨fun b=>G1 b\/G2 b,fun b hb=>hb.elim (fun z=>h1 _ (a1 _ z)) fun z=>h2 _ (b1 _ z),fun O' ho hx=>⟨q,v,r,G1,G2,e,e2,fun b=>.inl,fun b=>.inr,fun b z1 z2=>h3 b (a1 b z1) (b1 b z2),a2 O' ho fun b hb hz=>?_,b2 O' ho fun b hb hz=>?_⟩⟩
  ·exact(hx b (h1 b hb) hz).elim id fun z=>absurd (b1 b z) (h3 b hb)
  ·exact(hx b (h2 b hb) hz).elim (fun z=>absurd hb (h3 b (a1 b z))) id
end
mutual
theorem Ow.grow(ho:∀a,O' a->O a):∀(t:D) {d:Nat} {v:V} {F F':AS},(∀b,F b->F' b)->Ow K O H t d v F->Ow K O' H t d v F'
 |.none,_,_,_,_,_,h=>h
 |.bool _,_,_,_,_,_,h=>h
 |.int _,_,_,_,_,_,h=>h
 |.str _,_,_,_,_,_,h=>h
 |.tuple ts,_,_,_,_,hf,h=>by
  obtain⟨a,vs,e,⟨h0,h1,h2⟩|⟨h0,h1,h2,G,hg,h3⟩⟩:=h
  ·exact⟨a,vs,e,.inl ⟨h0,h1.sub ho,Ows.grow ho ts hf h2⟩⟩
  ·exact⟨a,vs,e,.inr ⟨h0,h1,hf _ h2,G,fun b hb=>⟨hf _ (hg b hb).1,(hg b hb).2⟩,Ows.grow ho ts (fun _ z=>z) h3⟩⟩
 |.list ts,_,_,_,_,hf,h=>by
  obtain⟨a,vs,e,⟨h0,h1,h2⟩|⟨h0,h1,h2,G,hg,h3⟩⟩:=h
  ·exact⟨a,vs,e,.inl ⟨h0,h1.sub ho,Ows.grow ho ts hf h2⟩⟩
  ·exact⟨a,vs,e,.inr ⟨h0,h1,hf _ h2,G,fun b hb=>⟨hf _ (hg b hb).1,(hg b hb).2⟩,Ows.grow ho ts (fun _ z=>z) h3⟩⟩
 |.dict ts,_,_,_,_,hf,h=>by
  obtain⟨a,vs,e,⟨h0,h1,hn,h2⟩|⟨h0,h1,h2,G,hg,h3⟩|⟨h0,ht⟩|⟨h0,h1,hp⟩⟩:=h
  ·exact⟨a,vs,e,.inl ⟨h0,h1,fun z=>hn (ho _ z),Owd.grow ho ts hf h2⟩⟩
  ·exact⟨a,vs,e,.inr (.inl ⟨h0,h1,hf _ h2,G,fun b hb=>⟨hf _ (hg b hb).1,(hg b hb).2⟩,Owd.grow ho ts (fun _ z=>z) h3⟩)⟩
  ·exact⟨a,vs,e,.inr (.inr (.inl ⟨h0,ht.to fun _ o h2 hn=>⟨h2,fun z=>hn (ho _ z)⟩⟩))⟩
  ·exact⟨a,vs,e,.inr (.inr (.inr ⟨h0,hf _ h1,hp.to (fun _ _ q=>q) fun _ o h2 hn=>⟨h2,fun z=>hn (ho _ z)⟩⟩))⟩
theorem Ows.grow(ho:∀a,O' a->O a):∀(ts:List D) {d:Nat} {vs:List V} {F F':AS},(∀b,F b->F' b)->Ows K O H ts d vs F->Ows K O' H ts d vs F'
 |[],_,_,_,_,_,h=>h
 |t::ts,_,_,_,_,hf,h=>by
  obtain⟨v,r,F1,F2,e,h1,h2,h3,h4,h5⟩:=h;exact⟨v,r,F1,F2,e,fun b z=>hf _ (h1 b z),fun b z=>hf _ (h2 b z),h3,Ow.grow ho t (fun _ z=>z) h4,Ows.grow ho ts (fun _ z=>z) h5⟩
theorem Owd.grow(ho:∀a,O' a->O a):∀(ts:List (D×D)) {d:Nat} {vs:List (Key×V)} {F F':AS},(∀b,F b->F' b)->Owd K O H ts d vs F->Owd K O' H ts d vs F'
 |[],_,_,_,_,_,h=>h
 | (k,t)::ts,_,_,_,_,hf,h=>by
  obtain⟨q,v,r,F1,F2,e,e2,h1,h2,h3,h4,h5⟩:=h;exact⟨q,v,r,F1,F2,e,e2,fun b z=>hf _ (h1 b z),fun b z=>hf _ (h2 b z),h3,Ow.grow ho t (fun _ z=>z) h4,Owd.grow ho ts (fun _ z=>z) h5⟩
end
mutual
theorem Ow.full:∀(t:D) {v:V} {F:AS},Ow K O H t 3 v F->Ow K O' H t 3 v F
 |.none,_,_,h=>h
 |.bool _,_,_,h=>h
 |.int _,_,_,h=>h
 |.str _,_,_,h=>h
 |.tuple ts,_,_,h=>by
  obtain⟨a,vs,e,⟨h0,h1,h2⟩|⟨h0,h1,h2,G,hg,h3⟩⟩:=h
  ·cases h0
  ·exact⟨a,vs,e,.inr ⟨h0,h1,h2,G,hg,Ows.full ts h3⟩⟩
 |.list ts,_,_,h=>by
  obtain⟨a,vs,e,⟨h0,h1,h2⟩|⟨h0,h1,h2,G,hg,h3⟩⟩:=h
  ·cases h0
  ·exact⟨a,vs,e,.inr ⟨h0,h1,h2,G,hg,Ows.full ts h3⟩⟩
 |.dict ts,_,_,h=>by
  obtain⟨a,vs,e,⟨h0,h1,hn,h2⟩|⟨h0,h1,h2,G,hg,h3⟩|⟨h0,_⟩|⟨h0,hp⟩⟩:=h
  ·cases h0
  ·exact⟨a,vs,e,.inr (.inl ⟨h0,h1,h2,G,hg,Owd.full ts h3⟩)⟩
  ·cases h0
  ·cases h0
theorem Ows.full:∀(ts:List D) {vs:List V} {F:AS},Ows K O H ts 3 vs F->Ows K O' H ts 3 vs F
 |[],_,_,h=>h
 |t::ts,_,_,h=>by
  obtain⟨v,r,F1,F2,e,h1,h2,h3,h4,h5⟩:=h;exact⟨v,r,F1,F2,e,h1,h2,h3,Ow.full t h4,Ows.full ts h5⟩
theorem Owd.full:∀(ts:List (D×D)) {vs:List (Key×V)} {F:AS},Owd K O H ts 3 vs F->Owd K O' H ts 3 vs F
 |[],_,_,h=>h
 | (k,t)::ts,_,_,h=>by
  obtain⟨q,v,r,F1,F2,e,e2,h1,h2,h3,h4,h5⟩:=h;exact⟨q,v,r,F1,F2,e,e2,h1,h2,h3,Ow.full t h4,Owd.full ts h5⟩
end
mutual
theorem Ow.any0:∀(t:D) {v:V} {F F':AS},Ow K O H t 0 v F->Ow K O H t 0 v F'
 |.none,_,_,_,h=>h
 |.bool _,_,_,_,h=>h
 |.int _,_,_,_,h=>h
 |.str _,_,_,_,h=>h
 |.tuple ts,_,_,_,h=>by
  obtain⟨a,vs,e,⟨h0,h1,h2⟩|⟨h0,_⟩⟩:=h
  ·exact⟨a,vs,e,.inl ⟨rfl,h1,Ows.any0 ts h2⟩⟩
  ·exact absurd rfl h0
 |.list ts,_,_,_,h=>by
  obtain⟨a,vs,e,⟨h0,h1,h2⟩|⟨h0,_⟩⟩:=h
  ·exact⟨a,vs,e,.inl ⟨rfl,h1,Ows.any0 ts h2⟩⟩
  ·exact absurd rfl h0
 |.dict ts,_,_,_,h=>by
  obtain⟨a,vs,e,⟨h0,h1,hn,h2⟩|⟨h0,_⟩|⟨_,ht⟩|⟨h0,_⟩⟩:=h
  ·exact⟨a,vs,e,.inl ⟨rfl,h1,hn,Owd.any0 ts h2⟩⟩
  ·exact absurd rfl h0
  ·exact⟨a,vs,e,.inr (.inr (.inl ⟨rfl,ht⟩))⟩
  ·cases h0
theorem Ows.any0:∀(ts:List D) {vs:List V} {F F':AS},Ows K O H ts 0 vs F->Ows K O H ts 0 vs F'
 |[],_,_,_,h=>h
 |t::ts,_,_,_,h=>by
  obtain⟨v,r,F1,F2,e,_,_,_,h4,h5⟩:=h;exact⟨v,r,fun _=>False,fun _=>False,e,fun _ z=>z.elim,fun _ z=>z.elim,fun _ z=>z.elim,Ow.any0 t h4,Ows.any0 ts h5⟩
theorem Owd.any0:∀(ts:List (D×D)) {vs:List (Key×V)} {F F':AS},Owd K O H ts 0 vs F->Owd K O H ts 0 vs F'
 |[],_,_,_,h=>h
 | (k,t)::ts,_,_,_,h=>by
  obtain⟨q,v,r,F1,F2,e,e2,_,_,_,h4,h5⟩:=h;exact⟨q,v,r,fun _=>False,fun _=>False,e,e2,fun _ z=>z.elim,fun _ z=>z.elim,fun _ z=>z.elim,Ow.any0 t h4,Owd.any0 ts h5⟩
end
def Ow.fz{F:AS}(ho:∀a,O' a->O a)(hn:∀a,F a->¬O' a)(h:Ow K O H t d v F):Ow K O' H t 0 v F2:=by
 obtain⟨F',s1,s2⟩:=Ow.cut t (.zero d) h;exact Ow.any0 t (s2 O' ho fun a z1 z2=>absurd z2 (hn a z1))
def U(A B:AS):AS:=fun a=>A a\/B a
def Own(R:Nat->AS)(Ox:AS):AS:=fun a=>(∃i,R i a)\/Ox a
def dN{A B:AS}(h:∀a,A a↔B a):A=B:=funext fun a=>propext (h a)
structure EnvOk(K:zbQ)(ds:List Nat)(Ox:AS)(H:Hp)(σ:St)(en:En)(R:Nat->AS):Prop where
 at_:∀(i:Nat) (t:D),en[i]?=some (some t)->∃v d,σ[i]?=some (some v)/\ds[i]?=some d/\Ow K (Own R Ox) H t d v (R i)
 dj:∀i j a,R i a->R j a->i=j
 dx:∀i a,R i a->¬Ox a
 dom:∀a,Own R Ox a->∃o,H a=some o
 l1:en.length=σ.length
 l2:ds.length=σ.length
structure Post(K:zbQ)(p:Bool)(ds':List Nat)(Ox:AS)(σ:St)(H:Hp)(en:En)(R:Nat->AS)(en':En)(H':Hp)(R':Nat->AS)(F:AS):Prop where
 env:EnvOk K ds' (U F Ox) H' σ en' R'
 fx:∀a,F a->¬Ox a
 keep:∀a o,H a=some o->(∀i,¬R i a)->H' a=some o
 own:∀a,(F a\/∃i,R' i a)->(∃i,R i a)\/H a=none
 dom:∀a o,H a=some o->∃o',H' a=some o'
 pure:p=true->en'=en/\R'=R/\∀a o,H a=some o->H' a=some o
def EnvOk.grow(e:EnvOk K ds Ox H σ en R)(hk:∀a o,H a=some o->H' a=some o){F:AS}(hf:∀a,F a->H a=none/\∃o,H' a=some o):EnvOk K ds (U F Ox) H' σ en R:=by
 have fo:∀a,F a->¬Own R Ox a:=fun a z z2=>by
  obtain⟨o,q⟩:=e.dom a z2;rw[(hf a z).1]at q;cases q
 refine⟨fun i t h=>?_,e.dj,fun i a h z=>?_,fun a h=>?_,e.l1,e.l2⟩
 ·obtain⟨v,d,h1,h2,h3⟩:=e.at_ i t h;refine⟨v,d,h1,h2,Ow.mv (G:=R i) ⟨fun a o q _=>hk a o q,fun a z=>?_⟩ t (fun _ z=>z) h3⟩;rcases z with z|z|z
  ·exact .inl (.inl z)
  ·exact .inr (hf a z).1
  ·exact .inl (.inr z)
 ·rcases z with z|z
  ·exact fo a z (.inl ⟨i,h⟩)
  ·exact e.dx i a h z
 ·rcases h with h|h|h
  ·obtain⟨o,q⟩:=e.dom a (.inl h);exact⟨o,hk a o q⟩
  ·exact(hf a h).2
  ·obtain⟨o,q⟩:=e.dom a (.inr h);exact⟨o,hk a o q⟩
def EnvOk.fewer(e:EnvOk K ds Ox H σ en R)(h:∀a,Ox' a->Ox a):EnvOk K ds Ox' H σ en R:=by
 refine⟨fun i t q=>?_,e.dj,fun i a z1 z2=>e.dx i a z1 (h a z2),fun a z=>e.dom a (z.imp id (h a)),e.l1,e.l2⟩;obtain⟨v,d,h1,h2,h3⟩:=e.at_ i t q;exact⟨v,d,h1,h2,Ow.grow (fun a z=>z.imp id (h a)) t (fun _ z=>z) h3⟩
def tF(K:zbQ)(p:Bool)(ds ds':List Nat)(d:Nat)(f:En->Option (D×En)):TE:=fun σ H Q=>
 ∃Ox en R t en',EnvOk K ds Ox H σ en R/\f en=some (t,en')/\∀v H' R' F,Post K p ds' Ox σ H en R en' H' R' F->Ow K (Own R' (U F Ox)) H' t d v F->Q v H'
def Post.refl(e:EnvOk K ds Ox H σ en R):Post K p ds Ox σ H en R en H R (fun _=>False):=by
 have eq:U (fun _=>False) Ox=Ox:=dN fun a=>⟨fun z=>z.elim (fun z=>z.elim) id,.inr⟩;exact⟨eq.symm▸e,fun _ z=>z.elim,fun _ _ q _=>q,fun a z=>z.elim (fun z=>z.elim) .inl,fun a o q=>⟨o,q⟩,fun _=>⟨rfl,rfl,fun _ _ q=>q⟩⟩
def Post.new(e:EnvOk K ds Ox H σ en R)(hk:∀a o,H a=some o->H' a=some o){F:AS}(hf:∀a,F a->H a=none/\∃o,H' a=some o):Post K p ds Ox σ H en R en H' R F:=by
 refine⟨e.grow hk hf,fun a z z2=>?_,fun a o q _=>hk a o q,fun a z=>z.elim (fun z=>.inr (hf a z).1) .inl,fun a o q=>⟨o,hk a o q⟩,fun _=>⟨rfl,rfl,hk⟩⟩;obtain⟨o,q⟩:=e.dom a (.inr z2);rw[(hf a z).1]at q;cases q
theorem Post.trans{H1 H2:Hp}{R1 R2:Nat->AS}{F1 F2:AS}(P1:Post K p1 ds1 Ox σ H en R en1 H1 R1 F1)(P2:Post K p2 ds2 (U F1 Ox) σ H1 en1 R1 en2 H2 R2 F2):
  Post K (p1&&p2) ds2 Ox σ H en R en2 H2 R2 (U F1 F2):=by
 have eq:U F2 (U F1 Ox)=U (U F1 F2) Ox:=dN fun a=>by unfold U;exact⟨fun z=>by rcases z with z|z|z;exact .inl (.inr z);exact .inl (.inl z);exact .inr z,fun z=>by rcases z with (z|z)|z;exact .inr (.inl z);exact .inl z;exact .inr (.inr z)⟩
 have n1:∀a,H1 a=none->H a=none:=fun a z=>by
  cases q:H a with
  |none=>rfl
  |some o=>
   obtain⟨o',q'⟩:=P1.dom a o q;rw[z]at q';cases q'
 refine⟨eq▸P2.env,fun a z z2=>?_,fun a o q n=>?_,fun a z=>?_,fun a o q=>?_,fun hp=>?_⟩
 ·rcases z with z|z
  ·exact P1.fx a z z2
  ·exact P2.fx a z (.inr z2)
 ·refine P2.keep a o (P1.keep a o q n) fun i z=>?_;rcases P1.own a (.inr ⟨i,z⟩)with⟨j,z⟩|z
  ·exact n j z
  ·rw[q]at z;cases z
 ·rcases z with (z|z)|z
  ·exact P1.own a (.inl z)
  ·rcases P2.own a (.inl z)with z|z
   ·exact P1.own a (.inr z)
   ·exact .inr (n1 a z)
  ·rcases P2.own a (.inr z)with z|z
   ·exact P1.own a (.inr z)
   ·exact .inr (n1 a z)
 ·obtain⟨o',q'⟩:=P1.dom a o q;exact P2.dom a o' q'
 ·have h1:p1=true:=by cases p1<;>simp_all
  have h2:p2=true:=by cases p2<;>simp_all
  obtain⟨a1,a2,a3⟩:=P1.pure h1;obtain⟨b1,b2,b3⟩:=P2.pure h2;exact⟨b1.trans a1,b2.trans a2,fun a o q=>b3 a o (a3 a o q)⟩
def Ow.over{R2:Nat->AS}(P1:EnvOk K ds1 (U F1 Ox) H1 σ en1 R1)(P2:Post K p2 ds2 (U F1 Ox) σ H1 en1 R1 en2 H2 R2 F2)(h:Ow K (Own R1 (U F1 Ox)) H1 t d v F1):
  Ow K (Own R2 (U (U F1 F2) Ox)) H2 t d v F1:=by
 refine Ow.mv (G:=F1) ⟨fun a o q z=>P2.keep a o q fun i zi=>?_,fun a z=>?_⟩ t (fun _ z=>z) h
 ·rcases z with z|z
  ·exact z (.inl ⟨i,zi⟩)
  ·exact P1.dx i a zi (.inl z)
 ·rcases z with z | (z|z)|z
  ·rcases P2.own a (.inr z)with z|z
   ·exact .inl (.inl z)
   ·exact .inr z
  ·exact .inl (.inr (.inl z))
  ·rcases P2.own a (.inl z)with z|z
   ·exact .inl (.inl z)
   ·exact .inr z
  ·exact .inl (.inr (.inr z))
def mK:U F2 (U F1 Ox)=U (U F1 F2) Ox:=dN fun a=>by unfold U;exact⟨fun z=>by rcases z with z|z|z;exact .inl (.inr z);exact .inl (.inl z);exact .inr z,fun z=>by rcases z with (z|z)|z;exact .inr (.inl z);exact .inl z;exact .inr (.inr z)⟩
def two{f g:En->Option (D×En)}{Q:V->V->Hp->Prop}(e:EnvOk K ds Ox H σ en R)(h1:f en=some (t1,en1))(h2:g en1=some (t2,en2))
  (k:∀x y H2 R2 F1 F2,Post K (p1&&p2) ds2 Ox σ H en R en2 H2 R2 (U F1 F2)->Ow K (Own R2 (U (U F1 F2) Ox)) H2 t1 d1 x F1->Ow K (Own R2 (U (U F1 F2) Ox)) H2 t2 d2 y F2->Q x y H2):
  tF K p1 ds ds1 d1 f σ H fun x H1=>tF K p2 ds1 ds2 d2 g σ H1 fun y H2=>Q x y H2:=by
 refine⟨Ox,en,R,t1,en1,e,h1,fun x H1 R1 F1 P1 o1=>?_⟩;refine⟨U F1 Ox,en1,R1,t2,en2,P1.env,h2,fun y H2 R2 F2 P2 o2=>?_⟩;exact k x y H2 R2 F1 F2 (P1.trans P2) (Ow.over P1.env P2 o1) (mK▸o2)
abbrev ME:=En->Option (D×En)
variable{f f1 f2 fk fe:ME}
abbrev MT:=En->Option (Bool×En)
variable{c1 c2:MT}
abbrev MA:=En->Option (List (D ⊕ Nat)×En)
variable{fa:MA}
def ac(i:Nat):ME:=fun en=>(en[i]?).join.map fun t=>(t,en)
def eMv(i:Nat):ME:=fun en=>(en[i]?).join.map fun t=>(t,en.set i none)
def eC(t:D):ME:=fun en=>some (t,en)
def e1(g:D->Option D)(f:ME):ME:=fun en=>(f en).bind fun r=>(g r.1).map fun t=>(t,r.2)
def e2(g:D->D->Option D)(f1 f2:ME):ME:=fun en=>(f1 en).bind fun r=>(f2 r.2).bind fun q=>(g r.1 q.1).map fun t=>(t,q.2)
def dS(f g:ME):ME:=fun en=>(f en).bind fun r=>match r.1 with
 |.bool true=>g r.2
 |.bool false=>some (.bool false,r.2)
 |_=>none
def eOr(f g:ME):ME:=fun en=>(f en).bind fun r=>match r.1 with
 |.bool true=>some (.bool true,r.2)
 |.bool false=>g r.2
 |_=>none
def iE(f:ME):ME:=fun en=>(f en).bind fun r=>match r.1 with
 |.bool b=>some (.bool (!b),r.2)
 |_=>none
def eIf(c:MT)(f g:ME):ME:=fun en=>(c en).bind fun r=>if r.1 then f r.2 else g r.2
def tV(f:ME):MT:=fun en=>(f en).bind fun r=>match r.1 with
 |.bool b=>some (b,r.2)
 |_=>none
def eJ(f g:MT):MT:=fun en=>(f en).bind fun r=>if r.1 then g r.2 else some (false,r.2)
def bOr(f g:MT):MT:=fun en=>(f en).bind fun r=>if r.1 then some (true,r.2)else g r.2
def bN(f:MT):MT:=fun en=>(f en).map fun r=>(!r.1,r.2)
def af:MA:=fun en=>some ([],en)
def aa(f:ME)(r:MA):MA:=fun en=>(f en).bind fun x=>(r x.2).map fun y=>(.inl x.1::y.1,y.2)
def aC(i:Nat)(r:MA):MA:=fun en=>(en[i]?).join.bind fun _=>(r en).map fun y=>(.inr i::y.1,y.2)
def vals:List (D ⊕ Nat)->Option (List D)
 |[]=>some []
 |.inl t::r=>(vals r).map (t::·)
 |.inr _::_=>none
def eN(g:List D->Option D)(fa:MA):ME:=fun en=>(fa en).bind fun r=>(vals r.1).bind fun ts=>(g ts).map fun t=>(t,r.2)
def NewTo(H H':Hp)(F:AS):Prop:=(∀a o,H a=some o->H' a=some o)/\∀a,F a->H a=none/\∃o,H' a=some o
def NoA:AS:=fun _=>False
def eQ{A:AS}:U NoA A=A:=dN fun a=>⟨fun z=>z.elim (fun z=>z.elim) id,.inr⟩
def rF1(K:zbQ)(g:D->Option D)(d:Nat):V->Hp->VK->Prop:=fun x H Q=>∃(O:AS) (a t:D),Ow K O H a 0 x NoA/\(∀a,O a->∃o,H a=some o)/\g a=some t/\∀v H' F,NewTo H H' F->Ow K (U F O) H' t d v F->Q v H'
def rF2(K:zbQ)(g:D->D->Option D)(d:Nat):R2:=fun x y H Q=>∃(O:AS) (a b t:D),Ow K O H a 0 x NoA/\Ow K O H b 0 y NoA/\(∀a,O a->∃o,H a=some o)/\g a b=some t/\∀v H' F,NewTo H H' F->Ow K (U F O) H' t d v F->Q v H'
def rFn(K:zbQ)(g:List D->Option D)(d:Nat):List V->Hp->VK->Prop:=fun xs H Q=>∃(O:AS) (ts:List D) (t:D),Ows K O H ts 0 xs NoA/\(∀a,O a->∃o,H a=some o)/\g ts=some t/\∀v H' F,NewTo H H' F->Ow K (U F O) H' t d v F->Q v H'
section
variable{fa fb:ME}
def mR{F:AS}:U F (Own R Ox)=Own R (U F Ox):=dN fun a=>by
 unfold U Own;exact⟨fun z=>by rcases z with z|z|z;exact .inr (.inl z);exact .inl z;exact .inr (.inr z),fun z=>by rcases z with z|z|z;exact .inr (.inl z);exact .inl z;exact .inr (.inr z)⟩
def Post.fin{F:AS}(P:Post K p ds' Ox σ H en R en' H1 R' F0)(n:NewTo H1 H' F):Post K p ds' Ox σ H en R en' H' R' F:=by
 have e:=P.env.fewer (Ox':=Ox) fun a z=>.inr z;have n1:∀a,H1 a=none->H a=none:=fun a z=>by
  cases q:H a with
  |none=>rfl
  |some o=>
   obtain⟨o',q'⟩:=P.dom a o q;rw[z]at q';cases q'
 refine⟨e.grow n.1 n.2,fun a z z2=>?_,fun a o q nn=>n.1 a o (P.keep a o q nn),fun a z=>?_,fun a o q=>?_,fun hp=>?_⟩
 ·obtain⟨o,q⟩:=e.dom a (.inr z2);rw[(n.2 a z).1]at q;cases q
 ·rcases z with z|z
  ·exact .inr (n1 a (n.2 a z).1)
  ·exact P.own a (.inr z)
 ·obtain⟨o',q'⟩:=P.dom a o q;exact⟨o',n.1 a o' q'⟩
 ·obtain⟨a1,a2,a3⟩:=P.pure hp;exact⟨a1,a2,fun a o q=>n.1 a o (a3 a o q)⟩
def Post.less{F:AS}(P:Post K p ds' Ox σ H en R en' H' R' F)(h:∀a,F' a->F a):Post K p ds' Ox σ H en R en' H' R' F':=
 ⟨P.env.fewer fun a z=>z.imp (h a) id,fun a z=>P.fx a (h a z),P.keep,fun a z=>P.own a (z.imp (h a) id),P.dom,P.pure⟩
def Ow.letgo{F:AS}(P:Post K p ds' Ox σ H en R en' H' R' F0)(hf:∀a,F a->F0 a)(h:Ow K (Own R' (U F0 Ox)) H' t d v F):Ow K (Own R' Ox) H' t 0 v NoA:=by
 refine Ow.fz (fun a z=>z.imp id .inr) (fun a z z2=>?_) h;rcases z2 with⟨i,z2⟩|z2
 ·exact P.env.dx i a z2 (.inl (hf a z))
 ·exact P.fx a (hf a z) z2
def Post.doms(P:Post K p ds' Ox σ H en R en' H' R' F0):∀a,Own R' Ox a->∃o,H' a=some o:=fun a z=>P.env.dom a (z.imp id .inr)
def Ho(hd:ds[i]?=some 0)(h:tF K true ds ds 0 (ac i) σ H Q):eA i σ H Q:=by
 obtain⟨Ox,en,R,t,en',e,hf,k⟩:=h;unfold ac at hf;cases q:en[i]? with
 |none=>rw[q]at hf;cases hf
 |some o=>
  rw[q]at hf;cases o with
  |none=>cases hf
  |some t'=>
   cases hf;obtain⟨v,d,h1,h2,h3⟩:=e.at_ i t q;rw[hd]at h2;cases h2;exact⟨v,h1,k v H R NoA (Post.refl e) (by rw[eQ];exact Ow.any0 t h3)⟩
def Ig(hd:ds[i]?=some d)(h:tF K false ds (ds.set i 0) d (eMv i) σ H Q):eA i σ H Q:=by
 obtain⟨Ox,en,R,t,en',e,hf,k⟩:=h;unfold eMv at hf;cases q:en[i]? with
 |none=>rw[q]at hf;cases hf
 |some o=>
  rw[q]at hf;cases o with
  |none=>cases hf
  |some t'=>
   cases hf;obtain⟨v,d',h1,h2,h3⟩:=e.at_ i t q;rw[hd]at h2;cases h2;have eq:Own (fun j=>if j=i then NoA else R j) (U (R i) Ox)=Own R Ox:=dN fun a=>by
    unfold Own U;constructor
    ·rintro (⟨j,z⟩|z|z)
     ·by_cases hj:j=i
      ·rw[if_pos hj]at z;exact z.elim
      ·rw[if_neg hj]at z;exact .inl ⟨j,z⟩
     ·exact .inl ⟨i,z⟩
     ·exact .inr z
    ·rintro (⟨j,z⟩|z)
     ·by_cases hj:j=i
      ·subst hj;exact .inr (.inl z)
      ·exact .inl ⟨j,by show(if j=i then NoA else R j) a;rw[if_neg hj];exact z⟩
     ·exact .inr (.inr z)
   refine⟨v,h1,k v H (fun j=>if j=i then NoA else R j) (R i) ⟨⟨fun j u hu=>?_,fun j j' a z z'=>?_,fun j a z=>?_,fun a z=>e.dom a (eq▸z),?_,?_⟩,e.dx i,fun a o q _=>q,fun a z=>?_,fun a o q=>⟨o,q⟩,fun z=>nomatch z⟩ (eq.symm▸h3)⟩
   ·by_cases hj:j=i
    ·subst hj;rw[List.getElem?_set_self' ]at hu;rw[q]at hu;cases hu
    ·rw[zaO (Ne.symm hj)]at hu;obtain⟨v',d',a1,a2,a3⟩:=e.at_ j u hu;refine⟨v',d',a1,by rw[zaO (Ne.symm hj)];exact a2,?_⟩;rw[if_neg hj,eq];exact a3
   ·by_cases hj:j=i
    ·rw[if_pos hj]at z;exact z.elim
    ·rw[if_neg hj]at z;by_cases hj':j'=i
     ·rw[if_pos hj']at z';exact z'.elim
     ·rw[if_neg hj']at z';exact e.dj j j' a z z'
   ·by_cases hj:j=i
    ·rw[if_pos hj]at z;exact z.elim
    ·rw[if_neg hj]at z;rintro (z2|z2)
     ·exact hj (e.dj j i a z z2)
     ·exact e.dx j a z z2
   ·rw[zaV];exact e.l1
   ·rw[zaV];exact e.l2
   ·rcases z with z|⟨j,z⟩
    ·exact .inl ⟨i,z⟩
    ·by_cases hj:j=i
     ·rw[if_pos hj]at z;exact z.elim
     ·rw[if_neg hj]at z;exact .inl ⟨j,z⟩
def f_c(hv:∀K O H F,Ow K O H t 3 v F)(h:tF K true ds ds 3 (eC t) σ H Q):tC v σ H Q:=by
 obtain⟨Ox,en,R,t',en',e,hf,k⟩:=h;cases hf;exact k v H R NoA (Post.refl e) (hv _ _ _ _)
def Hr(hd:Le4 d' d)(h:tF K p ds ds' d' f σ H Q):tF K p ds ds' d f σ H Q:=by
 obtain⟨Ox,en,R,t,en',e,hf,k⟩:=h;refine⟨Ox,en,R,t,en',e,hf,fun v H' R' F P o=>?_⟩;obtain⟨F',s1,s2⟩:=Ow.cut t hd o;refine k v H' R' F' (P.less s1) (s2 _ (fun a z=>z.imp id fun z=>z.imp (s1 a) id) fun a z z2=>?_);rcases z2 with⟨i,z2⟩|z2|z2
 ·exact absurd (.inl z) (P.env.dx i a z2)
 ·exact z2
 ·exact absurd z2 (P.fx a z)
def jr(hp:p'=true->p=true)(h:tF K p' ds ds' d f σ H Q):tF K p ds ds' d f σ H Q:=by
 obtain⟨Ox,en,R,t,en',e,hf,k⟩:=h;exact⟨Ox,en,R,t,en',e,hf,fun v H' R' F P o=>k v H' R' F ⟨P.env,P.fx,P.keep,P.own,P.dom,fun z=>P.pure (hp z)⟩ o⟩
theorem EnvOk.cut(e:EnvOk K ds Ox H σ en R)(hl:ds0.length=ds.length)(hd:∀(i:Nat) a b,ds0[i]?=some a->ds[i]?=some b->Le4 a b):∃R',(∀i a,R' i a->R i a)/\EnvOk K ds0 Ox H σ en R':=by
 have ch:∀i,∃F':AS,(∀b,F' b->R i b)/\∀t v d0,en[i]?=some (some t)->σ[i]?=some (some v)->ds0[i]?=some d0->∀O':AS,(∀a,O' a->Own R Ox a)->(∀a,R i a->O' a->F' a)->Ow K O' H t d0 v F':=fun i=>by
  by_cases h:∃t,en[i]?=some (some t)
  ·obtain⟨t,ht⟩:=h;obtain⟨v,d,h1,h2,h3⟩:=e.at_ i t ht;cases q:ds0[i]? with
   |none=>exact⟨NoA,fun _ z=>z.elim,fun _ _ _ _ _ z=>nomatch z⟩
   |some d0=>
    obtain⟨F',s1,s2⟩:=Ow.cut t (hd i d0 d q h2) h3;refine⟨F',s1,fun t' v' d0' h1' h2' h3' O'=>?_⟩;rw[ht]at h1';cases h1';rw[h1]at h2';cases h2';cases h3';exact s2 O'
  ·exact⟨NoA,fun _ z=>z.elim,fun t _ _ ht=>absurd ⟨t,ht⟩ h⟩
 refine⟨fun i=>(ch i).choose,fun i=>(ch i).choose_spec.1,fun i t ht=>?_,fun i j a z1 z2=>e.dj i j a ((ch i).choose_spec.1 a z1) ((ch j).choose_spec.1 a z2),fun i a z=>e.dx i a ((ch i).choose_spec.1 a z),fun a z=>e.dom a (z.imp (fun⟨i,z⟩=>⟨i,(ch i).choose_spec.1 a z⟩) id),e.l1,hl.trans e.l2⟩;obtain⟨v,d,h1,h2,h3⟩:=e.at_ i t ht;have hi:i<ds0.length:=by rw[hl];exact(zah.mp h2).1
 refine⟨v,ds0[i],h1,zak hi,(ch i).choose_spec.2 t v _ ht h1 (zak hi) _ (fun a z=>z.imp (fun⟨j,z⟩=>⟨j,(ch j).choose_spec.1 a z⟩) id) fun a z z2=>?_⟩;rcases z2 with⟨j,z2⟩|z2
 ·have:=e.dj i j a z ((ch j).choose_spec.1 a z2);subst this;exact z2
 ·exact absurd z2 (e.dx i a z)
def leD:List Nat->List Nat->Bool
 |[],[]=>true
 |a::r,b::s=>decide (Le4 a b)&&leD r s
 |_,_=>false
theorem dq:∀{a b:List Nat},leD a b=true->a.length=b.length/\∀(i:Nat) x y,a[i]?=some x->b[i]?=some y->Le4 x y
 |[],[],_=>⟨rfl,fun i x y h=>by simp at h⟩
 |a::r,b::s,h=>by
  unfold leD at h;rw[zbj]at h;obtain⟨h1,h2⟩:=h;obtain⟨h3,h4⟩:=dq h2;refine⟨by rw[zac,zac,h3],fun i x y e1 e2=>?_⟩;cases i with
  |zero=>cases e1;cases e2;exact of_decide_eq_true h1
  |succ i=>exact h4 i x y e1 e2
 |[],_::_,h=>nomatch h
 |_::_,[],h=>nomatch h
def Ii(hd:leD ds0 ds=true)(h:tF K false ds ds' d f σ H Q):tF K p ds0 ds' d f σ H Q:=by
 obtain⟨Ox,en,R,t,en',e,hf,k⟩:=h;obtain⟨R1,s1,e1⟩:=e.cut (dq hd).1 (dq hd).2;refine⟨Ox,en,R1,t,en',e1,hf,fun v H' R' F P o=>k v H' R' F ⟨P.env,P.fx,fun a o q n=>P.keep a o q fun i z=>n i (s1 i a z),fun a z=>(P.own a z).imp (fun⟨i,z⟩=>⟨i,s1 i a z⟩) id,P.dom,fun z=>nomatch z⟩ o⟩
def HA(hd:leD ds0 ds=true)(h:tF K true ds ds 3 f σ H Q):tF K true ds0 ds0 3 f σ H Q:=by
 obtain⟨Ox,en,R,t,en',e,hf,k⟩:=h;obtain⟨R1,s1,e1⟩:=e.cut (dq hd).1 (dq hd).2;refine⟨Ox,en,R1,t,en',e1,hf,fun v H' R' F P o=>?_⟩;obtain⟨a1,a2,a3⟩:=P.pure rfl;subst a1 a2;have nf:∀a,F a->H a=none:=fun a z=>by
  rcases P.own a (.inl z)with⟨i,z2⟩|z2
  ·exact absurd (.inl z) (P.env.dx i a z2)
  ·exact z2
 have nt:NewTo H H' F:=⟨a3,fun a z=>⟨nf a z,P.env.dom a (.inr (.inl z))⟩⟩;exact k v H' R F (Post.new e nt.1 nt.2) (Ow.full t o)
def Ht{g:D->Option D}(h:tF K p ds ds1 d (e1 g f) σ H Q):tUn (rF1 K g d) (tF K p ds ds1 d1 f) σ H Q:=by
 obtain⟨Ox,en,R,t,en',e,hf,k⟩:=h;unfold e1 at hf;obtain⟨⟨t1,en1⟩,h1,hf⟩:=zaa.mp hf;obtain⟨t',h3,hf⟩:=zab.mp hf;cases hf;refine⟨Ox,en,R,t1,en1,e,h1,fun v H' R' F P o=>?_⟩;refine⟨Own R' Ox,t1,t,Ow.letgo P (fun _ z=>z) o,P.doms,h3,fun v2 H2 F2 n o2=>k v2 H2 R' F2 (P.fin n) (mR▸o2)⟩
def my(h:tF K (p1&&p2) ds ds2 d (e2 g f1 f2) σ H Q):tOp (rF2 K g d) (tF K p1 ds ds1 d1 f1) (tF K p2 ds1 ds2 d2 f2) σ H Q:=by
 obtain⟨Ox,en,R,t,en',e,hf,k⟩:=h;unfold e2 at hf;obtain⟨⟨t1,en1⟩,h1,hf⟩:=zaa.mp hf;obtain⟨⟨t2,en2⟩,h2,hf⟩:=zaa.mp hf;obtain⟨t',h3,hf⟩:=zab.mp hf;cases hf;refine two e h1 h2 fun x y H2 R2 F1 F2 P o1 o2=>?_;exact⟨Own R2 Ox,t1,t2,t,Ow.letgo P (fun _=>.inl) o1,Ow.letgo P (fun _=>.inr) o2,P.doms,h3,fun v2 H3 F3 n o3=>k v2 H3 R2 F3 (P.fin n) (mR▸o3)⟩
def Post.after{R2:Nat->AS}{F:AS}(P1:Post K p1 ds1 Ox σ H en R en1 H1 R1 F1)(P2:Post K p2 ds2 Ox σ H1 en1 R1 en2 H' R2 F):Post K (p1&&p2) ds2 Ox σ H en R en2 H' R2 F:=by
 have P1':=P1.less (F':=NoA) fun _ z=>z.elim;have P2':Post K p2 ds2 (U NoA Ox) σ H1 en1 R1 en2 H' R2 F:=by rw[eQ];exact P2
 have:=P1'.trans P2';rw[eQ]at this;exact this
def Post.env0{F:AS}(P:Post K p ds' Ox σ H en R en' H' R' F):EnvOk K ds' Ox H' σ en' R':=P.env.fewer fun a z=>.inr z
def HC(h:tF K (p1&&p2) ds ds1 d (dS f1 f2) σ H Q):At (tF K p1 ds ds1 d1 f1) (tF K p2 ds1 ds1 d f2) σ H Q:=by
 obtain⟨Ox,en,R,t,en',e,hf,k⟩:=h;unfold dS at hf;obtain⟨⟨t1,en1⟩,h1,hf⟩:=zaa.mp hf;refine⟨Ox,en,R,t1,en1,e,h1,fun v H1 R1 F1 P1 o1=>?_⟩;cases t1 with
 |bool b=>
  have ev:v=.bl b:=o1;refine⟨b,ev,?_⟩;cases b with
  |true=>
   rw[if_pos rfl];exact⟨Ox,en1,R1,t,en',P1.env0,hf,fun v2 H2 R2 F2 P2 o2=>k v2 H2 R2 F2 (P1.after P2) o2⟩
  |false=>
   cases hf;rw[if_neg zbk];refine k _ H1 R1 NoA ?_ rfl
   have:=(P1.less (F':=NoA) fun _ z=>z.elim);exact⟨this.env,this.fx,this.keep,this.own,this.dom,fun hp=>this.pure (by cases p1<;>simp_all)⟩
 |_=>cases hf
def Ie(h:tF K (p1&&p2) ds ds1 d (eOr f1 f2) σ H Q):Ea (tF K p1 ds ds1 d1 f1) (tF K p2 ds1 ds1 d f2) σ H Q:=by
 obtain⟨Ox,en,R,t,en',e,hf,k⟩:=h;unfold eOr at hf;obtain⟨⟨t1,en1⟩,h1,hf⟩:=zaa.mp hf;refine⟨Ox,en,R,t1,en1,e,h1,fun v H1 R1 F1 P1 o1=>?_⟩;cases t1 with
 |bool b=>
  have ev:v=.bl b:=o1;refine⟨b,ev,?_⟩;cases b with
  |false=>
   rw[if_neg zbk];exact⟨Ox,en1,R1,t,en',P1.env0,hf,fun v2 H2 R2 F2 P2 o2=>k v2 H2 R2 F2 (P1.after P2) o2⟩
  |true=>
   cases hf;rw[if_pos rfl];refine k _ H1 R1 NoA ?_ rfl
   have:=(P1.less (F':=NoA) fun _ z=>z.elim);exact⟨this.env,this.fx,this.keep,this.own,this.dom,fun hp=>this.pure (by cases p1<;>simp_all)⟩
 |_=>cases hf
def Hu(h:tF K p ds ds1 3 (iE f) σ H Q):Aq (tF K p ds ds1 d1 f) σ H Q:=by
 obtain⟨Ox,en,R,t,en',e,hf,k⟩:=h;unfold iE at hf;obtain⟨⟨t1,en1⟩,h1,hf⟩:=zaa.mp hf;refine⟨Ox,en,R,t1,en1,e,h1,fun v H1 R1 F1 P1 o1=>?_⟩;cases t1 with
 |bool b=>
  cases hf;exact⟨b,o1,k _ H1 R1 NoA (P1.less fun _ z=>z.elim) rfl⟩
 |_=>cases hf
def tFT(K:zbQ)(p:Bool)(ds ds':List Nat)(f:MT):TT:=fun σ H Q=>
 ∃Ox en R b en',EnvOk K ds Ox H σ en R/\f en=some (b,en')/\∀H' R',Post K p ds' Ox σ H en R en' H' R' NoA->Q b H'
variable{c:MT}{QT:Bool->Hp->Prop}
def qw(h:tFT K p ds ds' (tV f) σ H QT):tB (tF K p ds ds' d f) σ H QT:=by
 obtain⟨Ox,en,R,b,en',e,hf,k⟩:=h;unfold tV at hf;obtain⟨⟨t1,en1⟩,h1,hf⟩:=zaa.mp hf;refine⟨Ox,en,R,t1,en1,e,h1,fun v H1 R1 F1 P1 o1=>?_⟩;cases t1 with
 |bool b=>
  cases hf;exact⟨_,o1,k H1 R1 (P1.less fun _ z=>z.elim)⟩
 |_=>cases hf
def Fw(h:tFT K (p1&&p2) ds ds1 (eJ c1 c2) σ H QT):Ej (tFT K p1 ds ds1 c1) (tFT K p2 ds1 ds1 c2) σ H QT:=by
 obtain⟨Ox,en,R,b,en',e,hf,k⟩:=h;unfold eJ at hf;obtain⟨⟨b1,en1⟩,h1,hf⟩:=zaa.mp hf;refine⟨Ox,en,R,b1,en1,e,h1,fun H1 R1 P1=>?_⟩;cases b1 with
 |true=>
  rw[if_pos rfl];exact⟨Ox,en1,R1,b,en',P1.env0,hf,fun H2 R2 P2=>k H2 R2 (P1.after P2)⟩
 |false=>
  cases hf;rw[if_neg zbk];exact k H1 R1 ⟨P1.env,P1.fx,P1.keep,P1.own,P1.dom,fun hp=>P1.pure (by cases p1<;>simp_all)⟩
def G8(h:tFT K (p1&&p2) ds ds1 (bOr c1 c2) σ H QT):tOr (tFT K p1 ds ds1 c1) (tFT K p2 ds1 ds1 c2) σ H QT:=by
 obtain⟨Ox,en,R,b,en',e,hf,k⟩:=h;unfold bOr at hf;obtain⟨⟨b1,en1⟩,h1,hf⟩:=zaa.mp hf;refine⟨Ox,en,R,b1,en1,e,h1,fun H1 R1 P1=>?_⟩;cases b1 with
 |false=>
  rw[if_neg zbk];exact⟨Ox,en1,R1,b,en',P1.env0,hf,fun H2 R2 P2=>k H2 R2 (P1.after P2)⟩
 |true=>
  cases hf;rw[if_pos rfl];exact k H1 R1 ⟨P1.env,P1.fx,P1.keep,P1.own,P1.dom,fun hp=>P1.pure (by cases p1<;>simp_all)⟩
def Fu(h:tFT K p ds ds1 (bN c) σ H QT):Ec (tFT K p ds ds1 c) σ H QT:=by
 obtain⟨Ox,en,R,b,en',e,hf,k⟩:=h;unfold bN at hf;obtain⟨⟨b1,en1⟩,h1,hf⟩:=zab.mp hf;cases hf;exact⟨Ox,en,R,b1,_,e,h1,fun H1 R1 P1=>k H1 R1 P1⟩
def Fv(hd:leD ds0 ds=true)(h:tFT K true ds ds c σ H QT):tFT K true ds0 ds0 c σ H QT:=by
 obtain⟨Ox,en,R,t,en',e,hf,k⟩:=h;obtain⟨R1,s1,e1⟩:=e.cut (dq hd).1 (dq hd).2;refine⟨Ox,en,R1,t,en',e1,hf,fun H' R' P=>?_⟩;obtain⟨a1,a2,a3⟩:=P.pure rfl;subst a1 a2;exact k H' R (Post.new e a3 fun _ z=>z.elim)
def Ih(h:tF K (p&&(p1&&p2)) ds ds2 d (eIf c f1 f2) σ H Q):tIf (tFT K p ds ds1 c) (tF K p1 ds1 ds2 d f1) (tF K p2 ds1 ds2 d f2) σ H Q:=by
 obtain⟨Ox,en,R,t,en',e,hf,k⟩:=h;unfold eIf at hf;obtain⟨⟨b1,en1⟩,h1,hf⟩:=zaa.mp hf;refine⟨Ox,en,R,b1,en1,e,h1,fun H1 R1 P1=>?_⟩;cases b1 with
 |true=>
  rw[if_pos rfl];refine⟨Ox,en1,R1,t,en',P1.env0,hf,fun v H2 R2 F2 P2 o2=>k v H2 R2 F2 ?_ o2⟩
  have:=P1.after P2;exact⟨this.env,this.fx,this.keep,this.own,this.dom,fun hp=>this.pure (by cases p<;>cases p1<;>simp_all)⟩
 |false=>
  rw[if_neg zbk];refine⟨Ox,en1,R1,t,en',P1.env0,hf,fun v H2 R2 F2 P2 o2=>k v H2 R2 F2 ?_ o2⟩
  have:=P1.after P2;exact⟨this.env,this.fx,this.keep,this.own,this.dom,fun hp=>this.pure (by cases p<;>cases p1<;>simp_all)⟩
end
abbrev Sh:=List (Nat ⊕ Nat)
variable{sh:Sh}
def OwA(K:zbQ)(O:AS)(H:Hp)(σ:St):List (D ⊕ Nat)->Sh->List V->AS->Prop
 |[],ds,vs,_=>ds=[]/\vs=[]
 |.inl t::as,ds,vs,F=>∃v r d dr,∃F1 F2:AS,vs=v::r/\ds=.inl d::dr/\(∀b,F1 b->F b)/\(∀b,F2 b->F b)/\(∀b,F1 b->¬F2 b)/\Ow K O H t d v F1/\OwA K O H σ as dr r F2
 |.inr i::as,ds,vs,F=>∃v r dr,vs=v::r/\ds=.inr i::dr/\σ[i]?=some (some v)/\OwA K O H σ as dr r F
def tFA(K:zbQ)(p:Bool)(ds ds':List Nat)(sh:Sh)(f:MA):TA:=fun σ H Q=>
 ∃Ox en R as en',EnvOk K ds Ox H σ en R/\f en=some (as,en')/\∀vs H' R' F,Post K p ds' Ox σ H en R en' H' R' F->OwA K (Own R' (U F Ox)) H' σ as sh vs F->Q vs H'
def a6(fa:MA):ME:=fun en=>(fa en).bind fun r=>(vals r.1).bind fun ts=>if ts.length<=sizeLine then some (.list ts,r.2)else none
def aX(fa:MA):ME:=fun en=>(fa en).bind fun r=>(vals r.1).bind fun ts=>if ts.length<=sizeLine then some (.tuple ts,r.2)else none
section
variable{QA:List V->Hp->Prop} 
def Gc(h:tFA K true ds ds [] af σ H QA):pG σ H QA:=by
 obtain⟨Ox,en,R,as,en',e,hf,k⟩:=h;cases hf;exact k [] H R NoA (Post.refl e) ⟨rfl,rfl⟩
def B9(h:tFA K (p1&&p2) ds ds2 (.inl d::sh) (aa f fa) σ H QA):ig (tF K p1 ds ds1 d f) (tFA K p2 ds1 ds2 sh fa) σ H QA:=by
 obtain⟨Ox,en,R,as,en',e,hf,k⟩:=h;unfold aa at hf;obtain⟨⟨t1,en1⟩,h1,hf⟩:=zaa.mp hf;obtain⟨⟨as2,en2⟩,h2,hf⟩:=zab.mp hf;cases hf;refine⟨Ox,en,R,t1,en1,e,h1,fun x H1 R1 F1 P1 o1=>?_⟩;refine⟨U F1 Ox,en1,R1,as2,en2,P1.env,h2,fun vs H2 R2 F2 P2 o2=>?_⟩;refine k (x::vs) H2 R2 (U F1 F2) (P1.trans P2) ⟨x,vs,d,sh,F1,F2,rfl,rfl,fun _=>.inl,fun _=>.inr,fun b z1 z2=>P2.fx b z2 (.inl z1),Ow.over P1.env P2 o1,?_⟩;rw[<-mK];exact o2
def B7(h:tFA K p ds ds2 (.inr i::sh) (aC i fa) σ H QA):ig (eA i) (tFA K p ds ds2 sh fa) σ H QA:=by
 obtain⟨Ox,en,R,as,en',e,hf,k⟩:=h;unfold aC at hf;obtain⟨t0,h0,hf⟩:=zaa.mp hf;obtain⟨⟨as2,en2⟩,h2,hf⟩:=zab.mp hf;cases hf;have q:en[i]?=some (some t0):=by
  cases q:en[i]? with
  |none=>rw[q]at h0;cases h0
  |some o=>rw[q]at h0;exact congrArg some h0
 obtain⟨v,d,h1,_⟩:=e.at_ i t0 q;exact⟨v,h1,Ox,en,R,as2,en2,e,h2,fun vs H2 R2 F2 P2 o2=>k (v::vs) H2 R2 F2 P2 ⟨v,vs,sh,rfl,rfl,h1,o2⟩⟩
def bS(c:Nat):Sh->Bool
 |[]=>true
 |.inl d::r=>decide (Le4 c d)&&bS c r
 |.inr _::_=>false
theorem OwA.ows:∀{as:List (D ⊕ Nat)} {sh:Sh} {vs:List V} {F:AS} {ts:List D} {c:Nat},bS c sh=true->vals as=some ts->OwA K O H σ as sh vs F ->
  ∃F':AS,(∀b,F' b->F b)/\∀O':AS,(∀a,O' a->O a)->(∀a,F a->O' a->F' a)->Ows K O' H ts c vs F'
 |[],_,_,F,ts,c,_,hv,h=>by
  cases hv;exact⟨F,fun _ z=>z,fun _ _ _=>h.2⟩
 |.inl t::as,_,_,F,ts,c,hs,hv,h=>by
  obtain⟨v,r,d,dr,F1,F2,e1,e2,s1,s2,s3,h1,h2⟩:=h;subst e1 e2;unfold vals at hv;obtain⟨ts',hv',e⟩:=zab.mp hv;subst e;unfold bS at hs;rw[zbj]at hs;obtain⟨G1,a1,a2⟩:=Ow.cut t (of_decide_eq_true hs.1) h1;obtain⟨G2,b1,b2⟩:=OwA.ows hs.2 hv' h2;refine⟨fun b=>G1 b\/G2 b,fun b hb=>hb.elim (fun z=>s1 _ (a1 _ z)) fun z=>s2 _ (b1 _ z),fun O' ho hx=>⟨v,r,G1,G2,rfl,fun b=>.inl,fun b=>.inr,fun b z1 z2=>s3 b (a1 b z1) (b1 b z2),a2 O' ho fun b hb hz=>?_,b2 O' ho fun b hb hz=>?_⟩⟩
  ·exact(hx b (s1 b hb) hz).elim id fun z=>absurd (b1 b z) (s3 b hb)
  ·exact(hx b (s2 b hb) hz).elim (fun z=>absurd hb (s3 b (a1 b z))) id
 |.inr i::as,_,_,F,ts,c,_,hv,_=>by cases hv
theorem OwA.len:∀{as:List (D ⊕ Nat)} {sh:Sh} {vs:List V} {F:AS},OwA K O H σ as sh vs F->vs.length=as.length
 |[],_,_,_,h=>by rw[h.2];rfl
 |.inl t::as,_,_,_,h=>by
  obtain⟨v,r,d,dr,F1,F2,e1,e2,s1,s2,s3,h1,h2⟩:=h;rw[e1,zac,zac,h2.len]
 |.inr i::as,_,_,_,h=>by
  obtain⟨v,r,dr,e1,e2,e3,h2⟩:=h;rw[e1,zac,zac,h2.len]
theorem ln:∀{as:List (D ⊕ Nat)} {ts:List D},vals as=some ts->ts.length=as.length
 |[],_,h=>by cases h;rfl
 |.inl t::as,_,h=>by
  unfold vals at h;obtain⟨ts',hv',e⟩:=zab.mp h;subst e;rw[zac,zac,ln hv']
 |.inr _::_,_,h=>by cases h
def vJ{g:List D->Option D}(hs:bS 0 sh=true)(h:tF K p ds ds1 d (eN g fa) σ H Q):tCB (rFn K g d) (tFA K p ds ds1 sh fa) σ H Q:=by
 obtain⟨Ox,en,R,t,en',e,hf,k⟩:=h;unfold eN at hf;obtain⟨⟨as,en1⟩,h1,hf⟩:=zaa.mp hf;obtain⟨ts,h2,hf⟩:=zaa.mp hf;obtain⟨t',h3,hf⟩:=zab.mp hf;cases hf;refine⟨Ox,en,R,as,en1,e,h1,fun vs H1 R1 F P o=>?_⟩;obtain⟨F',s1,s2⟩:=OwA.ows hs h2 o;have o2:Ows K (Own R1 Ox) H1 ts 0 vs F':=s2 _ (fun a z=>z.imp id .inr) fun a z z2=>by
  rcases z2 with⟨i,z2⟩|z2
  ·exact absurd (.inl z) (P.env.dx i a z2)
  ·exact absurd z2 (P.fx a z)
 exact⟨Own R1 Ox,ts,t,Ows.any0 ts o2,P.doms,h3,fun v2 H2 F2 n o2=>k v2 H2 R1 F2 (P.fin n) (mR▸o2)⟩
def Post.add{F:AS}(P:Post K p ds' Ox σ H en R en' H1 R' F)(n:NewTo H1 H' G):Post K p ds' Ox σ H en R en' H' R' (U F G):=by
 have P2:Post K true ds' (U F Ox) σ H1 en' R' en' H' R' G:=Post.new P.env n.1 n.2
 have:=P.trans P2;rw[zbO]at this;exact this
def bq{o:HO}(hl:H l=none):NewTo H (upd H l o) (fun b=>b=l):=by
 refine⟨fun a u q=>?_,fun a z=>?_⟩
 ·rw[au]
  ·exact q
  ·intro z;subst z;rw[hl]at q;cases q
 ·subst z;exact⟨hl,_,ax⟩
def Hv(hs:bS c sh=true)(hd:dn d=c)(hz:d≠0)(h:tF K p ds ds1 d (a6 fa) σ H Q):wp (tFA K p ds ds1 sh fa) σ H Q:=by
 obtain⟨Ox,en,R,t,en',e,hf,k⟩:=h;unfold a6 at hf;obtain⟨⟨as,en1⟩,h1,hf⟩:=zaa.mp hf;obtain⟨ts,h2,hf⟩:=zaa.mp hf;by_cases ξ:ts.length<=sizeLine
 case neg=>rw[if_neg ξ]at hf;cases hf
 rw[if_pos ξ]at hf;cases hf;refine⟨Ox,en,R,as,en1,e,h1,fun vs H1 R1 F P o=>⟨?_,fun l hl=>?_⟩⟩
 ·rw[o.len,<-ln h2];exact ξ
 obtain⟨F',s1,s2⟩:=OwA.ows hs h2 o;have o2:=s2 (Own R1 (U F' Ox)) (fun a z=>z.imp id fun z=>z.imp (s1 a) id) fun a z z2=>by
  rcases z2 with⟨i,z2⟩|z2|z2
  ·exact absurd (.inl z) (P.env.dx i a z2)
  ·exact z2
  ·exact absurd z2 (P.fx a z)
 have P':=(P.less s1).add (bq (o:=.lst vs) hl);have nl:∀a,F' a->a≠l:=fun a z z2=>by
  subst z2;obtain⟨o',q⟩:=P.env.dom a (.inr (.inl (s1 a z)));rw[hl]at q;cases q
 refine k (.ref l) (upd H1 l (.lst vs)) R1 _ P' ⟨l,vs,rfl,.inr ⟨hz,ax,.inr rfl,F',fun b z=>⟨.inl z,nl b z⟩,?_⟩⟩;rw[hd];refine Ows.mv (G:=F') ⟨fun a o q _=>(bq (o:=.lst vs) hl).1 a o q,fun a z=>?_⟩ ts (fun _ z=>z) o2;rcases z with z | (z|z)|z
 ·exact .inl (.inl z)
 ·exact .inl (.inr (.inl z))
 ·exact .inr (by rw[show a=l from z];exact hl)
 ·exact .inl (.inr (.inr z))
def Hq(hs:bS c sh=true)(hd:dn d=c)(h:tF K p ds ds1 d (aX fa) σ H Q):D7 (tFA K p ds ds1 sh fa) σ H Q:=by
 obtain⟨Ox,en,R,t,en',e,hf,k⟩:=h;unfold aX at hf;obtain⟨⟨as,en1⟩,h1,hf⟩:=zaa.mp hf;obtain⟨ts,h2,hf⟩:=zaa.mp hf;by_cases ξ:ts.length<=sizeLine
 case neg=>rw[if_neg ξ]at hf;cases hf
 rw[if_pos ξ]at hf;cases hf;refine⟨Ox,en,R,as,en1,e,h1,fun vs H1 R1 F P o=>⟨?_,fun l hl=>?_⟩⟩
 ·rw[o.len,<-ln h2];exact ξ
 obtain⟨F',s1,s2⟩:=OwA.ows hs h2 o;have o2:=s2 (Own R1 (U F' Ox)) (fun a z=>z.imp id fun z=>z.imp (s1 a) id) fun a z z2=>by
  rcases z2 with⟨i,z2⟩|z2|z2
  ·exact absurd (.inl z) (P.env.dx i a z2)
  ·exact z2
  ·exact absurd z2 (P.fx a z)
 have nl:∀a,Own R1 (U F' Ox) a->a≠l:=fun a z z2=>by
  subst z2;obtain⟨o',q⟩:=P.env.dom a (z.imp id fun z=>z.imp (s1 a) id);rw[hl]at q;cases q
 by_cases hz:d=0
 ·subst hz;have P':=(P.less s1).add (G:=NoA) (H':=upd H1 l (.tup vs)) ⟨(bq (o:=.tup vs) hl).1,fun _ z=>z.elim⟩;have eq:U F' NoA=F':=dN fun a=>⟨fun z=>z.elim id fun z=>z.elim,.inl⟩;rw[eq]at P';refine k (.ref l) (upd H1 l (.tup vs)) R1 _ P' ⟨l,vs,rfl,.inl ⟨rfl,⟨ax,fun z=>nl l z rfl⟩,?_⟩⟩;have hc:c=0:=hd.symm;subst hc;exact Ows.mv (G:=F') ⟨fun a o q _=>(bq (o:=.tup vs) hl).1 a o q,fun a z=>.inl z⟩ ts (fun _ z=>z) o2
 ·have P':=(P.less s1).add (bq (o:=.tup vs) hl);refine k (.ref l) (upd H1 l (.tup vs)) R1 _ P' ⟨l,vs,rfl,.inr ⟨hz,ax,.inr rfl,F',fun b z=>⟨.inl z,nl b (.inr (.inl z))⟩,?_⟩⟩;rw[hd];refine Ows.mv (G:=F') ⟨fun a o q _=>(bq (o:=.tup vs) hl).1 a o q,fun a z=>?_⟩ ts (fun _ z=>z) o2;rcases z with z | (z|z)|z
  ·exact .inl (.inl z)
  ·exact .inl (.inr (.inl z))
  ·exact .inr (by rw[show a=l from z];exact hl)
  ·exact .inl (.inr (.inr z))
end
def spF(K:zbQ)(dps:List Nat)(dr:Nat)(F:List D->Option (D×En)):Sp:=fun vs H Q _=>
 ∃Ox ts R r ψ,EnvOk K dps Ox H (vs.map some) (ts.map some) R/\F ts=some (r,ψ) /\
  ∀v H' R' Fr,Post K false dps Ox (vs.map some) H (ts.map some) R ψ H' R' Fr->Ow K (Own R' (U Fr Ox)) H' r dr v Fr->Q v H'
def eK:List (D ⊕ Nat)->En->Option (List D)
 |[],_=>some []
 |.inl t::r,en=>(eK r en).map (t::·)
 |.inr i::r,en=>(en[i]?).join.bind fun t=>(eK r en).map (t::·)
def wb:List (D ⊕ Nat)->En->En->En
 |.inr i::r,o::ψ,en=>wb r ψ (en.set i o)
 |.inl _::r,_::ψ,en=>wb r ψ en
 |_,_,en=>en
def ai(F:List D->Option (D×En))(fa:MA):ME:=fun en=>(fa en).bind fun r=>(eK r.1 r.2).bind fun ts=>(F ts).map fun q=>(q.1,wb r.1 q.2 r.2)
def iO:Sh->List Nat
 |[]=>[]
 |.inl _::r=>iO r
 |.inr i::r=>i::iO r
def cc(ds:List Nat):Sh->List Nat->Bool
 |[],[]=>true
 |.inl d::r,q::s=>decide (d=q)&&cc ds r s
 |.inr i::r,q::s=>decide (ds[i]?=some q)&&(decide (i∉iO r)&&cc ds r s)
 |_,_=>false
def fI:Sh->Bool
 |[]=>true
 |.inl _::r=>fI r
 |.inr _::_=>false
section
variable{dps:List Nat}{QA:List V->Hp->Prop} 
theorem OwA.parts:∀{as:List (D ⊕ Nat)} {sh:Sh} {vs:List V} {F:AS},OwA K O H σ as sh vs F ->
  ∃Rp:Nat->AS,(∀(j:Nat) t,as[j]?=some (.inl t)->∃v d,vs[j]?=some v/\sh[j]?=some (.inl d)/\Ow K O H t d v (Rp j))/\(∀(j i:Nat),as[j]?=some (.inr i)->∃v,vs[j]?=some v/\sh[j]?=some (.inr i)/\σ[i]?=some (some v)) /\
   (∀j a,Rp j a->F a)/\(∀j j' a,Rp j a->Rp j' a->j=j')
 |[],sh,vs,F,h=>⟨fun _=>NoA,fun j t z=>by simp at z,fun j i z=>by simp at z,fun _ _ z=>z.elim,fun _ _ _ z=>z.elim⟩
 |.inl t::as,sh,vs,F,h=>by
  obtain⟨v,r,d,dr,F1,F2,e1,e2,s1,s2,s3,h1,h2⟩:=h;subst e1 e2;obtain⟨Rp,a1,a2,a3,a4⟩:=h2.parts;refine⟨fun j=>match j with|0=>F1|j+1=>Rp j,fun j u hj=>?_,fun j i hj=>?_,fun j a z=>?_,fun j j' a z z'=>?_⟩
  ·cases j with
   |zero=>
    have:t=u:=by simpa using hj
    subst this;exact⟨v,d,rfl,rfl,h1⟩
   |succ j=>exact a1 j u (by simpa using hj)
  ·cases j with
   |zero=>simp at hj
   |succ j=>exact a2 j i (by simpa using hj)
  ·cases j with
   |zero=>exact s1 a z
   |succ j=>exact s2 a (a3 j a z)
  ·cases j with
   |zero=>
    cases j' with
    |zero=>rfl
    |succ j'=>exact absurd (a3 j' a z') (s3 a z)
   |succ j=>
    cases j' with
    |zero=>exact absurd (a3 j a z) (s3 a z')
    |succ j'=>rw[a4 j j' a z z']
 |.inr i::as,sh,vs,F,h=>by
  obtain⟨v,r,dr,e1,e2,e3,h2⟩:=h;subst e1 e2;obtain⟨Rp,a1,a2,a3,a4⟩:=h2.parts;refine⟨fun j=>match j with|0=>NoA|j+1=>Rp j,fun j u hj=>?_,fun j i' hj=>?_,fun j a z=>?_,fun j j' a z z'=>?_⟩
  ·cases j with
   |zero=>simp at hj
   |succ j=>exact a1 j u (by simpa using hj)
  ·cases j with
   |zero=>
    have:i=i':=by simpa using hj
    subst this;exact⟨v,rfl,rfl,e3⟩
   |succ j=>exact a2 j i' (by simpa using hj)
  ·cases j with
   |zero=>exact z.elim
   |succ j=>exact a3 j a z
  ·cases j with
   |zero=>exact z.elim
   |succ j=>
    cases j' with
    |zero=>exact z'.elim
    |succ j'=>rw[a4 j j' a z z']
theorem lL:∀{as:List (D ⊕ Nat)} {en:En} {ts:List D},eK as en=some ts->ts.length=as.length/\∀(j:Nat) t,ts[j]?=some t->as[j]?=some (.inl t)\/∃i,as[j]?=some (.inr i)/\en[i]?=some (some t)
 |[],_,_,h=>by cases h;exact⟨rfl,fun j t z=>by simp at z⟩
 |.inl t::as,en,_,h=>by
  unfold eK at h;obtain⟨ts',h',e⟩:=zab.mp h;subst e;obtain⟨l,g⟩:=lL h';refine⟨by rw[zac,zac,l],fun j u z=>?_⟩;cases j with
  |zero=>simp at z;subst z;exact .inl rfl
  |succ j=>exact g j u (by simpa using z)
 |.inr i::as,en,_,h=>by
  unfold eK at h;obtain⟨t,ht,h⟩:=zaa.mp h;obtain⟨ts',h',e⟩:=zab.mp h;subst e;obtain⟨l,g⟩:=lL h';refine⟨by rw[zac,zac,l],fun j u z=>?_⟩;cases j with
  |zero=>
   simp at z;subst z;refine .inr ⟨i,rfl,?_⟩;cases q:en[i]? with
   |none=>rw[q]at ht;cases ht
   |some o=>rw[q]at ht;exact congrArg some ht
  |succ j=>exact g j u (by simpa using z)
theorem j9:∀{sh:Sh} {dps:List Nat},cc ds sh dps=true->sh.length=dps.length/\(∀(j d:Nat),sh[j]?=some (.inl d)->dps[j]?=some d)/\(∀(j i:Nat),sh[j]?=some (.inr i)->∃q,dps[j]?=some q/\ds[i]?=some q) /\
   (∀(j j' i:Nat),sh[j]?=some (.inr i)->sh[j']?=some (.inr i)->j=j')
 |[],[],_=>⟨rfl,fun j d z=>by simp at z,fun j d z=>by simp at z,fun j j' d z=>by simp at z⟩
 |.inl d::r,q::s,h=>by
  unfold cc at h;rw[zbj]at h;obtain⟨h1,h2⟩:=h;have h1':=of_decide_eq_true h1;subst h1';obtain⟨l,a,b,c⟩:=j9 h2;refine⟨by rw[zac,zac,l],fun j u z=>?_,fun j i z=>?_,fun j j' i z z'=>?_⟩
  ·cases j with
   |zero=>simp at z;subst z;rfl
   |succ j=>exact a j u (by simpa using z)
  ·cases j with
   |zero=>simp at z
   |succ j=>exact b j i (by simpa using z)
  ·cases j with
   |zero=>simp at z
   |succ j=>
    cases j' with
    |zero=>simp at z'
    |succ j'=>rw[c j j' i (by simpa using z) (by simpa using z')]
 |.inr i0::r,q::s,h=>by
  unfold cc at h;rw[zbj,zbj]at h;obtain⟨h1,h2,h3⟩:=h;have h1':=of_decide_eq_true h1;have h2':=of_decide_eq_true h2;obtain⟨l,a,b,c⟩:=j9 h3;have mem:∀{r:Sh} {j i:Nat},r[j]?=some (.inr i)->i∈iO r:=fun {r}=>by
   induction r with
   |nil=>intro j i z;simp at z
   |cons x r ih=>
    intro j i z;cases j with
    |zero=>
     simp at z;subst z;unfold iO;exact zaq
    |succ j=>
     have:=ih (j:=j) (i:=i) (by simpa using z);cases x with
     |inl _=>exact this
     |inr _=>exact zaj _ this
  refine⟨by rw[zac,zac,l],fun j u z=>?_,fun j i z=>?_,fun j j' i z z'=>?_⟩
  ·cases j with
   |zero=>simp at z
   |succ j=>exact a j u (by simpa using z)
  ·cases j with
   |zero=>simp at z;subst z;exact⟨q,rfl,h1'⟩
   |succ j=>exact b j i (by simpa using z)
  ·cases j with
   |zero=>
    simp at z;subst z;cases j' with
    |zero=>rfl
    |succ j'=>exact absurd (mem (by simpa using z')) h2'
   |succ j=>
    cases j' with
    |zero=>
     simp at z';subst z';exact absurd (mem (by simpa using z)) h2'
    |succ j'=>rw[c j j' i (by simpa using z) (by simpa using z')]
 |[],_::_,h=>nomatch h
 |.inl _::_,[],h=>nomatch h
 |.inr _::_,[],h=>nomatch h
theorem pB:∀(as:List (D ⊕ Nat)) (ψ en:En),(wb as ψ en).length=en.length
 |[],_,_=>by unfold wb;rfl
 |.inl _::as,[],_=>by unfold wb;rfl
 |.inr _::as,[],_=>by unfold wb;rfl
 |.inl _::as,o::ψ,en=>by unfold wb;exact pB as ψ en
 |.inr i::as,o::ψ,en=>by unfold wb;rw[pB as ψ _,zaV]
theorem iM:∀(as:List (D ⊕ Nat)) (ψ en:En) (i:Nat),(∀j:Nat,as[j]?≠some (.inr i))->(wb as ψ en)[i]?=en[i]?
 |[],_,_,_,_=>by unfold wb;rfl
 |.inl _::as,[],_,_,_=>by unfold wb;rfl
 |.inr _::as,[],_,_,_=>by unfold wb;rfl
 |.inl _::as,o::ψ,en,i,h=>by unfold wb;exact iM as ψ en i fun j=>h (j+1)
 |.inr k::as,o::ψ,en,i,h=>by
  unfold wb;rw[iM as ψ _ i fun j=>h (j+1),zaO];intro e;subst e;exact h 0 rfl
theorem ss:∀(as:List (D ⊕ Nat)) (ψ en:En) (i j:Nat),as[j]?=some (.inr i)->(∀j':Nat,as[j']?=some (.inr i)->j'=j)->ψ.length=as.length->i<en.length->(wb as ψ en)[i]?=ψ[j]?
 |[],_,_,_,_,h,_,_,_=>by simp at h
 |.inl _::as,[],_,_,_,_,_,h,_=>by simp at h
 |.inr _::as,[],_,_,_,_,_,h,_=>by simp at h
 |.inl _::as,o::ψ,en,i,j,h,u,l,b=>by
  unfold wb;cases j with
  |zero=>simp at h
  |succ j=>exact ss as ψ en i j (by simpa using h) (fun j' z=>by have:=u (j'+1) (by simpa using z);omega) (by simpa using l) b
 |.inr k::as,o::ψ,en,i,j,h,u,l,b=>by
  unfold wb;cases j with
  |zero=>
   have e:k=i:=by simpa using h
   subst e;rw[iM as ψ _ k fun j' z=>by have:=u (j'+1) (by simpa using z);omega];rw[zaP b];rfl
  |succ j=>exact ss as ψ _ i j (by simpa using h) (fun j' z=>by have:=u (j'+1) (by simpa using z);omega) (by simpa using l) (by rw[zaV];exact b)
theorem OwA.shl:∀{as:List (D ⊕ Nat)} {sh:Sh} {vs:List V} {F:AS},OwA K O H σ as sh vs F->sh.length=as.length
 |[],_,_,_,h=>by rw[h.1];rfl
 |.inl t::as,_,_,_,h=>by
  obtain⟨v,r,d,dr,F1,F2,e1,e2,s1,s2,s3,h1,h2⟩:=h;rw[e2,zac,zac,h2.shl]
 |.inr i::as,_,_,_,h=>by
  obtain⟨v,r,dr,e1,e2,e3,h2⟩:=h;rw[e2,zac,zac,h2.shl]
theorem l8:∀{sh:Sh},fI sh=true->∀(j i:Nat),sh[j]?≠some (.inr i)
 |[],_,j,i,z=>by simp at z
 |.inl _::r,h,j,i,z=>by
  cases j with
  |zero=>simp at z
  |succ j=>exact l8 (sh:=r) h j i (by simpa using z)
 |.inr _::r,h,_,_,_=>nomatch h
def AU{E:XK}{F:List D->Option (D×En)}(hc:cc ds1 sh dps=true)(h:∃Ox en R t en',EnvOk K ds Ox H σ en R/\ai F fa en=some (t,en')/\∀v H' R' F,Post K (p&&fI sh) ds1 Ox σ H en R en' H' R' F->(p=true->∀i0:Nat,(∀j:Nat,sh[j]?≠some (.inr i0))->(∀a o,H a=some o->R i0 a->H' a=some o)/\en'[i0]?=en[i0]?)->Ow K (Own R' (U F Ox)) H' t dr v F->Q v H'):lU (spF K dps dr F) [] E (tFA K p ds ds1 sh fa) σ H Q:=by
 obtain⟨Ox,en,R,t,en',e,hf,k⟩:=h;unfold ai at hf;obtain⟨⟨as,en1⟩,h1,hf⟩:=zaa.mp hf;obtain⟨ts,h2,hf⟩:=zaa.mp hf;obtain⟨⟨r,ψ⟩,h3,hf⟩:=zab.mp hf;cases hf;refine⟨Ox,en,R,as,en1,e,h1,fun vs H1 R1 F0 P o=>?_⟩;obtain⟨cl,c1,c2,c3⟩:=j9 hc;obtain⟨Rp,a1,a2,a3,a4⟩:=o.parts;obtain⟨tl,tg⟩:=lL h2;have ol:=o.len;have asl:∀(j i:Nat),as[j]?=some (.inr i)->sh[j]?=some (.inr i):=fun j i z=>(a2 j i z).choose_spec.2.1;have asr:∀(j i:Nat),sh[j]?=some (.inr i)->as[j]?=some (.inr i):=fun j i z=>by
  cases q:as[j]? with
  |none=>
   have e1:as.length<=j:=List.getElem?_eq_none_iff.mp q;have e2:j<sh.length:=(zah.mp z).1
   have:=o.shl;omega
  |some x=>
   cases x with
   |inl t=>
    obtain⟨_,_,_,e2,_⟩:=a1 j t q;rw[z]at e2;cases e2
   |inr i'=>
    have:=asl j i' q;rw[z]at this;cases this;rfl
 let Rq:Nat->AS:=fun j=>match sh[j]? with|some (.inr i)=>R1 i|_=>Rp j
 have rq1:∀j i:Nat,sh[j]?=some (.inr i)->Rq j=R1 i:=fun j i z=>by show(match sh[j]? with|some (.inr i)=>R1 i|_=>Rp j)=R1 i;rw[z]
 have rq2:∀j:Nat,(∀i:Nat,sh[j]?≠some (.inr i))->Rq j=Rp j:=fun j z=>by
  show(match sh[j]? with|some (.inr i)=>R1 i|_=>Rp j)=Rp j;split
  ·next i q=>exact absurd q (z i)
  ·rfl
 have rqc:∀(j:Nat) a,Rq j a->(∃i,sh[j]?=some (.inr i)/\R1 i a)\/Rp j a:=fun j a z=>by
  by_cases q:∃i,sh[j]?=some (.inr i)
  ·obtain⟨i,q⟩:=q;rw[rq1 j i q]at z;exact .inl ⟨i,q,z⟩
  ·rw[rq2 j fun i z=>q ⟨i,z⟩]at z;exact .inr z
 let Oxp:AS:=fun a=>Ox a\/∃i,R1 i a/\∀j:Nat,sh[j]?≠some (.inr i);have sub:∀a,Own Rq Oxp a->Own R1 (U F0 Ox) a:=fun a z=>by
  rcases z with⟨j,z⟩|z|⟨i,z,_⟩
  ·rcases rqc j a z with⟨i,_,z⟩|z
   ·exact .inl ⟨i,z⟩
   ·exact .inr (.inl (a3 j a z))
  ·exact .inr (.inr z)
  ·exact .inl ⟨i,z⟩
 have ec:EnvOk K dps Oxp H1 (vs.map some) (ts.map some) Rq:=by
  refine⟨fun j u hu=>?_,fun j j' a z z'=>?_,fun j a z z2=>?_,fun a z=>P.env.dom a (sub a z),by rw[zad,zad,tl,ol],?_⟩
  ·rw[zao]at hu;obtain⟨u',hu,eu⟩:=zab.mp hu;cases eu;rcases tg j u hu with q|⟨i,q,qe⟩
   ·obtain⟨v,d,b1,b2,b3⟩:=a1 j u q;refine⟨v,d,by rw[zao,b1];rfl,c1 j d b2,?_⟩;rw[rq2 j fun i z=>by rw[b2]at z;cases z];exact Ow.grow sub u (fun _ z=>z) b3
   ·obtain⟨v,b1,b2,b3⟩:=a2 j i q;obtain⟨v',d,g1,g2,g3⟩:=P.env.at_ i u qe;rw[b3]at g1;cases g1;obtain⟨qd,q1,q2⟩:=c2 j i b2;rw[g2]at q2;cases q2;refine⟨v,d,by rw[zao,b1];rfl,q1,?_⟩;rw[rq1 j i b2];exact Ow.grow sub u (fun _ z=>z) g3
  ·rcases rqc j a z with⟨i,q,z⟩|z<;>rcases rqc j' a z' with⟨i',q',z'⟩|z'
   ·have:=P.env.dj i i' a z z';subst this;exact c3 j j' i q q'
   ·exact absurd (.inl (a3 j' a z')) (P.env.dx i a z)
   ·exact absurd (.inl (a3 j a z)) (P.env.dx i' a z')
   ·exact a4 j j' a z z'
  ·rcases rqc j a z with⟨i,q,z⟩|z
   ·rcases z2 with z2|⟨i',z2,n⟩
    ·exact P.env.dx i a z (.inr z2)
    ·have:=P.env.dj i i' a z z2;subst this;exact n j q
   ·rcases z2 with z2|⟨i',z2,n⟩
    ·exact P.fx a (a3 j a z) z2
    ·exact P.env.dx i' a z2 (.inl (a3 j a z))
  ·have:=o.shl;rw[zad];omega
 rw[List.append_nil];refine⟨Oxp,ts,Rq,r,ψ,ec,h3,fun v H2 R2 Fr Pc oc=>?_⟩;have outl:ψ.length=as.length:=by rw[Pc.env.l1,zad];exact ol
 classical
 let R3:Nat->AS:=fun i=>if q:∃j:Nat,sh[j]?=some (.inr i)then R2 q.choose else R1 i
 have r31:∀(i j:Nat),sh[j]?=some (.inr i)->R3 i=R2 j:=fun i j z=>by
  have q:∃j:Nat,sh[j]?=some (.inr i):=⟨j,z⟩
  have:q.choose=j:=c3 _ _ i q.choose_spec z;show(if q:∃j:Nat,sh[j]?=some (.inr i)then R2 q.choose else R1 i)=R2 j;rw[dif_pos q,this]
 have r32:∀i:Nat,(∀j:Nat,sh[j]?≠some (.inr i))->R3 i=R1 i:=fun i z=>by
  show(if q:∃j:Nat,sh[j]?=some (.inr i)then R2 q.choose else R1 i)=R1 i;rw[dif_neg fun⟨j,q⟩=>z j q]
 have r3c:∀(i:Nat) a,R3 i a->(∃j:Nat,sh[j]?=some (.inr i)/\R2 j a)\/((∀j:Nat,sh[j]?≠some (.inr i))/\R1 i a):=fun i a z=>by
  by_cases q:∃j:Nat,sh[j]?=some (.inr i)
  ·obtain⟨j,q⟩:=q;rw[r31 i j q]at z;exact .inl ⟨j,q,z⟩
  ·rw[r32 i fun j z=>q ⟨j,z⟩]at z;exact .inr ⟨fun j z=>q ⟨j,z⟩,z⟩
 have gV:∀a,Own R3 (U Fr Ox) a->Own R2 (U Fr Oxp) a:=fun a z=>by
  rcases z with⟨i,z⟩|z|z
  ·rcases r3c i a z with⟨j,_,z⟩|⟨n,z⟩
   ·exact .inl ⟨j,z⟩
   ·exact .inr (.inr (.inr ⟨i,z,n⟩))
  ·exact .inr (.inl z)
  ·exact .inr (.inr (.inl z))
 have back:∀a,(Fr a\/∃j,R2 j a)->Own R1 (U F0 Ox) a\/H1 a=none:=fun a z=>by
  rcases Pc.own a z with⟨j,z⟩|z
  ·exact .inl (sub a (.inl ⟨j,z⟩))
  ·exact .inr z
 have x':∀a,(Fr a\/∃j,R2 j a)->(F0 a\/∃i,R1 i a)\/H1 a=none:=fun a z=>by
  rcases Pc.own a z with⟨j,z⟩|z
  ·rcases rqc j a z with⟨i,_,z⟩|z
   ·exact .inl (.inr ⟨i,z⟩)
   ·exact .inl (.inl (a3 j a z))
  ·exact .inr z
 have n1:∀a,H1 a=none->H a=none:=fun a z=>by
  cases q:H a with
  |none=>rfl
  |some o=>
   obtain⟨o',q'⟩:=P.dom a o q;rw[z]at q';cases q'
 have rqsub:∀j a,Rq j a->Own R1 (U F0 Ox) a:=fun j a z=>sub a (.inl ⟨j,z⟩);have env3:EnvOk K ds1 (U Fr Ox) H2 σ (wb as ψ en1) R3:=by
  refine⟨fun i u hu=>?_,fun i i' a z z'=>?_,fun i a z z2=>?_,fun a z=>Pc.env.dom a (gV a z),by rw[pB];exact P.env.l1,P.env.l2⟩
  ·by_cases q:∃j:Nat,as[j]?=some (.inr i)
   ·obtain⟨j,q⟩:=q;obtain⟨v,b1,b2,b3⟩:=a2 j i q;have hil:i<en1.length:=by rw[P.env.l1];exact(zah.mp b3).1
    rw[ss as ψ en1 i j q (fun j' z=>c3 j' j i (asl j' i z) b2) outl hil]at hu;obtain⟨v',d,g1,g2,g3⟩:=Pc.env.at_ j u hu;rw[zao,b1]at g1;cases g1;obtain⟨qd,q1,q2⟩:=c2 j i b2;rw[g2]at q1;cases q1;refine⟨v,d,b3,q2,?_⟩;rw[r31 i j b2];exact Ow.grow gV u (fun _ z=>z) g3
   ·rw[iM as ψ en1 i fun j z=>q ⟨j,z⟩]at hu;have ns:∀j:Nat,sh[j]?≠some (.inr i):=fun j z=>q ⟨j,asr j i z⟩;obtain⟨v,d,g1,g2,g3⟩:=P.env.at_ i u hu;refine⟨v,d,g1,g2,?_⟩;rw[r32 i ns];refine Ow.mv (G:=R1 i) ⟨fun a o q z=>Pc.keep a o q fun j zj=>?_,fun a z=>?_⟩ u (fun _ z=>z) g3
    ·rcases z with z|z
     ·exact z (rqsub j a zj)
     ·rcases rqc j a zj with⟨i',q',z'⟩|z'
      ·have:=P.env.dj i i' a z z';subst this;exact ns j q'
      ·exact P.env.dx i a z (.inl (a3 j a z'))
    ·rcases z with⟨i',z⟩|z|z
     ·rcases r3c i' a z with⟨j,_,z⟩|⟨n,z⟩
      ·exact back a (.inr ⟨j,z⟩)
      ·exact .inl (.inl ⟨i',z⟩)
     ·exact back a (.inl z)
     ·exact .inl (.inr (.inr z))
  ·rcases r3c i a z with⟨j,q,z⟩|⟨n,z⟩<;>rcases r3c i' a z' with⟨j',q',z'⟩|⟨n',z'⟩
   ·have:=Pc.env.dj j j' a z z';subst this;rw[q]at q';cases q';rfl
   ·exact absurd (.inr (.inr ⟨i',z',n'⟩)) (Pc.env.dx j a z)
   ·exact absurd (.inr (.inr ⟨i,z,n⟩)) (Pc.env.dx j' a z')
   ·exact P.env.dj i i' a z z'
  ·rcases r3c i a z with⟨j,q,z⟩|⟨n,z⟩
   ·exact Pc.env.dx j a z (z2.imp id .inl)
   ·rcases z2 with z2|z2
    ·exact Pc.fx a z2 (.inr ⟨i,z,n⟩)
    ·exact P.env.dx i a z (.inr z2)
 refine k v H2 R3 Fr ⟨env3,fun a z z2=>Pc.fx a z (.inl z2),fun a o q n=>?_,fun a z=>?_,fun a o q=>?_,fun hp=>?_⟩ (fun hp i0 hi0=>⟨fun a o q z=>?_,?_⟩) (Ow.grow gV r (fun _ z=>z) oc)
 ·refine Pc.keep a o (P.keep a o q n) fun j z=>?_;have nn:∀i,¬R1 i a:=fun i z=>by
   rcases P.own a (.inr ⟨i,z⟩)with⟨i',z⟩|z
   ·exact n i' z
   ·rw[q]at z;cases z
  rcases rqc j a z with⟨i,_,z⟩|z
  ·exact nn i z
  ·rcases P.own a (.inl (a3 j a z))with⟨i',z⟩|z
   ·exact n i' z
   ·rw[q]at z;cases z
 ·have:(F0 a\/∃i,R1 i a)\/H1 a=none:=by
   rcases z with z|⟨i,z⟩
   ·exact x' a (.inl z)
   ·rcases r3c i a z with⟨j,_,z⟩|⟨n,z⟩
    ·exact x' a (.inr ⟨j,z⟩)
    ·exact .inl (.inr ⟨i,z⟩)
  rcases this with z|z
  ·exact P.own a z
  ·exact .inr (n1 a z)
 ·obtain⟨o',q'⟩:=P.dom a o q;exact Pc.dom a o' q'
 ·obtain⟨hp1,hp2⟩:=(zbj _ _▸hp:p=true/\fI sh=true);obtain⟨b1,b2,b3⟩:=P.pure hp1;have ns:=l8 hp2;refine⟨?_,?_,fun a o q=>?_⟩
  ·show wb as ψ en1=en;rw[<-b1];refine List.ext_getElem? fun i=>?_;exact iM as ψ en1 i fun j z=>ns j i (asl j i z)
  ·rw[<-b2]
   funext i
   exact r32 i fun j=>ns j i
  ·refine Pc.keep a o (b3 a o q) fun j z=>?_;rcases rqc j a z with⟨i,z,_⟩|z
   ·exact ns j i z
   ·have zf:=a3 j a z;rcases P.own a (.inl zf)with⟨i,z2⟩|z2
    ·rw[<-b2]at z2;exact P.env.dx i a z2 (.inl zf)
    ·rw[q]at z2;cases z2
 ·obtain⟨b1,b2,b3⟩:=P.pure hp;rw[<-b2]at z;refine Pc.keep a o (b3 a o q) fun j zj=>?_;rcases rqc j a zj with⟨i',q',z'⟩|z'
  ·have:=P.env.dj i0 i' a z z';subst this;exact hi0 j q'
  ·exact P.env.dx i0 a z (.inl (a3 j a z'))
 ·obtain⟨b1,b2,b3⟩:=P.pure hp;rw[iM as ψ en1 i0 fun j z=>hi0 j (asl j i0 z),b1]
def Gf{E:XK}{F:List D->Option (D×En)}(hc:cc ds1 sh dps=true)(h:tF K (p&&fI sh) ds ds1 dr (ai F fa) σ H Q):lU (spF K dps dr F) [] E (tFA K p ds ds1 sh fa) σ H Q:=
 let⟨Ox,en,R,t,en',e,hf,k⟩:=h
 AU hc ⟨Ox,en,R,t,en',e,hf,fun v H' R' F P _ o=>k v H' R' F P o⟩
end
inductive Fl where
 |nx (en:En)|rt (t:D) (en:En)|ct (en:En)
abbrev MS:=En->Option Fl
variable{m m1 m2:MS}
structure Jd where
 lk:List Nat
 dsr:List Nat
 dr:Nat
 dsl:List Nat
variable{J:Jd}
structure PostS(K:zbQ)(lk:List Nat)(ds':List Nat)(Ox:AS)(σ:St)(H:Hp)(R:Nat->AS)(σ':St)(en':En)(H':Hp)(R':Nat->AS)(F:AS):Prop where
 env:EnvOk K ds' (U F Ox) H' σ' en' R'
 fx:∀a,F a->¬Ox a
 keep:∀a o,H a=some o->(∀i,¬R i a)->H' a=some o
 own:∀a,(F a\/∃i,R' i a)->(∃i,R i a)\/H a=none
 dom:∀a o,H a=some o->∃o',H' a=some o'
 lk:∀j∈lk,σ'[j]?=σ[j]?
def tFS(K:zbQ)(J:Jd)(ds ds':List Nat)(f:MS):TS:=fun D σ H=>
 ∃Ox en R fl,EnvOk K ds Ox H σ en R/\f en=some fl/\match fl with
  |.nx en'=>∀σ' H' R',PostS K J.lk ds' Ox σ H R σ' en' H' R' NoA->D.nx σ' H'
  |.ct en'=>∀σ' H' R',PostS K J.lk J.dsl Ox σ H R σ' en' H' R' NoA->D.ct σ' H'
  |.rt t en'=>∀v σ' H' R' F,PostS K J.lk J.dsr Ox σ H R σ' en' H' R' F->Ow K (Own R' (U F Ox)) H' t J.dr v F->D.rt v H'
def aj(f g:MS):MS:=fun en=>(f en).bind fun fl=>match fl with
 |.nx en1=>g en1
 |.rt t en1=>some (.rt t en1)
 |.ct en1=>some (.ct en1)
def ay(i:Nat)(f:ME):MS:=fun en=>(f en).map fun r=>.nx (r.2.set i (some r.1))
def fU(f:ME):MS:=fun en=>(f en).map fun r=>.nx r.2
def av(f:ME):MS:=fun en=>(f en).map fun r=>.rt r.1 r.2
def IM:MS:=fun en=>some (.rt .none en)
def aO:MS:=fun en=>some (.nx en)
def IN:MS:=fun en=>some (.ct en)
def IB:MS:=fun _=>none
def sIf(c:MT)(f g:MS):MS:=fun en=>(c en).bind fun r=>if r.1 then f r.2 else g r.2
section
variable{c:MT}{D:Ends}
def PostS.refl(e:EnvOk K ds Ox H σ en R):PostS K lk ds Ox σ H R σ en H R NoA:=
 ⟨by rw[eQ];exact e,fun _ z=>z.elim,fun _ _ q _=>q,fun a z=>z.elim (fun z=>z.elim) .inl,fun a o q=>⟨o,q⟩,fun _ _=>rfl⟩
def PostS.env0{F:AS}(P:PostS K lk ds' Ox σ H R σ' en' H' R' F):EnvOk K ds' Ox H' σ' en' R':=P.env.fewer fun a z=>.inr z
def PostS.less{F:AS}(P:PostS K lk ds' Ox σ H R σ' en' H' R' F)(h:∀a,F' a->F a):PostS K lk ds' Ox σ H R σ' en' H' R' F':=
 ⟨P.env.fewer fun a z=>z.imp (h a) id,fun a z=>P.fx a (h a z),P.keep,fun a z=>P.own a (z.imp (h a) id),P.dom,P.lk⟩
def PostS.after{σ1 σ2:St}{R2:Nat->AS}{F:AS}(P1:PostS K lk ds1 Ox σ H R σ1 en1 H1 R1 NoA)(P2:PostS K lk ds2 Ox σ1 H1 R1 σ2 en2 H' R2 F):PostS K lk ds2 Ox σ H R σ2 en2 H' R2 F:=by
 have n1:∀a,H1 a=none->H a=none:=fun a z=>by
  cases q:H a with
  |none=>rfl
  |some o=>
   obtain⟨o',q'⟩:=P1.dom a o q;rw[z]at q';cases q'
 refine⟨P2.env,P2.fx,fun a o q n=>?_,fun a z=>?_,fun a o q=>?_,fun j hj=>(P2.lk j hj).trans (P1.lk j hj)⟩
 ·refine P2.keep a o (P1.keep a o q n) fun i z=>?_;rcases P1.own a (.inr ⟨i,z⟩)with⟨j,z⟩|z
  ·exact n j z
  ·rw[q]at z;cases z
 ·rcases P2.own a z with z|z
  ·exact P1.own a (.inr z)
  ·exact .inr (n1 a z)
 ·obtain⟨o',q'⟩:=P1.dom a o q;exact P2.dom a o' q'
def Post.s{F:AS}(P:Post K p ds' Ox σ H en R en' H' R' F):PostS K lk ds' Ox σ H R σ en' H' R' F:=⟨P.env,P.fx,P.keep,P.own,P.dom,fun _ _=>rfl⟩
def PostS.cut{F:AS}(P:PostS K lk ds1 Ox σ H R σ' en' H' R' F)(hd:leD ds2 ds1=true):∃R2,(∀i a,R2 i a->R' i a)/\PostS K lk ds2 Ox σ H R σ' en' H' R2 F:=by
 obtain⟨R2,s1,e2⟩:=P.env.cut (dq hd).1 (dq hd).2;exact⟨R2,s1,e2,P.fx,P.keep,fun a z=>P.own a (z.imp id fun⟨i,z⟩=>⟨i,s1 i a z⟩),P.dom,P.lk⟩
def FC(h:tFS K J ds ds aO D σ H):Ar D σ H:=by
 obtain⟨Ox,en,R,fl,e,hf,k⟩:=h;cases hf;exact k σ H R (PostS.refl e)
def Fy(h:tFS K J ds ds2 (aj m1 m2) D σ H):sI (tFS K J ds ds1 m1) (tFS K J ds1 ds2 m2) D σ H:=by
 obtain⟨Ox,en,R,fl,e,hf,k⟩:=h;unfold aj at hf;obtain⟨fl1,h1,hf⟩:=zaa.mp hf;refine⟨Ox,en,R,fl1,e,h1,?_⟩;cases fl1 with
 |nx en1=>
  intro σ1 H1 R1 P1;refine⟨Ox,en1,R1,fl,P1.env0,hf,?_⟩;cases fl with
  |nx en2=>exact fun σ2 H2 R2 P2=>k σ2 H2 R2 (P1.after P2)
  |ct en2=>exact fun σ2 H2 R2 P2=>k σ2 H2 R2 (P1.after P2)
  |rt t en2=>exact fun v σ2 H2 R2 F P2 o=>k v σ2 H2 R2 F (P1.after P2) o
 |ct en1=>cases hf;exact k
 |rt t en1=>cases hf;exact k
def Fx(hd:leD ds1 ds2=true)(h:tFS K J ds ds1 m D σ H):tFS K J ds ds2 m D σ H:=by
 obtain⟨Ox,en,R,fl,e,hf,k⟩:=h;refine⟨Ox,en,R,fl,e,hf,?_⟩;cases fl with
 |nx en2=>
  intro σ2 H2 R2 P2;obtain⟨R3,_,P3⟩:=P2.cut hd;exact k σ2 H2 R3 P3
 |ct en2=>exact k
 |rt t en2=>exact k
def FE(h:tFS K J ds ds1 (fU f) D σ H):As (tF K p ds ds1 d f) D σ H:=by
 obtain⟨Ox,en,R,fl,e,hf,k⟩:=h;unfold fU at hf;obtain⟨⟨t,en1⟩,h1,hf⟩:=zab.mp hf;cases hf;exact⟨Ox,en,R,t,en1,e,h1,fun v H1 R1 F P o=>k σ H1 R1 (P.s.less fun _ z=>z.elim)⟩
def FB(hd:leD J.dsr ds1=true)(h:tFS K J ds ds' (av f) D σ H):D9 (tF K p ds ds1 J.dr f) D σ H:=by
 obtain⟨Ox,en,R,fl,e,hf,k⟩:=h;unfold av at hf;obtain⟨⟨t,en1⟩,h1,hf⟩:=zab.mp hf;cases hf;refine⟨Ox,en,R,t,en1,e,h1,fun v H1 R1 F P o=>?_⟩;obtain⟨R2,s1,P2⟩:=(P.s (lk:=J.lk)).cut hd;exact k v σ H1 R2 F P2 (Ow.grow (fun a z=>z.imp (fun⟨i,z⟩=>⟨i,s1 i a z⟩) id) t (fun _ z=>z) o)
def G9(h:tFS K J ds ds2 (sIf c m1 m2) D σ H):Ed (tFT K p ds ds1 c) (tFS K J ds1 ds2 m1) (tFS K J ds1 ds2 m2) D σ H:=by
 obtain⟨Ox,en,R,fl,e,hf,k⟩:=h;unfold sIf at hf;obtain⟨⟨b,en1⟩,h1,hf⟩:=zaa.mp hf;refine⟨Ox,en,R,b,en1,e,h1,fun H1 R1 P1=>?_⟩;have fin:∀m,m en1=some fl->tFS K J ds1 ds2 m D σ H1:=fun m hm=>by
  refine⟨Ox,en1,R1,fl,P1.env0,hm,?_⟩;cases fl with
  |nx en2=>exact fun σ2 H2 R2 P2=>k σ2 H2 R2 (P1.s.after P2)
  |ct en2=>exact fun σ2 H2 R2 P2=>k σ2 H2 R2 (P1.s.after P2)
  |rt t en2=>exact fun v σ2 H2 R2 F P2 o=>k v σ2 H2 R2 F (P1.s.after P2) o
 cases b with
 |true=>exact fin m1 hf
 |false=>exact fin m2 hf
def PostS.store{F:AS}(P:Post K p ds1 Ox σ H en R en1 H' R' F)(o:Ow K (Own R' (U F Ox)) H' t d v F)(hi:i<ds1.length)(hl:i∉lk):
  PostS K lk (ds1.set i d) Ox σ H R (σ.set i (some v)) (en1.set i (some t)) H' (fun j=>if j=i then F else R' j) NoA:=by
 have l1:=P.env.l1;have l2:=P.env.l2;have sub:∀a,Own (fun j=>if j=i then F else R' j) Ox a->Own R' (U F Ox) a:=fun a z=>by
  rcases z with⟨j,z⟩|z
  ·by_cases hj:j=i
   ·rw[if_pos hj]at z;exact .inr (.inl z)
   ·rw[if_neg hj]at z;exact .inl ⟨j,z⟩
  ·exact .inr (.inr z)
 refine⟨?_,fun _ z=>z.elim,P.keep,fun a z=>?_,P.dom,fun j hj=>?_⟩
 ·rw[eQ];refine⟨fun j u hu=>?_,fun j j' a z z'=>?_,fun j a z z2=>?_,fun a z=>P.env.dom a (sub a z),by rw[zaV,zaV];exact l1,by rw[zaV,zaV];exact l2⟩
  ·by_cases hj:j=i
   ·subst hj;rw[zaP (by omega)]at hu;cases hu;refine⟨v,d,zaP (by omega),zaP hi,?_⟩;rw[if_pos rfl];exact Ow.grow sub t (fun _ z=>z) o
   ·rw[zaO (Ne.symm hj)]at hu;obtain⟨v',d',g1,g2,g3⟩:=P.env.at_ j u hu;refine⟨v',d',by rw[zaO (Ne.symm hj)];exact g1,by rw[zaO (Ne.symm hj)];exact g2,?_⟩;rw[if_neg hj];exact Ow.grow sub u (fun _ z=>z) g3
  ·by_cases hj:j=i<;>by_cases hj':j'=i
   ·rw[hj,hj']
   ·rw[if_pos hj]at z;rw[if_neg hj']at z';exact absurd (.inl z) (P.env.dx j' a z')
   ·rw[if_neg hj]at z;rw[if_pos hj']at z';exact absurd (.inl z') (P.env.dx j a z)
   ·rw[if_neg hj]at z;rw[if_neg hj']at z';exact P.env.dj j j' a z z'
  ·by_cases hj:j=i
   ·rw[if_pos hj]at z;exact P.fx a z z2
   ·rw[if_neg hj]at z;exact P.env.dx j a z (.inr z2)
 ·rcases z with z|⟨j,z⟩
  ·exact z.elim
  ·by_cases hj:j=i
   ·rw[if_pos hj]at z;exact P.own a (.inl z)
   ·rw[if_neg hj]at z;exact P.own a (.inr ⟨j,z⟩)
 ·rw[zaO];intro z;subst z;exact hl hj
def vt(hi:i<ds1.length)(hl:i∉J.lk)(h:tFS K J ds (ds1.set i d) (ay i f) D σ H):i7 (tF K p ds ds1 d f) (jl i) D σ H:=by
 obtain⟨Ox,en,R,fl,e,hf,k⟩:=h;unfold ay at hf;obtain⟨⟨t,en1⟩,h1,hf⟩:=zab.mp hf;cases hf;exact⟨Ox,en,R,t,en1,e,h1,fun v H1 R1 F P o=>k _ H1 _ (PostS.store P o hi hl)⟩
abbrev MG:=PyData->En->Option En
def tFG(K:zbQ)(lk:List Nat)(ds ds':List Nat)(g:MG):TG:=fun v σ H Q=>
 ∃Ox en R t en',EnvOk K ds Ox H σ en R/\Ow K (Own R Ox) H t 0 v NoA/\g t en=some en'/\∀σ' R',PostS K lk ds' Ox σ H R σ' en' H R' NoA->(∀j∈lk,R' j=R j)->Q σ' H
def fT(K:zbQ)(lk:List Nat)(ds ds':List Nat)(g:List PyData->En->Option En):TGs:=fun vs σ H Q=>
 ∃Ox en R ts en',EnvOk K ds Ox H σ en R/\Ows K (Own R Ox) H ts 0 vs NoA/\g ts en=some en'/\∀σ' R',PostS K lk ds' Ox σ H R σ' en' H R' NoA->(∀j∈lk,R' j=R j)->Q σ' H
def gN(i:Nat):MG:=fun t en=>some (en.set i (some t))
def gs0:List PyData->En->Option En:=fun ts en=>match ts with
 |[]=>some en
 |_=>none
def gsC(g:MG)(r:List PyData->En->Option En):List PyData->En->Option En:=fun ts en=>match ts with
 |t::ts=>(g t en).bind fun en1=>r ts en1
 |[]=>none
def gT(g:List PyData->En->Option En):MG:=fun t en=>match t with
 |.tuple ts=>g ts en
 |_=>none
variable{g g1:MG}{gs:List PyData->En->Option En}{QS:St->Hp->Prop}
def B1(hi:i<ds.length)(hl:i∉lk)(h:tFG K lk ds (ds.set i 0) (gN i) v σ H QS):jl i v σ H QS:=by
 obtain⟨Ox,en,R,t,en',e,o,hf,k⟩:=h;cases hf;exact k _ _ (PostS.store (p:=true) (Post.refl e) (by rw[show(fun _=>False:AS)=NoA from rfl,eQ];exact o) hi hl) fun j hj=>if_neg (fun(z:j=i)=>hl (by rw[<-z];exact hj))
def BZ(h:fT K lk ds ds gs0 vs σ H QS):Fq vs σ H QS:=by
 obtain⟨Ox,en,R,ts,en',e,o,hf,k⟩:=h;cases ts with
 |nil=>cases hf;exact⟨o,k σ R (PostS.refl e) fun _ _=>rfl⟩
 |cons t ts=>cases hf
def xf(h:fT K lk ds ds2 (gsC g gs) vs σ H QS):AR (tFG K lk ds ds1 g) (fT K lk ds1 ds2 gs) vs σ H QS:=by
 obtain⟨Ox,en,R,ts,en',e,o,hf,k⟩:=h;cases ts with
 |nil=>cases hf
 |cons t ts=>
  obtain⟨en1,h1,h2⟩:=zaa.mp hf;obtain⟨v,r,F1,F2,e1,s1,s2,s3,o1,o2⟩:=o;refine⟨v,r,e1,Ox,en,R,t,en1,e,Ow.any0 t o1,h1,fun σ1 R1 P1 r1=>?_⟩;refine⟨Ox,en1,R1,ts,en',P1.env0,Ows.any0 ts (Ows.mv (G:=NoA) ⟨fun a o q _=>q,fun a z=>?_⟩ ts (F:=NoA) (fun _ z=>z) (Ows.any0 ts o2)),h2,fun σ2 R2 P2 r2=>k σ2 R2 (P1.after P2) fun j hj=>(r2 j hj).trans (r1 j hj)⟩;rcases z with z|z
  ·exact(P1.own a (.inr z)).imp .inl id
  ·exact .inl (.inr z)
def FM(hn:∀ts en,(∃en',gs ts en=some en')->ts.length=n)(h:tFG K lk ds ds1 (gT gs) v σ H QS):Fp K n (fT K lk ds ds1 gs) v σ H QS:=by
 obtain⟨Ox,en,R,t,en',e,o,hf,k⟩:=h;cases t with
 |tuple ts=>
  have hf':gs ts en=some en':=hf;obtain⟨a,vs,e1,⟨_,h1,h2⟩|⟨z,_⟩⟩:=o
  ·refine⟨a,vs,e1,h1.sq,?_,Ox,en,R,ts,en',e,h2,hf',k⟩;rw[<-hn ts en ⟨en',hf'⟩]
   have:∀{ts:List PyData} {vs:List V} {F:AS},Ows K (Own R Ox) H ts 0 vs F->vs.length=ts.length:=fun {ts}=>by
    induction ts with
    |nil=>intro vs F h;rw[show vs=[]from h];rfl
    |cons t ts ih=>
     intro vs F h;obtain⟨v,r,F1,F2,e,h1,h2,h3,h4,h5⟩:=h;rw[e,zac,zac,ih h5]
   exact this h2
  ·exact absurd rfl z
 |_=>cases hf
abbrev MI:=En->Option (List PyData×En)
def gR(K:zbQ)(O:AS)(H0:Hp)(J:It)(ts:List PyData):Prop:=
 ∀(i:Nat) (H:Hp) (O1:AS),(∀a o,H0 a=some o->¬O a->H a=some o)->(∀a,O1 a->O a\/H0 a=none)->(∀a,O1 a->∃o,H a=some o) ->
  (∀t,ts[i]?=some t->J.go i H/\∀x H1,J.yld i H x H1->(∀a o,H a=some o->H1 a=some o)/\Ow K O1 H1 t 0 x NoA)/\(ts.length=i->J.stop i H)
def tFI(K:zbQ)(p:Bool)(ds ds':List Nat)(f:MI):TI:=fun σ H RJ=>
 ∃Ox en R ts en',EnvOk K ds Ox H σ en R/\f en=some (ts,en')/\∀J H' R',Post K p ds' Ox σ H en R en' H' R' NoA->gR K (Own R' Ox) H' J ts->RJ J H'
def cS(g:MG)(b:MS):List PyData->En->Option Fl
 |[],en=>some (.nx en)
 |t::ts,en=>(g t en).bind fun en1=>(b en1).bind fun fl=>match fl with
  |.nx en2=>cS g b ts en2
  |.ct en2=>cS g b ts en2
  |.rt r en2=>some (.rt r en2)
def cu(fi:MI)(g:MG)(b:MS):MS:=fun en=>(fi en).bind fun r=>cS g b r.1 r.2
def FD{fi:MI}(h:tFS K J ds ds1 (cu fi g m) D σ H):Ee (tFI K p ds ds1 fi) (tFG K J.lk ds1 ds2 g) (tFS K { J with dsl:=ds1 } ds2 ds1 m) D σ H:=by
 obtain⟨Ox,en,R,fl,e,hf,k⟩:=h;unfold cu at hf;obtain⟨⟨ts,en1⟩,h1,hf⟩:=zaa.mp hf;refine⟨Ox,en,R,ts,en1,e,h1,fun Jt H1 R1 P1 wk=>?_⟩;refine⟨fun i n σ' H'=>∃en' R',n=ts.length-i/\i<=ts.length/\PostS K J.lk ds1 Ox σ H1 R1 σ' en' H' R' NoA/\cS g m (ts.drop i) en'=some fl,⟨_,en1,R1,rfl,zbg _,PostS.refl P1.env0,hf⟩,?_⟩;rintro i n σ2 H2 ⟨en2,R2,rfl,hi,P2,hr⟩;obtain⟨w1,w2⟩:=wk i H2 (Own R2 Ox) (fun a o q z=>P2.keep a o q fun j zj=>z (.inl ⟨j,zj⟩)) (fun a z=>by
  rcases z with z|z
  ·exact(P2.own a (.inr z)).imp .inl id
  ·exact .inl (.inr z)) fun a z=>P2.env0.dom a z
 by_cases hlt:i<ts.length
 ·obtain⟨go,yl⟩:=w1 ts[i] (zak hlt);have hd:ts.drop i=ts[i]::ts.drop (i+1):=List.drop_eq_getElem_cons hlt;rw[hd]at hr;obtain⟨en3,h3,hr⟩:=zaa.mp hr;obtain⟨fl2,h4,hr⟩:=zaa.mp hr;refine .inr ⟨go,fun σ' H'=>∃en' R',PostS K J.lk ds1 Ox σ H1 R1 σ' en' H' R' NoA/\cS g m (ts.drop (i+1)) en'=some fl,fun σ' H' ⟨en',R',P',h'⟩=>⟨ts.length-(i+1),by omega,en',R',rfl,hlt,P',h'⟩,fun x H3 y=>?_⟩;obtain⟨gr,ox⟩:=yl x H3 y;have P3:Post K true ds1 Ox σ2 H2 en2 R2 en2 H3 R2 NoA:=Post.new P2.env0 gr fun _ z=>z.elim;refine⟨Ox,en2,R2,ts[i],en3,P3.env0,ox,h3,fun σ4 R4 P4 _=>?_⟩;have P4':=(P2.after P3.s).after P4;refine⟨Ox,en3,R4,fl2,P4.env0,h4,?_⟩;cases fl2 with
  |nx en5=>exact fun σ5 H5 R5 P5=>⟨en5,R5,P4'.after P5,hr⟩
  |ct en5=>exact fun σ5 H5 R5 P5=>⟨en5,R5,P4'.after P5,hr⟩
  |rt t en5=>
   cases hr;exact fun v σ5 H5 R5 F P5 o=>k v σ5 H5 R5 F (P1.s.after (P4'.after P5)) o
 ·have e2:i=ts.length:=by omega
  subst e2;rw[List.drop_length]at hr;cases hr;exact .inl ⟨w2 rfl,k σ2 H2 R2 (P1.s.after P2)⟩
end
variable{g1:MG}{fi:MI}
def lcF(g:MG)(c:MT)(f:ME):List D->List D->En->Option (List D×En)
 |[],acc,en=>some (acc,en)
 |t::ts,acc,en=>(g t en).bind fun en1=>(c en1).bind fun r=>if r.1 then(f r.2).bind fun q=>if acc.length<sizeLine then lcF g c f ts (acc++[q.1]) q.2 else none else lcF g c f ts acc r.2
def cz(js:List (Option Nat))(en:En):En:=js.map fun j=>match j with
 |some j=>(en[j]?).join
 |none=>none
def wbB:List (Option Nat)->En->En->En
 |some j::js,o::r,en=>wbB js r (en.set j o)
 |none::js,_::r,en=>wbB js r en
 |_,_,en=>en
def eLC(q:Bool)(fi:MI)(g:MG)(c:MT)(f:ME)(js:List (Option Nat)):ME:=fun en=>(fi en).bind fun r=>(lcF g c f r.1 [] (cz js r.2)).map fun z=>(.list z.1,if q then r.2 else wbB js z.2 r.2)
def dE(ds:List Nat):List (Option Nat)->List Nat->Bool
 |[],[]=>true
 |some j::js,d::r=>decide (ds[j]?=some d)&&(decide (some j∉js)&&dE ds js r)
 |none::js,_::r=>dE ds js r
 |_,_=>false
section
variable{c:MT}{g:MG}  
theorem lJ:∀{js:List (Option Nat)} {dsi:List Nat},dE ds js dsi=true->dsi.length=js.length/\(∀(k j:Nat),js[k]?=some (some j)->∃d,dsi[k]?=some d/\ds[j]?=some d)/\(∀(k k' j:Nat),js[k]?=some (some j)->js[k']?=some (some j)->k=k')
 |[],[],_=>⟨rfl,fun k j z=>by simp at z,fun k k' j z=>by simp at z⟩
 |some j0::js,d::r,h=>by
  unfold dE at h;rw[zbj,zbj]at h;obtain⟨h1,h2,h3⟩:=h;obtain⟨a,b,c⟩:=lJ h3;have n:=of_decide_eq_true h2;refine⟨by rw[zac,zac,a],fun k j z=>?_,fun k k' j z z'=>?_⟩
  ·cases k with
   |zero=>simp at z;subst z;exact⟨d,rfl,of_decide_eq_true h1⟩
   |succ k=>exact b k j (by simpa using z)
  ·cases k with
   |zero=>
    simp at z;subst z;cases k' with
    |zero=>rfl
    |succ k'=>exact absurd (zaX (by simpa using z':js[k']?=some (some j0))) n
   |succ k=>
    cases k' with
    |zero=>
     simp at z';subst z';exact absurd (zaX (by simpa using z:js[k]?=some (some j0))) n
    |succ k'=>rw[c k k' j (by simpa using z) (by simpa using z')]
 |none::js,d::r,h=>by
  unfold dE at h;obtain⟨a,b,c⟩:=lJ h;refine⟨by rw[zac,zac,a],fun k j z=>?_,fun k k' j z z'=>?_⟩
  ·cases k with
   |zero=>simp at z
   |succ k=>exact b k j (by simpa using z)
  ·cases k with
   |zero=>simp at z
   |succ k=>
    cases k' with
    |zero=>simp at z'
    |succ k'=>rw[c k k' j (by simpa using z) (by simpa using z')]
 |[],_::_,h=>nomatch h
 |some _::_,[],h=>nomatch h
 |none::_,[],h=>nomatch h
theorem m3:∀(js:List (Option Nat)) (r en:En),(wbB js r en).length=en.length
 |[],_,_=>by unfold wbB;rfl
 |some _::_,[],_=>by unfold wbB;rfl
 |none::_,[],_=>by unfold wbB;rfl
 |some j::js,o::r,en=>by unfold wbB;rw[m3 js r _,zaV]
 |none::js,o::r,en=>by unfold wbB;exact m3 js r _
theorem kF:∀(js:List (Option Nat)) (r en:En) (i:Nat),(∀k:Nat,js[k]?≠some (some i))->(wbB js r en)[i]?=en[i]?
 |[],_,_,_,_=>by unfold wbB;rfl
 |some _::_,[],_,_,_=>by unfold wbB;rfl
 |none::_,[],_,_,_=>by unfold wbB;rfl
 |none::js,o::r,en,i,h=>by unfold wbB;exact kF js r en i fun j=>h (j+1)
 |some k::js,o::r,en,i,h=>by
  unfold wbB;rw[kF js r _ i fun j=>h (j+1),zaO];intro e;subst e;exact h 0 rfl
theorem pC:∀(js:List (Option Nat)) (r en:En) (i k:Nat),js[k]?=some (some i)->(∀k':Nat,js[k']?=some (some i)->k'=k)->r.length=js.length->i<en.length->(wbB js r en)[i]?=r[k]?
 |[],_,_,_,_,h,_,_,_=>by simp at h
 |some _::js,[],_,_,_,_,_,h,_=>by simp at h
 |none::js,[],_,_,_,_,_,h,_=>by simp at h
 |none::js,o::r,en,i,k,h,u,l,b=>by
  unfold wbB;cases k with
  |zero=>simp at h
  |succ k=>exact pC js r en i k (by simpa using h) (fun j' z=>by have:=u (j'+1) (by simpa using z);omega) (by simpa using l) b
 |some j::js,o::r,en,i,k,h,u,l,b=>by
  unfold wbB;cases k with
  |zero=>
   have e:j=i:=by simpa using h
   subst e;rw[kF js r _ j fun j' z=>by have:=u (j'+1) (by simpa using z);omega];rw[zaP b];rfl
  |succ k=>exact pC js r _ i k (by simpa using h) (fun j' z=>by have:=u (j'+1) (by simpa using z);omega) (by simpa using l) (by rw[zaV];exact b)
theorem Ows.snoc:∀{ts:List D} {vs:List V} {F1 F2:AS} {v:V},Ows K O H ts d vs F1->Ow K O H t d v F2->(∀b,F1 b->¬F2 b)->Ows K O H (ts++[t]) d (vs++[v]) (U F1 F2)
 |[],vs,F1,F2,v,h,h2,_=>by
  have e:vs=[]:=h;subst e;exact⟨v,[],F2,NoA,rfl,fun _ z=>.inr z,fun _ z=>z.elim,fun _ _ z=>z.elim,h2,rfl⟩
 |u::ts,vs,F1,F2,v,h,h2,hd=>by
  obtain⟨w,r,G1,G2,e,s1,s2,s3,h4,h5⟩:=h;subst e;refine⟨w,r++[v],G1,U G2 F2,rfl,fun b z=>.inl (s1 b z),fun b z=>z.imp (s2 b) id,fun b z z2=>?_,h4,Ows.snoc h5 h2 fun b z=>hd b (s2 b z)⟩;rcases z2 with z2|z2
  ·exact s3 b z z2
  ·exact hd b (s1 b z) z2
theorem Ows.len:∀{ts:List D} {vs:List V} {F:AS},Ows K O H ts d vs F->vs.length=ts.length
 |[],_,_,h=>by rw[show _=[]from h];rfl
 |t::ts,_,_,h=>by
  obtain⟨v,r,F1,F2,e,h1,h2,h3,h4,h5⟩:=h;rw[e,zac,zac,h5.len]
def dD:List (Option Nat)->Nat->List Nat
 |[],_=>[]
 |some _::r,n=>n::dD r (n+1)
 |none::r,n=>dD r (n+1)
theorem jg:∀{js:List (Option Nat)} {n k j:Nat},js[k]?=some (some j)->n+k∈dD js n
 |[],n,k,j,h=>by simp at h
 |some x::r,n,k,j,h=>by
  unfold dD;cases k with
  |zero=>exact zaq
  |succ k=>
   refine zaj _ ?_
   have:=jg (n:=n+1) (k:=k) (j:=j) (by simpa using h);rw[show n+(k+1)=n+1+k by omega];exact this
 |none::r,n,k,j,h=>by
  unfold dD;cases k with
  |zero=>simp at h
  |succ k=>
   have:=jg (n:=n+1) (k:=k) (j:=j) (by simpa using h);rw[show n+(k+1)=n+1+k by omega];exact this
def qL(js:List (Option Nat))(R1:Nat->AS):Nat->AS:=fun k=>match js[k]? with
 |some (some j)=>R1 j
 |_=>NoA
def Ci(h:js[k]?=some (some j)):qL js R1 k=R1 j:=by unfold qL;rw[h]
def Ch(h:qL js R1 k a):∃j,js[k]?=some (some j)/\R1 j a:=by
 unfold qL at h;cases q:js[k]? with
 |none=>rw[q]at h;exact h.elim
 |some o=>
  rw[q]at h;cases o with
  |none=>exact h.elim
  |some j=>exact⟨j,rfl,h⟩
def lD{J:It}{fin:List D}{enf:En}{D:Addr}(hc:dE ds1 js dsi=true)(hd:dn d=cd)(hz:d≠0)(hl:lk=dD js 0)(P1:Post K p ds1 Ox σ H en R en1 H1 R1 NoA)(wk:gR K (Own R1 Ox) H1 J ts)(hD:H1 D=none)(h2:lcF g c f ts [] (cz js en1)=some (fin,enf))
  (k:∀v H' R' F,Post K (p&&q) ds1 Ox σ H en R (if q then en1 else wbB js enf en1) H' R' F->Ow K (Own R' (U F Ox)) H' (.list fin) d v F->Q v H'):tH J (tFG K lk dsi dsi g) (tFT K q dsi dsi c) (tF K q dsi dsi cd f) (dv js σ) H1 D Q:=by
 obtain⟨cl,c1,c2⟩:=lJ hc;have E1:=P1.env0;generalize hRI:qL js R1=RI;have ri1:∀k j:Nat,js[k]?=some (some j)->RI k=R1 j:=fun k j z=>by rw[<-hRI];exact Ci z
 have ric:∀(k:Nat) a,RI k a->∃j,js[k]?=some (some j)/\R1 j a:=fun k a z=>by rw[<-hRI]at z;exact Ch z
 let OxI:AS:=fun a=>Ox a\/a=D\/∃i,R1 i a/\∀k:Nat,js[k]?≠some (some i);have nD:∀a,Own R1 Ox a->a≠D:=fun a z z2=>by
  subst z2;obtain⟨o,q⟩:=E1.dom a z;rw[hD]at q;cases q
 have lI:(cz js en1).length=js.length:=by unfold cz;rw[zad]
 have lS:(dv js σ).length=js.length:=by unfold dv;rw[zad]
 have getE:∀(k:Nat) t,(cz js en1)[k]?=some (some t)->∃j,js[k]?=some (some j)/\en1[j]?=some (some t):=fun k t z=>by
  unfold cz at z;rw[zao]at z;obtain⟨oj,h1,h2⟩:=zab.mp z;cases oj with
  |none=>cases h2
  |some j=>
   refine⟨j,h1,?_⟩;have h2':(en1[j]?).join=some t:=h2;cases q:en1[j]? with
   |none=>rw[q]at h2';cases h2'
   |some o=>rw[q]at h2';exact congrArg some h2'
 have getS:∀(k j:Nat) v,js[k]?=some (some j)->σ[j]?=some (some v)->(dv js σ)[k]?=some (some v):=fun k j v z1 z2=>by
  unfold dv;rw[zao,z1];show some ((σ[j]?).join)=_;rw[z2];rfl
 have u2:∀a o,H1 a=some o->upd H1 D (.lst []) a=some o:=fun a o q=>(bq (o:=.lst []) hD).1 a o q;have EI:EnvOk K dsi OxI (upd H1 D (.lst [])) (dv js σ) (cz js en1) RI:=by
  refine⟨fun k t hk=>?_,fun k k' a z z'=>?_,fun k a z z2=>?_,fun a z=>?_,by rw[lI,lS],by rw[cl,lS]⟩
  ·obtain⟨j,hj,ht⟩:=getE k t hk;obtain⟨v,d,g1,g2,g3⟩:=E1.at_ j t ht;obtain⟨d',q1,q2⟩:=c1 k j hj;rw[g2]at q2;cases q2;refine⟨v,d,getS k j v hj g1,q1,?_⟩;rw[ri1 k j hj];refine Ow.mv (G:=R1 j) ⟨fun a o q _=>u2 a o q,fun a z=>?_⟩ t (fun _ z=>z) g3;rcases z with⟨k',z⟩|z|z|⟨i,z,_⟩
   ·obtain⟨j',_,z⟩:=ric k' a z;exact .inl (.inl ⟨j',z⟩)
   ·exact .inl (.inr z)
   ·exact .inr (z▸hD)
   ·exact .inl (.inl ⟨i,z⟩)
  ·obtain⟨j,hj,z⟩:=ric k a z;obtain⟨j',hj',z'⟩:=ric k' a z'
   have:=E1.dj j j' a z z';subst this;exact c2 k k' j hj hj'
  ·obtain⟨j,hj,z⟩:=ric k a z;rcases z2 with z2|z2|⟨i,z2,n⟩
   ·exact E1.dx j a z z2
   ·exact nD a (.inl ⟨j,z⟩) z2
   ·have:=E1.dj j i a z z2;subst this;exact n k hj
  ·rcases z with⟨k,z⟩|z|z|⟨i,z,_⟩
   ·obtain⟨j,hj,z⟩:=ric k a z;obtain⟨o,q⟩:=E1.dom a (.inl ⟨j,z⟩);exact⟨o,u2 a o q⟩
   ·obtain⟨o,q⟩:=E1.dom a (.inr z);exact⟨o,u2 a o q⟩
   ·subst z;exact⟨_,ax⟩
   ·obtain⟨o,q⟩:=E1.dom a (.inl ⟨i,z⟩);exact⟨o,u2 a o q⟩
 refine⟨fun i n τ H'=>∃eni RI' acc vs Fa,n=ts.length-i/\i<=ts.length/\PostS K lk dsi OxI (dv js σ) H1 RI τ eni H' RI' Fa/\H' D=some (.lst vs)/\Ows K (Own RI' (U Fa OxI)) H' acc cd vs Fa/\lcF g c f (ts.drop i) acc eni=some (fin,enf) /\
   (q=true->(∀k j:Nat,js[k]?=some (some j)->RI' k=RI k)/\(∀a o,H1 a=some o->H' a=some o)),
  ⟨_,cz js en1,RI,[],[],NoA,rfl,zbg _,⟨by rw[eQ];exact EI,fun _ z=>z.elim,fun a o q _=>u2 a o q,fun a z=>z.elim (fun z=>z.elim) .inl,fun a o q=>⟨o,u2 a o q⟩,fun _ _=>rfl⟩,ax,rfl,h2,fun _=>⟨fun _ _ _=>rfl,u2⟩⟩,?_⟩
 rintro i n τ H2 ⟨eni,RI2,acc,vs,Fa,rfl,hi,P2,hDl,oacc,hr,pu⟩;have lr:∀a,Own RI2 (U Fa OxI) a->Own R1 Ox a\/H1 a=none:=fun a z=>by
  rcases z with z|z|z|z|⟨i,z,_⟩
  ·rcases P2.own a (.inr z)with⟨k,z⟩|z
   ·obtain⟨j,_,z⟩:=ric k a z;exact .inl (.inl ⟨j,z⟩)
   ·exact .inr z
  ·rcases P2.own a (.inl z)with⟨k,z⟩|z
   ·obtain⟨j,_,z⟩:=ric k a z;exact .inl (.inl ⟨j,z⟩)
   ·exact .inr z
  ·exact .inl (.inr z)
  ·exact .inr (z▸hD)
  ·exact .inl (.inl ⟨i,z⟩)
 obtain⟨w1,w2⟩:=wk i H2 (Own RI2 (U Fa OxI)) (fun a o q z=>P2.keep a o q fun k zk=>by
  obtain⟨j,_,zj⟩:=ric k a zk;exact z (.inl ⟨j,zj⟩)) lr fun a z=>P2.env.dom a z
 have DO:OxI D:=.inr (.inl rfl);by_cases hlt:i<ts.length
 ·obtain⟨go,yl⟩:=w1 ts[i] (zak hlt);rw[List.drop_eq_getElem_cons hlt]at hr;obtain⟨en3,h3,hr⟩:=zaa.mp hr;obtain⟨⟨b,en4⟩,h4,hr⟩:=zaa.mp hr;refine .inr ⟨go,fun τ' H'=>∃eni RI' acc vs Fa,PostS K lk dsi OxI (dv js σ) H1 RI τ' eni H' RI' Fa/\H' D=some (.lst vs)/\Ows K (Own RI' (U Fa OxI)) H' acc cd vs Fa/\lcF g c f (ts.drop (i+1)) acc eni=some (fin,enf)/\(q=true->(∀k j:Nat,js[k]?=some (some j)->RI' k=RI k)/\(∀a o,H1 a=some o->H' a=some o)),
   fun τ' H' ⟨eni,RI',acc,vs,Fa,P',x1,x2,x3,x4⟩=>⟨_,by omega,eni,RI',acc,vs,Fa,rfl,hlt,P',x1,x2,x3,x4⟩,fun x H3 y=>?_⟩
  obtain⟨gr,ox⟩:=yl x H3 y;have P3:Post K true dsi (U Fa OxI) τ H2 eni RI2 eni H3 RI2 NoA:=Post.new P2.env gr fun _ z=>z.elim;have chain:∀{τ5 en5 H5 RI5 F5},PostS K lk dsi (U Fa OxI) τ H2 RI2 τ5 en5 H5 RI5 F5->PostS K lk dsi OxI (dv js σ) H1 RI τ5 en5 H5 RI5 (U Fa F5):=fun {τ5 en5 H5 RI5 F5} P5=>by
   have n1:∀a,H2 a=none->H1 a=none:=fun a z=>by
    cases q:H1 a with
    |none=>rfl
    |some o=>
     obtain⟨o',q'⟩:=P2.dom a o q;rw[z]at q';cases q'
   refine⟨mK▸P5.env,fun a z z2=>?_,fun a o q n=>?_,fun a z=>?_,fun a o q=>?_,fun j hj=>(P5.lk j hj).trans (P2.lk j hj)⟩
   ·rcases z with z|z
    ·exact P2.fx a z z2
    ·exact P5.fx a z (.inr z2)
   ·refine P5.keep a o (P2.keep a o q n) fun i z=>?_;rcases P2.own a (.inr ⟨i,z⟩)with⟨j,z⟩|z
    ·exact n j z
    ·rw[q]at z;cases z
   ·rcases z with (z|z)|z
    ·exact P2.own a (.inl z)
    ·rcases P5.own a (.inl z)with z|z
     ·exact P2.own a (.inr z)
     ·exact .inr (n1 a z)
    ·rcases P5.own a (.inr z)with z|z
     ·exact P2.own a (.inr z)
     ·exact .inr (n1 a z)
   ·obtain⟨o',q'⟩:=P2.dom a o q;exact P5.dom a o' q'
  have carry:∀{τ5 en5 H5 RI5 F5},PostS K lk dsi (U Fa OxI) τ H2 RI2 τ5 en5 H5 RI5 F5->Ows K (Own RI5 (U (U Fa F5) OxI)) H5 acc cd vs Fa:=fun {τ5 en5 H5 RI5 F5} P5=>by
   refine Ows.mv (G:=Fa) ⟨fun a o q z=>P5.keep a o q fun i zi=>?_,fun a z=>?_⟩ acc (fun _ z=>z) oacc
   ·rcases z with z|z
    ·exact z (.inl ⟨i,zi⟩)
    ·exact P2.env.dx i a zi (.inl z)
   ·rcases z with z | (z|z)|z
    ·exact(P5.own a (.inr z)).imp .inl id
    ·exact .inl (.inr (.inl z))
    ·exact(P5.own a (.inl z)).imp .inl id
    ·exact .inl (.inr (.inr z))
  have UFN:U Fa NoA=Fa:=dN fun a=>⟨fun z=>z.elim id fun z=>z.elim,.inl⟩;refine⟨U Fa OxI,eni,RI2,ts[i],en3,P3.env0,ox,h3,fun τ4 R4 P4 r4=>?_⟩;have P4':=(P3.s (lk:=lk)).after P4;refine⟨U Fa OxI,en3,R4,b,en4,P4.env0,h4,fun H5 R5 P5=>?_⟩;have P5':=P4'.after (P5.s (lk:=lk));have pu5:q=true->(∀k j:Nat,js[k]?=some (some j)->R5 k=RI k)/\(∀a o,H1 a=some o->H5 a=some o):=fun hq=>by
   obtain⟨_,b2,b3⟩:=P5.pure hq;obtain⟨e1,e2⟩:=pu hq;refine⟨fun k j z=>?_,fun a o qq=>b3 a o (gr a o (e2 a o qq))⟩;rw[b2,r4 k (by rw[hl];have:=jg (n:=0) z;rw[Nat.zero_add]at this;exact this)];exact e1 k j z
  cases b with
  |false=>
   dsimp only
   rw[if_neg zbk];have c5:=chain P5';have o5:=carry P5';rw[UFN]at c5 o5;exact⟨en4,R5,acc,vs,Fa,c5,P5'.keep D _ hDl fun k z=>P2.env.dx k D z (.inr DO),o5,hr,pu5⟩
  |true=>
   dsimp only
   rw[if_pos rfl];obtain⟨⟨t6,en6⟩,h6,hr⟩:=zaa.mp (show((f en4).bind fun q=>if acc.length<sizeLine then lcF g c f (ts.drop (i+1)) (acc++[q.1]) q.2 else none)=some (fin,enf)from hr);refine⟨U Fa OxI,en4,R5,t6,en6,P5.env0,h6,fun v H6 R6 F6 P6 o6=>?_⟩;have P6':=P5'.after (P6.s (lk:=lk));by_cases ξ:acc.length<sizeLine
   case neg=>rw[if_neg ξ]at hr;cases hr
   rw[if_pos ξ]at hr;have hD6:=P6'.keep D _ hDl fun k z=>P2.env.dx k D z (.inr DO);refine⟨vs,hD6,by rw[oacc.len];exact ξ,en6,R6,acc++[t6],vs++[v],U Fa F6,?_,ax,?_,hr,?_⟩
   ·have c6:=chain P6';have keepD:∀a o,H6 a=some o->a≠D->upd H6 D (.lst (vs++[v])) a=some o:=fun a o q n=>by rw[au n];exact q
    refine⟨⟨fun k t hk=>?_,c6.env.dj,c6.env.dx,fun a z=>?_,c6.env.l1,c6.env.l2⟩,c6.fx,fun a o q n=>?_,c6.own,fun a o q=>?_,c6.lk⟩
    ·obtain⟨v',d',g1,g2,g3⟩:=c6.env.at_ k t hk;refine⟨v',d',g1,g2,Ow.mv (G:=R6 k) ⟨fun a o q z=>keepD a o q fun zD=>?_,fun a z=>.inl z⟩ t (fun _ z=>z) g3⟩;subst zD;rcases z with z|z
     ·exact z (.inr (.inr DO))
     ·exact c6.env.dx k a z (.inr DO)
    ·by_cases ha:a=D
     ·subst ha;exact⟨_,ax⟩
     ·obtain⟨o,q⟩:=c6.env.dom a z;exact⟨o,keepD a o q ha⟩
    ·refine keepD a o (c6.keep a o q n) fun zD=>?_;subst zD;rw[hD]at q;cases q
    ·obtain⟨o',q'⟩:=c6.dom a o q;by_cases ha:a=D
     ·subst ha;exact⟨_,ax⟩
     ·exact⟨o',keepD a o' q' ha⟩
   ·have o1:=carry P6';have o2:Ow K (Own R6 (U (U Fa F6) OxI)) H6 t6 cd v F6:=mK▸o6
    have:=Ows.snoc o1 o2 fun b z1 z2=>P6.fx b z2 (.inl z1);refine Ows.mv (G:=U Fa F6) ⟨fun a o q z=>?_,fun a z=>.inl z⟩ _ (fun _ z=>z) this;rw[au]
    ·exact q
    ·intro zD;subst zD;rcases z with z|z|z
     ·exact z (.inr (.inr DO))
     ·exact P2.fx a z DO
     ·exact P6.fx a z (.inr DO)
   ·intro hq;obtain⟨_,b2,b3⟩:=P6.pure hq;obtain⟨e1,e2⟩:=pu5 hq;refine⟨fun k j z=>by rw[b2];exact e1 k j z,fun a o qq=>?_⟩;rw[au]
    ·exact b3 a o (e2 a o qq)
    ·intro zD;subst zD;rw[hD]at qq;cases qq
 ·have e2:i=ts.length:=by omega
  subst e2;rw[List.drop_length]at hr;obtain⟨e3,e4⟩:acc=fin/\eni=enf:=by cases hr;exact⟨rfl,rfl⟩
  subst e3 e4;refine .inl ⟨w2 rfl,?_⟩;have fD:∀a,Fa a->a≠D:=fun a z z2=>by
   subst z2;exact P2.fx a z DO
  cases hq:q with
  |true=>
   obtain⟨e1,e2⟩:=pu hq;subst hq;have fn:∀a,Fa a->H1 a=none:=fun a z=>by
    rcases P2.own a (.inl z)with⟨k,z2⟩|z2
    ·obtain⟨j,hj,z3⟩:=ric k a z2;rw[<-e1 k j hj]at z2;exact absurd (.inl z) (P2.env.dx k a z2)
    ·exact z2
   have nt:NewTo H1 H2 (fun a=>a=D\/Fa a):=⟨e2,fun a z=>by
    rcases z with z|z
    ·subst z;exact⟨hD,_,hDl⟩
    ·exact⟨fn a z,P2.env.dom a (.inr (.inl z))⟩⟩
   have PF:=P1.fin nt;rw[zbO]at k;refine k (.ref D) H2 R1 _ PF ⟨D,vs,rfl,.inr ⟨hz,hDl,.inl rfl,Fa,fun b z=>⟨.inr z,fD b z⟩,?_⟩⟩;rw[hd];refine Ows.grow (fun a z=>?_) _ (fun _ z=>z) oacc;rcases z with⟨i,z⟩ | (z|z)|z
   ·by_cases hc2:∃kk:Nat,js[kk]?=some (some i)
    ·obtain⟨kk,hk⟩:=hc2;refine .inl ⟨kk,?_⟩;rw[e1 kk i hk,ri1 kk i hk];exact z
    ·exact .inr (.inr (.inr (.inr ⟨i,z,fun kk hk=>hc2 ⟨kk,hk⟩⟩)))
   ·exact .inr (.inr (z▸DO))
   ·exact .inr (.inl z)
   ·exact .inr (.inr (.inl z))
  |false=>
   subst hq;rw[zbP]at k
   classical
   let R3:Nat->AS:=fun i=>if hh:∃kk:Nat,js[kk]?=some (some i)then RI2 hh.choose else R1 i
   have r31:∀(i kk:Nat),js[kk]?=some (some i)->R3 i=RI2 kk:=fun i kk z=>by
    have hh:∃kk:Nat,js[kk]?=some (some i):=⟨kk,z⟩
    have:hh.choose=kk:=c2 _ _ i hh.choose_spec z;show(if hh:∃kk:Nat,js[kk]?=some (some i)then RI2 hh.choose else R1 i)=RI2 kk;rw[dif_pos hh,this]
   have r32:∀i:Nat,(∀kk:Nat,js[kk]?≠some (some i))->R3 i=R1 i:=fun i z=>by
    show(if hh:∃kk:Nat,js[kk]?=some (some i)then RI2 hh.choose else R1 i)=R1 i;rw[dif_neg fun⟨j,q⟩=>z j q]
   have r3c:∀(i:Nat) a,R3 i a->(∃kk:Nat,js[kk]?=some (some i)/\RI2 kk a)\/((∀kk:Nat,js[kk]?≠some (some i))/\R1 i a):=fun i a z=>by
    by_cases hh:∃kk:Nat,js[kk]?=some (some i)
    ·obtain⟨kk,hk⟩:=hh;rw[r31 i kk hk]at z;exact .inl ⟨kk,hk,z⟩
    ·rw[r32 i fun j z=>hh ⟨j,z⟩]at z;exact .inr ⟨fun j z=>hh ⟨j,z⟩,z⟩
   have gV:∀a,Own R3 (U (fun a=>a=D\/Fa a) Ox) a->Own RI2 (U Fa OxI) a:=fun a z=>by
    rcases z with⟨i,z⟩ | (z|z)|z
    ·rcases r3c i a z with⟨j,_,z⟩|⟨n,z⟩
     ·exact .inl ⟨j,z⟩
     ·exact .inr (.inr (.inr (.inr ⟨i,z,n⟩)))
    ·exact .inr (.inr (z▸DO))
    ·exact .inr (.inl z)
    ·exact .inr (.inr (.inl z))
   have el:eni.length=js.length:=by rw[P2.env.l1,<-P2.env.l2];exact cl
   have riO:∀(kk:Nat) a,RI kk a->Own R1 Ox a:=fun kk a z=>by
    obtain⟨j,_,z⟩:=ric kk a z;exact .inl ⟨j,z⟩
   have env3:EnvOk K ds1 (U (fun a=>a=D\/Fa a) Ox) H2 σ (wbB js eni en1) R3:=by
    refine⟨fun i u hu=>?_,fun i i' a z z'=>?_,fun i a z z2=>?_,fun a z=>P2.env.dom a (gV a z),by rw[m3];exact E1.l1,E1.l2⟩
    ·by_cases hh:∃kk:Nat,js[kk]?=some (some i)
     ·obtain⟨kk,hk⟩:=hh;obtain⟨dd,q1,q2⟩:=c1 kk i hk;have hil:i<en1.length:=by rw[E1.l1,<-E1.l2];exact(zah.mp q2).1
      rw[pC js eni en1 i kk hk (fun k' z=>c2 k' kk i z hk) el hil]at hu;obtain⟨v,d',g1,g2,g3⟩:=P2.env.at_ kk u hu;rw[q1]at g2;cases g2;have hlk:=P2.lk kk (by rw[hl];have:=jg (n:=0) hk;rw[Nat.zero_add]at this;exact this);rw[hlk]at g1;refine⟨v,dd,?_,q2,?_⟩
      ·unfold dv at g1;rw[zao,hk]at g1;have g1':(σ[i]?).join=some v:=zat g1;cases q3:σ[i]? with
       |none=>rw[q3]at g1';cases g1'
       |some o=>rw[q3]at g1';exact congrArg some g1'
      ·rw[r31 i kk hk];exact Ow.grow gV u (fun _ z=>z) g3
     ·rw[kF js eni en1 i fun j z=>hh ⟨j,z⟩]at hu;have ns:∀j:Nat,js[j]?≠some (some i):=fun j z=>hh ⟨j,z⟩;obtain⟨v,d',g1,g2,g3⟩:=E1.at_ i u hu;refine⟨v,d',g1,g2,?_⟩;rw[r32 i ns];refine Ow.mv (G:=R1 i) ⟨fun a o q z=>P2.keep a o q fun j zj=>?_,fun a z=>lr a (gV a z)⟩ u (fun _ z=>z) g3;obtain⟨j',hj',zj⟩:=ric j a zj;rcases z with z|z
      ·exact z (.inl ⟨j',zj⟩)
      ·have:=E1.dj i j' a z zj;subst this;exact ns j hj'
    ·rcases r3c i a z with⟨j,q,z⟩|⟨n,z⟩<;>rcases r3c i' a z' with⟨j',q',z'⟩|⟨n',z'⟩
     ·have:=P2.env.dj j j' a z z';subst this;rw[q]at q';cases q';rfl
     ·exact absurd (.inr (.inr (.inr ⟨i',z',n'⟩))) (P2.env.dx j a z)
     ·exact absurd (.inr (.inr (.inr ⟨i,z,n⟩))) (P2.env.dx j' a z')
     ·exact E1.dj i i' a z z'
    ·rcases r3c i a z with⟨j,q,z⟩|⟨n,z⟩
     ·refine P2.env.dx j a z ?_;rcases z2 with (z2|z2)|z2
      ·exact .inr (z2▸DO)
      ·exact .inl z2
      ·exact .inr (.inl z2)
     ·rcases z2 with (z2|z2)|z2
      ·exact nD a (.inl ⟨i,z⟩) z2
      ·exact P2.fx a z2 (.inr (.inr ⟨i,z,n⟩))
      ·exact E1.dx i a z z2
   have n1:∀a,H1 a=none->H a=none:=fun a z=>by
    cases q:H a with
    |none=>rfl
    |some o=>
     obtain⟨o',q'⟩:=P1.dom a o q;rw[z]at q';cases q'
   refine k (.ref D) H2 R3 (fun a=>a=D\/Fa a) ⟨env3,fun a z z2=>?_,fun a o q n=>?_,fun a z=>?_,fun a o q=>?_,fun z=>nomatch z⟩ ⟨D,vs,rfl,.inr ⟨hz,hDl,.inl rfl,Fa,fun b z=>⟨.inr z,fD b z⟩,?_⟩⟩
   ·rcases z with z|z
    ·exact nD a (.inr z2) z
    ·exact P2.fx a z (.inl z2)
   ·refine P2.keep a o (P1.keep a o q n) fun kk z=>?_;obtain⟨j,_,z⟩:=ric kk a z;rcases P1.own a (.inr ⟨j,z⟩)with⟨i',z⟩|z
    ·exact n i' z
    ·rw[q]at z;cases z
   ·have h3:(∃i,R1 i a)\/H1 a=none:=by
     have h4:(Fa a\/∃kk,RI2 kk a)->(∃i,R1 i a)\/H1 a=none:=fun z=>by
      rcases P2.own a z with⟨kk,z⟩|z
      ·obtain⟨j,_,z⟩:=ric kk a z;exact .inl ⟨j,z⟩
      ·exact .inr z
     rcases z with (z|z)|⟨i,z⟩
     ·exact .inr (z▸hD)
     ·exact h4 (.inl z)
     ·rcases r3c i a z with⟨j,_,z⟩|⟨n,z⟩
      ·exact h4 (.inr ⟨j,z⟩)
      ·exact .inl ⟨i,z⟩
    rcases h3 with h3|h3
    ·exact P1.own a (.inr h3)
    ·exact .inr (n1 a h3)
   ·obtain⟨o',q'⟩:=P1.dom a o q;exact P2.dom a o' q'
   ·rw[hd];exact Ows.grow gV _ (fun _ z=>z) oacc
def xv(hc:dE ds1 js dsi=true)(hd:dn d=cd)(hz:d≠0)(hl:lk=dD js 0)(h:tF K (p&&q) ds ds1 d (eLC q fi g c f js) σ H Q):
  tLC (tFI K p ds ds1 fi) (tFG K lk dsi dsi g) (tFT K q dsi dsi c) (tF K q dsi dsi cd f) js σ H Q:=by
 obtain⟨Ox,en,R,t,en',e,hf,k⟩:=h;unfold eLC at hf;obtain⟨⟨ts,en1⟩,h1,hf⟩:=zaa.mp hf;obtain⟨⟨fin,enf⟩,h2,hf⟩:=zab.mp hf;cases hf;exact⟨Ox,en,R,ts,en1,e,h1,fun J H1 R1 P1 wk D hD=>lD hc hd hz hl P1 wk hD h2 k⟩
end
def msk:List Nat->En->En
 |d::ds,o::en=>(if d=0 then none else o)::msk ds en
 |_,_=>[]
def fnF(n:Nat)(dps:List Nat)(b:MS):List PyData->Option (PyData×En):=fun ts=>(b (ts.map some++List.replicate n none)).bind fun fl=>match fl with
 |.rt t en=>some (t,msk dps en)
 |.nx en=>some (.none,msk dps en)
 |.ct _=>none
def nr(dps:List Nat):List Nat:=(List.range dps.length).filter fun j=>dps[j]? != some 0
section
variable{dps:List Nat}{t t1 t2:PyData}{D:Ends}
theorem rT:∀{dps:List Nat} {en:En} {j:Nat} {u:PyData},(msk dps en)[j]?=some (some u)->∃d,dps[j]?=some d/\d≠0/\en[j]?=some (some u)
 |[],en,j,u,h=>by unfold msk at h;simp at h
 |d::ds,[],j,u,h=>by unfold msk at h;simp at h
 |d::ds,o::en,j,u,h=>by
  unfold msk at h;cases j with
  |zero=>
   by_cases hd:d=0
   ·simp[hd]at h
   ·refine⟨d,rfl,hd,?_⟩;simpa[hd]using h
  |succ j=>
   have:=rT (dps:=ds) (en:=en) (j:=j) (u:=u) (by simpa using h);simpa using this
theorem rS:∀{dps:List Nat} {en:En},dps.length<=en.length->(msk dps en).length=dps.length
 |[],en,_=>by unfold msk;rfl
 |d::ds,[],h=>by simp at h
 |d::ds,o::en,h=>by
  unfold msk;rw[zac,zac,rS (by simpa using h)]
def BU{E:XK}{b:MS}(hn:N.length-dps.length=n)(h:spF K dps dr (fnF n dps b) vs H Q E):
  tFS K ⟨nr dps,dps++List.replicate n 0,dr,[]⟩ (dps++List.replicate n 0) (dps++List.replicate n 0) b { nx:=fun _ H'=>Q .non H',rt:=Q } (dh N vs) H:=by
 obtain⟨Ox,ts,R,r,ψ,e,hf,k⟩:=h;have lv:dps.length=vs.length:=by have:=e.l2;rw[zad]at this;exact this
 have lt:ts.length=vs.length:=by have:=e.l1;rw[zad,zad]at this;exact this
 have hs:dh N vs=vs.map some++List.replicate n none:=by unfold dh;rw[<-lv,hn]
 unfold fnF at hf;obtain⟨fl,h1,hf⟩:=zaa.mp hf;have get0:∀{α:Type} (xs:List α) (i:Nat) (u:α),(xs.map some++List.replicate n none)[i]?=some (some u)->(xs.map some)[i]?=some (some u)/\i<xs.length:=fun xs i u z=>by
  by_cases hi:i<xs.length
  ·rw[zaS (by rw[zad];exact hi)]at z;exact⟨z,hi⟩
  ·rw[List.getElem?_append_right (by rw[zad];omega),List.getElem?_replicate]at z;split at z
   ·cases z
   ·cases z
 have e0:EnvOk K (dps++List.replicate n 0) Ox H (dh N vs) (ts.map some++List.replicate n none) R:=by
  rw[hs];refine⟨fun i u hu=>?_,e.dj,e.dx,e.dom,by simp[lt],by simp[lv]⟩;obtain⟨hu',hi⟩:=get0 ts i u hu;obtain⟨v,d,g1,g2,g3⟩:=e.at_ i u hu';refine⟨v,d,?_,?_,g3⟩
  ·rw[zaS (by rw[zad];omega)];exact g1
  ·rw[zaS (by omega)];exact g2
 have back:∀{σ' en' H' R' F},PostS K (nr dps) (dps++List.replicate n 0) Ox (dh N vs) H R σ' en' H' R' F->Post K false dps Ox (vs.map some) H (ts.map some) R (msk dps en') H' R' F:=fun {σ' en' H' R' F} P=>by
  have l1:=P.env.l1;have l2:=P.env.l2;rw[zae,List.length_replicate]at l2;refine⟨⟨fun j u hu=>?_,P.env.dj,P.env.dx,P.env.dom,by rw[rS (by omega),zad];exact lv,by rw[zad];exact lv⟩,P.fx,P.keep,P.own,P.dom,fun z=>nomatch z⟩;obtain⟨d,a1,a2,a3⟩:=rT hu;obtain⟨v,d',g1,g2,g3⟩:=P.env.at_ j u a3;have hj:j<dps.length:=(zah.mp a1).1;have hlk:j∈nr dps:=by
   unfold nr;rw[zby,zbn];refine⟨hj,?_⟩;rw[a1];simpa using a2
  rw[P.lk j hlk,hs,zaS (by rw[zad];omega)]at g1;rw[zaS hj]at g2;exact⟨v,d',g1,g2,g3⟩
 refine⟨Ox,_,R,fl,e0,h1,?_⟩;cases fl with
 |nx en2=>
  cases hf;exact fun σ2 H2 R2 P2=>k .non H2 R2 NoA (back P2) rfl
 |ct en2=>cases hf
 |rt t en2=>
  cases hf;exact fun v σ2 H2 R2 F P2 o=>k v H2 R2 F (back P2) o
def Post.slot{F:AS}{o2:HO}(P:Post K p ds1 Ox σ H en R en1 H1 R1 F)(hl:R1 i l)(hi:i<en1.length)(hv:σ[i]?=some (some v))(hd:ds1[i]?=some d)
  (hg:∀a,G a->R1 i a\/F a) (hf:∀a,F' a->R1 i a\/F a) (hx:∀a,G a->¬F' a)
  (ho:Ow K (Own (fun j=>if j=i then G else R1 j) (U F' Ox)) (upd H1 l o2) t d v G):
  Post K false ds1 Ox σ H en R (en1.set i (some t)) (upd H1 l o2) (fun j=>if j=i then G else R1 j) F':=by
 have rc:∀(j:Nat) a,(if j=i then G else R1 j) a->R1 j a\/(j=i/\F a):=fun j a z=>by
  by_cases hj:j=i
  ·rw[if_pos hj]at z;rcases hg a z with z|z
   ·exact .inl (hj▸z)
   ·exact .inr ⟨hj,z⟩
  ·rw[if_neg hj]at z;exact .inl z
 have sub:∀a,Own (fun j=>if j=i then G else R1 j) (U F' Ox) a->Own R1 (U F Ox) a:=fun a z=>by
  rcases z with⟨j,z⟩|z|z
  ·rcases rc j a z with z|⟨_,z⟩
   ·exact .inl ⟨j,z⟩
   ·exact .inr (.inl z)
  ·rcases hf a z with z|z
   ·exact .inl ⟨i,z⟩
   ·exact .inr (.inl z)
  ·exact .inr (.inr z)
 have dom2:∀a o,H1 a=some o->∃o',upd H1 l o2 a=some o':=fun a o q=>by
  by_cases ha:a=l
  ·subst ha;exact⟨_,ax⟩
  ·exact⟨o,by rw[au ha];exact q⟩
 have nl:∀a o,H1 a=some o->a≠l->upd H1 l o2 a=some o:=fun a o q n=>by rw[au n];exact q
 refine⟨⟨fun j u hu=>?_,fun j j' a z z'=>?_,fun j a z z2=>?_,fun a z=>?_,by rw[zaV];exact P.env.l1,P.env.l2⟩,fun a z z2=>?_,fun a o q n=>?_,fun a z=>?_,fun a o q=>?_,fun z=>nomatch z⟩
 ·by_cases hj:j=i
  ·subst hj;rw[zaP hi]at hu;cases hu;refine⟨v,d,hv,hd,?_⟩;rw[if_pos rfl];exact ho
  ·rw[zaO (Ne.symm hj)]at hu;obtain⟨v',d',g1,g2,g3⟩:=P.env.at_ j u hu;refine⟨v',d',g1,g2,?_⟩;rw[if_neg hj];refine Ow.mv (G:=R1 j) ⟨fun a o q z=>nl a o q fun za=>?_,fun a z=>.inl (sub a z)⟩ u (fun _ z=>z) g3;subst za;rcases z with z|z
   ·exact z (.inl ⟨i,hl⟩)
   ·exact hj (P.env.dj j i a z hl)
 ·have z0:=z;have z0':=z';by_cases hj:j=i<;>by_cases hj':j'=i
  ·rw[hj,hj']
  ·rw[if_pos hj]at z0;rw[if_neg hj']at z0';rcases hg a z0 with z1|z1
   ·exact absurd (P.env.dj i j' a z1 z0') (fun e=>hj' e.symm)
   ·exact absurd (.inl z1) (P.env.dx j' a z0')
  ·rw[if_neg hj]at z0;rw[if_pos hj']at z0';rcases hg a z0' with z1|z1
   ·exact absurd (P.env.dj j i a z0 z1) hj
   ·exact absurd (.inl z1) (P.env.dx j a z0)
  ·rw[if_neg hj]at z0;rw[if_neg hj']at z0';exact P.env.dj j j' a z0 z0'
 ·have z0:=z;by_cases hj:j=i
  ·rw[if_pos hj]at z0;rcases z2 with z2|z2
   ·exact hx a z0 z2
   ·rcases hg a z0 with z1|z1
    ·exact P.env.dx i a z1 (.inr z2)
    ·exact P.fx a z1 z2
  ·rw[if_neg hj]at z0;rcases z2 with z2|z2
   ·rcases hf a z2 with z1|z1
    ·exact hj (P.env.dj j i a z0 z1)
    ·exact P.env.dx j a z0 (.inl z1)
   ·exact P.env.dx j a z0 (.inr z2)
 ·obtain⟨o,q⟩:=P.env.dom a (sub a z);exact dom2 a o q
 ·rcases hf a z with z1|z1
  ·exact P.env.dx i a z1 (.inr z2)
  ·exact P.fx a z1 z2
 ·refine nl a o (P.keep a o q n) fun za=>?_;subst za;rcases P.own a (.inr ⟨i,hl⟩)with⟨j,z⟩|z
  ·exact n j z
  ·rw[q]at z;cases z
 ·have:F a\/∃j,R1 j a:=by
   rcases z with z|⟨j,z⟩
   ·rcases hf a z with z|z
    ·exact .inr ⟨i,z⟩
    ·exact .inl z
   ·rcases rc j a z with z|⟨_,z⟩
    ·exact .inr ⟨j,z⟩
    ·exact .inl z
  exact P.own a this
 ·obtain⟨o',q'⟩:=P.dom a o q;exact dom2 a o' q'
def mQ{F:AS}(hg:∀a,G a->R1 i a\/F a)(hf:∀a,F' a->R1 i a\/F a):∀a,Own (fun j=>if j=i then G else R1 j) (U F' Ox) a->Own R1 (U F Ox) a:=fun a z=>by
 rcases z with⟨j,z⟩|z|z
 ·by_cases hj:j=i
  ·rw[if_pos hj]at z;rcases hg a z with z|z
   ·exact .inl ⟨i,z⟩
   ·exact .inr (.inl z)
  ·rw[if_neg hj]at z;exact .inl ⟨j,z⟩
 ·rcases hf a z with z|z
  ·exact .inl ⟨i,z⟩
  ·exact .inr (.inl z)
 ·exact .inr (.inr z)
def aK{α:Type}{en:List (Option α)}{t:α}(h:(en[i]?).join=some t):en[i]?=some (some t):=by
 cases q:en[i]? with
 |none=>rw[q]at h;cases h
 |some o=>rw[q]at h;exact congrArg some h
def Ow.sqL{ts:List PyData}{F:AS}(h:Ow K O H (.list ts) d v F):∃a vs,v=.ref a/\SqL K H a vs:=by
 obtain⟨a,vs,e,⟨_,h1,_⟩|⟨_,h1,_⟩⟩:=h
 ·exact⟨a,vs,e,h1.sq⟩
 ·exact⟨a,vs,e,SqL.of h1⟩
def Ow.ownL{ts:List PyData}{F:AS}(hd:d≠0)(h:Ow K O H (.list ts) d v F):∃a vs,v=.ref a/\H a=some (.lst vs)/\F a/\∃F':AS,(∀b,F' b->F b/\b≠a)/\Ows K O H ts (dn d) vs F':=by
 obtain⟨a,vs,e,⟨h0,_⟩|⟨_,h1,h2,h3⟩⟩:=h
 ·exact absurd h0 hd
 ·exact⟨a,vs,e,h1,h2,h3⟩
def Ows.past{ts:List PyData}{F:AS}{o:HO}(ho:∀a,O' a->O a)(hl:O l)(hf:∀b,F b->b≠l)(h:Ows K O H ts d vs F):Ows K O' (upd H l o) ts d vs F:=
 Ows.mv (G:=F) ⟨fun a u q z=>by
  rw[au]
  ·exact q
  ·intro za;subst za;rcases z with z|z
   ·exact z hl
   ·exact hf a z rfl,fun a z=>.inl (ho a z)⟩ ts (fun _ z=>z) h
def Ow.past{F:AS}{o:HO}(ho:∀a,O' a->O a)(hl:O l)(hf:∀b,F b->b≠l)(h:Ow K O H t d v F):Ow K O' (upd H l o) t d v F:=
 Ow.mv (G:=F) ⟨fun a u q z=>by
  rw[au]
  ·exact q
  ·intro za;subst za;rcases z with z|z
   ·exact z hl
   ·exact hf a z rfl,fun a z=>.inl (ho a z)⟩ t (fun _ z=>z) h
def fX(i:Nat)(f:ME):ME:=fun en=>match (en[i]?).join with
 |some (.list _)=>(f en).bind fun r=>match (r.2[i]?).join with
  |some (.list ts)=>if ts.length<sizeLine then some (.none,r.2.set i (some (.list (ts++[r.1]))))else none
  |_=>none
 |_=>none
def HB(hd:ds1[i]?=some d)(hz:d≠0)(hc:dn d=c)(h:tF K false ds ds1 3 (fX i f) σ H Q):tBM K "list" rO (eA i) (ig (tF K p ds ds1 c f) pG) σ H Q:=by
 obtain⟨Ox,en,R,t,en',e,hf,k⟩:=h;unfold fX at hf;split at hf
 case h_2=>cases hf
 next ts0 h0=>
 obtain⟨⟨t1,en1⟩,h1,hf⟩:=zaa.mp hf
 dsimp only at hf
 split at hf
 case h_2=>cases hf
 next ts h2=>
 by_cases ξ:ts.length<sizeLine
 case neg=>rw[if_neg ξ]at hf;cases hf
 rw[if_pos ξ]at hf;cases hf;obtain⟨v,d0,a1,_,a3⟩:=e.at_ i _ (aK h0);obtain⟨l0,vs0,e0,sq⟩:=a3.sqL;refine⟨v,a1,?_,Ox,en,R,t1,en1,e,h1,fun x H1 R1 F P o=>?_⟩
 ·rw[e0];exact .inl ⟨rfl,vs0,sq⟩
 obtain⟨v',d',b1,b2,b3⟩:=P.env.at_ i _ (aK h2);rw[a1]at b1;cases b1;rw[hd]at b2;cases b2;obtain⟨l,vs,el,hl,hr,F',hf',ow⟩:=b3.ownL hz;refine⟨l,vs,x,el,rfl,hl,by rw[ow.len];exact ξ,?_⟩;have hi:i<en1.length:=(zah.mp (aK h2)).1;have Fn:∀a,F a->a≠l:=fun a z z2=>by
  subst z2;exact P.env.dx i a hr (.inl z)
 have sub:=mQ (i:=i) (R1:=R1) (Ox:=Ox) (G:=fun a=>R1 i a\/F a) (F':=NoA) (F:=F) (fun _ z=>z) (fun _ z=>z.elim);have Ol:Own R1 (U F Ox) l:=.inl ⟨i,hr⟩;refine k .non (upd H1 l (.lst (vs++[x]))) _ NoA (P.slot (G:=fun a=>R1 i a\/F a) hr hi a1 hd (fun _ z=>z) (fun _ z=>z.elim) (fun _ _ z=>z) ?_) rfl;refine⟨l,vs++[x],el,.inr ⟨hz,ax,.inl hr,U F' F,fun b z=>?_,?_⟩⟩
 ·rcases z with z|z
  ·exact⟨.inl (hf' b z).1,(hf' b z).2⟩
  ·exact⟨.inr z,Fn b z⟩
 ·refine Ows.snoc (Ows.past sub Ol (fun b z=>(hf' b z).2) ow) ?_ fun b z1 z2=>P.env.dx i b (hf' b z1).1 (.inl z2);rw[hc];exact Ow.past sub Ol Fn o
theorem Ows.out:∀{ts:List PyData} {vs:List V} {F:AS} {k:Nat} {t:PyData},Ows K O H ts d vs F->ts[k]?=some t ->
  ∃v,∃F1 F2:AS,vs[k]?=some v/\(∀b,F1 b->F b)/\(∀b,F2 b->F b)/\(∀b,F1 b->¬F2 b)/\Ow K O H t d v F1/\Ows K O H (ts.eraseIdx k) d (vs.eraseIdx k) F2
 |[],_,_,k,t,_,h=>by simp at h
 |u::ts,_,F,k,t,h,hk=>by
  obtain⟨v,r,F1,F2,e,s1,s2,s3,h4,h5⟩:=h;subst e;cases k with
  |zero=>
   have:u=t:=by simpa using hk
   subst this;exact⟨v,F1,F2,rfl,s1,s2,s3,h4,h5⟩
  |succ k=>
   obtain⟨w,G1,G2,g1,g2,g3,g4,g5,g6⟩:=Ows.out (k:=k) h5 (by simpa using hk);refine⟨w,G1,U F1 G2,by simpa using g1,fun b z=>s2 b (g2 b z),fun b z=>z.elim (s1 b) fun z=>s2 b (g3 b z),fun b z z2=>?_,g5,v,r.eraseIdx k,F1,G2,rfl,fun b=>.inl,fun b=>.inr,fun b z1 z2=>s3 b z1 (g3 b z2),h4,g6⟩;rcases z2 with z2|z2
   ·exact s3 b z2 (g2 b z)
   ·exact g4 b z z2
def IK(i:Nat)(f:ME):ME:=fun en=>match (en[i]?).join with
 |some (.list _)=>(f en).bind fun r=>match r.1,(r.2[i]?).join with
  |.int n,some (.list ts)=>if -(2 ^ 63)<=n/\n<2 ^ 63 then(seqIndex? n ts.length).bind fun k=>(ts[k]?).map fun t=>(t,r.2.set i (some (.list (ts.eraseIdx k))))else none
  |_,_=>none
 |_=>none
theorem Ows.rev:∀{ts:List PyData} {vs:List V} {F:AS},Ows K O H ts d vs F->Ows K O H ts.reverse d vs.reverse F
 |[],_,_,h=>by rw[show _=[]from h];rfl
 |t::ts,_,F,h=>by
  obtain⟨v,r,F1,F2,e,s1,s2,s3,h4,h5⟩:=h;subst e;rw[List.reverse_cons,List.reverse_cons];exact Ows.grow (fun _ z=>z) _ (fun b z=>z.elim (s2 b) (s1 b)) (Ows.snoc h5.rev h4 fun b z1 z2=>s3 b z2 z1)
theorem Ows.setAt:∀{ts:List PyData} {vs:List V} {F F2:AS} {k:Nat} {t:PyData} {v:V},Ows K O H ts d vs F->Ow K O H t d v F2->(∀b,F b->¬F2 b)->Ows K O H (ts.set k t) d (vs.set k v) (U F F2)
 |[],_,_,_,_,_,_,h,_,_=>by rw[show _=[]from h];rfl
 |u::ts,_,F,F2,k,t,v,h,h2,hd=>by
  obtain⟨w,r,G1,G2,e,s1,s2,s3,h4,h5⟩:=h;subst e;cases k with
  |zero=>exact⟨v,r,F2,G2,rfl,fun _ z=>.inr z,fun b z=>.inl (s2 b z),fun b z z2=>hd b (s2 b z2) z,h2,h5⟩
  |succ k=>
   refine⟨w,r.set k v,G1,U G2 F2,rfl,fun b z=>.inl (s1 b z),fun b z=>z.imp (s2 b) id,fun b z z2=>?_,h4,Ows.setAt h5 h2 fun b z=>hd b (s2 b z)⟩;rcases z2 with z2|z2
   ·exact s3 b z z2
   ·exact hd b (s1 b z) z2
def dJ(i:Nat)(fk fe:ME):MS:=fun en=>(fe en).bind fun r=>match (r.2[i]?).join with
 |some _=>(fk r.2).bind fun q=>match q.1,(q.2[i]?).join with
  |.int n,some (.list ts)=>(ixN ts.length n).map fun k=>.nx (q.2.set i (some (.list (ts.set k r.1))))
  |_,_=>none
 |none=>none
def BH(hd:ds2[i]?=some d)(hz:d≠0)(hc:dn d=c)(h:tFS K J ds ds2 (dJ i fk fe) D σ H):
  i7 (tF K p1 ds ds1 c fe) (tT (eA i) (tF K p2 ds1 ds2 d2 fk) pf) D σ H:=by
 obtain⟨Ox,en,R,fl,e,hf,k⟩:=h;unfold dJ at hf;obtain⟨⟨t1,en1⟩,h1,hf⟩:=zaa.mp hf
 dsimp only at hf
 split at hf
 case h_2=>cases hf
 next tt h0=>
 obtain⟨⟨t2,en2⟩,h2,hf⟩:=zaa.mp hf
 dsimp only at hf
 split at hf
 case h_2=>cases hf
 next n ts h3=>
 obtain⟨kk,h4,hf⟩:=zab.mp hf;cases hf;refine⟨Ox,en,R,t1,en1,e,h1,fun x H1 R1 F1 P1 o1=>?_⟩;obtain⟨v0,d0,a1,_,_⟩:=P1.env.at_ i tt (aK h0);refine⟨v0,a1,?_⟩;refine⟨U F1 Ox,en1,R1,.int n,en2,P1.env,h2,fun y H2 R2 F2 P2 o2=>?_⟩;have P:=P1.trans P2;have o1':=Ow.over P1.env P2 o1;obtain⟨v',d',b1,b2,b3⟩:=P.env.at_ i _ (aK h3);rw[a1]at b1;cases b1;rw[hd]at b2;cases b2;obtain⟨l,vs,el,hl,hr,F',hf',ow⟩:=b3.ownL hz;refine⟨l,vs,n,kk,el,o2,hl,by rw[ow.len];exact h4,?_⟩;have hi:i<en2.length:=(zah.mp (aK h3)).1;have Fn:∀a,F1 a->a≠l:=fun a z z2=>by
  subst z2;exact P.env.dx i a hr (.inl (.inl z))
 have gG:∀a,(fun a=>R2 i a\/F1 a) a->R2 i a\/U F1 F2 a:=fun a z=>z.imp id .inl;have sub:=mQ (i:=i) (R1:=R2) (Ox:=Ox) (G:=fun a=>R2 i a\/F1 a) (F':=NoA) (F:=U F1 F2) gG (fun _ z=>z.elim);have Ol:Own R2 (U (U F1 F2) Ox) l:=.inl ⟨i,hr⟩;have PS:=P.slot (G:=fun a=>R2 i a\/F1 a) (F':=NoA) (o2:=.lst (vs.set kk x)) (t:=.list (ts.set kk t1)) hr hi a1 hd gG (fun _ z=>z.elim) (fun _ _ z=>z) ?_
 ·exact k σ _ _ PS.s
 refine⟨l,vs.set kk x,el,.inr ⟨hz,ax,.inl hr,U F' F1,fun b z=>?_,?_⟩⟩
 ·rcases z with z|z
  ·exact⟨.inl (hf' b z).1,(hf' b z).2⟩
  ·exact⟨.inr z,Fn b z⟩
 ·refine Ows.setAt (Ows.past sub Ol (fun b z=>(hf' b z).2) ow) ?_ fun b z1 z2=>P.env.dx i b (hf' b z1).1 (.inl (.inl z2));rw[hc];exact Ow.past sub Ol Fn o1'
theorem Ows.get:∀{ts:List PyData} {vs:List V} {F:AS} {k:Nat} {t:PyData},Ows K O H ts d vs F->ts[k]?=some t->∃v,vs[k]?=some v/\Ow K O H t d v F
 |[],_,_,k,t,_,h=>by simp at h
 |u::ts,_,F,k,t,h,hk=>by
  obtain⟨v,r,F1,F2,e,s1,s2,s3,h4,h5⟩:=h;subst e;cases k with
  |zero=>
   have:u=t:=by simpa using hk
   subst this;exact⟨v,rfl,Ow.grow (fun _ z=>z) u s1 h4⟩
  |succ k=>
   obtain⟨w,g1,g2⟩:=Ows.get (k:=k) h5 (by simpa using hk);exact⟨w,by simpa using g1,Ow.grow (fun _ z=>z) t s2 g2⟩
def Ows.atI{ts:List PyData}{vs:List V}{F:AS}{n:Int}{t:PyData}(h:Ows K O H ts d vs F)(ht:L2.atI ts n=some t):∃v,L2.atI vs n=some v/\Ow K O H t d v F:=by
 unfold L2.atI at ht ⊢;rw[h.len];obtain⟨k,h1,h2⟩:=zaa.mp ht;obtain⟨v,g1,g2⟩:=h.get h2;exact⟨v,by rw[h1];exact g1,g2⟩
def cy(i:Nat)(f:ME):ME:=fun en=>(en[i]?).join.bind fun _=>(f en).bind fun r=>match r.1,(r.2[i]?).join with
 |.int n,some (.list ts)=>(atI ts n).map fun t=>(t,r.2)
 |_,_=>none
def Hx(hd:ds1[i]?=some 1)(h:tF K p ds ds1 0 (cy i f) σ H Q):tOp (sQ K) (eA i) (tF K p ds ds1 d1 f) σ H Q:=by
 obtain⟨Ox,en,R,t,en',e,hf,k⟩:=h;unfold cy at hf;obtain⟨t0,h0,hf⟩:=zaa.mp hf;obtain⟨⟨t1,en1⟩,h1,hf⟩:=zaa.mp hf
 dsimp only at hf
 split at hf
 case h_2=>cases hf
 next n ts h2=>
 obtain⟨t',h3,hf⟩:=zab.mp hf;cases hf;obtain⟨v,d0,a1,_,a3⟩:=e.at_ i _ (aK h0);refine⟨v,a1,Ox,en,R,.int n,_,e,h1,fun x H1 R1 F P o=>?_⟩;obtain⟨v',d',b1,b2,b3⟩:=P.env.at_ i _ (aK h2);rw[a1]at b1;cases b1;rw[hd]at b2;cases b2;obtain⟨l,vs,el,hl,hr,F',hf',ow⟩:=b3.ownL (by decide);obtain⟨w,g1,g2⟩:=ow.atI h3;refine⟨l,vs,n,w,el,o,SqL.of hl,g1,k w H1 R1 NoA (P.less fun _ z=>z.elim) ?_⟩;exact Ow.any0 _ (Ow.grow (fun a z=>z.imp id fun z=>z.elim (fun z=>False.elim z) Or.inr) _ (fun _ z=>z) g2)
end
def PE.imp{t t':TE}(h:PE X e t)(hi:∀σ H Q,t' σ H Q->t σ H Q):PE X e t':=fun ρ s σ H Q I hw=>h ρ s σ H Q I (hi _ _ _ hw)
def PT.imp{t:TT}(h:PT X e t)(hi:∀σ H Q,t' σ H Q->t σ H Q):PT X e t':=fun ρ s σ H Q I hw=>h ρ s σ H Q I (hi _ _ _ hw)
def PW.imp{t:TT}(h:PW X e t)(hi:∀σ H Q,t' σ H Q->t σ H Q):PW X e t':=fun wh ρ s σ H Q I hw=>h wh ρ s σ H Q I (hi _ _ _ hw)
def PA.imp{e:List Expr}{t t':TA}(h:PA X e t)(hi:∀σ H Q,t' σ H Q->t σ H Q):PA X e t':=fun pos ρ s σ H Q I hw=>h pos ρ s σ H Q I (hi _ _ _ hw)
def PS.imp{e:Stmt}{t t':TS}(h:PS X e t)(hi:∀D σ H,t' D σ H->t D σ H):PS X e t':=fun ρ s σ H D I hw=>h ρ s σ H D I (hi _ _ _ hw)
def PSs.imp{e:List Stmt}{t t':TS}(h:PSs X e t)(hi:∀D σ H,t' D σ H->t D σ H):PSs X e t':=fun ρ s σ H D I hw=>h ρ s σ H D I (hi _ _ _ hw)
def PG.imp{t t':TG}(h:PG X e t)(hi:∀v σ H Q,t' v σ H Q->t v σ H Q):PG X e t':=fun ρ s σ H v u Q I r hw=>h ρ s σ H v u Q I r (hi _ _ _ _ hw)
def PGs.imp{e:List Expr}{t t':TGs}(h:PGs X e t)(hi:∀v σ H Q,t' v σ H Q->t v σ H Q):PGs X e t':=fun ρ s σ H v u Q I r hw=>h ρ s σ H v u Q I r (hi _ _ _ _ hw)
def PI.imp{t t':TI}(h:PI X tg e t)(hi:∀σ H R,t' σ H R->t σ H R):PI X tg e t':=fun ρ s σ H R I hw=>h ρ s σ H R I (hi _ _ _ hw)
def PTs.imp{e:List Expr}{t:TT}(h:PTs X e t)(hi:∀σ H Q,t' σ H Q->t σ H Q):PTs X e t':=fun ρ s σ H Q I hw=>h ρ s σ H Q I (hi _ _ _ hw)
def aH:Expr->Bool
 |.Starred _ _=>false
 |_=>true
def bR(h:aH e=true):starEach (e::es) env=(false,eval e env)::starEach es env:=by
 cases e<;>first|rfl|cases h
theorem fu{pos:Pos}{env:Env}:∀{es:List Expr},es.all aH=true->(backTo pos (starEach es env)).any (·.1)=false
 |[],_=>rfl
 |e::es,h=>by
  rw[List.all_cons,zbj]at h;rw[bR h.1];show(false || (backTo pos (starEach es env)).any (·.1))=false;rw[fu h.2];rfl
section
variable{a c:Expr}{m:MT}    
def FN(hN:X.N[i]?=some x)(hv:Vis X.env.scope x)(h0:ds[i]?=some 0)(hd:(x==("__debug__":Str))=false)(hcd:(x==("__classdict__":Str))=false):PE X (.Name x pos) (tF K p ds ds 0 (ac i)):=
 (cf hN hv hd hcd).imp fun _ _ _ h=>Ho h0 (jr (fun _=>rfl) h)
def Hh(hN:X.N[i]?=some x)(hv:Vis X.env.scope x)(h0:ds[i]?=some d)(hds:ds.set i 0=ds')(hd:(x==("__debug__":Str))=false)(hcd:(x==("__classdict__":Str))=false):PE X (.Name x pos) (tF K false ds ds' d (eMv i)):=by
 subst hds;exact(cf hN hv hd hcd).imp fun _ _ _=>Ig h0
def FY{n:Int}{j}:PE X (.Constant (.int n) j pos) (tF K p ds ds 3 (eC (.int n))):=pe_int.imp fun _ _ _ h=>f_c (t:=.int n) (fun _ _ _ _=>rfl) (jr (fun _=>rfl) h)
def Hn{n:Bool}{j}:PE X (.Constant (.bool n) j pos) (tF K p ds ds 3 (eC (.bool n))):=pe_bl.imp fun _ _ _ h=>f_c (t:=.bool n) (fun _ _ _ _=>rfl) (jr (fun _=>rfl) h)
def FT{j}:PE X (.Constant .none j pos) (tF K p ds ds 3 (eC .none)):=pe_non.imp fun _ _ _ h=>f_c (t:=.none) (fun _ _ _ _=>rfl) (jr (fun _=>rfl) h)
def FQ{n:Str}{j}:PE X (.Constant (.str n) j pos) (tF K p ds ds 3 (eC (.str n))):=pe_str.imp fun _ _ _ h=>f_c (t:=.str n) (fun _ _ _ _=>rfl) (jr (fun _=>rfl) h)
def FP(h:PE X e (tF K p ds ds' d f))(hd:Le4 d' d):PE X e (tF K p ds ds' d' f):=h.imp fun _ _ _=>Hr hd
def Hl(h:PE X e (tF K p ds0 ds' d f))(hd:leD ds0 ds=true):PE X e (tF K false ds ds' d f):=h.imp fun _ _ _=>Ii hd
def F9(h:PE X e (tF K true ds0 ds0 3 f))(hd:leD ds0 ds=true):PE X e (tF K p ds ds 3 f):=h.imp fun _ _ _ h=>HA hd (jr (fun _=>rfl) h)
def Hg{op:Operator}(ho:OpR X (binaryOp op) (rF2 K g d))(ha:PE X a (tF K p ds ds1 d1 f1))(hb:PE X b (tF K p ds1 ds2 d2 f2)):PE X (.BinOp a op b pos) (tF K p ds ds2 d (e2 g f1 f2)):=
 (GS ho ha hb).imp fun _ _ _ h=>my (by rw[zbh];exact h)
def He{op:UnaryOp}{g:D->Option D}(ho:UnR X (unaryOp op) (rF1 K g d))(ha:PE X a (tF K p ds ds1 d1 f1)):PE X (.UnaryOp op a pos) (tF K p ds ds1 d (e1 g f1)):=
 (GP ho ha).imp fun _ _ _=>Ht
def F8(ho:OpR X (compareOp op) (rF2 K g d))(ha:PE X a (tF K p ds ds1 d1 f1))(hb:PE X b (tF K p ds1 ds2 d2 f2))(hm:behindInMarks op b=false):PE X (.Compare a [op] [b] pos) (tF K p ds ds2 d (e2 g f1 f2)):=
 (Bh ho ha hb hm).imp fun _ _ _ h=>my (by rw[zbh];exact h)
def BB(ho:OpR X (compareOp op) (rF2 K g d))(ha:PE X a (tF K p ds ds1 d1 f1))(hb:PE X b (tF K p ds1 ds2 d2 f2))(hm:behindInMarks op b=false):PT X (.Compare a [op] [b] pos) (tFT K p ds ds2 (tV (e2 g f1 f2))):=
 (Bb ho ha hb hm).imp fun σ H Q h=>by
  obtain⟨Ox,en,R,t,en',e,hf,k⟩:=qw (d:=d) h;exact my (by rw[zbh];exact⟨Ox,en,R,t,en',e,hf,k⟩)
def Bz(h:PE X e (tF K p ds ds' d f))(he:∀χ,isTrue e X.env χ=(do let v <-χ;standAt e.pos;holding [v] (truthy v))):PT X e (tFT K p ds ds' (tV f)):=(Ew h he).imp fun _ _ _=>qw
def Bw(ha:PT X a (tFT K p ds ds1 c1)):PW X (.BoolOp .And [a] pos) (tFT K p ds ds1 c1):=A7 ha
def Fs(ha:PT X a (tFT K p ds ds1 c1)):PW X (.BoolOp .Or [a] pos) (tFT K p ds ds1 c1):=Eu ha
def Ft{rest:List Expr}(ha:PT X a (tFT K p ds ds1 c1))(hb:PW X (.BoolOp .And (b::rest) pos) (tFT K p ds1 ds1 c2)):PW X (.BoolOp .And (a::b::rest) pos) (tFT K p ds ds1 (eJ c1 c2)):=(Ev ha hb).imp fun _ _ _ h=>Fw (by rw[zbh];exact h)
def G7{rest:List Expr}(ha:PT X a (tFT K p ds ds1 c1))(hb:PW X (.BoolOp .Or (b::rest) pos) (tFT K p ds1 ds1 c2)):PW X (.BoolOp .Or (a::b::rest) pos) (tFT K p ds ds1 (bOr c1 c2)):=(GN ha hb).imp fun _ _ _ h=>G8 (by rw[zbh];exact h)
def BA(ha:PT X a (tFT K p ds ds1 c1)):PT X (.UnaryOp .Not a pos) (tFT K p ds ds1 (bN c1)):=(Ex ha).imp fun _ _ _=>Fu
def BC(h:PT X e (tFT K true ds0 ds0 c1))(hd:leD ds0 ds=true):PT X e (tFT K p ds ds c1):=h.imp fun _ _ _ ⟨Ox,en,R,t,en',e,hf,k⟩=>Fv hd ⟨Ox,en,R,t,en',e,hf,fun H' R' P=>k H' R' ⟨P.env,P.fx,P.keep,P.own,P.dom,fun _=>P.pure rfl⟩⟩
def FR{op}(h:PE X a (tF K p ds ds1 d f)):PE X (.BoolOp op [a] pos) (tF K p ds ds1 d f):=EE h
def Gb{rest:List Expr}(ha:PE X a (tF K p ds ds1 d1 f1))(hb:PE X (.BoolOp .And (b::rest) pos) (tF K p ds1 ds1 d f2)):PE X (.BoolOp .And (a::b::rest) pos) (tF K p ds ds1 d (dS f1 f2)):=(EH ha hb).imp fun _ _ _ h=>HC (by rw[zbh];exact h)
def Hf{rest:List Expr}(ha:PE X a (tF K p ds ds1 d1 f1))(hb:PE X (.BoolOp .Or (b::rest) pos) (tF K p ds1 ds1 d f2)):PE X (.BoolOp .Or (a::b::rest) pos) (tF K p ds ds1 d (eOr f1 f2)):=(GR ha hb).imp fun _ _ _ h=>Ie (by rw[zbh];exact h)
def FS(ha:PE X a (tF K p ds ds1 d1 f)):PE X (.UnaryOp .Not a pos) (tF K p ds ds1 3 (iE f)):=(EF ha).imp fun _ _ _=>Hu
def Hk(hc:PT X c (tFT K p ds ds1 c1))(ha:PE X a (tF K p ds1 ds2 d f1))(hb:PE X b (tF K p ds1 ds2 d f2)):PE X (.IfExp c a b pos) (tF K p ds ds2 d (eIf c1 f1 f2)):=(wA hc ha hb).imp fun _ _ _ h=>Ih (by rw[zbh,zbh];exact h)
def B8:PA X [] (tFA K p ds ds [] af):=pa_nil.imp fun _ _ _ ⟨Ox,en,R,t,en',e,hf,k⟩=>Gc ⟨Ox,en,R,t,en',e,hf,fun vs H' R' F P=>k vs H' R' F ⟨P.env,P.fx,P.keep,P.own,P.dom,fun _=>P.pure rfl⟩⟩
def xu(ha:PE X e (tF K p ds ds1 d f))(hr:PA X es (tFA K p ds1 ds2 sh fa))(hs:aH e=true):PA X (e::es) (tFA K p ds ds2 (.inl d::sh) (aa f fa)):=(dk ha hr (bR hs)).imp fun _ _ _ h=>B9 (by rw[zbh];exact h)
def xr(hN:X.N[i]?=some x)(hv:Vis X.env.scope x)(hr:PA X es (tFA K p ds ds2 sh fa))(hd:(x==("__debug__":Str))=false)(hcd:(x==("__classdict__":Str))=false):
  PA X (.Name x pos::es) (tFA K p ds ds2 (.inr i::sh) (aC i fa)):=(dk (cf hN hv hd hcd) hr (bR rfl)).imp fun _ _ _=>B7
def FU{c:Nat}(h:PA X es (tFA K p ds ds1 sh fa))(hs:bS c sh=true)(hd:dn d=c)(hz:d≠0):PE X (.List es pos) (tF K p ds ds1 d (a6 fa)):=(uU h).imp fun _ _ _=>Hv hs hd hz
def FO{c:Nat}{x1}(h:PA X es (tFA K p ds ds1 sh fa))(hs:bS c sh=true)(hd:dn d=c):PE X (.Tuple es x1 pos) (tF K p ds ds1 d (aX fa)):=(ED h).imp fun _ _ _=>Hq hs hd
def xq{id:String}{g:List D->Option D}(hc:CallR X (.builtin id) (rFn K g d))(hg:Gl X x)(hm:X.mg x=none)(hv:bootBuiltins x=some (.builtin id))(ha:PA X (e::es) (tFA K p ds ds1 sh fa))(hsh:bS 0 sh=true)(hn:x≠"__name__")(hdb:(x==("__debug__":Str))=false)
  (he:aH e=true) (hpl:es.all aH=true):PE X (.Call (.Name x px) (e::es) [] pos) (tF K p ds ds1 d (eN g fa)):=
 (pX hc hg hm hv ha hn hdb (bR he) (fu hpl)).imp fun _ _ _=>vJ hsh
def vI{g:List D->Option D}(hc:CallR X (.type T) (rFn K g d))(hg:Gl X x)(hm:X.mg x=none)(hv:bootBuiltins x=some (.type T))(ha:PA X (e::es) (tFA K p ds ds1 sh fa))(hsh:bS 0 sh=true)(hn:x≠"__name__")(hdb:(x==("__debug__":Str))=false)
  (he:aH e=true) (hpl:es.all aH=true):PE X (.Call (.Name x px) (e::es) [] pos) (tF K p ds ds1 d (eN g fa)):=
 (uV hc hg hm hv ha hn hdb (bR he) (fu hpl)).imp fun _ _ _=>vJ hsh
def Hm{dps:List Nat}{F:List D->Option (D×En)}(G:Kn X.prog X.w X.K X.mg X.base k x ps (spF K dps dr F))(hr:Room k X.A)(hg:Gl X x)(ha:PA X (e::es) (tFA K p ds ds1 sh fa))(hns:fI sh=true)(hcd:cc ds1 sh dps=true)(hdb:(x==("__debug__":Str))=false)
  (he:aH e=true) (hpl:es.all aH=true):
  PE X (.Call (.Name x px) (e::es) [] pos) (tF K p ds ds1 dr (ai F fa)):=(sT G hr hg ha hdb (bR he) (fu hpl)).imp fun _ _ _ h=>Gf hcd (by rw[hns,zbO];exact h)
def FZ{dps:List Nat}{F:List D->Option (D×En)}(G:Kn X.prog X.w X.K X.mg X.base k x ps (spF K dps dr F))(hr:Room k X.A)(hg:Gl X x)(ha:PA X (e::es) (tFA K false ds ds1 sh fa))(hcd:cc ds1 sh dps=true)(hdb:(x==("__debug__":Str))=false)
  (he:aH e=true) (hpl:es.all aH=true):
  PE X (.Call (.Name x px) (e::es) [] pos) (tF K false ds ds1 dr (ai F fa)):=(sT G hr hg ha hdb (bR he) (fu hpl)).imp fun _ _ _ h=>Gf hcd h
def Hj(ho:IxR X (rF2 K g d))(ha:PE X a (tF K p ds ds1 d1 f1))(hb:PE X b (tF K p ds1 ds2 d2 f2))(hs:dw b):PE X (.Subscript a b pos) (tF K p ds ds2 d (e2 g f1 f2)):=
 (l5 ho ha hb hs).imp fun _ _ _ h=>my (by rw[zbh];exact h)
def FW(hK:X.K=K)(hN:X.N[i]?=some x)(hv:Vis X.env.scope x)(h1:ds1[i]?=some 1)(hb:PE X b (tF K p ds ds1 d1 f))(hs:dw b)(hd:(x==("__debug__":Str))=false)(hcd:(x==("__classdict__":Str))=false):
  PE X (.Subscript (.Name x px) b pos) (tF K p ds ds1 0 (cy i f)):=(l5 (HV hK) (cf hN hv hd hcd) hb hs).imp fun _ _ _=>Hx h1
def Ga{c:Nat}(hK:X.K=K)(hN:X.N[i]?=some x)(hv:Vis X.env.scope x)(h1:ds1[i]?=some d)(he:PE X e (tF K false ds ds1 c f))(hz:d≠0)(hc:dn d=c)
  (hd:(x==("__debug__":Str))=false) (hcd:(x==("__classdict__":Str))=false)
  (η:attributeBase (.Name x px) "append" X.env (eval (.Name x px) X.env)=eval (.Name x px) X.env)
  (hfew:((backTo ω (starEach [e] X.env)).all (fun x=>!x.1)&&(backToKw ω (keywordEach [] X.env)).all (fun x=>x.1.isSome)&&decide (([e]:List Expr).length+([]:List Keyword).length+(if([]:List Keyword).isEmpty then 0 else 1)<30))=true)
  (θ:(μ.endLine==ω.line)=true) (hs:starEach [e] X.env=[(false,eval e X.env)]) (ι:(backTo ω (starEach [] X.env)).any (·.1)=false):
  PE X (.Call (.Attribute (.Name x px) "append" μ) [e] [] ω) (tF K false ds ds1 3 (fX i f)):=by
 subst hK;exact(AD PySem.F.plainAttrs_list PySem.F.slot_list_append PySem.F.type_list_append nY (cf hN hv hd hcd) (dk he pa_nil hs) η hfew θ hs ι).imp fun _ _ _=>HB h1 hz hc
def cY:MT:=fun en=>some (true,en)
def By:PTs X [] (tFT K p ds ds cY):=pts_nil.imp fun σ H Q ⟨Ox,en,R,b,en',e,hf,k⟩=>by
 cases hf;exact k H R (Post.refl e)
def Bx(hc:PT X c (tFT K p ds ds1 c1)):PTs X [c] (tFT K p ds ds1 c1):=Ba hc
def Hi{g:MG}(B:BlkOkC X scope ns js)(hc:X.calm=true)(hi:PI X tg iter (tFI K p ds ds1 fi))
  (hg:∀C cl s₀ H₀ fp,PG (aE X scope ns C cl s₀ H₀ fp) tg (tFG K lk dsi dsi g)) (ht:∀C cl s₀ H₀ fp,PTs (aE X scope ns C cl s₀ H₀ fp) ifs (tFT K true dsi dsi c1)) (he:∀C cl s₀ H₀ fp,PE (aE X scope ns C cl s₀ H₀ fp) elt (tF K true dsi dsi cd f))
  (hcap:dE ds1 js dsi=true) (hd:dn d=cd) (hz:d≠0) (hlk:lk=dD js 0)
  (hs:∀x,foldedSetIterable iter X.env x=pure x):PE X (.ListComp elt [⟨tg,iter,ifs,0⟩] scope pos) (tF K p ds ds1 d (eLC true fi g c1 f js)):=
 (pW B hc hi hg ht he hs).imp fun _ _ _ h=>xv hcap hd hz hlk (by rw[zbO];exact h)
def FV{g:MG}(B:BlkOkC X scope ns js)(hc:X.calm=true)(hi:PI X tg iter (tFI K false ds ds1 fi))
  (hg:∀C cl s₀ H₀ fp,PG (aE X scope ns C cl s₀ H₀ fp) tg (tFG K lk dsi dsi g)) (ht:∀C cl s₀ H₀ fp,PTs (aE X scope ns C cl s₀ H₀ fp) ifs (tFT K false dsi dsi c1)) (he:∀C cl s₀ H₀ fp,PE (aE X scope ns C cl s₀ H₀ fp) elt (tF K false dsi dsi cd f))
  (hcap:dE ds1 js dsi=true) (hd:dn d=cd) (hz:d≠0) (hlk:lk=dD js 0)
  (hs:∀x,foldedSetIterable iter X.env x=pure x):PE X (.ListComp elt [⟨tg,iter,ifs,0⟩] scope pos) (tF K false ds ds1 d (eLC false fi g c1 f js)):=
 (pW B hc hi hg ht he hs).imp fun _ _ _ h=>xv hcap hd hz hlk h
end
def Jc(f:ME)(g:MG):MS:=fun en=>(f en).bind fun r=>(g r.1 r.2).map .nx
section
variable{dps:List Nat}{a c:Expr}{rest body tS:List Stmt}{g:MG}{gs:List D->En->Option En} 
def BF:PSs X [] (tFS K J ds ds aO):=pss_nil.imp fun _ _ _=>FC
def wZ(h1:PS X st (tFS K J ds ds1 m1))(h2:PSs X rest (tFS K J ds1 ds2 m2)):PSs X (st::rest) (tFS K J ds ds2 (aj m1 m2)):=(jc h1 h2).imp fun _ _ _=>Fy
def BE(h1:PS X st (tFS K J ds ds1 m1)):PSs X [st] (tFS K J ds ds1 m1):=Bc h1
def BD(h:PSs X rest (tFS K J ds ds2 m))(hd:leD ds1 ds2=true):PSs X rest (tFS K J ds ds1 m):=h.imp fun _ _ _=>Fx hd
def BM(he:PE X e (tF K false ds ds1 d f))(hs:swapsWith e none pos.line X.env=pure false):PS X (.Expr e pos) (tFS K J ds ds1 (fU f)):=(Bd he hs).imp fun _ _ _=>FE
def BK(he:PE X e (tF K false ds ds1 J.dr f))(hd:leD J.dsr ds1=true):PS X (.Return (some e) pos) (tFS K J ds ds' (av f)):=(Ez he).imp fun _ _ _=>FB hd
def FF(hc:PT X c (tFT K false ds ds1 c1))(ha:PSs X body (tFS K J ds1 ds2 m1))(hb:PSs X tS (tFS K J ds1 ds2 m2)):PS X (.If c body tS pos) (tFS K J ds ds2 (sIf c1 m1 m2)):=(GO hc ha hb).imp fun _ _ _=>G9
def BJ(hN:X.N.Nodup)(hi:X.N[i]?=some x)(hx:Loc X.env.scope x)(he:PE X e (tF K false ds ds1 d f))(hds:ds1.set i d=ds')(hl:i<ds1.length)(hk:i∉J.lk)
  (hs:swapsWith e (some (.Name x pos')) pos.line X.env=pure false) (hf:X.fn x=true\/X.env.scope.names.lookup x=some .local):
  PS X (.Assign [.Name x pos'] e pos) (tFS K J ds ds' (ay i f)):=by
 subst hds;exact(pS hN hi hx he hs hf).imp fun _ _ _=>vt hl hk
def vv(hN:X.N.Nodup)(hi':X.N[i]?=some x)(hx:X.env.scope.names.lookup x=some .local)(B:BlkOkC X scope ns js)(hc:X.calm=true)(hi:PI X tg iter (tFI K false ds ds1 fi))
  (hg:∀C cl s₀ H₀ fp,PG (aE X scope ns C cl s₀ H₀ fp) tg (tFG K lk dsi dsi g)) (ht:∀C cl s₀ H₀ fp,PTs (aE X scope ns C cl s₀ H₀ fp) ifs (tFT K q dsi dsi c1)) (he:∀C cl s₀ H₀ fp,PE (aE X scope ns C cl s₀ H₀ fp) elt (tF K q dsi dsi cd f))
  (hds:ds1.set i d=ds') (hcap:dE ds1 js dsi=true) (hd:dn d=cd) (hz:d≠0) (hlk:lk=dD js 0) (hl:i<ds1.length) (hk:i∉J.lk)
  (hsw:swapsWith (.ListComp elt [⟨tg,iter,ifs,0⟩] scope pos) (some (.Name x pos')) ζ.line X.env=pure true)
  (hs:∀x,foldedSetIterable iter X.env x=pure x):PS X (.Assign [.Name x pos'] (.ListComp elt [⟨tg,iter,ifs,0⟩] scope pos) ζ) (tFS K J ds ds' (ay i (eLC q fi g c1 f js))):=by
 subst hds;exact(uR hN hi' hx B hc hi hg ht he hsw hs).imp fun D σ H h=>xv (p:=false) hcap hd hz hlk (vt (p:=false&&q) hl hk h)
def w8{c:Nat}{k:Expr}(hN:X.N[i]?=some x)(hv:Vis X.env.scope x)(he:PE X e (tF K false ds ds1 c fe))(hk:PE X k (tF K false ds1 ds2 d2 fk))(h1:ds2[i]?=some d)(hz:d≠0)(hc:dn d=c)
  (hdb:(x==("__debug__":Str))=false) (hcd:(x==("__classdict__":Str))=false)
  (ha:∀v,assign (.Subscript (.Name x px) k ζ) X.env v=(do
   let ov <-holding [v] (eval (.Name x px) X.env);let iv <-holding [v,ov] (eval k X.env)
   standAt ζ
   holding [v,ov,iv] (setItem ov iv v)
   release [v,ov,iv] []))
  (hs:swapsWithSole [.Subscript (.Name x px) k ζ] e pos.line X.env=pure false) (hw:swappedStores [.Subscript (.Name x px) k ζ] e X.env=pure none)
  (h2:(assignEach [.Subscript (.Name x px) k ζ] X.env).map (·.2)=[assign (.Subscript (.Name x px) k ζ) X.env]):
  PS X (.Assign [.Subscript (.Name x px) k ζ] e pos) (tFS K J ds ds2 (dJ i fk fe)):=
 (pT he (pV (cf hN hv hdb hcd) hk ls ha) hs hw h2).imp fun _ _ _=>BH h1 hz hc
def xg(hN:X.N.Nodup)(hi:X.N[i]?=some x)(hx:Loc X.env.scope x)(hds:ds.set i 0=ds')(hl:i<ds.length)(hk:i∉lk)(hf:X.fn x=true\/X.env.scope.names.lookup x=some .local):
  PG X (.Name x pos) (tFG K lk ds ds' (gN i)):=by
 subst hds;exact(Bg hN hi hx hf).imp fun _ _ _ _=>B1 hl hk
def xc:PGs X [] (fT K lk ds ds gs0):=pgs_nil.imp fun _ _ _ _=>BZ
def vF(h1:PG X e (tFG K lk ds ds1 g))(h2:PGs X es (fT K lk ds1 ds2 gs))(hs:(assignEach (e::es) X.env).map (·.2)=assign e X.env::(assignEach es X.env).map (·.2)):PGs X (e::es) (fT K lk ds ds2 (gsC g gs)):=(wx h1 h2 hs).imp fun _ _ _ _=>xf
def nz{g2:MG}:∀ts en,(∃en',gsC g1 (gsC g2 gs0) ts en=some en')->ts.length=2:=fun ts en ⟨en',h⟩=>by
 match ts,h with
 |[],h=>cases h
 |[_],h=>
  obtain⟨_,_,h⟩:=zaa.mp h;cases h
 |[_,_],_=>rfl
 |a::b::c::r,h=>
  obtain⟨_,_,h⟩:=zaa.mp h;obtain⟨_,_,h⟩:=zaa.mp h;cases h
def B0(hK:X.K=K)(hc:X.calm=true)(h:PGs X es (fT K lk ds ds1 gs))(hl:∀ts en,(∃en',gs ts en=some en')->ts.length=n)(hn:(assignEach es X.env).length=n)(hst:(assignEach es X.env).findIdx? (·.1)=none):
  PG X (.Tuple es k pos) (tFG K lk ds ds1 (gT gs)):=by
 subst hK;exact(EC hc h hn hst).imp fun _ _ _ _=>FM hl
def BL(hc:X.calm=true)(hi:PI X tg iter (tFI K false ds ds1 fi))(hg:PG X tg (tFG K J.lk ds1 ds2 g))(hb:PSs X body (tFS K { J with dsl:=ds1 } ds2 ds1 m))(hp:PassesOwn (model X.prog X.w) X.A X.env X.xe)
  (hs:∀x,foldedSetIterable iter X.env x=pure x):PS X (.For tg iter body [] pos) (tFS K J ds ds1 (cu fi g m)):=(EA hp hc hi hg hb hs).imp fun _ _ _=>FD
end
def Av:D->Option (List D)
 |.list ts=>some ts
 |.tuple ts=>some ts
 |.str z=>some ((li z).map fun c=>.str (mk1 c))
 |_=>none
def cg(f:ME):MI:=fun en=>(f en).bind fun r=>(Av r.1).map fun ts=>(ts,r.2)
section
variable{F:AS}
def dW(h1:∀a o,H0 a=some o->¬O a->H a=some o)(h2:∀a,O1 a->O a\/H0 a=none):Mv O O1 NoA H0 H:=⟨fun a o q z=>z.elim (h1 a o q) fun z=>z.elim,h2⟩
def uB(h:FzL K O H0 a vs)(ho:Ows K O H0 ts 0 vs NoA):gR K O H0 (Itl K a) ts:=fun i H O1 h1 h2 h3=>by
 have sq:=(h.mv (dW h1 h2)).sq;refine⟨fun t ht=>?_,fun hl=>⟨vs,sq,by rw[ho.len];omega⟩⟩;obtain⟨v,hv,ov⟩:=ho.get ht;refine⟨⟨vs,v,sq,hv⟩,fun x H1 ⟨e,y⟩=>?_⟩;subst e;have e2:=y vs sq;rw[hv]at e2;cases e2;exact⟨fun _ _ q=>q,Ow.mv (dW h1 h2) t (fun _ z=>z) ov⟩
def wf(h:FzT K O H0 a vs)(ho:Ows K O H0 ts 0 vs NoA):gR K O H0 (Itt K a) ts:=fun i H O1 h1 h2 h3=>by
 have sq:=(h.mv (dW h1 h2)).sq;refine⟨fun t ht=>?_,fun hl=>⟨vs,sq,by rw[ho.len];omega⟩⟩;obtain⟨v,hv,ov⟩:=ho.get ht;refine⟨⟨vs,v,sq,hv⟩,fun x H1 ⟨e,y⟩=>?_⟩;subst e;have e2:=y vs sq;rw[hv]at e2;cases e2;exact⟨fun _ _ q=>q,Ow.mv (dW h1 h2) t (fun _ z=>z) ov⟩
def wg:gR K O H0 (Its z) ((li z).map fun c=>.str (mk1 c)):=fun i H O1 h1 h2 h3=>by
 refine⟨fun t ht=>?_,fun hl=>?_⟩
 ·rw[zao]at ht;obtain⟨c,hc,e⟩:=zab.mp ht;have hi:i<z.cps.size:=by
   have:=(zah.mp hc).1;simpa[li]using this
  have hc':z.cps[i]?=some c:=by
   have:z.cps.toList[i]?=some c:=hc;simpa using this
  refine⟨hi,fun x H1 ⟨e1,c',e2,e3⟩=>?_⟩;subst e1 e e3;rw[hc']at e2;cases e2;exact⟨fun _ _ q=>q,rfl⟩
 ·have:z.cps.size=i:=by
   rw[zad]at hl;simpa[li]using hl
  show z.cps.size<=i;omega
def wj{lo:Int}:gR K O H0 (Itr lo n) ((List.range n).map fun k=>.int (lo+(k:Nat))):=fun i H O1 h1 h2 h3=>by
 refine⟨fun t ht=>?_,fun hl=>?_⟩
 ·rw[zao]at ht;obtain⟨c,hc,e⟩:=zab.mp ht;have hi:=(zah.mp hc).1;rw[zbb]at hi;rw[List.getElem?_range hi]at hc;cases hc;refine⟨hi,fun x H1 ⟨e1,e2⟩=>?_⟩;subst e1 e e2;exact⟨fun _ _ q=>q,rfl⟩
 ·rw[zad,zbb]at hl;show n<=i;omega
def rQ{p:Addr}(hp:H p=none)(h3:∀a,O1 a->∃o,H a=some o)(ov:Ow K O1 H t 0 v NoA):(∀a o,H a=some o->upd H p (.tup [.int i,v]) a=some o)/\Ow K O1 (upd H p (.tup [.int (i:Nat),v])) (.tuple [.int i,t]) 0 (.ref p) NoA:=by
 have g:=(bq (o:=.tup [.int i,v]) hp).1;refine⟨g,p,[.int i,v],rfl,.inl ⟨rfl,⟨ax,fun z=>?_⟩,.int i,[v],NoA,NoA,rfl,fun _ z=>z,fun _ z=>z,fun _ z=>z.elim,rfl,v,[],NoA,NoA,rfl,fun _ z=>z,fun _ z=>z,fun _ z=>z.elim,?_,rfl⟩⟩
 ·obtain⟨o,q⟩:=h3 p z;rw[hp]at q;cases q
 ·exact Ow.mv (G:=NoA) ⟨fun a o q _=>g a o q,fun a z=>.inl z⟩ t (fun _ z=>z) ov
def dL(ts:List D):List D:=ts.zipIdx.map fun p=>.tuple [.int (p.2:Nat),p.1]
def j6{u:D}(h:(dL ts)[i]?=some u):∃t,ts[i]?=some t/\u=.tuple [.int (i:Nat),t]:=by
 unfold dL at h;rw[zao]at h;obtain⟨⟨t,k⟩,h1,h2⟩:=zab.mp h;rw[List.getElem?_zipIdx]at h1;obtain⟨t',h3,h4⟩:=zab.mp h1;cases h4;refine⟨t,h3,?_⟩;rw[<-h2,Nat.zero_add]
def j5:(dL ts).length=ts.length:=by unfold dL;rw[zad,List.length_zipIdx]
def uD(h:FzL K O H0 a vs)(ho:Ows K O H0 ts 0 vs NoA):gR K O H0 (Ite K a) (dL ts):=fun i H O1 h1 h2 h3=>by
 have sq:=(h.mv (dW h1 h2)).sq;refine⟨fun u hu=>?_,fun hl=>⟨vs,sq,by rw[j5]at hl;rw[ho.len];omega⟩⟩;obtain⟨t,ht,rfl⟩:=j6 hu;obtain⟨v,hv,ov⟩:=ho.get ht;refine⟨⟨vs,v,sq,hv⟩,fun x H1 ⟨p,v',e1,hp,e2,y⟩=>?_⟩;have e3:=y vs sq;rw[hv]at e3;cases e3;subst e1 e2;exact rQ hp h3 (Ow.mv (dW h1 h2) t (fun _ z=>z) ov)
def sw(h:FzT K O H0 a vs)(ho:Ows K O H0 ts 0 vs NoA):gR K O H0 (ItT K a) (dL ts):=fun i H O1 h1 h2 h3=>by
 have sq:=(h.mv (dW h1 h2)).sq;refine⟨fun u hu=>?_,fun hl=>⟨vs,sq,by rw[j5]at hl;rw[ho.len];omega⟩⟩;obtain⟨t,ht,rfl⟩:=j6 hu;obtain⟨v,hv,ov⟩:=ho.get ht;refine⟨⟨vs,v,sq,hv⟩,fun x H1 ⟨p,v',e1,hp,e2,y⟩=>?_⟩;have e3:=y vs sq;rw[hv]at e3;cases e3;subst e1 e2;exact rQ hp h3 (Ow.mv (dW h1 h2) t (fun _ z=>z) ov)
end
def bU(fa:MA):MI:=fun en=>(fa en).bind fun r=>match r.1 with
 |[.inl (.int j)]=>if -(2 ^ 62)<=j/\j<2 ^ 62 then some ((List.range j.toNat).map fun k=>.int (0+(k:Nat)),r.2)else none
 |_=>none
def IH(fa:MA):MI:=fun en=>(fa en).bind fun r=>match r.1 with
 |[.inl (.int i),.inl (.int j)]=>if -(2 ^ 62)<=i/\i<2 ^ 62/\-(2 ^ 62)<=j/\j<2 ^ 62 then some ((List.range (j-i).toNat).map fun k=>.int (i+(k:Nat)),r.2)else none
 |_=>none
def jZ(fa:MA):MI:=fun en=>(fa en).bind fun r=>match r.1 with
 |[.inl (.list ts)]=>some (dL ts,r.2)
 |[.inl (.tuple ts)]=>some (dL ts,r.2)
 |_=>none
section
variable{l:Expr}  
def FK(hK:X.K=K)(hl:PE X l (tF K p ds ds1 d f)):PI X tg l (tFI K p ds ds1 (cg f)):=by
 subst hK;intro ρ s σ H R I h;obtain⟨Ox,en,Rg,ts,en',e,hf,k⟩:=h;unfold cg at hf;obtain⟨⟨t,en1⟩,h1,hf⟩:=zaa.mp hf;obtain⟨ts',h2,hf⟩:=zab.mp hf;cases hf;refine thn (hl ρ s σ H (fun v H1=>∃R1,Post X.K p ds1 Ox σ H en Rg en1 H1 R1 NoA/\Ow X.K (Own R1 Ox) H1 t 0 v NoA) I ⟨Ox,en,Rg,t,en1,e,h1,fun v H1 R1 F P o=>⟨R1,P.less fun _ z=>z.elim,Ow.letgo P (fun _ z=>z) o⟩⟩) fun v s1 ⟨x,H1,I1,r1,R1,P,o⟩=>?_;cases t with
 |list ts0=>
  cases h2;obtain⟨a,vs,e1,⟨_,fz,ow⟩|⟨z,_⟩⟩:=o
  ·subst e1;cases r1;obtain⟨its,rv,pl,hz⟩:=I1.list fz.sq;refine wpAny_pyIter_list pl.isList ?_;refine⟨s1.heap.objs.size,[s1.heap.objs.size],_,_,H1,rfl,I1.kept (t':=s1.toks) fun b o e=>zaf _ e,uF a _,⟨_,zan _ rfl,rfl,rfl⟩,fun b hb=>?_,k _ H1 R1 P (uB fz ow)⟩;have e:b=s1.heap.objs.size:=by simpa using hb
   subst e;exact I1.fpOk (zav _) (I1.hok.fresh (zav _))
  ·exact absurd rfl z
 |tuple ts0=>
  cases h2;obtain⟨a,vs,e1,⟨_,fz,ow⟩|⟨z,_⟩⟩:=o
  ·subst e1;cases r1;obtain⟨its,rv,pl,hz⟩:=I1.tuple fz.sq;refine wpAny_pyIter_tuple (show s1.heap.IsTuple a its.toArray from pl) ?_;refine⟨s1.heap.objs.size,[s1.heap.objs.size],_,_,H1,rfl,I1.kept (t':=s1.toks) fun b o e=>zaf _ e,sA a _,⟨_,zan _ rfl,rfl,rfl⟩,fun b hb=>?_,k _ H1 R1 P (wf fz ow)⟩;have e:b=s1.heap.objs.size:=by simpa using hb
   subst e;exact I1.fpOk (zav _) (I1.hok.fresh (zav _))
  ·exact absurd rfl z
 |str z=>
  cases h2;have e1:x=.str z:=o;subst e1;obtain⟨t,rfl⟩:=r1;have fin:∀(ty:String) (o:Obj),(ty="str_ascii_iterator"\/ty="str_iterator")->(s1.heap.push o).IsStrIter s1.heap.objs.size ty z t 0->PIE X ρ σ tg R (.ref s1.heap.objs.size) { s1 with heap:=s1.heap.push o }:=fun ty o hty st=>by
   refine⟨s1.heap.objs.size,[s1.heap.objs.size],_,_,H1,rfl,I1.kept (t':=s1.toks) fun b o e=>zaf _ e,wm _ z t ty hty,st,fun b hb=>?_,k _ H1 R1 P wg⟩;have e:b=s1.heap.objs.size:=by simpa using hb
   subst e;exact I1.fpOk (zav _) (I1.hok.fresh (zav _))
  cases ha:z.cps.all (·<128)
  ·exact wpAny_pyIter_wide ha (fin _ _ (.inr rfl) ⟨_,zan _ rfl,rfl,rfl⟩)
  ·exact wpAny_pyIter_ascii ha (fin _ _ (.inl rfl) ⟨_,zan _ rfl,rfl,rfl⟩)
 |_=>cases h2
def BX{a:Expr}(hg:Gl X "range")(hm:X.mg "range"=none)(ha:PA X [a] (tFA K p ds ds1 sh fa))(hs:aH a=true):PI X tg (.Call (.Name "range" px) [a] [] pos) (tFI K p ds ds1 (bU fa)):=
 (uT hg hm ha (bR hs)).imp fun σ H R ⟨Ox,en,Rg,ts,en',e,hf,k⟩=>by
  unfold bU at hf;obtain⟨⟨as,en1⟩,h1,hf⟩:=zaa.mp hf;refine⟨Ox,en,Rg,as,en1,e,h1,fun vs H1 R1 F P o=>?_⟩
  dsimp only at hf
  split at hf
  case h_2=>cases hf
  next j=>
  by_cases hj:-(2 ^ 62)<=j/\j<2 ^ 62
  case neg=>rw[if_neg hj]at hf;cases hf
  rw[if_pos hj]at hf;cases hf;obtain⟨v,r,d,dr,F1,F2,e1,e2,_,_,_,o1,o2⟩:=o;obtain⟨_,o2⟩:=o2;subst e1 o2;have ev:v=.int j:=o1;subst ev;exact⟨j,rfl,hj.1,hj.2,k _ H1 R1 (P.less fun _ z=>z.elim) wj⟩
def BY(hK:X.K=K)(hg:Gl X "enumerate")(hm:X.mg "enumerate"=none)(ha:PA X [l] (tFA K p ds ds1 sh fa))(hs:starEach [l] X.env=[(false,eval l X.env)]):
  PI X (.Tuple elts k tp) (.Call (.Name "enumerate" px) [l] [] pos) (tFI K p ds ds1 (jZ fa)):=by
 subst hK;intro ρ s σ H R I h;obtain⟨Ox,en,Rg,ts,en',e,hf,k⟩:=h;unfold jZ at hf;obtain⟨⟨as,en1⟩,h1,hf⟩:=zaa.mp hf;refine Call_ (jY I hg hm boot_enumerate (PyProof.Rows.callWith_type1 (thn (ha pos ρ s σ H (fun vs H1=>∃R1 t v,as=[.inl t]/\vs=[v]/\Post X.K p ds1 Ox σ H en Rg en1 H1 R1 NoA/\Ow X.K (Own R1 Ox) H1 t 0 v NoA) I ⟨Ox,en,Rg,as,en1,e,h1,fun vs H1 R1 F P o=>?_⟩) fun us s1 ⟨vs,H1,I1,r1,R1,t,v,ea,ev,P,o⟩=>?_) hs rfl))
 ·have one:∃t,as=[.inl t]:=by
   dsimp only at hf
   split at hf
   ·exact⟨_,rfl⟩
   ·exact⟨_,rfl⟩
   ·cases hf
  obtain⟨t,rfl⟩:=one;obtain⟨v,r,d,dr,F1,F2,e1,e2,s1,_,_,o1,o2⟩:=o;obtain⟨_,o2⟩:=o2;subst o2;exact⟨R1,t,v,rfl,e1,P.less fun _ z=>z.elim,Ow.letgo P s1 o1⟩
 subst ea ev;obtain⟨u,rfl,ru⟩:=kG r1;cases t with
 |list ts0=>
  cases hf;obtain⟨a,vs,e1,⟨_,fz,ow⟩|⟨z,_⟩⟩:=o
  ·subst e1;cases ru;obtain⟨its,rv,pl,hz⟩:=I1.list fz.sq;refine call_enumerate_list pl.isList fun h' hE hI hsz hk=>?_;refine wpAny_pyIter_enum hE ?_;have I2:Inv X ρ σ H1 { s1 with heap:=h' }:=I1.kept (t':=s1.toks) hk;refine⟨s1.heap.objs.size+1,[s1.heap.objs.size+1,s1.heap.objs.size],_,_,H1,rfl,I2,uH a _ _ (Nat.succ_ne_self _),⟨⟨_,hE⟩,hI⟩,fun b hb=>?_,k _ H1 R1 P (uD fz ow)⟩;have hb':b=s1.heap.objs.size+1\/b=s1.heap.objs.size:=by simpa using hb
   rcases hb' with rfl|rfl
   ·exact I1.fpOk (Nat.le_succ _) (I1.hok.fresh (Nat.le_succ _))
   ·exact I1.fpOk (zav _) (I1.hok.fresh (zav _))
  ·exact absurd rfl z
 |tuple ts0=>
  cases hf;obtain⟨a,vs,e1,⟨_,fz,ow⟩|⟨z,_⟩⟩:=o
  ·subst e1;cases ru;obtain⟨its,rv,pt,hz⟩:=I1.tuple fz.sq;have hT:s1.heap.IsTuple a its.toArray:=pt;have hlt:a<s1.heap.objs.size:=by
    obtain⟨o,e1,_⟩:=id hT;exact zal e1
   refine oZ hT fun h' hE hI hsz hk=>?_;refine wpAny_pyIter_enum hE ?_;have I2:Inv X ρ σ H1 { s1 with heap:=h' }:=I1.kept (t':=s1.toks) hk;refine⟨s1.heap.objs.size+1,[s1.heap.objs.size+1,s1.heap.objs.size],_,_,H1,rfl,I2,sD a _ _ (Nat.succ_ne_self _) (zaw hlt),⟨⟨_,hE⟩,hI⟩,fun b hb=>?_,k _ H1 R1 P (sw fz ow)⟩;have hb':b=s1.heap.objs.size+1\/b=s1.heap.objs.size:=by simpa using hb
   rcases hb' with rfl|rfl
   ·exact I1.fpOk (Nat.le_succ _) (I1.hok.fresh (Nat.le_succ _))
   ·exact I1.fpOk (zav _) (I1.hok.fresh (zav _))
  ·exact absurd rfl z
 |_=>cases hf
end
def NewTo.refl:NewTo H H NoA:=⟨fun _ _ q=>q,fun _ z=>z.elim⟩
def OpR.imp{fn:Value->Value->Sem Value}{r r':R2}(h:OpR X fn r)(hi:∀x y H Q,r' x y H Q->r x y H Q):OpR X fn r':=fun ρ s σ H x y v u Q I rx ry q=>h ρ s σ H x y v u Q I rx ry (hi _ _ _ _ q)
def OpR.or'{fn:Value->Value->Sem Value}{r r':R2}(h:OpR X fn r)(h':OpR X fn r'):OpR X fn (fun x y H Q=>r x y H Q\/r' x y H Q):=fun ρ s σ H x y v u Q I rx ry q=>q.elim (h ρ s σ H x y v u Q I rx ry) (h' ρ s σ H x y v u Q I rx ry)
def UnR.imp{fn:Value->Sem Value}{r r':V->Hp->VK->Prop}(h:UnR X fn r)(hi:∀x H Q,r' x H Q->r x H Q):UnR X fn r':=fun ρ s σ H x v Q I rx q=>h ρ s σ H x v Q I rx (hi _ _ _ q)
def CallR.imp(h:CallR X fn r)(hi:∀x H Q,r' x H Q->r x H Q):CallR X fn r':=fun ρ s σ H x v Q I rx q=>h ρ s σ H x v Q I rx (hi _ _ _ q)
def CallR.or'(h:CallR X fn r)(h':CallR X fn r'):CallR X fn (fun x H Q=>r x H Q\/r' x H Q):=fun ρ s σ H x v Q I rx q=>q.elim (h ρ s σ H x v Q I rx) (h' ρ s σ H x v Q I rx)
def IxR.imp{r r':R2}(h:IxR X r)(hi:∀x y H Q,r' x y H Q->r x y H Q):IxR X r':=fun value slice ρ s σ H x y v u Q I rx ry q=>h value slice ρ s σ H x y v u Q I rx ry (hi _ _ _ _ q)
section
variable{ws:List V}{x:V} 
def cJ(hl:H l=none)(hd:∀a,O a->∃o,H a=some o)(h:Ows K O H ts 0 vs NoA):NewTo H (upd H l (.lst vs)) (fun b=>b=l)/\Ow K (U (fun b=>b=l) O) (upd H l (.lst vs)) (.list ts) 1 (.ref l) (fun b=>b=l):=by
 refine⟨bq hl,l,vs,rfl,.inr ⟨by decide,ax,rfl,NoA,fun _ z=>z.elim,?_⟩⟩;refine Ows.mv (G:=NoA) ⟨fun a o q _=>(bq (o:=.lst vs) hl).1 a o q,fun a z=>?_⟩ ts (fun _ z=>z) h;rcases z with z|z
 ·exact .inr (by rw[show a=l from z];exact hl)
 ·exact .inl z
def dm(hl:H l=none)(hd:∀a,O a->∃o,H a=some o)(h:Ows K O H ts 0 vs NoA):NewTo H (upd H l (.tup vs)) NoA/\Ow K (U NoA O) (upd H l (.tup vs)) (.tuple ts) 0 (.ref l) NoA:=by
 refine⟨⟨(bq hl).1,fun _ z=>z.elim⟩,l,vs,rfl,.inl ⟨rfl,⟨ax,fun z=>?_⟩,?_⟩⟩
 ·rcases z with z|z
  ·exact z
  ·obtain⟨o,q⟩:=hd l z;rw[hl]at q;cases q
 ·refine Ows.mv (G:=NoA) ⟨fun a o q _=>(bq (o:=.tup vs) hl).1 a o q,fun a z=>?_⟩ ts (fun _ z=>z) h;rcases z with z|z
  ·exact z.elim
  ·exact .inl z
theorem Ows.app:∀{ts:List D} {vs:List V},Ows K O H ts 0 vs NoA->Ows K O H us 0 ws NoA->Ows K O H (ts++us) 0 (vs++ws) NoA
 |[],_,h,h2=>by rw[show _=[]from h];exact h2
 |t::ts,_,h,h2=>by
  obtain⟨v,r,F1,F2,e,_,_,_,h4,h5⟩:=h;subst e;exact⟨v,r++ws,NoA,NoA,rfl,fun _ z=>z,fun _ z=>z,fun _ z=>z.elim,Ow.any0 t h4,Ows.app (Ows.any0 ts h5) h2⟩
theorem Ows.drop:∀{ts:List D} {vs:List V} (n:Nat),Ows K O H ts 0 vs NoA->Ows K O H (ts.drop n) 0 (vs.drop n) NoA
 |ts,vs,0,h=>h
 |[],_,n+1,h=>by rw[show _=[]from h];rfl
 |t::ts,_,n+1,h=>by
  obtain⟨v,r,F1,F2,e,_,_,_,h4,h5⟩:=h;subst e;exact Ows.drop n (Ows.any0 ts h5)
theorem Ows.take:∀{ts:List D} {vs:List V} (n:Nat),Ows K O H ts 0 vs NoA->Ows K O H (ts.take n) 0 (vs.take n) NoA
 |ts,vs,0,h=>rfl
 |[],_,n+1,h=>by rw[show _=[]from h];rfl
 |t::ts,_,n+1,h=>by
  obtain⟨v,r,F1,F2,e,_,_,_,h4,h5⟩:=h;subst e;exact⟨v,r.take n,NoA,NoA,rfl,fun _ z=>z,fun _ z=>z,fun _ z=>z.elim,Ow.any0 t h4,Ows.take n (Ows.any0 ts h5)⟩
def Ow.lst0(h:Ow K O H (.list ts) 0 v NoA):∃a vs,v=.ref a/\FzL K O H a vs/\Ows K O H ts 0 vs NoA:=by
 obtain⟨a,vs,e,⟨_,h1,h2⟩|⟨z,_⟩⟩:=h
 ·exact⟨a,vs,e,h1,h2⟩
 ·exact absurd rfl z
def Ow.tup0(h:Ow K O H (.tuple ts) 0 v NoA):∃a vs,v=.ref a/\FzT K O H a vs/\Ows K O H ts 0 vs NoA:=by
 obtain⟨a,vs,e,⟨_,h1,h2⟩|⟨z,_⟩⟩:=h
 ·exact⟨a,vs,e,h1,h2⟩
 ·exact absurd rfl z
def Ows.one(h:Ows K O H [t] 0 vs NoA):∃v,vs=[v]/\Ow K O H t 0 v NoA:=by
 obtain⟨v,r,F1,F2,e,_,_,_,h4,h5⟩:=h;rw[show r=[]from h5]at e;exact⟨v,e,Ow.any0 t h4⟩
def be:D->D->Option D
 |.int a,.int b=>some (.int (a+b))
 |.str a,.str b=>if a.length+b.length<=sizeLine then some (.str (a++b))else none
 |_,_=>none
def cF:OpR X (binaryOp .Add) (rF2 K be 3):=(op_add.or' sU).imp fun x y H Q ⟨O,a,b,t,oa,ob,hd,hg,k⟩=>by
 cases a with
 |int i=>cases b with
  |int j=>cases hg;exact .inl ⟨i,j,oa,ob,k _ H NoA .refl rfl⟩
  |_=>cases hg
 |str i=>cases b with
  |str j=>
   dsimp only[be]at hg
   by_cases hl:i.length+j.length<=sizeLine
   ·rw[if_pos hl]at hg;cases hg;exact .inr ⟨i,j,oa,ob,hl,k _ H NoA .refl rfl⟩
   ·rw[if_neg hl]at hg;cases hg
  |_=>cases hg
 |_=>cases hg
def iD(g:Int->Int->Option D):D->D->Option D
 |.int a,.int b=>g a b
 |_,_=>none
def cw{g:Int->Int->Option D}{a b:D}(h:iD g a b=some t):∃i j,a=.int i/\b=.int j/\g i j=some t:=by
 cases a with
 |int i=>cases b with
  |int j=>exact⟨i,j,rfl,rfl,h⟩
  |_=>cases h
 |_=>cases h
def lr:D->D->Option D:=iD fun a b=>some (.int (a-b))
def vB:OpR X (binaryOp .Sub) (rF2 K lr 3):=op_sub.imp fun x y H Q ⟨O,a,b,t,oa,ob,hd,hg,k⟩=>by
 obtain⟨i,j,rfl,rfl,h⟩:=cw hg;cases h;exact⟨i,j,oa,ob,k _ H NoA .refl rfl⟩
instance (i j:Int):Decidable (CMul i j):=by unfold CMul;exact inferInstance
instance (i j:Int):Decidable (nS i j):=by unfold nS;exact inferInstance
instance (i j:Int):Decidable (kA i j):=by unfold kA;exact inferInstance
def bt:D->D->Option D:=iD fun a b=>if CMul a b then some (.int (a*b))else none
def cE:OpR X (binaryOp .Mult) (rF2 K bt 3):=op_mul.imp fun x y H Q ⟨O,a,b,t,oa,ob,hd,hg,k⟩=>by
 obtain⟨i,j,rfl,rfl,h⟩:=cw hg;by_cases hc:CMul i j
 ·rw[if_pos hc]at h;cases h;exact⟨i,j,oa,ob,hc,k _ H NoA .refl rfl⟩
 ·rw[if_neg hc]at h;cases h
def ik:D->D->Option D:=iD fun a b=>if nS a b then some (.int (a / b))else none
def r8:OpR X (binaryOp .FloorDiv) (rF2 K ik 3):=op_fdiv.imp fun x y H Q ⟨O,a,b,t,oa,ob,hd,hg,k⟩=>by
 obtain⟨i,j,rfl,rfl,h⟩:=cw hg;by_cases hc:nS i j
 ·rw[if_pos hc]at h;cases h;exact⟨i,j,oa,ob,hc,k _ H NoA .refl rfl⟩
 ·rw[if_neg hc]at h;cases h
def bu:D->D->Option D:=iD fun a b=>if 0<b then some (.int (a % b))else none
def eG:OpR X (binaryOp .Mod) (rF2 K bu 3):=op_mod.imp fun x y H Q ⟨O,a,b,t,oa,ob,hd,hg,k⟩=>by
 obtain⟨i,j,rfl,rfl,h⟩:=cw hg;by_cases hc:0<j
 ·rw[if_pos hc]at h;cases h;exact⟨i,j,oa,ob,hc,k _ H NoA .refl rfl⟩
 ·rw[if_neg hc]at h;cases h
def ng:D->D->Option D:=iD fun a b=>if kA a b then some (.int (a ^ b.toNat))else none
def vC:OpR X (binaryOp .Pow) (rF2 K ng 3):=op_pow.imp fun x y H Q ⟨O,a,b,t,oa,ob,hd,hg,k⟩=>by
 obtain⟨i,j,rfl,rfl,h⟩:=cw hg;by_cases hc:kA i j
 ·rw[if_pos hc]at h;cases h;exact⟨i,j,oa,ob,hc,k _ H NoA .refl rfl⟩
 ·rw[if_neg hc]at h;cases h
def ltI:D->D->Option D:=iD fun a b=>some (.bool (decide (a<b)))
def leI:D->D->Option D:=iD fun a b=>some (.bool (decide (a<=b)))
def gtI:D->D->Option D:=iD fun a b=>some (.bool (decide (b<a)))
def geI:D->D->Option D:=iD fun a b=>some (.bool (decide (b<=a)))
def mq:OpR X (compareOp .Lt) (rF2 K ltI 3):=op_lt.imp fun x y H Q ⟨O,a,b,t,oa,ob,hd,hg,k⟩=>by
 obtain⟨i,j,rfl,rfl,h⟩:=cw hg;cases h;exact⟨i,j,oa,ob,k _ H NoA .refl rfl⟩
def tW:OpR X (compareOp .LtE) (rF2 K leI 3):=op_le.imp fun x y H Q ⟨O,a,b,t,oa,ob,hd,hg,k⟩=>by
 obtain⟨i,j,rfl,rfl,h⟩:=cw hg;cases h;exact⟨i,j,oa,ob,k _ H NoA .refl rfl⟩
def AT:OpR X (compareOp .Gt) (rF2 K gtI 3):=op_gt.imp fun x y H Q ⟨O,a,b,t,oa,ob,hd,hg,k⟩=>by
 obtain⟨i,j,rfl,rfl,h⟩:=cw hg;cases h;exact⟨i,j,oa,ob,k _ H NoA .refl rfl⟩
def Hc:OpR X (compareOp .GtE) (rF2 K geI 3):=op_ge.imp fun x y H Q ⟨O,a,b,t,oa,ob,hd,hg,k⟩=>by
 obtain⟨i,j,rfl,rfl,h⟩:=cw hg;cases h;exact⟨i,j,oa,ob,k _ H NoA .refl rfl⟩
def nw:D->Bool
 |.none=>true
 |_=>false
def qu{a:D}{F:AS}(h:Ow K O H a d x F):decide (x=.non)=nw a:=by
 cases a with
 |none=>rw[show x=.non from h];rfl
 |bool b=>rw[show x=.bl b from h];rfl
 |int b=>rw[show x=.int b from h];rfl
 |str b=>rw[show x=.str b from h];rfl
 |list ts=>obtain⟨a,vs,e,_⟩:=h;rw[e];rfl
 |tuple ts=>obtain⟨a,vs,e,_⟩:=h;rw[e];rfl
 |dict ts=>obtain⟨a,vs,e,_⟩:=h;rw[e];rfl
def isN:D->D->Option D
 |a,.none=>some (.bool (nw a))
 |_,_=>none
def jU:D->D->Option D
 |a,.none=>some (.bool (!nw a))
 |_,_=>none
def fM:OpR X (compareOp .Is) (rF2 K isN 3):=op_isN.imp fun x y H Q ⟨O,a,b,t,oa,ob,hd,hg,k⟩=>by
 cases b with
 |none=>cases hg;exact⟨ob,by rw[qu oa];exact k _ H NoA .refl rfl⟩
 |_=>cases hg
def iR:OpR X (compareOp .IsNot) (rF2 K jU 3):=op_notN.imp fun x y H Q ⟨O,a,b,t,oa,ob,hd,hg,k⟩=>by
 cases b with
 |none=>cases hg;exact⟨ob,by rw[qu oa];exact k _ H NoA .refl rfl⟩
 |_=>cases hg
def Jh:D->D->Option D
 |.str a,.str b=>some (.bool (vf b a))
 |_,_=>none
def Ix:D->D->Option D
 |.str a,.str b=>some (.bool (!vf b a))
 |_,_=>none
def ixA:D->D->Option D
 |.list ts,.int n=>atI ts n
 |.tuple ts,.int n=>atI ts n
 |.str z,.int n=>if z.length<=sizeLine then(atI z.cps.toList n).map fun c=>.str (mk1 c)else none
 |_,_=>none
def bC(hK:X.K=K):IxR X (rF2 K ixA 0):=by
 subst hK;refine ix_seq.imp ?_;rintro x y H Q ⟨O,a,b,t,oa,ob,hd,hg,k⟩;cases b with
 |int n=>
  cases a with
  |list ts=>
   obtain⟨a,vs,e,fz,ow⟩:=oa.lst0;obtain⟨v,h1,h2⟩:=ow.atI hg;exact .inl ⟨a,vs,n,v,e,ob,fz.sq,h1,k v H NoA .refl (by rw[eQ];exact h2)⟩
  |tuple ts=>
   obtain⟨a,vs,e,fz,ow⟩:=oa.tup0;obtain⟨v,h1,h2⟩:=ow.atI hg;exact .inr (.inl ⟨a,vs,n,v,e,ob,fz.sq,h1,k v H NoA .refl (by rw[eQ];exact h2)⟩)
  |str z=>
   dsimp only[ixA]at hg
   by_cases hl:z.length<=sizeLine
   ·rw[if_pos hl]at hg;obtain⟨c,h1,h2⟩:=zab.mp hg;cases h2;exact .inr (.inr ⟨z,n,c,oa,ob,hl,h1,k _ H NoA .refl rfl⟩)
   ·rw[if_neg hl]at hg;cases hg
  |_=>cases hg
 |_=>cases a<;>cases hg
def ixT:D->D->Option D
 |.str z,.int n=>if z.length<=sizeLine then(atI z.cps.toList n).map fun c=>.str (mk1 c)else none
 |_,_=>none
def fB:D->D->Option D
 |.list a,.list b=>if a.length+b.length<=sizeLine then some (.list (a++b))else none
 |_,_=>none
def ub:D->D->Option D
 |.tuple a,.tuple b=>if a.length+b.length<=sizeLine then some (.tuple (a++b))else none
 |_,_=>none
end
def grd{α:Type}(c:Prop)[Decidable c](t:α):Option α:=if c then some t else none
def bH{α:Type}{c:Prop}[Decidable c]{t u:α}(h:grd c t=some u):c/\t=u:=by
 unfold grd at h;by_cases hc:c
 ·rw[if_pos hc]at h;exact⟨hc,zat h⟩
 ·rw[if_neg hc]at h;cases h
section
variable{ws:List V}{x:V} 
def GM(K:zbQ):R2:=fun x y H Q=>∃l b xs zs,x=.ref l/\y=.ref b/\SqL K H l xs/\SqL K H b zs/\xs.length+zs.length<=sizeLine/\∀p,H p=none->Q (.ref p) (upd H p (.lst (xs++zs)))
def op_catL:OpR X (binaryOp .Add) (GM X.K):=by
 intro ρ s σ H x y v u Q I rx ry h;obtain⟨l,b,xs,zs,rfl,rfl,hH,hB,hz,q⟩:=h;cases rx;cases ry;obtain⟨its,r,⟨⟨c1,dd,da1,sl⟩,n,ho,hc,hdd,hda⟩,_⟩:=I.list hH;obtain⟨ν,r2,⟨⟨c2,dd2,da2,sl2⟩,n2,ho2,hc2,hdd2,hda2⟩,_⟩:=I.list hB;have hl:=r.length;have hl2:=r2.length;simp only at hc hda hc2 hda2;subst hc hda hc2 hda2;refine concat_meets ⟨_,ho,rfl⟩ ⟨_,ho2,rfl⟩ noFill_list_add seq_list_add PySem.F.slot_list_add PySem.F.entry_list_add (PySem.F.args_list_add_2 _ _) (list_addW l b its.toArray ν.toArray n n2 dd dd2 sl sl2 (by simp only[zai];omega)) ⟨ho,ho2,?_⟩;have ea:its.toArray++ν.toArray=(its++ν).toArray:=by simp
 rw[ea];exact⟨.ref _,_,I.lnew (t':=s.toks) (r.append r2) (by rw[zae];omega),rfl,q _ I.fresh⟩
def cK(hK:X.K=K):OpR X (binaryOp .Add) (rF2 K fB 1):=by
 subst hK;refine op_catL.imp ?_;rintro x y H Q ⟨O,a,b,t,oa,ob,hd,hg,k⟩;cases a with
 |list ts=>cases b with
  |list us=>
   dsimp only[fB]at hg
   by_cases hl:ts.length+us.length<=sizeLine
   case neg=>rw[if_neg hl]at hg;cases hg
   rw[if_pos hl]at hg;cases hg;obtain⟨a,vs,e1,f1,w1⟩:=oa.lst0;obtain⟨b,ws,e2,f2,w2⟩:=ob.lst0;refine⟨a,b,vs,ws,e1,e2,f1.sq,f2.sq,by rw[w1.len,w2.len];exact hl,fun p hp=>?_⟩;obtain⟨n1,n2⟩:=cJ hp hd (w1.app w2);exact k _ _ _ n1 n2
  |_=>cases hg
 |_=>cases hg
def BT(hK:X.K=K):OpR X (binaryOp .Add) (rF2 K ub 0):=by
 intro ρ s σ H x y v u Q I rx ry ⟨O,a,b,t,oa,ob,hd,hg,k⟩;cases a with
 |tuple ts=>cases b with
  |tuple us=>
   dsimp only[ub]at hg
   by_cases hl:ts.length+us.length<=sizeLine
   case neg=>rw[if_neg hl]at hg;cases hg
   rw[if_pos hl]at hg;cases hg;obtain⟨a,vs,e1,f1,w1⟩:=oa.tup0;obtain⟨b,ws,e2,f2,w2⟩:=ob.tup0;have l1:=w1.len;have l2:=w2.len;by_cases hx:vs=[]
   ·subst hx;have et:ts=[]:=za4.mp l1.symm;subst et;refine wD hK ρ s σ H x y v u Q I rx ry ⟨a,b,ws,e1,e2,f1.sq,f2.sq,?_⟩;rw[<-e2];exact k y H NoA .refl (by rw[eQ];exact ob)
   ·refine G5 hK ρ s σ H x y v u Q I rx ry ⟨a,b,vs,ws,e1,e2,f1.sq,f2.sq,hx,by omega,fun hy=>?_,fun hy p hp=>?_⟩
    ·subst hy;have et:us=[]:=za4.mp l2.symm;subst et;rw[<-e1];exact k x H NoA .refl (by rw[eQ,List.append_nil];exact oa)
    ·obtain⟨n1,n2⟩:=dm hp hd (w1.app w2);exact k _ _ _ n1 n2
  |_=>cases hg
 |_=>cases hg
def GK(K:zbQ):R2:=fun x y H Q=>∃l k xs,x=.ref l/\y=.int k/\SqL K H l xs/\-(2 ^ 63)<=k/\k<2 ^ 63/\xs.length*k.toNat<=sizeLine/\∀p,H p=none->Q (.ref p) (upd H p (.lst (List.replicate k.toNat xs).flatten))
def op_repL:OpR X (binaryOp .Mult) (GK X.K):=by
 intro ρ s σ H x y v u Q I rx ry h;obtain⟨l,k,xs,rfl,rfl,hH,h1,h2,hz,q⟩:=h;cases rx;obtain⟨t,rfl⟩:=ry;obtain⟨its,r,⟨⟨c1,dd,da1,sl⟩,n,ho,hc,hdd,hda⟩,_⟩:=I.list hH;have hl:=r.length;simp only at hc hda;subst hc hda;have ξ:its.toArray.size*k.toNat<=sizeLine:=by rw[zai,<-hl];exact hz
 have hcap:¬its.toArray.size*k.toNat>(2 ^ 63-1) / 8:=by
  have:(sizeLine:Nat)<=(2 ^ 63-1) / 8:=by decide
  omega
 have hfit:¬(!Builtin.List.listFitsIndex k)=true:=by
  rw[fitsIndex_both h1 h2];exact zbk
 have hlong:¬Builtin.List.listTooLong (its.toArray.size*k.toNat)=true:=by
  rw[wG ξ];exact zbk
 refine wpAny_binaryOp_repeat_ref (T:="list") (U:="int") (by decide) ⟨_,ho,rfl⟩ (fun s'=>typeIs_int s' k t) noFill_list_mul F.fills_int_mul F.slot_int_rmul repeat_list F.slot_int_index.lookup
  (call_meets F.slot_int_rmul (typeIs_int s k t) F.entry_int_rmul (F.args_int_rmul_2 _ _) (lm_int_rmul_list_any k t l its.toArray n dd sl)
   ⟨ho,rfl,⟨_,ho,rfl⟩,call_meets F.slot_list_mul ⟨_,ho,rfl⟩ F.entry_list_mul (F.args_list_mul_2 _ _)
    (lm_list_mul_any l its.toArray n dd sl k t hfit hcap hlong) ⟨ho,?_⟩⟩)
 rw[listMul_foldl_if];exact⟨.ref _,_,I.lnew (t':=s.toks) (r.rep k.toNat) (by rw[rW,Nat.mul_comm];exact hz),rfl,q _ I.fresh⟩
theorem Ows.rep(h:Ows K O H ts 0 vs NoA):∀n:Nat,Ows K O H (List.replicate n ts).flatten 0 (List.replicate n vs).flatten NoA
 |0=>rfl
 |n+1=>by
  rw[List.replicate_succ,List.replicate_succ,List.flatten_cons,List.flatten_cons];exact h.app (Ows.rep h n)
def wJ:D->D->Option D
 |.list ts,.int k=>grd (-(2 ^ 63)<=k/\k<2 ^ 63/\ts.length*k.toNat<=sizeLine) (.list (List.replicate k.toNat ts).flatten)
 |_,_=>none
def BS(hK:X.K=K):OpR X (binaryOp .Mult) (rF2 K wJ 1):=by
 subst hK;refine op_repL.imp ?_;rintro x y H Q ⟨O,a,b,t,oa,ob,hd,hg,k⟩;cases a with
 |list ts=>cases b with
  |int n=>
   obtain⟨⟨c1,c2,c3⟩,rfl⟩:=bH hg;obtain⟨a,vs,e1,f1,w1⟩:=oa.lst0;refine⟨a,n,vs,e1,ob,f1.sq,c1,c2,by rw[w1.len];exact c3,fun p hp=>?_⟩;obtain⟨n1,n2⟩:=cJ hp hd (w1.rep n.toNat);exact k _ _ _ n1 n2
  |_=>cases hg
 |_=>cases hg
def Jg:D->D->Option D
 |.str z,.int k=>grd (z.length<=4000/\-(2 ^ 63)<=k/\k<=4000) (.str (Txt.mul z k))
 |_,_=>none
def qg:D->Option D
 |.int i=>some (.int (-i))
 |_=>none
def qz:UnR X (unaryOp .USub) (rF1 K qg 3):=un_neg.imp fun x H Q ⟨O,a,t,oa,hd,hg,k⟩=>by
 cases a with
 |int i=>cases hg;exact⟨i,oa,k _ H NoA .refl rfl⟩
 |_=>cases hg
def bc:List D->Option D
 |[.list ts]=>some (.int ts.length)
 |[.tuple ts]=>some (.int ts.length)
 |[.str z]=>grd (z.length<=sizeLine) (.int z.length)
 |_=>none
def FH(hK:X.K=K):CallR X (.builtin "len") (rFn K bc 3):=(HU hK).imp fun xs H Q ⟨O,as,t,oa,hd,hg,k⟩=>by
 match as,hg with
 |[.list ts],hg=>
  cases hg;obtain⟨v,rfl,o⟩:=oa.one;obtain⟨a,vs,rfl,fz,w⟩:=o.lst0;exact⟨_,_,rfl,.inl ⟨vs,fz.sq,rfl⟩,by rw[w.len];exact k _ H NoA .refl rfl⟩
 |[.tuple ts],hg=>
  cases hg;obtain⟨v,rfl,o⟩:=oa.one;obtain⟨a,vs,rfl,fz,w⟩:=o.tup0;exact⟨_,_,rfl,.inr ⟨vs,fz.sq,rfl⟩,by rw[w.len];exact k _ H NoA .refl rfl⟩
 |[.str z],hg=>
  obtain⟨c,rfl⟩:=bH hg;obtain⟨v,rfl,o⟩:=oa.one;exact⟨_,_,rfl,by rw[show v=.str z from o];exact⟨c,rfl⟩,k _ H NoA .refl rfl⟩
def uc:List D->Option D
 |[.int i]=>some (.int (if i<0 then -i else i))
 |_=>none
def IS:List D->Option D
 |[.int i,.int j]=>some (.int (if j>i then j else i))
 |_=>none
def IR:List D->Option D
 |[.int i,.int j]=>some (.int (if j<i then j else i))
 |_=>none
def HX:List D->Option D
 |[.int i]=>some (.int i)
 |[.bool b]=>some (.int (if b then 1 else 0))
 |_=>none
def lW(z:Str):List D:=(li z).map fun c=>.str (mk1 c)
def pY:Ows K O H (lW z) 0 (di z) NoA:=by
 unfold lW di;show Ows K O H ((li z).map fun c=>.str (mk1 c)) 0 ((li z).map sgn) NoA;generalize li z=l
 induction l with
 |nil=>rfl
 |cons c r ih=>exact⟨sgn c,r.map sgn,NoA,NoA,rfl,fun _ z=>z,fun _ z=>z,fun _ z=>z.elim,rfl,ih⟩
def l9:List D->Option D
 |[.list ts]=>some (.list ts)
 |[.tuple ts]=>some (.list ts)
 |[.str z]=>grd (z.cps.size<=sizeLine) (.list (lW z))
 |_=>none
def nB(hK:X.K=K)(hc:X.calm=true):CallR X (.type "list") (rFn K l9 1):=((Bs hK).or' (nI hc)).imp fun xs H Q ⟨O,as,t,oa,hd,hg,k⟩=>by
 match as,hg with
 |[.list ts],hg=>
  cases hg;obtain⟨v,rfl,o⟩:=oa.one;obtain⟨a,vs,rfl,fz,w⟩:=o.lst0;exact .inl ⟨a,vs,rfl,.inl fz.sq,fun l hl=>k _ _ _ (cJ hl hd w).1 (cJ hl hd w).2⟩
 |[.tuple ts],hg=>
  cases hg;obtain⟨v,rfl,o⟩:=oa.one;obtain⟨a,vs,rfl,fz,w⟩:=o.tup0;exact .inl ⟨a,vs,rfl,.inr fz.sq,fun l hl=>k _ _ _ (cJ hl hd w).1 (cJ hl hd w).2⟩
 |[.str z],hg=>
  obtain⟨c,rfl⟩:=bH hg;obtain⟨v,rfl,o⟩:=oa.one;exact .inr ⟨z,by rw[show v=.str z from o],c,fun l hl=>k _ _ _ (cJ (K:=K) hl hd pY).1 (cJ hl hd pY).2⟩
def wo:List D->Option D
 |[.list ts]=>some (.tuple ts)
 |[.tuple ts]=>some (.tuple ts)
 |_=>none
def xa(hK:X.K=K):CallR X (.type "tuple") (rFn K wo 0):=(E6 hK).imp fun xs H Q ⟨O,as,t,oa,hd,hg,k⟩=>by
 match as,hg with
 |[.list ts],hg=>
  cases hg;obtain⟨v,rfl,o⟩:=oa.one;obtain⟨a,vs,rfl,fz,w⟩:=o.lst0;exact⟨a,vs,rfl,.inl ⟨fz.sq,fun l hl=>k _ _ _ (dm hl hd w).1 (dm hl hd w).2⟩⟩
 |[.tuple ts],hg=>
  cases hg;obtain⟨v,rfl,o⟩:=oa.one;obtain⟨a,vs,rfl,fz,w⟩:=o.tup0;exact⟨a,vs,rfl,.inr ⟨fz.sq,k _ H NoA .refl (by rw[eQ];exact o)⟩⟩
def gE:List D->Option (List Bool)
 |[]=>some []
 |.bool b::r=>(gE r).map (b::·)
 |_::_=>none
theorem nX:∀{ts:List D} {vs:List V} {bs:List Bool},Ows K O H ts 0 vs NoA->gE ts=some bs->vs=bs.map V.bl
 |[],_,_,h,hb=>by cases hb;exact h
 |.bool b::r,_,_,h,hb=>by
  obtain⟨v,w,F1,F2,e,_,_,_,h4,h5⟩:=h;obtain⟨bs',h6,h7⟩:=zab.mp hb;subst e h7;rw[show v=.bl b from h4,nX (Ows.any0 r h5) h6];rfl
 |.none::_,_,_,_,hb=>by cases hb
 |.int _::_,_,_,_,hb=>by cases hb
 |.str _::_,_,_,_,hb=>by cases hb
 |.list _::_,_,_,_,hb=>by cases hb
 |.tuple _::_,_,_,_,hb=>by cases hb
 |.dict _::_,_,_,_,hb=>by cases hb
def ka:List D->Option D
 |[.list ts]=>(gE ts).map fun bs=>.bool (bs.all id)
 |_=>none
def iS(hK:X.K=K)(hc:X.calm=true):CallR X (.builtin "all") (rFn K ka 3):=(HW hK hc).imp fun xs H Q ⟨O,as,t,oa,hd,hg,k⟩=>by
 match as,hg with
 |[.list ts],hg=>
  obtain⟨bs,h1,rfl⟩:=zab.mp hg;obtain⟨v,rfl,o⟩:=oa.one;obtain⟨a,vs,rfl,fz,w⟩:=o.lst0;have e:=nX w h1;subst e;exact⟨a,bs,rfl,fz.sq,k _ H NoA .refl rfl⟩
def tyN:D->String
 |.none=>"NoneType" |.bool _=>"bool" |.int _=>"int" |.str _=>"str" |.list _=>"list" |.tuple _=>"tuple" |.dict _=>"dict"
def cv(n T:String):Bool:=n==T || (n=="bool"&&T=="int")
def rX(hT:T∈["int","bool","str","list","tuple","dict"])(a:D):PySem.W.kitOne K (.type (tyN a)) (.type T)=some (cv (tyN a) T):=by
 simp only[zay,List.not_mem_nil,or_false]at hT;rcases hT with rfl|rfl|rfl|rfl|rfl|rfl<;>cases a<;>rfl
def isX:D->Bool
 |.dict [(.none,.str _)]=>true
 |_=>false
def GL(K:zbQ):List V->Hp->VK->Prop:=fun xs H Q=>∃x T,∃(O:AS) (a:D),xs=[x,.ty T]/\Ow K O H a 0 x NoA/\isX a=false/\T∈["int","bool","str","list","tuple","dict"]/\Q (.bl (cv (tyN a) T)) H
def vQ:CallR X (.builtin "isinstance") (GL X.K):=by
 intro ρ s σ H xs us Q I r h;obtain⟨x,T,O,a,rfl,oa,hX,hT,q⟩:=h;have base:∀ty,TyOf X.K H x (.type ty)->tyN a=ty->wpAny (model X.prog X.w) X.A (call (.builtin "isinstance") us) (EP X ρ σ Q) X.xe s:=fun ty h1 h2=>by
  refine xB ρ s σ H _ us Q I r ⟨x,.type ty,T,cv (tyN a) T,rfl,h1,?_,q⟩;rw[<-h2];exact rX hT a
 cases a with
 |none=>exact base _ (by rw[show x=.non from oa];exact .non) rfl
 |bool b=>exact base _ (by rw[show x=.bl b from oa];exact .bl b) rfl
 |int b=>exact base _ (by rw[show x=.int b from oa];exact .int b) rfl
 |str b=>exact base _ (by rw[show x=.str b from oa];exact .str b) rfl
 |tuple ts=>
  obtain⟨p,vs,rfl,fz,w⟩:=oa.tup0;exact base _ (.tup fz.1) rfl
 |dict ts=>
  obtain⟨p,vs,rfl,⟨_,h1,_⟩|⟨_,h1,_⟩|⟨_,⟨⟨_,_,_,_,h1,_⟩,_⟩|⟨cn,C,h0,_⟩⟩|⟨_,_,_,_,_,_,h1,_⟩⟩:=oa
  ·exact base _ (.dK h1) rfl
  ·exact base _ (.dK (.inl h1)) rfl
  ·exact base _ (.dT h1) rfl
  ·subst h0;cases hX
  ·exact base _ (.dT (.inl h1)) rfl
 |list ts=>
  obtain⟨p,vs,rfl,fz,w⟩:=oa.lst0;obtain⟨u,u2,rfl,r1,r2⟩:=r.two;cases r1;cases r2;obtain⟨its,rv,pl,_⟩:=I.list fz.sq;have e:=rX (K:=X.K) hT (.list ts);obtain⟨o,n,h1,h2,_⟩:=pl;exact PySem.W.kia_one PySem.W.kitx_list I.kIn ⟨o,h1,h2⟩ e (fun z=>nomatch z) fun tk=>⟨.bl _,H,I.tok tk,rfl,q⟩
end
def bd(T:String):D->Option D:=fun a=>if isX a=true then none else some (.bool (cv (tyN a) T))
def FX{T:Str}{n:String}{pt:Pos}(hK:X.K=K)(hg:Gl X "isinstance")(hm:X.mg "isinstance"=none)(hgT:Gl X T)(hmT:X.mg T=none)(hbT:bootBuiltins T=some (.type n))(hT:n∈["int","bool","str","list","tuple","dict"])(he:PE X e (tF K p ds ds1 d1 f))
  (hnT:T≠"__name__") (hdT:(T==("__debug__":Str))=false)
  (hs1:starEach [e,.Name T pt] X.env=(false,eval e X.env)::starEach [.Name T pt] X.env) (hs2:starEach [.Name T pt] X.env=(false,eval (.Name T pt) X.env)::starEach [] X.env) (hpl:(backTo pos (starEach [.Name T pt] X.env)).any (·.1)=false):
  PE X (.Call (.Name "isinstance" px) [e,.Name T pt] [] pos) (tF K p ds ds1 3 (e1 (bd n) f)):=by
 subst hK;refine(pX vQ hg hm boot_isinstance (dk he (dk (Bj (v:=.ty n) hgT hmT hbT rfl hnT hdT) pa_nil hs2) hs1) (by decide) (by decide) hs1 hpl).imp fun σ H Q h=>?_;obtain⟨Ox,en,R,t,en',e,hf,k⟩:=h;unfold e1 at hf;obtain⟨⟨t1,en1⟩,h1,hf⟩:=zaa.mp hf;obtain⟨t',h3,hf⟩:=zab.mp hf;cases hf;unfold bd at h3;by_cases hX:isX t1=true
 ·rw[if_pos hX]at h3;cases h3
 rw[if_neg hX]at h3;cases h3;refine⟨Ox,en,R,t1,en1,e,h1,fun v H' R' F P o=>?_⟩;exact⟨v,n,Own R' Ox,t1,rfl,Ow.letgo P (fun _ z=>z) o,Bool.eq_false_iff.mpr hX,hT,k _ H' R' NoA (P.less fun _ z=>z.elim) rfl⟩
mutual
def peq:D->D->Bool
 |.none,.none=>true
 |.bool a,.bool b=>a==b
 |.bool a,.int b=>(if a then(1:Int)else 0)==b
 |.int a,.bool b=>a==(if b then(1:Int)else 0)
 |.int a,.int b=>a==b
 |.str a,.str b=>a==b
 |.list a,.list b=>dA a b
 |.tuple a,.tuple b=>dA a b
 |_,_=>false
def dA:List D->List D->Bool
 |[],[]=>true
 |a::r,b::s=>peq a b&&dA r s
 |_,_=>false
end
mutual
def ak:D->Bool
 |.dict _=>false
 |.list ts=>aD ts
 |.tuple ts=>aD ts
 |_=>true
def aD:List D->Bool
 |[]=>true
 |t::r=>ak t&&aD r
end
mutual
theorem gK:∀a:D,ak a=true->peq a a=true
 |.none,_=>rfl
 |.bool b,_=>by cases b<;>rfl
 |.int i,_=>by simp[peq]
 |.str i,_=>by simp[peq]
 |.list ts,h=>by simp only[peq];exact jQ ts (by simpa[ak]using h)
 |.tuple ts,h=>by simp only[peq];exact jQ ts (by simpa[ak]using h)
 |.dict _,h=>by simp[ak]at h
theorem jQ:∀a:List D,aD a=true->dA a a=true
 |[],_=>rfl
 |t::r,h=>by
  have h':ak t=true/\aD r=true:=by simpa[aD]using h
  simp only[dA,gK t h'.1,jQ r h'.2,zbh]
end
mutual
def aQ:D->Nat
 |.list ts=>aS ts+1
 |.tuple ts=>aS ts+1
 |_=>0
def aS:List D->Nat
 |[]=>0
 |t::r=>max (aQ t) (aS r)
end
theorem ef:∀{ts:List D} {i:Nat} {t:D},ts[i]?=some t->aQ t<=aS ts
 |[],_,_,h=>by simp at h
 |u::r,i,t,h=>by
  simp only[aS];cases i with
  |zero=>simp at h;subst h;exact Nat.le_max_left _ _
  |succ i=>exact zau (ef (by simpa using h)) (Nat.le_max_right _ _)
theorem dH:∀{ts:List D} {i:Nat} {t:D},aD ts=true->ts[i]?=some t->ak t=true
 |[],_,_,_,h=>by simp at h
 |u::r,i,t,hn,h=>by
  have h':ak u=true/\aD r=true:=by simpa[aD]using hn
  cases i with
  |zero=>simp at h;subst h;exact h'.1
  |succ i=>exact dH h'.2 (by simpa using h)
theorem lx:∀{a b:List D},a.length≠b.length->dA a b=false
 |[],[],h=>absurd rfl h
 |[],_::_,_=>rfl
 |_::_,[],_=>rfl
 |a::r,b::s,h=>by
  simp only[dA,lx (a:=r) (b:=s) (fun z=>h (by rw[zac,zac,z])),zbP]
def eAt(a b:List D)(j:Nat):Bool:=match a[j]?,b[j]? with
 |some x,some y=>peq x y
 |_,_=>true
def iV(n:Nat)(f:Nat->Bool):(List.range (n+1)).all f=(f 0&&(List.range n).all fun j=>f (j+1)):=by
 rw[List.range_succ_eq_map,List.all_cons,List.all_map];rfl
theorem ly:∀{a b:List D},a.length=b.length->(List.range a.length).all (eAt a b)=dA a b
 |[],[],_=>rfl
 |a::r,b::s,h=>by
  rw[zac,iV];have e:(List.range r.length).all (fun j=>eAt (a::r) (b::s) (j+1))=(List.range r.length).all (eAt r s):=by
   congr 1
  rw[e,ly (by simpa using h)];rfl
 |[],_::_,h=>by simp at h
 |_::_,[],h=>by simp at h
section
open PySem.SeqAt
variable{s:Shared} 
def AF{p:Addr}{ws:List V}(I:Inv X ρ σ H s)(h:SqL X.K H p vs)(g:SqT X.K H p ws):False:=by
 obtain⟨its,_,p1,_⟩:=I.list h;obtain⟨ν,_,p2,_⟩:=I.tuple g;exact ne_of_list_tuple p1.isList (show s.heap.IsTuple p ν.toArray from p2) rfl
def EQ{p:Addr}{ks:List (List (Option Key)×V)}{ad:Addr->Prop}(I:Inv X ρ σ H s)(h:SqL X.K H p vs)(g:Rd H p (.dT ks ad)):False:=by
 obtain⟨its,_,⟨o,n,e1,e2,_⟩,_⟩:=I.list h;obtain⟨_,_,_,_,o',_,_,g1,g2,_⟩:=pq I.hok g;rw[e1]at g1;cases g1;rw[g2.1]at e2;simp at e2
def GY{p:Addr}{ks:List (Key×V)}(I:Inv X ρ σ H s)(h:SqL X.K H p vs)(g:Rd H p (.dK ks)):False:=by
 obtain⟨its,_,⟨o,n,e1,e2,_⟩,_⟩:=I.list h;obtain⟨_,_,_,_,o',_,_,g1,g2,_⟩:=kQ I.hok g;rw[e1]at g1;cases g1;rw[g2.1]at e2;simp at e2
mutual
theorem Ow.inj(I:Inv X ρ σ H s):∀(a b:D) {x:V},Ow X.K O H a 0 x NoA->Ow X.K O H b 0 x NoA->ak a=true->a=b
 |.none,b,_,h,g,_=>by
  cases(show _=_ from h);cases b with
  |none=>rfl
  |list ts=>obtain⟨_,_,z,_⟩:=g;cases z
  |tuple ts=>obtain⟨_,_,z,_⟩:=g;cases z
  |dict ts=>obtain⟨_,_,z,_⟩:=g;cases z
  |bool c=>cases(show V.non=V.bl c from g)
  |int c=>cases(show V.non=V.int c from g)
  |str c=>cases(show V.non=V.str c from g)
 |.bool c,b,_,h,g,_=>by
  cases(show _=_ from h);cases b with
  |none=>cases(show V.bl c=V.non from g)
  |list ts=>obtain⟨_,_,z,_⟩:=g;cases z
  |tuple ts=>obtain⟨_,_,z,_⟩:=g;cases z
  |dict ts=>obtain⟨_,_,z,_⟩:=g;cases z
  |bool c'=>cases(show V.bl c=V.bl c' from g);rfl
  |int c'=>cases(show V.bl c=V.int c' from g)
  |str c'=>cases(show V.bl c=V.str c' from g)
 |.int c,b,_,h,g,_=>by
  cases(show _=_ from h);cases b with
  |none=>cases(show V.int c=V.non from g)
  |list ts=>obtain⟨_,_,z,_⟩:=g;cases z
  |tuple ts=>obtain⟨_,_,z,_⟩:=g;cases z
  |dict ts=>obtain⟨_,_,z,_⟩:=g;cases z
  |bool c'=>cases(show V.int c=V.bl c' from g)
  |int c'=>cases(show V.int c=V.int c' from g);rfl
  |str c'=>cases(show V.int c=V.str c' from g)
 |.str c,b,_,h,g,_=>by
  cases(show _=_ from h);cases b with
  |none=>cases(show V.str c=V.non from g)
  |list ts=>obtain⟨_,_,z,_⟩:=g;cases z
  |tuple ts=>obtain⟨_,_,z,_⟩:=g;cases z
  |dict ts=>obtain⟨_,_,z,_⟩:=g;cases z
  |bool c'=>cases(show V.str c=V.bl c' from g)
  |int c'=>cases(show V.str c=V.int c' from g)
  |str c'=>cases(show V.str c=V.str c' from g);rfl
 |.list ts,b,_,h,g,hn=>by
  obtain⟨p,vs,rfl,fz,w⟩:=h.lst0;cases b with
  |none=>cases(show V.ref p=V.non from g)
  |bool c'=>cases(show V.ref p=V.bl c' from g)
  |int c'=>cases(show V.ref p=V.int c' from g)
  |str c'=>cases(show V.ref p=V.str c' from g)
  |list us=>
   obtain⟨p',vs',e,fz',w'⟩:=g.lst0;cases e
   have:=I.list_inj fz.sq fz'.sq;subst this;rw[Ows.inj I ts us w w' (by simpa[ak]using hn)]
  |tuple us=>
   obtain⟨p',vs',e,fz',w'⟩:=g.tup0;cases e;exact(AF I fz.sq fz'.sq).elim
  |dict us=>
   obtain⟨p',vs',e,⟨_,g1,_⟩|⟨z,_⟩|⟨_,⟨⟨_,_,_,_,g1,_⟩,_⟩|⟨_,C,_,_,g1,_⟩⟩|⟨z,_⟩⟩:=g
   ·cases e;exact(GY I fz.sq g1).elim
   ·exact absurd rfl z
   ·cases e;exact(EQ I fz.sq g1).elim
   ·cases e;obtain⟨its,rv,⟨o,n,e1,e2,_⟩,_⟩:=I.list fz.sq;obtain⟨⟨o',x1,x2,_⟩,_⟩:=(show ObjOk X.prog X.w H s.heap p (.ext (Gh p C))from I.hok p _ g1);rw[e1]at x1;cases x1;rw[e2]at x2;cases x2
   ·cases z
 |.tuple ts,b,_,h,g,hn=>by
  obtain⟨p,vs,rfl,fz,w⟩:=h.tup0;cases b with
  |none=>cases(show V.ref p=V.non from g)
  |bool c'=>cases(show V.ref p=V.bl c' from g)
  |int c'=>cases(show V.ref p=V.int c' from g)
  |str c'=>cases(show V.ref p=V.str c' from g)
  |tuple us=>
   obtain⟨p',vs',e,fz',w'⟩:=g.tup0;cases e
   have:=fz.1.symm.trans fz'.1;cases this;rw[Ows.inj I ts us w w' (by simpa[ak]using hn)]
  |list us=>
   obtain⟨p',vs',e,fz',w'⟩:=g.lst0;cases e;exact(AF I fz'.sq fz.sq).elim
  |dict us=>
   obtain⟨p',vs',e,⟨_,g1,_⟩|⟨z,_⟩|⟨_,⟨⟨_,_,_,_,g1,_⟩,_⟩|⟨_,C,_,_,g1,_⟩⟩|⟨z,_⟩⟩:=g
   ·cases e;rcases g1 with g1|⟨_,g1⟩<;>rw[fz.1]at g1<;>cases g1
   ·exact absurd rfl z
   ·cases e;rcases g1 with g1|⟨_,g1⟩<;>rw[fz.1]at g1<;>cases g1
   ·cases e;rw[fz.1]at g1;cases g1
   ·cases z
 |.dict _,_,_,_,_,hn=>by simp[ak]at hn
theorem Ows.inj(I:Inv X ρ σ H s):∀(a b:List D) {x:List V},Ows X.K O H a 0 x NoA->Ows X.K O H b 0 x NoA->aD a=true->a=b
 |[],b,_,h,g,_=>by
  cases(show _=_ from h);cases b with
  |nil=>rfl
  |cons u us=>obtain⟨_,_,_,_,e,_⟩:=g;cases e
 |t::ts,b,_,h,g,hn=>by
  obtain⟨v,r,F1,F2,e,_,_,_,h4,h5⟩:=h;subst e;have hn':ak t=true/\aD ts=true:=by simpa[aD]using hn
  cases b with
  |nil=>cases(show v::r=[]from g)
  |cons u us=>
   obtain⟨v',r',G1,G2,e,_,_,_,g4,g5⟩:=g;cases e;rw[Ow.inj I t u (Ow.any0 t h4) (Ow.any0 u g4) hn'.1,Ows.inj I ts us (Ows.any0 ts h5) (Ows.any0 us g5) hn'.2]
end
def qt{ws:List V}{its ν:List Value}(w:Ows X.K O H ts 0 vs NoA)(w2:Ows X.K O H us 0 ws NoA)(rv:Vals vs its)(rv2:Vals ws ν)
  (ih:∀(j:Nat) a b x y v u,ts[j]?=some a->us[j]?=some b->Ow X.K O H a 0 x NoA->Ow X.K O H b 0 y NoA->RelV x v->RelV y u->EqAt A s v u (peq a b)):
  ∀j (h1:j<its.toArray.size) (h2:j<ν.toArray.size),EqAt A s its.toArray[j] ν.toArray[j] (eAt ts us j):=fun j h1 h2=>by
 have h1':j<its.length:=by simpa using h1
 have h2':j<ν.length:=by simpa using h2
 have l1:=rv.length;have l2:=rv2.length;have m1:=w.len;have m2:=w2.len;have e1:ts[j]?=some ts[j]:=zak (by omega);have e2:us[j]?=some us[j]:=zak (by omega);obtain⟨x,g1,o1⟩:=w.get e1;obtain⟨y,g2,o2⟩:=w2.get e2;obtain⟨u1,f1,q1⟩:=rv.get g1;obtain⟨u2,f2,q2⟩:=rv2.get g2;have z:=ih j _ _ x y u1 u2 e1 e2 o1 o2 q1 q2;rw[zak h1']at f1;rw[zak h2']at f2;have i1:its.toArray[j]=u1:=by simpa using zat f1
 have i2:ν.toArray[j]=u2:=by simpa using zat f2
 rw[i1,i2];unfold eAt;rw[e1,e2];exact z
inductive Kd(s:Shared):D->Value->Prop
 |n:Kd s .none .none
 |b (c:Bool):Kd s (.bool c) (.bool c)
 |i (c:Int) (t:Nat):Kd s (.int c) (.int c t)
 |t (c:Str) (t:Nat):Kd s (.str c) (.str c t)
 |l {c:List D} {p:Addr} {z:Array Value} (h:s.heap.IsList p z):Kd s (.list c) (.ref p)
 |u {c:List D} {p:Addr} {z:Array Value} (h:s.heap.IsTuple p z):Kd s (.tuple c) (.ref p)
def pj(I:Inv X ρ σ H s){a:D}{x:V}{v:Value}(hn:ak a=true)(o:Ow X.K O H a 0 x NoA)(r:RelV x v):Kd s a v:=by
 cases a with
 |none=>cases(show x=V.non from o);cases r;exact .n
 |bool c=>cases(show x=V.bl c from o);cases r;exact .b c
 |int c=>cases(show x=V.int c from o);obtain⟨t,rfl⟩:=r;exact .i c t
 |str c=>cases(show x=V.str c from o);obtain⟨t,rfl⟩:=r;exact .t c t
 |list c=>
  obtain⟨p,vs,rfl,fz,w⟩:=o.lst0;cases r;obtain⟨its,rv,pl,_⟩:=I.list fz.sq;exact .l pl.isList
 |tuple c=>
  obtain⟨p,vs,rfl,fz,w⟩:=o.tup0;cases r;obtain⟨its,rv,pl,_⟩:=I.tuple fz.sq;have hl:s.heap.IsTuple p its.toArray:=pl;exact .u hl
 |dict c=>simp[ak]at hn
def sqB:D->D->Bool
 |.list _,.list _=>true
 |.tuple _,.tuple _=>true
 |_,_=>false
def AI:∀{a b:D} {v u:Value},Kd s a v->Kd s b u->sqB a b=false->A.units<cLine->EqAt A s v u (peq a b)/\RcAt A s v u (peq a b)/\RcNeAt A s v u (!peq a b)
 |_,_,_,_,.n,.n,_,_=>⟨.same _,.none_none,.none_none⟩
 |_,_,_,_,.n,.b _,_,_=>⟨.none_bool _,.none_bool _,.none_bool _⟩
 |_,_,_,_,.n,.i _ _,_,_=>⟨.none_int _ _,.none_int _ _,.none_int _ _⟩
 |_,_,_,_,.n,.t _ _,_,_=>⟨.none_str _ _,.none_str _ _,.none_str _ _⟩
 |_,_,_,_,.n,.l h2,_,hu=>⟨.none_list h2 hu,.none_list h2 hu,.none_list h2 hu⟩
 |_,_,_,_,.n,.u h2,_,hu=>⟨.none_tuple h2 hu,.none_tuple h2 hu,.none_tuple h2 hu⟩
 |_,_,_,_,.b _,.n,_,_=>⟨.bool_none _,.bool_none _,.bool_none _⟩
 |_,_,_,_,.b _,.b _,_,_=>⟨.bool_bool _ _,.bool_bool _ _,.bool_bool _ _⟩
 |_,_,_,_,.b _,.i _ _,_,_=>⟨.bool_int _ _ _,.bool_int _ _ _,.bool_int _ _ _⟩
 |_,_,_,_,.b _,.t _ _,_,_=>⟨.bool_str _ _ _,.bool_str _ _ _,.bool_str _ _ _⟩
 |_,_,_,_,.b _,.l h2,_,hu=>⟨.bool_list _ h2 hu,.bool_list _ h2 hu,.bool_list _ h2 hu⟩
 |_,_,_,_,.b _,.u h2,_,hu=>⟨.bool_tuple _ h2 hu,.bool_tuple _ h2 hu,.bool_tuple _ h2 hu⟩
 |_,_,_,_,.i _ _,.n,_,_=>⟨.int_none _ _,.int_none _ _,.int_none _ _⟩
 |_,_,_,_,.i _ _,.b _,_,_=>⟨.int_bool _ _ _,.int_bool _ _ _,.int_bool _ _ _⟩
 |_,_,_,_,.i _ _,.i _ _,_,_=>⟨.int_int _ _ _ _,.int_int _ _ _ _,.int_int _ _ _ _⟩
 |_,_,_,_,.i _ _,.t _ _,_,_=>⟨.int_str _ _ _ _,.int_str _ _ _ _,.int_str _ _ _ _⟩
 |_,_,_,_,.i _ _,.l h2,_,hu=>⟨.int_list _ _ h2 hu,.int_list _ _ h2 hu,.int_list _ _ h2 hu⟩
 |_,_,_,_,.i _ _,.u h2,_,hu=>⟨.int_tuple _ _ h2 hu,.int_tuple _ _ h2 hu,.int_tuple _ _ h2 hu⟩
 |_,_,_,_,.t _ _,.n,_,_=>⟨.str_none _ _,.str_none _ _,.str_none _ _⟩
 |_,_,_,_,.t _ _,.b _,_,_=>⟨.str_bool _ _ _,.str_bool _ _ _,.str_bool _ _ _⟩
 |_,_,_,_,.t _ _,.i _ _,_,_=>⟨.str_int _ _ _ _,.str_int _ _ _ _,.str_int _ _ _ _⟩
 |_,_,_,_,.t _ _,.t _ _,_,_=>⟨.str_str _ _ _ _,.str_str _ _ _ _,.str_str _ _ _ _⟩
 |_,_,_,_,.t _ _,.l h2,_,hu=>⟨.str_list _ _ h2 hu,.str_list _ _ h2 hu,.str_list _ _ h2 hu⟩
 |_,_,_,_,.t _ _,.u h2,_,hu=>⟨.str_tuple _ _ h2 hu,.str_tuple _ _ h2 hu,.str_tuple _ _ h2 hu⟩
 |_,_,_,_,.l h1,.n,_,hu=>⟨.list_none h1 hu,.list_none h1 hu,.list_none h1 hu⟩
 |_,_,_,_,.l h1,.b _,_,hu=>⟨.list_bool _ h1 hu,.list_bool _ h1 hu,.list_bool _ h1 hu⟩
 |_,_,_,_,.l h1,.i _ _,_,hu=>⟨.list_int _ _ h1 hu,.list_int _ _ h1 hu,.list_int _ _ h1 hu⟩
 |_,_,_,_,.l h1,.t _ _,_,hu=>⟨.list_str _ _ h1 hu,.list_str _ _ h1 hu,.list_str _ _ h1 hu⟩
 |_,_,_,_,.l h1,.u h2,_,hu=>⟨.list_tuple h1 h2 hu,.list_tuple h1 h2 hu,.list_tuple h1 h2 hu⟩
 |_,_,_,_,.u h1,.n,_,hu=>⟨.tuple_none h1 hu,.tuple_none h1 hu,.tuple_none h1 hu⟩
 |_,_,_,_,.u h1,.b _,_,hu=>⟨.tuple_bool _ h1 hu,.tuple_bool _ h1 hu,.tuple_bool _ h1 hu⟩
 |_,_,_,_,.u h1,.i _ _,_,hu=>⟨.tuple_int _ _ h1 hu,.tuple_int _ _ h1 hu,.tuple_int _ _ h1 hu⟩
 |_,_,_,_,.u h1,.t _ _,_,hu=>⟨.tuple_str _ _ h1 hu,.tuple_str _ _ h1 hu,.tuple_str _ _ h1 hu⟩
 |_,_,_,_,.u h1,.l h2,_,hu=>⟨.tuple_list h1 h2 hu,.tuple_list h1 h2 hu,.tuple_list h1 h2 hu⟩
 |_,_,_,_,.l _,.l _,hq,_=>nomatch (show true=false from hq)
 |_,_,_,_,.u _,.u _,hq,_=>nomatch (show true=false from hq)
def mz(I:Inv X ρ σ H s):∀(n:Nat) (a b:D) (A:Around) (x y:V) (v u:Value),aQ a<=n->ak a=true->ak b=true->Ow X.K O H a 0 x NoA->Ow X.K O H b 0 y NoA->RelV x v->RelV y u->A.units+n+1<cLine ->
  EqAt A s v u (peq a b)/\RcAt A s v u (peq a b)/\RcNeAt A s v u (!peq a b):=by
 intro n
 induction n with
 |zero=>
  intro a b A x y v u hdp hna hnb o1 o2 r1 r2 hun;refine AI (pj I hna o1 r1) (pj I hnb o2 r2) ?_ (by omega);cases a with
  |list c=>simp only[aQ]at hdp;omega
  |tuple c=>simp only[aQ]at hdp;omega
  |_=>rfl
 |succ n ih=>
  intro a b A x y v u hdp hna hnb o1 o2 r1 r2 hun;have hu:A.units<cLine:=by omega
  have hu1:A.in1.units+n+1<cLine:=by
   show A.units+1+n+1<cLine;omega
  cases hq:sqB a b with
  |false=>exact AI (pj I hna o1 r1) (pj I hnb o2 r2) hq hu
  |true=>
   cases a with
   |list c1=>
    cases b with
    |list c2=>
     obtain⟨p1,vs1,rfl,fz1,w1⟩:=o1.lst0;cases r1;obtain⟨y',rv1,pl1,_⟩:=I.list fz1.sq;have hl1:=pl1.isList;obtain⟨p2,vs2,rfl,fz2,w2⟩:=o2.lst0;cases r2;obtain⟨ν,rv2,pl2,_⟩:=I.list fz2.sq;have hl2:=pl2.isList;have dl:aS c1<=n:=by simp only[aQ]at hdp;omega
     have nd1:aD c1=true:=by simpa[ak]using hna
     have nd2:aD c2=true:=by simpa[ak]using hnb
     have el:=qt (A:=A.in1) w1 w2 rv1 rv2 fun j a b x y v u e1 e2 q1 q2 q3 q4=>(ih a b A.in1 x y v u (zau (ef e1) dl) (dH nd1 e1) (dH nd2 e2) q1 q2 q3 q4 hu1).1;have l1:=rv1.length;have l2:=rv2.length;have m1:=w1.len;have m2:=w2.len;have rc:RcAt A s (.ref p1) (.ref p2) (dA c1 c2)/\RcNeAt A s (.ref p1) (.ref p2) (!dA c1 c2):=by
      by_cases hz:c1.length=c2.length
      ·have hs1:y'.toArray.size=ν.toArray.size:=by rw[zai,zai];omega
       have hs2:y'.toArray.size=c1.length:=by rw[zai];omega
       have z1:=RcAt.lists hl1 hl2 hs1 hu el;have z2:=RcNeAt.lists hl1 hl2 hs1 hu el;rw[hs2,ly hz]at z1 z2;exact⟨z1,z2⟩
      ·have hs1:(y'.toArray.size != ν.toArray.size)=true:=by rw[zai,zai,bne_iff_ne];omega
       rw[lx hz];exact⟨RcAt.lists_lengths hl1 hl2 hs1 hu,RcNeAt.lists_lengths hl1 hl2 hs1 hu⟩
     have pe:peq (.list c1) (.list c2)=dA c1 c2:=by simp only[peq]
     refine⟨?_,by rw[pe];exact rc.1,by rw[pe];exact rc.2⟩;by_cases hp:p1=p2
     ·subst hp
      have:=Ow.inj I _ _ o1 o2 hna;cases this;rw[gK _ hna];exact EqAt.same _
     ·rw[pe];exact EqAt.of_refs hp rc.1
    |_=>cases(show false=true from hq)
   |tuple c1=>
    cases b with
    |tuple c2=>
     obtain⟨p1,vs1,rfl,fz1,w1⟩:=o1.tup0;cases r1;obtain⟨y',rv1,pl1,_⟩:=I.tuple fz1.sq;have hl1:s.heap.IsTuple p1 y'.toArray:=pl1;obtain⟨p2,vs2,rfl,fz2,w2⟩:=o2.tup0;cases r2;obtain⟨ν,rv2,pl2,_⟩:=I.tuple fz2.sq;have hl2:s.heap.IsTuple p2 ν.toArray:=pl2;have dl:aS c1<=n:=by simp only[aQ]at hdp;omega
     have nd1:aD c1=true:=by simpa[ak]using hna
     have nd2:aD c2=true:=by simpa[ak]using hnb
     have el:=qt (A:=A.in1) w1 w2 rv1 rv2 fun j a b x y v u e1 e2 q1 q2 q3 q4=>(ih a b A.in1 x y v u (zau (ef e1) dl) (dH nd1 e1) (dH nd2 e2) q1 q2 q3 q4 hu1).1;have l1:=rv1.length;have l2:=rv2.length;have m1:=w1.len;have m2:=w2.len;have rc:RcAt A s (.ref p1) (.ref p2) (dA c1 c2)/\RcNeAt A s (.ref p1) (.ref p2) (!dA c1 c2):=by
      have z1:=RcAt.tuples hl1 hl2 hu el;have z2:=RcNeAt.tuples hl1 hl2 hu el;have ez:((List.range (min y'.toArray.size ν.toArray.size)).all (eAt c1 c2)&&y'.toArray.size==ν.toArray.size)=dA c1 c2:=by
       rw[zai,zai];by_cases hz:c1.length=c2.length
       ·have h3:y'.length=ν.length:=by omega
        have h4:min y'.length ν.length=c1.length:=by omega
        rw[h4,ly hz,h3,beq_self_eq_true,zbO]
       ·have h3:(y'.length==ν.length)=false:=by rw[zbK];omega
        rw[h3,zbP,lx hz]
      rw[ez]at z1 z2;exact⟨z1,z2⟩
     have pe:peq (.tuple c1) (.tuple c2)=dA c1 c2:=by simp only[peq]
     refine⟨?_,by rw[pe];exact rc.1,by rw[pe];exact rc.2⟩;by_cases hp:p1=p2
     ·subst hp
      have:=Ow.inj I _ _ o1 o2 hna;cases this;rw[gK _ hna];exact EqAt.same _
     ·rw[pe];exact EqAt.of_refs hp rc.1
    |_=>cases(show false=true from hq)
   |_=>cases(show false=true from hq)
end
def eqD(a b:D):Option D:=grd (ak a=true/\ak b=true/\aQ a<=60) (.bool (peq a b))
def neD(a b:D):Option D:=grd (ak a=true/\ak b=true/\aQ a<=60) (.bool (!peq a b))
def kO(hK:X.K=K)(hu:X.A.units+64<cLine):OpR X (compareOp .Eq) (rF2 K eqD 3):=by
 subst hK;intro ρ s σ H x y v u Q I rx ry ⟨O,a,b,t,oa,ob,hd,hg,k⟩;obtain⟨⟨c1,c2,c3⟩,rfl⟩:=bH hg;exact(mz I 60 a b X.A x y v u c3 c1 c2 oa ob rx ry (by omega)).2.1 X.prog X.w _ _ ⟨.bl _,H,I,rfl,k _ H NoA .refl rfl⟩
def Hb(hK:X.K=K)(hu:X.A.units+64<cLine):OpR X (compareOp .NotEq) (rF2 K neD 3):=by
 subst hK;intro ρ s σ H x y v u Q I rx ry ⟨O,a,b,t,oa,ob,hd,hg,k⟩;obtain⟨⟨c1,c2,c3⟩,rfl⟩:=bH hg;exact(mz I 60 a b X.A x y v u c3 c1 c2 oa ob rx ry (by omega)).2.2 X.prog X.w _ _ ⟨.bl _,H,I,rfl,k _ H NoA .refl rfl⟩
def A3{dps:List Nat}{F:List D->Option (D×En)}{E:XK}(hn:dps.length=n)(h:spF K dps dr F vs H Q E):vs.length=n:=by
 obtain⟨Ox,ts,R,r,ψ,e,_⟩:=h
 have:=e.l2;rw[zad]at this;omega
section
variable{ds3:List Nat}{d3:Nat}{a c:Expr}{f3:ME}{p2:Pos}
def gQ(g g':D->D->Option D)(f1 f2 f3:ME):ME:=fun en=>(f1 en).bind fun r=>(f2 r.2).bind fun q=>(g r.1 q.1).bind fun t=>match t with
 |.bool true=>(f3 q.2).bind fun z=>(g' q.1 z.1).map fun t=>(t,z.2)
 |.bool false=>some (.bool false,q.2)
 |_=>none
def Cb(h:tF K p ds ds1 3 (gQ g g' f1 f2 f3) σ H Q):
  uL (rF2 K g 3) (rF2 K g' 3) (tF K p ds ds0 d1 f1) (tF K p ds0 ds1 d2 f2) (tF K p ds1 ds1 d3 f3) σ H Q:=by
 obtain⟨Ox,en,R,t,en',e,hf,k⟩:=h;unfold gQ at hf;obtain⟨⟨t1,en1⟩,h1,hf⟩:=zaa.mp hf;obtain⟨⟨t2,en2⟩,h2,hf⟩:=zaa.mp hf;obtain⟨tb,h3,hf⟩:=zaa.mp hf;refine two (p1:=p) (p2:=p) e h1 h2 fun x y H2 R2 F1 F2 P o1 o2=>?_;rw[zbh]at P;have oy:=Ow.letgo P (fun _=>.inr) o2;refine⟨Own R2 Ox,t1,t2,tb,Ow.letgo P (fun _=>.inl) o1,oy,P.doms,h3,fun v3 H3 F3 n3 o3=>?_⟩;have P3:=P.fin n3;cases tb with
 |bool bb=>
  refine⟨bb,o3,?_⟩;cases bb with
  |false=>
   cases hf;exact k _ H3 R2 NoA (P3.less fun _ z=>z.elim) rfl
  |true=>
   obtain⟨⟨t4,en4⟩,h4,hf⟩:=zaa.mp hf;obtain⟨t5,h5,hf⟩:=zab.mp hf;cases hf;have P30:=P3.less (F':=NoA) fun _ z=>z.elim;refine⟨Ox,en2,R2,t4,en4,P30.env0,h4,fun v4 H4 R4 F4 P4 o4=>?_⟩;have P34:=P30.after P4;rw[zbh]at P34;have oy3:Ow K (Own R2 Ox) H3 t2 0 y NoA:=Ow.mv (G:=NoA) ⟨fun a o q _=>n3.1 a o q,fun a z=>.inl z⟩ t2 (fun _ z=>z) oy;have oy4:Ow K (Own R4 Ox) H4 t2 0 y NoA:=by
    refine Ow.mv (G:=NoA) ⟨fun a o q z=>P4.keep a o q fun i zi=>?_,fun a z=>?_⟩ t2 (fun _ z=>z) oy3
    ·rcases z with z|z
     ·exact z (.inl ⟨i,zi⟩)
     ·exact z
    ·rcases z with z|z
     ·exact(P4.own a (.inr z)).imp .inl id
     ·exact .inl (.inr z)
   exact⟨Own R4 Ox,t2,t4,_,oy4,Ow.letgo P4 (fun _ z=>z) o4,P4.doms,h5,fun v5 H5 F5 n5 o5=>k v5 H5 R4 F5 (P34.fin n5) (mR▸o5)⟩
 |_=>cases hf
def xo{op':CmpOp}(ho:OpR X (compareOp op) (rF2 K g 3))(ho':OpR X (compareOp op') (rF2 K g' 3))(ha:PE X a (tF K p ds ds0 d1 f1))(hb:PE X b (tF K p ds0 ds1 d2 f2))(hc:PE X c (tF K p ds1 ds1 d3 f3))
  (hm:lastMarks [op,op'] [b,c]=false):PE X (.Compare a [op,op'] [b,c] pos) (tF K p ds ds1 3 (gQ g g' f1 f2 f3)):=(wB ho ho' ha hb hc hm).imp fun _ _ _=>Cb
abbrev MO:=En->Option (Option Int×En)
def tFO(K:zbQ)(p:Bool)(ds ds':List Nat)(f:MO):TO:=fun σ H Q=>∃Ox en R o en',EnvOk K ds Ox H σ en R/\f en=some (o,en')/\∀H' R',Post K p ds' Ox σ H en R en' H' R' NoA->Q o H'
def fF:MO:=fun en=>some (none,en)
def eD(f:ME):MO:=fun en=>(f en).bind fun r=>match r.1 with
 |.int i=>some (some i,r.2)
 |_=>none
def PO.imp{e:Option Expr}{t t':TO}(h:PO X e t)(hi:∀σ H Q,t' σ H Q->t σ H Q):PO X e t':=fun ρ s σ H Q I hw=>h ρ s σ H Q I (hi _ _ _ hw)
def BQ:PO X none (tFO K p ds ds fF):=po_none.imp fun σ H Q ⟨Ox,en,R,o,en',e,hf,k⟩=>by
 cases hf;exact k H R (Post.refl e)
def BP(h:PE X e (tF K p ds ds1 d f)):PO X (some e) (tFO K p ds ds1 (eD f)):=(Bf h).imp fun σ H Q ⟨Ox,en,R,o,en',e,hf,k⟩=>by
 unfold eD at hf;obtain⟨⟨t1,en1⟩,h1,hf⟩:=zaa.mp hf;refine⟨Ox,en,R,t1,en1,e,h1,fun v H' R' F P o=>?_⟩;cases t1 with
 |int i=>cases hf;exact⟨i,o,k H' R' (P.less fun _ z=>z.elim)⟩
 |_=>cases hf
def rFs(K:zbQ)(g:D->Option Int->Option Int->Option D)(d:Nat):V->Option Int->Option Int->Hp->VK->Prop:=fun x lo hi H Q=>∃(O:AS) (a t:D),Ow K O H a 0 x NoA/\(∀a,O a->∃o,H a=some o)/\g a lo hi=some t/\∀v H' F,NewTo H H' F->Ow K (U F O) H' t d v F->Q v H'
def eSl(g:D->Option Int->Option Int->Option D)(f:ME)(lo hi:MO):ME:=fun en=>(f en).bind fun r=>(lo r.2).bind fun l=>(hi l.2).bind fun h=>(g r.1 l.1 h.1).map fun t=>(t,h.2)
variable{lo hi:MO}
def Ow.past0{R2:Nat->AS}(P2:Post K p ds2 Ox σ H1 en1 R1 en2 H2 R2 F2)(h:Ow K (Own R1 Ox) H1 t 0 v NoA):Ow K (Own R2 Ox) H2 t 0 v NoA:=by
 refine Ow.mv (G:=NoA) ⟨fun a o q z=>P2.keep a o q fun i zi=>?_,fun a z=>?_⟩ t (fun _ z=>z) h
 ·rcases z with z|z
  ·exact z (.inl ⟨i,zi⟩)
  ·exact z
 ·rcases z with z|z
  ·exact(P2.own a (.inr z)).imp .inl id
  ·exact .inl (.inr z)
def Ib{g:D->Option Int->Option Int->Option D}(h:tF K p ds ds3 d (eSl g f lo hi) σ H Q):tSl (rFs K g d) (tF K p ds ds1 d1 f) (tFO K p ds1 ds2 lo) (tFO K p ds2 ds3 hi) σ H Q:=by
 obtain⟨Ox,en,R,t,en',e,hf,k⟩:=h;unfold eSl at hf;obtain⟨⟨t1,en1⟩,h1,hf⟩:=zaa.mp hf;obtain⟨⟨l,en2⟩,h2,hf⟩:=zaa.mp hf;obtain⟨⟨u,en3⟩,h3,hf⟩:=zaa.mp hf;obtain⟨t',h4,hf⟩:=zab.mp hf;cases hf;refine⟨Ox,en,R,t1,en1,e,h1,fun v H1 R1 F1 P1 o1=>?_⟩;have o0:=Ow.letgo P1 (fun _ z=>z) o1;refine⟨Ox,en1,R1,l,en2,P1.env0,h2,fun H2 R2 P2=>?_⟩;refine⟨Ox,en2,R2,u,en3,P2.env0,h3,fun H3 R3 P3=>?_⟩;have P:=(P1.after P2).after P3;rw[zbh,zbh]at P;exact⟨Own R3 Ox,t1,t,(o0.past0 P2).past0 P3,P3.doms,h4,fun v4 H4 F4 n4 o4=>k v4 H4 R3 F4 (P.fin n4) (mR▸o4)⟩
def SlR.imp{r r':V->Option Int->Option Int->Hp->VK->Prop}(h:SlR X r)(hi:∀x lo hi H Q,r' x lo hi H Q->r x lo hi H Q):SlR X r':=fun ρ s σ H x v vl vu lo hi' sl Q I rx hs pl pu q=>h ρ s σ H x v vl vu lo hi' sl Q I rx hs pl pu (hi _ _ _ _ _ q)
def xh{g:D->Option Int->Option Int->Option D}{elo ehi:Option Expr}(hr:SlR X (rFs K g d))(he:PE X e (tF K p ds ds1 d1 f))(hl:PO X elo (tFO K p ds1 ds2 lo))(hu:PO X ehi (tFO K p ds2 ds3 hi)):PE X (.Subscript e (.Slice elo ehi none p2) pos) (tF K p ds ds3 d (eSl g f lo hi)):=
 (wz hr he hl hu).imp fun _ _ _=>Ib
def bJ{α:Type}(xs:List α)(lo hi:Option Int):List α:=(xs.drop (HT.sIx xs.length 0 lo)).take (HT.sIx xs.length xs.length hi-HT.sIx xs.length 0 lo)
def io:D->Option Int->Option Int->Option D
 |.list ts,lo,hi=>some (.list (bJ ts lo hi))
 |_,_,_=>none
def gD(hK:X.K=K):SlR X (rFs K io 1):=(HS hK).imp fun x lo hi H Q ⟨O,a,t,oa,hd,hg,k⟩=>by
 cases a with
 |list ts=>
  cases hg;obtain⟨a,vs,e1,f1,w1⟩:=oa.lst0;refine⟨a,vs,e1,f1.sq,fun p hp=>?_⟩;have w2:Ows K O H (bJ ts lo hi) 0 (iF vs lo hi) NoA:=by
   unfold bJ iF;rw[w1.len];exact(w1.drop _).take _
  exact k _ _ _ (cJ hp hd w2).1 (cJ hp hd w2).2
 |_=>cases hg
def Jk:D->Option Int->Option Int->Option D
 |.str z,lo,hi=>grd (z.length<=sizeLine) (.str ⟨(Il z.cps.toList lo hi).toArray⟩)
 |_,_,_=>none
end
def kEq:D->D->Bool
 |.int a,.int b=>a==b
 |.str a,.str b=>a==b
 |_,_=>false
def kOf:D->Option Key
 |.int i=>some (.inl i)
 |.str x=>some (.inr x)
 |_=>none
def EL{a:D}{q:Key}{F:AS}(h:kOf a=some q)(o:Ow K O H a d v F):v=kV q:=by
 cases a with
 |int i=>cases h;exact o
 |str i=>cases h;exact o
 |_=>cases h
def pr(ks:List (D×D))(q:D):Option D:=(ks.find? fun kv=>kEq kv.1 q).map (·.2)
def Gk(ks:List (D×D))(q t:D):List (D×D):=if ks.any (fun kv=>kEq kv.1 q)then ks.map (fun kv=>if kEq kv.1 q then(kv.1,t)else kv)else ks++[(q,t)]
def noT:List (D×D)->Bool
 | (.tuple _,_)::_=>false
 | (.none,_)::_=>false
 |_=>true
def PrD.hd(h:PrD O H rd ks):noT ks=false/\∀q,pr ks (kD q)=none:=by
 obtain⟨kvs,_,_,rfl,_⟩:=h;refine⟨rfl,fun q=>?_⟩;unfold pr;rw[List.find?_eq_none.mpr fun x hx=>?_]
 ·rfl
 ·rcases zay.mp hx with rfl|hx
  ·cases q<;>exact zbk
  ·obtain⟨y,_,rfl⟩:=zaz.mp hx;cases q<;>exact zbk
def Ow.dict0(hk:noT ks=true)(h:Ow K O H (.dict ks) 0 v NoA):∃a vs,v=.ref a/\Rd H a (.dK vs)/\Owd K O H ks 0 vs NoA:=by
 obtain⟨a,vs,e,⟨_,h1,_,h2⟩|⟨z,_⟩|⟨_,⟨h1,_⟩|⟨cn,C,h1,_⟩⟩|⟨z,_⟩⟩:=h
 ·exact⟨a,vs,e,h1,h2⟩
 ·exact absurd rfl z
 ·rw[h1.hd.1]at hk;cases hk
 ·rw[h1]at hk;cases hk
 ·cases z
def kP:ME:=eC (.dict [])
def Jj:D->D->Option D
 |.dict ks,q=>(kOf q).bind fun _=>pr ks q
 |_,_=>none
section
variable{a c k:Expr}      
def B6:PE X (.Dict [] [] pos) (tF K p ds ds 3 kP):=pe_dnewK.imp fun σ H Q ⟨Ox,en,R,t,en',e,hf,k⟩=>by
 cases hf;intro l hl;have n:NewTo H (upd H l (.dK [])) (fun b=>b=l):=bq hl;exact k (.ref l) _ R _ (Post.new e n.1 n.2) ⟨l,[],rfl,.inr (.inl ⟨by decide,ax,rfl,NoA,fun _ z=>z.elim,rfl⟩)⟩
def j7(i:Nat)(f:ME):ME:=fun en=>(en[i]?).join.bind fun _=>(f en).bind fun r=>match (r.2[i]?).join with
 |some (.dict ks)=>(kOf r.1).bind fun _=>(pr ks r.1).map fun t=>(t,r.2)
 |_=>none
def PC.imp{t t':TE}(h:PC X op a b t)(hi:∀σ H Q,t' σ H Q->t σ H Q):PC X op a b t':=fun ρ s σ H Q I hw=>h ρ s σ H Q I (hi _ _ _ hw)
def sP(i:Nat)(fk fe:ME):MS:=fun en=>(fe en).bind fun r=>match (r.2[i]?).join with
 |some _=>(fk r.2).bind fun q=>match (q.2[i]?).join with
  |some (.dict ks)=>(kOf q.1).bind fun _=>if ks.length<sizeLine then some (.nx (q.2.set i (some (.dict (Gk ks q.1 r.1)))))else none
  |_=>none
 |none=>none
end
def evP:List (ME×ME)->En->Option (List (D×D)×En)
 |[],en=>some ([],en)
 | (fk,fv)::r,en=>(fk en).bind fun x=>(fv x.2).bind fun y=>(evP r y.2).bind fun z=>(kOf x.1).map fun _=>((x.1,y.1)::z.1,z.2)
def EU(ks:List (D×D)):List (D×D):=ks.foldl (fun acc kv=>Gk acc kv.1 kv.2) []
def HD(fs:List (ME×ME)):ME:=fun en=>(evP fs en).bind fun r=>if r.1.length<=15 then some (.dict (EU r.1),r.2)else none
section
variable{a c k:Expr}         
def Jb(i j:Nat)(fa:MA):MS:=fun en=>(fa en).bind fun r=>match r.1 with
 |[.inl a,.inl b]=>some (.nx ((r.2.set i (some a)).set j (some b)))
 |_=>none
end
section
variable{ws:List V}{x:V} 
def ve:List D->Option (List Int)
 |[]=>some []
 |.int i::r=>(ve r).map (i::·)
 |_::_=>none
def Ja:List D->Option D
 |[.list ts]=>(ve ts).map fun ns=>.int ns.sum
 |_=>none
end
section
variable{ws:List V}{b:Addr}
def pA(ts us:List D):List D:=List.zipWith (fun x y=>.tuple [x,y]) ts us
def IU(fa:MA):MI:=fun en=>(fa en).bind fun r=>match r.1 with
 |[.inl (.list ts),.inl (.list us)]=>some (pA ts us,r.2)
 |_=>none
end
def eM(g:Str->List D->Option D)(f:ME)(fa:MA):ME:=fun en=>(f en).bind fun r=>match r.1 with
 |.str z=>(fa r.2).bind fun q=>(vals q.1).bind fun ts=>(g z ts).map fun t=>(t,q.2)
 |_=>none
def IT:Str->List D->Option D
 |sep,[.list ts]=>(strsOf ts).bind fun ys=>if sep.length<=16/\(ys.map (·.length)).sum+ys.length<=1048576 then some (.str (Txt.join sep ys))else none
 |sep,[.tuple ts]=>(strsOf ts).bind fun ys=>if sep.length<=16/\(ys.map (·.length)).sum+ys.length<=1048576 then some (.str (Txt.join sep ys))else none
 |_,_=>none
where strsOf:List D->Option (List Str)
 |[]=>some []
 |.str z::r=>(strsOf r).map (z::·)
 |_::_=>none
def Iw:Str->List D->Option D
 |z,[.str y]=>some (.bool (Txt.startswith z y))
 |_,_=>none
def IX:Str->List D->Option D
 |z,[.str y]=>some (.bool (Txt.endswith z y))
 |_,_=>none
section
variable{s:Shared} 
mutual
theorem Ow.reads(I:Inv X ρ σ H s):∀(t:D) {v:V} {u:Value},ak t=true->Ow X.K O H t 0 v NoA->RelV v u->∃as,Reads s.heap u t as
 |.none,_,_,_,h,r=>by
  cases(show _=V.non from h);cases r;exact⟨_,.none⟩
 |.bool b,_,_,_,h,r=>by
  cases(show _=V.bl b from h);cases r;exact⟨_,.bool _⟩
 |.int i,_,_,_,h,r=>by
  cases(show _=V.int i from h);obtain⟨t,rfl⟩:=r;exact⟨_,.int _ _⟩
 |.str x,_,_,_,h,r=>by
  cases(show _=V.str x from h);obtain⟨t,rfl⟩:=r;exact⟨_,.str _ _⟩
 |.list ts,_,_,hn,h,r=>by
  obtain⟨p,vs,rfl,fz,w⟩:=h.lst0;cases r;obtain⟨its,rv,⟨o,n,e1,e2,_,e3⟩,_⟩:=I.list fz.sq;obtain⟨as,ra⟩:=Ows.reads I ts (by simpa[ak]using hn) w rv;exact⟨_,.list e1 e2 e3 (by simpa using ra)⟩
 |.tuple ts,_,_,hn,h,r=>by
  obtain⟨p,vs,rfl,fz,w⟩:=h.tup0;cases r;obtain⟨its,rv,⟨o,e1,e2,n,e3⟩,_⟩:=I.tuple fz.sq;obtain⟨as,ra⟩:=Ows.reads I ts (by simpa[ak]using hn) w rv;exact⟨_,.tuple e1 e2 e3 (by simpa using ra)⟩
 |.dict _,_,_,hn,_,_=>by simp[ak]at hn
theorem Ows.reads(I:Inv X ρ σ H s):∀(ts:List D) {vs:List V} {us:List Value},aD ts=true->Ows X.K O H ts 0 vs NoA->Vals vs us->∃as,ReadsAll s.heap us ts as
 |[],_,_,_,h,r=>by
  cases(show _=[]from h);cases r;exact⟨_,.nil⟩
 |t::ts,_,_,hn,h,r=>by
  obtain⟨v,q,F1,F2,e,_,_,_,h4,h5⟩:=h;subst e;have hn':ak t=true/\aD ts=true:=by simpa[aD]using hn
  cases r with
  |cons ru rr=>
   obtain⟨as,a1⟩:=Ow.reads I t hn'.1 (Ow.any0 t h4) ru;obtain⟨bs,a2⟩:=Ows.reads I ts hn'.2 (Ows.any0 ts h5) rr;exact⟨_,.cons a1 a2⟩
end
end
section
open PySem.SeqAt Classical
variable{s:Shared} 
noncomputable def eqF(X:Cx)(O:AS)(H:Hp)(a:D)(u:Value):Bool:=decide (∃d v,RelV v u/\ak d=true/\Ow X.K O H d 0 v NoA/\peq d a=true)
def vK(I:Inv X ρ σ H s){a d:D}{u:Value}(r:RelV v u)(hn:ak d=true)(o:Ow X.K O H d 0 v NoA):eqF X O H a u=peq d a:=by
 unfold eqF;cases h:peq d a with
 |true=>exact zaB ⟨d,v,r,hn,o,h⟩
 |false=>
  refine zaA fun⟨d',v',r',hn',o',h'⟩=>?_;have e:=r.inj r';subst e
  have:=Ow.inj I d d' o o' hn;subst this;rw[h]at h';cases h'
theorem iU(I:Inv X ρ σ H s){a:D}:∀{ts:List D} {vs:List V} {us:List Value},aD ts=true->Ows X.K O H ts 0 vs NoA->Vals vs us->us.any (eqF X O H a)=ts.any fun t=>peq t a
 |[],_,_,_,h,r=>by
  cases(show _=[]from h);cases r;rfl
 |t::ts,_,_,hn,h,r=>by
  obtain⟨v,q,F1,F2,e,_,_,_,h4,h5⟩:=h;subst e;have hn':ak t=true/\aD ts=true:=by simpa[aD]using hn
  cases r with
  |cons ru rr=>rw[List.any_cons,List.any_cons,vK I ru hn'.1 (Ow.any0 t h4),iU I hn'.2 (Ows.any0 ts h5) rr]
theorem iP(I:Inv X ρ σ H s){A:Around}{a:D}{x:V}{v:Value}(hna:ak a=true)(oa:Ow X.K O H a 0 x NoA)(ra:RelV x v)(hu:A.units+60+1<cLine):∀{ts:List D} {vs:List V} {us:List Value},aD ts=true->aS ts<=60->Ows X.K O H ts 0 vs NoA->Vals vs us->∀u∈us,EqAt A s u v (eqF X O H a u)
 |[],_,_,_,_,h,r=>by
  cases(show _=[]from h);cases r;exact fun u hu=>by cases hu
 |t::ts,_,_,hn,hdp,h,r=>by
  obtain⟨w,q,F1,F2,e,_,_,_,h4,h5⟩:=h;subst e;have hn':ak t=true/\aD ts=true:=by simpa[aD]using hn
  have hd':aQ t<=60/\aS ts<=60:=by simp only[aS]at hdp;omega
  cases r with
  |cons ru rr=>
   intro u' hu';rcases zay.mp hu' with rfl|hu'
   ·rw[vK I ru hn'.1 (Ow.any0 t h4)];exact(mz I 60 t a A w x _ v hd'.1 hn'.1 hna (Ow.any0 t h4) oa ru ra hu).1
   ·exact iP I hna oa ra hu hn'.2 hd'.2 (Ows.any0 ts h5) rr u' hu'
def inL:D->D->Option D
 |x,.list ts=>grd (ak x=true/\aD ts=true/\aS ts<=60) (.bool (ts.any fun t=>peq t x))
 |x,.tuple ts=>grd (ak x=true/\aD ts=true/\aS ts<=60) (.bool (ts.any fun t=>peq t x))
 |_,_=>none
def p9:D->D->Option D
 |x,.list ts=>grd (ak x=true/\aD ts=true/\aS ts<=60) (.bool (!ts.any fun t=>peq t x))
 |x,.tuple ts=>grd (ak x=true/\aD ts=true/\aS ts<=60) (.bool (!ts.any fun t=>peq t x))
 |_,_=>none
def xb(hK:X.K=K)(hu:X.A.units+64<cLine):OpR X (compareOp .NotIn) (rF2 K p9 3):=by
 subst hK;intro ρ s σ H x y v u Q I rx ry ⟨O,a,b,t,oa,ob,hd,hg,k⟩;have hu1:X.A.in1.units+60+1<cLine:=by show X.A.units+1+60+1<cLine;omega
 cases b with
 |list ts=>
  obtain⟨⟨c1,c2,c3⟩,rfl⟩:=bH hg;obtain⟨p,vs,rfl,fz,w⟩:=ob.lst0;cases ry;obtain⟨its,r,pl,hz⟩:=I.list fz.sq;refine SeqAt.notIn_listAt (eqF X O H a) pl.isList (fun z hz=>iP I c1 oa rx hu1 c2 c3 w r z (by simpa using hz)) ⟨.bl _,H,I,rfl,?_⟩;rw[show its.toArray.any (eqF X O H a)=its.any (eqF X O H a)by simp,iU I c2 w r];exact k _ H NoA .refl rfl
 |tuple ts=>
  obtain⟨⟨c1,c2,c3⟩,rfl⟩:=bH hg;obtain⟨p,vs,rfl,fz,w⟩:=ob.tup0;cases ry;obtain⟨its,r,pl,hz⟩:=I.tuple fz.sq;refine SeqAt.notIn_tupleAt (eqF X O H a) pl (fun z hz=>iP I c1 oa rx hu1 c2 c3 w r z (by simpa using hz)) ⟨.bl _,H,I,rfl,?_⟩;rw[show its.toArray.any (eqF X O H a)=its.any (eqF X O H a)by simp,iU I c2 w r];exact k _ H NoA .refl rfl
 |_=>cases hg
end
def dns:Nat->Nat->Nat
 |0,d=>d
 |m+1,d=>dns m (dn d)
theorem qD:∀m,dns m 0=0
 |0=>rfl
 |m+1=>qD m
def vN{m:Nat}(h:dns m d≠0):d≠0:=fun z=>h (by rw[z];exact qD m)
def bf:D->List Nat->Option D
 |t,[]=>some t
 |.list ts,k::π=>(ts[k]?).bind fun u=>bf u π
 |.tuple ts,k::π=>(ts[k]?).bind fun u=>bf u π
 |_,_::_=>none
def bF:D->List Nat->D->D
 |_,[],u=>u
 |.list ts,k::π,u=>.list (ts.set k ((ts[k]?).elim .none fun c=>bF c π u))
 |.tuple ts,k::π,u=>.tuple (ts.set k ((ts[k]?).elim .none fun c=>bF c π u))
 |t,_::_,_=>t
def PathV(H:Hp):V->List Nat->V->Prop
 |v,[],w=>v=w
 |v,k::π,w=>∃a vs u,v=.ref a/\(H a=some (.lst vs)\/H a=some (.tup vs))/\vs[k]?=some u/\PathV H u π w
theorem PathV.mono{H H':Hp}(hk:∀a o,H a=some o->H' a=some o):∀{π:List Nat} {v w:V},PathV H v π w->PathV H' v π w
 |[],_,_,h=>h
 |_::_,_,_,⟨a,vs,u,e,h1,h2,h3⟩=>⟨a,vs,u,e,h1.imp (hk _ _) (hk _ _),h2,h3.mono hk⟩
theorem PathV.det{H:Hp}:∀{π:List Nat} {v w w':V},PathV H v π w->PathV H v π w'->w=w'
 |[],_,_,_,h,g=>h.symm.trans g
 |_::_,_,_,_,⟨a,vs,u,e,h1,h2,h3⟩,⟨a',vs',u',e',g1,g2,g3⟩=>by
  rw[e]at e';cases e'
  have:vs=vs':=by
   rcases h1 with h1|h1<;>rcases g1 with g1|g1<;>rw[h1]at g1<;>cases g1<;>rfl
  subst this;rw[h2]at g2;cases g2;exact h3.det g3
theorem PathV.snoc{H:Hp}{a:Addr}{vs:List V}{u:V}{k:Nat}(h1:H a=some (.lst vs)\/H a=some (.tup vs))(h2:vs[k]?=some u):∀{π:List Nat} {v:V},PathV H v π (.ref a)->PathV H v (π++[k]) u
 |[],_,h=>⟨a,vs,u,h,h1,h2,rfl⟩
 |_::_,_,⟨a',vs',u',e,g1,g2,g3⟩=>⟨a',vs',u',e,g1,g2,PathV.snoc h1 h2 g3⟩
theorem Ows.zoom{d:Nat}:∀{ts:List D} {vs:List V} {F:AS} {k:Nat} {u:D},Ows K O H ts d vs F->ts[k]?=some u ->
  ∃w,∃F1 F2:AS,vs[k]?=some w/\(∀b,F1 b->F b)/\(∀b,F2 b->F b)/\(∀b,F1 b->¬F2 b)/\Ow K O H u d w F1 /\
   ∀(O':AS) (H':Hp) (u':D) (G:AS),Mv O O' F2 H H'->(∀b,G b->¬F2 b)->Ow K O' H' u' d w G->Ows K O' H' (ts.set k u') d vs (fun b=>F2 b\/G b)
 |[],_,_,k,u,_,h=>by simp at h
 |t::ts,_,F,k,u,h,hk=>by
  obtain⟨v,r,F1,F2,e,s1,s2,s3,h4,h5⟩:=h;subst e;cases k with
  |zero=>
   have:t=u:=by simpa using hk
   subst this;refine⟨v,F1,F2,rfl,s1,s2,s3,h4,fun O' H' u' G m hd o=>?_⟩;exact⟨v,r,G,F2,rfl,fun _ z=>.inr z,fun _ z=>.inl z,hd,o,Ows.mv m ts (fun _ z=>z) h5⟩
  |succ k=>
   obtain⟨w,G1,G2,g1,g2,g3,g4,g5,g6⟩:=Ows.zoom (k:=k) h5 (by simpa using hk);refine⟨w,G1,fun b=>F1 b\/G2 b,by simpa using g1,fun b z=>s2 b (g2 b z),fun b z=>z.elim (s1 b) fun z=>s2 b (g3 b z),fun b z z2=>?_,g5,fun O' H' u' G m hd o=>?_⟩
   ·rcases z2 with z2|z2
    ·exact s3 b z2 (g2 b z)
    ·exact g4 b z z2
   ·refine⟨v,r,F1,fun b=>G2 b\/G b,rfl,fun b z=>.inl (.inl z),fun b z=>z.imp .inr id,fun b z z2=>?_,Ow.mv ⟨m.k,m.o⟩ t (fun b z=>.inl z) h4,g6 O' H' u' G ⟨fun a o q z=>m.k a o q (z.imp id .inr),m.o⟩ (fun b z z2=>hd b z (.inr z2)) o⟩;rcases z2 with z2|z2
    ·exact s3 b z (g3 b z2)
    ·exact hd b z2 (.inl z)
theorem Ow.zoom:∀{π:List Nat} {t u:D} {d:Nat} {v:V} {F:AS},Ow K O H t d v F->bf t π=some u->dns π.length d≠0 ->
  ∃w,∃F1 Fr:AS,PathV H v π w/\(∀b,F1 b->F b)/\(∀b,Fr b->F b)/\(∀b,F1 b->¬Fr b)/\Ow K O H u (dns π.length d) w F1 /\
   ∀(O':AS) (H':Hp) (u':D) (G:AS),Mv O O' Fr H H'->(∀b,G b->¬Fr b)->Ow K O' H' u' (dns π.length d) w G->Ow K O' H' (bF t π u') d v (fun b=>Fr b\/G b)
 |[],t,u,d,v,F,h,hp,hz=>by
  cases hp;refine⟨v,F,NoA,rfl,fun _ z=>z,fun _ z=>z.elim,fun _ _ z=>z,h,fun O' H' u' G m hd o=>?_⟩;have e:(fun b=>NoA b\/G b)=G:=dN fun b=>⟨fun z=>z.elim (fun z=>z.elim) id,.inr⟩;rw[e];exact o
 |k::π,t,u,d,v,F,h,hp,hz=>by
  have hz1:dns π.length (dn d)≠0:=hz;have hd0:d≠0:=vN (m:=π.length+1) hz;cases t with
  |list ts=>
   obtain⟨c,p1,p2⟩:=zaa.mp hp;obtain⟨a,vs,e,⟨h0,_⟩|⟨_,h1,h2,F',hf,h3⟩⟩:=h
   ·exact absurd h0 hd0
   obtain⟨w,G1,G2,g1,g2,g3,g4,g5,g6⟩:=h3.zoom p1;obtain⟨w2,F1,Fr,q1,q2,q3,q4,q5,q6⟩:=Ow.zoom g5 p2 hz1;refine⟨w2,F1,fun b=>b=a\/G2 b\/Fr b,⟨a,vs,w,e,.inl h1,g1,q1⟩,fun b z=>(hf b (g2 b (q2 b z))).1,fun b z=>?_,fun b z z2=>?_,q5,fun O' H' u' G m hd o=>?_⟩
   ·rcases z with z|z|z
    ·rw[z];exact h2
    ·exact(hf b (g3 b z)).1
    ·exact(hf b (g2 b (q3 b z))).1
   ·rcases z2 with z2|z2|z2
    ·exact(hf b (g2 b (q2 b z))).2 z2
    ·exact g4 b (q2 b z) z2
    ·exact q4 b z z2
   ·have o1:=q6 O' H' u' G ⟨fun x y q z=>m.k x y q (z.imp id fun z=>.inr (.inr z)),m.o⟩ (fun b z z2=>hd b z (.inr (.inr z2))) o;have o2:=g6 O' H' (bF c π u') (fun b=>Fr b\/G b) ⟨fun x y q z=>m.k x y q (z.imp id fun z=>.inr (.inl z)),m.o⟩ (fun b z z2=>?_) o1
    ·refine⟨a,vs,e,.inr ⟨hd0,m.k _ _ h1 (.inr (.inl rfl)),.inl (.inl rfl),fun b=>G2 b\/Fr b\/G b,fun b z=>?_,?_⟩⟩
     ·rcases z with z|z|z
      ·exact⟨.inl (.inr (.inl z)),(hf b (g3 b z)).2⟩
      ·exact⟨.inl (.inr (.inr z)),(hf b (g2 b (q3 b z))).2⟩
      ·exact⟨.inr z,fun ze=>hd b z (.inl ze)⟩
     ·rw[p1];exact o2
    ·rcases z with z|z
     ·exact g4 b (q3 b z) z2
     ·exact hd b z (.inr (.inl z2))
  |tuple ts=>
   obtain⟨c,p1,p2⟩:=zaa.mp hp;obtain⟨a,vs,e,⟨h0,_⟩|⟨_,h1,h2,F',hf,h3⟩⟩:=h
   ·exact absurd h0 hd0
   obtain⟨w,G1,G2,g1,g2,g3,g4,g5,g6⟩:=h3.zoom p1;obtain⟨w2,F1,Fr,q1,q2,q3,q4,q5,q6⟩:=Ow.zoom g5 p2 hz1;refine⟨w2,F1,fun b=>b=a\/G2 b\/Fr b,⟨a,vs,w,e,.inr h1,g1,q1⟩,fun b z=>(hf b (g2 b (q2 b z))).1,fun b z=>?_,fun b z z2=>?_,q5,fun O' H' u' G m hd o=>?_⟩
   ·rcases z with z|z|z
    ·rw[z];exact h2
    ·exact(hf b (g3 b z)).1
    ·exact(hf b (g2 b (q3 b z))).1
   ·rcases z2 with z2|z2|z2
    ·exact(hf b (g2 b (q2 b z))).2 z2
    ·exact g4 b (q2 b z) z2
    ·exact q4 b z z2
   ·have o1:=q6 O' H' u' G ⟨fun x y q z=>m.k x y q (z.imp id fun z=>.inr (.inr z)),m.o⟩ (fun b z z2=>hd b z (.inr (.inr z2))) o;have o2:=g6 O' H' (bF c π u') (fun b=>Fr b\/G b) ⟨fun x y q z=>m.k x y q (z.imp id fun z=>.inr (.inl z)),m.o⟩ (fun b z z2=>?_) o1
    ·refine⟨a,vs,e,.inr ⟨hd0,m.k _ _ h1 (.inr (.inl rfl)),.inl (.inl rfl),fun b=>G2 b\/Fr b\/G b,fun b z=>?_,?_⟩⟩
     ·rcases z with z|z|z
      ·exact⟨.inl (.inr (.inl z)),(hf b (g3 b z)).2⟩
      ·exact⟨.inl (.inr (.inr z)),(hf b (g2 b (q3 b z))).2⟩
      ·exact⟨.inr z,fun ze=>hd b z (.inl ze)⟩
     ·rw[p1];exact o2
    ·rcases z with z|z
     ·exact g4 b (q3 b z) z2
     ·exact hd b z (.inr (.inl z2))
  |_=>cases hp
abbrev MP:=En->Option (List Nat×En)
def tP(K:zbQ)(p:Bool)(ds ds':List Nat)(i m:Nat)(mp:MP):TE:=fun σ H Q=>
 ∃Ox en R π en',EnvOk K ds Ox H σ en R/\mp en=some (π,en')/\∀v w H' R',Post K p ds' Ox σ H en R en' H' R' NoA->π.length=m->σ[i]?=some (some v)->PathV H' v π w->Q w H'
def je(i:Nat):MP:=fun en=>((en[i]?).join).map fun _=>([],en)
def pIx(i:Nat)(mp:MP)(f:ME):MP:=fun en=>(mp en).bind fun r=>(f r.2).bind fun q=>match q.1,(q.2[i]?).join with
 |.int n,some t=>(bf t r.1).bind fun u=>match u with
  |.list ts=>(ixN ts.length n).bind fun k=>if k<ts.length then some (r.1++[k],q.2)else none
  |.tuple ts=>(ixN ts.length n).bind fun k=>if k<ts.length then some (r.1++[k],q.2)else none
  |_=>none
 |_,_=>none
section
variable{m:Nat}{mp:MP} 
def Gd(h:tP K true ds ds i 0 (je i) σ H Q):eA i σ H Q:=by
 obtain⟨Ox,en,R,π,en',e,hf,k⟩:=h;unfold je at hf;obtain⟨t,h1,h2⟩:=zab.mp hf;cases h2;obtain⟨v,d,a1,_,_⟩:=e.at_ i t (aK h1);exact⟨v,a1,k v v H R (Post.refl e) rfl a1 rfl⟩
def Hs(hpu:p2=true\/m=0)(hd:ds2[i]?=some d)(hz:dns m d≠0)(h:tP K (p1&&p2) ds ds2 i (m+1) (pIx i mp f) σ H Q):tOp (rIx K) (tP K p1 ds ds1 i m mp) (tF K p2 ds1 ds2 d1 f) σ H Q:=by
 obtain⟨Ox,en,R,π,en',e,hf,k⟩:=h;unfold pIx at hf;obtain⟨⟨π0,en1⟩,h1,hf⟩:=zaa.mp hf;obtain⟨⟨t1,en2⟩,h2,hf⟩:=zaa.mp hf
 dsimp only at hf
 split at hf
 case h_2=>cases hf
 next n t h3=>
 obtain⟨u,h4,hf⟩:=zaa.mp hf;refine⟨Ox,en,R,π0,en1,e,h1,fun v w H1 R1 P1 hl hv pv=>?_⟩;refine⟨Ox,en1,R1,.int n,en2,P1.env0,h2,fun y H2 R2 F P2 o=>?_⟩;have ey:y=.int n:=o;subst ey;have P:=P1.after P2;obtain⟨v',d',b1,b2,b3⟩:=P.env.at_ i t (aK h3);rw[hv]at b1;cases b1;rw[hd]at b2;cases b2;have pv2:PathV H2 v π0 w:=by
  rcases hpu with hp|hm
  ·exact pv.mono (P2.pure hp).2.2
  ·have e0:π0=[]:=za4.mp (hl.trans hm);subst e0;exact pv
 obtain⟨w2,F1,Fr,q1,q2,q3,q4,q5,_⟩:=b3.zoom h4 (by rw[hl];exact hz);have ew:=pv2.det q1;subst ew;rw[hl]at q5;cases u with
 |list ts=>
  obtain⟨kk,h5,hf⟩:=zaa.mp hf;by_cases hk:kk<ts.length
  case neg=>rw[if_neg hk]at hf;cases hf
  rw[if_pos hk]at hf;cases hf;obtain⟨a,vs,ea,ha,_,F',_,ow⟩:=q5.ownL hz;obtain⟨x,g1,_⟩:=ow.get (zak hk);refine .inl ⟨a,vs,n,x,ea,rfl,SqL.of ha,by unfold atI;rw[ow.len,h5];exact g1,?_⟩;subst ea;exact k v x H2 R2 (P.less fun _ z=>z.elim) (by rw[zae,hl];rfl) hv (PathV.snoc (.inl ha) g1 q1)
 |tuple ts=>
  obtain⟨kk,h5,hf⟩:=zaa.mp hf;by_cases hk:kk<ts.length
  case neg=>rw[if_neg hk]at hf;cases hf
  rw[if_pos hk]at hf;cases hf;obtain⟨a,vs,ea,⟨h0,_⟩|⟨_,ha,_,F',_,ow⟩⟩:=q5
  ·exact absurd h0 hz
  obtain⟨x,g1,_⟩:=ow.get (zak hk);refine .inr (.inl ⟨a,vs,n,x,ea,rfl,SqT.of ha,by unfold atI;rw[ow.len,h5];exact g1,?_⟩);subst ea;exact k v x H2 R2 (P.less fun _ z=>z.elim) (by rw[zae,hl];rfl) hv (PathV.snoc (.inr ha) g1 q1)
 |_=>cases hf
def BN(hN:X.N[i]?=some x)(hv:Vis X.env.scope x)(hd:(x==("__debug__":Str))=false)(hcd:(x==("__classdict__":Str))=false):PE X (.Name x px) (tP K true ds ds i 0 (je i)):=
 (cf hN hv hd hcd).imp fun _ _ _=>Gd
def FG(hK:X.K=K)(hd:ds2[i]?=some d)(ho:PE X o (tP K p1 ds ds1 i m mp))(hb:PE X b (tF K p2 ds1 ds2 d1 f))(hz:dns m d≠0)(hpu:p2=true\/m=0)(hs:dw b):PE X (.Subscript o b pos) (tP K (p1&&p2) ds ds2 i (m+1) (pIx i mp f)):=by
 subst hK;exact(l5 ix_seq ho hb hs).imp fun _ _ _=>Hs hpu hd hz
def Post.place{F:AS}{π:List Nat}{w:V}(P:Post K p ds1 Ox σ H en R en1 H1 R1 F)(hi:en1[i]?=some (some t))(hv:σ[i]?=some (some v))(hd:ds1[i]?=some d)(hg:bf t π=some (.list ts))(hz:dns π.length d≠0)(pv:PathV H1 v π w):
  ∃l vs,∃F1:AS,w=.ref l/\H1 l=some (.lst vs)/\R1 i l/\(∀b,F1 b->R1 i b/\b≠l)/\Ows K (Own R1 (U F Ox)) H1 ts (dn (dns π.length d)) vs F1 /\
   ∀(ts':List D) (vs':List V) (G:AS),(∀b,G b->F1 b\/F b)->(∀O',(∀a,O' a->Own R1 (U F Ox) a)->Ows K O' (upd H1 l (.lst vs')) ts' (dn (dns π.length d)) vs' G) ->
    ∃R',Post K false ds1 Ox σ H en R (en1.set i (some (bF t π (.list ts')))) (upd H1 l (.lst vs')) R' NoA:=by
 obtain⟨v',d',b1,b2,b3⟩:=P.env.at_ i t hi;rw[hv]at b1;cases b1;rw[hd]at b2;cases b2;obtain⟨w2,F1,Fr,q1,q2,q3,q4,q5,q6⟩:=b3.zoom hg hz;have ew:=pv.det q1;subst ew;obtain⟨l,vs,el,hl,hr,F',hf',ow⟩:=q5.ownL hz;refine⟨l,vs,F',el,hl,q2 l hr,fun b z=>⟨q2 b (hf' b z).1,(hf' b z).2⟩,ow,fun ts' vs' G hG hO=>?_⟩;have ξ:i<en1.length:=(zah.mp hi).1;have gl:∀b,F b->b≠l:=fun b z ze=>by
  subst ze;exact P.env.dx i b (q2 b hr) (.inl z)
 have gG:∀a,(fun b=>Fr b\/(b=l\/G b)) a->R1 i a\/F a:=fun a z=>by
  rcases z with z|z|z
  ·exact .inl (q3 a z)
  ·rw[z];exact .inl (q2 l hr)
  ·rcases hG a z with z|z
   ·exact .inl (q2 a (hf' a z).1)
   ·exact .inr z
 have sub:=mQ (i:=i) (R1:=R1) (Ox:=Ox) (G:=fun b=>Fr b\/(b=l\/G b)) (F':=NoA) (F:=F) gG (fun _ z=>z.elim);have Ol:Own R1 (U F Ox) l:=.inl ⟨i,q2 l hr⟩;refine⟨_,P.slot (G:=fun b=>Fr b\/(b=l\/G b)) (q2 l hr) ξ hv hd gG (fun _ z=>z.elim) (fun _ _ z=>z) ?_⟩;refine q6 _ _ (.list ts') (fun b=>b=l\/G b) ⟨fun a o q z=>?_,fun a z=>.inl (sub a z)⟩ (fun b z z2=>?_) ?_
 ·rw[au]
  ·exact q
  ·intro za;subst za;rcases z with z|z
   ·exact z Ol
   ·exact q4 a hr z
 ·rcases z with z|z
  ·rw[z]at z2;exact q4 l hr z2
  ·rcases hG b z with z|z
   ·exact q4 b (hf' b z).1 z2
   ·exact P.env.dx i b (q3 b z2) (.inl z)
 ·refine⟨l,vs',el,.inr ⟨hz,ax,.inl rfl,G,fun b z=>⟨.inr z,?_⟩,hO _ sub⟩⟩;rcases hG b z with z|z
  ·exact(hf' b z).2
  ·exact gl b z
def IY(i:Nat)(mp:MP)(f:ME):ME:=fun en=>(mp en).bind fun r=>match (r.2[i]?).join with
 |some t=>(bf t r.1).bind fun u=>match u with
  |.list ts=>(f r.2).bind fun q=>if ts.length<sizeLine then some (.none,q.2.set i (some (bF t r.1 (.list (ts++[q.1])))))else none
  |_=>none
 |none=>none
def ii(i:Nat)(mp:MP)(fk fe:ME):MS:=fun en=>(fe en).bind fun r=>(mp r.2).bind fun w=>(fk w.2).bind fun q=>match q.1,(q.2[i]?).join with
 |.int n,some t=>(bf t w.1).bind fun u=>match u with
  |.list ts=>(ixN ts.length n).map fun k=>.nx (q.2.set i (some (bF t w.1 (.list (ts.set k r.1)))))
  |_=>none
 |_,_=>none
def BG{D:Ends}(hpu:p2=true\/m=0)(hd:ds2[i]?=some d)(hz:dns m d≠0)(hc:dn (dns m d)=c)(h:tFS K J ds ds2 (ii i mp fk fe) D σ H):
  i7 (tF K p ds ds0 c fe) (tT (tP K p1 ds0 ds1 i m mp) (tF K p2 ds1 ds2 d2 fk) pf) D σ H:=by
 obtain⟨Ox,en,R,fl,e,hf,k⟩:=h;unfold ii at hf;obtain⟨⟨t1,en1⟩,h1,hf⟩:=zaa.mp hf;obtain⟨⟨π,en2⟩,h2,hf⟩:=zaa.mp hf;obtain⟨⟨t3,en3⟩,h3,hf⟩:=zaa.mp hf
 dsimp only at hf
 split at hf
 case h_2=>cases hf
 next n t h4=>
 obtain⟨u,h5,hf⟩:=zaa.mp hf;cases u with
 |list ts=>
  obtain⟨kk,h6,hf⟩:=zab.mp hf;cases hf;refine⟨Ox,en,R,t1,en1,e,h1,fun x H1 R1 F1 P1 o1=>?_⟩;refine⟨U F1 Ox,en1,R1,π,en2,P1.env,h2,fun v w H2 R2 P2 hl hv pv=>?_⟩;have P12:=P1.trans P2;have o12:=Ow.over P1.env P2 o1;have e0:U F1 NoA=F1:=dN fun a=>⟨fun z=>z.elim id fun z=>z.elim,.inl⟩;rw[e0]at P12 o12;refine⟨U F1 Ox,en2,R2,.int n,en3,P12.env,h3,fun y H3 R3 F3 P3 o3=>?_⟩;have P:=P12.trans P3;have o1':=Ow.over P12.env P3 o12;have ey:y=.int n:=o3;subst ey;subst hl;have pv3:PathV H3 v π w:=by
   rcases hpu with hp|hm
   ·exact pv.mono (P3.pure hp).2.2
   ·have e0:π=[]:=za4.mp hm;subst e0;exact pv
  obtain⟨l,vs,G1,el,hl1,hr,hf1,ow,fin⟩:=P.place (aK h4) hv hd h5 hz pv3;subst el;refine⟨l,vs,n,kk,rfl,rfl,hl1,by rw[ow.len];exact h6,?_⟩;have Fn:∀a,F1 a->a≠l:=fun a z z2=>by
   subst z2;exact P.env.dx i a hr (.inl (.inl z))
  have Ol:Own R3 (U (U F1 F3) Ox) l:=.inl ⟨i,hr⟩;obtain⟨R',PF⟩:=fin (ts.set kk t1) (vs.set kk x) (U G1 F1) (fun _ z=>z.imp id .inl) fun O' ho=>by
   refine Ows.setAt (Ows.past ho Ol (fun b z=>(hf1 b z).2) ow) ?_ fun b z1 z2=>P.env.dx i b (hf1 b z1).1 (.inl (.inl z2));rw[hc];exact Ow.past ho Ol Fn o1'
  exact k σ _ _ PF.s
 |_=>cases hf
def w6{k:Expr}(hd:ds2[i]?=some d)(he:PE X e (tF K p ds ds0 c fe))(ho:PE X o (tP K p1 ds0 ds1 i m mp))(hk:PE X k (tF K p2 ds1 ds2 d2 fk))(hz:dns m d≠0)(hc:dn (dns m d)=c)(hpu:p2=true\/m=0)
  (ha:∀v,assign (.Subscript o k ζ) X.env v=(do
   let ov <-holding [v] (eval o X.env);let iv <-holding [v,ov] (eval k X.env)
   standAt ζ
   holding [v,ov,iv] (setItem ov iv v)
   release [v,ov,iv] []))
  (hs:swapsWithSole [.Subscript o k ζ] e pos.line X.env=pure false) (hw:swappedStores [.Subscript o k ζ] e X.env=pure none)
  (h2:(assignEach [.Subscript o k ζ] X.env).map (·.2)=[assign (.Subscript o k ζ) X.env]):
  PS X (.Assign [.Subscript o k ζ] e pos) (tFS K J ds ds2 (ii i mp fk fe)):=
 (pT he (pV ho hk ls ha) hs hw h2).imp fun _ _ _=>BG hpu hd hz hc
end
def tD(f:Nat->Str):Nat->List Str
 |0=>[]
 |i+1=>if(tD f i).any (·==f i)=true then tD f i else tD f i++[f i]
section
variable{s:Shared}
def GH(z:Str)(i:Nat):Str:=match z.cps[i]? with
 |some c=>mk1 c
 |none=>""
end
section
variable{k:Expr}{pos2 py:Pos}
def uJ(h:∀v H,Q v H->Q' v H):tF K p ds ds1 d f σ H Q->tF K p ds ds1 d f σ H Q'
 |⟨Ox,en,R,t,en',e,hf,k⟩=>⟨Ox,en,R,t,en',e,hf,fun v H' R' F P o=>h _ _ (k v H' R' F P o)⟩
def IE:D->Option D
 |.str z=>grd (z.length<4000) (.int (tD (GH z) z.length).length)
 |_=>none
def Je:D->D->Option D
 |.list ts,.int (-1)=>some (.list ts.reverse)
 |_,_=>none
def lZ:D->D->Option D
 |.tuple ts,.int (-1)=>some (.tuple ts.reverse)
 |_,_=>none
def IP:D->D->Option D
 |.str z,.int (-1)=>grd (z.length<=sizeLine) (.str ⟨z.cps.toList.reverse.toArray⟩)
 |_,_=>none
def B3(hK:X.K=K)(he:PE X e (tF K p ds ds1 d1 f1))(hk:PE X k (tF K p ds1 ds2 d2 f2)):PE X (.Subscript e (.Slice none none (some k) pos2) pos) (tF K p ds ds2 0 (e2 lZ f1 f2)):=by
 refine(wM hK he hk).imp fun σ H Q h=>?_;refine uJ (fun x H1 h1=>uJ (fun y H2 h2=>?_) h1) (my (by rw[zbh];exact h));obtain⟨O,a,b,t,oa,ob,hd,hg,q⟩:=h2;unfold lZ at hg;split at hg
 ·cases hg;obtain⟨a,vs,rfl,fz,w⟩:=oa.tup0;exact⟨a,vs,rfl,ob,fz.sq,fun l hl=>q _ _ _ (dm hl hd w.rev).1 (dm hl hd w.rev).2⟩
 ·cases hg
def IG(fa:MA):MI:=fun en=>(fa en).bind fun r=>match r.1 with
 |[.inl (.str x),.inl (.str y)]=>some (pA (lW x) (lW y),r.2)
 |_=>none
def isB:D->D->Option D
 |.bool a,.bool b=>some (.bool (a==b))
 |_,_=>none
end
section
variable{a:Expr}{ta tb:TE}{rest:List Expr}
def Ik:D->Option Int->Option Int->Option D
 |.tuple ts,lo,hi=>grd (¬(HT.sIx ts.length 0 lo=0/\HT.sIx ts.length ts.length hi=ts.length)) (.tuple (bJ ts lo hi))
 |_,_,_=>none
def FJ(hK:X.K=K):SlR X (rFs K Ik 0):=(HR hK).imp fun x lo hi H Q ⟨O,a,t,oa,hd,hg,k⟩=>by
 cases a with
 |tuple ts=>
  obtain⟨c,rfl⟩:=bH hg;obtain⟨a,vs,e1,f1,w1⟩:=oa.tup0;refine⟨a,vs,e1,f1.sq,by rw[w1.len];exact c,fun p hp=>?_⟩;have w2:Ows K O H (bJ ts lo hi) 0 (iF vs lo hi) NoA:=by
   unfold bJ iF;rw[w1.len];exact(w1.drop _).take _
  exact k _ _ _ (dm hp hd w2).1 (dm hp hd w2).2
 |_=>cases hg
def HJ:D->Option Bool
 |.none=>some false
 |.bool b=>some b
 |.list ts=>some (!ts.isEmpty)
 |.tuple ts=>some (!ts.isEmpty)
 |_=>none
def Ji(f g:ME):ME:=fun en=>(f en).bind fun r=>(HJ r.1).bind fun c=>if c then some r else g r.2
end
end L2
namespace L2
variable{A:Around}{s:Shared}{l m:Addr}{X:Cx}{e:Nat->Bool}{K:zbQ}
open PySem PySem.Spec PyProof.Rows PySem.SeqAt PySem.MeetsSeq
def qH(l:Addr)(es:Array DictEntry)(n:Nat)(dd:Option Addr)(sl:Array (Option Value))(b:Bool):
  Meets (Builtin.«dict.__eq__» ⟨[.ref l,.bool b],[]⟩) (fun _ R s=>s.heap.get? l=some { cls:=.type "dict",dict:=dd,data:=.dict es n,slots:=sl }/\R (.ok (.ret .notImplemented)) s):=
 .of_wp fun prog w A R s h=>by
  obtain⟨hp,g,d,tk,os⟩:=s;obtain⟨hl,h⟩:=h;have f1:=F.sub_bool_dict;unfold Builtin.«dict.__eq__»
  wp_walk using wpAny_loadPart' hl
  exact⟨_,rfl,h⟩
def qF(l:Addr)(es:Array DictEntry)(n:Nat)(dd:Option Addr)(sl:Array (Option Value))(b:Bool):
  Meets (Builtin.«dict.__ne__» ⟨[.ref l,.bool b],[]⟩) (fun _ R s=>s.heap.get? l=some { cls:=.type "dict",dict:=dd,data:=.dict es n,slots:=sl }/\R (.ok (.ret .notImplemented)) s):=
 .of_wp fun prog w A R s h=>by
  obtain⟨hp,g,d,tk,os⟩:=s;obtain⟨hl,h⟩:=h;have f1:=F.sub_bool_dict;unfold Builtin.«dict.__ne__»
  wp_walk using wpAny_loadPart' hl
  exact⟨_,rfl,h⟩
def qO(l:Addr)(es:Array DictEntry)(n:Nat)(dd:Option Addr)(sl:Array (Option Value))(b:Bool):
  Meets (Builtin.«int.__eq__» ⟨[.bool b,.ref l],[]⟩) (fun _ R s=>s.heap.get? l=some { cls:=.type "dict",dict:=dd,data:=.dict es n,slots:=sl }/\R (.ok (.ret .notImplemented)) s):=
 .of_wp fun prog w A R s h=>by
  obtain⟨hp,g,d,tk,os⟩:=s;obtain⟨hl,h⟩:=h
  wp_walk using wpAny_loadPart' hl,wpAny_load hl
  exact⟨_,rfl,h⟩
def qN(l:Addr)(es:Array DictEntry)(n:Nat)(dd:Option Addr)(sl:Array (Option Value))(b:Bool):
  Meets (Builtin.«int.__ne__» ⟨[.bool b,.ref l],[]⟩) (fun _ R s=>s.heap.get? l=some { cls:=.type "dict",dict:=dd,data:=.dict es n,slots:=sl }/\R (.ok (.ret .notImplemented)) s):=
 .of_wp fun prog w A R s h=>by
  obtain⟨hp,g,d,tk,os⟩:=s;obtain⟨hl,h⟩:=h
  wp_walk using wpAny_loadPart' hl,wpAny_load hl
  exact⟨_,rfl,h⟩
def jE:isSubtype (.type "dict") (.type "dict")=pure true:=by rw[isSubtype_type];kernel_rfl
def qG(l m:Addr)(n n2:Nat)(dd dd2:Option Addr)(sl sl2:Array (Option Value))(hl0:(l==sysModules)=false)(hm0:(m==sysModules)=false):
  Meets (Builtin.«dict.__eq__» ⟨[.ref l,.ref m],[]⟩) (fun _ R s=>s.heap.get? l=some { cls:=.type "dict",dict:=dd,data:=.dict #[] n,slots:=sl }/\s.heap.get? m=some { cls:=.type "dict",dict:=dd2,data:=.dict #[] n2,slots:=sl2 }/\R (.ok (.ret (.bool true))) s):=
 .of_wp fun prog w A R s h=>by
  obtain⟨hp,g,d,tk,os⟩:=s;obtain⟨hl,hm,h⟩:=h;have f1:=jE;unfold Builtin.«dict.__eq__»
  wp_walk using wpAny_loadPart' hl,wpAny_loadPart' hm
  first
   | (with_unfolding_all exact zaT (zaT (zaT ⟨_,rfl,h⟩)))
   | (with_unfolding_all exact zaT (zaT ⟨_,rfl,h⟩))
   | (with_unfolding_all exact zaT ⟨_,rfl,h⟩)
def qE(l m:Addr)(n n2:Nat)(dd dd2:Option Addr)(sl sl2:Array (Option Value))(hl0:(l==sysModules)=false)(hm0:(m==sysModules)=false):
  Meets (Builtin.«dict.__ne__» ⟨[.ref l,.ref m],[]⟩) (fun _ R s=>s.heap.get? l=some { cls:=.type "dict",dict:=dd,data:=.dict #[] n,slots:=sl }/\s.heap.get? m=some { cls:=.type "dict",dict:=dd2,data:=.dict #[] n2,slots:=sl2 }/\R (.ok (.ret (.bool false))) s):=
 .of_wp fun prog w A R s h=>by
  obtain⟨hp,g,d,tk,os⟩:=s;obtain⟨hl,hm,h⟩:=h;have f1:=jE;unfold Builtin.«dict.__ne__»
  wp_walk using wpAny_loadPart' hl,wpAny_loadPart' hm
  first
   | (with_unfolding_all exact zaT (zaT (zaT ⟨_,rfl,h⟩)))
   | (with_unfolding_all exact zaT (zaT ⟨_,rfl,h⟩))
   | (with_unfolding_all exact zaT ⟨_,rfl,h⟩)
def MtD(s:Shared)(l:Addr):Prop:=(l==sysModules)=false/\∃n dd sl,s.heap.get? l=some { cls:=.type "dict",dict:=dd,data:=.dict #[] n,slots:=sl }
def RcAt.dict_bool(b:Bool)(h0:MtD s l)(hu:A.units<cLine):RcAt A s (.ref l) (.bool b) false:=fun prog w E Q h=>by
 obtain⟨h1,n,dd,sl,ho⟩:=h0;exact rc_eq_decline_or (k:=false) ⟨_,ho,rfl⟩ rfl (by decide) F.sub_bool_dict F.slot_dict_eq F.slot_bool_eq_refl
  (fun _ hq=>call_meets F.slot_dict_eq ⟨_,ho,rfl⟩ F.entry_dict_eq (F.args_dict_eq_2 _ _) (qH l #[] n dd sl b) ⟨ho,hq⟩)
  (fun _ hq=>call_meets F.slot_bool_eq_refl rfl F.entry_int_eq (F.args_int_eq_2 _ _) (qO l #[] n dd sl b) ⟨ho,hq⟩)
  (fun _ hq=>wpAny_of_eq (rfl:isSame (.ref l) (.bool b)=pure false) hq) (.inr hu) h
def RcNeAt.dict_bool(b:Bool)(h0:MtD s l)(hu:A.units<cLine):RcNeAt A s (.ref l) (.bool b) true:=fun prog w E Q h=>by
 obtain⟨h1,n,dd,sl,ho⟩:=h0;exact rc_ne_decline_or (k:=false) ⟨_,ho,rfl⟩ rfl (by decide) F.sub_bool_dict F.slot_dict_ne F.slot_bool_ne_refl
  (fun _ hq=>call_meets F.slot_dict_ne ⟨_,ho,rfl⟩ F.entry_dict_ne (F.args_dict_ne_2 _ _) (qF l #[] n dd sl b) ⟨ho,hq⟩)
  (fun _ hq=>call_meets F.slot_bool_ne_refl rfl F.entry_int_ne (F.args_int_ne_2 _ _) (qN l #[] n dd sl b) ⟨ho,hq⟩)
  (fun _ hq=>wpAny_of_eq (rfl:isSame (.ref l) (.bool b)=pure false) hq) (.inr hu) h
def EqAt.dict_bool{l:Addr}(b:Bool)(h0:MtD s l)(hu:A.units<cLine):EqAt A s (.ref l) (.bool b) false:=fun prog w E Q h=>by
 unfold eqBool;refine zbM ?_;refine wpAny_ite_split (fun hab=>absurd (eq_of_beq hab) nofun) (fun _=>?_);exact zam (RcAt.dict_bool b h0 hu prog w E _ (zbw h))
def RcAt.dict_dict(h0:MtD s l)(h1:MtD s m)(hu:A.units<cLine):RcAt A s (.ref l) (.ref m) true:=fun prog w E Q h=>by
 obtain⟨hl0,n,dd,sl,ho⟩:=h0;obtain⟨hm0,n2,dd2,sl2,ho2⟩:=h1;exact richCompare_meets_room (op:=.Eq) ⟨_,ho,rfl⟩ ⟨_,ho2,rfl⟩ F.slot_dict_eq F.entry_dict_eq (F.args_dict_eq_2 _ _) (qG l m n n2 dd dd2 sl sl2 hl0 hm0)
  ⟨ho,ho2,show Value.bool true≠Value.notImplemented/\Q (.bool true) s from⟨(fun x=>nomatch x),h⟩⟩ hu
def RcNeAt.dict_dict(h0:MtD s l)(h1:MtD s m)(hu:A.units<cLine):RcNeAt A s (.ref l) (.ref m) false:=fun prog w E Q h=>by
 obtain⟨hl0,n,dd,sl,ho⟩:=h0;obtain⟨hm0,n2,dd2,sl2,ho2⟩:=h1;exact richCompare_meets_room (op:=.NotEq) ⟨_,ho,rfl⟩ ⟨_,ho2,rfl⟩ F.slot_dict_ne F.entry_dict_ne (F.args_dict_ne_2 _ _) (qE l m n n2 dd dd2 sl sl2 hl0 hm0)
  ⟨ho,ho2,show Value.bool false≠Value.notImplemented/\Q (.bool false) s from⟨(fun x=>nomatch x),h⟩⟩ hu
def EqAt.dict_dict{l m:Addr}(h0:MtD s l)(h1:MtD s m)(hu:A.units<cLine):EqAt A s (.ref l) (.ref m) true:=by
 by_cases hp:l=m
 ·subst hp;exact EqAt.same _
 ·exact EqAt.of_refs hp (RcAt.dict_dict h0 h1 hu)
mutual
def aM:D->D->Option Bool
 |.list a,.list b=>if a.length=b.length then bV a b else some false
 |.tuple a,.tuple b=>if a.length=b.length then bV a b else none
 |.dict [],.dict []=>some true
 |.dict [],.bool _=>some false
 |.none,b=>if ak b=true then some (peq .none b)else none
 |.bool x,b=>if ak b=true then some (peq (.bool x) b)else none
 |.int x,b=>if ak b=true then some (peq (.int x) b)else none
 |.str x,b=>if ak b=true then some (peq (.str x) b)else none
 |.list x,b=>if ak (.list x)=true/\ak b=true then some (peq (.list x) b)else none
 |.tuple x,b=>if ak (.tuple x)=true/\ak b=true then some (peq (.tuple x) b)else none
 |.dict _,_=>none
def bV:List D->List D->Option Bool
 |[],[]=>some true
 |a::r,b::s=>match aM a b,bV r s with
  |some x,some y=>some (x&&y)
  |_,_=>none
 |_,_=>none
end
theorem iq:∀{a b:List D} {k:Bool},bV a b=some k->∃e:Nat->Bool,(∀j x y,a[j]?=some x->b[j]?=some y->aM x y=some (e j))/\(List.range a.length).all e=k
 |[],[],k,h=>by
  simp only[bV,Option.some.injEq]at h;subst h;exact⟨fun _=>true,fun j x y h1=>by simp at h1,rfl⟩
 |a::r,b::s,k,h=>by
  rw[bV]at h;cases h1:aM a b with
  |none=>rw[h1]at h;cases h
  |some u=>
   cases h2:bV r s with
   |none=>rw[h1,h2]at h;cases h
   |some v=>
    rw[h1,h2]at h;obtain⟨e,he,hk⟩:=iq h2;refine⟨fun j=>match j with|0=>u|i+1=>e i,fun j x y g1 g2=>?_,?_⟩
    ·cases j with
     |zero=>simp at g1 g2;subst g1 g2;exact h1
     |succ i=>exact he i x y (by simpa using g1) (by simpa using g2)
    ·rw[zac,iV];show(u&&(List.range r.length).all e)=k;rw[hk];exact zat h
 |[],_::_,_,h=>by simp[bV]at h
 |_::_,[],_,h=>by simp[bV]at h
def gw{a b:D}{k:Bool}(h:aM a b=some k):
  (∃p q,a=.list p/\b=.list q/\((p.length=q.length/\bV p q=some k)\/(p.length≠q.length/\k=false)))\/(∃p q,a=.tuple p/\b=.tuple q/\p.length=q.length/\bV p q=some k) \/
  (a=.dict []/\b=.dict []/\k=true)\/(∃c,a=.dict []/\b=.bool c/\k=false)\/(ak a=true/\ak b=true/\k=peq a b):=by
 have fin:∀{a b:D},ak a=true->(if ak b=true then some (peq a b)else none)=some k->ak a=true/\ak b=true/\k=peq a b:=fun {a b} h1 h2=>by
  by_cases hb:ak b=true
  ·rw[if_pos hb]at h2;exact⟨h1,hb,(zat h2).symm⟩
  ·rw[if_neg hb]at h2;cases h2
 have fin2:∀{a b:D},(if ak a=true/\ak b=true then some (peq a b)else none)=some k->ak a=true/\ak b=true/\k=peq a b:=fun {a b} h2=>by
  by_cases hb:ak a=true/\ak b=true
  ·rw[if_pos hb]at h2;exact⟨hb.1,hb.2,(zat h2).symm⟩
  ·rw[if_neg hb]at h2;cases h2
 cases a with
 |none=>exact .inr (.inr (.inr (.inr (fin rfl (by simpa only[aM]using h)))))
 |bool c=>exact .inr (.inr (.inr (.inr (fin rfl (by simpa only[aM]using h)))))
 |int c=>exact .inr (.inr (.inr (.inr (fin rfl (by simpa only[aM]using h)))))
 |str c=>exact .inr (.inr (.inr (.inr (fin rfl (by simpa only[aM]using h)))))
 |list p=>
  cases b with
  |list q=>
   rw[aM]at h;by_cases hl:p.length=q.length
   ·rw[if_pos hl]at h;exact .inl ⟨p,q,rfl,rfl,.inl ⟨hl,h⟩⟩
   ·rw[if_neg hl]at h;exact .inl ⟨p,q,rfl,rfl,.inr ⟨hl,(zat h).symm⟩⟩
  |none=>exact .inr (.inr (.inr (.inr (fin2 (by simpa only[aM]using h)))))
  |bool c=>exact .inr (.inr (.inr (.inr (fin2 (by simpa only[aM]using h)))))
  |int c=>exact .inr (.inr (.inr (.inr (fin2 (by simpa only[aM]using h)))))
  |str c=>exact .inr (.inr (.inr (.inr (fin2 (by simpa only[aM]using h)))))
  |tuple c=>exact .inr (.inr (.inr (.inr (fin2 (by simpa only[aM]using h)))))
  |dict c=>exact .inr (.inr (.inr (.inr (fin2 (by simpa only[aM]using h)))))
 |tuple p=>
  cases b with
  |tuple q=>
   rw[aM]at h;by_cases hl:p.length=q.length
   ·rw[if_pos hl]at h;exact .inr (.inl ⟨p,q,rfl,rfl,hl,h⟩)
   ·rw[if_neg hl]at h;cases h
  |none=>exact .inr (.inr (.inr (.inr (fin2 (by simpa only[aM]using h)))))
  |bool c=>exact .inr (.inr (.inr (.inr (fin2 (by simpa only[aM]using h)))))
  |int c=>exact .inr (.inr (.inr (.inr (fin2 (by simpa only[aM]using h)))))
  |str c=>exact .inr (.inr (.inr (.inr (fin2 (by simpa only[aM]using h)))))
  |list c=>exact .inr (.inr (.inr (.inr (fin2 (by simpa only[aM]using h)))))
  |dict c=>exact .inr (.inr (.inr (.inr (fin2 (by simpa only[aM]using h)))))
 |dict ks=>
  cases ks with
  |cons x r=>cases b<;>simp[aM]at h
  |nil=>
   cases b with
   |dict qs=>
    cases qs with
    |nil=>exact .inr (.inr (.inl ⟨rfl,rfl,by simpa[aM]using h.symm⟩))
    |cons x r=>simp[aM]at h
   |bool c=>exact .inr (.inr (.inr (.inl ⟨c,rfl,rfl,by simpa[aM]using h.symm⟩)))
   |none=>simp[aM]at h
   |int c=>simp[aM]at h
   |str c=>simp[aM]at h
   |list c=>simp[aM]at h
   |tuple c=>simp[aM]at h
section
variable{ρ:List (Addr×Obj)}{σ:St}{H:Hp}{O:AS}
def mtD(I:Inv X ρ σ H s){x:V}{v:Value}(h:Ow X.K O H (.dict []) 0 x NoA)(r:RelV x v):∃a,x=.ref a/\v=.ref a/\MtD s a:=by
 obtain⟨a,vs,rfl,⟨_,ha,_,g2⟩|⟨z,_⟩|⟨_,⟨z,_⟩|⟨_,_,z,_⟩⟩|⟨z,_⟩⟩:=h
 ·have e:vs=[]:=g2;subst e;cases r;obtain⟨_,hsys,us,kv,dd⟩:=kQ I.hok ha;have hv:us=[]:=za4.mp (KV.length kv).symm;subst hv;obtain⟨⟨cls,dd,data,sl⟩,es,n,g1,g2,g3,_,g5,_⟩:=dd;have h0:es=#[]:=by
   have h0:es.toList=[]:=by
    generalize es.toList=L at g5;cases g5;rfl
   simpa using h0
  have g4:=g2.1;simp only at g4 g3;subst h0 g4 g3;exact⟨a,rfl,rfl,hsys,n,dd,sl,g1⟩
 ·exact absurd rfl z
 ·cases z.hd.1
 ·cases z
 ·cases z
def Ck{n:Nat}(h:∀j,j<n->e j=true):(List.range n).all e=true:=by
 rw[List.all_eq_true];intro j hj;exact h j (zbn.mp hj)
def Aw(I:Inv X ρ σ H s):∀(n:Nat) (a b:D) {x:V} {k:Bool},aQ a<=n->Ow X.K O H a 0 x NoA->Ow X.K O H b 0 x NoA->aM a b=some k->k=true:=by
 have nd:∀(a b:D) {x:V} {k:Bool},ak a=true->k=peq a b->Ow X.K O H a 0 x NoA->Ow X.K O H b 0 x NoA->k=true:=fun a b {x k} h1 h2 o1 o2=>by
  rw[h2,<-Ow.inj I a b o1 o2 h1,gK a h1]
 have db:∀(c:Bool) {x:V},Ow X.K O H (.dict []) 0 x NoA->Ow X.K O H (.bool c) 0 x NoA->False:=fun c {x} h g=>by
  obtain⟨a,vs,rfl,_⟩:=h;cases(show V.ref a=V.bl c from g)
 intro n
 induction n with
 |zero=>
  intro a b x k hd o1 o2 h;rcases gw h with⟨p,q,rfl,_⟩|⟨p,q,rfl,_⟩|⟨_,_,rfl⟩|⟨c,rfl,rfl,_⟩|⟨h1,_,h2⟩
  ·simp[aQ]at hd
  ·simp[aQ]at hd
  ·rfl
  ·exact(db c o1 o2).elim
  ·exact nd a b h1 h2 o1 o2
 |succ n ih=>
  have its:∀(p q:List D) (vs:List V) (k:Bool),aS p<=n->Ows X.K O H p 0 vs NoA->Ows X.K O H q 0 vs NoA->bV p q=some k->k=true:=fun p q vs k hd w1 w2 hc=>by
   obtain⟨e,he,hk⟩:=iq hc;rw[<-hk];refine Ck fun j hj=>?_;have m1:=w1.len;have m2:=w2.len;have e1:p[j]?=some p[j]:=zak hj;have e2:q[j]?=some (q[j]'(by omega)):=zak (by omega);obtain⟨x,g1,q1⟩:=w1.get e1;obtain⟨y,g2,q2⟩:=w2.get e2;rw[g1]at g2;cases g2;exact ih _ _ (zau (ef e1) hd) q1 q2 (he j _ _ e1 e2)
  intro a b x k hd o1 o2 h;rcases gw h with⟨p,q,rfl,rfl,h1⟩|⟨p,q,rfl,rfl,_,h1⟩|⟨_,_,rfl⟩|⟨c,rfl,rfl,_⟩|⟨h1,_,h2⟩
  ·have hd':aS p<=n:=by simp only[aQ]at hd;omega
   obtain⟨a1,vs,rfl,fz,w1⟩:=o1.lst0;obtain⟨a2,vs2,e,fz2,w2⟩:=o2.lst0;cases e
   have:=I.list_inj fz.sq fz2.sq;subst this;rcases h1 with⟨_,h1⟩|⟨h1,_⟩
   ·exact its p q vs k hd' w1 w2 h1
   ·have m1:=w1.len;have m2:=w2.len;omega
  ·have hd':aS p<=n:=by simp only[aQ]at hd;omega
   obtain⟨a1,vs,rfl,fz,w1⟩:=o1.tup0;obtain⟨a2,vs2,e,fz2,w2⟩:=o2.tup0;cases e
   have:=fz.1.symm.trans fz2.1;cases this;exact its p q vs k hd' w1 w2 h1
  ·rfl
  ·exact(db c o1 o2).elim
  ·exact nd a b h1 h2 o1 o2
def n9{ts us:List D}{vs ws:List V}{its ν:List Value}(w:Ows X.K O H ts 0 vs NoA)(w2:Ows X.K O H us 0 ws NoA)(rv:Vals vs its)(rv2:Vals ws ν)
  (ih:∀(j:Nat) a b x y v u,ts[j]?=some a->us[j]?=some b->Ow X.K O H a 0 x NoA->Ow X.K O H b 0 y NoA->RelV x v->RelV y u->EqAt A s v u (e j)):
  ∀j (h1:j<its.toArray.size) (h2:j<ν.toArray.size),EqAt A s its.toArray[j] ν.toArray[j] (e j):=fun j h1 h2=>by
 have h1':j<its.length:=by simpa using h1
 have h2':j<ν.length:=by simpa using h2
 have l1:=rv.length;have l2:=rv2.length;have m1:=w.len;have m2:=w2.len;have e1:ts[j]?=some ts[j]:=zak (by omega);have e2:us[j]?=some us[j]:=zak (by omega);obtain⟨x,g1,o1⟩:=w.get e1;obtain⟨y,g2,o2⟩:=w2.get e2;obtain⟨u1,f1,q1⟩:=rv.get g1;obtain⟨u2,f2,q2⟩:=rv2.get g2;have z:=ih j _ _ x y u1 u2 e1 e2 o1 o2 q1 q2;rw[zak h1']at f1;rw[zak h2']at f2;have i1:its.toArray[j]=u1:=by simpa using zat f1
 have i2:ν.toArray[j]=u2:=by simpa using zat f2
 rw[i1,i2];exact z
def Gj(I:Inv X ρ σ H s):∀(n:Nat) (a b:D) (A:Around) (x y:V) (v u:Value) (k:Bool),aQ a<=n->aM a b=some k->Ow X.K O H a 0 x NoA->Ow X.K O H b 0 y NoA->RelV x v->RelV y u->A.units+n+1<cLine ->
  EqAt A s v u k/\RcAt A s v u k/\RcNeAt A s v u (!k):=by
 have dd:∀(A:Around) (x y:V) (v u:Value),Ow X.K O H (.dict []) 0 x NoA->Ow X.K O H (.dict []) 0 y NoA->RelV x v->RelV y u->A.units<cLine->EqAt A s v u true/\RcAt A s v u true/\RcNeAt A s v u (!true):=fun A x y v u o1 o2 r1 r2 hu=>by
  obtain⟨a,_,rfl,m1⟩:=mtD I o1 r1;obtain⟨b,_,rfl,m2⟩:=mtD I o2 r2;exact⟨EqAt.dict_dict m1 m2 hu,RcAt.dict_dict m1 m2 hu,RcNeAt.dict_dict m1 m2 hu⟩
 have db:∀(c:Bool) (A:Around) (x y:V) (v u:Value),Ow X.K O H (.dict []) 0 x NoA->Ow X.K O H (.bool c) 0 y NoA->RelV x v->RelV y u->A.units<cLine->EqAt A s v u false/\RcAt A s v u false/\RcNeAt A s v u (!false):=fun c A x y v u o1 o2 r1 r2 hu=>by
  obtain⟨a,_,rfl,m1⟩:=mtD I o1 r1;cases(show y=V.bl c from o2);cases r2;exact⟨EqAt.dict_bool c m1 hu,RcAt.dict_bool c m1 hu,RcNeAt.dict_bool c m1 hu⟩
 intro n
 induction n with
 |zero=>
  intro a b A x y v u k hd h o1 o2 r1 r2 hun;rcases gw h with⟨p,q,rfl,_⟩|⟨p,q,rfl,_⟩|⟨rfl,rfl,rfl⟩|⟨c,rfl,rfl,rfl⟩|⟨h1,h3,h2⟩
  ·simp[aQ]at hd
  ·simp[aQ]at hd
  ·exact dd A x y v u o1 o2 r1 r2 (by omega)
  ·exact db c A x y v u o1 o2 r1 r2 (by omega)
  ·rw[h2];exact mz I 0 a b A x y v u hd h1 h3 o1 o2 r1 r2 hun
 |succ n ih=>
  intro a b A x y v u k hd h o1 o2 r1 r2 hun;have hu:A.units<cLine:=by omega
  have hu1:A.in1.units+n+1<cLine:=by
   have:A.in1.units=A.units+1:=rfl;omega
  have h0:=h;rcases gw h with⟨p,q,rfl,rfl,h1⟩|⟨p,q,rfl,rfl,hz,h1⟩|⟨rfl,rfl,rfl⟩|⟨c,rfl,rfl,rfl⟩|⟨h1,h3,h2⟩
  ·have dl:aS p<=n:=by simp only[aQ]at hd;omega
   obtain⟨p1,vs1,rfl,fz1,w1⟩:=o1.lst0;cases r1;obtain⟨y',rv1,pl1,_⟩:=I.list fz1.sq;have hl1:=pl1.isList;obtain⟨p2,vs2,rfl,fz2,w2⟩:=o2.lst0;cases r2;obtain⟨ν,rv2,pl2,_⟩:=I.list fz2.sq;have hl2:=pl2.isList;have l1:=rv1.length;have l2:=rv2.length;have m1:=w1.len;have m2:=w2.len;have rc:RcAt A s (.ref p1) (.ref p2) k/\RcNeAt A s (.ref p1) (.ref p2) (!k):=by
    rcases h1 with⟨hz,h1⟩|⟨hz,rfl⟩
    ·obtain⟨e,he,hk⟩:=iq h1;have el:=n9 (A:=A.in1) (e:=e) w1 w2 rv1 rv2 fun j a b x y v u e1 e2 q1 q2 q3 q4=>(ih a b A.in1 x y v u (e j) (zau (ef e1) dl) (he j a b e1 e2) q1 q2 q3 q4 hu1).1;have hs1:y'.toArray.size=ν.toArray.size:=by rw[zai,zai];omega
     have hs2:y'.toArray.size=p.length:=by rw[zai];omega
     have z1:=RcAt.lists hl1 hl2 hs1 hu el;have z2:=RcNeAt.lists hl1 hl2 hs1 hu el;rw[hs2,hk]at z1 z2;exact⟨z1,z2⟩
    ·have hs1:(y'.toArray.size != ν.toArray.size)=true:=by rw[zai,zai,bne_iff_ne];omega
     exact⟨RcAt.lists_lengths hl1 hl2 hs1 hu,RcNeAt.lists_lengths hl1 hl2 hs1 hu⟩
   refine⟨?_,rc.1,rc.2⟩;by_cases hp:p1=p2
   ·subst hp;rw[Aw I (n+1) _ _ hd o1 o2 h0];exact EqAt.same _
   ·exact EqAt.of_refs hp rc.1
  ·have dl:aS p<=n:=by simp only[aQ]at hd;omega
   obtain⟨p1,vs1,rfl,fz1,w1⟩:=o1.tup0;cases r1;obtain⟨y',rv1,pl1,_⟩:=I.tuple fz1.sq;have hl1:s.heap.IsTuple p1 y'.toArray:=pl1;obtain⟨p2,vs2,rfl,fz2,w2⟩:=o2.tup0;cases r2;obtain⟨ν,rv2,pl2,_⟩:=I.tuple fz2.sq;have hl2:s.heap.IsTuple p2 ν.toArray:=pl2;have l1:=rv1.length;have l2:=rv2.length;have m1:=w1.len;have m2:=w2.len;obtain⟨e,he,hk⟩:=iq h1;have el:=n9 (A:=A.in1) (e:=e) w1 w2 rv1 rv2 fun j a b x y v u e1 e2 q1 q2 q3 q4=>(ih a b A.in1 x y v u (e j) (zau (ef e1) dl) (he j a b e1 e2) q1 q2 q3 q4 hu1).1;have rc:RcAt A s (.ref p1) (.ref p2) k/\RcNeAt A s (.ref p1) (.ref p2) (!k):=by
    have z1:=RcAt.tuples hl1 hl2 hu el;have z2:=RcNeAt.tuples hl1 hl2 hu el;have ez:((List.range (min y'.toArray.size ν.toArray.size)).all e&&y'.toArray.size==ν.toArray.size)=k:=by
     rw[zai,zai];have h3:y'.length=ν.length:=by omega
     have h4:min y'.length ν.length=p.length:=by omega
     rw[h4,hk,h3,beq_self_eq_true,zbO]
    rw[ez]at z1 z2;exact⟨z1,z2⟩
   refine⟨?_,rc.1,rc.2⟩;by_cases hp:p1=p2
   ·subst hp;rw[Aw I (n+1) _ _ hd o1 o2 h0];exact EqAt.same _
   ·exact EqAt.of_refs hp rc.1
  ·exact dd A x y v u o1 o2 r1 r2 hu
  ·exact db c A x y v u o1 o2 r1 r2 hu
  ·rw[h2];exact mz I (n+1) a b A x y v u hd h1 h3 o1 o2 r1 r2 hun
end
def eqX(a b:D):Option D:=if aQ a<=60 then(aM a b).map .bool else none
def FI(hK:X.K=K)(hu:X.A.units+64<cLine):OpR X (compareOp .Eq) (rF2 K eqX 3):=by
 subst hK;intro ρ s σ H x y v u Q I rx ry ⟨O,a,b,t,oa,ob,hd,hg,k⟩;rw[eqX]at hg;by_cases c3:aQ a<=60
 ·rw[if_pos c3]at hg;obtain⟨q,hq,rfl⟩:=zab.mp hg;exact(Gj I 60 a b X.A x y v u q c3 hq oa ob rx ry (by omega)).2.1 X.prog X.w _ _ ⟨.bl _,H,I,rfl,k _ H NoA .refl rfl⟩
 ·rw[if_neg c3]at hg;cases hg
def lC:fillsNumberSlot (.type "tuple") "mul"=pure false:=by unfold fillsNumberSlot;kernel_rfl
def pO:seqRepeat? (.type "tuple")=pure (some (.builtin "tuple.__mul__")):=by unfold seqRepeat?;kernel_rfl
def ny(a:Int)(t:Tok)(l:Addr)(items:Array Value)(n:Nat)(d:Option Addr)(sl:Array (Option Value)):
  Meets (Builtin.«int.__rmul__» ⟨[.int a t,.ref l],[]⟩) (fun _ R s=>s.heap.get? l=some { cls:=.type "tuple",dict:=d,data:=.seq items n,slots:=sl }/\R (.ok (.ret .notImplemented)) s):=
 .of_wp fun prog w A R s h=>by
  obtain⟨hp,g,d,tk,os⟩:=s;obtain⟨hl,h⟩:=h
  wp_walk using wpAny_loadPart' hl,wpAny_load hl
  exact⟨_,rfl,h⟩
def m4(l:Addr)(items:Array Value)(n:Nat)(d:Option Addr)(sl:Array (Option Value))(x:Int)(u:Tok)(h0:¬(decide (x < -2 ^ 63) || decide (x >= 2 ^ 63))=true)(h1:(items.isEmpty || x==1)=true):
  Meets (Builtin.«tuple.__mul__» ⟨[.ref l,.int x u],[]⟩) (fun _ R s=>s.heap.get? l=some { cls:=.type "tuple",dict:=d,data:=.seq items n,slots:=sl }/\R (.ok (.ret (.ref l))) s):=
 .of_wp fun prog w A R s h=>by
  obtain⟨hp,g,d,tk,os⟩:=s;obtain⟨hl,h⟩:=h
  wp_walk using wpAny_loadPart' hl,wpAny_load hl
  rw[if_neg h0]
  wp_walk using wpAny_loadPart' hl,wpAny_load hl
  exact⟨_,rfl,h⟩
def oK(l:Addr)(items:Array Value)(n:Nat)(d:Option Addr)(sl:Array (Option Value))(x:Int)(u:Tok)(h0:¬(decide (x < -2 ^ 63) || decide (x >= 2 ^ 63))=true)(h1:¬(items.isEmpty || x==1)=true)
  (h2:¬(decide (x<=0) || items.isEmpty)=true) (h3:¬(items.size:Int)*x>(2 ^ 63-1) / 8) (h4:¬Builtin.Tuple.tupleTooMany ((items.size:Int)*x)=true) (h5:¬(List.foldl (fun x1 x2=>x1++x2) #[] (List.replicate x.toNat items)).size>sizeLine):
  Meets (Builtin.«tuple.__mul__» ⟨[.ref l,.int x u],[]⟩) (fun _ R s=>s.heap.get? l=some { cls:=.type "tuple",dict:=d,data:=.seq items n,slots:=sl } /\
   R (.ok (.ret (.ref s.heap.objs.size))) { s with heap:=s.heap.push { cls:=.type "tuple",data:=.seq (List.foldl (fun x1 x2=>x1++x2) #[] (List.replicate x.toNat items)) } }):=
 .of_wp fun prog w A R s h=>by
  obtain⟨hp,g,d,tk,os⟩:=s;obtain⟨hl,h⟩:=h
  wp_walk using wpAny_loadPart' hl,wpAny_load hl
  rw[if_neg h0]
  wp_walk using wpAny_loadPart' hl,wpAny_load hl
  rw[if_neg h3]
  wp_walk using wpAny_loadPart' hl,wpAny_load hl
  exact⟨_,rfl,h⟩
def tz:D->D->Option D
 |.tuple ts,.int k=>grd (1<=k/\k<=1000/\ts.length<=1000) (.tuple (List.replicate k.toNat ts).flatten)
 |_,_=>none
def wn{n:Int}(h0:0<=n)(h:n<=1000000):¬Builtin.Tuple.tupleTooMany n=true:=by
 unfold Builtin.Tuple.tupleTooMany;simp only[decide_eq_true_eq]
 have:(1000000:Int)<=(sizeLine:Nat):=by decide
 omega
def BR(hK:X.K=K):OpR X (binaryOp .Mult) (rF2 K tz 0):=by
 subst hK;intro ρ s σ H x y v u Q I rx ry ⟨O,a,b,t,oa,ob,hd,hg,k⟩;unfold tz at hg;split at hg
 case h_2=>cases hg
 next ts n=>
 obtain⟨⟨c1,c2,c3⟩,rfl⟩:=bH hg;have oa0:=oa;obtain⟨a,vs,rfl,fz,w⟩:=oa.tup0;cases rx;cases(show y=V.int n from ob);obtain⟨tk,rfl⟩:=ry;obtain⟨its,r,pl,hz⟩:=I.tuple fz.sq;obtain⟨⟨cls,dd,data,sl⟩,ho,hc,m,hda⟩:=id pl;simp only at hc hda;subst hc hda;have hl:=r.length;have hw:=w.len;have h0:¬(decide (n < -2 ^ 63) || decide (n >= 2 ^ 63))=true:=by simp;omega
 refine wpAny_binaryOp_repeat_ref (T:="tuple") (U:="int") (by decide) ⟨_,ho,rfl⟩ (fun s'=>typeIs_int s' n tk) lC F.fills_int_mul F.slot_int_rmul pO F.slot_int_index.lookup
  (call_meets F.slot_int_rmul (typeIs_int s n tk) F.entry_int_rmul (F.args_int_rmul_2 _ _) (ny n tk a its.toArray m dd sl) ⟨ho,rfl,⟨_,ho,rfl⟩,?_⟩)
 by_cases h1:(its.toArray.isEmpty || n==1)=true
 ·refine call_meets F.slot_tuple_mul ⟨_,ho,rfl⟩ F.entry_tuple_mul (F.args_tuple_mul_2 _ _) (m4 a its.toArray m dd sl n tk h0 h1) ⟨ho,.ref a,H,I,rfl,k _ H NoA .refl ?_⟩;have e:(List.replicate n.toNat ts).flatten=ts:=by
   rcases Bool.or_eq_true_iff.mp h1 with h1|h1
   ·have:its=[]:=by simpa using h1
    subst this
    have:ts=[]:=za4.mp (by rw[List.length_nil]at hl;omega);subst this;simp
   ·have:n=1:=by simpa using h1
    subst this;simp[List.replicate]
  rw[e,eQ];exact oa0
 ·have h2:¬(decide (n<=0) || its.toArray.isEmpty)=true:=by
   intro z;rcases Bool.or_eq_true_iff.mp z with z|z
   ·have:n<=0:=by simpa using z
    omega
   ·exact h1 (by rw[z];rfl)
  have sz:(its.toArray.size:Int)<=1000:=by rw[zai];omega
  have pz:(0:Int)<=(its.toArray.size:Int):=by omega
  have pm:(its.toArray.size:Int)*n<=1000*1000:=Int.mul_le_mul sz c2 (by omega) (by omega);have p0:0<=(its.toArray.size:Int)*n:=Int.mul_nonneg pz (by omega);have rl:((List.replicate n.toNat vs).flatten).length<=sizeLine:=by
   rw[rW]
   have:(1000000:Nat)<=sizeLine:=by decide
   have h5:n.toNat*vs.length<=1000*1000:=Nat.mul_le_mul (by omega) (by omega);omega
  have fe:List.foldl (fun x1 x2=>x1++x2) #[] (List.replicate n.toNat its.toArray)=(List.replicate n.toNat its).flatten.toArray:=by
   have z:=listMul_foldl_if its.toArray n.toNat;have h6:its.toArray.isEmpty=false:=by
    cases h:its.toArray.isEmpty with
    |false=>rfl
    |true=>exact absurd (by rw[h];rfl) h1
   rw[h6]at z;simpa using z
  have r2:=r.rep n.toNat;have h7:¬(List.foldl (fun x1 x2=>x1++x2) #[] (List.replicate n.toNat its.toArray)).size>sizeLine:=by
   rw[fe,zai,<-r2.length];omega
  refine call_meets F.slot_tuple_mul ⟨_,ho,rfl⟩ F.entry_tuple_mul (F.args_tuple_mul_2 _ _) (oK a its.toArray m dd sl n tk h0 h1 h2 (by omega) (wn p0 (by omega)) h7) ⟨ho,?_⟩;rw[fe];have hf:H s.heap.objs.size=none:=I.hok.fresh (zav _);refine⟨.ref s.heap.objs.size,_,I.laid (t':=s.toks) (o:=.tup (List.replicate n.toNat vs).flatten) (fun b ob q=>zaf _ q) (zav _) ⟨rl,_,r.rep n.toNat,IsTupN.new _ _⟩,rfl,?_⟩;exact k _ _ _ (dm hf hd (w.rep n.toNat)).1 (dm hf hd (w.rep n.toNat)).2
def IQ:D->D->Option D
 |.int k,.str z=>grd (z.length<=4000/\1<=k/\k<=4000) (.str (Txt.mul z k))
 |_,_=>none
def IL:D->D->Option D
 |.tuple ts,b=>grd (ak b=true/\aD ts=true/\aS ts<=60) (.int (ts.countP fun t=>peq t b:Nat))
 |_,_=>none
end L2
namespace L2
open PySem PySem.Spec PyProof.Rows HT
section
variable{prog:Program}{w:World}{A:Around}{E:Value->Shared->Prop}{s:Shared}
def kZ{t sl:Addr}{items:Array Value}{vl vu:Value}{lo hi:Option Int}{Q:Value->Shared->Prop}(ht:IsTup s.heap t items)(hs:s.heap.IsSliceOf sl vl vu .none)(pl:IsPart vl lo)(pu:IsPart vu hi)
  (hw:HT.sIx items.size 0 lo=0/\HT.sIx items.size items.size hi=items.size) (h:Q (.ref t) s):wpAny (model prog w) A (getItem (.ref t) (.ref sl)) Q E s:=by
 obtain⟨os,hos,hcs,hds⟩:=id hs;have hTs:s.TypeIs (.ref sl) "slice":=⟨os,hos,hcs⟩;obtain⟨ot,hot,hct,m,hdt⟩:=id ht;obtain⟨cls,dd,data,slo⟩:=ot;simp only at hct hdt;subst hct hdt;unfold getItem
 try with_reducible refine zbM ?_
 first|refine zam (zaT ?_)|skip
 refine zam (wpAny_sequenceKey ht.typeIs (by decide) (zam (zbx (name:=Str.ofString "__getitem__") ht.typeIs PyProof.Rows.slot_tuple_getitem
  (wpAny_call_entry PyProof.Rows.slot_tuple_getitem ht.typeIs entry_tuple_getitem ?_ (args_tuple_getitem _ _)))))
 show wpAny _ _ (Builtin.Tuple.tupleItemsOf (.ref t) >>= _) _ _ s;refine zam (tupleItemsOf_ ht (zam (wpAny_typeOf hTs ?_)));rw[if_pos (by decide)];refine zam (gH hs pl pu ?_);rw[hw.1,hw.2];have h1:(((0:Nat):Int)==0&&(1:Int)==1&&(items.size-0)==items.size)=true:=by simp
 show wpAny _ _ (if(((0:Nat):Int)==0&&(1:Int)==1&&(items.size-0)==items.size)=true then _ else _) _ _ s;rw[if_pos h1]
 wp_walk using wpAny_loadPart' hot,wpAny_load hot
 exact⟨_,rfl,zaT h⟩
end
def t7:D->Option Int->Option Int->Option D
 |.tuple ts,lo,hi=>some (.tuple (bJ ts lo hi))
 |_,_,_=>none
section
variable{X:Cx}{K:zbQ}
def BW(hK:X.K=K):SlR X (rFs K t7 0):=by
 intro ρ s σ H x v vl vu lo hi sl Q I rx hs pl pu ⟨O,a,t,oa,hd,hg,k⟩;cases a with
 |tuple ts=>
  by_cases hw:HT.sIx ts.length 0 lo=0/\HT.sIx ts.length ts.length hi=ts.length
  ·subst hK;obtain⟨a,vs,rfl,fz,w⟩:=id oa.tup0;cases rx;obtain⟨its,r,ht,hz⟩:=I.tuple fz.sq;have ξ:its.toArray.size=ts.length:=by rw[zai,<-w.len];exact r.length.symm
   refine⟨"tuple",_,PyProof.Rows.slot_tuple_getitem.lookup,ht.typeIs,?_⟩;refine kZ ht hs pl pu (by rw[ξ];exact hw) ⟨.ref a,H,I,rfl,k _ H NoA .refl ?_⟩;cases hg;have e:bJ ts lo hi=ts:=by
    unfold bJ;rw[hw.1,hw.2];simp
   rw[e,eQ];exact oa
  ·refine FJ hK ρ s σ H x v vl vu lo hi sl Q I rx hs pl pu ⟨O,.tuple ts,t,oa,hd,?_,k⟩;cases hg;show grd _ _=_;unfold grd;rw[if_pos hw]
 |_=>cases hg
end
end L2
namespace L2
open PySem PySem.Spec PyProof.Rows
end L2
namespace L2
open PySem PySem.Spec PyProof.Rows PySem.SeqAt PySem.MeetsSeq
end L2
namespace L2
variable{X:Cx}{K:zbQ}{p p1 p2 q:Bool}{ds ds1 ds0 ds2 ds' dsi lk:List Nat}{d d' d1 d2 c i dr cd n:Nat}{fa:MA}{sh:Sh}{O:AS}{H:Hp}{ts:List D}{vs:List V}{t:D}{k e a b elt tg iter o:Expr}{fk f f1 f2 fe:ME}{pos px pos' ζ:Pos}{σ:St}{Q:VK}{v:V}{F:List D->Option (D×En)}{es ifs:List Expr}{c1 c2:MT}{x:Str}{g:D->D->Option D}{op:CmpOp}{ps ns:List Str}{scope:Scope}{js:List (Option Nat)}{fi:MI}{J:Jd}{st:Stmt}{m m1 m2:MS}{en en1 en2:En}{fl:Fl}
open PySem PySem.Spec PyProof.Rows
section
variable{O1:AS}{H0:Hp}{us:List D}{ws:List V}{a b:Addr}
def IF(fa:MA):MI:=fun en=>(fa en).bind fun r=>match r.1 with
 |[.inl (.tuple ts),.inl (.tuple us)]=>some (pA ts us,r.2)
 |_=>none
end
def oOf:D->Option (Option Key)
 |.none=>some none
 |t=>(kOf t).map some
def cP:List D->Option (List (Option Key))
 |[]=>some []
 |t::ts=>(oOf t).bind fun k=>(cP ts).map (k::·)
def EO{k:Option Key}(h:oOf t=some k):(t=.none/\k=none)\/∃q,kOf t=some q/\k=some q:=by
 cases t with
 |none=>cases h;exact .inl ⟨rfl,rfl⟩
 |int i=>cases h;exact .inr ⟨_,rfl,rfl⟩
 |str x=>cases h;exact .inr ⟨_,rfl,rfl⟩
 |_=>cases h
section
variable{v:Expr}{fv:ME}    
def Bk{k:Option Key}{v:V}{F:AS}(h:oOf t=some k)(o:Ow K O H t d v F):v=oV k:=by
 rcases EO h with⟨rfl,rfl⟩|⟨q,h1,rfl⟩
 ·exact o
 ·exact EL h1 o
theorem jf:∀{ts:List D} {kk:List (Option Key)} {d:Nat} {vs:List V} {F:AS},cP ts=some kk->Ows K O H ts d vs F->vs=kk.map oV
 |[],_,_,_,_,h,o=>by cases h;exact o
 |t::ts,_,_,_,_,h,o=>by
  obtain⟨k,h1,h⟩:=zaa.mp h;obtain⟨kk,h2,rfl⟩:=zab.mp h;obtain⟨v,r,F1,F2,rfl,_,_,_,o1,o2⟩:=o;rw[Bk h1 o1,jf h2 o2];rfl
def EK{v:V}{F:AS}(h:scaD t=true)(o:Ow K O H t d v F):v=dV t:=by
 cases t with
 |list ts=>cases h
 |tuple ts=>cases h
 |dict ts=>cases h
 |_=>exact o
end
structure QE(X:Cx)(e:Expr)(t:TE):Prop where
 h:PE X e t
structure QT(X:Cx)(e:Expr)(t:TT):Prop where
 h:PT X e t
structure QW(X:Cx)(e:Expr)(t:TT):Prop where
 h:PW X e t
structure QA(X:Cx)(e:List Expr)(t:TA):Prop where
 h:PA X e t
structure QS(X:Cx)(e:Stmt)(t:TS):Prop where
 h:PS X e t
structure QSs(X:Cx)(e:List Stmt)(t:TS):Prop where
 h:PSs X e t
structure QG(X:Cx)(e:Expr)(t:TG):Prop where
 h:PG X e t
structure QGs(X:Cx)(e:List Expr)(t:TGs):Prop where
 h:PGs X e t
structure QI(X:Cx)(tg e:Expr)(t:TI):Prop where
 h:PI X tg e t
structure QTs(X:Cx)(e:List Expr)(t:TT):Prop where
 h:PTs X e t
structure QO(X:Cx)(e:Option Expr)(t:TO):Prop where
 h:PO X e t
def qpt{t:TT}(h:QW X e t):QT X e t:=⟨h.h.pt⟩
section
variable{c:Expr}{m:MT}    
def lG(hN:X.N[i]?=some x)(hv:Vis X.env.scope x)(h0:ds[i]?=some 0)(hd:(x==("__debug__":Str))=false)(hcd:(x==("__classdict__":Str))=false):QE X (.Name x pos) (tF K p ds ds 0 (ac i)):=⟨FN hN hv h0 hd hcd⟩
def iT(hN:X.N[i]?=some x)(hv:Vis X.env.scope x)(h0:ds[i]?=some d)(hds:ds.set i 0=ds')(hd:(x==("__debug__":Str))=false)(hcd:(x==("__classdict__":Str))=false):QE X (.Name x pos) (tF K false ds ds' d (eMv i)):=⟨Hh hN hv h0 hds hd hcd⟩
def ae{n:Int}{j}:QE X (.Constant (.int n) j pos) (tF K p ds ds 3 (eC (.int n))):=⟨FY⟩
def aI{n:Bool}{j}:QE X (.Constant (.bool n) j pos) (tF K p ds ds 3 (eC (.bool n))):=⟨Hn⟩
def aF{j}:QE X (.Constant .none j pos) (tF K p ds ds 3 (eC .none)):=⟨FT⟩
def lH{n:Str}{j}:QE X (.Constant (.str n) j pos) (tF K p ds ds 3 (eC (.str n))):=⟨FQ⟩
def jo(h:QE X e (tF K p ds ds' d f))(hd:Le4 d' d):QE X e (tF K p ds ds' d' f):=⟨FP h.h hd⟩
def B4(h:QE X e (tF K p ds0 ds' d f))(hd:leD ds0 ds=true):QE X e (tF K false ds ds' d f):=⟨Hl h.h hd⟩
def b8(h:QE X e (tF K true ds0 ds0 3 f))(hd:leD ds0 ds=true):QE X e (tF K p ds ds 3 f):=⟨F9 h.h hd⟩
def aq{op:Operator}(ho:OpR X (binaryOp op) (rF2 K g d))(ha:QE X a (tF K p ds ds1 d1 f1))(hb:QE X b (tF K p ds1 ds2 d2 f2)):QE X (.BinOp a op b pos) (tF K p ds ds2 d (e2 g f1 f2)):=⟨Hg ho ha.h hb.h⟩
def nC{op:UnaryOp}{g:D->Option D}(ho:UnR X (unaryOp op) (rF1 K g d))(ha:QE X a (tF K p ds ds1 d1 f1)):QE X (.UnaryOp op a pos) (tF K p ds ds1 d (e1 g f1)):=⟨He ho ha.h⟩
def bw(ho:OpR X (compareOp op) (rF2 K g d))(ha:QE X a (tF K p ds ds1 d1 f1))(hb:QE X b (tF K p ds1 ds2 d2 f2))(hm:behindInMarks op b=false):QE X (.Compare a [op] [b] pos) (tF K p ds ds2 d (e2 g f1 f2)):=⟨F8 ho ha.h hb.h hm⟩
def aP(ho:OpR X (compareOp op) (rF2 K g d))(ha:QE X a (tF K p ds ds1 d1 f1))(hb:QE X b (tF K p ds1 ds2 d2 f2))(hm:behindInMarks op b=false):QT X (.Compare a [op] [b] pos) (tFT K p ds ds2 (tV (e2 g f1 f2))):=⟨BB ho ha.h hb.h hm⟩
def aG(h:QE X e (tF K p ds ds' d f))(he:∀χ,isTrue e X.env χ=(do let v <-χ;standAt e.pos;holding [v] (truthy v))):QT X e (tFT K p ds ds' (tV f)):=⟨Bz h.h he⟩
def fK(ha:QT X a (tFT K p ds ds1 c1)):QW X (.BoolOp .And [a] pos) (tFT K p ds ds1 c1):=⟨Bw ha.h⟩
def bI(ha:QT X a (tFT K p ds ds1 c1)):QW X (.BoolOp .Or [a] pos) (tFT K p ds ds1 c1):=⟨Fs ha.h⟩
def fy{rest:List Expr}(ha:QT X a (tFT K p ds ds1 c1))(hb:QW X (.BoolOp .And (b::rest) pos) (tFT K p ds1 ds1 c2)):QW X (.BoolOp .And (a::b::rest) pos) (tFT K p ds ds1 (eJ c1 c2)):=⟨Ft ha.h hb.h⟩
def bO{rest:List Expr}(ha:QT X a (tFT K p ds ds1 c1))(hb:QW X (.BoolOp .Or (b::rest) pos) (tFT K p ds1 ds1 c2)):QW X (.BoolOp .Or (a::b::rest) pos) (tFT K p ds ds1 (bOr c1 c2)):=⟨G7 ha.h hb.h⟩
def aV(ha:QT X a (tFT K p ds ds1 c1)):QT X (.UnaryOp .Not a pos) (tFT K p ds ds1 (bN c1)):=⟨BA ha.h⟩
def ij(h:QT X e (tFT K true ds0 ds0 c1))(hd:leD ds0 ds=true):QT X e (tFT K p ds ds c1):=⟨BC h.h hd⟩
def bv{op}(h:QE X a (tF K p ds ds1 d f)):QE X (.BoolOp op [a] pos) (tF K p ds ds1 d f):=⟨FR h.h⟩
def b9{rest:List Expr}(ha:QE X a (tF K p ds ds1 d1 f1))(hb:QE X (.BoolOp .And (b::rest) pos) (tF K p ds1 ds1 d f2)):QE X (.BoolOp .And (a::b::rest) pos) (tF K p ds ds1 d (dS f1 f2)):=⟨Gb ha.h hb.h⟩
def nE{rest:List Expr}(ha:QE X a (tF K p ds ds1 d1 f1))(hb:QE X (.BoolOp .Or (b::rest) pos) (tF K p ds1 ds1 d f2)):QE X (.BoolOp .Or (a::b::rest) pos) (tF K p ds ds1 d (eOr f1 f2)):=⟨Hf ha.h hb.h⟩
def gP(ha:QE X a (tF K p ds ds1 d1 f)):QE X (.UnaryOp .Not a pos) (tF K p ds ds1 3 (iE f)):=⟨FS ha.h⟩
def nF(hc:QT X c (tFT K p ds ds1 c1))(ha:QE X a (tF K p ds1 ds2 d f1))(hb:QE X b (tF K p ds1 ds2 d f2)):QE X (.IfExp c a b pos) (tF K p ds ds2 d (eIf c1 f1 f2)):=⟨Hk hc.h ha.h hb.h⟩
def ab: QA X [] (tFA K p ds ds [] af):=⟨B8⟩
def tY(ha:QE X e (tF K p ds ds1 d f))(hr:QA X es (tFA K p ds1 ds2 sh fa))(hs:aH e=true):QA X (e::es) (tFA K p ds ds2 (.inl d::sh) (aa f fa)):=⟨xu ha.h hr.h hs⟩
def mx(hN:X.N[i]?=some x)(hv:Vis X.env.scope x)(hr:QA X es (tFA K p ds ds2 sh fa))(hd:(x==("__debug__":Str))=false)(hcd:(x==("__classdict__":Str))=false):QA X (.Name x pos::es) (tFA K p ds ds2 (.inr i::sh) (aC i fa)):=⟨xr hN hv hr.h hd hcd⟩
def aL{c:Nat}(h:QA X es (tFA K p ds ds1 sh fa))(hs:bS c sh=true)(hd:dn d=c)(hz:d≠0):QE X (.List es pos) (tF K p ds ds1 d (a6 fa)):=⟨FU h.h hs hd hz⟩
def aB{c:Nat}{x1}(h:QA X es (tFA K p ds ds1 sh fa))(hs:bS c sh=true)(hd:dn d=c):QE X (.Tuple es x1 pos) (tF K p ds ds1 d (aX fa)):=⟨FO h.h hs hd⟩
def mw{id:String}{g:List D->Option D}(hc:CallR X (.builtin id) (rFn K g d))(hg:Gl X x)(hm:X.mg x=none)(hv:bootBuiltins x=some (.builtin id))(ha:QA X (e::es) (tFA K p ds ds1 sh fa))(hsh:bS 0 sh=true)(hn:x≠"__name__")(hdb:(x==("__debug__":Str))=false)(he:aH e=true)(hpl:es.all aH=true):QE X (.Call (.Name x px) (e::es) [] pos) (tF K p ds ds1 d (eN g fa)):=⟨xq hc hg hm hv ha.h hsh hn hdb he hpl⟩
def rE{T:String}{g:List D->Option D}(hc:CallR X (.type T) (rFn K g d))(hg:Gl X x)(hm:X.mg x=none)(hv:bootBuiltins x=some (.type T))(ha:QA X (e::es) (tFA K p ds ds1 sh fa))(hsh:bS 0 sh=true)(hn:x≠"__name__")(hdb:(x==("__debug__":Str))=false)(he:aH e=true)(hpl:es.all aH=true):QE X (.Call (.Name x px) (e::es) [] pos) (tF K p ds ds1 d (eN g fa)):=⟨vI hc hg hm hv ha.h hsh hn hdb he hpl⟩
def B5{k:Nat}{dps:List Nat}(G:Kn X.prog X.w X.K X.mg X.base k x ps (spF K dps dr F))(hr:Room k X.A)(hg:Gl X x)(ha:QA X (e::es) (tFA K p ds ds1 sh fa))(hns:fI sh=true)(hcd:cc ds1 sh dps=true)(hdb:(x==("__debug__":Str))=false)(he:aH e=true)(hpl:es.all aH=true):QE X (.Call (.Name x px) (e::es) [] pos) (tF K p ds ds1 dr (ai F fa)):=⟨Hm G hr hg ha.h hns hcd hdb he hpl⟩
def xk{k:Nat}{dps:List Nat}(G:Kn X.prog X.w X.K X.mg X.base k x ps (spF K dps dr F))(hr:Room k X.A)(hg:Gl X x)(ha:QA X (e::es) (tFA K false ds ds1 sh fa))(hcd:cc ds1 sh dps=true)(hdb:(x==("__debug__":Str))=false)(he:aH e=true)(hpl:es.all aH=true):QE X (.Call (.Name x px) (e::es) [] pos) (tF K false ds ds1 dr (ai F fa)):=⟨FZ G hr hg ha.h hcd hdb he hpl⟩
def a5(ho:IxR X (rF2 K g d))(ha:QE X a (tF K p ds ds1 d1 f1))(hb:QE X b (tF K p ds1 ds2 d2 f2))(hs:dw b):QE X (.Subscript a b pos) (tF K p ds ds2 d (e2 g f1 f2)):=⟨Hj ho ha.h hb.h hs⟩
def dR(hK:X.K=K)(hN:X.N[i]?=some x)(hv:Vis X.env.scope x)(h1:ds1[i]?=some 1)(hb:QE X b (tF K p ds ds1 d1 f))(hs:dw b)(hd:(x==("__debug__":Str))=false)(hcd:(x==("__classdict__":Str))=false):QE X (.Subscript (.Name x px) b pos) (tF K p ds ds1 0 (cy i f)):=⟨FW hK hN hv h1 hb.h hs hd hcd⟩
def jq{c:Nat}{μ ω:Pos}(hK:X.K=K)(hN:X.N[i]?=some x)(hv:Vis X.env.scope x)(h1:ds1[i]?=some d)(he:QE X e (tF K false ds ds1 c f))(hz:d≠0)(hc:dn d=c)(hd:(x==("__debug__":Str))=false)(hcd:(x==("__classdict__":Str))=false)(η:attributeBase (.Name x px) "append" X.env (eval (.Name x px) X.env)=eval (.Name x px) X.env)(hfew:((backTo ω (starEach [e] X.env)).all (fun x=>!x.1)&&(backToKw ω (keywordEach [] X.env)).all (fun x=>x.1.isSome)&&decide (([e]:List Expr).length+([]:List Keyword).length+(if([]:List Keyword).isEmpty then 0 else 1)<30))=true)(θ:(μ.endLine==ω.line)=true)(hs:starEach [e] X.env=[(false,eval e X.env)])(ι:(backTo ω (starEach [] X.env)).any (·.1)=false):QE X (.Call (.Attribute (.Name x px) "append" μ) [e] [] ω) (tF K false ds ds1 3 (fX i f)):=⟨Ga hK hN hv h1 he.h hz hc hd hcd η hfew θ hs ι⟩
def a8: QTs X [] (tFT K p ds ds cY):=⟨By⟩
def vp(hc:QT X c (tFT K p ds ds1 c1)):QTs X [c] (tFT K p ds ds1 c1):=⟨Bx hc.h⟩
def ee{g:MG}(B:BlkOkC X scope ns js)(hc:X.calm=true)(hi:QI X tg iter (tFI K p ds ds1 fi))(hg:∀C cl s₀ H₀ fp,QG (aE X scope ns C cl s₀ H₀ fp) tg (tFG K lk dsi dsi g))(ht:∀C cl s₀ H₀ fp,QTs (aE X scope ns C cl s₀ H₀ fp) ifs (tFT K true dsi dsi c1))(he:∀C cl s₀ H₀ fp,QE (aE X scope ns C cl s₀ H₀ fp) elt (tF K true dsi dsi cd f))(hcap:dE ds1 js dsi=true)(hd:dn d=cd)(hz:d≠0)(hlk:lk=dD js 0)(hs:∀x,foldedSetIterable iter X.env x=pure x):QE X (.ListComp elt [⟨tg,iter,ifs,0⟩] scope pos) (tF K p ds ds1 d (eLC true fi g c1 f js)):=⟨Hi B hc hi.h (fun C cl s₀ H₀ fp=>(hg C cl s₀ H₀ fp).h) (fun C cl s₀ H₀ fp=>(ht C cl s₀ H₀ fp).h) (fun C cl s₀ H₀ fp=>(he C cl s₀ H₀ fp).h) hcap hd hz hlk hs⟩
def qB{g:MG}(B:BlkOkC X scope ns js)(hc:X.calm=true)(hi:QI X tg iter (tFI K false ds ds1 fi))(hg:∀C cl s₀ H₀ fp,QG (aE X scope ns C cl s₀ H₀ fp) tg (tFG K lk dsi dsi g))(ht:∀C cl s₀ H₀ fp,QTs (aE X scope ns C cl s₀ H₀ fp) ifs (tFT K false dsi dsi c1))(he:∀C cl s₀ H₀ fp,QE (aE X scope ns C cl s₀ H₀ fp) elt (tF K false dsi dsi cd f))(hcap:dE ds1 js dsi=true)(hd:dn d=cd)(hz:d≠0)(hlk:lk=dD js 0)(hs:∀x,foldedSetIterable iter X.env x=pure x):QE X (.ListComp elt [⟨tg,iter,ifs,0⟩] scope pos) (tF K false ds ds1 d (eLC false fi g c1 f js)):=⟨FV B hc hi.h (fun C cl s₀ H₀ fp=>(hg C cl s₀ H₀ fp).h) (fun C cl s₀ H₀ fp=>(ht C cl s₀ H₀ fp).h) (fun C cl s₀ H₀ fp=>(he C cl s₀ H₀ fp).h) hcap hd hz hlk hs⟩
end
section
variable{dps:List Nat}{c:Expr}{rest body tS:List Stmt}{g:MG}{gs:List D->En->Option En} 
def aw: QSs X [] (tFS K J ds ds aO):=⟨BF⟩
def ag(h1:QS X st (tFS K J ds ds1 m1))(h2:QSs X rest (tFS K J ds1 ds2 m2)):QSs X (st::rest) (tFS K J ds ds2 (aj m1 m2)):=⟨wZ h1.h h2.h⟩
def aJ(h1:QS X st (tFS K J ds ds1 m1)):QSs X [st] (tFS K J ds ds1 m1):=⟨BE h1.h⟩
def j1(h:QSs X rest (tFS K J ds ds2 m))(hd:leD ds1 ds2=true):QSs X rest (tFS K J ds ds1 m):=⟨BD h.h hd⟩
def fL(he:QE X e (tF K false ds ds1 d f))(hs:swapsWith e none pos.line X.env=pure false):QS X (.Expr e pos) (tFS K J ds ds1 (fU f)):=⟨BM he.h hs⟩
def vw(he:QE X e (tF K false ds ds1 J.dr f))(hd:leD J.dsr ds1=true):QS X (.Return (some e) pos) (tFS K J ds ds' (av f)):=⟨BK he.h hd⟩
def aA(hc:QT X c (tFT K false ds ds1 c1))(ha:QSs X body (tFS K J ds1 ds2 m1))(hb:QSs X tS (tFS K J ds1 ds2 m2)):QS X (.If c body tS pos) (tFS K J ds ds2 (sIf c1 m1 m2)):=⟨FF hc.h ha.h hb.h⟩
def cR(hN:X.N.Nodup)(hi:X.N[i]?=some x)(hx:Loc X.env.scope x)(he:QE X e (tF K false ds ds1 d f))(hds:ds1.set i d=ds')(hl:i<ds1.length)(hk:i∉J.lk)(hs:swapsWith e (some (.Name x pos')) pos.line X.env=pure false)(hf:X.fn x=true\/X.env.scope.names.lookup x=some .local):QS X (.Assign [.Name x pos'] e pos) (tFS K J ds ds' (ay i f)):=⟨BJ hN hi hx he.h hds hl hk hs hf⟩
def rD(hN:X.N.Nodup)(hi':X.N[i]?=some x)(hx:X.env.scope.names.lookup x=some .local)(B:BlkOkC X scope ns js)(hc:X.calm=true)(hi:QI X tg iter (tFI K false ds ds1 fi))(hg:∀C cl s₀ H₀ fp,QG (aE X scope ns C cl s₀ H₀ fp) tg (tFG K lk dsi dsi g))(ht:∀C cl s₀ H₀ fp,QTs (aE X scope ns C cl s₀ H₀ fp) ifs (tFT K q dsi dsi c1))(he:∀C cl s₀ H₀ fp,QE (aE X scope ns C cl s₀ H₀ fp) elt (tF K q dsi dsi cd f))(hds:ds1.set i d=ds')(hcap:dE ds1 js dsi=true)(hd:dn d=cd)(hz:d≠0)(hlk:lk=dD js 0)(hl:i<ds1.length)(hk:i∉J.lk)(hsw:swapsWith (.ListComp elt [⟨tg,iter,ifs,0⟩] scope pos) (some (.Name x pos')) ζ.line X.env=pure true)(hs:∀x,foldedSetIterable iter X.env x=pure x):QS X (.Assign [.Name x pos'] (.ListComp elt [⟨tg,iter,ifs,0⟩] scope pos) ζ) (tFS K J ds ds' (ay i (eLC q fi g c1 f js))):=⟨vv hN hi' hx B hc hi.h (fun C cl s₀ H₀ fp=>(hg C cl s₀ H₀ fp).h) (fun C cl s₀ H₀ fp=>(ht C cl s₀ H₀ fp).h) (fun C cl s₀ H₀ fp=>(he C cl s₀ H₀ fp).h) hds hcap hd hz hlk hl hk hsw hs⟩
def gu{c:Nat}(hN:X.N[i]?=some x)(hv:Vis X.env.scope x)(he:QE X e (tF K false ds ds1 c fe))(hk:QE X k (tF K false ds1 ds2 d2 fk))(h1:ds2[i]?=some d)(hz:d≠0)(hc:dn d=c)(hdb:(x==("__debug__":Str))=false)(hcd:(x==("__classdict__":Str))=false)(ha:∀v,assign (.Subscript (.Name x px) k ζ) X.env v=(do
   let ov <-holding [v] (eval (.Name x px) X.env);let iv <-holding [v,ov] (eval k X.env)
   standAt ζ
   holding [v,ov,iv] (setItem ov iv v)
   release [v,ov,iv] []))(hs:swapsWithSole [.Subscript (.Name x px) k ζ] e pos.line X.env=pure false)(hw:swappedStores [.Subscript (.Name x px) k ζ] e X.env=pure none)(h2:(assignEach [.Subscript (.Name x px) k ζ] X.env).map (·.2)=[assign (.Subscript (.Name x px) k ζ) X.env]):QS X (.Assign [.Subscript (.Name x px) k ζ] e pos) (tFS K J ds ds2 (dJ i fk fe)):=⟨w8 hN hv he.h hk.h h1 hz hc hdb hcd ha hs hw h2⟩
def tX(hN:X.N.Nodup)(hi:X.N[i]?=some x)(hx:Loc X.env.scope x)(hds:ds.set i 0=ds')(hl:i<ds.length)(hk:i∉lk)(hf:X.fn x=true\/X.env.scope.names.lookup x=some .local):QG X (.Name x pos) (tFG K lk ds ds' (gN i)):=⟨xg hN hi hx hds hl hk hf⟩
def jn: QGs X [] (fT K lk ds ds gs0):=⟨xc⟩
def cM(h1:QG X e (tFG K lk ds ds1 g))(h2:QGs X es (fT K lk ds1 ds2 gs))(hs:(assignEach (e::es) X.env).map (·.2)=assign e X.env::(assignEach es X.env).map (·.2)):QGs X (e::es) (fT K lk ds ds2 (gsC g gs)):=⟨vF h1.h h2.h hs⟩
def j4{k:Nat}(hK:X.K=K)(hc:X.calm=true)(h:QGs X es (fT K lk ds ds1 gs))(hl:∀ts en,(∃en',gs ts en=some en')->ts.length=n)(hn:(assignEach es X.env).length=n)(hst:(assignEach es X.env).findIdx? (·.1)=none):QG X (.Tuple es k pos) (tFG K lk ds ds1 (gT gs)):=⟨B0 hK hc h.h hl hn hst⟩
def ba(hc:X.calm=true)(hi:QI X tg iter (tFI K false ds ds1 fi))(hg:QG X tg (tFG K J.lk ds1 ds2 g))(hb:QSs X body (tFS K { J with dsl:=ds1 } ds2 ds1 m))(hp:PassesOwn (model X.prog X.w) X.A X.env X.xe)(hs:∀x,foldedSetIterable iter X.env x=pure x):QS X (.For tg iter body [] pos) (tFS K J ds ds1 (cu fi g m)):=⟨BL hc hi.h hg.h hb.h hp hs⟩
end
section
variable{l:Expr}  
def a9(hK:X.K=K)(hl:QE X l (tF K p ds ds1 d f)):QI X tg l (tFI K p ds ds1 (cg f)):=⟨FK hK hl.h⟩
def cr(hg:Gl X "range")(hm:X.mg "range"=none)(ha:QA X [a] (tFA K p ds ds1 sh fa))(hs:aH a=true):QI X tg (.Call (.Name "range" px) [a] [] pos) (tFI K p ds ds1 (bU fa)):=⟨BX hg hm ha.h hs⟩
def vE{elts:List Expr}{k:Nat}{tp:Pos}(hK:X.K=K)(hg:Gl X "enumerate")(hm:X.mg "enumerate"=none)(ha:QA X [l] (tFA K p ds ds1 sh fa))(hs:starEach [l] X.env=[(false,eval l X.env)]):QI X (.Tuple elts k tp) (.Call (.Name "enumerate" px) [l] [] pos) (tFI K p ds ds1 (jZ fa)):=⟨BY hK hg hm ha.h hs⟩
end
def b7{T:Str}{n:String}{pt:Pos}(hK:X.K=K)(hg:Gl X "isinstance")(hm:X.mg "isinstance"=none)(hgT:Gl X T)(hmT:X.mg T=none)(hbT:bootBuiltins T=some (.type n))(hT:n∈["int","bool","str","list","tuple","dict"])(he:QE X e (tF K p ds ds1 d1 f))(hnT:T≠"__name__")(hdT:(T==("__debug__":Str))=false)(hs1:starEach [e,.Name T pt] X.env=(false,eval e X.env)::starEach [.Name T pt] X.env)(hs2:starEach [.Name T pt] X.env=(false,eval (.Name T pt) X.env)::starEach [] X.env)(hpl:(backTo pos (starEach [.Name T pt] X.env)).any (·.1)=false):QE X (.Call (.Name "isinstance" px) [e,.Name T pt] [] pos) (tF K p ds ds1 3 (e1 (bd n) f)):=⟨FX hK hg hm hgT hmT hbT hT he.h hnT hdT hs1 hs2 hpl⟩
section
variable{ds3:List Nat}{d3:Nat}{c:Expr}{f3:ME}{p2:Pos}
def ms{op':CmpOp}{g':D->D->Option D}(ho:OpR X (compareOp op) (rF2 K g 3))(ho':OpR X (compareOp op') (rF2 K g' 3))(ha:QE X a (tF K p ds ds0 d1 f1))(hb:QE X b (tF K p ds0 ds1 d2 f2))(hc:QE X c (tF K p ds1 ds1 d3 f3))(hm:lastMarks [op,op'] [b,c]=false):QE X (.Compare a [op,op'] [b,c] pos) (tF K p ds ds1 3 (gQ g g' f1 f2 f3)):=⟨xo ho ho' ha.h hb.h hc.h hm⟩
def cU: QO X none (tFO K p ds ds fF):=⟨BQ⟩
def cT(h:QE X e (tF K p ds ds1 d f)):QO X (some e) (tFO K p ds ds1 (eD f)):=⟨BP h.h⟩
variable{lo hi:MO}
def cx{g:D->Option Int->Option Int->Option D}{elo ehi:Option Expr}(hr:SlR X (rFs K g d))(he:QE X e (tF K p ds ds1 d1 f))(hl:QO X elo (tFO K p ds1 ds2 lo))(hu:QO X ehi (tFO K p ds2 ds3 hi)):QE X (.Subscript e (.Slice elo ehi none p2) pos) (tF K p ds ds3 d (eSl g f lo hi)):=⟨xh hr he.h hl.h hu.h⟩
end
section
variable{c:Expr}{Dn:Ends}
def oh: QE X (.Dict [] [] pos) (tF K p ds ds 3 kP):=⟨B6⟩
end
section
variable{m:Nat}{mp:MP} 
def j3(hN:X.N[i]?=some x)(hv:Vis X.env.scope x)(hd:(x==("__debug__":Str))=false)(hcd:(x==("__classdict__":Str))=false):QE X (.Name x px) (tP K true ds ds i 0 (je i)):=⟨BN hN hv hd hcd⟩
def lF(hK:X.K=K)(hd:ds2[i]?=some d)(ho:QE X o (tP K p1 ds ds1 i m mp))(hb:QE X b (tF K p2 ds1 ds2 d1 f))(hz:dns m d≠0)(hpu:p2=true\/m=0)(hs:dw b):QE X (.Subscript o b pos) (tP K (p1&&p2) ds ds2 i (m+1) (pIx i mp f)):=⟨FG hK hd ho.h hb.h hz hpu hs⟩
def mo(hd:ds2[i]?=some d)(he:QE X e (tF K p ds ds0 c fe))(ho:QE X o (tP K p1 ds0 ds1 i m mp))(hk:QE X k (tF K p2 ds1 ds2 d2 fk))(hz:dns m d≠0)(hc:dn (dns m d)=c)(hpu:p2=true\/m=0)(ha:∀v,assign (.Subscript o k ζ) X.env v=(do
   let ov <-holding [v] (eval o X.env);let iv <-holding [v,ov] (eval k X.env)
   standAt ζ
   holding [v,ov,iv] (setItem ov iv v)
   release [v,ov,iv] []))(hs:swapsWithSole [.Subscript o k ζ] e pos.line X.env=pure false)(hw:swappedStores [.Subscript o k ζ] e X.env=pure none)(h2:(assignEach [.Subscript o k ζ] X.env).map (·.2)=[assign (.Subscript o k ζ) X.env]):QS X (.Assign [.Subscript o k ζ] e pos) (tFS K J ds ds2 (ii i mp fk fe)):=⟨w6 hd he.h ho.h hk.h hz hc hpu ha hs hw h2⟩
end
section
variable{Q':VK}{pos2 py:Pos}
def vG(hK:X.K=K)(he:QE X e (tF K p ds ds1 d1 f1))(hk:QE X k (tF K p ds1 ds2 d2 f2)):QE X (.Subscript e (.Slice none none (some k) pos2) pos) (tF K p ds ds2 0 (e2 lZ f1 f2)):=⟨B3 hK he.h hk.h⟩
end
def Fun.okQ{P:Program}{w:World}{mg:Str->Option Value}{base:Heap}{qual:Str}{f:Addr}{fd:FuncData}{N:List Str}{k:Nat}{dps:List Nat}{b:MS}
  (F:Fun K x qual st f fd) (S:FnScope N ps (ah st)) (hl:dps.length=ps.length) (hn:N.length-dps.length=n) (hJ:J=⟨nr dps,dps++List.replicate n 0,dr,[]⟩) (hd:ds0=dps++List.replicate n 0)
  (hb:∀(cdv:Value) (A:Around) (outer:List Env) (s:Shared) (H:Hp) (E:XK),Room k (A.deeper (envOfC qual (ah st) s.heap.objs.size f cdv)) ->
   QSs (j8 CX0 P w K mg base N qual (ah st) f cdv A outer s H E).nox (bP st) (tFS K J ds0 ds0 b)):FnOk P w K mg base CX0 (k+1) f fd ps (spF K dps dr (fnF n dps b)):=by
 subst hJ hd;exact F.ok S (fun vs H Q E h=>A3 hl h) fun cdv A outer s H vs Q E hr h=>⟨_,(hb cdv A outer s H E hr).h,BU hn h⟩
def EX(F:List D->Option (D×En)):Prop:=∀ns:List Int,ns.length<=63->∃ψ,F [.list (ns.map .int)]=some (.bool true,ψ)
def lV(K:zbQ):Sp:=fun vs H Q _=>∃(a:Addr) (ns:List Int),vs=[.ref a]/\SqL K H a (ns.map V.int)/\(∀b,H b=none\/∃o xs,H b=some (.frz o (.lst xs)))/\ns.length<=63/\∀H':Hp,Q (.bl true) H'
theorem k8{K:zbQ}{O:AS}{H:Hp}:∀ns:List Int,Ows K O H (ns.map .int) 0 (ns.map V.int) NoA
 |[]=>rfl
 |n::r=>⟨.int n,r.map V.int,NoA,NoA,rfl,fun _ z=>z,fun _ z=>z,fun _ z=>z.elim,rfl,k8 r⟩
def EW(h:EX F){E:XK}(q:lV K vs H Q E):spF K [0] dr F vs H Q E:=by
 obtain⟨a,ns,rfl,hs,_,hl,q⟩:=q;obtain⟨ψ,e⟩:=h ns hl;have fz:FzL K (fun _=>False) H a (ns.map V.int):=by
  rcases hs with hs|hs
  ·exact .inl ⟨hs,fun z=>z⟩
  ·exact .inr fun H'=>.inr hs
 have eO:Own (fun _=>NoA) NoA=(fun _=>False):=dN fun b=>⟨fun z=>z.elim (fun⟨_,z⟩=>z) fun z=>z,fun z=>z.elim⟩;refine⟨NoA,[.list (ns.map .int)],fun _=>NoA,.bool true,ψ,⟨fun i t hi=>?_,fun _ _ _ z=>z.elim,fun _ _ z=>z.elim,fun b z=>?_,rfl,rfl⟩,e,fun v H' R' Fr _ o=>?_⟩
 ·cases i with
  |zero=>
   have:t=.list (ns.map .int):=by
    have h2:some (some (PyData.list (ns.map .int)))=some (some t):=hi;injection h2 with h3
    injection h3 with h4
    exact h4.symm
   subst this;refine⟨.ref a,0,rfl,rfl,?_⟩;rw[eO];exact⟨a,ns.map V.int,rfl,.inl ⟨rfl,fz,k8 ns⟩⟩
  |succ i=>simp at hi
 ·rw[eO]at z;exact z.elim
 ·rw[show v=.bl true from o];exact q H'
section
variable{c:MT}{b:MS}  
theorem gt{c:MT}{f:ME}{p:D->Bool}{F:D->D}{rest:En}:∀(ts acc:List D) (o:Option D),(∀t∈ts,c (some t::rest)=some (p t,some t::rest))->(∀t∈ts,p t=true->f (some t::rest)=some (F t,some t::rest))->acc.length+ts.length<=sizeLine ->
  ∃o',lcF (gN 0) c f ts acc (o::rest)=some (acc++(ts.filter p).map F,o'::rest)
 |[],acc,o,_,_,_=>⟨o,by simp[lcF]⟩
 |t::ts,acc,o,hc,hf,hl=>by
  have hl':acc.length+(ts.length+1)<=sizeLine:=hl;cases hp:p t with
  |true=>
   obtain⟨o',h⟩:=gt (c:=c) (f:=f) (p:=p) (F:=F) ts (acc++[F t]) (some t) (fun x hx=>hc x (zaj _ hx)) (fun x hx=>hf x (zaj _ hx)) (by rw[zae];show acc.length+1+_<=_;omega);refine⟨o',?_⟩;unfold lcF;show((c (some t::rest)).bind _)=_;rw[hc t zaq,hp];show((f (some t::rest)).bind _)=_;rw[hf t zaq hp];show(if acc.length<sizeLine then _ else _)=_;rw[if_pos (by omega)]
   dsimp only
   rw[h,List.filter_cons_of_pos hp];simp
  |false=>
   obtain⟨o',h⟩:=gt (c:=c) (f:=f) (p:=p) (F:=F) ts acc (some t) (fun x hx=>hc x (zaj _ hx)) (fun x hx=>hf x (zaj _ hx)) (by omega);refine⟨o',?_⟩;unfold lcF;show((c (some t::rest)).bind _)=_;rw[hc t zaq,hp];show lcF (gN 0) c f ts acc (some t::rest)=_;rw[h,List.filter_cons_of_neg (by rw[hp];decide)]
def Br{F:D->D}{rest:En}(ts acc:List D)(o:Option D)(hf:∀t∈ts,f (some t::rest)=some (F t,some t::rest))(hl:acc.length+ts.length<=sizeLine):
  ∃o',lcF (gN 0) cY f ts acc (o::rest)=some (acc++ts.map F,o'::rest):=by
 obtain⟨o',h⟩:=gt (c:=cY) (f:=f) (p:=fun _=>true) (F:=F) ts acc o (fun _ _=>rfl) (fun t ht _=>hf t ht) hl;rw[List.filter_eq_self.mpr (fun _ _=>rfl)]at h;exact⟨o',h⟩
end
section
variable{c:MT}{b:MS}{t1 t2 u:D}{x y:Bool}{as:List (D ⊕ Nat)}{ψ:En}{dps:List Nat}
def i8:100<=sizeLine:=by rw[sizeLine_eq];decide
end
namespace Pen2
def ek:MS:=(av (HD [((eC (.str "script")),(ac 0)),((eC (.str "at")),(ac 1)),((eC (.str "left")),(eC (.int 0)))]))
def da:List D->Option (D×En):=fnF 0 [0,0] ek
def fH:MS:=(aj (ay 2 (e2 bu (e2 bt (e2 be (e2 be (e2 bu (ac 0) (eC (.int 2147483629))) (e2 bt (eC (.int 40503)) (ac 1))) (eC (.int 24691))) (eC (.int 48271))) (eC (.int 2147483647))))
 (aj (ay 3 (e2 bu (e2 be (e2 be (e2 bt (ac 2) (ac 2)) (e2 bt (eC (.int 69621)) (ac 2))) (ac 1)) (eC (.int 2147483629))))
 (av (e2 ik (e2 bu (e2 be (e2 be (e2 bt (ac 3) (ac 3)) (e2 bt (eC (.int 16807)) (ac 3))) (e2 bt (eC (.int 31)) (ac 1))) (eC (.int 1073741789))) (eC (.int 64))))))
def ca:List D->Option (D×En):=fnF 2 [0,0] fH
def uy:MS:=(aj (ay 2 (j7 0 (eC (.str "at"))))
 (aj (ay 3 (j7 0 (eC (.str "script"))))
 (aj (sIf (tV (e2 eqD (j7 0 (eC (.str "left"))) (eC (.int 0)))) (aj (sP 0 (eC (.str "at")) (e2 be (ac 2) (eC (.int 1))))
 (aj (ay 4 (eC (.int 0)))
 (aj (sIf (tV (e2 gtI (eN bc (aa (ac 3) af)) (eC (.int 0)))) (ay 4 (e2 ixA (ac 3) (e2 bu (ac 2) (eN bc (aa (ac 3) af))))) aO)
 (aj (sIf (bOr (tV (e2 geI (ac 2) (eN bc (aa (ac 3) af)))) (tV (e2 ltI (eN uc (aa (ac 4) af)) (e2 ng (eC (.int 10)) (eC (.int 18)))))) (av (e2 bu (ai ca (aa (ac 4) (aa (ac 2) af))) (ac 1))) aO)
 (sP 0 (eC (.str "left")) (eN uc (aa (ac 4) af))))))) aO)
 (aj (ay 5 (e2 bu (j7 0 (eC (.str "left"))) (ac 1)))
 (aj (sP 0 (eC (.str "left")) (e2 ik (j7 0 (eC (.str "left"))) (ac 1)))
 (av (ac 5)))))))
def e6:List D->Option (D×En):=fnF 4 [1,0] uy
end Pen2
end L2
namespace L2
variable{P:Program}{w:World}{K:zbQ}{mg:Str->Option Value}{k dr:Nat}{x:Str}{ps N:List Str}{st:Stmt}{id:String}
open PySem PySem.Spec PyProof.Rows
def Gi(a b:Int):eqD (.int a) (.int b)=some (.bool (a==b)):=by
 show grd _ _=_;unfold grd;rw[if_pos ⟨rfl,rfl,zbg _⟩];simp only[peq]
def ER(a b:Int):neD (.int a) (.int b)=some (.bool (!(a==b))):=by
 show grd _ _=_;unfold grd;rw[if_pos ⟨rfl,rfl,zbg _⟩];simp only[peq]
structure Df(K:zbQ)(x:Str)(st:Stmt)(f:Addr):Prop where
 a:PySem.W.nsIn K mainGlobals x=some (some (.ref f))
 l:∃oc od kV dc pm an cd ct sl,K.lookup f=some ⟨oc,od,.func (PySem.W.fnOf x x (du st) (bP st) (ah st) .none kV dc pm an cd ct),sl⟩/\PySem.W.codeIn K cd x=true
 k:PySem.W.keepIn K (.ref f)=true
section
variable{base h:Heap}{dps:List Nat}{f:Addr}{sp:Sp}
def Df.mk'{oc:Value}{od an:Option Addr}{sl:Array (Option Value)}{kV dc pm cd ct:Value}(a:PySem.W.nsIn K mainGlobals x=some (some (.ref f)))(l:K.lookup f=some ⟨oc,od,.func (PySem.W.fnOf x x (du st) (bP st) (ah st) .none kV dc pm an cd ct),sl⟩)(c:PySem.W.codeIn K cd x=true)(k:PySem.W.keepIn K (.ref f)=true):Df K x st f:=
 ⟨a,⟨oc,od,kV,dc,pm,an,cd,ct,sl,l,c⟩,k⟩
def Df.kn(d:Df K x st f)(X:K.In h)(G:h.Ns mainGlobals mg)(b:∀(kV doc pm:Value) (an:Option Addr) (cdv ct:Value) (us:List Value),us.length=ps.length->bindArgs (PySem.W.fnOf x x (du st) (bP st) (ah st) .none kV doc pm an cdv ct) ⟨us,[]⟩=pure (ps.zip us))
  (ok:∀fd,Fun K x x st f fd->FnOk P w K mg base CX0 k f fd ps sp):Kn P w K mg base k x ps sp:=by
 obtain⟨_,_,_,_,_,_,_,_,_,l,c⟩:=d.l;have F:=vo (st:=st) l c d.k;exact⟨_,_,ok _ F,PySem.W.mg_of X G d.a,d.k,F.binds b⟩
end
section
variable{X:Cx}{p:Bool}{ds ds1 ds2 ds':List Nat}{d d1 d2:Nat}{a b e:Expr}{es:List Expr}{f f1 f2:ME}{fa:MA}{sh:Sh}{pos px:Pos}{J:Jd}{dps:List Nat}{F:List D->Option (D×En)}{g:List D->Option D}
abbrev vck(X:Cx)(x:Str)(i:Nat)(n:NameKind):Prop:=(X.N[i]?,X.env.scope.names.lookup x,x==("__debug__":Str),x==("__classdict__":Str))=(some x,some n,false,false)
def fv(i:Nat)(h:vck X x i .local:=by rfl)(h0:ds[i]?=some 0:=by rfl):QE X (.Name x pos) (tF K p ds ds 0 (ac i)):=by
 simp only[vck,za1]at h;exact lG h.1 (.inl h.2.1) h0 h.2.2.1 h.2.2.2
def fvc(i:Nat)(h:vck X x i .cell:=by rfl)(h0:ds[i]?=some 0:=by rfl):QE X (.Name x pos) (tF K p ds ds 0 (ac i)):=by
 simp only[vck,za1]at h;exact lG h.1 (.inr (.inl h.2.1)) h0 h.2.2.1 h.2.2.2
def fsl(i:Nat)(hr:QA X es (tFA K p ds ds2 sh fa))(h:vck X x i .local:=by rfl):QA X (.Name x pos::es) (tFA K p ds ds2 (.inr i::sh) (aC i fa)):=by
 simp only[vck,za1]at h;exact mx h.1 (.inl h.2.1) hr h.2.2.1 h.2.2.2
def gO(i:Nat)(hr:QA X es (tFA K p ds ds2 sh fa))(h:vck X x i .cell:=by rfl):QA X (.Name x pos::es) (tFA K p ds ds2 (.inr i::sh) (aC i fa)):=by
 simp only[vck,za1]at h;exact mx h.1 (.inr (.inl h.2.1)) hr h.2.2.1 h.2.2.2
def fs0(h:QE X e (tF K p ds ds' d f)):QE X e (tF K p ds ds' 0 f):=jo h (.zero _)
def frt(he:QE X e (tF K false ds ds1 J.dr f))(hd:leD J.dsr ds1=true:=by rfl):QSs X [.Return (some e) pos] (tFS K J ds ds' (av f)):=aJ (vw he hd)
abbrev cck(X:Cx)(x:Str)(e:Expr)(es:List Expr):Prop:=(X.env.kindOf x,x==("__debug__":Str),aH e,es.all aH)=(some .globalImplicit,false,true,true)
def fnn(G:Kn X.prog X.w X.K X.mg X.base k x ps (spF K dps dr F))(hr:Room k X.A)(ha:QA X (e::es) (tFA K p ds ds1 sh fa))(h:cck X x e es:=by rfl)(h2:(fI sh,cc ds1 sh dps)=(true,true):=by rfl):QE X (.Call (.Name x px) (e::es) [] pos) (tF K p ds ds1 dr (ai F fa)):=by
 simp only[cck,za1]at h h2;exact B5 G hr h.1 ha h2.1 h2.2 h.2.1 h.2.2.1 h.2.2.2
def fns(G:Kn X.prog X.w X.K X.mg X.base k x ps (spF K dps dr F))(hr:Room k X.A)(ha:QA X (e::es) (tFA K false ds ds1 sh fa))(h:cck X x e es:=by rfl)(h2:cc ds1 sh dps=true:=by rfl):QE X (.Call (.Name x px) (e::es) [] pos) (tF K false ds ds1 dr (ai F fa)):=by
 simp only[cck,za1]at h;exact xk G hr h.1 ha h2 h.2.1 h.2.2.1 h.2.2.2
def fcb(hc:CallR X (.builtin id) (rFn K g d))(hm:X.mg x=none)(hv:bootBuiltins x=some (.builtin id))(ha:QA X (e::es) (tFA K p ds ds1 sh fa))(h:cck X x e es:=by rfl)(h2:(bS 0 sh,x==("__name__":Str))=(true,false):=by rfl):QE X (.Call (.Name x px) (e::es) [] pos) (tF K p ds ds1 d (eN g fa)):=by
 simp only[cck,za1]at h h2;exact mw hc h.1 hm hv ha h2.1 (by simpa using h2.2) h.2.1 h.2.2.1 h.2.2.2
def fct(hc:CallR X (.type id) (rFn K g d))(hm:X.mg x=none)(hv:bootBuiltins x=some (.type id))(ha:QA X (e::es) (tFA K p ds ds1 sh fa))(h:cck X x e es:=by rfl)(h2:(bS 0 sh,x==("__name__":Str))=(true,false):=by rfl):QE X (.Call (.Name x px) (e::es) [] pos) (tF K p ds ds1 d (eN g fa)):=by
 simp only[cck,za1]at h h2;exact rE hc h.1 hm hv ha h2.1 (by simpa using h2.2) h.2.1 h.2.2.1 h.2.2.2
def fln(hK:X.K=K)(hm:X.mg "len"=none)(ha:QA X (e::es) (tFA K p ds ds1 sh fa))(h:cck X "len" e es:=by rfl)(h2:bS 0 sh=true:=by rfl):QE X (.Call (.Name "len" px) (e::es) [] pos) (tF K p ds ds1 3 (eN bc fa)):=by
 simp only[cck,za1]at h;exact mw (FH hK) h.1 hm (by decide +kernel) ha h2 (by decide) h.2.1 h.2.2.1 h.2.2.2
def fte(hK:X.K=K)(hu:X.A.units+64<cLine)(ha:QE X a (tF K p ds ds1 d1 f1))(hb:QE X b (tF K p ds1 ds2 d2 f2)):QT X (.Compare a [.Eq] [b] pos) (tFT K p ds ds2 (tV (e2 eqD f1 f2))):=aP (kO hK hu) ha hb (aN _)
def ftn(hK:X.K=K)(hu:X.A.units+64<cLine)(ha:QE X a (tF K p ds ds1 d1 f1))(hb:QE X b (tF K p ds1 ds2 d2 f2)):QT X (.Compare a [.NotEq] [b] pos) (tFT K p ds ds2 (tV (e2 neD f1 f2))):=aP (Hb hK hu) ha hb (aN _)
def fxi{n:Int}{j:Nat}{q:Pos}(hK:X.K=K)(ha:QE X a (tF K p ds ds1 d1 f1)):QE X (.Subscript a (.Constant (.int n) j q) pos) (tF K p ds ds1 0 (e2 ixA f1 (eC (.int n)))):=a5 (bC hK) ha ae fun _ _=>rfl
def aY(i:Nat)(ds':List Nat){pos':Pos}(hN:X.N.Nodup)(he:QE X e (tF K false ds ds1 d f))(h:(X.N[i]?,X.env.scope.names.lookup x,X.fn x)=(some x,some .local,true):=by rfl)(h2:(ds1.set i d,decide (i<ds1.length),J.lk.contains i)=(ds',true,false):=by rfl)(hs:swapsWith e (some (.Name x pos')) pos.line X.env=pure false:=by rfl):QS X (.Assign [.Name x pos'] e pos) (tFS K J ds ds' (ay i f)):=by
 simp only[za1,decide_eq_true_eq]at h h2;exact cR hN h.1 (.inl h.2.1) he h2.1 h2.2.1 (by simpa using h2.2.2) hs (.inl h.2.2)
def fsc{P:List Str}{sc:Scope}(a:sc.kind=.function:=by rfl)(b:sc.isCoroutine=false:=by rfl)(c:sc.isGenerator=false:=by rfl)(d:N.Nodup:=by decide +kernel)(e:N.take P.length=P:=by rfl)(f:∀x∈P,sc.names.lookup x=some .local\/sc.names.lookup x=some .cell:=by decide +kernel)(g:∀y∈sc.names,y.2≠.free:=by decide +kernel):FnScope N P sc:=⟨a,b,c,d,e,f,g⟩
def Fun.okR{base:Heap}{q:Str}{fa:Addr}{fd:FuncData}{n:Nat}{b:MS}(F:Fun K x q st fa fd)(S:FnScope N ps (ah st))(J:Jd)(ds0:List Nat)
  (hb:N.Nodup->∀(cdv:Value) (A:Around) (outer:List Env) (s:Shared) (H:Hp) (E:XK),Room k (A.deeper (envOfC q (ah st) s.heap.objs.size fa cdv))->QSs (j8 CX0 P w K mg base N q (ah st) fa cdv A outer s H E).nox (bP st) (tFS K J ds0 ds0 b)) (hl:dps.length=ps.length:=by rfl) (hn:N.length-dps.length=n:=by rfl) (hJ:J=⟨nr dps,dps++List.replicate n 0,dr,[]⟩:=by rfl) (hd:ds0=dps++List.replicate n 0:=by rfl):FnOk P w K mg base CX0 (k+1) fa fd ps (spF K dps dr (fnF n dps b)):=F.okQ S hl hn hJ hd (hb S.nd)
def ndk(l:List Str)(h:l.Nodup:=by decide +kernel):l.Nodup:=h
def fgn(i:Nat)(ds':List Nat){lk:List Nat}(hN:X.N.Nodup)(hi:X.N[i]?=some x:=by rfl)(hx:Loc X.env.scope x:=by exact .inl rfl)(hds:ds.set i 0=ds':=by rfl)(hl:i<ds.length:=by decide)(hk:i∉lk:=by decide)(hf:X.fn x=true\/X.env.scope.names.lookup x=some .local:=by first|exact .inl rfl|exact .inr rfl):QG X (.Name x pos) (tFG K lk ds ds' (gN i)):=tX hN hi hx hds hl hk hf
def fac(ha:QE X e (tF K p ds ds1 d f))(hr:QA X es (tFA K p ds1 ds2 sh fa))(hs:aH e=true:=by rfl):QA X (e::es) (tFA K p ds ds2 (.inl d::sh) (aa f fa)):=tY ha hr hs
end
abbrev MX:=En->Option Unit
abbrev MN:=En->Option Str
end L2
namespace L2
open PySem PySem.Spec PyProof.Rows Builtin Builtin.ObjectAttr Builtin.Getset_descriptor
end L2
namespace L2
open PySem PySem.Spec PyProof.Rows
def E5{P:Program}{w:World}{k:Key}{v:Value}(h:(bg P w).is k v=true):RelV (kV k) v:=by
 rcases aZ h with⟨i,t,e1,e2⟩|⟨x,t,e1,e2⟩
 ·have e:k=Sum.inl i:=e1;rw[e,e2];exact⟨t,rfl⟩
 ·have e:k=Sum.inr x:=e1;rw[e,e2];exact⟨t,rfl⟩
end L2
namespace L2
open PySem PySem.Spec PyProof.Rows Builtin
def HQ:List Int->Bool
 |[]=>true
 |x::r=>go x r true || go x r false
where go (x:Int):List Int->Bool->Bool
 |[],_=>true
 |y::r,true=>decide (x<=y)&&go y r true
 |y::r,false=>decide (y<x)&&go y r false
def A0(ns:List Int):Prop:=ns.length<64\/(HQ ns=true/\ns.length<=5000)
instance (ns:List Int):Decidable (A0 ns):=by unfold A0;exact inferInstance
end L2
namespace PySem
end PySem
namespace L2
open PySem PySem.Spec PyProof.Rows
end L2
namespace L2
open PySem PySem.Spec PyProof.Rows Builtin
end L2
namespace L2
open PySem PySem.Spec PyProof.Rows PySem.Calls
end L2
namespace L2
variable{K:zbQ}{O O' F:AS}{H H':Hp}{t:D}{d d' ep i:Nat}{v:V}{X:Cx}{σ:St}{a:Addr}{u:HO}{ks:List (D×D)}{vs:List (Key×V)}
open PySem PySem.Spec PyProof.Rows
def Ow.scaD{F':AS}(hs:L2.scaD t=true)(h:Ow K O H t d v F):Ow K O' H' t d' v F':=by
 cases t<;>first|exact h|cases hs
def uw(o:Obj)(ep:Nat):Prop:=∃es,o.data=.dict es ep
def FzD(H:Hp)(d:Addr)(kvs:List (Key×V))(ep:Nat):Prop:=∃o,H d=some (.frz o (.dK kvs))/\uw o ep
def Itk(d:Addr)(kvs:List (Key×V))(ep:Nat):It:=
 ⟨fun i H=>FzD H d kvs ep/\i<kvs.length,fun i H x H'=>H'=H/\∃kv,kvs[i]?=some kv/\x=kV kv.1,fun i H=>FzD H d kvs ep/\kvs.length<=i⟩
section
variable{ρ:List (Addr×Obj)}{s:Shared}{kvs:List (Key×V)} 
def qy(I:Inv X ρ σ H s)(h:FzD H a kvs ep):(a==sysModules)=false/\∃vs,KV kvs vs/\s.heap.DictAt (bg X.prog X.w) a vs ep:=by
 obtain⟨o,h1,es0,h2⟩:=h;obtain⟨g1,_,hd,vs,rel,o',es,ep',g2,g3,g4,g5⟩:=(show ObjOk X.prog X.w H s.heap a (.frz o (.dK kvs))from I.hok a _ h1);rw[g1]at g2;cases g2;have e:=g4.symm.trans h2;injection e with e1 e2
 subst e2;exact⟨hd,vs,rel,o,es,g1,g3,g4,g5⟩
def Inv.freeze(I:Inv X ρ σ H s)(e:H a=some (.dK kvs)):∃o ep,uw o ep/\Inv X ρ σ (upd H a (.frz o (.dK kvs))) s:=by
 obtain⟨z,hd,vs,rel,o,es,ep,g1,g2,g3,g4⟩:=AV I.hok e;refine⟨o,ep,⟨es,g3⟩,?_⟩;exact I.write (x:=a) (e:=a) (h':=s.heap) (t':=s.toks) (by rw[e];exact True.intro) (.inl rfl) (fun b u _ q=>q) ⟨o,g1⟩ ⟨g1,z,hd,vs,rel,o,es,ep,g1,g2,g3,g4⟩
def G4{vs:List (Key×Value)}(rel:KV kvs vs)(hi:i<kvs.length):∃kv v,kvs[i]?=some kv/\vs[i]?=some (kv.1,v)/\RelV kv.2 v:=by
 induction rel generalizing i with
 |nil=>simp at hi
 |@cons p q r t hpq hr ih=>
  cases i with
  |zero=>exact⟨p,q.2,rfl,by rw[hpq.1];rfl,hpq.2⟩
  |succ j=>exact ih (by simpa using hi)
def uG{P:Program}{w:World}{tg:Expr}(d it:Addr)(kvs:List (Key×V))(ep:Nat):Turn P w K tg (Itk d kvs ep) [it] it (fun i h=>h.IsKeyIter it d i kvs.length ep) where
 mem:=by simp
 obj:=fun i h st b hb=>by
  have e:b=it:=by simpa using hb
  subst e;obtain⟨o,e,c,d⟩:=st;exact⟨o,e,fun v z=>by rw[d]at z;cases z⟩
 keep:=fun i h h' st k=>st.at fun o e=>k it (by simp) o e
 item:=by
  intro X hP hw hK hc i ρ s σ H E I hf st hg;subst hP hw hK;obtain⟨fz,hi⟩:=hg;obtain⟨hd,vs,rel,dd⟩:=qy I fz;obtain⟨f0,f1,f2,f3,f4,f5⟩:=hf it (by simp);have hl:kvs.length=vs.length:=rel.length;obtain⟨kv,x,hkv,hx,_⟩:=G4 rel hi;rw[hl]at st;refine wpAny_pyNext_dict_item st dd hx fun key h' hkey hit' hs'=>?_;have I1:Inv X ρ σ H { s with heap:=h' }:=I.turned (t':=s.toks) (fun b o hb e=>hs'.extBut b o hb e) f0 f1 f3 f4 f5;obtain⟨o',e',c',d'⟩:=id hit';exact⟨key,rfl,kM (s:={ s with heap:=h' }) e' c' d' (by decide) ⟨kV kv.1,H,I1,E5 hkey,⟨rfl,kv,hkv,rfl⟩,(by rw[hl];exact hit'),fun b hb=>(hf b hb).1⟩⟩
 done:=by
  intro X hP hw hK hc i ρ s σ H E I hf st hg;subst hP hw hK;obtain⟨fz,hi⟩:=hg;obtain⟨hd,vs,rel,dd⟩:=qy I fz;obtain⟨f0,f1,f2,f3,f4,f5⟩:=hf it (by simp);have hl:kvs.length=vs.length:=rel.length;rw[hl]at st;exact wpAny_pyNext_dict_end (I.ok.hd hc) st dd (zbi (by omega)) fun h' eb=>⟨rfl,I.turned (t':=s.toks) (fun b o hb e=>eb b o hb e) f0 f1 f3 f4 f5⟩
 self:=fun _ _ _ _ _ st h=>wpAny_pyIter_keyiter st h
end
section
variable{l:Addr}{w0:HO}{ob:Obj}
def Dty:HO->Prop
 |.dK _=>True
 |.dT _ _=>True
 |_=>False
def Dty.ne{w:HO}(hw:Dty w)(hu:¬Dty u):u≠w:=fun z=>hu (z▸hw)
def pQ(hl:H l=some w0)(hw:Dty w0)(h:Rd H a u):Rd (upd H l (.frz ob w0)) a u:=by
 by_cases e:a=l
 ·subst e;rcases h with h|⟨o,h⟩
  ·rw[hl]at h;cases h;exact .inr ⟨ob,ax⟩
  ·rw[hl]at h;cases h;exact hw.elim
 ·exact h.mv fun o q=>by rw[au e];exact q
def gL(hl:H l=some w0)(h:H a=some u)(n:u≠w0):upd H l (.frz ob w0) a=some u:=by
 rw[au fun e=>?_]
 ·exact h
 ·subst e;rw[hl]at h;cases h;exact n rfl
mutual
theorem Ow.frzd(hl:H l=some w0)(hw:Dty w0):∀(t:D) {d:Nat} {v:V} {F:AS},¬F l->Ow K O H t d v F->Ow K O (upd H l (.frz ob w0)) t d v F
 |.none,_,_,_,_,h=>h
 |.bool _,_,_,_,_,h=>h
 |.int _,_,_,_,_,h=>h
 |.str _,_,_,_,_,h=>h
 |.tuple ts,_,_,_,g,h=>by
  obtain⟨a,vs,e,⟨h0,h1,h2⟩|⟨h0,h1,h2,F',hf,h3⟩⟩:=h
  ·exact⟨a,vs,e,.inl ⟨h0,⟨gL hl h1.1 (hw.ne id),h1.2⟩,Ows.frzd hl hw ts g h2⟩⟩
  ·exact⟨a,vs,e,.inr ⟨h0,gL hl h1 (hw.ne id),h2,F',hf,Ows.frzd hl hw ts (fun z=>g (hf _ z).1) h3⟩⟩
 |.list ts,_,_,_,g,h=>by
  obtain⟨a,vs,e,⟨h0,h1,h2⟩|⟨h0,h1,h2,F',hf,h3⟩⟩:=h
  ·exact⟨a,vs,e,.inl ⟨h0,h1.imp (fun h=>⟨pQ hl hw h.1,h.2⟩) id,Ows.frzd hl hw ts g h2⟩⟩
  ·exact⟨a,vs,e,.inr ⟨h0,gL hl h1 (hw.ne id),h2,F',hf,Ows.frzd hl hw ts (fun z=>g (hf _ z).1) h3⟩⟩
 |.dict ks,_,_,_,g,h=>by
  obtain⟨a,vs,e,⟨h0,h1,hn,h2⟩|⟨h0,h1,h2,F',hf,h3⟩|⟨h0,ht⟩|⟨h0,h1,hp⟩⟩:=h
  ·exact⟨a,vs,e,.inl ⟨h0,pQ hl hw h1,hn,Owd.frzd hl hw ks g h2⟩⟩
  ·refine⟨a,vs,e,.inr (.inl ⟨h0,?_,h2,F',hf,Owd.frzd hl hw ks (fun z=>g (hf _ z).1) h3⟩)⟩;have na:a≠l:=fun z=>g (by rw[<-z];exact h2);rw[au na];exact h1
  ·refine⟨a,vs,e,.inr (.inr (.inl ⟨h0,?_⟩))⟩;rcases ht with⟨hp,h3⟩|⟨x,C,h1,h0',h2,h3⟩
   ·exact .inl ⟨hp.toT (fun _ _ r=>pQ hl hw r) fun _ _ r=>gL hl r (hw.ne id),h3⟩
   ·exact .inr ⟨x,C,h1,h0',gL hl h2 (hw.ne id),h3⟩
  ·exact⟨a,vs,e,.inr (.inr (.inr ⟨h0,h1,hp.toT (fun _ _ r=>by rw[au fun z=>g (by rw[<-z];exact h1)];exact r) fun _ _ r=>gL hl r (hw.ne id)⟩))⟩
theorem Ows.frzd(hl:H l=some w0)(hw:Dty w0):∀(ts:List D) {d:Nat} {vs:List V} {F:AS},¬F l->Ows K O H ts d vs F->Ows K O (upd H l (.frz ob w0)) ts d vs F
 |[],_,_,_,_,h=>h
 |t::ts,_,_,_,g,h=>by
  obtain⟨v,r,F1,F2,e,h1,h2,h3,h4,h5⟩:=h;exact⟨v,r,F1,F2,e,h1,h2,h3,Ow.frzd hl hw t (fun z=>g (h1 _ z)) h4,Ows.frzd hl hw ts (fun z=>g (h2 _ z)) h5⟩
theorem Owd.frzd(hl:H l=some w0)(hw:Dty w0):∀(ts:List (D×D)) {d:Nat} {vs:List (Key×V)} {F:AS},¬F l->Owd K O H ts d vs F->Owd K O (upd H l (.frz ob w0)) ts d vs F
 |[],_,_,_,_,h=>h
 | (k,t)::ts,_,_,_,g,h=>by
  obtain⟨q,v,r,F1,F2,e,e2,h1,h2,h3,h4,h5⟩:=h;exact⟨q,v,r,F1,F2,e,e2,h1,h2,h3,Ow.frzd hl hw t (fun z=>g (h1 _ z)) h4,Owd.frzd hl hw ts (fun z=>g (h2 _ z)) h5⟩
end
def Owd.get{k:D}(h:Owd K O H ks 0 vs NoA)(hi:ks[i]?=some (k,t)):∃q v,vs[i]?=some (q,v)/\k=kD q/\Ow K O H t 0 v NoA:=by
 induction ks generalizing vs i with
 |nil=>simp at hi
 |cons p ks ih=>
  obtain⟨k',t'⟩:=p;obtain⟨q,v,r,F1,F2,e,e2,h1,h2,h3,h4,h5⟩:=h;subst e;cases i with
  |zero=>
   cases hi;exact⟨q,v,rfl,e2,Ow.any0 _ h4⟩
  |succ j=>
   obtain⟨q',v',g1,g2,g3⟩:=ih (vs:=r) (i:=j) (Owd.any0 ks h5) (by simpa using hi);exact⟨q',v',by simpa using g1,g2,g3⟩
end
def kys(ks:List (D×D)):List D:=ks.map fun q=>q.1
theorem l6{K:zbQ}{O:AS}{H:Hp}:∀{ks:List (D×D)} {vs:List (Key×V)} {d:Nat} {F:AS},Owd K O H ks d vs F->vs.length=ks.length
 |[],_,_,_,h=>by rw[show _=[]from h];rfl
 | (k,t)::ks,_,_,_,h=>by
  obtain⟨q,v,r,F1,F2,e,_,_,_,_,_,h5⟩:=h;rw[e,zac,zac,l6 h5]
def uC(hf:FzD H a vs ep)(hn:¬O a)(ow:Owd K O H ks 0 vs NoA):gR K O H (Itk a vs ep) (kys ks):=fun i H1 O1 h1 h2 h3=>by
 have fz:FzD H1 a vs ep:=let⟨o,e,q⟩:=hf;⟨o,h1 a _ e hn,q⟩;have hl:=l6 ow;refine⟨fun t ht=>?_,fun hl2=>⟨fz,by unfold kys at hl2;rw[zad]at hl2;omega⟩⟩;unfold kys at ht;rw[zao]at ht;obtain⟨⟨k,u⟩,h4,rfl⟩:=zab.mp ht;obtain⟨q,v,h5,rfl,_⟩:=ow.get h4;refine⟨⟨fz,(zah.mp h5).1⟩,fun x H2 ⟨e,kv,h6,h7⟩=>?_⟩;rw[h5]at h6;cases h6;subst e h7;refine⟨fun _ _ q=>q,?_⟩;cases q<;>exact rfl
def IV(fa:MA):MI:=fun en=>(fa en).bind fun r=>match r.1 with
 |[.inl (.list ts),.inl (.list us)]=>some (pA ts us,r.2)
 |[.inl (.tuple ts),.inl (.tuple us)]=>some (pA ts us,r.2)
 |_=>none
def mr:D->Bool
 |.list ts=>ts.all scaD
 |_=>false
def eUp(f:ME):ME:=fun en=>(f en).bind fun r=>if mr r.1=true then some r else none
theorem rP{d d':Nat}:∀{ts:List D} {vs:List V} {F F':AS},ts.all scaD=true->Ows K O H ts d vs F->Ows K O' H' ts d' vs F'
 |[],_,_,_,_,h=>h
 |t::ts,_,_,_,hs,h=>by
  obtain⟨v,r,F1,F2,e,h1,h2,h3,h4,h5⟩:=h;rw[List.all_cons,zbj]at hs;exact⟨v,r,NoA,NoA,e,fun _ z=>z.elim,fun _ z=>z.elim,fun _ z=>z.elim,h4.scaD hs.1,rP hs.2 h5⟩
def Bm(g:∀b o,H b=some o->H' b=some o)(hf:mr t=true)(hd:d≠0)(hd':d'≠0)(h:Ow K O H t d v F):Ow K O' H' t d' v F:=by
 cases t with
 |list ts=>
  obtain⟨a,vs,e,⟨z,_⟩|⟨_,h1,h2,F',hF,h3⟩⟩:=h
  ·exact absurd z hd
  ·exact⟨a,vs,e,.inr ⟨hd',g _ _ h1,h2,NoA,fun _ z=>z.elim,rP hf h3⟩⟩
 |_=>cases hf
section
variable{p:Bool}{ds ds0 ds1:List Nat}{j:Nat}{f fk:ME}{e:Expr}{Q:VK}{sx:Str}
def Ia(h:tF K p ds ds1 3 (eUp f) σ H Q):tF K p ds ds1 1 f σ H Q:=by
 obtain⟨Ox,en,R,t,en',e,hf,k⟩:=h;unfold eUp at hf;obtain⟨⟨t1,en1⟩,h1,hf⟩:=zaa.mp hf;by_cases hs:mr t1=true
 ·dsimp only at hf
  rw[if_pos hs]at hf;cases hf;exact⟨Ox,en,R,_,_,e,h1,fun v H' R' F P o=>k v H' R' F P (Bm (fun _ _ q=>q) hs (by decide) (by decide) o)⟩
 ·dsimp only at hf
  rw[if_neg hs]at hf;cases hf
def B2(h:QE X e (tF K p ds ds1 1 f)):QE X e (tF K p ds ds1 3 (eUp f)):=⟨h.h.imp fun _ _ _=>Ia⟩
end
def bs(val:Nat->Int):Nat->Int
 |0=>0
 |k+1=>if k=0\/val k>bs val k then val k else bs val k
end L2
namespace PySem
end PySem
namespace PySem
open PySem.SeqAt
end PySem
namespace L2
variable{K:zbQ}{p p1 p2:Bool}{ds ds1 ds2:List Nat}{H:Hp}{σ:St}{d d1 d2 dr i k:Nat}{Q:VK}{f:ME}{fa:MA}{sh:Sh}{F:List D->Option (D×En)}{x:Str}{ps:List Str}{es:List Expr}{px pos:Pos}
open PySem PySem.Spec PyProof.Rows
def tFk(K:zbQ)(ds ds':List Nat)(d i:Nat)(f:En->Option (D×En)):TE:=fun σ H Q=>
 ∃Ox en R t en',EnvOk K ds Ox H σ en R/\f en=some (t,en')/\∀v H' R' F,Post K false ds' Ox σ H en R en' H' R' F->(∀a o,H a=some o->R i a->H' a=some o)->en'[i]?=en[i]?->Ow K (Own R' (U F Ox)) H' t d v F->Q v H'
section
variable{ds0 ds' dps:List Nat}{Ox Ox' O O':AS}{H':Hp}{en en' en1 en2:En}{R R':Nat->AS}{d':Nat}{t t1 t2:D}{f1 f2:ME}{QA:List V->Hp->Prop} 
def Hz{E:XK}{i0:Nat}(hi0:∀j:Nat,sh[j]?≠some (.inr i0))(hc:cc ds1 sh dps=true)(h:tFk K ds ds1 dr i0 (ai F fa) σ H Q):lU (spF K dps dr F) [] E (tFA K true ds ds1 sh fa) σ H Q:=
 let⟨Ox,en,R,t,en',e,hf,k⟩:=h
 AU hc ⟨Ox,en,R,t,en',e,hf,fun v H' R' F P g o=>
  let⟨g1,g2⟩:=g rfl i0 hi0
  k v H' R' F ⟨P.env,P.fx,P.keep,P.own,P.dom,fun hp=>nomatch hp⟩ g1 g2 o⟩
end
section
variable{X:Cx}{J:Jd}{m:Nat}{fk fe:ME}{mp:MP}{e b o:Expr} 
def F7{dps:List Nat}(G:Kn X.prog X.w X.K X.mg X.base k x ps (spF K dps dr F))(hr:Room k X.A)(hg:Gl X x)(ha:PA X (e::es) (tFA K true ds ds1 sh fa))(hi:∀j:Nat,sh[j]?≠some (.inr i))(hcd:cc ds1 sh dps=true)(hdb:(x==("__debug__":Str))=false)
  (he:aH e=true) (hpl:es.all aH=true):
  PE X (.Call (.Name x px) (e::es) [] pos) (tFk K ds ds1 dr i (ai F fa)):=(sT G hr hg ha hdb (bR he) (fu hpl)).imp fun _ _ _ h=>Hz hi hcd h
def wI(h:sh.all (fun z=>match z with|.inl _=>true|.inr j=>j != i)=true):∀j:Nat,sh[j]?≠some (.inr i):=fun j z=>by
 have:=List.all_eq_true.mp h _ (zaX z);simp at this
def xn{dps:List Nat}(G:Kn X.prog X.w X.K X.mg X.base k x ps (spF K dps dr F))(hr:Room k X.A)(hg:Gl X x)(ha:QA X (e::es) (tFA K true ds ds1 sh fa))(hi:∀j:Nat,sh[j]?≠some (.inr i))(hcd:cc ds1 sh dps=true)(hdb:(x==("__debug__":Str))=false)
  (he:aH e=true) (hpl:es.all aH=true):
  QE X (.Call (.Name x px) (e::es) [] pos) (tFk K ds ds1 dr i (ai F fa)):=⟨F7 G hr hg ha.h hi hcd hdb he hpl⟩
end
end L2
namespace L2
open PySem PySem.Spec PyProof.Rows Builtin
end L2
namespace L2
variable{X:Cx}{K:zbQ}{ds ds1 ds2 lk ds' ds0 dsA:List Nat}{i d1 d2 d ep m r c:Nat}{f f1 f2 fk fe:ME}{σ σ':St}{H H' H1 H2:Hp}{Q E:Value->Shared->Prop}{p1 p2 p p3:Bool}{e b o tg elt iter k:Expr}{px pos ζ pz:Pos}{x z:Str}{prog:Program}{w:World}{A:Around}{s:Shared}{a:Addr}{kvs:TKs}{O Ox:AS}{ks:List (D×D)}{v:V}{ρ:List (Addr×Obj)}{w0 u:HO}{ob:Obj}{en en':En}{R R':Nat->AS}{J J':Jd}{g:MG}{st:Stmt}{ifs:List Expr}{scope:Scope}{ns:List Str}{mp:MP}
open PySem PySem.Spec PyProof.Rows
def qa:D->D->Option D
 |.bool a,.bool b=>some (.bool (!(a==b)))
 |_,_=>none
def r6:OpR X (compareOp .IsNot) (rF2 K qa 3):=by
 intro ρ s σ H x y v u Q I rx ry ⟨O,a,b,t,oa,ob,hd,hg,k⟩;unfold qa at hg;split at hg
 ·next a b=>
  cases hg;cases(show x=V.bl a from oa);cases(show y=V.bl b from ob);cases rx;cases ry;have q:=k (.bl (!(a==b))) H NoA .refl rfl;exact zaT ⟨.bl (!(a==b)),H,I,by cases a<;>cases b<;>rfl,q⟩
 ·cases hg
def dC{α:Type}(xs:List α)(n:Nat)(y:α):List α:=xs.take n++y::xs.drop n
def qv{α:Type}(xs:List α)(n:Nat)(y:α):(dC xs n y).length=xs.length+1:=by
 unfold dC;rw[zae,zac,zaE,zaF];omega
def rN:V->List V->Hp->VK->Prop:=fun x vs H Q=>∃l xs i y,x=.ref l/\vs=[.int i,y]/\H l=some (.lst xs)/\0<=i/\i<2 ^ 63/\xs.length<sizeLine/\Q .non (upd H l (.lst (dC xs i.toNat y)))
theorem Vals.takeV:∀{xs:List V} {us:List Value} (n:Nat),Vals xs us->Vals (xs.take n) (us.take n)
 |_,_,0,_=>by rw[List.take_zero,List.take_zero];exact .nil
 |_,_,n+1,.nil=>.nil
 |_,_,n+1,.cons r h=>.cons r (Vals.takeV n h)
theorem Vals.dropV:∀{xs:List V} {us:List Value} (n:Nat),Vals xs us->Vals (xs.drop n) (us.drop n)
 |_,_,0,h=>h
 |_,_,n+1,.nil=>.nil
 |_,_,n+1,.cons r h=>Vals.dropV n h
def uZ:MtM X "list.insert" rN:=by
 intro ρ s σ H x vs v us Q I rx rv h;obtain⟨l,xs,i,y,rfl,rfl,hH,h1,h2,hz,q⟩:=h;cases rx;obtain⟨u,w,rfl,ru,rw'⟩:=Ap rv;obtain⟨t,rfl⟩:=ru;obtain⟨z,its,n,r,hl,e⟩:=I.lstM hH;have hf:¬(!Builtin.List.listFitsIndex i)=true:=by rw[fitsIndex_both (by omega) h2];decide
 refine call_meets F.slot_list_insert ⟨_,e,rfl⟩ F.entry_list_insert (F.args_list_insert_3 _ _ _) (AutoSeq1.list_insert_list_int_val_1 l its.toArray n i t w hf (by rw[zai];omega)) ⟨e,?_⟩;refine⟨.non,_,I.lset (its':=dC its i.toNat w) hH e ?_ ?_ ?_,rfl,q⟩
 ·show(its.toArray.extract 0 (if i<0 then _ else min i.toNat its.toArray.size)).push w++its.toArray.extract (if i<0 then _ else min i.toNat its.toArray.size)=_;rw[if_neg (by omega)];apply Array.ext';rw[zai];by_cases hm:i.toNat<=its.length
  ·rw[Nat.min_eq_left hm];have tk:List.take (its.length-i.toNat) (List.drop i.toNat its)=List.drop i.toNat its:=List.take_of_length_le (by rw[zaF];exact zav _);simp[dC,tk]
  ·rw[Nat.min_eq_right (by omega)];simp[dC,List.take_of_length_le (show its.length<=i.toNat by omega),List.drop_of_length_le (show its.length<=i.toNat by omega)]
 ·exact(Vals.takeV _ r).append (.cons rw' (Vals.dropV _ r))
 ·rw[qv];omega
def nG(i:Nat)(f g:ME):ME:=fun en=>match (en[i]?).join with
 |some (.list _)=>(f en).bind fun r=>(g r.2).bind fun q=>match r.1,(q.2[i]?).join with
  |.int n,some (.list ts)=>if(0<=n/\n<2 ^ 63)/\ts.length<sizeLine then some (.none,q.2.set i (some (.list (dC ts n.toNat q.1))))else none
  |_,_=>none
 |_=>none
section
variable{g:ME}{Q:VK}{e2:Expr}{μ ω:Pos}
def Hy(hd:ds2[i]?=some 1)(h:tF K false ds ds2 3 (nG i f g) σ H Q):tBM K "list" rN (eA i) (ig (tF K p1 ds ds1 d1 f) (ig (tF K p2 ds1 ds2 0 g) pG)) σ H Q:=by
 obtain⟨Ox,en,R,t,en',e,hf,k⟩:=h;unfold nG at hf;split at hf
 case h_2=>cases hf
 next ts0 h0=>
 obtain⟨⟨t1,en1⟩,h1,hf⟩:=zaa.mp hf;obtain⟨⟨t2,en2⟩,h2,hf⟩:=zaa.mp hf;obtain⟨n,rfl⟩:∃n,t1=.int n:=by
  cases t1 with
  |int n=>exact⟨n,rfl⟩
  |_=>cases hf
 dsimp only at hf
 split at hf
 case h_2=>cases hf
 next m ts h9 h3=>
 cases h9;by_cases hn:(0<=n/\n<2 ^ 63)/\ts.length<sizeLine
 case neg=>rw[if_neg hn]at hf;cases hf
 rw[if_pos hn]at hf;cases hf;obtain⟨v,d0,a1,_,a3⟩:=e.at_ i _ (aK h0);obtain⟨l0,vs0,e0,sq⟩:=a3.sqL;refine⟨v,a1,by rw[e0];exact .inl ⟨rfl,vs0,sq⟩,?_⟩;refine two (p1:=p1) (p2:=p2) e h1 h2 fun x y H2 R2 F1 F2 P o1 o2=>?_;obtain⟨v',d',b1,b2,b3⟩:=P.env.at_ i _ (aK h3);rw[a1]at b1;cases b1;rw[hd]at b2;cases b2;obtain⟨l,vs,el,hl,hr,F',hf',ow⟩:=b3.ownL (by decide);have ex:x=.int n:=o1;have w2:=Ow.letgo P (fun _=>.inr) o2;refine⟨l,vs,n,y,el,by rw[ex],hl,hn.1.1,hn.1.2,by rw[ow.len];exact hn.2,?_⟩;have hi:i<en2.length:=(zah.mp (aK h3)).1;have gG:∀a,(fun a=>R2 i a) a->R2 i a\/U F1 F2 a:=fun a z=>.inl z;have sub:=mQ (i:=i) (R1:=R2) (Ox:=Ox) (G:=fun a=>R2 i a) (F':=NoA) (F:=U F1 F2) gG (fun _ z=>z.elim);have Ol:Own R2 (U (U F1 F2) Ox) l:=.inl ⟨i,hr⟩;have PS:=P.slot (G:=fun a=>R2 i a) (F':=NoA) (o2:=.lst (dC vs n.toNat y)) (t:=.list (dC ts n.toNat t2)) hr hi a1 hd gG (fun _ z=>z.elim) (fun _ _ z=>z) ?_
 ·exact k .non _ _ NoA PS rfl
 refine⟨l,dC vs n.toNat y,el,.inr ⟨by decide,ax,hr,NoA,fun _ z=>z.elim,?_⟩⟩;have ow0:Ows K (Own R2 (U (U F1 F2) Ox)) H2 ts 0 vs NoA:=Ows.any0 ts ow;have pt:Ows K (Own (fun j=>if j=i then(fun a=>R2 i a)else R2 j) (U NoA Ox)) (upd H2 l (.lst (dC vs n.toNat y))) ts 0 vs NoA:=Ows.past sub Ol (fun _ z=>z.elim) ow0;have py:Ow K (Own (fun j=>if j=i then(fun a=>R2 i a)else R2 j) (U NoA Ox)) (upd H2 l (.lst (dC vs n.toNat y))) t2 0 y NoA:=by
  refine Ow.past (O:=Own R2 Ox) (fun a z=>?_) (.inl ⟨i,hr⟩) (fun _ z=>z.elim) w2;rcases z with⟨j,z⟩|z|z
  ·by_cases hj:j=i
   ·rw[if_pos hj]at z;exact .inl ⟨i,z⟩
   ·rw[if_neg hj]at z;exact .inl ⟨j,z⟩
  ·exact z.elim
  ·exact .inr z
 exact Ows.app (Ows.take _ pt) (Ows.app (ts:=[t2]) (vs:=[y]) ⟨y,[],NoA,NoA,rfl,fun _ z=>z,fun _ z=>z,fun _ z=>z.elim,py,rfl⟩ (Ows.drop _ pt))
def xj(hK:X.K=K)(hN:X.N[i]?=some x)(hv:Vis X.env.scope x)(h1:ds2[i]?=some 1)(he:QE X e (tF K false ds ds1 d1 f))(he2:QE X e2 (tF K false ds1 ds2 0 g))
  (hd:(x==("__debug__":Str))=false) (hcd:(x==("__classdict__":Str))=false)
  (η:attributeBase (.Name x px) "insert" X.env (eval (.Name x px) X.env)=eval (.Name x px) X.env)
  (hfew:((backTo ω (starEach [e,e2] X.env)).all (fun x=>!x.1)&&(backToKw ω (keywordEach [] X.env)).all (fun x=>x.1.isSome)&&decide (([e,e2]:List Expr).length+([]:List Keyword).length+(if([]:List Keyword).isEmpty then 0 else 1)<30))=true)
  (θ:(μ.endLine==ω.line)=true) (hs:starEach [e,e2] X.env=(false,eval e X.env)::starEach [e2] X.env) (hs2:starEach [e2] X.env=[(false,eval e2 X.env)]) (ι:(backTo ω (starEach [e2] X.env)).any (·.1)=false):
  QE X (.Call (.Attribute (.Name x px) "insert" μ) [e,e2] [] ω) (tF K false ds ds2 3 (nG i f g)):=by
 subst hK;exact⟨(AD PySem.F.plainAttrs_list PySem.F.slot_list_insert PySem.F.type_list_insert uZ (cf hN hv hd hcd) (dk he.h (dk he2.h pa_nil hs2) hs) η hfew θ hs ι).imp fun _ _ _=>Hy h1⟩
end
def wH{vs:List (Key×Value)}(hd:(a==sysModules)=false)(dd:s.heap.DictOf (bg prog w) a vs)(h:Q (.bool true) { s with toks:=s.toks+1 }):wpAny (model prog w) A (compareOp .NotIn .none (.ref a)) Q E s:=by
 obtain⟨o,es,ep,ho,hc,hdat,hk,hp,_⟩:=dd;refine wpAny_notIn_of (knd:=dZ prog w) (k:=none) (f:=fun k=>findBy ph es k) rfl hd ⟨o,es,ep,ho,hc,hdat,fun e he=>?_,fun k=>rfl⟩ ?_
 ·obtain⟨k,h1,h2⟩:=hk e he;exact⟨some k,h1,h2⟩
 ·have e:findBy ph es none=none:=by
   unfold findBy;rw[Array.find?_eq_none.mpr]
   ·rfl
   ·intro x hx z;obtain⟨k,h1,_⟩:=hk x hx;rw[bT z]at h1;cases k<;>cases h1
  rw[e];exact h
def uK(ty td:TE):TE:=fun σ H Q=>ty σ H fun y H1=>td σ H1 fun x H2=>∃a,x=.ref a/\((y=.non/\∃kvs,Rd H2 a (.dK kvs)/\Q (.bl true) H2)\/∃o,DGet H2 a y o/\Q (.bl (!o.isSome)) H2)
section
variable{a i:Expr}{Q:VK}{ty td:TE}
def wC(hu:X.A.units+1<cLine)(hi:PE X i ty)(ho:PE X o td):PC X .NotIn i o (uK ty td):=by
 intro ρ s σ H Q I h;refine thn (hi ρ s σ H _ I h) fun iv s1 ⟨y,H1,I1,ry,q1⟩=>thn (ho ρ s1 σ H1 _ I1 q1) fun u s2 ⟨x,H2,I2,rx,a,ex,q2⟩=>?_;subst ex;obtain rfl:u=Value.ref a:=rx;rcases q2 with⟨rfl,kvs,e,q2⟩|⟨ov,g,q2⟩
 ·obtain rfl:iv=Value.none:=ry;obtain⟨z,hd,vs,rel,dd⟩:=kQ I2.hok e;exact wH hd dd ⟨.bl true,H2,I2.tok _,rfl,q2⟩
 ·exact Cf hu I2 g ry fun s3 I3=>⟨.bl (!ov.isSome),H2,I3,rfl,q2⟩
end
def sG:List (D×D)->Option TKs
 |[]=>some []
 | (.tuple ts,t)::r=>(cP ts).bind fun k=>if scaD t=true then(sG r).map ((k,t)::·)else none
 |_=>none
def dg:List (D×D)->Option TKs
 | (.none,.none)::r=>sG r
 |_=>none
theorem jR:∀kk:List (Option Key),cP (kk.map oD)=some kk
 |[]=>rfl
 |k::kk=>by
  have e:oOf (oD k)=some k:=by rcases k with _ | (_|_)<;>rfl
  show(oOf (oD k)).bind (fun k=>(cP (kk.map oD)).map (k::·))=_;rw[e,jR kk];rfl
theorem uI:∀kvs:TKs,(kvs.all fun q=>scaD q.2)=true->sG (kvs.map tkD)=some kvs
 |[],_=>rfl
 | (k,t)::r,h=>by
  rw[List.all_cons,zbj]at h;show(cP (k.map oD)).bind (fun k=>if scaD t=true then(sG (r.map tkD)).map ((k,t)::·)else none)=_;rw[jR k,uI r h.2];exact if_pos h.1
def pF(hs:(kvs.all fun q=>scaD q.2)=true):dg (tkL kvs)=some kvs:=uI kvs hs
def Ow.tks{F:AS}(h:dg ks=some kvs)(o:Ow K O H (.dict ks) d v F):(kvs.all fun q=>L2.scaD q.2)=true/\∃a ad,v=.ref a/\Rd H a (.dT (kvs.map tkV) ad)/\(d=0->¬O a)/\(d=4->F a/\H a=some (.dT (kvs.map tkV) ad))/\∀b,ad b->¬O b/\∃vs,H b=some (.tup vs):=by
 have fin:∀{rd:HO->Prop},PrD O H rd ks->(kvs.all fun q=>L2.scaD q.2)=true/\∃ad,rd (.dT (kvs.map tkV) ad)/\∀b,ad b->¬O b/\∃vs,H b=some (.tup vs):=fun {rd} ⟨l,ad,h2,h3,h4,h5⟩=>by
  subst h3;rw[pF h2]at h;cases h;exact⟨h2,ad,h4,h5⟩
 have owd:∀{d:Nat} {vs:List (Key×V)} {F:AS},Owd K O H ks d vs F->False:=fun {d vs F} w=>by
  cases ks with
  |nil=>cases h
  |cons q r=>
   obtain⟨k,t⟩:=q;obtain⟨q,v,r',F1,F2,_,e2,_⟩:=w;subst e2;cases q<;>cases h
 obtain⟨a,vs,e,⟨_,_,_,w⟩|⟨_,_,_,F',_,w⟩|⟨z,⟨p,n⟩|⟨cn,C,h1,_⟩⟩|⟨z,g,p⟩⟩:=o
 ·exact(owd w).elim
 ·exact(owd w).elim
 ·obtain⟨a2,ad,a3,a4⟩:=fin p;exact⟨a2,a,ad,e,a3,fun _=>n,(fun y=>by rw[z]at y;cases y),a4⟩
 ·subst h1;cases h
 ·obtain⟨a2,ad,a3,a4⟩:=fin p;exact⟨a2,a,ad,e,.inl a3,(fun y=>by rw[z]at y;cases y),fun _=>⟨g,a3⟩,a4⟩
def jM(kvs:TKs):List D:=kvs.map fun q=>.tuple (q.1.map oD)
theorem uW:∀kk:List (Option Key),Ows K O H (kk.map oD) 0 (kk.map oV) NoA
 |[]=>rfl
 |k::kk=>⟨oV k,kk.map oV,NoA,NoA,rfl,fun _ z=>z,fun _ z=>z,fun _ z=>z.elim,by rcases k with _ | (_|_)<;>exact rfl,uW kk⟩
section
variable{it d:Addr}{es:Array DictEntry}{od:Obj}{Q:Option Value->Shared->Prop}
def qf(hh:A.handled=none)(hit:s.heap.IsKeyIter it d i es.size ep)(hod:s.heap.get? d=some od)(hdd:od.data=.dict es ep)
  (h1:∀e h',es[i]?=some e->h'.IsKeyIter it d (i+1) es.size ep->Heap.SameBut it s.heap h'->Q (some e.key) { s with heap:=h' })
  (h2:es.size<=i->∀h',Heap.ExtBut it s.heap h'->Q none { s with heap:=h' }):wpAny (model prog w) A (pyNext (.ref it)) Q E s:=by
 have ty:=hit.typeIs;obtain⟨ob,g1,g2,g3⟩:=id hit;have nd:¬(Value.ref d==Value.none)=true:=nofun;have np:¬(i:Int)<0:=by omega
 have nm:∀{Q:String->Shared->Prop} {A:Around} {E:Value->Shared->Prop},Q "dict_keyiterator" s->wpAny (model prog w) A (typeNameOfWhole (.ref it)) Q E s:=fun h=>wpAny_typeNameOfWhole_keyiter ty h;have ow:Builtin.Dict_items.ownsTuple "dict_keyiterator"=false:=by decide
 have on:∀{s':Shared} {ts:List String} {Q:Bool->Shared->Prop} {A:Around} {E:Value->Shared->Prop},s'.TypeIs (.ref it) "dict_keyiterator"->Q (ts.any fun t=>[Value.type "dict_keyiterator",Value.type "object"].contains (.type t)) s'->wpAny (model prog w) A (Builtin.Dict_items.isOneOf (.ref it) ts) Q E s':=fun t h=>wpAny_isOneOf_keyiter t h;unfold pyNext;refine zam (wpAny_attempt (zbx (name:=Str.ofString "__next__") ty PySem.F.slot_dict_keyiterator_next (wpAny_call_entry PySem.F.slot_dict_keyiterator_next ty PySem.F.entry_dict_keyiterator_next ?_ (PySem.F.args_dict_keyiterator_next_1 _))));refine zam (zaT (zam (zam (zam (nm (zaT (zam (wpAny_fieldsOf g1 g3 ?_))))))));simp only[ow,Bool.false_eq_true,if_false]
 change wpAny _ _ (ite ((Value.ref d==Value.none)=true) _ _) _ _ s
 rw[if_neg nd];refine zam (zaT (zam (wpAny_dictEntries hod hdd ?_)));rw[if_neg (by simp)];refine zam (zaT (zam (wpAny_dictEpoch hod hdd ?_)));rw[if_neg (by simp)];refine zaT ?_;simp only[np,if_false,zaL];cases he:es[i]? with
 |some e=>
  have st:(s.heap.update it (Obj.mapFields (·.setIfInBounds 1 (rawInt ((i:Int)+1))))).IsKeyIter it d (i+1) es.size ep:=by
   refine⟨_,Heap.get?_update_self _ g1 (Obj.isFreed_of_fields (Obj.data_mapFields g3 _)),(Obj.cls_mapFields ..).trans g2,?_⟩;rw[Obj.data_mapFields g3];simp[rawInt]
  refine zam (zam (nm (zaT (zam (on ty ?_)))))
  change wpAny _ _ (setField (.ref it) 1 (rawInt ((i:Int)+1)) >>= _) _ _ s
  refine zam (wpAny_setField g1 g3 (by simp) (zam (zbM (zam (on st.typeIs ?_)))));exact zaT (zaT ⟨_,rfl,zaT (h1 e _ he st (Heap.SameBut.update ..))⟩)
 |none=>
  refine zam (zam (nm (zaT ?_)))
  change wpAny _ _ (setField (.ref it) 0 .none >>= _) _ _ s
  refine zam (wpAny_setField g1 g3 (by simp) ?_)
  change wpAny _ _ (newExc (.type "StopIteration") [] >>= _) _ _ _
  simp only[newExc,newTuple,raiseNew];refine zam (zam (wpAny_newObj_type (zam (m:=firstArgMember _ _) (wpAny_of_eq (a:=Value.none) (by first|rfl | (simp only[firstArgMember];rfl)) (wpAny_newObj_type (zam (wpAny_handled ?_)) (by size_fits)))) (by size_fits)));rw[show A.in1.handled=none from hh];refine zam (zaT (wpAny_throw ?_));refine zam (wpAny_isInstance (T:="StopIteration") (b:=true) ⟨_,zan _ rfl,rfl⟩ isSubtype_stop ?_);exact zaT (h2 (by simpa using he) _ (((Heap.SameBut.update ..).extBut.push _).push _))
def wX{Q:Value->Shared->Prop}(hs:(d==sysModules)=false)(hT:s.TypeIs (.ref d) "dict")(hod:s.heap.get? d=some od)(hdd:od.data=.dict es ep)
  (hq:Q (.ref s.heap.objs.size) { s with heap:=s.heap.push { cls:=.type "dict_keyiterator",data:=.fields #[.ref d,.int 0 0,.int es.size 0,.int ep 0] } }):wpAny (model prog w) A (pyIter (.ref d)) Q E s:=by
 have ns:¬(d==sysModules)=true:=by rw[hs];exact zbk
 refine wpAny_pyIter_slot hT PySem.F.slot_dict_iter (wpAny_call_entry PySem.F.slot_dict_iter hT PySem.F.entry_dict_iter ?_ (PySem.F.args_dict_iter_1 _));unfold Builtin.«dict.__iter__» Builtin.Dict.dictSlotNone;refine zam (zam (wpAny_notOrdered_dict hT ?_))
 change wpAny _ _ (pure (Value.ref d)) _ _ s
 refine zaT ?_
 change wpAny _ _ (Builtin.Dict.showsAll d >>= _) _ _ s
 unfold Builtin.Dict.showsAll;rw[if_neg ns];refine zam (zaT (zam (wpAny_dictEntries hod hdd (zam (wpAny_dictEpoch hod hdd ?_)))));exact zam (wpAny_newObj_type (zaT ⟨_,rfl,"dict_keyiterator",_,⟨_,zan _ rfl,rfl⟩,PySem.F.slot_dict_keyiterator_next.lookup,by simpa[rawInt]using hq⟩))
end
def nQ(H:Hp)(d:Addr)(kvs:List (List (Option Key)×V))(ad:Addr->Prop)(ep:Nat):Prop:=∃o,H d=some (.frz o (.dT kvs ad))/\uw o ep
def Gz(d:Addr)(kvs:List (List (Option Key)×V))(ad:Addr->Prop)(ep:Nat):It:=
 ⟨fun i H=>nQ H d kvs ad ep/\i<kvs.length,fun i H x H'=>H'=H/\∃kv b,kvs[i]?=some kv/\x=.ref b/\ad b/\H b=some (.tup (kv.1.map oV)),fun i H=>nQ H d kvs ad ep/\kvs.length<=i⟩
section
variable{kvs:List (List (Option Key)×V)}{ad:Addr->Prop} 
def nA(I:Inv X ρ σ H s)(h:nQ H a kvs ad ep):(a==sysModules)=false/\∃o es,s.heap.get? a=some o/\o.ExactDict/\o.data=.dict es ep/\es.size=kvs.length/\∀(i:Nat) e,es[i]?=some e->∃kv b,kvs[i]?=some kv/\e.key=.ref b/\ad b/\H b=some (.tup (kv.1.map oV)):=by
 obtain⟨o,h1,es0,h2⟩:=h;obtain⟨g1,zl,hd,xs,rel,o',es,ep',g2,g3,g4,g5,zn⟩:=(show ObjOk X.prog X.w H s.heap a (.frz o (.dT kvs ad))from I.hok a _ h1);rw[g1]at g2;cases g2;have e:=g4.symm.trans h2;injection e with e1 e2
 subst e2;have len:=Paired.length rel;refine⟨hd,o,es,g1,g3,g4,by rw[<-zaY,g5,zad];exact len.symm,fun i e he=>?_⟩;have he':es.toList[i]?=some e:=by simpa using he
 rw[g5,zao]at he';obtain⟨x,hx,rfl⟩:=zab.mp he';clear g5 len he he' h1 zl zn
 induction rel generalizing i with
 |nil=>simp at hx
 |@cons p q r t hpq hr ih=>
  cases i with
  |zero=>cases hx;exact⟨p,x.2.1,rfl,rfl,hpq.2.1.2,hpq.2.1.1⟩
  |succ j=>exact ih j hx
def Inv.freezeT(I:Inv X ρ σ H s)(e:H a=some (.dT kvs ad)):∃o ep,uw o ep/\Inv X ρ σ (upd H a (.frz o (.dT kvs ad))) s:=by
 have ok:=I.hok a _ e;obtain⟨z,hd,xs,rel,o,es,ep,g1,g2,g3,g4⟩:=(show ObjOk X.prog X.w H s.heap a (.dT kvs ad)from ok);refine⟨o,ep,⟨es,g3⟩,I.write (x:=a) (e:=a) (h':=s.heap) (t':=s.toks) (by rw[e];exact True.intro) (.inl rfl) (fun b u _ q=>q) ⟨o,g1⟩ ⟨g1,?_⟩⟩;exact ObjOk.stay ok (fun _ _ _ q=>q) (fun b q=>by rw[au (pi q e (fun z=>nomatch z))];exact q) fun b ys q=>by rw[au (pi q e (fun z=>nomatch z))];exact q
def sB{P:Program}(d it:Addr)(kvs:List (List (Option Key)×V))(ad:Addr->Prop)(ep:Nat):Turn P w K tg (Gz d kvs ad ep) [it] it (fun i h=>h.IsKeyIter it d i kvs.length ep) where
 mem:=by simp
 obj:=fun i h st b hb=>by
  have e:b=it:=by simpa using hb
  subst e;obtain⟨o,e,c,d⟩:=st;exact⟨o,e,fun v z=>by rw[d]at z;cases z⟩
 keep:=fun i h h' st k=>st.at fun o e=>k it (by simp) o e
 item:=by
  intro X hP hw hK hc i ρ s σ H E I hf st hg;subst hP hw hK;obtain⟨fz,hi⟩:=hg;obtain⟨hd,o,es,q1,q2,q3,q4,q5⟩:=nA I fz;obtain⟨f0,f1,f2,f3,f4,f5⟩:=hf it (by simp);rw[<-q4]at st;refine qf (I.ok.hd hc) st q1 q3 (fun e h' he hit' hs'=>?_) fun z=>absurd hi (by omega);obtain⟨kv,b,k1,k2,k3,k4⟩:=q5 i e he;have I1:Inv X ρ σ H { s with heap:=h' }:=I.turned (t':=s.toks) (fun b o hb e=>hs'.extBut b o hb e) f0 f1 f3 f4 f5;obtain⟨o',e',c',d'⟩:=id hit';exact⟨e.key,rfl,kM (s:={ s with heap:=h' }) e' c' d' (by decide) ⟨.ref b,H,I1,k2,⟨rfl,kv,b,k1,rfl,k3,k4⟩,(by rw[<-q4];exact hit'),fun b hb=>(hf b hb).1⟩⟩
 done:=by
  intro X hP hw hK hc i ρ s σ H E I hf st hg;subst hP hw hK;obtain⟨fz,hi⟩:=hg;obtain⟨hd,o,es,q1,q2,q3,q4,q5⟩:=nA I fz;obtain⟨f0,f1,f2,f3,f4,f5⟩:=hf it (by simp);rw[<-q4]at st;refine qf (I.ok.hd hc) st q1 q3 (fun e h' he _ _=>?_) fun _ h' eb=>⟨rfl,I.turned (t':=s.toks) (fun b o hb e=>eb b o hb e) f0 f1 f3 f4 f5⟩;obtain⟨kv,b,k1,_⟩:=q5 i e he;exact absurd (zah.mp k1).1 (by omega)
 self:=fun _ _ _ _ _ st h=>wpAny_pyIter_keyiter st h
def su{kvs:TKs}(hf:nQ H a (kvs.map tkV) ad ep)(hn:¬O a)(had:∀b,ad b->¬O b/\∃vs,H b=some (.tup vs)):gR K O H (Gz a (kvs.map tkV) ad ep) (jM kvs):=fun i H1 O1 h1 h2 h3=>by
 have fz:nQ H1 a (kvs.map tkV) ad ep:=let⟨o,e,q⟩:=hf;⟨o,h1 a _ e hn,q⟩;have ll:(jM kvs).length=(kvs.map tkV).length:=by unfold jM;rw[zad,zad]
 refine⟨fun t ht=>?_,fun hl2=>⟨fz,by omega⟩⟩;unfold jM at ht;rw[zao]at ht;obtain⟨q,h4,rfl⟩:=zab.mp ht;have h5:(kvs.map tkV)[i]?=some (tkV q):=by rw[zao,h4];rfl
 refine⟨⟨fz,(zah.mp h5).1⟩,fun x H2 ⟨e,kv,b,h6,h7,h8,h9⟩=>?_⟩;rw[h5]at h6;cases h6;subst e h7;refine⟨fun _ _ q=>q,b,_,rfl,.inl ⟨rfl,⟨h9,fun z=>?_⟩,uW _⟩⟩;obtain⟨n,vs,hv⟩:=had b h8;rcases h2 b z with z|z
 ·exact n z
 ·rw[hv]at z;cases z
end
def Inv.thaw(I:Inv X ρ σ H s)(e:H a=some (.frz ob w0))(hb:∀o u,X.H₀ a≠some (.frz o u)):Inv X ρ σ (upd H a w0) s:=by
 have nn:∀b,H b=none->upd H a w0 b=none:=fun b q=>by
  rw[au fun z=>?_]
  ·exact q
  ·subst z;rw[e]at q;cases q
 have ns:∀b u,H b=some u->(∀o w,u≠.frz o w)->upd H a w0 b=some u:=fun b u q n=>by
  rw[au fun z=>?_]
  ·exact q
  ·subst z;rw[e]at q;cases q;exact n _ _ rfl
 refine⟨I.ok,I.os,I.bare,⟨I.base.keep,I.base.slot,fun b o q n x=>nn b (I.base.free b o q n x),I.base.there,fun b xs q=>ns b _ (I.base.tups b xs q) (fun _ _ z=>nomatch z),fun b o u q=>?_,fun b ps q=>?_⟩,I.loc,I.cell,nn _ I.free,fun x c q=>nn _ (I.freeC x c q),fun p hp=>?_,fun b o q=>?_,I.len⟩
 ·rw[au fun z=>?_]
  ·exact I.base.frzs b o u q
  ·subst z;exact hb _ _ q
 ·obtain⟨more,q2⟩:=I.base.tbls b ps q;exact⟨more,ns b _ q2 (fun _ _ z=>nomatch z)⟩
 ·obtain⟨h1,h2,h3⟩:=I.pin p hp;exact⟨h1,nn _ h2,h3⟩
 ·by_cases hba:b=a
  ·subst hba;rw[ax]at q;cases q;obtain⟨_,q2⟩:=(show ObjOk X.prog X.w H s.heap b (.frz ob w0)from I.hok b _ e);exact ObjOk.stay q2 (fun _ _ _ z=>z) (fun c z=>ns c _ z (fun _ _ z=>nomatch z)) (fun c xs z=>ns c _ z (fun _ _ z=>nomatch z))
  ·rw[au hba]at q;exact ObjOk.stay (I.hok b o q) (fun _ _ _ z=>z) (fun c z=>ns c _ z (fun _ _ z=>nomatch z)) (fun c xs z=>ns c _ z (fun _ _ z=>nomatch z))
def Th(H H':Hp)(Q:Hp->Prop):Prop:=Q H'\/∃a o w0,H' a=some (.frz o w0)/\(∀o u,H a≠some (.frz o u))/\Q (upd H' a w0)
def D8(t:TE):TE:=fun σ H Q=>t σ H fun v H'=>Th H H' (Q v)
def Inv.th{s':Shared}{Q:Hp->Prop}(I:Inv X ρ σ H s)(I':Inv X ρ σ' H' s')(h:Th H H' Q):∃H2,Inv X ρ σ' H2 s'/\Q H2:=by
 rcases h with h|⟨a,o,kvs,e,n,h⟩
 ·exact⟨H',I',h⟩
 ·exact⟨_,I'.thaw e fun o u q=>n o u (I.base.frzs a o u q),h⟩
def GQ{t:TE}(h:PE X e t):PE X e (D8 t):=by
 intro ρ s σ H Q I q;refine thn (h ρ s σ H _ I q) ?_;rintro u s' ⟨v,H',I',r,q⟩;obtain⟨H2,I2,q⟩:=I.th I' q;exact⟨v,H2,I2,r,q⟩
section
variable{l:Addr} 
def pP(hl:H l=some (.frz ob w0))(n:∀o w,u≠.frz o w)(h:Rd H a u):Rd (upd H l w0) a u:=by
 by_cases e:a=l
 ·subst e;rcases h with h|⟨o,h⟩
  ·rw[hl]at h;cases h;exact absurd rfl (n _ _)
  ·rw[hl]at h;cases h;exact .inl ax
 ·exact h.mv fun o q=>by rw[au e];exact q
def fJ(hl:H l=some (.frz ob w0))(h:H a=some u)(n:∀o w,u≠.frz o w):upd H l w0 a=some u:=by
 rw[au fun e=>?_]
 ·exact h
 ·subst e;rw[hl]at h;cases h;exact n _ _ rfl
mutual
theorem Ow.thw(hl:H l=some (.frz ob w0)):∀(t:D) {d:Nat} {v:V} {F:AS},Ow K O H t d v F->Ow K O (upd H l w0) t d v F
 |.none,_,_,_,h=>h
 |.bool _,_,_,_,h=>h
 |.int _,_,_,_,h=>h
 |.str _,_,_,_,h=>h
 |.tuple ts,_,_,_,h=>by
  obtain⟨a,vs,e,⟨h0,h1,h2⟩|⟨h0,h1,h2,F',hf,h3⟩⟩:=h
  ·exact⟨a,vs,e,.inl ⟨h0,⟨fJ hl h1.1 (fun _ _ z=>nomatch z),h1.2⟩,Ows.thw hl ts h2⟩⟩
  ·exact⟨a,vs,e,.inr ⟨h0,fJ hl h1 (fun _ _ z=>nomatch z),h2,F',hf,Ows.thw hl ts h3⟩⟩
 |.list ts,_,_,_,h=>by
  obtain⟨a,vs,e,⟨h0,h1,h2⟩|⟨h0,h1,h2,F',hf,h3⟩⟩:=h
  ·exact⟨a,vs,e,.inl ⟨h0,h1.imp (fun h=>⟨pP hl (fun _ _ z=>nomatch z) h.1,h.2⟩) id,Ows.thw hl ts h2⟩⟩
  ·exact⟨a,vs,e,.inr ⟨h0,fJ hl h1 (fun _ _ z=>nomatch z),h2,F',hf,Ows.thw hl ts h3⟩⟩
 |.dict ks,_,_,_,h=>by
  obtain⟨a,vs,e,⟨h0,h1,hn,h2⟩|⟨h0,h1,h2,F',hf,h3⟩|⟨h0,ht⟩|⟨h0,h1,hp⟩⟩:=h
  ·exact⟨a,vs,e,.inl ⟨h0,pP hl (fun _ _ z=>nomatch z) h1,hn,Owd.thw hl ks h2⟩⟩
  ·exact⟨a,vs,e,.inr (.inl ⟨h0,fJ hl h1 (fun _ _ z=>nomatch z),h2,F',hf,Owd.thw hl ks h3⟩)⟩
  ·refine⟨a,vs,e,.inr (.inr (.inl ⟨h0,?_⟩))⟩;rcases ht with⟨hp,h3⟩|⟨x,C,h1,h0',h2,h3⟩
   ·exact .inl ⟨hp.toT (fun _ _ r=>pP hl (fun _ _ z=>nomatch z) r) fun _ _ r=>fJ hl r (fun _ _ z=>nomatch z),h3⟩
   ·exact .inr ⟨x,C,h1,h0',fJ hl h2 (fun _ _ z=>nomatch z),h3⟩
  ·exact⟨a,vs,e,.inr (.inr (.inr ⟨h0,h1,hp.toT (fun _ _ r=>fJ hl r (fun _ _ z=>nomatch z)) fun _ _ r=>fJ hl r (fun _ _ z=>nomatch z)⟩))⟩
theorem Ows.thw(hl:H l=some (.frz ob w0)):∀(ts:List D) {d:Nat} {vs:List V} {F:AS},Ows K O H ts d vs F->Ows K O (upd H l w0) ts d vs F
 |[],_,_,_,h=>h
 |t::ts,_,_,_,h=>by
  obtain⟨v,r,F1,F2,e,h1,h2,h3,h4,h5⟩:=h;exact⟨v,r,F1,F2,e,h1,h2,h3,Ow.thw hl t h4,Ows.thw hl ts h5⟩
theorem Owd.thw(hl:H l=some (.frz ob w0)):∀(ts:List (D×D)) {d:Nat} {vs:List (Key×V)} {F:AS},Owd K O H ts d vs F->Owd K O (upd H l w0) ts d vs F
 |[],_,_,_,h=>h
 | (k,t)::ts,_,_,_,h=>by
  obtain⟨q,v,r,F1,F2,e,e2,h1,h2,h3,h4,h5⟩:=h;exact⟨q,v,r,F1,F2,e,e2,h1,h2,h3,Ow.thw hl t h4,Owd.thw hl ts h5⟩
end
def Ow.dict0n{F:AS}(hk:noT ks=true)(h:Ow K O H (.dict ks) 0 v F):∃a vs,v=.ref a/\Rd H a (.dK vs)/\¬O a/\Owd K O H ks 0 vs NoA:=by
 obtain⟨a,vs,e,rd,ow⟩:=Ow.dict0 hk (Ow.any0 _ h);obtain⟨a',vs',e',⟨_,h1,hn,h2⟩|⟨z,_⟩|⟨_,ht⟩|⟨z,_⟩⟩:=h
 ·rw[e]at e';cases e';exact⟨a,vs,e,rd,hn,ow⟩
 ·exact absurd rfl z
 ·rw[e]at e';cases e';rcases ht with⟨⟨l,ad,g2,g3,h2,_⟩,h3⟩|⟨x,C,h1,h0',h2,h3⟩
  ·rcases rd with rd|⟨o,rd⟩<;>rcases h2 with h2|⟨_,h2⟩<;>rw[h2]at rd<;>cases rd
  ·rcases rd with rd|⟨o,rd⟩<;>rw[h2]at rd<;>cases rd
 ·cases z
end
section
variable{F:AS}  
def EnvOk.frzd(e:EnvOk K ds Ox H1 σ en R)(ha:H1 a=some w0)(hw:Dty w0)(na:∀i,¬R i a):EnvOk K ds Ox (upd H1 a (.frz ob w0)) σ en R:=by
 refine⟨fun i t h=>?_,e.dj,e.dx,fun b z=>?_,e.l1,e.l2⟩
 ·obtain⟨v,d,g1,g2,g3⟩:=e.at_ i t h;exact⟨v,d,g1,g2,Ow.frzd ha hw t (na i) g3⟩
 ·by_cases hb:b=a
  ·subst hb;exact⟨_,ax⟩
  ·rw[au hb];exact e.dom b z
def PostS.thw(ha:H1 a=some w0)(na:∀i,¬R i a)(P:PostS K lk ds' Ox σ (upd H1 a (.frz ob w0)) R σ' en' H' R' F):H' a=some (.frz ob w0)/\PostS K lk ds' Ox σ H1 R σ' en' (upd H' a w0) R' F:=by
 have hl:H' a=some (.frz ob w0):=P.keep a _ ax na;refine⟨hl,⟨fun i t h=>?_,P.env.dj,P.env.dx,fun b z=>?_,P.env.l1,P.env.l2⟩,P.fx,fun b o q n=>?_,fun b z=>?_,fun b o q=>?_,P.lk⟩
 ·obtain⟨v,d,g1,g2,g3⟩:=P.env.at_ i t h;exact⟨v,d,g1,g2,Ow.thw hl t g3⟩
 ·by_cases hb:b=a
  ·subst hb;exact⟨_,ax⟩
  ·rw[au hb];exact P.env.dom b z
 ·by_cases hb:b=a
  ·subst hb;rw[ha]at q;cases q;exact ax
  ·rw[au hb];exact P.keep b o (by rw[au hb];exact q) n
 ·rcases P.own b z with z|z
  ·exact .inl z
  ·right
   by_cases hb:b=a
   ·subst hb;rw[ax]at z;cases z
   ·rw[au hb]at z;exact z
 ·by_cases hb:b=a
  ·subst hb;exact⟨_,ax⟩
  ·rw[au hb];exact P.dom b o (by rw[au hb];exact q)
end
def Fz(H1:Hp)(a:Addr)(w0:HO)(H2:Hp):Prop:=(∃ob,H1 a=some w0/\Dty w0/\H2=upd H1 a (.frz ob w0))\/H2=H1
def zks(ks:List (D×D)):Option (List D):=if noT ks=true then some (kys ks)else(dg ks).map jM
def Ef(K:zbQ)(ds:List Nat)(f:ME):TI:=fun σ H RJ=>
 ∃Ox en R ks ts en',EnvOk K ds Ox H σ en R/\f en=some (.dict ks,en')/\zks ks=some ts/\∀J H1 a w0 H2,Post K true ds Ox σ H en R en' H1 R NoA->¬Own R Ox a->Fz H1 a w0 H2->gR K (Own R Ox) H2 J ts->RJ J H2
def iDz(f:ME):MI:=fun en=>(f en).bind fun r=>match r.1 with
 |.dict ks=>(zks ks).map fun ts=>(ts,r.2)
 |_=>none
section
variable{it:Expr}{m:MS}{D:Ends}{body:List Stmt} 
def HZ(hK:X.K=K)(he:PE X it (tF K true ds ds 0 f)):PI X tg it (Ef K ds f):=by
 subst hK;intro ρ s σ H R I h;obtain⟨Ox,en,Rg,ks,ts,en',e,hf,hT,k⟩:=h;refine thn (he ρ s σ H (fun v H1=>∃R1 F,Post X.K true ds Ox σ H en Rg en' H1 R1 F/\Ow X.K (Own R1 (U F Ox)) H1 (.dict ks) 0 v F) I ⟨Ox,en,Rg,.dict ks,en',e,hf,fun v H1 R1 F P o=>⟨R1,F,P,o⟩⟩) fun v s1 ⟨y,H1,I1,r1,R1,F,P,o⟩=>?_;have eR:=(P.pure rfl).2.1;subst eR;have sub:∀b,Own R1 Ox b->Own R1 (U F Ox) b:=fun b z=>z.imp id .inr;have P':=P.less (F':=NoA) fun _ z=>z.elim;unfold zks at hT;by_cases hn:noT ks=true
 ·rw[if_pos hn]at hT;cases hT;obtain⟨a,vs,ey,rd,na,ow⟩:=Ow.dict0n hn o;subst ey;cases r1;have nO:¬Own R1 Ox a:=fun z=>na (sub a z);have ow1:Owd X.K (Own R1 Ox) H1 ks 0 vs NoA:=Owd.grow sub ks (fun _ z=>z) ow;obtain⟨H2,ep,fz,F2,I2,ow2⟩:∃H2 ep,FzD H2 a vs ep/\Fz H1 a (.dK vs) H2/\Inv X ρ σ H2 s1/\Owd X.K (Own R1 Ox) H2 ks 0 vs NoA:=by
   rcases rd with hd|⟨ob,hd⟩
   ·obtain⟨o,ep,he,I2⟩:=I1.freeze hd;exact⟨_,ep,⟨o,ax,he⟩,.inl ⟨o,hd,trivial,rfl⟩,I2,Owd.frzd hd trivial ks (fun z=>z) ow1⟩
   ·obtain⟨g1,_,_,_,_,o',es,ep,g2,_,g4,_⟩:=(show ObjOk X.prog X.w H1 s1.heap a (.frz ob (.dK vs))from I1.hok a _ hd);rw[g1]at g2;cases g2;exact⟨H1,ep,⟨ob,hd,es,g4⟩,.inr rfl,I1,ow1⟩
  obtain⟨hds,us,rel,dd⟩:=qy I2 fz;refine wpAny_pyIter_dict hds dd ?_;refine⟨s1.heap.objs.size,[s1.heap.objs.size],_,_,_,rfl,I2.kept (t':=s1.toks) fun b o e=>zaf _ e,uG a _ vs ep,⟨_,zan _ rfl,rfl,by rw[rel.length];rfl⟩,fun b hb=>?_,k _ H1 a _ H2 P' nO F2 (uC fz nO ow2)⟩;have e:b=s1.heap.objs.size:=by simpa using hb
  subst e;exact I2.fpOk (zav _) (I2.hok.fresh (zav _))
 ·rw[if_neg hn]at hT;obtain⟨kvs,hv,rfl⟩:=zab.mp hT;obtain⟨_,a,ad,ey,rd,na,_,had⟩:=o.tks hv;subst ey;cases r1;have nO:¬Own R1 Ox a:=fun z=>na rfl (sub a z);obtain⟨H2,ep,fz,F2,I2,hd2⟩:∃H2 ep,nQ H2 a (kvs.map tkV) ad ep/\Fz H1 a (.dT (kvs.map tkV) ad) H2/\Inv X ρ σ H2 s1/\∀b,ad b->¬Own R1 Ox b/\∃vs,H2 b=some (.tup vs):=by
   rcases rd with hd|⟨ob,hd⟩
   ·obtain⟨o,ep,he,I2⟩:=I1.freezeT hd;exact⟨_,ep,⟨o,ax,he⟩,.inl ⟨o,hd,trivial,rfl⟩,I2,fun b z=>⟨fun y=>(had b z).1 (sub b y),(had b z).2.imp fun vs q=>gL hd q (fun y=>nomatch y)⟩⟩
   ·obtain⟨g1,_,_,_,_,o',es,ep,g2,_,g4,_⟩:=(show ObjOk X.prog X.w H1 s1.heap a (.frz ob (.dT (kvs.map tkV) ad))from I1.hok a _ hd);rw[g1]at g2;cases g2;exact⟨H1,ep,⟨ob,hd,es,g4⟩,.inr rfl,I1,fun b z=>⟨fun y=>(had b z).1 (sub b y),(had b z).2⟩⟩
  obtain⟨hds,ob,es,q1,q2,q3,q4,_⟩:=nA I2 fz;refine wX hds ⟨ob,q1,q2.1⟩ q1 q3 ?_;refine⟨s1.heap.objs.size,[s1.heap.objs.size],_,_,_,rfl,I2.kept (t':=s1.toks) fun b o e=>zaf _ e,sB a _ (kvs.map tkV) ad ep,⟨_,zan _ rfl,rfl,by rw[q4];rfl⟩,fun b hb=>?_,k _ H1 a _ H2 P' nO F2 (su fz nO hd2)⟩;have e:b=s1.heap.objs.size:=by simpa using hb
  subst e;exact I2.fpOk (zav _) (I2.hok.fresh (zav _))
end
mutual
def cs:Nat->D->Bool
 |_,.none=>true
 |_,.bool _=>true
 |_,.int _=>true
 |_,.str _=>true
 |d,.tuple ts=>d != 0&&cD (dn d) ts
 |d,.list ts=>d != 0&&cD (dn d) ts
 |d,.dict ks=>(d != 0&&d != 4)&&lX (dn d) ks
def cD:Nat->List D->Bool
 |_,[]=>true
 |d,t::ts=>cs d t&&cD d ts
def lX:Nat->List (D×D)->Bool
 |_,[]=>true
 |d,(_,t)::ts=>cs d t&&lX d ts
end
section
variable{O':AS} 
mutual
theorem Ow.self:∀(t:D) {d:Nat} {v:V} {F:AS},cs d t=true->Ow K O H t d v F->Ow K O' H t d v F
 |.none,_,_,_,_,h=>h
 |.bool _,_,_,_,_,h=>h
 |.int _,_,_,_,_,h=>h
 |.str _,_,_,_,_,h=>h
 |.tuple ts,d,_,_,g,h=>by
  unfold cs at g;rw[zbj]at g;have hd:d≠0:=by simpa using g.1
  obtain⟨a,vs,e,⟨h0,_⟩|⟨h0,h1,h2,F',hf,h3⟩⟩:=h
  ·exact absurd h0 hd
  ·exact⟨a,vs,e,.inr ⟨h0,h1,h2,F',hf,Ows.self ts g.2 h3⟩⟩
 |.list ts,d,_,_,g,h=>by
  unfold cs at g;rw[zbj]at g;have hd:d≠0:=by simpa using g.1
  obtain⟨a,vs,e,⟨h0,_⟩|⟨h0,h1,h2,F',hf,h3⟩⟩:=h
  ·exact absurd h0 hd
  ·exact⟨a,vs,e,.inr ⟨h0,h1,h2,F',hf,Ows.self ts g.2 h3⟩⟩
 |.dict ks,d,_,_,g,h=>by
  unfold cs at g;rw[zbj]at g;have hd:d≠0/\d≠4:=by simpa using g.1
  obtain⟨a,vs,e,⟨h0,_⟩|⟨h0,h1,h2,F',hf,h3⟩|⟨h0,_⟩|⟨h0,hp⟩⟩:=h
  ·exact absurd h0 hd.1
  ·exact⟨a,vs,e,.inr (.inl ⟨h0,h1,h2,F',hf,Owd.self ks g.2 h3⟩)⟩
  ·exact absurd h0 hd.1
  ·exact absurd h0 hd.2
theorem Ows.self:∀(ts:List D) {d:Nat} {vs:List V} {F:AS},cD d ts=true->Ows K O H ts d vs F->Ows K O' H ts d vs F
 |[],_,_,_,_,h=>h
 |t::ts,_,_,_,g,h=>by
  unfold cD at g;rw[zbj]at g;obtain⟨v,r,F1,F2,e,h1,h2,h3,h4,h5⟩:=h;exact⟨v,r,F1,F2,e,h1,h2,h3,Ow.self t g.1 h4,Ows.self ts g.2 h5⟩
theorem Owd.self:∀(ts:List (D×D)) {d:Nat} {vs:List (Key×V)} {F:AS},lX d ts=true->Owd K O H ts d vs F->Owd K O' H ts d vs F
 |[],_,_,_,_,h=>h
 | (k,t)::ts,_,_,_,g,h=>by
  unfold lX at g;rw[zbj]at g;obtain⟨q,v,r,F1,F2,e,e2,h1,h2,h3,h4,h5⟩:=h;exact⟨q,v,r,F1,F2,e,e2,h1,h2,h3,Ow.self t g.1 h4,Owd.self ts g.2 h5⟩
end
end
def ja(d:Nat):Option D->Option D
 |some t=>if cs d t=true then some t else none
 |none=>none
def bh:List Bool->List Nat->En->En->En
 |b::bs,d::ds,x::en,y::en'=>(if b then x else ja d y)::bh bs ds en en'
 |_,_,_,_=>[]
theorem jX:∀{bs:List Bool} {ds:List Nat} {en en':En} {s:Nat} {t:D},(bh bs ds en en')[s]?=some (some t)->(bs[s]?=some true/\en[s]?=some (some t))\/(bs[s]?=some false/\en'[s]?=some (some t)/\∃d,ds[s]?=some d/\cs d t=true)
 |[],_,_,_,_,_,h=>by simp[bh]at h
 |_::_,[],_,_,_,_,h=>by simp[bh]at h
 |_::_,_::_,[],_,_,_,h=>by simp[bh]at h
 |_::_,_::_,_::_,[],_,_,h=>by simp[bh]at h
 |b::bs,d::ds,x::en,y::en',0,t,h=>by
  have h':(if b then x else ja d y)=some t:=by simpa[bh]using h
  cases b with
  |true=>exact .inl ⟨rfl,congrArg some h'⟩
  |false=>
   cases y with
   |none=>cases h'
   |some u=>
    have h2:(if cs d u=true then some u else none)=some t:=h';by_cases hs:cs d u=true
    ·rw[if_pos hs]at h2;cases h2;exact .inr ⟨rfl,rfl,d,rfl,hs⟩
    ·rw[if_neg hs]at h2;cases h2
 |b::bs,d::ds,x::en,y::en',s+1,t,h=>by
  have h':(bh bs ds en en')[s]?=some (some t):=by simpa[bh]using h
  simpa using jX h'
theorem jW:∀{bs:List Bool} {ds:List Nat} {en en':En},bs.length=ds.length->en.length=ds.length->en'.length=ds.length->(bh bs ds en en').length=ds.length
 |[],[],_,_,_,_,_=>rfl
 |_::_,_::ds,[],_,_,h,_=>by cases h
 |_::_,_::ds,_::_,[],_,_,h=>by cases h
 |b::bs,d::ds,x::en,y::en',h1,h2,h3=>by
  show(bh bs ds en en').length+1=ds.length+1;rw[jW (Nat.succ.inj h1) (Nat.succ.inj h2) (Nat.succ.inj h3)]
 |[],_::_,_,_,h,_,_=>by cases h
 |_::_,[],_,_,h,_,_=>by cases h
def kI(bs:List Bool)(ds':List Nat)(m:MS):MS:=fun en=>(m en).bind fun fl=>match fl with
 |.nx en'=>some (.nx (bh bs ds' en en'))
 |_=>none
def ma(i:Nat)(bs:List Bool)(ds:List Nat)(lk:List Nat):Bool:=bs[i]?==some true&&bs.length==ds.length&&(List.range bs.length).all fun s=>!(bs[s]?==some true) || (lk.contains s&&(s==i || ds[s]?==some 0))
section
variable{bs:List Bool}{m:MS}{D:Ends}  
def BI(hi:ds[i]?=some d)(h0:ds.set i 0=ds0)(h1:ds1.set i d=ds')(hb:ma i bs ds J'.lk=true)(hlk:∀j∈J.lk,j∈J'.lk)(hk:∀s:Nat,bs[s]?=some true->ds'[s]?=ds[s]?)(hl:ds'.length=ds.length)
  (h:tFS K J ds ds' (kI bs ds' m) D σ H):tFS K J' ds0 ds1 m D σ H:=by
 obtain⟨Ox,en,R,fl,e,hf,k⟩:=h;unfold kI at hf;obtain⟨fl0,hm,hf⟩:=zaa.mp hf;cases fl0 with
 |ct _=>cases hf
 |rt _ _=>cases hf
 |nx en'=>
  cases hf;unfold ma at hb;rw[zbj,zbj,List.all_eq_true]at hb;obtain⟨⟨b1,b2⟩,b3⟩:=hb;have bi:bs[i]?=some true:=by simpa using b1
  have bl:bs.length=ds.length:=by simpa using b2
  have bz:∀s:Nat,bs[s]?=some true->s∈J'.lk/\(s=i\/ds[s]?=some 0):=fun s q=>by
   have hs:s<bs.length:=(zah.mp q).1
   have:=b3 s (zbn.mpr hs);rw[q]at this;simpa using this
  have il:i<ds.length:=(zah.mp hi).1;have sub:∀b,Own (fun s b=>s≠i/\R s b) Ox b->Own R Ox b:=fun b z=>z.imp (fun⟨s,z⟩=>⟨s,z.2⟩) id;have nR:∀b,R i b->¬Own (fun s b=>s≠i/\R s b) Ox b:=fun b z z2=>by
   rcases z2 with⟨s,z2⟩|z2
   ·exact z2.1 (e.dj s i b z2.2 z)
   ·exact e.dx i b z z2
  have E0:EnvOk K ds0 Ox H σ en (fun s b=>s≠i/\R s b):=by
   refine⟨fun s t h=>?_,fun s s' b z z'=>e.dj s s' b z.2 z'.2,fun s b z=>e.dx s b z.2,fun b z=>e.dom b (sub b z),e.l1,by rw[<-h0,zaV];exact e.l2⟩;obtain⟨v,d',g1,g2,g3⟩:=e.at_ s t h;by_cases hs:s=i
   ·subst hs;refine⟨v,0,g1,?_,Ow.fz sub nR g3⟩;rw[<-h0];exact zaP il
   ·refine⟨v,d',g1,?_,Ow.grow sub t (fun b z=>⟨hs,z⟩) g3⟩;rw[<-h0,zaO (Ne.symm hs)];exact g2
  refine⟨Ox,en,_,.nx en',E0,hm,fun σ' H' R' P=>?_⟩;have kp:∀a o,H a=some o->(¬Own R Ox a\/R i a)->H' a=some o:=fun a o q z=>by
   refine P.keep a o q fun s zs=>?_;rcases z with z|z
   ·exact z (.inl ⟨s,zs.2⟩)
   ·exact zs.1 (e.dj s i a zs.2 z)
  have ow':∀s b,R' s b->(∃j,R j b/\j≠i)\/H b=none:=fun s b z=>(P.own b (.inr ⟨s,z⟩)).imp (fun⟨j,z⟩=>⟨j,z.2,z.1⟩) id;have nRi:∀s b,R' s b->¬R i b:=fun s b z z2=>by
   rcases ow' s b z with⟨j,z3,z4⟩|z3
   ·exact z4 (e.dj j i b z3 z2)
   ·obtain⟨o,q⟩:=e.dom b (.inl ⟨i,z2⟩);rw[z3]at q;cases q
  have oo:∀a,Own (fun s b=>(s=i/\R i b)\/(bs[s]?=some false/\R' s b)) (U NoA Ox) a->Own R Ox a\/H a=none:=fun a z=>by
   rcases z with⟨s,⟨_,z⟩|⟨_,z⟩⟩|z|z
   ·exact .inl (.inl ⟨i,z⟩)
   ·exact(ow' s a z).imp (fun⟨j,z,_⟩=>.inl ⟨j,z⟩) id
   ·exact z.elim
   ·exact .inl (.inr z)
  refine k σ' H' (fun s b=>(s=i/\R i b)\/(bs[s]?=some false/\R' s b)) ⟨⟨fun s t h=>?_,fun s s' b z z'=>?_,fun s b z=>?_,fun b z=>?_,?_,?_⟩,fun _ z=>z.elim,fun a o q n=>P.keep a o q fun s z=>n s z.2,fun a z=>?_,P.dom,fun j hj=>P.lk j (hlk j hj)⟩
  ·rcases jX h with⟨c1,c2⟩|⟨c1,c2,dd,c3,c4⟩
   ·obtain⟨l1,l2⟩:=bz s c1;obtain⟨v,d',g1,g2,g3⟩:=e.at_ s t c2;refine⟨v,d',(P.lk s l1).trans g1,(hk s c1).trans g2,?_⟩;rcases l2 with l2|l2
    ·subst l2;exact Ow.grow (fun _ z=>z) t (fun b z=>.inl ⟨rfl,z⟩) (Ow.mv (G:=R s) ⟨kp,oo⟩ t (fun _ z=>z) g3)
    ·rw[g2]at l2;cases l2;exact Ow.any0 t (Ow.mv (G:=NoA) ⟨fun a o q z=>kp a o q (.inl (z.elim id fun z=>z.elim)),oo⟩ t (fun _ z=>z) (Ow.any0 (F':=NoA) t g3))
   ·obtain⟨v,d',g1,g2,g3⟩:=P.env.at_ s t c2;have si:s≠i:=fun z=>by
     subst z;rw[bi]at c1;cases c1
    have ed:ds'[s]?=ds1[s]?:=by rw[<-h1,zaO (Ne.symm si)]
    have e2:d'=dd:=by
     rw[ed,g2]at c3;cases c3;rfl
    subst e2;exact⟨v,d',g1,c3,Ow.grow (fun _ z=>z) t (fun b z=>.inr ⟨c1,z⟩) (Ow.self t c4 g3)⟩
  ·rcases z with⟨z1,z⟩|⟨z1,z⟩<;>rcases z' with⟨z2,z'⟩|⟨z2,z'⟩
   ·rw[z1,z2]
   ·exact absurd z (nRi s' b z')
   ·exact absurd z' (nRi s b z)
   ·exact P.env.dj s s' b z z'
  ·rcases z with⟨z1,z⟩|⟨z1,z⟩
   ·exact fun z2=>e.dx i b z (z2.elim (fun z=>z.elim) id)
   ·exact P.env.dx s b z
  ·rcases z with⟨s,⟨z1,z⟩|⟨z1,z⟩⟩|z
   ·obtain⟨o,q⟩:=e.dom b (.inl ⟨i,z⟩);exact P.dom b o q
   ·exact P.env.dom b (.inl ⟨s,z⟩)
   ·exact P.env.dom b (.inr z)
  ·have q1:=P.env.l1;have q2:=P.env.l2;have q3:=e.l1;have q4:=e.l2;have l':ds'.length=ds1.length:=by rw[<-h1,zaV]
   have hσ:σ'.length=σ.length:=by
    omega
   rw[jW (by omega) (by omega) (by omega)];omega
  ·rw[<-h1,zaV];exact P.env.l2
  ·rcases z with z|⟨s,⟨z1,z⟩|⟨z1,z⟩⟩
   ·exact z.elim
   ·exact .inl ⟨i,z⟩
   ·exact(ow' s a z).imp (fun⟨j,z,_⟩=>⟨j,z⟩) id
end
section
variable{F:AS}  
def Post.thw(ha:H1 a=some w0)(na:∀i,¬R i a)(P:Post K p ds' Ox σ (upd H1 a (.frz ob w0)) en R en' H' R' F):H' a=some (.frz ob w0)/\Post K p ds' Ox σ H1 en R en' (upd H' a w0) R' F:=by
 obtain⟨hl,PS⟩:=PostS.thw (lk:=[]) ha na P.s;refine⟨hl,PS.env,PS.fx,PS.keep,PS.own,PS.dom,fun hp=>?_⟩;obtain⟨g1,g2,g3⟩:=P.pure hp;refine⟨g1,g2,fun b o q=>?_⟩;by_cases hb:b=a
 ·subst hb;rw[ha]at q;cases q;exact ax
 ·rw[au hb];exact g3 b o (by rw[au hb];exact q)
end
section
variable{q:Bool}{dsi:List Nat}{Q:VK}{cd:Nat}{f0:ME}{c:MT}{js:List (Option Nat)} 
def Hw(hc:dE ds js dsi=true)(hd:dn d=cd)(hz:d≠0)(hl:lk=dD js 0)(h:tF K q ds ds d (eLC q (iDz f0) g c f js) σ H Q):
  D8 (tLC (Ef K ds f0) (tFG K lk dsi dsi g) (tFT K q dsi dsi c) (tF K q dsi dsi cd f) js) σ H Q:=by
 obtain⟨Ox,en,R,t,en',e,hf,k⟩:=h;unfold eLC iDz at hf;obtain⟨⟨ts,en1⟩,h1,hf2⟩:=zaa.mp hf;obtain⟨⟨t,en0⟩,h0,h1⟩:=zaa.mp h1;obtain⟨⟨fin,enf⟩,h2,hf3⟩:=zab.mp hf2;cases t with
 |dict ks=>
  obtain⟨ts',hT,h1⟩:=zab.mp (show(zks ks).map (fun ts=>(ts,en0))=some (ts,en1)from h1);cases h1;cases hf3;clear hf hf2;refine⟨Ox,en,R,ks,ts,_,e,h0,hT,fun Jt H0 a w0 H1 P0 na F1 wk D hD=>?_⟩;have pe:=(P0.pure rfl).1;subst pe;have naR:∀i,¬R i a:=fun i z=>na (.inl ⟨i,z⟩);have hfz:∀o u,H0 a=some w0->Dty w0->H a≠some (.frz o u):=fun o u z hw q=>by
   have:=(P0.pure rfl).2.2 a _ q;rw[z]at this;cases this;exact hw
  rcases F1 with⟨ob,hd0,hw,rfl⟩|rfl
  ·have E1:=P0.env0.frzd (ob:=ob) hd0 hw naR;refine lD (p:=true) hc hd hz hl (Post.refl E1) wk hD h2 fun v H' R' F P o=>?_;rw[zaG]at P;obtain⟨g1,g2⟩:=P.thw hd0 naR;exact .inr ⟨a,ob,_,g1,fun o u=>hfz o u hd0 hw,k v _ R' F (by have:=P0.after g2;rw[zaG]at this;exact this) (Ow.thw g1 _ o)⟩
  ·refine lD (p:=true) hc hd hz hl P0 wk hD h2 fun v H' R' F P o=>?_;rw[zaG]at P;exact .inl (k v H' R' F P o)
 |_=>cases h1
def xi(hK:X.K=K)(B:BlkOkC X scope ns js)(hc:X.calm=true)(hi:QE X iter (tF K true ds ds 0 f0))(hg:∀C cl s₀ H₀ fp,QG (aE X scope ns C cl s₀ H₀ fp) tg (tFG K lk dsi dsi g))(ht:∀C cl s₀ H₀ fp,QTs (aE X scope ns C cl s₀ H₀ fp) ifs (tFT K q dsi dsi c))(he:∀C cl s₀ H₀ fp,QE (aE X scope ns C cl s₀ H₀ fp) elt (tF K q dsi dsi cd f))(hcap:dE ds js dsi=true)(hd:dn d=cd)(hz:d≠0)(hlk:lk=dD js 0)(hs:∀x,foldedSetIterable iter X.env x=pure x):
  QE X (.ListComp elt [⟨tg,iter,ifs,0⟩] scope pos) (tF K q ds ds d (eLC q (iDz f0) g c f js)):=
 ⟨(GQ (pW B hc (HZ hK hi.h) (fun C cl s₀ H₀ fp=>(hg C cl s₀ H₀ fp).h) (fun C cl s₀ H₀ fp=>(ht C cl s₀ H₀ fp).h) (fun C cl s₀ H₀ fp=>(he C cl s₀ H₀ fp).h) hs)).imp fun _ _ _=>Hw hcap hd hz hlk⟩
def jp(hK:X.K=K)(B:BlkOkC X scope ns js)(hc:X.calm=true)(hi:QE X iter (tF K true ds ds 0 f0))(hg:∀C cl s₀ H₀ fp,QG (aE X scope ns C cl s₀ H₀ fp) tg (tFG K lk dsi dsi g))(ht:∀C cl s₀ H₀ fp,QTs (aE X scope ns C cl s₀ H₀ fp) ifs (tFT K true dsi dsi c))(he:∀C cl s₀ H₀ fp,QE (aE X scope ns C cl s₀ H₀ fp) elt (tF K true dsi dsi cd f))(hcap:dE ds js dsi=true)(hd:dn d=cd)(hz:d≠0)(hlk:lk=dD js 0)(hs:∀x,foldedSetIterable iter X.env x=pure x):
  QE X (.ListComp elt [⟨tg,iter,ifs,0⟩] scope pos) (tF K p ds ds d (eLC true (iDz f0) g c f js)):=
 ⟨(xi hK B hc hi hg ht he hcap hd hz hlk hs).h.imp fun _ _ _=>jr fun _=>rfl⟩
end
def tG(bs:List Bool)(ds ds':List Nat):Bool:=ds'.length==ds.length&&(List.range bs.length).all fun s=>!(bs[s]?==some true) || ds'[s]?==ds[s]?
def u5{bs:List Bool}(h:tG bs ds ds'=true):ds'.length=ds.length/\∀s:Nat,bs[s]?=some true->ds'[s]?=ds[s]?:=by
 unfold tG at h;rw[zbj,List.all_eq_true]at h;refine⟨by simpa using h.1,fun s q=>?_⟩
 have:=h.2 s (zbn.mpr (zah.mp q).1);rw[q]at this;simpa using this
def tU{bs:List Bool}{m:MS}(hs:QS X st (tFS K { J with lk:=lk++J.lk } ds0 ds1 m))(hi:ds[i]?=some d)(h0:ds.set i 0=ds0)(h1:ds1.set i d=ds')(hb:ma i bs ds lk=true)(hd:tG bs ds ds'=true):
  QS X st (tFS K J ds ds' (kI bs ds' m)):=by
 obtain⟨hl,hk⟩:=u5 hd;refine⟨PS.imp hs.h fun _ _ _=>BI hi h0 h1 ?_ (fun j z=>zbd _ z) hk hl⟩;unfold ma at hb ⊢;rw[zbj,List.all_eq_true]at hb ⊢;refine⟨hb.1,fun s hs=>?_⟩
 have:=hb.2 s hs;rw[Bool.or_eq_true,zbj]at this ⊢;refine this.imp id fun z=>⟨?_,z.2⟩;rw[List.contains_iff_mem]at z ⊢;exact List.mem_append_left _ z.1
theorem pD(k:List (Option Key)):∀kvs:TKs,(fq (kvs.map tkV) k).isSome=kvs.any fun q=>decide (q.1=k)
 |[]=>rfl
 |q::r=>by
  have ih:=pD k r;unfold fq at ih ⊢;rw[zar,zbl,List.any_cons];by_cases c:q.1=k
  ·simp[tkV,c]
  ·have:decide ((tkV q).1=k)=false:=zaA c;rw[this,zaA c,Bool.false_or];exact ih
def kR:D->D->Option D
 |.tuple ts,.dict ks=>(cP ts).bind fun k=>(dg ks).map fun kvs=>.bool (!kvs.any fun q=>decide (q.1=k))
 |_,_=>none
def nH:D->D->Option D
 |.tuple ts,.dict ks=>(cP ts).bind fun k=>(dg ks).map fun kvs=>.bool (kvs.any fun q=>decide (q.1=k))
 |_,_=>none
def gJ(kvs:TKs)(k:List (Option Key))(t:D):TKs:=if(kvs.any fun q=>decide (q.1=k))=true then kvs.map (fun q=>if q.1=k then(q.1,t)else q)else kvs++[(k,t)]
def gI(i:Nat)(fk fe:ME):MS:=fun en=>(fe en).bind fun r=>match (r.2[i]?).join with
 |some _=>(fk r.2).bind fun q=>match q.1,(q.2[i]?).join with
  |.tuple ts,some (.dict ks)=>(cP ts).bind fun k=>(dg ks).bind fun kvs=>if kvs.length<sizeLine/\scaD r.1=true then some (.nx (q.2.set i (some (.dict (tkL (gJ kvs k r.1))))))else none
  |_,_=>none
 |none=>none
def A8(kvs:TKs)(k:List (Option Key))(t:D):(gJ kvs k t).map tkV=eB (kvs.map tkV) k (dV t):=by
 have e:((kvs.map tkV).any fun q=>decide (q.1=k))=kvs.any fun q=>decide (q.1=k):=by
  rw[List.any_map];rfl
 unfold gJ eB;rw[e];by_cases c:(kvs.any fun q=>decide (q.1=k))=true
 ·rw[if_pos c,if_pos c,zaR,zaR];apply zbs;intro q _;show tkV (if q.1=k then _ else _)=if(tkV q).1=k then _ else _
  by_cases d:q.1=k
  ·rw[if_pos d,if_pos (show(tkV q).1=k from d)];rfl
  ·rw[if_neg d,if_neg (show ¬(tkV q).1=k from d)]
 ·rw[if_neg c,if_neg c,zaC];rfl
def A9{k:List (Option Key)}{t:D}(h:(kvs.all fun q=>scaD q.2)=true)(ht:scaD t=true):((gJ kvs k t).all fun q=>scaD q.2)=true:=by
 unfold gJ;by_cases c:(kvs.any fun q=>decide (q.1=k))=true
 ·rw[if_pos c,List.all_map,List.all_eq_true];intro q hq;show scaD (if q.1=k then(q.1,t)else q).2=true;split
  ·exact ht
  ·exact List.all_eq_true.mp h q hq
 ·rw[if_neg c,List.all_append,h,List.all_cons,ht];rfl
section
variable{a:Expr}{Q:VK}{Dn:Ends}
def Ca(h:tF K p ds ds2 3 (e2 kR f1 f2) σ H Q):uK (tF K p ds ds1 d1 f1) (tF K p ds1 ds2 d2 f2) σ H Q:=by
 obtain⟨Ox,en,R,t,en',e,hf,k⟩:=h;unfold e2 at hf;obtain⟨⟨t1,en1⟩,h1,hf⟩:=zaa.mp hf;obtain⟨⟨t2,en2⟩,h2,hf⟩:=zaa.mp hf;obtain⟨t',h3,hf⟩:=zab.mp hf;cases hf;refine two (p1:=p) (p2:=p) e h1 h2 fun x y H2 R2 F1 F2 P o1 o2=>?_;rw[zbh]at P;have w1:=Ow.letgo P (fun _=>.inl) o1;have w2:=Ow.letgo P (fun _=>.inr) o2;cases t1 with
 |tuple ts=>
  cases t2 with
  |dict ks=>
   obtain⟨kk,hk,h3⟩:=zaa.mp (show(cP ts).bind (fun k=>(dg ks).map fun kvs=>PyData.bool (!kvs.any fun q=>decide (q.1=k)))=some t from h3);obtain⟨kvs,hv,rfl⟩:=zab.mp h3;obtain⟨_,a,ad,ea,ha,_⟩:=w2.tks hv;obtain⟨b,vs,eb,fz,ow⟩:=w1.tup0;rw[jf hk ow]at fz;refine⟨a,ea,.inr ⟨_,by rw[eb];exact DGet.t ha fz.1,?_⟩⟩;rw[pD];exact k _ H2 R2 NoA (P.less fun _ z=>z.elim) rfl
  |_=>cases h3
 |_=>cases t2<;>cases h3
def Gg(h:tF K p ds ds2 3 (e2 nH f1 f2) σ H Q):Ei (tF K p ds ds1 d1 f1) (tF K p ds1 ds2 d2 f2) σ H Q:=by
 obtain⟨Ox,en,R,t,en',e,hf,k⟩:=h;unfold e2 at hf;obtain⟨⟨t1,en1⟩,h1,hf⟩:=zaa.mp hf;obtain⟨⟨t2,en2⟩,h2,hf⟩:=zaa.mp hf;obtain⟨t',h3,hf⟩:=zab.mp hf;cases hf;refine two (p1:=p) (p2:=p) e h1 h2 fun x y H2 R2 F1 F2 P o1 o2=>?_;rw[zbh]at P;have w1:=Ow.letgo P (fun _=>.inl) o1;have w2:=Ow.letgo P (fun _=>.inr) o2;cases t1 with
 |tuple ts=>
  cases t2 with
  |dict ks=>
   obtain⟨kk,hk,h3⟩:=zaa.mp (show(cP ts).bind (fun k=>(dg ks).map fun kvs=>PyData.bool (kvs.any fun q=>decide (q.1=k)))=some t from h3);obtain⟨kvs,hv,rfl⟩:=zab.mp h3;obtain⟨_,a,ad,ea,ha,_⟩:=w2.tks hv;obtain⟨b,vs,eb,fz,ow⟩:=w1.tup0;rw[jf hk ow]at fz;refine⟨a,_,ea,by rw[eb];exact DGet.t ha fz.1,?_⟩;rw[pD];exact k _ H2 R2 NoA (P.less fun _ z=>z.elim) rfl
  |_=>cases h3
 |_=>cases t2<;>cases h3
def vH(hu:X.A.units+1<cLine)(ha:QE X a (tF K p ds ds1 d1 f1))(hb:QE X b (tF K p ds1 ds2 d2 f2))(h1:behindInMarks .In b=false):QE X (.Compare a [.In] [b] pos) (tF K p ds ds2 3 (e2 nH f1 f2)):=⟨EG ((EJ hu ha.h hb.h).imp fun _ _ _=>Gg) h1⟩
def mB:ME:=eC (.dict (tkL []))
def og:QE X (.Dict [] [] pos) (tF K p ds ds 4 mB):=⟨pe_dnewT.imp fun σ H Q ⟨Ox,en,R,t,en',e,hf,k⟩=>by
 cases hf;intro l hl;have n:NewTo H (upd H l (.dT [] fun _=>False)) (fun b=>b=l):=bq hl;exact k (.ref l) _ R _ (Post.new e n.1 n.2) ⟨l,[],rfl,.inr (.inr (.inr ⟨rfl,rfl,[],_,rfl,rfl,ax,fun _ z=>z.elim⟩))⟩⟩
def jm(hu:X.A.units+1<cLine)(ha:QE X a (tF K p ds ds1 d1 f1))(hb:QE X b (tF K p ds1 ds2 d2 f2))(h1:behindInMarks .NotIn b=false):QT X (.Compare a [.NotIn] [b] pos) (tFT K p ds ds2 (tV (e2 kR f1 f2))):=⟨(Ey ((wC hu ha.h hb.h).imp fun _ _ _=>Ca) h1).imp fun _ _ _=>qw⟩
def w4(hd:ds2[i]?=some 4)(h:tFS K J ds ds2 (gI i fk fe) Dn σ H):Ax (eA i) (tF K false ds1 ds2 d2 fk) (tF K false ds ds1 0 fe) Dn σ H:=by
 obtain⟨Ox,en,R,fl,e,hf,k⟩:=h;unfold gI at hf;obtain⟨⟨t1,en1⟩,h1,hf⟩:=zaa.mp hf
 dsimp only at hf
 split at hf
 case h_2=>cases hf
 next tt h0=>
 obtain⟨⟨t2,en2⟩,h2,hf⟩:=zaa.mp hf
 dsimp only at hf
 split at hf
 case h_2=>cases hf
 next ts ks h4 h3=>
 obtain⟨kk,hk,hf⟩:=zaa.mp hf;obtain⟨kvs,hv,hf⟩:=zaa.mp hf;by_cases ξ:kvs.length<sizeLine/\scaD t1=true
 case neg=>rw[if_neg ξ]at hf;cases hf
 rw[if_pos ξ]at hf;cases hf;refine⟨Ox,en,R,t1,en1,e,h1,fun x H1 R1 F1 P1 o1=>?_⟩;obtain⟨v0,d0,a1,_,_⟩:=P1.env.at_ i tt (aK h0);refine⟨v0,a1,?_⟩;refine⟨U F1 Ox,en1,R1,_,en2,P1.env,h2,fun y H2 R2 F2 P2 o2=>?_⟩;have P:=P1.trans P2;have w2:=Ow.letgo P2 (fun _ z=>z) o2;obtain⟨v',d',b1,b2,b3⟩:=P.env.at_ i _ (aK h3);rw[a1]at b1;cases b1;rw[hd]at b2;cases b2;obtain⟨k2,l,ad,el,_,_,hr,ha⟩:=b3.tks hv;obtain⟨hr,hl⟩:=hr rfl;obtain⟨b,vs,eb,fz,ow⟩:=w2.tup0;rw[jf hk ow]at fz;have ex:=EK ξ.2 o1;subst ex eb;refine⟨l,_,el,DPut.t hl fz.1 (by rw[zad];exact ξ.1),?_⟩;have hi:i<en2.length:=(zah.mp (aK h3)).1;have gG:∀a,(fun a=>R2 i a) a->R2 i a\/U F1 F2 a:=fun a z=>.inl z;have PS:=P.slot (G:=fun a=>R2 i a) (F':=NoA) (o2:=.dT (eB (kvs.map tkV) kk (dV t1)) fun x=>ad x\/x=b) (t:=.dict (tkL (gJ kvs kk t1))) hr hi a1 hd gG (fun _ z=>z.elim) (fun _ _ z=>z) ?_
 ·exact k σ _ _ PS.s
 refine⟨l,[],el,.inr (.inr (.inr ⟨rfl,hr,gJ kvs kk t1,_,A9 k2 ξ.2,rfl,by rw[A8];exact ax,fun x z=>?_⟩))⟩;have key:¬Own R2 Ox x/\∃vs,H2 x=some (.tup vs):=by
  rcases z with z|rfl
  ·exact⟨fun y=>(ha x z).1 (y.imp id .inr),(ha x z).2⟩
  ·exact⟨fun y=>fz.2 (y.imp id .inr),_,fz.1⟩
 obtain⟨n,us,hu⟩:=key;refine⟨fun y=>n ?_,us,?_⟩
 ·rcases y with⟨j,y⟩|y|y
  ·by_cases hj:j=i
   ·rw[if_pos hj]at y;exact .inl ⟨i,y⟩
   ·rw[if_neg hj]at y;exact .inl ⟨j,y⟩
  ·exact y.elim
  ·exact .inr y
 ·rw[au (pi hu hl (fun z=>nomatch z))];exact hu
def la(hu:X.A.units+1<cLine)(hN:X.N[i]?=some x)(hv:Vis X.env.scope x)(he:QE X e (tF K false ds ds1 0 fe))(hk:QE X k (tF K false ds1 ds2 d2 fk))(h1:ds2[i]?=some 4)
  (hdb:(x==("__debug__":Str))=false) (hcd:(x==("__classdict__":Str))=false) (hs:swapsWith e (some (.Subscript (.Name x px) k ζ)) pos.line X.env=pure false):
  QS X (.Assign [.Subscript (.Name x px) k ζ] e pos) (tFS K J ds ds2 (gI i fk fe)):=⟨(Be hu (cf hN hv hdb hcd) hk.h he.h hs).imp fun _ _ _=>w4 h1⟩
end
def sAl(i j m:Nat)(f:ME)(b:MS):MS:=fun en=>((en[i]?).join).bind fun _=>((en[j]?).join).bind fun _=>(f en).bind fun r=>match r.1 with
 |.int k=>(atI [i,j] k).bind fun c=>((r.2[c]?).join).bind fun x=>(b ((r.2.set c none).set m (some x))).bind fun fl=>match fl with
  |.nx en'=>some (.nx ((en'.set c (en'[m]?).join).set m none))
  |_=>none
 |_=>none
def Go{α β:Type}{i j:α}{x y:β}{n:Int}{c:α}(h:atI [i,j] n=some c):(c=i/\atI [x,y] n=some x)\/(c=j/\atI [x,y] n=some y):=by
 unfold atI at h ⊢;obtain⟨q,h1,h2⟩:=zaa.mp h;have h1':ixN [x,y].length n=some q:=h1;rw[h1']
 match q,h2 with
 |0,h2=>cases h2;exact .inl ⟨rfl,rfl⟩
 |1,h2=>cases h2;exact .inr ⟨rfl,rfl⟩
 |_+2,h2=>cases h2
section
variable{ds3:List Nat}{j:Nat}{b:MS}{D:Ends} 
def Ha(him:i≠m)(hjm:j≠m)(hi:ds[i]?=some d)(hj:ds[j]?=some d)(h2:ds.set m d=ds2)(hm:m<ds.length)(l1:i∈J'.lk)(l2:j∈J'.lk)(l3:m∈J'.lk)(hlk:∀s∈J.lk,s∈J'.lk/\s≠m)
  (e1:ds3[i]?=ds3[m]?) (e2:ds3[j]?=ds3[m]?) (h:tFS K J ds ds3 (sAl i j m f b) D σ H):
  sI (i7 (tOp (rIx K) (wp (ig (eA i) (ig (eA j) pG))) (tF K p ds ds d1 f)) (jl m)) (tFS K J' ds2 ds3 b) D σ H:=by
 obtain⟨Ox,en,R,fl,e,hf,k⟩:=h;unfold sAl at hf;obtain⟨ti,q1,hf⟩:=zaa.mp hf;obtain⟨tj,q2,hf⟩:=zaa.mp hf;obtain⟨⟨t1,en1⟩,h1,hf⟩:=zaa.mp hf
 dsimp only at hf
 split at hf
 case h_2=>cases hf
 next n=>
 obtain⟨c,hc,hf⟩:=zaa.mp hf;obtain⟨x,hx,hf⟩:=zaa.mp hf;obtain⟨fl0,hb,hf⟩:=zaa.mp hf;cases fl0 with
 |ct _=>cases hf
 |rt _ _=>cases hf
 |nx en'=>
  cases hf;obtain⟨vi,-,si,-,-⟩:=e.at_ i ti (aK q1);obtain⟨vj,-,sj,-,-⟩:=e.at_ j tj (aK q2);refine⟨vi,si,vj,sj,zau (by decide:2<=1000) (by rw[sizeLine_eq];decide),fun a ha=>?_⟩;have P0:Post K true ds Ox σ H en R en (upd H a (.lst [vi,vj])) R NoA:=Post.new e (fun b o q=>by
   rw[au fun z=>by rw[z,ha]at q;cases q];exact q) fun _ z=>z.elim
  refine⟨Ox,en,R,.int n,en1,P0.env0,h1,fun y H2 R2 F P2 o=>?_⟩;have ey:y=.int n:=o;subst ey;have hp2:H2 a=some (.lst [vi,vj]):=P2.keep a _ ax fun s z=>by
   obtain⟨o,q⟩:=e.dom a (.inl ⟨s,z⟩);rw[ha]at q;cases q
  obtain⟨v,hv,sv,cm,cl,dc,ec⟩:∃v,atI [vi,vj] n=some v/\σ[c]?=some (some v)/\c≠m/\c∈J'.lk/\ds[c]?=some d/\ds3[c]?=ds3[m]?:=by
   rcases Go (x:=vi) (y:=vj) hc with⟨rfl,z⟩|⟨rfl,z⟩
   ·exact⟨vi,z,si,him,l1,hi,e1⟩
   ·exact⟨vj,z,sj,hjm,l2,hj,e2⟩
  refine .inl ⟨a,[vi,vj],n,v,rfl,rfl,SqL.of hp2,hv,?_⟩;have ml:m<σ.length:=by rw[<-e.l2];exact hm
  have E:=P2.env0;have sub:∀a,Own (fun s a=>(s=m/\R2 c a)\/(s≠m/\s≠c/\R2 s a)) Ox a->Own R2 Ox a:=fun a z=>by
   rcases z with⟨s,⟨_,z⟩|⟨_,_,z⟩⟩|z
   ·exact .inl ⟨c,z⟩
   ·exact .inl ⟨s,z⟩
   ·exact .inr z
  have Eb:EnvOk K ds2 Ox H2 (σ.set m (some v)) ((en1.set c none).set m (some x)) (fun s a=>(s=m/\R2 c a)\/(s≠m/\s≠c/\R2 s a)):=by
   refine⟨fun s t h=>?_,fun s s' b z z'=>?_,fun s b z=>?_,fun b z=>E.dom b (sub b z),?_,?_⟩
   ·by_cases sm:s=m
    ·subst sm;have xt:x=t:=by
      rw[zaP (by rw[zaV,E.l1];exact ml)]at h;cases h;rfl
     subst xt;obtain⟨v',d',g1,g2,g3⟩:=E.at_ c x (aK hx);rw[sv]at g1;cases g1;rw[dc]at g2;cases g2;exact⟨v,d,zaP ml,by rw[<-h2];exact zaP hm,Ow.grow sub x (fun b z=>.inl ⟨rfl,z⟩) g3⟩
    ·rw[zaO (Ne.symm sm)]at h;by_cases sc:s=c
     ·subst sc;by_cases ll:s<en1.length
      ·rw[zaP ll]at h;cases h
      ·rw[zbi (by rw[zaV];omega)]at h;cases h
     ·rw[zaO (Ne.symm sc)]at h;obtain⟨v',d',g1,g2,g3⟩:=E.at_ s t h;exact⟨v',d',by rw[zaO (Ne.symm sm)];exact g1,by rw[<-h2,zaO (Ne.symm sm)];exact g2,Ow.grow sub t (fun b z=>.inr ⟨sm,sc,z⟩) g3⟩
   ·rcases z with⟨z1,z⟩|⟨z1,z2,z⟩<;>rcases z' with⟨y1,y⟩|⟨y1,y2,y⟩
    ·rw[z1,y1]
    ·exact absurd (E.dj c s' b z y) (Ne.symm y2)
    ·exact absurd (E.dj s c b z y) z2
    ·exact E.dj s s' b z y
   ·rcases z with⟨z1,z⟩|⟨z1,z2,z⟩
    ·exact E.dx c b z
    ·exact E.dx s b z
   ·rw[zaV,zaV,zaV];exact E.l1
   ·rw[<-h2,zaV,zaV];exact e.l2
  refine⟨Ox,_,_,.nx en',Eb,hb,fun σ' H' R' P=>?_⟩;have sm':σ'[m]?=some (some v):=(P.lk m l3).trans (zaP ml);have sc':σ'[c]?=some (some v):=(P.lk c cl).trans (by rw[zaO (Ne.symm cm)];exact sv);have Q:=P.env.fewer (Ox':=Ox) fun a z=>.inr z;have sub':∀a,Own (fun s a=>(s=c/\R' m a)\/(s≠m/\s≠c/\R' s a)) (U NoA Ox) a->Own R' Ox a:=fun a z=>by
   rcases z with⟨s,⟨_,z⟩|⟨_,_,z⟩⟩|z|z
   ·exact .inl ⟨m,z⟩
   ·exact .inl ⟨s,z⟩
   ·exact z.elim
   ·exact .inr z
  have PP:=P0.after P2;refine k σ' H' (fun s a=>(s=c/\R' m a)\/(s≠m/\s≠c/\R' s a)) ⟨⟨fun s t h=>?_,fun s s' b z z'=>?_,fun s b z=>?_,fun b z=>Q.dom b (sub' b z),?_,Q.l2⟩,fun _ z=>z.elim,fun a o q n=>?_,fun a z=>?_,fun a o q=>?_,fun s hs=>?_⟩
  ·by_cases sm:s=m
   ·subst sm;by_cases ll:s<(en'.set c (en'[s]?).join).length
    ·rw[zaP ll]at h;cases h
    ·rw[zbi (by rw[zaV];omega)]at h;cases h
   ·rw[zaO (Ne.symm sm)]at h;by_cases sc:s=c
    ·subst sc;have h3:(en'[m]?).join=some t:=by
      by_cases ll:s<en'.length
      ·rw[zaP ll]at h;cases h':(en'[m]?).join with
       |none=>rw[h']at h;cases h
       |some u=>rw[h']at h;cases h;rfl
      ·rw[zbi (by rw[zaV];omega)]at h;cases h
     obtain⟨v',d',g1,g2,g3⟩:=Q.at_ m t (aK h3);rw[sm']at g1;cases g1;exact⟨v,d',sc',ec.trans g2,Ow.grow sub' t (fun b z=>.inl ⟨rfl,z⟩) g3⟩
    ·rw[zaO (Ne.symm sc)]at h;obtain⟨v',d',g1,g2,g3⟩:=Q.at_ s t h;exact⟨v',d',g1,g2,Ow.grow sub' t (fun b z=>.inr ⟨sm,sc,z⟩) g3⟩
  ·rcases z with⟨z1,z⟩|⟨z1,z2,z⟩<;>rcases z' with⟨y1,y⟩|⟨y1,y2,y⟩
   ·rw[z1,y1]
   ·exact absurd (Q.dj m s' b z y) (Ne.symm y1)
   ·exact absurd (Q.dj s m b z y) z1
   ·exact Q.dj s s' b z y
  ·have g:∀s,R' s b->¬U NoA Ox b:=fun s z y=>Q.dx s b z (y.elim (fun y=>y.elim) id);rcases z with⟨z1,z⟩|⟨z1,z2,z⟩
   ·exact g m z
   ·exact g s z
  ·rw[zaV,zaV];exact Q.l1
  ·refine P.keep a o (PP.keep a o q n) fun s z=>?_;have g:∀s,¬R2 s a:=fun s z=>by
    rcases PP.own a (.inr ⟨s,z⟩)with⟨s',z⟩|z
    ·exact n s' z
    ·rw[q]at z;cases z
   rcases z with⟨_,z⟩|⟨_,_,z⟩
   ·exact g c z
   ·exact g s z
  ·have g:∀s,R' s a->(∃i,R i a)\/H a=none:=fun s z=>by
    rcases P.own a (.inr ⟨s,z⟩)with⟨s',⟨_,z⟩|⟨_,_,z⟩⟩|z
    ·exact PP.own a (.inr ⟨c,z⟩)
    ·exact PP.own a (.inr ⟨s',z⟩)
    ·refine .inr ?_;cases q:H a with
     |none=>rfl
     |some o=>
      obtain⟨o',q'⟩:=PP.dom a o q;rw[z]at q';cases q'
   rcases z with z|⟨s,⟨_,z⟩|⟨_,_,z⟩⟩
   ·exact z.elim
   ·exact g m z
   ·exact g s z
  ·obtain⟨o',q'⟩:=PP.dom a o q;exact P.dom a o' q'
  ·obtain⟨z1,z2⟩:=hlk s hs;exact(P.lk s z1).trans (zaO (Ne.symm z2))
def qx{y:Str}{py pl ps:Pos}{rest:List Stmt}(hK:X.K=K)(hN:X.N.Nodup)(hx:X.N[i]?=some x)(hy:X.N[j]?=some y)(hz:X.N[m]?=some z)
  (vx:Vis X.env.scope x) (vy:Vis X.env.scope y) (vz:Loc X.env.scope z) (ux:((x==("__debug__":Str)),(x==("__classdict__":Str)),(y==("__debug__":Str)),(y==("__classdict__":Str)))=(false,false,false,false))
  (hs:swapsWith (.Subscript (.List [.Name x px,.Name y py] pl) k ps) (some (.Name z pz)) pos.line X.env=pure false) (hf:X.fn z=true\/X.env.scope.names.lookup z=some .local) (hp:dw k)
  (st:starEach [.Name x px,.Name y py] X.env=(false,eval (.Name x px) X.env)::starEach [.Name y py] X.env) (st2:starEach [.Name y py] X.env=(false,eval (.Name y py) X.env)::starEach [] X.env)
  (hk:QE X k (tF K p ds ds d1 f)) (hr:QSs X rest (tFS K { J with lk:=m::i::j::J.lk } ds2 ds3 b))
  (c:(decide (i≠m),decide (j≠m),ds[i]?,ds[j]?,ds.set m d,decide (m<ds.length),J.lk.contains m,ds3[i]?,ds3[j]?)=(true,true,some d,some d,ds2,true,false,ds3[m]?,ds3[m]?)):
  QSs X (.Assign [.Name z pz] (.Subscript (.List [.Name x px,.Name y py] pl) k ps) pos::rest) (tFS K J ds ds3 (sAl i j m f b)):=by
 subst hK;simp only[za1,decide_eq_true_eq]at c ux;obtain⟨c1,c2,c3,c4,c5,c6,c7,c8,c9⟩:=c;obtain⟨u1,u2,u3,u4⟩:=ux;have hA:=pS (pos:=pos) (pos':=pz) hN hz vz (l5 (pos:=ps) ix_seq (uU (pos:=pl) (dk (cf (pos:=px) hx vx u1 u2) (dk (cf (pos:=py) hy vy u3 u4) pa_nil st2) st)) hk.h hp) hs hf;have nm:m∉J.lk:=by simpa using c7
 refine⟨(jc hA hr.h).imp fun _ _ _=>Ha c1 c2 c3 c4 c5 c6 ?_ ?_ ?_ ?_ c8 c9⟩
 ·exact zaj _ (zaq ..)
 ·exact zaj _ (zaj _ (zaq ..))
 ·exact zaq ..
 ·exact fun s h=>⟨zaj _ (zaj _ (zaj _ h)),fun e=>nm (e▸h)⟩
end
def eSk(f:ME):ME:=fun en=>(f en).bind fun r=>if scaD r.1=true then some r else none
section
variable{Q:VK}
def Ic(h:tF K p ds ds1 3 (eSk f) σ H Q):tF K p ds ds1 d f σ H Q:=by
 obtain⟨Ox,en,R,t,en',e,hf,k⟩:=h;unfold eSk at hf;obtain⟨⟨t1,en1⟩,h1,hf⟩:=zaa.mp hf
 dsimp only at hf
 by_cases hs:scaD t1=true
 ·rw[if_pos hs]at hf;cases hf;exact⟨Ox,en,R,_,_,e,h1,fun v H' R' F P o=>k v H' R' F P (o.scaD hs)⟩
 ·rw[if_neg hs]at hf;cases hf
def r9(h:QE X e (tF K p ds ds1 d f)):QE X e (tF K p ds ds1 3 (eSk f)):=⟨h.h.imp fun _ _ _=>Ic⟩
end
section
variable{bs:List Bool}    
def PostS.lent(e:EnvOk K ds Ox H σ en R)(h1:ds1.set i d=ds')(bi:bs[i]?=some true)(bl:bs.length=ds.length)(bz:∀s:Nat,bs[s]?=some true->s∈J'.lk/\(s=i\/ds[s]?=some 0))(hlk:∀j∈J.lk,j∈J'.lk)(hk:∀s:Nat,bs[s]?=some true->ds'[s]?=ds[s]?)(hl:ds'.length=ds.length)
  (P:PostS K J'.lk ds1 Ox σ H (fun s b=>s≠i/\R s b) σ' en' H' R' NoA):∃R'',PostS K J.lk ds' Ox σ H R σ' (bh bs ds' en en') H' R'' NoA:=by
 have kp:∀a o,H a=some o->(¬Own R Ox a\/R i a)->H' a=some o:=fun a o q z=>by
  refine P.keep a o q fun s zs=>?_;rcases z with z|z
  ·exact z (.inl ⟨s,zs.2⟩)
  ·exact zs.1 (e.dj s i a zs.2 z)
 have ow':∀s b,R' s b->(∃j,R j b/\j≠i)\/H b=none:=fun s b z=>(P.own b (.inr ⟨s,z⟩)).imp (fun⟨j,z⟩=>⟨j,z.2,z.1⟩) id;have nRi:∀s b,R' s b->¬R i b:=fun s b z z2=>by
  rcases ow' s b z with⟨j,z3,z4⟩|z3
  ·exact z4 (e.dj j i b z3 z2)
  ·obtain⟨o,q⟩:=e.dom b (.inl ⟨i,z2⟩);rw[z3]at q;cases q
 have oo:∀a,Own (fun s b=>(s=i/\R i b)\/(bs[s]?=some false/\R' s b)) (U NoA Ox) a->Own R Ox a\/H a=none:=fun a z=>by
  rcases z with⟨s,⟨_,z⟩|⟨_,z⟩⟩|z|z
  ·exact .inl (.inl ⟨i,z⟩)
  ·exact(ow' s a z).imp (fun⟨j,z,_⟩=>.inl ⟨j,z⟩) id
  ·exact z.elim
  ·exact .inl (.inr z)
 refine⟨fun s b=>(s=i/\R i b)\/(bs[s]?=some false/\R' s b),⟨fun s t h=>?_,fun s s' b z z'=>?_,fun s b z=>?_,fun b z=>?_,?_,?_⟩,fun _ z=>z.elim,fun a o q n=>P.keep a o q fun s z=>n s z.2,fun a z=>?_,P.dom,fun j hj=>P.lk j (hlk j hj)⟩
 ·rcases jX h with⟨c1,c2⟩|⟨c1,c2,dd,c3,c4⟩
  ·obtain⟨l1,l2⟩:=bz s c1;obtain⟨v,d',g1,g2,g3⟩:=e.at_ s t c2;refine⟨v,d',(P.lk s l1).trans g1,(hk s c1).trans g2,?_⟩;rcases l2 with l2|l2
   ·subst l2;exact Ow.grow (fun _ z=>z) t (fun b z=>.inl ⟨rfl,z⟩) (Ow.mv (G:=R s) ⟨kp,oo⟩ t (fun _ z=>z) g3)
   ·rw[g2]at l2;cases l2;exact Ow.any0 t (Ow.mv (G:=NoA) ⟨fun a o q z=>kp a o q (.inl (z.elim id fun z=>z.elim)),oo⟩ t (fun _ z=>z) (Ow.any0 (F':=NoA) t g3))
  ·obtain⟨v,d',g1,g2,g3⟩:=P.env.at_ s t c2;have si:s≠i:=fun z=>by
    subst z;rw[bi]at c1;cases c1
   have ed:ds'[s]?=ds1[s]?:=by rw[<-h1,zaO (Ne.symm si)]
   have e2:d'=dd:=by
    rw[ed,g2]at c3;cases c3;rfl
   subst e2;exact⟨v,d',g1,c3,Ow.grow (fun _ z=>z) t (fun b z=>.inr ⟨c1,z⟩) (Ow.self t c4 g3)⟩
 ·rcases z with⟨z1,z⟩|⟨z1,z⟩<;>rcases z' with⟨z2,z'⟩|⟨z2,z'⟩
  ·rw[z1,z2]
  ·exact absurd z (nRi s' b z')
  ·exact absurd z' (nRi s b z)
  ·exact P.env.dj s s' b z z'
 ·rcases z with⟨z1,z⟩|⟨z1,z⟩
  ·exact fun z2=>e.dx i b z (z2.elim (fun z=>z.elim) id)
  ·exact P.env.dx s b z
 ·rcases z with⟨s,⟨z1,z⟩|⟨z1,z⟩⟩|z
  ·obtain⟨o,q⟩:=e.dom b (.inl ⟨i,z⟩);exact P.dom b o q
  ·exact P.env.dom b (.inl ⟨s,z⟩)
  ·exact P.env.dom b (.inr z)
 ·have q1:=P.env.l1;have q2:=P.env.l2;have q3:=e.l1;have q4:=e.l2;have l':ds'.length=ds1.length:=by rw[<-h1,zaV]
  have hσ:σ'.length=σ.length:=by
   omega
  rw[jW (by omega) (by omega) (by omega)];omega
 ·rw[<-h1,zaV];exact P.env.l2
 ·rcases z with z|⟨s,⟨z1,z⟩|⟨z1,z⟩⟩
  ·exact z.elim
  ·exact .inl ⟨i,z⟩
  ·exact(ow' s a z).imp (fun⟨j,z,_⟩=>⟨j,z⟩) id
end
theorem Ow.path:∀{π:List Nat} {t u:D} {d:Nat} {v w:V} {F:AS},Ow K O H t d v F->bf t π=some u->dns π.length d≠0->(∀a o,F a->H a=some o->H' a=some o)->PathV H v π w->PathV H' v π w
 |[],_,_,_,_,_,_,_,_,_,_,h=>h
 |k::π,t,u,d,v,w,F,h,hp,hz,g,pv=>by
  have hz1:dns π.length (dn d)≠0:=hz;have hd0:d≠0:=vN (m:=π.length+1) hz;obtain⟨a',vs',u',e',r1,r2,r3⟩:=pv;cases t with
  |list ts=>
   obtain⟨c,p1,p2⟩:=zaa.mp hp;obtain⟨a,vs,e,⟨h0,_⟩|⟨_,h1,h2,F',hf,h3⟩⟩:=h
   ·exact absurd h0 hd0
   obtain⟨w1,G1,G2,g1,g2,g3,g4,g5,g6⟩:=h3.zoom p1;rw[e]at e';cases e';have ev:vs'=vs:=by
    rcases r1 with r1|r1
    ·rw[h1]at r1;cases r1;rfl
    ·rw[h1]at r1;cases r1
   subst ev;rw[g1]at r2;cases r2;exact⟨_,vs',_,e,.inl (g _ _ h2 h1),g1,Ow.path g5 p2 hz1 (fun b o z q=>g b o (hf b (g2 b z)).1 q) r3⟩
  |tuple ts=>
   obtain⟨c,p1,p2⟩:=zaa.mp hp;obtain⟨a,vs,e,⟨h0,_⟩|⟨_,h1,h2,F',hf,h3⟩⟩:=h
   ·exact absurd h0 hd0
   obtain⟨w1,G1,G2,g1,g2,g3,g4,g5,g6⟩:=h3.zoom p1;rw[e]at e';cases e';have ev:vs'=vs:=by
    rcases r1 with r1|r1
    ·rw[h1]at r1;cases r1
    ·rw[h1]at r1;cases r1;rfl
   subst ev;rw[g1]at r2;cases r2;exact⟨_,vs',_,e,.inr (g _ _ h2 h1),g1,Ow.path g5 p2 hz1 (fun b o z q=>g b o (hf b (g2 b z)).1 q) r3⟩
  |_=>cases hp
def nc(bs:List Bool)(ds:List Nat)(i r:Nat)(mp:MP)(fe fk:ME):MS:=fun en=>(mp en).bind fun a=>((a.2[i]?).join).bind fun x=>match bf x a.1 with
 |some (.list ts)=>(fe (a.2.set r (some (.list ts)))).bind fun b=>if scaD b.1=true then(fk b.2).bind fun q=>match q.1 with
   |.int n=>(ixN ts.length n).map fun kk=>.nx ((bh bs ds (a.2.set r none) q.2).set i (some (bF x a.1 (.list (ts.set kk b.1)))))
   |_=>none
  else none
 |_=>none
section
variable{bs:List Bool}{D:Ends} 
theorem qk:∀{bs:List Bool} {ds:List Nat} {en en':En} {s:Nat} {x:Option L2.D},bs[s]?=some true->en[s]?=some x->s<ds.length->s<en'.length->(bh bs ds en en')[s]?=some x
 |[],_,_,_,_,_,h,_,_,_=>by cases h
 |_::_,[],_,_,_,_,_,_,h,_=>by cases h
 |_::_,_::_,[],_,_,_,_,h,_,_=>by cases h
 |_::_,_::_,_::_,[],_,_,_,_,_,h=>by cases h
 |b::bs,d::ds,x::en,y::en',0,_,h,h2,_,_=>by
  cases h;cases h2;rfl
 |b::bs,d::ds,x::en,y::en',s+1,_,h,h2,h3,h4=>by
  show(bh bs ds en en')[s]?=_;exact qk (by simpa using h) (by simpa using h2) (by simpa using h3) (by simpa using h4)
def FA(hir:i≠r)(hi:ds[i]?=some d)(hr:ds[r]?=some 0)(hA:ds.set i 0=dsA)(hz:dns m d≠0)(bi:bs[i]?=some true)(bl:bs.length=ds.length)(bz:∀s:Nat,bs[s]?=some true->s=i\/ds[s]?=some 0)(hlk:r∉J.lk)
  (h:tFS K J ds ds (nc bs ds i r mp fe fk) D σ H):
  sI (i7 (tP K p1 ds ds i m mp) (jl r)) (i7 (tF K p2 dsA dsA c fe) (tT (eA r) (tF K p3 dsA dsA d2 fk) pf)) D σ H:=by
 obtain⟨Ox,en,R,fl,e,hf,k⟩:=h;unfold nc at hf;obtain⟨⟨π,en1⟩,h1,hf⟩:=zaa.mp hf;obtain⟨x,hx,hf⟩:=zaa.mp hf
 dsimp only at hf hx
 split at hf
 case h_2=>cases hf
 next ts hg=>
 obtain⟨⟨t,en2⟩,h2,hf⟩:=zaa.mp hf
 dsimp only at hf
 by_cases hs:scaD t=true
 case neg=>rw[if_neg hs]at hf;cases hf
 rw[if_pos hs]at hf;obtain⟨⟨t3,en3⟩,h3,hf⟩:=zaa.mp hf
 dsimp only at hf
 split at hf
 case h_2=>cases hf
 next n=>
 obtain⟨kk,h6,hf⟩:=zab.mp hf;cases hf;refine⟨Ox,en,R,π,en1,e,h1,fun v w H1 R1 P1 hl hv pv=>?_⟩;subst hl;have hx':=aK hx;obtain⟨l,vs,F1,el,hl1,hrl,hf1,ow,-⟩:=P1.place hx' hv hi hg hz pv;subst el;have E:=P1.env0;have rl:r<σ.length:=by rw[<-e.l2];exact(zah.mp hr).1
 have il:i<ds.length:=(zah.mp hi).1;have sub1:∀a,Own (fun s b=>s≠r/\R1 s b) Ox a->Own R1 Ox a:=fun a z=>z.imp (fun⟨s,z⟩=>⟨s,z.2⟩) id;have E1:EnvOk K ds Ox H1 (σ.set r (some (.ref l))) (en1.set r none) (fun s b=>s≠r/\R1 s b):=by
  refine⟨fun s u h=>?_,fun s s' b z z'=>E.dj s s' b z.2 z'.2,fun s b z=>E.dx s b z.2,fun b z=>E.dom b (sub1 b z),by rw[zaV,zaV];exact E.l1,by rw[zaV];exact E.l2⟩;by_cases sr:s=r
  ·subst sr;by_cases ll:s<en1.length
   ·rw[zaP ll]at h;cases h
   ·rw[zbi (by rw[zaV];omega)]at h;cases h
  ·rw[zaO (Ne.symm sr)]at h;obtain⟨v',d',g1,g2,g3⟩:=E.at_ s u h;exact⟨v',d',by rw[zaO (Ne.symm sr)];exact g1,g2,Ow.grow sub1 u (fun b z=>⟨sr,z⟩) g3⟩
 have sub0:∀a,Own (fun s b=>s≠i/\s≠r/\R1 s b) Ox a->Own R1 Ox a:=fun a z=>z.imp (fun⟨s,z⟩=>⟨s,z.2.2⟩) id;have nR:∀b,R1 i b->¬Own (fun s b=>s≠i/\s≠r/\R1 s b) Ox b:=fun b z z2=>by
  rcases z2 with⟨s,z2⟩|z2
  ·exact z2.1 (E.dj s i b z2.2.2 z)
  ·exact E.dx i b z z2
 have owl:Ow K (Own R1 Ox) H1 (.list ts) (dns π.length d) (.ref l) (R1 i):=by
  have e0:U NoA Ox=Ox:=dN fun a=>⟨fun z=>z.elim (fun z=>z.elim) id,.inr⟩;rw[e0]at ow;exact⟨l,vs,rfl,.inr ⟨hz,hl1,hrl,F1,hf1,ow⟩⟩
 have E0:EnvOk K dsA Ox H1 (σ.set r (some (.ref l))) (en1.set r (some (.list ts))) (fun s b=>s≠i/\s≠r/\R1 s b):=by
  refine⟨fun s u h=>?_,fun s s' b z z'=>E.dj s s' b z.2.2 z'.2.2,fun s b z=>E.dx s b z.2.2,fun b z=>E.dom b (sub0 b z),by rw[zaV,zaV];exact E.l1,by rw[<-hA,zaV,zaV];exact E.l2⟩;by_cases sr:s=r
  ·subst sr;rw[zaP (by rw[E.l1];exact rl)]at h;cases h;exact⟨_,0,zaP rl,by rw[<-hA,zaO hir];exact hr,Ow.fz sub0 nR owl⟩
  ·rw[zaO (Ne.symm sr)]at h;obtain⟨v',d',g1,g2,g3⟩:=E.at_ s u h;by_cases si:s=i
   ·subst si;exact⟨v',0,by rw[zaO (Ne.symm sr)];exact g1,by rw[<-hA];exact zaP il,Ow.fz sub0 nR g3⟩
   ·exact⟨v',d',by rw[zaO (Ne.symm sr)];exact g1,by rw[<-hA,zaO (Ne.symm si)];exact g2,Ow.grow sub0 u (fun b z=>⟨si,sr,z⟩) g3⟩
 refine⟨Ox,_,_,t,en2,E0,h2,fun x1 H2 R2 F2 P2 o2=>⟨.ref l,zaP rl,Ox,en2,R2,.int n,en3,P2.env0,h3,fun y H3 R3 F3 P3 o3=>?_⟩⟩;have ey:y=.int n:=o3;subst ey;have P23:=(P2.after P3).less (F':=NoA) fun _ z=>z.elim;have hB:dsA.set i d=ds:=by
  rw[<-hA,List.set_set];refine List.ext_getElem? fun s=>?_;by_cases si:s=i
  ·subst si;rw[zaP il,hi]
  ·rw[zaO (Ne.symm si)]
 obtain⟨R4,PL⟩:=PostS.lent (J:=⟨[],[],0,[]⟩) (J':=⟨List.range ds.length,[],0,[]⟩) (d:=d) (bs:=bs) E1 hB bi bl (fun s q=>⟨zbn.mpr (by rw[<-bl];exact(zah.mp q).1),bz s q⟩) (fun _ z=>nomatch z) (fun s _=>rfl) rfl P23.s;have Q1:Post K false ds Ox (σ.set r (some (.ref l))) H1 (en1.set r none) (fun s b=>s≠r/\R1 s b) (bh bs ds (en1.set r none) en3) H3 R4 NoA:=⟨PL.env,PL.fx,PL.keep,PL.own,PL.dom,fun z=>by cases z⟩;have l3:=P23.env.l1;rw[zaV]at l3;have hi3:=qk (ds:=ds) (en:=en1.set r none) (en':=en3) (x:=some x) bi (by rw[zaO (Ne.symm hir)];exact hx') il (by rw[l3,<-e.l2];exact il);have hv3:(σ.set r (some (.ref l)))[i]?=some (some v):=by rw[zaO (Ne.symm hir)];exact hv
 obtain⟨v',d',g1,g2,g3⟩:=E.at_ i x hx';rw[hv]at g1;cases g1;rw[hi]at g2;cases g2;have pv3:PathV H3 v π (.ref l):=Ow.path g3 hg hz (fun a o z q=>P23.keep a o q fun s z2=>z2.1 (E.dj s i a z2.2.2 z)) pv;obtain⟨l',vs3,G1,el,hl3,hr3,hf3,ow3,fin⟩:=Q1.place hi3 hv3 hi hg hz pv3;cases el;refine⟨l,vs3,n,kk,rfl,rfl,hl3,by rw[ow3.len];exact h6,?_⟩;have Ol:Own R4 (U NoA Ox) l:=.inl ⟨i,hr3⟩;obtain⟨R',PF⟩:=fin (ts.set kk t) (vs3.set kk x1) (U G1 NoA) (fun _ z=>z.imp id fun z=>z.elim) fun O' ho=>
  Ows.setAt (Ows.past ho Ol (fun b z=>(hf3 b z).2) ow3) (o2.scaD hs) fun b _ z2=>z2.elim
 refine k _ _ R' ⟨PF.env,PF.fx,fun a o q z=>PF.keep a o (P1.keep a o q z) fun s z2=>?_,fun a z=>?_,fun a o q=>?_,fun s hs=>?_⟩
 ·rcases P1.own a (.inr ⟨s,z2.2⟩)with⟨s',z3⟩|z3
  ·exact z s' z3
  ·rw[q]at z3;cases z3
 ·rcases PF.own a z with⟨s,z⟩|z
  ·exact P1.own a (.inr ⟨s,z.2⟩)
  ·refine .inr ?_;cases q:H a with
   |none=>rfl
   |some o=>
    obtain⟨o',q'⟩:=P1.dom a o q;rw[z]at q';cases q'
 ·obtain⟨o',q'⟩:=P1.dom a o q;exact PF.dom a o' q'
 ·have ne:r≠s:=fun e=>hlk (by rw[e];exact hs);exact zaO ne
end
section
variable{bs:List Bool}  
def Ay(i r:Nat)(bs:List Bool)(ds lk:List Nat):Bool:=bs[i]?==some true&&bs.length==ds.length&&!(i==r)&&!(lk.contains r)&&ds[r]?==some 0&&(List.range bs.length).all fun s=>!(bs[s]?==some true) || (s==i || ds[s]?==some 0)
def vq{pos2:Pos}(hN:X.N.Nodup)(hz':X.N[r]?=some z)(vz:Vis X.env.scope z)(lz:Loc X.env.scope z)(uz:((z==("__debug__":Str)),(z==("__classdict__":Str)))=(false,false))(hs1:swapsWith o (some (.Name z pz)) pos.line X.env=pure false)(hf:X.fn z=true\/X.env.scope.names.lookup z=some .local)
  (ho:QE X o (tP K p1 ds ds i m mp)) (he:QE X e (tF K p2 dsA dsA c fe)) (hk:QE X k (tF K p3 dsA dsA d2 fk))
  (ha:∀v,assign (.Subscript (.Name z px) k ζ) X.env v=(do
   let ov <-holding [v] (eval (.Name z px) X.env);let iv <-holding [v,ov] (eval k X.env)
   standAt ζ
   holding [v,ov,iv] (setItem ov iv v)
   release [v,ov,iv] []))
  (hs:swapsWithSole [.Subscript (.Name z px) k ζ] e pos2.line X.env=pure false) (hw:swappedStores [.Subscript (.Name z px) k ζ] e X.env=pure none)
  (h2:(assignEach [.Subscript (.Name z px) k ζ] X.env).map (·.2)=[assign (.Subscript (.Name z px) k ζ) X.env])
  (hi:ds[i]?=some d) (hA:ds.set i 0=dsA) (hz:dns m d≠0) (hb:Ay i r bs ds J.lk=true):
  QSs X [.Assign [.Name z pz] o pos,.Assign [.Subscript (.Name z px) k ζ] e pos2] (tFS K J ds ds (nc bs ds i r mp fe fk)):=by
 simp only[za1]at uz;unfold Ay at hb;rw[zbj,zbj,zbj,zbj,zbj,List.all_eq_true]at hb;obtain⟨⟨⟨⟨⟨b1,b2⟩,b3⟩,b4⟩,b5⟩,b6⟩:=hb;refine⟨(jc (pS (pos:=pos) (pos':=pz) hN hz' lz ho.h hs1 hf) (jc (pT (pos:=pos2) he.h (pV (cf (pos:=px) hz' vz uz.1 uz.2) hk.h ls ha) hs hw h2) pss_nil)).imp fun _ _ _ h=>?_⟩;exact FA (by simpa using b3) hi (by simpa using b5) hA hz (by simpa using b1) (by simpa using b2) (fun s q=>by
  have:=b6 s (zbn.mpr (zah.mp q).1);rw[q]at this;simpa using this) (by simpa using b4) h
end
section
variable{Q:VK}
def Post.np{F:AS}(P:Post K p ds' Ox σ H en R en' H' R' F):Post K false ds' Ox σ H en R en' H' R' F:=⟨P.env,P.fx,P.keep,P.own,P.dom,fun z=>by cases z⟩
def Ge(hd1:ds1[i]?=some d)(hd:ds2[i]?=some d)(hz:dns m d≠0)(h:tP K false ds ds2 i (m+1) (pIx i mp f) σ H Q):tOp (rIx K) (tP K p1 ds ds1 i m mp) (tFk K ds1 ds2 d1 i f) σ H Q:=by
 obtain⟨Ox,en,R,π,en',e,hf,k⟩:=h;unfold pIx at hf;obtain⟨⟨π0,en1⟩,h1,hf⟩:=zaa.mp hf;obtain⟨⟨t1,en2⟩,h2,hf⟩:=zaa.mp hf
 dsimp only at hf
 split at hf
 case h_2=>cases hf
 next n t h3=>
 obtain⟨u,h4,hf⟩:=zaa.mp hf;refine⟨Ox,en,R,π0,en1,e,h1,fun v w H1 R1 P1 hl hv pv=>?_⟩;refine⟨Ox,en1,R1,.int n,en2,P1.env0,h2,fun y H2 R2 F P2 kp ki o=>?_⟩;have ey:y=.int n:=o;subst ey;have P:=P1.after P2;obtain⟨v',d',b1,b2,b3⟩:=P.env.at_ i t (aK h3);rw[hv]at b1;cases b1;rw[hd]at b2;cases b2;have pv2:PathV H2 v π0 w:=by
  obtain⟨v1,d1',c1,c2,c3⟩:=P1.env0.at_ i t (ki▸aK h3);rw[hv]at c1;cases c1;rw[hd1]at c2;cases c2;exact Ow.path c3 h4 (by rw[hl];exact hz) (fun a o z q=>kp a o q z) pv
 obtain⟨w2,F1,Fr,q1,q2,q3,q4,q5,_⟩:=b3.zoom h4 (by rw[hl];exact hz);have ew:=pv2.det q1;subst ew;rw[hl]at q5;cases u with
 |list ts=>
  obtain⟨kk,h5,hf⟩:=zaa.mp hf;by_cases hk:kk<ts.length
  case neg=>rw[if_neg hk]at hf;cases hf
  rw[if_pos hk]at hf;cases hf;obtain⟨a,vs,ea,ha,_,F',_,ow⟩:=q5.ownL hz;obtain⟨x,g1,_⟩:=ow.get (zak hk);refine .inl ⟨a,vs,n,x,ea,rfl,SqL.of ha,by unfold atI;rw[ow.len,h5];exact g1,?_⟩;subst ea;exact k v x H2 R2 (Post.np (P.less fun _ z=>z.elim)) (by rw[zae,hl];rfl) hv (PathV.snoc (.inl ha) g1 q1)
 |tuple ts=>
  obtain⟨kk,h5,hf⟩:=zaa.mp hf;by_cases hk:kk<ts.length
  case neg=>rw[if_neg hk]at hf;cases hf
  rw[if_pos hk]at hf;cases hf;obtain⟨a,vs,ea,⟨h0,_⟩|⟨_,ha,_,F',_,ow⟩⟩:=q5
  ·exact absurd h0 hz
  obtain⟨x,g1,_⟩:=ow.get (zak hk);refine .inr (.inl ⟨a,vs,n,x,ea,rfl,SqT.of ha,by unfold atI;rw[ow.len,h5];exact g1,?_⟩);subst ea;exact k v x H2 R2 (Post.np (P.less fun _ z=>z.elim)) (by rw[zae,hl];rfl) hv (PathV.snoc (.inr ha) g1 q1)
 |_=>cases hf
def vA(hK:X.K=K)(hd1:ds1[i]?=some d)(hd:ds2[i]?=some d)(ho:QE X o (tP K p1 ds ds1 i m mp))(hb:QE X b (tFk K ds1 ds2 d1 i f))(hz:dns m d≠0)(hs:dw b):QE X (.Subscript o b pos) (tP K false ds ds2 i (m+1) (pIx i mp f)):=by
 subst hK;exact⟨(l5 ix_seq ho.h hb.h hs).imp fun _ _ _=>Ge hd1 hd hz⟩
end
end L2
namespace W36
variable{k:Nat}
open PySem L2
def top(i:Nat):Stmt:=PySem.Challenge.pw_wordrules_k36_pairs_looked_at.main.body.getD i (.Pass ⟨0,0,0,0⟩)
structure Bl(mg:Str->Option Value):Prop where
 all0:mg "all"=none
 bool0:mg "bool"=none
 enumerate0:mg "enumerate"=none
 int0:mg "int"=none
 isinstance0:mg "isinstance"=none
 len0:mg "len"=none
 list0:mg "list"=none
 range0:mg "range"=none
 tuple0:mg "tuple"=none
section
variable{P:Program}{w:World}{K:zbQ}{mg:Str->Option Value}{base:Heap}{f:Addr}{fd:FuncData}
abbrev kf:Stmt:=top 22
abbrev vY:List Str:=["_law_script","_law_k","_law_cell"]
def sM:FnScope vY ["_law_script","_law_k"] (ah kf):=fsc
def ek:MS:=(aj (ay 2 (e2 be (e2 bt (eC (.int 6151)) (ac 1)) (eC (.int 3))))
 (aj (sIf (tV (e2 ltI (ac 1) (eN bc (aa (ac 0) af)))) (ay 2 (e2 ixA (ac 0) (ac 1))) (sIf (tV (e2 gtI (eN bc (aa (ac 0) af)) (eC (.int 0)))) (ay 2 (e2 be (e2 bu (e2 ixA (ac 0) (e2 bu (ac 1) (eN bc (aa (ac 0) af)))) (eC (.int 2147483629))) (e2 bt (eC (.int 40503)) (ac 1)))) aO))
 (aj (sIf (tV (e2 geI (ac 2) (e2 ng (eC (.int 10)) (eC (.int 18))))) (av (a6 (aa (e2 lr (ac 2) (e2 ng (eC (.int 10)) (eC (.int 18)))) (aa (e2 bu (ac 2) (eC (.int 2147483587))) (aa (eC (.int 0)) af))))) aO)
 (av (a6 (aa (eC (.int 0)) (aa (e2 bu (ac 2) (eC (.int 2147483587))) (aa (eC (.int 0)) af))))))))
def da:List D->Option (D×En):=fnF 1 [0,0] ek
abbrev jy:Stmt:=top 23
abbrev uk:List Str:=["_law_pen_here","_law_many","_law_drawn","_law_number"]
def rf:FnScope uk ["_law_pen_here","_law_many"] (ah jy):=fsc
def fm:MS:=(aj (dJ 0 (eC (.int 2)) (e2 be (cy 0 (eC (.int 2))) (eC (.int 1))))
 (aj (sIf (tV (e2 gtI (cy 0 (eC (.int 0))) (eC (.int 0)))) (aj (ay 2 (e2 bu (cy 0 (eC (.int 0))) (ac 1)))
 (aj (dJ 0 (eC (.int 0)) (e2 ik (cy 0 (eC (.int 0))) (ac 1)))
 (av (ac 2)))) aO)
 (aj (ay 3 (e2 bu (e2 be (e2 be (cy 0 (eC (.int 1))) (e2 bt (eC (.int 69621)) (cy 0 (eC (.int 2))))) (eC (.int 13))) (eC (.int 2147483629))))
 (aj (ay 3 (e2 be (e2 bu (e2 bt (ac 3) (ac 3)) (eC (.int 2147483587))) (e2 bt (eC (.int 6151)) (cy 0 (eC (.int 2))))))
 (aj (ay 3 (e2 bu (e2 bt (ac 3) (ac 3)) (eC (.int 2147483629))))
 (av (e2 bu (e2 ik (ac 3) (eC (.int 64))) (ac 1))))))))
def ao:List D->Option (D×En):=fnF 2 [1,0] fm
abbrev jx:Stmt:=top 25
abbrev uj:List Str:=["_law_none","_law_stand"]
def re:FnScope uj ["_law_none","_law_stand"] (ah jx):=fsc
def gB:MS:=(aj (sIf (tV (ac 0)) (av (eC .none)) aO)
 (av (ac 1)))
def bE:List D->Option (D×En):=fnF 0 [0,0] gB
abbrev cH:Stmt:=top 24
abbrev ge:List Str:=["_law_pen_here","_law_many","_law_most","_law_size","_law_rare","_law_ends","_law_lost","_law_goes","_law_k"]
def m8:FnScope ge ["_law_pen_here","_law_many","_law_most"] (ah cH):=fsc
def ff:ME:=(e2 eqD (ai ao (aC 1 (aa (ac 2) af))) (eC (.int 0)))
def e9:ME:=(ai bE (aa (e2 ltI (ai ao (aC 1 (aa (eC (.int 8)) af))) (ac 3)) (aa (ai ao (aC 1 (aa (ac 2) af))) af)))
def iw:MS:=(fU (fX 7 (eUp (eLC false (bU (aa (ac 1) af)) (gN 0) cY e9 [none,some 0,some 3,some 6]))))
def dQ:MS:=(aj (ay 3 (e2 be (eC (.int 1)) (ai ao (aC 0 (aa (ac 2) af)))))
 (aj (ay 4 (e2 ixA (a6 (aa (eC (.int 2)) (aa (eC (.int 3)) (aa (eC (.int 6)) af)))) (ai ao (aC 0 (aa (eC (.int 3)) af)))))
 (aj (ay 5 (eLC false (bU (aa (ac 3) af)) (gN 0) cY ff [none,some 0,some 4]))
 (aj (ay 6 (e2 ixA (a6 (aa (eC (.int 1)) (aa (eC (.int 3)) (aa (eC (.int 8)) af)))) (ai ao (aC 0 (aa (eC (.int 3)) af)))))
 (aj (ay 7 (a6 af))
 (aj (cu (bU (aa (ac 3) af)) (gN 8) iw)
 (av (aX (aa (eMv 5) (aa (eMv 7) af))))))))))
def bQ:List D->Option (D×En):=fnF 6 [1,0,0] dQ
abbrev jv:Stmt:=top 31
abbrev uh:List Str:=["_law_goal_here","_law_which"]
def qZ:FnScope uh ["_law_goal_here","_law_which"] (ah jv):=fsc
def jC:MS:=(aj (sIf (tV (e2 isN (ac 0) (eC .none))) (av (eC .none)) aO)
 (av (e2 be (e2 bt (eC (.int 2)) (ac 0)) (ac 1))))
def dz:List D->Option (D×En):=fnF 0 [0,0] jC
abbrev dO:Stmt:=top 30
abbrev jI:List Str:=["_law_pen_here","_law_machine_here","_law_bent_here","_law_ends","_law_goes","_law_stand","_law_row","_law_turn","_law_at","_law_number"]
def m9:FnScope jI ["_law_pen_here","_law_machine_here","_law_bent_here"] (ah dO):=fsc
def fg:ME:=(ai dz (aa (ac 0) (aa (ai ao (aC 1 (aa (eC (.int 2)) af))) af)))
def iy:MS:=(aj (fU (fX 3 (eSk (e2 ixA (e2 ixA (ac 1) (eC (.int 0))) (ac 5)))))
 (fU (fX 4 (eLC false (cg (ac 6)) (gN 0) cY fg [none,some 0]))))
def ix:MS:=(cu (bU (aa (eC (.int 2)) af)) (gN 7) iy)
def jK:MS:=(aj (ay 3 (a6 af))
 (aj (ay 4 (a6 af))
 (aj (cu (jZ (aa (e2 ixA (ac 1) (eC (.int 1))) af)) (gT (gsC (gN 5) (gsC (gN 6) gs0))) ix)
 (aj (ay 8 (ai ao (aC 0 (aa (eN bc (aa (ac 3) af)) af))))
 (aj (sIf (tV (e2 eqD (ac 2) (eC (.int 1)))) (dJ 3 (ac 8) (iE (e2 ixA (ac 3) (ac 8)))) aO)
 (aj (sIf (tV (e2 eqD (ac 2) (eC (.int 2)))) (aj (ay 9 (ai ao (aC 0 (aa (eN bc (aa (e2 ixA (ac 4) (eC (.int 0))) af)) af))))
 (ii 4 (pIx 4 (je 4) (ac 8)) (ac 9) (eSk (ai bE (aa (e2 eqD (ai ao (aC 0 (aa (eC (.int 3)) af))) (eC (.int 0))) (aa (ai ao (aC 0 (aa (eN bc (aa (ac 3) af)) af))) af)))))) aO)
 (aj (sIf (tV (e2 eqD (ac 2) (eC (.int 3)))) (dJ 3 (ac 8) (eC (.bool true))) aO)
 (av (aX (aa (eMv 3) (aa (eMv 4) af)))))))))))
def cI:List D->Option (D×En):=fnF 7 [1,0,0] jK
abbrev iH:Stmt:=top 36
abbrev rG:List Str:=["_law_pen_here","_law_some","_law_found","_law_one"]
def pM:FnScope rG ["_law_pen_here","_law_some"] (ah iH):=fsc
def jJ:MS:=(aj (fU (nG 2 (ai ao (aC 0 (aa (e2 be (eN bc (aa (ac 2) af)) (eC (.int 1))) af))) (ac 3)))
 (sIf (tV (e2 eqD (ai ao (aC 0 (aa (eC (.int 6)) af))) (eC (.int 0)))) (fU (fX 2 (ac 3))) aO))
def fH:MS:=(aj (ay 2 (a6 af))
 (aj (cu (cg (ac 1)) (gN 3) jJ)
 (av (ac 2))))
def ca:List D->Option (D×En):=fnF 2 [1,0] fH
abbrev kg:Stmt:=top 37
abbrev vZ:List Str:=["_law_pair","_law_way","_law_size","_law_some"]
def sN:FnScope vZ ["_law_pair","_law_way","_law_size"] (ah kg):=fsc
def oJ:MS:=(aj (ay 3 (a6 (aa (a6 (aa (e2 ixA (ac 0) (eC (.int 0))) (aa (e2 ixA (ac 0) (eC (.int 1))) af))) (aa (aX (aa (e2 ixA (ac 0) (eC (.int 0))) af)) (aa (e2 ub (ac 0) (aX (aa (eC (.int 0)) af))) (aa (aX (aa (e1 qg (eC (.int 1))) (aa (e2 ixA (ac 0) (eC (.int 1))) af))) (aa (aX (aa (ac 2) (aa (e2 ixA (ac 0) (eC (.int 1))) af))) (aa (aX (aa (eC (.bool true)) (aa (e2 ixA (ac 0) (eC (.int 1))) af))) af))))))))
 (aj (ay 3 (e2 fB (ac 3) (a6 (aa (aX (aa (eC (.str "0")) (aa (e2 ixA (ac 0) (eC (.int 1))) af))) (aa (aX (aa (e2 ixA (ac 0) (eC (.int 0))) (aa (e1 qg (eC (.int 1))) af))) (aa (aX (aa (e2 ixA (ac 0) (eC (.int 0))) (aa (e2 bt (eC (.int 2)) (ac 2)) af))) (aa (aX (aa (e2 ixA (ac 0) (eC (.int 0))) (aa (eC (.bool false)) af))) (aa (eC .none) (aa (eC (.str "ab")) (aa (eC (.int 7)) af))))))))))
 (aj (ay 3 (e2 fB (ac 3) (a6 (aa (aX (aa (a6 (aa (e2 ixA (ac 0) (eC (.int 0))) af)) (aa (e2 ixA (ac 0) (eC (.int 1))) af))) (aa (aX (aa (e2 ixA (ac 0) (eC (.int 0))) (aa kP af))) (aa (e2 tz (eSl t7 (ac 0) fF (eD (eC (.int 1)))) (eC (.int 3))) af))))))
 (av (e2 ixA (ac 3) (ac 1))))))
def fS:List D->Option (D×En):=fnF 1 [0,0,0] oJ
abbrev gA:Stmt:=top 38
abbrev mU:List Str:=["_law_pen_here","_law_one","_law_other","_law_pairs","_law_way","_law_at","_law_size","_law_lost","_law_more","_law_machine_here","_law_stand","_law_row"]
def rg:FnScope mU ["_law_pen_here","_law_one","_law_other","_law_pairs"] (ah gA):=fsc
def kb:MT:=(tV (e2 neD (ac 0) (ac 1)))
def kz:ME:=(ac 0)
def hU:MS:=(aj (ay 10 (ai ao (aC 0 (aa (eN bc (aa (e2 ixA (ac 9) (eC (.int 0))) af)) af))))
 (ii 9 (pIx 9 (je 9) (eC (.int 0))) (ac 10) (iE (e2 ixA (e2 ixA (ac 9) (eC (.int 0))) (ac 10)))))
def hR:MS:=(nc [false,false,false,true,true,true,true,true,true,true,true,true] [1,3,3,0,0,0,0,0,0,3,0,0] 9 11 (pIx 9 (pIx 9 (je 9) (eC (.int 1))) (ai ao (aC 0 (aa (eN bc (aa (e2 ixA (ac 9) (eC (.int 0))) af)) af)))) (ai bE (aa (e2 eqD (ai ao (aC 0 (aa (eC (.int 3)) af))) (eC (.int 0))) (aa (ai ao (aC 0 (aa (eN bc (aa (e2 ixA (ac 9) (eC (.int 0))) af)) af))) af))) (ai ao (aC 0 (aa (eN bc (aa (ac 11) af)) af))))
def mZ:MS:=(aj (ay 4 (ai ao (aC 0 (aa (eC (.int 10)) af))))
 (aj (ay 5 (ai ao (aC 0 (aa (eN bc (aa (ac 3) af)) af))))
 (aj (ay 6 (eN bc (aa (e2 ixA (ac 1) (eC (.int 0))) af)))
 (aj (sIf (tV (e2 ltI (ac 4) (eC (.int 2)))) (aj (ay 7 (e2 ixA (ac 3) (ac 5)))
 (av (eLC true (cg (ac 3)) (gN 0) kb kz [none,some 7]))) aO)
 (aj (sIf (tV (e2 ltI (ac 4) (eC (.int 4)))) (av (e2 fB (e2 fB (eSl io (ac 3) fF (eD (ac 5))) (a6 (aa (aX (aa (ai ao (aC 0 (aa (ac 6) af))) (aa (ai ao (aC 0 (aa (e2 bt (eC (.int 2)) (ac 6)) af))) af))) af))) (eSl io (ac 3) (eD (ac 5)) fF))) aO)
 (aj (sIf (tV (e2 eqD (ac 4) (eC (.int 4)))) (aj (ay 8 (e2 ixA (a6 (aa (aX (aa (eC .none) (aa (ai ao (aC 0 (aa (e2 bt (eC (.int 2)) (ac 6)) af))) af))) (aa (aX (aa (ai ao (aC 0 (aa (ac 6) af))) (aa (eC .none) af))) (aa (aX (aa (eC .none) (aa (eC .none) af))) af)))) (ai ao (aC 0 (aa (eC (.int 3)) af)))))
 (av (e2 fB (e2 fB (eSl io (ac 3) fF (eD (ac 5))) (a6 (aa (ac 8) af))) (eSl io (ac 3) (eD (ac 5)) fF)))) aO)
 (aj (sIf (tV (e2 eqD (ac 4) (eC (.int 5)))) (sAl 1 2 9 (ai ao (aC 0 (aa (eC (.int 2)) af))) hU) aO)
 (aj (sIf (tV (e2 eqD (ac 4) (eC (.int 6)))) (sAl 1 2 9 (ai ao (aC 0 (aa (eC (.int 2)) af))) hR) aO)
 (aj (sIf (tV (e2 eqD (ac 4) (eC (.int 7)))) (av (e2 fB (e2 fB (eSl io (ac 3) fF (eD (ac 5))) (a6 (aa (ai fS (aa (e2 ixA (ac 3) (ac 5)) (aa (ai ao (aC 0 (aa (eC (.int 16)) af))) (aa (ac 6) af)))) af))) (eSl io (ac 3) (eD (e2 be (ac 5) (eC (.int 1)))) fF))) aO)
 (av (ac 3)))))))))))
def e7:List D->Option (D×En):=fnF 8 [1,3,3,0] mZ
abbrev eV:Stmt:=top 29
abbrev ko:List Str:=["_law_machine_here"]
def oR:FnScope ko ["_law_machine_here"] (ah eV):=fsc
def i6:ME:=(eN l9 (aa (ac 0) af))
def kE:MS:=(av (aX (aa (eN l9 (aa (e2 ixA (ac 0) (eC (.int 0))) af)) (aa (eLC true (cg (e2 ixA (ac 0) (eC (.int 1)))) (gN 0) cY i6 [none]) af))))
def ck:List D->Option (D×En):=fnF 0 [0] kE
abbrev nL:Stmt:=top 7
abbrev Cn:List Str:=["things","marks","thing"]
def wq:FnScope Cn ["things"] (ah nL):=fsc
def oF:MS:=(gI 1 (ac 2) (eC (.bool true)))
def so:MS:=(aj (ay 1 mB)
 (aj (cu (cg (ac 0)) (gN 2) oF)
 (av (eMv 1))))
def gF:List D->Option (D×En):=fnF 2 [0] so
abbrev kd:Stmt:=top 1
abbrev vW:List Str:=["thing"]
def sJ:FnScope vW ["thing"] (ah kd):=fsc
def iA:MS:=(av (dS (e1 (bd "int") (ac 0)) (iE (e1 (bd "bool") (ac 0)))))
def ei:List D->Option (D×En):=fnF 0 [0] iA
abbrev dU:Stmt:=top 2
abbrev lP:List Str:=["thing","low","high"]
def kT:FnScope lP ["thing","low","high"] (ah dU):=fsc
def cC:MS:=(av (dS (ai ei (aa (ac 0) af)) (gQ leI leI (ac 1) (ac 0) (ac 2))))
def bm:List D->Option (D×En):=fnF 0 [0,0,0] cC
abbrev dG:Stmt:=top 19
abbrev k5:List Str:=["machine","thing"]
def jN:FnScope k5 ["machine","thing"] (ah dG):=fsc
def bB:MS:=(av (eOr (e2 isN (ac 1) (eC .none)) (ai bm (aa (ac 1) (aa (eC (.int 0)) (aa (e2 lr (eN bc (aa (e2 ixA (ac 0) (eC (.int 0))) af)) (eC (.int 1))) af))))))
def aT:List D->Option (D×En):=fnF 0 [0,0] bB
abbrev lM:Stmt:=top 18
abbrev xJ:List Str:=["one","other","thing"]
def uP:FnScope xJ ["one","other","thing"] (ah lM):=fsc
def ia:MS:=(aj (sIf (bOr (bN (tV (e1 (bd "tuple") (ac 2)))) (tV (e2 neD (eN bc (aa (ac 2) af)) (eC (.int 2))))) (av (eC (.bool false))) aO)
 (av (dS (ai aT (aa (ac 0) (aa (e2 ixA (ac 2) (eC (.int 0))) af))) (ai aT (aa (ac 1) (aa (e2 ixA (ac 2) (eC (.int 1))) af))))))
def cZ:List D->Option (D×En):=fnF 0 [0,0,0] ia
abbrev gz:Stmt:=top 17
abbrev mT:List Str:=["one","other","thing"]
def qY:FnScope mT ["one","other","thing"] (ah gz):=fsc
def kx:ME:=(ai cZ (aa (ac 1) (aa (ac 2) (aa (ac 0) af))))
def jB:MS:=(av (dS (e1 (bd "list") (ac 2)) (eN ka (aa (eLC true (cg (ac 2)) (gN 0) cY kx [none,some 0,some 1]) af))))
def bX:List D->Option (D×En):=fnF 0 [0,0,0] jB
abbrev ir:Stmt:=top 20
abbrev oE:List Str:=["told","ahead"]
def sL:FnScope oE ["told","ahead"] (ah ir):=fsc
def iL:ME:=(eOr (e2 isN (ac 0) (eC .none)) (e2 nH (ac 0) (ac 1)))
def oI:MS:=(av (eN ka (aa (eLC true (cg (ac 1)) (gN 0) cY iL [none,some 0]) af)))
def ej:List D->Option (D×En):=fnF 0 [0,0] oI
abbrev xH:Stmt:=top 6
abbrev Iu:List Str:=["machine","stand","sign"]
def GI:FnScope Iu ["machine","stand","sign"] (ah xH):=fsc
def xL:MS:=(av (eIf (tV (e2 isN (ac 1) (eC .none))) (eC .none) (e2 ixA (e2 ixA (e2 ixA (ac 0) (eC (.int 1))) (ac 1)) (ac 2))))
def lT:List D->Option (D×En):=fnF 0 [0,0,0] xL
abbrev eU:Stmt:=top 4
abbrev mS:List Str:=["machine"]
def lu:FnScope mS ["machine"] (ah eU):=fsc
def iB:MS:=(av (eN bc (aa (e2 ixA (e2 ixA (ac 0) (eC (.int 1))) (eC (.int 0))) af)))
def bW:List D->Option (D×En):=fnF 0 [0] iB
abbrev eT:Stmt:=top 9
abbrev km:List Str:=["one","other","pair"]
def oN:FnScope km ["one","other","pair"] (ah eT):=fsc
def i3:ME:=(aX (aa (ai lT (aa (ac 1) (aa (e2 ixA (ac 3) (eC (.int 0))) (aa (ac 0) af)))) (aa (ai lT (aa (ac 2) (aa (e2 ixA (ac 3) (eC (.int 1))) (aa (ac 0) af)))) af)))
def kB:MS:=(av (eLC true (bU (aa (ai bW (aa (ac 0) af)) af)) (gN 0) cY i3 [none,some 0,some 1,some 2]))
def ci:List D->Option (D×En):=fnF 0 [0,0,0] kB
abbrev cB:Stmt:=top 11
abbrev hC:List Str:=["one","other","pair"]
def kU:FnScope hC ["one","other","pair"] (ah cB):=fsc
def df:ME:=(eIf (tV (e2 eqD (ac 0) (aX (aa (eC .none) (aa (eC .none) af))))) (eC .none) (ac 0))
def ib:MS:=(av (eLC true (cg (ai ci (aa (ac 0) (aa (ac 1) (aa (ac 2) af))))) (gN 0) cY df [none]))
def bK:List D->Option (D×En):=fnF 0 [0,0,0] ib
abbrev nM:Stmt:=top 5
abbrev Co:List Str:=["machine","stand"]
def wt:FnScope Co ["machine","stand"] (ah nM):=fsc
def nT:MS:=(av (dS (e2 jU (ac 1) (eC .none)) (e2 ixA (e2 ixA (ac 0) (eC (.int 0))) (ac 1))))
def dy:List D->Option (D×En):=fnF 0 [0,0] nT
abbrev ke:Stmt:=top 13
abbrev vX:List Str:=["one","other","pair"]
def sK:FnScope vX ["one","other","pair"] (ah ke):=fsc
def oH:MS:=(av (e2 eqD (ai dy (aa (ac 0) (aa (e2 ixA (ac 2) (eC (.int 0))) af))) (ai dy (aa (ac 1) (aa (e2 ixA (ac 2) (eC (.int 1))) af)))))
def fR:List D->Option (D×En):=fnF 0 [0,0,0] oH
abbrev cX:Stmt:=top 15
abbrev gZ:List Str:=["one","other","pairs","told"]
def oO:FnScope gZ ["one","other","pairs"] (ah cX):=fsc
def i5:ME:=(ai fR (aa (ac 1) (aa (ac 2) (aa (ac 0) af))))
def i4:ME:=(ai ej (aa (ac 3) (aa (ai bK (aa (ac 1) (aa (ac 2) (aa (ac 0) af)))) af)))
def fh:MS:=(aj (sIf (bN (tV (ai bX (aa (ac 0) (aa (ac 1) (aa (ac 2) af)))))) (av (eC (.bool false))) aO)
 (aj (ay 3 (ai gF (aa (ac 2) af)))
 (aj (sIf (bOr (tV (e2 kR (aX (aa (eC (.int 0)) (aa (eC (.int 0)) af))) (ac 3))) (bN (tV (eN ka (aa (eLC true (iDz (ac 3)) (gN 0) cY i5 [none,some 0,some 1]) af))))) (av (eC (.bool false))) aO)
 (av (eN ka (aa (eLC true (iDz (ac 3)) (gN 0) cY i4 [none,some 0,some 1,some 3]) af))))))
def aW:List D->Option (D×En):=fnF 1 [0,0,0] fh
abbrev ce:Stmt:=top 12
abbrev gj:List Str:=["one","other","pair"]
def jO:FnScope gj ["one","other","pair"] (ah ce):=fsc
def cO:ME:=(eIf (tV (e2 isN (e2 ixA (ac 0) (eC (.int 0))) (eC .none))) (eC .none) (ac 0))
def gn:MS:=(av (eLC true (cg (ai ci (aa (ac 0) (aa (ac 1) (aa (ac 2) af))))) (gN 0) cY cO [none]))
def bA:List D->Option (D×En):=fnF 0 [0,0,0] gn
abbrev ju:Stmt:=top 14
abbrev ug:List Str:=["one","other","pair"]
def qX:FnScope ug ["one","other","pair"] (ah ju):=fsc
def mY:MS:=(av (eOr (ai dy (aa (ac 1) (aa (e2 ixA (ac 2) (eC (.int 1))) af))) (iE (ai dy (aa (ac 0) (aa (e2 ixA (ac 2) (eC (.int 0))) af))))))
def eZ:List D->Option (D×En):=fnF 0 [0,0,0] mY
abbrev cG:Stmt:=top 16
abbrev gc:List Str:=["one","other","pairs","told"]
def m7:FnScope gc ["one","other","pairs"] (ah cG):=fsc
def e8:ME:=(dS (e2 jU (e2 ixA (ac 0) (eC (.int 0))) (eC .none)) (ai eZ (aa (ac 1) (aa (ac 2) (aa (ac 0) af)))))
def iz:ME:=(ai ej (aa (ac 3) (aa (ai bA (aa (ac 1) (aa (ac 2) (aa (ac 0) af)))) af)))
def dP:MS:=(aj (sIf (bN (tV (ai bX (aa (ac 0) (aa (ac 1) (aa (ac 2) af)))))) (av (eC (.bool false))) aO)
 (aj (ay 3 (ai gF (aa (ac 2) af)))
 (aj (sIf (bOr (tV (e2 kR (aX (aa (eC (.int 0)) (aa (eC (.int 0)) af))) (ac 3))) (bN (tV (eN ka (aa (eLC true (iDz (ac 3)) (gN 0) cY e8 [none,some 0,some 1]) af))))) (av (eC (.bool false))) aO)
 (av (eN ka (aa (eLC true (iDz (ac 3)) (gN 0) cY iz [none,some 0,some 1,some 3]) af))))))
def aU:List D->Option (D×En):=fnF 1 [0,0,0] dP
abbrev gW:Stmt:=top 28
abbrev qT:List Str:=["_law_machine_here","_law_stand"]
def oQ:FnScope qT ["_law_machine_here","_law_stand"] (ah gW):=fsc
def ic:MS:=(av (dS (e2 jU (ac 1) (eC .none)) (e2 ixA (e2 ixA (ac 0) (eC (.int 0))) (ac 1))))
def bM:List D->Option (D×En):=fnF 0 [0,0] ic
abbrev fC:Stmt:=top 33
abbrev nN:List Str:=["_law_machine_here","_law_thing"]
def lY:FnScope nN ["_law_machine_here","_law_thing"] (ah fC):=fsc
def cq:MS:=(aj (sIf (tV (e2 isN (ac 1) (eC .none))) (av (eC (.bool true))) aO)
 (av (dS (e1 (bd "int") (ac 1)) (dS (iE (e1 (bd "bool") (ac 1))) (gQ leI ltI (eC (.int 0)) (ac 1) (eN bc (aa (e2 ixA (ac 0) (eC (.int 0))) af)))))))
def a7:List D->Option (D×En):=fnF 0 [0,0] cq
abbrev eW:Stmt:=top 34
abbrev mV:List Str:=["_law_one","_law_other","_law_pairs","_law_pair"]
def lw:FnScope mV ["_law_one","_law_other","_law_pairs"] (ah eW):=fsc
def bx:MS:=(aj (sIf (bOr (bN (tV (e1 (bd "tuple") (ac 3)))) (tV (e2 neD (eN bc (aa (ac 3) af)) (eC (.int 2))))) (av (eC (.bool false))) aO)
 (sIf (bOr (bN (tV (ai a7 (aa (ac 0) (aa (e2 ixA (ac 3) (eC (.int 0))) af))))) (bN (tV (ai a7 (aa (ac 1) (aa (e2 ixA (ac 3) (eC (.int 1))) af)))))) (av (eC (.bool false))) aO))
def iC:MS:=(aj (sIf (bN (tV (e1 (bd "list") (ac 2)))) (av (eC (.bool false))) aO)
 (aj (cu (cg (ac 2)) (gN 3) bx)
 (av (eC (.bool true)))))
def bY:List D->Option (D×En):=fnF 1 [0,0,0] iC
abbrev kh:Stmt:=top 26
abbrev v6:List Str:=["_law_machine_here","_law_stand","_law_number"]
def sO:FnScope v6 ["_law_machine_here","_law_stand","_law_number"] (ah kh):=fsc
def kC:MS:=(aj (sIf (tV (e2 isN (ac 1) (eC .none))) (av (eC .none)) aO)
 (av (e2 ixA (e2 ixA (e2 ixA (ac 0) (eC (.int 1))) (ac 1)) (ac 2))))
def de:List D->Option (D×En):=fnF 0 [0,0,0] kC
abbrev jw:Stmt:=top 35
abbrev ui:List Str:=["_law_one","_law_other","_law_pairs","_law_whole","_law_known","_law_pair","_law_s","_law_t","_law_first","_law_second","_law_number","_law_goal_here"]
def rb:FnScope ui ["_law_one","_law_other","_law_pairs","_law_whole"] (ah jw):=fsc
def kr:MS:=(gI 4 (ac 5) (eC (.bool true)))
def eX:MS:=(aj (ay 11 (aX (aa (ai de (aa (ac 0) (aa (ac 6) (aa (ac 10) af)))) (aa (ai de (aa (ac 1) (aa (ac 7) (aa (ac 10) af)))) af))))
 (sIf (eJ (tV (e2 kR (ac 11) (ac 4))) (bOr (tV (e2 jU (e2 ixA (ac 11) (eC (.int 0))) (eC .none))) (eJ (tV (ac 3)) (tV (e2 jU (e2 ixA (ac 11) (eC (.int 1))) (eC .none)))))) (av (eC (.bool false))) aO))
def kq:MS:=(aj (ay 8 (ai bM (aa (ac 0) (aa (ac 6) af))))
 (aj (ay 9 (ai bM (aa (ac 1) (aa (ac 7) af))))
 (aj (sIf (bOr (eJ (tV (ac 8)) (bN (tV (ac 9)))) (bOr (eJ (tV (ac 3)) (eJ (tV (ac 9)) (bN (tV (ac 8))))) (eJ (bN (tV (ac 3))) (tV (e2 isN (ac 6) (eC .none)))))) (av (eC (.bool false))) aO)
 (cu (bU (aa (eN bc (aa (e2 ixA (e2 ixA (ac 0) (eC (.int 1))) (eC (.int 0))) af)) af)) (gN 10) eX))))
def jD:MS:=(aj (sIf (bOr (bN (tV (ai bY (aa (ac 0) (aa (ac 1) (aa (ac 2) af)))))) (tV (e2 p9 (aX (aa (eC (.int 0)) (aa (eC (.int 0)) af))) (ac 2)))) (av (eC (.bool false))) aO)
 (aj (ay 4 mB)
 (aj (cu (cg (ac 2)) (gN 5) kr)
 (aj (cu (cg (ac 2)) (gT (gsC (gN 6) (gsC (gN 7) gs0))) kq)
 (av (eC (.bool true)))))))
def bD:List D->Option (D×En):=fnF 8 [0,0,0,0] jD
abbrev iI:Stmt:=top 39
abbrev rH:List Str:=["_law_one","_law_other","_law_pairs","_law_machines","_law_handed","_law_whole","_law_told"]
def pN:FnScope rH ["_law_one","_law_other","_law_pairs"] (ah iI):=fsc
def gf:MS:=(sIf (bOr (bN (tV (e1 (bd "bool") (ac 6)))) (tV (e2 neD (ac 6) (ai bD (aa (ac 0) (aa (ac 1) (aa (ac 2) (aa (ac 5) af)))))))) (av (eC (.bool false))) aO)
def lm:MS:=(aj (ay 3 (aX (aa (ai ck (aa (ac 0) af)) (aa (ai ck (aa (ac 1) af)) af))))
 (aj (ay 4 (eN l9 (aa (ac 2) af)))
 (aj (cu (cg (a6 (aa (aX (aa (eC (.bool true)) (aa (ai aW (aa (ac 0) (aa (ac 1) (aa (ac 4) af)))) af))) (aa (aX (aa (eC (.bool false)) (aa (ai aU (aa (ac 0) (aa (ac 1) (aa (ac 4) af)))) af))) af)))) (gT (gsC (gN 5) (gsC (gN 6) gs0))) gf)
 (av (dS (e2 eqX (ac 4) (ac 2)) (e2 eqD (aX (aa (ac 0) (aa (ac 1) af))) (ac 3)))))))
def cb:List D->Option (D×En):=fnF 4 [0,0,0] lm
abbrev gU:Stmt:=top 40
abbrev qS:List Str:=["_law_pair"]
def oP:FnScope qS ["_law_pair"] (ah gU):=fsc
def fj:MS:=(aj (sIf (tV (e1 (bd "tuple") (ac 0))) (av (e2 lZ (ac 0) (e1 qg (eC (.int 1))))) aO)
 (av (ac 0)))
def bL:List D->Option (D×En):=fnF 0 [0] fj
abbrev kc:Stmt:=top 41
abbrev Gx:List Str:=["_law_script","_law_k","_law_pen_here","_law_one","_law_other","_law_pairs","_law_stand","_law_thing"]
def GJ:FnScope Gx ["_law_script"] (ah kc):=fsc
def v8:MS:=(ay 4 (ai cI (aC 2 (aa (ac 3) (aa (eC (.int 0)) af)))))
def v7:MS:=(ay 5 (e2 fB (ac 5) (a6 (aa (aX (aa (ac 6) (aa (e2 bt (eC (.int 2)) (ac 6)) af))) (aa (aX (aa (ac 6) (aa (e2 be (e2 bt (eC (.int 2)) (ac 6)) (eC (.int 1))) af))) af)))))
def we:ME:=(ai bL (aa (ac 0) af))
def qV:MS:=(sIf (bOr (tV (e2 qa (ai aW (aa (ac 3) (aa (ac 4) (aa (ac 7) af)))) (eC (.bool false)))) (tV (e2 qa (ai aU (aa (ac 3) (aa (ac 4) (aa (ac 7) af)))) (eC (.bool false))))) (av (eC (.bool false))) aO)
def qU:MS:=(aj (ay 2 (ai da (aa (ac 0) (aa (ac 1) af))))
 (aj (ay 3 (ai bQ (aC 2 (aa (e2 be (eC (.int 1)) (ai ao (aC 2 (aa (e2 ixA (a6 (aa (eC (.int 2)) (aa (eC (.int 3)) (aa (eC (.int 3)) (aa (eC (.int 12)) af))))) (ai ao (aC 2 (aa (eC (.int 4)) af)))) af)))) (aa (eC (.int 9)) af)))))
 (aj (kI [true,true,false,true,false,true,true,true] [0,0,1,3,3,0,0,0] v8)
 (aj (ay 5 (a6 af))
 (aj (cu (bU (aa (eN bc (aa (e2 ixA (ac 3) (eC (.int 0))) af)) af)) (gN 6) v7)
 (aj (ay 5 (ai ca (aC 2 (aa (e2 fB (ac 5) (e2 wJ (a6 (aa (aX (aa (eC .none) (aa (eC .none) af))) af)) (ai ao (aC 2 (aa (eC (.int 2)) af))))) af))))
 (aj (sIf (bN (tV (ai cb (aa (ac 3) (aa (ac 4) (aa (ac 5) af)))))) (av (eC (.bool false))) aO)
 (aj (ay 5 (ai e7 (aC 2 (aC 3 (aC 4 (aa (ac 5) af))))))
 (aj (sIf (bOr (bN (tV (ai cb (aa (ac 3) (aa (ac 4) (aa (ac 5) af)))))) (bN (tV (ai cb (aa (ac 4) (aa (ac 3) (aa (eLC true (cg (ac 5)) (gN 0) cY we [none]) af))))))) (av (eC (.bool false))) aO)
 (cu (cg (a6 (aa (eC .none) (aa (eN wo (aa (ac 5) af)) (aa kP (aa (eC (.str "pairs")) (aa (eC (.int 0)) (aa (eC (.bool true)) (aa (a6 (aa (ac 5) af)) af))))))))) (gN 7) qV))))))))))
def GB:MS:=(aj (cu (bU (aa (eC (.int 3)) af)) (gN 1) qU)
 (av (eC (.bool true))))
def uv:List D->Option (D×En):=fnF 7 [0] GB
section
variable(P:Program)(w:World)(K:zbQ)(mg:Str->Option Value)(base:Heap)(k:Nat)
abbrev cN:Prop:=Kn P w K mg base k "_law_draw" ["_law_pen_here","_law_many"] (spF K [1,0] 0 ao)
abbrev fG:Prop:=Kn P w K mg base k "_law_goal" ["_law_none","_law_stand"] (spF K [0,0] 0 bE)
abbrev lg:Prop:=Kn P w K mg base k "_law_twin" ["_law_goal_here","_law_which"] (spF K [0,0] 3 dz)
abbrev mO:Prop:=Kn P w K mg base k "_law_odd" ["_law_pair","_law_way","_law_size"] (spF K [0,0,0] 0 fS)
abbrev mL:Prop:=Kn P w K mg base k "is_whole" ["thing"] (spF K [0] 3 ei)
abbrev gh:Prop:=Kn P w K mg base k "is_whole_within" ["thing","low","high"] (spF K [0,0,0] 3 bm)
abbrev fP:Prop:=Kn P w K mg base k "is_stand_or_none" ["machine","thing"] (spF K [0,0] 3 aT)
abbrev oC:Prop:=Kn P w K mg base k "is_pair" ["one","other","thing"] (spF K [0,0,0] 3 cZ)
abbrev AZ:Prop:=Kn P w K mg base k "led" ["machine","stand","sign"] (spF K [0,0,0] 0 lT)
abbrev gX:Prop:=Kn P w K mg base k "how_many_signs" ["machine"] (spF K [0] 3 bW)
abbrev ga:Prop:=Kn P w K mg base k "pairs_ahead" ["one","other","pair"] (spF K [0,0,0] 1 ci)
abbrev lO:Prop:=Kn P w K mg base k "is_end" ["machine","stand"] (spF K [0,0] 0 dy)
abbrev lN:Prop:=Kn P w K mg base k "marked" ["things"] (spF K [0] 4 gF)
abbrev iJ:Prop:=Kn P w K mg base k "are_pairs" ["one","other","thing"] (spF K [0,0,0] 3 bX)
abbrev jz:Prop:=Kn P w K mg base k "are_told" ["told","ahead"] (spF K [0,0] 3 ej)
abbrev gi:Prop:=Kn P w K mg base k "ahead_for_alike" ["one","other","pair"] (spF K [0,0,0] 1 bK)
abbrev mM:Prop:=Kn P w K mg base k "is_alike" ["one","other","pair"] (spF K [0,0,0] 3 fR)
abbrev fQ:Prop:=Kn P w K mg base k "ahead_for_within" ["one","other","pair"] (spF K [0,0,0] 1 bA)
abbrev lf:Prop:=Kn P w K mg base k "is_within" ["one","other","pair"] (spF K [0,0,0] 3 eZ)
abbrev iu:Prop:=Kn P w K mg base k "_law_is_place" ["_law_machine_here","_law_thing"] (spF K [0,0] 3 a7)
abbrev jG:Prop:=Kn P w K mg base k "_law_is_end" ["_law_machine_here","_law_stand"] (spF K [0,0] 0 bM)
abbrev gY:Prop:=Kn P w K mg base k "_law_are_pairs" ["_law_one","_law_other","_law_pairs"] (spF K [0,0,0] 3 bY)
abbrev mP:Prop:=Kn P w K mg base k "_law_led" ["_law_machine_here","_law_stand","_law_number"] (spF K [0,0,0] 0 de)
abbrev jH:Prop:=Kn P w K mg base k "_law_copied" ["_law_machine_here"] (spF K [0] 2 ck)
abbrev gb:Prop:=Kn P w K mg base k "holds_alike" ["one","other","pairs"] (spF K [0,0,0] 3 aW)
abbrev fE:Prop:=Kn P w K mg base k "holds_within" ["one","other","pairs"] (spF K [0,0,0] 3 aU)
abbrev lh:Prop:=Kn P w K mg base k "_law_hold" ["_law_one","_law_other","_law_pairs","_law_whole"] (spF K [0,0,0,0] 3 bD)
abbrev mN:Prop:=Kn P w K mg base k "_law_pen" ["_law_script","_law_k"] (spF K [0,0] 3 da)
abbrev iW:Prop:=Kn P w K mg base k "_law_machine" ["_law_pen_here","_law_many","_law_most"] (spF K [1,0,0] 3 bQ)
abbrev iX:Prop:=Kn P w K mg base k "_law_doubled" ["_law_pen_here","_law_machine_here","_law_bent_here"] (spF K [1,0,0] 3 cI)
abbrev kj:Prop:=Kn P w K mg base k "_law_mixed" ["_law_pen_here","_law_some"] (spF K [1,0] 0 ca)
abbrev lj:Prop:=Kn P w K mg base k "_law_bent" ["_law_pen_here","_law_one","_law_other","_law_pairs"] (spF K [1,3,3,0] 0 e7)
abbrev kl:Prop:=Kn P w K mg base k "_law_asked" ["_law_one","_law_other","_law_pairs"] (spF K [0,0,0] 3 cb)
abbrev jF:Prop:=Kn P w K mg base k "_law_turned" ["_law_pair"] (spF K [0] 0 bL)
end
def sZ(T:Bl mg)(F:Fun K "_law_pen" "_law_pen" kf f fd):FnOk P w K mg base CX0 (k+1) f fd ["_law_script","_law_k"] (spF K [0,0] 3 da):=
 F.okR sM ⟨[],[0,0,0],3,[]⟩ [0,0,0] fun nd _ _ _ _ _ _ hr=>(ag (aY 2 [0,0,0] nd (fs0 (aq cF (aq cE ae (fv 1)) ae))) (ag (aA (ds2:=[0,0,0]) (aP mq (fv 1) (fln rfl T.len0 (fac (fv 0) ab)) (aN _)) (aJ (aY 2 [0,0,0] nd (a5 (bC (K:=K) rfl) (fv 0) (fv 1) (fun _ _=>rfl)))) (aJ (aA (ds2:=[0,0,0]) (aP AT (fln rfl T.len0 (fac (fv 0) ab)) ae (aN _)) (aJ (aY 2 [0,0,0] nd (fs0 (aq cF (aq eG (a5 (bC (K:=K) rfl) (fv 0) (aq eG (fv 1) (fln rfl T.len0 (fac (fv 0) ab))) (fun _ _=>rfl)) ae) (aq cE ae (fv 1)))))) aw))) (ag (aA (ds2:=[0,0,0]) (aP Hc (fv 2) (aq vC ae ae) (aN _)) (frt (aL (d:=3) (c:=3) (fac (aq vB (fv 2) (aq vC ae ae)) (fac (aq eG (fv 2) ae) (fac ae ab))) rfl rfl (by decide))) aw) (frt (aL (d:=3) (c:=3) (fac ae (fac (aq eG (fv 2) ae) (fac ae ab))) rfl rfl (by decide))))))
def rz(T:Bl mg)(F:Fun K "_law_draw" "_law_draw" jy f fd):FnOk P w K mg base CX0 (k+1) f fd ["_law_pen_here","_law_many"] (spF K [1,0] 0 ao):=
 F.okR rf ⟨[0],[1,0,0,0],0,[]⟩ [1,0,0,0] fun nd _ _ _ _ _ _ hr=>(ag (gu (i:=0) (d:=1) (c:=0) rfl (.inl rfl) (fs0 (aq cF (dR (K:=K) (i:=0) rfl rfl (.inl rfl) rfl ae (fun _ _=>rfl) rfl rfl) ae)) ae rfl (by decide) rfl rfl rfl (fun _=>rfl) rfl rfl rfl) (ag (aA (ds2:=[1,0,0,0]) (aP AT (dR (K:=K) (i:=0) rfl rfl (.inl rfl) rfl ae (fun _ _=>rfl) rfl rfl) ae (aN _)) (ag (aY 2 [1,0,0,0] nd (fs0 (aq eG (dR (K:=K) (i:=0) rfl rfl (.inl rfl) rfl ae (fun _ _=>rfl) rfl rfl) (fv 1)))) (ag (gu (i:=0) (d:=1) (c:=0) rfl (.inl rfl) (fs0 (aq r8 (dR (K:=K) (i:=0) rfl rfl (.inl rfl) rfl ae (fun _ _=>rfl) rfl rfl) (fv 1))) ae rfl (by decide) rfl rfl rfl (fun _=>rfl) rfl rfl rfl) (frt (fv 2)))) aw) (ag (aY 3 [1,0,0,0] nd (fs0 (aq eG (aq cF (aq cF (dR (K:=K) (i:=0) rfl rfl (.inl rfl) rfl ae (fun _ _=>rfl) rfl rfl) (aq cE ae (dR (K:=K) (i:=0) rfl rfl (.inl rfl) rfl ae (fun _ _=>rfl) rfl rfl))) ae) ae))) (ag (aY 3 [1,0,0,0] nd (fs0 (aq cF (aq eG (aq cE (fv 3) (fv 3)) ae) (aq cE ae (dR (K:=K) (i:=0) rfl rfl (.inl rfl) rfl ae (fun _ _=>rfl) rfl rfl))))) (ag (aY 3 [1,0,0,0] nd (fs0 (aq eG (aq cE (fv 3) (fv 3)) ae))) (frt (fs0 (aq eG (aq r8 (fv 3) ae) (fv 1)))))))))
def rq(T:Bl mg)(F:Fun K "_law_goal" "_law_goal" jx f fd):FnOk P w K mg base CX0 (k+1) f fd ["_law_none","_law_stand"] (spF K [0,0] 0 bE):=
 F.okR re ⟨[],[0,0],0,[]⟩ [0,0] fun nd _ _ _ _ _ _ hr=>(ag (aA (ds2:=[0,0]) (aG (fv 0) (fun _=>rfl)) (frt (fs0 aF)) aw) (frt (fv 1)))
def nj(T:Bl mg)(ar:cN P w K mg base k)(eY:fG P w K mg base k)(F:Fun K "_law_machine" "_law_machine" cH f fd):FnOk P w K mg base CX0 (k+1) f fd ["_law_pen_here","_law_many","_law_most"] (spF K [1,0,0] 3 bQ):=
 F.okR m8 ⟨[0],[1,0,0,0,0,0,0,0,0],3,[]⟩ [1,0,0,0,0,0,0,0,0] fun nd _ _ _ _ _ _ hr=>(ag (cR (i:=3) (d:=0) (ds':=[1,0,0,0,0,0,0,0,0]) nd rfl (.inr rfl) (fs0 (aq cF ae (fns ar hr (gO 0 (fac (fv 2) ab))))) rfl (by decide) (by decide) rfl (.inl rfl)) (ag (cR (i:=4) (d:=0) (ds':=[1,0,0,0,0,0,0,0,0]) nd rfl (.inr rfl) (a5 (bC (K:=K) rfl) (aL (d:=3) (c:=3) (fac ae (fac ae (fac ae ab))) rfl rfl (by decide)) (fns ar hr (gO 0 (fac (fs0 ae) ab))) (fun _ _=>rfl)) rfl (by decide) (by decide) rfl (.inl rfl)) (ag (rD (i:=5) (ds':=[1,0,0,0,0,3,0,0,0]) (cd:=3) (d:=3) (dsi:=[0,1,0]) (lk:=[1,2]) nd rfl rfl (BlkOkC.of (ns:=["_law_k","_law_pen_here","_law_rare"]) (js:=[none,some 0,some 4]) (N0:=ge) (sc0:=ah cH) rfl rfl (by decide +kernel)) rfl (cr rfl T.range0 (fac (fvc 3) ab) rfl) (fun _ _ _ _ _=>(fgn 0 [0,1,0] (ndk ["_law_k","_law_pen_here","_law_rare"]))) (fun _ _ _ _ _=>a8) (fun _ _ _ _ _=>(bw (kO (K:=K) rfl hr.units) (fns ar hr (gO 1 (fac (fvc 2) ab))) ae (aN _))) rfl rfl rfl (by decide) rfl (by decide) (by decide) rfl (fun _=>rfl)) (ag (cR (i:=6) (d:=0) (ds':=[1,0,0,0,0,3,0,0,0]) nd rfl (.inr rfl) (a5 (bC (K:=K) rfl) (aL (d:=3) (c:=3) (fac ae (fac ae (fac ae ab))) rfl rfl (by decide)) (fns ar hr (gO 0 (fac (fs0 ae) ab))) (fun _ _=>rfl)) rfl (by decide) (by decide) rfl (.inl rfl)) (ag (aY 7 [1,0,0,0,0,3,0,3,0] nd (aL (d:=3) (c:=3) ab rfl rfl (by decide))) (ag (ba (ds1:=[1,0,0,0,0,3,0,3,0]) rfl (cr rfl T.range0 (fac (fvc 3) ab) rfl) (fgn 8 [1,0,0,0,0,3,0,3,0] nd) (aJ (fL (jq (K:=K) (i:=7) (d:=3) rfl rfl (.inl rfl) rfl (B2 (qB (cd:=0) (d:=1) (dsi:=[0,1,0,0]) (lk:=[1,2,3]) (BlkOkC.of (ns:=["_law_sign","_law_pen_here","_law_size","_law_lost"]) (js:=[none,some 0,some 3,some 6]) (N0:=ge) (sc0:=ah cH) rfl rfl (by decide +kernel)) rfl (cr rfl T.range0 (fac (fv 1) ab) rfl) (fun _ _ _ _ _=>(fgn 0 [0,1,0,0] (ndk ["_law_sign","_law_pen_here","_law_size","_law_lost"]))) (fun _ _ _ _ _=>a8) (fun _ _ _ _ _=>(fnn eY hr (fac (fs0 (bw mq (fns ar hr (gO 1 (fac (fs0 ae) ab))) (fvc 3) (aN _))) (fac (fns ar hr (gO 1 (fac (fvc 2) ab))) ab)))) rfl rfl (by decide) rfl (fun _=>rfl))) (by decide) rfl rfl rfl rfl rfl rfl rfl rfl) rfl)) PassesOwn.never (fun _=>rfl)) (frt (aB (d:=3) (c:=3) (fac (iT (i:=5) (ds':=[1,0,0,0,0,0,0,3,0]) rfl (.inl rfl) rfl rfl rfl rfl) (fac (iT (i:=7) (ds':=[1,0,0,0,0,0,0,0,0]) rfl (.inl rfl) rfl rfl rfl rfl) ab)) rfl rfl))))))))
def rn(T:Bl mg)(F:Fun K "_law_twin" "_law_twin" jv f fd):FnOk P w K mg base CX0 (k+1) f fd ["_law_goal_here","_law_which"] (spF K [0,0] 3 dz):=
 F.okR qZ ⟨[],[0,0],3,[]⟩ [0,0] fun nd _ _ _ _ _ _ hr=>(ag (aA (ds2:=[0,0]) (aP fM (fv 0) aF (aN _)) (frt aF) aw) (frt (aq cF (aq cE ae (fv 0)) (fv 1))))
def nk(T:Bl mg)(ar:cN P w K mg base k)(eY:fG P w K mg base k)(uq:lg P w K mg base k)(F:Fun K "_law_doubled" "_law_doubled" dO f fd):FnOk P w K mg base CX0 (k+1) f fd ["_law_pen_here","_law_machine_here","_law_bent_here"] (spF K [1,0,0] 3 cI):=
 F.okR m9 ⟨[0],[1,0,0,0,0,0,0,0,0,0],3,[]⟩ [1,0,0,0,0,0,0,0,0,0] fun nd _ _ _ _ _ _ hr=>(ag (aY 3 [1,0,0,3,0,0,0,0,0,0] nd (aL (d:=3) (c:=3) ab rfl rfl (by decide))) (ag (aY 4 [1,0,0,3,3,0,0,0,0,0] nd (aL (d:=3) (c:=3) ab rfl rfl (by decide))) (ag (ba (ds1:=[1,0,0,3,3,0,0,0,0,0]) rfl (vE (K:=K) rfl rfl T.enumerate0 (fac (fxi rfl (fv 1)) ab) rfl) (j4 (K:=K) rfl rfl (cM (fgn 5 [1,0,0,3,3,0,0,0,0,0] nd) (cM (fgn 6 [1,0,0,3,3,0,0,0,0,0] nd) jn rfl) rfl) nz rfl rfl) (aJ (ba (ds1:=[1,0,0,3,3,0,0,0,0,0]) rfl (cr rfl T.range0 (fac (fs0 ae) ab) rfl) (fgn 7 [1,0,0,3,3,0,0,0,0,0] nd) (ag (fL (jq (K:=K) (i:=3) (d:=3) rfl rfl (.inl rfl) rfl (r9 (a5 (bC (K:=K) rfl) (fxi rfl (fv 1)) (fv 5) (fun _ _=>rfl))) (by decide) rfl rfl rfl rfl rfl rfl rfl rfl) rfl) (aJ (fL (jq (K:=K) (i:=4) (d:=3) rfl rfl (.inl rfl) rfl (qB (cd:=3) (d:=3) (dsi:=[0,1]) (lk:=[1]) (BlkOkC.of (ns:=["_law_goal_here","_law_pen_here"]) (js:=[none,some 0]) (N0:=jI) (sc0:=ah dO) rfl rfl (by decide +kernel)) rfl (a9 (K:=K) rfl (fv 6)) (fun _ _ _ _ _=>(fgn 0 [0,1] (ndk ["_law_goal_here","_law_pen_here"]))) (fun _ _ _ _ _=>a8) (fun _ _ _ _ _=>(fnn uq hr (fac (fv 0) (fac (fns ar hr (gO 1 (fac (fs0 ae) ab))) ab)))) rfl rfl (by decide) rfl (fun _=>rfl)) (by decide) rfl rfl rfl rfl rfl rfl rfl rfl) rfl))) PassesOwn.never (fun _=>rfl))) PassesOwn.never (fun _=>rfl)) (ag (aY 8 [1,0,0,3,3,0,0,0,0,0] nd (fns ar hr (gO 0 (fac (fs0 (b8 (ds0:=[1,0,0,0,3,0,0,0,0,0]) (fln rfl T.len0 (fac (fv 3) ab)) rfl)) ab)))) (ag (aA (ds2:=[1,0,0,3,3,0,0,0,0,0]) (fte rfl hr.units (fv 2) ae) (aJ (gu (i:=3) (d:=3) (c:=3) rfl (.inl rfl) (b8 (ds0:=[1,0,0,0,3,0,0,0,0,0]) (gP (a5 (bC (K:=K) rfl) (fv 3) (fv 8) (fun _ _=>rfl))) rfl) (fv 8) rfl (by decide) rfl rfl rfl (fun _=>rfl) rfl rfl rfl)) aw) (ag (aA (ds2:=[1,0,0,3,3,0,0,0,0,0]) (fte rfl hr.units (fv 2) ae) (ag (aY 9 [1,0,0,3,3,0,0,0,0,0] nd (fns ar hr (gO 0 (fac (fs0 (b8 (ds0:=[1,0,0,3,0,0,0,0,0,0]) (fln rfl T.len0 (fac (fxi rfl (fv 4)) ab)) rfl)) ab)))) (aJ (mo (p:=false) (i:=4) (d:=3) rfl (r9 (fnn eY hr (fac (fs0 (bw (kO (K:=K) rfl hr.units) (fns ar hr (gO 0 (fac (fs0 ae) ab))) ae (aN _))) (fac (fns ar hr (gO 0 (fac (fs0 (b8 (ds0:=[1,0,0,0,3,0,0,0,0,0]) (fln rfl T.len0 (fac (fv 3) ab)) rfl)) ab))) ab)))) (lF (i:=4) (d:=3) rfl rfl (j3 (i:=4) rfl (.inl rfl) rfl rfl) (fv 8) (by decide) (by first|exact .inl rfl|exact .inr rfl) (fun _ _=>rfl)) (fv 9) (by decide) rfl (by first|exact .inl rfl|exact .inr rfl) (fun _=>rfl) rfl rfl rfl))) aw) (ag (aA (ds2:=[1,0,0,3,3,0,0,0,0,0]) (fte rfl hr.units (fv 2) ae) (aJ (gu (i:=3) (d:=3) (c:=3) rfl (.inl rfl) aI (fv 8) rfl (by decide) rfl rfl rfl (fun _=>rfl) rfl rfl rfl)) aw) (frt (aB (d:=3) (c:=3) (fac (iT (i:=3) (ds':=[1,0,0,0,3,0,0,0,0,0]) rfl (.inl rfl) rfl rfl rfl rfl) (fac (iT (i:=4) (ds':=[1,0,0,0,0,0,0,0,0,0]) rfl (.inl rfl) rfl rfl rfl rfl) ab)) rfl rfl)))))))))
def pZ(T:Bl mg)(ar:cN P w K mg base k)(F:Fun K "_law_mixed" "_law_mixed" iH f fd):FnOk P w K mg base CX0 (k+1) f fd ["_law_pen_here","_law_some"] (spF K [1,0] 0 ca):=
 F.okR pM ⟨[0],[1,0,0,0],0,[]⟩ [1,0,0,0] fun nd _ _ _ _ _ _ hr=>(ag (aY 2 [1,0,1,0] nd (jo (d':=1) (aL (d:=3) (c:=3) ab rfl rfl (by decide)) (by decide))) (ag (ba (ds1:=[1,0,1,0]) rfl (a9 (K:=K) rfl (fv 1)) (fgn 3 [1,0,1,0] nd) (ag (fL (xj (K:=K) (i:=2) rfl rfl (.inl rfl) rfl (fns ar hr (fsl 0 (fac (fs0 (b8 (ds0:=[1,0,0,0]) (aq cF (fln rfl T.len0 (fac (fv 2) ab)) ae) rfl)) ab))) (fv 3) rfl rfl rfl rfl rfl rfl rfl rfl) rfl) (aJ (aA (ds2:=[1,0,1,0]) (fte rfl hr.units (fns ar hr (fsl 0 (fac (fs0 ae) ab))) ae) (aJ (fL (jq (K:=K) (i:=2) (d:=1) rfl rfl (.inl rfl) rfl (fv 3) (by decide) rfl rfl rfl rfl rfl rfl rfl rfl) rfl)) aw))) PassesOwn.never (fun _=>rfl)) (frt (B4 (ds0:=[1,0,0,0]) (lG (p:=false) (i:=2) rfl (.inl rfl) rfl rfl rfl) rfl))))
def tf(T:Bl mg)(F:Fun K "_law_odd" "_law_odd" kg f fd):FnOk P w K mg base CX0 (k+1) f fd ["_law_pair","_law_way","_law_size"] (spF K [0,0,0] 0 fS):=
 F.okR sN ⟨[],[0,0,0,0],0,[]⟩ [0,0,0,0] fun nd _ _ _ _ _ _ hr=>(ag (aY 3 [0,0,0,0] nd (fs0 (aL (d:=1) (c:=0) (fac (aL (d:=1) (c:=0) (fac (fxi rfl (fv 0)) (fac (fxi rfl (fv 0)) ab)) rfl rfl (by decide)) (fac (aB (d:=0) (c:=0) (fac (fxi rfl (fv 0)) ab) rfl rfl) (fac (aq (BT (K:=K) rfl) (fv 0) (aB (d:=3) (c:=3) (fac ae ab) rfl rfl)) (fac (aB (d:=0) (c:=0) (fac (nC qz ae) (fac (fxi rfl (fv 0)) ab)) rfl rfl) (fac (aB (d:=0) (c:=0) (fac (fv 2) (fac (fxi rfl (fv 0)) ab)) rfl rfl) (fac (aB (d:=0) (c:=0) (fac aI (fac (fxi rfl (fv 0)) ab)) rfl rfl) ab)))))) rfl rfl (by decide)))) (ag (aY 3 [0,0,0,0] nd (fs0 (aq (cK (K:=K) rfl) (fv 3) (aL (d:=1) (c:=0) (fac (aB (d:=0) (c:=0) (fac lH (fac (fxi rfl (fv 0)) ab)) rfl rfl) (fac (aB (d:=0) (c:=0) (fac (fxi rfl (fv 0)) (fac (nC qz ae) ab)) rfl rfl) (fac (aB (d:=0) (c:=0) (fac (fxi rfl (fv 0)) (fac (aq cE ae (fv 2)) ab)) rfl rfl) (fac (aB (d:=0) (c:=0) (fac (fxi rfl (fv 0)) (fac aI ab)) rfl rfl) (fac aF (fac lH (fac ae ab))))))) rfl rfl (by decide))))) (ag (aY 3 [0,0,0,0] nd (fs0 (aq (cK (K:=K) rfl) (fv 3) (aL (d:=1) (c:=0) (fac (aB (d:=0) (c:=0) (fac (aL (d:=1) (c:=0) (fac (fxi rfl (fv 0)) ab) rfl rfl (by decide)) (fac (fxi rfl (fv 0)) ab)) rfl rfl) (fac (aB (d:=0) (c:=0) (fac (fxi rfl (fv 0)) (fac oh ab)) rfl rfl) (fac (aq (BR (K:=K) rfl) (cx (BW (K:=K) rfl) (fv 0) cU (cT ae)) ae) ab))) rfl rfl (by decide))))) (frt (a5 (bC (K:=K) rfl) (fv 3) (fv 1) (fun _ _=>rfl))))))
def rA(T:Bl mg)(ar:cN P w K mg base k)(eY:fG P w K mg base k)(wd:mO P w K mg base k)(F:Fun K "_law_bent" "_law_bent" gA f fd):FnOk P w K mg base CX0 (k+1) f fd ["_law_pen_here","_law_one","_law_other","_law_pairs"] (spF K [1,3,3,0] 0 e7):=
 F.okR rg ⟨[0,1,2],[1,3,3,0,0,0,0,0,0,0,0,0],0,[]⟩ [1,3,3,0,0,0,0,0,0,0,0,0] fun nd _ _ _ _ _ _ hr=>(ag (aY 4 [1,3,3,0,0,0,0,0,0,0,0,0] nd (fns ar hr (fsl 0 (fac (fs0 ae) ab)))) (ag (aY 5 [1,3,3,0,0,0,0,0,0,0,0,0] nd (fns ar hr (fsl 0 (fac (fs0 (fln rfl T.len0 (fac (fv 3) ab))) ab)))) (ag (aY 6 [1,3,3,0,0,0,0,0,0,0,0,0] nd (fs0 (b8 (ds0:=[1,0,3,0,0,0,0,0,0,0,0,0]) (fln rfl T.len0 (fac (fxi rfl (fv 1)) ab)) rfl))) (ag (aA (ds2:=[1,3,3,0,0,0,0,0,0,0,0,0]) (aP mq (fv 4) ae (aN _)) (ag (cR (i:=7) (d:=0) (ds':=[1,3,3,0,0,0,0,0,0,0,0,0]) nd rfl (.inr rfl) (a5 (bC (K:=K) rfl) (fv 3) (fv 5) (fun _ _=>rfl)) rfl (by decide) (by decide) rfl (.inl rfl)) (frt (fs0 (ee (cd:=0) (d:=1) (dsi:=[0,0]) (lk:=[1]) (BlkOkC.of (ns:=["_law_pair","_law_lost"]) (js:=[none,some 7]) (N0:=mU) (sc0:=ah gA) rfl rfl (by decide +kernel)) rfl (a9 (K:=K) rfl (fv 3)) (fun _ _ _ _ _=>(fgn 0 [0,0] (ndk ["_law_pair","_law_lost"]))) (fun _ _ _ _ _=>(vp (ftn rfl hr.units (fv 0) (fvc 1)))) (fun _ _ _ _ _=>(fv 0)) rfl rfl (by decide) rfl (fun _=>rfl))))) aw) (ag (aA (ds2:=[1,3,3,0,0,0,0,0,0,0,0,0]) (aP mq (fv 4) ae (aN _)) (frt (fs0 (aq (cK (K:=K) rfl) (aq (cK (K:=K) rfl) (cx (gD (K:=K) rfl) (fv 3) cU (cT (fv 5))) (aL (d:=1) (c:=0) (fac (aB (d:=0) (c:=0) (fac (fns ar hr (fsl 0 (fac (fv 6) ab))) (fac (fns ar hr (fsl 0 (fac (fs0 (aq cE ae (fv 6))) ab))) ab)) rfl rfl) ab) rfl rfl (by decide))) (cx (gD (K:=K) rfl) (fv 3) (cT (fv 5)) cU)))) aw) (ag (aA (ds2:=[1,3,3,0,0,0,0,0,0,0,0,0]) (fte rfl hr.units (fv 4) ae) (ag (aY 8 [1,3,3,0,0,0,0,0,0,0,0,0] nd (a5 (bC (K:=K) rfl) (aL (d:=1) (c:=0) (fac (aB (d:=0) (c:=0) (fac aF (fac (fns ar hr (fsl 0 (fac (fs0 (aq cE ae (fv 6))) ab))) ab)) rfl rfl) (fac (aB (d:=0) (c:=0) (fac (fns ar hr (fsl 0 (fac (fv 6) ab))) (fac aF ab)) rfl rfl) (fac (aB (d:=3) (c:=3) (fac aF (fac aF ab)) rfl rfl) ab))) rfl rfl (by decide)) (fns ar hr (fsl 0 (fac (fs0 ae) ab))) (fun _ _=>rfl))) (frt (fs0 (aq (cK (K:=K) rfl) (aq (cK (K:=K) rfl) (cx (gD (K:=K) rfl) (fv 3) cU (cT (fv 5))) (aL (d:=1) (c:=0) (fac (fv 8) ab) rfl rfl (by decide))) (cx (gD (K:=K) rfl) (fv 3) (cT (fv 5)) cU))))) aw) (ag (aA (ds2:=[1,3,3,0,0,0,0,0,0,0,0,0]) (fte rfl hr.units (fv 4) ae) (j1 (ds2:=[1,3,3,0,0,0,0,0,0,3,0,0]) (qx (K:=K) (i:=1) (j:=2) (m:=9) (d:=3) (ds2:=[1,3,3,0,0,0,0,0,0,3,0,0]) rfl nd rfl rfl rfl (.inl rfl) (.inl rfl) (.inl rfl) rfl rfl (.inl rfl) (fun _ _=>rfl) rfl rfl (fns ar hr (fsl 0 (fac (fs0 ae) ab))) (ag (aY 10 [1,3,3,0,0,0,0,0,0,3,0,0] nd (fns ar hr (fsl 0 (fac (fs0 (b8 (ds0:=[1,3,3,0,0,0,0,0,0,0,0,0]) (fln rfl T.len0 (fac (fxi rfl (fv 9)) ab)) rfl)) ab)))) (aJ (mo (p:=false) (i:=9) (d:=3) rfl (b8 (ds0:=[1,3,3,0,0,0,0,0,0,0,0,0]) (gP (a5 (bC (K:=K) rfl) (fxi rfl (fv 9)) (fv 10) (fun _ _=>rfl))) rfl) (lF (i:=9) (d:=3) rfl rfl (j3 (i:=9) rfl (.inl rfl) rfl rfl) ae (by decide) (by first|exact .inl rfl|exact .inr rfl) (fun _ _=>rfl)) (fv 10) (by decide) rfl (by first|exact .inl rfl|exact .inr rfl) (fun _=>rfl) rfl rfl rfl))) rfl) rfl) aw) (ag (aA (ds2:=[1,3,3,0,0,0,0,0,0,0,0,0]) (fte rfl hr.units (fv 4) ae) (j1 (ds2:=[1,3,3,0,0,0,0,0,0,3,0,0]) (qx (K:=K) (i:=1) (j:=2) (m:=9) (d:=3) (ds2:=[1,3,3,0,0,0,0,0,0,3,0,0]) rfl nd rfl rfl rfl (.inl rfl) (.inl rfl) (.inl rfl) rfl rfl (.inl rfl) (fun _ _=>rfl) rfl rfl (fns ar hr (fsl 0 (fac (fs0 ae) ab))) (vq (K:=K) (i:=9) (r:=11) (d:=3) (bs:=[false,false,false,true,true,true,true,true,true,true,true,true]) nd rfl (.inl rfl) (.inl rfl) rfl rfl (.inl rfl) (vA (K:=K) (i:=9) (d:=3) rfl rfl rfl (lF (i:=9) (d:=3) rfl rfl (j3 (i:=9) rfl (.inl rfl) rfl rfl) ae (by decide) (by first|exact .inl rfl|exact .inr rfl) (fun _ _=>rfl)) (xn ar hr rfl (fsl 0 (fac (fs0 (b8 (ds0:=[1,3,3,0,0,0,0,0,0,0,0,0]) (fln rfl T.len0 (fac (fxi rfl (fv 9)) ab)) rfl)) ab)) (wI rfl) rfl rfl rfl rfl) (by decide) (fun _ _=>rfl)) (fnn eY hr (fac (fs0 (bw (kO (K:=K) rfl hr.units) (fns ar hr (fsl 0 (fac (fs0 ae) ab))) ae (aN _))) (fac (fns ar hr (fsl 0 (fac (fs0 (fln rfl T.len0 (fac (fxi rfl (fv 9)) ab))) ab))) ab))) (fns ar hr (fsl 0 (fac (fs0 (fln rfl T.len0 (fac (fv 11) ab))) ab))) (fun _=>rfl) rfl rfl rfl rfl rfl (by decide) rfl) rfl) rfl) aw) (ag (aA (ds2:=[1,3,3,0,0,0,0,0,0,0,0,0]) (fte rfl hr.units (fv 4) ae) (frt (fs0 (aq (cK (K:=K) rfl) (aq (cK (K:=K) rfl) (cx (gD (K:=K) rfl) (fv 3) cU (cT (fv 5))) (aL (d:=1) (c:=0) (fac (fnn wd hr (fac (a5 (bC (K:=K) rfl) (fv 3) (fv 5) (fun _ _=>rfl)) (fac (fns ar hr (fsl 0 (fac (fs0 ae) ab))) (fac (fv 6) ab)))) ab) rfl rfl (by decide))) (cx (gD (K:=K) rfl) (fv 3) (cT (aq cF (fv 5) ae)) cU)))) aw) (frt (fv 3)))))))))))
def oX(T:Bl mg)(F:Fun K "_law_copied" "_law_copied" eV f fd):FnOk P w K mg base CX0 (k+1) f fd ["_law_machine_here"] (spF K [0] 2 ck):=
 F.okR oR ⟨[],[0],2,[]⟩ [0] fun nd _ _ _ _ _ _ hr=>(frt (aB (d:=2) (c:=1) (fac (fct (nB (K:=K) rfl rfl) T.list0 (by decide +kernel) (fac (fxi rfl (fv 0)) ab)) (fac (jo (d':=1) (ee (cd:=1) (d:=2) (dsi:=[0]) (lk:=[]) (BlkOkC.of (ns:=["_law_row"]) (js:=[none]) (N0:=ko) (sc0:=ah eV) rfl rfl (by decide +kernel)) rfl (a9 (K:=K) rfl (fxi rfl (fv 0))) (fun _ _ _ _ _=>(fgn 0 [0] (ndk ["_law_row"]))) (fun _ _ _ _ _=>a8) (fun _ _ _ _ _=>(fct (nB (K:=K) rfl rfl) T.list0 (by decide +kernel) (fac (fv 0) ab))) rfl rfl (by decide) rfl (fun _=>rfl)) (by decide)) ab)) rfl rfl))
def wE(T:Bl mg)(F:Fun K "marked" "marked" nL f fd):FnOk P w K mg base CX0 (k+1) f fd ["things"] (spF K [0] 4 gF):=
 F.okR wq ⟨[],[0,0,0],4,[]⟩ [0,0,0] fun nd _ _ _ _ _ _ hr=>(ag (aY 1 [0,4,0] nd og) (ag (ba (ds1:=[0,4,0]) rfl (a9 (K:=K) rfl (fv 0)) (fgn 2 [0,4,0] nd) (aJ (la (i:=1) (kL hr) rfl (.inl rfl) (fs0 aI) (fv 2) rfl rfl rfl rfl)) PassesOwn.never (fun _=>rfl)) (frt (iT (i:=1) (ds':=[0,0,0]) rfl (.inl rfl) rfl rfl rfl rfl))))
def sW(T:Bl mg)(F:Fun K "is_whole" "is_whole" kd f fd):FnOk P w K mg base CX0 (k+1) f fd ["thing"] (spF K [0] 3 ei):=
 F.okR sJ ⟨[],[0],3,[]⟩ [0] fun nd _ _ _ _ _ _ hr=>(frt (b9 (b7 (K:=K) (n:="int") rfl rfl T.isinstance0 rfl T.int0 (by decide +kernel) (by decide) (fv 0) (by decide) rfl rfl rfl rfl) (bv (gP (b7 (K:=K) (n:="bool") rfl rfl T.isinstance0 rfl T.bool0 (by decide +kernel) (by decide) (fv 0) (by decide) rfl rfl rfl rfl)))))
def kW(T:Bl mg)(v9:mL P w K mg base k)(F:Fun K "is_whole_within" "is_whole_within" dU f fd):FnOk P w K mg base CX0 (k+1) f fd ["thing","low","high"] (spF K [0,0,0] 3 bm):=
 F.okR kT ⟨[],[0,0,0],3,[]⟩ [0,0,0] fun nd _ _ _ _ _ _ hr=>(frt (b9 (fnn v9 hr (fac (fv 0) ab)) (bv (ms tW tW (fv 1) (fv 0) (fv 2) (by with_unfolding_all rfl)))))
def jS(T:Bl mg)(lQ:gh P w K mg base k)(F:Fun K "is_stand_or_none" "is_stand_or_none" dG f fd):FnOk P w K mg base CX0 (k+1) f fd ["machine","thing"] (spF K [0,0] 3 aT):=
 F.okR jN ⟨[],[0,0],3,[]⟩ [0,0] fun nd _ _ _ _ _ _ hr=>(frt (nE (bw fM (fv 1) aF (aN _)) (bv (fnn lQ hr (fac (fv 1) (fac (fs0 ae) (fac (fs0 (aq vB (fln rfl T.len0 (fac (fxi rfl (fv 0)) ab)) ae)) ab)))))))
def uX(T:Bl mg)(gk:fP P w K mg base k)(F:Fun K "is_pair" "is_pair" lM f fd):FnOk P w K mg base CX0 (k+1) f fd ["one","other","thing"] (spF K [0,0,0] 3 cZ):=
 F.okR uP ⟨[],[0,0,0],3,[]⟩ [0,0,0] fun nd _ _ _ _ _ _ hr=>(ag (aA (ds2:=[0,0,0]) (qpt (bO (aV (aG (b7 (K:=K) (n:="tuple") rfl rfl T.isinstance0 rfl T.tuple0 (by decide +kernel) (by decide) (fv 2) (by decide) rfl rfl rfl rfl) (fun _=>rfl))) (bI (ftn rfl hr.units (fln rfl T.len0 (fac (fv 2) ab)) ae)))) (frt aI) aw) (frt (b9 (fnn gk hr (fac (fv 0) (fac (fxi rfl (fv 2)) ab))) (bv (fnn gk hr (fac (fv 1) (fac (fxi rfl (fv 2)) ab)))))))
def rj(T:Bl mg)(xK:oC P w K mg base k)(F:Fun K "are_pairs" "are_pairs" gz f fd):FnOk P w K mg base CX0 (k+1) f fd ["one","other","thing"] (spF K [0,0,0] 3 bX):=
 F.okR qY ⟨[],[0,0,0],3,[]⟩ [0,0,0] fun nd _ _ _ _ _ _ hr=>(frt (b9 (b7 (K:=K) (n:="list") rfl rfl T.isinstance0 rfl T.list0 (by decide +kernel) (by decide) (fv 2) (by decide) rfl rfl rfl rfl) (bv (fcb (iS (K:=K) rfl rfl) T.all0 (by decide +kernel) (fac (fs0 (ee (cd:=3) (d:=3) (dsi:=[0,0,0]) (lk:=[1,2]) (BlkOkC.of (ns:=["pair","one","other"]) (js:=[none,some 0,some 1]) (N0:=mT) (sc0:=ah gz) rfl rfl (by decide +kernel)) rfl (a9 (K:=K) rfl (fv 2)) (fun _ _ _ _ _=>(fgn 0 [0,0,0] (ndk ["pair","one","other"]))) (fun _ _ _ _ _=>a8) (fun _ _ _ _ _=>(fnn xK hr (fac (fvc 1) (fac (fvc 2) (fac (fv 0) ab))))) rfl rfl (by decide) rfl (fun _=>rfl))) ab)))))
def sY(T:Bl mg)(F:Fun K "are_told" "are_told" ir f fd):FnOk P w K mg base CX0 (k+1) f fd ["told","ahead"] (spF K [0,0] 3 ej):=
 F.okR sL ⟨[],[0,0],3,[]⟩ [0,0] fun nd _ _ _ _ _ _ hr=>(frt (fcb (iS (K:=K) rfl rfl) T.all0 (by decide +kernel) (fac (fs0 (ee (cd:=3) (d:=3) (dsi:=[0,0]) (lk:=[1]) (BlkOkC.of (ns:=["there","told"]) (js:=[none,some 0]) (N0:=oE) (sc0:=ah ir) rfl rfl (by decide +kernel)) rfl (a9 (K:=K) rfl (fv 1)) (fun _ _ _ _ _=>(fgn 0 [0,0] (ndk ["there","told"]))) (fun _ _ _ _ _=>a8) (fun _ _ _ _ _=>(nE (bw fM (fv 0) aF (aN _)) (bv (vH (kL hr) (fv 0) (fvc 1) (by with_unfolding_all rfl))))) rfl rfl (by decide) rfl (fun _=>rfl))) ab)))
def GU(T:Bl mg)(F:Fun K "led" "led" xH f fd):FnOk P w K mg base CX0 (k+1) f fd ["machine","stand","sign"] (spF K [0,0,0] 0 lT):=
 F.okR GI ⟨[],[0,0,0],0,[]⟩ [0,0,0] fun nd _ _ _ _ _ _ hr=>(frt (nF (aP fM (fv 1) aF (aN _)) (fs0 aF) (a5 (bC (K:=K) rfl) (a5 (bC (K:=K) rfl) (fxi rfl (fv 0)) (fv 1) (fun _ _=>rfl)) (fv 2) (fun _ _=>rfl))))
def lA(T:Bl mg)(F:Fun K "how_many_signs" "how_many_signs" eU f fd):FnOk P w K mg base CX0 (k+1) f fd ["machine"] (spF K [0] 3 bW):=
 F.okR lu ⟨[],[0],3,[]⟩ [0] fun nd _ _ _ _ _ _ hr=>(frt (fln rfl T.len0 (fac (fxi rfl (fxi rfl (fv 0))) ab)))
def oS(T:Bl mg)(GA:AZ P w K mg base k)(mW:gX P w K mg base k)(F:Fun K "pairs_ahead" "pairs_ahead" eT f fd):FnOk P w K mg base CX0 (k+1) f fd ["one","other","pair"] (spF K [0,0,0] 1 ci):=
 F.okR oN ⟨[],[0,0,0],1,[]⟩ [0,0,0] fun nd _ _ _ _ _ _ hr=>(frt (ee (cd:=0) (d:=1) (dsi:=[0,0,0,0]) (lk:=[1,2,3]) (BlkOkC.of (ns:=["sign","one","other","pair"]) (js:=[none,some 0,some 1,some 2]) (N0:=km) (sc0:=ah eT) rfl rfl (by decide +kernel)) rfl (cr rfl T.range0 (fac (fs0 (fnn mW hr (fac (fvc 0) ab))) ab) rfl) (fun _ _ _ _ _=>(fgn 0 [0,0,0,0] (ndk ["sign","one","other","pair"]))) (fun _ _ _ _ _=>a8) (fun _ _ _ _ _=>(aB (d:=0) (c:=0) (fac (fnn GA hr (fac (fvc 1) (fac (fxi rfl (fvc 3)) (fac (fv 0) ab)))) (fac (fnn GA hr (fac (fvc 2) (fac (fxi rfl (fvc 3)) (fac (fv 0) ab)))) ab)) rfl rfl)) rfl rfl (by decide) rfl (fun _=>rfl)))
def kX(T:Bl mg)(hV:ga P w K mg base k)(F:Fun K "ahead_for_alike" "ahead_for_alike" cB f fd):FnOk P w K mg base CX0 (k+1) f fd ["one","other","pair"] (spF K [0,0,0] 1 bK):=
 F.okR kU ⟨[],[0,0,0],1,[]⟩ [0,0,0] fun nd _ _ _ _ _ _ hr=>(frt (ee (cd:=0) (d:=1) (dsi:=[0]) (lk:=[]) (BlkOkC.of (ns:=["there"]) (js:=[none]) (N0:=hC) (sc0:=ah cB) rfl rfl (by decide +kernel)) rfl (a9 (K:=K) rfl (fs0 (fnn hV hr (fac (fv 0) (fac (fv 1) (fac (fv 2) ab)))))) (fun _ _ _ _ _=>(fgn 0 [0] (ndk ["there"]))) (fun _ _ _ _ _=>a8) (fun _ _ _ _ _=>(nF (fte rfl hr.units (fv 0) (aB (d:=3) (c:=3) (fac aF (fac aF ab)) rfl rfl)) (fs0 aF) (fv 0))) rfl rfl (by decide) rfl (fun _=>rfl)))
def wF(T:Bl mg)(F:Fun K "is_end" "is_end" nM f fd):FnOk P w K mg base CX0 (k+1) f fd ["machine","stand"] (spF K [0,0] 0 dy):=
 F.okR wt ⟨[],[0,0],0,[]⟩ [0,0] fun nd _ _ _ _ _ _ hr=>(frt (b9 (bw iR (fv 1) aF (aN _)) (bv (a5 (bC (K:=K) rfl) (fxi rfl (fv 0)) (fv 1) (fun _ _=>rfl)))))
def sX(T:Bl mg)(iY:lO P w K mg base k)(F:Fun K "is_alike" "is_alike" ke f fd):FnOk P w K mg base CX0 (k+1) f fd ["one","other","pair"] (spF K [0,0,0] 3 fR):=
 F.okR sK ⟨[],[0,0,0],3,[]⟩ [0,0,0] fun nd _ _ _ _ _ _ hr=>(frt (bw (kO (K:=K) rfl hr.units) (fnn iY hr (fac (fv 0) (fac (fxi rfl (fv 2)) ab))) (fnn iY hr (fac (fv 1) (fac (fxi rfl (fv 2)) ab))) (aN _)))
def oT(T:Bl mg)(nP:lN P w K mg base k)(jA:iJ P w K mg base k)(kt:jz P w K mg base k)(lR:gi P w K mg base k)(wa:mM P w K mg base k)(F:Fun K "holds_alike" "holds_alike" cX f fd):FnOk P w K mg base CX0 (k+1) f fd ["one","other","pairs"] (spF K [0,0,0] 3 aW):=
 F.okR oO ⟨[],[0,0,0,0],3,[]⟩ [0,0,0,0] fun nd _ _ _ _ _ _ hr=>(ag (aA (ds2:=[0,0,0,0]) (aV (aG (fnn jA hr (fac (fvc 0) (fac (fvc 1) (fac (fv 2) ab)))) (fun _=>rfl))) (frt aI) aw) (ag (cR (i:=3) (d:=0) (ds':=[0,0,0,0]) nd rfl (.inr rfl) (fs0 (fnn nP hr (fac (fv 2) ab))) rfl (by decide) (by decide) rfl (.inl rfl)) (ag (aA (ds2:=[0,0,0,0]) (qpt (bO (jm (kL hr) (aB (d:=3) (c:=3) (fac ae (fac ae ab)) rfl rfl) (fvc 3) (by with_unfolding_all rfl)) (bI (aV (aG (fcb (iS (K:=K) rfl rfl) T.all0 (by decide +kernel) (fac (fs0 (jp (K:=K) (cd:=3) (d:=3) (dsi:=[0,0,0]) (lk:=[1,2]) rfl (BlkOkC.of (ns:=["pair","one","other"]) (js:=[none,some 0,some 1]) (N0:=gZ) (sc0:=ah cX) rfl rfl (by decide +kernel)) rfl (fvc 3) (fun _ _ _ _ _=>(fgn 0 [0,0,0] (ndk ["pair","one","other"]))) (fun _ _ _ _ _=>a8) (fun _ _ _ _ _=>(fnn wa hr (fac (fvc 1) (fac (fvc 2) (fac (fv 0) ab))))) rfl rfl (by decide) rfl (fun _=>rfl))) ab)) (fun _=>rfl)))))) (frt aI) aw) (frt (fcb (iS (K:=K) rfl rfl) T.all0 (by decide +kernel) (fac (fs0 (jp (K:=K) (cd:=3) (d:=3) (dsi:=[0,0,0,0]) (lk:=[1,2,3]) rfl (BlkOkC.of (ns:=["pair","one","other","told"]) (js:=[none,some 0,some 1,some 3]) (N0:=gZ) (sc0:=ah cX) rfl rfl (by decide +kernel)) rfl (fvc 3) (fun _ _ _ _ _=>(fgn 0 [0,0,0,0] (ndk ["pair","one","other","told"]))) (fun _ _ _ _ _=>a8) (fun _ _ _ _ _=>(fnn kt hr (fac (fvc 3) (fac (fs0 (fnn lR hr (fac (fvc 1) (fac (fvc 2) (fac (fv 0) ab))))) ab)))) rfl rfl (by decide) rfl (fun _=>rfl))) ab))))))
def jT(T:Bl mg)(hV:ga P w K mg base k)(F:Fun K "ahead_for_within" "ahead_for_within" ce f fd):FnOk P w K mg base CX0 (k+1) f fd ["one","other","pair"] (spF K [0,0,0] 1 bA):=
 F.okR jO ⟨[],[0,0,0],1,[]⟩ [0,0,0] fun nd _ _ _ _ _ _ hr=>(frt (ee (cd:=0) (d:=1) (dsi:=[0]) (lk:=[]) (BlkOkC.of (ns:=["there"]) (js:=[none]) (N0:=gj) (sc0:=ah ce) rfl rfl (by decide +kernel)) rfl (a9 (K:=K) rfl (fs0 (fnn hV hr (fac (fv 0) (fac (fv 1) (fac (fv 2) ab)))))) (fun _ _ _ _ _=>(fgn 0 [0] (ndk ["there"]))) (fun _ _ _ _ _=>a8) (fun _ _ _ _ _=>(nF (aP fM (fxi rfl (fv 0)) aF (aN _)) (fs0 aF) (fv 0))) rfl rfl (by decide) rfl (fun _=>rfl)))
def rh(T:Bl mg)(iY:lO P w K mg base k)(F:Fun K "is_within" "is_within" ju f fd):FnOk P w K mg base CX0 (k+1) f fd ["one","other","pair"] (spF K [0,0,0] 3 eZ):=
 F.okR qX ⟨[],[0,0,0],3,[]⟩ [0,0,0] fun nd _ _ _ _ _ _ hr=>(frt (nE (fnn iY hr (fac (fv 1) (fac (fxi rfl (fv 2)) ab))) (bv (gP (fnn iY hr (fac (fv 0) (fac (fxi rfl (fv 2)) ab)))))))
def nh(T:Bl mg)(nP:lN P w K mg base k)(jA:iJ P w K mg base k)(kt:jz P w K mg base k)(k6:fQ P w K mg base k)(uo:lf P w K mg base k)(F:Fun K "holds_within" "holds_within" cG f fd):FnOk P w K mg base CX0 (k+1) f fd ["one","other","pairs"] (spF K [0,0,0] 3 aU):=
 F.okR m7 ⟨[],[0,0,0,0],3,[]⟩ [0,0,0,0] fun nd _ _ _ _ _ _ hr=>(ag (aA (ds2:=[0,0,0,0]) (aV (aG (fnn jA hr (fac (fvc 0) (fac (fvc 1) (fac (fv 2) ab)))) (fun _=>rfl))) (frt aI) aw) (ag (cR (i:=3) (d:=0) (ds':=[0,0,0,0]) nd rfl (.inr rfl) (fs0 (fnn nP hr (fac (fv 2) ab))) rfl (by decide) (by decide) rfl (.inl rfl)) (ag (aA (ds2:=[0,0,0,0]) (qpt (bO (jm (kL hr) (aB (d:=3) (c:=3) (fac ae (fac ae ab)) rfl rfl) (fvc 3) (by with_unfolding_all rfl)) (bI (aV (aG (fcb (iS (K:=K) rfl rfl) T.all0 (by decide +kernel) (fac (fs0 (jp (K:=K) (cd:=3) (d:=3) (dsi:=[0,0,0]) (lk:=[1,2]) rfl (BlkOkC.of (ns:=["pair","one","other"]) (js:=[none,some 0,some 1]) (N0:=gc) (sc0:=ah cG) rfl rfl (by decide +kernel)) rfl (fvc 3) (fun _ _ _ _ _=>(fgn 0 [0,0,0] (ndk ["pair","one","other"]))) (fun _ _ _ _ _=>a8) (fun _ _ _ _ _=>(b9 (bw iR (fxi rfl (fv 0)) aF (aN _)) (bv (fnn uo hr (fac (fvc 1) (fac (fvc 2) (fac (fv 0) ab))))))) rfl rfl (by decide) rfl (fun _=>rfl))) ab)) (fun _=>rfl)))))) (frt aI) aw) (frt (fcb (iS (K:=K) rfl rfl) T.all0 (by decide +kernel) (fac (fs0 (jp (K:=K) (cd:=3) (d:=3) (dsi:=[0,0,0,0]) (lk:=[1,2,3]) rfl (BlkOkC.of (ns:=["pair","one","other","told"]) (js:=[none,some 0,some 1,some 3]) (N0:=gc) (sc0:=ah cG) rfl rfl (by decide +kernel)) rfl (fvc 3) (fun _ _ _ _ _=>(fgn 0 [0,0,0,0] (ndk ["pair","one","other","told"]))) (fun _ _ _ _ _=>a8) (fun _ _ _ _ _=>(fnn kt hr (fac (fvc 3) (fac (fs0 (fnn k6 hr (fac (fvc 1) (fac (fvc 2) (fac (fv 0) ab))))) ab)))) rfl rfl (by decide) rfl (fun _=>rfl))) ab))))))
def oW(T:Bl mg)(F:Fun K "_law_is_end" "_law_is_end" gW f fd):FnOk P w K mg base CX0 (k+1) f fd ["_law_machine_here","_law_stand"] (spF K [0,0] 0 bM):=
 F.okR oQ ⟨[],[0,0],0,[]⟩ [0,0] fun nd _ _ _ _ _ _ hr=>(frt (b9 (bw iR (fv 1) aF (aN _)) (bv (a5 (bC (K:=K) rfl) (fxi rfl (fv 0)) (fv 1) (fun _ _=>rfl)))))
def l7(T:Bl mg)(F:Fun K "_law_is_place" "_law_is_place" fC f fd):FnOk P w K mg base CX0 (k+1) f fd ["_law_machine_here","_law_thing"] (spF K [0,0] 3 a7):=
 F.okR lY ⟨[],[0,0],3,[]⟩ [0,0] fun nd _ _ _ _ _ _ hr=>(ag (aA (ds2:=[0,0]) (aP fM (fv 1) aF (aN _)) (frt aI) aw) (frt (b9 (b7 (K:=K) (n:="int") rfl rfl T.isinstance0 rfl T.int0 (by decide +kernel) (by decide) (fv 1) (by decide) rfl rfl rfl rfl) (b9 (gP (b7 (K:=K) (n:="bool") rfl rfl T.isinstance0 rfl T.bool0 (by decide +kernel) (by decide) (fv 1) (by decide) rfl rfl rfl rfl)) (bv (ms tW mq ae (fv 1) (fln rfl T.len0 (fac (fxi rfl (fv 0)) ab)) (by with_unfolding_all rfl)))))))
def lB(T:Bl mg)(iZ:iu P w K mg base k)(F:Fun K "_law_are_pairs" "_law_are_pairs" eW f fd):FnOk P w K mg base CX0 (k+1) f fd ["_law_one","_law_other","_law_pairs"] (spF K [0,0,0] 3 bY):=
 F.okR lw ⟨[],[0,0,0,0],3,[]⟩ [0,0,0,0] fun nd _ _ _ _ _ _ hr=>(ag (aA (ds2:=[0,0,0,0]) (aV (aG (b7 (K:=K) (n:="list") rfl rfl T.isinstance0 rfl T.list0 (by decide +kernel) (by decide) (fv 2) (by decide) rfl rfl rfl rfl) (fun _=>rfl))) (frt aI) aw) (ag (ba (ds1:=[0,0,0,0]) rfl (a9 (K:=K) rfl (fv 2)) (fgn 3 [0,0,0,0] nd) (ag (aA (ds2:=[0,0,0,0]) (qpt (bO (aV (aG (b7 (K:=K) (n:="tuple") rfl rfl T.isinstance0 rfl T.tuple0 (by decide +kernel) (by decide) (fv 3) (by decide) rfl rfl rfl rfl) (fun _=>rfl))) (bI (ftn rfl hr.units (fln rfl T.len0 (fac (fv 3) ab)) ae)))) (frt aI) aw) (aJ (aA (ds2:=[0,0,0,0]) (qpt (bO (aV (aG (fnn iZ hr (fac (fv 0) (fac (fxi rfl (fv 3)) ab))) (fun _=>rfl))) (bI (aV (aG (fnn iZ hr (fac (fv 1) (fac (fxi rfl (fv 3)) ab))) (fun _=>rfl)))))) (frt aI) aw))) PassesOwn.never (fun _=>rfl)) (frt aI)))
def tq(T:Bl mg)(F:Fun K "_law_led" "_law_led" kh f fd):FnOk P w K mg base CX0 (k+1) f fd ["_law_machine_here","_law_stand","_law_number"] (spF K [0,0,0] 0 de):=
 F.okR sO ⟨[],[0,0,0],0,[]⟩ [0,0,0] fun nd _ _ _ _ _ _ hr=>(ag (aA (ds2:=[0,0,0]) (aP fM (fv 1) aF (aN _)) (frt (fs0 aF)) aw) (frt (a5 (bC (K:=K) rfl) (a5 (bC (K:=K) rfl) (fxi rfl (fv 0)) (fv 1) (fun _ _=>rfl)) (fv 2) (fun _ _=>rfl))))
def rp(T:Bl mg)(ku:jG P w K mg base k)(mX:gY P w K mg base k)(oG:mP P w K mg base k)(F:Fun K "_law_hold" "_law_hold" jw f fd):FnOk P w K mg base CX0 (k+1) f fd ["_law_one","_law_other","_law_pairs","_law_whole"] (spF K [0,0,0,0] 3 bD):=
 F.okR rb ⟨[],[0,0,0,0,0,0,0,0,0,0,0,0],3,[]⟩ [0,0,0,0,0,0,0,0,0,0,0,0] fun nd _ _ _ _ _ _ hr=>(ag (aA (ds2:=[0,0,0,0,0,0,0,0,0,0,0,0]) (qpt (bO (aV (aG (fnn mX hr (fac (fv 0) (fac (fv 1) (fac (fv 2) ab)))) (fun _=>rfl))) (bI (aP (xb (K:=K) rfl hr.units) (aB (d:=3) (c:=3) (fac ae (fac ae ab)) rfl rfl) (fv 2) (by with_unfolding_all rfl))))) (frt aI) aw) (ag (aY 4 [0,0,0,0,4,0,0,0,0,0,0,0] nd og) (ag (ba (ds1:=[0,0,0,0,4,0,0,0,0,0,0,0]) rfl (a9 (K:=K) rfl (fv 2)) (fgn 5 [0,0,0,0,4,0,0,0,0,0,0,0] nd) (aJ (la (i:=4) (kL hr) rfl (.inl rfl) (fs0 aI) (fv 5) rfl rfl rfl rfl)) PassesOwn.never (fun _=>rfl)) (ag (ba (ds1:=[0,0,0,0,4,0,0,0,0,0,0,0]) rfl (a9 (K:=K) rfl (fv 2)) (j4 (K:=K) rfl rfl (cM (fgn 6 [0,0,0,0,4,0,0,0,0,0,0,0] nd) (cM (fgn 7 [0,0,0,0,4,0,0,0,0,0,0,0] nd) jn rfl) rfl) nz rfl rfl) (ag (aY 8 [0,0,0,0,4,0,0,0,0,0,0,0] nd (fnn ku hr (fac (fv 0) (fac (fv 6) ab)))) (ag (aY 9 [0,0,0,0,4,0,0,0,0,0,0,0] nd (fnn ku hr (fac (fv 1) (fac (fv 7) ab)))) (ag (aA (ds2:=[0,0,0,0,4,0,0,0,0,0,0,0]) (qpt (bO (qpt (fy (aG (fv 8) (fun _=>rfl)) (fK (aV (aG (fv 9) (fun _=>rfl)))))) (bO (qpt (fy (aG (fv 3) (fun _=>rfl)) (fy (aG (fv 9) (fun _=>rfl)) (fK (aV (aG (fv 8) (fun _=>rfl))))))) (bI (qpt (fy (aV (aG (fv 3) (fun _=>rfl))) (fK (aP fM (fv 6) aF (aN _))))))))) (frt aI) aw) (aJ (ba (ds1:=[0,0,0,0,4,0,0,0,0,0,0,0]) rfl (cr rfl T.range0 (fac (fs0 (fln rfl T.len0 (fac (fxi rfl (fxi rfl (fv 0))) ab))) ab) rfl) (fgn 10 [0,0,0,0,4,0,0,0,0,0,0,0] nd) (ag (aY 11 [0,0,0,0,4,0,0,0,0,0,0,0] nd (aB (d:=0) (c:=0) (fac (fnn oG hr (fac (fv 0) (fac (fv 6) (fac (fv 10) ab)))) (fac (fnn oG hr (fac (fv 1) (fac (fv 7) (fac (fv 10) ab)))) ab)) rfl rfl)) (aJ (aA (ds2:=[0,0,0,0,4,0,0,0,0,0,0,0]) (qpt (fy (ij (ds0:=[0,0,0,0,0,0,0,0,0,0,0,0]) (jm (kL hr) (fv 11) (fv 4) (by with_unfolding_all rfl)) rfl) (fK (qpt (bO (aP iR (fxi rfl (fv 11)) aF (aN _)) (bI (qpt (fy (aG (fv 3) (fun _=>rfl)) (fK (aP iR (fxi rfl (fv 11)) aF (aN _))))))))))) (frt aI) aw))) PassesOwn.never (fun _=>rfl)))))) PassesOwn.never (fun _=>rfl)) (frt aI)))))
def p8(T:Bl mg)(kw:jH P w K mg base k)(hW:gb P w K mg base k)(gg:fE P w K mg base k)(ur:lh P w K mg base k)(F:Fun K "_law_asked" "_law_asked" iI f fd):FnOk P w K mg base CX0 (k+1) f fd ["_law_one","_law_other","_law_pairs"] (spF K [0,0,0] 3 cb):=
 F.okR pN ⟨[],[0,0,0,0,0,0,0],3,[]⟩ [0,0,0,0,0,0,0] fun nd _ _ _ _ _ _ hr=>(ag (aY 3 [0,0,0,0,0,0,0] nd (fs0 (aB (d:=2) (c:=1) (fac (fnn kw hr (fac (fv 0) ab)) (fac (fnn kw hr (fac (fv 1) ab)) ab)) rfl rfl))) (ag (aY 4 [0,0,0,0,0,0,0] nd (fs0 (fct (nB (K:=K) rfl rfl) T.list0 (by decide +kernel) (fac (fv 2) ab)))) (ag (ba (ds1:=[0,0,0,0,0,0,0]) rfl (a9 (K:=K) rfl (fs0 (aL (d:=3) (c:=3) (fac (aB (d:=3) (c:=3) (fac aI (fac (fnn hW hr (fac (fv 0) (fac (fv 1) (fac (fv 4) ab)))) ab)) rfl rfl) (fac (aB (d:=3) (c:=3) (fac aI (fac (fnn gg hr (fac (fv 0) (fac (fv 1) (fac (fv 4) ab)))) ab)) rfl rfl) ab)) rfl rfl (by decide)))) (j4 (K:=K) rfl rfl (cM (fgn 5 [0,0,0,0,0,0,0] nd) (cM (fgn 6 [0,0,0,0,0,0,0] nd) jn rfl) rfl) nz rfl rfl) (aJ (aA (ds2:=[0,0,0,0,0,0,0]) (qpt (bO (aV (aG (b7 (K:=K) (n:="bool") rfl rfl T.isinstance0 rfl T.bool0 (by decide +kernel) (by decide) (fv 6) (by decide) rfl rfl rfl rfl) (fun _=>rfl))) (bI (ftn rfl hr.units (fv 6) (fnn ur hr (fac (fv 0) (fac (fv 1) (fac (fv 2) (fac (fv 5) ab))))))))) (frt aI) aw)) PassesOwn.never (fun _=>rfl)) (frt (b9 (bw (FI (K:=K) rfl hr.units) (fv 4) (fv 2) (aN _)) (bv (bw (kO (K:=K) rfl hr.units) (aB (d:=0) (c:=0) (fac (fv 0) (fac (fv 1) ab)) rfl rfl) (fv 3) (aN _))))))))
def oU(T:Bl mg)(F:Fun K "_law_turned" "_law_turned" gU f fd):FnOk P w K mg base CX0 (k+1) f fd ["_law_pair"] (spF K [0] 0 bL):=
 F.okR oP ⟨[],[0],0,[]⟩ [0] fun nd _ _ _ _ _ _ hr=>(ag (aA (ds2:=[0]) (aG (b7 (K:=K) (n:="tuple") rfl rfl T.isinstance0 rfl T.tuple0 (by decide +kernel) (by decide) (fv 0) (by decide) rfl rfl rfl rfl) (fun _=>rfl)) (frt (vG (K:=K) rfl (fv 0) (nC qz ae))) aw) (frt (fv 0)))
def GV(T:Bl mg)(wc:mN P w K mg base k)(pb:iW P w K mg base k)(pc:iX P w K mg base k)(rJ:kj P w K mg base k)(uu:lj P w K mg base k)(iK:kl P w K mg base k)(ar:cN P w K mg base k)(hW:gb P w K mg base k)(gg:fE P w K mg base k)(qW:jF P w K mg base k)(F:Fun K "law" "law" kc f fd):FnOk P w K mg base CX0 (k+1) f fd ["_law_script"] (spF K [0] 3 uv):=
 F.okR GJ ⟨[],[0,0,0,0,0,0,0,0],3,[]⟩ [0,0,0,0,0,0,0,0] fun nd _ _ _ _ _ _ hr=>(ag (ba (ds1:=[0,0,0,0,0,0,0,0]) rfl (cr rfl T.range0 (fac (fs0 ae) ab) rfl) (fgn 1 [0,0,0,0,0,0,0,0] nd) (j1 (ds2:=[0,0,1,3,3,0,0,0]) (ag (aY 2 [0,0,1,0,0,0,0,0] nd (jo (d':=1) (fnn wc hr (fac (fv 0) (fac (fv 1) ab))) (by decide))) (ag (aY 3 [0,0,1,3,0,0,0,0] nd (fns pb hr (fsl 2 (fac (fs0 (aq cF ae (fns ar hr (fsl 2 (fac (a5 (bC (K:=K) rfl) (aL (d:=3) (c:=3) (fac ae (fac ae (fac ae (fac ae ab)))) rfl rfl (by decide)) (fns ar hr (fsl 2 (fac (fs0 ae) ab))) (fun _ _=>rfl)) ab))))) (fac (fs0 ae) ab))))) (ag (tU (K:=K) (i:=3) (d:=3) (lk:=[0,1,3,5,6,7]) (ds0:=[0,0,1,0,0,0,0,0]) (ds1:=[0,0,1,0,3,0,0,0]) (bs:=[true,true,false,true,false,true,true,true]) (aY 4 [0,0,1,0,3,0,0,0] nd (fns pc hr (fsl 2 (fac (fv 3) (fac (fs0 ae) ab))))) rfl rfl rfl rfl rfl) (ag (aY 5 [0,0,1,3,3,0,0,0] nd (fs0 (aL (d:=3) (c:=3) ab rfl rfl (by decide)))) (ag (ba (ds1:=[0,0,1,3,3,0,0,0]) rfl (cr rfl T.range0 (fac (fs0 (b8 (ds0:=[0,0,1,0,3,0,0,0]) (fln rfl T.len0 (fac (fxi rfl (fv 3)) ab)) rfl)) ab) rfl) (fgn 6 [0,0,1,3,3,0,0,0] nd) (aJ (aY 5 [0,0,1,3,3,0,0,0] nd (fs0 (aq (cK (K:=K) rfl) (fv 5) (aL (d:=1) (c:=0) (fac (aB (d:=0) (c:=0) (fac (fv 6) (fac (aq cE ae (fv 6)) ab)) rfl rfl) (fac (aB (d:=0) (c:=0) (fac (fv 6) (fac (aq cF (aq cE ae (fv 6)) ae) ab)) rfl rfl) ab)) rfl rfl (by decide)))))) PassesOwn.never (fun _=>rfl)) (ag (aY 5 [0,0,1,3,3,0,0,0] nd (fns rJ hr (fsl 2 (fac (fs0 (aq (cK (K:=K) rfl) (fv 5) (aq (BS (K:=K) rfl) (aL (d:=3) (c:=3) (fac (aB (d:=3) (c:=3) (fac aF (fac aF ab)) rfl rfl) ab) rfl rfl (by decide)) (fns ar hr (fsl 2 (fac (fs0 ae) ab)))))) ab)))) (ag (aA (ds2:=[0,0,1,3,3,0,0,0]) (ij (ds0:=[0,0,1,0,0,0,0,0]) (aV (aG (fnn iK hr (fac (fv 3) (fac (fv 4) (fac (fv 5) ab)))) (fun _=>rfl))) rfl) (frt aI) aw) (ag (aY 5 [0,0,1,3,3,0,0,0] nd (fns uu hr (fsl 2 (fsl 3 (fsl 4 (fac (fv 5) ab)))))) (ag (aA (ds2:=[0,0,1,3,3,0,0,0]) (ij (ds0:=[0,0,1,0,0,0,0,0]) (qpt (bO (aV (aG (fnn iK hr (fac (fv 3) (fac (fv 4) (fac (fv 5) ab)))) (fun _=>rfl))) (bI (aV (aG (fnn iK hr (fac (fv 4) (fac (fv 3) (fac (fs0 (ee (cd:=0) (d:=1) (dsi:=[0]) (lk:=[]) (BlkOkC.of (ns:=["_law_pair"]) (js:=[none]) (N0:=Gx) (sc0:=ah kc) rfl rfl (by decide +kernel)) rfl (a9 (K:=K) rfl (fv 5)) (fun _ _ _ _ _=>(fgn 0 [0] (ndk ["_law_pair"]))) (fun _ _ _ _ _=>a8) (fun _ _ _ _ _=>(fnn qW hr (fac (fv 0) ab))) rfl rfl (by decide) rfl (fun _=>rfl))) ab)))) (fun _=>rfl)))))) rfl) (frt aI) aw) (aJ (ba (ds1:=[0,0,1,3,3,0,0,0]) rfl (a9 (K:=K) rfl (fs0 (aL (d:=1) (c:=0) (fac aF (fac (fct (xa (K:=K) rfl) T.tuple0 (by decide +kernel) (fac (fv 5) ab)) (fac oh (fac lH (fac ae (fac aI (fac (aL (d:=1) (c:=0) (fac (fv 5) ab) rfl rfl (by decide)) ab))))))) rfl rfl (by decide)))) (fgn 7 [0,0,1,3,3,0,0,0] nd) (aJ (aA (ds2:=[0,0,1,3,3,0,0,0]) (ij (ds0:=[0,0,1,0,0,0,0,0]) (qpt (bO (aP r6 (fnn hW hr (fac (fv 3) (fac (fv 4) (fac (fv 7) ab)))) aI (aN _)) (bI (aP r6 (fnn gg hr (fac (fv 3) (fac (fv 4) (fac (fv 7) ab)))) aI (aN _))))) rfl) (frt aI) aw)) PassesOwn.never (fun _=>rfl)))))))))))) rfl) PassesOwn.never (fun _=>rfl)) (frt aI))
end
end W36
namespace L2
open PySem PySem.Spec PyProof.Rows
structure W{α:Type}(x:Option α)(Q:α->Prop):Prop where
 ex:∃a,x=some a/\Q a
def az{α:Type}(a:α)(Q:α->Prop):W (some a) Q=Q a:=propext ⟨fun⟨b,e,h⟩=>(zat e)▸h,fun h=>⟨a,rfl,h⟩⟩
def bp{α:Type}(Q:α->Prop):W (none:Option α) Q=False:=propext ⟨(fun⟨b,e,h⟩=>by cases e),(fun h=>h.elim)⟩
def W.use{α:Type}{x:Option α}{P Q:α->Prop}(h:W x P)(k:∀a,P a->Q a):W x Q:=
 let⟨a,e,h⟩:=h.ex
 ⟨a,e,k a h⟩
def W.of{α:Type}{x:Option α}{P:α->Prop}{a:α}(e:x=some a)(h:P a):W x P:=⟨a,e,h⟩
def am{α β:Type}(x:Option α)(f:α->Option β)(Q:β->Prop):W (x.bind f) Q=W x (fun a=>W (f a) Q):=by
 cases x with
 |none=>show W none _=_;rw[bp,bp]
 |some a=>show W (f a) Q=_;rw[az]
def bo{α β:Type}(x:Option α)(f:α->β)(Q:β->Prop):W (x.map f) Q=W x (fun a=>Q (f a)):=by
 cases x with
 |none=>show W none _=_;rw[bp,bp]
 |some a=>show W (some (f a)) Q=_;rw[az,az]
def AY{α:Type}(c:Prop)[Decidable c](a:α)(Q:α->Prop):W (grd c a) Q=(c/\Q a):=by
 unfold grd;by_cases h:c
 ·rw[if_pos h,az];exact propext ⟨fun z=>⟨h,z⟩,fun z=>z.2⟩
 ·rw[if_neg h,bp];exact propext ⟨fun z=>z.elim,fun z=>h z.1⟩
def iG{α:Type}(c:Prop)[Decidable c](a:α)(Q:α->Prop):W (if c then some a else none) Q=(c/\Q a):=AY c a Q
def gv(en:En)(i:Nat):Option D:=(en[i]?).join
def m6(ts:List D)(n:Int)(t:D):Option (List D):=(ixN ts.length n).map fun k=>ts.set k t
def Jf(ts:List D)(n:Int):Option (D×List D):=(seqIndex? n ts.length).bind fun k=>(ts[k]?).map fun t=>(t,ts.eraseIdx k)
def fV(i:Int)(n:Nat):List D:=(List.range n).map fun k=>.int (i+(k:Nat))
section
variable{α β:Type}
def tK(b:MS)(Q:Fl->Prop):Fl->Prop:=fun fl=>W (match fl with|.nx en1=>b en1|.rt t en1=>some (.rt t en1)|.ct en1=>some (.ct en1)) Q
def E8(i:Nat)(Q:Fl->Prop):D×En->Prop:=fun r=>Q (.nx (r.2.set i (some r.1)))
def Ff(Q:Fl->Prop):D×En->Prop:=fun r=>Q (.nx r.2)
def E9(Q:Fl->Prop):D×En->Prop:=fun r=>Q (.rt r.1 r.2)
def kIf(f g:En->Option β)(Q:β->Prop):Bool×En->Prop:=fun r=>W (if r.1 then f r.2 else g r.2) Q
def Fe(g:MG)(b:MS)(Q:Fl->Prop):List D×En->Prop:=fun r=>W (cS g b r.1 r.2) Q
def mh(g:MG)(b:MS)(ts:List D)(Q:Fl->Prop):Fl->Prop:=fun fl=>W (match fl with|.nx en2=>cS g b ts en2|.ct en2=>cS g b ts en2|.rt r en2=>some (.rt r en2)) Q
def AJ(g:MG)(b:MS)(ts:List D)(Q:Fl->Prop):En->Prop:=fun en=>W (b en) (mh g b ts Q)
def wQ(i:Nat)(en:En)(Q:Fl->Prop):List D->Prop:=fun ts=>Q (.nx (en.set i (some (.list ts))))
def mf(i:Nat)(t:D)(Q:Fl->Prop):D×En->Prop:=fun q=>W (match q.1,(q.2[i]?).join with|.int n,some (.list ts)=>(ixN ts.length n).map fun k=>.nx (q.2.set i (some (.list (ts.set k t))))|_,_=>none) Q
def tJ(i:Nat)(fk:ME)(Q:Fl->Prop):D×En->Prop:=fun r=>W (match (r.2[i]?).join with|some _=>((fk r.2).bind fun q=>(match q.1,(q.2[i]?).join with|.int n,some (.list ts)=>(ixN ts.length n).map fun k=>.nx (q.2.set i (some (.list (ts.set k r.1))))|_,_=>none))|none=>none) Q
def va(i:Nat)(t:D)(fk:ME)(en:En)(Q:Fl->Prop):D->Prop:=fun _x=>W (fk en) (mf i t Q)
def qo(i:Nat)(t:D)(n:Int)(en:En)(Q:Fl->Prop):D->Prop:=fun x=>W (match x with|.list ts=>(ixN ts.length n).map fun k=>.nx (en.set i (some (.list (ts.set k t))))|_=>none) Q
def gM(en:En)(Q:D×En->Prop):D->Prop:=fun t=>Q (t,en)
def kMv(i:Nat)(en:En)(Q:D×En->Prop):D->Prop:=fun t=>Q (t,en.set i none)
def k1(g:D->Option D)(Q:D×En->Prop):D×En->Prop:=fun r=>W (g r.1) (gM r.2 Q)
def k2b(g:D->D->Option D)(t:D)(Q:D×En->Prop):D×En->Prop:=fun q=>W (g t q.1) (gM q.2 Q)
def k2(g:D->D->Option D)(f:ME)(Q:D×En->Prop):D×En->Prop:=fun r=>W (f r.2) (k2b g r.1 Q)
def wU(g:ME)(Q:D×En->Prop):D×En->Prop:=fun r=>W (match r.1 with|.bool true=>g r.2|.bool false=>some (.bool false,r.2)|_=>none) Q
def kOr(g:ME)(Q:D×En->Prop):D×En->Prop:=fun r=>W (match r.1 with|.bool true=>some (.bool true,r.2)|.bool false=>g r.2|_=>none) Q
def Fb(Q:D×En->Prop):D×En->Prop:=fun r=>W (match r.1 with|.bool b=>some (.bool (!b),r.2)|_=>none) Q
def kTV(Q:Bool×En->Prop):D×En->Prop:=fun r=>W (match r.1 with|.bool b=>some (b,r.2)|_=>none) Q
def tQ(g:MT)(Q:Bool×En->Prop):Bool×En->Prop:=fun r=>W (if r.1 then g r.2 else some (false,r.2)) Q
def wT(g:MT)(Q:Bool×En->Prop):Bool×En->Prop:=fun r=>W (if r.1 then some (true,r.2)else g r.2) Q
def AL(Q:Bool×En->Prop):Bool×En->Prop:=fun r=>Q (!r.1,r.2)
def wW(t:D)(Q:List (D ⊕ Nat)×En->Prop):List (D ⊕ Nat)×En->Prop:=fun y=>Q (.inl t::y.1,y.2)
def kAC(r:MA)(Q:List (D ⊕ Nat)×En->Prop):D×En->Prop:=fun x=>W (r x.2) (wW x.1 Q)
def wV(i:Nat)(Q:List (D ⊕ Nat)×En->Prop):List (D ⊕ Nat)×En->Prop:=fun y=>Q (.inr i::y.1,y.2)
def kAS(i:Nat)(r:MA)(en:En)(Q:List (D ⊕ Nat)×En->Prop):D->Prop:=fun _x=>W (r en) (wV i Q)
def kN2(g:List D->Option D)(en:En)(Q:D×En->Prop):List D->Prop:=fun ts=>W (g ts) (gM en Q)
def kN(g:List D->Option D)(Q:D×En->Prop):List (D ⊕ Nat)×En->Prop:=fun r=>W (vals r.1) (kN2 g r.2 Q)
def tL(en:En)(Q:D×En->Prop):List D->Prop:=fun ts=>W (if ts.length<=sizeLine then some (.list ts,en)else none) Q
def Fc(Q:D×En->Prop):List (D ⊕ Nat)×En->Prop:=fun r=>W (vals r.1) (tL r.2 Q)
def tI(en:En)(Q:D×En->Prop):List D->Prop:=fun ts=>W (if ts.length<=sizeLine then some (.tuple ts,en)else none) Q
def E7(Q:D×En->Prop):List (D ⊕ Nat)×En->Prop:=fun r=>W (vals r.1) (tI r.2 Q)
def qp(as:List (D ⊕ Nat))(en:En)(Q:D×En->Prop):D×En->Prop:=fun q=>Q (q.1,wb as q.2 en)
def qr(F:List D->Option (D×En))(as:List (D ⊕ Nat))(en:En)(Q:D×En->Prop):List D->Prop:=fun ts=>W (F ts) (qp as en Q)
def AK(F:List D->Option (D×En))(Q:D×En->Prop):List (D ⊕ Nat)×En->Prop:=fun r=>W (eK r.1 r.2) (qr F r.1 r.2 Q)
def kFn(dps:List Nat)(Q:D×En->Prop):Fl->Prop:=fun fl=>W (match fl with|.rt t en=>some (t,msk dps en)|.nx en=>some (.none,msk dps en)|.ct _=>none) Q
def tN(q:Bool)(js:List (Option Nat))(en:En)(Q:D×En->Prop):List D×En->Prop:=fun z=>Q (.list z.1,if q then en else wbB js z.2 en)
def kLC(q:Bool)(g:MG)(c:MT)(f:ME)(js:List (Option Nat))(Q:D×En->Prop):List D×En->Prop:=fun r=>W (lcF g c f r.1 [] (cz js r.2)) (tN q js r.2 Q)
def Fi(Q:List D×En->Prop):D×En->Prop:=fun r=>W ((Av r.1).map fun ts=>(ts,r.2)) Q
def kR1(Q:List D×En->Prop):List (D ⊕ Nat)×En->Prop:=fun r=>W (match r.1 with|[.inl (.int j)]=>if -(2 ^ 62)<=j/\j<2 ^ 62 then some ((List.range j.toNat).map fun k=>.int (0+(k:Nat)),r.2)else none|_=>none) Q
def kEn(Q:List D×En->Prop):List (D ⊕ Nat)×En->Prop:=fun r=>W (match r.1 with|[.inl (.list ts)]=>some (dL ts,r.2)|[.inl (.tuple ts)]=>some (dL ts,r.2)|_=>none) Q
def u7(n:Int)(en:En)(Q:D×En->Prop):D->Prop:=fun x=>W (match x with|.list ts=>(atI ts n).map fun t=>(t,en)|_=>none) Q
def md(i:Nat)(Q:D×En->Prop):D×En->Prop:=fun r=>W (match r.1,(r.2[i]?).join with|.int n,some (.list ts)=>(atI ts n).map fun t=>(t,r.2)|_,_=>none) Q
def AH(i:Nat)(f:ME)(en:En)(Q:D×En->Prop):D->Prop:=fun _x=>W (f en) (md i Q)
def tR(i:Nat)(Q:D×En->Prop):D×En->Prop:=fun r=>W (match (r.2[i]?).join with|some (.list ts)=>if ts.length<sizeLine then some (PyData.none,r.2.set i (some (.list (ts++[r.1]))))else none|_=>none) Q
def AM(i:Nat)(t:D)(en:En)(Q:D×En->Prop):D->Prop:=fun x=>W (match x with|.list ts=>if ts.length<sizeLine then some (PyData.none,en.set i (some (.list (ts++[t]))))else none|_=>none) Q
def Fh(i:Nat)(f:ME)(en:En)(Q:D×En->Prop):D->Prop:=fun x=>W (match x with|.list _=>((f en).bind fun r=>(match (r.2[i]?).join with|some (.list ts)=>if ts.length<sizeLine then some (PyData.none,r.2.set i (some (.list (ts++[r.1]))))else none|_=>none))|_=>none) Q
def tO(g:D->D->Option D)(t:D)(f:ME)(en:En)(Q:D×En->Prop):D->Prop:=fun x=>W (match x with|.bool true=>(f en).bind fun z=>(g t z.1).map fun t=>(t,z.2)|.bool false=>some (.bool false,en)|_=>none) Q
def wS(g g2:D->D->Option D)(f3:ME)(t:D)(Q:D×En->Prop):D×En->Prop:=fun q=>W (g t q.1) (tO g2 q.1 f3 q.2 Q)
def kCh(g g2:D->D->Option D)(f2 f3:ME)(Q:D×En->Prop):D×En->Prop:=fun r=>W (f2 r.2) (wS g g2 f3 r.1 Q)
def kOS(Q:Option Int×En->Prop):D×En->Prop:=fun r=>W (match r.1 with|.int i=>some (some i,r.2)|_=>none) Q
def wO(g:D->Option Int->Option Int->Option D)(t:D)(lo:Option Int)(Q:D×En->Prop):Option Int×En->Prop:=fun h=>W (g t lo h.1) (gM h.2 Q)
def wP(g:D->Option Int->Option Int->Option D)(t:D)(hi:MO)(Q:D×En->Prop):Option Int×En->Prop:=fun l=>W (hi l.2) (wO g t l.1 Q)
def kSl(g:D->Option Int->Option Int->Option D)(lo hi:MO)(Q:D×En->Prop):D×En->Prop:=fun r=>W (lo r.2) (wP g r.1 hi Q)
def kIt(J:En->Prop)(Q:Fl->Prop):Fl->Prop:=fun fl=>match fl with|.nx e=>J e|.ct e=>J e|.rt t e=>Q (.rt t e)
def wR(us:List D)(J:List D->En->Prop):D×En->Prop:=fun r=>J (us++[r.1]) r.2
def tM(f:ME)(us:List D)(J:List D->En->Prop):Bool×En->Prop:=fun r=>if r.1 then W (f r.2) (wR us J)else J us r.2
def Fd(c:MT)(f:ME)(us:List D)(J:List D->En->Prop):En->Prop:=fun en=>W (c en) (tM f us J)
def kFg(b:MS)(J:En->Prop)(Q:Fl->Prop):En->Prop:=fun en=>W (b en) (kIt J Q)
def kGs(q:List D->En->Option En)(ts:List D)(Q:En->Prop):En->Prop:=fun en=>W (q ts en) Q
def mi(t:D)(Q:List D->Prop):List D->Prop:=fun ts=>Q (t::ts)
def Fg(r:List (D ⊕ Nat))(en:En)(Q:List D->Prop):D->Prop:=fun t=>W (eK r en) (mi t Q)
def fO{α:Type}(ts:List α)(n:Nat):atI ts (n:Int)=ts[n]?:=by
 unfold atI ixN;rw[if_pos (by omega)];by_cases h:n<ts.length
 ·rw[if_pos (by omega)];rfl
 ·rw[if_neg (by omega),zbi (by omega)];rfl
def pK{ts:List D}{t:D}(n:Nat)(h:n<ts.length):m6 ts (n:Int) t=some (ts.set n t):=by
 unfold m6 ixN;rw[if_pos (by omega),if_pos (by omega)];rfl
def rZ(a b:Int):(a==b)=decide (a=b):=by
 by_cases h:a=b
 ·rw[h,zaB rfl];exact beq_self_eq_true b
 ·rw[zaA h];exact zbK.mpr h
def Cc(a b:Bool):eqD (.bool a) (.bool b)=some (.bool (a==b)):=by
 show grd _ _=_;unfold grd;rw[if_pos ⟨rfl,rfl,zbg _⟩];simp only[peq]
variable(en:En)(Qs:Fl->Prop)(Qe:D×En->Prop)(Qb:Bool×En->Prop)(Qa:List (D ⊕ Nat)×En->Prop)(Ql:List D×En->Prop)(Qd:D->Prop)(Qt:List D->Prop)(Qn:En->Prop)(f:ME)(g:MG)(fa:MA)(c:MT)(ts:List D)(i:Nat)
def ws0(α:Type)(a:α)(Q:α->Prop):W (some a) Q=Q a:=az _ _
def ws1(a:Option D)(l:En):gv (a::l) 0=a:=rfl
def ws2(a:Option D)(l:En):gv (a::l) (i+1)=gv l i:=rfl
def ws3(a b:Option D)(l:En):List.set (a::l) 0 b=b::l:=rfl
def ws4(a b:Option D)(l:En):List.set (a::l) (i+1) b=a::List.set l i b:=rfl
def ws5(a b:MS):W (aj a b en) Qs=W (a en) (tK b Qs):=am _ _ _
def ws6(b:MS):tK b Qs (.nx en)=W (b en) Qs:=rfl
def ws7(b:MS)(t:D):tK b Qs (.rt t en)=Qs (.rt t en):=az _ _
def ws8:W (ay i f en) Qs=W (f en) (E8 i Qs):=bo _ _ _
def ws9(t:D):E8 i Qs (t,en)=Qs (.nx (en.set i (some t))):=rfl
def D5:W (fU f en) Qs=W (f en) (Ff Qs):=bo _ _ _
def D4(t:D):Ff Qs (t,en)=Qs (.nx en):=rfl
def D3:W (av f en) Qs=W (f en) (E9 Qs):=bo _ _ _
def D2(t:D):E9 Qs (t,en)=Qs (.rt t en):=rfl
def D1:W (aO en) Qs=Qs (.nx en):=az _ _
def D0(a b:MS):W (sIf c a b en) Qs=W (c en) (kIf a b Qs):=am _ _ _
def DZ(β:Type)(a b:En->Option β)(Q:β->Prop):kIf a b Q (true,en)=W (a en) Q:=rfl
def DY(β:Type)(a b:En->Option β)(Q:β->Prop):kIf a b Q (false,en)=W (b en) Q:=rfl
def DX(fi:MI)(b:MS):W (cu fi g b en) Qs=W (fi en) (Fe g b Qs):=am _ _ _
def DW(b:MS):Fe g b Qs (ts,en)=W (cS g b ts en) Qs:=rfl
def DU(b:MS):W (cS g b [] en) Qs=Qs (.nx en):=az _ _
def DT(b:MS)(t:D):W (cS g b (t::ts) en) Qs=W (g t en) (AJ g b ts Qs):=(am _ _ _).trans (congrArg _ (funext fun z=>am _ _ _))
def DS(b:MS):AJ g b ts Qs en=W (b en) (mh g b ts Qs):=rfl
def DR(b:MS):mh g b ts Qs (.nx en)=W (cS g b ts en) Qs:=rfl
def DQ(b:MS):mh g b ts Qs (.ct en)=W (cS g b ts en) Qs:=rfl
def DP(b:MS)(t:D):mh g b ts Qs (.rt t en)=Qs (.rt t en):=az _ _
def DN(t:D):W (gN i t en) Qn=Qn (en.set i (some t)):=az _ _
def DM(g:List D->En->Option En):W (gT g (.tuple ts) en) Qn=W (g ts en) Qn:=rfl
def DL(q:List D->En->Option En)(t:D):W (gsC g q (t::ts) en) Qn=W (g t en) (kGs q ts Qn):=am _ _ _
def DK(q:List D->En->Option En):kGs q ts Qn en=W (q ts en) Qn:=rfl
def DJ:W (gs0 [] en) Qn=Qn en:=az _ _
def DI(fk fe:ME):W (dJ i fk fe en) Qs=W (fe en) (tJ i fk Qs):=am _ _ _
def DH(fk:ME)(t:D):tJ i fk Qs (t,en)=W (gv en i) (va i t fk en Qs):=by unfold tJ gv;cases h:(en[i]?).join with|none=>simp only[h,bp]|some x=>simp only[h,az];exact am _ _ _
def DG(t:D)(fk:ME)(x:D):va i t fk en Qs x=W (fk en) (mf i t Qs):=rfl
def DF(t:D)(n:Int):mf i t Qs (.int n,en)=W (gv en i) (qo i t n en Qs):=by unfold mf gv;cases h:(en[i]?).join with|none=>simp only[h,bp]|some x=>simp only[h,az];cases x<;>first|rfl|exact(az _ _).symm | (rw[az];rfl) | (rw[az];exact bp _)
def DE(t:D)(n:Int):qo i t n en Qs (.list ts)=W (m6 ts n t) (wQ i en Qs):=by unfold qo m6 wQ;dsimp only;rw[bo,bo]
def DD:wQ i en Qs ts=Qs (.nx (en.set i (some (.list ts)))):=rfl
def DC(x0 t:D)(l:List D):m6 (x0::l) 0 t=some (t::l):=pK 0 (by simp only[zac];omega)
def DB(x0 x1 x2 t:D)(l:List D):m6 (x0::x1::x2::l) 2 t=some (x0::x1::t::l):=pK 2 (by simp only[zac];omega)
def DA:W (ac i en) Qe=W (gv en i) (gM en Qe):=bo _ _ _
def Dz(t:D):gM en Qe t=Qe (t,en):=rfl
def Dy:W (eMv i en) Qe=W (gv en i) (kMv i en Qe):=bo _ _ _
def Dx(t:D):kMv i en Qe t=Qe (t,en.set i none):=rfl
def Dw(t:D):W (eC t en) Qe=Qe (t,en):=az _ _
def Dv(g:D->Option D):W (e1 g f en) Qe=W (f en) (k1 g Qe):=(am _ _ _).trans (congrArg _ (funext fun z=>bo _ _ _))
def Du(g:D->Option D)(t:D):k1 g Qe (t,en)=W (g t) (gM en Qe):=rfl
def Dt(g:D->D->Option D)(f1 f2:ME):W (e2 g f1 f2 en) Qe=W (f1 en) (k2 g f2 Qe):=(am _ _ _).trans (congrArg _ (funext fun z=>(am _ _ _).trans (congrArg _ (funext fun y=>bo _ _ _))))
def Ds(g:D->D->Option D)(f2:ME)(t:D):k2 g f2 Qe (t,en)=W (f2 en) (k2b g t Qe):=rfl
def Dr(g:D->D->Option D)(t u:D):k2b g t Qe (u,en)=W (g t u) (gM en Qe):=rfl
def Dq(f g:ME):W (dS f g en) Qe=W (f en) (wU g Qe):=am _ _ _
def Dp(g:ME):wU g Qe (.bool true,en)=W (g en) Qe:=rfl
def Do(g:ME):wU g Qe (.bool false,en)=Qe (.bool false,en):=az _ _
def Dm(f g:ME):W (eOr f g en) Qe=W (f en) (kOr g Qe):=am _ _ _
def Dl(g:ME):kOr g Qe (.bool true,en)=Qe (.bool true,en):=az _ _
def Dk(g:ME):kOr g Qe (.bool false,en)=W (g en) Qe:=rfl
def Dj:W (iE f en) Qe=W (f en) (Fb Qe):=am _ _ _
def Di(x:Bool):Fb Qe (.bool x,en)=Qe (.bool (!x),en):=az _ _
def Dh(f g:ME):W (eIf c f g en) Qe=W (c en) (kIf f g Qe):=am _ _ _
def Dg:W (tV f en) Qb=W (f en) (kTV Qb):=am _ _ _
def De(x:Bool):kTV Qb (.bool x,en)=Qb (x,en):=az _ _
def Dd(f g:MT):W (eJ f g en) Qb=W (f en) (tQ g Qb):=am _ _ _
def Dc(g:MT):tQ g Qb (true,en)=W (g en) Qb:=rfl
def Db(g:MT):tQ g Qb (false,en)=Qb (false,en):=az _ _
def Da(f g:MT):W (bOr f g en) Qb=W (f en) (wT g Qb):=am _ _ _
def C9(g:MT):wT g Qb (true,en)=Qb (true,en):=az _ _
def C8(g:MT):wT g Qb (false,en)=W (g en) Qb:=rfl
def C7(f:MT):W (bN f en) Qb=W (f en) (AL Qb):=bo _ _ _
def C6(x:Bool):AL Qb (x,en)=Qb (!x,en):=rfl
def C5:W (cY en) Qb=Qb (true,en):=az _ _
def C4:W (af en) Qa=Qa ([],en):=az _ _
def C3(r:MA):W (aa f r en) Qa=W (f en) (kAC r Qa):=(am _ _ _).trans (congrArg _ (funext fun z=>bo _ _ _))
def C2(r:MA)(t:D):kAC r Qa (t,en)=W (r en) (wW t Qa):=rfl
def C1(t:D)(as:List (D ⊕ Nat)):wW t Qa (as,en)=Qa (.inl t::as,en):=rfl
def C0(r:MA):W (aC i r en) Qa=W (gv en i) (kAS i r en Qa):=(am _ _ _).trans (congrArg _ (funext fun z=>bo _ _ _))
def CZ(r:MA)(t:D):kAS i r en Qa t=W (r en) (wV i Qa):=rfl
def CY(as:List (D ⊕ Nat)):wV i Qa (as,en)=Qa (.inr i::as,en):=rfl
def CW:vals []=some []:=rfl
def CV(t:D)(r:List (D ⊕ Nat)):W (vals (.inl t::r)) Qt=W (vals r) (mi t Qt):=bo _ _ _
def CU(t:D):mi t Qt ts=Qt (t::ts):=rfl
def CT:eK [] en=some []:=rfl
def CQ(t:D)(r:List (D ⊕ Nat)):W (eK (.inl t::r) en) Qt=W (eK r en) (mi t Qt):=bo _ _ _
def CP(r:List (D ⊕ Nat)):W (eK (.inr i::r) en) Qt=W (gv en i) (Fg r en Qt):=(am _ _ _).trans (congrArg _ (funext fun z=>bo _ _ _))
def CO(t:D)(r:List (D ⊕ Nat)):Fg r en Qt t=W (eK r en) (mi t Qt):=rfl
def CN(r:List (D ⊕ Nat))(o:Option D)(ψ:En):wb (.inr i::r) (o::ψ) en=wb r ψ (en.set i o):=rfl
def CM(t:D)(r:List (D ⊕ Nat))(o:Option D)(ψ:En):wb (.inl t::r) (o::ψ) en=wb r ψ en:=rfl
def CL(ψ:En):wb [] ψ en=en:=rfl
def CK(g:List D->Option D):W (eN g fa en) Qe=W (fa en) (kN g Qe):=(am _ _ _).trans (congrArg _ (funext fun z=>(am _ _ _).trans (congrArg _ (funext fun y=>bo _ _ _))))
def CJ(g:List D->Option D)(as:List (D ⊕ Nat)):kN g Qe (as,en)=W (vals as) (kN2 g en Qe):=rfl
def CI(g:List D->Option D):kN2 g en Qe ts=W (g ts) (gM en Qe):=rfl
def CH:W (a6 fa en) Qe=W (fa en) (Fc Qe):=(am _ _ _).trans (congrArg _ (funext fun z=>am _ _ _))
def CG(as:List (D ⊕ Nat)):Fc Qe (as,en)=W (vals as) (tL en Qe):=rfl
def CF:tL en Qe ts=(ts.length<=sizeLine/\Qe (.list ts,en)):=iG _ _ _
def CD:W (aX fa en) Qe=W (fa en) (E7 Qe):=(am _ _ _).trans (congrArg _ (funext fun z=>am _ _ _))
def CC(as:List (D ⊕ Nat)):E7 Qe (as,en)=W (vals as) (tI en Qe):=rfl
def CB:tI en Qe ts=(ts.length<=sizeLine/\Qe (.tuple ts,en)):=iG _ _ _
def CA:(([]:List D).length<=sizeLine)=True:=eq_true (zau (by show 0<=100;decide) i8)
def Cz(x0:D):(([x0]:List D).length<=sizeLine)=True:=eq_true (zau (by show 1<=100;decide) i8)
def Cy(x0 x1:D):(([x0,x1]:List D).length<=sizeLine)=True:=eq_true (zau (by show 2<=100;decide) i8)
def Cw(x0 x1 x2:D):(([x0,x1,x2]:List D).length<=sizeLine)=True:=eq_true (zau (by show 3<=100;decide) i8)
def Cv(x0 x1 x2 x3:D):(([x0,x1,x2,x3]:List D).length<=sizeLine)=True:=eq_true (zau (by show 4<=100;decide) i8)
def Ao(x0 x1 x2 x3 x4 x5:D):(([x0,x1,x2,x3,x4,x5]:List D).length<=sizeLine)=True:=eq_true (zau (by show 6<=100;decide) i8)
def An(x0 x1 x2 x3 x4 x5 x6:D):(([x0,x1,x2,x3,x4,x5,x6]:List D).length<=sizeLine)=True:=eq_true (zau (by show 7<=100;decide) i8)
def Am(F:List D->Option (D×En)):W (ai F fa en) Qe=W (fa en) (AK F Qe):=(am _ _ _).trans (congrArg _ (funext fun z=>(am _ _ _).trans (congrArg _ (funext fun y=>bo _ _ _))))
def Al(F:List D->Option (D×En))(as:List (D ⊕ Nat)):AK F Qe (as,en)=W (eK as en) (qr F as en Qe):=rfl
def Ak(F:List D->Option (D×En))(as:List (D ⊕ Nat)):qr F as en Qe ts=W (F ts) (qp as en Qe):=rfl
def Aj(as:List (D ⊕ Nat))(t:D)(ψ:En):qp as en Qe (t,ψ)=Qe (t,wb as ψ en):=rfl
def Ai(q:Bool)(fi:MI)(js:List (Option Nat)):W (eLC q fi g c f js en) Qe=W (fi en) (kLC q g c f js Qe):=(am _ _ _).trans (congrArg _ (funext fun z=>bo _ _ _))
def Ah(q:Bool)(js:List (Option Nat)):kLC q g c f js Qe (ts,en)=W (lcF g c f ts [] (cz js en)) (tN q js en Qe):=rfl
def Ag(js:List (Option Nat))(us:List D)(ex:En):tN true js en Qe (us,ex)=Qe (.list us,en):=rfl
def Af(js:List (Option Nat))(us:List D)(ex:En):tN false js en Qe (us,ex)=Qe (.list us,wbB js ex en):=rfl
def Ae:cz [] en=[]:=rfl
def Ad(j:Nat)(js:List (Option Nat)):cz (some j::js) en=gv en j::cz js en:=rfl
def Ac(js:List (Option Nat)):cz (none::js) en=none::cz js en:=rfl
def Ab(j:Nat)(js:List (Option Nat))(o:Option D)(ex:En):wbB (some j::js) (o::ex) en=wbB js ex (en.set j o):=rfl
def Aa(js:List (Option Nat))(o:Option D)(ex:En):wbB (none::js) (o::ex) en=wbB js ex en:=rfl
def z9(ex:En):wbB [] ex en=en:=rfl
def zZ:W (lcF g c f [] acc en) Ql=Ql (acc,en):=az _ _
def zY:W (cg f en) Ql=W (f en) (Fi Ql):=am _ _ _
def zX:Fi Ql (.list ts,en)=Ql (ts,en):=az _ _
def zW:W (bU fa en) Ql=W (fa en) (kR1 Ql):=am _ _ _
def zV(j:Int):kR1 Ql ([.inl (.int j)],en)=((-(2 ^ 62)<=j/\j<2 ^ 62)/\Ql (fV 0 j.toNat,en)):=iG _ _ _
def zU:W (jZ fa en) Ql=W (fa en) (kEn Ql):=am _ _ _
def zT:kEn Ql ([.inl (.list ts)],en)=Ql (dL ts,en):=az _ _
def zS:W (cy i f en) Qe=W (gv en i) (AH i f en Qe):=(am _ _ _).trans (congrArg _ (funext fun z=>am _ _ _))
def zR(x:D):AH i f en Qe x=W (f en) (md i Qe):=rfl
def zQ(n:Int):md i Qe (.int n,en)=W (gv en i) (u7 n en Qe):=by unfold md gv;cases h:(en[i]?).join with|none=>simp only[h,bp]|some x=>simp only[h,az];cases x<;>first|rfl|exact(az _ _).symm | (rw[az];rfl) | (rw[az];exact bp _)
def zP(n:Int):u7 n en Qe (.list ts)=W (atI ts n) (gM en Qe):=bo _ _ _
def zO:W (fX i f en) Qe=W (gv en i) (Fh i f en Qe):=by unfold gv fX;cases(en[i]?).join with|none=>rw[bp,bp]|some x=>cases x<;>first|rfl|exact(az _ _).symm | (rw[az];rfl) | (rw[az];exact bp _)
def zN:Fh i f en Qe (.list ts)=W (f en) (tR i Qe):=am _ _ _
def zM(t:D):tR i Qe (t,en)=W (gv en i) (AM i t en Qe):=by unfold tR gv;cases h:(en[i]?).join with|none=>simp only[h,bp]|some x=>simp only[h,az];cases x<;>first|rfl|exact(az _ _).symm | (rw[az];rfl) | (rw[az];exact bp _)
def zL(t:D):AM i t en Qe (.list ts)=(ts.length<sizeLine/\Qe (.none,en.set i (some (.list (ts++[t]))))):=iG _ _ _
def zK(g g2:D->D->Option D)(f1 f2 f3:ME):W (gQ g g2 f1 f2 f3 en) Qe=W (f1 en) (kCh g g2 f2 f3 Qe):=(am _ _ _).trans (congrArg _ (funext fun z=>(am _ _ _).trans (congrArg _ (funext fun y=>am _ _ _))))
def zJ(g g2:D->D->Option D)(f2 f3:ME)(t:D):kCh g g2 f2 f3 Qe (t,en)=W (f2 en) (wS g g2 f3 t Qe):=rfl
def zI(g g2:D->D->Option D)(f3:ME)(t u:D):wS g g2 f3 t Qe (u,en)=W (g t u) (tO g2 u f3 en Qe):=rfl
def zH(g:D->D->Option D)(u:D)(f3:ME):tO g u f3 en Qe (.bool true)=W (f3 en) (k2b g u Qe):=(am _ _ _).trans (congrArg _ (funext fun z=>bo _ _ _))
def zG(g:D->D->Option D)(u:D)(f3:ME):tO g u f3 en Qe (.bool false)=Qe (.bool false,en):=az _ _
def zF(Q:Option Int×En->Prop):W (fF en) Q=Q (none,en):=az _ _
def zE(Q:Option Int×En->Prop):W (eD f en) Q=W (f en) (kOS Q):=am _ _ _
def zC(n:Int)(Q:Option Int×En->Prop):kOS Q (.int n,en)=Q (some n,en):=az _ _
def zB(g:D->Option Int->Option Int->Option D)(lo hi:MO):W (eSl g f lo hi en) Qe=W (f en) (kSl g lo hi Qe):=(am _ _ _).trans (congrArg _ (funext fun z=>(am _ _ _).trans (congrArg _ (funext fun y=>(am _ _ _).trans (congrArg _ (funext fun y=>bo _ _ _))))))
def zA(g:D->Option Int->Option Int->Option D)(lo hi:MO)(t:D):kSl g lo hi Qe (t,en)=W (lo en) (wP g t hi Qe):=rfl
def zz(g:D->Option Int->Option Int->Option D)(hi:MO)(t:D)(a:Option Int):wP g t hi Qe (a,en)=W (hi en) (wO g t a Qe):=rfl
def zy(g:D->Option Int->Option Int->Option D)(t:D)(a b:Option Int):wO g t a Qe (b,en)=W (g t a b) (gM en Qe):=rfl
def zx(J:En->Prop):kIt J Qs (.nx en)=J en:=rfl
def zw(J:En->Prop):kIt J Qs (.ct en)=J en:=rfl
def zv(J:En->Prop)(t:D):kIt J Qs (.rt t en)=Qs (.rt t en):=rfl
def zu(b:MS)(J:En->Prop):kFg b J Qs en=W (b en) (kIt J Qs):=rfl
def zt(us:List D)(J:List D->En->Prop):Fd c f us J en=W (c en) (tM f us J):=rfl
def zr(us:List D)(J:List D->En->Prop):tM f us J (true,en)=W (f en) (wR us J):=rfl
def zq(us:List D)(J:List D->En->Prop):tM f us J (false,en)=J us en:=rfl
def zp(us:List D)(J:List D->En->Prop)(t:D):wR us J (t,en)=J (us++[t]) en:=rfl
def zo(n:Nat)(dps:List Nat)(b:MS):W (fnF n dps b ts) Qe=W (b (ts.map some++List.replicate n none)) (kFn dps Qe):=am _ _ _
def zm(dps:List Nat)(t:D):kFn dps Qe (.rt t en)=Qe (t,msk dps en):=az _ _
def zh(d:Nat)(ds:List Nat)(o:Option D):msk ((d+1)::ds) (o::en)=o::msk ds en:=rfl
def zg(ds:List Nat)(o:Option D):msk (0::ds) (o::en)=none::msk ds en:=rfl
def zd:msk [] en=[]:=rfl
def zc(t:D):List.map some (t::ts)=some t::List.map some ts:=rfl
def zb:List.map (some:D->Option D) []=[]:=rfl
def y9(a:Option D)(l m:En):(a::l)++m=a::(l++m):=rfl
def y8(m:En):([]:En)++m=m:=rfl
def y6(a:Option D):List.replicate 0 a=[]:=rfl
def y4(a:Option D)(n:Nat):List.replicate (n+1) a=a::List.replicate n a:=rfl
def y3(a b:Int):be (.int a) (.int b)=some (.int (a+b)):=rfl
def yZ(a b:Int):lr (.int a) (.int b)=some (.int (a-b)):=rfl
def yY(a b:Int):W (bt (.int a) (.int b)) Qd=(CMul a b/\Qd (.int (a*b))):=iG _ _ _
def yX(a b:Int):W (ik (.int a) (.int b)) Qd=(nS a b/\Qd (.int (a / b))):=iG _ _ _
def yW(a b:Int):W (bu (.int a) (.int b)) Qd=(0<b/\Qd (.int (a % b))):=iG _ _ _
def yV(a b:Int):W (ng (.int a) (.int b)) Qd=(kA a b/\Qd (.int (a ^ b.toNat))):=iG _ _ _
def yU(a b:Int):ltI (.int a) (.int b)=some (.bool (decide (a<b))):=rfl
def yT(a b:Int):leI (.int a) (.int b)=some (.bool (decide (a<=b))):=rfl
def yS(a b:Int):gtI (.int a) (.int b)=some (.bool (decide (b<a))):=rfl
def yR(a b:Int):geI (.int a) (.int b)=some (.bool (decide (b<=a))):=rfl
def yQ(a b:Int):eqD (.int a) (.int b)=some (.bool (decide (a=b))):=(Gi a b).trans (congrArg (fun q=>some (PyData.bool q)) (rZ a b))
def yP(a b:Int):neD (.int a) (.int b)=some (.bool (!decide (a=b))):=(ER a b).trans (congrArg (fun q=>some (PyData.bool (!q))) (rZ a b))
def yO:isN .none .none=some (.bool true):=rfl
def yN:jU .none .none=some (.bool false):=rfl
def yM(x:Int):isN (.int x) .none=some (.bool false):=rfl
def yL(x:Int):jU (.int x) .none=some (.bool true):=rfl
def yK(x:Bool):isN (.bool x) .none=some (.bool false):=rfl
def yJ(x:Str):isN (.str x) .none=some (.bool false):=rfl
def yI(x:List D):isN (.list x) .none=some (.bool false):=rfl
def yH(x:List D):isN (.tuple x) .none=some (.bool false):=rfl
def yG(x:List (D×D)):isN (.dict x) .none=some (.bool false):=rfl
def yF:bd "tuple" (.none)=some (.bool false):=(if_neg (fun z=>nomatch z)).trans (congrArg (fun b=>some (PyData.bool b)) (show cv "NoneType" "tuple"=false by decide))
def yE(x:Int):bd "int" (.int x)=some (.bool true):=(if_neg (fun z=>nomatch z)).trans (congrArg (fun b=>some (PyData.bool b)) (show cv "int" "int"=true by decide))
def yD(x:Int):bd "bool" (.int x)=some (.bool false):=(if_neg (fun z=>nomatch z)).trans (congrArg (fun b=>some (PyData.bool b)) (show cv "int" "bool"=false by decide))
def yC(x:Int):bd "tuple" (.int x)=some (.bool false):=(if_neg (fun z=>nomatch z)).trans (congrArg (fun b=>some (PyData.bool b)) (show cv "int" "tuple"=false by decide))
def yB(x:Bool):bd "int" (.bool x)=some (.bool true):=(if_neg (fun z=>nomatch z)).trans (congrArg (fun b=>some (PyData.bool b)) (show cv "bool" "int"=true by decide))
def yA(x:Bool):bd "bool" (.bool x)=some (.bool true):=(if_neg (fun z=>nomatch z)).trans (congrArg (fun b=>some (PyData.bool b)) (show cv "bool" "bool"=true by decide))
def yz(x:Bool):bd "tuple" (.bool x)=some (.bool false):=(if_neg (fun z=>nomatch z)).trans (congrArg (fun b=>some (PyData.bool b)) (show cv "bool" "tuple"=false by decide))
def yy(x:Str):bd "int" (.str x)=some (.bool false):=(if_neg (fun z=>nomatch z)).trans (congrArg (fun b=>some (PyData.bool b)) (show cv "str" "int"=false by decide))
def yx(x:Str):bd "tuple" (.str x)=some (.bool false):=(if_neg (fun z=>nomatch z)).trans (congrArg (fun b=>some (PyData.bool b)) (show cv "str" "tuple"=false by decide))
def yw(x:List D):bd "int" (.list x)=some (.bool false):=(if_neg (fun z=>nomatch z)).trans (congrArg (fun b=>some (PyData.bool b)) (show cv "list" "int"=false by decide))
def yv(x:List D):bd "list" (.list x)=some (.bool true):=(if_neg (fun z=>nomatch z)).trans (congrArg (fun b=>some (PyData.bool b)) (show cv "list" "list"=true by decide))
def yu(x:List D):bd "tuple" (.list x)=some (.bool false):=(if_neg (fun z=>nomatch z)).trans (congrArg (fun b=>some (PyData.bool b)) (show cv "list" "tuple"=false by decide))
def yt(x:List D):bd "int" (.tuple x)=some (.bool false):=(if_neg (fun z=>nomatch z)).trans (congrArg (fun b=>some (PyData.bool b)) (show cv "tuple" "int"=false by decide))
def yr(x:List D):bd "tuple" (.tuple x)=some (.bool true):=(if_neg (fun z=>nomatch z)).trans (congrArg (fun b=>some (PyData.bool b)) (show cv "tuple" "tuple"=true by decide))
def yq(x0 x1:D):((([x0,x1]:List D).length:Nat):Int)=2:=rfl
def yo(α β:Type)(f:α->β)(l:List α):(l.map f).length=l.length:=zad f
def yn:bc [.list ts]=some (.int ts.length):=rfl
def ym:bc [.tuple ts]=some (.int ts.length):=rfl
def yk(a:Int):qg (.int a)=some (.int (-a)):=rfl
def yj:l9 [.list ts]=some (.list ts):=rfl
def yi:wo [.list ts]=some (.tuple ts):=rfl
def yh(n:Int):ixA (.list ts) (.int n)=atI ts n:=rfl
def yg(n:Int):ixA (.tuple ts) (.int n)=atI ts n:=rfl
def yf(ts us:List D):W (fB (.list ts) (.list us)) Qd=(ts.length+us.length<=sizeLine/\Qd (.list (ts++us))):=iG _ _ _
def ye(ts us:List D):W (ub (.tuple ts) (.tuple us)) Qd=(ts.length+us.length<=sizeLine/\Qd (.tuple (ts++us))):=iG _ _ _
def yd(lo hi:Option Int):io (.list ts) lo hi=some (.list (bJ ts lo hi)):=rfl
def yc:atI ts 0=ts[0]?:=fO ts _
def yb:atI ts 1=ts[1]?:=fO ts _
def ya:atI ts 2=ts[2]?:=fO ts _
def xZ(t:D):(t::ts)[0]?=some t:=rfl
def xY(t:D):(t::ts)[i+1]?=ts[i]?:=List.getElem?_cons_succ
def xX(n:Int):W (tz (.tuple ts) (.int n)) Qd=((1<=n/\n<=1000/\ts.length<=1000)/\Qd (.tuple (List.replicate n.toNat ts).flatten)):=AY _ _ _
def xW(lo hi:Option Int):t7 (.tuple ts) lo hi=some (.tuple (bJ ts lo hi)):=by first|rfl|exact az _ _|exact bp _
def xV:lZ (.tuple ts) (.int (-1))=some (.tuple ts.reverse):=rfl
def xU(a b:Bool):eqD (.bool a) (.bool b)=some (.bool (a==b)):=Cc a b
def xT(m:List D):([]++m:List D)=m:=rfl
def xS(x:D)(l m:List D):((x::l)++m:List D)=x::(l++m):=rfl
def xR:(!true)=false:=rfl
def xQ:(!false)=true:=rfl
def xP(p:Prop):(True/\p)=p:=true_and p
def xO(p:Prop):(p/\True)=p:=and_true p
def xN(_:Decidable True):decide True=true:=zaB trivial
def xM(_:Decidable False):decide False=false:=zaA (fun z=>z)
end
def zzI{a b:Prop}(x:a)(y:b):a/\b:=⟨x,y⟩
def Cu:=zzI @ws0 (zzI @ws1 (zzI @ws2 (zzI @ws3 (zzI @ws4 (zzI @ws5 (zzI @ws6 (zzI @ws7 (zzI @ws8 (zzI @ws9 (zzI @D5 (zzI @D4 (zzI @D3 (zzI @D2 (zzI @D1 (zzI @D0 (zzI @DZ (zzI @DY (zzI @DX (zzI @DW (zzI @DU (zzI @DT (zzI @DS (zzI @DR (zzI @DQ (zzI @DP (zzI @DN (zzI @DM (zzI @DL (zzI @DK (zzI @DJ (zzI @DI (zzI @DH (zzI @DG (zzI @DF (zzI @DE (zzI @DD (zzI @DC (zzI @DB @DA))))))))))))))))))))))))))))))))))))))
def Ct:=zzI @Dz (zzI @Dy (zzI @Dx (zzI @Dw (zzI @Dv (zzI @Du (zzI @Dt (zzI @Ds (zzI @Dr (zzI @Dq (zzI @Dp (zzI @Do (zzI @Dm (zzI @Dl (zzI @Dk (zzI @Dj (zzI @Di (zzI @Dh (zzI @Dg (zzI @De (zzI @Dd (zzI @Dc (zzI @Db (zzI @Da (zzI @C9 (zzI @C8 (zzI @C7 (zzI @C6 (zzI @C5 (zzI @C4 (zzI @C3 (zzI @C2 (zzI @C1 (zzI @C0 (zzI @CZ (zzI @CY (zzI @CW (zzI @CV (zzI @CU @CT))))))))))))))))))))))))))))))))))))))
def Cs:=zzI @CQ (zzI @CP (zzI @CO (zzI @CN (zzI @CM (zzI @CL (zzI @CK (zzI @CJ (zzI @CI (zzI @CH (zzI @CG (zzI @CF (zzI @CD (zzI @CC (zzI @CB (zzI @CA (zzI @Cz (zzI @Cy (zzI @Cw (zzI @Cv (zzI @Ao (zzI @An (zzI @Am (zzI @Al (zzI @Ak (zzI @Aj (zzI @Ai (zzI @Ah (zzI @Ag (zzI @Af (zzI @Ae (zzI @Ad (zzI @Ac (zzI @Ab (zzI @Aa (zzI @z9 (zzI @zZ (zzI @zY (zzI @zX @zW))))))))))))))))))))))))))))))))))))))
def Cr:=zzI @zV (zzI @zU (zzI @zT (zzI @zS (zzI @zR (zzI @zQ (zzI @zP (zzI @zO (zzI @zN (zzI @zM (zzI @zL (zzI @zK (zzI @zJ (zzI @zI (zzI @zH (zzI @zG (zzI @zF (zzI @zE (zzI @zC (zzI @zB (zzI @zA (zzI @zz (zzI @zy (zzI @zx (zzI @zw (zzI @zv (zzI @zu (zzI @zt (zzI @zr (zzI @zq (zzI @zp (zzI @zo (zzI @zm (zzI @zh (zzI @zg (zzI @zd (zzI @zc (zzI @zb (zzI @y9 @y8))))))))))))))))))))))))))))))))))))))
def Cq:=zzI @y6 (zzI @y4 (zzI @y3 (zzI @yZ (zzI @yY (zzI @yX (zzI @yW (zzI @yV (zzI @yU (zzI @yT (zzI @yS (zzI @yR (zzI @yQ (zzI @yP (zzI @yO (zzI @yN (zzI @yM (zzI @yL (zzI @yK (zzI @yJ (zzI @yI (zzI @yH (zzI @yG (zzI @yF (zzI @yE (zzI @yD (zzI @yC (zzI @yB (zzI @yA (zzI @yz (zzI @yy (zzI @yx (zzI @yw (zzI @yv (zzI @yu (zzI @yt (zzI @yr (zzI @yq (zzI @yo @yn))))))))))))))))))))))))))))))))))))))
def Cp:=zzI @ym (zzI @yk (zzI @yj (zzI @yi (zzI @yh (zzI @yg (zzI @yf (zzI @ye (zzI @yd (zzI @yc (zzI @yb (zzI @ya (zzI @xZ (zzI @xY (zzI @xX (zzI @xW (zzI @xV (zzI @xU (zzI @xT (zzI @xS (zzI @xR (zzI @xQ (zzI @xP (zzI @xO (zzI @xN @xM))))))))))))))))))))))))
def ws:=zzI @Cu (zzI @Ct (zzI @Cs (zzI @Cr (zzI @Cq @Cp))))
end L2
namespace L2
namespace Pen3
open PySem L2
def sl1000:1000<=sizeLine:=by rw[sizeLine_eq];decide
end Pen3
end L2
namespace L2
variable{g:MG}{ts:List D}{en:En}{c:MT}{f:ME}{Q:List D×En->Prop}{o:Option D}{i:Int}{n:Nat}
open PySem PySem.Spec PyProof.Rows
def eP{b:MS}{Q:Fl->Prop}(I:Nat->En->Prop)(h0:I 0 en)
  (hs:∀i t en,ts[i]?=some t->I i en->W (g t en) (kFg b (I (i+1)) Q)) (hq:∀en,I ts.length en->Q (.nx en)):W (cS g b ts en) Q:=by
 suffices ∀(us:List D) (i:Nat) (en:En),ts.drop i=us->i<=ts.length->I i en->W (cS g b us en) Q from this ts 0 en rfl (zbg _) h0
 intro us
 induction us with
 |nil=>
  intro i en hu hi h
  have:ts.length-i=0:=by rw[<-zaF,hu];rfl
  simp only[ws];exact hq en (by rw[show ts.length=i by omega];exact h)
 |cons t us ih=>
  intro i en hu hi h;have ht:ts[i]?=some t:=by
   have:(ts.drop i)[0]?=some t:=by rw[hu];rfl
   rw[List.getElem?_drop]at this;exact this
  have hl:i<ts.length:=(zah.mp ht).1;have hd:ts.drop (i+1)=us:=by rw[<-List.drop_drop,hu];rfl
  simp only[ws];refine(hs i t en ht h).use fun en1 h1=>?_;simp only[ws]at h1 ⊢;refine h1.use fun fl h2=>?_;cases fl with
  |nx e=>simp only[ws]at h2 ⊢;exact ih (i+1) e hd hl h2
  |ct e=>simp only[ws]at h2 ⊢;exact ih (i+1) e hd hl h2
  |rt t e=>simp only[ws]at h2 ⊢;exact h2
def uf(I:Nat->List D->En->Prop)(hz:ts.length<=sizeLine)(h0:I 0 [] en)
  (hs:∀i t us en,ts[i]?=some t->us.length<=i->I i us en->W (g t en) (Fd c f us (I (i+1)))) (hq:∀us en,us.length<=ts.length->I ts.length us en->Q (us,en)):W (lcF g c f ts [] en) Q:=by
 suffices ∀(vs:List D) (i:Nat) (us:List D) (en:En),ts.drop i=vs->i<=ts.length->us.length<=i->I i us en->W (lcF g c f vs us en) Q from this ts 0 [] en rfl (zbg _) (zbg _) h0
 intro vs
 induction vs with
 |nil=>
  intro i us en hu hi hl h
  have:ts.length-i=0:=by rw[<-zaF,hu];rfl
  simp only[ws];exact hq us en (by omega) (by rw[show ts.length=i by omega];exact h)
 |cons t vs ih=>
  intro i us en hu hi hl h;have ht:ts[i]?=some t:=by
   have:(ts.drop i)[0]?=some t:=by rw[hu];rfl
   rw[List.getElem?_drop]at this;exact this
  have hlt:i<ts.length:=(zah.mp ht).1;have hd:ts.drop (i+1)=vs:=by rw[<-List.drop_drop,hu];rfl
  unfold lcF;rw[am];refine(hs i t us en ht hl h).use fun en1 h1=>?_;simp only[ws]at h1;rw[am];refine h1.use fun r h2=>?_;obtain⟨x,en2⟩:=r;cases x with
  |true=>
   simp only[ws]at h2;show W ((f en2).bind _) Q;rw[am];refine h2.use fun q h3=>?_;obtain⟨u,en3⟩:=q;simp only[ws]at h3;show W (if us.length<sizeLine then _ else _) Q;rw[if_pos (by omega)];exact ih (i+1) _ _ hd hlt (by rw[zae];show _+1<=_;omega) h3
  |false=>
   simp only[ws]at h2;exact ih (i+1) _ _ hd hlt (by omega) h2
def gS{rest:En}(F:D->D)(hz:ts.length<=sizeLine)(hf:∀t∈ts,W (f (some t::rest)) (fun r=>r=(F t,some t::rest)))(hq:∀o',Q (ts.map F,o'::rest)):W (lcF (gN 0) cY f ts [] (o::rest)) Q:=by
 obtain⟨o',e⟩:=Br (f:=f) (F:=F) (rest:=rest) ts [] o (fun t ht=>by
  obtain⟨r,e,h⟩:=(hf t ht).ex;rw[e,h]) (by simpa using hz)
 exact W.of e (hq o')
def vV{rest:En}(p:D->Bool)(F:D->D)(hz:ts.length<=sizeLine)(hc:∀t∈ts,W (c (some t::rest)) (fun r=>r=(p t,some t::rest)))(hf:∀t∈ts,p t=true->W (f (some t::rest)) (fun r=>r=(F t,some t::rest)))(hq:∀o',Q ((ts.filter p).map F,o'::rest)):W (lcF (gN 0) c f ts [] (o::rest)) Q:=by
 obtain⟨o',e⟩:=gt (c:=c) (f:=f) (p:=p) (F:=F) (rest:=rest) ts [] o (fun t ht=>by
  obtain⟨r,e,h⟩:=(hc t ht).ex;rw[e,h]) (fun t ht hp=>by
  obtain⟨r,e,h⟩:=(hf t ht hp).ex;rw[e,h]) (by simpa using hz)
 exact W.of e (hq o')
def dY{k:Nat}{t:D}(h:(fV i n)[k]?=some t):k<n/\t=.int (i+(k:Nat)):=by
 unfold fV at h;rw[zao]at h;obtain⟨j,hj,rfl⟩:=zab.mp h;obtain⟨hl,e⟩:=zah.mp hj;rw[List.getElem_range]at e;rw[zbb]at hl;exact⟨hl,by rw[e]⟩
def dX(i:Int)(n:Nat):(fV i n).length=n:=by unfold fV;rw[zad,zbb]
def sz(h:n<=1000):n<=sizeLine:=zau h Pen3.sl1000
def t8{α:Type}{ts:List α}{x:α}(h0:0<=i)(h:ts[i.toNat]?=some x):atI ts i=some x:=by
 obtain⟨n,rfl⟩:=Int.eq_ofNat_of_zero_le h0;rw[fO];exact h
end L2
set_option maxHeartbeats 1000000
namespace L2
variable{i:Nat}{mp:MP}{en:En}{Q:List Nat×En->Prop}
open PySem PySem.Spec PyProof.Rows
def ud{f:ME}(h:W (mp en) (fun r=>W (f r.2) (fun q=>∃n t ts k,q.1=.int n/\(q.2[i]?).join=some t/\(bf t r.1=some (.list ts)\/bf t r.1=some (.tuple ts))/\ixN ts.length n=some k/\k<ts.length/\Q (r.1++[k],q.2)))):W (pIx i mp f en) Q:=by
 unfold pIx;rw[am];refine W.use h fun r h2=>?_;rw[am];refine W.use h2 ?_;rintro q ⟨n,t,ts,k,h3,h4,h5,h6,h7,h8⟩;rw[h3,h4];show W ((bf t r.1).bind _) Q;rcases h5 with h5|h5<;>rw[h5]<;>show W ((ixN ts.length n).bind _) Q<;>rw[h6]<;>show W (if k<ts.length then _ else none) Q<;>rw[if_pos h7]<;>exact⟨_,rfl,h8⟩
def vU{t:D}(h:(en[i]?).join=some t)(hq:Q ([],en)):W (je i en) Q:=by
 unfold je;rw[h];exact⟨_,rfl,hq⟩
def Gp{fk fe:ME}{Q:Fl->Prop}(h:W (fe en) (fun r=>W (mp r.2) (fun w=>W (fk w.2) (fun q=>∃n t ts k,q.1=.int n/\(q.2[i]?).join=some t/\bf t w.1=some (.list ts)/\ixN ts.length n=some k/\Q (.nx (q.2.set i (some (bF t w.1 (.list (ts.set k r.1)))))))))):W (ii i mp fk fe en) Q:=by
 unfold ii;rw[am];refine W.use h fun r h1=>?_;rw[am];refine W.use h1 fun w h2=>?_;rw[am];refine W.use h2 ?_;rintro q ⟨n,t,ts,k,e1,e2,e3,e4,hq⟩;rw[e1,e2];show W ((bf t w.1).bind _) Q;rw[e3];show W ((ixN ts.length n).map _) Q;rw[e4];exact⟨_,rfl,hq⟩
end L2
set_option maxHeartbeats 4000000
namespace Mch
variable{n:Nat}
open PySem L2 Pen2
def gB:MS:=(aj (ay 4 (ai e6 (aC 0 (aa (e2 be (ac 2) (eC (.int 1))) af))))
 (aj (sIf (bOr (tV (e2 eqD (ac 4) (ac 2))) (eJ (tV (e2 eqD (ac 3) (eC (.int 1)))) (tV (e2 leI (ac 4) (ac 1))))) (av (eC .none)) aO)
 (av (ac 4))))
def bE:List D->Option (D×En):=fnF 1 [1,0,0,0] gB
def dQ:MS:=(aj (ay 3 (e2 be (eC (.int 1)) (ai e6 (aC 0 (aa (ac 2) af)))))
 (aj (ay 4 (ai e6 (aC 0 (aa (eC (.int 4)) af))))
 (aj (ay 5 (e2 be (eC (.int 1)) (ai e6 (aC 0 (aa (ac 3) af)))))
 (aj (ay 6 (a6 af))
 (aj (ay 7 (a6 af))
 (aj (cu (bU (aa (ac 3) af)) (gN 8) (aj (fU (fX 6 (e2 eqD (ai e6 (aC 0 (aa (eC (.int 3)) af))) (eC (.int 0)))))
 (aj (ay 9 (eLC false (bU (aa (ac 1) af)) (gN 0) cY (ai bE (aC 1 (aa (ac 4) (aa (ac 2) (aa (ac 3) af))))) [none,some 0,some 3,some 4,some 8]))
 (aj (sIf (eJ (tV (e2 eqD (ac 4) (eC (.int 2)))) (tV (e2 ltI (ac 8) (ac 5)))) (aj (dJ 6 (ac 8) (eC (.bool false)))
 (ay 9 (eLC true (cg (ac 9)) (gN 0) cY (e2 ixA (a6 (aa (ac 0) (aa (eC .none) af))) (eN HX (aa (eOr (e2 isN (ac 0) (eC .none)) (e2 geI (ac 0) (ac 1))) af))) [none,some 5]))) aO)
 (fU (fX 7 (ac 9)))))))
 (av (aX (aa (ac 6) (aa (ac 7) af))))))))))
def bQ:List D->Option (D×En):=fnF 7 [1,0,0] dQ
def goD:Option Nat->D
 |none=>.none
 |some j=>.int j
def br(r:List (Option Nat)):D:=.list (r.map goD)
def Bt{j:Int}(h0:0<=j)(h1:j<n):ixN n j=some j.toNat:=by
 unfold ixN;rw[if_pos h0,if_pos h1]
def nv{i:Nat}(h:i<n):ixN n (i:Int)=some i:=by
 have e:=Bt (n:=n) (j:=(i:Int)) (Int.natCast_nonneg i) (Int.ofNat_lt.mpr h);rw[zaL]at e;exact e
def ww(v:List Int):D->Option Int
 |.int j=>some (v.getD j.toNat 0)
 |_=>none
def rsD(v:List Int):D->Int
 |.list xs=>(xs.filterMap (ww v)).sum
 |_=>0
def nxt(gs:List (List (Option Nat)))(v:List Int):List Int:=gs.map fun r=>rsD v (br r)
def base(es:List Bool):List Int:=es.map fun b=>if b then 1 else 0
def it(gs:List (List (Option Nat)))(v:List Int):Nat->List Int
 |0=>v
 |n+1=>nxt gs (it gs v n)
end Mch
set_option maxHeartbeats 1000000
namespace W36
variable{i n w s a m N S:Nat}{es:List Bool}{x:Option Nat}{fk fe f:ME}{en:En}{t:D}{ts:List D}{o x2 x5 x8 x1 x3 x4 x6 x7:Option D}{Q:D×En->Prop}{ns:List Int}{z:Int}{P:D->Prop}{l1 h1 l2 h2:Option Int}
open PySem L2 Mch
def gm{α β:Type}{f:α->β}{l:List α}{t:β}(h:(l.map f)[i]?=some t):∃a,l[i]?=some a/\f a=t:=by
 rw[zao]at h;exact zab.mp h
def tk{α:Type}{l:List α}{s:α}(h:l[i]?=some s):l.take (i+1)=l.take i++[s]:=by
 rw[List.take_succ,h];rfl
def _root_.L2.W.ue{α:Type}{x:Option α}{a:α}{Q:α->Prop}(h:W x fun r=>r=a)(k:Q a):W x Q:=h.use fun _ e=>by
 rw[e];exact k
abbrev Gr:=List (List (Option Nat))
variable{G H:Gr}
def mD(es:List Bool)(G:Gr):D:=.tuple [.list (es.map .bool),.list (G.map br)]
def szB(h:n<=100000):n<=sizeLine:=zau h (by decide)
def m5(h:n<100000):n<sizeLine:=zag h (by decide)
def led(G:Gr)(s i:Nat):Option Nat:=((G[s]?).bind (·[i]?)).join
structure Mx(w:Nat)(es:List Bool)(G:Gr):Prop where
 n1:1<=G.length
 n:G.length<=100
 w12:w<=12
 le:es.length=G.length
 w:∀r∈G,r.length=w
 lt:∀r∈G,∀k,some k∈r->k<G.length
def qC(es:List Bool)(s:Nat):Bool:=es.getD s false
def bj(es:List Bool):Option Nat->Bool
 |none=>false
 |some s=>qC es s
def eE(G:Gr):Option Nat->Nat->Option Nat
 |none,_=>none
 |some s,a=>led G s a
abbrev Pr:=Option Nat×Option Nat
variable{p q:Pr}{ps:List Pr}
def InM(n m:Nat)(p:Pr):Prop:=(∀k,p.1=some k->k<n)/\∀k,p.2=some k->k<m
def vR(M:Mx w es G)(hs:s<G.length)(ha:a<w):∃r,G[s]?=some r/\atI (G.map br) (s:Int)=some (.list (r.map goD))/\atI (r.map goD) (a:Int)=some (goD (led G s a)):=by
 obtain⟨r,hr⟩:∃r,G[s]?=some r:=⟨_,zak hs⟩;have rl:=M.w r (zaX hr);obtain⟨x,hx⟩:∃x,r[a]?=some x:=⟨_,zak (by omega)⟩;refine⟨r,hr,by rw[fO,zao,hr];rfl,?_⟩;rw[fO,zao,hx,led,hr];show some (goD x)=some (goD ((r[a]?).join));rw[hx];rfl
def mH(M:Mx w es G)(hs:s<G.length):atI (es.map PyData.bool) (s:Int)=some (.bool (qC es s)):=by
 have:=M.le;rw[fO,zao,zak (by omega),qC,zbe,zak (by omega)];rfl
def u6(M:Mx w es G)(hx:∀k,x=some k->k<G.length)(ha:a<w):W (lT [mD es G,goD x,.int (a:Int)]) (fun r=>r=(goD (eE G x a),[none,none,none])):=by
 cases x with
 |none=>simp only[lT,xL,ws,mD,goD,eE]
 |some s=>
  obtain⟨r,_,e1,e2⟩:=vR M (hx s rfl) ha;simp only[lT,xL,ws,mD,goD,e1,e2,eE]
def rV(M:Mx w es G)(hx:∀k,x=some k->k<G.length)(ha:a<w):W (de [mD es G,goD x,.int (a:Int)]) (fun r=>r=(goD (eE G x a),[none,none,none])):=by
 cases x with
 |none=>simp only[de,kC,ws,mD,goD,eE]
 |some s=>
  obtain⟨r,_,e1,e2⟩:=vR M (hx s rfl) ha;simp only[de,kC,ws,mD,goD,e1,e2,eE]
def jj(M:Mx w es G)(hx:∀k,x=some k->k<G.length):W (dy [mD es G,goD x]) (fun r=>r=(.bool (bj es x),[none,none])):=by
 cases x with
 |none=>simp only[dy,nT,ws,mD,goD,bj]
 |some s=>
  have e:=mH M (hx s rfl);simp only[dy,nT,ws,mD,goD,e,bj]
def n8(M:Mx w es G)(hx:∀k,x=some k->k<G.length):W (bM [mD es G,goD x]) (fun r=>r=(.bool (bj es x),[none,none])):=by
 cases x with
 |none=>simp only[bM,ic,ws,mD,goD,bj]
 |some s=>
  have e:=mH M (hx s rfl);simp only[bM,ic,ws,mD,goD,e,bj]
def Au(M:Mx w es G):∃r:List (Option Nat),(G.map br)[0]?=some (.list (r.map goD))/\r.length=w:=by
 obtain⟨r,hr⟩:∃r,G[0]?=some r:=⟨_,zak M.n1⟩;exact⟨r,by rw[zao,hr];rfl,M.w r (zaX hr)⟩
def Bp(M:Mx w es G):W (bW [mD es G]) (fun r=>r=(.int (w:Int),[none])):=by
 obtain⟨r,e,rl⟩:=Au M;simp only[bW,iB,ws,mD,e,rl]
def prD(p:Pr):D:=.tuple [goD p.1,goD p.2]
def nxP(G H:Gr)(p:Pr)(a:Nat):Pr:=(eE G p.1 a,eE H p.2 a)
def nxD(G H:Gr)(p:Pr):D->D
 |.int z=>prD (nxP G H p z.toNat)
 |_=>.none
def qQ{e1 e2:List Bool}(M:Mx w e1 G)(N:Mx w e2 H)(hp:InM G.length H.length p):W (ci [mD e1 G,mD e2 H,prD p]) (fun r=>r=(.list ((List.range w).map fun a=>prD (nxP G H p a)),[none,none,none])):=by
 have w12:=M.w12;simp only[ci,kB,ws];refine W.ue (Bp M) ?_;simp only[ws,zaL];refine⟨⟨by omega,by omega⟩,?_⟩;refine gS (nxD G H p) (by rw[dX];exact szB (by omega)) (fun t ht=>?_) fun o=>?_
 ·obtain⟨i,h2⟩:=List.getElem?_of_mem ht;obtain⟨hi,rfl⟩:=dY h2;rw[zbG];simp only[ws,i3,prD];refine W.ue (u6 M hp.1 hi) ?_;simp only[ws];refine W.ue (u6 N hp.2 hi) ?_;simp only[ws,nxD,zaL];rfl
 ·have e:List.map (nxD G H p) (fV 0 w)=(List.range w).map fun a=>prD (nxP G H p a):=by
   unfold fV;rw[zaR];exact zbs fun a _=>by show prD (nxP G H p (0+(a:Int)).toNat)=_;rw[zbG];rfl
  rw[e];simp only[ws]
def okO(x:Option Nat):Option Key:=x.map fun k=>.inl (k:Int)
def dB(p:Pr):List (Option Key):=[okO p.1,okO p.2]
def AE(x:Option Nat):oD (okO x)=goD x:=by cases x<;>rfl
def kJ(p:Pr):prD p=.tuple ((dB p).map oD):=by
 show PyData.tuple [goD p.1,goD p.2]=.tuple [oD (okO p.1),oD (okO p.2)];rw[AE,AE]
def rR{y:Option Nat}(h:okO x=okO y):x=y:=by
 cases x<;>cases y
 ·rfl
 ·cases h
 ·cases h
 ·have:(Sum.inl _:Key)=Sum.inl _:=zat h
  have:=Int.ofNat.inj (Sum.inl.inj this);rw[this]
def wN(h:dB p=dB q):p=q:=by
 obtain⟨a,b⟩:=p;obtain⟨c,d⟩:=q;injection h with h1 h2
 injection h2 with h2 _
 exact Prod.ext (rR h1) (rR h2)
def mkT(ps:List Pr):TKs:=ps.map fun p=>(dB p,.bool true)
def ES(ps:List Pr):((mkT ps).all fun q=>scaD q.2)=true:=by
 unfold mkT;rw[List.all_map,List.all_eq_true];intro p _;rfl
def qh(ps:List Pr)(p:Pr):((mkT ps).any fun q=>decide (q.1=dB p))=decide (p∈ps):=by
 unfold mkT;rw[List.any_map,Bool.eq_iff_iff,List.any_eq_true,zbf];constructor
 ·rintro⟨q,hq,h⟩;rw[<-wN (of_decide_eq_true h)];exact hq
 ·exact fun h=>⟨p,h,zaB rfl⟩
def dF(ps:List Pr)(p:Pr):List Pr:=if p∈ps then ps else ps++[p]
def ET(ps:List Pr)(p:Pr):gJ (mkT ps) (dB p) (.bool true)=mkT (dF ps p):=by
 unfold gJ dF;rw[qh];by_cases h:p∈ps
 ·rw[if_pos (zaB h),if_pos h];unfold mkT;rw[zaR];apply zbs;intro q _;show(if dB q=dB p then(dB q,PyData.bool true)else(dB q,PyData.bool true))=_;split<;>rfl
 ·rw[if_neg (by rw[zbf];exact h),if_neg h];unfold mkT;rw[zaC];rfl
def dd(ps:List Pr):List Pr:=ps.foldl dF []
def se(ps:List Pr)(p:Pr):dd (ps++[p])=dF (dd ps) p:=by
 unfold dd;rw[List.foldl_append];rfl
def Cm(ps:List Pr)(p q:Pr):q∈dF ps p↔q∈ps\/q=p:=by
 unfold dF;split
 next h=>exact⟨.inl,fun z=>z.elim id fun e=>e▸h⟩
 next h=>rw[zax,zaH]
def fN(q:Pr)(ps:List Pr):q∈dd ps↔q∈ps:=by
 suffices h:∀(ps acc:List Pr),q∈ps.foldl dF acc↔q∈acc\/q∈ps by
  refine(h ps []).trans ⟨fun z=>z.elim (fun z=>nomatch z) id,.inr⟩
 intro ps
 induction ps with
 |nil=>exact fun acc=>⟨.inl,fun z=>z.elim id fun z=>nomatch z⟩
 |cons p ps ih=>
  intro acc;show q∈ps.foldl dF (dF acc p)↔_;rw[ih,Cm,zay,or_assoc]
def mC(ps:List Pr):(dd ps).length<=ps.length:=by
 suffices h:∀(ps acc:List Pr),(ps.foldl dF acc).length<=acc.length+ps.length by
  have:=h ps [];rw[List.length_nil,Nat.zero_add]at this;exact this
 intro ps
 induction ps with
 |nil=>exact fun acc=>zav _
 |cons p ps ih=>
  intro acc;have h1:=ih (dF acc p);have h2:(dF acc p).length<=acc.length+1:=by
   unfold dF;split
   ·omega
   ·rw[zae];simp
  show(ps.foldl dF (dF acc p)).length<=_;rw[zac];omega
def cQ(ps:List Pr):D:=.dict (tkL (mkT ps))
def pd(ps:List Pr):dg (tkL (mkT ps))=some (mkT ps):=pF (ES ps)
def tw(ps:List Pr)(p:Pr):kR (prD p) (cQ ps)=some (.bool (!decide (p∈ps))):=by
 rw[kJ];show(cP ((dB p).map oD)).bind (fun k=>(dg (tkL (mkT ps))).map fun kvs=>PyData.bool (!kvs.any fun q=>decide (q.1=k)))=_;rw[jR,pd];show some (PyData.bool (!(mkT ps).any fun q=>decide (q.1=dB p)))=_;rw[qh]
def Fk(ps:List Pr)(p:Pr):nH (prD p) (cQ ps)=some (.bool (decide (p∈ps))):=by
 rw[kJ];show(cP ((dB p).map oD)).bind (fun k=>(dg (tkL (mkT ps))).map fun kvs=>PyData.bool (kvs.any fun q=>decide (q.1=k)))=_;rw[jR,pd];show some (PyData.bool ((mkT ps).any fun q=>decide (q.1=dB p)))=_;rw[qh]
def GC(ps:List Pr):zks (tkL (mkT ps))=some (ps.map prD):=by
 show(dg (tkL (mkT ps))).map jM=_;rw[pd];show some (jM (mkT ps))=_;unfold jM mkT;rw[zaR];exact congrArg some (zbs fun p _=>(kJ p).symm)
def AB(h0:fe en=some (.bool true,en))(h1:fk en=some (prD p,en))(hi:(en[i]?).join=some (cQ ps))(hl:ps.length<50000):gI i fk fe en=some (.nx (en.set i (some (cQ (dF ps p))))):=by
 unfold gI;rw[h0];simp only[Option.bind_some,hi,h1];rw[kJ];show(cP ((dB p).map oD)).bind (fun k=>(dg (tkL (mkT ps))).bind fun kvs=>if kvs.length<sizeLine/\scaD (.bool true)=true then some (Fl.nx (en.set i (some (.dict (tkL (gJ kvs k (.bool true)))))))else none)=_;rw[jR,pd];show(if(mkT ps).length<sizeLine/\scaD (.bool true)=true then some (Fl.nx (en.set i (some (.dict (tkL (gJ (mkT ps) (dB p) (.bool true)))))))else none)=_;rw[if_pos ⟨by unfold mkT;rw[zad];exact m5 (by omega),rfl⟩,ET];rfl
def nZ(hl:ps.length<=1000):W (gF [.list (ps.map prD)]) (fun r=>r=(cQ (dd ps),[none])):=by
 simp only[gF,so,ws,mB];refine eP (fun i en=>∃o,en=[some (.list (ps.map prD)),some (cQ (dd (ps.take i))),o]) ⟨none,rfl⟩ ?_ ?_
 ·rintro i t en ht ⟨o,rfl⟩;obtain⟨p,hp,rfl⟩:=gm ht;have l1:=mC (ps.take i);rw[zaE]at l1;simp only[ws,oF];refine W.of (AB (ps:=dd (ps.take i)) (p:=p) rfl rfl rfl (by omega)) ?_;rw[tk hp,se];exact⟨_,rfl⟩
 ·rintro en ⟨o,rfl⟩;rw[zad,zaQ];simp only[ws]
theorem oq{α:Type}(f:α->Bool):∀l:List α,gE (l.map fun a=>.bool (f a))=some (l.map f)
 |[]=>rfl
 |a::l=>by
  show(gE (l.map fun a=>.bool (f a))).map (f a::·)=_;rw[oq f l];rfl
def all_map{α:Type}(f:α->Bool)(l:List α):ka [.list (l.map fun a=>.bool (f a))]=some (.bool (l.all f)):=by
 show(gE _).map _=_;rw[oq];show some (PyData.bool _)=_;rw[List.all_map];rfl
def kK{ks:List (D×D)}(h:isX (.dict ks)=false){T:String}(hT:cv "dict" T=false):bd T (.dict ks)=some (.bool false):=by
 unfold bd;rw[if_neg (by rw[h];exact zbk)];exact congrArg (fun b=>some (PyData.bool b)) hT
def bG(n:Nat):D->Bool
 |.none=>true
 |.int z=>decide (0<=z)&&decide (z<n)
 |_=>false
def bZ(n m:Nat):D->Bool
 |.tuple [a,b]=>bG n a&&bG m b
 |_=>false
structure Ok(t:D):Prop where
 x:isX t=false
 c:∀ts,t=.tuple ts->∀a∈ts,isX a=false
def pI(M:Mx w es G)(h:isX t=false):W (aT [mD es G,t]) (fun r=>r=(.bool (bG G.length t),[none,none])):=by
 have le:=M.le;have n1:=M.n1;have n:=M.n;cases t with
 |none=>simp only[aT,bB,ws,mD,bG]
 |int z=>
  simp only[aT,bB,bm,cC,ei,iA,ws,mD,bG,le];have e:decide (z<=(G.length:Int)-1)=decide (z<(G.length:Int)):=by rw[decide_eq_decide];omega
  by_cases hz:0<=z
  ·simp only[ws,hz,e,zaG]
  ·simp only[ws,hz,Bool.false_and]
 |dict ks=>
  have h1:=kK h (T:="int") rfl;simp only[aT,bB,bm,cC,ei,iA,ws,mD,bG,h1]
 |_=>simp only[aT,bB,bm,cC,ei,iA,ws,mD,bG]
def pU(M:Mx w es G)(h:isX t=false):W (a7 [mD es G,t]) (fun r=>r=(.bool (bG G.length t),[none,none])):=by
 have le:=M.le;cases t with
 |none=>simp only[a7,cq,ws,mD,bG]
 |int z=>
  simp only[a7,cq,ws,mD,bG,le];by_cases hz:0<=z
  ·simp only[ws,hz,le,zaG]
  ·simp only[ws,hz,Bool.false_and]
 |dict ks=>
  have h1:=kK h (T:="int") rfl;simp only[a7,cq,ws,mD,bG,h1]
 |_=>simp only[a7,cq,ws,mD,bG]
section
variable{e1 e2:List Bool} 
def vb(M:Mx w e1 G)(N:Mx w e2 H)(h:Ok t):W (cZ [mD e1 G,mD e2 H,t]) (fun r=>r=(.bool (bZ G.length H.length t),[none,none,none])):=by
 cases t with
 |tuple ts=>
  by_cases hl:((ts.length:Nat):Int)=2
  ·obtain⟨a,b,rfl⟩:∃a b,ts=[a,b]:=by
    match ts,hl with
    |[a,b],_=>exact⟨a,b,rfl⟩
    |[],hl=>cases hl
    |[_],hl=>cases hl
    |_::_::_::r,hl=>simp at hl;omega
   have ha:=h.c _ rfl a (by simp);have hb:=h.c _ rfl b (by simp);simp only[cZ,ia,ws];refine W.ue (pI M ha) ?_;cases p1:bG G.length a with
   |false=>simp only[ws,bZ,p1,Bool.false_and]
   |true=>
    simp only[ws];refine W.ue (pI N hb) ?_;simp only[ws,bZ,p1,zaG]
  ·have e:bZ G.length H.length (.tuple ts)=false:=by
    match ts,hl with
    |[a,b],hl=>exact absurd rfl hl
    |[],_=>rfl
    |[_],_=>rfl
    |_::_::_::r,_=>rfl
   simp only[cZ,ia,ws,hl,e]
 |dict ks=>
  have h1:=kK h.x (T:="tuple") rfl;simp only[cZ,ia,ws,h1,bZ]
 |_=>simp only[cZ,ia,ws,bZ]
def jd(M:Mx w e1 G)(N:Mx w e2 H)(h:∀t∈ts,Ok t)(hl:ts.length<=1000):W (bX [mD e1 G,mD e2 H,.list ts]) (fun r=>r=(.bool (ts.all (bZ G.length H.length)),[none,none,none])):=by
 simp only[bX,jB,ws];refine gS (fun t=>.bool (bZ G.length H.length t)) (szB (by omega)) (fun t ht=>?_) fun o=>?_
 ·simp only[ws,kx];refine W.ue (vb M N (h t ht)) ?_;simp only[ws]
 ·simp only[ws,all_map]
def n6(M:Mx w e1 G)(N:Mx w e2 H)(h:∀t∈ts,Ok t):W (bY [mD e1 G,mD e2 H,.list ts]) (fun r=>r=(.bool (ts.all (bZ G.length H.length)),[none,none,none])):=by
 simp only[bY,iC,ws];refine eP (fun i en=>∃o,en=[some (mD e1 G),some (mD e2 H),some (.list ts),o]/\(ts.take i).all (bZ G.length H.length)=true) ⟨none,rfl,rfl⟩ ?_ ?_
 ·rintro i t en ht ⟨o,rfl,g⟩;have mt:=zaX ht;have ok:=h t mt;have bad:bZ G.length H.length t=false->ts.all (bZ G.length H.length)=false:=fun z=>List.all_eq_false.mpr ⟨t,mt,by rw[z];exact zbk⟩;have good:bZ G.length H.length t=true->(ts.take (i+1)).all (bZ G.length H.length)=true:=fun z=>by
   rw[tk ht,List.all_append,g,List.all_cons,z];rfl
  cases t with
  |tuple us=>
   by_cases hl:((us.length:Nat):Int)=2
   ·obtain⟨a,b,rfl⟩:∃a b,us=[a,b]:=by
     match us,hl with
     |[a,b],_=>exact⟨a,b,rfl⟩
     |[],hl=>cases hl
     |[_],hl=>cases hl
     |_::_::_::r,hl=>simp at hl;omega
    have ha:=ok.c _ rfl a (by simp);have hb:=ok.c _ rfl b (by simp);simp only[ws,bx];refine W.ue (pU M ha) ?_;cases p1:bG G.length a with
    |false=>
     have e:=bad (by simp only[bZ,p1,Bool.false_and]);simp only[ws,e]
    |true=>
     simp only[ws];refine W.ue (pU N hb) ?_;cases p2:bG H.length b with
     |false=>
      have e:=bad (by simp only[bZ,p1,p2,zbP]);simp only[ws,e]
     |true=>
      simp only[ws];exact⟨_,rfl,good (by simp only[bZ,p1,p2,zbh])⟩
   ·have e:=bad (by
     match us,hl with
     |[a,b],hl=>exact absurd rfl hl
     |[],_=>rfl
     |[_],_=>rfl
     |_::_::_::r,_=>rfl)
    simp only[ws,bx,hl,e]
  |dict ks=>
   have h1:=kK ok.x (T:="tuple") rfl;have e:=bad rfl;simp only[ws,bx,h1,e]
  |_=>
   have e:=bad rfl;simp only[ws,bx,e]
 ·rintro en ⟨o,rfl,g⟩;rw[zaQ]at g;simp only[ws,g]
def EB{a:D}(h:bG n a=true):∃x:Option Nat,a=goD x/\∀k,x=some k->k<n:=by
 cases a with
 |none=>exact⟨none,rfl,fun _ z=>by cases z⟩
 |int z=>
  simp only[bG,zbj,decide_eq_true_eq]at h;obtain⟨k,rfl⟩:=Int.eq_ofNat_of_zero_le h.1;exact⟨some k,rfl,fun j e=>by cases e;omega⟩
 |_=>cases h
theorem AC{n m:Nat}:∀{ts:List D},ts.all (bZ n m)=true->∃ps:List Pr,ts=ps.map prD/\∀p∈ps,InM n m p
 |[],_=>⟨[],rfl,fun _ z=>by cases z⟩
 |t::ts,h=>by
  rw[List.all_cons,zbj]at h;obtain⟨ps,rfl,hp⟩:=AC h.2;have ht:=h.1
  match t,ht with
  |.tuple [a,b],ht=>
   have ht:(bG n a&&bG m b)=true:=ht;rw[zbj]at ht;obtain⟨x,rfl,hx⟩:=EB ht.1;obtain⟨y,rfl,hy⟩:=EB ht.2;exact⟨(x,y)::ps,rfl,fun p z=>(zay.mp z).elim (fun e=>e▸⟨hx,hy⟩) (hp p)⟩
end
structure Cmp{α:Type}[DecidableEq α](f:α->D)(d:Nat):Prop where
 nd:∀a,ak (f a)=true/\aQ (f a)<=d
 eq:∀a b,peq (f a) (f b)=decide (a=b)
section
variable{α:Type}[DecidableEq α]{f:α->D}{d:Nat}
theorem eI(h:∀a,ak (f a)=true/\aQ (f a)<=d):∀l:List α,aD (l.map f)=true/\aS (l.map f)<=d
 |[]=>⟨rfl,zbg _⟩
 |a::l=>by
  obtain⟨h1,h2⟩:=eI h l;obtain⟨g1,g2⟩:=h a;rw[zar];exact⟨by simp[aD,g1,h1],by simp only[aS];omega⟩
def Cmp.eqD(h:Cmp f d)(hd:d<=60)(a b:α):L2.eqD (f a) (f b)=some (.bool (decide (a=b))):=by
 unfold L2.eqD;rw[grd,if_pos ⟨(h.nd a).1,(h.nd b).1,by have:=(h.nd a).2;omega⟩,h.eq]
def Cmp.neD(h:Cmp f d)(hd:d<=60)(a b:α):L2.neD (f a) (f b)=some (.bool (!decide (a=b))):=by
 unfold L2.neD;rw[grd,if_pos ⟨(h.nd a).1,(h.nd b).1,by have:=(h.nd a).2;omega⟩,h.eq]
theorem Cmp.any(h:Cmp f d)(a:α):∀xs:List α,((xs.map f).any fun t=>peq t (f a))=decide (a∈xs)
 |[]=>by simp
 |x::xs=>by
  rw[zar,List.any_cons,h.any a xs,h.eq];by_cases c:x=a
  ·simp[c]
  ·simp[c,Ne.symm c]
def Cmp.notIn(h:Cmp f d)(hd:d<=60)(a:α)(xs:List α):p9 (f a) (.list (xs.map f))=some (.bool (!decide (a∈xs))):=by
 show grd _ _=_;unfold grd;rw[if_pos ⟨(h.nd a).1,(eI h.nd xs).1,zau (eI h.nd xs).2 hd⟩,h.any]
end
def cmpB:Cmp PyData.bool 0:=⟨fun a=>⟨rfl,zav _⟩,fun a b=>by cases a<;>cases b<;>rfl⟩
def same(h:ak t=true)(h2:aQ t<=60):eqD t t=some (.bool true)/\neD t t=some (.bool false):=by
 unfold eqD neD grd;rw[if_pos ⟨h,h,h2⟩,if_pos ⟨h,h,h2⟩,gK t h];exact⟨rfl,rfl⟩
def AG(es:List Bool)(G:Gr):ak (mD es G)=true/\aQ (mD es G)<=60:=by
 obtain⟨a1,a2⟩:=eI cmpB.nd es;have go:∀o,ak (goD o)=true/\aQ (goD o)<=0:=fun o=>by cases o<;>exact⟨rfl,zav _⟩
 obtain⟨b1,b2⟩:=eI (f:=br) (d:=1) (fun r=>⟨by simp only[br,ak];exact(eI go r).1,by simp only[br,aQ];have:=(eI go r).2;omega⟩) G;constructor
 ·simp[mD,ak,aD,a1,b1]
 ·simp only[mD,aQ,aS];omega
def cmpG:Cmp goD 0:=⟨fun o=>by cases o<;>exact⟨rfl,zav _⟩,fun a b=>by
 cases a<;>cases b<;>simp only[goD,peq]
 ·rfl
 ·rfl
 ·rfl
 ·rw[Bool.eq_iff_iff,beq_iff_eq,zbf,Option.some.injEq];omega⟩
def cmpP:Cmp prD 1:=by
 refine⟨fun p=>⟨?_,?_⟩,fun p q=>?_⟩
 ·simp[prD,ak,aD,(cmpG.nd p.1).1,(cmpG.nd p.2).1]
 ·have h1:=(cmpG.nd p.1).2;have h2:=(cmpG.nd p.2).2;simp only[prD,aQ,aS];omega
 ·simp only[prD,peq,dA,cmpG.eq,zbO];rw[Bool.eq_iff_iff,zbj,zbf,zbf,zbf];exact⟨fun h=>Prod.ext h.1 h.2,fun h=>by rw[h];exact⟨rfl,rfl⟩⟩
def mI(f:Pr->Bool)(ps:List Pr):(dd ps).all f=ps.all f:=by
 rw[Bool.eq_iff_iff,List.all_eq_true,List.all_eq_true];exact⟨fun h p hp=>h p ((fN p ps).mpr hp),fun h p hp=>h p ((fN p ps).mp hp)⟩
def sE(qs:List Pr):D->D
 |.none=>.bool true
 |t=>(nH t (cQ qs)).getD .none
def wiF:D->D
 |.tuple [.none,_]=>.none
 |t=>t
def orN(c:Pr->Bool)(q:Pr):D:=if c q=true then .none else prD q
section
variable{e1 e2:List Bool} 
def rK(c:Pr->Bool)(qs:List Pr){l:List Pr}(hl:l.length<=12):W (ej [cQ qs,.list (l.map (orN c))]) (fun r=>r=(.bool (l.all fun q=>c q || decide (q∈qs)),[none,none])):=by
 have key:∀q,sE qs (orN c q)=.bool (c q || decide (q∈qs)):=fun q=>by
  unfold orN;cases hc:c q with
  |true=>rfl
  |false=>
   rw[if_neg zbk,Bool.false_or];have hi:=Fk qs q;unfold prD at hi ⊢;show(nH _ _).getD .none=_;rw[hi];rfl
 simp only[ej,oI,ws];refine gS (sE qs) (szB (by rw[zad];omega)) (fun t ht=>?_) fun o=>?_
 ·obtain⟨q,_,rfl⟩:=zaz.mp ht;rw[key q];have hi:=Fk qs q;unfold orN;cases hc:c q with
  |true=>
   rw[if_pos rfl];simp only[ws,iL,Bool.true_or]
  |false=>
   rw[if_neg zbk,Bool.false_or];simp only[prD]at hi ⊢;simp only[ws,iL,hi]
 ·have e:List.map (sE qs) (l.map (orN c))=l.map fun q=>.bool (c q || decide (q∈qs)):=by
   rw[zaR];exact zbs fun q _=>key q
  rw[e];simp only[ws,all_map]
def cA(q:Pr):Bool:=decide (q=(none,none))
def cW(q:Pr):Bool:=q.1.isNone
def vT(M:Mx w e1 G)(N:Mx w e2 H)(hp:InM G.length H.length p):W (bK [mD e1 G,mD e2 H,prD p]) (fun r=>r=(.list (((List.range w).map (nxP G H p)).map (orN cA)),[none,none,none])):=by
 have w12:=M.w12;simp only[bK,ib,ws];refine W.ue (qQ M N hp) ?_;simp only[ws];have ea:(List.range w).map (fun a=>prD (nxP G H p a))=((List.range w).map (nxP G H p)).map prD:=by rw[zaR];rfl
 rw[ea];refine gS (fun t=>if peq t (prD (none,none))=true then .none else t) (szB (by rw[zad,zad,zbb];omega)) (fun t ht=>?_) fun o=>?_
 ·obtain⟨q,_,rfl⟩:=zaz.mp ht;have eq:=cmpP.eqD (by decide) q (none,none);rw[cmpP.eq];have e0:prD (none,none)=.tuple [.none,.none]:=rfl;rw[e0]at eq;by_cases c:q=(none,none)
  ·rw[zaB c]at eq ⊢;simp only[ws,df,eq,if_true]
  ·simp only[ws,df,eq,c,decide_false,Bool.false_eq_true,if_false]
 ·have e:List.map (fun t=>if peq t (prD (none,none))=true then PyData.none else t) (((List.range w).map (nxP G H p)).map prD)=((List.range w).map (nxP G H p)).map (orN cA):=by
   rw[zaR];refine zbs fun q _=>?_;show(if peq (prD q) (prD (none,none))=true then PyData.none else prD q)=_;rw[cmpP.eq];rfl
  rw[e];simp only[ws]
def vS(M:Mx w e1 G)(N:Mx w e2 H)(hp:InM G.length H.length p):W (bA [mD e1 G,mD e2 H,prD p]) (fun r=>r=(.list (((List.range w).map (nxP G H p)).map (orN cW)),[none,none,none])):=by
 have w12:=M.w12;simp only[bA,gn,ws];refine W.ue (qQ M N hp) ?_;simp only[ws];have ea:(List.range w).map (fun a=>prD (nxP G H p a))=((List.range w).map (nxP G H p)).map prD:=by rw[zaR];rfl
 rw[ea];refine gS wiF (szB (by rw[zad,zad,zbb];omega)) (fun t ht=>?_) fun o=>?_
 ·obtain⟨⟨x,y⟩,_,rfl⟩:=zaz.mp ht;cases x with
  |none=>simp only[ws,cO,prD,goD,wiF]
  |some k=>simp only[ws,cO,prD,goD,wiF]
 ·have e:List.map wiF (((List.range w).map (nxP G H p)).map prD)=((List.range w).map (nxP G H p)).map (orN cW):=by
   rw[zaR];refine zbs fun q _=>?_;obtain⟨x,y⟩:=q;cases x<;>rfl
  rw[e];simp only[ws]
def p00:Pr:=(some 0,some 0)
def okA(e1 e2:List Bool)(p:Pr):Bool:=bj e1 p.1==bj e2 p.2
def okW(e1 e2:List Bool)(p:Pr):Bool:=p.1.isSome&&(bj e2 p.2 || !bj e1 p.1)
def cls(G H:Gr)(w:Nat)(c:Pr->Bool)(ps:List Pr)(p:Pr):Bool:=((List.range w).map (nxP G H p)).all fun q=>c q || decide (q∈ps)
def hol(G H:Gr)(w:Nat)(c ok:Pr->Bool)(ps:List Pr):Bool:=decide (p00∈ps)&&(ps.all ok&&ps.all (cls G H w c ps))
def xF(M:Mx w e1 G)(N:Mx w e2 H)(hp:InM G.length H.length p):W (fR [mD e1 G,mD e2 H,prD p]) (fun r=>r=(.bool (okA e1 e2 p),[none,none,none])):=by
 simp only[fR,oH,ws,prD];refine W.ue (jj M hp.1) ?_;simp only[ws];refine W.ue (jj N hp.2) ?_;simp only[ws];rfl
def uA(M:Mx w e1 G)(N:Mx w e2 H)(hp:InM G.length H.length p):W (eZ [mD e1 G,mD e2 H,prD p]) (fun r=>r=(.bool (bj e2 p.2 || !bj e1 p.1),[none,none,none])):=by
 simp only[eZ,mY,ws,prD];refine W.ue (jj N hp.2) ?_;cases h:bj e2 p.2 with
 |true=>simp only[ws,Bool.true_or]
 |false=>
  simp only[ws,Bool.false_or];refine W.ue (jj M hp.1) ?_;simp only[ws]
def vP(c:Pr->Bool)(ps:List Pr)(p:Pr):cls G H w c (dd ps) p=cls G H w c ps p:=by
 unfold cls;congr 1
 funext q
 have:decide (q∈dd ps)=decide (q∈ps):=by rw[decide_eq_decide];exact fN q ps
 rw[this]
def pp{en':En}(h:f en=some (cQ ps,en')):iDz f en=some (ps.map prD,en'):=by
 unfold iDz;rw[h];show(zks (tkL (mkT ps))).map (fun ts=>(ts,en'))=_;rw[GC];rfl
def unG:D->Option Nat
 |.int z=>some z.toNat
 |_=>none
def unP:D->Pr
 |.tuple [a,b]=>(unG a,unG b)
 |_=>(none,none)
def sy(p:Pr):unP (prD p)=p:=by
 obtain⟨x,y⟩:=p;cases x<;>cases y<;>rfl
def mJ(g:Pr->Bool){rest:En}{Q:List D×En->Prop}(hz:ps.length<=1000)(hf:∀p∈ps,W (f (some (prD p)::rest)) (fun r=>r=(.bool (g p),some (prD p)::rest)))(hq:∀o',Q (ps.map (fun p=>.bool (g p)),o'::rest)):W (lcF (gN 0) cY f (ps.map prD) [] (o::rest)) Q:=by
 refine gS (fun t=>.bool (g (unP t))) (szB (by rw[zad];omega)) (fun t ht=>?_) fun o'=>?_
 ·obtain⟨p,hp,rfl⟩:=zaz.mp ht;rw[sy];exact hf p hp
 ·rw[zaR];have e:((fun t=>PyData.bool (g (unP t)))∘prD)=fun p=>.bool (g p):=funext fun p=>by show PyData.bool (g (unP (prD p)))=_;rw[sy]
  rw[e];exact hq o'
def HY(x:Option Nat):isX (goD x)=false:=by cases x<;>rfl
def GW(p:Pr):Ok (prD p):=⟨rfl,fun ts e a ha=>by
 cases e;simp only[zay,List.not_mem_nil,or_false]at ha;rcases ha with rfl|rfl<;>exact HY _⟩
def AQ(h:∀k,x=some k->k<n):bG n (goD x)=true:=by
 cases x with
 |none=>rfl
 |some k=>
  have:=h k rfl;simp only[goD,bG,zbj,decide_eq_true_eq];omega
def qP(hp:∀p∈ps,InM n m p):(ps.map prD).all (bZ n m)=true:=by
 rw[List.all_map,List.all_eq_true];intro p z;show(bG n (goD p.1)&&bG m (goD p.2))=true;rw[AQ (hp p z).1,AQ (hp p z).2];rfl
def oks:∀t∈ps.map prD,Ok t:=fun t ht=>by
 obtain⟨p,_,rfl⟩:=zaz.mp ht;exact GW p
def lE(M:Mx w e1 G)(N:Mx w e2 H)(h:∀t∈ts,Ok t)(hl:ts.length<=1000)(ha:ts.all (bZ G.length H.length)=false):W (aW [mD e1 G,mD e2 H,.list ts]) (fun r=>r=(.bool false,[none,none,none]))/\W (aU [mD e1 G,mD e2 H,.list ts]) (fun r=>r=(.bool false,[none,none,none])):=by
 constructor
 ·simp only[aW,fh,ws];refine W.ue (jd M N h hl) ?_;simp only[ws,ha]
 ·simp only[aU,dP,ws];refine W.ue (jd M N h hl) ?_;simp only[ws,ha]
def vh(M:Mx w e1 G)(N:Mx w e2 H)(hp:∀p∈ps,InM G.length H.length p)(hl:ps.length<=1000):W (aW [mD e1 G,mD e2 H,.list (ps.map prD)]) (fun r=>r=(.bool (hol G H w cA (okA e1 e2) ps),[none,none,none])):=by
 have w12:=M.w12;have dl:=mC ps;have hd:∀p∈dd ps,InM G.length H.length p:=fun p z=>hp p ((fN p ps).mp z);have n0:=tw (dd ps) p00;have m0:decide (p00∈dd ps)=decide (p00∈ps):=by rw[decide_eq_decide];exact fN p00 ps
 rw[m0,show prD p00=.tuple [.int 0,.int 0]from rfl]at n0;have al:=qP hp;simp only[aW,fh,ws];refine W.ue (jd M N oks (by rw[zad];exact hl)) ?_;simp only[ws,al];refine W.ue (nZ hl) ?_;by_cases z0:p00∈ps
 ·simp only[ws,n0,z0,decide_true,Bool.not_true];refine W.of (pp (ps:=dd ps) rfl) ?_;simp only[ws];refine mJ (okA e1 e2) (by omega) (fun p z=>?_) fun o=>?_
  ·simp only[ws,i5];refine W.ue (xF M N (hd p z)) ?_;simp only[ws]
  simp only[ws,all_map,mI];cases h1:ps.all (okA e1 e2)with
  |false=>
   have:hol G H w cA (okA e1 e2) ps=false:=by unfold hol;rw[h1,Bool.false_and,zbP]
   simp only[ws,this]
  |true=>
   simp only[ws];refine W.of (pp (ps:=dd ps) rfl) ?_;simp only[ws];refine mJ (cls G H w cA ps) (by omega) (fun p z=>?_) fun o=>?_
   ·simp only[ws,i4];refine W.ue (vT M N (hd p z)) ?_;simp only[ws];refine W.ue (rK cA (dd ps) (by rw[zad,zbb];exact w12)) ?_
    have:=vP (w:=w) (G:=G) (H:=H) cA ps p;unfold cls at this;rw[this];simp only[ws];rfl
   ·have:hol G H w cA (okA e1 e2) ps=ps.all (cls G H w cA ps):=by unfold hol;rw[h1,zaB z0,zaG,zaG]
    simp only[ws,all_map,mI,this]
 ·have:hol G H w cA (okA e1 e2) ps=false:=by unfold hol;rw[zaA z0,Bool.false_and]
  simp only[ws,n0,z0,decide_false,Bool.not_false,this]
def vg(M:Mx w e1 G)(N:Mx w e2 H)(hp:∀p∈ps,InM G.length H.length p)(hl:ps.length<=1000):W (aU [mD e1 G,mD e2 H,.list (ps.map prD)]) (fun r=>r=(.bool (hol G H w cW (okW e1 e2) ps),[none,none,none])):=by
 have w12:=M.w12;have dl:=mC ps;have hd:∀p∈dd ps,InM G.length H.length p:=fun p z=>hp p ((fN p ps).mp z);have n0:=tw (dd ps) p00;have m0:decide (p00∈dd ps)=decide (p00∈ps):=by rw[decide_eq_decide];exact fN p00 ps
 rw[m0,show prD p00=.tuple [.int 0,.int 0]from rfl]at n0;have al:=qP hp;simp only[aU,dP,ws];refine W.ue (jd M N oks (by rw[zad];exact hl)) ?_;simp only[ws,al];refine W.ue (nZ hl) ?_;by_cases z0:p00∈ps
 ·simp only[ws,n0,z0,decide_true,Bool.not_true];refine W.of (pp (ps:=dd ps) rfl) ?_;simp only[ws];refine mJ (okW e1 e2) (by omega) (fun p z=>?_) fun o=>?_
  ·have wi:=uA M N (hd p z);obtain⟨x,y⟩:=p;cases x with
   |none=>simp only[ws,e8,prD,goD,okW,Option.isSome_none,Bool.false_and]
   |some k=>
    simp only[prD,goD]at wi ⊢;simp only[ws,e8];refine W.ue wi ?_;simp only[ws,okW,Option.isSome_some,zaG]
  simp only[ws,all_map,mI];cases h1:ps.all (okW e1 e2)with
  |false=>
   have:hol G H w cW (okW e1 e2) ps=false:=by unfold hol;rw[h1,Bool.false_and,zbP]
   simp only[ws,this]
  |true=>
   simp only[ws];refine W.of (pp (ps:=dd ps) rfl) ?_;simp only[ws];refine mJ (cls G H w cW ps) (by omega) (fun p z=>?_) fun o=>?_
   ·simp only[ws,iz];refine W.ue (vS M N (hd p z)) ?_;simp only[ws];refine W.ue (rK cW (dd ps) (by rw[zad,zbb];exact w12)) ?_
    have:=vP (w:=w) (G:=G) (H:=H) cW ps p;unfold cls at this;rw[this];simp only[ws];rfl
   ·have:hol G H w cW (okW e1 e2) ps=ps.all (cls G H w cW ps):=by unfold hol;rw[h1,zaB z0,zaG,zaG]
    simp only[ws,all_map,mI,this]
 ·have:hol G H w cW (okW e1 e2) ps=false:=by unfold hol;rw[zaA z0,Bool.false_and]
  simp only[ws,n0,z0,decide_false,Bool.not_false,this]
def okL(e1 e2:List Bool)(wh:Bool)(p:Pr):Bool:=!((bj e1 p.1&&!bj e2 p.2) || ((wh&&(bj e2 p.2&&!bj e1 p.1)) || (!wh&&p.1.isNone)))
def cL(wh:Bool)(q:Pr):Bool:=!(q.1.isSome || (wh&&q.2.isSome))
def eF(e1 e2:List Bool)(G H:Gr)(w:Nat)(wh:Bool)(ps:List Pr):Bool:=decide (p00∈ps)&&ps.all fun p=>okL e1 e2 wh p&&cls G H w (cL wh) ps p
theorem nK{α:Type}(f g:α->Bool):∀l:List α,(l.all fun a=>f a&&g a)=(l.all f&&l.all g)
 |[]=>rfl
 |a::l=>by
  rw[List.all_cons,List.all_cons,List.all_cons,nK f g l];cases f a<;>cases g a<;>cases l.all f<;>rfl
def Fo(ps:List Pr):eF e1 e2 G H w true ps=hol G H w cA (okA e1 e2) ps:=by
 have h1:okL e1 e2 true=okA e1 e2:=funext fun p=>by
  unfold okL okA;cases bj e1 p.1<;>cases bj e2 p.2<;>rfl
 have h2:cL true=cA:=funext fun q=>by
  obtain⟨x,y⟩:=q;cases x<;>cases y<;>rfl
 unfold eF hol;rw[h1,h2,nK]
def Fm(ps:List Pr):eF e1 e2 G H w false ps=hol G H w cW (okW e1 e2) ps:=by
 have h1:okL e1 e2 false=okW e1 e2:=funext fun p=>by
  obtain⟨x,y⟩:=p;unfold okL okW;cases x<;>cases bj e2 y<;>simp[bj]
 have h2:cL false=cW:=funext fun q=>by
  obtain⟨x,y⟩:=q;cases x<;>rfl
 unfold eF hol;rw[h1,h2,nK]
def uN(M:Mx w e1 G)(N:Mx w e2 H){wh:Bool}(hp:InM G.length H.length p){x9 x10 x11:Option D}{Q:Fl->Prop}
  (no:cls G H w (cL wh) ps p=false->∀o10 o11,Q (.rt (.bool false) [some (mD e1 G),some (mD e2 H),x2,some (.bool wh),some (cQ (dd ps)),x5,some (goD p.1),some (goD p.2),x8,x9,o10,o11]))
  (yes:cls G H w (cL wh) ps p=true->∀o10 o11,Q (.nx [some (mD e1 G),some (mD e2 H),x2,some (.bool wh),some (cQ (dd ps)),x5,some (goD p.1),some (goD p.2),x8,x9,o10,o11])):
  W (cS (gN 10) eX (fV 0 w) [some (mD e1 G),some (mD e2 H),x2,some (.bool wh),some (cQ (dd ps)),x5,some (goD p.1),some (goD p.2),x8,x9,x10,x11]) Q:=by
 have ec:cls G H w (cL wh) ps p=(List.range w).all fun a=>cL wh (nxP G H p a) || decide (nxP G H p a∈ps):=by
  unfold cls;rw[List.all_map];rfl
 refine eP (fun i en=>∃o10 o11,en=[some (mD e1 G),some (mD e2 H),x2,some (.bool wh),some (cQ (dd ps)),x5,some (goD p.1),some (goD p.2),x8,x9,o10,o11]/\∀a,a<i->(cL wh (nxP G H p a) || decide (nxP G H p a∈ps))=true) ⟨_,_,rfl,fun _ z=>absurd z (Nat.not_lt_zero _)⟩ ?_ ?_
 ·rintro i t en ht ⟨o10,o11,rfl,g⟩;obtain⟨hi,rfl⟩:=dY ht;have nt:=tw (dd ps) (nxP G H p i);have m0:decide (nxP G H p i∈dd ps)=decide (nxP G H p i∈ps):=by rw[decide_eq_decide];exact fN _ ps
  rw[m0]at nt;rw[zbG];simp only[ws,eX];refine W.ue (rV M hp.1 hi) ?_;simp only[ws];refine W.ue (rV N hp.2 hi) ?_;have next:(cL wh (nxP G H p i) || decide (nxP G H p i∈ps))=true->∀a,a<i+1->(cL wh (nxP G H p a) || decide (nxP G H p a∈ps))=true:=fun h a ha=>by
   by_cases c:a=i
   ·rw[c];exact h
   ·exact g a (by omega)
  have bad:(cL wh (nxP G H p i) || decide (nxP G H p i∈ps))=false->cls G H w (cL wh) ps p=false:=fun h=>by
   rw[ec];exact List.all_eq_false.mpr ⟨i,zbn.mpr hi,by rw[h];exact zbk⟩
  have eq:prD (nxP G H p i)=.tuple [goD (eE G p.1 i),goD (eE H p.2 i)]:=rfl;rw[eq]at nt;by_cases m:nxP G H p i∈ps
  ·simp only[ws,nt,m,decide_true,Bool.not_true];exact⟨_,_,rfl,next (by rw[zaB m,Bool.or_true])⟩
  ·simp only[ws,nt,m,decide_false,Bool.not_false];rw[zaA m,Bool.or_false]at next bad;have ex:cL wh (nxP G H p i)=!((eE G p.1 i).isSome || (wh&&(eE H p.2 i).isSome)):=rfl;rw[ex]at next bad;cases h1:eE G p.1 i with
   |some k=>
    rw[h1]at bad;simp only[ws,goD];exact no (bad rfl) _ _
   |none=>
    rw[h1]at bad next;cases wh with
    |false=>
     simp only[ws,goD];exact⟨_,_,rfl,next rfl⟩
    |true=>
     cases h2:eE H p.2 i with
     |some k=>
      rw[h2]at bad;simp only[ws,goD];exact no (bad rfl) _ _
     |none=>
      rw[h2]at next;simp only[ws,goD];exact⟨_,_,rfl,next rfl⟩
 ·rintro en ⟨o10,o11,rfl,g⟩;rw[dX]at g;refine yes ?_ _ _;rw[ec,List.all_eq_true];exact fun a ha=>g a (zbn.mp ha)
def qj(M:Mx w e1 G)(N:Mx w e2 H)(hp:∀p∈ps,InM G.length H.length p)(hl:ps.length<=1000)(wh:Bool):W (bD [mD e1 G,mD e2 H,.list (ps.map prD),.bool wh]) (fun r=>r=(.bool (eF e1 e2 G H w wh ps),[none,none,none,none])):=by
 have w12:=M.w12;have al:=qP hp;have ni:=cmpP.notIn (by decide) p00 ps;rw[show prD p00=.tuple [.int 0,.int 0]from rfl]at ni;obtain⟨r0,er,rl⟩:=Au M;simp only[bD,jD,ws];refine W.ue (n6 M N oks) ?_;by_cases z0:p00∈ps
 ·simp only[ws,al,ni,z0,decide_true,Bool.not_true,mB];refine eP (fun i en=>∃o5,en=[some (mD e1 G),some (mD e2 H),some (.list (ps.map prD)),some (.bool wh),some (cQ (dd (ps.take i))),o5,none,none,none,none,none,none]) ⟨_,rfl⟩ ?_ ?_
  ·rintro i t en ht ⟨o5,rfl⟩;obtain⟨p,hi,rfl⟩:=gm ht;have l1:=mC (ps.take i);rw[zaE]at l1;simp only[ws,kr];refine W.of (AB (ps:=dd (ps.take i)) (p:=p) rfl rfl rfl (by omega)) ?_;rw[tk hi,se];exact⟨_,rfl⟩
  ·rintro en ⟨o5,rfl⟩;rw[zad,zaQ];simp only[ws];refine eP (fun i en=>∃o6 o7 o8 o9 o10 o11,en=[some (mD e1 G),some (mD e2 H),some (.list (ps.map prD)),some (.bool wh),some (cQ (dd ps)),o5,o6,o7,o8,o9,o10,o11]/\(ps.take i).all (fun p=>okL e1 e2 wh p&&cls G H w (cL wh) ps p)=true) ⟨_,_,_,_,_,_,rfl,rfl⟩ ?_ ?_
   ·rintro i t en ht ⟨o6,o7,o8,o9,o10,o11,rfl,g⟩;obtain⟨p,hi,rfl⟩:=gm ht;have pm:=zaX hi;have ip:=hp p pm;have bad:(okL e1 e2 wh p&&cls G H w (cL wh) ps p)=false->eF e1 e2 G H w wh ps=false:=fun h=>by
     unfold eF;rw[List.all_eq_false.mpr ⟨p,pm,by rw[h];exact zbk⟩,zbP]
    have good:(okL e1 e2 wh p&&cls G H w (cL wh) ps p)=true->(ps.take (i+1)).all (fun p=>okL e1 e2 wh p&&cls G H w (cL wh) ps p)=true:=fun h=>by
     rw[tk hi,List.all_append,g,List.all_cons,h];rfl
    simp only[ws,kq,prD];refine W.ue (n8 M ip.1) ?_;simp only[ws];refine W.ue (n8 N ip.2) ?_;have ret:okL e1 e2 wh p=false->eF e1 e2 G H w wh ps=false:=fun h=>bad (by rw[h];rfl);have c1:cls G H w (cL wh) ps p=false->eF e1 e2 G H w wh ps=false:=fun k=>bad (by rw[k,zbP]);have c2:okL e1 e2 wh p=true->cls G H w (cL wh) ps p=true->(ps.take (i+1)).all (fun p=>okL e1 e2 wh p&&cls G H w (cL wh) ps p)=true:=fun h k=>good (by rw[h,k];rfl);have run:okL e1 e2 wh p=true->∀b1 b2,W (cS (gN 10) eX (fV 0 w) [some (mD e1 G),some (mD e2 H),some (.list (ps.map prD)),some (.bool wh),some (cQ (dd ps)),o5,some (goD p.1),some (goD p.2),some (.bool b1),some (.bool b2),o10,o11]) (kIt (fun en=>∃o6 o7 o8 o9 o10 o11,en=[some (mD e1 G),some (mD e2 H),some (.list (ps.map prD)),some (.bool wh),some (cQ (dd ps)),o5,o6,o7,o8,o9,o10,o11]/\(ps.take (i+1)).all (fun p=>okL e1 e2 wh p&&cls G H w (cL wh) ps p)=true) (tK (av (eC (.bool true))) (kFn [0,0,0,0] fun r=>r=(.bool (eF e1 e2 G H w wh ps),[none,none,none,none])))):=fun h b1 b2=>by
     refine uN M N ip (fun k _ _=>?_) (fun k _ _=>?_)
     ·simp only[ws,c1 k]
     ·exact⟨_,_,_,_,_,_,rfl,c2 h k⟩
    have eo:okL e1 e2 wh p=!((bj e1 p.1&&!bj e2 p.2) || ((wh&&(bj e2 p.2&&!bj e1 p.1)) || (!wh&&p.1.isNone))):=rfl;rw[eo]at ret run;clear bad good c1 c2 eo;generalize bj e1 p.1=b1 at *;generalize bj e2 p.2=b2 at *;obtain⟨x,y⟩:=p;cases b1<;>cases b2<;>cases wh<;>cases x<;>simp only[ws,goD,mD,er,rl,zaL]
    all_goals first|exact⟨⟨by omega,by omega⟩,run rfl _ _⟩|simp only[ret rfl]
   ·rintro en ⟨o6,o7,o8,o9,o10,o11,rfl,g⟩;rw[zad,zaQ]at g
    have:eF e1 e2 G H w wh ps=true:=by unfold eF;rw[zaB z0,g];rfl
    simp only[ws,this]
 ·have:eF e1 e2 G H w wh ps=false:=by unfold eF;rw[zaA z0,Bool.false_and]
  simp only[ws,al,ni,z0,decide_false,Bool.not_false,this]
end
structure Th(t:D):Prop where
 o:Ok t
 e:aM t t=some true
 d:aQ t<=9
theorem eh:∀{ts:List D},(∀t∈ts,aM t t=some true)->bV ts ts=some true
 |[],_=>rfl
 |t::ts,h=>by
  rw[bV,h t (zaq ..),eh fun a ha=>h a (zaj _ ha)];rfl
def xw(h:∀t∈ts,Th t):eqX (.list ts) (.list ts)=some (.bool true):=by
 have hd:∀{us:List D},(∀t∈us,Th t)->aS us<=9:=by
  intro us
  induction us with
  |nil=>intro _;exact zbg _
  |cons a us ih=>
   intro g;have h1:=(g a (zaq ..)).d;have h2:=ih fun t ht=>g t (zaj _ ht);simp only[aS];omega
 have:=hd h;rw[eqX,if_pos (by simp only[aQ];omega),aM,if_pos rfl,eh fun t ht=>(h t ht).e];rfl
section
variable{e1 e2:List Bool} 
def Gn(es:List Bool)(G:Gr):aQ (mD es G)<=9:=by
 have a2:=(eI cmpB.nd es).2;have go:∀o,ak (goD o)=true/\aQ (goD o)<=0:=fun o=>by cases o<;>exact⟨rfl,zav _⟩
 have b2:=(eI (f:=br) (d:=1) (fun r=>⟨by simp only[br,ak];exact(eI go r).1,by simp only[br,aQ];have:=(eI go r).2;omega⟩) G).2;simp only[mD,aQ,aS];omega
def oi(M:Mx w e1 G):W (ck [mD e1 G]) (fun r=>r=(mD e1 G,[none])):=by
 have n:=M.n;have le:=M.le;have w12:=M.w12;simp only[ck,kE,ws,mD];refine gS id (szB (by rw[zad];omega)) (fun t ht=>?_) fun o'=>?_
 ·obtain⟨r,hr,rfl⟩:=zaz.mp ht;simp only[ws,i6,br,id]
 ·simp only[ws,List.map_id]
def lK(M:Mx w e1 G)(N:Mx w e2 H)(h:∀t∈ts,Th t)(hl:ts.length<=1000):W (cb [mD e1 G,mD e2 H,.list ts]) (fun r=>r=(.bool true,[none,none,none])):=by
 have ho:∀t∈ts,Ok t:=fun t ht=>(h t ht).o;have ex:=xw h;obtain⟨n1,-⟩:=AG e1 G;obtain⟨n2,-⟩:=AG e2 H;have d1:=Gn e1 G;have d2:=Gn e2 H;have zl:ts.length<=sizeLine:=szB (by omega);have key:∃b1 b2,W (aW [mD e1 G,mD e2 H,.list ts]) (fun r=>r=(.bool b1,[none,none,none]))/\W (aU [mD e1 G,mD e2 H,.list ts]) (fun r=>r=(.bool b2,[none,none,none]))/\W (bD [mD e1 G,mD e2 H,.list ts,.bool true]) (fun r=>r=(.bool b1,[none,none,none,none]))/\W (bD [mD e1 G,mD e2 H,.list ts,.bool false]) (fun r=>r=(.bool b2,[none,none,none,none])):=by
  cases a:ts.all (bZ G.length H.length)with
  |true=>
   obtain⟨ps,rfl,hp⟩:=AC a;rw[zad]at hl;exact⟨_,_,vh M N hp hl,vg M N hp hl,Fo ps▸qj M N hp hl true,Fm ps▸qj M N hp hl false⟩
  |false=>
   have g:∀b,W (bD [mD e1 G,mD e2 H,.list ts,.bool b]) (fun r=>r=(.bool false,[none,none,none,none])):=fun b=>by
    simp only[bD,jD,ws];refine W.ue (n6 M N ho) ?_;simp only[ws,a]
   exact⟨_,_,(lE M N ho hl a).1,(lE M N ho hl a).2,g true,g false⟩
 obtain⟨b1,b2,k1,k2,k3,k4⟩:=key;simp only[cb,lm,ws];refine W.ue (oi M) ?_;simp only[ws];refine W.ue (oi N) ?_;simp only[ws];refine W.ue k1 ?_;simp only[ws];refine W.ue k2 ?_;simp only[ws];simp only[gf,ws];refine W.ue k3 ?_;have c1:=(same (t:=.bool b1) rfl (zbg _)).2;have c2:=(same (t:=.bool b2) rfl (zbg _)).2;simp only[gf,ws,c1];refine W.ue k4 ?_;have e:=(same (t:=.tuple [mD e1 G,mD e2 H]) (by simp[ak,aD,n1,n2]) (by
  simp only[aQ,aS];omega)).1
 simp only[ws,c2,ex,e]
end
def nu{s u:MS}{K:Fl->Prop}{b:Bool}(h1:kIf s u K (true,en))(h2:kIf s u K (false,en)):kIf s u K (b,en):=by
 cases b
 ·exact h2
 ·exact h1
def sS(a b c:Int):D:=.list [.int a,.int b,.int c]
def Pn(n:Nat)(t:D):Prop:=∃a b c,t=sS a b c/\0<=c/\c<=(n:Int)
def Pn.mono(h:Pn n t)(e:n<=m):Pn m t:=by
 obtain⟨a,b,c,rfl,h1,h2⟩:=h;exact⟨a,b,c,rfl,h1,by omega⟩
def aR{p:D}{m:Int}(hp:Pn n p)(hn:n<=1000000)(h3:0<m)(h4:m<1073741824)(h:∀r p',0<=r->r<m->Pn (n+1) p'->Q (.int r,[some p',none])):W (ao [p,.int m]) Q:=by
 obtain⟨a,b,c,rfl,c0,c1⟩:=hp;have m0:∀z:Int,0<=z % m:=fun z=>Int.emod_nonneg _ (by omega);have m1:∀z:Int,z % m<m:=fun z=>Int.emod_lt_of_pos _ h3;by_cases ha:0<a
 ·simp only[ws,ao,fm,sS,ha,h3,h4];exact⟨⟨h3,h4⟩,h _ _ (m0 _) (m1 _) ⟨_,_,_,rfl,by omega,by omega⟩⟩
 ·simp only[ws,ao,fm,sS,ha,h3,h4];refine⟨.inl (by decide),by decide,.inl ?_,by decide,.inl (by decide),.inl ?_,by decide,⟨by decide,by decide⟩,h _ _ (m0 _) (m1 _) ⟨_,_,_,rfl,by omega,by omega⟩⟩
  ·constructor<;>omega
  ·generalize (b+69621*(c+1)+13) % 2147483629*((b+69621*(c+1)+13) % 2147483629)=x;constructor<;>omega
def Gq{k:Int}(h0:0<=k)(hl:ns.length<=63)(h:∀p,Pn 0 p->Q (p,[none,none])):W (da [.list (ns.map .int),.int k]) Q:=by
 have pw:kA 10 18:=by unfold kA;decide
 simp only[ws,da,ek];refine⟨.inl (by decide),?_⟩;by_cases hk:k<(ns.length:Int)
 ·have ec:atI (ns.map PyData.int) k=some (.int (ns[k.toNat]'(by omega))):=t8 h0 (by rw[zao,zak (by omega)];rfl);simp only[ws,hk,ec];refine⟨pw,nu ?_ ?_⟩<;>simp only[ws]
  ·exact⟨pw,by decide,h _ ⟨_,_,0,rfl,by decide,by decide⟩⟩
  ·exact⟨by decide,h _ ⟨_,_,0,rfl,by decide,by decide⟩⟩
 ·by_cases hn:(0:Int)<ns.length
  ·obtain⟨c,ec⟩:∃c,atI (ns.map PyData.int) (k % (ns.length:Int))=some (.int c):=by
    have q1:0<=k % (ns.length:Int):=Int.emod_nonneg _ (by omega);have q2:k % (ns.length:Int)<ns.length:=Int.emod_lt_of_pos _ (by omega);refine⟨ns[(k % (ns.length:Int)).toNat]'(by omega),t8 q1 ?_⟩;rw[zao,zak (by omega)];rfl
   simp only[ws,hk,hn,ec];refine⟨by decide,.inl (by decide),pw,nu ?_ ?_⟩<;>simp only[ws]
   ·exact⟨pw,by decide,h _ ⟨_,_,0,rfl,by decide,by decide⟩⟩
   ·exact⟨by decide,h _ ⟨_,_,0,rfl,by decide,by decide⟩⟩
  ·simp only[ws,hk,hn];refine⟨pw,nu ?_ ?_⟩<;>simp only[ws]
   ·exact⟨pw,by decide,h _ ⟨_,_,0,rfl,by decide,by decide⟩⟩
   ·exact⟨by decide,h _ ⟨_,_,0,rfl,by decide,by decide⟩⟩
def Ip(h:W (f en) (fun r=>scaD r.1=true/\Q r)):W (eSk f en) Q:=by
 unfold eSk;rw[am];exact W.use h fun r ⟨h1,h2⟩=>by
  show W (if _ then _ else none) Q;rw[if_pos h1];exact⟨_,rfl,h2⟩
def HG(h:W (f en) (fun r=>mr r.1=true/\Q r)):W (eUp f en) Q:=by
 unfold eUp;rw[am];exact W.use h fun r ⟨h1,h2⟩=>by
  show W (if _ then _ else none) Q;rw[if_pos h1];exact⟨_,rfl,h2⟩
def BV(r:List (Option Nat)):mr (.list (r.map goD))=true:=by
 show(r.map goD).all scaD=true;rw[List.all_map,List.all_eq_true];exact fun x _=>by cases x<;>rfl
def at3{a b c r:Int}(h0:0<=r)(h1:r<3)(lo:1<=a/\1<=b/\1<=c)(hi:a<=12/\b<=12/\c<=12):∃z:Int,atI [PyData.int a,PyData.int b,PyData.int c] r=some (.int z)/\1<=z/\z<=12:=by
 rcases(by omega:r=0\/r=1\/r=2)with rfl|rfl|rfl
 ·exact⟨a,rfl,lo.1,hi.1⟩
 ·exact⟨b,rfl,lo.2.1,hi.2.1⟩
 ·exact⟨c,rfl,lo.2.2,hi.2.2⟩
def Cd{p:D}(hp:Pn n p)(hn:n<=5000)(hN:N<=40)(z1:1<=z)(z2:z<=12){Q:List D×En->Prop}(h:∀(es:List Bool) p' o',es.length=N->Pn (n+N) p'->Q (es.map .bool,[o',some p',some (.int z)])):W (lcF (gN 0) cY ff (fV 0 N) [] [o,some p,some (.int z)]) Q:=by
 refine uf (fun i us en=>∃(es:List Bool) (p':D) (o':Option D),us=es.map .bool/\es.length=i/\Pn (n+i) p'/\en=[o',some p',some (.int z)]) (szB (by rw[dX];omega)) ⟨[],p,o,rfl,rfl,hp,rfl⟩ ?_ ?_
 ·rintro i t us en ht-⟨es,p',o',rfl,el,hp',rfl⟩;obtain⟨hi,rfl⟩:=dY ht;simp only[ws,ff];refine aR hp' (by omega) (by omega) (by omega) fun r p1 r0 r1 hp1=>?_;simp only[ws];exact⟨es++[decide (r=0)],p1,_,by rw[zaC];rfl,by rw[zae,el];rfl,hp1,rfl⟩
 ·rintro us en-⟨es,p',o',rfl,el,hp',rfl⟩;rw[dX]at el hp';exact h es p' o' el hp'
def AO(b:Bool)(t:D):W (bE [.bool b,t]) (fun r=>r=(if b then .none else t,[none,none])):=by
 cases b<;>simp only[ws,bE,gB]<;>rfl
def xz{p:D}(hp:Pn n p)(hn:n<=5000)(hS:S<=12)(N1:1<=N)(hN:N<=40){Q:List D×En->Prop}(h:∀(r:List (Option Nat)) p' o',r.length=S->(∀k,some k∈r->k<N)->Pn (n+2*S) p'->Q (r.map goD,[o',some p',some (.int (N:Int)),some (.int z)])):W (lcF (gN 0) cY e9 (fV 0 S) [] [o,some p,some (.int (N:Int)),some (.int z)]) Q:=by
 refine uf (fun i us en=>∃(r:List (Option Nat)) (p':D) (o':Option D),us=r.map goD/\r.length=i/\(∀k,some k∈r->k<N)/\Pn (n+2*i) p'/\en=[o',some p',some (.int (N:Int)),some (.int z)]) (szB (by rw[dX];omega)) ⟨[],p,o,rfl,rfl,(fun k hk=>nomatch hk),hp,rfl⟩ ?_ ?_
 ·rintro i t us en ht-⟨row,p',o',rfl,el,hk,hp',rfl⟩;obtain⟨hi,rfl⟩:=dY ht;simp only[ws,e9];refine aR hp' (by omega) (by omega) (by omega) fun r p1 r0 r1 hp1=>?_;simp only[ws];refine aR hp1 (by omega) (by omega) (by omega) fun q p2 q0 q1 hp2=>?_;simp only[ws];refine W.ue (AO _ _) ?_;simp only[ws];obtain⟨q,rfl⟩:∃k:Nat,q=k:=⟨q.toNat,by omega⟩;refine⟨row++[if decide (r<z)then none else some q],p2,_,?_,by rw[zae,el];rfl,fun k hm=>?_,hp2.mono (by omega),rfl⟩
  ·rw[zaC];cases decide (r<z)<;>rfl
  ·rcases zax.mp hm with hm|hm
   ·exact hk k hm
   ·simp at hm;omega
 ·rintro us en-⟨r,p',o',rfl,el,hk,hp',rfl⟩;rw[dX]at el hp';exact h r p' o' el hk hp'
def G0{p:D}{m:Int}(hp:Pn n p)(hn:n<=1000)(s1:1<=S)(s2:S<=12)(m1:1<=m)(m2:m<=40)(h:∀es G p',Mx S es G->(G.length:Int)<=m->Pn (n+2000) p'->Q (mD es G,[some p',none,none])):W (bQ [p,.int S,.int m]) Q:=by
 simp only[ws,bQ,dQ];refine aR hp (by omega) (by omega) (by omega) fun r p1 r0 r1 hp1=>?_;obtain⟨N,hN⟩:∃N:Nat,1+r=N:=⟨(1+r).toNat,by omega⟩;simp only[ws,hN];refine aR hp1 (by omega) (by omega) (by omega) fun r2 p2 r20 r21 hp2=>?_;obtain⟨z,ez,z1,z2⟩:=at3 (a:=2) (b:=3) (c:=6) r20 r21 (by decide) (by decide);simp only[ws,ez,zaL];refine⟨⟨by omega,by omega⟩,Cd hp2 (by omega) (by omega) z1 z2 fun es p3 o3 el hp3=>?_⟩;simp only[ws];refine aR hp3 (by omega) (by omega) (by omega) fun r4 p4 r40 r41 hp4=>?_;obtain⟨y,ey,-,-⟩:=at3 (a:=1) (b:=3) (c:=8) r40 r41 (by decide) (by decide);simp only[ws,ey,zaL];refine⟨⟨by omega,by omega⟩,eP (fun i en=>∃(G:Gr) (p':D) (o':Option D),en=[some p',some (.int (S:Int)),some (.int m),some (.int (N:Int)),some (.int z),some (.list (es.map .bool)),some (.int y),some (.list (G.map br)),o']/\G.length=i/\(∀r∈G,r.length=S)/\(∀r∈G,∀k,some k∈r->k<N)/\Pn (n+50+24*i) p') ⟨[],p4,_,rfl,rfl,(fun r hr=>nomatch hr),(fun r hr=>nomatch hr),hp4.mono (by omega)⟩ ?_ ?_⟩
 ·rintro i t en ht ⟨G,p',o',rfl,gl,g1,g2,hp'⟩;obtain⟨hi,rfl⟩:=dY ht;simp only[ws,iw];refine HG ?_;simp only[ws,zaL];refine⟨⟨by omega,by omega⟩,xz hp' (by omega) s2 (by omega) (by omega) fun row p5 o5 rl rk hp5=>?_⟩;simp only[ws];refine⟨BV row,m5 (by omega),G++[row],p5,_,by rw[zaC];rfl,by rw[zae,gl];rfl,fun r hr=>?_,fun r hr=>?_,hp5.mono (by omega)⟩
  ·rcases zax.mp hr with hr|hr
   ·exact g1 r hr
   ·cases zaH.mp hr;exact rl
  ·rcases zax.mp hr with hr|hr
   ·exact g2 r hr
   ·cases zaH.mp hr;exact rk
 ·rintro en ⟨G,p',o',rfl,gl,g1,g2,hp'⟩;rw[dX]at gl hp';simp only[ws];refine h es G p' ⟨by omega,by omega,s2,by omega,g1,gl.symm▸g2⟩ (by omega) (hp'.mono (by omega))
def A1(x:Option Nat)(b:Nat):W (dz [goD x,.int (b:Int)]) (fun r=>r=(goD (x.map fun k=>2*k+b),[none,none])):=by
 cases x with
 |none=>simp only[ws,dz,jC,goD,Option.map]
 |some k=>
  simp only[ws,dz,jC,goD,Option.map];exact⟨.inl (by decide),by rw[show((2*k+b:Nat):Int)=2*(k:Int)+b by omega]⟩
def wl{p:D}{row:List (Option Nat)}(hp:Pn n p)(hn:n<=5000)(hl:row.length<=12)(hr:∀k,some k∈row->k<N){Q:List D×En->Prop}(h:∀(r:List (Option Nat)) p' o',r.length=row.length->(∀k,some k∈r->k<2*N)->Pn (n+row.length) p'->Q (r.map goD,[o',some p'])):W (lcF (gN 0) cY fg (row.map goD) [] [o,some p]) Q:=by
 refine uf (fun i us en=>∃(r:List (Option Nat)) (p':D) (o':Option D),us=r.map goD/\r.length=i/\(∀k,some k∈r->k<2*N)/\Pn (n+i) p'/\en=[o',some p']) (szB (by rw[zad];omega)) ⟨[],p,o,rfl,rfl,(fun k hk=>nomatch hk),hp,rfl⟩ ?_ ?_
 ·rintro i t us en ht-⟨r,p',o',rfl,el,hk,hp',rfl⟩;obtain⟨x,hx,rfl⟩:=gm ht;have xm:=zaX hx;have il:i<row.length:=by
   have:=zah.mp hx;exact this.1
  simp only[ws,fg];refine aR hp' (by omega) (by omega) (by omega) fun b p1 b0 b1 hp1=>?_;obtain⟨b,rfl⟩:∃k:Nat,b=k:=⟨b.toNat,by omega⟩;simp only[ws];refine W.ue (A1 x b) ?_;simp only[ws];refine⟨r++[x.map fun k=>2*k+b],p1,_,by rw[zaC];rfl,by rw[zae,el];rfl,fun k hm=>?_,hp1,rfl⟩;rcases zax.mp hm with hm|hm
  ·exact hk k hm
  ·have e:=zaH.mp hm;obtain⟨j,rfl,e2⟩:=zab.mp e.symm
   have:=hr j xm;omega
 ·rintro us en-⟨r,p',o',rfl,el,hk,hp',rfl⟩;rw[zad]at el hp';exact h r p' o' el hk hp'
def tZ{p:D}(M:Mx S es G)(g9:G.length<=9)(hp:Pn n p)(hn:n<=2500)(h:∀es' G' p',Mx S es' G'->G'.length=2*G.length->Pn (n+500) p'->Q (mD es' G',[some p',none,none])):W (cI [p,mD es G,.int 0]) Q:=by
 simp only[ws,cI,jK,mD];have gl9:=g9;refine eP (fun i en=>∃(es':List Bool) (G':Gr) (p':D) (o5 o6 o7:Option D),en=[some p',some (mD es G),some (.int 0),some (.list (es'.map .bool)),some (.list (G'.map br)),o5,o6,o7,none,none]/\es'.length=2*i/\G'.length=2*i/\(∀r∈G',r.length=S)/\(∀r∈G',∀k,some k∈r->k<2*G.length)/\Pn (n+24*i) p') ⟨[],[],p,_,_,_,rfl,rfl,rfl,(fun r hr=>nomatch hr),(fun r hr=>nomatch hr),hp⟩ ?_ ?_
 ·rintro i t en ht ⟨es',G',p',o5,o6,o7,rfl,el,gl,g1,g2,hp'⟩;obtain⟨row,hi,rfl⟩:∃row,G[i]?=some row/\t=.tuple [.int (i:Int),br row]:=by
   obtain⟨t',h1,rfl⟩:=j6 ht;obtain⟨row,h2,rfl⟩:=gm h1;exact⟨row,h2,rfl⟩
  have il:i<G.length:=(zah.mp hi).1;have rm:=zaX hi;simp only[ws,ix];refine⟨by decide,eP (fun j en=>∃(es':List Bool) (G':Gr) (p':D) (o7:Option D),en=[some p',some (mD es G),some (.int 0),some (.list (es'.map .bool)),some (.list (G'.map br)),some (.int (i:Int)),some (br row),o7,none,none]/\es'.length=2*i+j/\G'.length=2*i+j/\(∀r∈G',r.length=S)/\(∀r∈G',∀k,some k∈r->k<2*G.length)/\Pn (n+24*i+12*j) p') ⟨es',G',p',o7,rfl,el,gl,g1,g2,hp'⟩ ?_ ?_⟩
  ·clear hp' el gl g1 g2 ht es' G' p' o7;rintro j t en ht ⟨es',G',p',o7,rfl,el,gl,g1,g2,hp'⟩;obtain⟨hj,rfl⟩:=dY ht;have j2:j<2:=hj;have ea:=mH M il;have w12:=M.w12;have rl:=M.w row rm;have er:br row=.list (row.map goD):=rfl;rw[er];simp only[ws,iy,mD];refine Ip ?_;simp only[ws,ea];refine⟨rfl,m5 (by omega),wl hp' (by omega) (by omega) (M.lt row rm) fun r p1 o1 r1 r2 hp1=>?_⟩;simp only[ws];refine⟨m5 (by omega),es'++[qC es i],G'++[r],p1,_,by rw[zaC,zaC];rfl,by rw[zae,el];rfl,by rw[zae,gl];rfl,fun x hx=>?_,fun x hx=>?_,hp1.mono (by omega)⟩
   ·rcases zax.mp hx with hx|hx
    ·exact g1 x hx
    ·cases zaH.mp hx;rw[r1,rl]
   ·rcases zax.mp hx with hx|hx
    ·exact g2 x hx
    ·cases zaH.mp hx;exact r2
  ·rintro en ⟨es',G',p',o7,rfl,el,gl,g1,g2,hp'⟩;have xl:(fV 0 (Int.toNat 2)).length=2:=rfl;rw[xl]at el gl hp';exact⟨es',G',p',_,_,_,rfl,by omega,by omega,g1,g2,hp'.mono (by omega)⟩
 ·rintro en ⟨es',G',p',o5,o6,o7,rfl,el,gl,g1,g2,hp'⟩;have xl:(dL (G.map br)).length=G.length:=by rw[j5,zad]
  rw[xl]at el gl hp';simp only[ws,zad,el];refine aR hp' (by omega) (by have:=M.n1;omega) (by omega) fun r p1 r0 r1 hp1=>?_;simp only[ws,show decide ((0:Int)=1)=false from rfl,show decide ((0:Int)=2)=false from rfl,show decide ((0:Int)=3)=false from rfl];exact h es' G' p1 ⟨by have:=M.n1;omega,by omega,M.w12,by omega,g1,gl.symm▸g2⟩ gl (hp1.mono (by omega))
def HI{g:ME}{us:List D}(h0:(en[i]?).join=some (.list us))(h:W (f en) (fun r=>W (g r.2) (fun q=>∃n ts,r.1=.int n/\(q.2[i]?).join=some (.list ts)/\(0<=n/\n<2 ^ 63)/\ts.length<sizeLine/\Q (.none,q.2.set i (some (.list (dC ts n.toNat q.1))))))):W (nG i f g en) Q:=by
 unfold nG;rw[h0];show W ((f en).bind _) Q;rw[am];refine W.use h fun r h1=>?_;rw[am];refine W.use h1 ?_;rintro q ⟨n,ts,e1,e2,e3,e4,e5⟩;rw[e1,e2];show W (if _ then _ else none) Q;rw[if_pos ⟨e3,e4⟩];exact⟨_,rfl,e5⟩
def Bu{α:Type}{ts:List α}{x s:α}(h:s∈dC ts n x):s=x\/s∈ts:=by
 unfold dC at h;rcases zax.mp h with h|h
 ·exact .inr (List.mem_of_mem_take h)
 ·rcases zay.mp h with h|h
  ·exact .inl h
  ·exact .inr (List.mem_of_mem_drop h)
def GZ{p:D}(hp:Pn n p)(hn:n<=5000)(hl:ts.length<=100)(h:∀us p',(∀t∈us,t∈ts)->ts.length<=us.length->us.length<=2*ts.length->Pn (n+2*ts.length) p'->Q (.list us,[some p',none])):W (ca [p,.list ts]) Q:=by
 simp only[ws,ca,fH];refine eP (fun i en=>∃(us:List D) (p':D) (o3:Option D),en=[some p',some (.list ts),some (.list us),o3]/\(∀t∈us,t∈ts)/\i<=us.length/\us.length<=2*i/\Pn (n+2*i) p') ⟨[],p,_,rfl,(fun t ht=>nomatch ht),zav _,zav _,hp⟩ ?_ ?_
 ·rintro i t en ht ⟨us,p',o3,rfl,um,u1,u2,hp'⟩;have tm:=zaX ht;have il:=(zah.mp ht).1;simp only[ws,jJ];refine HI (us:=us) rfl ?_;simp only[ws];refine aR hp' (by omega) (by omega) (by omega) fun r p1 r0 r1 hp1=>?_;simp only[ws];refine⟨r,us,rfl,rfl,⟨r0,by omega⟩,m5 (by omega),?_⟩;have im:∀s∈dC us r.toNat t,s∈ts:=fun s hs=>(Bu hs).elim (fun e=>e▸tm) (um s);have ll:=qv us r.toNat t;refine aR hp1 (by omega) (by omega) (by omega) fun q p2 q0 q1 hp2=>?_;simp only[ws];by_cases c:q=0
  ·simp only[ws,c,decide_true];refine⟨m5 (by omega),_,p2,_,rfl,fun s hs=>?_,by rw[zae,ll];exact zau (Nat.succ_le_succ u1) (Nat.le_add_right _ _),by rw[zae,ll];simp only[zac,List.length_nil];omega,hp2.mono (by omega)⟩;rcases zax.mp hs with hs|hs
   ·exact im s hs
   ·cases zaH.mp hs;exact tm
  ·simp only[ws,c,decide_false];exact⟨_,p2,_,rfl,im,by omega,by omega,hp2.mono (by omega)⟩
 ·rintro en ⟨us,p',o3,rfl,um,u1,u2,hp'⟩;simp only[ws];exact h us p' um u1 u2 hp'
structure Sm(a:D):Prop where
 x:isX a=false
 e:aM a a=some true
 d:aQ a<=5
def gp(x:Option Nat):Sm (goD x):=by
 cases x with
 |none=>exact⟨rfl,rfl,zbg _⟩
 |some k=>exact⟨rfl,by simp[goD,aM,ak,peq],zbg _⟩
def iN(z:Int):Sm (.int z):=⟨rfl,by simp[aM,ak,peq],zbg _⟩
def rM(z:Bool):Sm (.bool z):=⟨rfl,by cases z<;>rfl,zbg _⟩
def uM(z:Str):Sm (.str z):=⟨rfl,by simp[aM,ak,peq],zbg _⟩
def HM:Sm (.dict []):=⟨rfl,rfl,zbg _⟩
theorem dps{n:Nat}:∀{us:List D},(∀t∈us,aQ t<=n)->aS us<=n
 |[],_=>zbg _
 |a::us,g=>by
  have h1:=g a (zaq ..);have h2:=dps fun t ht=>g t (zaj _ ht);simp only[aS];omega
def HL(x:Option Nat):Sm (.list [goD x]):=⟨rfl,by
 rw[aM,if_pos rfl];exact eh fun t ht=>by cases zaH.mp ht;exact(gp x).e,by
 have:=(gp x).d;cases x<;>simp only[goD,aQ,aS]<;>omega⟩
def sH{a:D}(h:Sm a)(n:∀ts,a≠.tuple ts):Th a:=⟨⟨h.x,fun ts e=>absurd e (n ts)⟩,h.e,zau h.d (by decide)⟩
def ft(h:∀a∈ts,Sm a):Th (.tuple ts):=by
 refine⟨⟨rfl,fun us e a ha=>?_⟩,?_,?_⟩
 ·cases e;exact(h a ha).x
 ·rw[aM,if_pos rfl];exact eh fun t ht=>(h t ht).e
 ·have:=dps (n:=5) fun t ht=>(h t ht).d;simp only[aQ];omega
theorem qI:∀{ts:List D},bV ts ts=some true->∀a∈ts,aM a a=some true
 |[],_,_,h=>nomatch h
 |t::ts,e,a,h=>by
  rw[bV]at e;cases h1:aM t t with
  |none=>rw[h1]at e;cases e
  |some x=>
   cases h2:bV ts ts with
   |none=>rw[h1,h2]at e;cases e
   |some y=>
    rw[h1,h2]at e;simp only[Option.some.injEq,zbj]at e;obtain⟨rfl,rfl⟩:=e;rcases zay.mp h with rfl|h
    ·exact h1
    ·exact qI h2 a h
theorem sd{n:Nat}:∀{us:List D},aS us<=n->∀t∈us,aQ t<=n
 |[],_,_,h=>nomatch h
 |a::us,g,t,h=>by
  simp only[aS]at g;rcases zay.mp h with rfl|h
  ·omega
  ·exact sd (by omega) t h
def uE(h:Th t):W (bL [t]) (fun r=>∃t',r=(t',[none])/\Th t'):=by
 have o:=h.o.x;cases t with
 |tuple ts=>
  have t':Th (.tuple ts.reverse):=by
   have e:=h.e;have d:=h.d;rw[aM,if_pos rfl]at e;simp only[aQ]at d;refine⟨⟨rfl,fun us e a ha=>?_⟩,?_,?_⟩
   ·cases e;exact h.o.c ts rfl a (List.mem_reverse.mp ha)
   ·rw[aM,if_pos rfl];exact eh fun a ha=>qI e a (List.mem_reverse.mp ha)
   ·simp only[aQ]
    have:=dps (n:=8) (us:=ts.reverse) fun a ha=>sd (by omega) a (List.mem_reverse.mp ha);omega
  simp only[ws,bL,fj];exact⟨_,rfl,t'⟩
 |dict ks=>
  have e:=kK o (T:="tuple") rfl;simp only[ws,bL,fj,e];exact⟨_,rfl,h⟩
 |_=>
  simp only[ws,bL,fj];exact⟨_,rfl,h⟩
def fc{a:D}(h:P a)(k:∀t∈ts,P t):∀t∈a::ts,P t:=List.forall_mem_cons.mpr ⟨h,k⟩
def f0:∀t∈([]:List D),P t:=fun _ h=>nomatch h
def GG(x y:Option Nat):Sm (.list [goD x,goD y]):=⟨rfl,by
 rw[aM,if_pos rfl];exact eh (fc (gp x).e (fc (gp y).e f0)),by
 cases x<;>cases y<;>exact Nat.le_of_ble_eq_true rfl⟩
def Gu{w:Int}{Q:D->Prop}(h0:0<=w)(h1:w<ts.length)(hT:∀t∈ts,Th t)(h:∀t,Th t->Q t):W (atI ts w) Q:=by
 have e:ts[w.toNat]?=some (ts[w.toNat]'(by omega)):=zak _;exact W.of (t8 h0 e) (h _ (hT _ (zaX e)))
def EN{w:Int}(h0:0<=w)(h1:w<16):W (fS [prD q,.int w,.int n]) (fun r=>∃t,r=(t,[none,none,none])/\Th t):=by
 obtain⟨x,y⟩:=q;simp only[ws,fS,oJ,prD,kP];have gx:=gp x;have gy:=gp y;refine⟨szB (Nat.le_of_ble_eq_true rfl),.inl (by decide),szB (Nat.le_of_ble_eq_true rfl),⟨by decide,by decide,Nat.le_of_ble_eq_true rfl⟩,szB (Nat.le_of_ble_eq_true rfl),Gu h0 h1 ?_ fun t ht=>?_⟩
 ·refine fc (sH (GG x y) fun _=>nofun) (fc (ft (fc gx f0)) (fc (ft (fc gx (fc gy (fc (iN _) f0)))) (fc (ft (fc (iN _) (fc gy f0))) (fc (ft (fc (iN _) (fc gy f0))) (fc (ft (fc (rM _) (fc gy f0))) ?_)))));refine fc (ft (fc (uM _) (fc gy f0))) (fc (ft (fc gx (fc (iN _) f0))) (fc (ft (fc gx (fc (iN _) f0))) (fc (ft (fc gx (fc (rM _) f0))) (fc (sH (gp none) fun _=>nofun) (fc (sH (uM _) fun _=>nofun) (fc (sH (iN _) fun _=>nofun) ?_))))));exact fc (ft (fc (HL x) (fc gy f0))) (fc (ft (fc gx (fc HM f0))) (fc (show Th (.tuple [goD x,goD x,goD x])from ft (fc gx (fc gx (fc gx f0)))) f0))
 ·simp only[ws];exact⟨t,rfl,ht⟩
def Gv{j:Nat}{b:MS}{Q:Fl->Prop}{ti tj:D}(hi:(en[i]?).join=some ti)(hj:(en[j]?).join=some tj)
  (h:W (f en) (fun r=>∃k c x,r.1=.int k/\atI [i,j] k=some c/\(r.2[c]?).join=some x/\W (b ((r.2.set c none).set m (some x))) (fun fl=>∃en',fl=.nx en'/\Q (.nx ((en'.set c (en'[m]?).join).set m none))))):W (sAl i j m f b en) Q:=by
 unfold sAl;rw[hi,hj];show W ((f en).bind _) Q;rw[am];refine W.use h ?_;rintro r ⟨k,c,x,e1,e2,e3,h2⟩;rw[e1];show W ((atI [i,j] k).bind _) Q;rw[e2];show W (((r.2[c]?).join).bind _) Q;rw[e3];show W ((b _).bind _) Q;rw[am];refine W.use h2 ?_;rintro fl ⟨en',e,q⟩;subst e;exact(az _ _).mpr q
def HH{bs:List Bool}{ds:List Nat}{r:Nat}{mp:MP}{Q:Fl->Prop}
  (h:W (mp en) (fun a=>∃x ts,(a.2[i]?).join=some x/\bf x a.1=some (.list ts)/\W (fe (a.2.set r (some (.list ts)))) (fun b=>scaD b.1=true/\W (fk b.2) (fun q=>∃n kk,q.1=.int n/\ixN ts.length n=some kk/\Q (.nx ((bh bs ds (a.2.set r none) q.2).set i (some (bF x a.1 (.list (ts.set kk b.1))))))))) ):W (nc bs ds i r mp fe fk en) Q:=by
 unfold nc;rw[am];refine W.use h ?_;rintro a ⟨x,ts,e1,e2,h2⟩;rw[e1];show W (match bf x a.1 with|some (.list ts)=>_|_=>none) Q;rw[e2];show W ((fe _).bind _) Q;rw[am];refine W.use h2 ?_;rintro b ⟨e3,h3⟩;rw[if_pos e3,am];refine W.use h3 ?_;rintro q ⟨n,kk,e4,e5,h4⟩;rw[e4];show W ((ixN ts.length n).map _) Q;rw[e5];exact⟨_,rfl,h4⟩
def kH(q:Pr):Th (prD q):=by
 obtain⟨x,y⟩:=q;exact ft (fc (gp x) (fc (gp y) f0))
def sg{α:Type}{xs:List α}{lo hi:Option Int}{x:α}(h:x∈bJ xs lo hi):x∈xs:=List.mem_of_mem_drop (List.mem_of_mem_take h)
def kS{α:Type}(xs:List α)(lo hi:Option Int):(bJ xs lo hi).length<=xs.length:=by
 unfold bJ;rw[zaE,zaF];omega
def pR{x:D}(hT:∀t∈ts,Th t)(hl:ts.length<=99)(hx:Th x):(∀t∈bJ ts l1 h1++[x]++bJ ts l2 h2,Th t)/\(bJ ts l1 h1++[x]++bJ ts l2 h2).length<=200:=by
 refine⟨fun t ht=>?_,?_⟩
 ·rcases zax.mp ht with ht|ht
  ·rcases zax.mp ht with ht|ht
   ·exact hT t (sg ht)
   ·rw[zaH.mp ht];exact hx
  ·exact hT t (sg ht)
 ·have a:=kS ts l1 h1;have b:=kS ts l2 h2;simp only[zae,zac,List.length_nil];omega
def szs{x:D}(hl:ts.length<=99):(bJ ts l1 h1).length+[x].length<=sizeLine/\(bJ ts l1 h1++[x]).length+(bJ ts l2 h2).length<=sizeLine:=by
 rw[zae];have a:=kS ts l1 h1;have b:=kS ts l2 h2;have e:[x].length=1:=rfl;exact⟨szB (by omega),szB (by omega)⟩
section
variable{e1 e2:List Bool}{p:D} 
def Mx.flip(M:Mx S e1 G)(k:Nat)(b:Bool):Mx S (e1.set k b) G:=⟨M.n1,M.n,M.w12,by rw[zaV];exact M.le,M.w,M.lt⟩
def Mx.cell(M:Mx S e1 G){r:List (Option Nat)}(hr:G[s]?=some r)(k:Nat)(hx:∀j,x=some j->j<G.length):Mx S e1 (G.set s (r.set k x)):=by
 have rm:=zaX hr;refine⟨by rw[zaV];exact M.n1,by rw[zaV];exact M.n,M.w12,by rw[zaV];exact M.le,fun q hq=>?_,fun q hq j hj=>?_⟩
 ·rcases zbH hq with hq|rfl
  ·exact M.w q hq
  ·rw[zaV];exact M.w r rm
 ·rw[zaV];rcases zbH hq with hq|rfl
  ·exact M.lt q hq j hj
  ·rcases zbH hj with hj|hj
   ·exact M.lt r rm j hj
   ·exact hx j hj.symm
def AX(M:Mx S e1 G)(hp:Pn n p)(hn:n<=9000){Q:Fl->Prop}(h:∀e' p' k,Mx S e' G->Q (.nx [some p',x1,x2,x3,x4,x5,x6,x7,x8,some (mD e' G),some (.int k),none])):
  W (hU [some p,x1,x2,x3,x4,x5,x6,x7,x8,some (mD e1 G),none,none]) Q:=by
 have n1:=M.n1;have n2:=M.n;have el:=M.le;simp only[ws,hU,mD];refine aR hp (by omega) (by omega) (by omega) fun k p1 k0 k1 hp1=>?_;obtain⟨k,rfl⟩:∃j:Nat,k=j:=⟨k.toNat,by omega⟩;simp only[ws];refine Gp ?_;have ea:=mH M (s:=k) (by omega);simp only[ws,ea];refine ud ?_;refine vU rfl ?_;simp only[ws];refine⟨0,_,_,0,rfl,rfl,.inr rfl,rfl,Nat.zero_lt_succ _,?_⟩;refine⟨k,_,_,k,rfl,rfl,rfl,nv (by rw[zad];omega),?_⟩
 have:=h (e1.set k (!qC e1 k)) p1 k (M.flip k _);rw[mD,List.map_set]at this;exact this
def A5(es:List Bool)(G:Gr):cs 3 (mD es G)=true:=by
 have a:∀l:List Bool,cD 3 (l.map .bool)=true:=fun l=>by
  induction l with
  |nil=>rfl
  |cons x l ih=>simp only[zar,cD,cs,ih];rfl
 have b:∀l:List (Option Nat),cD 3 (l.map goD)=true:=fun l=>by
  induction l with
  |nil=>rfl
  |cons x l ih=>cases x<;>simp only[zar,goD,cD,cs,ih]<;>rfl
 have c:∀l:Gr,cD 3 (l.map br)=true:=fun l=>by
  induction l with
  |nil=>rfl
  |cons x l ih=>simp only[zar,br,cD,cs,dn,ih,b];rfl
 simp only[mD,cs,cD,dn,a,c];rfl
def pL(es:List Bool)(G:Gr):ja 3 (some (mD es G))=some (mD es G):=if_pos (A5 es G)
def AW(M:Mx S e1 G)(s1:1<=S)(y1:ja 3 x1=x1)(y2:ja 3 x2=x2)(hp:Pn n p)(hn:n<=9000){Q:Fl->Prop}(h:∀G' p',Mx S e1 G'->Q (.nx [some p',x1,x2,x3,x4,x5,x6,x7,x8,some (mD e1 G'),none,none])):
  W (hR [some p,x1,x2,x3,x4,x5,x6,x7,x8,some (mD e1 G),none,none]) Q:=by
 have n1:=M.n1;have n2:=M.n;have el:=M.le;have w12:=M.w12;unfold hR;refine HH ?_;refine ud ?_;refine ud ?_;refine vU rfl ?_;simp only[ws,mD];refine⟨1,_,_,1,rfl,rfl,.inr rfl,rfl,Nat.lt_succ_self _,?_⟩;refine aR hp (by omega) (by omega) (by omega) fun k p1 k0 k1 hp1=>?_;obtain⟨k,rfl⟩:∃j:Nat,k=j:=⟨k.toNat,by omega⟩;obtain⟨row,hr⟩:∃r,G[k]?=some r:=⟨_,zak (by omega)⟩;have rl:=M.w row (zaX hr);simp only[ws];refine⟨k,_,_,k,rfl,rfl,.inl rfl,nv (by rw[zad];omega),by rw[zad];omega,?_⟩;refine⟨_,row.map goD,rfl,by show((G.map br)[k]?).bind _=_;rw[zao,hr];rfl,?_⟩;simp only[ws];refine aR hp1 (by omega) (by omega) (by omega) fun r p2 r0 r1 hp2=>?_;simp only[ws];refine aR hp2 (by omega) (by omega) (by omega) fun q p3 q0 q1 hp3=>?_;obtain⟨q,rfl⟩:∃j:Nat,q=j:=⟨q.toNat,by omega⟩;simp only[ws];refine W.ue (AO _ _) ?_;simp only[ws];have eg:(if decide (r=0)=true then PyData.none else PyData.int (q:Int))=goD (if decide (r=0)=true then none else some q):=by
  split<;>rfl
 rw[eg];refine⟨by split<;>rfl,aR hp3 (by omega) (by omega) (by omega) fun c p4 c0 c1 hp4=>?_⟩;obtain⟨c,rfl⟩:∃j:Nat,c=j:=⟨c.toNat,by omega⟩;simp only[ws];refine⟨c,c,rfl,nv (by omega),?_⟩;have sp:ja 1 (some p4)=some p4:=by
  obtain⟨a,b,d,rfl,-,-⟩:=hp4;rfl
 have hk:=h (G.set k (row.set c (if decide (r=0)=true then none else some q))) p4 (M.cell hr c fun j hj=>by
  split at hj
  ·cases hj
  ·cases hj;omega)
 have eS:bF (mD e1 G) ([]++[1]++[k]) (.list ((row.map goD).set c (goD (if decide (r=0)=true then none else some q))))=mD e1 (G.set k (row.set c (if decide (r=0)=true then none else some q))):=by
  show PyData.tuple [_,.list ((G.map br).set k (((G.map br)[k]?).elim .none fun c=>_))]=_;rw[zao,hr,mD,List.map_set];simp only[Option.map,Option.elim,bF,br,List.map_set]
 rw[show PyData.tuple [PyData.list (List.map PyData.bool e1),PyData.list (List.map br G)]=mD e1 G from rfl,eS];simp only[bh,sp,y1,y2];exact hk
def Cj(M:Mx S e1 G)(N:Mx S e2 H)(g9:G.length<=9)(s1:1<=S)(hp:Pn n p)(hn:n<=8000)(p1:1<=ps.length)(p2:ps.length<=99) 
  (h:∀ts p' e1' G' e2' H',(∀t∈ts,Th t)->ts.length<=200->Mx S e1' G'->Mx S e2' H'->Q (.list ts,[some p',some (mD e1' G'),some (mD e2' H'),none])):
  W (e7 [p,mD e1 G,mD e2 H,.list (ps.map prD)]) Q:=by
 have n1:=M.n1;have el:=M.le;have tp:∀t∈ps.map prD,Th t:=fun t ht=>by obtain⟨q,_,rfl⟩:=zaz.mp ht;exact kH q
 have tl:(ps.map prD).length<=99:=by rw[zad];exact p2
 simp only[ws,e7,mZ];refine aR hp (by omega) (by omega) (by omega) fun wy p1 w0 w1 hp1=>?_;simp only[ws];refine aR hp1 (by omega) (by omega) (by omega) fun a p2 a0 a1 hp2=>?_;obtain⟨a,rfl⟩:∃j:Nat,a=j:=⟨a.toNat,by omega⟩;obtain⟨q,hq⟩:∃q,ps[a]?=some q:=⟨_,zak (by omega)⟩;have eq:atI (ps.map prD) (a:Int)=some (prD q):=by rw[fO,zao,hq];rfl
 simp only[ws,mD,zad];have fin:∀{ts:List D} {p':D},(∀t∈ts,Th t)/\ts.length<=200->Q (.list ts,[some p',some (mD e1 G),some (mD e2 H),none]):=fun g=>h _ _ _ _ _ _ g.1 g.2 M N;by_cases c1:wy<2
 ·simp only[ws,c1,decide_true,eq];refine vV (fun t=>!decide (unP t=q)) id (szB (by omega)) (fun t ht=>?_) (fun t ht _=>by simp only[ws,kz,id]) fun o=>?_
  ·obtain⟨r,_,rfl⟩:=zaz.mp ht;simp only[ws,kb,cmpP.neD (Nat.le_of_ble_eq_true rfl),sy]
  ·simp only[ws,List.map_id];exact fin ⟨fun t ht=>tp t (zby.mp ht).1,zau (List.length_filter_le _ _) (by omega)⟩
 simp only[ws,c1,decide_false];by_cases c2:wy<4
 ·simp only[ws,c2,decide_true];refine aR hp2 (by omega) (by omega) (by omega) fun x p3 x0 x1 hp3=>?_;obtain⟨x,rfl⟩:∃j:Nat,x=j:=⟨x.toNat,by omega⟩;simp only[ws];refine⟨.inl (by decide),aR hp3 (by omega) (by omega) (by omega) fun y p4 y0 y1 hp4=>?_⟩;obtain⟨y,rfl⟩:∃j:Nat,y=j:=⟨y.toNat,by omega⟩;simp only[ws];exact⟨(szs (l2:=none) (h2:=none) tl).1,(szs tl).2,fin (pR tp tl (kH (some x,some y)))⟩
 simp only[ws,c2,decide_false];by_cases c3:wy=4
 ·simp only[ws,c3,decide_true];refine⟨.inl (by decide),aR hp2 (by omega) (by omega) (by omega) fun x p3 x0 x1 hp3=>?_⟩;obtain⟨x,rfl⟩:∃j:Nat,x=j:=⟨x.toNat,by omega⟩;simp only[ws];refine aR hp3 (by omega) (by omega) (by omega) fun y p4 y0 y1 hp4=>?_;obtain⟨y,rfl⟩:∃j:Nat,y=j:=⟨y.toNat,by omega⟩;simp only[ws];refine aR hp4 (by omega) (by omega) (by omega) fun z p5 z0 z1 hp5=>?_;simp only[ws];refine Gu z0 z1 (fc (kH (none,some x)) (fc (kH (some y,none)) (fc (kH (none,none)) f0))) fun t ht=>?_;simp only[ws];exact⟨(szs (l2:=none) (h2:=none) tl).1,(szs tl).2,fin (pR tp tl ht)⟩
 simp only[ws,c3,decide_false];by_cases c4:wy=5
 ·simp only[ws,c4,decide_true];refine Gv rfl rfl ?_;simp only[ws];refine aR hp2 (by omega) (by omega) (by omega) fun z p5 z0 z1 hp5=>?_;simp only[ws];rcases(by omega:z=0\/z=1)with rfl|rfl
  ·refine⟨0,1,mD e1 G,rfl,rfl,rfl,AX M hp5 (by omega) fun e' p' k M'=>⟨_,rfl,?_⟩⟩;simp only[ws,show decide ((5:Int)=6)=false from rfl,show decide ((5:Int)=7)=false from rfl];exact h _ _ _ _ _ _ tp (by omega) M' N
  ·refine⟨1,2,mD e2 H,rfl,rfl,rfl,AX N hp5 (by omega) fun e' p' k M'=>⟨_,rfl,?_⟩⟩;simp only[ws,show decide ((5:Int)=6)=false from rfl,show decide ((5:Int)=7)=false from rfl];exact h _ _ _ _ _ _ tp (by omega) M M'
 simp only[ws,c4,decide_false];by_cases c5:wy=6
 ·simp only[ws,c5,decide_true];refine Gv rfl rfl ?_;simp only[ws];refine aR hp2 (by omega) (by omega) (by omega) fun z p5 z0 z1 hp5=>?_;simp only[ws];rcases(by omega:z=0\/z=1)with rfl|rfl
  ·refine⟨0,1,mD e1 G,rfl,rfl,rfl,AW M s1 rfl (pL e2 H) hp5 (by omega) fun G' p' M'=>⟨_,rfl,?_⟩⟩;simp only[ws,show decide ((6:Int)=7)=false from rfl];exact h _ _ _ _ _ _ tp (by omega) M' N
  ·refine⟨1,2,mD e2 H,rfl,rfl,rfl,AW N s1 (pL e1 G) rfl hp5 (by omega) fun G' p' M'=>⟨_,rfl,?_⟩⟩;simp only[ws,show decide ((6:Int)=7)=false from rfl];exact h _ _ _ _ _ _ tp (by omega) M M'
 simp only[ws,c5,decide_false];by_cases c6:wy=7
 ·simp only[ws,c6,decide_true,eq];refine aR hp2 (by omega) (by omega) (by omega) fun z p5 z0 z1 hp5=>?_;simp only[ws];refine W.use (EN z0 z1) ?_;rintro _ ⟨t,rfl,ht⟩;simp only[ws];exact⟨(szs (l2:=none) (h2:=none) tl).1,(szs tl).2,fin (pR tp tl ht)⟩
 simp only[ws,c6,decide_false];exact fin ⟨tp,by omega⟩
end
def Gs{bs:List Bool}{ds':List Nat}{m:MS}{Q:Fl->Prop}(h:W (m en) (fun fl=>∃en',fl=.nx en'/\Q (.nx (bh bs ds' en en')))):W (kI bs ds' m en) Q:=by
 unfold kI;rw[am];refine W.use h ?_;rintro fl ⟨en',e,q⟩;subst e;exact(az _ _).mpr q
def AN{c:Prop}[Decidable c]{x:D}(h:c):grd c x=some x:=if_pos h
section
variable{e1 e2:List Bool} 
def gC(h:bd "list" t=some (.bool false))(x y:D):W (aW [x,y,t]) (fun r=>r=(.bool false,[none,none,none]))/\W (aU [x,y,t]) (fun r=>r=(.bool false,[none,none,none])):=by
 have a:W (bX [x,y,t]) (fun r=>r=(.bool false,[none,none,none])):=by
  simp only[ws,bX,jB,h]
 constructor
 ·simp only[ws,aW,fh];refine W.ue a ?_;simp only[ws]
 ·simp only[ws,aU,dP];refine W.ue a ?_;simp only[ws]
def fw{x y:D}{x0:Option D}(h:W (aW [x,y,t]) (fun r=>r=(.bool false,[none,none,none]))/\W (aU [x,y,t]) (fun r=>r=(.bool false,[none,none,none]))){Q:Fl->Prop}(q:Q (.nx [x0,x1,x2,some x,some y,x5,x6,some t])):W (qV [x0,x1,x2,some x,some y,x5,x6,some t]) Q:=by
 have nb:qa (.bool false) (.bool false)=some (.bool false):=rfl;simp only[ws,qV];refine W.ue h.1 ?_;simp only[ws,nb];refine W.ue h.2 ?_;simp only[ws,nb];exact q
def HF(hl:ns.length<=63){k:Nat}{Q:Fl->Prop}(h:∀x2 x3 x4 x5 x6 x7,Q (.nx [some (.list (ns.map .int)),some (.int (k:Int)),x2,x3,x4,x5,x6,x7])):W (qU [some (.list (ns.map .int)),some (.int (k:Int)),x2,x3,x4,x5,x6,x7]) Q:=by
 unfold qU;simp only[ws];refine Gq (by omega) hl fun p hp=>?_;simp only[ws];refine aR hp (by omega) (by omega) (by omega) fun r p1 r0 r1 hp1=>?_;obtain⟨z,ez,z1,z2⟩:∃z:Int,atI [PyData.int 2,PyData.int 3,PyData.int 3,PyData.int 12] r=some (.int z)/\1<=z/\z<=12:=by
  rcases(by omega:r=0\/r=1\/r=2\/r=3)with rfl|rfl|rfl|rfl<;>exact⟨_,rfl,by decide,by decide⟩
 simp only[ws,ez];refine aR hp1 (by omega) (by omega) (by omega) fun s p2 s0 s1 hp2=>?_;obtain⟨S,hS⟩:∃S:Nat,1+s=S:=⟨(1+s).toNat,by omega⟩;simp only[ws,hS];refine G0 hp2 (by omega) (by omega) (by omega) (by omega) (by omega) fun e1 G p3 M g9 hp3=>?_;simp only[ws];refine Gs ?_;unfold v8;simp only[ws];refine tZ M (by omega) hp3 (by omega) fun e2 H p4 N hH hp4=>?_;simp only[ws];have sp:ja 1 (some p4)=some p4:=by
  obtain⟨a,b,d,rfl,-,-⟩:=hp4;rfl
 refine⟨_,rfl,?_⟩;have eL:∀(a b x:Option D) (m m':D),bh [true,true,false,true,false,true,true,true] [0,0,1,3,3,0,0,0] [a,b,x,some m,x4,x5,x6,x7] [a,b,some p4,some m',some (mD e2 H),x5,x6,x7]=[a,b,some p4,some m,some (mD e2 H),x5,x6,x7]:=fun a b x m m'=>by
  simp only[bh,sp,pL,if_true,Bool.false_eq_true,if_false]
 rw[eL];simp only[ws,mD,zad];have n1:=M.n1;have el:=M.le;have f5:∀i:Nat,((2:Int)*i=((2*i:Nat):Int)):=fun i=>by omega
 refine⟨⟨by omega,by omega⟩,eP (fun i en=>∃(ps:List Pr) (o:Option D),en=[some (.list (ns.map .int)),some (.int (k:Int)),some p4,some (mD e1 G),some (mD e2 H),some (.list (ps.map prD)),o,x7]/\ps.length=2*i) ⟨[],_,rfl,rfl⟩ ?_ ?_⟩
 ·rintro i t en ht ⟨ps,o,rfl,pl⟩;obtain⟨hi,rfl⟩:=dY ht;have i9:i<9:=by omega
  simp only[ws,v7,zbG];refine⟨.inl (by decide),.inl (by decide),szB (by simp only[zac,List.length_nil];omega),ps++[(some i,some (2*i)),(some i,some (2*i+1))],some (.int (i:Int)),?_,by rw[zae,pl];rfl⟩;rw[zaC];rfl
 ·rintro en ⟨ps,o,rfl,pl⟩;rw[dX]at pl;simp only[ws];refine aR hp4 (by omega) (by omega) (by omega) fun r p5 r0 r1 hp5=>?_;simp only[ws];obtain⟨qs,ql,em⟩:∃qs:List Pr,qs.length<=1/\wJ (.list [.tuple [.none,.none]]) (.int r)=some (.list (qs.map prD)):=by
   rcases(by omega:r=0\/r=1)with rfl|rfl
   ·exact⟨[],zbg _,AN ⟨by decide,by decide,szB (zbg _)⟩⟩
   ·exact⟨[(none,none)],zav _,AN ⟨by decide,by decide,szB (Nat.le_of_ble_eq_true rfl)⟩⟩
  simp only[ws,em,zad];have tl:((ps++qs).map prD).length=ps.length+qs.length:=by rw[zad,zae]
  have pl2:ps.length<=18:=by omega
  have pl3:2<=ps.length:=by omega
  refine⟨szB (by omega),?_⟩;rw[<-zaC];refine GZ hp5 (by omega) (by omega) fun us p6 um u1 u2 hp6=>?_;obtain⟨rs,rfl⟩:∃rs:List Pr,us=rs.map prD:=by
   clear u1 u2
   induction us with
   |nil=>exact⟨[],rfl⟩
   |cons u us ih=>
    obtain⟨rs,e⟩:=ih fun t ht=>um t (zaj _ ht);obtain⟨q,_,e2⟩:=zaz.mp (um u (zaq ..));exact⟨q::rs,by rw[zar,e,e2]⟩
  rw[tl,zad]at u1 u2;have tp:∀t∈rs.map prD,Th t:=fun t ht=>by obtain⟨q,_,rfl⟩:=zaz.mp ht;exact kH q
  simp only[ws];refine W.ue (lK M N tp (by rw[zad];omega)) ?_;simp only[ws];refine Cj M N (by omega) (by omega) hp6 (by omega) (by omega) (by omega) fun ts p7 e3 G3 e4 H4 ht hl3 M3 N4=>?_;simp only[ws];refine W.ue (lK M3 N4 ht (by omega)) ?_;simp only[ws];refine uf (fun i us en=>∃o',(∀t∈us,Th t)/\us.length=i/\en=[o']) (szB (by omega)) ⟨none,(fun _ h=>nomatch h),rfl,rfl⟩ ?_ ?_
  ·rintro i t us en hi-⟨o',ut,ul,rfl⟩;simp only[ws,we];refine W.use (uE (ht t (zaX hi))) ?_;rintro _ ⟨t',rfl,h'⟩;simp only[ws];refine⟨_,fun x hx=>?_,by rw[zae,ul];rfl,rfl⟩;rcases zax.mp hx with hx|hx
   ·exact ut x hx
   ·rw[zaH.mp hx];exact h'
  ·rintro us en-⟨o',ut,ul,rfl⟩;simp only[ws];refine W.ue (lK N4 M3 ut (by omega)) ?_;simp only[ws,kP];refine fw (gC rfl _ _) ?_;simp only[ws];refine fw (gC rfl _ _) ?_;simp only[ws];refine fw (gC (kK rfl rfl) _ _) ?_;simp only[ws];refine fw (gC rfl _ _) ?_;simp only[ws];refine fw (gC rfl _ _) ?_;simp only[ws];refine fw (gC rfl _ _) ?_;simp only[ws];refine fw (lE M3 N4 (fc (P:=Ok) ⟨rfl,fun _ e=>by cases e⟩ f0) (Nat.le_of_ble_eq_true rfl) rfl) ?_;simp only[ws];exact h _ _ _ _ _ _
end
def wK:EX uv:=by
 intro ns hn
 suffices W (uv [.list (ns.map .int)]) (fun r=>∃o,r=(.bool true,o))by
  obtain⟨_,e,o,rfl⟩:=this.ex;exact⟨o,e⟩
 simp only[ws,uv,GB];refine⟨by decide,eP (fun i en=>∃x1 x2 x3 x4 x5 x6 x7,en=[some (.list (ns.map .int)),x1,x2,x3,x4,x5,x6,x7]) ⟨_,_,_,_,_,_,_,rfl⟩ ?_ ?_⟩
 ·rintro i t en ht ⟨x1,x2,x3,x4,x5,x6,x7,rfl⟩;obtain⟨hi,rfl⟩:=dY ht;simp only[ws,zbG];exact HF hn fun x2 x3 x4 x5 x6 x7=>⟨_,_,_,_,_,_,_,rfl⟩
 ·rintro en ⟨x1,x2,x3,x4,x5,x6,x7,rfl⟩;simp only[ws];exact⟨_,rfl⟩
end W36
set_option maxHeartbeats 4000000
namespace W36
variable{w:World}{K:zbQ}{mg:Str->Option Value}{h:Heap}
open PySem L2
section
variable{P:Program}{base:Heap}{k dr:Nat}{x:Str}{ps:List Str}{dps:List Nat}{f:Addr}{st:Stmt}{sp:L2.Sp}
abbrev Im(x:Str)(st:Stmt)(ps:List Str):Prop:=∀(kV doc pm:Value) (an:Option Addr) (cdv ct:Value) (us:List Value),us.length=ps.length->bindArgs (PySem.W.fnOf x x (du st) (bP st) (ah st) .none kV doc pm an cdv ct) ⟨us,[]⟩=pure (ps.zip us)
def _root_.L2.Kn.up{j:Nat}(G:Kn P w K mg base j x ps sp)(h:j<=k:=by decide):Kn P w K mg base k x ps sp:=G.mono h
def knA(d:Df K x st f)(X:K.In h)(G:h.Ns mainGlobals mg)(ok:∀fd,Fun K x x st f fd->FnOk P w K mg base CX0 k f fd ps sp)(b:Im x st ps:=by intro _ _ _ _ _ _ us hl;rcases us with _|⟨_,_|⟨_,_|⟨_,_|⟨_,_|⟨_,_⟩⟩⟩⟩⟩<;>first|rfl|cases hl):Kn P w K mg base k x ps sp:=d.kn X G b ok
end
def all_mk{l:PySem.W.OpenLaw}{fa f0 f1 f2 f3 f4 f5 f6 f7 f8 f9 f10 f11 f12 f13 f14 f15 f16 f17 f18 f19 f20 f21 f22 f23 f24 f25 f26 f27 f28 f29 f30 f31 f32 f33 f34:Addr}(X:K.In h)(G:h.Ns mainGlobals mg)(hfa:mg "law"=some (.ref fa))
  (d0:Df K "_law_pen" kf f0)
  (d1:Df K "_law_draw" jy f1)
  (d2:Df K "_law_goal" jx f2)
  (d3:Df K "_law_machine" cH f3)
  (d4:Df K "_law_twin" jv f4)
  (d5:Df K "_law_doubled" dO f5)
  (d6:Df K "_law_mixed" iH f6)
  (d7:Df K "_law_odd" kg f7)
  (d8:Df K "_law_bent" gA f8)
  (d9:Df K "_law_copied" eV f9)
  (d10:Df K "marked" nL f10)
  (d11:Df K "is_whole" kd f11)
  (d12:Df K "is_whole_within" dU f12)
  (d13:Df K "is_stand_or_none" dG f13)
  (d14:Df K "is_pair" lM f14)
  (d15:Df K "are_pairs" gz f15)
  (d16:Df K "are_told" ir f16)
  (d17:Df K "led" xH f17)
  (d18:Df K "how_many_signs" eU f18)
  (d19:Df K "pairs_ahead" eT f19)
  (d20:Df K "ahead_for_alike" cB f20)
  (d21:Df K "is_end" nM f21)
  (d22:Df K "is_alike" ke f22)
  (d23:Df K "holds_alike" cX f23)
  (d24:Df K "ahead_for_within" ce f24)
  (d25:Df K "is_within" ju f25)
  (d26:Df K "holds_within" cG f26)
  (d27:Df K "_law_is_end" gW f27)
  (d28:Df K "_law_is_place" fC f28)
  (d29:Df K "_law_are_pairs" eW f29)
  (d30:Df K "_law_led" kh f30)
  (d31:Df K "_law_hold" jw f31)
  (d32:Df K "_law_asked" iI f32)
  (d33:Df K "_law_turned" gU f33)
  (d34:Df K "law" kc f34)
  (z0:PySem.W.nsIn K mainGlobals "all"=some none)
  (z1:PySem.W.nsIn K mainGlobals "bool"=some none)
  (z2:PySem.W.nsIn K mainGlobals "enumerate"=some none)
  (z3:PySem.W.nsIn K mainGlobals "int"=some none)
  (z4:PySem.W.nsIn K mainGlobals "isinstance"=some none)
  (z5:PySem.W.nsIn K mainGlobals "len"=some none)
  (z6:PySem.W.nsIn K mainGlobals "list"=some none)
  (z7:PySem.W.nsIn K mainGlobals "range"=some none)
  (z8:PySem.W.nsIn K mainGlobals "tuple"=some none):
  ∃fd:FuncData,(∀(s:Shared) (v:Value),BindsTo s fd ⟨[v],[]⟩ [("_law_script",v)])/\∀base:Heap,K.In base->base.Ns mainGlobals mg->FnOk l.prog w K mg base CX0 8 fa fd ["_law_script"] (lV K):=by
 have e:=hfa.symm.trans (PySem.W.mg_of X G d34.a);cases e;have m:=fun {x:Str} (z:PySem.W.nsIn K mainGlobals x=some none)=>PySem.W.mg_none_of X G z;have T:Bl mg:=⟨(m z0),(m z1),(m z2),(m z3),(m z4),(m z5),(m z6),(m z7),(m z8)⟩;obtain⟨oc,od,kV,dc,pm,an,cd,ct,sl,ll,lc⟩:=d34.l;have FL:=vo (st:=kc) ll lc d34.k;refine⟨PySem.W.fnOf "law" "law" (du kc) (bP kc) (ah kc) .none kV dc pm an cd ct,fun s v=>.of_eq rfl,fun base _ _=>?_⟩;have g0:mN l.prog w K mg base 1:=knA d0 X G fun _ F=>sZ (k:=0) T     F;have g1:cN l.prog w K mg base 1:=knA d1 X G fun _ F=>rz (k:=0) T     F;have g2:fG l.prog w K mg base 1:=knA d2 X G fun _ F=>rq (k:=0) T     F;have g3:iW l.prog w K mg base 2:=knA d3 X G fun _ F=>nj (k:=1) T  g1.up g2.up   F;have g4:lg l.prog w K mg base 1:=knA d4 X G fun _ F=>rn (k:=0) T     F;have g5:iX l.prog w K mg base 2:=knA d5 X G fun _ F=>nk (k:=1) T  g1.up g2.up g4.up   F;have g6:kj l.prog w K mg base 2:=knA d6 X G fun _ F=>pZ (k:=1) T  g1.up   F;have g7:mO l.prog w K mg base 1:=knA d7 X G fun _ F=>tf (k:=0) T     F;have g8:lj l.prog w K mg base 2:=knA d8 X G fun _ F=>rA (k:=1) T  g1.up g2.up g7.up   F;have g9:jH l.prog w K mg base 1:=knA d9 X G fun _ F=>oX (k:=0) T     F;have g10:lN l.prog w K mg base 1:=knA d10 X G fun _ F=>wE (k:=0) T     F;have g11:mL l.prog w K mg base 1:=knA d11 X G fun _ F=>sW (k:=0) T     F;have g12:gh l.prog w K mg base 2:=knA d12 X G fun _ F=>kW (k:=1) T  g11.up   F;have g13:fP l.prog w K mg base 3:=knA d13 X G fun _ F=>jS (k:=2) T  g12.up   F;have g14:oC l.prog w K mg base 4:=knA d14 X G fun _ F=>uX (k:=3) T  g13.up   F;have g15:iJ l.prog w K mg base 5:=knA d15 X G fun _ F=>rj (k:=4) T  g14.up   F;have g16:jz l.prog w K mg base 1:=knA d16 X G fun _ F=>sY (k:=0) T     F;have g17:AZ l.prog w K mg base 1:=knA d17 X G fun _ F=>GU (k:=0) T     F;have g18:gX l.prog w K mg base 1:=knA d18 X G fun _ F=>lA (k:=0) T     F;have g19:ga l.prog w K mg base 2:=knA d19 X G fun _ F=>oS (k:=1) T  g17.up g18.up   F;have g20:gi l.prog w K mg base 3:=knA d20 X G fun _ F=>kX (k:=2) T  g19.up   F;have g21:lO l.prog w K mg base 1:=knA d21 X G fun _ F=>wF (k:=0) T     F;have g22:mM l.prog w K mg base 2:=knA d22 X G fun _ F=>sX (k:=1) T  g21.up   F;have g23:gb l.prog w K mg base 6:=knA d23 X G fun _ F=>oT (k:=5) T  g10.up g15.up g16.up g20.up g22.up   F;have g24:fQ l.prog w K mg base 3:=knA d24 X G fun _ F=>jT (k:=2) T  g19.up   F;have g25:lf l.prog w K mg base 2:=knA d25 X G fun _ F=>rh (k:=1) T  g21.up   F;have g26:fE l.prog w K mg base 6:=knA d26 X G fun _ F=>nh (k:=5) T  g10.up g15.up g16.up g24.up g25.up   F;have g27:jG l.prog w K mg base 1:=knA d27 X G fun _ F=>oW (k:=0) T     F;have g28:iu l.prog w K mg base 1:=knA d28 X G fun _ F=>l7 (k:=0) T     F;have g29:gY l.prog w K mg base 2:=knA d29 X G fun _ F=>lB (k:=1) T  g28.up   F;have g30:mP l.prog w K mg base 1:=knA d30 X G fun _ F=>tq (k:=0) T     F;have g31:lh l.prog w K mg base 3:=knA d31 X G fun _ F=>rp (k:=2) T  g27.up g29.up g30.up   F;have g32:kl l.prog w K mg base 7:=knA d32 X G fun _ F=>p8 (k:=6) T  g9.up g23.up g26.up g31.up   F;have g33:jF l.prog w K mg base 1:=knA d33 X G fun _ F=>oU (k:=0) T     F;exact(GV (k:=7) T  g0.up g3.up g5.up g6.up g8.up g32.up g1.up g23.up g26.up g33.up   FL).imp fun vs H Q E h=>EW wK h
def walk{l:PySem.W.OpenLaw}{q:Program}{f':List Str}{XP:(Str->Option Value)->Heap->Prop}{YP:World->Heap->Prop}{d:DefRec}{K:Params->zbQ}(hn:l.most=some 63)(hdf:d.params.defaults=[])(hq:PyProof.Rows.importsNone q=true)
  (hY:∀(w:World) (h:Heap),YP w h->(K w.params).In h)
  (F:∀(w:World) (mg:Str->Option Value) (fa:Addr) (h:Heap),(K w.params).In h->h.Ns mainGlobals mg->mg d.name=some (.ref fa) ->
   ∃fd:FuncData,(∀(s:Shared) (u:Value),BindsTo s fd ⟨[u],[]⟩ [("_law_script",u)])/\∀base:Heap,(K w.params).In base->base.Ns mainGlobals mg->FnOk l.prog w (K w.params) mg base CX0 8 fa fd ["_law_script"] (lV (K w.params))):
  PySem.W.WalkO q f' XP YP l.row.toRowW d [] (fun f vs=>PySem.call f vs):=
 L2.walk_of (n:=63) (k:=8) (x:="_law_script") (CX:=fun _=>CX0) (sp:=fun w=>lV (K w.params)) hn (by decide) hdf ⟨rfl,by decide,by decide,rfl⟩ hq hY F (fun _ _ a ns hl hO hS=>⟨a,ns,rfl,hS,hO,hl,fun _=>rfl⟩) fun _ _ _ _ _ z=>z
end W36
open PySem PySem.W PyProof.Rows
set_option maxRecDepth 100000 in
set_option maxHeartbeats 0 in
theorem PySem.Challenge.cw_wordrules_k36_pairs_looked_at_holds : PySem.Challenge.rw_wordrules_k36_pairs_looked_at.Holds := by
 w_on;o_law;k_head;(case hw=>w_witness2)
 k_fill
 refine W36.walk (l:=PySem.Challenge.rw_wordrules_k36_pairs_looked_at) rfl rfl rfl (fun w h Y=>PySem.W.kIn_of Y) ?F
 case F=>
  intro w mg fa h KX G hmg;refine' W36.all_mk KX G hmg (.mk' ?_ ?_ ?_ ?_) (.mk' ?_ ?_ ?_ ?_) (.mk' ?_ ?_ ?_ ?_) (.mk' ?_ ?_ ?_ ?_) (.mk' ?_ ?_ ?_ ?_) (.mk' ?_ ?_ ?_ ?_) (.mk' ?_ ?_ ?_ ?_) (.mk' ?_ ?_ ?_ ?_) (.mk' ?_ ?_ ?_ ?_) (.mk' ?_ ?_ ?_ ?_) (.mk' ?_ ?_ ?_ ?_) (.mk' ?_ ?_ ?_ ?_) (.mk' ?_ ?_ ?_ ?_) (.mk' ?_ ?_ ?_ ?_) (.mk' ?_ ?_ ?_ ?_) (.mk' ?_ ?_ ?_ ?_) (.mk' ?_ ?_ ?_ ?_) (.mk' ?_ ?_ ?_ ?_) (.mk' ?_ ?_ ?_ ?_) (.mk' ?_ ?_ ?_ ?_) (.mk' ?_ ?_ ?_ ?_) (.mk' ?_ ?_ ?_ ?_) (.mk' ?_ ?_ ?_ ?_) (.mk' ?_ ?_ ?_ ?_) (.mk' ?_ ?_ ?_ ?_) (.mk' ?_ ?_ ?_ ?_) (.mk' ?_ ?_ ?_ ?_) (.mk' ?_ ?_ ?_ ?_) (.mk' ?_ ?_ ?_ ?_) (.mk' ?_ ?_ ?_ ?_) (.mk' ?_ ?_ ?_ ?_) (.mk' ?_ ?_ ?_ ?_) (.mk' ?_ ?_ ?_ ?_) (.mk' ?_ ?_ ?_ ?_) (.mk' ?_ ?_ ?_ ?_) ?_ ?_ ?_ ?_ ?_ ?_ ?_ ?_ ?_
  all_goals (try k_is)

