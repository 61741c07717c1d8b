import PyProof.Rows.All
import Wide.All
import OpenK.AllK
import Wide.FinOn
import Lean
import PyProof.EqAt
import PyProof.EqKinds
import PyProof.TupleCall
import PyProof.NeKinds
import PyProof.ConsumeWalk
import PyProof.ZipIter
import PyProof.EnumMake
import PyProof.EnumFor
import PyProof.StrWalks
import PyProof.ListStr
import PyProof.SliceStr2
import PyProof.StrBlockI
import PyProof.Rows.StrWeight2
import PyProof.Rows.ZipGen
import PyProof.Rows.StrIndexOr
import PyProof.Draws
import PyProof.RaisesStr
import PyProof.Rows.StrCountLaw
import PyProof.SumWalk
import PyProof.ReprRoads
import PyProof.ReprLen
import PyProof.CallFns
import PyProof.SumAny
import PyProof.SumAnyB
import PySem.Challenge.RW_wordrules_k30_order_refused
set_option Elab.async false
set_option linter.all false
set_option maxRecDepth 100000
section
open PySem PyProof.Rows
def zaa:=@Option.bind_eq_some_iff
def zab:=@Option.map_eq_some_iff
def zac:=@List.length_cons
def zad:=@List.length_map
def zae:=@List.length_append
def zaf:=@Heap.get?_push_of_some
def zag:=@Nat.lt_of_lt_of_le
def zah:=@List.getElem?_eq_some_iff
def zai:=@List.size_toArray
def zaj:=@List.mem_cons_of_mem
def zak:=@List.getElem?_eq_getElem
def zal:=@Heap.lt_size
def zam:=@wpAny_bind
def zan:=@Heap.get?_push_size
def zao:=@List.getElem?_map
def zaq:=@List.mem_cons_self
def zar:=@List.map_cons
def zas:=@List.lookup_cons
def zat:=@Option.some.inj
def zau:=@Nat.le_trans
def zav:=@Nat.le_refl
def zaw:=@Nat.ne_of_lt
def zax:=@List.mem_append
def zay:=@List.mem_cons
def zaz:=@List.mem_map
def zaA:=@decide_eq_false
def zaB:=@decide_eq_true
def zaC:=@List.map_append
def zaE:=@List.length_take
def zaF:=@List.length_drop
def zaH:=@List.mem_singleton
def zaI:=@Nat.lt_irrefl
def zaK:=@List.getElem_mem
def zaL:=@Int.toNat_natCast
def zaM:=@Int.eq_ofNat_of_zero_le
def zaN:=@List.length_replicate
def zaO:=@List.getElem?_set_ne
def zaP:=@List.getElem?_set_self
def zaQ:=@List.take_length
def zaR:=@List.map_map
def zaS:=@List.getElem?_append_left
def zaT:=@wpAny_pure
def zaU:=@PySem.mem_of_lookup
def zaV:=@List.length_set
def zaX:=@List.mem_of_getElem?
def zaY:=@Array.length_toList
def za1:=@Prod.mk.injEq
def za9:=@PySem.W.mg_none_of
def zba:=@PySem.W.mg_of
def zbb:=@Int.emod_nonneg
def zbc:=@Int.emod_lt_of_pos
def zbd:=@List.nodup_cons
end
namespace PySem.W.Fast
def tw10019854215956774956:=0
def tw10092951553484716119:=0
def tw10117616570544987346:=0
def tw10132564182207883715:=0
def tw10150726343109737345:=0
def tw10243179998921558261:=0
def tw1024411594559894204:=0
def tw10317849828764741346:=0
def tw10326633370413275504:=0
def tw10393310187376696745:=0
def tw10406431481737451132:=0
def tw10425420785695907536:=0
def tw10445618580237817583:=0
def tw10448219722113644206:=0
def tw10455062132779956299:=0
def tw10473118833343974913:=0
def tw10518055809225435734:=0
def tw10518239057745486974:=0
def tw1053053162720705034:=0
def tw10544219493951888144:=0
def tw10576262063774934992:=0
def tw10608204214608398175:=0
def tw10714917489524759929:=0
def tw10717022499115711630:=0
def tw10980408248891179685:=0
def tw11050402062248348408:=0
def tw11062645675408072474:=0
def tw11095388210553990690:=0
def tw11127447926292089285:=0
def tw11187967957560821562:=0
def tw11193991399781338423:=0
def tw11217285704575433232:=0
def tw11225141105350248815:=0
def tw11289579576086617700:=0
def tw11385644949090565621:=0
def tw11385669897636098377:=0
def tw11399214683342909015:=0
def tw11522579491974549804:=0
def tw11540233091136120990:=0
def tw11540967604266230326:=0
def tw11580829246081173999:=0
def tw11625730395764115449:=0
def tw1170479347539924794:=0
def tw11719489204122760017:=0
def tw1175046602082425122:=0
def tw11788330748519922964:=0
def tw11795950779342956657:=0
def tw11959659214885548764:=0
def tw11975456047307492625:=0
def tw12005188368557334019:=0
def tw12038611728488167057:=0
def tw12041751266313949103:=0
def tw12058840683559860973:=0
def tw12068792422554711855:=0
def tw12139277890400478494:=0
def tw122066127511014603:=0
def tw12260064057824836808:=0
def tw12270167071553539365:=0
def tw12271395403582119299:=0
def tw12287122904512616687:=0
def tw12337397264798029797:=0
def tw12376134778015667189:=0
def tw12442977961299231936:=0
def tw1251293158751475710:=0
def tw12519256878384344885:=0
def tw1257421845178222132:=0
def tw12685984474094541341:=0
def tw12706911076496203061:=0
def tw12737019306974633051:=0
def tw12762552738980829996:=0
def tw1276726585383125216:=0
def tw12780774789256849283:=0
def tw12830303431798593283:=0
def tw12862703331202349494:=0
def tw1296016570510205361:=0
def tw13025799800743547293:=0
def tw13178285973471040780:=0
def tw13228375988558143517:=0
def tw13281206589469201012:=0
def tw13291981994851521231:=0
def tw13430329048165133623:=0
def tw13467920638874452513:=0
def tw13516229349261190620:=0
def tw13520489425018521233:=0
def tw13583735278223002644:=0
def tw13598559292850414655:=0
def tw13609026070528247142:=0
def tw13656829540427990408:=0
def tw13670943105931081331:=0
def tw13715990321084306951:=0
def tw13823027536323057578:=0
def tw13855495236873927288:=0
def tw13864311958510680050:=0
def tw13897909428974691607:=0
def tw13927617497408051875:=0
def tw13954550400750270264:=0
def tw1399573786026155526:=0
def tw14008881428093313518:=0
def tw14033850693289409552:=0
def tw14059583626768966097:=0
def tw14062247065758542617:=0
def tw14074123188201186779:=0
def tw14161106654840802848:=0
def tw14179960422022694407:=0
def tw14228776837414084494:=0
def tw14249625408049680219:=0
def tw14269651439381255043:=0
def tw14298950430221044171:=0
def tw14434160270433939812:=0
def tw1457379937591553887:=0
def tw14593733883353242597:=0
def tw14628824594218502097:=0
def tw14693728769314067212:=0
def tw14715975713898583823:=0
def tw14720187443641543549:=0
def tw14723034338787481084:=0
def tw1484038342011064299:=0
def tw14842221119595536900:=0
def tw14843827054136783358:=0
def tw14932591596397736996:=0
def tw14956823598622104078:=0
def tw14961631760861902420:=0
def tw14973846871897291938:=0
def tw14987420782519717795:=0
def tw15017781685407303213:=0
def tw15028719980321430890:=0
def tw1503565858438119030:=0
def tw15053834342019196859:=0
def tw15067800571125291132:=0
def tw15092938992099552386:=0
def tw15117670310595388436:=0
def tw15213789326428091744:=0
def tw15256785077211907343:=0
def tw15289684607735649980:=0
def tw1530637640061664562:=0
def tw15322864716161517444:=0
def tw15332813990846448763:=0
def tw15351118211551207589:=0
def tw15357234098788739543:=0
def tw15449167232635273200:=0
def tw15457683961452976528:=0
def tw15462325426845650825:=0
def tw15508983923730705404:=0
def tw15575880395384719832:=0
def tw15594661206370715567:=0
def tw15688917275369294498:=0
def tw15698925971651010862:=0
def tw15780588385436695887:=0
def tw1580891733028321385:=0
def tw15809365582544679443:=0
def tw15830953048039974986:=0
def tw15868088720682497385:=0
def tw15872512169328621708:=0
def tw15918572030846002195:=0
def tw15920586407769724812:=0
def tw1597408290323009362:=0
def tw16026197013910516957:=0
def tw16084301042294846915:=0
def tw1609876710844557496:=0
def tw16151059958507471297:=0
def tw16161695934996923061:=0
def tw16215275687052681076:=0
def tw16247925305021935218:=0
def tw16299078212048779665:=0
def tw16371968107441150282:=0
def tw16384498265239522224:=0
def tw16384657153223952835:=0
def tw1640252273622540477:=0
def tw16425879596383257510:=0
def tw16454027503203652368:=0
def tw16508208083143308656:=0
def tw16571807161822421731:=0
def tw16599263462276838383:=0
def tw1660300490622161897:=0
def tw16697598074923865300:=0
def tw1676398082356838402:=0
def tw16782440247779234919:=0
def tw16792280304493009710:=0
def tw16794557844716817225:=0
def tw16811181609035373860:=0
def tw16886755765480252373:=0
def tw16903434110086875952:=0
def tw1697055035511294213:=0
def tw16973488299617422274:=0
def tw1704247951680979771:=0
def tw1707202909999075699:=0
def tw17083133071057065285:=0
def tw17182268634111450303:=0
def tw17189106583969964451:=0
def tw17265089975368420795:=0
def tw17326077492835840902:=0
def tw17349733112679567464:=0
def tw17353632001752897420:=0
def tw17524725585827530027:=0
def tw17538876226354817398:=0
def tw17592899011260443001:=0
def tw17614899568127700866:=0
def tw17632071150077427096:=0
def tw17711697134848434678:=0
def tw17722566574505273070:=0
def tw17889701670104755528:=0
def tw17900392555523958215:=0
def tw17923276559226396116:=0
def tw17977362301846842266:=0
def tw18030541990246381096:=0
def tw18030649601386559848:=0
def tw18096044385489252669:=0
def tw18156286837703548990:=0
def tw18164532589001036563:=0
def tw18291495433040330810:=0
def tw18310480644770515863:=0
def tw18314014910219616989:=0
def tw18340346968251629122:=0
def tw18343521942328419718:=0
def tw18347377305120683222:=0
def tw1889908117225335301:=0
def tw2018408123116767050:=0
def tw2058552441497602397:=0
def tw2110525751931643749:=0
def tw2111092623603478381:=0
def tw2133357104577767232:=0
def tw2152032992916772997:=0
def tw2207114871899997694:=0
def tw2260284207330977123:=0
def tw2260447260694883422:=0
def tw2352516345200499332:=0
def tw2490076371639108503:=0
def tw2657607344648230700:=0
def tw2682101308063799237:=0
def tw2690112847569270772:=0
def tw2705592698593608689:=0
def tw2735455871702888107:=0
def tw2767530272341776842:=0
def tw2791671458203605276:=0
def tw2812025538705487442:=0
def tw2823614120946966202:=0
def tw2860514953770529118:=0
def tw2887947790714448758:=0
def tw2906235266979097953:=0
def tw2932376997396264483:=0
def tw2939054121007661827:=0
def tw3016450419679556336:=0
def tw3072403674912650154:=0
def tw3134147197581032398:=0
def tw3149333890831994957:=0
def tw3232833398333471680:=0
def tw3235598363773778703:=0
def tw3296166739306228739:=0
def tw3299863776034510584:=0
def tw3310363121065998232:=0
def tw3317537880008735868:=0
def tw3389066539632813657:=0
def tw3396951413128256445:=0
def tw3443201646273512821:=0
def tw3522784585790627286:=0
def tw3533777092493373132:=0
def tw3542792973618299611:=0
def tw3617483202995070987:=0
def tw3671798367386803663:=0
def tw380401419987326918:=0
def tw3867460703085030254:=0
def tw3870807672910558501:=0
def tw3927684740671572149:=0
def tw4056498094046098851:=0
def tw4233805025251584417:=0
def tw4246414919189159973:=0
def tw4389292381314685653:=0
def tw4399481363661470342:=0
def tw4408936723367235857:=0
def tw4506404991164896897:=0
def tw4530943576092463550:=0
def tw4552595454753408883:=0
def tw4575668066452093037:=0
def tw4618272216064218201:=0
def tw4629509851882858552:=0
def tw4689202740185281783:=0
def tw4702775350476423040:=0
def tw4716042255655487323:=0
def tw4721650120979249050:=0
def tw4766936614636780573:=0
def tw4778894408712037603:=0
def tw4913852335676710116:=0
def tw4916542658973126848:=0
def tw4955767419115837019:=0
def tw5006783784286058466:=0
def tw5018887924864439250:=0
def tw5064036894129378819:=0
def tw5124604193748260213:=0
def tw5183030307642968950:=0
def tw5246429341975694246:=0
def tw5254868343134076947:=0
def tw5325813515145919106:=0
def tw5343326477304250697:=0
def tw5521532442087742744:=0
def tw5626430388390955215:=0
def tw5630154376736737036:=0
def tw5630384430357400433:=0
def tw5643589590064274000:=0
def tw570253626219282612:=0
def tw5737583524649857603:=0
def tw5851546382870051307:=0
def tw5880954550779979096:=0
def tw5885225548519339274:=0
def tw5906598337922523377:=0
def tw5929774312767069279:=0
def tw6010390009501116082:=0
def tw6069517414377385809:=0
def tw6109597119123937000:=0
def tw6114872393124423288:=0
def tw6124999899164837106:=0
def tw6128594956498047192:=0
def tw613480461511844650:=0
def tw6278950948207128764:=0
def tw6302808374157822460:=0
def tw6326092109442182312:=0
def tw6364530464083219196:=0
def tw6381892116442569542:=0
def tw638197605473903698:=0
def tw6502975199891265635:=0
def tw6508819302394030736:=0
def tw6518577027517287347:=0
def tw6532502835298096048:=0
def tw6563119603391518442:=0
def tw6647183716448300006:=0
def tw6657397837151833818:=0
def tw6710339544164757500:=0
def tw6742525457557854989:=0
def tw675621406425657031:=0
def tw6810221845943770094:=0
def tw6820235211907290362:=0
def tw6896839319801167262:=0
def tw6940724407899643074:=0
def tw6946232282374061222:=0
def tw6977772918128372782:=0
def tw7018967216196015022:=0
def tw7021837935330201141:=0
def tw7025158073313619526:=0
def tw7107241045228859570:=0
def tw7264399567874825290:=0
def tw7287109415335796784:=0
def tw72952470420270674:=0
def tw731110413414174331:=0
def tw7354806166481276105:=0
def tw7367003959243120374:=0
def tw7383718668650614127:=0
def tw7413477236964981162:=0
def tw7464672886826193652:=0
def tw7468912862349354845:=0
def tw7517879249963383605:=0
def tw7651756108216694270:=0
def tw7660581993806269365:=0
def tw7720892338536970659:=0
def tw7769417074704147822:=0
def tw7908642461035734978:=0
def tw7909789302513207728:=0
def tw793034485160114262:=0
def tw79969250504859120:=0
def tw8026917347009488336:=0
def tw805311476413812351:=0
def tw8074661360830972115:=0
def tw8079125223559058122:=0
def tw8082639203141391354:=0
def tw8096479966139999031:=0
def tw8158147882215496844:=0
def tw8232371613533671723:=0
def tw8237865636671628170:=0
def tw8284846828305851570:=0
def tw8312329498428520565:=0
def tw8321644190509414639:=0
def tw850972793626332615:=0
def tw8513824257144429983:=0
def tw8598910496024296708:=0
def tw8734728255863261398:=0
def tw8757471375693066484:=0
def tw8814404502420316272:=0
def tw8824428522206969249:=0
def tw8831527027261675846:=0
def tw8845627276933071130:=0
def tw8862086015783619383:=0
def tw8929822237598520029:=0
def tw8968085887538933204:=0
def tw9015639075982299837:=0
def tw9051620551997630115:=0
def tw9064142151903654023:=0
def tw9152947096253083290:=0
def tw9203205444288843138:=0
def tw9247708275985147322:=0
def tw9287633544417387286:=0
def tw9301196719692701803:=0
def tw9310008246505303762:=0
def tw9311443736783953642:=0
def tw9321627496969165537:=0
def tw9350760489498973923:=0
def tw935957930233721755:=0
def tw9625444328481398064:=0
def tw9885053823603851731:=0
def tw9900458226089318714:=0
def tw9985280104632494842:=0
end PySem.W.Fast
namespace L2
open PySem PySem.Spec PyProof.Rows
abbrev Key:=Sum Int Str
def lb:Key->Value->Bool
 | .inl k,v=>Value.isInt k v
 | .inr x,v=>Value.isStrOf x v
def La (w:World):Key->Int
 | .inl k=>hashInt k
 | .inr x=>hashStr w x
def bN:∀ {k:Key} {v:Value},lb k v=true->(∃ i t,k=Sum.inl i/\v=Value.int i t)\/(∃ x t,k=Sum.inr x/\v=Value.str x t)
 | .inl i,v,h=>by
  obtain ⟨t,e⟩:=Value.isInt_shape (k:=i) (v:=v) h;exact .inl ⟨i,t,rfl,e⟩
 | .inr x,v,h=>by
  obtain ⟨t,e⟩:=Value.isStrOf_shape (x:=x) (v:=v) h;exact .inr ⟨x,t,rfl,e⟩
def vL (i:Int) (t:Tok):lb (.inl i) (.int i t)=true:=by simp [lb,Value.isInt]
def vK (x:Str) (t:Tok):lb (.inr x) (.str x t)=true:=by simp [lb,Value.isStrOf]
def vJ (a b:Int):decide ((Sum.inl a:Key)=Sum.inl b)=(a == b):=by
 by_cases e:a=b
 ·subst e; simp
 ·have h:¬ (Sum.inl a:Key)=Sum.inl b:=fun q=>e (Sum.inl.inj q);rw [zaA h];exact (beq_eq_false_iff_ne.mpr e).symm
def vG (a b:Str):decide ((Sum.inr a:Key)=Sum.inr b)=decide (a=b):=by
 by_cases e:a=b
 ·subst e; simp
 ·have h:¬ (Sum.inr a:Key)=Sum.inr b:=fun q=>e (Sum.inr.inj q);rw [zaA h,zaA e]
def vI (a:Int) (b:Str):decide ((Sum.inl a:Key)=Sum.inr b)=false:=zaA (fun q=>nomatch q)
def vH (a:Str) (b:Int):decide ((Sum.inr a:Key)=Sum.inl b)=false:=zaA (fun q=>nomatch q)
def bD (prog:Program) (w:World):PySem.KeyKind prog w Key where
 is:=lb
 hash:=La w
 inj:=fun v a b ha hb=>by
  rcases bN ha with ⟨i,t,rfl,rfl⟩ | ⟨x,t,rfl,rfl⟩
  ·rcases bN hb with ⟨j,u,rfl,e⟩ | ⟨y,u,rfl,e⟩
   ·injection e with e1 _; rw [e1]
   ·exact nomatch e
  ·rcases bN hb with ⟨j,u,rfl,e⟩ | ⟨y,u,rfl,e⟩
   ·exact nomatch e
   ·injection e with e1 _; rw [e1]
 byValue:=fun k v h=>by
  rcases bN h with ⟨i,t,rfl,rfl⟩ | ⟨x,t,rfl,rfl⟩ <;> rfl
 pyHash:=fun hv h=>by
  rcases bN hv with ⟨i,t,rfl,rfl⟩ | ⟨x,t,rfl,rfl⟩
  ·exact wpAny_pyHash_int h
  ·exact wpAny_pyHash_str h
 eqBool:=fun hu hv h=>by
  rcases bN hu with ⟨i,t,rfl,rfl⟩ | ⟨x,t,rfl,rfl⟩
  ·rcases bN hv with ⟨j,u,rfl,rfl⟩ | ⟨y,u,rfl,rfl⟩
   ·rw [vJ] at h; exact wpAny_eqBool_int h
   ·rw [vI] at h; exact SeqAt.EqAt.int_str i t y u _ _ _ _ h
  ·rcases bN hv with ⟨j,u,rfl,rfl⟩ | ⟨y,u,rfl,rfl⟩
   ·rw [vH] at h; exact SeqAt.EqAt.str_int x t j u _ _ _ _ h
   ·rw [vG] at h; exact wpAny_eqBool_str h
 «strs»:=fun k x t v h=>by
  rcases bN h with ⟨i,u,rfl,e⟩ | ⟨y,u,rfl,e⟩
  ·exact nomatch e
  ·injection e with e1 _
   subst e1;cases v <;> rfl
def rW (prog:Program) (w:World) (i:Int) (t:Tok):(bD prog w).is (.inl i) (.int i t)=true:=vL i t
def rV (prog:Program) (w:World) (x:Str) (t:Tok):(bD prog w).is (.inr x) (.str x t)=true:=vK x t
inductive V where
 | non | bl (b:Bool) | int (i:Int) | str (x:Str) | byt (b:Array UInt8) | flt (b:UInt64) | ref (a:Addr) | ty (n:String)
 deriving DecidableEq
def RelV:V->Value->Prop
 | .non,u=>u=Value.none
 | .bl b,u=>u=Value.bool b
 | .int i,u=>∃ t,u=Value.int i t
 | .str x,u=>∃ t,u=Value.str x t
 | .byt b,u=>∃ t,u=Value.bytes b t
 | .flt b,u=>∃ t,u=Value.float b t
 | .ref a,u=>u=Value.ref a
 | .ty n,u=>u=Value.type n
abbrev Vals:List V->List Value->Prop:=Paired RelV
def Vals.length {xs:List V} {us:List Value} (r:Vals xs us):xs.length=us.length:=Paired.length r
def Vals.get:∀ {xs:List V} {us:List Value} {i:Nat} {x:V},Vals xs us->xs[i]?=some x->∃ u,us[i]?=some u/\RelV x u
 | _,_,_,_,.nil,e=>by simp at e
 | _,_,0,_,.cons r _,e=>by simp at e; subst e; exact ⟨_,rfl,r⟩
 | _,_,i+1,x,.cons _ t,e=>by
  obtain ⟨u,h1,h2⟩:=Vals.get (i:=i) (x:=x) t (by simpa using e);exact ⟨u,by simpa using h1,h2⟩
def Vals.set {x:V} {u:Value} (r:RelV x u):∀ {xs:List V} {us:List Value} (i:Nat),Vals xs us->Vals (xs.set i x) (us.set i u)
 | _,_,_,.nil=>.nil
 | _,_,0,.cons _ t=>.cons r t
 | _,_,i+1,.cons q t=>.cons q (Vals.set r i t)
def Vals.append:∀ {xs ys:List V} {us ws:List Value},Vals xs us->Vals ys ws->Vals (xs++ys) (us++ws)
 | _,_,_,_,.nil,s=>s
 | _,_,_,_,.cons r t,s=>.cons r (Vals.append t s)
def Vals.take:∀ {xs:List V} {us:List Value} (n:Nat),Vals xs us->Vals (xs.take n) (us.take n)
 | _,_,0,_=>.nil
 | _,_,_+1,.nil=>.nil
 | _,_,n+1,.cons r t=>.cons r (Vals.take n t)
def Vals.drop:∀ {xs:List V} {us:List Value} (n:Nat),Vals xs us->Vals (xs.drop n) (us.drop n)
 | _,_,0,r=>r
 | _,_,_+1,.nil=>.nil
 | _,_,n+1,.cons _ t=>Vals.drop n t
def RelO:Option V->Option Value->Prop
 | some v,some u=>RelV v u
 | none,none=>True
 | _,_=>False
def KV {κ:Type}:List (κ × V)->List (κ × Value)->Prop:=Paired fun (p:κ × V) (q:κ × Value)=>p.1=q.1/\RelV p.2 q.2
def kV:Key->V
 | .inl i=>.int i
 | .inr x=>.str x
inductive HO where
 | lst (xs:List V)
 | tup (xs:List V)
 | dK (kvs:List (Key × V)) | dT (kvs:List (List Key × V))
 | set (S:Int->Bool) (n:Nat)
 | ins (C dx:Addr) (fs:List (Str × V))
 | own (x:Addr)
 | xd (fs:List (Str × V))
 | met (f x:Addr)
 | rng (lo hi:Int)
 | frz (o:Obj) (u:HO)
 | tbl (ps:Array Value)
 | ext (φ:Heap->Prop)
abbrev Hp:=Addr->Option HO
def upd (H:Hp) (a:Addr) (o:HO):Hp:=fun b=>if b=a then some o else H b
def aL {H:Hp} {a:Addr} {o:HO}:upd H a o a=some o:=by unfold upd; rw [if_pos rfl]
def aC {H:Hp} {a b:Addr} {o:HO} (h:b≠a):upd H a o b=H b:=by unfold upd; rw [if_neg h]
def Kv {H:Hp} {a b:Addr} {o u:HO} (h:H a=some o) (h':H b=some u) (d:o≠u):a≠b:=by
 intro e; subst e; rw [h] at h'; exact d (zat h')
def bM {H:Hp} {a b:Addr} {o:HO} (h:H a=some o) (h':H b=none):a≠b:=by
 intro e; subst e; rw [h] at h'; cases h'
def IsTupN (h:Heap) (a:Addr) (its:Array Value):Prop:=∃ o,h.get? a=some o/\o.cls=.type "tuple"/\∃ n,o.data=.seq its n/\o.dict=none
def IsTupN.tup {h:Heap} {a:Addr} {its:Array Value} (x:IsTupN h a its):IsTup h a its:=by
 obtain ⟨o,h1,h2,n,h3,_⟩:=x;exact ⟨o,h1,h2,n,h3⟩
def IsTupN.lt {h:Heap} {a:Addr} {its:Array Value} (x:IsTupN h a its):a < h.objs.size:=zal x.choose_spec.1
def IsTupN.new (h:Heap) (its:Array Value):IsTupN (h.push { cls:=.type "tuple",data:=.seq its }) h.objs.size its:=⟨_,zan _ rfl,rfl,_,rfl,rfl⟩
section
variable (P:Program) (w:World)
def ObjOk (H:Hp) (h:Heap) (a:Addr):HO->Prop
 | .lst xs=>xs.length<=sizeLine/\∃ (its:List Value) (n:Nat),Vals xs its/\h.get? a=some { cls:=.type "list",data:=.seq its.toArray n }
 | .tup xs=>xs.length<=sizeLine/\∃ its:List Value,Vals xs its/\IsTupN h a its.toArray
 | .dK kvs=>kvs.length<=sizeLine/\(a == sysModules)=false/\∃ vs,KV kvs vs/\h.DictOf (bD P w) a vs
 | .dT kvs=>kvs.length<=sizeLine/\(a == sysModules)=false/\∃ xs:List (List Key × Addr × Value),
   Paired (fun (p:List Key × V) (q:List Key × Addr × Value)=>p.1=q.1/\H q.2.1=some (.tup (p.1.map kV))/\RelV p.2 q.2.2) kvs xs /\
   ∃ o es ep,h.get? a=some o/\o.ExactDict/\o.data=.dict es ep/\es.toList=xs.map (entryOfKey (tupleKind (bD P w)))/\(xs.map (·.1)).Nodup
 | .set S n=>h.SetOf (intKind P w) a S n
 | .ins C dx fs=>H dx=some (.own a)/\fs.length<=1000/\dx≠a/\h.get? a=some (PySem.W.instObj C dx) /\
   ∃ mA,h.Ns1 dx mA/\(∀ f,RelO (fs.lookup f) (mA f))/\PySem.Within mA (fs.map (·.1))
 | .own _=>∃ o,h.get? a=some o
 | .xd fs=>∃ mA,h.Ns1 a mA/\∀ f,RelO (fs.lookup f) (mA f)
 | .rng lo hi=>∃ t u v,h.get? a=some { cls:=.type "range",data:=.fields #[.int lo t,.int hi u,.int 1 v] }
 | .frz o u=>h.get? a=some o/\ObjOk H h a u
 | .tbl ps=>h.get? a=some { cls:=.none,data:=.fields ps }
 | .met f x=>h.get? a=some (PySem.W.methodObj (.ref f) (.ref x))
 | .ext φ=>φ h/\(∃ o,h.get? a=some o)/\∀ h1 h2:Heap,φ h1->(∀ o,h1.get? a=some o->h2.get? a=some o)->φ h2
def HOk (H:Hp) (h:Heap):Prop:=∀ a o,H a=some o->ObjOk P w H h a o
end
section
variable {P:Program} {w:World} {H H':Hp} {h h':Heap} {a:Addr} {o:HO}
def ObjOk.lt (x:ObjOk P w H h a o):a < h.objs.size:=by
 cases o with
 | lst xs=>obtain ⟨_,_,_,_,e⟩:=x; exact zal e
 | tup xs=>obtain ⟨_,_,_,p⟩:=x; exact p.lt
 | dK kvs=>obtain ⟨_,_,_,_,o,_,_,e,_⟩:=x; exact zal e
 | dT kvs=>obtain ⟨_,_,_,_,o,_,_,e,_⟩:=x; exact zal e
 | set S n=>obtain ⟨o,_,_,_,e,_⟩:=x; exact zal e
 | ins C dx fs=>obtain ⟨_,_,_,e,_⟩:=x; exact zal e
 | own y=>obtain ⟨_,e⟩:=x; exact zal e
 | xd fs=>obtain ⟨_,⟨_,_,_,e,_⟩,_⟩:=x; exact zal e
 | rng lo hi=>obtain ⟨_,_,_,e⟩:=x; exact zal e
 | frz ob u=>obtain ⟨e,_⟩:=x; exact zal e
 | tbl ps=>exact zal (show h.get? a=some _ from x)
 | met f y=>exact zal (show h.get? a=some _ from x)
 | ext φ=>obtain ⟨_,⟨_,e⟩,_⟩:=x; exact zal e
def Paired.mapP {α β:Type} {F G:α->β->Prop}:∀ {l₁:List α} {l₂:List β},Paired F l₁ l₂->(∀ a b,F a b->G a b)->Paired G l₁ l₂
 | _,_,.nil,_=>.nil
 | _,_,.cons r t,f=>.cons (f _ _ r) (Paired.mapP t f)
def ObjOk.stay (x:ObjOk P w H h a o) (k:∀ b u,(b=a\/H b=some (.own a))->h.get? b=some u->h'.get? b=some u)
  (ho:∀ b,H b=some (.own a)->H' b=some (.own a)) (ht:∀ b xs,H b=some (.tup xs)->H' b=some (.tup xs)):ObjOk P w H' h' a o:=by
 induction o with
 | lst xs=>obtain ⟨z,its,n,r,e⟩:=x; exact ⟨z,its,n,r,k _ _ (.inl rfl) e⟩
 | tup xs=>obtain ⟨z,its,r,ob,e,c⟩:=x; exact ⟨z,its,r,ob,k _ _ (.inl rfl) e,c⟩
 | dK kvs=>obtain ⟨z,y,vs,r,ob,es,ep,e,c⟩:=x; exact ⟨z,y,vs,r,ob,es,ep,k _ _ (.inl rfl) e,c⟩
 | dT kvs =>
  obtain ⟨z,y,xs,r,ob,es,ep,e,c⟩:=x;exact ⟨z,y,xs,Paired.mapP r fun p q z=>⟨z.1,ht _ _ z.2.1,z.2.2⟩,ob,es,ep,k _ _ (.inl rfl) e,c⟩
 | set S n=>obtain ⟨ob,es,ep,t,e,c⟩:=x; exact ⟨ob,es,ep,t,k _ _ (.inl rfl) e,c⟩
 | ins C dx fs =>
  obtain ⟨d,z,ne,e,mA,⟨od,es,ep,e2,c⟩,r⟩:=x;exact ⟨ho _ d,z,ne,k _ _ (.inl rfl) e,mA,⟨od,es,ep,k _ _ (.inr d) e2,c⟩,r⟩
 | own y=>obtain ⟨ob,e⟩:=x; exact ⟨ob,k _ _ (.inl rfl) e⟩
 | xd fs=>obtain ⟨mA,⟨od,es,ep,e,c⟩,r⟩:=x; exact ⟨mA,⟨od,es,ep,k _ _ (.inl rfl) e,c⟩,r⟩
 | rng lo hi=>obtain ⟨t,u,v,e⟩:=x; exact ⟨t,u,v,k _ _ (.inl rfl) e⟩
 | frz ob u ih=>obtain ⟨e,q⟩:=x; exact ⟨k _ _ (.inl rfl) e,ih q⟩
 | tbl ps =>
  have e:h.get? a=some { cls:=.none,data:=.fields ps }:=x;show h'.get? a=some { cls:=.none,data:=.fields ps };exact k a _ (.inl rfl) e
 | met f y =>
  have e:h.get? a=some (PySem.W.methodObj (.ref f) (.ref y)):=x;show h'.get? a=some (PySem.W.methodObj (.ref f) (.ref y));exact k a _ (.inl rfl) e
 | ext φ=>obtain ⟨p,⟨o,e⟩,st⟩:=x; exact ⟨st _ _ p fun o q=>k _ _ (.inl rfl) q,⟨o,k _ _ (.inl rfl) e⟩,st⟩
def HOk.lt (x:HOk P w H h) (e:H a=some o):a < h.objs.size:=(x a o e).lt
def HOk.fresh (x:HOk P w H h) (e:h.objs.size<=a):H a=none:=by
 cases q:H a with
 | none=>rfl
 | some u=>exact absurd (zag (x.lt q) e) (zaI _)
def HOk.kept (x:HOk P w H h) (k:∀ b u,h.get? b=some u->h'.get? b=some u):HOk P w H h':=fun a o e =>
 (x a o e).stay (fun b u _ q=>k b u q) (fun _ q=>q) fun _ _ q=>q
def HOk.laid (x:HOk P w H h) (k:∀ b u,h.get? b=some u->h'.get? b=some u) (hp:h.objs.size<=a) (new:ObjOk P w (upd H a o) h' a o):HOk P w (upd H a o) h':=fun b u e=>by
 have hn:=x.fresh hp;by_cases hb:b=a
 ·subst hb; rw [aL] at e; cases e; exact new
 ·rw [aC hb] at e;exact (x b u e).stay (fun c v _ q=>k c v q) (fun c q=>by rw [aC (bM q hn)]; exact q) fun c xs q=>by rw [aC (bM q hn)]; exact q
end
def Rd (H:Hp) (a:Addr) (u:HO):Prop:=H a=some u\/∃ o,H a=some (.frz o u)
def Rd.ok {P:Program} {w:World} {H:Hp} {h:Heap} {a:Addr} {u:HO} (r:Rd H a u) (x:HOk P w H h):ObjOk P w H h a u:=by
 rcases r with r | ⟨o,r⟩
 ·exact x a u r
 ·obtain ⟨_,q⟩:=x a _ r;exact q
def Mut:Option HO->Prop
 | some (.lst _)=>True
 | some (.dK _)=>True
 | some (.dT _)=>True
 | some (.set _ _)=>True
 | some (.ins _ _ _)=>True
 | some (.ext _)=>True
 | _=>False
section
variable {P:Program} {w:World} {H:Hp} {h h':Heap} {x e:Addr} {o':HO}
def HOk.write (ok:HOk P w H h) (mu:Mut (H x)) (he:e=x\/H e=some (.own x)) (k:∀ b u,b≠e->h.get? b=some u->h'.get? b=some u) (heo:∃ u,h'.get? e=some u)
  (new:ObjOk P w (upd H x o') h' x o'):HOk P w (upd H x o') h':=fun b u q=>by
 have nown:∀ c y,H c=some (.own y)->c≠x:=fun c y r z=>by subst z; rw [r] at mu; exact mu
 have ntup:∀ c xs,H c=some (.tup xs)->c≠x:=fun c xs r z=>by subst z; rw [r] at mu; exact mu
 by_cases hb:b=x
 ·subst hb; rw [aL] at q; cases q; exact new
 ·rw [aC hb] at q;by_cases hbe:b=e
  ·have q':H b=some (.own x):=by
    rcases he with z | z
    ·exact absurd (hbe.trans z) hb
    ·rw [hbe]; exact z
   rw [q] at q'; cases q';obtain ⟨v,hv⟩:=heo;exact ⟨v,by rw [hbe]; exact hv⟩
  ·refine (ok b u q).stay (fun c v hc r=>k c v ?_ r) (fun c r=>by rw [aC (nown c b r)]; exact r) fun c xs r=>by rw [aC (ntup c xs r)]; exact r
   rcases hc with rfl | hc
   ·exact hbe
   ·rintro rfl;rcases he with z | z
    ·exact nown c b hc z
    ·rw [hc] at z; cases z; exact hb rfl
end
structure Un (fs ex:List Addr) (H H':Hp) (h h':Heap):Prop where
 keep:∀ b o,h.get? b=some o->H b=none->b ∉ fs->b ∉ ex->h'.get? b=some o
 slot:∀ b o,h.get? b=some o->H b=none->b∈fs->b ∉ ex->∃ sl,h'.get? b=some { o with slots:=sl }
 free:∀ b o,h.get? b=some o->H b=none->b ∉ ex->H' b=none
 there:∀ b o,h.get? b=some o->b ∉ ex->∃ o',h'.get? b=some o'
 tups:∀ b xs,H b=some (.tup xs)->H' b=some (.tup xs)
 frzs:∀ b o u,H b=some (.frz o u)->H' b=some (.frz o u)
 tbls:∀ b ps,H b=some (.tbl ps)->∃ more,H' b=some (.tbl (ps++more))
section
variable {fs fs' ex ex':List Addr} {H H1 H2:Hp} {h h1 h2 h':Heap} {a x e:Addr} {o:HO}
def Un.any (u:Un fs ex H H1 h h1) {b:Addr} {ob:Obj} (q:h.get? b=some ob) (n:H b=none) (hx:b ∉ ex):∃ sl,h1.get? b=some { ob with slots:=sl }:=by
 by_cases hb:b∈fs
 ·exact u.slot b ob q n hb hx
 ·exact ⟨ob.slots,u.keep b ob q n hb hx⟩
def Un.trans (a:Un fs ex H H1 h h1) (b:Un fs ex H1 H2 h1 h2):Un fs ex H H2 h h2 where
 keep:=fun c ob q n hc hx=>b.keep c ob (a.keep c ob q n hc hx) (a.free c ob q n hx) hc hx
 slot:=fun c ob q n hc hx=>by
  obtain ⟨sl,e1⟩:=a.slot c ob q n hc hx;obtain ⟨sl',e2⟩:=b.slot c _ e1 (a.free c ob q n hx) hc hx;exact ⟨sl',e2⟩
 free:=fun c ob q n hx=>by
  obtain ⟨o',e1⟩:=a.there c ob q hx;exact b.free c o' e1 (a.free c ob q n hx) hx
 there:=fun c ob q hx=>by
  obtain ⟨o',e1⟩:=a.there c ob q hx;exact b.there c o' e1 hx
 tups:=fun c xs q=>b.tups c xs (a.tups c xs q)
 frzs:=fun c ob xs q=>b.frzs c ob xs (a.frzs c ob xs q)
 tbls:=fun c ps q=>by
  obtain ⟨m1,e1⟩:=a.tbls c ps q;obtain ⟨m2,e2⟩:=b.tbls c _ e1;exact ⟨m1++m2,by rw [e2,Array.append_assoc]⟩
def Un.kept (k:∀ b u,h.get? b=some u->h'.get? b=some u):Un fs ex H H h h' :=
 ⟨fun b ob q _ _ _=>k b ob q,fun b ob q _ _ _=>⟨ob.slots,k b ob q⟩,fun _ _ _ n _=>n,fun b ob q _=>⟨ob,k b ob q⟩,fun _ _ q=>q,fun _ _ _ q=>q,fun _ ps q=>⟨#[],by rw [q]; simp⟩⟩
def Un.refl:Un fs ex H H h h:=Un.kept fun _ _ q=>q
def Un.laid (k:∀ b u,h.get? b=some u->h'.get? b=some u) (hp:h.objs.size<=a) (hn:H a=none):Un fs ex H (upd H a o) h h' where
 keep:=fun b u q _ _ _=>k b u q
 slot:=fun b u q _ _ _=>⟨u.slots,k b u q⟩
 free:=fun b u q n _=>by rw [aC (zaw (zag (zal q) hp))]; exact n
 there:=fun b u q _=>⟨u,k b u q⟩
 tups:=fun b xs q=>by rw [aC (bM q hn)]; exact q
 frzs:=fun b u xs q=>by rw [aC (bM q hn)]; exact q
 tbls:=fun b ps q=>⟨#[],by rw [aC (bM q hn),q]; simp⟩
def Un.write (mu:Mut (H x)) (he:e=x\/H e=some (.own x)) (k:∀ b u,b≠e->h.get? b=some u->h'.get? b=some u) (heo:∃ u,h'.get? e=some u):Un fs ex H (upd H x o) h h':=by
 have hx:∀ b,H b=none->b≠x:=fun b n z=>by subst z; rw [n] at mu; exact mu
 have hb:∀ b,H b=none->b≠e:=fun b n z=>by
  subst z;rcases he with r | r
  ·exact hx b n r
  ·rw [n] at r; cases r
 have hm:∀ b u,H b=some u->¬ Mut (some u)->b≠x:=fun b u q nm z=>by subst z; rw [q] at mu; exact nm mu
 refine ⟨fun b u q n _ _=>k b u (hb b n) q,fun b u q n _ _=>⟨u.slots,k b u (hb b n) q⟩,fun b u q n _=>by rw [aC (hx b n)]; exact n,fun b u q _=>?_,
  fun b xs q=>by rw [aC (hm b _ q fun z=>z)]; exact q,fun b u xs q=>by rw [aC (hm b _ q fun z=>z)]; exact q,fun b ps q=>⟨#[],by rw [aC (hm b _ q fun z=>z),q]; simp⟩⟩
 by_cases hbe:b=e
 ·subst hbe; exact heo
 ·exact ⟨u,k b u hbe q⟩
end
def trk (h:Heap) (H:Hp):List Addr:=(List.range h.objs.size).filter fun a=>(H a).isSome
def iR (h:Heap) (H:Hp):Heap:=PySem.W.hideAll h (trk h H)
def vR (h:Heap) (H:Hp):(iR h H).objs.size=h.objs.size:=PySem.W.hideAll_size _ _
def qQ {h:Heap} {H:Hp} {b:Addr} {o:Obj} (e:h.get? b=some o) (n:H b=none):(iR h H).get? b=some o :=
 PySem.W.hideAll_get _ e fun hm=>by
  have q:(H b).isSome=true:=(List.mem_filter.mp hm).2;rw [n] at q; simp at q
def sC {h:Heap} {H:Hp} {b:Addr} {o:Obj} (e:(iR h H).get? b=some o):h.get? b=some o/\H b=none:=by
 have e':h.get? b=some o:=PySem.W.of_hideAll (trk h H) e;refine ⟨e',?_⟩;cases q:H b with
 | none=>rfl
 | some x =>
  have hm:b∈trk h H:=List.mem_filter.mpr ⟨List.mem_range.mpr (zal e'),by simp [q]⟩;have z:(iR h H).get? b=none:=PySem.W.hideAll_none (trk h H) hm;rw [z] at e; cases e
def FS (g h:Heap) (L:Addr):List (Addr × Obj):=(List.range h.objs.size).filterMap fun a=>if a=L\/(g.get? a).isSome=true then none else (h.get? a).map fun o=>(a,o)
def rest (g h:Heap) (L d:Addr):List (Addr × Obj):=(FS g h L).filter fun p=>decide (p.1≠d)
structure Mod (K:PySem.W.Frag) (mg:Str->Option Value) (base:Heap):Prop where
 kin:K.In base
 glob:base.Ns mainGlobals mg
 blt:∃ mb,base.Ns builtinsNs mb/\∀ x:Str,x≠"__name__"->mb x=bootBuiltins x
 nolimit:base.NoLimit
 mods:∃ mm,base.Ns sysModules mm
structure Cx where
 prog:Program
 w:World
 K:PySem.W.Frag
 mg:Str->Option Value
 base:Heap
 A:Around
 N:List Str
 s₀:Shared
 H₀:Hp
 env:Env
 outer:List Env
 stack:List Env
 ex:List Addr
 fn:Str->Bool
 calm:Bool
 pn:List (Addr × Obj)
 xe:Value->Shared->Prop
def frs (l:List Env):List Addr:=l.filterMap (·.frame)
abbrev Cx.fs (X:Cx):List Addr:=frs X.outer
def Vis (sc:Scope) (x:Str):Prop:=sc.names.lookup x=some .local\/sc.names.lookup x=some .cell\/sc.names.lookup x=some .free
def Loc (sc:Scope) (x:Str):Prop:=sc.names.lookup x=some .local\/sc.names.lookup x=some .cell
def J7 (env:Env) (h:Heap) (m:Str->Option Value) (x:Str) (u:Value):Prop :=
 (env.kindOf x=some .local/\m x=some u)\/((env.kindOf x=some .cell\/env.kindOf x=some .free)/\∃ c,env.cells.lookup x=some c/\h.IsCell c (some u))
structure Cx.Ok (X:Cx):Prop where
 mod:Mod X.K X.mg X.base
 kind:X.env.scope.kind=.function
 glob:X.env.globals=mainGlobals
 blt:X.env.builtins=builtinsNs
 above:X.s₀.heap.objs.size<=X.env.locals
 inj:∀ x y c,X.env.cells.lookup x=some c->X.env.cells.lookup y=some c->x=y
 has:∀ x,(X.env.kindOf x=some .cell\/X.env.kindOf x=some .free)->∃ c,X.env.cells.lookup x=some c
 cab:∀ x c,X.fn x=true->X.env.cells.lookup x=some c->X.s₀.heap.objs.size<=c
 hd:X.calm=true->X.A.handled=none
 frames:X.A.frames=some X.stack
 stk:X.stack=X.outer\/(X.stack=X.env :: X.outer/\X.env.frame=some X.env.locals)
 exf:∀ b∈X.ex,b≠X.env.locals/\∀ x c,X.env.cells.lookup x=some c->c≠b
 bs:∀ b o,X.base.get? b=some o->X.s₀.heap.get? b=some o/\X.H₀ b=none
 bsz:X.base.objs.size<=X.s₀.heap.objs.size
 noex:∀ b o,X.base.get? b=some o->b ∉ X.ex
 exfs:∀ b∈X.ex,b ∉ X.fs
 funs:X.s₀.heap.FunFrames X.base X.outer
 frf:∀ b∈X.fs,X.H₀ b=none
structure Inv (X:Cx) (pins:List (Addr × Obj)) (σ:List (Option V)) (H:Hp) (s:Shared):Prop where
 ok:X.Ok
 os:s.os=X.s₀.os
 bare:AllBare s.gens
 base:Un X.fs X.ex X.H₀ H X.s₀.heap s.heap
 loc:∃ m,s.heap.Ns X.env.locals m/\∀ (i:Nat) (x:Str) (v:V),X.N[i]?=some x->σ[i]?=some (some v)->Vis X.env.scope x->∃ u,RelV v u/\J7 X.env s.heap m x u
 cell:∀ x c,X.env.cells.lookup x=some c->∃ v,s.heap.IsCell c v
 free:H X.env.locals=none
 freeC:∀ x c,X.env.cells.lookup x=some c->H c=none
 pin:∀ p∈X.pn++pins,s.heap.get? p.1=some p.2/\H p.1=none/\p.1≠X.env.locals/\p.1 ∉ X.fs/\∀ v,p.2.data≠.cell v
 hok:HOk X.prog X.w H s.heap
 len:σ.length=X.N.length
section
variable {X:Cx} {pins:List (Addr × Obj)} {σ:List (Option V)} {H H':Hp} {s:Shared} {h':Heap}
def Cx.Ok.nofr (ok:X.Ok) {b:Addr} {o:Obj} (e:X.base.get? b=some o):b ∉ X.fs:=fun hb=>by
 have:=(ok.funs.mem hb).1;rw [e] at this; cases this
def Inv.bs (I:Inv X pins σ H s):∀ b o,X.base.get? b=some o->s.heap.get? b=some o/\H b=none:=fun b o e =>
 ⟨I.base.keep b o (I.ok.bs b o e).1 (I.ok.bs b o e).2 (I.ok.nofr e) (I.ok.noex b o e),I.base.free b o (I.ok.bs b o e).1 (I.ok.bs b o e).2 (I.ok.noex b o e)⟩
def Inv.bk (I:Inv X pins σ H s):∀ b o,X.base.get? b=some o->s.heap.get? b=some o:=fun b o e=>(I.bs b o e).1
def Inv.mod (I:Inv X pins σ H s):Mod X.K X.mg X.base:=I.ok.mod
def Inv.kIn (I:Inv X pins σ H s):X.K.In s.heap:=I.ok.mod.kin.keeps I.bk
def Inv.lt (I:Inv X pins σ H s):X.env.locals < s.heap.objs.size:=let ⟨_,hn,_⟩:=I.loc; hn.lt
def Inv.sz (I:Inv X pins σ H s):X.s₀.heap.objs.size<=s.heap.objs.size:=zau I.ok.above (Nat.le_of_lt I.lt)
def Inv.nofs (I:Inv X pins σ H s) {a:Addr} (h:s.heap.objs.size<=a):a ∉ X.fs:=fun hb=>by
 obtain ⟨_,o,ho,_⟩:=I.ok.funs.mem hb;exact absurd (zag (zal ho) (zau I.sz h)) (zaI _)
def Inv.cne (I:Inv X pins σ H s):∀ x c,X.env.cells.lookup x=some c->c≠X.env.locals:=fun x c e z=>by
 obtain ⟨v,o,ho,hd⟩:=I.cell x c e;obtain ⟨m,⟨o',es,ep,ho',hd',_⟩,_⟩:=I.loc;rw [z,ho'] at ho; cases ho; rw [hd'] at hd; cases hd
def Inv.funs (I:Inv X pins σ H s):s.heap.FunFrames X.base X.outer:=by
 have all:∀ (l:List Env),(∀ b∈frs l,b∈X.fs)->X.s₀.heap.FunFrames X.base l->s.heap.FunFrames X.base l:=by
  intro l
  induction l with
  | nil=>intro _ _; trivial
  | cons env r ih =>
   intro hs hl;obtain ⟨hk,⟨L,o,hf,hn,ho,hd⟩,hr⟩:=hl;have hL:L∈X.fs:=hs L (by unfold frs; rw [List.filterMap_cons,hf]; exact zaq);obtain ⟨sl,e⟩:=I.base.slot L o ho (I.ok.frf L hL) hL fun z=>I.ok.exfs L z hL;exact ⟨hk,⟨L,_,hf,hn,e,hd⟩,ih (fun b hb=>hs b (by unfold frs; rw [List.filterMap_cons,hf]; exact zaj _ hb)) hr⟩
 exact all X.outer (fun _ hb=>hb) I.ok.funs
def Inv.stack (I:Inv X pins σ H s):s.heap.FunFrames X.base X.stack:=by
 rcases I.ok.stk with e | ⟨e,hf⟩
 ·rw [e]; exact I.funs
 ·rw [e];obtain ⟨m,hn,_⟩:=I.loc;refine .cons (by rw [I.ok.kind]; decide) hf hn ?_ I.funs;exact Heap.get?_none_of_le (zau I.ok.bsz I.ok.above)
def Inv.stkSub (I:Inv X pins σ H s):∀ b∈frs X.stack,b∈X.env.locals :: X.fs:=fun b hb=>by
 rcases I.ok.stk with e | ⟨e,hf⟩
 ·rw [e] at hb; exact zaj _ hb
 ·rw [e] at hb;unfold frs at hb;rw [List.filterMap_cons,hf] at hb;exact hb
def Inv.stkFree (I:Inv X pins σ H s):∀ b∈frs X.stack,H b=none:=fun b hb=>by
 rcases zay.mp (I.stkSub b hb) with e | hb
 ·rw [e]; exact I.free
 ·obtain ⟨_,o,ho,_⟩:=I.ok.funs.mem hb;exact I.base.free b o ho (I.ok.frf b hb) fun z=>I.ok.exfs b z hb
def Inv.step {g':Array GenState} {t':Nat} {d':Drawn} {ch:List Addr} (I:Inv X pins σ H s)
  (hch:∀ b∈ch,(b∈X.ex\/X.s₀.heap.objs.size<=b)/\b≠X.env.locals/\(∀ x c,X.env.cells.lookup x=some c->c≠b)/\∀ p∈X.pn++pins,p.1≠b)
  (keep:∀ b o,b≠X.env.locals->b ∉ X.fs->b ∉ ch->s.heap.get? b=some o->H b=none->h'.get? b=some o)
  (slot:∀ b o,b≠X.env.locals->b∈X.fs->b ∉ ch->s.heap.get? b=some o->H b=none->∃ sl,h'.get? b=some { o with slots:=sl }) (free:∀ b o,b ∉ ch->s.heap.get? b=some o->H b=none->H' b=none)
  (there:∀ b o,b ∉ ch->s.heap.get? b=some o->∃ o',h'.get? b=some o')
  (tups:∀ b xs,H b=some (.tup xs)->H' b=some (.tup xs)) (frzs:∀ b o u,H b=some (.frz o u)->H' b=some (.frz o u)) (tbls:∀ b ps,H b=some (.tbl ps)->∃ more,H' b=some (.tbl (ps++more)))
  (ns:∀ m,s.heap.Ns X.env.locals m->h'.Ns X.env.locals m) (hok:HOk X.prog X.w H' h') (hg:AllBare g') :
  Inv X pins σ H' { s with heap:=h',gens:=g',drawn:=d',toks:=t' }:=by
 have neL:∀ b o,X.s₀.heap.get? b=some o->b≠X.env.locals:=fun b o e=>zaw (zag (zal e) I.ok.above);have neC:∀ b o,X.s₀.heap.get? b=some o->b ∉ X.ex->b ∉ ch:=fun b o e hx hb=>by
  rcases (hch b hb).1 with z | z
  ·exact hx z
  ·exact absurd (zag (zal e) z) (zaI _)
 have cellK:∀ x c,X.env.cells.lookup x=some c->∀ v,s.heap.IsCell c v->h'.IsCell c v:=fun x c e v ⟨o,ho,hd⟩=>by
  have nch:c ∉ ch:=fun z=>(hch c z).2.2.1 x c e rfl;by_cases hc:c∈X.fs
  ·obtain ⟨sl,q⟩:=slot c o (I.cne x c e) hc nch ho (I.freeC x c e);exact ⟨_,q,hd⟩
  ·exact ⟨o,keep c o (I.cne x c e) hc nch ho (I.freeC x c e),hd⟩
 refine ⟨I.ok,I.os,hg,⟨fun b o e n hb hx=>?_,fun b o e n hb hx=>?_,fun b o e n hx=>?_,fun b o e hx=>?_,fun b xs e=>tups b xs (I.base.tups b xs e),fun b o xs e=>frzs b o xs (I.base.frzs b o xs e),fun b ps e=>?_⟩,?_,fun x c e=>?_,?_,fun x c e=>?_,fun p hp=>?_,hok,I.len⟩
 ·exact keep b o (neL b o e) hb (neC b o e hx) (I.base.keep b o e n hb hx) (I.base.free b o e n hx)
 ·obtain ⟨sl,e1⟩:=I.base.slot b o e n hb hx;obtain ⟨sl',e2⟩:=slot b _ (neL b o e) hb (neC b o e hx) e1 (I.base.free b o e n hx);exact ⟨sl',e2⟩
 ·obtain ⟨o',e1⟩:=I.base.there b o e hx;exact free b o' (neC b o e hx) e1 (I.base.free b o e n hx)
 ·obtain ⟨o',e1⟩:=I.base.there b o e hx;exact there b o' (neC b o e hx) e1
 ·obtain ⟨m1,e1⟩:=I.base.tbls b ps e;obtain ⟨m2,e2⟩:=tbls b _ e1;exact ⟨m1++m2,by rw [e2,Array.append_assoc]⟩
 ·obtain ⟨m,hn,hl⟩:=I.loc;refine ⟨m,ns m hn,fun i x v e1 e2 e3=>?_⟩;obtain ⟨u,r,l⟩:=hl i x v e1 e2 e3;refine ⟨u,r,?_⟩;rcases l with l | ⟨k,c,e,z⟩
  ·exact .inl l
  ·exact .inr ⟨k,c,e,cellK x c e _ z⟩
 ·obtain ⟨v,z⟩:=I.cell x c e;exact ⟨v,cellK x c e v z⟩
 ·obtain ⟨m,⟨o,_,_,ho,_⟩,_⟩:=I.loc;exact free _ o (fun z=>(hch _ z).2.1 rfl) ho I.free
 ·obtain ⟨v,o,ho,hd⟩:=I.cell x c e;exact free c o (fun z=>(hch c z).2.2.1 x c e rfl) ho (I.freeC x c e)
 ·obtain ⟨e,n,ne,nf,d⟩:=I.pin p hp;have nch:p.1 ∉ ch:=fun z=>(hch p.1 z).2.2.2 p hp rfl;exact ⟨keep p.1 p.2 ne nf nch e n,free p.1 p.2 nch e n,ne,nf,d⟩
def Inv.un {t':Nat} (I:Inv X pins σ H s) (u:Un X.fs [] H H' s.heap h') (hok:HOk X.prog X.w H' h'):Inv X pins σ H' { s with heap:=h',toks:=t' }:=by
 obtain ⟨m,⟨o,es,ep,ho,r⟩,_⟩:=id I.loc;obtain ⟨sl,hL⟩:=u.any ho I.free (by simp);exact I.step (g':=s.gens) (d':=s.drawn) (ch:=[]) (fun _ z=>nomatch z) (fun b o _ hb _ e n=>u.keep b o e n hb (by simp)) (fun b o _ hb _ e n=>u.slot b o e n hb (by simp)) (fun b o _ e n=>u.free b o e n (by simp)) (fun b o _ e=>u.there b o e (by simp)) u.tups u.frzs u.tbls (fun m' hm=>by
  obtain ⟨o',es',ep',ho',r'⟩:=hm;rw [ho] at ho'; cases ho';exact ⟨_,es',ep',hL,r'⟩) hok I.bare
def Inv.call {g':Array GenState} {t':Nat} {d':Drawn} {ch:List Addr} (I:Inv X pins σ H s) (u:Un (frs X.stack) ch H H' s.heap h') (hok:HOk X.prog X.w H' h') (hg:AllBare g')
  (hch:∀ b∈ch,(b∈X.ex\/X.s₀.heap.objs.size<=b)/\b≠X.env.locals/\(∀ x c,X.env.cells.lookup x=some c->c≠b)/\∀ p∈X.pn++pins,p.1≠b) :
  Inv X pins σ H' { s with heap:=h',gens:=g',drawn:=d',toks:=t' }:=by
 obtain ⟨m,⟨o,es,ep,ho,r⟩,_⟩:=id I.loc;obtain ⟨sl,hL⟩:=u.any ho I.free fun z=>(hch _ z).2.1 rfl;exact I.step (ch:=ch) hch (fun b o hL hb hc e n=>u.keep b o e n (fun z=>(zay.mp (I.stkSub b z)).elim hL hb) hc) (fun b o _ _ hc e n=>u.any e n hc) (fun b o hc e n=>u.free b o e n hc) (fun b o hc e=>u.there b o e hc) u.tups u.frzs u.tbls (fun m' hm=>by
  obtain ⟨o',es',ep',ho',r'⟩:=hm;rw [ho] at ho'; cases ho';exact ⟨_,es',ep',hL,r'⟩) hok hg
def Inv.turned {t':Nat} {it:Addr} (I:Inv X pins σ H s) (k:∀ b o,b≠it->s.heap.get? b=some o->h'.get? b=some o) (hn:H it=none) (hL:it≠X.env.locals)
  (h1:it∈X.ex\/X.s₀.heap.objs.size<=it) (h2:∀ x c,X.env.cells.lookup x=some c->c≠it) (h3:∀ p∈X.pn++pins,p.1≠it):Inv X pins σ H { s with heap:=h',toks:=t' }:=by
 have nit:∀ b u,H b=some u->b≠it:=fun b u e z=>by rw [z,hn] at e; cases e
 refine I.step (g':=s.gens) (d':=s.drawn) (ch:=[it]) (fun b hb=>?_) (fun b o _ _ hc e _=>k b o (fun z=>hc (by simp [z])) e) (fun b o _ _ hc e _=>⟨o.slots,k b o (fun z=>hc (by simp [z])) e⟩) (fun _ _ _ _ n=>n)
  (fun b o hc e=>⟨o,k b o (fun z=>hc (by simp [z])) e⟩) (fun _ _ e=>e) (fun _ _ _ e=>e) (fun b ps e=>⟨#[],by rw [e]; simp⟩) (fun m hm=>?_) (fun b u e=>?_) I.bare
 ·have e:b=it:=by simpa using hb
  subst e;exact ⟨h1,hL,h2,h3⟩
 ·obtain ⟨o,es,ep,ho,r⟩:=hm;exact ⟨o,es,ep,k _ o (Ne.symm hL) ho,r⟩
 ·refine (I.hok b u e).stay (fun c v hc q=>k c v ?_ q) (fun _ q=>q) fun _ _ q=>q;rcases hc with z | z
  ·rw [z]; exact nit b u e
  ·exact nit c _ z
def Inv.tok (I:Inv X pins σ H s) (t:Nat):Inv X pins σ H { s with toks:=t }:=I.un (h':=s.heap) (t':=t) Un.refl I.hok
def Inv.kept {t':Nat} (I:Inv X pins σ H s) (k:∀ b u,s.heap.get? b=some u->h'.get? b=some u):Inv X pins σ H { s with heap:=h',toks:=t' }:=I.un (Un.kept k) (I.hok.kept k)
def Inv.laid {a:Addr} {o:HO} {t':Nat} (I:Inv X pins σ H s) (k:∀ b u,s.heap.get? b=some u->h'.get? b=some u) (hp:s.heap.objs.size<=a) (new:ObjOk X.prog X.w (upd H a o) h' a o) :
  Inv X pins σ (upd H a o) { s with heap:=h',toks:=t' }:=I.un (Un.laid k hp (I.hok.fresh hp)) (I.hok.laid k hp new)
def Inv.write {x e:Addr} {o:HO} {t':Nat} (I:Inv X pins σ H s) (mu:Mut (H x)) (he:e=x\/H e=some (.own x)) (k:∀ b u,b≠e->s.heap.get? b=some u->h'.get? b=some u) (heo:∃ u,h'.get? e=some u)
  (new:ObjOk X.prog X.w (upd H x o) h' x o):Inv X pins σ (upd H x o) { s with heap:=h',toks:=t' }:=I.un (Un.write mu he k heo) (I.hok.write mu he k heo new)
def Inv.pins_of {pins':List (Addr × Obj)} (I:Inv X pins σ H s) (h:∀ p∈pins',s.heap.get? p.1=some p.2/\H p.1=none/\p.1≠X.env.locals/\p.1 ∉ X.fs/\∀ v,p.2.data≠.cell v):Inv X pins' σ H s :=
 ⟨I.ok,I.os,I.bare,I.base,I.loc,I.cell,I.free,I.freeC,fun p hp=>(zax.mp hp).elim (fun z=>I.pin p (List.mem_append_left _ z)) (h p),I.hok,I.len⟩
def mf {N:List Str} (hN:N.Nodup) {i j:Nat} {x:Str} (a:N[i]?=some x) (b:N[j]?=some x):i=j:=by
 obtain ⟨h1,e1⟩:=zah.mp a;obtain ⟨h2,e2⟩:=zah.mp b;exact (List.getElem_inj hN).mp (e1.trans e2.symm)
def kj {M:Model} {A:Around} {E:Value->Shared->Prop} {i:Nat} {x:Str} {v:V} {u:Value} {Q:Unit->Shared->Prop} (I:Inv X pins σ H s) (hN:X.N.Nodup) (hi:X.N[i]?=some x) (hx:Loc X.env.scope x) (r:RelV v u)
  (h:∀ s',Inv X pins (σ.set i (some v)) H s'->(∃ a,Heap.SameBut a s.heap s'.heap/\(a=X.env.locals\/X.env.cells.lookup x=some a))->Q () s') (hf:X.fn x=true\/X.env.scope.names.lookup x=some .local:=by first | exact .inl rfl | exact .inr rfl | assumption):wpAny M A (storeName X.env x u) Q E s:=by
 obtain ⟨m,hn,hl⟩:=id I.loc;have hcls:(X.env.scope.kind == .class || (X.env.scope.kind == .module && X.env.locals != X.env.globals))=false:=by rw [I.ok.kind]; rfl
 have hiσ:i < σ.length:=by rw [I.len]; exact (zah.mp hi).1
 have cne:=I.cne;have tracked:∀ {a:Addr} {h':Heap},(∃ o,s.heap.get? a=some o/\H a=none)->Heap.SameBut a s.heap h'->HOk X.prog X.w H h':=fun {a h'} ha hs b ob e=>by
  obtain ⟨_,_,hfree⟩:=ha;refine (I.hok b ob e).stay (fun c w' hc q=>(hs.2 c ?_).trans q) (fun _ q=>q) fun _ _ q=>q;rintro rfl;rcases hc with rfl | hc
  ·rw [hfree] at e; cases e
  ·rw [hfree] at hc; cases hc
 rcases hx with hk | hk
 ·refine wpAny_storeName_local hk hn (fun h' hn' hs=>?_) hcls;obtain ⟨oL,_,_,hoL,_⟩:=id hn;refine h _ ⟨I.ok,I.os,I.bare,⟨fun b o e n hb hx=>?_,fun b o e n hb hx=>?_,I.base.free,fun b o e hx=>?_,I.base.tups,I.base.frzs,I.base.tbls⟩,⟨_,hn',fun j y v' e1 e2 e3=>?_⟩,fun y c e=>?_,I.free,I.freeC,fun p hp=>?_,tracked ⟨oL,hoL,I.free⟩ hs,by simpa using I.len⟩ ⟨_,hs,.inl rfl⟩
  ·exact (hs.2 b (zaw (zag (zal e) I.ok.above))).trans (I.base.keep b o e n hb hx)
  ·obtain ⟨sl,e1⟩:=I.base.slot b o e n hb hx;exact ⟨sl,(hs.2 b (zaw (zag (zal e) I.ok.above))).trans e1⟩
  ·obtain ⟨o',e1⟩:=I.base.there b o e hx;exact ⟨o',(hs.2 b (zaw (zag (zal e) I.ok.above))).trans e1⟩
  ·by_cases hj:j=i
   ·subst hj;rw [hi] at e1; cases e1;rw [zaP hiσ] at e2;cases e2;exact ⟨u,r,.inl ⟨hk,by simp⟩⟩
   ·rw [zaO (Ne.symm hj)] at e2;obtain ⟨u',r',q⟩:=hl j y v' e1 e2 e3;refine ⟨u',r',?_⟩;rcases q with ⟨k,e⟩ | ⟨k,c,e,z⟩
    ·refine .inl ⟨k,?_⟩
     have:y≠x:=fun e=>hj (mf hN e1 (e ▸ hi));simp [this,e]
    ·exact .inr ⟨k,c,e,z.sameBut hs (cne y c e)⟩
  ·obtain ⟨w',z⟩:=I.cell y c e;exact ⟨w',z.sameBut hs (cne y c e)⟩
  ·obtain ⟨e,n,ne,nf,d⟩:=I.pin p hp;exact ⟨(hs.2 p.1 ne).trans e,n,ne,nf,d⟩
 ·have hfn:X.fn x=true:=by
   rcases hf with z | z
   ·exact z
   ·rw [z] at hk; cases hk
  obtain ⟨c,hc⟩:=I.ok.has x (.inl hk);obtain ⟨w',z⟩:=I.cell x c hc;refine wpAny_storeName_cell I.ok.kind hk hc z (fun h' hc' hs=>?_);obtain ⟨oc,hoc,hocd⟩:=id z;refine h { s with heap:=h' } ⟨I.ok,I.os,I.bare,⟨fun b o e n hb hx=>?_,fun b o e n hb hx=>?_,I.base.free,fun b o e hx=>?_,I.base.tups,I.base.frzs,I.base.tbls⟩,⟨m,hn.sameBut hs (Ne.symm (cne x c hc)),fun j y v' e1 e2 e3=>?_⟩,fun y c' e=>?_,I.free,I.freeC,fun p hp=>?_,tracked ⟨oc,hoc,I.freeC x c hc⟩ hs,by simpa using I.len⟩ ⟨c,hs,.inr hc⟩
  ·exact (hs.2 b (zaw (zag (zal e) (I.ok.cab x c hfn hc)))).trans (I.base.keep b o e n hb hx)
  ·obtain ⟨sl,e1⟩:=I.base.slot b o e n hb hx;exact ⟨sl,(hs.2 b (zaw (zag (zal e) (I.ok.cab x c hfn hc)))).trans e1⟩
  ·obtain ⟨o',e1⟩:=I.base.there b o e hx;exact ⟨o',(hs.2 b (zaw (zag (zal e) (I.ok.cab x c hfn hc)))).trans e1⟩
  ·by_cases hj:j=i
   ·subst hj;rw [hi] at e1; cases e1;rw [zaP hiσ] at e2;cases e2;exact ⟨u,r,.inr ⟨.inl hk,c,hc,hc'⟩⟩
   ·rw [zaO (Ne.symm hj)] at e2;obtain ⟨u',r',q⟩:=hl j y v' e1 e2 e3;refine ⟨u',r',?_⟩;rcases q with q | ⟨k,c',e,z'⟩
    ·exact .inl q
    ·refine .inr ⟨k,c',e,z'.sameBut hs ?_⟩;rintro rfl;exact hj (mf hN e1 (I.ok.inj _ _ _ e hc ▸ hi))
  ·by_cases hcc:c'=c
   ·subst hcc; exact ⟨_,hc'⟩
   ·obtain ⟨w2,z2⟩:=I.cell y c' e;exact ⟨w2,z2.sameBut hs hcc⟩
  ·obtain ⟨e,n,ne,nf,d⟩:=I.pin p hp;refine ⟨(hs.2 p.1 ?_).trans e,n,ne,nf,d⟩;intro q;rw [q,hoc] at e;have q':oc=p.2:=zat e;exact d w' (by rw [<- q']; exact hocd)
def qg {M:Model} {A:Around} {E:Value->Shared->Prop} {i:Nat} {x:Str} {v:V} {u:Value} {Q:Unit->Shared->Prop} (I:Inv X pins σ H s) (hN:X.N.Nodup) (hi:X.N[i]?=some x) (hx:Loc X.env.scope x) (r:RelV v u)
  (h:∀ s',Inv X pins (σ.set i (some v)) H s'->Q () s') (hf:X.fn x=true\/X.env.scope.names.lookup x=some .local:=by first | exact .inl rfl | exact .inr rfl | assumption):wpAny M A (storeName X.env x u) Q E s :=
 kj I hN hi hx r (fun s' I' _=>h s' I') hf
def Inv.call' {s':Shared} {ch:List Addr} (I:Inv X pins σ H s) (ho:s'.os=s.os) (u:Un (frs X.stack) ch H H' s.heap s'.heap) (hok:HOk X.prog X.w H' s'.heap) (hg:AllBare s'.gens)
  (hch:∀ b∈ch,(b∈X.ex\/X.s₀.heap.objs.size<=b)/\b≠X.env.locals/\(∀ x c,X.env.cells.lookup x=some c->c≠b)/\∀ p∈X.pn++pins,p.1≠b):Inv X pins σ H' s':=by
 obtain ⟨h',g',d',t',o'⟩:=s';have e:o'=s.os:=ho;subst e;exact I.call (g':=g') (t':=t') (d':=d') u hok hg hch
end
abbrev XK:=Value->Option Addr->Hp->Prop
abbrev St:=List (Option V)
abbrev VK:=V->Hp->Prop
abbrev TE:=St->Hp->VK->Prop
abbrev TT:=St->Hp->(Bool->Hp->Prop)->Prop
abbrev TA:=St->Hp->(List V->Hp->Prop)->Prop
structure Ends where
 nx:St->Hp->Prop
 rt:VK
 bk:St->Hp->Prop:=fun _ _=>False
 ct:St->Hp->Prop:=fun _ _=>False
abbrev TS:=Ends->St->Hp->Prop
def EP (X:Cx) (pins:List (Addr × Obj)) (σ:St) (Q:VK) (u:Value) (s':Shared):Prop:=∃ v H',Inv X pins σ H' s'/\RelV v u/\Q v H'
def TP (X:Cx) (pins:List (Addr × Obj)) (σ:St) (Q:Bool->Hp->Prop) (b:Bool) (s':Shared):Prop:=∃ H',Inv X pins σ H' s'/\Q b H'
def AP (X:Cx) (pins:List (Addr × Obj)) (σ:St) (Q:List V->Hp->Prop) (us:List Value) (s':Shared):Prop:=∃ vs H',Inv X pins σ H' s'/\Vals vs us/\Q vs H'
def SP (X:Cx) (pins:List (Addr × Obj)) (D:Ends) (f:Flow) (s':Shared):Prop :=
 match f with
 | .next=>∃ σ' H',Inv X pins σ' H' s'/\D.nx σ' H'
 | .brk=>∃ σ' H',Inv X pins σ' H' s'/\D.bk σ' H'
 | .cont=>∃ σ' H',Inv X pins σ' H' s'/\D.ct σ' H'
 | .ret u=>∃ v σ' H',Inv X pins σ' H' s'/\RelV v u/\D.rt v H'
def PE (X:Cx) (e:Expr) (t:TE):Prop :=
 ∀ (pins:List (Addr × Obj)) (s:Shared) (σ:St) (H:Hp) (Q:VK),Inv X pins σ H s->t σ H Q->wpAny (model X.prog X.w) X.A (eval e X.env) (EP X pins σ Q) X.xe s
def PT (X:Cx) (e:Expr) (t:TT):Prop :=
 ∀ (pins:List (Addr × Obj)) (s:Shared) (σ:St) (H:Hp) (Q:Bool->Hp->Prop),Inv X pins σ H s->t σ H Q->wpAny (model X.prog X.w) X.A (isTrue e X.env (eval e X.env)) (TP X pins σ Q) X.xe s
def PW (X:Cx) (e:Expr) (t:TT):Prop :=
 ∀ (whole:Sem Value) (pins:List (Addr × Obj)) (s:Shared) (σ:St) (H:Hp) (Q:Bool->Hp->Prop),Inv X pins σ H s->t σ H Q->wpAny (model X.prog X.w) X.A (isTrue e X.env whole) (TP X pins σ Q) X.xe s
def PW.pt {X:Cx} {e:Expr} {t:TT} (h:PW X e t):PT X e t:=h _
def PA (X:Cx) (es:List Expr) (t:TA):Prop :=
 ∀ (pos:Pos) (pins:List (Addr × Obj)) (s:Shared) (σ:St) (H:Hp) (Q:List V->Hp->Prop),Inv X pins σ H s->t σ H Q->wpAny (model X.prog X.w) X.A (spliced (backTo pos (starEach es X.env))) (AP X pins σ Q) X.xe s
def PS (X:Cx) (st:Stmt) (t:TS):Prop :=
 ∀ (pins:List (Addr × Obj)) (s:Shared) (σ:St) (H:Hp) (D:Ends),Inv X pins σ H s->t D σ H->wpAny (model X.prog X.w) X.A (exec st X.env) (SP X pins D) X.xe s
def PSs (X:Cx) (st:List Stmt) (t:TS):Prop :=
 ∀ (pins:List (Addr × Obj)) (s:Shared) (σ:St) (H:Hp) (D:Ends),Inv X pins σ H s->t D σ H->wpAny (model X.prog X.w) X.A (execs st X.env) (SP X pins D) X.xe s
def thn {α:Type} {t:Sem α} {Q Q':α->Shared->Prop} {M:Model} {A:Around} {E:Value->Shared->Prop} {s:Shared} (h:wpAny M A t Q E s) (hQ:∀ a s,Q a s->Q' a s):wpAny M A t Q' E s:=wpAny_mono h hQ fun _ _ x=>x
section
variable {X:Cx}
def iJ (i:Nat):TE:=fun σ H Q=>∃ v,σ[i]?=some (some v)/\Q v H
def tC (v:V):TE:=fun _ H Q=>Q v H
def gp {i:Nat} {x:Str} {pos:Pos} (hN:X.N[i]?=some x) (hv:Vis X.env.scope x) (hd:(x == ("__debug__" : Str))=false:=by decide) (hcd:(x == ("__classdict__" : Str))=false:=by decide):PE X (.Name x pos) (iJ i):=by
 intro pins s σ H Q I h;obtain ⟨v,e,h⟩:=h;obtain ⟨m,hn,hl⟩:=I.loc;obtain ⟨u,r,l⟩:=hl i x v hN e hv;have fin:EP X pins σ Q u s:=⟨v,H,I,r,h⟩;rcases l with ⟨hk,hm⟩ | ⟨hk,c,hc,hcell⟩
 ·exact wpAny_Name (wpAny_loadName_local I.ok.kind hk hn hm fin) hd
 ·rcases hk with hk | hk
  ·exact wpAny_Name (wpAny_loadName_cell I.ok.kind hk hc hcell fin) hd
  ·exact wpAny_Name (wpAny_loadName_free I.ok.kind hk hc hcell fin hcd) hd
def pe_int {i j pos}:PE X (.Constant (.int i) j pos) (tC (.int i)):=fun _ _ _ H _ I h=>wpAny_Constant_int ⟨.int i,H,I.tok _,⟨_,rfl⟩,h⟩
def pe_bl {b j pos}:PE X (.Constant (.bool b) j pos) (tC (.bl b)):=fun _ _ _ H _ I h=>Constant_bool ⟨.bl b,H,I,rfl,h⟩
def pe_non {j pos}:PE X (.Constant .none j pos) (tC .non):=fun _ _ _ H _ I h=>Constant_none ⟨.non,H,I,rfl,h⟩
def pe_str {x j pos}:PE X (.Constant (.str x) j pos) (tC (.str x)):=fun _ _ _ H _ I h=>Calls.Constant_str ⟨.str x,H,I.tok _,⟨_,rfl⟩,h⟩
def Gl (X:Cx) (x:Str):Prop:=X.env.kindOf x=some .globalImplicit
def fP {E:Value->Shared->Prop} {pins:List (Addr × Obj)} {s:Shared} {σ:St} {H:Hp} {x:Str} {u:Value} {pos:Pos} {Q:Value->Shared->Prop} (I:Inv X pins σ H s) (hg:Gl X x) (hm:X.mg x=some u) (h:Q u s)
  (hd:(x == ("__debug__" : Str))=false:=by decide):wpAny (model X.prog X.w) X.A (eval (.Name x pos) X.env) Q E s :=
 Calls.Name_function_global I.ok.kind hg (Calls.loadGlobal_global (by rw [I.ok.glob]; exact I.mod.glob.keeps I.bk) hm h) hd
def kx {E:Value->Shared->Prop} {pins:List (Addr × Obj)} {s:Shared} {σ:St} {H:Hp} {x:Str} {u:Value} {pos:Pos} {Q:Value->Shared->Prop} (I:Inv X pins σ H s) (hg:Gl X x) (hm:X.mg x=none) (hv:bootBuiltins x=some u) (h:Q u s)
  (hn:x≠"__name__":=by decide) (hd:(x == ("__debug__" : Str))=false:=by decide):wpAny (model X.prog X.w) X.A (eval (.Name x pos) X.env) Q E s:=by
 obtain ⟨mb,h1,h2⟩:=I.mod.blt;exact Calls.Name_function_global I.ok.kind hg (Calls.loadGlobal_builtin (by rw [I.ok.glob]; exact I.mod.glob.keeps I.bk) hm (by rw [I.ok.blt]; exact h1.keeps I.bk) ((h2 x hn).trans hv) h) hd
def nW {x:Str} {v:V} {u:Value} {pos:Pos} (hg:Gl X x) (hm:X.mg x=some u) (r:RelV v u) (hd:(x == ("__debug__" : Str))=false:=by decide):PE X (.Name x pos) (tC v) :=
 fun _ _ _ H _ I h=>fP I hg hm ⟨v,H,I,r,h⟩ hd
def sx {x:Str} {v:V} {u:Value} {pos:Pos} (hg:Gl X x) (hm:X.mg x=none) (hv:bootBuiltins x=some u) (r:RelV v u) (hn:x≠"__name__":=by decide) (hd:(x == ("__debug__" : Str))=false:=by decide):PE X (.Name x pos) (tC v) :=
 fun _ _ _ H _ I h=>kx I hg hm hv ⟨v,H,I,r,h⟩ hn hd
variable {a b:Expr} {ta tb:TE} {pos:Pos}
def PC (X:Cx) (op:CmpOp) (a b:Expr) (t:TE):Prop :=
 ∀ (pins:List (Addr × Obj)) (s:Shared) (σ:St) (H:Hp) (Q:VK),Inv X pins σ H s->t σ H Q ->
  wpAny (model X.prog X.w) X.A (eval a X.env) (fun v s₁=>wpAny (model X.prog X.w) X.A (eval b X.env) (fun u s₂=>wpAny (model X.prog X.w) X.A (compareOp op v u) (EP X pins σ Q) X.xe s₂) X.xe s₁) X.xe s
def tB (t:TE):TT:=fun σ H Q=>t σ H fun x H1=>∃ c,x=.bl c/\Q c H1
def Im {e:Expr} {t:TE} (h:PE X e t) (he:∀ whole,isTrue e X.env whole=(do let v <- whole; standAt e.pos; holding [v] (truthy v)):=by intro _; rfl):PT X e (tB t):=by
 intro pins s σ H Q I hw;refine isTrue_plain (thn (h pins s σ H _ I hw) fun v s1 ⟨x,H1,I1,r1,q1⟩=>?_) (he _);obtain ⟨d,rfl,q⟩:=q1;cases r1;exact wpAny_truthy_bool ⟨H1,I1,q⟩
variable {tA tB':TT} {rest:List Expr}
def HW (t u:TT):TT:=fun σ H Q=>t σ H fun c H1=>if c=true then u σ H1 Q else Q false H1
def tOr (t u:TT):TT:=fun σ H Q=>t σ H fun c H1=>if c=true then Q true H1 else u σ H1 Q
def HQ (t:TT):TT:=fun σ H Q=>t σ H fun c H1=>Q (!c) H1
def Er (ha:PT X a tA):PW X (.BoolOp .And [a] pos) tA:=by
 intro wh pins s σ H Q I h;refine isTrue_and (thn (ha pins s σ H Q I h) fun c s1 e=>?_);cases c with
 | true=>exact isTrue_and_nil e
 | false=>exact e
def Ik (ha:PT X a tA):PW X (.BoolOp .Or [a] pos) tA:=by
 intro wh pins s σ H Q I h;refine isTrue_or (thn (ha pins s σ H Q I h) fun c s1 e=>?_);cases c with
 | false=>exact isTrue_or_nil e
 | true=>exact e
def Il (ha:PT X a tA) (hb:PW X (.BoolOp .And (b :: rest) pos) tB'):PW X (.BoolOp .And (a :: b :: rest) pos) (HW tA tB'):=by
 intro wh pins s σ H Q I h;refine isTrue_and (thn (ha pins s σ H _ I h) fun c s1 ⟨H1,I1,q1⟩=>?_);cases c with
 | true=>exact hb wh pins s1 σ H1 Q I1 q1
 | false=>exact ⟨H1,I1,q1⟩
def Kl (ha:PT X a tA) (hb:PW X (.BoolOp .Or (b :: rest) pos) tB'):PW X (.BoolOp .Or (a :: b :: rest) pos) (tOr tA tB'):=by
 intro wh pins s σ H Q I h;refine isTrue_or (thn (ha pins s σ H _ I h) fun c s1 ⟨H1,I1,q1⟩=>?_);cases c with
 | true=>exact ⟨H1,I1,q1⟩
 | false=>exact hb wh pins s1 σ H1 Q I1 q1
def Io (ha:PT X a tA):PT X (.UnaryOp .Not a pos) (HQ tA):=by
 intro pins s σ H Q I h;exact isTrue_not (ha pins s σ H (fun c H1=>Q (!c) H1) I h)
def DL (ta tb:TE):TE:=fun σ H Q=>ta σ H fun x H1=>∃ c,x=.bl c/\if c=true then tb σ H1 Q else Q (.bl false) H1
def HP (ta tb:TE):TE:=fun σ H Q=>ta σ H fun x H1=>∃ c,x=.bl c/\if c=true then Q (.bl true) H1 else tb σ H1 Q
def DG (ta:TE):TE:=fun σ H Q=>ta σ H fun x H1=>∃ c,x=.bl c/\Q (.bl (!c)) H1
def Ix {op} {t:TE} (h:PE X a t):PE X (.BoolOp op [a] pos) t:=fun pins s σ H Q I hw=>BoolOp_one (h pins s σ H Q I hw)
def IA (ha:PE X a ta) (hb:PE X (.BoolOp .And (b :: rest) pos) tb):PE X (.BoolOp .And (a :: b :: rest) pos) (DL ta tb):=by
 intro pins s σ H Q I h;refine BoolOp_and (thn (ha pins s σ H _ I h) fun v s1 ⟨x,H1,I1,r1,q1⟩=>?_);obtain ⟨c,rfl,q1⟩:=q1;cases r1;refine wpAny_truthy_bool ?_;cases c with
 | true=>exact hb pins s1 σ H1 Q I1 q1
 | false=>exact ⟨.bl false,H1,I1,rfl,q1⟩
def Ko (ha:PE X a ta) (hb:PE X (.BoolOp .Or (b :: rest) pos) tb):PE X (.BoolOp .Or (a :: b :: rest) pos) (HP ta tb):=by
 intro pins s σ H Q I h;refine BoolOp_or (thn (ha pins s σ H _ I h) fun v s1 ⟨x,H1,I1,r1,q1⟩=>?_);obtain ⟨c,rfl,q1⟩:=q1;cases r1;refine wpAny_truthy_bool ?_;cases c with
 | false=>exact hb pins s1 σ H1 Q I1 q1
 | true=>exact ⟨.bl true,H1,I1,rfl,q1⟩
def Iy (ha:PE X a ta):PE X (.UnaryOp .Not a pos) (DG ta):=by
 intro pins s σ H Q I h;refine UnaryOp_ (thn (ha pins s σ H _ I h) fun v s1 ⟨x,H1,I1,r1,q1⟩=>?_);obtain ⟨c,rfl,q1⟩:=q1;cases r1;exact not_of (wpAny_truthy_bool ⟨.bl (!c),H1,I1,rfl,q1⟩)
def tIf (t:TT) (ta tb:TE):TE:=fun σ H Q=>t σ H fun c H1=>if c=true then ta σ H1 Q else tb σ H1 Q
def wV {c:Expr} (hc:PT X c tA) (ha:PE X a ta) (hb:PE X b tb):PE X (.IfExp c a b pos) (tIf tA ta tb):=by
 intro pins s σ H Q I h;refine wpAny_IfExp (thn (hc pins s σ H _ I h) fun d s1 ⟨H1,I1,q1⟩=>?_);cases d with
 | true=>exact ha pins s1 σ H1 Q I1 q1
 | false=>exact hb pins s1 σ H1 Q I1 q1
end
def SqL (K:PySem.W.Frag) (H:Hp) (a:Addr) (xs:List V):Prop :=
 Rd H a (.lst xs) \/
  ∃ (o:Obj) (its:Array Value) (n:Nat),K.lookup a=some o/\o.cls=.type "list"/\o.dict=none/\o.data=.seq its n/\its.size<=sizeLine/\Vals xs its.toList
def SqT (K:PySem.W.Frag) (H:Hp) (a:Addr) (xs:List V):Prop :=
 Rd H a (.tup xs) \/
  ∃ (o:Obj) (its:Array Value) (n:Nat),K.lookup a=some o/\o.cls=.type "tuple"/\o.data=.seq its n/\its.size<=sizeLine/\Vals xs its.toList
def Ll:Value->Option V
 | .none=>some .non
 | .bool b=>some (.bl b)
 | .int i _=>some (.int i)
 | .str x _=>some (.str x)
 | .bytes b _=>some (.byt b)
 | .float b _=>some (.flt b)
 | .ref a=>some (.ref a)
 | .type n=>some (.ty n)
 | _=>none
def RelV.abs {x:V} {u:Value} (r:RelV x u):Ll u=some x:=by
 cases x with
 | non=>cases r; rfl
 | bl _=>cases r; rfl
 | int _=>obtain ⟨t,rfl⟩:=r; rfl
 | str _=>obtain ⟨t,rfl⟩:=r; rfl
 | byt _=>obtain ⟨t,rfl⟩:=r; rfl
 | flt _=>obtain ⟨t,rfl⟩:=r; rfl
 | ref _=>cases r; rfl
 | ty _=>cases r; rfl
def RelV.inj {x y:V} {u:Value} (r:RelV x u) (q:RelV y u):x=y:=zat (r.abs.symm.trans q.abs)
def Vals.inj:∀ {xs ys:List V} {us:List Value},Vals xs us->Vals ys us->xs=ys
 | _,_,_,.nil,.nil=>rfl
 | _,_,_,.cons r t,.cons r' t'=>by rw [r.inj r',Vals.inj t t']
section
variable {X:Cx} {pins:List (Addr × Obj)} {σ:St} {H:Hp} {s:Shared} {a:Addr} {xs ys:List V}
def SqL.of {K:PySem.W.Frag} (h:H a=some (.lst xs)):SqL K H a xs:=.inl (.inl h)
def SqT.of {K:PySem.W.Frag} (h:H a=some (.tup xs)):SqT K H a xs:=.inl (.inl h)
def Inv.list (I:Inv X pins σ H s) (h:SqL X.K H a xs):∃ its:List Value,Vals xs its/\PlainL s.heap a its.toArray/\xs.length<=sizeLine:=by
 rcases h with h | ⟨o,its,n,hk,hc,hd,hs,hz,r⟩
 ·obtain ⟨z,its,n,r,e⟩:=h.ok I.hok;exact ⟨its,r,⟨_,n,e,rfl,rfl,rfl⟩,z⟩
 ·refine ⟨its.toList,r,⟨o,n,I.kIn a o hk,hc,hd,by simpa using hs⟩,?_⟩;have e:=r.length;simp only [zaY] at e;omega
def Inv.tuple (I:Inv X pins σ H s) (h:SqT X.K H a xs):∃ its:List Value,Vals xs its/\IsTup s.heap a its.toArray/\xs.length<=sizeLine:=by
 rcases h with h | ⟨o,its,n,hk,hc,hs,hz,r⟩
 ·obtain ⟨z,its,r,p⟩:=h.ok I.hok;exact ⟨its,r,p.tup,z⟩
 ·refine ⟨its.toList,r,⟨o,I.kIn a o hk,hc,n,by simpa using hs⟩,?_⟩;have e:=r.length;simp only [zaY] at e;omega
def Inv.list_inj (I:Inv X pins σ H s) (h:SqL X.K H a xs) (h':SqL X.K H a ys):xs=ys:=by
 obtain ⟨its,r,⟨o,n,e,_,_,d⟩,_⟩:=I.list h;obtain ⟨its',r',⟨o',n',e',_,_,d'⟩,_⟩:=I.list h';rw [e] at e'; cases e';rw [d] at d';injection d' with d1 _
 have:its=its':=by simpa using congrArg Array.toList d1
 subst this;exact r.inj r'
def Inv.tuple_inj (I:Inv X pins σ H s) (h:SqT X.K H a xs) (h':SqT X.K H a ys):xs=ys:=by
 obtain ⟨its,r,⟨o,e,_,n,d⟩,_⟩:=I.tuple h;obtain ⟨its',r',⟨o',e',_,n',d'⟩,_⟩:=I.tuple h';rw [e] at e'; cases e';rw [d] at d';injection d' with d1 _
 have:its=its':=by simpa using congrArg Array.toList d1
 subst this;exact r.inj r'
end
abbrev Cx.wish (X:Cx) (E:Value->Shared->Prop):Cx:={ X with xe:=E }
abbrev Cx.nox (X:Cx):Cx:=X.wish fun _ _=>False
def Cx.Ok.wish {X:Cx} (ok:X.Ok) (E:Value->Shared->Prop):(X.wish E).Ok :=
 ⟨ok.mod,ok.kind,ok.glob,ok.blt,ok.above,ok.inj,ok.has,ok.cab,ok.hd,ok.frames,ok.stk,ok.exf,ok.bs,ok.bsz,ok.noex,ok.exfs,ok.funs,ok.frf⟩
def Cx.Ok.unwish {X:Cx} {E:Value->Shared->Prop} (ok:(X.wish E).Ok):X.Ok :=
 ⟨ok.mod,ok.kind,ok.glob,ok.blt,ok.above,ok.inj,ok.has,ok.cab,ok.hd,ok.frames,ok.stk,ok.exf,ok.bs,ok.bsz,ok.noex,ok.exfs,ok.funs,ok.frf⟩
section
variable {X:Cx} {pins:List (Addr × Obj)} {σ:St} {H:Hp} {s:Shared} {E:Value->Shared->Prop}
def Inv.wish (I:Inv X pins σ H s) (E:Value->Shared->Prop):Inv (X.wish E) pins σ H s:=⟨I.ok.wish E,I.os,I.bare,I.base,I.loc,I.cell,I.free,I.freeC,I.pin,I.hok,I.len⟩
def Inv.unwish (I:Inv (X.wish E) pins σ H s):Inv X pins σ H s:=⟨I.ok.unwish,I.os,I.bare,I.base,I.loc,I.cell,I.free,I.freeC,I.pin,I.hok,I.len⟩
def SP.unwish {D:Ends} {f:Flow} {s':Shared} (h:SP (X.wish E) pins D f s'):SP X pins D f s':=by
 cases f with
 | next=>obtain ⟨σ',H',I,q⟩:=h; exact ⟨σ',H',I.unwish,q⟩
 | brk=>obtain ⟨σ',H',I,q⟩:=h; exact ⟨σ',H',I.unwish,q⟩
 | cont=>obtain ⟨σ',H',I,q⟩:=h; exact ⟨σ',H',I.unwish,q⟩
 | ret u=>obtain ⟨v,σ',H',I,r,q⟩:=h; exact ⟨v,σ',H',I.unwish,r,q⟩
def PT.nox {e:Expr} {t:TT} (h:PT X.nox e t):PT X e t:=fun pins s σ H Q I hw =>
 wpAny_mono (h pins s σ H Q (I.wish _) hw) (fun _ _ ⟨H',I',q⟩=>⟨H',I'.unwish,q⟩) fun _ _ z=>False.elim z
def PSs.nox {st:List Stmt} {t:TS} (h:PSs X.nox st t):PSs X st t:=fun pins s σ H D I hw =>
 wpAny_mono (h pins s σ H D (I.wish _) hw) (fun _ _ q=>q.unwish) fun _ _ z=>False.elim z
end
section
variable {X:Cx} {st:Stmt} {rest:List Stmt} {t u:TS} {e:Expr} {te:TE} {pos:Pos}
def DH:TS:=fun D σ H=>D.nx σ H
def HL (t u:TS):TS:=fun D σ H=>t { D with nx:=u D } σ H
def pss_nil:PSs X [] DH:=fun _ _ σ H _ I h=>wpAny_execs_nil ⟨σ,H,I,h⟩
def lY (h1:PS X st t) (h2:PSs X rest u):PSs X (st :: rest) (HL t u):=by
 intro pins s σ H D I h;refine wpAny_execs_cons (thn (h1 pins s σ H { D with nx:=u D } I h) fun f s1 q=>?_);cases f with
 | next =>
  obtain ⟨σ',H',I',q⟩:=q;exact h2 pins s1 σ' H' D I' q
 | ret v=>exact q
 | brk=>exact q
 | cont=>exact q
def Eu (h1:PS X st t):PSs X [st] t:=by
 intro pins s σ H D I h;refine wpAny_execs_cons (thn (h1 pins s σ H D I h) fun f s1 q=>?_);cases f with
 | next=>exact wpAny_execs_nil q
 | ret v=>exact q
 | brk=>exact q
 | cont=>exact q
def Inv.quiet {pins:List (Addr × Obj)} {σ:St} {H:Hp} {s:Shared} (I:Inv X pins σ H s):interactive X.env=false:=by simp [interactive,I.ok.kind]
def DI (te:TE):TS:=fun D σ H=>te σ H fun _ H1=>D.nx σ H1
def Ev (he:PE X e te) (hs:swapsWith e none pos.line X.env=pure false:=by rfl):PS X (.Expr e pos) (DI te):=by
 intro pins s σ H D I h;exact wpAny_Expr_any (thn (he pins s σ H _ I h) fun v s1 ⟨x,H1,I1,r1,q1⟩=>⟨σ,H1,I1,q1⟩) I.quiet hs
def HM (te:TE):TS:=fun D σ H=>te σ H D.rt
def Iq (he:PE X e te):PS X (.Return (some e) pos) (HM te):=by
 intro pins s σ H D I h;exact wpAny_Return_some (thn (he pins s σ H _ I h) fun v s1 ⟨x,H1,I1,r1,q1⟩=>⟨x,σ,H1,I1,r1,q1⟩)
def HS (c:TT) (t u:TS):TS:=fun D σ H=>c σ H fun b H1=>if b=true then t D σ H1 else u D σ H1
def DW {c:Expr} {a b:List Stmt} {tc:TT} (hc:PT X c tc) (ha:PSs X a t) (hb:PSs X b u):PS X (.If c a b pos) (HS tc t u):=by
 intro pins s σ H D I h;refine wpAny_If (thn (hc pins s σ H _ I h) fun d s1 ⟨H1,I1,q1⟩=>?_);cases d with
 | true=>exact ha pins s1 σ H1 D I1 q1
 | false=>exact hb pins s1 σ H1 D I1 q1
def p7:TS:=fun _ _ _=>False
def ps_never:PS X st p7:=fun _ _ _ _ _ _ h=>h.elim
def vc {sts:List Stmt}:PSs X sts p7:=fun _ _ _ _ _ _ h=>h.elim
end
abbrev TG:=V->St->Hp->(St->Hp->Prop)->Prop
abbrev TGs:=List V->St->Hp->(St->Hp->Prop)->Prop
def PG (X:Cx) (target:Expr) (t:TG):Prop :=
 ∀ (pins:List (Addr × Obj)) (s:Shared) (σ:St) (H:Hp) (v:V) (u:Value) (Q:St->Hp->Prop),Inv X pins σ H s->RelV v u->t v σ H Q ->
  wpAny (model X.prog X.w) X.A (assign target X.env u) (fun _ s'=>∃ σ' H',Inv X pins σ' H' s'/\Q σ' H') X.xe s
def PGs (X:Cx) (ts:List Expr) (t:TGs):Prop :=
 ∀ (pins:List (Addr × Obj)) (s:Shared) (σ:St) (H:Hp) (vs:List V) (us:List Value) (Q:St->Hp->Prop),Inv X pins σ H s->Vals vs us->t vs σ H Q ->
  wpAny (model X.prog X.w) X.A (assignInOrder ((assignEach ts X.env).map (·.2)) us) (fun _ s'=>∃ σ' H',Inv X pins σ' H' s'/\Q σ' H') X.xe s
abbrev yj:=V->V->V->Hp->(Hp->Prop)->Prop
def J5 (X:Cx) (t:yj):Prop :=
 ∀ (pins:List (Addr × Obj)) (s:Shared) (σ:St) (H:Hp) (o i v:V) (ov iv u:Value) (Q:Hp->Prop),Inv X pins σ H s->RelV o ov->RelV i iv->RelV v u->t o i v H Q ->
  wpAny (model X.prog X.w) X.A (setItem ov iv u) (fun _ s'=>∃ H',Inv X pins σ H' s'/\Q H') X.xe s
section
variable {X:Cx} {pos:Pos}
def m8 (i:Nat):TG:=fun v σ H Q=>Q (σ.set i (some v)) H
def EC {i:Nat} {x:Str} (hN:X.N.Nodup) (hi:X.N[i]?=some x) (hx:Loc X.env.scope x) (hf:X.fn x=true\/X.env.scope.names.lookup x=some .local:=by first | exact .inl rfl | exact .inr rfl | assumption):PG X (.Name x pos) (m8 i):=by
 intro pins s σ H v u Q I r h;exact wpAny_assign_Name (qg I hN hi hx r (fun s' I'=>⟨_,H,I',h⟩) hf)
def Jc:TGs:=fun vs σ H Q=>vs=[]/\Q σ H
def Ea (t:TG) (u:TGs):TGs:=fun vs σ H Q=>∃ v r,vs=v :: r/\t v σ H fun σ' H'=>u r σ' H' Q
def pgs_nil:PGs X [] Jc:=by
 intro pins s σ H vs us Q I r h;obtain ⟨e,h⟩:=h;subst e;cases r;exact assignInOrder_nil ⟨σ,H,I,h⟩
def wT {e:Expr} {es:List Expr} {t:TG} {u:TGs} (h1:PG X e t) (h2:PGs X es u)
  (hs:(assignEach (e :: es) X.env).map (·.2)=assign e X.env :: (assignEach es X.env).map (·.2):=by rfl):PGs X (e :: es) (Ea t u):=by
 intro pins s σ H vs us Q I r h;obtain ⟨v,vr,e1,h⟩:=h;subst e1;cases r with
 | cons r rr =>
  rw [hs];refine assignInOrder_cons (thn (h1 pins s σ H _ _ _ I r h) fun _ s1 ⟨σ1,H1,I1,q1⟩=>?_);exact h2 pins s1 σ1 H1 _ _ Q I1 rr q1
def Ja (K:PySem.W.Frag) (n:Nat) (t:TGs):TG:=fun v σ H Q=>∃ a xs,v=.ref a/\SqT K H a xs/\xs.length=n/\t xs σ H Q
def Iv {es:List Expr} {k:Nat} {t:TGs} {n:Nat} (hc:X.calm=true) (h:PGs X es t)
  (hn:(assignEach es X.env).length=n:=by rfl) (hst:(assignEach es X.env).findIdx? (·.1)=none:=by rfl):PG X (.Tuple es k pos) (Ja X.K n t):=by
 intro pins s σ H v u Q I r hw;obtain ⟨a,xs,e1,hq,hl,hw⟩:=hw;subst e1;cases r;obtain ⟨its,rv,ht,hz⟩:=I.tuple hq;refine assign_Tuple_tuple (I.ok.hd hc) ht (by simp [hn,<- hl,rv.length]) hst fun h' hx=>?_;have I1:Inv X pins σ H { s with heap:=h' }:=I.kept (t':=s.toks) fun b o e=>hx b o (zaw (zal e)) e;exact h pins _ σ H xs _ Q I1 (by simpa using rv) hw
def Jb (to ti:TE) (t:yj):TG:=fun v σ H Q=>to σ H fun o H1=>ti σ H1 fun i H2=>t o i v H2 fun H3=>Q σ H3
def Iw {o i:Expr} {to ti:TE} {t:yj} (ho:PE X o to) (hi:PE X i ti) (hs:J5 X t)
  (ha:∀ v,assign (.Subscript o i pos) X.env v=(do
   let ov <- holding [v] (eval o X.env);let iv <- holding [v,ov] (eval i X.env)
   standAt pos
   holding [v,ov,iv] (setItem ov iv v)
   release [v,ov,iv] []):=by intro _; rfl):PG X (.Subscript o i pos) (Jb to ti t):=by
 intro pins s σ H v u Q I r h;rw [ha];refine zam (wpAny_holding (thn (ho pins s σ H _ I h) fun ov s1 ⟨x,H1,I1,r1,q1⟩=>?_));refine zam (wpAny_holding (thn (hi pins s1 σ H1 _ I1 q1) fun iv s2 ⟨y,H2,I2,r2,q2⟩=>?_));refine zam (wpAny_standAt (zam (wpAny_holding (thn (hs pins s2 σ H2 x y v ov iv u _ I2 r1 r2 r q2) fun _ s3 ⟨H3,I3,q3⟩=>?_))));exact wpAny_release ⟨σ,H3,I3,q3⟩
def p8 (te:TE) (g:TG):TS:=fun D σ H=>te σ H fun x H1=>g x σ H1 D.nx
def Iu {tg e:Expr} {te:TE} {g:TG} (he:PE X e te) (hg:PG X tg g) (hs:swapsWithSole [tg] e pos.line X.env=pure false:=by rfl) (hw:swappedStores [tg] e X.env=pure none:=by rfl)
  (h1:(assignEach [tg] X.env).map (·.2)=[assign tg X.env]:=by rfl):PS X (.Assign [tg] e pos) (p8 te g):=by
 intro pins s σ H D I h;refine wpAny_Assign_stores (thn (he pins s σ H _ I h) fun v s1 ⟨x,H1,I1,r1,q1⟩=>?_) hs hw;rw [h1];exact thn (hg pins s1 σ H1 x v _ I1 r1 q1) fun _ s2 q=>q
def Ip {i:Nat} {x:Str} {e:Expr} {te:TE} {pos':Pos} (hN:X.N.Nodup) (hi:X.N[i]?=some x) (hx:Loc X.env.scope x) (he:PE X e te) (hs:swapsWith e (some (.Name x pos')) pos.line X.env=pure false:=by rfl) (hf:X.fn x=true\/X.env.scope.names.lookup x=some .local:=by first | exact .inl rfl | exact .inr rfl | assumption) :
  PS X (.Assign [.Name x pos'] e pos) (p8 te (m8 i)):=by
 intro pins s σ H D I h;refine wpAny_Assign_Name (thn (he pins s σ H _ I h) fun v s1 ⟨y,H1,I1,r1,q1⟩=>?_) hs;exact qg I1 hN hi hx r1 (fun s2 I2=>⟨_,H1,I2,q1⟩) hf
def u5 (c:TT) (tb:TS):TS:=fun D σ H=>∃ W:Nat->St->Hp->Prop,(∃ m,W m σ H)/\∀ m σ H,W m σ H ->
 c σ H fun b H1=>if b=true then ∃ N:St->Hp->Prop,(∀ σ' H',N σ' H'->∃ m',m' < m/\W m' σ' H')/\tb { D with nx:=N,ct:=N,bk:=D.nx } σ H1 else D.nx σ H1
def wP {c:Expr} {body:List Stmt} {tc:TT} {tb:TS} (hp:PassesOwn (model X.prog X.w) X.A X.env X.xe) (hc:PT X c tc) (hb:PSs X body tb):PS X (.While c body [] pos) (u5 tc tb):=by
 intro pins s σ H D I h;obtain ⟨W,⟨m0,w0⟩,turn⟩:=h;refine wpAny_While (codeAny_whileLoop (fun n s'=>∃ σ' H',Inv X pins σ' H' s'/\W n σ' H') ?_ m0 ⟨σ,H,I,w0⟩);rintro n s1 ⟨σ1,H1,I1,w1⟩;refine wpAny_passesOwn hp (thn (hc pins s1 σ1 H1 _ I1 (turn n σ1 H1 w1)) fun b s2 ⟨H2,I2,q2⟩=>?_);cases b with
 | true =>
  obtain ⟨N,hN,q2⟩:=q2;rw [if_pos rfl];refine wpAny_passesOwn hp (thn (hb pins s2 σ1 H2 _ I2 q2) fun f s3 q3=>?_);cases f with
  | next =>
   obtain ⟨σ3,H3,I3,n3⟩:=q3;obtain ⟨m',hm,w3⟩:=hN σ3 H3 n3;exact ⟨m',hm,σ3,H3,I3,w3⟩
  | cont =>
   obtain ⟨σ3,H3,I3,n3⟩:=q3;obtain ⟨m',hm,w3⟩:=hN σ3 H3 n3;exact ⟨m',hm,σ3,H3,I3,w3⟩
  | brk=>exact q3
  | ret v=>exact q3
 | false =>
  rw [if_neg Bool.false_ne_true];exact wpAny_execs_nil ⟨σ1,H2,I2,q2⟩
end
structure It where
 go:Nat->Hp->Prop
 yld:Nat->Hp->V->Hp->Prop
 stop:Nat->Hp->Prop
def il (X:Cx) (pins:List (Addr × Obj)) (H:Hp) (b:Addr):Prop :=
 H b=none/\b≠X.env.locals/\b ∉ X.fs/\(b∈X.ex\/X.s₀.heap.objs.size<=b)/\(∀ x c,X.env.cells.lookup x=some c->c≠b)/\∀ p∈X.pn++pins,p.1≠b
def Inv.fpOk {X:Cx} {pins:List (Addr × Obj)} {σ:St} {H H':Hp} {s:Shared} {b:Addr} (I:Inv X pins σ H s) (hb:s.heap.objs.size<=b) (hn:H' b=none):il X pins H' b:=by
 refine ⟨hn,Nat.ne_of_gt (zag I.lt hb),I.nofs hb,.inr (zau I.sz hb),fun x c e z=>?_,fun p hp z=>?_⟩
 ·obtain ⟨v,q⟩:=I.cell x c e;exact absurd (zag q.lt (by rw [z]; exact hb)) (zaI _)
 ·exact absurd (zag (zal (I.pin p hp).1) (by rw [z]; exact hb)) (zaI _)
structure Turn (P:Program) (w:World) (K:PySem.W.Frag) (tg:Expr) (J:It) (fp:List Addr) (it:Addr) (tn:Nat->Heap->Prop):Prop where
 mem:it∈fp
 obj:∀ i h,tn i h->∀ b∈fp,∃ o,h.get? b=some o/\∀ v,o.data≠.cell v
 keep:∀ i h h',tn i h->(∀ b∈fp,∀ o,h.get? b=some o->h'.get? b=some o)->tn i h'
 item:∀ (X:Cx),X.prog=P->X.w=w->X.K=K->X.calm=true->∀ (i:Nat) (pins:List (Addr × Obj)) (s:Shared) (σ:St) (H:Hp) (E:Value->Shared->Prop),Inv X pins σ H s->(∀ b∈fp,il X pins H b)->tn i s.heap->J.go i H ->
  wpAny (model P w) X.A (pyNext (.ref it)) (fun r s1=>∃ u,r=some u /\
   wpAny (model P w) X.A (letOwnedTupleGo tg (.ref it) u) (fun _ s2=>∃ x H',Inv X pins σ H' s2/\RelV x u/\J.yld i H x H'/\tn (i+1) s2.heap/\∀ b∈fp,H' b=none) E s1) E s
 done:∀ (X:Cx),X.prog=P->X.w=w->X.K=K->X.calm=true->∀ (i:Nat) (pins:List (Addr × Obj)) (s:Shared) (σ:St) (H:Hp) (E:Value->Shared->Prop),Inv X pins σ H s->(∀ b∈fp,il X pins H b)->tn i s.heap->J.stop i H ->
  wpAny (model P w) X.A (pyNext (.ref it)) (fun r s1=>r=none/\Inv X pins σ H s1) E s
 self:∀ (A:Around) (i:Nat) (s:Shared) (Q:Value->Shared->Prop) (E:Value->Shared->Prop),tn i s.heap->Q (.ref it) s->wpAny (model P w) A (pyIter (.ref it)) Q E s
abbrev TI:=St->Hp->(It->Hp->Prop)->Prop
def PIE (X:Cx) (pins:List (Addr × Obj)) (σ:St) (tg:Expr) (R:It->Hp->Prop) (itv:Value) (s2:Shared):Prop :=
 ∃ (it:Addr) (fp:List Addr) (tn:Nat->Heap->Prop) (J:It) (H':Hp),itv=.ref it/\Inv X pins σ H' s2/\Turn X.prog X.w X.K tg J fp it tn/\tn 0 s2.heap/\(∀ b∈fp,il X pins H' b)/\R J H'
def PI (X:Cx) (tg iter:Expr) (wi:TI):Prop :=
 ∀ (pins:List (Addr × Obj)) (s:Shared) (σ:St) (H:Hp) (R:It->Hp->Prop),Inv X pins σ H s->wi σ H R ->
  wpAny (model X.prog X.w) X.A (eval iter X.env) (fun v s1=>wpAny (model X.prog X.w) X.A (pyIter v) (PIE X pins σ tg R) X.xe s1) X.xe s
def pP {M:Model} {A:Around} {E:Value->Shared->Prop} {s:Shared} {tg:Expr} {it:Addr} {u:Value} {o:Obj} {n:String} {vs:Array Value} {Q:Unit->Shared->Prop} (ho:s.heap.get? it=some o) (hc:o.cls=.type n) (hd:o.data=.fields vs)
  (hn:["enumerate", "zip", "dict_itemiterator", "dict_reverseitemiterator", "odict_iterator", "itertools.zip_longest", "itertools.pairwise"].contains n=false) (hQ:Q () s):wpAny M A (letOwnedTupleGo tg (.ref it) u) Q E s:=by
 unfold letOwnedTupleGo;cases tg <;> first
  | exact zaT hQ
  | (cases u <;> first
    | exact zaT hQ
    | (refine zam (wpAny_load ho ?_)
       rw [hc,hd];show wpAny M A (if (["enumerate", "zip", "dict_itemiterator", "dict_reverseitemiterator", "odict_iterator", "itertools.zip_longest", "itertools.pairwise"].contains n && vs[0]? == some (rawInt _))=true then _ else _) Q E s;rw [if_neg (by intro h; rw [hn,Bool.false_and] at h; cases h)];exact zaT hQ))
def Itl (K:PySem.W.Frag) (a:Addr):It :=
 ⟨fun i H=>∃ xs x,SqL K H a xs/\xs[i]?=some x,fun i H x H'=>H'=H/\∀ xs,SqL K H a xs->xs[i]?=some x,fun i H=>∃ xs,SqL K H a xs/\xs.length<=i⟩
def Itt (K:PySem.W.Frag) (a:Addr):It :=
 ⟨fun i H=>∃ xs x,SqT K H a xs/\xs[i]?=some x,fun i H x H'=>H'=H/\∀ xs,SqT K H a xs->xs[i]?=some x,fun i H=>∃ xs,SqT K H a xs/\xs.length<=i⟩
def Itr (lo:Int) (n:Nat):It:=⟨fun i _=>i < n,fun i H x H'=>H'=H/\x=.int (lo+i),fun i _=>n<=i⟩
def uZ {P:Program} {w:World} {K:PySem.W.Frag} {tg:Expr} (a it:Addr):Turn P w K tg (Itl K a) [it] it (fun i h=>h.IsListIter it a i) where
 mem:=by simp
 obj:=fun i h st b hb=>by
  have e:b=it:=by simpa using hb
  subst e;obtain ⟨o,e,c,d⟩:=st;exact ⟨o,e,fun v z=>by rw [d] at z; cases z⟩
 keep:=fun i h h' st k=>st.at fun o e=>k it (by simp) o e
 item:=by
  intro X hP hw hK hc i pins s σ H E I hf st hg;subst hP hw hK;obtain ⟨xs,x,hq,hx⟩:=hg;obtain ⟨its,rv,p,hz⟩:=I.list hq;obtain ⟨u,hu,ru⟩:=rv.get hx;obtain ⟨f0,f1,f2,f3,f4,f5⟩:=hf it (by simp);refine wpAny_pyNext_list_item st p.isList (x:=u) (by simpa using hu) fun h' st' sb=>?_;have I1:Inv X pins σ H { s with heap:=h' }:=I.turned (t':=s.toks) (fun b o hb e=>(sb.2 b hb).trans e) f0 f1 f3 f4 f5;obtain ⟨o,e,c,d⟩:=id st';exact ⟨u,rfl,pP (s:={ s with heap:=h' }) e c d (by decide) ⟨x,H,I1,ru,⟨rfl,fun ys hy=>by rw [I.list_inj hy hq]; exact hx⟩,st',fun b hb=>(hf b hb).1⟩⟩
 done:=by
  intro X hP hw hK hc i pins s σ H E I hf st hg;subst hP hw hK;obtain ⟨xs,hq,hx⟩:=hg;obtain ⟨its,rv,p,hz⟩:=I.list hq;obtain ⟨f0,f1,f2,f3,f4,f5⟩:=hf it (by simp);have hl:=rv.length;exact wpAny_pyNext_list_end (I.ok.hd hc) st p.isList (by simp; omega) fun h' eb=>⟨rfl,I.turned (t':=s.toks) (fun b o hb e=>eb b o hb e) f0 f1 f3 f4 f5⟩
 self:=fun _ _ _ _ _ st h=>wpAny_pyIter_listiter st h
def tH {P:Program} {w:World} {K:PySem.W.Frag} {tg:Expr} (a it:Addr):Turn P w K tg (Itt K a) [it] it (fun i h=>h.IsTupleIter it a i) where
 mem:=by simp
 obj:=fun i h st b hb=>by
  have e:b=it:=by simpa using hb
  subst e;obtain ⟨o,e,c,d⟩:=st;exact ⟨o,e,fun v z=>by rw [d] at z; cases z⟩
 keep:=fun i h h' st k=>st.at fun o e=>k it (by simp) o e
 item:=by
  intro X hP hw hK hc i pins s σ H E I hf st hg;subst hP hw hK;obtain ⟨xs,x,hq,hx⟩:=hg;obtain ⟨its,rv,p,hz⟩:=I.tuple hq;obtain ⟨u,hu,ru⟩:=rv.get hx;obtain ⟨f0,f1,f2,f3,f4,f5⟩:=hf it (by simp);refine wpAny_pyNext_tuple_item st (show s.heap.IsTuple a its.toArray from p) (x:=u) (by simpa using hu) fun h' st' sb=>?_;have I1:Inv X pins σ H { s with heap:=h' }:=I.turned (t':=s.toks) (fun b o hb e=>(sb.2 b hb).trans e) f0 f1 f3 f4 f5;obtain ⟨o,e,c,d⟩:=id st';exact ⟨u,rfl,pP (s:={ s with heap:=h' }) e c d (by decide) ⟨x,H,I1,ru,⟨rfl,fun ys hy=>by rw [I.tuple_inj hy hq]; exact hx⟩,st',fun b hb=>(hf b hb).1⟩⟩
 done:=by
  intro X hP hw hK hc i pins s σ H E I hf st hg;subst hP hw hK;obtain ⟨xs,hq,hx⟩:=hg;obtain ⟨its,rv,p,hz⟩:=I.tuple hq;obtain ⟨f0,f1,f2,f3,f4,f5⟩:=hf it (by simp);have hl:=rv.length;exact wpAny_pyNext_tuple_end (I.ok.hd hc) st (show s.heap.IsTuple a its.toArray from p) (by simp; omega) fun h' eb=>⟨rfl,I.turned (t':=s.toks) (fun b o hb e=>eb b o hb e) f0 f1 f3 f4 f5⟩
 self:=fun _ _ _ _ _ st h=>wpAny_pyIter_tupleiter st h
def tI {P:Program} {w:World} {K:PySem.W.Frag} {tg:Expr} (it:Addr) (lo:Int) (n:Nat):Turn P w K tg (Itr lo n) [it] it (fun i h=>IsRangeIter h it (lo+(i:Nat) * 1) ((n:Int) - (i:Nat)) 1) where
 mem:=by simp
 obj:=fun i h st b hb=>by
  have e:b=it:=by simpa using hb
  subst e;exact ⟨_,st,fun v z=>by
   have z':Data.fields _=Data.cell v:=z;cases z'⟩
 keep:=fun i h h' st k=>k it (by simp) _ st
 item:=by
  intro X hP hw hK hc i pins s σ H E I hf st hg;subst hP hw hK;obtain ⟨f0,f1,f2,f3,f4,f5⟩:=hf it (by simp);have W:=Walks.range (prog:=X.prog) (w:=X.w) (I.ok.hd hc) it lo 1 n;refine W.item i s _ _ hg st fun v h' tk hv st' kk=>?_;obtain ⟨t,rfl⟩:=hv;have I1:Inv X pins σ H { s with heap:=h',toks:=tk }:=I.turned (fun b o hb e=>kk b o (by simpa using hb) e) f0 f1 f3 f4 f5;refine ⟨_,rfl,pP (s:={ s with heap:=h',toks:=tk }) (n:="range_iterator") st' rfl rfl (by decide) ⟨.int (lo+i),H,I1,⟨t,?_⟩,⟨rfl,rfl⟩,st',fun b hb=>(hf b hb).1⟩⟩;rw [Int.mul_one]
 done:=by
  intro X hP hw hK hc i pins s σ H E I hf st hg;subst hP hw hK;obtain ⟨f0,f1,f2,f3,f4,f5⟩:=hf it (by simp);exact wpAny_pyNext_range_end (I.ok.hd hc) st (by have:n<=i:=hg; omega) fun h' eb=>⟨rfl,I.turned (t':=s.toks) (fun b o hb e=>eb b o hb e) f0 f1 f3 f4 f5⟩
 self:=fun _ _ _ _ _ st h=>wpAny_pyIter_rangeiter st h
section
variable {X:Cx} {tg:Expr}
def wO {pins:List (Addr × Obj)} {σ:St} {H:Hp} {s:Shared} {R:It->Hp->Prop} {E:Value->Shared->Prop} {lo hi:Int} {t u v:Tok} {tk:Nat} (I:Inv X pins σ H s) (h1:-(2 ^ 62)<=lo) (h2:lo < 2 ^ 62) (h3:-(2 ^ 62)<=hi) (h4:hi < 2 ^ 62)
  (q:R (Itr lo (hi - lo).toNat) H):wpAny (model X.prog X.w) X.A (pyIter (.ref s.heap.objs.size)) (PIE X pins σ tg R) E { s with heap:=s.heap.push { cls:=.type "range",data:=.fields #[.int lo t,.int hi u,.int 1 v] },toks:=tk }:=by
 refine wpAny_pyIter_range (IsRange.new ..) (small_one h1 h2 h3 h4) ?_;have I1:Inv X pins σ H { s with heap:=s.heap.push { cls:=.type "range",data:=.fields #[.int lo t,.int hi u,.int 1 v] },toks:=tk }:=I.kept fun b o e=>zaf _ e;refine ⟨(s.heap.push { cls:=.type "range",data:=.fields #[.int lo t,.int hi u,.int 1 v] }).objs.size,[(s.heap.push { cls:=.type "range",data:=.fields #[.int lo t,.int hi u,.int 1 v] }).objs.size],_,_,H,rfl,
  I1.kept (t':=tk) fun b o e=>zaf _ e,tI _ lo (hi - lo).toNat,?_,fun b hb=>?_,q⟩
 ·have e1:lo+((0:Nat):Int) * 1=lo:=by simp
  have e2:(((hi - lo).toNat:Nat):Int) - ((0:Nat):Int)=Builtin.Range.rangeSize lo hi 1:=by rw [rangeSize_one]; split <;> omega
  show IsRangeIter _ _ (lo+((0:Nat):Int) * 1) ((((hi - lo).toNat:Nat):Int) - ((0:Nat):Int)) 1;rw [e1,e2];exact zan _ rfl
 ·have e:b=(s.heap.push { cls:=.type "range",data:=.fields #[.int lo t,.int hi u,.int 1 v] }).objs.size:=by simpa using hb
  subst e;exact I1.fpOk (zav _) (I1.hok.fresh (zav _))
def Kw (ta:TA):TI:=fun σ H R=>ta σ H fun vs H1=>∃ j:Int,vs=[.int j]/\-(2 ^ 62)<=j/\j < 2 ^ 62/\R (Itr 0 j.toNat) H1
def vf {a:Expr} {ta:TA} {p pos:Pos} (hg:Gl X "range") (hm:X.mg "range"=none) (ha:PA X [a] ta) (hs:starEach [a] X.env=[(false,eval a X.env)]:=by rfl):PI X tg (.Call (.Name "range" p) [a] [] pos) (Kw ta):=by
 intro pins s σ H R I h;refine Call_ (kx I hg hm boot_range (PyProof.Rows.callWith_type1 (thn (ha pos pins s σ H _ I h) fun us s1 ⟨vs,H1,I1,r1,q1⟩=>?_) hs rfl));obtain ⟨j,e,q1,q2,q⟩:=q1;subst e;cases r1 with
 | cons r rr =>
  cases rr;obtain ⟨t,rfl⟩:=r;exact call_range_1 (wO I1 (by omega) (by omega) q1 q2 (by simpa using q))
def HU (wi:TI) (g:TG) (tb:TS):TS:=fun D σ H=>wi σ H fun J H1=>∃ W:Nat->Nat->St->Hp->Prop,(∃ m,W 0 m σ H1)/\∀ i m σ H,W i m σ H ->
 (J.stop i H/\D.nx σ H)\/(J.go i H/\∃ N:St->Hp->Prop,(∀ σ' H',N σ' H'->∃ m',m' < m/\W (i+1) m' σ' H')/\∀ x H',J.yld i H x H'->g x σ H' fun σ2 H2=>tb { D with nx:=N,ct:=N,bk:=D.nx } σ2 H2)
def kq (fp:List Addr) (h:Heap):List (Addr × Obj):=fp.filterMap fun b=>(h.get? b).map fun o=>(b,o)
def gK {fp:List Addr} {h:Heap} {b:Addr} {o:Obj} (hb:b∈fp) (e:h.get? b=some o):(b,o)∈kq fp h:=List.mem_filterMap.mpr ⟨b,hb,by rw [e]; rfl⟩
def vo {fp:List Addr} {h:Heap} {p:Addr × Obj} (hp:p∈kq fp h):p.1∈fp/\h.get? p.1=some p.2:=by
 obtain ⟨b,hb,e⟩:=List.mem_filterMap.mp hp;cases q:h.get? b with
 | none=>rw [q] at e; cases e
 | some o =>
  rw [q] at e;have e':(b,o)=p:=zat e;subst e';exact ⟨hb,q⟩
def Inv.pinned {pins:List (Addr × Obj)} {σ:St} {H:Hp} {s:Shared} {fp:List Addr} (I:Inv X pins σ H s) (hf:∀ b∈fp,il X pins H b) (ho:∀ b∈fp,∃ o,s.heap.get? b=some o/\∀ v,o.data≠.cell v):Inv X (pins++kq fp s.heap) σ H s :=
 I.pins_of fun p hp=>(zax.mp hp).elim (fun z=>I.pin p (List.mem_append_right _ z)) fun z=>by
  obtain ⟨hb,e⟩:=vo z;obtain ⟨f0,f1,f2,_⟩:=hf p.1 hb;obtain ⟨o,e',d⟩:=ho p.1 hb;rw [e] at e'; cases e';exact ⟨e,f0,f1,f2,d⟩
def Inv.unpinned {pins pl:List (Addr × Obj)} {σ:St} {H:Hp} {s:Shared} (I:Inv X (pins++pl) σ H s):Inv X pins σ H s:=I.pins_of fun p hp=>I.pin p (List.mem_append_right _ (List.mem_append_left _ hp))
def Ir {iter:Expr} {body:List Stmt} {wi:TI} {g:TG} {tb:TS} {pos:Pos} (hp:PassesOwn (model X.prog X.w) X.A X.env X.xe) (hc:X.calm=true) (hi:PI X tg iter wi) (hg:PG X tg g) (hb:PSs X body tb)
  (hs:∀ x,foldedSetIterable iter X.env x=pure x:=by intro _; rfl):PS X (.For tg iter body [] pos) (HU wi g tb):=by
 intro pins s σ H D I h;refine wpAny_For (thn (hi pins s σ H _ I h) fun v s1 h1=>thn h1 fun itv s2 h2=>?_) hs;obtain ⟨it,fp,tn,J,H2,e,I2,T,st2,f2,W,⟨m0,w0⟩,turn⟩:=h2;subst e;have stat:∀ {H':Hp},(∀ b∈fp,H' b=none)->∀ b∈fp,il X pins H' b:=fun hn b hb=>⟨hn b hb,(f2 b hb).2⟩;refine codeAny_forLoop_any (fun n s'=>∃ i σ' H',Inv X pins σ' H' s'/\tn i s'.heap/\(∀ b∈fp,H' b=none)/\W i n σ' H') ?_ m0 ⟨0,σ,H2,I2,st2,fun b hb=>(f2 b hb).1,w0⟩;rintro n s3 ⟨i,σ3,H3,I3,st3,fr3,w3⟩;rcases turn i n σ3 H3 w3 with ⟨stop,qn⟩ | ⟨go,N,hN,step⟩
 ·refine wpAny_passesOwn hp (thn (T.done X rfl rfl rfl hc i pins s3 σ3 H3 X.xe I3 (stat fr3) st3 stop) fun r s4 ⟨hr,I4⟩=>?_);subst hr;exact wpAny_execs_nil ⟨σ3,H3,I4,qn⟩
 ·refine wpAny_passesOwn hp (thn (T.item X rfl rfl rfl hc i pins s3 σ3 H3 X.xe I3 (stat fr3) st3 go) fun r s4 ⟨u,hr,h4⟩=>?_);subst hr;refine wpAny_passesOwn hp (thn h4 fun _ s5 ⟨x,H5,I5,r5,y5,st5,fr5⟩=>?_);have I5':=I5.pinned (stat fr5) (T.obj _ _ st5);refine wpAny_passesOwn hp (thn (hg _ s5 σ3 H5 x u _ I5' r5 (step x H5 y5)) fun _ s6 ⟨σ6,H6,I6,q6⟩=>?_);refine wpAny_passesOwn hp (thn (hb _ s6 σ6 H6 _ I6 q6) fun f s7 q7=>?_);have again:∀ {σ7:St} {H7:Hp},Inv X (pins++kq fp s5.heap) σ7 H7 s7->N σ7 H7->∃ m,m < n/\∃ i σ' H',Inv X pins σ' H' s7/\tn i s7.heap/\(∀ b∈fp,H' b=none)/\W i m σ' H':=fun {σ7 H7} I7 n7=>by
   obtain ⟨m',hm,w7⟩:=hN σ7 H7 n7;refine ⟨m',hm,i+1,σ7,H7,I7.unpinned,T.keep _ _ _ st5 fun b hb o e=>(I7.pin (b,o) (List.mem_append_right _ (List.mem_append_right _ (gK hb e)))).1,fun b hb=>?_,w7⟩;obtain ⟨o,e,d⟩:=T.obj _ _ st5 b hb;exact (I7.pin (b,o) (List.mem_append_right _ (List.mem_append_right _ (gK hb e)))).2.1
  cases f with
  | next=>obtain ⟨σ7,H7,I7,n7⟩:=q7; exact again I7 n7
  | cont=>obtain ⟨σ7,H7,I7,n7⟩:=q7; exact again I7 n7
  | brk=>obtain ⟨σ7,H7,I7,q7⟩:=q7; exact ⟨σ7,H7,I7.unpinned,q7⟩
  | ret v=>obtain ⟨x7,σ7,H7,I7,r7,q7⟩:=q7; exact ⟨x7,σ7,H7,I7.unpinned,r7,q7⟩
end
abbrev R2:=V->V->Hp->VK->Prop
def OpR (X:Cx) (f:Value->Value->Sem Value) (r:R2):Prop :=
 ∀ (pins:List (Addr × Obj)) (s:Shared) (σ:St) (H:Hp) (x y:V) (v u:Value) (Q:VK),Inv X pins σ H s->RelV x v->RelV y u->r x y H Q ->
  wpAny (model X.prog X.w) X.A (f v u) (EP X pins σ Q) X.xe s
def UnR (X:Cx) (f:Value->Sem Value) (r:V->Hp->VK->Prop):Prop :=
 ∀ (pins:List (Addr × Obj)) (s:Shared) (σ:St) (H:Hp) (x:V) (v:Value) (Q:VK),Inv X pins σ H s->RelV x v->r x H Q ->
  wpAny (model X.prog X.w) X.A (f v) (EP X pins σ Q) X.xe s
def CallR (X:Cx) (f:Value) (r:List V->Hp->VK->Prop):Prop :=
 ∀ (pins:List (Addr × Obj)) (s:Shared) (σ:St) (H:Hp) (xs:List V) (us:List Value) (Q:VK),Inv X pins σ H s->Vals xs us->r xs H Q ->
  wpAny (model X.prog X.w) X.A (call f us) (EP X pins σ Q) X.xe s
def Ln (X:Cx) (r:V->Hp->(Bool->Hp->Prop)->Prop):Prop :=
 ∀ (pins:List (Addr × Obj)) (s:Shared) (σ:St) (H:Hp) (x:V) (v:Value) (Q:Bool->Hp->Prop),Inv X pins σ H s->RelV x v->r x H Q ->
  wpAny (model X.prog X.w) X.A (truthy v) (TP X pins σ Q) X.xe s
def tOp (r:R2) (ta tb:TE):TE:=fun σ H Q=>ta σ H fun x H1=>tb σ H1 fun y H2=>r x y H2 Q
def tUn (r:V->Hp->VK->Prop) (ta:TE):TE:=fun σ H Q=>ta σ H fun x H1=>r x H1 Q
def rI (C:Int->Int->Prop) (g:Int->Int->V):R2:=fun x y H Q=>∃ i j,x=.int i/\y=.int j/\C i j/\Q (g i j) H
def rI0 (g:Int->Int->V):R2:=fun x y H Q=>∃ i j,x=.int i/\y=.int j/\Q (g i j) H
def rU (g:Int->V):V->Hp->VK->Prop:=fun x H Q=>∃ i,x=.int i/\Q (g i) H
section
variable {X:Cx} {a b c:Expr} {ta tb tc:TE} {pos:Pos}
def ye (ha:PE X a ta) (hb:PE X b tb) {pins:List (Addr × Obj)} {s:Shared} {σ:St} {H:Hp} {R:V->V->Hp->Prop} (I:Inv X pins σ H s)
  (h:ta σ H fun x H1=>tb σ H1 fun y H2=>R x y H2) {Q:Value->Shared->Prop} {f:Value->Value->Sem Value}
  (hf:∀ v u s2 x y H2,Inv X pins σ H2 s2->RelV x v->RelV y u->R x y H2->wpAny (model X.prog X.w) X.A (f v u) Q X.xe s2) :
  wpAny (model X.prog X.w) X.A (eval a X.env) (fun v s₁=>wpAny (model X.prog X.w) X.A (eval b X.env) (fun u s₂=>wpAny (model X.prog X.w) X.A (f v u) Q X.xe s₂) X.xe s₁) X.xe s:=by
 refine thn (ha pins s σ H _ I h) fun v s1 ⟨x,H1,I1,r1,q1⟩=>?_;refine thn (hb pins s1 σ H1 _ I1 q1) fun u s2 ⟨y,H2,I2,r2,q2⟩=>?_;exact hf v u s2 x y H2 I2 r1 r2 q2
def Kp {op:Operator} {r:R2} (ho:OpR X (binaryOp op) r) (ha:PE X a ta) (hb:PE X b tb):PE X (.BinOp a op b pos) (tOp r ta tb):=by
 intro pins s σ H Q I h;exact wpAny_BinOp (ye ha hb I h fun v u s2 x y H2 I2 rx ry q=>ho pins s2 σ H2 x y v u Q I2 rx ry q)
def Km {op:UnaryOp} {r:V->Hp->VK->Prop} (ho:UnR X (unaryOp op) r) (ha:PE X a ta):PE X (.UnaryOp op a pos) (tUn r ta):=by
 intro pins s σ H Q I h;exact UnaryOp_ (thn (ha pins s σ H _ I h) fun v s1 ⟨x,H1,I1,r1,q1⟩=>ho pins s1 σ H1 x v Q I1 r1 q1)
def opI {f:Value->Value->Sem Value} {C:Int->Int->Prop} {g:Int->Int->Int}
  (rule:∀ (i j:Int) (t u:Tok) (s:Shared) (Q:Value->Shared->Prop) (E:Value->Shared->Prop),C i j->Q (.int (g i j) s.toks) { s with toks:=s.toks+1 }->wpAny (model X.prog X.w) X.A (f (.int i t) (.int j u)) Q E s) :
  OpR X f (rI C fun i j=>.int (g i j)):=by
 intro pins s σ H x y v u Q I rx ry h;obtain ⟨i,j,rfl,rfl,hc,q⟩:=h;obtain ⟨t,rfl⟩:=rx;obtain ⟨t',rfl⟩:=ry;exact rule i j t t' s _ _ hc ⟨.int (g i j),H,I.tok _,⟨_,rfl⟩,q⟩
def IB {f:Value->Value->Sem Value} {g:Int->Int->Int}
  (rule:∀ (i j:Int) (t u:Tok) (s:Shared) (Q:Value->Shared->Prop) (E:Value->Shared->Prop),Q (.int (g i j) s.toks) { s with toks:=s.toks+1 }->wpAny (model X.prog X.w) X.A (f (.int i t) (.int j u)) Q E s) :
  OpR X f (rI0 fun i j=>.int (g i j)):=by
 intro pins s σ H x y v u Q I rx ry h;obtain ⟨i,j,rfl,rfl,q⟩:=h;obtain ⟨t,rfl⟩:=rx;obtain ⟨t',rfl⟩:=ry;exact rule i j t t' s _ _ ⟨.int (g i j),H,I.tok _,⟨_,rfl⟩,q⟩
def tU {f:Value->Value->Sem Value} {g:Int->Int->Bool}
  (rule:∀ (i j:Int) (t u:Tok) (s:Shared) (Q:Value->Shared->Prop) (E:Value->Shared->Prop),Q (.bool (g i j)) s->wpAny (model X.prog X.w) X.A (f (.int i t) (.int j u)) Q E s) :
  OpR X f (rI0 fun i j=>.bl (g i j)):=by
 intro pins s σ H x y v u Q I rx ry h;obtain ⟨i,j,rfl,rfl,q⟩:=h;obtain ⟨t,rfl⟩:=rx;obtain ⟨t',rfl⟩:=ry;exact rule i j t t' s _ _ ⟨.bl (g i j),H,I,rfl,q⟩
def gI (i j:Int):Prop:=0 < j/\j < 1073741824
def j5 (i j:Int):Prop:=0<=j/\j<=1000000/\i.natAbs < 2 ^ 64
def CMul (i j:Int):Prop:=(-(2 ^ 64) < i/\i < 2 ^ 64)\/(-(2 ^ 64) < j/\j < 2 ^ 64)
def CMul.ok {i j:Int} (h:CMul i j):IntMulOk i j:=by
 rcases h with ⟨h1,h2⟩ | ⟨h1,h2⟩
 ·exact .of_left (intBits_le_64 h1 h2)
 ·exact .of_right (intBits_le_64 h1 h2)
def op_add:OpR X (binaryOp .Add) (rI0 fun i j=>.int (i+j)):=IB fun _ _ _ _ _ _ _ q=>add_int q
def op_sub:OpR X (binaryOp .Sub) (rI0 fun i j=>.int (i - j)):=IB fun _ _ _ _ _ _ _ q=>sub_int q
def op_mul:OpR X (binaryOp .Mult) (rI CMul fun i j=>.int (i * j)):=opI fun _ _ _ _ _ _ _ hc q=>mul_int q hc.ok
def op_fdiv:OpR X (binaryOp .FloorDiv) (rI gI fun i j=>.int (i / j)):=opI fun i j _ _ _ _ _ hc q=>by
 have h1:(0:Int) < j:=hc.1;have h2:j < 1073741824:=hc.2;exact floordiv_int (by omega) (by rw [Int.fdiv_eq_ediv_of_nonneg i (by omega)]; exact q) (.inl (PyProof.noPylong_small (by omega)))
def op_mod:OpR X (binaryOp .Mod) (rI (fun _ j=>0 < j) fun i j=>.int (i % j)):=opI fun i j _ _ _ _ _ hc q=>by
 have h1:(0:Int) < j:=hc;exact mod_int' (by omega) (by rw [Int.fmod_eq_emod_of_nonneg i (by omega)]; exact q)
def op_pow:OpR X (binaryOp .Pow) (rI j5 fun i j=>.int (i ^ j.toNat)):=opI fun _ _ _ _ _ _ _ hc q=>pow_int_small hc.1 hc.2.1 hc.2.2 q
def unI {f:Value->Sem Value} {g:Int->Int}
  (rule:∀ (i:Int) (t:Tok) (s:Shared) (Q:Value->Shared->Prop) (E:Value->Shared->Prop),Q (.int (g i) s.toks) { s with toks:=s.toks+1 }->wpAny (model X.prog X.w) X.A (f (.int i t)) Q E s) :
  UnR X f (rU fun i=>.int (g i)):=by
 intro pins s σ H x v Q I rx h;obtain ⟨i,rfl,q⟩:=h;obtain ⟨t,rfl⟩:=rx;exact rule i t s _ _ ⟨.int (g i),H,I.tok _,⟨_,rfl⟩,q⟩
def un_neg:UnR X (unaryOp .USub) (rU fun i=>.int (-i)):=unI fun _ _ _ _ _ q=>neg_int q
def v3 {pins:List (Addr × Obj)} {σ:St} {H:Hp} {s:Shared} {Q:VK} {k k':Bool} (I:Inv X pins σ H s) (q:Q (.bl k) H) (e:k=k'):EP X pins σ Q (.bool k') s:=by
 subst e;exact ⟨.bl k,H,I,rfl,q⟩
def op_lt:OpR X (compareOp .Lt) (rI0 fun i j=>.bl (decide (i < j))):=tU fun _ _ _ _ _ _ _ q=>lt_int q
def op_le:OpR X (compareOp .LtE) (rI0 fun i j=>.bl (decide (i<=j))):=tU fun _ _ _ _ _ _ _ q=>le_int q
def op_gt:OpR X (compareOp .Gt) (rI0 fun i j=>.bl (decide (j < i))):=tU fun _ _ _ _ _ _ _ q=>gt_int q
def op_ge:OpR X (compareOp .GtE) (rI0 fun i j=>.bl (decide (j<=i))):=tU fun _ _ _ _ _ _ _ q=>ge_int q
def op_isN:OpR X (compareOp .Is) (fun x y H Q=>y=.non/\Q (.bl (decide (x=.non))) H):=by
 intro pins s σ H x y v u Q I rx ry h;obtain ⟨rfl,q⟩:=h;cases ry;refine is_none_gen (v3 I q ?_);cases x <;> first
  | (cases rx; rfl)
  | (obtain ⟨t,rfl⟩:=rx; rfl)
def op_notN:OpR X (compareOp .IsNot) (fun x y H Q=>y=.non/\Q (.bl (!decide (x=.non))) H):=by
 intro pins s σ H x y v u Q I rx ry h;obtain ⟨rfl,q⟩:=h;cases ry;refine isnot_none_gen (v3 I q ?_);cases x <;> first
  | (cases rx; rfl)
  | (obtain ⟨t,rfl⟩:=rx; rfl)
def aR (b:Expr) {op:CmpOp} (h:op≠.In:=by decide) (h2:op≠.NotIn:=by decide):behindInMarks op b=false:=by
 have e1:(op == CmpOp.In)=false:=by cases op <;> first | rfl | exact absurd rfl h
 have e2:(op == CmpOp.NotIn)=false:=by cases op <;> first | rfl | exact absurd rfl h2
 cases b <;> simp [behindInMarks,e1,e2]
def EF {op:CmpOp} {r:R2} (ho:OpR X (compareOp op) r) (ha:PE X a ta) (hb:PE X b tb) (hm:behindInMarks op b=false):PE X (.Compare a [op] [b] pos) (tOp r ta tb):=by
 intro pins s σ H Q I h;exact wpAny_Compare1 (ye ha hb I h fun v u s2 x y H2 I2 rx ry q=>ho pins s2 σ H2 x y v u Q I2 rx ry q) hm
def Kc (t:TE):TT:=fun σ H Q=>t σ H fun x H'=>∃ k,x=.bl k/\Q k H'
def Et {op:CmpOp} {r:R2} (ho:OpR X (compareOp op) r) (ha:PE X a ta) (hb:PE X b tb) (hm:behindInMarks op b=false):PT X (.Compare a [op] [b] pos) (Kc (tOp r ta tb)):=by
 intro pins s σ H Q I h;refine wpAny_isTrue_Compare1 (thn (ha pins s σ H _ I h) fun v s1 ⟨x,H1,I1,r1,q1⟩=>thn (hb pins s1 σ H1 _ I1 q1) fun u s2 ⟨y,H2,I2,r2,q2⟩ =>
  thn (ho pins s2 σ H2 x y v u _ I2 r1 r2 q2) fun c s3 ⟨z,H3,I3,r3,k,e,q3⟩=>?_) hm
 subst e;cases r3;exact wpAny_truthy_bool ⟨H3,I3,q3⟩
def Lm (K:PySem.W.Frag) (x:V) (H:Hp) (k:Bool):Prop :=
 match x with
 | .non=>k=false
 | .bl b=>k=b
 | .int i=>k=(i != 0)
 | .str y=>y.length<=sizeLine/\k=((y.length:Int) != 0)
 | .byt y=>y.size<=sizeLine/\k=((y.size:Int) != 0)
 | .ref p=>(∃ xs,SqL K H p xs/\k=!xs.isEmpty)\/(∃ xs,SqT K H p xs/\k=!xs.isEmpty)\/∃ kvs,H p=some (.dK kvs)/\k=!kvs.isEmpty
 | _=>False
def jh:(sizeLine:Nat) < 2 ^ 63:=by rw [sizeLine_eq]; decide
def tT:OpR X (binaryOp .Add) (fun x y H Q=>∃ i j,x=.str i/\y=.str j/\i.length+j.length<=sizeLine/\Q (.str (i++j)) H):=by
 intro pins s σ H x y v u Q I rx ry h;obtain ⟨i,j,rfl,rfl,hz,q⟩:=h;obtain ⟨t,rfl⟩:=rx;obtain ⟨t',rfl⟩:=ry;exact add_str (fun t' tk=>⟨.str (i++j),H,I.tok _,⟨_,rfl⟩,q⟩) hz
def eI {x:V} {us:List Value} (r:Vals [x] us):∃ u,us=[u]/\RelV x u:=by
 cases r with
 | cons r1 r2=>cases r2; exact ⟨_,rfl,r1⟩
def tG {x y:V} {us:List Value} (r:Vals [x,y] us):∃ u w',us=[u,w']/\RelV x u/\RelV y w':=by
 cases r with
 | cons r1 r2 =>
  cases r2 with
  | cons r3 r4=>cases r4; exact ⟨_,_,rfl,r1,r3⟩
def call_abs:CallR X (.builtin "abs") (fun xs H Q=>∃ i,xs=[.int i]/\Q (.int (if i < 0 then -i else i)) H):=by
 intro pins s σ H xs us Q I r h;obtain ⟨i,rfl,q⟩:=h;obtain ⟨u,rfl,t,rfl⟩:=eI r;exact call_abs_int fun u tk=>⟨.int (if i < 0 then -i else i),H,I.tok _,⟨_,rfl⟩,q⟩
def wo (hc:X.calm=true):CallR X (.builtin "max") (fun xs H Q=>∃ i j,xs=[.int i,.int j]/\Q (.int (if j > i then j else i)) H):=by
 intro pins s σ H xs us Q I r h;obtain ⟨i,j,rfl,q⟩:=h;obtain ⟨u,w',rfl,⟨t,rfl⟩,⟨t',rfl⟩⟩:=tG r;refine max_two_ints (I.ok.hd hc) fun h' tk k=>⟨_,H,I.kept k,?_,q⟩;by_cases hj:j > i
 ·rw [if_pos hj,if_pos hj]; exact ⟨_,rfl⟩
 ·rw [if_neg hj,if_neg hj]; exact ⟨_,rfl⟩
def wn (hc:X.calm=true):CallR X (.builtin "min") (fun xs H Q=>∃ i j,xs=[.int i,.int j]/\Q (.int (if j < i then j else i)) H):=by
 intro pins s σ H xs us Q I r h;obtain ⟨i,j,rfl,q⟩:=h;obtain ⟨u,w',rfl,⟨t,rfl⟩,⟨t',rfl⟩⟩:=tG r;refine min_two_ints (I.ok.hd hc) fun h' tk k=>⟨_,H,I.kept k,?_,q⟩;by_cases hj:j < i
 ·rw [if_pos hj,if_pos hj]; exact ⟨_,rfl⟩
 ·rw [if_neg hj,if_neg hj]; exact ⟨_,rfl⟩
def call_int1:CallR X (.type "int") (fun xs H Q=>(∃ i,xs=[.int i]/\Q (.int i) H)\/∃ k,xs=[.bl k]/\Q (.int (if k then 1 else 0)) H):=by
 intro pins s σ H xs us Q I r h;rcases h with ⟨i,rfl,q⟩ | ⟨k,rfl,q⟩
 ·obtain ⟨u,rfl,t,rfl⟩:=eI r;exact call_int_int ⟨.int i,H,I,⟨_,rfl⟩,q⟩
 ·obtain ⟨u,rfl,r1⟩:=eI r;cases r1;exact call_int_bool ⟨.int (if k then 1 else 0),H,I.tok _,⟨_,rfl⟩,q⟩
def J8 (K:PySem.W.Frag) (x:V) (H:Hp) (n:Nat):Prop :=
 match x with
 | .str y=>y.length<=sizeLine/\n=y.length
 | .byt y=>y.size<=sizeLine/\n=y.size
 | .ref p=>(∃ xs,SqL K H p xs/\n=xs.length)\/∃ xs,SqT K H p xs/\n=xs.length
 | _=>False
def xZ:CallR X (.builtin "len") (fun xs H Q=>∃ x n,xs=[x]/\J8 X.K x H n/\Q (.int n) H):=by
 intro pins s σ H xs us Q I r h;obtain ⟨x,n,rfl,e,q⟩:=h;obtain ⟨u,rfl,rx⟩:=eI r;have hl:=jh;have hs:sizeLine=16777216:=sizeLine_eq;cases x with
 | str y =>
  obtain ⟨t,rfl⟩:=rx;obtain ⟨hy,e'⟩:y.length<=sizeLine/\n=y.length:=e;subst e';exact len_str (by omega) ⟨.int _,H,I.tok _,⟨_,rfl⟩,q⟩
 | byt y =>
  obtain ⟨t,rfl⟩:=rx;obtain ⟨hy,e'⟩:y.size<=sizeLine/\n=y.size:=e;subst e';exact PySem.W.len_bytes (by omega) ⟨.int _,H,I.tok _,⟨_,rfl⟩,q⟩
 | ref p =>
  cases rx;have e':(∃ xs,SqL X.K H p xs/\n=xs.length)\/∃ xs,SqT X.K H p xs/\n=xs.length:=e;rcases e' with ⟨xs,hx,e'⟩ | ⟨xs,hx,e'⟩
  ·subst e';obtain ⟨its,r',pl,hz⟩:=I.list hx;have hlen:=r'.length;exact Calls.call_len_list pl.isList (by simp only [zai]; omega) ⟨.int xs.length,H,I.tok _,⟨_,by simp only [zai]; rw [hlen]⟩,q⟩
  ·subst e';obtain ⟨its,r',pl,hz⟩:=I.tuple hx;have hlen:=r'.length;exact len_tuple pl (by simp only [zai]; omega) ⟨.int xs.length,H,I.tok _,⟨_,by simp only [zai]; rw [hlen]⟩,q⟩
 | _=>exact (show False from e).elim
end
structure ObjM (h:Heap) (x dx C:Addr) (mA:Str->Option Value):Prop where
 obj:h.get? x=some (PySem.W.instObj C dx)
 ns:h.Ns1 dx mA
 ne:dx≠x
def vB {h:Heap} {dx:Addr} {mA:Str->Option Value} (n:h.Ns1 dx mA):∃ od,h.get? dx=some od/\∀ name,PySem.W.lookIn name od=some (mA name):=by
 obtain ⟨o,es,ep,ho,hd,hk,_,hm⟩:=n;refine ⟨o,ho,fun name=>?_⟩;have e:=hm name;unfold nsFind findBy at e;rw [<- Array.find?_toList] at e;unfold PySem.W.lookIn;rw [hd]
 dsimp only
 split
 ·rename_i y q;rw [q] at e;exact congrArg some e
 ·rename_i q;rw [q] at e;have a:es.toList.any (·.refKey)=false:=by
   rw [List.any_eq_false];intro y hy;obtain ⟨z,t,hkey⟩:=hk y (Array.mem_toList_iff.mp hy);simp [DictEntry.refKey,hkey]
  have a':¬ es.toList.any (·.refKey)=true:=by rw [a]; exact Bool.false_ne_true
  rw [if_neg a'];exact congrArg some e
def ObjM.look {h:Heap} {x dx C:Addr} {mA:Str->Option Value} (I:ObjM h x dx C mA):∃ od,PySem.W.InstAt h x (PySem.W.instObj C dx) C (some od)/\∀ name,PySem.W.lookIn name od=some (mA name) :=
 let ⟨od,ho,hl⟩:=vB I.ns
 ⟨od,⟨I.obj,rfl,rfl,ho⟩,hl⟩
section
variable {prog:Program} {w:World} {A:Around} {E:Value->Shared->Prop} {s:Shared} {K:PySem.W.Frag} {x dx C f:Addr} {mA:Str->Option Value} {name:Str} {v:Value}
end
def RelO.some_of {v:V} {o:Option Value} (r:RelO (some v) o):∃ u,o=some u/\RelV v u:=by
 cases o with
 | none=>exact (show False from r).elim
 | some u=>exact ⟨u,rfl,r⟩
section
variable {P:Program} {w:World} {H H':Hp} {h h':Heap} {a C dx:Addr} {fs fs':List (Str × V)}
def EU (hok:HOk P w H h) (e:H a=some (.ins C dx fs)):∃ mA,ObjM h a dx C mA/\(∀ f,RelO (fs.lookup f) (mA f))/\PySem.Within mA (fs.map (·.1))/\fs.length<=1000/\H dx=some (.own a):=by
 obtain ⟨d,z,ne,ob,mA,n,r,q⟩:=(show ObjOk P w H h a (.ins C dx fs) from hok a _ e);exact ⟨mA,⟨ob,n,ne⟩,r,q,z,d⟩
end
structure Cls (K:PySem.W.Frag) (C:Addr):Prop where
 pg:PySem.W.plainGet K C Str.empty=true
 hd:PySem.W.hasDictIn K C=true
 po:PySem.W.plainOver K C=true
 sa:PySem.W.findIn K (.ref C) "__setattr__"=some (some (.builtin "object.__setattr__"))
def Cls.get {K:PySem.W.Frag} {C:Addr} (c:Cls K C) (f:Str):PySem.W.plainGet K C f=true:=c.pg
section
variable {X:Cx} {pins:List (Addr × Obj)} {σ:St} {H:Hp} {s:Shared} {a C dx:Addr} {fs:List (Str × V)} {f:Str} {v:V} {A:Around} {E:Value->Shared->Prop}
end
section
variable {X:Cx} {o e value:Expr} {f:Str} {pos pos' tpos:Pos} {ta tv:TE}
end
section
variable {X:Cx} {pins:List (Addr × Obj)} {σ:St} {H:Hp} {s:Shared} {A:Around} {E:Value->Shared->Prop} {Q:Value->Shared->Prop} {c:Value} {b:Bool}
inductive TyOf (K:PySem.W.Frag) (H:Hp):V->Value->Prop where
 | non:TyOf K H .non (.type "NoneType")
 | bl (x:Bool):TyOf K H (.bl x) (.type "bool")
 | int (i:Int):TyOf K H (.int i) (.type "int")
 | str (x:Str):TyOf K H (.str x) (.type "str")
 | flt (x:UInt64):TyOf K H (.flt x) (.type "float")
 | lst {a:Addr} {xs:List V} (e:H a=some (.lst xs)):TyOf K H (.ref a) (.type "list")
 | frz {a:Addr} {o:Obj} {xs:List V} (e:H a=some (.frz o (.lst xs))):TyOf K H (.ref a) (.type "list")
 | tup {a:Addr} {xs:List V} (e:H a=some (.tup xs)):TyOf K H (.ref a) (.type "tuple")
 | dK {a:Addr} {kvs:List (Key × V)} (e:H a=some (.dK kvs)):TyOf K H (.ref a) (.type "dict")
 | dT {a:Addr} {kvs:List (List Key × V)} (e:H a=some (.dT kvs)):TyOf K H (.ref a) (.type "dict")
 | ins {a C dx:Addr} {fs:List (Str × V)} (e:H a=some (.ins C dx fs)) (cl:Cls K C) (ha:PySem.W.findIn K (.ref C) "__class__"=some (some (.builtin "object.__class__")))
   (hn:PySem.W.specialIn K (.builtin "object.__class__") "__get__"=some (some (.builtin "getset_descriptor.__get__"))) (htk:PySem.W.takesIn K (.builtin "object.__class__")=some true)
   (hm:PySem.W.mroIn K C (.type "object")=some true):TyOf K H (.ref a) (.ref C)
def vO {x:V} {u t:Value} (I:Inv X pins σ H s) (rx:RelV x u) (ty:TyOf X.K H x t) (e:PySem.W.kitOne X.K t c=some b) (h:∀ tk,Q (.bool b) { s with toks:=tk }) :
  wpAny (model X.prog X.w) A (call (.builtin "isinstance") [u,c]) Q E s:=by
 cases ty with
 | non=>cases (show u=Value.none from rx); exact PySem.W.kia_one PySem.W.kitx_none I.kIn True.intro e (fun z=>nomatch z) h
 | bl y=>cases (show u=Value.bool y from rx); exact PySem.W.kia_one PySem.W.kitx_bool I.kIn True.intro e (fun z=>nomatch z) h
 | int i=>obtain ⟨t,q⟩:=(show ∃ t,u=Value.int i t from rx); cases q; exact PySem.W.kia_one PySem.W.kitx_int I.kIn True.intro e (fun z=>nomatch z) h
 | str y=>obtain ⟨t,q⟩:=(show ∃ t,u=Value.str y t from rx); cases q; exact PySem.W.kia_one PySem.W.kitx_str I.kIn True.intro e (fun z=>nomatch z) h
 | flt y=>obtain ⟨t,q⟩:=(show ∃ t,u=Value.float y t from rx); cases q; exact PySem.W.kia_one PySem.W.kitx_float I.kIn True.intro e (fun z=>nomatch z) h
 | @lst a xs ea =>
  cases (show u=Value.ref a from rx);obtain ⟨_,_,n,_,h1⟩:=(show ObjOk X.prog X.w H s.heap a (.lst xs) from I.hok a _ ea);exact PySem.W.kia_one PySem.W.kitx_list I.kIn ⟨_,h1,rfl⟩ e (fun z=>nomatch z) h
 | @frz a ob xs ea =>
  cases (show u=Value.ref a from rx);obtain ⟨_,_,_,n,_,h1⟩:=(show ObjOk X.prog X.w H s.heap a (.frz ob (.lst xs)) from I.hok a _ ea);exact PySem.W.kia_one PySem.W.kitx_list I.kIn ⟨_,h1,rfl⟩ e (fun z=>nomatch z) h
 | @tup a xs ea =>
  cases (show u=Value.ref a from rx);obtain ⟨_,_,_,p⟩:=(show ObjOk X.prog X.w H s.heap a (.tup xs) from I.hok a _ ea);obtain ⟨o,h1,h2,_⟩:=p;exact PySem.W.kia_one PySem.W.kitx_tuple I.kIn ⟨o,h1,h2⟩ e (fun z=>nomatch z) h
 | @dK a kvs ea =>
  cases (show u=Value.ref a from rx);obtain ⟨_,_,vs,_,p⟩:=(show ObjOk X.prog X.w H s.heap a (.dK kvs) from I.hok a _ ea);obtain ⟨o,es,ep,h1,h2,_⟩:=p;exact PySem.W.kia_one PySem.W.kitx_dict I.kIn ⟨o,h1,h2.1⟩ e (fun z=>nomatch z) h
 | @dT a kvs ea =>
  cases (show u=Value.ref a from rx);obtain ⟨_,_,xs,_,o,es,ep,h1,h2,_⟩:=(show ObjOk X.prog X.w H s.heap a (.dT kvs) from I.hok a _ ea);exact PySem.W.kia_one PySem.W.kitx_dict I.kIn ⟨o,h1,h2.1⟩ e (fun z=>nomatch z) h
 | @ins a C dx fs ea cl ha hn htk hm =>
  cases (show u=Value.ref a from rx);obtain ⟨mA,O,_⟩:=EU I.hok ea;obtain ⟨od,J,_⟩:=O.look;exact PySem.W.kia_one (PySem.W.kitx_own (cl.get _) cl.hd ha hn htk hm) I.kIn J e (fun z=>nomatch z) h
end
structure Room (k:Nat) (A:Around):Prop where
 hd:A.handled=none
 dp:A.depth+3 * k+5 < recursionLimit
 un:A.units+16 * k+200 < cLine
 gd:A.guards=some []
def Room.mono {j k:Nat} {A:Around} (r:Room k A) (h:j<=k):Room j A:=⟨r.hd,by have:=r.dp; omega,by have:=r.un; omega,r.gd⟩
def Room.deeper {k:Nat} {A:Around} (r:Room (k+1) A) (env:Env):Room k (A.deeper env) :=
 ⟨r.hd,by have:=r.dp; show A.depth+1+3 * k+5 < _; omega,by have:=r.un; show A.units+3+16 * k+200 < _; omega,r.gd⟩
def Room.depth {k:Nat} {A:Around} (r:Room k A):A.depth < recursionLimit:=by have:=r.dp; omega
def Room.units {k:Nat} {A:Around} (r:Room k A):A.units+64 < cLine:=by have:=r.un; omega
def nQ:TA:=fun _ H Q=>Q [] H
def iu (ta:TE) (tr:TA):TA:=fun σ H Q=>ta σ H fun x H1=>tr σ H1 fun xs H2=>Q (x :: xs) H2
section
variable {X:Cx} {e:Expr} {es:List Expr} {te:TE} {t:TA} {pos:Pos}
def pa_nil:PA X [] nQ:=fun _ _ _ _ H Q I h=>Calls.spliced_nil ⟨[],H,I,.nil,h⟩
def bU (ha:PE X e te) (hr:PA X es t) (hs:starEach (e :: es) X.env=(false,eval e X.env) :: starEach es X.env:=by rfl):PA X (e :: es) (iu te t):=by
 intro pos pins s σ H Q I h;rw [hs];show wpAny _ _ (spliced ((false,eval e X.env) :: backTo pos (starEach es X.env))) _ _ s;refine Calls.spliced_cons (thn (ha pins s σ H _ I h) fun u s1 ⟨x,H1,I1,r1,q1⟩=>?_);exact thn (hr pos pins s1 σ H1 _ I1 q1) fun us s2 ⟨xs,H2,I2,r2,q2⟩=>⟨x :: xs,H2,I2,.cons r1 r2,q2⟩
def HK (t:TA):TE:=fun σ H Q=>t σ H fun xs H1=>xs.length<=sizeLine/\∀ p,H1 p=none->Q (.ref p) (upd H1 p (.tup xs))
def HR (t:TA):TE:=fun σ H Q=>t σ H fun xs H1=>xs.length<=sizeLine/\∀ p,H1 p=none->Q (.ref p) (upd H1 p (.lst xs))
def vg {x1} (h:PA X es t):PE X (.Tuple es x1 pos) (HK t):=by
 intro pins s σ H Q I hq;refine wpAny_Tuple_spliced (thn (h pos pins s σ H _ I hq) fun us s1 ⟨xs,H1,I1,r,z,q⟩=>⟨by rw [<- r.length]; exact z,?_⟩);have hf:H1 s1.heap.objs.size=none:=I1.hok.fresh (zav _);refine ⟨.ref s1.heap.objs.size,upd H1 s1.heap.objs.size (.tup xs),I1.laid (t':=s1.toks) (fun b u e=>zaf _ e) (zav _) ?_,rfl,q _ hf⟩;exact ⟨z,us,r,⟨_,zan _ rfl,rfl,_,rfl,rfl⟩⟩
def Iz (h:PA X es t):PE X (.List es pos) (HR t):=by
 intro pins s σ H Q I hq;refine wpAny_List_spliced (thn (h pos pins s σ H _ I hq) fun us s1 ⟨xs,H1,I1,r,z,q⟩=>⟨by rw [<- r.length]; exact z,?_⟩);have hf:H1 s1.heap.objs.size=none:=I1.hok.fresh (zav _);refine ⟨.ref s1.heap.objs.size,upd H1 s1.heap.objs.size (.lst xs),I1.laid (t':=s1.toks) (fun b u e=>zaf _ e) (zav _) ?_,rfl,q _ hf⟩;exact ⟨z,us,0,r,zan _ rfl⟩
end
abbrev Sp:=List V->Hp->VK->XK->Prop
abbrev CXT:=List Env->Hp->Shared->XK->Value->Shared->Prop
structure Env0 (P:Program) (w:World) (K:PySem.W.Frag) (mg:Str->Option Value) (base:Heap) (A:Around) (outer:List Env) (s:Shared) (H:Hp):Prop where
 frames:A.frames=some outer
 mod:Mod K mg base
 bs:∀ b o,base.get? b=some o->s.heap.get? b=some o/\H b=none
 bsz:base.objs.size<=s.heap.objs.size
 funs:s.heap.FunFrames base outer
 frf:∀ b∈frs outer,H b=none
 hok:HOk P w H s.heap
 bare:AllBare s.gens
def CE (outer:List Env) (P:Program) (w:World) (H:Hp) (s:Shared) (Q:VK) (u:Value) (s':Shared):Prop :=
 ∃ v H',s'.os=s.os/\AllBare s'.gens/\Un (frs outer) [] H H' s.heap s'.heap/\HOk P w H' s'.heap/\RelV v u/\Q v H'
def CR (CX:CXT) (outer:List Env) (P:Program) (w:World) (H:Hp) (s:Shared) (Q:VK) (E:XK) (r:Result) (s':Shared):Prop :=
 match r with
 | .ok (.ret u)=>CE outer P w H s Q u s'
 | .ok _=>False
 | .error e=>CX outer H s E e s'
structure FnOk (P:Program) (w:World) (K:PySem.W.Frag) (mg:Str->Option Value) (base:Heap) (CX:CXT) (k:Nat) (f:Addr) (fd:FuncData) (ps:List Str) (sp:Sp):Prop where
 len:∀ vs H Q E,sp vs H Q E->vs.length=ps.length
 run:∀ (A:Around) (outer:List Env) (s:Shared) (H:Hp) (args:Args) (us:List Value) (vs:List V) (Q:VK) (E:XK),Room k A->Env0 P w K mg base A outer s H->BindsTo s fd args (ps.zip us)->Vals vs us->sp vs H Q E ->
  codeAny (model P w) A (.call (.ref f) args) (CR CX outer P w H s Q E) s
def FnOk.mono {P:Program} {w:World} {K:PySem.W.Frag} {mg:Str->Option Value} {base:Heap} {CX:CXT} {j k:Nat} {f:Addr} {fd:FuncData} {ps:List Str} {sp:Sp} (F:FnOk P w K mg base CX j f fd ps sp) (h:j<=k) :
  FnOk P w K mg base CX k f fd ps sp:=⟨F.len,fun A outer s H args us vs Q E hr=>F.run A outer s H args us vs Q E (hr.mono h)⟩
def FnOk.imp {P:Program} {w:World} {K:PySem.W.Frag} {mg:Str->Option Value} {base:Heap} {CX:CXT} {k:Nat} {f:Addr} {fd:FuncData} {ps:List Str} {sp sp':Sp} (F:FnOk P w K mg base CX k f fd ps sp)
  (h:∀ vs H Q E,sp' vs H Q E->sp vs H Q E):FnOk P w K mg base CX k f fd ps sp' :=
 ⟨fun vs H Q E q=>F.len vs H Q E (h _ _ _ _ q),fun A outer s H args us vs Q E hr he hb hv hs=>F.run A outer s H args us vs Q E hr he hb hv (h _ _ _ _ hs)⟩
section
variable {X:Cx} {pins:List (Addr × Obj)} {σ:St} {H:Hp} {s s':Shared}
def Inv.env0 (I:Inv X pins σ H s):Env0 X.prog X.w X.K X.mg X.base X.A X.stack s H :=
 ⟨I.ok.frames,I.ok.mod,I.bs,zau I.ok.bsz I.sz,I.stack,I.stkFree,I.hok,I.bare⟩
def Inv.after {Q:VK} {u:Value} (I:Inv X pins σ H s) (h:CE X.stack X.prog X.w H s Q u s'):EP X pins σ Q u s':=by
 obtain ⟨v,H',os,bare,un,hok,r,q⟩:=h;obtain ⟨hh,g,d,t,os'⟩:=s';obtain rfl:os'=s.os:=os;exact ⟨v,H',I.call (h':=hh) (g':=g) (d':=d) (t':=t) (ch:=[]) un hok bare (fun b z=>absurd z (by simp)),r,q⟩
end
def tN (sp:Sp) (dvs:List V) (E:XK) (t:TA):TE:=fun σ H Q=>t σ H fun vs H1=>sp (vs++dvs) H1 Q E
def Binds (K:PySem.W.Frag) (fd:FuncData) (ps:List Str) (ds:List Value):Prop :=
 ∀ (s:Shared) (us:List Value),K.In s.heap->(us++ds).length=ps.length->BindsTo s fd ⟨us,[]⟩ (ps.zip (us++ds))
def Binds.all {K:PySem.W.Frag} {fd:FuncData} {ps:List Str} (h:∀ us:List Value,us.length=ps.length->bindArgs fd ⟨us,[]⟩=pure (ps.zip us)):Binds K fd ps []:=fun s us _ hl=>by
 rw [List.append_nil] at hl ⊢;exact .of_eq (h us hl)
def rD (CX:CXT) (X:Cx) (E:XK):Prop:=∀ (pins:List (Addr × Obj)) (σ:St) (H:Hp) (s:Shared) (e:Value) (s':Shared),Inv X pins σ H s->CX X.stack H s E e s'->X.xe e s'
section
variable {X:Cx} {CX:CXT} {k:Nat} {f C:Addr} {fd:FuncData} {ps:List Str} {sp:Sp} {dvs:List V} {ds:List Value} {E:XK} {x m:Str} {p pos apos:Pos} {e o:Expr} {es:List Expr} {ta:TE} {t:TA}
def HY {pins:List (Addr × Obj)} {σ:St} {H:Hp} {s:Shared} {Q:VK} {us:List Value} {vs:List V} (F:FnOk X.prog X.w X.K X.mg X.base CX k f fd ps sp) (hr:Room k X.A) (hb:Binds X.K fd ps ds) (hd:Vals dvs ds) (hx:rD CX X E)
  (I:Inv X pins σ H s) (r:Vals vs us) (h:sp (vs++dvs) H Q E):wpAny (model X.prog X.w) X.A (call (.ref f) us) (EP X pins σ Q) X.xe s:=by
 have r2:Vals (vs++dvs) (us++ds):=r.append hd;have hl:(us++ds).length=ps.length:=by rw [<- r2.length]; exact F.len _ _ _ _ h
 refine wpAny_call (codeAny_mono (F.run X.A X.stack s H ⟨us,[]⟩ (us++ds) (vs++dvs) Q E hr I.env0 (hb s us I.kIn hl) r2 h) fun r s' hq=>?_);cases r with
 | error e=>exact hx pins σ H s e s' I hq
 | ok fl =>
  cases fl with
  | ret u=>exact I.after hq
  | next=>exact False.elim hq
  | brk=>exact False.elim hq
  | cont=>exact False.elim hq
def EG (F:FnOk X.prog X.w X.K X.mg X.base CX k f fd ps sp) (hr:Room k X.A) (hg:Gl X x) (hm:X.mg x=some (.ref f)) (hk:PySem.W.keepIn X.K (.ref f)=true) (hb:Binds X.K fd ps ds) (hd:Vals dvs ds) (hx:rD CX X E)
  (ha:PA X (e :: es) t) (hdb:(x == ("__debug__" : Str))=false:=by decide) (he:starEach (e :: es) X.env=(false,eval e X.env) :: starEach es X.env:=by rfl) (hpl:(backTo pos (starEach es X.env)).any (·.1)=false:=by rfl) :
  PE X (.Call (.Name x p) (e :: es) [] pos) (tN sp dvs E t):=by
 intro pins s σ H Q I h;refine wpAny_Call_Name_kw (fP I hg hm ?_ hdb);refine PySem.W.callWith_K (h₀:=X.base) I.ok.mod.kin hk (thn (ha pos pins s σ H _ I h) fun us s1 ⟨vs,H1,I1,r,q⟩=>⟨I1.kIn,?_⟩) he hpl;exact HY F hr hb hd hx I1 r q
end
section
variable {X:Cx} {CX:CXT} {k:Nat} {f C:Addr} {fd:FuncData} {ps ks:List Str} {sp:Sp} {E:XK} {x m:Str} {p pos apos kpos:Pos} {e o:Expr} {es:List Expr} {kws:List Keyword} {te ta:TE} {t tk:TA} {nm:Option Str}
variable {g:List Value->List Value->List Value} {gV:List V->List V->List V}
end
structure FnScope (N P:List Str) (sc:Scope):Prop where
 kind:sc.kind=.function
 co:sc.isCoroutine=false
 gen:sc.isGenerator=false
 nd:N.Nodup
 pre:N.take P.length=P
 par:∀ x∈P,sc.names.lookup x=some .local\/sc.names.lookup x=some .cell
 nofree:∀ y∈sc.names,y.2≠.free
def pf {kindOf:Str->Option NameKind} {x:Str}:∀ {binds:List (Str × Value)} {m:Str->Option Value},(∀ v,(x,v) ∉ binds)->bindL kindOf binds m x=m x
 | [],_,_=>rfl
 | (n,v) :: r,m,h=>by
  unfold bindL;rw [pf fun w hw=>h w (zaj _ hw)];split
  ·have:x≠n:=by rintro rfl; exact h v zaq
   simp [this]
  ·rfl
def pi {kindOf:Str->Option NameKind} {x:Str}:∀ {binds:List (Str × Value)} {m:Str->Option Value},(∀ v,(x,v) ∉ binds)->bindC kindOf binds m x=m x
 | [],_,_=>rfl
 | (n,v) :: r,m,h=>by
  unfold bindC;rw [pi fun w hw=>h w (zaj _ hw)];split
  ·rfl
  ·have:x≠n:=by rintro rfl; exact h v zaq
   simp [this]
def ph {kindOf:Str->Option NameKind} {x:Str} {v:Value}:∀ {P:List Str} {vs:List Value} {i:Nat} {m:Str->Option Value},P.Nodup->P[i]?=some x->vs[i]?=some v->kindOf x=some .local ->
  bindL kindOf (P.zip vs) m x=some v
 | [],_,_,_,_,h,_,_=>by simp at h
 | _ :: _,[],_,_,_,_,h,_=>by simp at h
 | p :: P,w :: vs,0,m,nd,h1,h2,hk=>by
  simp at h1 h2; subst h1; subst h2;show bindL kindOf ((p,w) :: P.zip vs) m p=_;unfold bindL;rw [pf fun v hv=>(zbd.mp nd).1 (List.of_mem_zip hv).1,if_pos hk];simp
 | p :: P,w :: vs,i+1,m,nd,h1,h2,hk=>by
  show bindL kindOf ((p,w) :: P.zip vs) m x=_;unfold bindL;exact ph (i:=i) (zbd.mp nd).2 (by simpa using h1) (by simpa using h2) hk
def pj {kindOf:Str->Option NameKind} {x:Str} {v:Value}:∀ {P:List Str} {vs:List Value} {i:Nat} {m:Str->Option Value},P.Nodup->P[i]?=some x->vs[i]?=some v->kindOf x≠some .local ->
  bindC kindOf (P.zip vs) m x=some v
 | [],_,_,_,_,h,_,_=>by simp at h
 | _ :: _,[],_,_,_,_,h,_=>by simp at h
 | p :: P,w :: vs,0,m,nd,h1,h2,hk=>by
  simp at h1 h2; subst h1; subst h2;show bindC kindOf ((p,w) :: P.zip vs) m p=_;unfold bindC;rw [pi fun v hv=>(zbd.mp nd).1 (List.of_mem_zip hv).1,if_neg hk];simp
 | p :: P,w :: vs,i+1,m,nd,h1,h2,hk=>by
  show bindC kindOf ((p,w) :: P.zip vs) m x=_;unfold bindC;exact pj (i:=i) (zbd.mp nd).2 (by simpa using h1) (by simpa using h2) hk
def cw (N:List Str) (vs:List V):St:=vs.map some++List.replicate (N.length - vs.length) none
def ie (CX:CXT) (P:Program) (w:World) (K:PySem.W.Frag) (mg:Str->Option Value) (base:Heap) (N:List Str) (qual:Str) (scope:Scope) (f:Addr) (cd:Value) (A:Around) (outer:List Env) (s:Shared) (H:Hp) (E:XK):Cx where
 prog:=P
 w:=w
 K:=K
 mg:=mg
 base:=base
 A:=A.deeper (envOfC qual scope s.heap.objs.size f cd)
 N:=N
 s₀:=s
 H₀:=H
 env:=envOfC qual scope s.heap.objs.size f cd
 outer:=outer
 stack:=envOfC qual scope s.heap.objs.size f cd :: outer
 ex:=[]
 calm:=true
 fn:=fun _=>true
 pn:=[]
 xe:=fun e s'=>wpAny (model P w) (A.deeper (envOfC qual scope s.heap.objs.size f cd)) (leaving (envOfC qual scope s.heap.objs.size f cd) e) (fun _ s''=>CX outer H s E e s'') (fun e' s''=>CX outer H s E e' s'') s'
def rl {sc:Scope} {n:Nat} {x:Str} (h:sc.names.lookup x=some .cell):∃ c,(cellsFrom n sc.names []).lookup x=some c:=by
 have q:=PySem.W.cellsFrom_some sc.names n [] (.inl h);exact Option.isSome_iff_exists.mp q
def vP {CX:CXT} {P:Program} {w:World} {K:PySem.W.Frag} {mg:Str->Option Value} {base:Heap} {N ps:List Str} {qual:Str} {scope:Scope} {f:Addr} {cd:Value} {A:Around} {outer:List Env} {s s1:Shared} {H:Hp} {E:XK} {us:List Value} {vs:List V}
  (S:FnScope N ps scope) (hd:A.handled=none) (e0:Env0 P w K mg base A outer s H) (hl:vs.length=ps.length) (r:Vals vs us)
  (x:InCallC s s.heap.objs.size (bindL (envOfC qual scope s.heap.objs.size f cd).kindOf (ps.zip us) fun _=>none) (cellsFrom (s.heap.objs.size+1) scope.names []) (bindC (envOfC qual scope s.heap.objs.size f cd).kindOf (ps.zip us) fun _=>none) s1) :
  Inv (ie CX P w K mg base N qual scope f cd A outer s H E) [] (cw N vs) H s1:=by
 have hpl:ps.length<=N.length:=by have:=congrArg List.length S.pre; rw [zaE] at this; omega
 obtain ⟨h1,tk,rfl,hk⟩:=x.done;have noA:∀ b:Addr,b ∉ (ie CX P w K mg base N qual scope f cd A outer s H E).ex:=fun b z=>absurd (show b∈([]:List Addr) from z) (by simp);refine ⟨⟨e0.mod,S.kind,rfl,rfl,zav _,fun y z c h1 h2=>?_,fun y hy=>?_,fun y c _ h=>?_,fun _=>hd,Around.frames_deeper e0.frames,.inr ⟨rfl,rfl⟩,fun b z=>absurd z (noA b),e0.bs,e0.bsz,fun b _ _=>noA b,fun b z=>absurd z (noA b),e0.funs,e0.frf⟩,
  rfl,e0.bare,Un.kept hk,⟨_,x.toInCall.ns,fun i y v h1 h2 h3=>?_⟩,fun y c h=>⟨_,x.cell y c h⟩,e0.hok.fresh (zav _),fun y c h=>?_,fun p hp=>absurd (show p∈([]:List (Addr × Obj)) from hp) (by simp),e0.hok.kept hk,?_⟩
 ·exact name_of_addr x.apart (zaU h1) (zaU h2)
 ·have hy:scope.names.lookup y=some .cell\/scope.names.lookup y=some .free:=hy;rcases hy with hy | hy
  ·exact rl hy
  ·exact absurd rfl (S.nofree _ (zaU hy))
 ·exact Nat.le_of_lt (x.above y c (zaU h))
 ·have hi:i < vs.length:=by
   unfold cw at h2;by_cases hi:i < vs.length
   ·exact hi
   ·rw [List.getElem?_append_right (by simpa using hi)] at h2;rw [List.getElem?_replicate] at h2;split at h2 <;> cases h2
  have ha:vs[i]?=some v:=by
   unfold cw at h2;rw [zaS (by simpa using hi),zao] at h2;cases e:vs[i]? with
   | none=>rw [e] at h2; cases h2
   | some a=>rw [e] at h2; cases h2; rfl
  obtain ⟨u,hu,rv⟩:=r.get ha;have hp:ps[i]?=some y:=by
   rw [<- S.pre,List.getElem?_take_of_lt (by omega)]; exact h1
  have ndP:ps.Nodup:=by rw [<- S.pre]; exact S.nd.sublist (List.take_sublist _ _)
  refine ⟨u,rv,?_⟩;rcases S.par y (zaX hp) with k | k
  ·exact .inl ⟨k,ph ndP hp hu k⟩
  ·obtain ⟨c,e⟩:=rl (n:=s.heap.objs.size+1) k;refine .inr ⟨.inl k,c,e,?_⟩;have q:=x.cell y c e;rw [pj ndP hp hu (by show scope.names.lookup y≠_; rw [k]; decide)] at q;exact q
 ·exact e0.hok.fresh (Nat.le_of_lt (x.above y c (zaU h)))
 ·unfold cw;show _=N.length;rw [zae,zad,zaN];omega
def Ec {CX:CXT} {P:Program} {w:World} {K:PySem.W.Frag} {mg:Str->Option Value} {base:Heap} {k:Nat} {f:Addr} {name qual:Str} {params:Arguments} {body:List Stmt} {scope:Scope} {dV kV doc pm cdv ct oc:Value} {an od:Option Addr}
  {osl:Array (Option Value)} {N ps:List Str} {sp:Sp} (lk:K.lookup f=some ⟨oc,od,.func (PySem.W.fnOf name qual params body scope dV kV doc pm an cdv ct),osl⟩) (hcd:PySem.W.codeIn K cdv qual=true) (S:FnScope N ps scope)
  (len:∀ vs H Q E,sp vs H Q E->vs.length=ps.length)
  (hbody:∀ (A:Around) (outer:List Env) (s:Shared) (H:Hp) (vs:List V) (Q:VK) (E:XK),Room k (A.deeper (envOfC qual scope s.heap.objs.size f cdv))->sp vs H Q E ->
   ∃ t,PSs (ie CX P w K mg base N qual scope f cdv A outer s H E) body t/\t { nx:=fun _ H'=>Q .non H',rt:=Q } (cw N vs) H) :
  FnOk P w K mg base CX (k+1) f (PySem.W.fnOf name qual params body scope dV kV doc pm an cdv ct) ps sp:=by
 refine ⟨len,fun A outer s H args us vs Q E hr e0 hb r hsp=>?_⟩;have hl:=len _ _ _ _ hsp;have KX:K.In s.heap:=e0.mod.kin.keeps fun b o e=>(e0.bs b o e).1;have lim:s.heap.NoLimit:=e0.mod.nolimit.keeps fun b o e=>(e0.bs b o e).1;have hkind:∀ y∈ps.zip us,scope.names.lookup y.1=some .local\/(scope.names.lookup y.1=some .cell/\((cellsFrom (s.heap.objs.size+1) scope.names []).lookup y.1).isSome=true):=fun ⟨n,v⟩ hy=>by
  rcases S.par n (List.of_mem_zip hy).1 with q | q
  ·exact .inl q
  ·exact .inr ⟨q,PySem.W.cellsFrom_some _ _ _ (.inl q)⟩
 refine codeAny_call_function hr.depth (KX _ _ lk) rfl S.co S.gen rfl (PySem.W.codeRec_of KX hcd) (hb _ _ _ _ ?_);refine wpAny_newFunctionEnv_cells S.kind hkind fun env he s1 x=>?_;subst he;refine ⟨lim.keeps x.toInCall.keep,codeAny_func ?_⟩;obtain ⟨t,ht,hq⟩:=hbody A outer s H vs Q E (hr.deeper _) hsp;have I:Inv (ie CX P w K mg base N qual scope f cdv A outer s H E) [] (cw N vs) H s1:=vP S hr.hd e0 hl r x;refine wpAny_mono (ht [] s1 (cw N vs) H _ I hq) (fun fl s' hs=>?_) fun e s' hs=>hs;have fin:∀ {σ':St} {H':Hp} {v:V} {u:Value},Inv (ie CX P w K mg base N qual scope f cdv A outer s H E) [] σ' H' s'->RelV v u->Q v H'->CE outer P w H s Q u s' :=
  fun {σ' H' v u} J rv q=>⟨v,H',J.os,J.bare,J.base,J.hok,rv,q⟩
 cases fl with
 | ret u =>
  obtain ⟨v,σ',H',J,rv,q⟩:=hs;exact fin J rv q
 | next =>
  obtain ⟨σ',H',J,q⟩:=hs;exact fin (v:=V.non) (u:=Value.none) J rfl q
 | brk =>
  obtain ⟨_,_,_,q⟩:=hs;exact False.elim q
 | cont =>
  obtain ⟨_,_,_,q⟩:=hs;exact False.elim q
section
variable {X:Cx} {x:Str} {p pos:Pos} {e:Expr} {es:List Expr} {t:TA} {id T:String} {r:List V->Hp->VK->Prop}
def tCB (r:List V->Hp->VK->Prop) (t:TA):TE:=fun σ H Q=>t σ H fun vs H1=>r vs H1 Q
def hU (hc:CallR X (.builtin id) r) (hg:Gl X x) (hm:X.mg x=none) (hv:bootBuiltins x=some (.builtin id)) (ha:PA X (e :: es) t) (hn:x≠"__name__":=by decide) (hdb:(x == ("__debug__" : Str))=false:=by decide)
  (he:starEach (e :: es) X.env=(false,eval e X.env) :: starEach es X.env:=by rfl) (hpl:(backTo pos (starEach es X.env)).any (·.1)=false:=by rfl):PE X (.Call (.Name x p) (e :: es) [] pos) (tCB r t):=by
 intro pins s σ H Q I h;refine wpAny_Call_Name_kw (kx I hg hm hv ?_ hn hdb);exact PyProof.Rows.callWith_builtin1 (thn (ha pos pins s σ H _ I h) fun us s1 ⟨vs,H1,I1,r1,q1⟩=>hc pins s1 σ H1 vs us Q I1 r1 q1) he hpl
def vi (hc:CallR X (.type T) r) (hg:Gl X x) (hm:X.mg x=none) (hv:bootBuiltins x=some (.type T)) (ha:PA X (e :: es) t) (hn:x≠"__name__":=by decide) (hdb:(x == ("__debug__" : Str))=false:=by decide)
  (he:starEach (e :: es) X.env=(false,eval e X.env) :: starEach es X.env:=by rfl) (hpl:(backTo pos (starEach es X.env)).any (·.1)=false:=by rfl):PE X (.Call (.Name x p) (e :: es) [] pos) (tCB r t):=by
 intro pins s σ H Q I h;refine wpAny_Call_Name_kw (kx I hg hm hv ?_ hn hdb);exact PyProof.Rows.callWith_type1 (thn (ha pos pins s σ H _ I h) fun us s1 ⟨vs,H1,I1,r1,q1⟩=>hc pins s1 σ H1 vs us Q I1 r1 q1) he hpl
end
end L2
namespace HT
open PySem PyProof.Rows
section
open PySem.SeqAt
open PySem.AutoSeq1 (wpAny_loadPart')
open PySem.MeetsSeq PySem.MeetsSeq2 PySem.MeetsSeq3
end
section
variable {prog:Program} {w:World} {A:Around} {E:Value->Shared->Prop} {s:Shared}
def sIx (n d:Nat):Option Int->Nat
 | none=>d
 | some v=>if v < 0 then (v+(n:Int)).toNat else min v.toNat n
def sIx_none (n d:Nat):sIx n d none=d:=rfl
def sIx_nat (n d k:Nat):sIx n d (some (k:Int))=min k n:=by
 show (if (k:Int) < 0 then ((k:Int)+(n:Int)).toNat else min (k:Int).toNat n)=min k n;rw [if_neg (by omega),zaL]
def u8 (n d:Nat) (hd:d<=n) (o:Option Int):sIx n d o<=n:=by
 cases o with
 | none=>exact hd
 | some v =>
  show (if v < 0 then (v+(n:Int)).toNat else min v.toNat n)<=n;by_cases hv:v < 0
  ·rw [if_pos hv]; omega
  ·rw [if_neg hv]; exact Nat.min_le_right _ _
end
end HT
namespace L2
open PySem PySem.Spec PyProof.Rows
abbrev TO:=St->Hp->(Option Int->Hp->Prop)->Prop
def PO (X:Cx) (e:Option Expr) (t:TO):Prop :=
 ∀ (pins:List (Addr × Obj)) (s:Shared) (σ:St) (H:Hp) (Q:Option Int->Hp->Prop),Inv X pins σ H s->t σ H Q ->
  wpAny (model X.prog X.w) X.A (evalPart e X.env) (fun u s'=>∃ o H',Inv X pins σ H' s'/\IsPart u o/\Q o H') X.xe s
def Ej:TO:=fun _ H Q=>Q none H
def Kd (t:TE):TO:=fun σ H Q=>t σ H fun x H1=>∃ i,x=.int i/\Q (some i) H1
section
variable {X:Cx} {e:Expr} {te:TE} {lo hi:Option Expr} {tl th:TO} {pos p2:Pos}
def po_none:PO X none Ej:=by
 intro pins s σ H Q I h;rw [evalPart_none];exact zaT ⟨none,H,I,.none,h⟩
def EB (h:PE X e te):PO X (some e) (Kd te):=by
 intro pins s σ H Q I hw;rw [evalPart_some];refine thn (h pins s σ H _ I hw) fun u s1 ⟨x,H1,I1,r1,q1⟩=>?_;obtain ⟨i,rfl,q⟩:=q1;obtain ⟨t,rfl⟩:=r1;exact ⟨some i,H1,I1,.int i t,q⟩
def SlR (X:Cx) (r:V->Option Int->Option Int->Hp->VK->Prop):Prop :=
 ∀ (pins:List (Addr × Obj)) (s:Shared) (σ:St) (H:Hp) (x:V) (v vl vu:Value) (lo hi:Option Int) (sl:Addr) (Q:VK),Inv X pins σ H s->RelV x v->s.heap.IsSliceOf sl vl vu .none->IsPart vl lo->IsPart vu hi->r x lo hi H Q ->
  ∃ T id,typeLookup (.type T) "__getitem__"=pure (some (.builtin id))/\s.TypeIs v T/\wpAny (model X.prog X.w) X.A (getItem v (.ref sl)) (EP X pins σ Q) X.xe s
def tSl (r:V->Option Int->Option Int->Hp->VK->Prop) (te:TE) (tl th:TO):TE:=fun σ H Q=>te σ H fun x H1=>tl σ H1 fun l H2=>th σ H2 fun u H3=>r x l u H3 Q
def wU {r:V->Option Int->Option Int->Hp->VK->Prop} (hr:SlR X r) (he:PE X e te) (hl:PO X lo tl) (hu:PO X hi th):PE X (.Subscript e (.Slice lo hi none p2) pos) (tSl r te tl th):=by
 intro pins s σ H Q I h;refine Subscript_ (thn (he pins s σ H _ I h) fun v s1 ⟨x,H1,I1,r1,q1⟩=>?_);refine wpAny_Slice (thn (hl pins s1 σ H1 _ I1 q1) fun vl s2 ⟨l,H2,I2,pl,q2⟩=>thn (hu pins s2 σ H2 _ I2 q2) fun vu s3 ⟨u,H3,I3,pu,q3⟩=>?_);rw [evalPart_none];refine zaT ?_;have I4:Inv X pins σ H3 { s3 with heap:=s3.heap.push { cls:=.type "slice",data:=.fields #[vl,vu,.none] } }:=I3.kept (t':=s3.toks) fun b ob q=>zaf _ q;obtain ⟨T,id,hT,ht,hg⟩:=hr pins { s3 with heap:=s3.heap.push { cls:=.type "slice",data:=.fields #[vl,vu,.none] } } σ H3 x v vl vu l u s3.heap.objs.size Q I4 r1 (Heap.IsSliceOf.new ..) pl pu q3;show wpAny (model X.prog X.w) X.A (subscriptTail e (.Slice lo hi none p2) v (.ref s3.heap.objs.size)) (EP X pins σ Q) X.xe { s3 with heap:=s3.heap.push { cls:=.type "slice",data:=.fields #[vl,vu,.none] } };exact tail_any (ops:=[.ref s3.heap.objs.size,v]) ht hT hg (by with_unfolding_all rfl)
def oy (xs:List V) (lo hi:Option Int):List V:=(xs.drop (HT.sIx xs.length 0 lo)).take (HT.sIx xs.length xs.length hi - HT.sIx xs.length 0 lo)
def r9 (xs:List V) (lo hi:Option Int):(oy xs lo hi).length<=xs.length:=by
 unfold oy;rw [zaE,zaF];omega
end
def ixN (n:Nat) (i:Int):Option Nat:=if 0<=i then (if i < n then some i.toNat else none) else if -(n:Int)<=i then some (i+n).toNat else none
def atI {α:Type} (xs:List α) (i:Int):Option α:=(ixN xs.length i).bind fun j=>xs[j]?
def sO {n:Nat} {i:Int} {j:Nat} (h:ixN n i=some j):seqIndex? i n=some j/\j < n/\-(n:Int)<=i/\i < n:=by
 unfold ixN at h;by_cases h0:0<=i
 ·rw [if_pos h0] at h;by_cases h1:i < n
  ·rw [if_pos h1] at h;have e:i.toNat=j:=zat h;exact ⟨by rw [seqIndex_of h0 h1,e],by omega,by omega,h1⟩
  ·rw [if_neg h1] at h; cases h
 ·rw [if_neg h0] at h;by_cases h1:-(n:Int)<=i
  ·rw [if_pos h1] at h;have e:(i+n).toNat=j:=zat h;exact ⟨by rw [seqIndex_neg (by omega) h1,e],by omega,h1,by omega⟩
  ·rw [if_neg h1] at h; cases h
def oA {α:Type} {xs:List α} {i:Int} {v:α} (h:atI xs i=some v):∃ j,seqIndex? i xs.length=some j/\xs[j]?=some v/\j < xs.length/\-(xs.length:Int)<=i/\i < xs.length:=by
 unfold atI at h;cases e:ixN xs.length i with
 | none=>rw [e] at h; cases h
 | some j =>
  rw [e] at h;obtain ⟨h1,h2,h3,h4⟩:=sO e;exact ⟨j,h1,h,h2,h3,h4⟩
def yg {α:Type} (xs:List α) (v:α):atI (xs++[v]) (-1)=some v:=by
 have hl:(xs++[v]).length=xs.length+1:=by simp
 have e:ixN (xs++[v]).length (-1)=some xs.length:=by
  unfold ixN;rw [hl,if_neg (by decide),if_pos (by omega)];congr 1;omega
 unfold atI;rw [e];show (xs++[v])[xs.length]?=some v;simp
def jr (b:Expr):Prop:=∀ o i,subscripted b false o i=operate [o,i] (getItem o i)
def IxR (X:Cx) (r:R2):Prop :=
 ∀ (value slice:Expr) (pins:List (Addr × Obj)) (s:Shared) (σ:St) (H:Hp) (x y:V) (v u:Value) (Q:VK),Inv X pins σ H s->RelV x v->RelV y u->r x y H Q ->
  subscripted slice false v u=operate [v,u] (getItem v u)->wpAny (model X.prog X.w) X.A (subscriptTail value slice v u) (EP X pins σ Q) X.xe s
def MtR (X:Cx) (id:String) (r:V->List V->Hp->VK->Prop):Prop :=
 ∀ (pins:List (Addr × Obj)) (s:Shared) (σ:St) (H:Hp) (x:V) (xs:List V) (v:Value) (us:List Value) (Q:VK),Inv X pins σ H s->RelV x v->Vals xs us->r x xs H Q ->
  wpAny (model X.prog X.w) X.A (call (.builtin id) (v :: us)) (EP X pins σ Q) X.xe s
section
variable {X:Cx} {a b:Expr} {ta tb:TE} {pos:Pos}
def IxR.or {r r':R2} (h:IxR X r) (h':IxR X r'):IxR X (fun x y H Q=>r x y H Q\/r' x y H Q):=by
 intro value slice pins s σ H x y v u Q I rx ry q hs;rcases q with q | q
 ·exact h value slice pins s σ H x y v u Q I rx ry q hs
 ·exact h' value slice pins s σ H x y v u Q I rx ry q hs
def DX {r:R2} (hr:IxR X r) (ha:PE X a ta) (hb:PE X b tb) (hs:jr b):PE X (.Subscript a b pos) (tOp r ta tb):=by
 intro pins s σ H Q I h;exact Subscript_ (ye ha hb I h fun v u s2 x y H2 I2 rx ry q=>hr a b pins s2 σ H2 x y v u Q I2 rx ry q (hs _ _))
def tQ (K:PySem.W.Frag):R2:=fun x y H Q=>∃ p xs i v,x=.ref p/\y=.int i/\SqL K H p xs/\atI xs i=some v/\Q v H
def Ie (K:PySem.W.Frag):R2:=fun x y H Q=>∃ p xs i v,x=.ref p/\y=.int i/\SqT K H p xs/\atI xs i=some v/\Q v H
def Ig:R2:=fun x y H Q=>∃ z i c,x=.str z/\y=.int i/\z.length<=sizeLine/\atI z.cps.toList i=some c/\Q (.str ⟨#[c]⟩) H
def ix_list:IxR X (tQ X.K):=by
 intro value slice pins s σ H x y v u Q I rx ry h hs;obtain ⟨p,xs,i,z,rfl,rfl,hq,he,q⟩:=h;cases rx;obtain ⟨t,rfl⟩:=ry;obtain ⟨its,r,pl,hz⟩:=I.list hq;obtain ⟨j,h1,h2,h3,h4,h5⟩:=oA he;obtain ⟨w,ew,rw'⟩:=r.get h2;have hl:=r.length;have hn:=jh;have fin:EP X pins σ Q w s:=⟨z,H,I,rw',q⟩;by_cases h0:0<=i
 ·have hj:i.toNat=j:=by
   rw [seqIndex_of h0 h5] at h1;exact zat h1
  exact item_listR pl.isList h0 (by omega) (by rw [hj]; simpa using ew) fin hs
 ·have hj:(i+(its.toArray.size:Int)).toNat=j:=by
   rw [seqIndex_neg (by omega) h4] at h1;rw [zai,<- hl];exact zat h1
  exact subscriptTail_builtinR (x:=w) pl.isList.typeIs slot_list_getitem.lookup
   (wpAny_getItem_list_neg (Q:=fun r s'=>r=w/\EP X pins σ Q r s') pl.isList (by omega) (by rw [zai] <;> omega) (by omega) (by rw [hj]; simpa using ew) ⟨rfl,fin⟩) hs
def ix_tup:IxR X (Ie X.K):=by
 intro value slice pins s σ H x y v u Q I rx ry h hs;obtain ⟨p,xs,i,z,rfl,rfl,hq,he,q⟩:=h;cases rx;obtain ⟨t,rfl⟩:=ry;obtain ⟨its,r,pl,hz⟩:=I.tuple hq;obtain ⟨j,h1,h2,h3,h4,h5⟩:=oA he;obtain ⟨w,ew,rw'⟩:=r.get h2;have hl:=r.length;have hn:=jh;have fin:EP X pins σ Q w s:=⟨z,H,I,rw',q⟩;exact subscriptTail_builtinR (x:=w) pl.typeIs slot_tuple_getitem.lookup
  (getItem_tuple (j:=j) (Q:=fun r s'=>r=w/\EP X pins σ Q r s') pl (by omega) (by omega) (by rw [zai,<- hl]; exact h1) (by simpa using ew) ⟨rfl,fin⟩) hs
def ix_str:IxR X Ig:=by
 intro value slice pins s σ H x y v u Q I rx ry h hs;obtain ⟨z,i,c,rfl,rfl,hz,he,q⟩:=h;obtain ⟨t,rfl⟩:=rx;obtain ⟨t',rfl⟩:=ry;obtain ⟨j,h1,h2,h3,h4,h5⟩:=oA he;have hl:z.cps.toList.length=z.length:=by simp [Str.length]
 rw [hl] at h1 h4 h5;have hn:=jh;exact tail_any (typeIs_str s z t) slot_str_getitem.lookup (getItem_str (c:=c) (by
  have e1:decide (i < -(2 ^ 63:Int))=false:=zaA (by omega);have e2:decide (i >= 2 ^ 63)=false:=zaA (by omega);rw [e1,e2,Bool.or_false]) (by rw [h1]; simpa using h2) ⟨.str ⟨#[c]⟩,H,I.tok _,⟨_,rfl⟩,q⟩) hs
def rIx (K:PySem.W.Frag):R2:=fun x y H Q=>tQ K x y H Q\/Ie K x y H Q\/Ig x y H Q
def ix_seq:IxR X (rIx X.K):=ix_list.or (ix_tup.or ix_str)
def uc (its:List Value) (n j:Nat) (u:Value):Obj.mapSeq (·.setIfInBounds j u) { cls:=.type "list",data:=.seq its.toArray n }={ cls:=.type "list",data:=.seq (its.set j u).toArray n }:=by
 simp [Obj.mapSeq]
def Inv.lst {pins:List (Addr × Obj)} {σ:St} {H:Hp} {s:Shared} {p:Addr} {xs:List V} (I:Inv X pins σ H s) (h:H p=some (.lst xs)) :
  ∃ (its:List Value) (n:Nat),Vals xs its/\s.heap.get? p=some { cls:=.type "list",data:=.seq its.toArray n }/\xs.length<=sizeLine:=by
 obtain ⟨z,its,n,r,e⟩:=I.hok p _ h;exact ⟨its,n,r,e,z⟩
def Inv.lstUpd {pins:List (Addr × Obj)} {σ:St} {H:Hp} {s:Shared} {p:Addr} {xs ys:List V} {its its':List Value} {n n':Nat} {f:Obj->Obj} (I:Inv X pins σ H s) (h:H p=some (.lst xs))
  (ho:s.heap.get? p=some { cls:=.type "list",data:=.seq its.toArray n }) (hf:f { cls:=.type "list",data:=.seq its.toArray n }={ cls:=.type "list",data:=.seq its'.toArray n' }) (r:Vals ys its') (hz:ys.length<=sizeLine) (t:Nat) :
  Inv X pins σ (upd H p (.lst ys)) { s with heap:=s.heap.update p f,toks:=t }:=by
 have e:(s.heap.update p f).get? p=some { cls:=.type "list",data:=.seq its'.toArray n' }:=by
  rw [Heap.get?_update_self f ho (by rw [hf] <;> rfl),hf]
 refine I.write (x:=p) (e:=p) (by rw [h]; trivial) (.inl rfl) (fun b u hb q=>(Heap.get?_update_other _ _ (Ne.symm hb)).trans q) ⟨_,e⟩ ?_;exact ⟨hz,its',n',r,e⟩
def DT:V->V->V->Hp->(Hp->Prop)->Prop:=fun o i v H Q=>∃ p xs k j,o=.ref p/\i=.int k/\H p=some (.lst xs)/\ixN xs.length k=some j/\Q (upd H p (.lst (xs.set j v)))
def wM:J5 X DT:=by
 intro pins s σ H o i v ov iv u Q I ro ri rv h;obtain ⟨p,xs,k,j,rfl,rfl,hp,hj,q⟩:=h;cases ro;obtain ⟨t,rfl⟩:=ri;obtain ⟨its,n,r,ho,hz⟩:=I.lst hp;obtain ⟨h1,h2,h3,h4⟩:=sO hj;have hl:=r.length;have hn:=jh;have I':Inv X pins σ (upd H p (.lst (xs.set j v))) { s with heap:=s.heap.update p (Obj.mapSeq (·.setIfInBounds j u)) } :=
  I.lstUpd hp ho (uc its n j u) (r.set rv j) (by rw [zaV]; exact hz) s.toks
 by_cases h0:0<=k
 ·have hk:k.toNat=j:=by
   rw [seqIndex_of h0 h4] at h1;exact zat h1
  exact PySem.W.ki_setAt ho h0 (by omega) (by rw [zai,<- hl]; exact h4) (by rw [hk]; exact ⟨_,I',q⟩)
 ·have hk:(k+(its.toArray.size:Int)).toNat=j:=by
   rw [seqIndex_neg (by omega) h3] at h1;rw [zai,<- hl];exact zat h1
  exact PySem.W.ki_setBack ho (by omega) (by rw [zai,<- hl]; exact h3) (by omega) (by rw [hk]; exact ⟨_,I',q⟩)
def kl (lo hi:Option Int) (n:Nat):(sliceBounds lo hi none n).1=((HT.sIx n 0 lo:Nat):Int)/\(sliceBounds lo hi none n).2.1=((HT.sIx n n hi:Nat):Int)/\(sliceBounds lo hi none n).2.2=1:=by
 refine ⟨?_,?_,rfl⟩
 ·cases lo with
  | none=>simp [sliceBounds,HT.sIx]
  | some i =>
   simp only [sliceBounds,HT.sIx,Option.getD_none,show (1:Int) > 0 by decide,if_true];by_cases h:i < 0
   ·simp only [h,if_true] <;> omega
   ·simp only [h,if_false] <;> omega
 ·cases hi with
  | none=>simp [sliceBounds,HT.sIx]
  | some i =>
   simp only [sliceBounds,HT.sIx,Option.getD_none,show (1:Int) > 0 by decide,if_true];by_cases h:i < 0
   ·simp only [h,if_true] <;> omega
   ·simp only [h,if_false] <;> omega
def pC (its:List Value) (lo hi:Option Int):slicePick its.toArray lo hi none=((its.drop (HT.sIx its.length 0 lo)).take (HT.sIx its.length its.length hi - HT.sIx its.length 0 lo)).toArray:=by
 obtain ⟨h1,h2,h3⟩:=kl lo hi its.toArray.size;unfold slicePick;rw [h1,h2,h3];simp only [sliceRange_one,pick_run,zai] <;> rfl
def Ic (K:PySem.W.Frag):V->Option Int->Option Int->Hp->VK->Prop:=fun x lo hi H Q=>∃ a xs,x=.ref a/\SqL K H a xs/\∀ p,H p=none->Q (.ref p) (upd H p (.lst (oy xs lo hi)))
def Em:SlR X (Ic X.K):=by
 intro pins s σ H x v vl vu lo hi sl Q I rx hs pl pu h;obtain ⟨a,xs,rfl,hx,q⟩:=h;cases rx;obtain ⟨its,r,ht,hz⟩:=I.list hx;have hlen:=r.length;refine ⟨"list",_,slot_list_getitem.lookup,ht.isList.typeIs,?_⟩;refine wpAny_getItem_list_slice ht.isList hs pl pu .none (by simp) ?_ (by rw [zai] <;> omega);rw [pC,<- hlen];refine ⟨.ref s.heap.objs.size,_,I.laid (t':=s.toks) (o:=.lst (oy xs lo hi)) (fun b ob q=>zaf _ q) (zav _) ?_,rfl,q _ (I.hok.fresh (zav _))⟩;exact ⟨zau (r9 xs lo hi) hz,_,0,(r.drop (HT.sIx xs.length 0 lo)).take (HT.sIx xs.length xs.length hi - HT.sIx xs.length 0 lo),zan _ rfl⟩
def rp:CallR X (.type "list") (fun xs H Q=>∃ p ys,xs=[.ref p]/\(SqL X.K H p ys\/SqT X.K H p ys)/\∀ l,H l=none->Q (.ref l) (upd H l (.lst ys))):=by
 intro pins s σ H xs us Q I r h;obtain ⟨p,ys,rfl,hq,q⟩:=h;obtain ⟨u,rfl,rx⟩:=eI r;cases rx;have fin:∀ (its:List Value),Vals ys its->ys.length<=sizeLine->∀ (h':Heap) (c':Nat),(∀ b o',s.heap.get? b=some o'->h'.get? b=some o') ->
   h'.get? s.heap.objs.size=some { cls:=.type "list",dict:=none,data:=.seq its.toArray c',slots:=#[] }->EP X pins σ Q (.ref s.heap.objs.size) { s with heap:=h' }:=fun its r' hz h' c' kp e =>
  ⟨.ref s.heap.objs.size,_,I.laid (t':=s.toks) kp (zav _) (show ObjOk X.prog X.w _ h' _ (.lst ys) from ⟨hz,its,c',r',e⟩),rfl,q _ (I.hok.fresh (zav _))⟩
 rcases hq with hq | hq
 ·obtain ⟨its,r',pl,hz⟩:=I.list hq;have hlen:=r'.length;obtain ⟨o,ho,hc,n,hd⟩:=pl.isList;exact call_list_seq p (.inl rfl) ho hc hd (fun h' c' kp e=>fin its r' hz h' c' kp e) (by simp only [zai] <;> omega)
 ·obtain ⟨its,r',pl,hz⟩:=I.tuple hq;have hlen:=r'.length;obtain ⟨o,ho,hc,n,hd⟩:=pl;exact call_list_seq p (.inr rfl) ho hc hd (fun h' c' kp e=>fin its r' hz h' c' kp e) (by simp only [zai] <;> omega)
def pE:CallR X (.type "tuple") (fun xs H Q=>∃ p ys,xs=[.ref p]/\((SqL X.K H p ys/\∀ l,H l=none->Q (.ref l) (upd H l (.tup ys)))\/(SqT X.K H p ys/\Q (.ref p) H))):=by
 intro pins s σ H xs us Q I r h;obtain ⟨p,ys,rfl,h⟩:=h;obtain ⟨u,rfl,rx⟩:=eI r;cases rx;rcases h with ⟨hq,q⟩ | ⟨hq,q⟩
 ·obtain ⟨its,r',pl,hz⟩:=I.list hq;have hlen:=r'.length;refine call_tuple_list pl.isList (fun h' kp=>?_) (by simp only [zai] <;> omega);have I1:Inv X pins σ H { s with heap:=h' }:=I.kept (t':=s.toks) kp;have I2:Inv X pins σ (upd H h'.objs.size (.tup ys)) { s with heap:=h'.push { cls:=.type "tuple",data:=.seq its.toArray } } :=
   I1.laid (t':=s.toks) (fun b o e=>zaf _ e) (zav _) (show ObjOk X.prog X.w _ _ _ (.tup ys) from ⟨hz,its,r',IsTupN.new _ _⟩)
  exact ⟨.ref h'.objs.size,_,I2,rfl,q _ (I1.hok.fresh (zav _))⟩
 ·obtain ⟨its,r',pl,hz⟩:=I.tuple hq;exact call_tuple_same pl ⟨.ref p,H,I,rfl,q⟩
def tyV (K:PySem.W.Frag) (T:String) (x:V) (H:Hp):Prop:=match x with
 | .str _=>T="str"
 | .int _=>T="int"
 | .ref p=>(T="list"/\∃ xs,SqL K H p xs)\/(T="tuple"/\∃ o,K.lookup p=some o/\o.cls=.type "tuple"/\o.dict=none) \/
   (T="dict"/\((∃ kvs,H p=some (.dK kvs))\/∃ kvs,H p=some (.dT kvs)))\/(T="set"/\∃ S n,H p=some (.set S n))
 | _=>False
def HJ {pins:List (Addr × Obj)} {σ:St} {H:Hp} {s:Shared} {T:String} {x:V} {v:Value} (I:Inv X pins σ H s) (r:RelV x v) (ty:tyV X.K T x H) :
  s.TypeIs v T/\∀ a,v=.ref a->∃ ob,s.heap.get? a=some ob/\ob.dict=none:=by
 cases x with
 | str z =>
  obtain ⟨t,rfl⟩:=r;cases (show T="str" from ty);exact ⟨typeIs_str s z t,fun _ e=>nomatch e⟩
 | int i =>
  obtain ⟨t,rfl⟩:=r;cases (show T="int" from ty);exact ⟨typeIs_int s i t,fun _ e=>nomatch e⟩
 | ref p =>
  cases r;rcases ty with ⟨rfl,xs,hq⟩ | ⟨rfl,o,hk,hc,hd⟩ | ⟨rfl,hk⟩ | ⟨rfl,S,n,hk⟩
  ·obtain ⟨its,_,pl,_⟩:=I.list hq;refine ⟨pl.isList.typeIs,fun a e=>?_⟩;cases e;obtain ⟨o,n,e,c,hd,_⟩:=pl;exact ⟨o,e,hd⟩
  ·refine ⟨⟨o,I.kIn p o hk,hc⟩,fun a e=>?_⟩;cases e;exact ⟨o,I.kIn _ o hk,hd⟩
  ·have z:∃ o,s.heap.get? p=some o/\o.ExactDict:=by
    rcases hk with ⟨kvs,hk⟩ | ⟨kvs,hk⟩
    ·obtain ⟨_,_,_,_,o,_,_,e,ex,_⟩:=I.hok p _ hk;exact ⟨o,e,ex⟩
    ·obtain ⟨_,_,_,_,o,_,_,e,ex,_⟩:=I.hok p _ hk;exact ⟨o,e,ex⟩
   obtain ⟨o,e,ex⟩:=z;refine ⟨⟨o,e,ex.1⟩,fun a e2=>?_⟩;cases e2;exact ⟨o,e,ex.2.1⟩
  ·obtain ⟨o,_,_,_,e,ex,_⟩:=I.hok p _ hk;refine ⟨⟨o,e,ex.1⟩,fun a e2=>?_⟩;cases e2;exact ⟨o,e,ex.2.1⟩
 | _=>exact False.elim ty
def tBM (K:PySem.W.Frag) (T:String) (r:V->List V->Hp->VK->Prop) (to:TE) (t:TA):TE:=fun σ H Q=>to σ H fun x H1=>tyV K T x H1/\t σ H1 fun xs H2=>r x xs H2 Q
variable {o e:Expr} {es:List Expr} {to:TE} {t:TA} {name:Str} {apos cpos:Pos} {T id:String} {r:V->List V->Hp->VK->Prop}
def tS (pa:PlainAttrs T) (slot:Slot T name id) (hty:typeOf (.builtin id)=pure (.type "method_descriptor")) (hm:MtR X id r) (ho:PE X o to) (ha:PA X (e :: es) t)
  (hbase:attributeBase o name X.env (eval o X.env)=eval o X.env:=by rfl)
  (hfew:((backTo cpos (starEach (e :: es) X.env)).all (fun x=>!x.1) && (backToKw cpos (keywordEach [] X.env)).all (fun x=>x.1.isSome)
   && decide ((e :: es).length+([]:List Keyword).length+(if ([]:List Keyword).isEmpty then 0 else 1) < 30))=true:=by rfl)
  (hline:(apos.endLine == cpos.line)=true:=by rfl) (hs:starEach (e :: es) X.env=(false,eval e X.env) :: starEach es X.env:=by rfl) (hplain:(backTo cpos (starEach es X.env)).any (·.1)=false:=by rfl) :
  PE X (.Call (.Attribute o name apos) (e :: es) [] cpos) (tBM X.K T r to t):=by
 intro pins s σ H Q I h;refine wpAny_Call_method_late hbase hfew hline rfl (thn (ho pins s σ H _ I h) fun v s1 ⟨x,H1,I1,r1,ty,q1⟩=>?_);obtain ⟨h1,h2⟩:=HJ I1 r1 ty;refine ⟨T,id,pa,slot,hty,h1,h2,?_⟩;have hA:=ha cpos pins s1 σ H1 _ I1 q1;rw [hs] at hA ⊢;refine Calls.callWith_builtin (by show (false || (backTo cpos (starEach es X.env)).any (·.1))=false; rw [hplain] <;> rfl) (Calls.evalArgs_plain ?_);exact thn hA fun us s2 ⟨vs,H2,I2,r2,q2⟩=>hm pins s2 σ H2 x vs v us Q I2 r1 r2 q2
end
def MtM (X:Cx) (id:String) (r:V->List V->Hp->VK->Prop):Prop :=
 ∀ (pins:List (Addr × Obj)) (s:Shared) (σ:St) (H:Hp) (x:V) (xs:List V) (v:Value) (us:List Value) (Q:VK),Inv X pins σ H s->RelV x v->Vals xs us->r x xs H Q ->
  wpAny (model X.prog X.w) X.A (call (.builtin id) (v :: us)) (EP X pins σ Q) X.xe s
def Vals.one:∀ {x:V} {us:List Value},Vals [x] us->∃ u,us=[u]/\RelV x u
 | _,_,.cons r .nil=>⟨_,rfl,r⟩
def Vals.two {x y:V} {us:List Value} (h:Vals [x,y] us):∃ u v,us=[u,v]/\RelV x u/\RelV y v:=by
 cases h with
 | cons r t =>
  cases t with
  | cons q n =>
   cases n;exact ⟨_,_,rfl,r,q⟩
def Vals.eraseIdx:∀ {xs:List V} {us:List Value} (i:Nat),Vals xs us->Vals (xs.eraseIdx i) (us.eraseIdx i)
 | _,_,_,.nil=>.nil
 | _,_,0,.cons _ t=>t
 | _,_,i+1,.cons r t=>.cons r (Vals.eraseIdx i t)
def oU {α:Type}:∀ (l:List α) (i:Nat),(l.eraseIdx i).length<=l.length
 | [],_=>zav _
 | _ :: _,0=>Nat.le_succ _
 | _ :: r,i+1=>Nat.succ_le_succ (oU r i)
section
variable {X:Cx} {pins:List (Addr × Obj)} {σ:St} {H:Hp} {s:Shared} {l b:Addr} {xs ys zs:List V}
def Inv.lset {its its':List Value} {n:Nat} {f:Array Value->Array Value} {t':Nat} (I:Inv X pins σ H s) (hH:H l=some (.lst xs))
  (e:s.heap.get? l=some { cls:=.type "list",data:=.seq its.toArray n }) (hf:f its.toArray=its'.toArray) (hv:Vals ys its') (hz:ys.length<=sizeLine) :
  Inv X pins σ (upd H l (.lst ys)) { s with heap:=s.heap.update l (Obj.mapSeq f),toks:=t' }:=by
 have q:=PySem.IsL.update e f;rw [hf] at q;refine I.write (x:=l) (e:=l) (by rw [hH]; exact trivial) (.inl rfl) (fun b' u hb hu=>(Heap.get?_update_other s.heap (Obj.mapSeq f) (Ne.symm hb)).trans hu) ⟨_,q⟩ ?_;exact ⟨hz,its',_,hv,q⟩
def Inv.lnew {its:List Value} {t':Nat} (I:Inv X pins σ H s) (hv:Vals ys its) (hz:ys.length<=sizeLine) :
  Inv X pins σ (upd H s.heap.objs.size (.lst ys)) { s with heap:=s.heap.push { cls:=.type "list",data:=.seq its.toArray },toks:=t' } :=
 I.laid (fun _ _ q=>zaf _ q) (zav _) ⟨hz,its,0,hv,zan _ rfl⟩
def Inv.fresh (I:Inv X pins σ H s):H s.heap.objs.size=none:=I.hok.fresh (zav _)
def Inv.lstM (I:Inv X pins σ H s) (hH:H l=some (.lst xs)):xs.length<=sizeLine/\∃ (its:List Value) (n:Nat),Vals xs its/\xs.length=its.length/\s.heap.get? l=some { cls:=.type "list",data:=.seq its.toArray n }:=by
 obtain ⟨z,its,n,r,e⟩:=I.hok l _ hH;exact ⟨z,its,n,r,r.length,e⟩
end
section
variable {X:Cx}
def sw:V->List V->Hp->VK->Prop:=fun x vs H Q=>∃ l xs y,x=.ref l/\vs=[y]/\H l=some (.lst xs)/\xs.length < sizeLine/\Q .non (upd H l (.lst (xs++[y])))
def oS:MtM X "list.append" sw:=by
 intro pins s σ H x vs v us Q I rx rv h;obtain ⟨l,xs,y,rfl,rfl,hH,hz,q⟩:=h;cases rx;obtain ⟨u,rfl,ru⟩:=rv.one;obtain ⟨z,its,n,r,hl,e⟩:=I.lstM hH;refine call_meets F.slot_list_append ⟨_,e,rfl⟩ F.entry_list_append (F.args_list_append_2 _ _) (PySem.list_append l its.toArray n u (by rw [zai]; omega)) ⟨e,?_⟩;refine ⟨.non,_,I.lset (its':=its++[u]) hH e (by simp) (r.append (.cons ru .nil)) ?_,rfl,q⟩;rw [zae,List.length_singleton];omega
def va:V->List V->Hp->VK->Prop:=fun x vs H Q=>∃ l xs i k y,x=.ref l/\vs=[.int i]/\H l=some (.lst xs)/\-(2 ^ 63)<=i/\i < 2 ^ 63/\seqIndex? i xs.length=some k/\xs[k]?=some y/\Q y (upd H l (.lst (xs.eraseIdx k)))
def xa:MtM X "list.pop" va:=by
 intro pins s σ H x vs v us Q I rx rv h;obtain ⟨l,xs,i,k,y,rfl,rfl,hH,h1,h2,hk,hy,q⟩:=h;cases rx;obtain ⟨u,rfl,ru⟩:=rv.one;obtain ⟨t,rfl⟩:=ru;obtain ⟨z,its,n,r,hl,e⟩:=I.lstM hH;obtain ⟨w,hw,rw'⟩:=r.get hy;refine call_meets F.slot_list_pop ⟨_,e,rfl⟩ F.entry_list_pop (F.args_list_pop_2 _ _)
  (MeetsSeq.list_pop_at l its.toArray n i t k w (fitsIndex_both h1 h2) (by rw [zai,<- hl]; exact hk) (by rw [<- Array.getElem?_toList]; exact hw) (by rw [zai]; omega)) ⟨e,?_⟩
 refine ⟨y,_,I.lset (its':=its.eraseIdx k) hH e ?_ (r.eraseIdx k) ?_,rw',q⟩
 ·show its.toArray.eraseIdxIfInBounds k=(its.eraseIdx k).toArray;rw [List.eraseIdxIfInBounds_toArray]
 ·have:=oU xs k;omega
end
section
variable {prog:Program} {w:World} {A:Around} {E:Value->Shared->Prop} {s:Shared}
end
section
variable {X:Cx}
end
end L2
namespace Att
open PySem PySem.W PySem.Calls PyProof.Rows
def m7 {P:Params} {h:Heap}:∀ (ns:List Int) (vs:List Value),WellAll P h vs (ns.map WData.int)->IntsAre vs ns:=by
 intro ns
 induction ns with
 | nil =>
  intro vs w;rw [List.map_nil] at w;cases w;exact .nil
 | cons n ns ih =>
  intro vs w;rw [zar] at w;cases w with
  | cons a b =>
   cases a;exact .cons _ _ (ih _ b)
def u7 {l:OpenLaw} {n:Nat} (hn:l.most=some n) {P:Params} {h:Heap} {args:List WData} {vals:List Value}
  (hpre:l.row.toRowW.claim.pre args=true) (hwl:WellAll P h vals args) :
  ∃ a vs ns,vals=[Value.ref a]/\args=[WData.list (ns.map WData.int)]/\h.get? a=some { cls:=.type "list",data:=.seq vs.toArray }/\IntsAre vs ns/\ns.length<=n:=by
 have hsh:WShape.hasAll [] args [.list .int]=true:=(pre_splitW hpre).1;have hc:l.pre.holds [] { args:=args }=true:=(pre_splitW hpre).2;obtain ⟨d,r,rfl,h1,h2⟩:=hasAllW_cons hsh;obtain rfl:=hasAllW_nil h2;obtain ⟨xs,rfl,h3⟩:=hasW_list h1;obtain ⟨ns,rfl⟩:=items_int h3;have hlen:ns.length<=n:=by
  unfold OpenLaw.pre at hc;have h4:(WTm.not (.lt (.lit (.int (n:Int))) (.len (.arg 0)))).holds [] { args:=[.list (ns.map .int)] }=true:=by
   have h4:=(holds_andW hc).1;rw [hn] at h4;exact h4
  have h5:=condW_of h4 (w_not (w_lt w_lit (w_len_list (w_arg rfl))));rw [zad] at h5;refine Nat.le_of_not_lt fun q=>?_;have q':(n:Int) < ((ns.length:Nat):Int):=by omega
  first
   | (rw [zaB q'] at h5; exact absurd h5 (by decide))
   | (simp at h5; omega)
 cases hwl with
 | cons w1 w2 =>
  cases w2;cases w1 with
  | list ho hall=>exact ⟨_,_,ns,rfl,rfl,ho,m7 ns _ hall,hlen⟩
def ve (l:OpenLaw) (args:List WData):l.row.toRowW.claim.post args (.bool true) args=true :=
 postW_of (r:=l.row.toRowW) (X:=(true == true))
  (show WShape.has [] (.bool true) .bool=true by first | rfl | decide | simp [WShape.has,WShape.arms,WShape.armsAll])
  (show (WTm.eq .res (.lit (.bool true))).value [] { args:=args,res:=some (.bool true),after:=args }=some (.bool (true == true)) from w_eq_bool (w_res rfl) w_lit) rfl
def attach_call {l:OpenLaw} {n:Nat} {q:Program} {loose:List Str} {XP:(Str->Option Value)->Heap->Prop} {YP:World->Heap->Prop} {d:DefRec}
  (hn:l.most=some n) (hdf:d.params.defaults=[])
  (call:∀ (w:World) (s₀ s₁:Shared) (mg mb:Str->Option Value) (fa:Addr) (o:Obj) (pm cd doc:Value) (a:Addr) (vs:List Value) (ns:List Int),
   Ground q loose [] XP w s₀ mg mb s₁.heap->YP w s₁.heap ->
   s₁.heap.get? fa=some o->o.data=.func (docDef d.name d.params d.body d.scope pm cd doc)->s₁.heap.CodeRec cd d.name->mg d.name=some (.ref fa) ->
   s₁.heap.get? a=some { cls:=.type "list",data:=.seq vs.toArray }->IntsAre vs ns->ns.length<=n->s₁.gens=#[] ->
   codeAny (model l.prog w) callerA (.call (.ref fa) ⟨[.ref a],[]⟩) (fun r s'=>r=.ok (.ret (.bool true))/\OldK s₁.heap s'.heap/\s'.os=s₁.os/\AllBare s'.gens) s₁) :
  WalkO q loose XP YP l.row.toRowW d [] (fun f vs=>PySem.call f vs):=by
 intro w s₀ s₁ mg mb G Y fa o pm cd doc dV kV ho hd hcd hD hmg hg args vals as hpre hlay hrd hwl hlo;obtain rfl:dV=.none:=Dflts.none hD hdf;obtain rfl:kV=.none:=Dflts.noKw hD;obtain ⟨a,vs,ns,rfl,rfl,hobj,hints,hlen⟩:=u7 hn hpre hwl;refine enter_call (codeAny_mono (call w s₀ s₁ mg mb fa o pm cd doc a vs ns G Y ho (fd_plain hd) hcd hmg hobj hints hlen hg) fun r s' hq=>?_);obtain ⟨rfl,h2,h3,h4⟩:=hq;exact ⟨.inl ⟨.bool true,.bool true,[],rfl,fun _=>rfl,.bool true,ve l _,fun _=>⟨List.Pairwise.nil,fun _ hm=>(nomatch hm)⟩⟩,h2,h3,h4⟩
section
variable {prog:Program} {w:World} {A:Around} {E:Value->Shared->Prop} {s:Shared} {K:Frag}
end
end Att
namespace L2
open PySem PySem.Spec PyProof.Rows
def oN:∀ {vs:List Value} {ns:List Int},IntsAre vs ns->Vals (ns.map V.int) vs
 | _,_,.nil=>.nil
 | _,_,.cons n t h=>.cons ⟨t,rfl⟩ (oN h)
def ym (H:Hp):Prop:=∀ b,H b=none\/∃ o xs,H b=some (.frz o (.lst xs))
def xh {P:Program} {w:World} {K:PySem.W.Frag} {mg mb:Str->Option Value} {CX:CXT} {k:Nat} {fa a:Addr} {fd:FuncData} {x:Str} {sp:Sp} {s₁:Shared} {vs:List Value} {ns:List Int}
  (KX:K.In s₁.heap) (hns:s₁.heap.Ns mainGlobals mg) (hb:s₁.heap.Ns builtinsNs mb) (hbb:∀ x:Str,x≠"__name__"->mb x=bootBuiltins x) (hlim:s₁.heap.NoLimit) (hmods:∃ mm,s₁.heap.Ns sysModules mm) (hg:s₁.gens=#[])
  (ha:s₁.heap.get? a=some { cls:=.type "list",data:=.seq vs.toArray }) (hi:IntsAre vs ns) (hl:ns.length<=sizeLine) (hr:Room k callerA)
  (F:∀ base:Heap,K.In base->base.Ns mainGlobals mg->FnOk P w K mg base CX k fa fd [x] sp) (hbind:∀ (s:Shared) (u:Value),BindsTo s fd ⟨[u],[]⟩ [(x,u)])
  (hsp:∀ H:Hp,ym H->SqL K H a (ns.map V.int)->sp [.ref a] H (fun v _=>v=.bl true) fun _ _ _=>False)
  (hCX:∀ H e s',CX [] H s₁ (fun _ _ _=>False) e s'->False) :
  codeAny (model P w) callerA (.call (.ref fa) ⟨[.ref a],[]⟩) (fun r s'=>r=.ok (.ret (.bool true))/\OldK s₁.heap s'.heap/\s'.os=s₁.os/\AllBare s'.gens) s₁:=by
 have rv:=oN hi;have lenV:=hi.length;have core:∀ H:Hp,ym H->SqL K H a (ns.map V.int)->HOk P w H s₁.heap->(∀ b,H b≠none->b=a)->(H a≠none->K.lookup a=none) ->
   codeAny (model P w) callerA (.call (.ref fa) ⟨[.ref a],[]⟩) (fun r s'=>r=.ok (.ret (.bool true))/\OldK s₁.heap s'.heap/\s'.os=s₁.os/\AllBare s'.gens) s₁:=by
  intro H hO hS hok hA hK;have base_of:∀ {b:Addr} {o:Obj},s₁.heap.get? b=some o->H b=none->(iR s₁.heap H).get? b=some o:=fun e n=>qQ e n;have noA:∀ {b:Addr} {o:Obj} {es:Array DictEntry} {ep:Nat},s₁.heap.get? b=some o->o.data=.dict es ep->H b=none:=fun {b o es ep} e d=>by
   cases q:H b with
   | none=>rfl
   | some u =>
    have e':b=a:=hA b (by rw [q]; simp);subst e';rw [ha] at e; cases e;have d':Data.seq vs.toArray _=Data.dict es ep:=d;cases d'
  have nsK:∀ {b:Addr} {m:Str->Option Value},s₁.heap.Ns b m->(iR s₁.heap H).Ns b m:=fun {b m} ⟨o,es,ep,e,d,r⟩=>⟨o,es,ep,base_of e (noA e d),d,r⟩;have hKb:K.In (iR s₁.heap H):=fun b o e=>base_of (KX b o e) (by
   cases q:H b with
   | none=>rfl
   | some u =>
    have e':b=a:=hA b (by rw [q]; simp);subst e';rw [hK (by rw [q]; simp)] at e; cases e)
  have hM:Mod K mg (iR s₁.heap H):=⟨hKb,nsK hns,⟨mb,nsK hb,hbb⟩,let ⟨mc,h1,h2⟩:=hlim; ⟨mc,nsK h1,h2⟩,let ⟨mm,h1⟩:=hmods; ⟨mm,nsK h1⟩⟩;have e0:Env0 P w K mg (iR s₁.heap H) callerA [] s₁ H:=⟨rfl,hM,fun b o e=>sC e,Nat.le_of_eq (vR _ _),trivial,fun b hb=>absurd (show b∈([]:List Addr) from hb) (by simp),hok,.of_eq hg⟩;refine codeAny_mono ((F _ hKb (nsK hns)).run callerA [] s₁ H ⟨[.ref a],[]⟩ [.ref a] [.ref a] _ _ hr e0 (hbind s₁ (.ref a)) (.cons rfl .nil) (hsp H hO hS)) fun r s' h=>?_;cases r with
  | error e=>exact (hCX H e s' h).elim
  | ok fl =>
   cases fl with
   | next=>exact False.elim h
   | brk=>exact False.elim h
   | cont=>exact False.elim h
   | ret u =>
    obtain ⟨v,H',os,bare,un,hok',r',q⟩:=h;have q':v=.bl true:=q;subst q';obtain rfl:u=Value.bool true:=r';refine ⟨rfl,OldK.of_keep fun b o e=>?_,os,bare⟩;cases q:H b with
    | none=>exact un.keep b o e q (by intro z; exact absurd (show b∈([]:List Addr) from z) (by simp)) (by simp)
    | some u =>
     rcases hO b with z | ⟨ob,xs,z⟩
     ·rw [q] at z; cases z
     ·have z2:=un.frzs b ob _ z;obtain ⟨e1,_⟩:=hok b _ z;obtain ⟨e2,_⟩:=hok' b _ z2;rw [e] at e1; cases e1;exact e2
 cases hk:K.lookup a with
 | some o =>
  have e:=KX a o hk;rw [ha] at e;cases e;refine core (fun _=>none) (fun _=>.inl rfl) (.inr ⟨_,vs.toArray,_,hk,rfl,rfl,rfl,by rw [zai,lenV]; exact hl,by simpa using rv⟩) (fun b u z=>by have z':(none:Option HO)=some u:=z; cases z') (fun b z=>absurd rfl z) fun z=>absurd rfl z
 | none =>
  refine core (fun b=>if b=a then some (.frz { cls:=.type "list",data:=.seq vs.toArray } (.lst (ns.map V.int))) else none) (fun b=>?_) (.inl (.inr ⟨{ cls:=.type "list",data:=.seq vs.toArray },if_pos rfl⟩)) (fun b u z=>?_) (fun b z=>?_) fun _=>hk
  ·by_cases hb:b=a
   ·exact .inr ⟨_,_,if_pos hb⟩
   ·exact .inl (if_neg hb)
  ·by_cases hb:b=a
   ·have z':=(if_pos hb).symm.trans z;cases z';subst hb;exact ⟨ha,by rw [zad]; exact hl,vs,_,rv,ha⟩
   ·have z':=(if_neg hb).symm.trans z;cases z'
  ·by_cases hb:b=a
   ·exact hb
   ·exact absurd (if_neg hb) z
def walk_of {l:PySem.W.OpenLaw} {n k:Nat} {q:Program} {loose:List Str} {XP:(Str->Option Value)->Heap->Prop} {YP:World->Heap->Prop} {d:DefRec} {K:Params->PySem.W.Frag} {CX:World->CXT} {sp:World->Sp} {x:Str}
  (hn:l.most=some n) (hn2:n<=sizeLine) (hdf:d.params.defaults=[]) (hr:Room k callerA)
  (hq:importsNone q=true) (hY:∀ (w:World) (h:Heap),YP w h->(K w.params).In h)
  (F:∀ (w:World) (mg:Str->Option Value) (fa:Addr) (h:Heap),(K w.params).In h->h.Ns mainGlobals mg->mg d.name=some (.ref fa) ->
   ∃ fd:FuncData,(∀ (s:Shared) (u:Value),BindsTo s fd ⟨[u],[]⟩ [(x,u)]) /\
    ∀ base:Heap,(K w.params).In base->base.Ns mainGlobals mg->FnOk l.prog w (K w.params) mg base (CX w) k fa fd [x] (sp w))
  (hsp:∀ (w:World) (H:Hp) (a:Addr) (ns:List Int),ns.length<=n->ym H->SqL (K w.params) H a (ns.map V.int)->sp w [.ref a] H (fun v _=>v=.bl true) fun _ _ _=>False)
  (hCX:∀ (w:World) (H:Hp) (s:Shared) (e:Value) (s':Shared),CX w [] H s (fun _ _ _=>False) e s'->False) :
  PySem.W.WalkO q loose XP YP l.row.toRowW d [] (fun f vs=>PySem.call f vs):=by
 refine Att.attach_call hn hdf fun w s₀ s₁ mg mb fa o pm cd doc a vs ns G Y ho hd hcd hmg hobj hints hlen hg=>?_;have KX:=hY w _ Y;obtain ⟨fd,hb,hF⟩:=F w mg fa _ KX G.T.g hmg;exact xh KX G.T.g G.T.b G.T.builtins G.T.nolimit (let ⟨mm,hm,_⟩:=(G.T.seer hq).mods; ⟨mm,hm⟩) hg hobj hints (zau hlen hn2) hr hF hb (fun H hO hS=>hsp w H a ns hlen hO hS) fun H e s'=>hCX w H s₁ e s'
def dR (s:Stmt):Arguments:=match s with
 | .FunctionDef _ a _ _ _ _ _ _ _ _=>a
 | _=>{ posonlyargs:=[],args:=[],vararg:=none,kwonlyargs:=[],kw_defaults:=[],kwarg:=none,defaults:=[] }
def cx (s:Stmt):List Stmt:=match s with
 | .FunctionDef _ _ b _ _ _ _ _ _ _=>b
 | _=>[]
def aj (s:Stmt):Scope:=match s with
 | .FunctionDef _ _ _ _ _ _ sc _ _ _=>sc
 | _=>{ kind:=.function,names:=[],isGenerator:=false,isCoroutine:=false }
abbrev CX0:CXT:=fun _ _ _ _ _ _=>False
abbrev E0:XK:=fun _ _ _=>False
def Kq {X:Cx}:rD CX0 X E0:=fun _ _ _ _ _ _ _ h=>h.elim
structure Fun (K:PySem.W.Frag) (x qual:Str) (st:Stmt) (f:Addr) (fd:FuncData):Prop where
 ex:∃ (oc:Value) (od:Option Addr) (kV doc pm:Value) (an:Option Addr) (cdv ct:Value) (osl:Array (Option Value)),
  fd=PySem.W.fnOf x qual (dR st) (cx st) (aj st) .none kV doc pm an cdv ct/\K.lookup f=some ⟨oc,od,.func fd,osl⟩/\PySem.W.codeIn K cdv qual=true
 kp:PySem.W.keepIn K (.ref f)=true
section
variable {P:Program} {w:World} {K:PySem.W.Frag} {mg:Str->Option Value} {base:Heap}
def Fun.ok {x qual:Str} {st:Stmt} {f:Addr} {fd:FuncData} {N ps:List Str} {k:Nat} {sp:Sp} (F:Fun K x qual st f fd) (S:FnScope N ps (aj st)) (len:∀ vs H Q E,sp vs H Q E->vs.length=ps.length)
  (hbody:∀ (cdv:Value) (A:Around) (outer:List Env) (s:Shared) (H:Hp) (vs:List V) (Q:VK) (E:XK),Room k (A.deeper (envOfC qual (aj st) s.heap.objs.size f cdv))->sp vs H Q E ->
   ∃ t,PSs (ie CX0 P w K mg base N qual (aj st) f cdv A outer s H E).nox (cx st) t/\t { nx:=fun _ H'=>Q .non H',rt:=Q } (cw N vs) H):FnOk P w K mg base CX0 (k+1) f fd ps sp:=by
 obtain ⟨oc,od,kV,doc,pm,an,cdv,ct,osl,rfl,lk,hcd⟩:=F.ex;refine Ec lk hcd S len fun A outer s H vs Q E hr hsp=>?_;obtain ⟨t,h,q⟩:=hbody cdv A outer s H vs Q E hr hsp;exact ⟨t,h.nox,q⟩
def Fun.binds {x qual:Str} {st:Stmt} {f:Addr} {fd:FuncData} {ps:List Str} (F:Fun K x qual st f fd)
  (h:∀ (kV doc pm:Value) (an:Option Addr) (cdv ct:Value) (us:List Value),us.length=ps.length->bindArgs (PySem.W.fnOf x qual (dR st) (cx st) (aj st) .none kV doc pm an cdv ct) ⟨us,[]⟩=pure (ps.zip us)):Binds K fd ps []:=by
 obtain ⟨oc,od,kV,doc,pm,an,cdv,ct,osl,rfl,lk,hcd⟩:=F.ex;exact .all (h kV doc pm an cdv ct)
def qU {x qual:Str} {st:Stmt} {f:Addr} {oc:Value} {od an:Option Addr} {osl:Array (Option Value)} {kV doc pm cdv ct:Value} (l:K.lookup f=some ⟨oc,od,.func (PySem.W.fnOf x qual (dR st) (cx st) (aj st) .none kV doc pm an cdv ct),osl⟩)
  (c:PySem.W.codeIn K cdv qual=true) (k:PySem.W.keepIn K (.ref f)=true):Fun K x qual st f (PySem.W.fnOf x qual (dR st) (cx st) (aj st) .none kV doc pm an cdv ct):=⟨⟨oc,od,kV,doc,pm,an,cdv,ct,osl,rfl,l,c⟩,k⟩
end
def iz {A:Around} {k:Nat} (hr:Room k A):A.units+1 < cLine:=Nat.lt_of_le_of_lt (Nat.add_le_add_left (by decide:1<=64) _) hr.units
section
variable {X:Cx}
end
section
variable {κ:Type} [DecidableEq κ]
def eS (kvs:List (κ × V)) (k:κ):Option V:=(kvs.find? fun kv=>decide (kv.1=k)).map (·.2)
def cR (kvs:List (κ × V)) (k:κ) (v:V):List (κ × V) :=
 if (kvs.any fun kv=>decide (kv.1=k))=true then kvs.map (fun kv=>if kv.1=k then (kv.1,v) else kv) else kvs++[(k,v)]
def jw {p:κ × V} {r:List (κ × V)} {k:κ} (e:p.1=k):eS (p :: r) k=some p.2:=by simp [eS,List.find?_cons,e]
def jx {p:κ × V} {r:List (κ × V)} {k:κ} (e:¬ p.1=k):eS (p :: r) k=eS r k:=by simp [eS,List.find?_cons,e]
def pW (k:κ):∀ kvs:List (κ × V),(kvs.any fun kv=>decide (kv.1=k))=(eS kvs k).isSome
 | []=>rfl
 | p :: r=>by
  rw [List.any_cons];by_cases e:p.1=k
  ·simp only [jw e,zaB e,Bool.true_or,Option.isSome_some]
  ·rw [jx e,zaA e,Bool.false_or]; exact pW k r
def iO (kvs:List (κ × V)) (k:κ) (v:V):(cR kvs k v).length<=kvs.length+1:=by
 unfold cR;split
 ·rw [zad]; omega
 ·rw [zae,zac,List.length_nil]; omega
def RelO.isSome_eq {o:Option V} {u:Option Value} (r:RelO o u):o.isSome=u.isSome:=by
 cases o with
 | none=>cases u with
  | none=>rfl
  | some _=>exact (show False from r).elim
 | some _=>cases u with
  | none=>exact (show False from r).elim
  | some _=>rfl
def KV.val {kvs:List (κ × V)} {vs:List (κ × Value)} (r:KV kvs vs) (k:κ):RelO (eS kvs k) (valueAt vs k):=by
 unfold KV at r
 induction r with
 | nil=>exact True.intro
 | @cons p q ps qs h t ih =>
  obtain ⟨h1,h2⟩:=h;by_cases e:p.1=k
  ·have e':q.1=k:=h1.symm.trans e;have b:valueAt (q :: qs) k=some q.2:=by simp [valueAt,List.find?_cons,e']
   rw [jw e,b]; exact h2
  ·have e':¬ q.1=k:=fun z=>e (h1.trans z);have b:valueAt (q :: qs) k=valueAt qs k:=by simp [valueAt,List.find?_cons,e']
   rw [jx e,b]; exact ih
def KV.any {kvs:List (κ × V)} {vs:List (κ × Value)} (r:KV kvs vs) (k:κ):(kvs.any fun kv=>decide (kv.1=k))=vs.any fun kv=>decide (kv.1=k):=by
 unfold KV at r
 induction r with
 | nil=>rfl
 | cons h t ih=>rw [List.any_cons,List.any_cons,ih,h.1]
def KV.repl {kvs:List (κ × V)} {vs:List (κ × Value)} (r:KV kvs vs) (k:κ) {y:V} {u:Value} (ry:RelV y u) :
  KV (kvs.map fun kv=>if kv.1=k then (kv.1,y) else kv) (vs.map fun kv=>if kv.1=k then (kv.1,u) else kv):=by
 unfold KV at r ⊢
 induction r with
 | nil=>exact .nil
 | @cons p q ps qs h t ih =>
  rw [zar,zar];refine .cons ?_ ih;obtain ⟨h1,h2⟩:=h;by_cases e:p.1=k
  ·rw [if_pos e,if_pos (h1.symm.trans e)]; exact ⟨h1,ry⟩
  ·rw [if_neg e,if_neg (fun z=>e (h1.trans z))]; exact ⟨h1,h2⟩
def KV.put {kvs:List (κ × V)} {vs:List (κ × Value)} (r:KV kvs vs) (k:κ) {y:V} {u:Value} (ry:RelV y u):KV (cR kvs k y) (stored vs k u):=by
 unfold cR stored;rw [r.any k];by_cases e:(vs.any fun kv=>decide (kv.1=k))=true
 ·rw [if_pos e,if_pos e]; exact r.repl k ry
 ·rw [if_neg e,if_neg e]; exact Paired.snoc r ⟨rfl,ry⟩
def KV.length {kvs:List (κ × V)} {vs:List (κ × Value)} (r:KV kvs vs):kvs.length=vs.length:=Paired.length r
end
def pO {P:Program} {w:World} {k:Key} {u:Value} (r:RelV (kV k) u):(bD P w).is k u=true:=by
 cases k with
 | inl i=>obtain ⟨t,e⟩:=(show ∃ t,u=Value.int i t from r); subst e; exact rW P w i t
 | inr x=>obtain ⟨t,e⟩:=(show ∃ t,u=Value.str x t from r); subst e; exact rV P w x t
def IN {a b:Key} (e:kV a=kV b):a=b:=by
 cases a with
 | inl i=>cases b with
  | inl j=>have e':V.int i=V.int j:=e; injection e' with e'; rw [e']
  | inr y=>exact nomatch (show V.int i=V.str y from e)
 | inr x=>cases b with
  | inl j=>exact nomatch (show V.str x=V.int j from e)
  | inr y=>have e':V.str x=V.str y:=e; injection e' with e'; rw [e']
def oW {P:Program} {w:World}:∀ {ks:List Key} {us:List Value},Vals (ks.map kV) us->ItemsAre (bD P w) ks us
 | [],_,r=>by rw [List.map_nil] at r; cases r; exact .nil
 | k :: ks,_,r=>by
  rw [zar] at r;cases r with
  | cons h t=>exact .cons (pO h) (oW t)
abbrev KT (H:Hp):List (List Key × V)->List (List Key × Addr × Value)->Prop:=Paired fun p q=>p.1=q.1/\H q.2.1=some (.tup (p.1.map kV))/\RelV p.2 q.2.2
def KT.val {H:Hp} {kvs:List (List Key × V)} {xs:List (List Key × Addr × Value)} (r:KT H kvs xs) (k:List Key):RelO (eS kvs k) ((atKey xs k).map (·.2)):=by
 induction r with
 | nil=>exact True.intro
 | @cons p q ps qs h t ih =>
  obtain ⟨h1,_,h2⟩:=h;by_cases e:p.1=k
  ·have e':q.1=k:=h1.symm.trans e;have b:atKey (q :: qs) k=some q.2:=by simp [atKey,List.find?_cons,e']
   rw [jw e,b]; exact h2
  ·have e':¬ q.1=k:=fun z=>e (h1.trans z);have b:atKey (q :: qs) k=atKey qs k:=by simp [atKey,List.find?_cons,e']
   rw [jx e,b]; exact ih
def KT.repl {H:Hp} {kvs:List (List Key × V)} {xs:List (List Key × Addr × Value)} (r:KT H kvs xs) (k:List Key) {y:V} {u:Value} (ry:RelV y u) :
  KT H (kvs.map fun kv=>if kv.1=k then (kv.1,y) else kv) (xs.map (putAt k u)):=by
 induction r with
 | nil=>exact .nil
 | @cons p q ps qs h t ih =>
  rw [zar,zar];refine .cons ?_ ih;obtain ⟨h1,h2,h3⟩:=h;unfold putAt;by_cases e:p.1=k
  ·rw [if_pos e,if_pos (h1.symm.trans e)]; exact ⟨h1,h2,ry⟩
  ·rw [if_neg e,if_neg (fun z=>e (h1.trans z))]; exact ⟨h1,h2,h3⟩
def KT.put {H:Hp} {kvs:List (List Key × V)} {xs:List (List Key × Addr × Value)} (r:KT H kvs xs) (k:List Key) {b:Addr} {y:V} {u:Value} (hb:H b=some (.tup (k.map kV))) (ry:RelV y u) :
  KT H (cR kvs k y) (storedH xs k b u):=by
 have e:(kvs.any fun kv=>decide (kv.1=k))=(atKey xs k).isSome:=by
  rw [pW,(r.val k).isSome_eq,Option.isSome_map]
 unfold cR storedH;rw [e];by_cases q:(atKey xs k).isSome=true
 ·rw [if_pos q,if_pos q]; exact r.repl k ry
 ·rw [if_neg q,if_neg q]; exact Paired.snoc r ⟨rfl,hb,ry⟩
def KT.keeps {H H':Hp} {kvs:List (List Key × V)} {xs:List (List Key × Addr × Value)} (r:KT H kvs xs) (ht:∀ b ys,H b=some (.tup ys)->H' b=some (.tup ys)):KT H' kvs xs :=
 Paired.mapP r fun _ _ z=>⟨z.1,ht _ _ z.2.1,z.2.2⟩
section
variable {P:Program} {w:World} {H:Hp} {h:Heap} {a:Addr}
def DQ {u:HO} (ok:HOk P w H h) (e:Rd H a u):ObjOk P w H h a u:=e.ok ok
def uC {kvs:List (Key × V)} (ok:HOk P w H h) (e:Rd H a (.dK kvs)):kvs.length<=sizeLine/\(a == sysModules)=false/\∃ vs,KV kvs vs/\h.DictOf (bD P w) a vs :=
 show ObjOk P w H h a (.dK kvs) from DQ ok e
def uD {kvs:List (Key × V)} (ok:HOk P w H h) (e:H a=some (.dK kvs)):kvs.length<=sizeLine/\(a == sysModules)=false/\∃ vs,KV kvs vs/\h.DictOf (bD P w) a vs:=uC ok (.inl e)
def qH {ks:List Key} (ok:HOk P w H h) (e:H a=some (.tup (ks.map kV))):(tupleKind (bD P w)).is h ks a:=by
 obtain ⟨_,its,r,o,h1,h2,n,h3⟩:=(show ObjOk P w H h a (.tup (ks.map kV)) from ok a _ e);exact ⟨o,its.toArray,n,h1,h2,h3.1,by simpa using oW r⟩
def uB {kvs:List (List Key × V)} (ok:HOk P w H h) (e:Rd H a (.dT kvs)):kvs.length<=sizeLine/\(a == sysModules)=false /\
  ∃ xs,KT H kvs xs/\h.DictOfH (tupleKind (bD P w)) a xs:=by
 obtain ⟨z,y,xs,r,o,es,ep,h1,h2,h3,h4,h5⟩:=(show ObjOk P w H h a (.dT kvs) from DQ ok e);refine ⟨z,y,xs,r,o,es,ep,h1,h2,h3,h4,fun x hx=>?_,h5⟩;have all:∀ {l:List (List Key × V)} {m:List (List Key × Addr × Value)},KT H l m->∀ x∈m,(tupleKind (bD P w)).is h x.1 x.2.1:=by
  intro l m q
  induction q with
  | nil=>intro x hx; exact nomatch hx
  | @cons p q ps qs hq t ih =>
   intro x hx;rcases zay.mp hx with e | hx
   ·subst e;exact qH ok (by rw [<- hq.1]; exact hq.2.1)
   ·exact ih x hx
 exact all r x hx
def Eg {kvs:List (List Key × V)} (ok:HOk P w H h) (e:H a=some (.dT kvs)):kvs.length<=sizeLine/\(a == sysModules)=false /\
  ∃ xs,KT H kvs xs/\h.DictOfH (tupleKind (bD P w)) a xs:=uB ok (.inl e)
end
def DGet (H:Hp) (a:Addr) (y:V) (r:Option V):Prop :=
 (∃ kvs k,Rd H a (.dK kvs)/\y=kV k/\r=eS kvs k)\/∃ kvs k b,Rd H a (.dT kvs)/\y=.ref b/\H b=some (.tup (k.map kV))/\r=eS kvs k
def DPut (H:Hp) (a:Addr) (y v:V) (H':Hp):Prop :=
 (∃ kvs k,H a=some (.dK kvs)/\y=kV k/\kvs.length < sizeLine/\H'=upd H a (.dK (cR kvs k v))) \/
 ∃ kvs k b,H a=some (.dT kvs)/\y=.ref b/\H b=some (.tup (k.map kV))/\kvs.length < sizeLine/\H'=upd H a (.dT (cR kvs k v))
def DGet.k {H:Hp} {a:Addr} {kvs:List (Key × V)} {k:Key} (e:H a=some (.dK kvs)):DGet H a (kV k) (eS kvs k):=.inl ⟨kvs,k,.inl e,rfl,rfl⟩
def DPut.k {H:Hp} {a:Addr} {kvs:List (Key × V)} {k:Key} {v:V} (e:H a=some (.dK kvs)) (hl:kvs.length < sizeLine):DPut H a (kV k) v (upd H a (.dK (cR kvs k v))):=.inl ⟨kvs,k,e,rfl,hl,rfl⟩
section
variable {X:Cx} {pins:List (Addr × Obj)} {σ:St} {H:Hp} {s:Shared} {a:Addr} {y v:V} {u r:Value} {o:Option V} {A:Around} {E:Value->Shared->Prop}
def Inv.big (I:Inv X pins σ H s):sysModules < s.heap.objs.size:=by
 have h:mainGlobals < s.heap.objs.size:=(I.mod.glob.keeps I.bk).lt;exact Nat.lt_trans (by decide) h
def wj {Q:Value->Shared->Prop} (hu:A.units+1 < cLine) (I:Inv X pins σ H s) (g:DGet H a y (some v)) (ry:RelV y u) (h:∀ w' s',Inv X pins σ H s'->RelV v w'->Q w' s') :
  wpAny (model X.prog X.w) A (getItem (.ref a) u) Q E s:=by
 rcases g with ⟨kvs,k,e,ey,l⟩ | ⟨kvs,k,b,e,ey,eb,l⟩
 ·subst ey;obtain ⟨z,hd,vs,rel,dd⟩:=uC I.hok e;obtain ⟨w',hw,rw'⟩:=RelO.some_of (v:=v) (o:=valueAt vs k) (by rw [l]; exact rel.val k);exact wpAny_getItem_of (pO ry) dd.mapOf hw (h w' _ (I.tok _) rw')
 ·subst ey;cases (show u=Value.ref b from ry);obtain ⟨z,hd,xs,rel,dd⟩:=uB I.hok e;obtain ⟨w',hw,rw'⟩:=RelO.some_of (v:=v) (o:=(atKey xs k).map (·.2)) (by rw [l]; exact rel.val k);obtain ⟨p,hp,hp2⟩:=zab.mp hw;refine wpAny_getItem_heap (tupleKind_room_in1 hu) (qH I.hok eb) dd hp ?_;rw [hp2];exact h w' _ (I.tok _) rw'
def ou {h':Heap} {t':Nat} {ob:HO} (I:Inv X pins σ H s) (mu:Mut (H a)) (hs:Heap.SameBut a s.heap h') (he:∃ q,h'.get? a=some q) (new:ObjOk X.prog X.w (upd H a ob) h' a ob) :
  Inv X pins σ (upd H a ob) { s with heap:=h',toks:=t' } :=
 I.write (x:=a) (e:=a) mu (.inl rfl) (fun b q hb z=>(hs.2 b hb).trans z) he new
def wf {P:Program} {w:World} {H':Hp} {h':Heap} {kvs:List (Key × V)} {vs:List (Key × Value)} (z:kvs.length<=sizeLine) (hd:(a == sysModules)=false) (rel:KV kvs vs) (dd:h'.DictOf (bD P w) a vs) :
  ObjOk P w H' h' a (.dK kvs):=⟨z,hd,vs,rel,dd⟩
def wg {H':Hp} {Q:Unit->Shared->Prop} (hu:A.units+1 < cLine) (I:Inv X pins σ H s) (g:DPut H a y v H') (ry:RelV y u) (rv:RelV v r) (h:∀ s',Inv X pins σ H' s'->Q () s') :
  wpAny (model X.prog X.w) A (setItem (.ref a) u r) Q E s:=by
 rcases g with ⟨kvs,k,e,ey,l,eH⟩ | ⟨kvs,k,b,e,ey,eb,l,eH⟩
 ·subst ey eH;obtain ⟨z,hd,vs,rel,dd⟩:=uD I.hok e;have hz:vs.length<=sizeLine:=by rw [<- rel.length]; exact z
  have hl:(cR kvs k v).length<=sizeLine:=by have:=iO kvs k v; omega
  refine wpAny_setItem_pairs (hsz:=hz) (pO ry) dd fun h' dd' hs=>h _ ?_;have he:∃ q,h'.get? a=some q:=let ⟨q,_,_,hq,_⟩:=dd'; ⟨q,hq⟩;exact ou I (by rw [e]; exact True.intro) hs he (wf hl hd (rel.put k rv) dd')
 ·subst ey eH;cases (show u=Value.ref b from ry);obtain ⟨z,hd,xs,rel,dd⟩:=Eg I.hok e;have hz:xs.length<=sizeLine:=by rw [<- Paired.length rel]; exact z
  have hl:(cR kvs k v).length<=sizeLine:=by have:=iO kvs k v; omega
  refine wpAny_setItem_heap (hsz:=hz) (tupleKind_room_in1 hu) (qH I.hok eb) dd fun h' dd' hs=>h _ ?_;obtain ⟨q,es,ep,hq,h2,h3,h4,_,h5⟩:=dd';refine ou I (by rw [e]; exact True.intro) hs ⟨q,hq⟩ ⟨hl,hd,_,(rel.put k eb rv).keeps fun c ys ec=>?_,q,es,ep,hq,h2,h3,h4,h5⟩;rw [aC (Kv ec e (fun z=>nomatch z))];exact ec
end
section
variable {X:Cx} {pins:List (Addr × Obj)} {σ:St} {H:Hp} {s:Shared} {a:Addr} {kvs:List (Key × V)} {k:Key} {u:Value} {A:Around} {E:Value->Shared->Prop}
end
def uJ (i:Expr):Prop:=∀ ov iv,subscripted i false ov iv=operate [ov,iv] (getItem ov iv)
def Ek {prog:Program} {w:World} {A:Around} {E:Value->Shared->Prop} {s:Shared} {env:Env} {value slice:Expr} {pos:Pos} {T id:String} {Q:Value->Shared->Prop}
  (hl:typeLookup (.type T) "__getitem__"=pure (some (.builtin id))) (hs:uJ slice)
  (h:wpAny (model prog w) A (eval value env) (fun o s₁=>wpAny (model prog w) A (eval slice env) (fun i s₂=>s₂.TypeIs o T/\wpAny (model prog w) A (getItem o i) Q E s₂) E s₁) E s) :
  wpAny (model prog w) A (eval (.Subscript value slice pos) env) Q E s:=by
 refine Subscript_ (wpAny_mono h (fun o s₁ h₁=>wpAny_mono h₁ (fun i s₂ h₂=>?_) fun _ _ x=>x) fun _ _ x=>x);obtain ⟨hT,h₂⟩:=h₂;unfold subscriptTail;refine zam ?_;rw [getitemInPython_of_ne hT.not_modules];refine zam (wpAny_specialOf hT hl ?_);have fin:wpAny (model prog w) A (subscripted slice false o i) (fun r s₃=>wpAny (model prog w) A (letTemporaryGo value o r >>= fun _=>pure r) Q E s₃) E s₂:=by
  rw [hs o i];exact wpAny_operating (wpAny_mono h₂ (fun r s₃ h₃=>zam (wpAny_letTemporaryGo (zaT h₃))) fun _ _ x=>x)
 first
  | exact zaT (zam fin)
  | exact zam (zaT (zam fin))
  | exact zam fin
def r8 {X:Cx} {pins:List (Addr × Obj)} {σ:St} {H:Hp} {s:Shared} {a:Addr} {y:V} {o:Option V} (I:Inv X pins σ H s) (g:DGet H a y o):s.TypeIs (.ref a) "dict":=by
 rcases g with ⟨kvs,k,e,_,_⟩ | ⟨kvs,k,b,e,_,_,_⟩
 ·obtain ⟨_,_,vs,_,dd⟩:=uC I.hok e;exact dd.typeIs
 ·obtain ⟨_,_,xs,_,dd⟩:=uB I.hok e;exact dd.typeIs
def DK (td ty:TE):TE:=fun σ H Q=>td σ H fun x H1=>ty σ H1 fun y H2=>∃ a v,x=.ref a/\DGet H2 a y (some v)/\Q v H2
def DP (td ty tv:TE):TS:=fun D σ H=>tv σ H fun v H1=>td σ H1 fun x H2=>ty σ H2 fun y H3=>∃ a H4,x=.ref a/\DPut H3 a y v H4/\D.nx σ H4
section
variable {X:Cx} {o i e value:Expr} {pos pos' tpos:Pos} {td ty tv:TE}
def EE (hu:X.A.units+1 < cLine) (ho:PE X o td) (hi:PE X i ty) (hs:uJ i):PE X (.Subscript o i pos) (DK td ty):=by
 intro pins s σ H Q I h;refine Ek PySem.F.slot_dict_getitem.lookup hs (thn (ho pins s σ H _ I h) fun u s1 ⟨x,H1,I1,rx,q1⟩=>thn (hi pins s1 σ H1 _ I1 q1) fun iv s2 ⟨y,H2,I2,ry,a,v,ex,g,q2⟩=>?_);subst ex;obtain rfl:u=Value.ref a:=rx;exact ⟨r8 I2 g,wj hu I2 g ry fun w' s3 I3 rw'=>⟨v,H2,I3,rw',q2⟩⟩
def Ew (hu:X.A.units+1 < cLine) (ho:PE X o td) (hi:PE X i ty) (hv:PE X value tv) (hs:swapsWith value (some (.Subscript o i pos')) pos.line X.env=pure false) :
  PS X (.Assign [.Subscript o i pos'] value pos) (DP td ty tv):=by
 intro pins s σ H D I h;refine wpAny_Assign_Subscript (thn (hv pins s σ H _ I h) fun r s1 ⟨v,H1,I1,rv,q1⟩=>thn (ho pins s1 σ H1 _ I1 q1) fun u s2 ⟨x,H2,I2,rx,q2⟩=>thn (hi pins s2 σ H2 _ I2 q2) fun iv s3 ⟨y,H3,I3,ry,a,H4,ex,g,q3⟩=>?_) hs;subst ex;obtain rfl:u=Value.ref a:=rx;exact wg hu I3 g ry rv fun s4 I4=>⟨σ,H4,I4,q3⟩
end
def rg {P:Program} {w:World} {H:Hp} (h:Heap) (hb:sysModules < h.objs.size):ObjOk P w H (h.push { cls:=.type "dict",data:=.dict #[] }) h.objs.size (.dK []) :=
 ⟨Nat.zero_le _,beq_eq_false_iff_ne.mpr (Ne.symm (zaw hb)),[],.nil,Heap.DictOf.new h⟩
def HV:TE:=fun _ H Q=>∀ p,H p=none->Q (.ref p) (upd H p (.dK []))
section
variable {X:Cx} {pos:Pos}
def pe_dnewK:PE X (.Dict [] [] pos) HV:=fun pins s σ H Q I h =>
 wpAny_Dict_empty ⟨.ref s.heap.objs.size,_,I.laid (a:=s.heap.objs.size) (o:=.dK []) (t':=s.toks) (fun _ _ q=>zaf _ q) (zav _) (rg s.heap I.big),rfl,h _ (I.hok.fresh (zav _))⟩
end
def mO:List (TE × TE)->St->Hp->(List (V × V)->Hp->Prop)->Prop
 | [],_,H,Q=>Q [] H
 | (tk,tv) :: r,σ,H,Q=>tk σ H fun x H1=>tv σ H1 fun y H2=>mO r σ H2 fun ps H3=>Q ((x,y) :: ps) H3
abbrev VV:List (V × V)->List (Value × Value)->Prop:=Paired fun p q=>RelV p.1 q.1/\RelV p.2 q.2
def PPs (X:Cx) (pos:Pos) (keys:List (Option Expr)) (values:List Expr) (trs:List (TE × TE)):Prop :=
 ∀ (pins:List (Addr × Obj)) (s:Shared) (σ:St) (H:Hp) (Q:List (V × V)->Hp->Prop),Inv X pins σ H s->mO trs σ H Q ->
  wpAny (model X.prog X.w) X.A (evalPairs (pairTrees keys values X.env pos)) (fun vs s'=>∃ ps H',Inv X pins σ H' s'/\VV ps vs/\Q ps H') X.xe s
def Ex {X:Cx} {pos:Pos}:PPs X pos [] [] []:=fun pins s σ H Q I h=>pairTrees_nil_walk ⟨[],H,I,.nil,h⟩
def wR {X:Cx} {pos:Pos} {k v:Expr} {ks:List (Option Expr)} {vs:List Expr} {tk tv:TE} {trs:List (TE × TE)} (hk:PE X k tk) (hv:PE X v tv) (hr:PPs X pos ks vs trs) :
  PPs X pos (some k :: ks) (v :: vs) ((tk,tv) :: trs):=fun pins s σ H Q I h =>
 pairTrees_cons_walk (thn (hk pins s σ H _ I h) fun u s1 ⟨x,H1,I1,rx,q1⟩=>thn (hv pins s1 σ H1 _ I1 q1) fun w2 s2 ⟨y,H2,I2,ry,q2⟩ =>
  thn (hr pins s2 σ H2 _ I2 q2) fun ws s3 ⟨ps,H3,I3,rel,q3⟩=>⟨(x,y) :: ps,H3,I3,.cons ⟨rx,ry⟩ rel,q3⟩)
def gt (kvs more:List (Key × V)):List (Key × V):=more.foldl (fun acc kv=>cR acc kv.1 kv.2) kvs
def KV.merge:∀ {more:List (Key × V)} {rs:List (Key × Value)} {kvs:List (Key × V)} {vs:List (Key × Value)},KV more rs->KV kvs vs->KV (gt kvs more) (merged vs rs):=by
 intro more rs kvs vs r;unfold KV at r
 induction r generalizing kvs vs with
 | nil=>intro q; exact q
 | @cons p q ps qs h t ih =>
  intro r0;have e:KV (cR kvs p.1 p.2) (stored vs q.1 q.2):=by
   have:=r0.put p.1 h.2;rw [<- h.1]; exact this
  exact ih e
def ka:∀ (more kvs:List (Key × V)),(gt kvs more).length<=kvs.length+more.length
 | [],kvs=>by show kvs.length<=kvs.length+0; omega
 | p :: r,kvs=>by
  have h1:=ka r (cR kvs p.1 p.2);have h2:=iO kvs p.1 p.2;show (gt (cR kvs p.1 p.2) r).length<=_;rw [zac]; omega
def ny {P:Program} {w:World}:∀ {kvs:List (Key × V)} {ws:List (Value × Value)},VV (kvs.map fun kv=>(kV kv.1,kv.2)) ws->∃ rs,Carries (bD P w) ws rs/\KV kvs rs
 | [],_,r=>by rw [List.map_nil] at r; cases r; exact ⟨[],True.intro,.nil⟩
 | p :: kvs,_,r=>by
  rw [zar] at r;cases r with
  | @cons a b as bs h t =>
   obtain ⟨rs,c,q⟩:=ny (P:=P) (w:=w) t;obtain ⟨b1,b2⟩:=b;exact ⟨(p.1,b2) :: rs,⟨pO h.1,rfl,c⟩,.cons ⟨rfl,h.2⟩ q⟩
def DJ (trs:List (TE × TE)):TE:=fun σ H Q=>∀ p,H p=none->mO trs σ (upd H p (.dK [])) fun ps H2=>H2 p=some (.dK [])/\∃ kvs:List (Key × V),ps=kvs.map (fun kv=>(kV kv.1,kv.2))/\kvs.length<=15/\Q (.ref p) (upd H2 p (.dK (gt [] kvs)))
def ED {X:Cx} {pos:Pos} {keys:List (Option Expr)} {values:List Expr} {trs:List (TE × TE)} (h:PPs X pos keys values trs) (hall:keys.all (·.isSome)=true) (hl:keys.length=values.length) (h0:keys≠[])
  (h15:keys.length<=15):PE X (.Dict keys values pos) (DJ trs):=by
 intro pins s σ H Q I q;have hn:=I.hok.fresh (zav s.heap.objs.size);have I1:=I.laid (a:=s.heap.objs.size) (o:=.dK []) (h':=s.heap.push { cls:=.type "dict",data:=.dict #[] }) (t':=s.toks) (fun _ _ q=>zaf _ q) (zav _) (rg s.heap I.big);refine wpAny_Dict_walk (knd:=bD X.prog X.w) hall hl h0 h15 (thn (h pins _ σ _ _ I1 (q _ hn)) fun ws s2 ⟨ps,H2,I2,rel,e,kvs,ep,lk,q2⟩=>?_);subst ep;obtain ⟨rs,c,rk⟩:=ny (P:=X.prog) (w:=X.w) rel;obtain ⟨z,hd,vs0,r0,dd⟩:=uD I2.hok e;cases r0;refine ⟨rs,c,dd,fun h' dd' hs=>⟨.ref s.heap.objs.size,_,?_,rfl,q2⟩⟩;have hz:(gt [] kvs).length<=sizeLine:=by
  have h1:=ka kvs [];rw [List.length_nil] at h1;rw [sizeLine_eq]; omega
 have he:∃ q,h'.get? s.heap.objs.size=some q:=let ⟨q,_,_,hq,_⟩:=dd'; ⟨q,hq⟩;exact ou I2 (by rw [e]; exact True.intro) hs he (wf hz hd (rk.merge .nil) dd')
section
variable {X:Cx} {pins:List (Addr × Obj)} {σ:St} {H:Hp} {s:Shared} {a:Addr} {y d:V} {u r:Value} {o:Option V} {A:Around} {E:Value->Shared->Prop}
end
section
variable {X:Cx} {o e f:Expr} {apos cpos:Pos} {td ty tx:TE}
end
section
variable {X:Cx} {pins:List (Addr × Obj)} {σ:St} {H:Hp} {s:Shared} {a:Addr} {kvs:List (Key × V)} {A:Around} {E:Value->Shared->Prop}
end
section
variable {X:Cx} {pins:List (Addr × Obj)} {σ:St} {H:Hp} {s:Shared} {a:Addr} {y:V} {u:Value} {A:Around} {E:Value->Shared->Prop}
end
section
variable {X:Cx}
end
section
variable {κ:Type} [DecidableEq κ]
end
end L2
set_option maxHeartbeats 4000000
namespace L2
open PySem PySem.Spec PyProof.Rows
def Fi {α β:Type} {l:List α} {f:α->β->Sem (ForInStep β)} {g:β->α->β} (h:∀ x∈l,∀ c,f x c=pure (.yield (g c x))):∀ c,forIn l c f=pure (l.foldl g c):=by
 induction l with
 | nil=>intro c; rfl
 | cons x l ih =>
  intro c;rw [List.forIn_cons,h x zaq,pure_bind];exact ih (fun y hy=>h y (zaj _ hy)) (g c x)
def eE (env:Env) (acc:List (Str × Addr)) (x:Str × NameKind):List (Str × Addr) :=
 if x.2 == NameKind.free then (x.1,(env.cells.lookup x.1).getD 0) :: acc else acc
def dI (env:Env) (names:List (Str × NameKind)):List (Str × Addr):=names.foldl (eE env) []
def nr {scope:Scope} {env:Env} (h:∀ y∈scope.names,y.2=.free->∃ c,env.cells.lookup y.1=some c):closureFor scope env=pure (dI env scope.names):=by
 simp only [closureFor];rw [Fi (g:=eE env) (fun x hx c=>by
  obtain ⟨n,kind⟩:=x;by_cases hk:kind=.free
  ·obtain ⟨a,e⟩:=h _ hx hk;subst hk;have e':env.cells.lookup n=some a:=e;simp [cellOf,eE,e']
  ·have hb:(kind == NameKind.free)=false:=by simpa using hk
   simp [eE,hb])]
 rfl
def nu {env:Env}:∀ (names:List (Str × NameKind)) (acc:List (Str × Addr)) (p:Str × Addr),
  p∈names.foldl (eE env) acc->p∈acc\/((p.1,NameKind.free)∈names/\p.2=(env.cells.lookup p.1).getD 0)
 | [],_,_,h=>.inl h
 | (n,k) :: r,acc,p,h=>by
  rw [List.foldl_cons] at h;rcases nu r _ p h with q | ⟨q,e⟩
  ·unfold eE at q;by_cases hk:(k == NameKind.free)=true
   ·rw [if_pos hk] at q;rcases zay.mp q with z | z
    ·subst z;have hk':k=NameKind.free:=by simpa using hk
     subst hk';exact .inr ⟨zaq,rfl⟩
    ·exact .inl z
   ·rw [if_neg hk] at q;exact .inl q
  ·exact .inr ⟨zaj _ q,e⟩
def lK {env:Env}:∀ (names:List (Str × NameKind)) (acc:List (Str × Addr)) (p:Str × Addr),p∈acc->p∈names.foldl (eE env) acc
 | [],_,_,h=>h
 | x :: r,acc,p,h=>by
  rw [List.foldl_cons];refine lK r _ p ?_;unfold eE;split
  ·exact zaj _ h
  ·exact h
def nw {env:Env} {n:Str}:∀ (names:List (Str × NameKind)) (acc:List (Str × Addr)),(n,NameKind.free)∈names->∃ c,(n,c)∈names.foldl (eE env) acc
 | (m,k) :: r,acc,h=>by
  rw [List.foldl_cons];rcases zay.mp h with e | e
  ·cases e;exact ⟨(env.cells.lookup n).getD 0,lK r _ _ (by unfold eE; rw [if_pos (show (((n,NameKind.free):Str × NameKind).2 == NameKind.free)=true from rfl)]; exact zaq)⟩
  ·exact nw r _ e
def gz {α:Type}:∀ {l:List (Str × α)} {n:Str} {c:α},(n,c)∈l->∃ c',l.lookup n=some c'
 | (m,d) :: r,n,c,h=>by
  rw [zas];cases hb:n == m with
  | true=>exact ⟨d,rfl⟩
  | false =>
   rcases zay.mp h with e | e
   ·cases e;simp at hb
   ·exact gz e
def rj {env:Env} {names:List (Str × NameKind)} {n:Str} (h:(n,NameKind.free)∈names):∃ c,(dI env names).lookup n=some c :=
 let ⟨_,e⟩:=nw (env:=env) names [] h
 gz e
def pc {env:Env} {names:List (Str × NameKind)} {n:Str} {c:Addr} (h:∀ y∈names,y.2=.free->∃ c,env.cells.lookup y.1=some c) (e:(dI env names).lookup n=some c):env.cells.lookup n=some c:=by
 rcases nu names [] (n,c) (zaU e) with q | ⟨q,z⟩
 ·simp at q
 ·obtain ⟨a,ea⟩:=h _ q rfl;have z':c=(env.cells.lookup n).getD 0:=z;have ea':env.cells.lookup n=some a:=ea;rw [ea'] at z';rw [ea',z'];rfl
def jA {env:Env}:∀ {names:List (Str × NameKind)} {x:Str} {k:NameKind},
  (names.map fun (n,k)=>if (k == NameKind.free && env.scope.kind == .function && env.kindOf n == some .cell) then (n,NameKind.cell) else (n,k)).lookup x=some k ->
  names.lookup x=some k\/(names.lookup x=some .free/\k=.cell)
 | [],_,_,h=>by simp at h
 | (n,k0) :: r,x,k,h=>by
  rw [zar] at h;cases hx:x == n with
  | true =>
   rcases Bool.eq_false_or_eq_true (k0 == NameKind.free && env.scope.kind == .function && env.kindOf n == some .cell) with hc | hc
   ·simp only [hc,if_true,zas,hx] at h;have hk:k0=.free:=by
     simp only [Bool.and_eq_true,beq_iff_eq] at hc;exact hc.1.1
    refine .inr ⟨?_,?_⟩
    ·simp only [zas,hx,hk]
    ·exact (zat h).symm
   ·simp only [hc,Bool.false_eq_true,if_false,zas,hx] at h;refine .inl ?_;simp only [zas,hx];exact h
  | false =>
   have h':(r.map fun (n,k)=>if (k == NameKind.free && env.scope.kind == .function && env.kindOf n == some .cell) then (n,NameKind.cell) else (n,k)).lookup x=some k:=by
    rcases Bool.eq_false_or_eq_true (k0 == NameKind.free && env.scope.kind == .function && env.kindOf n == some .cell) with hc | hc
    ·simp only [hc,if_true,zas,hx] at h;exact h
    ·simp only [hc,Bool.false_eq_true,if_false,zas,hx] at h;exact h
   simp only [zas,hx];exact jA h'
def jB {env:Env}:∀ {names:List (Str × NameKind)} {x:Str},names.lookup x=some .free ->
  (names.map fun (n,k)=>if (k == NameKind.free && env.scope.kind == .function && env.kindOf n == some .cell) then (n,NameKind.cell) else (n,k)).lookup x=some .cell \/
  (names.map fun (n,k)=>if (k == NameKind.free && env.scope.kind == .function && env.kindOf n == some .cell) then (n,NameKind.cell) else (n,k)).lookup x=some .free
 | [],_,h=>by simp at h
 | (n,k0) :: r,x,h=>by
  rw [zar];cases hx:x == n with
  | true =>
   simp only [zas,hx] at h;rcases Bool.eq_false_or_eq_true (k0 == NameKind.free && env.scope.kind == .function && env.kindOf n == some .cell) with hc | hc
   ·refine .inl ?_;simp only [hc,if_true,zas,hx]
   ·refine .inr ?_;simp only [hc,Bool.false_eq_true,if_false,zas,hx];exact h
  | false =>
   simp only [zas,hx] at h;have ih:=jB (env:=env) h;rcases Bool.eq_false_or_eq_true (k0 == NameKind.free && env.scope.kind == .function && env.kindOf n == some .cell) with hc | hc
   ·simp only [hc,if_true,zas,hx];exact ih
   ·simp only [hc,Bool.false_eq_true,if_false,zas,hx];exact ih
def eP (js:List (Option Nat)) (σ:St):St:=js.map fun j=>match j with
 | some j=>(σ[j]?).join
 | none=>none
def PTs (X:Cx) (ifs:List Expr) (tt:TT):Prop :=
 ∀ (pins:List (Addr × Obj)) (s:Shared) (σ:St) (H:Hp) (Q:Bool->Hp->Prop),Inv X pins σ H s->tt σ H Q ->
  wpAny (model X.prog X.w) X.A (forIn ifs true fun c r=>if r=true then do let ok <- isTrue c X.env (eval c X.env); pure (ForInStep.yield ok) else pure (ForInStep.yield r)) (TP X pins σ Q) X.xe s
def K3:TT:=fun _ H Q=>Q true H
def pts_nil {X:Cx}:PTs X [] K3:=fun _ _ _ H _ I h=>wpAny_tests_nil ⟨H,I,h⟩
def Es {X:Cx} {c:Expr} {tc:TT} (hc:PT X c tc):PTs X [c] tc:=fun pins s σ H Q I h=>wpAny_tests_one (hc pins s σ H Q I h)
def IK (g:TG) (tt:TT) (te:TE) (D:Addr) (x:V) (τ:St) (H:Hp) (N:St->Hp->Prop):Prop :=
 g x τ H fun τ4 H4=>tt τ4 H4 fun b H5=>if b=true then te τ4 H5 fun v H6=>∃ xs,H6 D=some (.lst xs)/\xs.length < sizeLine/\N τ4 (upd H6 D (.lst (xs++[v]))) else N τ4 H5
def D2 (J:It) (g:TG) (tt:TT) (te:TE) (σ0:St) (H1:Hp) (D:Addr) (Q:VK):Prop :=
 ∃ W:Nat->Nat->St->Hp->Prop,(∃ m,W 0 m σ0 (upd H1 D (.lst []))) /\
  ∀ i m τ H2,W i m τ H2->(J.stop i H2/\Q (.ref D) H2)\/(J.go i H2/\∃ N:St->Hp->Prop,(∀ τ' H',N τ' H'->∃ m',m' < m/\W (i+1) m' τ' H')/\∀ x H3,J.yld i H2 x H3->IK g tt te D x τ H3 N)
def tLC (wi:TI) (g:TG) (tt:TT) (te:TE) (js:List (Option Nat)):TE:=fun σ H Q =>
 wi σ H fun J H1=>∀ D,H1 D=none->D2 J g tt te (eP js σ) H1 D Q
def thF {α:Type} {t:Sem α} {Q Q':α->Shared->Prop} {M:Model} {A:Around} {E:Value->Shared->Prop} {s:Shared} (h:wpAny M A t Q (fun _ _=>False) s) (hQ:∀ a s,Q a s->Q' a s):wpAny M A t Q' E s :=
 wpAny_mono h hQ fun _ _ x=>x.elim
section
variable {X:Cx} {elt tg iter:Expr} {ifs:List Expr} {scope:Scope} {pos:Pos} {ns:List Str} {js:List (Option Nat)} {wi:TI} {g:TG} {tt:TT} {te:TE}
end
section
variable {X:Cx}
def uF:∀ (bs:List Bool),(List.range bs.length).all (fun i=>bs.getD i true)=bs.all id:=fun bs=>by
 rw [Bool.eq_iff_iff,List.all_eq_true,List.all_eq_true];constructor
 ·intro h b hb;obtain ⟨i,hi,e⟩:=List.mem_iff_getElem.mp hb;have q:=h i (List.mem_range.mpr hi);rw [List.getD_eq_getElem?_getD,zak hi,e] at q;exact q
 ·intro h i hi;have hi':=List.mem_range.mp hi;rw [List.getD_eq_getElem?_getD,zak hi'];exact h _ (zaK hi')
def yc (hc:X.calm=true):CallR X (.builtin "all") (fun xs H Q=>∃ (p:Addr) (bs:List Bool),xs=[.ref p]/\SqL X.K H p (bs.map V.bl)/\Q (.bl (bs.all id)) H):=by
 intro pins s σ H xs us Q I r h;obtain ⟨p,bs,rfl,hp,q⟩:=h;obtain ⟨u,rfl,ru⟩:=eI r;cases ru;obtain ⟨its,rv,pl,hz⟩:=I.list hp;have hl:its.length=bs.length:=by rw [<- rv.length,zad]
 have hlt:p < s.heap.objs.size:=by
  obtain ⟨o,n,e,_⟩:=id pl;exact zal e
 refine call_all_walk (wpAny_pyIter_list pl.isList ?_);refine ⟨s.heap.objs.size,[s.heap.objs.size,p],[s.heap.objs.size],its.toArray.size,fun i v=>its.toArray[i]?=some v,_,fun i=>bs.getD i true,rfl,Walks.list (A:=X.A.in1) (show X.A.in1.handled=none from I.ok.hd hc) s.heap.objs.size p (zaw hlt) its.toArray,?_,?_,?_⟩
 ·exact ⟨⟨_,zan _ rfl,rfl,rfl⟩,pl.isList.push _⟩
 ·intro i v s' Q' E' hv hq;have hv':its[i]?=some v:=by simpa using hv
  have hi:i < bs.length:=by
   rw [<- hl];exact (zah.mp hv').1
  obtain ⟨u,hu,ru⟩:=rv.get (i:=i) (x:=V.bl bs[i]) (by rw [zao,zak hi]; rfl);rw [hu] at hv';cases hv';cases ru;have e:bs.getD i true=bs[i]:=by rw [List.getD_eq_getElem?_getD,zak hi]; rfl
  have hq':Q' (bs.getD i true) s':=hq;rw [e] at hq';exact wpAny_truthy_bool hq'
 ·intro h' tk hk;have e:(List.range its.toArray.size).all (fun i=>bs.getD i true)=bs.all id:=by
   rw [<- uF bs,zai,hl]
  rw [e];refine ⟨.bl (bs.all id),H,I.kept (t':=tk) fun b o z=>hk b o ?_ (zaf _ z),rfl,q⟩;intro z';have z'':b=s.heap.objs.size:=by simpa using z'
  exact zaw (zal z) z''
def ya:CallR X (.builtin "isinstance") (fun xs H Q=>∃ x t n b,xs=[x,.ty n]/\TyOf X.K H x t/\PySem.W.kitOne X.K t (.type n)=some b/\Q (.bl b) H):=by
 intro pins s σ H xs us Q I r h;obtain ⟨x,t,n,b,rfl,ty,e,q⟩:=h;obtain ⟨u,w',rfl,r1,r2⟩:=tG r;cases r2;exact vO I r1 ty e fun tk=>⟨.bl b,H,I.tok _,rfl,q⟩
end
section
open PySem.SeqAt
variable {X:Cx} {pins:List (Addr × Obj)} {σ:St} {H:Hp} {s:Shared}
end
section
variable {X:Cx}
def Inv.turnedLaid {pins:List (Addr × Obj)} {σ:St} {H:Hp} {s:Shared} {h':Heap} {t':Nat} {fp:List Addr} {p:Addr} {o:HO} (I:Inv X pins σ H s) (f:∀ b∈fp,il X pins H b) (hp:s.heap.objs.size<=p)
  (k:∀ b ob,b ∉ fp->s.heap.get? b=some ob->h'.get? b=some ob) (th:∀ b∈fp,∃ ob,h'.get? b=some ob) (new:ObjOk X.prog X.w (upd H p o) h' p o):Inv X pins σ (upd H p o) { s with heap:=h',toks:=t' }:=by
 have hn:H p=none:=I.hok.fresh hp;have ne:∀ b ob,s.heap.get? b=some ob->b≠p:=fun b ob e=>zaw (zag (zal e) hp);have nf:∀ b u,H b=some u->b ∉ fp:=fun b u e z=>by rw [(f b z).1] at e; cases e
 refine I.step (g':=s.gens) (d':=s.drawn) (ch:=fp) (fun b hb=>⟨(f b hb).2.2.2.1,(f b hb).2.1,(f b hb).2.2.2.2.1,(f b hb).2.2.2.2.2⟩) (fun b ob _ _ hc e _=>k b ob hc e) (fun b ob _ _ hc e _=>⟨ob.slots,k b ob hc e⟩)
  (fun b ob _ e n=>by rw [aC (ne b ob e)]; exact n) (fun b ob hc e=>⟨ob,k b ob hc e⟩) (fun b xs e=>by rw [aC (bM e hn)]; exact e) (fun b ob u e=>by rw [aC (bM e hn)]; exact e)
  (fun b ps e=>⟨#[],by rw [aC (bM e hn),e]; simp⟩) (fun m hm=>?_) (fun b u e=>?_) I.bare
 ·obtain ⟨ob,es,ep,ho,r⟩:=hm;exact ⟨ob,es,ep,k _ ob (fun z=>(f _ z).2.1 rfl) ho,r⟩
 ·by_cases hb:b=p
  ·subst hb;rw [aL] at e;cases e;exact new
  ·rw [aC hb] at e;refine (I.hok b u e).stay (fun c v hc q=>k c v ?_ q) (fun c q=>by rw [aC (bM q hn)]; exact q) fun c xs q=>by rw [aC (bM q hn)]; exact q
   rcases hc with z | z
   ·rw [z]; exact nf b u e
   ·exact nf c _ z
def Ite (K:PySem.W.Frag) (a:Addr):It :=
 ⟨fun i H=>∃ xs x,SqL K H a xs/\xs[i]?=some x,
  fun i H y H'=>∃ p x,y=.ref p/\H p=none/\H'=upd H p (.tup [.int i,x])/\∀ xs,SqL K H a xs->xs[i]?=some x,
  fun i H=>∃ xs,SqL K H a xs/\xs.length<=i⟩
def u0 {P:Program} {w:World} {K:PySem.W.Frag} {elts:List Expr} {k:Nat} {tp:Pos} (a e it:Addr) (hei:e≠it) :
  Turn P w K (.Tuple elts k tp) (Ite K a) [e,it] e (fun i h=>(∃ old,IsEnum h e it i old)/\h.IsListIter it a i) where
 mem:=by simp
 obj:=fun i h st b hb=>by
  obtain ⟨⟨old,he⟩,o,ho,hc,hd⟩:=st;have hb':b=e\/b=it:=by simpa using hb
  rcases hb' with rfl | rfl
  ·exact ⟨_,he,fun v z=>by
    have z':Data.fields _=Data.cell v:=z;cases z'⟩
  ·exact ⟨o,ho,fun v z=>by rw [hd] at z; cases z⟩
 keep:=fun i h h' st kp=>⟨let ⟨old,he⟩:=st.1; ⟨old,kp e (by simp) _ he⟩,st.2.at fun o q=>kp it (by simp) o q⟩
 item:=by
  intro X hP hw hK hc i pins s σ H E I hf st hg;subst hP hw hK;obtain ⟨xs,x,hq,hx⟩:=hg;obtain ⟨its,rv,p,hz⟩:=I.list hq;obtain ⟨u,hu,ru⟩:=rv.get hx;obtain ⟨⟨old,he⟩,hit⟩:=st;refine wpAny_pyNext_enum_item he hit p.isList (x:=u) (by simpa using hu) hei fun h1 ho1 hit1 ht1 hz1 hk1=>?_;refine ⟨_,rfl,wpAny_letOwnedTupleGo_enum ho1 fun h2 he2 hs2=>?_⟩;have eL:e < s.heap.objs.size:=zal he;have ht2:h2.get? s.heap.objs.size=some { cls:=.type "tuple",data:=.seq #[.int i s.toks,u] }:=(hs2.2 _ (Nat.ne_of_gt eL)).trans ht1;have hit2:h2.IsListIter it a (i+1):=hit1.extBut hs2.extBut hei.symm;have I2:Inv X pins σ (upd H s.heap.objs.size (.tup [.int i,x])) { s with heap:=h2,toks:=s.toks+1 }:=by
   refine I.turnedLaid (fp:=[e,it]) hf (zav _) (fun b ob hb q=>?_) (fun b hb=>?_) ?_
   ·have h1:b≠e:=fun z=>hb (by simp [z]);have h2':b≠it:=fun z=>hb (by simp [z]);exact (hs2.2 b h1).trans (hk1 b ob h1 h2' q)
   ·have hb':b=e\/b=it:=by simpa using hb
    rcases hb' with rfl | rfl
    ·exact ⟨_,he2⟩
    ·obtain ⟨o,ho,_⟩:=hit2;exact ⟨o,ho⟩
   ·refine ⟨(by show 2<=sizeLine; decide),[.int i s.toks,u],.cons ⟨_,rfl⟩ (.cons ru .nil),?_⟩;exact ⟨_,ht2,rfl,_,rfl,rfl⟩
  have fr:∀ b∈[e,it],upd H s.heap.objs.size (.tup [.int i,x]) b=none:=fun b hb=>by
   have hlt:b < s.heap.objs.size:=by
    have hb':b=e\/b=it:=by simpa using hb
    rcases hb' with rfl | rfl
    ·exact eL
    ·obtain ⟨o,ho,_⟩:=hit;exact zal ho
   rw [aC (zaw hlt)];exact (hf b hb).1
  exact ⟨.ref s.heap.objs.size,_,I2,rfl,⟨_,x,rfl,I.fresh,rfl,fun ys hy=>by rw [I.list_inj hy hq]; exact hx⟩,⟨⟨_,he2⟩,hit2⟩,fr⟩
 done:=by
  intro X hP hw hK hc i pins s σ H E I hf st hg;subst hP hw hK;obtain ⟨xs,hq,hx⟩:=hg;obtain ⟨its,rv,p,hz⟩:=I.list hq;obtain ⟨⟨old,he⟩,hit⟩:=st;obtain ⟨f0,f1,f2,f3,f4,f5⟩:=hf it (by simp);have hl:=rv.length;exact wpAny_pyNext_enum_end (I.ok.hd hc) he hit p.isList (by simp; omega) fun h' eb=>⟨rfl,I.turned (t':=s.toks) (fun b o hb q=>eb b o hb q) f0 f1 f3 f4 f5⟩
 self:=fun _ _ _ _ _ st h=>let ⟨⟨_,he⟩,_⟩:=st; wpAny_pyIter_enum he h
end
def Kn (P:Program) (w:World) (K:PySem.W.Frag) (mg:Str->Option Value) (base:Heap) (k:Nat) (x:Str) (ps:List Str) (sp:Sp):Prop :=
 ∃ f fd,FnOk P w K mg base CX0 k f fd ps sp/\mg x=some (.ref f)/\PySem.W.keepIn K (.ref f)=true/\Binds K fd ps []
def Kn.mono {P:Program} {w:World} {K:PySem.W.Frag} {mg:Str->Option Value} {base:Heap} {j k:Nat} {x:Str} {ps:List Str} {sp:Sp} (G:Kn P w K mg base j x ps sp) (h:j<=k):Kn P w K mg base k x ps sp :=
 let ⟨f,fd,a,b,c,d⟩:=G
 ⟨f,fd,a.mono h,b,c,d⟩
section
variable {X:Cx} {k:Nat} {x:Str} {ps:List Str} {sp:Sp} {p pos:Pos} {e:Expr} {es:List Expr} {t:TA}
def DY (G:Kn X.prog X.w X.K X.mg X.base k x ps sp) (hr:Room k X.A) (hg:Gl X x) (ha:PA X (e :: es) t) (hdb:(x == ("__debug__" : Str))=false:=by decide)
  (he:starEach (e :: es) X.env=(false,eval e X.env) :: starEach es X.env:=by rfl) (hpl:(backTo pos (starEach es X.env)).any (·.1)=false:=by rfl) :
  PE X (.Call (.Name x p) (e :: es) [] pos) (tN sp [] E0 t):=by
 obtain ⟨f,fd,F,hm,hk,hb⟩:=G;exact EG F hr hg hm hk hb .nil Kq ha hdb he hpl
end
def K5 (K:PySem.W.Frag):List V->Hp->VK->Prop:=fun xs H Q=>∃ x n,xs=[x]/\J8 K x H n/\Q (.int n) H
def Ep (K:PySem.W.Frag):List V->Hp->VK->Prop:=fun xs H Q=>∃ p ys,xs=[.ref p]/\(SqL K H p ys\/SqT K H p ys)/\∀ l,H l=none->Q (.ref l) (upd H l (.lst ys))
def Ib (K:PySem.W.Frag):List V->Hp->VK->Prop:=fun xs H Q=>∃ p ys,xs=[.ref p]/\((SqL K H p ys/\∀ l,H l=none->Q (.ref l) (upd H l (.tup ys)))\/(SqT K H p ys/\Q (.ref p) H))
def K7 (K:PySem.W.Frag):List V->Hp->VK->Prop:=fun xs H Q=>∃ (p:Addr) (bs:List Bool),xs=[.ref p]/\SqL K H p (bs.map V.bl)/\Q (.bl (bs.all id)) H
section
variable {X:Cx} {K:PySem.W.Frag}
def Lc (hK:X.K=K):CallR X (.builtin "len") (K5 K):=by subst hK; exact xZ
def ER (hK:X.K=K):CallR X (.type "list") (Ep K):=by subst hK; exact rp
def IP (hK:X.K=K):CallR X (.type "tuple") (Ib K):=by subst hK; exact pE
def Lf (hK:X.K=K) (hc:X.calm=true):CallR X (.builtin "all") (K7 K):=by subst hK; exact yc hc
def Ld (hK:X.K=K):IxR X (tQ K):=by subst hK; exact ix_list
def Lb (hK:X.K=K):SlR X (Ic K):=by subst hK; exact Em
variable {tg l:Expr} {tl:TE} {es:List Expr} {t:TGs} {n k:Nat} {pos p p2 cpos apos:Pos}
end
def sgn (c:Nat):V:=.str ⟨#[c]⟩
def Its (z:Str):It:=⟨fun i _=>i < z.cps.size,fun i H x H'=>H'=H/\∃ c,z.cps[i]?=some c/\x=sgn c,fun i _=>z.cps.size<=i⟩
def wG {P:Program} {w:World} {K:PySem.W.Frag} {tg:Expr} (it:Addr) (z:Str) (t:Tok) (ty:String) (hty:ty="str_ascii_iterator"\/ty="str_iterator") :
  Turn P w K tg (Its z) [it] it (fun i h=>h.IsStrIter it ty z t i) where
 mem:=by simp
 obj:=fun i h st b hb=>by
  have e:b=it:=by simpa using hb
  subst e;obtain ⟨o,e,c,d⟩:=st;exact ⟨o,e,fun v q=>by rw [d] at q; cases q⟩
 keep:=fun i h h' st k=>let ⟨o,e,r⟩:=st; ⟨o,k it (by simp) o e,r⟩
 item:=by
  intro X hP hw hK hc i pins s σ H E I hf st hg;subst hP hw hK;obtain ⟨f0,f1,f2,f3,f4,f5⟩:=hf it (by simp);have W:Walks X.prog X.w X.A it [it] [it] z.cps.size (SignAt z) (fun i h=>h.IsStrIter it ty z t i):=by
   rcases hty with rfl | rfl
   ·exact Walks.strAscii (I.ok.hd hc) it z t
   ·exact Walks.strWide (I.ok.hd hc) it z t
  refine W.item i s _ _ hg st fun v h' tk hv st' kk=>?_;obtain ⟨c,u,hcv,rfl⟩:=hv;have I1:Inv X pins σ H { s with heap:=h',toks:=tk }:=I.turned (fun b o hb e=>kk b o (by simpa using hb) e) f0 f1 f3 f4 f5;obtain ⟨o,e,ec,ed⟩:=id st';refine ⟨_,rfl,pP (s:={ s with heap:=h',toks:=tk }) (n:=ty) e ec ed (by rcases hty with rfl | rfl <;> decide) ⟨sgn c,H,I1,⟨u,rfl⟩,⟨rfl,c,hcv,rfl⟩,st',fun b hb=>(hf b hb).1⟩⟩
 done:=by
  intro X hP hw hK hc i pins s σ H E I hf st hg;subst hP hw hK;obtain ⟨f0,f1,f2,f3,f4,f5⟩:=hf it (by simp);have hle:z.cps.size<=i:=hg;rcases hty with rfl | rfl
  ·exact wpAny_pyNext_ascii_end (I.ok.hd hc) st (by simpa using hle) fun h' he=>⟨rfl,I.turned (t':=s.toks) (fun b o hb e=>he b o hb e) f0 f1 f3 f4 f5⟩
  ·exact wpAny_pyNext_wide_end (I.ok.hd hc) st (by simpa using hle) fun h' he=>⟨rfl,I.turned (t':=s.toks) (fun b o hb e=>he b o hb e) f0 f1 f3 f4 f5⟩
 self:=fun A i s Q E st h=>by
  rcases hty with rfl | rfl
  ·exact wpAny_pyIter_striter_ascii st h
  ·exact wpAny_pyIter_striter_wide st h
section
variable {X:Cx} {tg:Expr} {K:PySem.W.Frag}
def dM (z:Str):List V:=z.cps.toList.map sgn
def lE:∀ {xs:List V} {us:List Value},xs.length=us.length->(∀ (i:Nat) x u,xs[i]?=some x->us[i]?=some u->RelV x u)->Vals xs us
 | [],[],_,_=>.nil
 | [],_ :: _,h,_=>by cases h
 | _ :: _,[],h,_=>by cases h
 | x :: xs,u :: us,h,f=>.cons (f 0 x u rfl rfl) (lE (Nat.succ.inj h) fun i y v a b=>f (i+1) y v (by simpa using a) (by simpa using b))
def oz (hc:X.calm=true):CallR X (.type "list") (fun xs H Q=>∃ z,xs=[.str z]/\z.cps.size<=sizeLine/\∀ l,H l=none->Q (.ref l) (upd H l (.lst (dM z)))):=by
 intro pins s σ H xs us Q I r h;obtain ⟨z,rfl,hz,q⟩:=h;obtain ⟨u,rfl,t,rfl⟩:=eI r;refine call_list_str (I.ok.hd hc) z t (fun h' tk acc c' hk ho hi=>?_) hz;have hl:(dM z).length=acc.toList.length:=by
  unfold dM;rw [zad,zaY,zaY,hi.1]
 have rv:Vals (dM z) acc.toList:=lE hl fun i x v a b=>by
  obtain ⟨c,tk',hcv,rfl⟩:=hi.2 i v (by simpa using b);unfold dM at a;rw [zao] at a;have e:z.cps.toList[i]?=some c:=by simpa using hcv
  rw [e] at a;cases a;exact ⟨_,rfl⟩
 refine ⟨.ref s.heap.objs.size,_,I.laid (t':=tk) (o:=.lst (dM z)) hk (zav _) ⟨?_,acc.toList,c',rv,by simpa using ho⟩,rfl,q _ I.fresh⟩;unfold dM;rw [zad,zaY];exact hz
def mP {ys:List Str}:∀ {us:List Value},Vals (ys.map V.str) us->StrsAre us ys:=by
 induction ys with
 | nil=>intro us r; cases r; exact .nil
 | cons y ys ih =>
  intro us r;cases r with
  | cons r1 r2 =>
   obtain ⟨t,e⟩:=r1;subst e;exact .cons y t (ih r2)
def DU (K:PySem.W.Frag):V->List V->Hp->VK->Prop:=fun x xs H Q=>∃ sep ys p,x=.str sep/\xs=[.ref p]/\(SqL K H p (ys.map V.str)\/SqT K H p (ys.map V.str))/\sep.length<=16/\(ys.map (·.length)).sum+ys.length<=1048576/\Q (.str (Txt.join sep ys)) H
def gS (hK:X.K=K):MtR X "str.join" (DU K):=by
 subst hK;intro pins s σ H x xs v us Q I rx rs h;obtain ⟨sep,ys,p,rfl,rfl,hp,hs,hw,q⟩:=h;obtain ⟨t,rfl⟩:=rx;obtain ⟨u,rfl,ru⟩:=eI rs;cases ru;rcases hp with hp | hp
 ·obtain ⟨its,rv,pl,_⟩:=I.list hp;exact join_listW pl.isList (by simpa using mP rv) hs hw fun t' k=>⟨.str _,H,I.tok k,⟨_,rfl⟩,q⟩
 ·obtain ⟨its,rv,pl,_⟩:=I.tuple hp;exact join_tupleW pl (by simpa using mP rv) hs hw fun t' k=>⟨.str _,H,I.tok k,⟨_,rfl⟩,q⟩
def dH (xs:List Nat) (lo hi:Option Int):List Nat:=(xs.drop (HT.sIx xs.length 0 lo)).take (HT.sIx xs.length xs.length hi - HT.sIx xs.length 0 lo)
def u8 (n d:Nat) (v:Option Int) (h:d<=n):HT.sIx n d v<=n:=by
 cases v with
 | none=>exact h
 | some i =>
  unfold HT.sIx
  dsimp only
  split <;> omega
def wK (lo hi:Option Int) (n:Nat):Builtin.Str.strSliceIndices lo hi 1 n=(List.range (HT.sIx n n hi - HT.sIx n 0 lo)).map (HT.sIx n 0 lo+·):=by
 obtain ⟨h1,h2,h3⟩:=kl lo hi n;have e:Builtin.Str.strSliceIndices lo hi 1 n=sliceRange (sliceBounds lo hi none n).1 (sliceBounds lo hi none n).2.1 (sliceBounds lo hi none n).2.2:=by
  cases lo <;> cases hi <;> rfl
 rw [e,h1,h2,h3,sliceRange_one]
def tO (x:Str) (lo hi:Option Int):Txt.slice x lo hi=⟨(dH x.cps.toList lo hi).toArray⟩:=by
 unfold Txt.slice;have hl:x.length=x.cps.toList.length:=by simp [Str.length]
 rw [wK];have e:(((List.range (HT.sIx x.length x.length hi - HT.sIx x.length 0 lo)).map (HT.sIx x.length 0 lo+·)).filterMap (x.cps[·]?))=dH x.cps.toList lo hi:=by
  rw [pick_run,hl];rfl
 rw [e];split
 ·rename_i hc;have hc':HT.sIx x.length x.length hi - HT.sIx x.length 0 lo=x.length:=by simpa using hc
  have h1:=u8 x.length x.length hi (zav _);have ha:HT.sIx x.length 0 lo=0\/x.length=0:=by omega
  have:dH x.cps.toList lo hi=x.cps.toList:=by
   unfold dH;rw [<- hl,hc'];rcases ha with z | z
   ·rw [z,List.drop_zero,hl,zaQ]
   ·rw [z,List.take_zero];rw [hl] at z;exact (List.eq_nil_of_length_eq_zero z).symm
  rw [this]
 ·rfl
def K4:V->Option Int->Option Int->Hp->VK->Prop:=fun x lo hi H Q=>∃ z,x=.str z/\z.length<=sizeLine/\Q (.str ⟨(dH z.cps.toList lo hi).toArray⟩) H
def sl_str:SlR X K4:=by
 intro pins s σ H x v vl vu lo hi sl Q I rx hs pl pu h;obtain ⟨z,rfl,hz,q⟩:=h;obtain ⟨t,rfl⟩:=rx;rw [<- tO] at q;have go:∀ (l u:Option (Int × Tok)),s.heap.IsSlice sl l u none->l.map (·.1)=lo->u.map (·.1)=hi->wpAny (model X.prog X.w) X.A (getItem (.str z t) (.ref sl)) (EP X pins σ Q) X.xe s:=fun l u hsl e1 e2=>by
  subst e1 e2;exact wpAny_getItem_str_slice (st:=none) hsl rfl (post_val_or_str ⟨zau (Txt.slice_le z _ _) hz,fun t' k=>⟨.str _,H,I.tok k,⟨_,rfl⟩,q⟩⟩)
 refine ⟨"str",_,F.slot_str_getitem.lookup,typeIs_str _ _ _,?_⟩;cases pl with
 | none =>
  cases pu with
  | none=>exact go none none hs rfl rfl
  | int j u=>exact go none (some (j,u)) hs rfl rfl
 | int i t =>
  cases pu with
  | none=>exact go (some (i,t)) none hs rfl rfl
  | int j u=>exact go (some (i,t)) (some (j,u)) hs rfl rfl
end
section
variable {l l':List Addr} {H H':Hp} {a b:Addr} {o:HO}
end
section
variable {K:PySem.W.Frag}
end
section
variable {X:Cx} {tg:Expr} {K:PySem.W.Frag}
def vb:V->List V->Hp->VK->Prop:=fun x xs H Q=>∃ z y i rest,x=.str z/\xs=[.str y]/\Builtin.Str.occurrences z y 0 z.length 1=i :: rest/\Q (.int (i:Nat)) H
def qy:MtR X "str.index" vb:=by
 intro pins s σ H x xs v us Q I rx rs h;obtain ⟨z,y,i,rest,rfl,rfl,ho,q⟩:=h;obtain ⟨t,rfl⟩:=rx;obtain ⟨u,rfl,ru⟩:=eI rs;obtain ⟨t2,rfl⟩:=ru;exact SC.index ho ⟨.int i,H,I.tok _,⟨_,rfl⟩,q⟩
end
section
variable {prog:Program} {w:World} {A:Around} {E:Value->Shared->Prop} {s:Shared}
end
section
variable {X:Cx} {tg:Expr} {K:PySem.W.Frag}
end
abbrev li (z:Str):List Nat:=z.cps.toList
def mk1 (c:Nat):Str:=⟨#[c]⟩
def ofL (l:List Nat):Str:=⟨l.toArray⟩
def mX (l:List Nat):li (ofL l)=l:=rfl
def vp (z:Str):ofL (li z)=z:=rfl
def vC {a b:Str} (h:li a=li b):a=b:=by rw [<- vp a,<- vp b,h]
def vD (a b:Str):li (a++b)=li a++li b:=by
 show (a.cps++b.cps).toList=_;rw [Array.toList_append]
def emp:Str:=""
def cat (ks:List Str):Str:=Txt.join emp ks
def az (ks:List Str):List Nat:=(ks.map li).flatten
def J3 (ks:List Str):li (cat ks)=az ks:=by
 unfold cat Txt.join az;rw [StrLaws.glued_eq_join]
 induction ks with
 | nil=>rfl
 | cons x r ih =>
  cases r with
  | nil =>
   show li x=_;simp
  | cons y r =>
   show li (x++emp++Str.join emp (y :: r))=_;rw [vD,vD,ih];show li x++[]++_=li x++((y :: r).map li).flatten;rw [List.append_nil]
def rz (cs:List Nat):az (cs.map mk1)=cs:=by
 unfold az;rw [zaR]
 induction cs with
 | nil=>rfl
 | cons c r ih =>
  rw [zar,List.flatten_cons,ih];rfl
def pp (ks:List Str) (x:Str):az (ks++[x])=az ks++li x:=by
 unfold az;rw [zaC,List.flatten_append];simp
def rA (ks:List Str):(ks.map (·.length)).sum=(az ks).length:=by
 unfold az;rw [List.length_flatten,zaR];rfl
def Sub (x z:List Nat):Prop:=∀ c∈x,c∈z
def mx (l:List Nat) (lo hi:Option Int):(dH l lo hi).length<=l.length:=by
 unfold dH;rw [zaE,zaF];omega
def iE {α β:Type} (f:α->β):∀ (ys:List α) (k:Nat),(ys.map f).eraseIdx k=(ys.eraseIdx k).map f
 | [],_=>rfl
 | _ :: _,0=>rfl
 | y :: ys,k+1=>by
  show f y :: (ys.map f).eraseIdx k=f y :: (ys.eraseIdx k).map f;rw [iE f ys k]
def HX {n:Nat} {i:Int} (h0:0<=i) (h1:i < (n:Int)):seqIndex? i n=some i.toNat:=PySem.seqIndex_of h0 h1
def nk:∀ (us:List Nat) (d:Nat) (h:d < us.length),([us[d]]++us.eraseIdx d).Perm us
 | [],_,h=>absurd h (Nat.not_lt_zero _)
 | a :: r,0,_=>List.Perm.refl _
 | a :: r,d+1,h=>by
  have h':d < r.length:=Nat.lt_of_succ_lt_succ h;show (r[d] :: a :: r.eraseIdx d).Perm (a :: r);exact (List.Perm.swap _ _ _).trans (List.Perm.cons a (nk r d h'))
def vQ {l:List Nat} {i c:Nat} (hn:l.Nodup) (h:l[i]?=some c):l.idxOf c=i:=by
 obtain ⟨hi,e⟩:=zah.mp h;rw [<- e];exact hn.idxOf_getElem i hi
def oY {z:Str} {c:Nat} (hn:(li z).Nodup) (hm:c∈li z):∃ rest,Builtin.Str.occurrences z (mk1 c) 0 z.length 1=(li z).idxOf c :: rest:=by
 have h1:=StrLaws.found_one z c;rw [zaB hm] at h1;cases ho:Builtin.Str.occurrences z ⟨#[c]⟩ 0 z.length 1 with
 | nil=>rw [ho] at h1; cases h1
 | cons i rest =>
  have h2:=StrLaws.occ_spec z ⟨#[c]⟩ 0 z.length 1 i (by rw [ho]; exact zaq);have h3:=(StrLaws.subAt_one z c i).mp h2;rw [vQ hn h3];exact ⟨rest,ho⟩
section
variable {prog:Program} {w:World} {A:Around} {E:Value->Shared->Prop} {s:Shared}
end
section
variable {X:Cx} {K:PySem.W.Frag}
def ci (z y:Str):Bool:=!(Builtin.Str.occurrences z y 0 z.length 1).isEmpty
def Ii (neg:Bool):R2:=fun x y H Q=>∃ a b,x=.str a/\y=.str b/\Q (.bl (if neg then !ci b a else ci b a)) H
def op_inS:OpR X (compareOp .In) (Ii false):=by
 intro pins s σ H x y v u Q I rx ry h;obtain ⟨a,b,rfl,rfl,q⟩:=h;obtain ⟨t,rfl⟩:=rx;obtain ⟨t2,rfl⟩:=ry;exact PySem.P.in_str ⟨.bl _,H,I,rfl,q⟩
def op_notInS:OpR X (compareOp .NotIn) (Ii true):=by
 intro pins s σ H x y v u Q I rx ry h;obtain ⟨a,b,rfl,rfl,q⟩:=h;obtain ⟨t,rfl⟩:=rx;obtain ⟨t2,rfl⟩:=ry;exact PySem.P.notIn_str ⟨.bl _,H,I,rfl,q⟩
end
section
open PySem.SeqAt
end
def eK:∀ (names:List (Str × NameKind)) (n:Nat) (acc:List (Str × Addr)),cellsFrom n names acc=cellsFrom n names []++acc
 | [],_,_=>rfl
 | (x,k) :: r,n,acc=>by
  unfold cellsFrom;split
  ·rw [eK r (n+1) ((x,n) :: acc),eK r (n+1) [(x,n)],List.append_assoc];rfl
  ·exact eK r n acc
def gA:∀ (names:List (Str × NameKind)) (n:Nat) (acc:List (Str × Addr)) {x:Str} {c:Addr},(x,c)∈cellsFrom n names acc->(x,c)∈acc\/(x,NameKind.cell)∈names
 | [],_,_,_,_,h=>.inl h
 | (y,k) :: r,n,acc,x,c,h=>by
  unfold cellsFrom at h;split at h
  ·rename_i hk;rcases gA r _ _ h with h | h
   ·rcases zay.mp h with e | e
    ·have hk':k=.cell:=by simpa using hk
     have e':=(Prod.mk.inj e).1;rw [e',<- hk'];exact .inr zaq
    ·exact .inl e
   ·exact .inr (zaj _ h)
  ·rcases gA r _ _ h with h | h
   ·exact .inl h
   ·exact .inr (zaj _ h)
def fW:∀ (names:List (Str × NameKind)) (n:Nat) (acc:List (Str × Addr)) {p:Str × Addr},p∈acc->p∈cellsFrom n names acc
 | [],_,_,_,h=>h
 | (y,k) :: r,n,acc,p,h=>by
  unfold cellsFrom;split
  ·exact fW r _ _ (zaj _ h)
  ·exact fW r _ _ h
def gB:∀ (names:List (Str × NameKind)) (n:Nat) (acc:List (Str × Addr)) {x:Str},(x,NameKind.cell)∈names->∃ c,(x,c)∈cellsFrom n names acc
 | [],_,_,_,h=>by simp at h
 | (y,k) :: r,n,acc,x,h=>by
  unfold cellsFrom;rcases zay.mp h with e | e
  ·cases e;rw [if_pos (by rfl)];exact ⟨n,fW r _ _ zaq⟩
  ·split
   ·exact gB r _ _ e
   ·exact gB r _ _ e
def qB {α:Type}:∀ {a b:List (Str × α)} {x:Str} {c:α},(a++b).lookup x=some c->a.lookup x=some c\/(a.lookup x=none/\b.lookup x=some c)
 | [],_,_,_,h=>.inr ⟨rfl,h⟩
 | (n,v) :: r,b,x,c,h=>by
  rw [List.cons_append,zas] at h;rw [zas];cases e:x == n with
  | true=>rw [e] at h; exact .inl h
  | false=>rw [e] at h; exact qB h
def ku {α:Type}:∀ {a b:List (Str × α)} {x:Str} {c:α},a.lookup x=some c->(a++b).lookup x=some c
 | [],_,_,_,h=>by simp at h
 | (n,v) :: r,b,x,c,h=>by
  rw [List.cons_append,zas];rw [zas] at h;cases e:x == n with
  | true=>rw [e] at h; exact h
  | false=>rw [e] at h; exact ku h
def jE {α:Type}:∀ {a b:List (Str × α)} {x:Str} {c:α},a.lookup x=none->b.lookup x=some c->(a++b).lookup x=some c
 | [],_,_,_,_,h=>h
 | (n,v) :: r,b,x,c,hn,h=>by
  rw [List.cons_append,zas];rw [zas] at hn;cases e:x == n with
  | true=>rw [e] at hn; cases hn
  | false=>rw [e] at hn; exact jE hn h
def jC {env:Env}:∀ {names:List (Str × NameKind)} {x:Str},names.lookup x=some .cell ->
  (names.map fun (n,k)=>if (k == NameKind.free && env.scope.kind == .function && env.kindOf n == some .cell) then (n,NameKind.cell) else (n,k)).lookup x=some .cell
 | [],_,h=>by simp at h
 | (n,k) :: r,x,h=>by
  show List.lookup x ((if (k == NameKind.free && env.scope.kind == .function && env.kindOf n == some .cell)=true then (n,NameKind.cell) else (n,k)) :: _)=_;cases hx:x == n with
  | true =>
   simp only [zas,hx] at h;cases h;simp [zas,hx]
  | false =>
   simp only [zas,hx] at h;by_cases hc:(k == NameKind.free && env.scope.kind == .function && env.kindOf n == some .cell)=true
   ·rw [if_pos hc]; simp only [zas,hx]; exact jC h
   ·rw [if_neg hc]; simp only [zas,hx]; exact jC h
abbrev aO (X:Cx) (scope:Scope) (ns:List Str) (C:Addr) (cl:List (Str × Addr)) (s₀:Shared) (H₀:Hp) (fp:List Addr):Cx :=
 { X with N:=ns,s₀:=s₀,H₀:=H₀,env:=compEnvC scope cl C X.env,outer:=X.stack,ex:=fp,fn:=fun x=>scope.names.lookup x == some NameKind.cell,pn:=[],xe:=fun _ _=>False }
structure BlkOkC (X:Cx) (scope:Scope) (ns:List Str) (js:List (Option Nat)):Prop where
 kind:scope.kind=.function
 uniq:∀ y∈scope.names,y.2=.cell->scope.names.lookup y.1=some .cell
 names:∀ y∈scope.names,y.2=.local->scope.names.lookup y.1=some .local
 free:∀ y∈scope.names,y.2=.free->X.env.kindOf y.1=some .cell\/X.env.kindOf y.1=some .free
 nd:ns.Nodup
 len:js.length=ns.length
 out:∀ (i:Nat) (x:Str) (j:Nat),ns[i]?=some x->js[i]?=some (some j)->X.N[j]?=some x/\scope.names.lookup x=some .free
def lu (N:List Str) (sc scope:Scope) (ns:List Str) (js:List (Option Nat)):Bool :=
 decide (scope.kind=.function) && scope.names.all (fun y=>decide (y.2=.cell->scope.names.lookup y.1=some .cell)) && scope.names.all (fun y=>decide (y.2=.local->scope.names.lookup y.1=some .local)) &&
 scope.names.all (fun y=>decide (y.2=.free->sc.names.lookup y.1=some .cell\/sc.names.lookup y.1=some .free)) && decide ns.Nodup && decide (js.length=ns.length) &&
 (List.range ns.length).all (fun i=>match js[i]?,ns[i]? with
  | some (some j),some x=>decide (N[j]?=some x) && decide (scope.names.lookup x=some .free)
  | _,_=>true)
def sY {N:List Str} {scope:Scope} {ns:List Str} {js:List (Option Nat)} (h7:∀ i < ns.length,(match js[i]?,ns[i]? with
  | some (some j),some x=>decide (N[j]?=some x) && decide (scope.names.lookup x=some .free)
  | _,_=>true)=true) {i:Nat} {x:Str} {j:Nat} (e1:ns[i]?=some x) (e2:js[i]?=some (some j)):N[j]?=some x/\scope.names.lookup x=some .free:=by
 have q:=h7 i (zah.mp e1).1;rw [e1,e2] at q;simpa using q
def BlkOkC.of {X:Cx} {scope:Scope} {ns:List Str} {js:List (Option Nat)} {N0:List Str} {sc0:Scope} (hN:X.N=N0) (hS:X.env.scope=sc0) (h:lu N0 sc0 scope ns js=true):BlkOkC X scope ns js:=by
 unfold lu at h;simp only [Bool.and_eq_true,List.all_eq_true,decide_eq_true_eq,List.mem_range] at h;obtain ⟨⟨⟨⟨⟨⟨h1,h2⟩,h3⟩,h4⟩,h5⟩,h6⟩,h7⟩:=h;refine ⟨h1,fun y hy=>h2 y hy,fun y hy=>h3 y hy,fun y hy hk=>?_,h5,h6,fun i x j e1 e2=>?_⟩
 ·have q:=h4 y hy hk;rw [<- hS] at q;exact q
 ·rw [hN];exact sY h7 e1 e2
section
variable {M:Model} {A:Around} {E:Value->Shared->Prop} {s:Shared}
def ir {scope:Scope} {globals:Addr} {closure:List (Str × Addr)} {qual:Str} {outer:Env} {builtins:Addr} {Q:Env->Shared->Prop}
  (hQ:Q (newEnv scope s.heap.objs.size globals (cellsFrom (s.heap.objs.size+1) scope.names closure) qual none .none (some outer) builtins) { s with heap:=pushCells (s.heap.push { cls:=.type "dict",data:=.dict #[] }) scope.names }) :
  wpAny M A (newFunctionEnv scope globals closure [] qual none .none (some outer) builtins) Q E s:=by
 simp only [newFunctionEnv,Option.isSome_some,if_true];refine zam (wpAny_alloc ?_);refine zam (wpAny_layCells _ (fun name kind cells=>by cases hkc:kind == NameKind.cell <;> simp [hkc]) _ _ _ _ ?_);rw [show ({ s with heap:=s.heap.push { cls:=.type "dict",data:=.dict #[] } }:Shared).heap.objs.size=s.heap.objs.size+1 from Heap.size_push ..];rw [List.forIn_nil];exact zam (zaT (zaT hQ))
end
section
variable {X:Cx} {elt tg iter:Expr} {ifs:List Expr} {scope:Scope} {pos:Pos} {ns:List Str} {js:List (Option Nat)} {wi:TI} {g:TG} {tt:TT} {te:TE}
def yd {pins:List (Addr × Obj)} {s3:Shared} {σ:St} {H3:Hp} {fp:List Addr} {h₁:Heap} {tk:Nat} (B:BlkOkC X scope ns js) (I3:Inv X pins σ H3 s3)
  (f3:∀ b∈fp,il X pins H3 b) (lt3:∀ b∈fp,b < s3.heap.objs.size) (hns:h₁.Ns s3.heap.objs.size (fun _=>none)) (old:∀ b u,s3.heap.get? b=some u->h₁.get? b=some u)
  (cok:CellsOk h₁ (s3.heap.objs.size+1) (cellsFrom (s3.heap.objs.size+1) scope.names [])) :
  Inv (aO X scope ns s3.heap.objs.size (cellsFrom (s3.heap.objs.size+1) scope.names (dI X.env scope.names)) s3 H3 fp) [] (eP js σ) H3 { s3 with heap:=h₁,toks:=tk }:=by
 rw [eK];have hmem:∀ {x:Str} {c:Addr},(x,c)∈cellsFrom (s3.heap.objs.size+1) scope.names []->scope.names.lookup x=some .cell:=fun {x c} h=>by
  rcases gA _ _ _ h with h | h
  ·simp at h
  ·exact B.uniq _ h rfl
 have hhas:∀ {x:Str},scope.names.lookup x=some .cell->∃ c,(cellsFrom (s3.heap.objs.size+1) scope.names []).lookup x=some c:=fun {x} h=>by
  obtain ⟨c,hc⟩:=gB scope.names (s3.heap.objs.size+1) [] (zaU h);exact gz hc
 generalize cellsFrom (s3.heap.objs.size+1) scope.names []=CS at cok hmem hhas;have has:∀ y∈scope.names,y.2=.free->∃ c,X.env.cells.lookup y.1=some c:=fun y hy hk=>I3.ok.has y.1 (B.free y hy hk);have look:∀ {n:Str} {c:Addr},(CS++dI X.env scope.names).lookup n=some c->(CS.lookup n=some c/\h₁.IsCell c none/\s3.heap.objs.size+1<=c)\/(CS.lookup n=none/\X.env.cells.lookup n=some c/\c < s3.heap.objs.size):=fun {n c} e=>by
  rcases qB e with e | ⟨e1,e2⟩
  ·exact .inl ⟨e,cok.empty n c (zaU e)⟩
  ·have e3:=pc has e2;obtain ⟨v,hv⟩:=I3.cell n c e3;exact .inr ⟨e1,e3,hv.lt⟩
 refine ⟨⟨I3.ok.mod,B.kind,I3.ok.glob,I3.ok.blt,zav _,fun y z c h1 h2=>?_,fun y hy=>?_,fun y c hf h=>?_,I3.ok.hd,I3.ok.frames,.inl rfl,fun b hb=>?_,I3.bs,zau I3.ok.bsz I3.sz,
   fun b o e hb=>?_,fun b hb z=>?_,I3.stack,I3.stkFree⟩,
  rfl,I3.bare,Un.kept old,⟨_,hns,fun i x v h1 h2 h3=>?_⟩,fun y c h=>?_,I3.fresh,fun y c h=>?_,fun p hp=>absurd (show p∈([]:List (Addr × Obj)) from hp) (by simp),I3.hok.kept old,?_⟩
 ·rcases look h1 with ⟨a1,_,a3⟩ | ⟨_,a2,a3⟩ <;> rcases look h2 with ⟨b1,_,b3⟩ | ⟨_,b2,b3⟩
  ·exact name_of_addr cok.apart (zaU a1) (zaU b1)
  ·exact absurd (zag (zag b3 (Nat.le_succ _)) a3) (zaI _)
  ·exact absurd (zag (zag a3 (Nat.le_succ _)) b3) (zaI _)
  ·exact I3.ok.inj y z c a2 b2
 ·have hf:scope.names.lookup y=some .cell\/scope.names.lookup y=some .free:=by
   rcases hy with hy | hy
   ·rcases jA (env:=X.env) hy with q | q
    ·exact .inl q
    ·exact .inr q.1
   ·rcases jA (env:=X.env) hy with q | q
    ·exact .inr q
    ·exact .inr q.1
  show ∃ c,(CS++dI X.env scope.names).lookup y=some c;rcases hf with hf | hf
  ·obtain ⟨c,hc⟩:=hhas hf;exact ⟨c,ku hc⟩
  ·obtain ⟨c,hc⟩:=rj (env:=X.env) (zaU hf);cases e:CS.lookup y with
   | none=>exact ⟨c,jE e hc⟩
   | some d=>exact ⟨d,ku e⟩
 ·rcases look h with ⟨_,_,a3⟩ | ⟨a1,_,_⟩
  ·show s3.heap.objs.size<=c;omega
  ·have hf':(scope.names.lookup y == some NameKind.cell)=true:=hf;obtain ⟨d,hd⟩:=hhas (by simpa using hf');rw [a1] at hd;cases hd
 ·refine ⟨zaw (lt3 b hb),fun x c e=>?_⟩;rcases look e with ⟨_,_,a3⟩ | ⟨_,a2,_⟩
  ·have:=lt3 b hb;intro z;subst z;exact zaI _ (zag (zag this (Nat.le_succ _)) a3)
  ·exact (f3 b hb).2.2.2.2.1 x c a2
 ·rcases (f3 b hb).2.2.2.1 with z | z
  ·exact I3.ok.noex b o e z
  ·exact absurd (zag (zag (zal e) I3.ok.bsz) z) (zaI _)
 ·rcases zay.mp (I3.stkSub b z) with q | q
  ·exact (f3 b hb).2.1 q
  ·exact (f3 b hb).2.2.1 q
 ·have h2':(js.map fun j=>match j with | some j=>(σ[j]?).join | none=>none)[i]?=some (some v):=h2;rw [zao] at h2';obtain ⟨j,hj,hσ⟩:∃ j,js[i]?=some (some j)/\σ[j]?=some (some v):=by
   cases e:js[i]? with
   | none=>rw [e] at h2'; simp at h2'
   | some oj =>
    rw [e] at h2';cases oj with
    | none=>simp at h2'
    | some j =>
     refine ⟨j,rfl,?_⟩;have q:(σ[j]?).join=some v:=by simpa using h2'
     cases e2:σ[j]? with
     | none=>rw [e2] at q; simp at q
     | some ov =>
      rw [e2] at q;simp at q;rw [q]
  obtain ⟨hN,hfr⟩:=B.out i x j h1 hj;have hf:=B.free (x,.free) (zaU hfr) rfl;have hf':X.env.kindOf x=some .cell\/X.env.kindOf x=some .free:=hf;obtain ⟨m,hn,hl⟩:=I3.loc;obtain ⟨u,r,l⟩:=hl j x v hN hσ (by
   rcases hf' with z | z
   ·exact .inr (.inl z)
   ·exact .inr (.inr z))
  refine ⟨u,r,?_⟩;rcases l with ⟨hk,_⟩ | ⟨hk,c,hc,hcell⟩
  ·rcases hf' with z | z
   ·rw [z] at hk; cases hk
   ·rw [z] at hk; cases hk
  ·obtain ⟨c',hc'⟩:=rj (env:=X.env) (zaU hfr);have e':=pc has hc';rw [hc] at e';cases e';obtain ⟨o,ho,hd⟩:=hcell;have hno:CS.lookup x=none:=by
    cases e:CS.lookup x with
    | none=>rfl
    | some d =>
     have q:=hmem (zaU e);rw [hfr] at q;cases q
   exact .inr ⟨jB (env:=X.env) hfr,c,jE hno hc',⟨o,old c o ho,hd⟩⟩
 ·rcases look h with ⟨_,a2,_⟩ | ⟨_,a2,_⟩
  ·exact ⟨_,a2⟩
  ·obtain ⟨v,o,ho,hd⟩:=I3.cell y c a2;exact ⟨v,o,old c o ho,hd⟩
 ·rcases look h with ⟨_,_,a3⟩ | ⟨_,a2,_⟩
  ·exact I3.hok.fresh (by omega)
  ·exact I3.freeC y c a2
 ·show (js.map _).length=ns.length;rw [zad];exact B.len
def qE {pins:List (Addr × Obj)} {s2:Shared} {σ:St} {H2:Hp} {Qv:VK} {J:It} {fp:List Addr} {it:Addr} {tn:Nat->Heap->Prop} {RR:Value->Addr->Result->Shared->Prop}
  (B:BlkOkC X scope ns js) (hc:X.calm=true) (I2:Inv X pins σ H2 s2) (T:Turn X.prog X.w X.K tg J fp it tn) (st2:tn 0 s2.heap) (f2:∀ b∈fp,il X pins H2 b)
  (hg:∀ C cl s₀ H₀ fp,PG (aO X scope ns C cl s₀ H₀ fp) tg g) (ht:∀ C cl s₀ H₀ fp,PTs (aO X scope ns C cl s₀ H₀ fp) ifs tt) (he:∀ C cl s₀ H₀ fp,PE (aO X scope ns C cl s₀ H₀ fp) elt te)
  (hw:∀ D,H2 D=none->D2 J g tt te (eP js σ) H2 D Qv)
  (hRR:∀ D C s' H',Inv X pins σ H' s'->Qv (.ref D) H'->(∃ m,s'.heap.Ns C m)->H' C=none->C≠X.env.locals->X.s₀.heap.objs.size<=C->(∀ x c,X.env.cells.lookup x=some c->c≠C)->(∀ p∈X.pn++pins,p.1≠C)->RR (.ref D) C (.ok .next) s') :
  wpAny (model X.prog X.w) X.A (newList []) (fun acc s₃=>wpAny (model X.prog X.w) X.A (newFunctionEnv scope X.env.globals (dI X.env scope.names) [] X.env.qual none .none (some X.env)) (fun cenv s₄ =>
   codeAny (model X.prog X.w) X.A (.compStart (.ListComp elt [⟨tg,iter,ifs,0⟩] scope pos) 0 (.ref it) acc { cenv with scope:=relabel scope X.env }) (RR acc cenv.locals) s₄) X.xe s₃) X.xe s2:=by
 refine wpAny_newObj_type (ir ?_)
 dsimp only
 have I3:Inv X pins σ (upd H2 s2.heap.objs.size (.lst [])) { s2 with heap:=s2.heap.push { cls:=.type "list",data:=.seq ([]:List Value).toArray },toks:=s2.toks }:=I2.lnew .nil (Nat.zero_le _);generalize hs3:({ s2 with heap:=s2.heap.push { cls:=.type "list",data:=.seq ([]:List Value).toArray },toks:=s2.toks }:Shared)=s3 at I3;have e3:s3.heap=s2.heap.push { cls:=.type "list",data:=.seq ([]:List Value).toArray }:=by rw [<- hs3]
 have k3:∀ b u,s2.heap.get? b=some u->s3.heap.get? b=some u:=fun b u e=>by rw [e3]; exact zaf _ e
 have sz3:s3.heap.objs.size=s2.heap.objs.size+1:=by rw [e3,Heap.size_push]
 have hD:H2 s2.heap.objs.size=none:=I2.fresh;obtain ⟨h₁,hh₁⟩:∃ h₁,h₁=pushCells (s3.heap.push { cls:=.type "dict",data:=.dict #[] }) scope.names:=⟨_,rfl⟩;have old:∀ b u,s3.heap.get? b=some u->h₁.get? b=some u:=fun b u e=>by
  rw [hh₁];exact pushCells_keeps _ _ b u (zaf _ e)
 have hns:h₁.Ns s3.heap.objs.size (fun _=>none):=by
  rw [hh₁];exact (Heap.Ns.new s3.heap (.type "dict")).keeps (pushCells_keeps _ _)
 have cok:CellsOk h₁ (s3.heap.objs.size+1) (cellsFrom (s3.heap.objs.size+1) scope.names []):=by
  have q:=cellsFrom_ok scope.names (s3.heap.push { cls:=.type "dict",data:=.dict #[] }) (s3.heap.objs.size+1) [] ⟨fun _ _ hm=>(nomatch hm),List.Pairwise.nil⟩ (by rw [Heap.size_push]; exact zav _);rw [Heap.size_push,<- hh₁] at q;exact q
 have obj2:∀ b∈fp,b < s2.heap.objs.size:=fun b hb=>let ⟨o,e,_⟩:=T.obj 0 _ st2 b hb; zal e;have f3:∀ b∈fp,il X pins (upd H2 s2.heap.objs.size (.lst [])) b:=fun b hb=>⟨by rw [aC (zaw (obj2 b hb))]; exact (f2 b hb).1,(f2 b hb).2⟩;have lt3:∀ b∈fp,b < s3.heap.objs.size:=fun b hb=>by rw [sz3]; exact Nat.lt_succ_of_lt (obj2 b hb)
 obtain ⟨W,⟨m0,w0⟩,turn⟩:=hw _ hD;have J0:=fun tk=>yd (tk:=tk) B I3 f3 lt3 hns old cok;have has:∀ y∈scope.names,y.2=.free->∃ c,X.env.cells.lookup y.1=some c:=fun y hy hk=>I2.ok.has y.1 (B.free y hy hk);have stat:∀ {H':Hp},(∀ b∈fp,H' b=none)->∀ b∈fp,il (aO X scope ns s3.heap.objs.size (cellsFrom (s3.heap.objs.size+1) scope.names (dI X.env scope.names)) s3 (upd H2 s2.heap.objs.size (.lst [])) fp) [] H' b:=fun hn b hb =>
  ⟨hn b hb,zaw (lt3 b hb),(J0 0).ok.exfs b hb,.inl hb,fun x c e=>(J0 0).ok.exf b hb |>.2 x c e,fun p hp=>absurd (show p∈([]:List (Addr × Obj)) from hp) (by simp)⟩
 have fin:∀ {τ:St} {H':Hp} {s':Shared},Inv (aO X scope ns s3.heap.objs.size (cellsFrom (s3.heap.objs.size+1) scope.names (dI X.env scope.names)) s3 (upd H2 s2.heap.objs.size (.lst [])) fp) [] τ H' s'->Qv (.ref s2.heap.objs.size) H'->RR (.ref s2.heap.objs.size) s3.heap.objs.size (.ok .next) s':=fun {τ H' s'} I6 q=>by
  have u1:Un (frs X.stack) fp H2 (upd H2 s2.heap.objs.size (.lst [])) s2.heap s3.heap:=Un.laid k3 (zav _) hD;have os3:s3.os=s2.os:=by rw [<- hs3]
  have I7:Inv X pins σ H' s':=I2.call' (ch:=fp) (I6.os.trans os3) (u1.trans I6.base) I6.hok I6.bare fun b hb=>⟨(f2 b hb).2.2.2.1,(f2 b hb).2.1,(f2 b hb).2.2.2.2.1,(f2 b hb).2.2.2.2.2⟩;have le2:s2.heap.objs.size<=s3.heap.objs.size:=by rw [sz3]; exact Nat.le_succ _
  refine hRR _ _ s' H' I7 q ?_ I6.free (Nat.ne_of_gt (zag I2.lt le2)) (zau I2.sz le2) (fun x c e z=>?_) fun p hp z=>?_
  ·obtain ⟨m,hn,_⟩:=I6.loc;exact ⟨m,hn⟩
  ·obtain ⟨v,hv⟩:=I2.cell x c e;exact absurd (zag hv.lt (by rw [z]; exact le2)) (zaI _)
  ·exact absurd (zag (zal (I2.pin p hp).1) (by rw [z]; exact le2)) (zaI _)
 rw [<- e3,<- hh₁];have loop:∀ tk,codeAny (model X.prog X.w) X.A (.compLoop (.ListComp elt [⟨tg,iter,ifs,0⟩] scope pos) 0 (.ref it) (.ref s2.heap.objs.size) (compEnvC scope (cellsFrom (s3.heap.objs.size+1) scope.names (dI X.env scope.names)) s3.heap.objs.size X.env))
   (RR (.ref s2.heap.objs.size) s3.heap.objs.size) { s3 with heap:=h₁,toks:=tk }:=fun tk=>by
  refine codeAny_loop rfl (fun n s'=>∃ i τ H',Inv (aO X scope ns s3.heap.objs.size (cellsFrom (s3.heap.objs.size+1) scope.names (dI X.env scope.names)) s3 (upd H2 s2.heap.objs.size (.lst [])) fp) [] τ H' s'/\tn i s'.heap/\(∀ b∈fp,H' b=none)/\W i n τ H') (fun n s5 hI=>?_) m0
   ⟨0,_,_,J0 tk,T.keep _ _ _ st2 fun b _ o e=>old b o (k3 b o e),fun b hb=>(f3 b hb).1,w0⟩
  obtain ⟨i,τ,H5,I5,st5,fr5,w5⟩:=hI;show wpAny _ X.A ((compTurn (.ListComp elt [⟨tg,iter,ifs,0⟩] scope pos) 0 (.ref it) (.ref s2.heap.objs.size) (compEnvC scope (cellsFrom (s3.heap.objs.size+1) scope.names (dI X.env scope.names)) s3.heap.objs.size X.env)).onRaise (fun x=>do noteFrame x (compEnvC scope (cellsFrom (s3.heap.objs.size+1) scope.names (dI X.env scope.names)) s3.heap.objs.size X.env); theTreesLotGoes x)) _ _ s5;refine wpAny_noted ?_;rw [compTurn_list];refine zam (wpAny_standAt (zam ?_));rcases turn i n τ H5 w5 with ⟨stop,qn⟩ | ⟨go,N,hN,step⟩
  ·refine thn (T.done (aO X scope ns s3.heap.objs.size (cellsFrom (s3.heap.objs.size+1) scope.names (dI X.env scope.names)) s3 (upd H2 s2.heap.objs.size (.lst [])) fp) rfl rfl rfl hc i [] s5 τ H5 _ I5 (stat fr5) st5 stop) fun r s6 ⟨hr,I6⟩=>?_;subst hr;exact zaT (fin I6 qn)
  ·refine thn (T.item (aO X scope ns s3.heap.objs.size (cellsFrom (s3.heap.objs.size+1) scope.names (dI X.env scope.names)) s3 (upd H2 s2.heap.objs.size (.lst [])) fp) rfl rfl rfl hc i [] s5 τ H5 _ I5 (stat fr5) st5 go) fun r s6 ⟨u,hr,h6⟩=>?_;subst hr
   dsimp only
   refine zam (thn h6 fun _ s7 ⟨x,H7,I7,r7,y7,st7,fr7⟩=>?_);have I7':=I7.pinned (stat fr7) (T.obj _ _ st7);have back:∀ {τ9:St} {H9:Hp} {s9:Shared},Inv (aO X scope ns s3.heap.objs.size (cellsFrom (s3.heap.objs.size+1) scope.names (dI X.env scope.names)) s3 (upd H2 s2.heap.objs.size (.lst [])) fp) ([]++kq fp s7.heap) τ9 H9 s9 ->
     Inv (aO X scope ns s3.heap.objs.size (cellsFrom (s3.heap.objs.size+1) scope.names (dI X.env scope.names)) s3 (upd H2 s2.heap.objs.size (.lst [])) fp) [] τ9 H9 s9/\tn (i+1) s9.heap/\∀ b∈fp,H9 b=none:=fun {τ9 H9 s9} I9=>by
    refine ⟨I9.unpinned,T.keep _ _ _ st7 fun b hb o e=>(I9.pin (b,o) (List.mem_append_right _ (List.mem_append_right _ (gK hb e)))).1,fun b hb=>?_⟩;obtain ⟨o,e,d⟩:=T.obj _ _ st7 b hb;exact (I9.pin (b,o) (List.mem_append_right _ (List.mem_append_right _ (gK hb e)))).2.1
   refine zam (thF (hg _ _ _ _ _ _ s7 τ H7 x u _ I7' r7 (step x H7 y7)) fun _ s8 ⟨τ8,H8,I8,q8⟩=>?_);refine zam (thF (ht _ _ _ _ _ _ s8 τ8 H8 _ I8 q8) fun b s9 ⟨H9,I9,q9⟩=>?_);cases b with
   | false =>
    rw [if_neg Bool.false_ne_true] at q9;obtain ⟨m',hm,w9⟩:=hN _ _ q9;obtain ⟨a1,a2,a3⟩:=back I9;exact zaT ⟨rfl,m',hm,i+1,τ8,H9,a1,a2,a3,w9⟩
   | true =>
    rw [if_pos rfl] at q9;refine zam (zam (thF (he _ _ _ _ _ _ s9 τ8 H9 _ I9 q9) fun v s10 ⟨y,H10,I10,r10,q10⟩=>?_));obtain ⟨xs,hx,hz,n10⟩:=q10;obtain ⟨m',hm,w10⟩:=hN _ _ n10;refine zam (thF (oS _ s10 τ8 H10 (.ref s2.heap.objs.size) [y] (.ref s2.heap.objs.size) [v] (fun _ H11=>W (i+1) m' τ8 H11) I10 rfl (.cons r10 .nil) ⟨_,xs,y,rfl,rfl,hx,hz,w10⟩) fun _ s11 ⟨_,H11,I11,_,q11⟩=>?_);obtain ⟨a1,a2,a3⟩:=back I11;exact zaT (zaT ⟨rfl,m',hm,i+1,τ8,H11,a1,a2,a3,q11⟩)
 have hst1:tn 0 h₁:=T.keep _ _ _ st2 fun b _ o e=>old b o (k3 b o e);subst hs3;exact codeAny_compStart_list (loop _) (T.self _ 0 _ _ _ hst1 (loop _))
def vh (B:BlkOkC X scope ns js) (hc:X.calm=true) (hi:PI X tg iter wi)
  (hg:∀ C cl s₀ H₀ fp,PG (aO X scope ns C cl s₀ H₀ fp) tg g) (ht:∀ C cl s₀ H₀ fp,PTs (aO X scope ns C cl s₀ H₀ fp) ifs tt) (he:∀ C cl s₀ H₀ fp,PE (aO X scope ns C cl s₀ H₀ fp) elt te)
  (hs:∀ x,foldedSetIterable iter X.env x=pure x:=by intro _; rfl):PE X (.ListComp elt [⟨tg,iter,ifs,0⟩] scope pos) (tLC wi g tt te js):=by
 intro pins s σ H Q I h;rw [eval_ListComp];have hclos:=nr (scope:=scope) (env:=X.env) (fun y hy hk=>I.ok.has y.1 (B.free y hy hk));refine wpAny_comprehension_free (use:=none) rfl hs hclos B.kind B.names (thn (hi pins s σ H _ I h) fun v s1 h1=>thn h1 fun itv s2 h2=>?_);obtain ⟨it,fp,tn,J,H2,e,I2,T,st2,f2,hw⟩:=h2;subst e;refine qE (RR:=fun acc C=>compPost (model X.prog X.w) X.A X.xe none (EP X pins σ Q) acc C) B hc I2 T st2 f2 hg ht he hw ?_;intro D C s' H' I' q hm c0 c1 c2 c3 c4;obtain ⟨m,hn⟩:=hm;exact ⟨m,hn,fun h' hs'=>⟨.ref D,H',I'.turned (t':=s'.toks) (fun b o hb e=>(hs'.2 b hb).trans e) c0 c1 (.inr c2) c3 c4,rfl,q⟩⟩
def vd {i:Nat} {x:Str} {spos pos':Pos} (hN:X.N.Nodup) (hi':X.N[i]?=some x) (hx:X.env.scope.names.lookup x=some .local) (B:BlkOkC X scope ns js) (hc:X.calm=true) (hi:PI X tg iter wi)
  (hg:∀ C cl s₀ H₀ fp,PG (aO X scope ns C cl s₀ H₀ fp) tg g) (ht:∀ C cl s₀ H₀ fp,PTs (aO X scope ns C cl s₀ H₀ fp) ifs tt) (he:∀ C cl s₀ H₀ fp,PE (aO X scope ns C cl s₀ H₀ fp) elt te)
  (hsw:swapsWith (.ListComp elt [⟨tg,iter,ifs,0⟩] scope pos) (some (.Name x pos')) spos.line X.env=pure true:=by rfl)
  (hs:∀ x,foldedSetIterable iter X.env x=pure x:=by intro _; rfl):PS X (.Assign [.Name x pos'] (.ListComp elt [⟨tg,iter,ifs,0⟩] scope pos) spos) (p8 (tLC wi g tt te js) (m8 i)):=by
 intro pins s σ H D I h;rw [exec_Assign_Name_used _ _ _ _ hsw];have hclos:=nr (scope:=scope) (env:=X.env) (fun y hy hk=>I.ok.has y.1 (B.free y hy hk));refine zam (wpAny_standAt (zam ?_));show wpAny _ X.A (do let _ <- comprehension (.ListComp elt [⟨tg,iter,ifs,0⟩] scope pos) scope X.env _ (newList []) false (eval iter X.env) (some (assign (.Name x pos') X.env))) _ _ s;refine zam (wpAny_mono (wpAny_comprehension_free (use:=some (assign (.Name x pos') X.env)) (Q:=fun _ s'=>SP X pins D .next s') rfl hs hclos B.kind B.names
  (thn (hi pins s σ H _ I h) fun v s1 h1=>thn h1 fun itv s2 h2=>?_)) (fun _ s' hq=>zaT (zaT hq)) fun _ _ e=>e)
 obtain ⟨it,fp,tn,J,H2,e,I2,T,st2,f2,hw⟩:=h2;subst e;refine qE (RR:=fun acc C=>compPost (model X.prog X.w) X.A X.xe (some (assign (.Name x pos') X.env)) (fun _ s'=>SP X pins D .next s') acc C) B hc I2 T st2 f2 hg ht he hw ?_;intro D' C s' H' I' q hm c0 c1 c2 c3 c4;obtain ⟨m,hn⟩:=hm;show wpAny _ X.A (assign (.Name x pos') X.env (.ref D')) _ _ _;refine wpAny_assign_Name (kj (v:=.ref D') I' hN hi' (.inl hx) rfl (fun s4 I4 ⟨a,hsb,ha⟩=>?_) (.inr hx));have ne:C≠a:=by
  rcases ha with z | z
  ·rw [z]; exact c1
  ·exact (c3 x a z).symm
 exact ⟨m,hn.sameBut hsb ne,fun h' hs'=>⟨_,H',I4.turned (t':=s4.toks) (fun b o hb e=>(hs'.2 b hb).trans e) c0 c1 (.inr c2) c3 c4,q⟩⟩
end
section
variable {X:Cx} {K:PySem.W.Frag}
def Kh:R2:=fun x y H Q=>∃ z n,x=.str z/\y=.int n/\z.length<=4000/\-(2 ^ 63)<=n/\n<=4000/\Q (.str (Txt.mul z n)) H
def op_mulS:OpR X (binaryOp .Mult) Kh:=by
 intro pins s σ H x y v u Q I rx ry h;obtain ⟨z,n,rfl,rfl,hz,h0,h1,q⟩:=h;obtain ⟨t,rfl⟩:=rx;obtain ⟨t2,rfl⟩:=ry;exact SB.mul (mulOk_of 4000 4000 hz h1 h0 (by decide) (by decide)) fun t' k=>⟨.str _,H,I.tok _,⟨_,rfl⟩,q⟩
def lH (ns:List Int):∀ k,k<=ns.length->preSum (fun i=>ns.getD i 0) k=(ns.take k).sum
 | 0,_=>rfl
 | k+1,h=>by
  show preSum (fun i=>ns.getD i 0) k+ns.getD k 0=_;rw [lH ns k (by omega),PyProof.Rows.take_sum_succ ns k (by omega)]
end
mutual
def DV (H:Hp):V->PyData->Prop
 | v,.none=>v=.non
 | v,.bool b=>v=.bl b
 | v,.int i=>v=.int i
 | v,.str x=>v=.str x
 | v,.list ds=>∃ a xs,v=.ref a/\H a=some (.lst xs)/\DVs H xs ds
 | v,.tuple ds=>∃ a xs,v=.ref a/\H a=some (.tup xs)/\DVs H xs ds
 | _,.dict _=>False
def DVs (H:Hp):List V->List PyData->Prop
 | vs,[]=>vs=[]
 | vs,d :: ds=>∃ v r,vs=v :: r/\DV H v d/\DVs H r ds
end
section
variable {X:Cx} {pins:List (Addr × Obj)} {σ:St} {H:Hp} {s:Shared}
end
section
variable {X:Cx}
end
section
variable {prog:Program} {w:World} {A:Around} {E:Value->Shared->Prop} {s:Shared}
def tL {jt tu:Addr} {n:Nat} {vals:Array Value} {y:Value} {R:Value->Shared->Prop} (a1:s.heap.IsTupleIter jt tu n) (a2:s.heap.IsTuple tu vals) (a3:vals[n]?=some y)
  (q:∀ g,g.IsTupleIter jt tu (n+1)->Heap.SameBut jt s.heap g->R y { s with heap:=g }):wpAny (model prog w) A (Builtin.SmallTypes.nextOf (.ref jt)) R E s:=by
 obtain ⟨ob,b1,b2,b3⟩:=id a1;obtain ⟨ot,c1,_,m,c2⟩:=a2;unfold Builtin.SmallTypes.nextOf;refine zam (wpAny_callSpecial?_slot (name:=Str.ofString "__next__") a1.typeIs F.slot_tuple_iterator_next (wpAny_call_entry F.slot_tuple_iterator_next a1.typeIs F.entry_tuple_iterator_next ?_ (F.args_tuple_iterator_next_1 _)));show wpAny _ _ (field (.ref jt) 0 >>= _) _ _ s;refine zam (wpAny_field b1 b3 (x:=.ref tu) rfl ?_);show wpAny _ _ (if (Value.ref tu == Value.none)=true then _ else _) _ _ s;rw [if_neg (show ¬ ((Value.ref tu == Value.none)=true) from Bool.false_ne_true)];show wpAny _ _ (field (.ref jt) 1 >>= _) _ _ s;refine zam (wpAny_field b1 b3 (x:=.int n 0) rfl ?_);show wpAny _ _ (seqItems? (.ref tu) >>= _) _ _ s;refine zam (wpAny_seqItems c1 c2 ?_);simp only [zaL,a3];refine zam (wpAny_setField b1 b3 (by simp) (zaT ⟨y,rfl,zaT (q _ ?_ (Heap.SameBut.update ..))⟩));refine ⟨_,Heap.get?_update_self _ b1 (Obj.isFreed_of_fields (Obj.data_mapFields b3 _)),(Obj.cls_mapFields ..).trans b2,?_⟩;rw [Obj.data_mapFields b3];simp [rawInt]
def oO {jt tu:Addr} {n:Nat} {vals:Array Value} {R:Value->Shared->Prop} (hh:A.handled=none) (a1:s.heap.IsTupleIter jt tu n) (a2:s.heap.IsTuple tu vals) (a3:vals[n]?=none)
  (q:∀ g e,Heap.ExtBut jt s.heap g->(∃ o,g.get? e=some o/\o.cls=.type "StopIteration")->E (.ref e) { s with heap:=g }):wpAny (model prog w) A (Builtin.SmallTypes.nextOf (.ref jt)) R E s:=by
 obtain ⟨ob,b1,b2,b3⟩:=id a1;obtain ⟨ot,c1,_,m,c2⟩:=a2;unfold Builtin.SmallTypes.nextOf;refine zam (wpAny_callSpecial?_slot (name:=Str.ofString "__next__") a1.typeIs F.slot_tuple_iterator_next (wpAny_call_entry F.slot_tuple_iterator_next a1.typeIs F.entry_tuple_iterator_next ?_ (F.args_tuple_iterator_next_1 _)));show wpAny _ _ (field (.ref jt) 0 >>= _) _ _ s;refine zam (wpAny_field b1 b3 (x:=.ref tu) rfl ?_);show wpAny _ _ (if (Value.ref tu == Value.none)=true then _ else _) _ _ s;rw [if_neg (show ¬ ((Value.ref tu == Value.none)=true) from Bool.false_ne_true)];show wpAny _ _ (field (.ref jt) 1 >>= _) _ _ s;refine zam (wpAny_field b1 b3 (x:=.int n 0) rfl ?_);show wpAny _ _ (seqItems? (.ref tu) >>= _) _ _ s;refine zam (wpAny_seqItems c1 c2 ?_);simp only [zaL,a3];refine zam (wpAny_rule (zam (wpAny_setField b1 b3 (by simp) ?_)));show wpAny _ _ (newExc (.type "StopIteration") [] >>= _) _ _ _;refine zam ?_;simp only [newExc,newTuple];refine zam (wpAny_newObj_type ?_ (by show (0:Nat)<=_; exact Nat.zero_le _));refine zam (m:=firstArgMember _ _) (wpAny_of_eq (a:=Value.none) (by first | rfl | (simp only [firstArgMember]; rfl)) ?_);refine wpAny_newObj_type ?_;simp only [raiseNew];refine zam (wpAny_handled ?_)
 first | rw [show A.in1.handled=none from hh] | rw [hh]
 refine zam (zaT (wpAny_throw ?_));exact q _ _ (((Heap.SameBut.update ..).extBut.push _).push _) ⟨_,zan _ rfl,rfl⟩
def we (hh:A.handled=none) (jt tu:Addr) (hne:tu≠jt) (vals:Array Value):Draws prog w A jt [jt,tu] vals.size (fun i v=>vals[i]?=some v) (fun i h=>h.IsTupleIter jt tu i/\h.IsTuple tu vals) where
 live:=fun _ _ st=>let ⟨o,ho,_⟩:=st.1; ⟨o,ho⟩
 frame:=fun _ _ _ st hk=>⟨st.1.at fun o e=>hk jt (by simp) o e,let ⟨o,ho,r⟩:=st.2; ⟨o,hk tu (by simp) o ho,r⟩⟩
 item:=fun i s Q E hi st hQ=>by
  refine tL st.1 st.2 (y:=vals[i]) (by simp [hi]) fun g st' sb=>?_;exact hQ _ g s.toks (by simp [hi]) ⟨st',let ⟨o,ho,r⟩:=st.2; ⟨o,sb.extBut _ _ hne ho,r⟩⟩ sb
 done:=fun s Q E st hE=>oO hh st.1 st.2 (by simp) hE
end
def n6 (tu:Addr) (vals:Array Value) (n:Nat) (dct:Option Addr) (sl:Array (Option Value)) :
  Meets (Builtin.«enumerate.__new__» ⟨[.type "enumerate",.ref tu],[]⟩) (fun _ R s=>s.heap.get? tu=some { cls:=.type "tuple",dict:=dct,data:=.seq vals n,slots:=sl } /\
   R (.ok (.ret (.ref (s.heap.push { cls:=.type "tuple_iterator",data:=.fields #[.ref tu,.int 0 0] }).objs.size)))
    { s with heap:=(s.heap.push { cls:=.type "tuple_iterator",data:=.fields #[.ref tu,.int 0 0] }).push { cls:=.type "enumerate",data:=.fields #[.none,.bool false,.ref s.heap.objs.size,rawInt 0,.none,.none] } }) :=
 .of_wp fun prog w A R s h=>by
  obtain ⟨hp,g,d,tk,os⟩:=s;obtain ⟨ht,h⟩:=h;have hsub:=sub_enumerate;have hT:Heap.IsTuple (Shared.heap ⟨hp,g,d,tk,os⟩) tu vals:=⟨_,ht,rfl,n,rfl⟩
  wp_walk using AutoSeq1.wpAny_loadPart' ht
  refine wpAny_stack_any fun st=>zaT ?_;split
  ·rename_i c _ _ _ _ _;cases (c == Value.type "enumerate")
   ·wp_walk using AutoSeq1.wpAny_loadPart' ht,wpAny_pyIter_tuple hT
    exact ⟨_,rfl,h⟩
   ·wp_walk using AutoSeq1.wpAny_loadPart' ht,wpAny_pyIter_tuple hT
    exact ⟨_,rfl,h⟩
  ·wp_walk using AutoSeq1.wpAny_loadPart' ht,wpAny_pyIter_tuple hT
   exact ⟨_,rfl,h⟩
section
variable {prog:Program} {w:World} {A:Around} {E:Value->Shared->Prop} {s:Shared}
def pG {tu:Addr} {vals:Array Value} {Q:Value->Shared->Prop} (hT:s.heap.IsTuple tu vals)
  (h:∀ g,IsEnum g (s.heap.objs.size+1) s.heap.objs.size 0 .none->g.IsTupleIter s.heap.objs.size tu 0->g.objs.size=s.heap.objs.size+2 ->
   (∀ b o,s.heap.get? b=some o->g.get? b=some o)->Q (.ref (s.heap.objs.size+1)) { s with heap:=g }) :
  wpAny (model prog w) A (call (.type "enumerate") [.ref tu]) Q E s:=by
 obtain ⟨⟨c,dct,dt,sl⟩,hl,hc,n,hd⟩:=hT;have hc':c=.type "tuple":=hc;have hd':dt=.seq vals n:=hd;subst hc' hd';refine callType_new F.called_enumerate (by decide) (F.typeCall_enumerate_1 _) (F.newCall_enumerate_1 _) (fun ob=>F.args_object_init_2 ob _) F.entry_enumerate_new (n6 tu vals n dct sl) ⟨hl,?_⟩;have sz1:(s.heap.push { cls:=.type "tuple_iterator",data:=.fields #[.ref tu,.int 0 0] }).objs.size=s.heap.objs.size+1:=Heap.size_push ..;show _/\_;rw [sz1];have g2:=zan (s.heap.push { cls:=.type "tuple_iterator",data:=.fields #[.ref tu,.int 0 0] }) (o:={ cls:=.type "enumerate",data:=.fields #[.none,.bool false,.ref s.heap.objs.size,rawInt 0,.none,.none] }) rfl;rw [sz1] at g2;refine ⟨⟨_,g2,rfl⟩,h _ g2 ⟨_,zaf _ (zan _ rfl),rfl,rfl⟩ (by rw [Heap.size_push,sz1]) fun b o x=>zaf _ (zaf _ x)⟩
def wd {e it tu:Addr} {i:Int} {n:Nat} {vals:Array Value} {old:Value} {Q:Option Value->Shared->Prop} (hh:A.handled=none) (he:IsEnum s.heap e it i old) (a1:s.heap.IsTupleIter it tu n) (a2:s.heap.IsTuple tu vals) (a3:vals[n]?=none)
  (q:∀ g,Heap.ExtBut it s.heap g->Q none { s with heap:=g }):wpAny (model prog w) A (pyNext (.ref e)) Q E s:=by
 have ty:s.TypeIs (.ref e) "enumerate":=⟨_,he,rfl⟩;unfold pyNext;refine zam (wpAny_attempt (wpAny_callSpecial?_slot (name:=Str.ofString "__next__") ty F.slot_enumerate_next (wpAny_call_entry F.slot_enumerate_next ty F.entry_enumerate_next ?_ (F.args_enumerate_next_1 _))));show wpAny _ _ (field (.ref e) 2 >>= _) _ _ _;refine zam (wpAny_field he rfl (x:=.ref it) rfl ?_);refine zam (oO hh a1 a2 a3 fun g x k hx=>?_);obtain ⟨o,ho,hc⟩:=hx;exact zam (wpAny_isInstance (T:="StopIteration") (b:=true) ⟨o,ho,hc⟩ isSubtype_stop (zaT (q _ k)))
end
def ItT (K:PySem.W.Frag) (a:Addr):It :=
 ⟨fun i H=>∃ xs x,SqT K H a xs/\xs[i]?=some x,
  fun i H y H'=>∃ p x,y=.ref p/\H p=none/\H'=upd H p (.tup [.int i,x])/\∀ xs,SqT K H a xs->xs[i]?=some x,
  fun i H=>∃ xs,SqT K H a xs/\xs.length<=i⟩
def tJ {P:Program} {w:World} {K:PySem.W.Frag} {elts:List Expr} {k:Nat} {tp:Pos} (a e it:Addr) (hei:e≠it) (hai:a≠it) :
  Turn P w K (.Tuple elts k tp) (ItT K a) [e,it] e (fun i h=>(∃ old,IsEnum h e it i old)/\h.IsTupleIter it a i) where
 mem:=by simp
 obj:=fun i h st b hb=>by
  obtain ⟨⟨old,he⟩,o,ho,hc,hd⟩:=st;have hb':b=e\/b=it:=by simpa using hb
  rcases hb' with rfl | rfl
  ·exact ⟨_,he,fun v z=>by
    have z':Data.fields _=Data.cell v:=z;cases z'⟩
  ·exact ⟨o,ho,fun v z=>by rw [hd] at z; cases z⟩
 keep:=fun i h h' st kp=>⟨let ⟨old,he⟩:=st.1; ⟨old,kp e (by simp) _ he⟩,st.2.at fun o q=>kp it (by simp) o q⟩
 item:=by
  intro X hP hw hK hc i pins s σ H E I hf st hg;subst hP hw hK;obtain ⟨xs,x,hq,hx⟩:=hg;obtain ⟨its,rv,pt,hz⟩:=I.tuple hq;obtain ⟨u,hu,ru⟩:=rv.get hx;obtain ⟨⟨old,he⟩,hit⟩:=st;have hT:s.heap.IsTuple a its.toArray:=pt;have hea:e≠a:=fun z=>by
   subst z;obtain ⟨o,e1,e2,_⟩:=id hT;have he':s.heap.get? e=some _:=he;rw [e1] at he';cases he';simp at e2
  have hu':its.toArray[i]?=some u:=by simpa using hu
  have hlt:i < its.toArray.size:=(Array.getElem?_eq_some_iff.mp hu').1;refine wpAny_pyNext_enum_itemD (we (A:=X.A.in1) (show X.A.in1.handled=none from I.ok.hd hc) it a hai its.toArray) he ⟨hit,hT⟩ hlt hei (by simp [hei,hea]) fun y h1 tk hy ho1 st1 ht1 hz1 hk1=>?_;rw [hu'] at hy;cases hy;refine ⟨_,rfl,wpAny_letOwnedTupleGo_enum ho1 fun h2 he2 hs2=>?_⟩;have eL:e < s.heap.objs.size:=zal he;have ht2:h2.get? s.heap.objs.size=some { cls:=.type "tuple",data:=.seq #[.int i tk,u] }:=(hs2.2 _ (Nat.ne_of_gt eL)).trans ht1;have hit2:h2.IsTupleIter it a (i+1):=st1.1.at fun o q=>hs2.extBut _ _ hei.symm q;have I2:Inv X pins σ (upd H s.heap.objs.size (.tup [.int i,x])) { s with heap:=h2,toks:=tk+1 }:=by
   refine I.turnedLaid (fp:=[e,it]) hf (zav _) (fun b ob hb q=>?_) (fun b hb=>?_) ?_
   ·have h1:b≠e:=fun z=>hb (by simp [z]);have h2':b≠it:=fun z=>hb (by simp [z]);exact (hs2.2 b h1).trans (hk1 b ob h1 h2' q)
   ·have hb':b=e\/b=it:=by simpa using hb
    rcases hb' with rfl | rfl
    ·exact ⟨_,he2⟩
    ·obtain ⟨o,ho,_⟩:=hit2;exact ⟨o,ho⟩
   ·refine ⟨(by show 2<=sizeLine; decide),[.int i tk,u],.cons ⟨_,rfl⟩ (.cons ru .nil),?_⟩;exact ⟨_,ht2,rfl,_,rfl,rfl⟩
  have fr:∀ b∈[e,it],upd H s.heap.objs.size (.tup [.int i,x]) b=none:=fun b hb=>by
   have hlt:b < s.heap.objs.size:=by
    have hb':b=e\/b=it:=by simpa using hb
    rcases hb' with rfl | rfl
    ·exact eL
    ·obtain ⟨o,ho,_⟩:=hit;exact zal ho
   rw [aC (zaw hlt)];exact (hf b hb).1
  exact ⟨.ref s.heap.objs.size,_,I2,rfl,⟨_,x,rfl,I.fresh,rfl,fun ys hy=>by rw [I.tuple_inj hy hq]; exact hx⟩,⟨⟨_,he2⟩,hit2⟩,fr⟩
 done:=by
  intro X hP hw hK hc i pins s σ H E I hf st hg;subst hP hw hK;obtain ⟨xs,hq,hx⟩:=hg;obtain ⟨its,rv,pt,hz⟩:=I.tuple hq;obtain ⟨⟨old,he⟩,hit⟩:=st;obtain ⟨f0,f1,f2,f3,f4,f5⟩:=hf it (by simp);have hl:=rv.length;have hT:s.heap.IsTuple a its.toArray:=pt;exact wd (I.ok.hd hc) he hit hT (by simp; omega) fun h' eb=>⟨rfl,I.turned (t':=s.toks) (fun b o hb q=>eb b o hb q) f0 f1 f3 f4 f5⟩
 self:=fun _ _ _ _ _ st h=>let ⟨⟨_,he⟩,_⟩:=st; wpAny_pyIter_enum he h
section
variable {X:Cx} {K:PySem.W.Frag}
end
section
open PySem.SeqAt
end
def Rp (H:Hp) (v:V) (txt:Str):Prop:=(∃ d,DV H v d/\d.showable=true/\d.depth<=60/\d.shown.length<=sizeLine/\txt=d.shown)\/∃ a,v=.ref a/\H a=some (.dK [])/\txt=("{}" : Str)
section
variable {X:Cx}
end
abbrev D:=PyData
abbrev En:=List (Option D)
abbrev AS:=Addr->Prop
def dn:Nat->Nat
 | 0=>0
 | 1=>0
 | 2=>1
 | n+3=>n+3
def oq:∀ {a b:Nat},a<=b->dn a<=dn b
 | 0,_,_=>Nat.zero_le _
 | 1,_,_=>Nat.zero_le _
 | 2,2,_=>zav _
 | 2,b+3,_=>by show 1<=b+3; omega
 | a+3,b+3,h=>h
 | a+3,0,h=>by omega
 | a+3,1,h=>by omega
 | a+3,2,h=>by omega
 | 2,0,h=>by omega
 | 2,1,h=>by omega
def kD:Key->D
 | .inl i=>.int i
 | .inr x=>.str x
def FzL (K:PySem.W.Frag) (O:AS) (H:Hp) (a:Addr) (vs:List V):Prop:=(Rd H a (.lst vs)/\¬ O a)\/∀ H',SqL K H' a vs
def FzT (K:PySem.W.Frag) (O:AS) (H:Hp) (a:Addr) (vs:List V):Prop:=H a=some (.tup vs)/\¬ O a
def FzL.sq {K:PySem.W.Frag} {O:AS} {H:Hp} {a:Addr} {vs:List V} (h:FzL K O H a vs):SqL K H a vs:=h.elim (fun h=>.inl h.1) fun h=>h H
def FzT.sq {K:PySem.W.Frag} {O:AS} {H:Hp} {a:Addr} {vs:List V} (h:FzT K O H a vs):SqT K H a vs:=SqT.of h.1
def eW (a C:Addr):Heap->Prop:=fun h=>∃ o,h.get? a=some o/\o.cls=.ref C/\∀ c,o.data≠.cls c
def TupD (K:PySem.W.Frag) (H:Hp) (O:AS) (ks:List (D × D)) (a:Addr):Prop:=(∃ (kk:List Key) (b:Bool),ks=[(.tuple (kk.map kD),.bool b)]/\H a=some (.dT [(kk,.bl b)])/\¬ O a) \/
 ∃ (x:Str) (C:Addr),ks=[(.none,.str x)]/\PySem.W.nsIn K mainGlobals x=some (some (.ref C))/\H a=some (.ext (eW a C))/\¬ O a
def TupD.to {K:PySem.W.Frag} {H H':Hp} {O O':AS} {ks:List (D × D)} {a:Addr} (h:TupD K H O ks a) (k:∀ o,H a=some o->¬ O a->H' a=some o/\¬ O' a):TupD K H' O' ks a:=by
 rcases h with ⟨kk,b,h1,h2,h3⟩ | ⟨x,C,h1,h0,h2,h3⟩
 ·obtain ⟨g1,g2⟩:=k _ h2 h3;exact .inl ⟨kk,b,h1,g1,g2⟩
 ·obtain ⟨g1,g2⟩:=k _ h2 h3;exact .inr ⟨x,C,h1,h0,g1,g2⟩
mutual
def Ow (K:PySem.W.Frag) (O:AS) (H:Hp):D->Nat->V->AS->Prop
 | .none,_,v,_=>v=.non
 | .bool b,_,v,_=>v=.bl b
 | .int i,_,v,_=>v=.int i
 | .str x,_,v,_=>v=.str x
 | .tuple ts,d,v,F=>∃ a vs,v=.ref a/\((d=0/\FzT K O H a vs/\Ows K O H ts 0 vs F)\/(d≠0/\H a=some (.tup vs)/\F a/\∃ F':AS,(∀ b,F' b->F b/\b≠a)/\Ows K O H ts (dn d) vs F'))
 | .list ts,d,v,F=>∃ a vs,v=.ref a/\((d=0/\FzL K O H a vs/\Ows K O H ts 0 vs F)\/(d≠0/\H a=some (.lst vs)/\F a/\∃ F':AS,(∀ b,F' b->F b/\b≠a)/\Ows K O H ts (dn d) vs F'))
 | .dict ks,d,v,F=>∃ a vs,v=.ref a/\((d=0/\H a=some (.dK vs)/\¬ O a/\Owd K O H ks 0 vs F)\/(d≠0/\H a=some (.dK vs)/\F a/\∃ F':AS,(∀ b,F' b->F b/\b≠a)/\Owd K O H ks (dn d) vs F')\/(d=0/\TupD K H O ks a))
def Ows (K:PySem.W.Frag) (O:AS) (H:Hp):List D->Nat->List V->AS->Prop
 | [],_,vs,_=>vs=[]
 | t :: ts,d,vs,F=>∃ v r,∃ F1 F2:AS,vs=v :: r/\(∀ b,F1 b->F b)/\(∀ b,F2 b->F b)/\(∀ b,F1 b->¬ F2 b)/\Ow K O H t d v F1/\Ows K O H ts d r F2
def Owd (K:PySem.W.Frag) (O:AS) (H:Hp):List (D × D)->Nat->List (Key × V)->AS->Prop
 | [],_,vs,_=>vs=[]
 | (k,t) :: ts,d,vs,F=>∃ q v r,∃ F1 F2:AS,vs=(q,v) :: r/\k=kD q/\(∀ b,F1 b->F b)/\(∀ b,F2 b->F b)/\(∀ b,F1 b->¬ F2 b)/\Ow K O H t d v F1/\Owd K O H ts d r F2
end
section
variable {K:PySem.W.Frag} {O O':AS} {H H':Hp}
def Rd.mv {a:Addr} {u:HO} (hk:∀ o,H a=some o->H' a=some o) (h:Rd H a u):Rd H' a u:=by
 rcases h with h | ⟨o,h⟩
 ·exact .inl (hk _ h)
 ·exact .inr ⟨o,hk _ h⟩
def Rd.there {a:Addr} {u:HO} (h:Rd H a u):H a≠none:=by
 rcases h with h | ⟨o,h⟩ <;> rw [h] <;> exact fun z=>nomatch z
structure Mv (O O':AS) (G:AS) (H H':Hp):Prop where
 k:∀ a o,H a=some o->(¬ O a\/G a)->H' a=some o
 o:∀ a,O' a->O a\/H a=none
def FzL.mv {G:AS} {a:Addr} {vs:List V} (m:Mv O O' G H H') (h:FzL K O H a vs):FzL K O' H' a vs:=by
 rcases h with ⟨h,n⟩ | h
 ·refine .inl ⟨h.mv fun o e=>m.k _ _ e (.inl n),fun z=>?_⟩;rcases m.o _ z with z | z
  ·exact n z
  ·exact h.there z
 ·exact .inr h
def FzT.mv {G:AS} {a:Addr} {vs:List V} (m:Mv O O' G H H') (h:FzT K O H a vs):FzT K O' H' a vs:=by
 obtain ⟨h,n⟩:=h;refine ⟨m.k _ _ h (.inl n),fun z=>?_⟩;rcases m.o _ z with z | z
 ·exact n z
 ·rw [h] at z; cases z
mutual
theorem Ow.mv {G:AS} (m:Mv O O' G H H'):∀ (t:D) {d:Nat} {v:V} {F:AS},(∀ b,F b->G b)->Ow K O H t d v F->Ow K O' H' t d v F
 | .none,_,_,_,_,h=>h
 | .bool _,_,_,_,_,h=>h
 | .int _,_,_,_,_,h=>h
 | .str _,_,_,_,_,h=>h
 | .tuple ts,_,_,_,g,h=>by
  obtain ⟨a,vs,e,⟨h0,h1,h2⟩ | ⟨h0,h1,h2,F',hf,h3⟩⟩:=h
  ·exact ⟨a,vs,e,.inl ⟨h0,h1.mv m,Ows.mv m ts g h2⟩⟩
  ·exact ⟨a,vs,e,.inr ⟨h0,m.k _ _ h1 (.inr (g _ h2)),h2,F',hf,Ows.mv m ts (fun b hb=>g _ (hf b hb).1) h3⟩⟩
 | .list ts,_,_,_,g,h=>by
  obtain ⟨a,vs,e,⟨h0,h1,h2⟩ | ⟨h0,h1,h2,F',hf,h3⟩⟩:=h
  ·exact ⟨a,vs,e,.inl ⟨h0,h1.mv m,Ows.mv m ts g h2⟩⟩
  ·exact ⟨a,vs,e,.inr ⟨h0,m.k _ _ h1 (.inr (g _ h2)),h2,F',hf,Ows.mv m ts (fun b hb=>g _ (hf b hb).1) h3⟩⟩
 | .dict ks,_,_,_,g,h=>by
  obtain ⟨a,vs,e,⟨h0,h1,hn,h2⟩ | ⟨h0,h1,h2,F',hf,h3⟩ | ⟨h0,ht⟩⟩:=h
  ·refine ⟨a,vs,e,.inl ⟨h0,m.k _ _ h1 (.inl hn),fun z=>?_,Owd.mv m ks g h2⟩⟩;rcases m.o _ z with z | z
   ·exact hn z
   ·rw [h1] at z; cases z
  ·exact ⟨a,vs,e,.inr (.inl ⟨h0,m.k _ _ h1 (.inr (g _ h2)),h2,F',hf,Owd.mv m ks (fun b hb=>g _ (hf b hb).1) h3⟩)⟩
  ·refine ⟨a,vs,e,.inr (.inr ⟨h0,ht.to fun o h2 hn=>⟨m.k _ _ h2 (.inl hn),fun z=>?_⟩⟩)⟩;rcases m.o _ z with z | z
   ·exact hn z
   ·rw [h2] at z; cases z
theorem Ows.mv {G:AS} (m:Mv O O' G H H'):∀ (ts:List D) {d:Nat} {vs:List V} {F:AS},(∀ b,F b->G b)->Ows K O H ts d vs F->Ows K O' H' ts d vs F
 | [],_,_,_,_,h=>h
 | t :: ts,_,_,_,g,h=>by
  obtain ⟨v,r,F1,F2,e,h1,h2,h3,h4,h5⟩:=h;exact ⟨v,r,F1,F2,e,h1,h2,h3,Ow.mv m t (fun b hb=>g _ (h1 b hb)) h4,Ows.mv m ts (fun b hb=>g _ (h2 b hb)) h5⟩
theorem Owd.mv {G:AS} (m:Mv O O' G H H'):∀ (ts:List (D × D)) {d:Nat} {vs:List (Key × V)} {F:AS},(∀ b,F b->G b)->Owd K O H ts d vs F->Owd K O' H' ts d vs F
 | [],_,_,_,_,h=>h
 | (k,t) :: ts,_,_,_,g,h=>by
  obtain ⟨q,v,r,F1,F2,e,e2,h1,h2,h3,h4,h5⟩:=h;exact ⟨q,v,r,F1,F2,e,e2,h1,h2,h3,Ow.mv m t (fun b hb=>g _ (h1 b hb)) h4,Owd.mv m ts (fun b hb=>g _ (h2 b hb)) h5⟩
end
def FzL.sub {a:Addr} {vs:List V} (ho:∀ a,O' a->O a) (h:FzL K O H a vs):FzL K O' H a vs:=h.imp (fun h=>⟨h.1,fun z=>h.2 (ho _ z)⟩) id
def FzT.sub {a:Addr} {vs:List V} (ho:∀ a,O' a->O a) (h:FzT K O H a vs):FzT K O' H a vs:=⟨h.1,fun z=>h.2 (ho _ z)⟩
mutual
theorem Ow.cut:∀ (t:D) {d d':Nat} {v:V} {F:AS},d'<=d->Ow K O H t d v F->∃ F':AS,(∀ b,F' b->F b)/\∀ O':AS,(∀ a,O' a->O a)->(∀ a,F a->O' a->F' a)->Ow K O' H t d' v F'
 | .none,_,_,_,F,_,h=>⟨F,fun _ z=>z,fun _ _ _=>h⟩
 | .bool _,_,_,_,F,_,h=>⟨F,fun _ z=>z,fun _ _ _=>h⟩
 | .int _,_,_,_,F,_,h=>⟨F,fun _ z=>z,fun _ _ _=>h⟩
 | .str _,_,_,_,F,_,h=>⟨F,fun _ z=>z,fun _ _ _=>h⟩
 | .tuple ts,d,d',_,F,hd,h=>by
  obtain ⟨a,vs,e,⟨h0,h1,h2⟩ | ⟨h0,h1,h2,G,hg,h3⟩⟩:=h
  ·subst h0;have e0:d'=0:=by omega
   subst e0;obtain ⟨F',s1,s2⟩:=Ows.cut ts (zav _) h2;exact ⟨F',s1,fun O' ho hx=>⟨a,vs,e,.inl ⟨rfl,h1.sub ho,s2 O' ho hx⟩⟩⟩
  ·by_cases e0:d'=0
   ·subst e0;obtain ⟨F',s1,s2⟩:=Ows.cut ts (Nat.zero_le _) h3;refine ⟨F',fun b hb=>(hg _ (s1 b hb)).1,fun O' ho hx=>⟨a,vs,e,.inl ⟨rfl,⟨h1,fun z=>(hg _ (s1 _ (hx _ h2 z))).2 rfl⟩,s2 O' ho fun b hb=>hx b (hg b hb).1⟩⟩⟩
   ·obtain ⟨F',s1,s2⟩:=Ows.cut ts (oq hd) h3;refine ⟨fun b=>b=a\/F' b,fun b hb=>hb.elim (fun z=>z ▸ h2) fun z=>(hg _ (s1 b z)).1,fun O' ho hx=>⟨a,vs,e,.inr ⟨e0,h1,.inl rfl,F',fun b hb=>⟨.inr hb,(hg _ (s1 b hb)).2⟩,s2 O' ho fun b hb hz=>?_⟩⟩⟩;exact (hx b (hg b hb).1 hz).elim (fun z=>absurd z (hg b hb).2) id
 | .list ts,d,d',_,F,hd,h=>by
  obtain ⟨a,vs,e,⟨h0,h1,h2⟩ | ⟨h0,h1,h2,G,hg,h3⟩⟩:=h
  ·subst h0;have e0:d'=0:=by omega
   subst e0;obtain ⟨F',s1,s2⟩:=Ows.cut ts (zav _) h2;exact ⟨F',s1,fun O' ho hx=>⟨a,vs,e,.inl ⟨rfl,h1.sub ho,s2 O' ho hx⟩⟩⟩
  ·by_cases e0:d'=0
   ·subst e0;obtain ⟨F',s1,s2⟩:=Ows.cut ts (Nat.zero_le _) h3;refine ⟨F',fun b hb=>(hg _ (s1 b hb)).1,fun O' ho hx=>⟨a,vs,e,.inl ⟨rfl,.inl ⟨.inl h1,fun z=>(hg _ (s1 _ (hx _ h2 z))).2 rfl⟩,s2 O' ho fun b hb=>hx b (hg b hb).1⟩⟩⟩
   ·obtain ⟨F',s1,s2⟩:=Ows.cut ts (oq hd) h3;refine ⟨fun b=>b=a\/F' b,fun b hb=>hb.elim (fun z=>z ▸ h2) fun z=>(hg _ (s1 b z)).1,fun O' ho hx=>⟨a,vs,e,.inr ⟨e0,h1,.inl rfl,F',fun b hb=>⟨.inr hb,(hg _ (s1 b hb)).2⟩,s2 O' ho fun b hb hz=>?_⟩⟩⟩;exact (hx b (hg b hb).1 hz).elim (fun z=>absurd z (hg b hb).2) id
 | .dict ts,d,d',_,F,hd,h=>by
  obtain ⟨a,vs,e,⟨h0,h1,hn,h2⟩ | ⟨h0,h1,h2,G,hg,h3⟩ | ⟨h0,ht⟩⟩:=h
  ·subst h0;have e0:d'=0:=by omega
   subst e0;obtain ⟨F',s1,s2⟩:=Owd.cut ts (zav _) h2;exact ⟨F',s1,fun O' ho hx=>⟨a,vs,e,.inl ⟨rfl,h1,fun z=>hn (ho _ z),s2 O' ho hx⟩⟩⟩
  ·by_cases e0:d'=0
   ·subst e0;obtain ⟨F',s1,s2⟩:=Owd.cut ts (Nat.zero_le _) h3;refine ⟨F',fun b hb=>(hg _ (s1 b hb)).1,fun O' ho hx=>⟨a,vs,e,.inl ⟨rfl,h1,fun z=>(hg _ (s1 _ (hx _ h2 z))).2 rfl,s2 O' ho fun b hb=>hx b (hg b hb).1⟩⟩⟩
   ·obtain ⟨F',s1,s2⟩:=Owd.cut ts (oq hd) h3;refine ⟨fun b=>b=a\/F' b,fun b hb=>hb.elim (fun z=>z ▸ h2) fun z=>(hg _ (s1 b z)).1,fun O' ho hx=>⟨a,vs,e,.inr (.inl ⟨e0,h1,.inl rfl,F',fun b hb=>⟨.inr hb,(hg _ (s1 b hb)).2⟩,s2 O' ho fun b hb hz=>?_⟩)⟩⟩;exact (hx b (hg b hb).1 hz).elim (fun z=>absurd z (hg b hb).2) id
  ·subst h0;have e0:d'=0:=by omega
   subst e0;exact ⟨F,fun _ z=>z,fun O' ho hx=>⟨a,vs,e,.inr (.inr ⟨rfl,ht.to fun o h2 hn=>⟨h2,fun z=>hn (ho _ z)⟩⟩)⟩⟩
theorem Ows.cut:∀ (ts:List D) {d d':Nat} {vs:List V} {F:AS},d'<=d->Ows K O H ts d vs F->∃ F':AS,(∀ b,F' b->F b)/\∀ O':AS,(∀ a,O' a->O a)->(∀ a,F a->O' a->F' a)->Ows K O' H ts d' vs F'
 | [],_,_,_,F,_,h=>⟨F,fun _ z=>z,fun _ _ _=>h⟩
 | t :: ts,_,_,_,F,hd,h=>by
  obtain ⟨v,r,F1,F2,e,h1,h2,h3,h4,h5⟩:=h;obtain ⟨G1,a1,a2⟩:=Ow.cut t hd h4;obtain ⟨G2,b1,b2⟩:=Ows.cut ts hd h5;refine ⟨fun b=>G1 b\/G2 b,fun b hb=>hb.elim (fun z=>h1 _ (a1 _ z)) fun z=>h2 _ (b1 _ z),fun O' ho hx=>⟨v,r,G1,G2,e,fun b=>.inl,fun b=>.inr,fun b z1 z2=>h3 b (a1 b z1) (b1 b z2),a2 O' ho fun b hb hz=>?_,b2 O' ho fun b hb hz=>?_⟩⟩
  ·exact (hx b (h1 b hb) hz).elim id fun z=>absurd (b1 b z) (h3 b hb)
  ·exact (hx b (h2 b hb) hz).elim (fun z=>absurd hb (h3 b (a1 b z))) id
theorem Owd.cut:∀ (ts:List (D × D)) {d d':Nat} {vs:List (Key × V)} {F:AS},d'<=d->Owd K O H ts d vs F->∃ F':AS,(∀ b,F' b->F b)/\∀ O':AS,(∀ a,O' a->O a)->(∀ a,F a->O' a->F' a)->Owd K O' H ts d' vs F'
 | [],_,_,_,F,_,h=>⟨F,fun _ z=>z,fun _ _ _=>h⟩
 | (k,t) :: ts,_,_,_,F,hd,h=>by
  obtain ⟨q,v,r,F1,F2,e,e2,h1,h2,h3,h4,h5⟩:=h;obtain ⟨G1,a1,a2⟩:=Ow.cut t hd h4;obtain ⟨G2,b1,b2⟩:=Owd.cut ts hd h5;refine ⟨fun b=>G1 b\/G2 b,fun b hb=>hb.elim (fun z=>h1 _ (a1 _ z)) fun z=>h2 _ (b1 _ z),fun O' ho hx=>⟨q,v,r,G1,G2,e,e2,fun b=>.inl,fun b=>.inr,fun b z1 z2=>h3 b (a1 b z1) (b1 b z2),a2 O' ho fun b hb hz=>?_,b2 O' ho fun b hb hz=>?_⟩⟩
  ·exact (hx b (h1 b hb) hz).elim id fun z=>absurd (b1 b z) (h3 b hb)
  ·exact (hx b (h2 b hb) hz).elim (fun z=>absurd hb (h3 b (a1 b z))) id
end
mutual
theorem Ow.grow (ho:∀ a,O' a->O a):∀ (t:D) {d:Nat} {v:V} {F F':AS},(∀ b,F b->F' b)->Ow K O H t d v F->Ow K O' H t d v F'
 | .none,_,_,_,_,_,h=>h
 | .bool _,_,_,_,_,_,h=>h
 | .int _,_,_,_,_,_,h=>h
 | .str _,_,_,_,_,_,h=>h
 | .tuple ts,_,_,_,_,hf,h=>by
  obtain ⟨a,vs,e,⟨h0,h1,h2⟩ | ⟨h0,h1,h2,G,hg,h3⟩⟩:=h
  ·exact ⟨a,vs,e,.inl ⟨h0,h1.sub ho,Ows.grow ho ts hf h2⟩⟩
  ·exact ⟨a,vs,e,.inr ⟨h0,h1,hf _ h2,G,fun b hb=>⟨hf _ (hg b hb).1,(hg b hb).2⟩,Ows.grow ho ts (fun _ z=>z) h3⟩⟩
 | .list ts,_,_,_,_,hf,h=>by
  obtain ⟨a,vs,e,⟨h0,h1,h2⟩ | ⟨h0,h1,h2,G,hg,h3⟩⟩:=h
  ·exact ⟨a,vs,e,.inl ⟨h0,h1.sub ho,Ows.grow ho ts hf h2⟩⟩
  ·exact ⟨a,vs,e,.inr ⟨h0,h1,hf _ h2,G,fun b hb=>⟨hf _ (hg b hb).1,(hg b hb).2⟩,Ows.grow ho ts (fun _ z=>z) h3⟩⟩
 | .dict ts,_,_,_,_,hf,h=>by
  obtain ⟨a,vs,e,⟨h0,h1,hn,h2⟩ | ⟨h0,h1,h2,G,hg,h3⟩ | ⟨h0,ht⟩⟩:=h
  ·exact ⟨a,vs,e,.inl ⟨h0,h1,fun z=>hn (ho _ z),Owd.grow ho ts hf h2⟩⟩
  ·exact ⟨a,vs,e,.inr (.inl ⟨h0,h1,hf _ h2,G,fun b hb=>⟨hf _ (hg b hb).1,(hg b hb).2⟩,Owd.grow ho ts (fun _ z=>z) h3⟩)⟩
  ·exact ⟨a,vs,e,.inr (.inr ⟨h0,ht.to fun o h2 hn=>⟨h2,fun z=>hn (ho _ z)⟩⟩)⟩
theorem Ows.grow (ho:∀ a,O' a->O a):∀ (ts:List D) {d:Nat} {vs:List V} {F F':AS},(∀ b,F b->F' b)->Ows K O H ts d vs F->Ows K O' H ts d vs F'
 | [],_,_,_,_,_,h=>h
 | t :: ts,_,_,_,_,hf,h=>by
  obtain ⟨v,r,F1,F2,e,h1,h2,h3,h4,h5⟩:=h;exact ⟨v,r,F1,F2,e,fun b z=>hf _ (h1 b z),fun b z=>hf _ (h2 b z),h3,Ow.grow ho t (fun _ z=>z) h4,Ows.grow ho ts (fun _ z=>z) h5⟩
theorem Owd.grow (ho:∀ a,O' a->O a):∀ (ts:List (D × D)) {d:Nat} {vs:List (Key × V)} {F F':AS},(∀ b,F b->F' b)->Owd K O H ts d vs F->Owd K O' H ts d vs F'
 | [],_,_,_,_,_,h=>h
 | (k,t) :: ts,_,_,_,_,hf,h=>by
  obtain ⟨q,v,r,F1,F2,e,e2,h1,h2,h3,h4,h5⟩:=h;exact ⟨q,v,r,F1,F2,e,e2,fun b z=>hf _ (h1 b z),fun b z=>hf _ (h2 b z),h3,Ow.grow ho t (fun _ z=>z) h4,Owd.grow ho ts (fun _ z=>z) h5⟩
end
mutual
theorem Ow.full:∀ (t:D) {d:Nat} {v:V} {F:AS},Ow K O H t (d+3) v F->Ow K O' H t (d+3) v F
 | .none,_,_,_,h=>h
 | .bool _,_,_,_,h=>h
 | .int _,_,_,_,h=>h
 | .str _,_,_,_,h=>h
 | .tuple ts,_,_,_,h=>by
  obtain ⟨a,vs,e,⟨h0,h1,h2⟩ | ⟨h0,h1,h2,G,hg,h3⟩⟩:=h
  ·cases h0
  ·exact ⟨a,vs,e,.inr ⟨h0,h1,h2,G,hg,Ows.full ts h3⟩⟩
 | .list ts,_,_,_,h=>by
  obtain ⟨a,vs,e,⟨h0,h1,h2⟩ | ⟨h0,h1,h2,G,hg,h3⟩⟩:=h
  ·cases h0
  ·exact ⟨a,vs,e,.inr ⟨h0,h1,h2,G,hg,Ows.full ts h3⟩⟩
 | .dict ts,_,_,_,h=>by
  obtain ⟨a,vs,e,⟨h0,h1,hn,h2⟩ | ⟨h0,h1,h2,G,hg,h3⟩ | ⟨h0,_⟩⟩:=h
  ·cases h0
  ·exact ⟨a,vs,e,.inr (.inl ⟨h0,h1,h2,G,hg,Owd.full ts h3⟩)⟩
  ·cases h0
theorem Ows.full:∀ (ts:List D) {d:Nat} {vs:List V} {F:AS},Ows K O H ts (d+3) vs F->Ows K O' H ts (d+3) vs F
 | [],_,_,_,h=>h
 | t :: ts,_,_,_,h=>by
  obtain ⟨v,r,F1,F2,e,h1,h2,h3,h4,h5⟩:=h;exact ⟨v,r,F1,F2,e,h1,h2,h3,Ow.full t h4,Ows.full ts h5⟩
theorem Owd.full:∀ (ts:List (D × D)) {d:Nat} {vs:List (Key × V)} {F:AS},Owd K O H ts (d+3) vs F->Owd K O' H ts (d+3) vs F
 | [],_,_,_,h=>h
 | (k,t) :: ts,_,_,_,h=>by
  obtain ⟨q,v,r,F1,F2,e,e2,h1,h2,h3,h4,h5⟩:=h;exact ⟨q,v,r,F1,F2,e,e2,h1,h2,h3,Ow.full t h4,Owd.full ts h5⟩
end
mutual
theorem Ow.any0:∀ (t:D) {v:V} {F F':AS},Ow K O H t 0 v F->Ow K O H t 0 v F'
 | .none,_,_,_,h=>h
 | .bool _,_,_,_,h=>h
 | .int _,_,_,_,h=>h
 | .str _,_,_,_,h=>h
 | .tuple ts,_,_,_,h=>by
  obtain ⟨a,vs,e,⟨h0,h1,h2⟩ | ⟨h0,_⟩⟩:=h
  ·exact ⟨a,vs,e,.inl ⟨rfl,h1,Ows.any0 ts h2⟩⟩
  ·exact absurd rfl h0
 | .list ts,_,_,_,h=>by
  obtain ⟨a,vs,e,⟨h0,h1,h2⟩ | ⟨h0,_⟩⟩:=h
  ·exact ⟨a,vs,e,.inl ⟨rfl,h1,Ows.any0 ts h2⟩⟩
  ·exact absurd rfl h0
 | .dict ts,_,_,_,h=>by
  obtain ⟨a,vs,e,⟨h0,h1,hn,h2⟩ | ⟨h0,_⟩ | ⟨_,ht⟩⟩:=h
  ·exact ⟨a,vs,e,.inl ⟨rfl,h1,hn,Owd.any0 ts h2⟩⟩
  ·exact absurd rfl h0
  ·exact ⟨a,vs,e,.inr (.inr ⟨rfl,ht⟩)⟩
theorem Ows.any0:∀ (ts:List D) {vs:List V} {F F':AS},Ows K O H ts 0 vs F->Ows K O H ts 0 vs F'
 | [],_,_,_,h=>h
 | t :: ts,_,_,_,h=>by
  obtain ⟨v,r,F1,F2,e,_,_,_,h4,h5⟩:=h;exact ⟨v,r,fun _=>False,fun _=>False,e,fun _ z=>z.elim,fun _ z=>z.elim,fun _ z=>z.elim,Ow.any0 t h4,Ows.any0 ts h5⟩
theorem Owd.any0:∀ (ts:List (D × D)) {vs:List (Key × V)} {F F':AS},Owd K O H ts 0 vs F->Owd K O H ts 0 vs F'
 | [],_,_,_,h=>h
 | (k,t) :: ts,_,_,_,h=>by
  obtain ⟨q,v,r,F1,F2,e,e2,_,_,_,h4,h5⟩:=h;exact ⟨q,v,r,fun _=>False,fun _=>False,e,e2,fun _ z=>z.elim,fun _ z=>z.elim,fun _ z=>z.elim,Ow.any0 t h4,Owd.any0 ts h5⟩
end
def Ow.fz {t:D} {d:Nat} {v:V} {F F2:AS} (ho:∀ a,O' a->O a) (hn:∀ a,F a->¬ O' a) (h:Ow K O H t d v F):Ow K O' H t 0 v F2:=by
 obtain ⟨F',s1,s2⟩:=Ow.cut t (Nat.zero_le d) h;exact Ow.any0 t (s2 O' ho fun a z1 z2=>absurd z2 (hn a z1))
end
def U (A B:AS):AS:=fun a=>A a\/B a
def Own (R:Nat->AS) (Ox:AS):AS:=fun a=>(∃ i,R i a)\/Ox a
def fG {A B:AS} (h:∀ a,A a↔B a):A=B:=funext fun a=>propext (h a)
structure EnvOk (K:PySem.W.Frag) (ds:List Nat) (Ox:AS) (H:Hp) (σ:St) (en:En) (R:Nat->AS):Prop where
 at_:∀ (i:Nat) (t:D),en[i]?=some (some t)->∃ v d,σ[i]?=some (some v)/\ds[i]?=some d/\Ow K (Own R Ox) H t d v (R i)
 dj:∀ i j a,R i a->R j a->i=j
 dx:∀ i a,R i a->¬ Ox a
 dom:∀ a,Own R Ox a->∃ o,H a=some o
 l1:en.length=σ.length
 l2:ds.length=σ.length
structure Post (K:PySem.W.Frag) (p:Bool) (ds':List Nat) (Ox:AS) (σ:St) (H:Hp) (en:En) (R:Nat->AS) (en':En) (H':Hp) (R':Nat->AS) (F:AS):Prop where
 env:EnvOk K ds' (U F Ox) H' σ en' R'
 fx:∀ a,F a->¬ Ox a
 keep:∀ a o,H a=some o->(∀ i,¬ R i a)->H' a=some o
 own:∀ a,(F a\/∃ i,R' i a)->(∃ i,R i a)\/H a=none
 dom:∀ a o,H a=some o->∃ o',H' a=some o'
 pure:p=true->en'=en/\R'=R/\∀ a o,H a=some o->H' a=some o
section
variable {K:PySem.W.Frag} {p p1 p2:Bool} {ds ds1 ds2 ds':List Nat} {Ox Ox':AS} {H H':Hp} {σ:St} {en en' en1 en2:En} {R R':Nat->AS} {d d1 d2:Nat} {t1 t2:D}
def EnvOk.grow (e:EnvOk K ds Ox H σ en R) (hk:∀ a o,H a=some o->H' a=some o) {F:AS} (hf:∀ a,F a->H a=none/\∃ o,H' a=some o):EnvOk K ds (U F Ox) H' σ en R:=by
 have fo:∀ a,F a->¬ Own R Ox a:=fun a z z2=>by
  obtain ⟨o,q⟩:=e.dom a z2;rw [(hf a z).1] at q;cases q
 refine ⟨fun i t h=>?_,e.dj,fun i a h z=>?_,fun a h=>?_,e.l1,e.l2⟩
 ·obtain ⟨v,d,h1,h2,h3⟩:=e.at_ i t h;refine ⟨v,d,h1,h2,Ow.mv (G:=R i) ⟨fun a o q _=>hk a o q,fun a z=>?_⟩ t (fun _ z=>z) h3⟩;rcases z with z | z | z
  ·exact .inl (.inl z)
  ·exact .inr (hf a z).1
  ·exact .inl (.inr z)
 ·rcases z with z | z
  ·exact fo a z (.inl ⟨i,h⟩)
  ·exact e.dx i a h z
 ·rcases h with h | h | h
  ·obtain ⟨o,q⟩:=e.dom a (.inl h);exact ⟨o,hk a o q⟩
  ·exact (hf a h).2
  ·obtain ⟨o,q⟩:=e.dom a (.inr h);exact ⟨o,hk a o q⟩
def EnvOk.fewer (e:EnvOk K ds Ox H σ en R) (h:∀ a,Ox' a->Ox a):EnvOk K ds Ox' H σ en R:=by
 refine ⟨fun i t q=>?_,e.dj,fun i a z1 z2=>e.dx i a z1 (h a z2),fun a z=>e.dom a (z.imp id (h a)),e.l1,e.l2⟩;obtain ⟨v,d,h1,h2,h3⟩:=e.at_ i t q;exact ⟨v,d,h1,h2,Ow.grow (fun a z=>z.imp id (h a)) t (fun _ z=>z) h3⟩
def tF (K:PySem.W.Frag) (p:Bool) (ds ds':List Nat) (d:Nat) (f:En->Option (D × En)):TE:=fun σ H Q =>
 ∃ Ox en R t en',EnvOk K ds Ox H σ en R/\f en=some (t,en')/\∀ v H' R' F,Post K p ds' Ox σ H en R en' H' R' F->Ow K (Own R' (U F Ox)) H' t d v F->Q v H'
def Post.refl (e:EnvOk K ds Ox H σ en R):Post K p ds Ox σ H en R en H R (fun _=>False):=by
 have eq:U (fun _=>False) Ox=Ox:=fG fun a=>⟨fun z=>z.elim (fun z=>z.elim) id,.inr⟩;exact ⟨eq.symm ▸ e,fun _ z=>z.elim,fun _ _ q _=>q,fun a z=>z.elim (fun z=>z.elim) .inl,fun a o q=>⟨o,q⟩,fun _=>⟨rfl,rfl,fun _ _ q=>q⟩⟩
def Post.new (e:EnvOk K ds Ox H σ en R) (hk:∀ a o,H a=some o->H' a=some o) {F:AS} (hf:∀ a,F a->H a=none/\∃ o,H' a=some o):Post K p ds Ox σ H en R en H' R F:=by
 refine ⟨e.grow hk hf,fun a z z2=>?_,fun a o q _=>hk a o q,fun a z=>z.elim (fun z=>.inr (hf a z).1) .inl,fun a o q=>⟨o,hk a o q⟩,fun _=>⟨rfl,rfl,hk⟩⟩;obtain ⟨o,q⟩:=e.dom a (.inr z2);rw [(hf a z).1] at q;cases q
def Post.trans {H1 H2:Hp} {R1 R2:Nat->AS} {F1 F2:AS} (P1:Post K p1 ds1 Ox σ H en R en1 H1 R1 F1) (P2:Post K p2 ds2 (U F1 Ox) σ H1 en1 R1 en2 H2 R2 F2) :
  Post K (p1 && p2) ds2 Ox σ H en R en2 H2 R2 (U F1 F2):=by
 have eq:U F2 (U F1 Ox)=U (U F1 F2) Ox:=fG fun a=>by unfold U; exact ⟨fun z=>by rcases z with z | z | z; exact .inl (.inr z); exact .inl (.inl z); exact .inr z,fun z=>by rcases z with (z | z) | z; exact .inr (.inl z); exact .inl z; exact .inr (.inr z)⟩
 have n1:∀ a,H1 a=none->H a=none:=fun a z=>by
  cases q:H a with
  | none=>rfl
  | some o =>
   obtain ⟨o',q'⟩:=P1.dom a o q;rw [z] at q';cases q'
 refine ⟨eq ▸ P2.env,fun a z z2=>?_,fun a o q n=>?_,fun a z=>?_,fun a o q=>?_,fun hp=>?_⟩
 ·rcases z with z | z
  ·exact P1.fx a z z2
  ·exact P2.fx a z (.inr z2)
 ·refine P2.keep a o (P1.keep a o q n) fun i z=>?_;rcases P1.own a (.inr ⟨i,z⟩) with ⟨j,z⟩ | z
  ·exact n j z
  ·rw [q] at z; cases z
 ·rcases z with (z | z) | z
  ·exact P1.own a (.inl z)
  ·rcases P2.own a (.inl z) with z | z
   ·exact P1.own a (.inr z)
   ·exact .inr (n1 a z)
  ·rcases P2.own a (.inr z) with z | z
   ·exact P1.own a (.inr z)
   ·exact .inr (n1 a z)
 ·obtain ⟨o',q'⟩:=P1.dom a o q;exact P2.dom a o' q'
 ·have h1:p1=true:=by cases p1 <;> simp_all
  have h2:p2=true:=by cases p2 <;> simp_all
  obtain ⟨a1,a2,a3⟩:=P1.pure h1;obtain ⟨b1,b2,b3⟩:=P2.pure h2;exact ⟨b1.trans a1,b2.trans a2,fun a o q=>b3 a o (a3 a o q)⟩
def Ow.over {H1 H2:Hp} {R1 R2:Nat->AS} {F1 F2:AS} {t:D} {v:V} (P1:EnvOk K ds1 (U F1 Ox) H1 σ en1 R1) (P2:Post K p2 ds2 (U F1 Ox) σ H1 en1 R1 en2 H2 R2 F2) (h:Ow K (Own R1 (U F1 Ox)) H1 t d v F1) :
  Ow K (Own R2 (U (U F1 F2) Ox)) H2 t d v F1:=by
 refine Ow.mv (G:=F1) ⟨fun a o q z=>P2.keep a o q fun i zi=>?_,fun a z=>?_⟩ t (fun _ z=>z) h
 ·rcases z with z | z
  ·exact z (.inl ⟨i,zi⟩)
  ·exact P1.dx i a zi (.inl z)
 ·rcases z with z | (z | z) | z
  ·rcases P2.own a (.inr z) with z | z
   ·exact .inl (.inl z)
   ·exact .inr z
  ·exact .inl (.inr (.inl z))
  ·rcases P2.own a (.inl z) with z | z
   ·exact .inl (.inl z)
   ·exact .inr z
  ·exact .inl (.inr (.inr z))
def nB {F1 F2:AS}:U F2 (U F1 Ox)=U (U F1 F2) Ox:=fG fun a=>by unfold U; exact ⟨fun z=>by rcases z with z | z | z; exact .inl (.inr z); exact .inl (.inl z); exact .inr z,fun z=>by rcases z with (z | z) | z; exact .inr (.inl z); exact .inl z; exact .inr (.inr z)⟩
def two {f g:En->Option (D × En)} {Q:V->V->Hp->Prop} (e:EnvOk K ds Ox H σ en R) (h1:f en=some (t1,en1)) (h2:g en1=some (t2,en2))
  (k:∀ x y H2 R2 F1 F2,Post K (p1 && p2) ds2 Ox σ H en R en2 H2 R2 (U F1 F2)->Ow K (Own R2 (U (U F1 F2) Ox)) H2 t1 d1 x F1->Ow K (Own R2 (U (U F1 F2) Ox)) H2 t2 d2 y F2->Q x y H2) :
  tF K p1 ds ds1 d1 f σ H fun x H1=>tF K p2 ds1 ds2 d2 g σ H1 fun y H2=>Q x y H2:=by
 refine ⟨Ox,en,R,t1,en1,e,h1,fun x H1 R1 F1 P1 o1=>?_⟩;refine ⟨U F1 Ox,en1,R1,t2,en2,P1.env,h2,fun y H2 R2 F2 P2 o2=>?_⟩;exact k x y H2 R2 F1 F2 (P1.trans P2) (Ow.over P1.env P2 o1) (nB ▸ o2)
end
abbrev ME:=En->Option (D × En)
abbrev MT:=En->Option (Bool × En)
abbrev MA:=En->Option (List (D ⊕ Nat) × En)
def ac (i:Nat):ME:=fun en=>(en[i]?).join.map fun t=>(t,en)
def eMv (i:Nat):ME:=fun en=>(en[i]?).join.map fun t=>(t,en.set i none)
def eC (t:D):ME:=fun en=>some (t,en)
def e1 (g:D->Option D) (f:ME):ME:=fun en=>(f en).bind fun r=>(g r.1).map fun t=>(t,r.2)
def e2 (g:D->D->Option D) (f1 f2:ME):ME:=fun en=>(f1 en).bind fun r=>(f2 r.2).bind fun q=>(g r.1 q.1).map fun t=>(t,q.2)
def kH (f g:ME):ME:=fun en=>(f en).bind fun r=>match r.1 with
 | .bool true=>g r.2
 | .bool false=>some (.bool false,r.2)
 | _=>none
def eOr (f g:ME):ME:=fun en=>(f en).bind fun r=>match r.1 with
 | .bool true=>some (.bool true,r.2)
 | .bool false=>g r.2
 | _=>none
def on (f:ME):ME:=fun en=>(f en).bind fun r=>match r.1 with
 | .bool b=>some (.bool (!b),r.2)
 | _=>none
def eIf (c:MT) (f g:ME):ME:=fun en=>(c en).bind fun r=>if r.1 then f r.2 else g r.2
def tV (f:ME):MT:=fun en=>(f en).bind fun r=>match r.1 with
 | .bool b=>some (b,r.2)
 | _=>none
def dJ (f g:MT):MT:=fun en=>(f en).bind fun r=>if r.1 then g r.2 else some (false,r.2)
def bOr (f g:MT):MT:=fun en=>(f en).bind fun r=>if r.1 then some (true,r.2) else g r.2
def dD (f:MT):MT:=fun en=>(f en).map fun r=>(!r.1,r.2)
def ag:MA:=fun en=>some ([],en)
def ad (f:ME) (r:MA):MA:=fun en=>(f en).bind fun x=>(r x.2).map fun y=>(.inl x.1 :: y.1,y.2)
def aH (i:Nat) (r:MA):MA:=fun en=>(en[i]?).join.bind fun _=>(r en).map fun y=>(.inr i :: y.1,y.2)
def vals:List (D ⊕ Nat)->Option (List D)
 | []=>some []
 | .inl t :: r=>(vals r).map (t :: ·)
 | .inr _ :: _=>none
def eN (g:List D->Option D) (fa:MA):ME:=fun en=>(fa en).bind fun r=>(vals r.1).bind fun ts=>(g ts).map fun t=>(t,r.2)
def NewTo (H H':Hp) (F:AS):Prop:=(∀ a o,H a=some o->H' a=some o)/\∀ a,F a->H a=none/\∃ o,H' a=some o
def NoA:AS:=fun _=>False
def ig {A:AS}:U NoA A=A:=fG fun a=>⟨fun z=>z.elim (fun z=>z.elim) id,.inr⟩
def rF1 (K:PySem.W.Frag) (g:D->Option D) (d:Nat):V->Hp->VK->Prop:=fun x H Q=>∃ (O:AS) (a t:D),Ow K O H a 0 x NoA/\(∀ a,O a->∃ o,H a=some o)/\g a=some t/\∀ v H' F,NewTo H H' F->Ow K (U F O) H' t d v F->Q v H'
def rF2 (K:PySem.W.Frag) (g:D->D->Option D) (d:Nat):R2:=fun x y H Q=>∃ (O:AS) (a b t:D),Ow K O H a 0 x NoA/\Ow K O H b 0 y NoA/\(∀ a,O a->∃ o,H a=some o)/\g a b=some t/\∀ v H' F,NewTo H H' F->Ow K (U F O) H' t d v F->Q v H'
def rFn (K:PySem.W.Frag) (g:List D->Option D) (d:Nat):List V->Hp->VK->Prop:=fun xs H Q=>∃ (O:AS) (ts:List D) (t:D),Ows K O H ts 0 xs NoA/\(∀ a,O a->∃ o,H a=some o)/\g ts=some t/\∀ v H' F,NewTo H H' F->Ow K (U F O) H' t d v F->Q v H'
section
variable {K:PySem.W.Frag} {p p1 p2:Bool} {ds ds0 ds1 ds2 ds':List Nat} {Ox Ox':AS} {H H':Hp} {σ:St} {en en' en1 en2:En} {R R':Nat->AS} {d d' d1 d2:Nat} {t t1 t2:D} {Q:VK} {f f1 f2 fa fb:ME}
def pS {F:AS}:U F (Own R Ox)=Own R (U F Ox):=fG fun a=>by
 unfold U Own;exact ⟨fun z=>by rcases z with z | z | z; exact .inr (.inl z); exact .inl z; exact .inr (.inr z),fun z=>by rcases z with z | z | z; exact .inr (.inl z); exact .inl z; exact .inr (.inr z)⟩
def Post.fin {H1:Hp} {F0 F:AS} (P:Post K p ds' Ox σ H en R en' H1 R' F0) (n:NewTo H1 H' F):Post K p ds' Ox σ H en R en' H' R' F:=by
 have e:=P.env.fewer (Ox':=Ox) fun a z=>.inr z;have n1:∀ a,H1 a=none->H a=none:=fun a z=>by
  cases q:H a with
  | none=>rfl
  | some o =>
   obtain ⟨o',q'⟩:=P.dom a o q;rw [z] at q';cases q'
 refine ⟨e.grow n.1 n.2,fun a z z2=>?_,fun a o q nn=>n.1 a o (P.keep a o q nn),fun a z=>?_,fun a o q=>?_,fun hp=>?_⟩
 ·obtain ⟨o,q⟩:=e.dom a (.inr z2);rw [(n.2 a z).1] at q;cases q
 ·rcases z with z | z
  ·exact .inr (n1 a (n.2 a z).1)
  ·exact P.own a (.inr z)
 ·obtain ⟨o',q'⟩:=P.dom a o q;exact ⟨o',n.1 a o' q'⟩
 ·obtain ⟨a1,a2,a3⟩:=P.pure hp;exact ⟨a1,a2,fun a o q=>n.1 a o (a3 a o q)⟩
def Post.less {F F':AS} (P:Post K p ds' Ox σ H en R en' H' R' F) (h:∀ a,F' a->F a):Post K p ds' Ox σ H en R en' H' R' F' :=
 ⟨P.env.fewer fun a z=>z.imp (h a) id,fun a z=>P.fx a (h a z),P.keep,fun a z=>P.own a (z.imp (h a) id),P.dom,P.pure⟩
def Ow.letgo {F F0:AS} {v:V} (P:Post K p ds' Ox σ H en R en' H' R' F0) (hf:∀ a,F a->F0 a) (h:Ow K (Own R' (U F0 Ox)) H' t d v F):Ow K (Own R' Ox) H' t 0 v NoA:=by
 refine Ow.fz (fun a z=>z.imp id .inr) (fun a z z2=>?_) h;rcases z2 with ⟨i,z2⟩ | z2
 ·exact P.env.dx i a z2 (.inl (hf a z))
 ·exact P.fx a (hf a z) z2
def Post.doms {F0:AS} (P:Post K p ds' Ox σ H en R en' H' R' F0):∀ a,Own R' Ox a->∃ o,H' a=some o:=fun a z=>P.env.dom a (z.imp id .inr)
def KL (hd:ds[i]?=some 0) (h:tF K true ds ds 0 (ac i) σ H Q):iJ i σ H Q:=by
 obtain ⟨Ox,en,R,t,en',e,hf,k⟩:=h;unfold ac at hf;cases q:en[i]? with
 | none=>rw [q] at hf; cases hf
 | some o =>
  rw [q] at hf;cases o with
  | none=>cases hf
  | some t' =>
   cases hf;obtain ⟨v,d,h1,h2,h3⟩:=e.at_ i t q;rw [hd] at h2;cases h2;exact ⟨v,h1,k v H R NoA (Post.refl e) (by rw [ig]; exact Ow.any0 t h3)⟩
def f_c {v:V} (hv:∀ K O H F,Ow K O H t 3 v F) (h:tF K true ds ds 3 (eC t) σ H Q):tC v σ H Q:=by
 obtain ⟨Ox,en,R,t',en',e,hf,k⟩:=h;cases hf;exact k v H R NoA (Post.refl e) (hv _ _ _ _)
def KN (hd:d'<=d) (h:tF K p ds ds' d' f σ H Q):tF K p ds ds' d f σ H Q:=by
 obtain ⟨Ox,en,R,t,en',e,hf,k⟩:=h;refine ⟨Ox,en,R,t,en',e,hf,fun v H' R' F P o=>?_⟩;obtain ⟨F',s1,s2⟩:=Ow.cut t hd o;refine k v H' R' F' (P.less s1) (s2 _ (fun a z=>z.imp id fun z=>z.imp (s1 a) id) fun a z z2=>?_);rcases z2 with ⟨i,z2⟩ | z2 | z2
 ·exact absurd (.inl z) (P.env.dx i a z2)
 ·exact z2
 ·exact absurd z2 (P.fx a z)
def jM (hp:p'=true->p=true) (h:tF K p' ds ds' d f σ H Q):tF K p ds ds' d f σ H Q:=by
 obtain ⟨Ox,en,R,t,en',e,hf,k⟩:=h;exact ⟨Ox,en,R,t,en',e,hf,fun v H' R' F P o=>k v H' R' F ⟨P.env,P.fx,P.keep,P.own,P.dom,fun z=>P.pure (hp z)⟩ o⟩
def EnvOk.cut (e:EnvOk K ds Ox H σ en R) (hl:ds0.length=ds.length) (hd:∀ (i:Nat) a b,ds0[i]?=some a->ds[i]?=some b->a<=b):∃ R',(∀ i a,R' i a->R i a)/\EnvOk K ds0 Ox H σ en R':=by
 have ch:∀ i,∃ F':AS,(∀ b,F' b->R i b)/\∀ t v d0,en[i]?=some (some t)->σ[i]?=some (some v)->ds0[i]?=some d0->∀ O':AS,(∀ a,O' a->Own R Ox a)->(∀ a,R i a->O' a->F' a)->Ow K O' H t d0 v F':=fun i=>by
  by_cases h:∃ t,en[i]?=some (some t)
  ·obtain ⟨t,ht⟩:=h;obtain ⟨v,d,h1,h2,h3⟩:=e.at_ i t ht;cases q:ds0[i]? with
   | none=>exact ⟨NoA,fun _ z=>z.elim,fun _ _ _ _ _ z=>nomatch z⟩
   | some d0 =>
    obtain ⟨F',s1,s2⟩:=Ow.cut t (hd i d0 d q h2) h3;refine ⟨F',s1,fun t' v' d0' h1' h2' h3' O'=>?_⟩;rw [ht] at h1'; cases h1';rw [h1] at h2'; cases h2';cases h3';exact s2 O'
  ·exact ⟨NoA,fun _ z=>z.elim,fun t _ _ ht=>absurd ⟨t,ht⟩ h⟩
 refine ⟨fun i=>(ch i).choose,fun i=>(ch i).choose_spec.1,fun i t ht=>?_,fun i j a z1 z2=>e.dj i j a ((ch i).choose_spec.1 a z1) ((ch j).choose_spec.1 a z2),fun i a z=>e.dx i a ((ch i).choose_spec.1 a z),fun a z=>e.dom a (z.imp (fun ⟨i,z⟩=>⟨i,(ch i).choose_spec.1 a z⟩) id),e.l1,hl.trans e.l2⟩;obtain ⟨v,d,h1,h2,h3⟩:=e.at_ i t ht;have hi:i < ds0.length:=by rw [hl]; exact (zah.mp h2).1
 refine ⟨v,ds0[i],h1,zak hi,(ch i).choose_spec.2 t v _ ht h1 (zak hi) _ (fun a z=>z.imp (fun ⟨j,z⟩=>⟨j,(ch j).choose_spec.1 a z⟩) id) fun a z z2=>?_⟩;rcases z2 with ⟨j,z2⟩ | z2
 ·have:=e.dj i j a z ((ch j).choose_spec.1 a z2);subst this;exact z2
 ·exact absurd z2 (e.dx i a z)
def leD:List Nat->List Nat->Bool
 | [],[]=>true
 | a :: r,b :: s=>decide (a<=b) && leD r s
 | _,_=>false
def dO:∀ {a b:List Nat},leD a b=true->a.length=b.length/\∀ (i:Nat) x y,a[i]?=some x->b[i]?=some y->x<=y
 | [],[],_=>⟨rfl,fun i x y h=>by simp at h⟩
 | a :: r,b :: s,h=>by
  unfold leD at h;rw [Bool.and_eq_true] at h;obtain ⟨h1,h2⟩:=h;obtain ⟨h3,h4⟩:=dO h2;refine ⟨by rw [zac,zac,h3],fun i x y e1 e2=>?_⟩;cases i with
  | zero=>cases e1; cases e2; exact of_decide_eq_true h1
  | succ i=>exact h4 i x y e1 e2
 | [],_ :: _,h=>nomatch h
 | _ :: _,[],h=>nomatch h
def Lk (hd:leD ds0 ds=true) (h:tF K false ds ds' d f σ H Q):tF K p ds0 ds' d f σ H Q:=by
 obtain ⟨Ox,en,R,t,en',e,hf,k⟩:=h;obtain ⟨R1,s1,e1⟩:=e.cut (dO hd).1 (dO hd).2;refine ⟨Ox,en,R1,t,en',e1,hf,fun v H' R' F P o=>k v H' R' F ⟨P.env,P.fx,fun a o q n=>P.keep a o q fun i z=>n i (s1 i a z),fun a z=>(P.own a z).imp (fun ⟨i,z⟩=>⟨i,s1 i a z⟩) id,P.dom,fun z=>nomatch z⟩ o⟩
def KS (hd:leD ds0 ds=true) (h:tF K true ds ds 3 f σ H Q):tF K true ds0 ds0 3 f σ H Q:=by
 obtain ⟨Ox,en,R,t,en',e,hf,k⟩:=h;obtain ⟨R1,s1,e1⟩:=e.cut (dO hd).1 (dO hd).2;refine ⟨Ox,en,R1,t,en',e1,hf,fun v H' R' F P o=>?_⟩;obtain ⟨a1,a2,a3⟩:=P.pure rfl;subst a1 a2;have nf:∀ a,F a->H a=none:=fun a z=>by
  rcases P.own a (.inl z) with ⟨i,z2⟩ | z2
  ·exact absurd (.inl z) (P.env.dx i a z2)
  ·exact z2
 have nt:NewTo H H' F:=⟨a3,fun a z=>⟨nf a z,P.env.dom a (.inr (.inl z))⟩⟩;exact k v H' R F (Post.new e nt.1 nt.2) (Ow.full t o)
def KO {g:D->Option D} (h:tF K p ds ds1 d (e1 g f) σ H Q):tUn (rF1 K g d) (tF K p ds ds1 d1 f) σ H Q:=by
 obtain ⟨Ox,en,R,t,en',e,hf,k⟩:=h;unfold e1 at hf;obtain ⟨⟨t1,en1⟩,h1,hf⟩:=zaa.mp hf;obtain ⟨t',h3,hf⟩:=zab.mp hf;cases hf;refine ⟨Ox,en,R,t1,en1,e,h1,fun v H' R' F P o=>?_⟩;refine ⟨Own R' Ox,t1,t,Ow.letgo P (fun _ z=>z) o,P.doms,h3,fun v2 H2 F2 n o2=>k v2 H2 R' F2 (P.fin n) (pS ▸ o2)⟩
def pR {g:D->D->Option D} (h:tF K (p1 && p2) ds ds2 d (e2 g f1 f2) σ H Q):tOp (rF2 K g d) (tF K p1 ds ds1 d1 f1) (tF K p2 ds1 ds2 d2 f2) σ H Q:=by
 obtain ⟨Ox,en,R,t,en',e,hf,k⟩:=h;unfold e2 at hf;obtain ⟨⟨t1,en1⟩,h1,hf⟩:=zaa.mp hf;obtain ⟨⟨t2,en2⟩,h2,hf⟩:=zaa.mp hf;obtain ⟨t',h3,hf⟩:=zab.mp hf;cases hf;refine two e h1 h2 fun x y H2 R2 F1 F2 P o1 o2=>?_;exact ⟨Own R2 Ox,t1,t2,t,Ow.letgo P (fun _=>.inl) o1,Ow.letgo P (fun _=>.inr) o2,P.doms,h3,fun v2 H3 F3 n o3=>k v2 H3 R2 F3 (P.fin n) (pS ▸ o3)⟩
def Post.after {H1:Hp} {R1 R2:Nat->AS} {F1 F:AS} (P1:Post K p1 ds1 Ox σ H en R en1 H1 R1 F1) (P2:Post K p2 ds2 Ox σ H1 en1 R1 en2 H' R2 F):Post K (p1 && p2) ds2 Ox σ H en R en2 H' R2 F:=by
 have P1':=P1.less (F':=NoA) fun _ z=>z.elim;have P2':Post K p2 ds2 (U NoA Ox) σ H1 en1 R1 en2 H' R2 F:=by rw [ig]; exact P2
 have:=P1'.trans P2';rw [ig] at this;exact this
def Post.env0 {F:AS} (P:Post K p ds' Ox σ H en R en' H' R' F):EnvOk K ds' Ox H' σ en' R':=P.env.fewer fun a z=>.inr z
def KW (h:tF K (p1 && p2) ds ds1 d (kH f1 f2) σ H Q):DL (tF K p1 ds ds1 d1 f1) (tF K p2 ds1 ds1 d f2) σ H Q:=by
 obtain ⟨Ox,en,R,t,en',e,hf,k⟩:=h;unfold kH at hf;obtain ⟨⟨t1,en1⟩,h1,hf⟩:=zaa.mp hf;refine ⟨Ox,en,R,t1,en1,e,h1,fun v H1 R1 F1 P1 o1=>?_⟩;cases t1 with
 | bool b =>
  have ev:v=.bl b:=o1;refine ⟨b,ev,?_⟩;cases b with
  | true =>
   rw [if_pos rfl];exact ⟨Ox,en1,R1,t,en',P1.env0,hf,fun v2 H2 R2 F2 P2 o2=>k v2 H2 R2 F2 (P1.after P2) o2⟩
  | false =>
   cases hf;rw [if_neg Bool.false_ne_true];refine k _ H1 R1 NoA ?_ rfl
   have:=(P1.less (F':=NoA) fun _ z=>z.elim);exact ⟨this.env,this.fx,this.keep,this.own,this.dom,fun hp=>this.pure (by cases p1 <;> simp_all)⟩
 | _=>cases hf
def Li (h:tF K (p1 && p2) ds ds1 d (eOr f1 f2) σ H Q):HP (tF K p1 ds ds1 d1 f1) (tF K p2 ds1 ds1 d f2) σ H Q:=by
 obtain ⟨Ox,en,R,t,en',e,hf,k⟩:=h;unfold eOr at hf;obtain ⟨⟨t1,en1⟩,h1,hf⟩:=zaa.mp hf;refine ⟨Ox,en,R,t1,en1,e,h1,fun v H1 R1 F1 P1 o1=>?_⟩;cases t1 with
 | bool b =>
  have ev:v=.bl b:=o1;refine ⟨b,ev,?_⟩;cases b with
  | false =>
   rw [if_neg Bool.false_ne_true];exact ⟨Ox,en1,R1,t,en',P1.env0,hf,fun v2 H2 R2 F2 P2 o2=>k v2 H2 R2 F2 (P1.after P2) o2⟩
  | true =>
   cases hf;rw [if_pos rfl];refine k _ H1 R1 NoA ?_ rfl
   have:=(P1.less (F':=NoA) fun _ z=>z.elim);exact ⟨this.env,this.fx,this.keep,this.own,this.dom,fun hp=>this.pure (by cases p1 <;> simp_all)⟩
 | _=>cases hf
def KP (h:tF K p ds ds1 3 (on f) σ H Q):DG (tF K p ds ds1 d1 f) σ H Q:=by
 obtain ⟨Ox,en,R,t,en',e,hf,k⟩:=h;unfold on at hf;obtain ⟨⟨t1,en1⟩,h1,hf⟩:=zaa.mp hf;refine ⟨Ox,en,R,t1,en1,e,h1,fun v H1 R1 F1 P1 o1=>?_⟩;cases t1 with
 | bool b =>
  cases hf;exact ⟨b,o1,k _ H1 R1 NoA (P1.less fun _ z=>z.elim) rfl⟩
 | _=>cases hf
def tFT (K:PySem.W.Frag) (p:Bool) (ds ds':List Nat) (f:MT):TT:=fun σ H Q =>
 ∃ Ox en R b en',EnvOk K ds Ox H σ en R/\f en=some (b,en')/\∀ H' R',Post K p ds' Ox σ H en R en' H' R' NoA->Q b H'
variable {c c1 c2:MT} {QT:Bool->Hp->Prop}
def vS (h:tFT K p ds ds' (tV f) σ H QT):tB (tF K p ds ds' d f) σ H QT:=by
 obtain ⟨Ox,en,R,b,en',e,hf,k⟩:=h;unfold tV at hf;obtain ⟨⟨t1,en1⟩,h1,hf⟩:=zaa.mp hf;refine ⟨Ox,en,R,t1,en1,e,h1,fun v H1 R1 F1 P1 o1=>?_⟩;cases t1 with
 | bool b =>
  cases hf;exact ⟨_,o1,k H1 R1 (P1.less fun _ z=>z.elim)⟩
 | _=>cases hf
def Ji (h:tFT K (p1 && p2) ds ds1 (dJ c1 c2) σ H QT):HW (tFT K p1 ds ds1 c1) (tFT K p2 ds1 ds1 c2) σ H QT:=by
 obtain ⟨Ox,en,R,b,en',e,hf,k⟩:=h;unfold dJ at hf;obtain ⟨⟨b1,en1⟩,h1,hf⟩:=zaa.mp hf;refine ⟨Ox,en,R,b1,en1,e,h1,fun H1 R1 P1=>?_⟩;cases b1 with
 | true =>
  rw [if_pos rfl];exact ⟨Ox,en1,R1,b,en',P1.env0,hf,fun H2 R2 P2=>k H2 R2 (P1.after P2)⟩
 | false =>
  cases hf;rw [if_neg Bool.false_ne_true];exact k H1 R1 ⟨P1.env,P1.fx,P1.keep,P1.own,P1.dom,fun hp=>P1.pure (by cases p1 <;> simp_all)⟩
def Ky (h:tFT K (p1 && p2) ds ds1 (bOr c1 c2) σ H QT):tOr (tFT K p1 ds ds1 c1) (tFT K p2 ds1 ds1 c2) σ H QT:=by
 obtain ⟨Ox,en,R,b,en',e,hf,k⟩:=h;unfold bOr at hf;obtain ⟨⟨b1,en1⟩,h1,hf⟩:=zaa.mp hf;refine ⟨Ox,en,R,b1,en1,e,h1,fun H1 R1 P1=>?_⟩;cases b1 with
 | false =>
  rw [if_neg Bool.false_ne_true];exact ⟨Ox,en1,R1,b,en',P1.env0,hf,fun H2 R2 P2=>k H2 R2 (P1.after P2)⟩
 | true =>
  cases hf;rw [if_pos rfl];exact k H1 R1 ⟨P1.env,P1.fx,P1.keep,P1.own,P1.dom,fun hp=>P1.pure (by cases p1 <;> simp_all)⟩
def Jg (h:tFT K p ds ds1 (dD c) σ H QT):HQ (tFT K p ds ds1 c) σ H QT:=by
 obtain ⟨Ox,en,R,b,en',e,hf,k⟩:=h;unfold dD at hf;obtain ⟨⟨b1,en1⟩,h1,hf⟩:=zab.mp hf;cases hf;exact ⟨Ox,en,R,b1,_,e,h1,fun H1 R1 P1=>k H1 R1 P1⟩
def Jh (hd:leD ds0 ds=true) (h:tFT K true ds ds c σ H QT):tFT K true ds0 ds0 c σ H QT:=by
 obtain ⟨Ox,en,R,t,en',e,hf,k⟩:=h;obtain ⟨R1,s1,e1⟩:=e.cut (dO hd).1 (dO hd).2;refine ⟨Ox,en,R1,t,en',e1,hf,fun H' R' P=>?_⟩;obtain ⟨a1,a2,a3⟩:=P.pure rfl;subst a1 a2;exact k H' R (Post.new e a3 fun _ z=>z.elim)
def Lj (h:tF K (p && (p1 && p2)) ds ds2 d (eIf c f1 f2) σ H Q):tIf (tFT K p ds ds1 c) (tF K p1 ds1 ds2 d f1) (tF K p2 ds1 ds2 d f2) σ H Q:=by
 obtain ⟨Ox,en,R,t,en',e,hf,k⟩:=h;unfold eIf at hf;obtain ⟨⟨b1,en1⟩,h1,hf⟩:=zaa.mp hf;refine ⟨Ox,en,R,b1,en1,e,h1,fun H1 R1 P1=>?_⟩;cases b1 with
 | true =>
  rw [if_pos rfl];refine ⟨Ox,en1,R1,t,en',P1.env0,hf,fun v H2 R2 F2 P2 o2=>k v H2 R2 F2 ?_ o2⟩
  have:=P1.after P2;exact ⟨this.env,this.fx,this.keep,this.own,this.dom,fun hp=>this.pure (by cases p <;> cases p1 <;> simp_all)⟩
 | false =>
  rw [if_neg Bool.false_ne_true];refine ⟨Ox,en1,R1,t,en',P1.env0,hf,fun v H2 R2 F2 P2 o2=>k v H2 R2 F2 ?_ o2⟩
  have:=P1.after P2;exact ⟨this.env,this.fx,this.keep,this.own,this.dom,fun hp=>this.pure (by cases p <;> cases p1 <;> simp_all)⟩
end
abbrev Sh:=List (Nat ⊕ Nat)
def OwA (K:PySem.W.Frag) (O:AS) (H:Hp) (σ:St):List (D ⊕ Nat)->Sh->List V->AS->Prop
 | [],ds,vs,_=>ds=[]/\vs=[]
 | .inl t :: as,ds,vs,F=>∃ v r d dr,∃ F1 F2:AS,vs=v :: r/\ds=.inl d :: dr/\(∀ b,F1 b->F b)/\(∀ b,F2 b->F b)/\(∀ b,F1 b->¬ F2 b)/\Ow K O H t d v F1/\OwA K O H σ as dr r F2
 | .inr i :: as,ds,vs,F=>∃ v r dr,vs=v :: r/\ds=.inr i :: dr/\σ[i]?=some (some v)/\OwA K O H σ as dr r F
def tFA (K:PySem.W.Frag) (p:Bool) (ds ds':List Nat) (sh:Sh) (f:MA):TA:=fun σ H Q =>
 ∃ Ox en R as en',EnvOk K ds Ox H σ en R/\f en=some (as,en')/\∀ vs H' R' F,Post K p ds' Ox σ H en R en' H' R' F->OwA K (Own R' (U F Ox)) H' σ as sh vs F->Q vs H'
def bg (fa:MA):ME:=fun en=>(fa en).bind fun r=>(vals r.1).bind fun ts=>if ts.length<=sizeLine then some (.list ts,r.2) else none
def eX (fa:MA):ME:=fun en=>(fa en).bind fun r=>(vals r.1).bind fun ts=>if ts.length<=sizeLine then some (.tuple ts,r.2) else none
section
variable {K:PySem.W.Frag} {p p1 p2:Bool} {ds ds0 ds1 ds2 ds':List Nat} {Ox Ox' O O':AS} {H H':Hp} {σ:St} {en en' en1 en2:En} {R R':Nat->AS} {d d' d1 d2:Nat} {t t1 t2:D} {Q:VK} {f f1 f2:ME} {fa:MA} {sh:Sh} {QA:List V->Hp->Prop} {i:Nat}
def JR (h:tFA K true ds ds [] ag σ H QA):nQ σ H QA:=by
 obtain ⟨Ox,en,R,as,en',e,hf,k⟩:=h;cases hf;exact k [] H R NoA (Post.refl e) ⟨rfl,rfl⟩
def FF (h:tFA K (p1 && p2) ds ds2 (.inl d :: sh) (ad f fa) σ H QA):iu (tF K p1 ds ds1 d f) (tFA K p2 ds1 ds2 sh fa) σ H QA:=by
 obtain ⟨Ox,en,R,as,en',e,hf,k⟩:=h;unfold ad at hf;obtain ⟨⟨t1,en1⟩,h1,hf⟩:=zaa.mp hf;obtain ⟨⟨as2,en2⟩,h2,hf⟩:=zab.mp hf;cases hf;refine ⟨Ox,en,R,t1,en1,e,h1,fun x H1 R1 F1 P1 o1=>?_⟩;refine ⟨U F1 Ox,en1,R1,as2,en2,P1.env,h2,fun vs H2 R2 F2 P2 o2=>?_⟩;refine k (x :: vs) H2 R2 (U F1 F2) (P1.trans P2) ⟨x,vs,d,sh,F1,F2,rfl,rfl,fun _=>.inl,fun _=>.inr,fun b z1 z2=>P2.fx b z2 (.inl z1),Ow.over P1.env P2 o1,?_⟩;rw [<- nB];exact o2
def FD (h:tFA K p ds ds2 (.inr i :: sh) (aH i fa) σ H QA):iu (iJ i) (tFA K p ds ds2 sh fa) σ H QA:=by
 obtain ⟨Ox,en,R,as,en',e,hf,k⟩:=h;unfold aH at hf;obtain ⟨t0,h0,hf⟩:=zaa.mp hf;obtain ⟨⟨as2,en2⟩,h2,hf⟩:=zab.mp hf;cases hf;have q:en[i]?=some (some t0):=by
  cases q:en[i]? with
  | none=>rw [q] at h0; cases h0
  | some o=>rw [q] at h0; exact congrArg some h0
 obtain ⟨v,d,h1,_⟩:=e.at_ i t0 q;exact ⟨v,h1,Ox,en,R,as2,en2,e,h2,fun vs H2 R2 F2 P2 o2=>k (v :: vs) H2 R2 F2 P2 ⟨v,vs,sh,rfl,rfl,h1,o2⟩⟩
def bT (c:Nat):Sh->Bool
 | []=>true
 | .inl d :: r=>decide (c<=d) && bT c r
 | .inr _ :: _=>false
def OwA.ows:∀ {as:List (D ⊕ Nat)} {sh:Sh} {vs:List V} {F:AS} {ts:List D} {c:Nat},bT c sh=true->vals as=some ts->OwA K O H σ as sh vs F ->
  ∃ F':AS,(∀ b,F' b->F b)/\∀ O':AS,(∀ a,O' a->O a)->(∀ a,F a->O' a->F' a)->Ows K O' H ts c vs F'
 | [],_,_,F,ts,c,_,hv,h=>by
  cases hv;exact ⟨F,fun _ z=>z,fun _ _ _=>h.2⟩
 | .inl t :: as,_,_,F,ts,c,hs,hv,h=>by
  obtain ⟨v,r,d,dr,F1,F2,e1,e2,s1,s2,s3,h1,h2⟩:=h;subst e1 e2;unfold vals at hv;obtain ⟨ts',hv',e⟩:=zab.mp hv;subst e;unfold bT at hs;rw [Bool.and_eq_true] at hs;obtain ⟨G1,a1,a2⟩:=Ow.cut t (of_decide_eq_true hs.1) h1;obtain ⟨G2,b1,b2⟩:=OwA.ows hs.2 hv' h2;refine ⟨fun b=>G1 b\/G2 b,fun b hb=>hb.elim (fun z=>s1 _ (a1 _ z)) fun z=>s2 _ (b1 _ z),fun O' ho hx=>⟨v,r,G1,G2,rfl,fun b=>.inl,fun b=>.inr,fun b z1 z2=>s3 b (a1 b z1) (b1 b z2),a2 O' ho fun b hb hz=>?_,b2 O' ho fun b hb hz=>?_⟩⟩
  ·exact (hx b (s1 b hb) hz).elim id fun z=>absurd (b1 b z) (s3 b hb)
  ·exact (hx b (s2 b hb) hz).elim (fun z=>absurd hb (s3 b (a1 b z))) id
 | .inr i :: as,_,_,F,ts,c,_,hv,_=>by cases hv
def OwA.len:∀ {as:List (D ⊕ Nat)} {sh:Sh} {vs:List V} {F:AS},OwA K O H σ as sh vs F->vs.length=as.length
 | [],_,_,_,h=>by rw [h.2]; rfl
 | .inl t :: as,_,_,_,h=>by
  obtain ⟨v,r,d,dr,F1,F2,e1,e2,s1,s2,s3,h1,h2⟩:=h;rw [e1,zac,zac,h2.len]
 | .inr i :: as,_,_,_,h=>by
  obtain ⟨v,r,dr,e1,e2,e3,h2⟩:=h;rw [e1,zac,zac,h2.len]
def lT:∀ {as:List (D ⊕ Nat)} {ts:List D},vals as=some ts->ts.length=as.length
 | [],_,h=>by cases h; rfl
 | .inl t :: as,_,h=>by
  unfold vals at h;obtain ⟨ts',hv',e⟩:=zab.mp h;subst e;rw [zac,zac,lT hv']
 | .inr _ :: _,_,h=>by cases h
def v8 {g:List D->Option D} (hs:bT 0 sh=true) (h:tF K p ds ds1 d (eN g fa) σ H Q):tCB (rFn K g d) (tFA K p ds ds1 sh fa) σ H Q:=by
 obtain ⟨Ox,en,R,t,en',e,hf,k⟩:=h;unfold eN at hf;obtain ⟨⟨as,en1⟩,h1,hf⟩:=zaa.mp hf;obtain ⟨ts,h2,hf⟩:=zaa.mp hf;obtain ⟨t',h3,hf⟩:=zab.mp hf;cases hf;refine ⟨Ox,en,R,as,en1,e,h1,fun vs H1 R1 F P o=>?_⟩;obtain ⟨F',s1,s2⟩:=OwA.ows hs h2 o;have o2:Ows K (Own R1 Ox) H1 ts 0 vs F':=s2 _ (fun a z=>z.imp id .inr) fun a z z2=>by
  rcases z2 with ⟨i,z2⟩ | z2
  ·exact absurd (.inl z) (P.env.dx i a z2)
  ·exact absurd z2 (P.fx a z)
 exact ⟨Own R1 Ox,ts,t,Ows.any0 ts o2,P.doms,h3,fun v2 H2 F2 n o2=>k v2 H2 R1 F2 (P.fin n) (pS ▸ o2)⟩
def Post.add {H1:Hp} {F G:AS} (P:Post K p ds' Ox σ H en R en' H1 R' F) (n:NewTo H1 H' G):Post K p ds' Ox σ H en R en' H' R' (U F G):=by
 have P2:Post K true ds' (U F Ox) σ H1 en' R' en' H' R' G:=Post.new P.env n.1 n.2
 have:=P.trans P2;rw [Bool.and_true] at this;exact this
def bI {l:Addr} {o:HO} (hl:H l=none):NewTo H (upd H l o) (fun b=>b=l):=by
 refine ⟨fun a u q=>?_,fun a z=>?_⟩
 ·rw [aC]
  ·exact q
  ·intro z;subst z;rw [hl] at q;cases q
 ·subst z;exact ⟨hl,_,aL⟩
def KQ {c:Nat} (hs:bT c sh=true) (hd:dn d=c) (hz:d≠0) (h:tF K p ds ds1 d (bg fa) σ H Q):HR (tFA K p ds ds1 sh fa) σ H Q:=by
 obtain ⟨Ox,en,R,t,en',e,hf,k⟩:=h;unfold bg at hf;obtain ⟨⟨as,en1⟩,h1,hf⟩:=zaa.mp hf;obtain ⟨ts,h2,hf⟩:=zaa.mp hf;by_cases hlen:ts.length<=sizeLine
 case neg=>rw [if_neg hlen] at hf; cases hf
 rw [if_pos hlen] at hf;cases hf;refine ⟨Ox,en,R,as,en1,e,h1,fun vs H1 R1 F P o=>⟨?_,fun l hl=>?_⟩⟩
 ·rw [o.len,<- lT h2]; exact hlen
 obtain ⟨F',s1,s2⟩:=OwA.ows hs h2 o;have o2:=s2 (Own R1 (U F' Ox)) (fun a z=>z.imp id fun z=>z.imp (s1 a) id) fun a z z2=>by
  rcases z2 with ⟨i,z2⟩ | z2 | z2
  ·exact absurd (.inl z) (P.env.dx i a z2)
  ·exact z2
  ·exact absurd z2 (P.fx a z)
 have P':=(P.less s1).add (bI (o:=.lst vs) hl);have nl:∀ a,F' a->a≠l:=fun a z z2=>by
  subst z2;obtain ⟨o',q⟩:=P.env.dom a (.inr (.inl (s1 a z)));rw [hl] at q;cases q
 refine k (.ref l) (upd H1 l (.lst vs)) R1 _ P' ⟨l,vs,rfl,.inr ⟨hz,aL,.inr rfl,F',fun b z=>⟨.inl z,nl b z⟩,?_⟩⟩;rw [hd];refine Ows.mv (G:=F') ⟨fun a o q _=>(bI (o:=.lst vs) hl).1 a o q,fun a z=>?_⟩ ts (fun _ z=>z) o2;rcases z with z | (z | z) | z
 ·exact .inl (.inl z)
 ·exact .inl (.inr (.inl z))
 ·exact .inr (by rw [show a=l from z]; exact hl)
 ·exact .inl (.inr (.inr z))
def KM {c:Nat} (hs:bT c sh=true) (hd:dn d=c) (h:tF K p ds ds1 d (eX fa) σ H Q):HK (tFA K p ds ds1 sh fa) σ H Q:=by
 obtain ⟨Ox,en,R,t,en',e,hf,k⟩:=h;unfold eX at hf;obtain ⟨⟨as,en1⟩,h1,hf⟩:=zaa.mp hf;obtain ⟨ts,h2,hf⟩:=zaa.mp hf;by_cases hlen:ts.length<=sizeLine
 case neg=>rw [if_neg hlen] at hf; cases hf
 rw [if_pos hlen] at hf;cases hf;refine ⟨Ox,en,R,as,en1,e,h1,fun vs H1 R1 F P o=>⟨?_,fun l hl=>?_⟩⟩
 ·rw [o.len,<- lT h2]; exact hlen
 obtain ⟨F',s1,s2⟩:=OwA.ows hs h2 o;have o2:=s2 (Own R1 (U F' Ox)) (fun a z=>z.imp id fun z=>z.imp (s1 a) id) fun a z z2=>by
  rcases z2 with ⟨i,z2⟩ | z2 | z2
  ·exact absurd (.inl z) (P.env.dx i a z2)
  ·exact z2
  ·exact absurd z2 (P.fx a z)
 have nl:∀ a,Own R1 (U F' Ox) a->a≠l:=fun a z z2=>by
  subst z2;obtain ⟨o',q⟩:=P.env.dom a (z.imp id fun z=>z.imp (s1 a) id);rw [hl] at q;cases q
 by_cases hz:d=0
 ·subst hz;have P':=(P.less s1).add (G:=NoA) (H':=upd H1 l (.tup vs)) ⟨(bI (o:=.tup vs) hl).1,fun _ z=>z.elim⟩;have eq:U F' NoA=F':=fG fun a=>⟨fun z=>z.elim id fun z=>z.elim,.inl⟩;rw [eq] at P';refine k (.ref l) (upd H1 l (.tup vs)) R1 _ P' ⟨l,vs,rfl,.inl ⟨rfl,⟨aL,fun z=>nl l z rfl⟩,?_⟩⟩;have hc:c=0:=hd.symm;subst hc;exact Ows.mv (G:=F') ⟨fun a o q _=>(bI (o:=.tup vs) hl).1 a o q,fun a z=>.inl z⟩ ts (fun _ z=>z) o2
 ·have P':=(P.less s1).add (bI (o:=.tup vs) hl);refine k (.ref l) (upd H1 l (.tup vs)) R1 _ P' ⟨l,vs,rfl,.inr ⟨hz,aL,.inr rfl,F',fun b z=>⟨.inl z,nl b (.inr (.inl z))⟩,?_⟩⟩;rw [hd];refine Ows.mv (G:=F') ⟨fun a o q _=>(bI (o:=.tup vs) hl).1 a o q,fun a z=>?_⟩ ts (fun _ z=>z) o2;rcases z with z | (z | z) | z
  ·exact .inl (.inl z)
  ·exact .inl (.inr (.inl z))
  ·exact .inr (by rw [show a=l from z]; exact hl)
  ·exact .inl (.inr (.inr z))
end
def spF (K:PySem.W.Frag) (dps:List Nat) (dr:Nat) (F:List D->Option (D × En)):Sp:=fun vs H Q _ =>
 ∃ Ox ts R r outs,EnvOk K dps Ox H (vs.map some) (ts.map some) R/\F ts=some (r,outs) /\
  ∀ v H' R' Fr,Post K false dps Ox (vs.map some) H (ts.map some) R outs H' R' Fr->Ow K (Own R' (U Fr Ox)) H' r dr v Fr->Q v H'
def cq:List (D ⊕ Nat)->En->Option (List D)
 | [],_=>some []
 | .inl t :: r,en=>(cq r en).map (t :: ·)
 | .inr i :: r,en=>(en[i]?).join.bind fun t=>(cq r en).map (t :: ·)
def wb:List (D ⊕ Nat)->En->En->En
 | .inr i :: r,o :: outs,en=>wb r outs (en.set i o)
 | .inl _ :: r,_ :: outs,en=>wb r outs en
 | _,_,en=>en
def ak (F:List D->Option (D × En)) (fa:MA):ME:=fun en=>(fa en).bind fun r=>(cq r.1 r.2).bind fun ts=>(F ts).map fun q=>(q.1,wb r.1 q.2 r.2)
def jd:Sh->List Nat
 | []=>[]
 | .inl _ :: r=>jd r
 | .inr i :: r=>i :: jd r
def cZ (ds:List Nat):Sh->List Nat->Bool
 | [],[]=>true
 | .inl d :: r,q :: s=>decide (d=q) && cZ ds r s
 | .inr i :: r,q :: s=>decide (ds[i]?=some q) && (decide (i ∉ jd r) && cZ ds r s)
 | _,_=>false
def gq:Sh->Bool
 | []=>true
 | .inl _ :: r=>gq r
 | .inr _ :: _=>false
section
variable {K:PySem.W.Frag} {p p1 p2:Bool} {ds ds0 ds1 ds2 ds' dps:List Nat} {Ox Ox' O O':AS} {H H':Hp} {σ:St} {en en' en1 en2:En} {R R':Nat->AS} {d d' d1 d2 dr:Nat} {t t1 t2:D} {Q:VK} {f f1 f2:ME} {fa:MA} {sh:Sh} {QA:List V->Hp->Prop} {i:Nat}
def OwA.parts:∀ {as:List (D ⊕ Nat)} {sh:Sh} {vs:List V} {F:AS},OwA K O H σ as sh vs F ->
  ∃ Rp:Nat->AS,(∀ (j:Nat) t,as[j]?=some (.inl t)->∃ v d,vs[j]?=some v/\sh[j]?=some (.inl d)/\Ow K O H t d v (Rp j))/\(∀ (j i:Nat),as[j]?=some (.inr i)->∃ v,vs[j]?=some v/\sh[j]?=some (.inr i)/\σ[i]?=some (some v)) /\
   (∀ j a,Rp j a->F a)/\(∀ j j' a,Rp j a->Rp j' a->j=j')
 | [],sh,vs,F,h=>⟨fun _=>NoA,fun j t z=>by simp at z,fun j i z=>by simp at z,fun _ _ z=>z.elim,fun _ _ _ z=>z.elim⟩
 | .inl t :: as,sh,vs,F,h=>by
  obtain ⟨v,r,d,dr,F1,F2,e1,e2,s1,s2,s3,h1,h2⟩:=h;subst e1 e2;obtain ⟨Rp,a1,a2,a3,a4⟩:=h2.parts;refine ⟨fun j=>match j with | 0=>F1 | j+1=>Rp j,fun j u hj=>?_,fun j i hj=>?_,fun j a z=>?_,fun j j' a z z'=>?_⟩
  ·cases j with
   | zero =>
    have:t=u:=by simpa using hj
    subst this;exact ⟨v,d,rfl,rfl,h1⟩
   | succ j=>exact a1 j u (by simpa using hj)
  ·cases j with
   | zero=>simp at hj
   | succ j=>exact a2 j i (by simpa using hj)
  ·cases j with
   | zero=>exact s1 a z
   | succ j=>exact s2 a (a3 j a z)
  ·cases j with
   | zero =>
    cases j' with
    | zero=>rfl
    | succ j'=>exact absurd (a3 j' a z') (s3 a z)
   | succ j =>
    cases j' with
    | zero=>exact absurd (a3 j a z) (s3 a z')
    | succ j'=>rw [a4 j j' a z z']
 | .inr i :: as,sh,vs,F,h=>by
  obtain ⟨v,r,dr,e1,e2,e3,h2⟩:=h;subst e1 e2;obtain ⟨Rp,a1,a2,a3,a4⟩:=h2.parts;refine ⟨fun j=>match j with | 0=>NoA | j+1=>Rp j,fun j u hj=>?_,fun j i' hj=>?_,fun j a z=>?_,fun j j' a z z'=>?_⟩
  ·cases j with
   | zero=>simp at hj
   | succ j=>exact a1 j u (by simpa using hj)
  ·cases j with
   | zero =>
    have:i=i':=by simpa using hj
    subst this;exact ⟨v,rfl,rfl,e3⟩
   | succ j=>exact a2 j i' (by simpa using hj)
  ·cases j with
   | zero=>exact z.elim
   | succ j=>exact a3 j a z
  ·cases j with
   | zero=>exact z.elim
   | succ j =>
    cases j' with
    | zero=>exact z'.elim
    | succ j'=>rw [a4 j j' a z z']
def mB:∀ {as:List (D ⊕ Nat)} {en:En} {ts:List D},cq as en=some ts->ts.length=as.length/\∀ (j:Nat) t,ts[j]?=some t->as[j]?=some (.inl t)\/∃ i,as[j]?=some (.inr i)/\en[i]?=some (some t)
 | [],_,_,h=>by cases h; exact ⟨rfl,fun j t z=>by simp at z⟩
 | .inl t :: as,en,_,h=>by
  unfold cq at h;obtain ⟨ts',h',e⟩:=zab.mp h;subst e;obtain ⟨l,g⟩:=mB h';refine ⟨by rw [zac,zac,l],fun j u z=>?_⟩;cases j with
  | zero=>simp at z; subst z; exact .inl rfl
  | succ j=>exact g j u (by simpa using z)
 | .inr i :: as,en,_,h=>by
  unfold cq at h;obtain ⟨t,ht,h⟩:=zaa.mp h;obtain ⟨ts',h',e⟩:=zab.mp h;subst e;obtain ⟨l,g⟩:=mB h';refine ⟨by rw [zac,zac,l],fun j u z=>?_⟩;cases j with
  | zero =>
   simp at z;subst z;refine .inr ⟨i,rfl,?_⟩;cases q:en[i]? with
   | none=>rw [q] at ht; cases ht
   | some o=>rw [q] at ht; exact congrArg some ht
  | succ j=>exact g j u (by simpa using z)
def kJ:∀ {sh:Sh} {dps:List Nat},cZ ds sh dps=true->sh.length=dps.length/\(∀ (j d:Nat),sh[j]?=some (.inl d)->dps[j]?=some d)/\(∀ (j i:Nat),sh[j]?=some (.inr i)->∃ q,dps[j]?=some q/\ds[i]?=some q) /\
   (∀ (j j' i:Nat),sh[j]?=some (.inr i)->sh[j']?=some (.inr i)->j=j')
 | [],[],_=>⟨rfl,fun j d z=>by simp at z,fun j d z=>by simp at z,fun j j' d z=>by simp at z⟩
 | .inl d :: r,q :: s,h=>by
  unfold cZ at h;rw [Bool.and_eq_true] at h;obtain ⟨h1,h2⟩:=h;have h1':=of_decide_eq_true h1;subst h1';obtain ⟨l,a,b,c⟩:=kJ h2;refine ⟨by rw [zac,zac,l],fun j u z=>?_,fun j i z=>?_,fun j j' i z z'=>?_⟩
  ·cases j with
   | zero=>simp at z; subst z; rfl
   | succ j=>exact a j u (by simpa using z)
  ·cases j with
   | zero=>simp at z
   | succ j=>exact b j i (by simpa using z)
  ·cases j with
   | zero=>simp at z
   | succ j =>
    cases j' with
    | zero=>simp at z'
    | succ j'=>rw [c j j' i (by simpa using z) (by simpa using z')]
 | .inr i0 :: r,q :: s,h=>by
  unfold cZ at h;rw [Bool.and_eq_true,Bool.and_eq_true] at h;obtain ⟨h1,h2,h3⟩:=h;have h1':=of_decide_eq_true h1;have h2':=of_decide_eq_true h2;obtain ⟨l,a,b,c⟩:=kJ h3;have mem:∀ {r:Sh} {j i:Nat},r[j]?=some (.inr i)->i∈jd r:=fun {r}=>by
   induction r with
   | nil=>intro j i z; simp at z
   | cons x r ih =>
    intro j i z;cases j with
    | zero =>
     simp at z;subst z;unfold jd;exact zaq
    | succ j =>
     have:=ih (j:=j) (i:=i) (by simpa using z);cases x with
     | inl _=>exact this
     | inr _=>exact zaj _ this
  refine ⟨by rw [zac,zac,l],fun j u z=>?_,fun j i z=>?_,fun j j' i z z'=>?_⟩
  ·cases j with
   | zero=>simp at z
   | succ j=>exact a j u (by simpa using z)
  ·cases j with
   | zero=>simp at z; subst z; exact ⟨q,rfl,h1'⟩
   | succ j=>exact b j i (by simpa using z)
  ·cases j with
   | zero =>
    simp at z;subst z;cases j' with
    | zero=>rfl
    | succ j'=>exact absurd (mem (by simpa using z')) h2'
   | succ j =>
    cases j' with
    | zero =>
     simp at z';subst z';exact absurd (mem (by simpa using z)) h2'
    | succ j'=>rw [c j j' i (by simpa using z) (by simpa using z')]
 | [],_ :: _,h=>nomatch h
 | .inl _ :: _,[],h=>nomatch h
 | .inr _ :: _,[],h=>nomatch h
def pT:∀ (as:List (D ⊕ Nat)) (outs en:En),(wb as outs en).length=en.length
 | [],_,_=>by unfold wb; rfl
 | .inl _ :: as,[],_=>by unfold wb; rfl
 | .inr _ :: as,[],_=>by unfold wb; rfl
 | .inl _ :: as,o :: outs,en=>by unfold wb; exact pT as outs en
 | .inr i :: as,o :: outs,en=>by unfold wb; rw [pT as outs _,zaV]
def kh:∀ (as:List (D ⊕ Nat)) (outs en:En) (i:Nat),(∀ j:Nat,as[j]?≠some (.inr i))->(wb as outs en)[i]?=en[i]?
 | [],_,_,_,_=>by unfold wb; rfl
 | .inl _ :: as,[],_,_,_=>by unfold wb; rfl
 | .inr _ :: as,[],_,_,_=>by unfold wb; rfl
 | .inl _ :: as,o :: outs,en,i,h=>by unfold wb; exact kh as outs en i fun j=>h (j+1)
 | .inr k :: as,o :: outs,en,i,h=>by
  unfold wb;rw [kh as outs _ i fun j=>h (j+1),zaO];intro e;subst e;exact h 0 rfl
def tz:∀ (as:List (D ⊕ Nat)) (outs en:En) (i j:Nat),as[j]?=some (.inr i)->(∀ j':Nat,as[j']?=some (.inr i)->j'=j)->outs.length=as.length->i < en.length->(wb as outs en)[i]?=outs[j]?
 | [],_,_,_,_,h,_,_,_=>by simp at h
 | .inl _ :: as,[],_,_,_,_,_,h,_=>by simp at h
 | .inr _ :: as,[],_,_,_,_,_,h,_=>by simp at h
 | .inl _ :: as,o :: outs,en,i,j,h,u,l,b=>by
  unfold wb;cases j with
  | zero=>simp at h
  | succ j=>exact tz as outs en i j (by simpa using h) (fun j' z=>by have:=u (j'+1) (by simpa using z); omega) (by simpa using l) b
 | .inr k :: as,o :: outs,en,i,j,h,u,l,b=>by
  unfold wb;cases j with
  | zero =>
   have e:k=i:=by simpa using h
   subst e;rw [kh as outs _ k fun j' z=>by have:=u (j'+1) (by simpa using z); omega];rw [zaP b];rfl
  | succ j=>exact tz as outs _ i j (by simpa using h) (fun j' z=>by have:=u (j'+1) (by simpa using z); omega) (by simpa using l) (by rw [zaV]; exact b)
def OwA.shl:∀ {as:List (D ⊕ Nat)} {sh:Sh} {vs:List V} {F:AS},OwA K O H σ as sh vs F->sh.length=as.length
 | [],_,_,_,h=>by rw [h.1]; rfl
 | .inl t :: as,_,_,_,h=>by
  obtain ⟨v,r,d,dr,F1,F2,e1,e2,s1,s2,s3,h1,h2⟩:=h;rw [e2,zac,zac,h2.shl]
 | .inr i :: as,_,_,_,h=>by
  obtain ⟨v,r,dr,e1,e2,e3,h2⟩:=h;rw [e2,zac,zac,h2.shl]
def mV:∀ {sh:Sh},gq sh=true->∀ (j i:Nat),sh[j]?≠some (.inr i)
 | [],_,j,i,z=>by simp at z
 | .inl _ :: r,h,j,i,z=>by
  cases j with
  | zero=>simp at z
  | succ j=>exact mV (sh:=r) h j i (by simpa using z)
 | .inr _ :: r,h,_,_,_=>nomatch h
def xW {E:XK} {F:List D->Option (D × En)} (hc:cZ ds1 sh dps=true) (h:tF K (p && gq sh) ds ds1 dr (ak F fa) σ H Q):tN (spF K dps dr F) [] E (tFA K p ds ds1 sh fa) σ H Q:=by
 obtain ⟨Ox,en,R,t,en',e,hf,k⟩:=h;unfold ak at hf;obtain ⟨⟨as,en1⟩,h1,hf⟩:=zaa.mp hf;obtain ⟨ts,h2,hf⟩:=zaa.mp hf;obtain ⟨⟨r,outs⟩,h3,hf⟩:=zab.mp hf;cases hf;refine ⟨Ox,en,R,as,en1,e,h1,fun vs H1 R1 F0 P o=>?_⟩;obtain ⟨cl,c1,c2,c3⟩:=kJ hc;obtain ⟨Rp,a1,a2,a3,a4⟩:=o.parts;obtain ⟨tl,tg⟩:=mB h2;have ol:=o.len;have asl:∀ (j i:Nat),as[j]?=some (.inr i)->sh[j]?=some (.inr i):=fun j i z=>(a2 j i z).choose_spec.2.1;have asr:∀ (j i:Nat),sh[j]?=some (.inr i)->as[j]?=some (.inr i):=fun j i z=>by
  cases q:as[j]? with
  | none =>
   have e1:as.length<=j:=List.getElem?_eq_none_iff.mp q;have e2:j < sh.length:=(zah.mp z).1
   have:=o.shl;omega
  | some x =>
   cases x with
   | inl t =>
    obtain ⟨_,_,_,e2,_⟩:=a1 j t q;rw [z] at e2; cases e2
   | inr i' =>
    have:=asl j i' q;rw [z] at this;cases this;rfl
 let Rq:Nat->AS:=fun j=>match sh[j]? with | some (.inr i)=>R1 i | _=>Rp j
 have rq1:∀ j i:Nat,sh[j]?=some (.inr i)->Rq j=R1 i:=fun j i z=>by show (match sh[j]? with | some (.inr i)=>R1 i | _=>Rp j)=R1 i; rw [z]
 have rq2:∀ j:Nat,(∀ i:Nat,sh[j]?≠some (.inr i))->Rq j=Rp j:=fun j z=>by
  show (match sh[j]? with | some (.inr i)=>R1 i | _=>Rp j)=Rp j;split
  ·next i q=>exact absurd q (z i)
  ·rfl
 have rqc:∀ (j:Nat) a,Rq j a->(∃ i,sh[j]?=some (.inr i)/\R1 i a)\/Rp j a:=fun j a z=>by
  by_cases q:∃ i,sh[j]?=some (.inr i)
  ·obtain ⟨i,q⟩:=q;rw [rq1 j i q] at z;exact .inl ⟨i,q,z⟩
  ·rw [rq2 j fun i z=>q ⟨i,z⟩] at z;exact .inr z
 let Oxp:AS:=fun a=>Ox a\/∃ i,R1 i a/\∀ j:Nat,sh[j]?≠some (.inr i);have sub:∀ a,Own Rq Oxp a->Own R1 (U F0 Ox) a:=fun a z=>by
  rcases z with ⟨j,z⟩ | z | ⟨i,z,_⟩
  ·rcases rqc j a z with ⟨i,_,z⟩ | z
   ·exact .inl ⟨i,z⟩
   ·exact .inr (.inl (a3 j a z))
  ·exact .inr (.inr z)
  ·exact .inl ⟨i,z⟩
 have ec:EnvOk K dps Oxp H1 (vs.map some) (ts.map some) Rq:=by
  refine ⟨fun j u hu=>?_,fun j j' a z z'=>?_,fun j a z z2=>?_,fun a z=>P.env.dom a (sub a z),by rw [zad,zad,tl,ol],?_⟩
  ·rw [zao] at hu;obtain ⟨u',hu,eu⟩:=zab.mp hu;cases eu;rcases tg j u hu with q | ⟨i,q,qe⟩
   ·obtain ⟨v,d,b1,b2,b3⟩:=a1 j u q;refine ⟨v,d,by rw [zao,b1]; rfl,c1 j d b2,?_⟩;rw [rq2 j fun i z=>by rw [b2] at z; cases z];exact Ow.grow sub u (fun _ z=>z) b3
   ·obtain ⟨v,b1,b2,b3⟩:=a2 j i q;obtain ⟨v',d,g1,g2,g3⟩:=P.env.at_ i u qe;rw [b3] at g1;cases g1;obtain ⟨qd,q1,q2⟩:=c2 j i b2;rw [g2] at q2;cases q2;refine ⟨v,d,by rw [zao,b1]; rfl,q1,?_⟩;rw [rq1 j i b2];exact Ow.grow sub u (fun _ z=>z) g3
  ·rcases rqc j a z with ⟨i,q,z⟩ | z <;> rcases rqc j' a z' with ⟨i',q',z'⟩ | z'
   ·have:=P.env.dj i i' a z z';subst this;exact c3 j j' i q q'
   ·exact absurd (.inl (a3 j' a z')) (P.env.dx i a z)
   ·exact absurd (.inl (a3 j a z)) (P.env.dx i' a z')
   ·exact a4 j j' a z z'
  ·rcases rqc j a z with ⟨i,q,z⟩ | z
   ·rcases z2 with z2 | ⟨i',z2,n⟩
    ·exact P.env.dx i a z (.inr z2)
    ·have:=P.env.dj i i' a z z2;subst this;exact n j q
   ·rcases z2 with z2 | ⟨i',z2,n⟩
    ·exact P.fx a (a3 j a z) z2
    ·exact P.env.dx i' a z2 (.inl (a3 j a z))
  ·have:=o.shl;rw [zad];omega
 rw [List.append_nil];refine ⟨Oxp,ts,Rq,r,outs,ec,h3,fun v H2 R2 Fr Pc oc=>?_⟩;have outl:outs.length=as.length:=by rw [Pc.env.l1,zad]; exact ol
 classical
 let R3:Nat->AS:=fun i=>if q:∃ j:Nat,sh[j]?=some (.inr i) then R2 q.choose else R1 i
 have r31:∀ (i j:Nat),sh[j]?=some (.inr i)->R3 i=R2 j:=fun i j z=>by
  have q:∃ j:Nat,sh[j]?=some (.inr i):=⟨j,z⟩
  have:q.choose=j:=c3 _ _ i q.choose_spec z;show (if q:∃ j:Nat,sh[j]?=some (.inr i) then R2 q.choose else R1 i)=R2 j;rw [dif_pos q,this]
 have r32:∀ i:Nat,(∀ j:Nat,sh[j]?≠some (.inr i))->R3 i=R1 i:=fun i z=>by
  show (if q:∃ j:Nat,sh[j]?=some (.inr i) then R2 q.choose else R1 i)=R1 i;rw [dif_neg fun ⟨j,q⟩=>z j q]
 have r3c:∀ (i:Nat) a,R3 i a->(∃ j:Nat,sh[j]?=some (.inr i)/\R2 j a)\/((∀ j:Nat,sh[j]?≠some (.inr i))/\R1 i a):=fun i a z=>by
  by_cases q:∃ j:Nat,sh[j]?=some (.inr i)
  ·obtain ⟨j,q⟩:=q;rw [r31 i j q] at z;exact .inl ⟨j,q,z⟩
  ·rw [r32 i fun j z=>q ⟨j,z⟩] at z;exact .inr ⟨fun j z=>q ⟨j,z⟩,z⟩
 have sub3:∀ a,Own R3 (U Fr Ox) a->Own R2 (U Fr Oxp) a:=fun a z=>by
  rcases z with ⟨i,z⟩ | z | z
  ·rcases r3c i a z with ⟨j,_,z⟩ | ⟨n,z⟩
   ·exact .inl ⟨j,z⟩
   ·exact .inr (.inr (.inr ⟨i,z,n⟩))
  ·exact .inr (.inl z)
  ·exact .inr (.inr (.inl z))
 have back:∀ a,(Fr a\/∃ j,R2 j a)->Own R1 (U F0 Ox) a\/H1 a=none:=fun a z=>by
  rcases Pc.own a z with ⟨j,z⟩ | z
  ·exact .inl (sub a (.inl ⟨j,z⟩))
  ·exact .inr z
 have back2:∀ a,(Fr a\/∃ j,R2 j a)->(F0 a\/∃ i,R1 i a)\/H1 a=none:=fun a z=>by
  rcases Pc.own a z with ⟨j,z⟩ | z
  ·rcases rqc j a z with ⟨i,_,z⟩ | z
   ·exact .inl (.inr ⟨i,z⟩)
   ·exact .inl (.inl (a3 j a z))
  ·exact .inr z
 have n1:∀ a,H1 a=none->H a=none:=fun a z=>by
  cases q:H a with
  | none=>rfl
  | some o =>
   obtain ⟨o',q'⟩:=P.dom a o q;rw [z] at q';cases q'
 have rqsub:∀ j a,Rq j a->Own R1 (U F0 Ox) a:=fun j a z=>sub a (.inl ⟨j,z⟩);have env3:EnvOk K ds1 (U Fr Ox) H2 σ (wb as outs en1) R3:=by
  refine ⟨fun i u hu=>?_,fun i i' a z z'=>?_,fun i a z z2=>?_,fun a z=>Pc.env.dom a (sub3 a z),by rw [pT]; exact P.env.l1,P.env.l2⟩
  ·by_cases q:∃ j:Nat,as[j]?=some (.inr i)
   ·obtain ⟨j,q⟩:=q;obtain ⟨v,b1,b2,b3⟩:=a2 j i q;have hil:i < en1.length:=by rw [P.env.l1]; exact (zah.mp b3).1
    rw [tz as outs en1 i j q (fun j' z=>c3 j' j i (asl j' i z) b2) outl hil] at hu;obtain ⟨v',d,g1,g2,g3⟩:=Pc.env.at_ j u hu;rw [zao,b1] at g1;cases g1;obtain ⟨qd,q1,q2⟩:=c2 j i b2;rw [g2] at q1;cases q1;refine ⟨v,d,b3,q2,?_⟩;rw [r31 i j b2];exact Ow.grow sub3 u (fun _ z=>z) g3
   ·rw [kh as outs en1 i fun j z=>q ⟨j,z⟩] at hu;have ns:∀ j:Nat,sh[j]?≠some (.inr i):=fun j z=>q ⟨j,asr j i z⟩;obtain ⟨v,d,g1,g2,g3⟩:=P.env.at_ i u hu;refine ⟨v,d,g1,g2,?_⟩;rw [r32 i ns];refine Ow.mv (G:=R1 i) ⟨fun a o q z=>Pc.keep a o q fun j zj=>?_,fun a z=>?_⟩ u (fun _ z=>z) g3
    ·rcases z with z | z
     ·exact z (rqsub j a zj)
     ·rcases rqc j a zj with ⟨i',q',z'⟩ | z'
      ·have:=P.env.dj i i' a z z';subst this;exact ns j q'
      ·exact P.env.dx i a z (.inl (a3 j a z'))
    ·rcases z with ⟨i',z⟩ | z | z
     ·rcases r3c i' a z with ⟨j,_,z⟩ | ⟨n,z⟩
      ·exact back a (.inr ⟨j,z⟩)
      ·exact .inl (.inl ⟨i',z⟩)
     ·exact back a (.inl z)
     ·exact .inl (.inr (.inr z))
  ·rcases r3c i a z with ⟨j,q,z⟩ | ⟨n,z⟩ <;> rcases r3c i' a z' with ⟨j',q',z'⟩ | ⟨n',z'⟩
   ·have:=Pc.env.dj j j' a z z';subst this;rw [q] at q';cases q';rfl
   ·exact absurd (.inr (.inr ⟨i',z',n'⟩)) (Pc.env.dx j a z)
   ·exact absurd (.inr (.inr ⟨i,z,n⟩)) (Pc.env.dx j' a z')
   ·exact P.env.dj i i' a z z'
  ·rcases r3c i a z with ⟨j,q,z⟩ | ⟨n,z⟩
   ·exact Pc.env.dx j a z (z2.imp id .inl)
   ·rcases z2 with z2 | z2
    ·exact Pc.fx a z2 (.inr ⟨i,z,n⟩)
    ·exact P.env.dx i a z (.inr z2)
 refine k v H2 R3 Fr ⟨env3,fun a z z2=>Pc.fx a z (.inl z2),fun a o q n=>?_,fun a z=>?_,fun a o q=>?_,fun hp=>?_⟩ (Ow.grow sub3 r (fun _ z=>z) oc)
 ·refine Pc.keep a o (P.keep a o q n) fun j z=>?_;have nn:∀ i,¬ R1 i a:=fun i z=>by
   rcases P.own a (.inr ⟨i,z⟩) with ⟨i',z⟩ | z
   ·exact n i' z
   ·rw [q] at z; cases z
  rcases rqc j a z with ⟨i,_,z⟩ | z
  ·exact nn i z
  ·rcases P.own a (.inl (a3 j a z)) with ⟨i',z⟩ | z
   ·exact n i' z
   ·rw [q] at z; cases z
 ·have:(F0 a\/∃ i,R1 i a)\/H1 a=none:=by
   rcases z with z | ⟨i,z⟩
   ·exact back2 a (.inl z)
   ·rcases r3c i a z with ⟨j,_,z⟩ | ⟨n,z⟩
    ·exact back2 a (.inr ⟨j,z⟩)
    ·exact .inl (.inr ⟨i,z⟩)
  rcases this with z | z
  ·exact P.own a z
  ·exact .inr (n1 a z)
 ·obtain ⟨o',q'⟩:=P.dom a o q;exact Pc.dom a o' q'
 ·obtain ⟨hp1,hp2⟩:=(Bool.and_eq_true _ _ ▸ hp:p=true/\gq sh=true);obtain ⟨b1,b2,b3⟩:=P.pure hp1;have ns:=mV hp2;refine ⟨?_,?_,fun a o q=>?_⟩
  ·show wb as outs en1=en;rw [<- b1];refine List.ext_getElem? fun i=>?_;exact kh as outs en1 i fun j z=>ns j i (asl j i z)
  ·rw [<- b2]
   funext i
   exact r32 i fun j=>ns j i
  ·refine Pc.keep a o (b3 a o q) fun j z=>?_;rcases rqc j a z with ⟨i,z,_⟩ | z
   ·exact ns j i z
   ·have zf:=a3 j a z;rcases P.own a (.inl zf) with ⟨i,z2⟩ | z2
    ·rw [<- b2] at z2;exact P.env.dx i a z2 (.inl zf)
    ·rw [q] at z2; cases z2
end
inductive Fl where
 | nx (en:En) | rt (t:D) (en:En) | ct (en:En)
abbrev MS:=En->Option Fl
structure Jd where
 lk:List Nat
 dsr:List Nat
 dr:Nat
 dsl:List Nat
structure PostS (K:PySem.W.Frag) (lk:List Nat) (ds':List Nat) (Ox:AS) (σ:St) (H:Hp) (R:Nat->AS) (σ':St) (en':En) (H':Hp) (R':Nat->AS) (F:AS):Prop where
 env:EnvOk K ds' (U F Ox) H' σ' en' R'
 fx:∀ a,F a->¬ Ox a
 keep:∀ a o,H a=some o->(∀ i,¬ R i a)->H' a=some o
 own:∀ a,(F a\/∃ i,R' i a)->(∃ i,R i a)\/H a=none
 dom:∀ a o,H a=some o->∃ o',H' a=some o'
 lk:∀ j∈lk,σ'[j]?=σ[j]?
def tFS (K:PySem.W.Frag) (J:Jd) (ds ds':List Nat) (f:MS):TS:=fun D σ H =>
 ∃ Ox en R fl,EnvOk K ds Ox H σ en R/\f en=some fl/\match fl with
  | .nx en'=>∀ σ' H' R',PostS K J.lk ds' Ox σ H R σ' en' H' R' NoA->D.nx σ' H'
  | .ct en'=>∀ σ' H' R',PostS K J.lk J.dsl Ox σ H R σ' en' H' R' NoA->D.ct σ' H'
  | .rt t en'=>∀ v σ' H' R' F,PostS K J.lk J.dsr Ox σ H R σ' en' H' R' F->Ow K (Own R' (U F Ox)) H' t J.dr v F->D.rt v H'
def ai (f g:MS):MS:=fun en=>(f en).bind fun fl=>match fl with
 | .nx en1=>g en1
 | .rt t en1=>some (.rt t en1)
 | .ct en1=>some (.ct en1)
def al (i:Nat) (f:ME):MS:=fun en=>(f en).map fun r=>.nx (r.2.set i (some r.1))
def bQ (f:ME):MS:=fun en=>(f en).map fun r=>.nx r.2
def aB (f:ME):MS:=fun en=>(f en).map fun r=>.rt r.1 r.2
def Lz:MS:=fun en=>some (.rt .none en)
def aZ:MS:=fun en=>some (.nx en)
def LA:MS:=fun en=>some (.ct en)
def df:MS:=fun _=>none
def sIf (c:MT) (f g:MS):MS:=fun en=>(c en).bind fun r=>if r.1 then f r.2 else g r.2
section
variable {K:PySem.W.Frag} {p p1 p2:Bool} {J:Jd} {lk:List Nat} {ds ds0 ds1 ds2 ds':List Nat} {Ox Ox' O O':AS} {H H':Hp} {σ σ':St} {en en' en1 en2:En} {R R':Nat->AS} {d d' d1 d2 dr:Nat} {t t1 t2:D} {f f1 f2:ME} {c:MT} {m m1 m2:MS} {i:Nat} {D:Ends}
def PostS.refl (e:EnvOk K ds Ox H σ en R):PostS K lk ds Ox σ H R σ en H R NoA :=
 ⟨by rw [ig]; exact e,fun _ z=>z.elim,fun _ _ q _=>q,fun a z=>z.elim (fun z=>z.elim) .inl,fun a o q=>⟨o,q⟩,fun _ _=>rfl⟩
def PostS.env0 {F:AS} (P:PostS K lk ds' Ox σ H R σ' en' H' R' F):EnvOk K ds' Ox H' σ' en' R':=P.env.fewer fun a z=>.inr z
def PostS.less {F F':AS} (P:PostS K lk ds' Ox σ H R σ' en' H' R' F) (h:∀ a,F' a->F a):PostS K lk ds' Ox σ H R σ' en' H' R' F' :=
 ⟨P.env.fewer fun a z=>z.imp (h a) id,fun a z=>P.fx a (h a z),P.keep,fun a z=>P.own a (z.imp (h a) id),P.dom,P.lk⟩
def PostS.after {σ1 σ2:St} {H1:Hp} {R1 R2:Nat->AS} {F:AS} (P1:PostS K lk ds1 Ox σ H R σ1 en1 H1 R1 NoA) (P2:PostS K lk ds2 Ox σ1 H1 R1 σ2 en2 H' R2 F):PostS K lk ds2 Ox σ H R σ2 en2 H' R2 F:=by
 have n1:∀ a,H1 a=none->H a=none:=fun a z=>by
  cases q:H a with
  | none=>rfl
  | some o =>
   obtain ⟨o',q'⟩:=P1.dom a o q;rw [z] at q';cases q'
 refine ⟨P2.env,P2.fx,fun a o q n=>?_,fun a z=>?_,fun a o q=>?_,fun j hj=>(P2.lk j hj).trans (P1.lk j hj)⟩
 ·refine P2.keep a o (P1.keep a o q n) fun i z=>?_;rcases P1.own a (.inr ⟨i,z⟩) with ⟨j,z⟩ | z
  ·exact n j z
  ·rw [q] at z; cases z
 ·rcases P2.own a z with z | z
  ·exact P1.own a (.inr z)
  ·exact .inr (n1 a z)
 ·obtain ⟨o',q'⟩:=P1.dom a o q;exact P2.dom a o' q'
def Post.s {F:AS} (P:Post K p ds' Ox σ H en R en' H' R' F):PostS K lk ds' Ox σ H R σ en' H' R' F:=⟨P.env,P.fx,P.keep,P.own,P.dom,fun _ _=>rfl⟩
def PostS.cut {F:AS} (P:PostS K lk ds1 Ox σ H R σ' en' H' R' F) (hd:leD ds2 ds1=true):∃ R2,(∀ i a,R2 i a->R' i a)/\PostS K lk ds2 Ox σ H R σ' en' H' R2 F:=by
 obtain ⟨R2,s1,e2⟩:=P.env.cut (dO hd).1 (dO hd).2;exact ⟨R2,s1,e2,P.fx,P.keep,fun a z=>P.own a (z.imp id fun ⟨i,z⟩=>⟨i,s1 i a z⟩),P.dom,P.lk⟩
def Jm (h:tFS K J ds ds aZ D σ H):DH D σ H:=by
 obtain ⟨Ox,en,R,fl,e,hf,k⟩:=h;cases hf;exact k σ H R (PostS.refl e)
def Jk (h:tFS K J ds ds2 (ai m1 m2) D σ H):HL (tFS K J ds ds1 m1) (tFS K J ds1 ds2 m2) D σ H:=by
 obtain ⟨Ox,en,R,fl,e,hf,k⟩:=h;unfold ai at hf;obtain ⟨fl1,h1,hf⟩:=zaa.mp hf;refine ⟨Ox,en,R,fl1,e,h1,?_⟩;cases fl1 with
 | nx en1 =>
  intro σ1 H1 R1 P1;refine ⟨Ox,en1,R1,fl,P1.env0,hf,?_⟩;cases fl with
  | nx en2=>exact fun σ2 H2 R2 P2=>k σ2 H2 R2 (P1.after P2)
  | ct en2=>exact fun σ2 H2 R2 P2=>k σ2 H2 R2 (P1.after P2)
  | rt t en2=>exact fun v σ2 H2 R2 F P2 o=>k v σ2 H2 R2 F (P1.after P2) o
 | ct en1=>cases hf; exact k
 | rt t en1=>cases hf; exact k
def Jj (hd:leD ds1 ds2=true) (h:tFS K J ds ds1 m D σ H):tFS K J ds ds2 m D σ H:=by
 obtain ⟨Ox,en,R,fl,e,hf,k⟩:=h;refine ⟨Ox,en,R,fl,e,hf,?_⟩;cases fl with
 | nx en2 =>
  intro σ2 H2 R2 P2;obtain ⟨R3,_,P3⟩:=P2.cut hd;exact k σ2 H2 R3 P3
 | ct en2=>exact k
 | rt t en2=>exact k
def Jo (h:tFS K J ds ds1 (bQ f) D σ H):DI (tF K p ds ds1 d f) D σ H:=by
 obtain ⟨Ox,en,R,fl,e,hf,k⟩:=h;unfold bQ at hf;obtain ⟨⟨t,en1⟩,h1,hf⟩:=zab.mp hf;cases hf;exact ⟨Ox,en,R,t,en1,e,h1,fun v H1 R1 F P o=>k σ H1 R1 (P.s.less fun _ z=>z.elim)⟩
def Jl (hd:leD J.dsr ds1=true) (h:tFS K J ds ds' (aB f) D σ H):HM (tF K p ds ds1 J.dr f) D σ H:=by
 obtain ⟨Ox,en,R,fl,e,hf,k⟩:=h;unfold aB at hf;obtain ⟨⟨t,en1⟩,h1,hf⟩:=zab.mp hf;cases hf;refine ⟨Ox,en,R,t,en1,e,h1,fun v H1 R1 F P o=>?_⟩;obtain ⟨R2,s1,P2⟩:=(P.s (lk:=J.lk)).cut hd;exact k v σ H1 R2 F P2 (Ow.grow (fun a z=>z.imp (fun ⟨i,z⟩=>⟨i,s1 i a z⟩) id) t (fun _ z=>z) o)
def xA (h:tFS K J ds ds' df D σ H):p7 D σ H:=by
 obtain ⟨Ox,en,R,fl,e,hf,k⟩:=h;cases hf
def Kz (h:tFS K J ds ds2 (sIf c m1 m2) D σ H):HS (tFT K p ds ds1 c) (tFS K J ds1 ds2 m1) (tFS K J ds1 ds2 m2) D σ H:=by
 obtain ⟨Ox,en,R,fl,e,hf,k⟩:=h;unfold sIf at hf;obtain ⟨⟨b,en1⟩,h1,hf⟩:=zaa.mp hf;refine ⟨Ox,en,R,b,en1,e,h1,fun H1 R1 P1=>?_⟩;have fin:∀ m,m en1=some fl->tFS K J ds1 ds2 m D σ H1:=fun m hm=>by
  refine ⟨Ox,en1,R1,fl,P1.env0,hm,?_⟩;cases fl with
  | nx en2=>exact fun σ2 H2 R2 P2=>k σ2 H2 R2 (P1.s.after P2)
  | ct en2=>exact fun σ2 H2 R2 P2=>k σ2 H2 R2 (P1.s.after P2)
  | rt t en2=>exact fun v σ2 H2 R2 F P2 o=>k v σ2 H2 R2 F (P1.s.after P2) o
 cases b with
 | true=>exact fin m1 hf
 | false=>exact fin m2 hf
def PostS.store {F:AS} {v:V} (P:Post K p ds1 Ox σ H en R en1 H' R' F) (o:Ow K (Own R' (U F Ox)) H' t d v F) (hi:i < ds1.length) (hl:i ∉ lk) :
  PostS K lk (ds1.set i d) Ox σ H R (σ.set i (some v)) (en1.set i (some t)) H' (fun j=>if j=i then F else R' j) NoA:=by
 have l1:=P.env.l1;have l2:=P.env.l2;have sub:∀ a,Own (fun j=>if j=i then F else R' j) Ox a->Own R' (U F Ox) a:=fun a z=>by
  rcases z with ⟨j,z⟩ | z
  ·by_cases hj:j=i
   ·rw [if_pos hj] at z; exact .inr (.inl z)
   ·rw [if_neg hj] at z; exact .inl ⟨j,z⟩
  ·exact .inr (.inr z)
 refine ⟨?_,fun _ z=>z.elim,P.keep,fun a z=>?_,P.dom,fun j hj=>?_⟩
 ·rw [ig];refine ⟨fun j u hu=>?_,fun j j' a z z'=>?_,fun j a z z2=>?_,fun a z=>P.env.dom a (sub a z),by rw [zaV,zaV]; exact l1,by rw [zaV,zaV]; exact l2⟩
  ·by_cases hj:j=i
   ·subst hj;rw [zaP (by omega)] at hu;cases hu;refine ⟨v,d,zaP (by omega),zaP hi,?_⟩;rw [if_pos rfl];exact Ow.grow sub t (fun _ z=>z) o
   ·rw [zaO (Ne.symm hj)] at hu;obtain ⟨v',d',g1,g2,g3⟩:=P.env.at_ j u hu;refine ⟨v',d',by rw [zaO (Ne.symm hj)]; exact g1,by rw [zaO (Ne.symm hj)]; exact g2,?_⟩;rw [if_neg hj];exact Ow.grow sub u (fun _ z=>z) g3
  ·by_cases hj:j=i <;> by_cases hj':j'=i
   ·rw [hj,hj']
   ·rw [if_pos hj] at z; rw [if_neg hj'] at z';exact absurd (.inl z) (P.env.dx j' a z')
   ·rw [if_neg hj] at z; rw [if_pos hj'] at z';exact absurd (.inl z') (P.env.dx j a z)
   ·rw [if_neg hj] at z; rw [if_neg hj'] at z';exact P.env.dj j j' a z z'
  ·by_cases hj:j=i
   ·rw [if_pos hj] at z;exact P.fx a z z2
   ·rw [if_neg hj] at z;exact P.env.dx j a z (.inr z2)
 ·rcases z with z | ⟨j,z⟩
  ·exact z.elim
  ·by_cases hj:j=i
   ·rw [if_pos hj] at z; exact P.own a (.inl z)
   ·rw [if_neg hj] at z; exact P.own a (.inr ⟨j,z⟩)
 ·rw [zaO];intro z;subst z;exact hl hj
def vT (hi:i < ds1.length) (hl:i ∉ J.lk) (h:tFS K J ds (ds1.set i d) (al i f) D σ H):p8 (tF K p ds ds1 d f) (m8 i) D σ H:=by
 obtain ⟨Ox,en,R,fl,e,hf,k⟩:=h;unfold al at hf;obtain ⟨⟨t,en1⟩,h1,hf⟩:=zab.mp hf;cases hf;exact ⟨Ox,en,R,t,en1,e,h1,fun v H1 R1 F P o=>k _ H1 _ (PostS.store P o hi hl)⟩
abbrev MG:=PyData->En->Option En
def tFG (K:PySem.W.Frag) (lk:List Nat) (ds ds':List Nat) (g:MG):TG:=fun v σ H Q =>
 ∃ Ox en R t en',EnvOk K ds Ox H σ en R/\Ow K (Own R Ox) H t 0 v NoA/\g t en=some en'/\∀ σ' R',PostS K lk ds' Ox σ H R σ' en' H R' NoA->(∀ j∈lk,R' j=R j)->Q σ' H
def gx (K:PySem.W.Frag) (lk:List Nat) (ds ds':List Nat) (g:List PyData->En->Option En):TGs:=fun vs σ H Q =>
 ∃ Ox en R ts en',EnvOk K ds Ox H σ en R/\Ows K (Own R Ox) H ts 0 vs NoA/\g ts en=some en'/\∀ σ' R',PostS K lk ds' Ox σ H R σ' en' H R' NoA->(∀ j∈lk,R' j=R j)->Q σ' H
def gN (i:Nat):MG:=fun t en=>some (en.set i (some t))
def gs0:List PyData->En->Option En:=fun ts en=>match ts with
 | []=>some en
 | _=>none
def gsC (g:MG) (r:List PyData->En->Option En):List PyData->En->Option En:=fun ts en=>match ts with
 | t :: ts=>(g t en).bind fun en1=>r ts en1
 | []=>none
def gT (g:List PyData->En->Option En):MG:=fun t en=>match t with
 | .tuple ts=>g ts en
 | _=>none
variable {g g1:MG} {gs:List PyData->En->Option En} {v:V} {vs:List V} {QS:St->Hp->Prop}
def Fw (hi:i < ds.length) (hl:i ∉ lk) (h:tFG K lk ds (ds.set i 0) (gN i) v σ H QS):m8 i v σ H QS:=by
 obtain ⟨Ox,en,R,t,en',e,o,hf,k⟩:=h;cases hf;exact k _ _ (PostS.store (p:=true) (Post.refl e) (by rw [show (fun _=>False:AS)=NoA from rfl,ig]; exact o) hi hl) fun j hj=>if_neg (fun (z:j=i)=>hl (by rw [<- z]; exact hj))
def Fu (h:gx K lk ds ds gs0 vs σ H QS):Jc vs σ H QS:=by
 obtain ⟨Ox,en,R,ts,en',e,o,hf,k⟩:=h;cases ts with
 | nil=>cases hf; exact ⟨o,k σ R (PostS.refl e) fun _ _=>rfl⟩
 | cons t ts=>cases hf
def xI (h:gx K lk ds ds2 (gsC g gs) vs σ H QS):Ea (tFG K lk ds ds1 g) (gx K lk ds1 ds2 gs) vs σ H QS:=by
 obtain ⟨Ox,en,R,ts,en',e,o,hf,k⟩:=h;cases ts with
 | nil=>cases hf
 | cons t ts =>
  obtain ⟨en1,h1,h2⟩:=zaa.mp hf;obtain ⟨v,r,F1,F2,e1,s1,s2,s3,o1,o2⟩:=o;refine ⟨v,r,e1,Ox,en,R,t,en1,e,Ow.any0 t o1,h1,fun σ1 R1 P1 r1=>?_⟩;refine ⟨Ox,en1,R1,ts,en',P1.env0,Ows.any0 ts (Ows.mv (G:=NoA) ⟨fun a o q _=>q,fun a z=>?_⟩ ts (F:=NoA) (fun _ z=>z) (Ows.any0 ts o2)),h2,fun σ2 R2 P2 r2=>k σ2 R2 (P1.after P2) fun j hj=>(r2 j hj).trans (r1 j hj)⟩;rcases z with z | z
  ·exact (P1.own a (.inr z)).imp .inl id
  ·exact .inl (.inr z)
def Jw {n:Nat} (hn:∀ ts en,(∃ en',gs ts en=some en')->ts.length=n) (h:tFG K lk ds ds1 (gT gs) v σ H QS):Ja K n (gx K lk ds ds1 gs) v σ H QS:=by
 obtain ⟨Ox,en,R,t,en',e,o,hf,k⟩:=h;cases t with
 | tuple ts =>
  have hf':gs ts en=some en':=hf;obtain ⟨a,vs,e1,⟨_,h1,h2⟩ | ⟨z,_⟩⟩:=o
  ·refine ⟨a,vs,e1,h1.sq,?_,Ox,en,R,ts,en',e,h2,hf',k⟩;rw [<- hn ts en ⟨en',hf'⟩]
   have:∀ {ts:List PyData} {vs:List V} {F:AS},Ows K (Own R Ox) H ts 0 vs F->vs.length=ts.length:=fun {ts}=>by
    induction ts with
    | nil=>intro vs F h; rw [show vs=[] from h]; rfl
    | cons t ts ih =>
     intro vs F h;obtain ⟨v,r,F1,F2,e,h1,h2,h3,h4,h5⟩:=h;rw [e,zac,zac,ih h5]
   exact this h2
  ·exact absurd rfl z
 | _=>cases hf
abbrev MI:=En->Option (List PyData × En)
def mC (K:PySem.W.Frag) (O:AS) (H0:Hp) (J:It) (ts:List PyData):Prop :=
 ∀ (i:Nat) (H:Hp) (O1:AS),(∀ a o,H0 a=some o->¬ O a->H a=some o)->(∀ a,O1 a->O a\/H0 a=none)->(∀ a,O1 a->∃ o,H a=some o) ->
  (∀ t,ts[i]?=some t->J.go i H/\∀ x H1,J.yld i H x H1->(∀ a o,H a=some o->H1 a=some o)/\Ow K O1 H1 t 0 x NoA)/\(ts.length=i->J.stop i H)
def tFI (K:PySem.W.Frag) (p:Bool) (ds ds':List Nat) (f:MI):TI:=fun σ H RJ =>
 ∃ Ox en R ts en',EnvOk K ds Ox H σ en R/\f en=some (ts,en')/\∀ J H' R',Post K p ds' Ox σ H en R en' H' R' NoA->mC K (Own R' Ox) H' J ts->RJ J H'
def cG (g:MG) (b:MS):List PyData->En->Option Fl
 | [],en=>some (.nx en)
 | t :: ts,en=>(g t en).bind fun en1=>(b en1).bind fun fl=>match fl with
  | .nx en2=>cG g b ts en2
  | .ct en2=>cG g b ts en2
  | .rt r en2=>some (.rt r en2)
def cF (fi:MI) (g:MG) (b:MS):MS:=fun en=>(fi en).bind fun r=>cG g b r.1 r.2
def Jn {fi:MI} (h:tFS K J ds ds1 (cF fi g m) D σ H):HU (tFI K p ds ds1 fi) (tFG K J.lk ds1 ds2 g) (tFS K { J with dsl:=ds1 } ds2 ds1 m) D σ H:=by
 obtain ⟨Ox,en,R,fl,e,hf,k⟩:=h;unfold cF at hf;obtain ⟨⟨ts,en1⟩,h1,hf⟩:=zaa.mp hf;refine ⟨Ox,en,R,ts,en1,e,h1,fun Jt H1 R1 P1 wk=>?_⟩;refine ⟨fun i n σ' H'=>∃ en' R',n=ts.length - i/\i<=ts.length/\PostS K J.lk ds1 Ox σ H1 R1 σ' en' H' R' NoA/\cG g m (ts.drop i) en'=some fl,⟨_,en1,R1,rfl,Nat.zero_le _,PostS.refl P1.env0,hf⟩,?_⟩;rintro i n σ2 H2 ⟨en2,R2,rfl,hi,P2,hr⟩;obtain ⟨w1,w2⟩:=wk i H2 (Own R2 Ox) (fun a o q z=>P2.keep a o q fun j zj=>z (.inl ⟨j,zj⟩)) (fun a z=>by
  rcases z with z | z
  ·exact (P2.own a (.inr z)).imp .inl id
  ·exact .inl (.inr z)) fun a z=>P2.env0.dom a z
 by_cases hlt:i < ts.length
 ·obtain ⟨go,yl⟩:=w1 ts[i] (zak hlt);have hd:ts.drop i=ts[i] :: ts.drop (i+1):=List.drop_eq_getElem_cons hlt;rw [hd] at hr;obtain ⟨en3,h3,hr⟩:=zaa.mp hr;obtain ⟨fl2,h4,hr⟩:=zaa.mp hr;refine .inr ⟨go,fun σ' H'=>∃ en' R',PostS K J.lk ds1 Ox σ H1 R1 σ' en' H' R' NoA/\cG g m (ts.drop (i+1)) en'=some fl,fun σ' H' ⟨en',R',P',h'⟩=>⟨ts.length - (i+1),by omega,en',R',rfl,hlt,P',h'⟩,fun x H3 y=>?_⟩;obtain ⟨gr,ox⟩:=yl x H3 y;have P3:Post K true ds1 Ox σ2 H2 en2 R2 en2 H3 R2 NoA:=Post.new P2.env0 gr fun _ z=>z.elim;refine ⟨Ox,en2,R2,ts[i],en3,P3.env0,ox,h3,fun σ4 R4 P4 _=>?_⟩;have P4':=(P2.after P3.s).after P4;refine ⟨Ox,en3,R4,fl2,P4.env0,h4,?_⟩;cases fl2 with
  | nx en5=>exact fun σ5 H5 R5 P5=>⟨en5,R5,P4'.after P5,hr⟩
  | ct en5=>exact fun σ5 H5 R5 P5=>⟨en5,R5,P4'.after P5,hr⟩
  | rt t en5 =>
   cases hr;exact fun v σ5 H5 R5 F P5 o=>k v σ5 H5 R5 F (P1.s.after (P4'.after P5)) o
 ·have e2:i=ts.length:=by omega
  subst e2;rw [List.drop_length] at hr;cases hr;exact .inl ⟨w2 rfl,k σ2 H2 R2 (P1.s.after P2)⟩
def whN (c:MT) (b:MS):Nat->En->Option Fl
 | 0,_=>none
 | n+1,en=>(c en).bind fun r=>if r.1 then (b r.2).bind fun fl=>match fl with
   | .nx en2=>whN c b n en2
   | .ct en2=>whN c b n en2
   | .rt t en2=>some (.rt t en2)
  else some (.nx r.2)
open Classical in
noncomputable def bt (c:MT) (b:MS):MS:=fun en=>if h:∃ n fl,whN c b n en=some fl then some h.choose_spec.choose else none
def iL {b:MS} {fl:Fl} (h:bt c b en=some fl):∃ n,whN c b n en=some fl:=by
 unfold bt at h;split at h
 ·next q =>
  cases h;exact ⟨q.choose,q.choose_spec.choose_spec⟩
 ·cases h
def xz (h:tFS K J ds ds1 (bt c m) D σ H):u5 (tFT K p ds ds1 c) (tFS K { J with dsl:=ds } ds1 ds m) D σ H:=by
 obtain ⟨Ox,en,R,fl,e,hf,k⟩:=h;obtain ⟨n0,hn⟩:=iL hf;refine ⟨fun n σ' H'=>∃ en' R',PostS K J.lk ds Ox σ H R σ' en' H' R' NoA/\whN c m n en'=some fl,⟨n0,en,R,PostS.refl e,hn⟩,?_⟩;rintro n σ2 H2 ⟨en2,R2,P2,hr⟩;cases n with
 | zero=>cases hr
 | succ n =>
  unfold whN at hr;obtain ⟨⟨b,en3⟩,h3,hr⟩:=zaa.mp hr;refine ⟨Ox,en2,R2,b,en3,P2.env0,h3,fun H3 R3 P3=>?_⟩;cases b with
  | false =>
   cases hr;rw [if_neg Bool.false_ne_true];exact k σ2 H3 R3 (P2.after P3.s)
  | true =>
   rw [if_pos rfl] at hr ⊢;obtain ⟨fl2,h4,hr⟩:=zaa.mp hr;refine ⟨fun σ' H'=>∃ en' R',PostS K J.lk ds Ox σ H R σ' en' H' R' NoA/\whN c m n en'=some fl,fun σ' H' q=>⟨n,Nat.lt_succ_self _,q⟩,Ox,en3,R3,fl2,P3.env0,h4,?_⟩;have P3':=P2.after (P3.s (lk:=J.lk));cases fl2 with
   | nx en5=>exact fun σ5 H5 R5 P5=>⟨en5,R5,P3'.after P5,hr⟩
   | ct en5=>exact fun σ5 H5 R5 P5=>⟨en5,R5,P3'.after P5,hr⟩
   | rt t en5 =>
    cases hr;exact fun v σ5 H5 R5 F P5 o=>k v σ5 H5 R5 F (P3'.after P5) o
end
def lcF (g:MG) (c:MT) (f:ME):List D->List D->En->Option (List D × En)
 | [],acc,en=>some (acc,en)
 | t :: ts,acc,en=>(g t en).bind fun en1=>(c en1).bind fun r=>if r.1 then (f r.2).bind fun q=>if acc.length < sizeLine then lcF g c f ts (acc++[q.1]) q.2 else none else lcF g c f ts acc r.2
def cz (js:List (Option Nat)) (en:En):En:=js.map fun j=>match j with
 | some j=>(en[j]?).join
 | none=>none
def wbB:List (Option Nat)->En->En->En
 | some j :: js,o :: r,en=>wbB js r (en.set j o)
 | none :: js,_ :: r,en=>wbB js r en
 | _,_,en=>en
def eLC (q:Bool) (fi:MI) (g:MG) (c:MT) (f:ME) (js:List (Option Nat)):ME:=fun en=>(fi en).bind fun r=>(lcF g c f r.1 [] (cz js r.2)).map fun z=>(.list z.1,if q then r.2 else wbB js z.2 r.2)
def gD (ds:List Nat):List (Option Nat)->List Nat->Bool
 | [],[]=>true
 | some j :: js,d :: r=>decide (ds[j]?=some d) && (decide (some j ∉ js) && gD ds js r)
 | none :: js,_ :: r=>gD ds js r
 | _,_=>false
section
variable {K:PySem.W.Frag} {p p1 p2 q:Bool} {lk:List Nat} {ds ds0 ds1 ds2 ds' dsi:List Nat} {Ox Ox' O O':AS} {H H':Hp} {σ σ':St} {en en' en1 en2:En} {R R':Nat->AS} {d d' d1 d2 dr:Nat} {t t1 t2:D} {Q:VK} {f f1 f2:ME} {c:MT} {g:MG} {fi:MI} {i:Nat} {js:List (Option Nat)}
def my:∀ {js:List (Option Nat)} {dsi:List Nat},gD ds js dsi=true->dsi.length=js.length/\(∀ (k j:Nat),js[k]?=some (some j)->∃ d,dsi[k]?=some d/\ds[j]?=some d)/\(∀ (k k' j:Nat),js[k]?=some (some j)->js[k']?=some (some j)->k=k')
 | [],[],_=>⟨rfl,fun k j z=>by simp at z,fun k k' j z=>by simp at z⟩
 | some j0 :: js,d :: r,h=>by
  unfold gD at h;rw [Bool.and_eq_true,Bool.and_eq_true] at h;obtain ⟨h1,h2,h3⟩:=h;obtain ⟨a,b,c⟩:=my h3;have n:=of_decide_eq_true h2;refine ⟨by rw [zac,zac,a],fun k j z=>?_,fun k k' j z z'=>?_⟩
  ·cases k with
   | zero=>simp at z; subst z; exact ⟨d,rfl,of_decide_eq_true h1⟩
   | succ k=>exact b k j (by simpa using z)
  ·cases k with
   | zero =>
    simp at z;subst z;cases k' with
    | zero=>rfl
    | succ k'=>exact absurd (zaX (by simpa using z':js[k']?=some (some j0))) n
   | succ k =>
    cases k' with
    | zero =>
     simp at z';subst z';exact absurd (zaX (by simpa using z:js[k]?=some (some j0))) n
    | succ k'=>rw [c k k' j (by simpa using z) (by simpa using z')]
 | none :: js,d :: r,h=>by
  unfold gD at h;obtain ⟨a,b,c⟩:=my h;refine ⟨by rw [zac,zac,a],fun k j z=>?_,fun k k' j z z'=>?_⟩
  ·cases k with
   | zero=>simp at z
   | succ k=>exact b k j (by simpa using z)
  ·cases k with
   | zero=>simp at z
   | succ k =>
    cases k' with
    | zero=>simp at z'
    | succ k'=>rw [c k k' j (by simpa using z) (by simpa using z')]
 | [],_ :: _,h=>nomatch h
 | some _ :: _,[],h=>nomatch h
 | none :: _,[],h=>nomatch h
def nP:∀ (js:List (Option Nat)) (r en:En),(wbB js r en).length=en.length
 | [],_,_=>by unfold wbB; rfl
 | some _ :: _,[],_=>by unfold wbB; rfl
 | none :: _,[],_=>by unfold wbB; rfl
 | some j :: js,o :: r,en=>by unfold wbB; rw [nP js r _,zaV]
 | none :: js,o :: r,en=>by unfold wbB; exact nP js r _
def kX:∀ (js:List (Option Nat)) (r en:En) (i:Nat),(∀ k:Nat,js[k]?≠some (some i))->(wbB js r en)[i]?=en[i]?
 | [],_,_,_,_=>by unfold wbB; rfl
 | some _ :: _,[],_,_,_=>by unfold wbB; rfl
 | none :: _,[],_,_,_=>by unfold wbB; rfl
 | none :: js,o :: r,en,i,h=>by unfold wbB; exact kX js r en i fun j=>h (j+1)
 | some k :: js,o :: r,en,i,h=>by
  unfold wbB;rw [kX js r _ i fun j=>h (j+1),zaO];intro e;subst e;exact h 0 rfl
def pU:∀ (js:List (Option Nat)) (r en:En) (i k:Nat),js[k]?=some (some i)->(∀ k':Nat,js[k']?=some (some i)->k'=k)->r.length=js.length->i < en.length->(wbB js r en)[i]?=r[k]?
 | [],_,_,_,_,h,_,_,_=>by simp at h
 | some _ :: js,[],_,_,_,_,_,h,_=>by simp at h
 | none :: js,[],_,_,_,_,_,h,_=>by simp at h
 | none :: js,o :: r,en,i,k,h,u,l,b=>by
  unfold wbB;cases k with
  | zero=>simp at h
  | succ k=>exact pU js r en i k (by simpa using h) (fun j' z=>by have:=u (j'+1) (by simpa using z); omega) (by simpa using l) b
 | some j :: js,o :: r,en,i,k,h,u,l,b=>by
  unfold wbB;cases k with
  | zero =>
   have e:j=i:=by simpa using h
   subst e;rw [kX js r _ j fun j' z=>by have:=u (j'+1) (by simpa using z); omega];rw [zaP b];rfl
  | succ k=>exact pU js r _ i k (by simpa using h) (fun j' z=>by have:=u (j'+1) (by simpa using z); omega) (by simpa using l) (by rw [zaV]; exact b)
def Ows.snoc:∀ {ts:List D} {vs:List V} {F1 F2:AS} {v:V},Ows K O H ts d vs F1->Ow K O H t d v F2->(∀ b,F1 b->¬ F2 b)->Ows K O H (ts++[t]) d (vs++[v]) (U F1 F2)
 | [],vs,F1,F2,v,h,h2,_=>by
  have e:vs=[]:=h;subst e;exact ⟨v,[],F2,NoA,rfl,fun _ z=>.inr z,fun _ z=>z.elim,fun _ _ z=>z.elim,h2,rfl⟩
 | u :: ts,vs,F1,F2,v,h,h2,hd=>by
  obtain ⟨w,r,G1,G2,e,s1,s2,s3,h4,h5⟩:=h;subst e;refine ⟨w,r++[v],G1,U G2 F2,rfl,fun b z=>.inl (s1 b z),fun b z=>z.imp (s2 b) id,fun b z z2=>?_,h4,Ows.snoc h5 h2 fun b z=>hd b (s2 b z)⟩;rcases z2 with z2 | z2
  ·exact s3 b z z2
  ·exact hd b (s1 b z) z2
def Ows.len:∀ {ts:List D} {vs:List V} {F:AS},Ows K O H ts d vs F->vs.length=ts.length
 | [],_,_,h=>by rw [show _=[] from h]; rfl
 | t :: ts,_,_,h=>by
  obtain ⟨v,r,F1,F2,e,h1,h2,h3,h4,h5⟩:=h;rw [e,zac,zac,h5.len]
def gC:List (Option Nat)->Nat->List Nat
 | [],_=>[]
 | some _ :: r,n=>n :: gC r (n+1)
 | none :: r,n=>gC r (n+1)
def jD:∀ {js:List (Option Nat)} {n k j:Nat},js[k]?=some (some j)->n+k∈gC js n
 | [],n,k,j,h=>by simp at h
 | some x :: r,n,k,j,h=>by
  unfold gC;cases k with
  | zero=>exact zaq
  | succ k =>
   refine zaj _ ?_
   have:=jD (n:=n+1) (k:=k) (j:=j) (by simpa using h);rw [show n+(k+1)=n+1+k by omega];exact this
 | none :: r,n,k,j,h=>by
  unfold gC;cases k with
  | zero=>simp at h
  | succ k =>
   have:=jD (n:=n+1) (k:=k) (j:=j) (by simpa using h);rw [show n+(k+1)=n+1+k by omega];exact this
def rm (js:List (Option Nat)) (R1:Nat->AS):Nat->AS:=fun k=>match js[k]? with
 | some (some j)=>R1 j
 | _=>NoA
def FP {R1:Nat->AS} {k j:Nat} (h:js[k]?=some (some j)):rm js R1 k=R1 j:=by unfold rm; rw [h]
def FO {R1:Nat->AS} {k:Nat} {a:Addr} (h:rm js R1 k a):∃ j,js[k]?=some (some j)/\R1 j a:=by
 unfold rm at h;cases q:js[k]? with
 | none=>rw [q] at h; exact h.elim
 | some o =>
  rw [q] at h;cases o with
  | none=>exact h.elim
  | some j=>exact ⟨j,rfl,h⟩
def xV {cd:Nat} (hc:gD ds1 js dsi=true) (hd:dn d=cd) (hz:d≠0) (hl:lk=gC js 0) (h:tF K (p && q) ds ds1 d (eLC q fi g c f js) σ H Q) :
  tLC (tFI K p ds ds1 fi) (tFG K lk dsi dsi g) (tFT K q dsi dsi c) (tF K q dsi dsi cd f) js σ H Q:=by
 obtain ⟨Ox,en,R,t,en',e,hf,k⟩:=h;unfold eLC at hf;obtain ⟨⟨ts,en1⟩,h1,hf⟩:=zaa.mp hf;obtain ⟨⟨fin,enf⟩,h2,hf⟩:=zab.mp hf;cases hf;obtain ⟨cl,c1,c2⟩:=my hc;refine ⟨Ox,en,R,ts,en1,e,h1,fun J H1 R1 P1 wk D hD=>?_⟩;have E1:=P1.env0;generalize hRI:rm js R1=RI;have ri1:∀ k j:Nat,js[k]?=some (some j)->RI k=R1 j:=fun k j z=>by rw [<- hRI]; exact FP z
 have ric:∀ (k:Nat) a,RI k a->∃ j,js[k]?=some (some j)/\R1 j a:=fun k a z=>by rw [<- hRI] at z; exact FO z
 let OxI:AS:=fun a=>Ox a\/a=D\/∃ i,R1 i a/\∀ k:Nat,js[k]?≠some (some i);have nD:∀ a,Own R1 Ox a->a≠D:=fun a z z2=>by
  subst z2;obtain ⟨o,q⟩:=E1.dom a z;rw [hD] at q;cases q
 have lI:(cz js en1).length=js.length:=by unfold cz; rw [zad]
 have lS:(eP js σ).length=js.length:=by unfold eP; rw [zad]
 have getE:∀ (k:Nat) t,(cz js en1)[k]?=some (some t)->∃ j,js[k]?=some (some j)/\en1[j]?=some (some t):=fun k t z=>by
  unfold cz at z;rw [zao] at z;obtain ⟨oj,h1,h2⟩:=zab.mp z;cases oj with
  | none=>cases h2
  | some j =>
   refine ⟨j,h1,?_⟩;have h2':(en1[j]?).join=some t:=h2;cases q:en1[j]? with
   | none=>rw [q] at h2'; cases h2'
   | some o=>rw [q] at h2'; exact congrArg some h2'
 have getS:∀ (k j:Nat) v,js[k]?=some (some j)->σ[j]?=some (some v)->(eP js σ)[k]?=some (some v):=fun k j v z1 z2=>by
  unfold eP;rw [zao,z1];show some ((σ[j]?).join)=_;rw [z2];rfl
 have u2:∀ a o,H1 a=some o->upd H1 D (.lst []) a=some o:=fun a o q=>(bI (o:=.lst []) hD).1 a o q;have EI:EnvOk K dsi OxI (upd H1 D (.lst [])) (eP js σ) (cz js en1) RI:=by
  refine ⟨fun k t hk=>?_,fun k k' a z z'=>?_,fun k a z z2=>?_,fun a z=>?_,by rw [lI,lS],by rw [cl,lS]⟩
  ·obtain ⟨j,hj,ht⟩:=getE k t hk;obtain ⟨v,d,g1,g2,g3⟩:=E1.at_ j t ht;obtain ⟨d',q1,q2⟩:=c1 k j hj;rw [g2] at q2;cases q2;refine ⟨v,d,getS k j v hj g1,q1,?_⟩;rw [ri1 k j hj];refine Ow.mv (G:=R1 j) ⟨fun a o q _=>u2 a o q,fun a z=>?_⟩ t (fun _ z=>z) g3;rcases z with ⟨k',z⟩ | z | z | ⟨i,z,_⟩
   ·obtain ⟨j',_,z⟩:=ric k' a z;exact .inl (.inl ⟨j',z⟩)
   ·exact .inl (.inr z)
   ·exact .inr (z ▸ hD)
   ·exact .inl (.inl ⟨i,z⟩)
  ·obtain ⟨j,hj,z⟩:=ric k a z;obtain ⟨j',hj',z'⟩:=ric k' a z'
   have:=E1.dj j j' a z z';subst this;exact c2 k k' j hj hj'
  ·obtain ⟨j,hj,z⟩:=ric k a z;rcases z2 with z2 | z2 | ⟨i,z2,n⟩
   ·exact E1.dx j a z z2
   ·exact nD a (.inl ⟨j,z⟩) z2
   ·have:=E1.dj j i a z z2;subst this;exact n k hj
  ·rcases z with ⟨k,z⟩ | z | z | ⟨i,z,_⟩
   ·obtain ⟨j,hj,z⟩:=ric k a z;obtain ⟨o,q⟩:=E1.dom a (.inl ⟨j,z⟩);exact ⟨o,u2 a o q⟩
   ·obtain ⟨o,q⟩:=E1.dom a (.inr z);exact ⟨o,u2 a o q⟩
   ·subst z;exact ⟨_,aL⟩
   ·obtain ⟨o,q⟩:=E1.dom a (.inl ⟨i,z⟩);exact ⟨o,u2 a o q⟩
 refine ⟨fun i n τ H'=>∃ eni RI' acc vs Fa,n=ts.length - i/\i<=ts.length/\PostS K lk dsi OxI (eP js σ) H1 RI τ eni H' RI' Fa/\H' D=some (.lst vs)/\Ows K (Own RI' (U Fa OxI)) H' acc cd vs Fa/\lcF g c f (ts.drop i) acc eni=some (fin,enf) /\
   (q=true->(∀ k j:Nat,js[k]?=some (some j)->RI' k=RI k)/\(∀ a o,H1 a=some o->H' a=some o)),
  ⟨_,cz js en1,RI,[],[],NoA,rfl,Nat.zero_le _,⟨by rw [ig]; exact EI,fun _ z=>z.elim,fun a o q _=>u2 a o q,fun a z=>z.elim (fun z=>z.elim) .inl,fun a o q=>⟨o,u2 a o q⟩,fun _ _=>rfl⟩,aL,rfl,h2,fun _=>⟨fun _ _ _=>rfl,u2⟩⟩,?_⟩
 rintro i n τ H2 ⟨eni,RI2,acc,vs,Fa,rfl,hi,P2,hDl,oacc,hr,pu⟩;have dY:∀ a,Own RI2 (U Fa OxI) a->Own R1 Ox a\/H1 a=none:=fun a z=>by
  rcases z with z | z | z | z | ⟨i,z,_⟩
  ·rcases P2.own a (.inr z) with ⟨k,z⟩ | z
   ·obtain ⟨j,_,z⟩:=ric k a z;exact .inl (.inl ⟨j,z⟩)
   ·exact .inr z
  ·rcases P2.own a (.inl z) with ⟨k,z⟩ | z
   ·obtain ⟨j,_,z⟩:=ric k a z;exact .inl (.inl ⟨j,z⟩)
   ·exact .inr z
  ·exact .inl (.inr z)
  ·exact .inr (z ▸ hD)
  ·exact .inl (.inl ⟨i,z⟩)
 obtain ⟨w1,w2⟩:=wk i H2 (Own RI2 (U Fa OxI)) (fun a o q z=>P2.keep a o q fun k zk=>by
  obtain ⟨j,_,zj⟩:=ric k a zk;exact z (.inl ⟨j,zj⟩)) dY fun a z=>P2.env.dom a z
 have DO:OxI D:=.inr (.inl rfl);by_cases hlt:i < ts.length
 ·obtain ⟨go,yl⟩:=w1 ts[i] (zak hlt);rw [List.drop_eq_getElem_cons hlt] at hr;obtain ⟨en3,h3,hr⟩:=zaa.mp hr;obtain ⟨⟨b,en4⟩,h4,hr⟩:=zaa.mp hr;refine .inr ⟨go,fun τ' H'=>∃ eni RI' acc vs Fa,PostS K lk dsi OxI (eP js σ) H1 RI τ' eni H' RI' Fa/\H' D=some (.lst vs)/\Ows K (Own RI' (U Fa OxI)) H' acc cd vs Fa/\lcF g c f (ts.drop (i+1)) acc eni=some (fin,enf)/\(q=true->(∀ k j:Nat,js[k]?=some (some j)->RI' k=RI k)/\(∀ a o,H1 a=some o->H' a=some o)),
   fun τ' H' ⟨eni,RI',acc,vs,Fa,P',x1,x2,x3,x4⟩=>⟨_,by omega,eni,RI',acc,vs,Fa,rfl,hlt,P',x1,x2,x3,x4⟩,fun x H3 y=>?_⟩
  obtain ⟨gr,ox⟩:=yl x H3 y;have P3:Post K true dsi (U Fa OxI) τ H2 eni RI2 eni H3 RI2 NoA:=Post.new P2.env gr fun _ z=>z.elim;have chain:∀ {τ5 en5 H5 RI5 F5},PostS K lk dsi (U Fa OxI) τ H2 RI2 τ5 en5 H5 RI5 F5->PostS K lk dsi OxI (eP js σ) H1 RI τ5 en5 H5 RI5 (U Fa F5):=fun {τ5 en5 H5 RI5 F5} P5=>by
   have n1:∀ a,H2 a=none->H1 a=none:=fun a z=>by
    cases q:H1 a with
    | none=>rfl
    | some o =>
     obtain ⟨o',q'⟩:=P2.dom a o q;rw [z] at q';cases q'
   refine ⟨nB ▸ P5.env,fun a z z2=>?_,fun a o q n=>?_,fun a z=>?_,fun a o q=>?_,fun j hj=>(P5.lk j hj).trans (P2.lk j hj)⟩
   ·rcases z with z | z
    ·exact P2.fx a z z2
    ·exact P5.fx a z (.inr z2)
   ·refine P5.keep a o (P2.keep a o q n) fun i z=>?_;rcases P2.own a (.inr ⟨i,z⟩) with ⟨j,z⟩ | z
    ·exact n j z
    ·rw [q] at z; cases z
   ·rcases z with (z | z) | z
    ·exact P2.own a (.inl z)
    ·rcases P5.own a (.inl z) with z | z
     ·exact P2.own a (.inr z)
     ·exact .inr (n1 a z)
    ·rcases P5.own a (.inr z) with z | z
     ·exact P2.own a (.inr z)
     ·exact .inr (n1 a z)
   ·obtain ⟨o',q'⟩:=P2.dom a o q;exact P5.dom a o' q'
  have carry:∀ {τ5 en5 H5 RI5 F5},PostS K lk dsi (U Fa OxI) τ H2 RI2 τ5 en5 H5 RI5 F5->Ows K (Own RI5 (U (U Fa F5) OxI)) H5 acc cd vs Fa:=fun {τ5 en5 H5 RI5 F5} P5=>by
   refine Ows.mv (G:=Fa) ⟨fun a o q z=>P5.keep a o q fun i zi=>?_,fun a z=>?_⟩ acc (fun _ z=>z) oacc
   ·rcases z with z | z
    ·exact z (.inl ⟨i,zi⟩)
    ·exact P2.env.dx i a zi (.inl z)
   ·rcases z with z | (z | z) | z
    ·exact (P5.own a (.inr z)).imp .inl id
    ·exact .inl (.inr (.inl z))
    ·exact (P5.own a (.inl z)).imp .inl id
    ·exact .inl (.inr (.inr z))
  have UFN:U Fa NoA=Fa:=fG fun a=>⟨fun z=>z.elim id fun z=>z.elim,.inl⟩;refine ⟨U Fa OxI,eni,RI2,ts[i],en3,P3.env0,ox,h3,fun τ4 R4 P4 r4=>?_⟩;have P4':=(P3.s (lk:=lk)).after P4;refine ⟨U Fa OxI,en3,R4,b,en4,P4.env0,h4,fun H5 R5 P5=>?_⟩;have P5':=P4'.after (P5.s (lk:=lk));have pu5:q=true->(∀ k j:Nat,js[k]?=some (some j)->R5 k=RI k)/\(∀ a o,H1 a=some o->H5 a=some o):=fun hq=>by
   obtain ⟨_,b2,b3⟩:=P5.pure hq;obtain ⟨e1,e2⟩:=pu hq;refine ⟨fun k j z=>?_,fun a o qq=>b3 a o (gr a o (e2 a o qq))⟩;rw [b2,r4 k (by rw [hl]; have:=jD (n:=0) z; rw [Nat.zero_add] at this; exact this)];exact e1 k j z
  cases b with
  | false =>
   dsimp only
   rw [if_neg Bool.false_ne_true];have c5:=chain P5';have o5:=carry P5';rw [UFN] at c5 o5;exact ⟨en4,R5,acc,vs,Fa,c5,P5'.keep D _ hDl fun k z=>P2.env.dx k D z (.inr DO),o5,hr,pu5⟩
  | true =>
   dsimp only
   rw [if_pos rfl];obtain ⟨⟨t6,en6⟩,h6,hr⟩:=zaa.mp (show ((f en4).bind fun q=>if acc.length < sizeLine then lcF g c f (ts.drop (i+1)) (acc++[q.1]) q.2 else none)=some (fin,enf) from hr);refine ⟨U Fa OxI,en4,R5,t6,en6,P5.env0,h6,fun v H6 R6 F6 P6 o6=>?_⟩;have P6':=P5'.after (P6.s (lk:=lk));by_cases hlen:acc.length < sizeLine
   case neg=>rw [if_neg hlen] at hr; cases hr
   rw [if_pos hlen] at hr;have hD6:=P6'.keep D _ hDl fun k z=>P2.env.dx k D z (.inr DO);refine ⟨vs,hD6,by rw [oacc.len]; exact hlen,en6,R6,acc++[t6],vs++[v],U Fa F6,?_,aL,?_,hr,?_⟩
   ·have c6:=chain P6';have keepD:∀ a o,H6 a=some o->a≠D->upd H6 D (.lst (vs++[v])) a=some o:=fun a o q n=>by rw [aC n]; exact q
    refine ⟨⟨fun k t hk=>?_,c6.env.dj,c6.env.dx,fun a z=>?_,c6.env.l1,c6.env.l2⟩,c6.fx,fun a o q n=>?_,c6.own,fun a o q=>?_,c6.lk⟩
    ·obtain ⟨v',d',g1,g2,g3⟩:=c6.env.at_ k t hk;refine ⟨v',d',g1,g2,Ow.mv (G:=R6 k) ⟨fun a o q z=>keepD a o q fun zD=>?_,fun a z=>.inl z⟩ t (fun _ z=>z) g3⟩;subst zD;rcases z with z | z
     ·exact z (.inr (.inr DO))
     ·exact c6.env.dx k a z (.inr DO)
    ·by_cases ha:a=D
     ·subst ha; exact ⟨_,aL⟩
     ·obtain ⟨o,q⟩:=c6.env.dom a z;exact ⟨o,keepD a o q ha⟩
    ·refine keepD a o (c6.keep a o q n) fun zD=>?_;subst zD;rw [hD] at q;cases q
    ·obtain ⟨o',q'⟩:=c6.dom a o q;by_cases ha:a=D
     ·subst ha; exact ⟨_,aL⟩
     ·exact ⟨o',keepD a o' q' ha⟩
   ·have o1:=carry P6';have o2:Ow K (Own R6 (U (U Fa F6) OxI)) H6 t6 cd v F6:=nB ▸ o6
    have:=Ows.snoc o1 o2 fun b z1 z2=>P6.fx b z2 (.inl z1);refine Ows.mv (G:=U Fa F6) ⟨fun a o q z=>?_,fun a z=>.inl z⟩ _ (fun _ z=>z) this;rw [aC]
    ·exact q
    ·intro zD;subst zD;rcases z with z | z | z
     ·exact z (.inr (.inr DO))
     ·exact P2.fx a z DO
     ·exact P6.fx a z (.inr DO)
   ·intro hq;obtain ⟨_,b2,b3⟩:=P6.pure hq;obtain ⟨e1,e2⟩:=pu5 hq;refine ⟨fun k j z=>by rw [b2]; exact e1 k j z,fun a o qq=>?_⟩;rw [aC]
    ·exact b3 a o (e2 a o qq)
    ·intro zD;subst zD;rw [hD] at qq;cases qq
 ·have e2:i=ts.length:=by omega
  subst e2;rw [List.drop_length] at hr;obtain ⟨e3,e4⟩:acc=fin/\eni=enf:=by cases hr; exact ⟨rfl,rfl⟩
  subst e3 e4;refine .inl ⟨w2 rfl,?_⟩;have fD:∀ a,Fa a->a≠D:=fun a z z2=>by
   subst z2;exact P2.fx a z DO
  cases hq:q with
  | true =>
   obtain ⟨e1,e2⟩:=pu hq;subst hq;have fn:∀ a,Fa a->H1 a=none:=fun a z=>by
    rcases P2.own a (.inl z) with ⟨k,z2⟩ | z2
    ·obtain ⟨j,hj,z3⟩:=ric k a z2;rw [<- e1 k j hj] at z2;exact absurd (.inl z) (P2.env.dx k a z2)
    ·exact z2
   have nt:NewTo H1 H2 (fun a=>a=D\/Fa a):=⟨e2,fun a z=>by
    rcases z with z | z
    ·subst z;exact ⟨hD,_,hDl⟩
    ·exact ⟨fn a z,P2.env.dom a (.inr (.inl z))⟩⟩
   have PF:=P1.fin nt;rw [Bool.and_true] at k;refine k (.ref D) H2 R1 _ PF ⟨D,vs,rfl,.inr ⟨hz,hDl,.inl rfl,Fa,fun b z=>⟨.inr z,fD b z⟩,?_⟩⟩;rw [hd];refine Ows.grow (fun a z=>?_) _ (fun _ z=>z) oacc;rcases z with ⟨i,z⟩ | (z | z) | z
   ·by_cases hc2:∃ kk:Nat,js[kk]?=some (some i)
    ·obtain ⟨kk,hk⟩:=hc2;refine .inl ⟨kk,?_⟩;rw [e1 kk i hk,ri1 kk i hk];exact z
    ·exact .inr (.inr (.inr (.inr ⟨i,z,fun kk hk=>hc2 ⟨kk,hk⟩⟩)))
   ·exact .inr (.inr (z ▸ DO))
   ·exact .inr (.inl z)
   ·exact .inr (.inr (.inl z))
  | false =>
   subst hq;rw [Bool.and_false] at k
   classical
   let R3:Nat->AS:=fun i=>if hh:∃ kk:Nat,js[kk]?=some (some i) then RI2 hh.choose else R1 i
   have r31:∀ (i kk:Nat),js[kk]?=some (some i)->R3 i=RI2 kk:=fun i kk z=>by
    have hh:∃ kk:Nat,js[kk]?=some (some i):=⟨kk,z⟩
    have:hh.choose=kk:=c2 _ _ i hh.choose_spec z;show (if hh:∃ kk:Nat,js[kk]?=some (some i) then RI2 hh.choose else R1 i)=RI2 kk;rw [dif_pos hh,this]
   have r32:∀ i:Nat,(∀ kk:Nat,js[kk]?≠some (some i))->R3 i=R1 i:=fun i z=>by
    show (if hh:∃ kk:Nat,js[kk]?=some (some i) then RI2 hh.choose else R1 i)=R1 i;rw [dif_neg fun ⟨j,q⟩=>z j q]
   have r3c:∀ (i:Nat) a,R3 i a->(∃ kk:Nat,js[kk]?=some (some i)/\RI2 kk a)\/((∀ kk:Nat,js[kk]?≠some (some i))/\R1 i a):=fun i a z=>by
    by_cases hh:∃ kk:Nat,js[kk]?=some (some i)
    ·obtain ⟨kk,hk⟩:=hh;rw [r31 i kk hk] at z;exact .inl ⟨kk,hk,z⟩
    ·rw [r32 i fun j z=>hh ⟨j,z⟩] at z;exact .inr ⟨fun j z=>hh ⟨j,z⟩,z⟩
   have sub3:∀ a,Own R3 (U (fun a=>a=D\/Fa a) Ox) a->Own RI2 (U Fa OxI) a:=fun a z=>by
    rcases z with ⟨i,z⟩ | (z | z) | z
    ·rcases r3c i a z with ⟨j,_,z⟩ | ⟨n,z⟩
     ·exact .inl ⟨j,z⟩
     ·exact .inr (.inr (.inr (.inr ⟨i,z,n⟩)))
    ·exact .inr (.inr (z ▸ DO))
    ·exact .inr (.inl z)
    ·exact .inr (.inr (.inl z))
   have el:eni.length=js.length:=by rw [P2.env.l1,<- P2.env.l2]; exact cl
   have riO:∀ (kk:Nat) a,RI kk a->Own R1 Ox a:=fun kk a z=>by
    obtain ⟨j,_,z⟩:=ric kk a z;exact .inl ⟨j,z⟩
   have env3:EnvOk K ds1 (U (fun a=>a=D\/Fa a) Ox) H2 σ (wbB js eni en1) R3:=by
    refine ⟨fun i u hu=>?_,fun i i' a z z'=>?_,fun i a z z2=>?_,fun a z=>P2.env.dom a (sub3 a z),by rw [nP]; exact E1.l1,E1.l2⟩
    ·by_cases hh:∃ kk:Nat,js[kk]?=some (some i)
     ·obtain ⟨kk,hk⟩:=hh;obtain ⟨dd,q1,q2⟩:=c1 kk i hk;have hil:i < en1.length:=by rw [E1.l1,<- E1.l2]; exact (zah.mp q2).1
      rw [pU js eni en1 i kk hk (fun k' z=>c2 k' kk i z hk) el hil] at hu;obtain ⟨v,d',g1,g2,g3⟩:=P2.env.at_ kk u hu;rw [q1] at g2;cases g2;have hlk:=P2.lk kk (by rw [hl]; have:=jD (n:=0) hk; rw [Nat.zero_add] at this; exact this);rw [hlk] at g1;refine ⟨v,dd,?_,q2,?_⟩
      ·unfold eP at g1;rw [zao,hk] at g1;have g1':(σ[i]?).join=some v:=zat g1;cases q3:σ[i]? with
       | none=>rw [q3] at g1'; cases g1'
       | some o=>rw [q3] at g1'; exact congrArg some g1'
      ·rw [r31 i kk hk];exact Ow.grow sub3 u (fun _ z=>z) g3
     ·rw [kX js eni en1 i fun j z=>hh ⟨j,z⟩] at hu;have ns:∀ j:Nat,js[j]?≠some (some i):=fun j z=>hh ⟨j,z⟩;obtain ⟨v,d',g1,g2,g3⟩:=E1.at_ i u hu;refine ⟨v,d',g1,g2,?_⟩;rw [r32 i ns];refine Ow.mv (G:=R1 i) ⟨fun a o q z=>P2.keep a o q fun j zj=>?_,fun a z=>dY a (sub3 a z)⟩ u (fun _ z=>z) g3;obtain ⟨j',hj',zj⟩:=ric j a zj;rcases z with z | z
      ·exact z (.inl ⟨j',zj⟩)
      ·have:=E1.dj i j' a z zj;subst this;exact ns j hj'
    ·rcases r3c i a z with ⟨j,q,z⟩ | ⟨n,z⟩ <;> rcases r3c i' a z' with ⟨j',q',z'⟩ | ⟨n',z'⟩
     ·have:=P2.env.dj j j' a z z';subst this;rw [q] at q';cases q';rfl
     ·exact absurd (.inr (.inr (.inr ⟨i',z',n'⟩))) (P2.env.dx j a z)
     ·exact absurd (.inr (.inr (.inr ⟨i,z,n⟩))) (P2.env.dx j' a z')
     ·exact E1.dj i i' a z z'
    ·rcases r3c i a z with ⟨j,q,z⟩ | ⟨n,z⟩
     ·refine P2.env.dx j a z ?_;rcases z2 with (z2 | z2) | z2
      ·exact .inr (z2 ▸ DO)
      ·exact .inl z2
      ·exact .inr (.inl z2)
     ·rcases z2 with (z2 | z2) | z2
      ·exact nD a (.inl ⟨i,z⟩) z2
      ·exact P2.fx a z2 (.inr (.inr ⟨i,z,n⟩))
      ·exact E1.dx i a z z2
   have n1:∀ a,H1 a=none->H a=none:=fun a z=>by
    cases q:H a with
    | none=>rfl
    | some o =>
     obtain ⟨o',q'⟩:=P1.dom a o q;rw [z] at q';cases q'
   refine k (.ref D) H2 R3 (fun a=>a=D\/Fa a) ⟨env3,fun a z z2=>?_,fun a o q n=>?_,fun a z=>?_,fun a o q=>?_,fun z=>nomatch z⟩ ⟨D,vs,rfl,.inr ⟨hz,hDl,.inl rfl,Fa,fun b z=>⟨.inr z,fD b z⟩,?_⟩⟩
   ·rcases z with z | z
    ·exact nD a (.inr z2) z
    ·exact P2.fx a z (.inl z2)
   ·refine P2.keep a o (P1.keep a o q n) fun kk z=>?_;obtain ⟨j,_,z⟩:=ric kk a z;rcases P1.own a (.inr ⟨j,z⟩) with ⟨i',z⟩ | z
    ·exact n i' z
    ·rw [q] at z; cases z
   ·have h3:(∃ i,R1 i a)\/H1 a=none:=by
     have h4:(Fa a\/∃ kk,RI2 kk a)->(∃ i,R1 i a)\/H1 a=none:=fun z=>by
      rcases P2.own a z with ⟨kk,z⟩ | z
      ·obtain ⟨j,_,z⟩:=ric kk a z;exact .inl ⟨j,z⟩
      ·exact .inr z
     rcases z with (z | z) | ⟨i,z⟩
     ·exact .inr (z ▸ hD)
     ·exact h4 (.inl z)
     ·rcases r3c i a z with ⟨j,_,z⟩ | ⟨n,z⟩
      ·exact h4 (.inr ⟨j,z⟩)
      ·exact .inl ⟨i,z⟩
    rcases h3 with h3 | h3
    ·exact P1.own a (.inr h3)
    ·exact .inr (n1 a h3)
   ·obtain ⟨o',q'⟩:=P1.dom a o q;exact P2.dom a o' q'
   ·rw [hd];exact Ows.grow sub3 _ (fun _ z=>z) oacc
end
def msk:List Nat->En->En
 | d :: ds,o :: en=>(if d=0 then none else o) :: msk ds en
 | _,_=>[]
def fnF (n:Nat) (dps:List Nat) (b:MS):List PyData->Option (PyData × En):=fun ts=>(b (ts.map some++List.replicate n none)).bind fun fl=>match fl with
 | .rt t en=>some (t,msk dps en)
 | .nx en=>some (.none,msk dps en)
 | .ct _=>none
def qC (dps:List Nat):List Nat:=(List.range dps.length).filter fun j=>dps[j]? != some 0
section
variable {K:PySem.W.Frag} {p p1 p2 q:Bool} {J:Jd} {lk:List Nat} {ds ds0 ds1 ds2 ds' dps:List Nat} {Ox Ox' O O':AS} {H H' H1:Hp} {σ σ':St} {en en' en1 en2:En} {R R' R1:Nat->AS} {d d' d1 d2 dr:Nat} {t t1 t2:PyData} {Q:VK} {f f1 f2:ME} {i:Nat} {v:V} {D:Ends}
def sI:∀ {dps:List Nat} {en:En} {j:Nat} {u:PyData},(msk dps en)[j]?=some (some u)->∃ d,dps[j]?=some d/\d≠0/\en[j]?=some (some u)
 | [],en,j,u,h=>by unfold msk at h; simp at h
 | d :: ds,[],j,u,h=>by unfold msk at h; simp at h
 | d :: ds,o :: en,j,u,h=>by
  unfold msk at h;cases j with
  | zero =>
   by_cases hd:d=0
   ·simp [hd] at h
   ·refine ⟨d,rfl,hd,?_⟩;simpa [hd] using h
  | succ j =>
   have:=sI (dps:=ds) (en:=en) (j:=j) (u:=u) (by simpa using h);simpa using this
def sH:∀ {dps:List Nat} {en:En},dps.length<=en.length->(msk dps en).length=dps.length
 | [],en,_=>by unfold msk; rfl
 | d :: ds,[],h=>by simp at h
 | d :: ds,o :: en,h=>by
  unfold msk;rw [zac,zac,sH (by simpa using h)]
def Fp {N:List Str} {vs:List V} {E:XK} {n:Nat} {b:MS} (hn:N.length - dps.length=n) (h:spF K dps dr (fnF n dps b) vs H Q E) :
  tFS K ⟨qC dps,dps++List.replicate n 0,dr,[]⟩ (dps++List.replicate n 0) (dps++List.replicate n 0) b { nx:=fun _ H'=>Q .non H',rt:=Q } (cw N vs) H:=by
 obtain ⟨Ox,ts,R,r,outs,e,hf,k⟩:=h;have lv:dps.length=vs.length:=by have:=e.l2; rw [zad] at this; exact this
 have lt:ts.length=vs.length:=by have:=e.l1; rw [zad,zad] at this; exact this
 have hs:cw N vs=vs.map some++List.replicate n none:=by unfold cw; rw [<- lv,hn]
 unfold fnF at hf;obtain ⟨fl,h1,hf⟩:=zaa.mp hf;have get0:∀ {α:Type} (xs:List α) (i:Nat) (u:α),(xs.map some++List.replicate n none)[i]?=some (some u)->(xs.map some)[i]?=some (some u)/\i < xs.length:=fun xs i u z=>by
  by_cases hi:i < xs.length
  ·rw [zaS (by rw [zad]; exact hi)] at z;exact ⟨z,hi⟩
  ·rw [List.getElem?_append_right (by rw [zad]; omega),List.getElem?_replicate] at z;split at z
   ·cases z
   ·cases z
 have e0:EnvOk K (dps++List.replicate n 0) Ox H (cw N vs) (ts.map some++List.replicate n none) R:=by
  rw [hs];refine ⟨fun i u hu=>?_,e.dj,e.dx,e.dom,by simp [lt],by simp [lv]⟩;obtain ⟨hu',hi⟩:=get0 ts i u hu;obtain ⟨v,d,g1,g2,g3⟩:=e.at_ i u hu';refine ⟨v,d,?_,?_,g3⟩
  ·rw [zaS (by rw [zad]; omega)]; exact g1
  ·rw [zaS (by omega)]; exact g2
 have back:∀ {σ' en' H' R' F},PostS K (qC dps) (dps++List.replicate n 0) Ox (cw N vs) H R σ' en' H' R' F->Post K false dps Ox (vs.map some) H (ts.map some) R (msk dps en') H' R' F:=fun {σ' en' H' R' F} P=>by
  have l1:=P.env.l1;have l2:=P.env.l2;rw [zae,zaN] at l2;refine ⟨⟨fun j u hu=>?_,P.env.dj,P.env.dx,P.env.dom,by rw [sH (by omega),zad]; exact lv,by rw [zad]; exact lv⟩,P.fx,P.keep,P.own,P.dom,fun z=>nomatch z⟩;obtain ⟨d,a1,a2,a3⟩:=sI hu;obtain ⟨v,d',g1,g2,g3⟩:=P.env.at_ j u a3;have hj:j < dps.length:=(zah.mp a1).1;have hlk:j∈qC dps:=by
   unfold qC;rw [List.mem_filter,List.mem_range];refine ⟨hj,?_⟩;rw [a1];simpa using a2
  rw [P.lk j hlk,hs,zaS (by rw [zad]; omega)] at g1;rw [zaS hj] at g2;exact ⟨v,d',g1,g2,g3⟩
 refine ⟨Ox,_,R,fl,e0,h1,?_⟩;cases fl with
 | nx en2 =>
  cases hf;exact fun σ2 H2 R2 P2=>k .non H2 R2 NoA (back P2) rfl
 | ct en2=>cases hf
 | rt t en2 =>
  cases hf;exact fun v σ2 H2 R2 F P2 o=>k v H2 R2 F (back P2) o
def Post.slot {F G F':AS} {l:Addr} {o2:HO} (P:Post K p ds1 Ox σ H en R en1 H1 R1 F) (hl:R1 i l) (hi:i < en1.length) (hv:σ[i]?=some (some v)) (hd:ds1[i]?=some d)
  (hg:∀ a,G a->R1 i a\/F a) (hf:∀ a,F' a->R1 i a\/F a) (hx:∀ a,G a->¬ F' a)
  (ho:Ow K (Own (fun j=>if j=i then G else R1 j) (U F' Ox)) (upd H1 l o2) t d v G) :
  Post K false ds1 Ox σ H en R (en1.set i (some t)) (upd H1 l o2) (fun j=>if j=i then G else R1 j) F':=by
 have rc:∀ (j:Nat) a,(if j=i then G else R1 j) a->R1 j a\/(j=i/\F a):=fun j a z=>by
  by_cases hj:j=i
  ·rw [if_pos hj] at z;rcases hg a z with z | z
   ·exact .inl (hj ▸ z)
   ·exact .inr ⟨hj,z⟩
  ·rw [if_neg hj] at z; exact .inl z
 have sub:∀ a,Own (fun j=>if j=i then G else R1 j) (U F' Ox) a->Own R1 (U F Ox) a:=fun a z=>by
  rcases z with ⟨j,z⟩ | z | z
  ·rcases rc j a z with z | ⟨_,z⟩
   ·exact .inl ⟨j,z⟩
   ·exact .inr (.inl z)
  ·rcases hf a z with z | z
   ·exact .inl ⟨i,z⟩
   ·exact .inr (.inl z)
  ·exact .inr (.inr z)
 have dom2:∀ a o,H1 a=some o->∃ o',upd H1 l o2 a=some o':=fun a o q=>by
  by_cases ha:a=l
  ·subst ha; exact ⟨_,aL⟩
  ·exact ⟨o,by rw [aC ha]; exact q⟩
 have nl:∀ a o,H1 a=some o->a≠l->upd H1 l o2 a=some o:=fun a o q n=>by rw [aC n]; exact q
 refine ⟨⟨fun j u hu=>?_,fun j j' a z z'=>?_,fun j a z z2=>?_,fun a z=>?_,by rw [zaV]; exact P.env.l1,P.env.l2⟩,fun a z z2=>?_,fun a o q n=>?_,fun a z=>?_,fun a o q=>?_,fun z=>nomatch z⟩
 ·by_cases hj:j=i
  ·subst hj;rw [zaP hi] at hu;cases hu;refine ⟨v,d,hv,hd,?_⟩;rw [if_pos rfl];exact ho
  ·rw [zaO (Ne.symm hj)] at hu;obtain ⟨v',d',g1,g2,g3⟩:=P.env.at_ j u hu;refine ⟨v',d',g1,g2,?_⟩;rw [if_neg hj];refine Ow.mv (G:=R1 j) ⟨fun a o q z=>nl a o q fun za=>?_,fun a z=>.inl (sub a z)⟩ u (fun _ z=>z) g3;subst za;rcases z with z | z
   ·exact z (.inl ⟨i,hl⟩)
   ·exact hj (P.env.dj j i a z hl)
 ·have z0:=z;have z0':=z';by_cases hj:j=i <;> by_cases hj':j'=i
  ·rw [hj,hj']
  ·rw [if_pos hj] at z0; rw [if_neg hj'] at z0';rcases hg a z0 with z1 | z1
   ·exact absurd (P.env.dj i j' a z1 z0') (fun e=>hj' e.symm)
   ·exact absurd (.inl z1) (P.env.dx j' a z0')
  ·rw [if_neg hj] at z0; rw [if_pos hj'] at z0';rcases hg a z0' with z1 | z1
   ·exact absurd (P.env.dj j i a z0 z1) hj
   ·exact absurd (.inl z1) (P.env.dx j a z0)
  ·rw [if_neg hj] at z0; rw [if_neg hj'] at z0';exact P.env.dj j j' a z0 z0'
 ·have z0:=z;by_cases hj:j=i
  ·rw [if_pos hj] at z0;rcases z2 with z2 | z2
   ·exact hx a z0 z2
   ·rcases hg a z0 with z1 | z1
    ·exact P.env.dx i a z1 (.inr z2)
    ·exact P.fx a z1 z2
  ·rw [if_neg hj] at z0;rcases z2 with z2 | z2
   ·rcases hf a z2 with z1 | z1
    ·exact hj (P.env.dj j i a z0 z1)
    ·exact P.env.dx j a z0 (.inl z1)
   ·exact P.env.dx j a z0 (.inr z2)
 ·obtain ⟨o,q⟩:=P.env.dom a (sub a z);exact dom2 a o q
 ·rcases hf a z with z1 | z1
  ·exact P.env.dx i a z1 (.inr z2)
  ·exact P.fx a z1 z2
 ·refine nl a o (P.keep a o q n) fun za=>?_;subst za;rcases P.own a (.inr ⟨i,hl⟩) with ⟨j,z⟩ | z
  ·exact n j z
  ·rw [q] at z; cases z
 ·have:F a\/∃ j,R1 j a:=by
   rcases z with z | ⟨j,z⟩
   ·rcases hf a z with z | z
    ·exact .inr ⟨i,z⟩
    ·exact .inl z
   ·rcases rc j a z with z | ⟨_,z⟩
    ·exact .inr ⟨j,z⟩
    ·exact .inl z
  exact P.own a this
 ·obtain ⟨o',q'⟩:=P.dom a o q;exact dom2 a o' q'
def nC {G F' F:AS} (hg:∀ a,G a->R1 i a\/F a) (hf:∀ a,F' a->R1 i a\/F a):∀ a,Own (fun j=>if j=i then G else R1 j) (U F' Ox) a->Own R1 (U F Ox) a:=fun a z=>by
 rcases z with ⟨j,z⟩ | z | z
 ·by_cases hj:j=i
  ·rw [if_pos hj] at z;rcases hg a z with z | z
   ·exact .inl ⟨i,z⟩
   ·exact .inr (.inl z)
  ·rw [if_neg hj] at z; exact .inl ⟨j,z⟩
 ·rcases hf a z with z | z
  ·exact .inl ⟨i,z⟩
  ·exact .inr (.inl z)
 ·exact .inr (.inr z)
def bj {α:Type} {en:List (Option α)} {i:Nat} {t:α} (h:(en[i]?).join=some t):en[i]?=some (some t):=by
 cases q:en[i]? with
 | none=>rw [q] at h; cases h
 | some o=>rw [q] at h; exact congrArg some h
def Ow.sqL {ts:List PyData} {F:AS} (h:Ow K O H (.list ts) d v F):∃ a vs,v=.ref a/\SqL K H a vs:=by
 obtain ⟨a,vs,e,⟨_,h1,_⟩ | ⟨_,h1,_⟩⟩:=h
 ·exact ⟨a,vs,e,h1.sq⟩
 ·exact ⟨a,vs,e,SqL.of h1⟩
def Ow.ownL {ts:List PyData} {F:AS} (hd:d≠0) (h:Ow K O H (.list ts) d v F):∃ a vs,v=.ref a/\H a=some (.lst vs)/\F a/\∃ F':AS,(∀ b,F' b->F b/\b≠a)/\Ows K O H ts (dn d) vs F':=by
 obtain ⟨a,vs,e,⟨h0,_⟩ | ⟨_,h1,h2,h3⟩⟩:=h
 ·exact absurd h0 hd
 ·exact ⟨a,vs,e,h1,h2,h3⟩
def Ows.past {ts:List PyData} {vs:List V} {F:AS} {l:Addr} {o:HO} (ho:∀ a,O' a->O a) (hl:O l) (hf:∀ b,F b->b≠l) (h:Ows K O H ts d vs F):Ows K O' (upd H l o) ts d vs F :=
 Ows.mv (G:=F) ⟨fun a u q z=>by
  rw [aC]
  ·exact q
  ·intro za;subst za;rcases z with z | z
   ·exact z hl
   ·exact hf a z rfl,fun a z=>.inl (ho a z)⟩ ts (fun _ z=>z) h
def Ow.past {F:AS} {l:Addr} {o:HO} (ho:∀ a,O' a->O a) (hl:O l) (hf:∀ b,F b->b≠l) (h:Ow K O H t d v F):Ow K O' (upd H l o) t d v F :=
 Ow.mv (G:=F) ⟨fun a u q z=>by
  rw [aC]
  ·exact q
  ·intro za;subst za;rcases z with z | z
   ·exact z hl
   ·exact hf a z rfl,fun a z=>.inl (ho a z)⟩ t (fun _ z=>z) h
def bK (i:Nat) (f:ME):ME:=fun en=>match (en[i]?).join with
 | some (.list _)=>(f en).bind fun r=>match (r.2[i]?).join with
  | some (.list ts)=>if ts.length < sizeLine then some (.none,r.2.set i (some (.list (ts++[r.1])))) else none
  | _=>none
 | _=>none
def KU {c:Nat} (hd:ds1[i]?=some d) (hz:d≠0) (hc:dn d=c) (h:tF K false ds ds1 3 (bK i f) σ H Q):tBM K "list" sw (iJ i) (iu (tF K p ds ds1 c f) nQ) σ H Q:=by
 obtain ⟨Ox,en,R,t,en',e,hf,k⟩:=h;unfold bK at hf;split at hf
 case h_2=>cases hf
 next ts0 h0 =>
 obtain ⟨⟨t1,en1⟩,h1,hf⟩:=zaa.mp hf
 dsimp only at hf
 split at hf
 case h_2=>cases hf
 next ts h2 =>
 by_cases hlen:ts.length < sizeLine
 case neg=>rw [if_neg hlen] at hf; cases hf
 rw [if_pos hlen] at hf;cases hf;obtain ⟨v,d0,a1,_,a3⟩:=e.at_ i _ (bj h0);obtain ⟨l0,vs0,e0,sq⟩:=a3.sqL;refine ⟨v,a1,?_,Ox,en,R,t1,en1,e,h1,fun x H1 R1 F P o=>?_⟩
 ·rw [e0]; exact .inl ⟨rfl,vs0,sq⟩
 obtain ⟨v',d',b1,b2,b3⟩:=P.env.at_ i _ (bj h2);rw [a1] at b1;cases b1;rw [hd] at b2;cases b2;obtain ⟨l,vs,el,hl,hr,F',hf',ow⟩:=b3.ownL hz;refine ⟨l,vs,x,el,rfl,hl,by rw [ow.len]; exact hlen,?_⟩;have hi:i < en1.length:=(zah.mp (bj h2)).1;have Fn:∀ a,F a->a≠l:=fun a z z2=>by
  subst z2;exact P.env.dx i a hr (.inl z)
 have sub:=nC (i:=i) (R1:=R1) (Ox:=Ox) (G:=fun a=>R1 i a\/F a) (F':=NoA) (F:=F) (fun _ z=>z) (fun _ z=>z.elim);have Ol:Own R1 (U F Ox) l:=.inl ⟨i,hr⟩;refine k .non (upd H1 l (.lst (vs++[x]))) _ NoA (P.slot (G:=fun a=>R1 i a\/F a) hr hi a1 hd (fun _ z=>z) (fun _ z=>z.elim) (fun _ _ z=>z) ?_) rfl;refine ⟨l,vs++[x],el,.inr ⟨hz,aL,.inl hr,U F' F,fun b z=>?_,?_⟩⟩
 ·rcases z with z | z
  ·exact ⟨.inl (hf' b z).1,(hf' b z).2⟩
  ·exact ⟨.inr z,Fn b z⟩
 ·refine Ows.snoc (Ows.past sub Ol (fun b z=>(hf' b z).2) ow) ?_ fun b z1 z2=>P.env.dx i b (hf' b z1).1 (.inl z2);rw [hc];exact Ow.past sub Ol Fn o
def Ows.out:∀ {ts:List PyData} {vs:List V} {F:AS} {k:Nat} {t:PyData},Ows K O H ts d vs F->ts[k]?=some t ->
  ∃ v,∃ F1 F2:AS,vs[k]?=some v/\(∀ b,F1 b->F b)/\(∀ b,F2 b->F b)/\(∀ b,F1 b->¬ F2 b)/\Ow K O H t d v F1/\Ows K O H (ts.eraseIdx k) d (vs.eraseIdx k) F2
 | [],_,_,k,t,_,h=>by simp at h
 | u :: ts,_,F,k,t,h,hk=>by
  obtain ⟨v,r,F1,F2,e,s1,s2,s3,h4,h5⟩:=h;subst e;cases k with
  | zero =>
   have:u=t:=by simpa using hk
   subst this;exact ⟨v,F1,F2,rfl,s1,s2,s3,h4,h5⟩
  | succ k =>
   obtain ⟨w,G1,G2,g1,g2,g3,g4,g5,g6⟩:=Ows.out (k:=k) h5 (by simpa using hk);refine ⟨w,G1,U F1 G2,by simpa using g1,fun b z=>s2 b (g2 b z),fun b z=>z.elim (s1 b) fun z=>s2 b (g3 b z),fun b z z2=>?_,g5,v,r.eraseIdx k,F1,G2,rfl,fun b=>.inl,fun b=>.inr,fun b z1 z2=>s3 b z1 (g3 b z2),h4,g6⟩;rcases z2 with z2 | z2
   ·exact s3 b z2 (g2 b z)
   ·exact g4 b z z2
def ic (i:Nat) (f:ME):ME:=fun en=>match (en[i]?).join with
 | some (.list _)=>(f en).bind fun r=>match r.1,(r.2[i]?).join with
  | .int n,some (.list ts)=>if -(2 ^ 63)<=n/\n < 2 ^ 63 then (seqIndex? n ts.length).bind fun k=>(ts[k]?).map fun t=>(t,r.2.set i (some (.list (ts.eraseIdx k)))) else none
  | _,_=>none
 | _=>none
def FG {c:Nat} (hd:ds1[i]?=some d) (hz:d≠0) (hc:dn d=c) (h:tF K false ds ds1 c (ic i f) σ H Q):tBM K "list" va (iJ i) (iu (tF K p ds ds1 d1 f) nQ) σ H Q:=by
 obtain ⟨Ox,en,R,t,en',e,hf,k⟩:=h;unfold ic at hf;split at hf
 case h_2=>cases hf
 next ts0 h0 =>
 obtain ⟨⟨t1,en1⟩,h1,hf⟩:=zaa.mp hf
 dsimp only at hf
 split at hf
 case h_2=>cases hf
 next n ts h2 =>
 by_cases hn:-(2 ^ 63)<=n/\n < 2 ^ 63
 case neg=>rw [if_neg hn] at hf; cases hf
 rw [if_pos hn] at hf;obtain ⟨kk,h3,hf⟩:=zaa.mp hf;obtain ⟨t',h4,hf⟩:=zab.mp hf;cases hf;obtain ⟨v,d0,a1,_,a3⟩:=e.at_ i _ (bj h0);obtain ⟨l0,vs0,e0,sq⟩:=a3.sqL;refine ⟨v,a1,?_,Ox,en,R,.int n,en1,e,h1,fun x H1 R1 F P o=>?_⟩
 ·rw [e0]; exact .inl ⟨rfl,vs0,sq⟩
 obtain ⟨v',d',b1,b2,b3⟩:=P.env.at_ i _ (bj h2);rw [a1] at b1;cases b1;rw [hd] at b2;cases b2;obtain ⟨l,vs,el,hl,hr,F',hf',ow⟩:=b3.ownL hz;have len:=ow.len;obtain ⟨w,F1,F2,g1,g2,g3,g4,g5,g6⟩:=ow.out h4;have ex:x=.int n:=o;refine ⟨l,vs,n,kk,w,el,by rw [ex],hl,hn.1,hn.2,by rw [len]; exact h3,g1,?_⟩;have hi:i < en1.length:=(zah.mp (bj h2)).1;have gG:∀ a,(fun a=>R1 i a/\¬ F1 a) a->R1 i a\/F a:=fun a z=>.inl z.1;have gF:∀ a,F1 a->R1 i a\/F a:=fun a z=>.inl (hf' a (g2 a z)).1;have sub:∀ a,Own (fun j=>if j=i then (fun a=>R1 i a/\¬ F1 a) else R1 j) (U F1 Ox) a->Own R1 (U F Ox) a:=fun a z=>nC gG gF a z;have Ol:Own R1 (U F Ox) l:=.inl ⟨i,hr⟩;have F1l:¬ F1 l:=fun z=>(hf' l (g2 l z)).2 rfl;rw [hc] at g5;refine k w (upd H1 l (.lst (vs.eraseIdx kk))) _ F1 (P.slot (G:=fun a=>R1 i a/\¬ F1 a) hr hi a1 hd gG gF (fun a z z2=>z.2 z2) ?_) (Ow.past sub Ol (fun b z=>(hf' b (g2 b z)).2) g5);exact ⟨l,vs.eraseIdx kk,el,.inr ⟨hz,aL,⟨hr,F1l⟩,F2,fun b z=>⟨⟨(hf' b (g3 b z)).1,fun z1=>g4 b z1 z⟩,(hf' b (g3 b z)).2⟩,Ows.past sub Ol (fun b z=>(hf' b (g3 b z)).2) g6⟩⟩
def Ows.setAt:∀ {ts:List PyData} {vs:List V} {F F2:AS} {k:Nat} {t:PyData} {v:V},Ows K O H ts d vs F->Ow K O H t d v F2->(∀ b,F b->¬ F2 b)->Ows K O H (ts.set k t) d (vs.set k v) (U F F2)
 | [],_,_,_,_,_,_,h,_,_=>by rw [show _=[] from h]; rfl
 | u :: ts,_,F,F2,k,t,v,h,h2,hd=>by
  obtain ⟨w,r,G1,G2,e,s1,s2,s3,h4,h5⟩:=h;subst e;cases k with
  | zero=>exact ⟨v,r,F2,G2,rfl,fun _ z=>.inr z,fun b z=>.inl (s2 b z),fun b z z2=>hd b (s2 b z2) z,h2,h5⟩
  | succ k =>
   refine ⟨w,r.set k v,G1,U G2 F2,rfl,fun b z=>.inl (s1 b z),fun b z=>z.imp (s2 b) id,fun b z z2=>?_,h4,Ows.setAt h5 h2 fun b z=>hd b (s2 b z)⟩;rcases z2 with z2 | z2
   ·exact s3 b z z2
   ·exact hd b (s1 b z) z2
def fu (i:Nat) (fk fe:ME):MS:=fun en=>(fe en).bind fun r=>match (r.2[i]?).join with
 | some _=>(fk r.2).bind fun q=>match q.1,(q.2[i]?).join with
  | .int n,some (.list ts)=>(ixN ts.length n).map fun k=>.nx (q.2.set i (some (.list (ts.set k r.1))))
  | _,_=>none
 | none=>none
def E8 {c:Nat} {fk fe:ME} (hd:ds2[i]?=some d) (hz:d≠0) (hc:dn d=c) (h:tFS K J ds ds2 (fu i fk fe) D σ H) :
  p8 (tF K p1 ds ds1 c fe) (Jb (iJ i) (tF K p2 ds1 ds2 d2 fk) DT) D σ H:=by
 obtain ⟨Ox,en,R,fl,e,hf,k⟩:=h;unfold fu at hf;obtain ⟨⟨t1,en1⟩,h1,hf⟩:=zaa.mp hf
 dsimp only at hf
 split at hf
 case h_2=>cases hf
 next tt h0 =>
 obtain ⟨⟨t2,en2⟩,h2,hf⟩:=zaa.mp hf
 dsimp only at hf
 split at hf
 case h_2=>cases hf
 next n ts h3 =>
 obtain ⟨kk,h4,hf⟩:=zab.mp hf;cases hf;refine ⟨Ox,en,R,t1,en1,e,h1,fun x H1 R1 F1 P1 o1=>?_⟩;obtain ⟨v0,d0,a1,_,_⟩:=P1.env.at_ i tt (bj h0);refine ⟨v0,a1,?_⟩;refine ⟨U F1 Ox,en1,R1,.int n,en2,P1.env,h2,fun y H2 R2 F2 P2 o2=>?_⟩;have P:=P1.trans P2;have o1':=Ow.over P1.env P2 o1;obtain ⟨v',d',b1,b2,b3⟩:=P.env.at_ i _ (bj h3);rw [a1] at b1;cases b1;rw [hd] at b2;cases b2;obtain ⟨l,vs,el,hl,hr,F',hf',ow⟩:=b3.ownL hz;refine ⟨l,vs,n,kk,el,o2,hl,by rw [ow.len]; exact h4,?_⟩;have hi:i < en2.length:=(zah.mp (bj h3)).1;have Fn:∀ a,F1 a->a≠l:=fun a z z2=>by
  subst z2;exact P.env.dx i a hr (.inl (.inl z))
 have gG:∀ a,(fun a=>R2 i a\/F1 a) a->R2 i a\/U F1 F2 a:=fun a z=>z.imp id .inl;have sub:=nC (i:=i) (R1:=R2) (Ox:=Ox) (G:=fun a=>R2 i a\/F1 a) (F':=NoA) (F:=U F1 F2) gG (fun _ z=>z.elim);have Ol:Own R2 (U (U F1 F2) Ox) l:=.inl ⟨i,hr⟩;have PS:=P.slot (G:=fun a=>R2 i a\/F1 a) (F':=NoA) (o2:=.lst (vs.set kk x)) (t:=.list (ts.set kk t1)) hr hi a1 hd gG (fun _ z=>z.elim) (fun _ _ z=>z) ?_
 ·exact k σ _ _ PS.s
 refine ⟨l,vs.set kk x,el,.inr ⟨hz,aL,.inl hr,U F' F1,fun b z=>?_,?_⟩⟩
 ·rcases z with z | z
  ·exact ⟨.inl (hf' b z).1,(hf' b z).2⟩
  ·exact ⟨.inr z,Fn b z⟩
 ·refine Ows.setAt (Ows.past sub Ol (fun b z=>(hf' b z).2) ow) ?_ fun b z1 z2=>P.env.dx i b (hf' b z1).1 (.inl (.inl z2));rw [hc];exact Ow.past sub Ol Fn o1'
def Ows.get:∀ {ts:List PyData} {vs:List V} {F:AS} {k:Nat} {t:PyData},Ows K O H ts d vs F->ts[k]?=some t->∃ v,vs[k]?=some v/\Ow K O H t d v F
 | [],_,_,k,t,_,h=>by simp at h
 | u :: ts,_,F,k,t,h,hk=>by
  obtain ⟨v,r,F1,F2,e,s1,s2,s3,h4,h5⟩:=h;subst e;cases k with
  | zero =>
   have:u=t:=by simpa using hk
   subst this;exact ⟨v,rfl,Ow.grow (fun _ z=>z) u s1 h4⟩
  | succ k =>
   obtain ⟨w,g1,g2⟩:=Ows.get (k:=k) h5 (by simpa using hk);exact ⟨w,by simpa using g1,Ow.grow (fun _ z=>z) t s2 g2⟩
def Ows.atI {ts:List PyData} {vs:List V} {F:AS} {n:Int} {t:PyData} (h:Ows K O H ts d vs F) (ht:L2.atI ts n=some t):∃ v,L2.atI vs n=some v/\Ow K O H t d v F:=by
 unfold L2.atI at ht ⊢;rw [h.len];obtain ⟨k,h1,h2⟩:=zaa.mp ht;obtain ⟨v,g1,g2⟩:=h.get h2;exact ⟨v,by rw [h1]; exact g1,g2⟩
def cX (i:Nat) (f:ME):ME:=fun en=>(en[i]?).join.bind fun _=>(f en).bind fun r=>match r.1,(r.2[i]?).join with
 | .int n,some (.list ts)=>(atI ts n).map fun t=>(t,r.2)
 | _,_=>none
def KR (hd:ds1[i]?=some 1) (h:tF K p ds ds1 0 (cX i f) σ H Q):tOp (tQ K) (iJ i) (tF K p ds ds1 d1 f) σ H Q:=by
 obtain ⟨Ox,en,R,t,en',e,hf,k⟩:=h;unfold cX at hf;obtain ⟨t0,h0,hf⟩:=zaa.mp hf;obtain ⟨⟨t1,en1⟩,h1,hf⟩:=zaa.mp hf
 dsimp only at hf
 split at hf
 case h_2=>cases hf
 next n ts h2 =>
 obtain ⟨t',h3,hf⟩:=zab.mp hf;cases hf;obtain ⟨v,d0,a1,_,a3⟩:=e.at_ i _ (bj h0);refine ⟨v,a1,Ox,en,R,.int n,_,e,h1,fun x H1 R1 F P o=>?_⟩;obtain ⟨v',d',b1,b2,b3⟩:=P.env.at_ i _ (bj h2);rw [a1] at b1;cases b1;rw [hd] at b2;cases b2;obtain ⟨l,vs,el,hl,hr,F',hf',ow⟩:=b3.ownL (by decide);obtain ⟨w,g1,g2⟩:=ow.atI h3;refine ⟨l,vs,n,w,el,o,SqL.of hl,g1,k w H1 R1 NoA (P.less fun _ z=>z.elim) ?_⟩;exact Ow.any0 _ (Ow.grow (fun a z=>z.imp id fun z=>z.elim (fun z=>False.elim z) Or.inr) _ (fun _ z=>z) g2)
end
def PE.imp {X:Cx} {e:Expr} {t t':TE} (h:PE X e t) (hi:∀ σ H Q,t' σ H Q->t σ H Q):PE X e t':=fun pins s σ H Q I hw=>h pins s σ H Q I (hi _ _ _ hw)
def PT.imp {X:Cx} {e:Expr} {t t':TT} (h:PT X e t) (hi:∀ σ H Q,t' σ H Q->t σ H Q):PT X e t':=fun pins s σ H Q I hw=>h pins s σ H Q I (hi _ _ _ hw)
def PW.imp {X:Cx} {e:Expr} {t t':TT} (h:PW X e t) (hi:∀ σ H Q,t' σ H Q->t σ H Q):PW X e t':=fun wh pins s σ H Q I hw=>h wh pins s σ H Q I (hi _ _ _ hw)
def PA.imp {X:Cx} {e:List Expr} {t t':TA} (h:PA X e t) (hi:∀ σ H Q,t' σ H Q->t σ H Q):PA X e t':=fun pos pins s σ H Q I hw=>h pos pins s σ H Q I (hi _ _ _ hw)
def PS.imp {X:Cx} {e:Stmt} {t t':TS} (h:PS X e t) (hi:∀ D σ H,t' D σ H->t D σ H):PS X e t':=fun pins s σ H D I hw=>h pins s σ H D I (hi _ _ _ hw)
def PSs.imp {X:Cx} {e:List Stmt} {t t':TS} (h:PSs X e t) (hi:∀ D σ H,t' D σ H->t D σ H):PSs X e t':=fun pins s σ H D I hw=>h pins s σ H D I (hi _ _ _ hw)
def PG.imp {X:Cx} {e:Expr} {t t':TG} (h:PG X e t) (hi:∀ v σ H Q,t' v σ H Q->t v σ H Q):PG X e t':=fun pins s σ H v u Q I r hw=>h pins s σ H v u Q I r (hi _ _ _ _ hw)
def PGs.imp {X:Cx} {e:List Expr} {t t':TGs} (h:PGs X e t) (hi:∀ v σ H Q,t' v σ H Q->t v σ H Q):PGs X e t':=fun pins s σ H v u Q I r hw=>h pins s σ H v u Q I r (hi _ _ _ _ hw)
def PI.imp {X:Cx} {tg e:Expr} {t t':TI} (h:PI X tg e t) (hi:∀ σ H R,t' σ H R->t σ H R):PI X tg e t':=fun pins s σ H R I hw=>h pins s σ H R I (hi _ _ _ hw)
def PTs.imp {X:Cx} {e:List Expr} {t t':TT} (h:PTs X e t) (hi:∀ σ H Q,t' σ H Q->t σ H Q):PTs X e t':=fun pins s σ H Q I hw=>h pins s σ H Q I (hi _ _ _ hw)
def aF:Expr->Bool
 | .Starred _ _=>false
 | _=>true
def a7 {e:Expr} {es:List Expr} {env:Env} (h:aF e=true):starEach (e :: es) env=(false,eval e env) :: starEach es env:=by
 cases e <;> first | rfl | cases h
def cQ {pos:Pos} {env:Env}:∀ {es:List Expr},es.all aF=true->(backTo pos (starEach es env)).any (·.1)=false
 | [],_=>rfl
 | e :: es,h=>by
  rw [List.all_cons,Bool.and_eq_true] at h;rw [a7 h.1];show (false || (backTo pos (starEach es env)).any (·.1))=false;rw [cQ h.2];rfl
section
variable {X:Cx} {K:PySem.W.Frag} {p p1 p2 q:Bool} {ds ds0 ds1 ds2 ds' dsi:List Nat} {d d' d1 d2:Nat} {a b c e:Expr} {es:List Expr} {f f1 f2:ME} {m c1 c2:MT} {fa:MA} {sh:Sh} {pos:Pos} {i:Nat} {x:Str}
def Jx {x:Str} (hN:X.N[i]?=some x) (hv:Vis X.env.scope x) (h0:ds[i]?=some 0) (hd:(x == ("__debug__" : Str))=false) (hcd:(x == ("__classdict__" : Str))=false):PE X (.Name x pos) (tF K p ds ds 0 (ac i)) :=
 (gp hN hv hd hcd).imp fun _ _ _ h=>KL h0 (jM (fun _=>rfl) h)
def JL {n:Int} {j}:PE X (.Constant (.int n) j pos) (tF K p ds ds 3 (eC (.int n))):=pe_int.imp fun _ _ _ h=>f_c (t:=.int n) (fun _ _ _ _=>rfl) (jM (fun _=>rfl) h)
def KK {n:Bool} {j}:PE X (.Constant (.bool n) j pos) (tF K p ds ds 3 (eC (.bool n))):=pe_bl.imp fun _ _ _ h=>f_c (t:=.bool n) (fun _ _ _ _=>rfl) (jM (fun _=>rfl) h)
def JD {j}:PE X (.Constant .none j pos) (tF K p ds ds 3 (eC .none)):=pe_non.imp fun _ _ _ h=>f_c (t:=.none) (fun _ _ _ _=>rfl) (jM (fun _=>rfl) h)
def JA {n:Str} {j}:PE X (.Constant (.str n) j pos) (tF K p ds ds 3 (eC (.str n))):=pe_str.imp fun _ _ _ h=>f_c (t:=.str n) (fun _ _ _ _=>rfl) (jM (fun _=>rfl) h)
def xP {x:Str} {n:Int} {t:Tok} (hg:Gl X x) (hm:X.mg x=some (.int n t)) (hd:(x == ("__debug__" : Str))=false):PE X (.Name x pos) (tF K p ds ds 3 (eC (.int n))) :=
 (nW (v:=.int n) hg hm ⟨t,rfl⟩ hd).imp fun _ _ _ h=>f_c (t:=.int n) (fun _ _ _ _=>rfl) (jM (fun _=>rfl) h)
def Jz (h:PE X e (tF K p ds ds' d f)) (hd:d'<=d):PE X e (tF K p ds ds' d' f):=h.imp fun _ _ _=>KN hd
def KI (h:PE X e (tF K p ds0 ds' d f)) (hd:leD ds0 ds=true):PE X e (tF K false ds ds' d f):=h.imp fun _ _ _=>Lk hd
def JO (h:PE X e (tF K true ds0 ds0 3 f)) (hd:leD ds0 ds=true):PE X e (tF K p ds ds 3 f):=h.imp fun _ _ _ h=>KS hd (jM (fun _=>rfl) h)
def KD {op:Operator} {g:D->D->Option D} (ho:OpR X (binaryOp op) (rF2 K g d)) (ha:PE X a (tF K p ds ds1 d1 f1)) (hb:PE X b (tF K p ds1 ds2 d2 f2)):PE X (.BinOp a op b pos) (tF K p ds ds2 d (e2 g f1 f2)) :=
 (Kp ho ha hb).imp fun _ _ _ h=>pR (by rw [Bool.and_self]; exact h)
def KB {op:UnaryOp} {g:D->Option D} (ho:UnR X (unaryOp op) (rF1 K g d)) (ha:PE X a (tF K p ds ds1 d1 f1)):PE X (.UnaryOp op a pos) (tF K p ds ds1 d (e1 g f1)) :=
 (Km ho ha).imp fun _ _ _=>KO
def JN {op:CmpOp} {g:D->D->Option D} (ho:OpR X (compareOp op) (rF2 K g d)) (ha:PE X a (tF K p ds ds1 d1 f1)) (hb:PE X b (tF K p ds1 ds2 d2 f2)) (hm:behindInMarks op b=false):PE X (.Compare a [op] [b] pos) (tF K p ds ds2 d (e2 g f1 f2)) :=
 (EF ho ha hb hm).imp fun _ _ _ h=>pR (by rw [Bool.and_self]; exact h)
def E4 {op:CmpOp} {g:D->D->Option D} (ho:OpR X (compareOp op) (rF2 K g d)) (ha:PE X a (tF K p ds ds1 d1 f1)) (hb:PE X b (tF K p ds1 ds2 d2 f2)) (hm:behindInMarks op b=false):PT X (.Compare a [op] [b] pos) (tFT K p ds ds2 (tV (e2 g f1 f2))) :=
 (Et ho ha hb hm).imp fun σ H Q h=>by
  obtain ⟨Ox,en,R,t,en',e,hf,k⟩:=vS (d:=d) h;exact pR (by rw [Bool.and_self]; exact ⟨Ox,en,R,t,en',e,hf,k⟩)
def E2 (h:PE X e (tF K p ds ds' d f)) (he:∀ whole,isTrue e X.env whole=(do let v <- whole; standAt e.pos; holding [v] (truthy v))):PT X e (tFT K p ds ds' (tV f)):=(Im h he).imp fun _ _ _=>vS
def EX (ha:PT X a (tFT K p ds ds1 c1)):PW X (.BoolOp .And [a] pos) (tFT K p ds ds1 c1):=Er ha
def Je (ha:PT X a (tFT K p ds ds1 c1)):PW X (.BoolOp .Or [a] pos) (tFT K p ds ds1 c1):=Ik ha
def Jf {rest:List Expr} (ha:PT X a (tFT K p ds ds1 c1)) (hb:PW X (.BoolOp .And (b :: rest) pos) (tFT K p ds1 ds1 c2)):PW X (.BoolOp .And (a :: b :: rest) pos) (tFT K p ds ds1 (dJ c1 c2)):=(Il ha hb).imp fun _ _ _ h=>Ji (by rw [Bool.and_self]; exact h)
def Kx {rest:List Expr} (ha:PT X a (tFT K p ds ds1 c1)) (hb:PW X (.BoolOp .Or (b :: rest) pos) (tFT K p ds1 ds1 c2)):PW X (.BoolOp .Or (a :: b :: rest) pos) (tFT K p ds ds1 (bOr c1 c2)):=(Kl ha hb).imp fun _ _ _ h=>Ky (by rw [Bool.and_self]; exact h)
def E3 (ha:PT X a (tFT K p ds ds1 c1)):PT X (.UnaryOp .Not a pos) (tFT K p ds ds1 (dD c1)):=(Io ha).imp fun _ _ _=>Jg
def E5 (h:PT X e (tFT K true ds0 ds0 c1)) (hd:leD ds0 ds=true):PT X e (tFT K p ds ds c1):=h.imp fun _ _ _ ⟨Ox,en,R,t,en',e,hf,k⟩=>Jh hd ⟨Ox,en,R,t,en',e,hf,fun H' R' P=>k H' R' ⟨P.env,P.fx,P.keep,P.own,P.dom,fun _=>P.pure rfl⟩⟩
def JB {op} (h:PE X a (tF K p ds ds1 d f)):PE X (.BoolOp op [a] pos) (tF K p ds ds1 d f):=Ix h
def JQ {rest:List Expr} (ha:PE X a (tF K p ds ds1 d1 f1)) (hb:PE X (.BoolOp .And (b :: rest) pos) (tF K p ds1 ds1 d f2)):PE X (.BoolOp .And (a :: b :: rest) pos) (tF K p ds ds1 d (kH f1 f2)):=(IA ha hb).imp fun _ _ _ h=>KW (by rw [Bool.and_self]; exact h)
def KC {rest:List Expr} (ha:PE X a (tF K p ds ds1 d1 f1)) (hb:PE X (.BoolOp .Or (b :: rest) pos) (tF K p ds1 ds1 d f2)):PE X (.BoolOp .Or (a :: b :: rest) pos) (tF K p ds ds1 d (eOr f1 f2)):=(Ko ha hb).imp fun _ _ _ h=>Li (by rw [Bool.and_self]; exact h)
def JC (ha:PE X a (tF K p ds ds1 d1 f)):PE X (.UnaryOp .Not a pos) (tF K p ds ds1 3 (on f)):=(Iy ha).imp fun _ _ _=>KP
def KH (hc:PT X c (tFT K p ds ds1 c1)) (ha:PE X a (tF K p ds1 ds2 d f1)) (hb:PE X b (tF K p ds1 ds2 d f2)):PE X (.IfExp c a b pos) (tF K p ds ds2 d (eIf c1 f1 f2)):=(wV hc ha hb).imp fun _ _ _ h=>Lj (by rw [Bool.and_self,Bool.and_self]; exact h)
def FE:PA X [] (tFA K p ds ds [] ag):=pa_nil.imp fun _ _ _ ⟨Ox,en,R,t,en',e,hf,k⟩=>JR ⟨Ox,en,R,t,en',e,hf,fun vs H' R' F P=>k vs H' R' F ⟨P.env,P.fx,P.keep,P.own,P.dom,fun _=>P.pure rfl⟩⟩
def xU (ha:PE X e (tF K p ds ds1 d f)) (hr:PA X es (tFA K p ds1 ds2 sh fa)) (hs:aF e=true):PA X (e :: es) (tFA K p ds ds2 (.inl d :: sh) (ad f fa)):=(bU ha hr (a7 hs)).imp fun _ _ _ h=>FF (by rw [Bool.and_self]; exact h)
def xT {x:Str} (hN:X.N[i]?=some x) (hv:Vis X.env.scope x) (hr:PA X es (tFA K p ds ds2 sh fa)) (hd:(x == ("__debug__" : Str))=false) (hcd:(x == ("__classdict__" : Str))=false) :
  PA X (.Name x pos :: es) (tFA K p ds ds2 (.inr i :: sh) (aH i fa)):=(bU (gp hN hv hd hcd) hr (a7 rfl)).imp fun _ _ _=>FD
def JE {c:Nat} (h:PA X es (tFA K p ds ds1 sh fa)) (hs:bT c sh=true) (hd:dn d=c) (hz:d≠0):PE X (.List es pos) (tF K p ds ds1 d (bg fa)):=(Iz h).imp fun _ _ _=>KQ hs hd hz
def Jy {c:Nat} {x1} (h:PA X es (tFA K p ds ds1 sh fa)) (hs:bT c sh=true) (hd:dn d=c):PE X (.Tuple es x1 pos) (tF K p ds ds1 d (eX fa)):=(vg h).imp fun _ _ _=>KM hs hd
def xS {id:String} {x:Str} {px:Pos} {g:List D->Option D} (hc:CallR X (.builtin id) (rFn K g d)) (hg:Gl X x) (hm:X.mg x=none) (hv:bootBuiltins x=some (.builtin id)) (ha:PA X (e :: es) (tFA K p ds ds1 sh fa)) (hsh:bT 0 sh=true) (hn:x≠"__name__") (hdb:(x == ("__debug__" : Str))=false)
  (he:aF e=true) (hpl:es.all aF=true):PE X (.Call (.Name x px) (e :: es) [] pos) (tF K p ds ds1 d (eN g fa)) :=
 (hU hc hg hm hv ha hn hdb (a7 he) (cQ hpl)).imp fun _ _ _=>v8 hsh
def v7 {T:String} {x:Str} {px:Pos} {g:List D->Option D} (hc:CallR X (.type T) (rFn K g d)) (hg:Gl X x) (hm:X.mg x=none) (hv:bootBuiltins x=some (.type T)) (ha:PA X (e :: es) (tFA K p ds ds1 sh fa)) (hsh:bT 0 sh=true) (hn:x≠"__name__") (hdb:(x == ("__debug__" : Str))=false)
  (he:aF e=true) (hpl:es.all aF=true):PE X (.Call (.Name x px) (e :: es) [] pos) (tF K p ds ds1 d (eN g fa)) :=
 (vi hc hg hm hv ha hn hdb (a7 he) (cQ hpl)).imp fun _ _ _=>v8 hsh
def KJ {k:Nat} {x:Str} {ps:List Str} {px:Pos} {dps:List Nat} {dr:Nat} {F:List D->Option (D × En)} (G:Kn X.prog X.w X.K X.mg X.base k x ps (spF K dps dr F)) (hr:Room k X.A) (hg:Gl X x) (ha:PA X (e :: es) (tFA K p ds ds1 sh fa)) (hns:gq sh=true) (hcd:cZ ds1 sh dps=true) (hdb:(x == ("__debug__" : Str))=false)
  (he:aF e=true) (hpl:es.all aF=true) :
  PE X (.Call (.Name x px) (e :: es) [] pos) (tF K p ds ds1 dr (ak F fa)):=(DY G hr hg ha hdb (a7 he) (cQ hpl)).imp fun _ _ _ h=>xW hcd (by rw [hns,Bool.and_true]; exact h)
def JM {k:Nat} {x:Str} {ps:List Str} {px:Pos} {dps:List Nat} {dr:Nat} {F:List D->Option (D × En)} (G:Kn X.prog X.w X.K X.mg X.base k x ps (spF K dps dr F)) (hr:Room k X.A) (hg:Gl X x) (ha:PA X (e :: es) (tFA K false ds ds1 sh fa)) (hcd:cZ ds1 sh dps=true) (hdb:(x == ("__debug__" : Str))=false)
  (he:aF e=true) (hpl:es.all aF=true) :
  PE X (.Call (.Name x px) (e :: es) [] pos) (tF K false ds ds1 dr (ak F fa)):=(DY G hr hg ha hdb (a7 he) (cQ hpl)).imp fun _ _ _ h=>xW hcd h
def KG {g:D->D->Option D} (ho:IxR X (rF2 K g d)) (ha:PE X a (tF K p ds ds1 d1 f1)) (hb:PE X b (tF K p ds1 ds2 d2 f2)) (hs:jr b):PE X (.Subscript a b pos) (tF K p ds ds2 d (e2 g f1 f2)) :=
 (DX ho ha hb hs).imp fun _ _ _ h=>pR (by rw [Bool.and_self]; exact h)
def JG {x:Str} {px:Pos} (hK:X.K=K) (hN:X.N[i]?=some x) (hv:Vis X.env.scope x) (h1:ds1[i]?=some 1) (hb:PE X b (tF K p ds ds1 d1 f)) (hs:jr b) (hd:(x == ("__debug__" : Str))=false) (hcd:(x == ("__classdict__" : Str))=false) :
  PE X (.Subscript (.Name x px) b pos) (tF K p ds ds1 0 (cX i f)):=(DX (Ld hK) (gp hN hv hd hcd) hb hs).imp fun _ _ _=>KR h1
def JP {c:Nat} {x:Str} {px apos cpos:Pos} (hK:X.K=K) (hN:X.N[i]?=some x) (hv:Vis X.env.scope x) (h1:ds1[i]?=some d) (he:PE X e (tF K false ds ds1 c f)) (hz:d≠0) (hc:dn d=c)
  (hd:(x == ("__debug__" : Str))=false) (hcd:(x == ("__classdict__" : Str))=false)
  (hbase:attributeBase (.Name x px) "append" X.env (eval (.Name x px) X.env)=eval (.Name x px) X.env)
  (hfew:((backTo cpos (starEach [e] X.env)).all (fun x=>!x.1) && (backToKw cpos (keywordEach [] X.env)).all (fun x=>x.1.isSome) && decide (([e]:List Expr).length+([]:List Keyword).length+(if ([]:List Keyword).isEmpty then 0 else 1) < 30))=true)
  (hline:(apos.endLine == cpos.line)=true) (hs:starEach [e] X.env=[(false,eval e X.env)]) (hplain:(backTo cpos (starEach [] X.env)).any (·.1)=false) :
  PE X (.Call (.Attribute (.Name x px) "append" apos) [e] [] cpos) (tF K false ds ds1 3 (bK i f)):=by
 subst hK;exact (tS PySem.F.plainAttrs_list PySem.F.slot_list_append PySem.F.type_list_append oS (gp hN hv hd hcd) (bU he pa_nil hs) hbase hfew hline hs hplain).imp fun _ _ _=>KU h1 hz hc
def xL {c:Nat} {x:Str} {px apos cpos:Pos} (hK:X.K=K) (hN:X.N[i]?=some x) (hv:Vis X.env.scope x) (h1:ds1[i]?=some d) (he:PE X e (tF K false ds ds1 d1 f)) (hz:d≠0) (hc:dn d=c)
  (hd:(x == ("__debug__" : Str))=false) (hcd:(x == ("__classdict__" : Str))=false)
  (hbase:attributeBase (.Name x px) "pop" X.env (eval (.Name x px) X.env)=eval (.Name x px) X.env)
  (hfew:((backTo cpos (starEach [e] X.env)).all (fun x=>!x.1) && (backToKw cpos (keywordEach [] X.env)).all (fun x=>x.1.isSome) && decide (([e]:List Expr).length+([]:List Keyword).length+(if ([]:List Keyword).isEmpty then 0 else 1) < 30))=true)
  (hline:(apos.endLine == cpos.line)=true) (hs:starEach [e] X.env=[(false,eval e X.env)]) (hplain:(backTo cpos (starEach [] X.env)).any (·.1)=false) :
  PE X (.Call (.Attribute (.Name x px) "pop" apos) [e] [] cpos) (tF K false ds ds1 c (ic i f)):=by
 subst hK;exact (tS PySem.F.plainAttrs_list PySem.F.slot_list_pop PySem.F.type_list_pop xa (gp hN hv hd hcd) (bU he pa_nil hs) hbase hfew hline hs hplain).imp fun _ _ _=>FG h1 hz hc
def cY:MT:=fun en=>some (true,en)
def EZ:PTs X [] (tFT K p ds ds cY):=pts_nil.imp fun σ H Q ⟨Ox,en,R,b,en',e,hf,k⟩=>by
 cases hf;exact k H R (Post.refl e)
def EY (hc:PT X c (tFT K p ds ds1 c1)):PTs X [c] (tFT K p ds ds1 c1):=Es hc
def KE {elt tg iter:Expr} {ifs:List Expr} {scope:Scope} {ns:List Str} {js:List (Option Nat)} {fi:MI} {g:MG} {lk:List Nat} {cd:Nat} (B:BlkOkC X scope ns js) (hc:X.calm=true) (hi:PI X tg iter (tFI K p ds ds1 fi))
  (hg:∀ C cl s₀ H₀ fp,PG (aO X scope ns C cl s₀ H₀ fp) tg (tFG K lk dsi dsi g)) (ht:∀ C cl s₀ H₀ fp,PTs (aO X scope ns C cl s₀ H₀ fp) ifs (tFT K true dsi dsi c1)) (he:∀ C cl s₀ H₀ fp,PE (aO X scope ns C cl s₀ H₀ fp) elt (tF K true dsi dsi cd f))
  (hcap:gD ds1 js dsi=true) (hd:dn d=cd) (hz:d≠0) (hlk:lk=gC js 0)
  (hs:∀ x,foldedSetIterable iter X.env x=pure x):PE X (.ListComp elt [⟨tg,iter,ifs,0⟩] scope pos) (tF K p ds ds1 d (eLC true fi g c1 f js)) :=
 (vh B hc hi hg ht he hs).imp fun _ _ _ h=>xV hcap hd hz hlk (by rw [Bool.and_true]; exact h)
def JF {elt tg iter:Expr} {ifs:List Expr} {scope:Scope} {ns:List Str} {js:List (Option Nat)} {fi:MI} {g:MG} {lk:List Nat} {cd:Nat} (B:BlkOkC X scope ns js) (hc:X.calm=true) (hi:PI X tg iter (tFI K false ds ds1 fi))
  (hg:∀ C cl s₀ H₀ fp,PG (aO X scope ns C cl s₀ H₀ fp) tg (tFG K lk dsi dsi g)) (ht:∀ C cl s₀ H₀ fp,PTs (aO X scope ns C cl s₀ H₀ fp) ifs (tFT K false dsi dsi c1)) (he:∀ C cl s₀ H₀ fp,PE (aO X scope ns C cl s₀ H₀ fp) elt (tF K false dsi dsi cd f))
  (hcap:gD ds1 js dsi=true) (hd:dn d=cd) (hz:d≠0) (hlk:lk=gC js 0)
  (hs:∀ x,foldedSetIterable iter X.env x=pure x):PE X (.ListComp elt [⟨tg,iter,ifs,0⟩] scope pos) (tF K false ds ds1 d (eLC false fi g c1 f js)) :=
 (vh B hc hi hg ht he hs).imp fun _ _ _ h=>xV hcap hd hz hlk h
end
def LI (f:ME) (g:MG):MS:=fun en=>(f en).bind fun r=>(g r.1 r.2).map .nx
section
variable {K:PySem.W.Frag} {p p1 p2 q:Bool} {J:Jd} {ds ds0 ds1 ds2 ds' dsi dps:List Nat} {d d' d1 d2 dr:Nat} {f f1 f2 fk fe:ME} {c1 c2:MT} {fa:MA} {sh:Sh} {i:Nat} {m m1 m2:MS} {g:MG} {lk:List Nat} {σ:St} {H:Hp} {Dn:Ends}
end
section
variable {X:Cx} {K:PySem.W.Frag} {p p1 p2 q:Bool} {J:Jd} {ds ds0 ds1 ds2 ds' dsi dps:List Nat} {d d' d1 d2 dr:Nat} {a b c e tg iter:Expr} {es:List Expr} {st:Stmt} {rest body bodyB:List Stmt} {f f1 f2 fk fe:ME} {c1 c2:MT} {fa:MA} {sh:Sh} {pos px:Pos} {i:Nat} {x:Str} {m m1 m2:MS} {g:MG} {gs:List D->En->Option En} {fi:MI} {lk:List Nat}
def E7:PSs X [] (tFS K J ds ds aZ):=pss_nil.imp fun _ _ _=>Jm
def xy (h1:PS X st (tFS K J ds ds1 m1)) (h2:PSs X rest (tFS K J ds1 ds2 m2)):PSs X (st :: rest) (tFS K J ds ds2 (ai m1 m2)):=(lY h1 h2).imp fun _ _ _=>Jk
def E6 (h1:PS X st (tFS K J ds ds1 m1)):PSs X [st] (tFS K J ds ds1 m1):=Eu h1
def Fg (he:PE X e (tF K false ds ds1 d f)) (hs:swapsWith e none pos.line X.env=pure false):PS X (.Expr e pos) (tFS K J ds ds1 (bQ f)):=(Ev he hs).imp fun _ _ _=>Jo
def Fd (he:PE X e (tF K false ds ds1 J.dr f)) (hd:leD J.dsr ds1=true):PS X (.Return (some e) pos) (tFS K J ds ds' (aB f)):=(Iq he).imp fun _ _ _=>Jl hd
def vX:PS X st (tFS K J ds ds' df):=ps_never.imp fun _ _ _=>xA
def Jp (hc:PT X c (tFT K false ds ds1 c1)) (ha:PSs X body (tFS K J ds1 ds2 m1)) (hb:PSs X bodyB (tFS K J ds1 ds2 m2)):PS X (.If c body bodyB pos) (tFS K J ds ds2 (sIf c1 m1 m2)):=(DW hc ha hb).imp fun _ _ _=>Kz
def Fc {x:Str} {pos':Pos} (hN:X.N.Nodup) (hi:X.N[i]?=some x) (hx:Loc X.env.scope x) (he:PE X e (tF K false ds ds1 d f)) (hds:ds1.set i d=ds') (hl:i < ds1.length) (hk:i ∉ J.lk)
  (hs:swapsWith e (some (.Name x pos')) pos.line X.env=pure false) (hf:X.fn x=true\/X.env.scope.names.lookup x=some .local) :
  PS X (.Assign [.Name x pos'] e pos) (tFS K J ds ds' (al i f)):=by
 subst hds;exact (Ip hN hi hx he hs hf).imp fun _ _ _=>vT hl hk
def vV {x:Str} {spos pos':Pos} {elt:Expr} {ifs:List Expr} {scope:Scope} {ns:List Str} {js:List (Option Nat)} {cd:Nat} (hN:X.N.Nodup) (hi':X.N[i]?=some x) (hx:X.env.scope.names.lookup x=some .local) (B:BlkOkC X scope ns js) (hc:X.calm=true) (hi:PI X tg iter (tFI K false ds ds1 fi))
  (hg:∀ C cl s₀ H₀ fp,PG (aO X scope ns C cl s₀ H₀ fp) tg (tFG K lk dsi dsi g)) (ht:∀ C cl s₀ H₀ fp,PTs (aO X scope ns C cl s₀ H₀ fp) ifs (tFT K q dsi dsi c1)) (he:∀ C cl s₀ H₀ fp,PE (aO X scope ns C cl s₀ H₀ fp) elt (tF K q dsi dsi cd f))
  (hds:ds1.set i d=ds') (hcap:gD ds1 js dsi=true) (hd:dn d=cd) (hz:d≠0) (hlk:lk=gC js 0) (hl:i < ds1.length) (hk:i ∉ J.lk)
  (hsw:swapsWith (.ListComp elt [⟨tg,iter,ifs,0⟩] scope pos) (some (.Name x pos')) spos.line X.env=pure true)
  (hs:∀ x,foldedSetIterable iter X.env x=pure x):PS X (.Assign [.Name x pos'] (.ListComp elt [⟨tg,iter,ifs,0⟩] scope pos) spos) (tFS K J ds ds' (al i (eLC q fi g c1 f js))):=by
 subst hds;exact (vd hN hi' hx B hc hi hg ht he hsw hs).imp fun D σ H h=>xV (p:=false) hcap hd hz hlk (vT (p:=false && q) hl hk h)
def xC {c:Nat} {x:Str} {spos:Pos} {k:Expr} (hN:X.N[i]?=some x) (hv:Vis X.env.scope x) (he:PE X e (tF K false ds ds1 c fe)) (hk:PE X k (tF K false ds1 ds2 d2 fk)) (h1:ds2[i]?=some d) (hz:d≠0) (hc:dn d=c)
  (hdb:(x == ("__debug__" : Str))=false) (hcd:(x == ("__classdict__" : Str))=false)
  (ha:∀ v,assign (.Subscript (.Name x px) k spos) X.env v=(do
   let ov <- holding [v] (eval (.Name x px) X.env);let iv <- holding [v,ov] (eval k X.env)
   standAt spos
   holding [v,ov,iv] (setItem ov iv v)
   release [v,ov,iv] []))
  (hs:swapsWithSole [.Subscript (.Name x px) k spos] e pos.line X.env=pure false) (hw:swappedStores [.Subscript (.Name x px) k spos] e X.env=pure none)
  (h2:(assignEach [.Subscript (.Name x px) k spos] X.env).map (·.2)=[assign (.Subscript (.Name x px) k spos) X.env]) :
  PS X (.Assign [.Subscript (.Name x px) k spos] e pos) (tFS K J ds ds2 (fu i fk fe)) :=
 (Iu he (Iw (gp hN hv hdb hcd) hk wM ha) hs hw h2).imp fun _ _ _=>E8 h1 hz hc
def xJ {x:Str} (hN:X.N.Nodup) (hi:X.N[i]?=some x) (hx:Loc X.env.scope x) (hds:ds.set i 0=ds') (hl:i < ds.length) (hk:i ∉ lk) (hf:X.fn x=true\/X.env.scope.names.lookup x=some .local) :
  PG X (.Name x pos) (tFG K lk ds ds' (gN i)):=by
 subst hds;exact (EC hN hi hx hf).imp fun _ _ _ _=>Fw hl hk
def xH:PGs X [] (gx K lk ds ds gs0):=pgs_nil.imp fun _ _ _ _=>Fu
def v5 (h1:PG X e (tFG K lk ds ds1 g)) (h2:PGs X es (gx K lk ds1 ds2 gs)) (hs:(assignEach (e :: es) X.env).map (·.2)=assign e X.env :: (assignEach es X.env).map (·.2)):PGs X (e :: es) (gx K lk ds ds2 (gsC g gs)):=(wT h1 h2 hs).imp fun _ _ _ _=>xI
def oh {g1 g2:MG}:∀ ts en,(∃ en',gsC g1 (gsC g2 gs0) ts en=some en')->ts.length=2:=fun ts en ⟨en',h⟩=>by
 match ts,h with
 | [],h=>cases h
 | [_],h =>
  obtain ⟨_,_,h⟩:=zaa.mp h;cases h
 | [_,_],_=>rfl
 | a :: b :: c :: r,h =>
  obtain ⟨_,_,h⟩:=zaa.mp h;obtain ⟨_,_,h⟩:=zaa.mp h;cases h
def Fv {k n:Nat} (hK:X.K=K) (hc:X.calm=true) (h:PGs X es (gx K lk ds ds1 gs)) (hl:∀ ts en,(∃ en',gs ts en=some en')->ts.length=n) (hn:(assignEach es X.env).length=n) (hst:(assignEach es X.env).findIdx? (·.1)=none) :
  PG X (.Tuple es k pos) (tFG K lk ds ds1 (gT gs)):=by
 subst hK;exact (Iv hc h hn hst).imp fun _ _ _ _=>Jw hl
def Fe (hc:X.calm=true) (hi:PI X tg iter (tFI K false ds ds1 fi)) (hg:PG X tg (tFG K J.lk ds1 ds2 g)) (hb:PSs X body (tFS K { J with dsl:=ds1 } ds2 ds1 m)) (hp:PassesOwn (model X.prog X.w) X.A X.env X.xe)
  (hs:∀ x,foldedSetIterable iter X.env x=pure x):PS X (.For tg iter body [] pos) (tFS K J ds ds1 (cF fi g m)):=(Ir hp hc hi hg hb hs).imp fun _ _ _=>Jn
def vU (hc:PT X c (tFT K false ds ds1 c1)) (hb:PSs X body (tFS K { J with dsl:=ds } ds1 ds m)) (hp:PassesOwn (model X.prog X.w) X.A X.env X.xe):PS X (.While c body [] pos) (tFS K J ds ds1 (bt c1 m)):=(wP hp hc hb).imp fun _ _ _=>xz
end
def DN:D->Option (List D)
 | .list ts=>some ts
 | .tuple ts=>some ts
 | .str z=>some ((li z).map fun c=>.str (mk1 c))
 | _=>none
def be (f:ME):MI:=fun en=>(f en).bind fun r=>(DN r.1).map fun ts=>(ts,r.2)
section
variable {K:PySem.W.Frag} {O O1:AS} {H0 H:Hp} {ts:List D} {vs:List V} {a:Addr} {F:AS}
def e9 {O O1:AS} (h1:∀ a o,H0 a=some o->¬ O a->H a=some o) (h2:∀ a,O1 a->O a\/H0 a=none):Mv O O1 NoA H0 H:=⟨fun a o q z=>z.elim (h1 a o q) fun z=>z.elim,h2⟩
def uX (h:FzL K O H0 a vs) (ho:Ows K O H0 ts 0 vs NoA):mC K O H0 (Itl K a) ts:=fun i H O1 h1 h2 h3=>by
 have sq:=(h.mv (e9 h1 h2)).sq;refine ⟨fun t ht=>?_,fun hl=>⟨vs,sq,by rw [ho.len]; omega⟩⟩;obtain ⟨v,hv,ov⟩:=ho.get ht;refine ⟨⟨vs,v,sq,hv⟩,fun x H1 ⟨e,y⟩=>?_⟩;subst e;have e2:=y vs sq;rw [hv] at e2;cases e2;exact ⟨fun _ _ q=>q,Ow.mv (e9 h1 h2) t (fun _ z=>z) ov⟩
def wD (h:FzT K O H0 a vs) (ho:Ows K O H0 ts 0 vs NoA):mC K O H0 (Itt K a) ts:=fun i H O1 h1 h2 h3=>by
 have sq:=(h.mv (e9 h1 h2)).sq;refine ⟨fun t ht=>?_,fun hl=>⟨vs,sq,by rw [ho.len]; omega⟩⟩;obtain ⟨v,hv,ov⟩:=ho.get ht;refine ⟨⟨vs,v,sq,hv⟩,fun x H1 ⟨e,y⟩=>?_⟩;subst e;have e2:=y vs sq;rw [hv] at e2;cases e2;exact ⟨fun _ _ q=>q,Ow.mv (e9 h1 h2) t (fun _ z=>z) ov⟩
def wE {z:Str}:mC K O H0 (Its z) ((li z).map fun c=>.str (mk1 c)):=fun i H O1 h1 h2 h3=>by
 refine ⟨fun t ht=>?_,fun hl=>?_⟩
 ·rw [zao] at ht;obtain ⟨c,hc,e⟩:=zab.mp ht;have hi:i < z.cps.size:=by
   have:=(zah.mp hc).1;simpa [li] using this
  have hc':z.cps[i]?=some c:=by
   have:z.cps.toList[i]?=some c:=hc;simpa using this
  refine ⟨hi,fun x H1 ⟨e1,c',e2,e3⟩=>?_⟩;subst e1 e e3;rw [hc'] at e2;cases e2;exact ⟨fun _ _ q=>q,rfl⟩
 ·have:z.cps.size=i:=by
   rw [zad] at hl;simpa [li] using hl
  show z.cps.size<=i;omega
def wF {lo:Int} {n:Nat}:mC K O H0 (Itr lo n) ((List.range n).map fun k=>.int (lo+(k:Nat))):=fun i H O1 h1 h2 h3=>by
 refine ⟨fun t ht=>?_,fun hl=>?_⟩
 ·rw [zao] at ht;obtain ⟨c,hc,e⟩:=zab.mp ht;have hi:=(zah.mp hc).1;rw [List.length_range] at hi;rw [List.getElem?_range hi] at hc;cases hc;refine ⟨hi,fun x H1 ⟨e1,e2⟩=>?_⟩;subst e1 e e2;exact ⟨fun _ _ q=>q,rfl⟩
 ·rw [zad,List.length_range] at hl;show n<=i;omega
def sA {t:D} {v:V} {i:Nat} {p:Addr} (hp:H p=none) (h3:∀ a,O1 a->∃ o,H a=some o) (ov:Ow K O1 H t 0 v NoA):(∀ a o,H a=some o->upd H p (.tup [.int i,v]) a=some o)/\Ow K O1 (upd H p (.tup [.int (i:Nat),v])) (.tuple [.int i,t]) 0 (.ref p) NoA:=by
 have g:=(bI (o:=.tup [.int i,v]) hp).1;refine ⟨g,p,[.int i,v],rfl,.inl ⟨rfl,⟨aL,fun z=>?_⟩,.int i,[v],NoA,NoA,rfl,fun _ z=>z,fun _ z=>z,fun _ z=>z.elim,rfl,v,[],NoA,NoA,rfl,fun _ z=>z,fun _ z=>z,fun _ z=>z.elim,?_,rfl⟩⟩
 ·obtain ⟨o,q⟩:=h3 p z;rw [hp] at q;cases q
 ·exact Ow.mv (G:=NoA) ⟨fun a o q _=>g a o q,fun a z=>.inl z⟩ t (fun _ z=>z) ov
def dQ (ts:List D):List D:=ts.zipIdx.map fun p=>.tuple [.int (p.2:Nat),p.1]
def iG {i:Nat} {u:D} (h:(dQ ts)[i]?=some u):∃ t,ts[i]?=some t/\u=.tuple [.int (i:Nat),t]:=by
 unfold dQ at h;rw [zao] at h;obtain ⟨⟨t,k⟩,h1,h2⟩:=zab.mp h;rw [List.getElem?_zipIdx] at h1;obtain ⟨t',h3,h4⟩:=zab.mp h1;cases h4;refine ⟨t,h3,?_⟩;rw [<- h2,Nat.zero_add]
def iF:(dQ ts).length=ts.length:=by unfold dQ; rw [zad,List.length_zipIdx]
def uY (h:FzL K O H0 a vs) (ho:Ows K O H0 ts 0 vs NoA):mC K O H0 (Ite K a) (dQ ts):=fun i H O1 h1 h2 h3=>by
 have sq:=(h.mv (e9 h1 h2)).sq;refine ⟨fun u hu=>?_,fun hl=>⟨vs,sq,by rw [iF] at hl; rw [ho.len]; omega⟩⟩;obtain ⟨t,ht,rfl⟩:=iG hu;obtain ⟨v,hv,ov⟩:=ho.get ht;refine ⟨⟨vs,v,sq,hv⟩,fun x H1 ⟨p,v',e1,hp,e2,y⟩=>?_⟩;have e3:=y vs sq;rw [hv] at e3;cases e3;subst e1 e2;exact sA hp h3 (Ow.mv (e9 h1 h2) t (fun _ z=>z) ov)
def tE (h:FzT K O H0 a vs) (ho:Ows K O H0 ts 0 vs NoA):mC K O H0 (ItT K a) (dQ ts):=fun i H O1 h1 h2 h3=>by
 have sq:=(h.mv (e9 h1 h2)).sq;refine ⟨fun u hu=>?_,fun hl=>⟨vs,sq,by rw [iF] at hl; rw [ho.len]; omega⟩⟩;obtain ⟨t,ht,rfl⟩:=iG hu;obtain ⟨v,hv,ov⟩:=ho.get ht;refine ⟨⟨vs,v,sq,hv⟩,fun x H1 ⟨p,v',e1,hp,e2,y⟩=>?_⟩;have e3:=y vs sq;rw [hv] at e3;cases e3;subst e1 e2;exact sA hp h3 (Ow.mv (e9 h1 h2) t (fun _ z=>z) ov)
end
def bG (fa:MA):MI:=fun en=>(fa en).bind fun r=>match r.1 with
 | [.inl (.int j)]=>if -(2 ^ 62)<=j/\j < 2 ^ 62 then some ((List.range j.toNat).map fun k=>.int (0+(k:Nat)),r.2) else none
 | _=>none
def Lw (fa:MA):MI:=fun en=>(fa en).bind fun r=>match r.1 with
 | [.inl (.int i),.inl (.int j)]=>if -(2 ^ 62)<=i/\i < 2 ^ 62/\-(2 ^ 62)<=j/\j < 2 ^ 62 then some ((List.range (j - i).toNat).map fun k=>.int (i+(k:Nat)),r.2) else none
 | _=>none
def fC (fa:MA):MI:=fun en=>(fa en).bind fun r=>match r.1 with
 | [.inl (.list ts)]=>some (dQ ts,r.2)
 | [.inl (.tuple ts)]=>some (dQ ts,r.2)
 | _=>none
section
variable {X:Cx} {K:PySem.W.Frag} {p:Bool} {ds ds1:List Nat} {d:Nat} {e tg l:Expr} {f:ME} {fa:MA} {sh:Sh}
def Jv (hK:X.K=K) (hl:PE X l (tF K p ds ds1 d f)):PI X tg l (tFI K p ds ds1 (be f)):=by
 subst hK;intro pins s σ H R I h;obtain ⟨Ox,en,Rg,ts,en',e,hf,k⟩:=h;unfold be at hf;obtain ⟨⟨t,en1⟩,h1,hf⟩:=zaa.mp hf;obtain ⟨ts',h2,hf⟩:=zab.mp hf;cases hf;refine thn (hl pins s σ H (fun v H1=>∃ R1,Post X.K p ds1 Ox σ H en Rg en1 H1 R1 NoA/\Ow X.K (Own R1 Ox) H1 t 0 v NoA) I ⟨Ox,en,Rg,t,en1,e,h1,fun v H1 R1 F P o=>⟨R1,P.less fun _ z=>z.elim,Ow.letgo P (fun _ z=>z) o⟩⟩) fun v s1 ⟨x,H1,I1,r1,R1,P,o⟩=>?_;cases t with
 | list ts0 =>
  cases h2;obtain ⟨a,vs,e1,⟨_,fz,ow⟩ | ⟨z,_⟩⟩:=o
  ·subst e1;cases r1;obtain ⟨its,rv,pl,hz⟩:=I1.list fz.sq;refine wpAny_pyIter_list pl.isList ?_;refine ⟨s1.heap.objs.size,[s1.heap.objs.size],_,_,H1,rfl,I1.kept (t':=s1.toks) fun b o e=>zaf _ e,uZ a _,⟨_,zan _ rfl,rfl,rfl⟩,fun b hb=>?_,k _ H1 R1 P (uX fz ow)⟩;have e:b=s1.heap.objs.size:=by simpa using hb
   subst e;exact I1.fpOk (zav _) (I1.hok.fresh (zav _))
  ·exact absurd rfl z
 | tuple ts0 =>
  cases h2;obtain ⟨a,vs,e1,⟨_,fz,ow⟩ | ⟨z,_⟩⟩:=o
  ·subst e1;cases r1;obtain ⟨its,rv,pl,hz⟩:=I1.tuple fz.sq;refine wpAny_pyIter_tuple (show s1.heap.IsTuple a its.toArray from pl) ?_;refine ⟨s1.heap.objs.size,[s1.heap.objs.size],_,_,H1,rfl,I1.kept (t':=s1.toks) fun b o e=>zaf _ e,tH a _,⟨_,zan _ rfl,rfl,rfl⟩,fun b hb=>?_,k _ H1 R1 P (wD fz ow)⟩;have e:b=s1.heap.objs.size:=by simpa using hb
   subst e;exact I1.fpOk (zav _) (I1.hok.fresh (zav _))
  ·exact absurd rfl z
 | str z =>
  cases h2;have e1:x=.str z:=o;subst e1;obtain ⟨t,rfl⟩:=r1;have fin:∀ (ty:String) (o:Obj),(ty="str_ascii_iterator"\/ty="str_iterator")->(s1.heap.push o).IsStrIter s1.heap.objs.size ty z t 0->PIE X pins σ tg R (.ref s1.heap.objs.size) { s1 with heap:=s1.heap.push o }:=fun ty o hty st=>by
   refine ⟨s1.heap.objs.size,[s1.heap.objs.size],_,_,H1,rfl,I1.kept (t':=s1.toks) fun b o e=>zaf _ e,wG _ z t ty hty,st,fun b hb=>?_,k _ H1 R1 P wE⟩;have e:b=s1.heap.objs.size:=by simpa using hb
   subst e;exact I1.fpOk (zav _) (I1.hok.fresh (zav _))
  cases ha:z.cps.all (· < 128)
  ·exact wpAny_pyIter_wide ha (fin _ _ (.inr rfl) ⟨_,zan _ rfl,rfl,rfl⟩)
  ·exact wpAny_pyIter_ascii ha (fin _ _ (.inl rfl) ⟨_,zan _ rfl,rfl,rfl⟩)
 | _=>cases h2
def Fs {a:Expr} {px pos:Pos} (hg:Gl X "range") (hm:X.mg "range"=none) (ha:PA X [a] (tFA K p ds ds1 sh fa)) (hs:aF a=true):PI X tg (.Call (.Name "range" px) [a] [] pos) (tFI K p ds ds1 (bG fa)) :=
 (vf hg hm ha (a7 hs)).imp fun σ H R ⟨Ox,en,Rg,ts,en',e,hf,k⟩=>by
  unfold bG at hf;obtain ⟨⟨as,en1⟩,h1,hf⟩:=zaa.mp hf;refine ⟨Ox,en,Rg,as,en1,e,h1,fun vs H1 R1 F P o=>?_⟩
  dsimp only at hf
  split at hf
  case h_2=>cases hf
  next j =>
  by_cases hj:-(2 ^ 62)<=j/\j < 2 ^ 62
  case neg=>rw [if_neg hj] at hf; cases hf
  rw [if_pos hj] at hf;cases hf;obtain ⟨v,r,d,dr,F1,F2,e1,e2,_,_,_,o1,o2⟩:=o;obtain ⟨_,o2⟩:=o2;subst e1 o2;have ev:v=.int j:=o1;subst ev;exact ⟨j,rfl,hj.1,hj.2,k _ H1 R1 (P.less fun _ z=>z.elim) wF⟩
def Ft {px pos:Pos} {elts:List Expr} {k:Nat} {tp:Pos} (hK:X.K=K) (hg:Gl X "enumerate") (hm:X.mg "enumerate"=none) (ha:PA X [l] (tFA K p ds ds1 sh fa)) (hs:starEach [l] X.env=[(false,eval l X.env)]) :
  PI X (.Tuple elts k tp) (.Call (.Name "enumerate" px) [l] [] pos) (tFI K p ds ds1 (fC fa)):=by
 subst hK;intro pins s σ H R I h;obtain ⟨Ox,en,Rg,ts,en',e,hf,k⟩:=h;unfold fC at hf;obtain ⟨⟨as,en1⟩,h1,hf⟩:=zaa.mp hf;refine Call_ (kx I hg hm boot_enumerate (PyProof.Rows.callWith_type1 (thn (ha pos pins s σ H (fun vs H1=>∃ R1 t v,as=[.inl t]/\vs=[v]/\Post X.K p ds1 Ox σ H en Rg en1 H1 R1 NoA/\Ow X.K (Own R1 Ox) H1 t 0 v NoA) I ⟨Ox,en,Rg,as,en1,e,h1,fun vs H1 R1 F P o=>?_⟩) fun us s1 ⟨vs,H1,I1,r1,R1,t,v,ea,ev,P,o⟩=>?_) hs rfl))
 ·have one:∃ t,as=[.inl t]:=by
   dsimp only at hf
   split at hf
   ·exact ⟨_,rfl⟩
   ·exact ⟨_,rfl⟩
   ·cases hf
  obtain ⟨t,rfl⟩:=one;obtain ⟨v,r,d,dr,F1,F2,e1,e2,s1,_,_,o1,o2⟩:=o;obtain ⟨_,o2⟩:=o2;subst o2;exact ⟨R1,t,v,rfl,e1,P.less fun _ z=>z.elim,Ow.letgo P s1 o1⟩
 subst ea ev;obtain ⟨u,rfl,ru⟩:=eI r1;cases t with
 | list ts0 =>
  cases hf;obtain ⟨a,vs,e1,⟨_,fz,ow⟩ | ⟨z,_⟩⟩:=o
  ·subst e1;cases ru;obtain ⟨its,rv,pl,hz⟩:=I1.list fz.sq;refine call_enumerate_list pl.isList fun h' hE hI hsz hk=>?_;refine wpAny_pyIter_enum hE ?_;have I2:Inv X pins σ H1 { s1 with heap:=h' }:=I1.kept (t':=s1.toks) hk;refine ⟨s1.heap.objs.size+1,[s1.heap.objs.size+1,s1.heap.objs.size],_,_,H1,rfl,I2,u0 a _ _ (Nat.succ_ne_self _),⟨⟨_,hE⟩,hI⟩,fun b hb=>?_,k _ H1 R1 P (uY fz ow)⟩;have hb':b=s1.heap.objs.size+1\/b=s1.heap.objs.size:=by simpa using hb
   rcases hb' with rfl | rfl
   ·exact I1.fpOk (Nat.le_succ _) (I1.hok.fresh (Nat.le_succ _))
   ·exact I1.fpOk (zav _) (I1.hok.fresh (zav _))
  ·exact absurd rfl z
 | tuple ts0 =>
  cases hf;obtain ⟨a,vs,e1,⟨_,fz,ow⟩ | ⟨z,_⟩⟩:=o
  ·subst e1;cases ru;obtain ⟨its,rv,pt,hz⟩:=I1.tuple fz.sq;have hT:s1.heap.IsTuple a its.toArray:=pt;have hlt:a < s1.heap.objs.size:=by
    obtain ⟨o,e1,_⟩:=id hT;exact zal e1
   refine pG hT fun h' hE hI hsz hk=>?_;refine wpAny_pyIter_enum hE ?_;have I2:Inv X pins σ H1 { s1 with heap:=h' }:=I1.kept (t':=s1.toks) hk;refine ⟨s1.heap.objs.size+1,[s1.heap.objs.size+1,s1.heap.objs.size],_,_,H1,rfl,I2,tJ a _ _ (Nat.succ_ne_self _) (zaw hlt),⟨⟨_,hE⟩,hI⟩,fun b hb=>?_,k _ H1 R1 P (tE fz ow)⟩;have hb':b=s1.heap.objs.size+1\/b=s1.heap.objs.size:=by simpa using hb
   rcases hb' with rfl | rfl
   ·exact I1.fpOk (Nat.le_succ _) (I1.hok.fresh (Nat.le_succ _))
   ·exact I1.fpOk (zav _) (I1.hok.fresh (zav _))
  ·exact absurd rfl z
 | _=>cases hf
end
def NewTo.refl {H:Hp}:NewTo H H NoA:=⟨fun _ _ q=>q,fun _ z=>z.elim⟩
def OpR.imp {X:Cx} {fn:Value->Value->Sem Value} {r r':R2} (h:OpR X fn r) (hi:∀ x y H Q,r' x y H Q->r x y H Q):OpR X fn r':=fun pins s σ H x y v u Q I rx ry q=>h pins s σ H x y v u Q I rx ry (hi _ _ _ _ q)
def OpR.or' {X:Cx} {fn:Value->Value->Sem Value} {r r':R2} (h:OpR X fn r) (h':OpR X fn r'):OpR X fn (fun x y H Q=>r x y H Q\/r' x y H Q):=fun pins s σ H x y v u Q I rx ry q=>q.elim (h pins s σ H x y v u Q I rx ry) (h' pins s σ H x y v u Q I rx ry)
def UnR.imp {X:Cx} {fn:Value->Sem Value} {r r':V->Hp->VK->Prop} (h:UnR X fn r) (hi:∀ x H Q,r' x H Q->r x H Q):UnR X fn r':=fun pins s σ H x v Q I rx q=>h pins s σ H x v Q I rx (hi _ _ _ q)
def CallR.imp {X:Cx} {fn:Value} {r r':List V->Hp->VK->Prop} (h:CallR X fn r) (hi:∀ x H Q,r' x H Q->r x H Q):CallR X fn r':=fun pins s σ H x v Q I rx q=>h pins s σ H x v Q I rx (hi _ _ _ q)
def CallR.or' {X:Cx} {fn:Value} {r r':List V->Hp->VK->Prop} (h:CallR X fn r) (h':CallR X fn r'):CallR X fn (fun x H Q=>r x H Q\/r' x H Q):=fun pins s σ H x v Q I rx q=>q.elim (h pins s σ H x v Q I rx) (h' pins s σ H x v Q I rx)
def IxR.imp {X:Cx} {r r':R2} (h:IxR X r) (hi:∀ x y H Q,r' x y H Q->r x y H Q):IxR X r':=fun value slice pins s σ H x y v u Q I rx ry q=>h value slice pins s σ H x y v u Q I rx ry (hi _ _ _ _ q)
section
variable {X:Cx} {K:PySem.W.Frag} {O:AS} {H:Hp} {ts us:List D} {vs ws:List V} {x y:V} {d:Nat} {Q:VK}
def dN {l:Addr} (hl:H l=none) (hd:∀ a,O a->∃ o,H a=some o) (h:Ows K O H ts 0 vs NoA):NewTo H (upd H l (.lst vs)) (fun b=>b=l)/\Ow K (U (fun b=>b=l) O) (upd H l (.lst vs)) (.list ts) 1 (.ref l) (fun b=>b=l):=by
 refine ⟨bI hl,l,vs,rfl,.inr ⟨by decide,aL,rfl,NoA,fun _ z=>z.elim,?_⟩⟩;refine Ows.mv (G:=NoA) ⟨fun a o q _=>(bI (o:=.lst vs) hl).1 a o q,fun a z=>?_⟩ ts (fun _ z=>z) h;rcases z with z | z
 ·exact .inr (by rw [show a=l from z]; exact hl)
 ·exact .inl z
def sB {l:Addr} (hl:H l=none) (hd:∀ a,O a->∃ o,H a=some o) (h:Ows K O H ts 0 vs NoA):NewTo H (upd H l (.tup vs)) NoA/\Ow K (U NoA O) (upd H l (.tup vs)) (.tuple ts) 0 (.ref l) NoA:=by
 refine ⟨⟨(bI hl).1,fun _ z=>z.elim⟩,l,vs,rfl,.inl ⟨rfl,⟨aL,fun z=>?_⟩,?_⟩⟩
 ·rcases z with z | z
  ·exact z
  ·obtain ⟨o,q⟩:=hd l z;rw [hl] at q;cases q
 ·refine Ows.mv (G:=NoA) ⟨fun a o q _=>(bI (o:=.tup vs) hl).1 a o q,fun a z=>?_⟩ ts (fun _ z=>z) h;rcases z with z | z
  ·exact z.elim
  ·exact .inl z
def Ows.app:∀ {ts:List D} {vs:List V},Ows K O H ts 0 vs NoA->Ows K O H us 0 ws NoA->Ows K O H (ts++us) 0 (vs++ws) NoA
 | [],_,h,h2=>by rw [show _=[] from h]; exact h2
 | t :: ts,_,h,h2=>by
  obtain ⟨v,r,F1,F2,e,_,_,_,h4,h5⟩:=h;subst e;exact ⟨v,r++ws,NoA,NoA,rfl,fun _ z=>z,fun _ z=>z,fun _ z=>z.elim,Ow.any0 t h4,Ows.app (Ows.any0 ts h5) h2⟩
def Ows.drop:∀ {ts:List D} {vs:List V} (n:Nat),Ows K O H ts 0 vs NoA->Ows K O H (ts.drop n) 0 (vs.drop n) NoA
 | ts,vs,0,h=>h
 | [],_,n+1,h=>by rw [show _=[] from h]; rfl
 | t :: ts,_,n+1,h=>by
  obtain ⟨v,r,F1,F2,e,_,_,_,h4,h5⟩:=h;subst e;exact Ows.drop n (Ows.any0 ts h5)
def Ows.take:∀ {ts:List D} {vs:List V} (n:Nat),Ows K O H ts 0 vs NoA->Ows K O H (ts.take n) 0 (vs.take n) NoA
 | ts,vs,0,h=>rfl
 | [],_,n+1,h=>by rw [show _=[] from h]; rfl
 | t :: ts,_,n+1,h=>by
  obtain ⟨v,r,F1,F2,e,_,_,_,h4,h5⟩:=h;subst e;exact ⟨v,r.take n,NoA,NoA,rfl,fun _ z=>z,fun _ z=>z,fun _ z=>z.elim,Ow.any0 t h4,Ows.take n (Ows.any0 ts h5)⟩
def Ow.lst0 {v:V} (h:Ow K O H (.list ts) 0 v NoA):∃ a vs,v=.ref a/\FzL K O H a vs/\Ows K O H ts 0 vs NoA:=by
 obtain ⟨a,vs,e,⟨_,h1,h2⟩ | ⟨z,_⟩⟩:=h
 ·exact ⟨a,vs,e,h1,h2⟩
 ·exact absurd rfl z
def Ow.tup0 {v:V} (h:Ow K O H (.tuple ts) 0 v NoA):∃ a vs,v=.ref a/\FzT K O H a vs/\Ows K O H ts 0 vs NoA:=by
 obtain ⟨a,vs,e,⟨_,h1,h2⟩ | ⟨z,_⟩⟩:=h
 ·exact ⟨a,vs,e,h1,h2⟩
 ·exact absurd rfl z
def Ows.one {t:D} (h:Ows K O H [t] 0 vs NoA):∃ v,vs=[v]/\Ow K O H t 0 v NoA:=by
 obtain ⟨v,r,F1,F2,e,_,_,_,h4,h5⟩:=h;rw [show r=[] from h5] at e;exact ⟨v,e,Ow.any0 t h4⟩
def Ows.two {t t2:D} (h:Ows K O H [t,t2] 0 vs NoA):∃ v w,vs=[v,w]/\Ow K O H t 0 v NoA/\Ow K O H t2 0 w NoA:=by
 obtain ⟨v,r,F1,F2,e,_,_,_,h4,h5⟩:=h;obtain ⟨w,e2,h6⟩:=Ows.one (Ows.any0 [t2] h5);subst e2;exact ⟨v,w,e,Ow.any0 t h4,h6⟩
def aV:D->D->Option D
 | .int a,.int b=>some (.int (a+b))
 | .str a,.str b=>if a.length+b.length<=sizeLine then some (.str (a++b)) else none
 | _,_=>none
def bp:OpR X (binaryOp .Add) (rF2 K aV 3):=(op_add.or' tT).imp fun x y H Q ⟨O,a,b,t,oa,ob,hd,hg,k⟩=>by
 cases a with
 | int i=>cases b with
  | int j=>cases hg; exact .inl ⟨i,j,oa,ob,k _ H NoA .refl rfl⟩
  | _=>cases hg
 | str i=>cases b with
  | str j =>
   dsimp only [aV] at hg
   by_cases hl:i.length+j.length<=sizeLine
   ·rw [if_pos hl] at hg; cases hg; exact .inr ⟨i,j,oa,ob,hl,k _ H NoA .refl rfl⟩
   ·rw [if_neg hl] at hg; cases hg
  | _=>cases hg
 | _=>cases hg
def hV (g:Int->Int->Option D):D->D->Option D
 | .int a,.int b=>g a b
 | _,_=>none
def cS {g:Int->Int->Option D} {a b t:D} (h:hV g a b=some t):∃ i j,a=.int i/\b=.int j/\g i j=some t:=by
 cases a with
 | int i=>cases b with
  | int j=>exact ⟨i,j,rfl,rfl,h⟩
  | _=>cases h
 | _=>cases h
def dY:D->D->Option D:=hV fun a b=>some (.int (a - b))
def dg:OpR X (binaryOp .Sub) (rF2 K dY 3):=op_sub.imp fun x y H Q ⟨O,a,b,t,oa,ob,hd,hg,k⟩=>by
 obtain ⟨i,j,rfl,rfl,h⟩:=cS hg;cases h;exact ⟨i,j,oa,ob,k _ H NoA .refl rfl⟩
instance (i j:Int):Decidable (CMul i j):=by unfold CMul; exact inferInstance
instance (i j:Int):Decidable (gI i j):=by unfold gI; exact inferInstance
instance (i j:Int):Decidable (j5 i j):=by unfold j5; exact inferInstance
def bJ:D->D->Option D:=hV fun a b=>if CMul a b then some (.int (a * b)) else none
def eD:OpR X (binaryOp .Mult) (rF2 K bJ 3):=op_mul.imp fun x y H Q ⟨O,a,b,t,oa,ob,hd,hg,k⟩=>by
 obtain ⟨i,j,rfl,rfl,h⟩:=cS hg;by_cases hc:CMul i j
 ·rw [if_pos hc] at h; cases h; exact ⟨i,j,oa,ob,hc,k _ H NoA .refl rfl⟩
 ·rw [if_neg hc] at h; cases h
def cV:D->D->Option D:=hV fun a b=>if gI a b then some (.int (a / b)) else none
def sS:OpR X (binaryOp .FloorDiv) (rF2 K cV 3):=op_fdiv.imp fun x y H Q ⟨O,a,b,t,oa,ob,hd,hg,k⟩=>by
 obtain ⟨i,j,rfl,rfl,h⟩:=cS hg;by_cases hc:gI i j
 ·rw [if_pos hc] at h; cases h; exact ⟨i,j,oa,ob,hc,k _ H NoA .refl rfl⟩
 ·rw [if_neg hc] at h; cases h
def bv:D->D->Option D:=hV fun a b=>if 0 < b then some (.int (a % b)) else none
def ia:OpR X (binaryOp .Mod) (rF2 K bv 3):=op_mod.imp fun x y H Q ⟨O,a,b,t,oa,ob,hd,hg,k⟩=>by
 obtain ⟨i,j,rfl,rfl,h⟩:=cS hg;by_cases hc:0 < j
 ·rw [if_pos hc] at h; cases h; exact ⟨i,j,oa,ob,hc,k _ H NoA .refl rfl⟩
 ·rw [if_neg hc] at h; cases h
def ko:D->D->Option D:=hV fun a b=>if j5 a b then some (.int (a ^ b.toNat)) else none
def qV:OpR X (binaryOp .Pow) (rF2 K ko 3):=op_pow.imp fun x y H Q ⟨O,a,b,t,oa,ob,hd,hg,k⟩=>by
 obtain ⟨i,j,rfl,rfl,h⟩:=cS hg;by_cases hc:j5 i j
 ·rw [if_pos hc] at h; cases h; exact ⟨i,j,oa,ob,hc,k _ H NoA .refl rfl⟩
 ·rw [if_neg hc] at h; cases h
def ltI:D->D->Option D:=hV fun a b=>some (.bool (decide (a < b)))
def leI:D->D->Option D:=hV fun a b=>some (.bool (decide (a<=b)))
def gtI:D->D->Option D:=hV fun a b=>some (.bool (decide (b < a)))
def geI:D->D->Option D:=hV fun a b=>some (.bool (decide (b<=a)))
def iC:OpR X (compareOp .Lt) (rF2 K ltI 3):=op_lt.imp fun x y H Q ⟨O,a,b,t,oa,ob,hd,hg,k⟩=>by
 obtain ⟨i,j,rfl,rfl,h⟩:=cS hg;cases h;exact ⟨i,j,oa,ob,k _ H NoA .refl rfl⟩
def uu:OpR X (compareOp .LtE) (rF2 K leI 3):=op_le.imp fun x y H Q ⟨O,a,b,t,oa,ob,hd,hg,k⟩=>by
 obtain ⟨i,j,rfl,rfl,h⟩:=cS hg;cases h;exact ⟨i,j,oa,ob,k _ H NoA .refl rfl⟩
def uv:OpR X (compareOp .Gt) (rF2 K gtI 3):=op_gt.imp fun x y H Q ⟨O,a,b,t,oa,ob,hd,hg,k⟩=>by
 obtain ⟨i,j,rfl,rfl,h⟩:=cS hg;cases h;exact ⟨i,j,oa,ob,k _ H NoA .refl rfl⟩
def uw:OpR X (compareOp .GtE) (rF2 K geI 3):=op_ge.imp fun x y H Q ⟨O,a,b,t,oa,ob,hd,hg,k⟩=>by
 obtain ⟨i,j,rfl,rfl,h⟩:=cS hg;cases h;exact ⟨i,j,oa,ob,k _ H NoA .refl rfl⟩
def gU:D->Bool
 | .none=>true
 | _=>false
def qO {a:D} {F:AS} (h:Ow K O H a d x F):decide (x=.non)=gU a:=by
 cases a with
 | none=>rw [show x=.non from h]; rfl
 | bool b=>rw [show x=.bl b from h]; rfl
 | int b=>rw [show x=.int b from h]; rfl
 | str b=>rw [show x=.str b from h]; rfl
 | list ts=>obtain ⟨a,vs,e,_⟩:=h; rw [e]; rfl
 | tuple ts=>obtain ⟨a,vs,e,_⟩:=h; rw [e]; rfl
 | dict ts=>obtain ⟨a,vs,e,_⟩:=h; rw [e]; rfl
def isN:D->D->Option D
 | a,.none=>some (.bool (gU a))
 | _,_=>none
def dZ:D->D->Option D
 | a,.none=>some (.bool (!gU a))
 | _,_=>none
def m9:OpR X (compareOp .Is) (rF2 K isN 3):=op_isN.imp fun x y H Q ⟨O,a,b,t,oa,ob,hd,hg,k⟩=>by
 cases b with
 | none=>cases hg; exact ⟨ob,by rw [qO oa]; exact k _ H NoA .refl rfl⟩
 | _=>cases hg
def jk:OpR X (compareOp .IsNot) (rF2 K dZ 3):=op_notN.imp fun x y H Q ⟨O,a,b,t,oa,ob,hd,hg,k⟩=>by
 cases b with
 | none=>cases hg; exact ⟨ob,by rw [qO oa]; exact k _ H NoA .refl rfl⟩
 | _=>cases hg
def xx:D->D->Option D
 | .str a,.str b=>some (.bool (ci b a))
 | _,_=>none
def nZ:D->D->Option D
 | .str a,.str b=>some (.bool (!ci b a))
 | _,_=>none
def Js:OpR X (compareOp .In) (rF2 K xx 3):=op_inS.imp fun x y H Q ⟨O,a,b,t,oa,ob,hd,hg,k⟩=>by
 cases a with
 | str i=>cases b with
  | str j=>cases hg; exact ⟨i,j,oa,ob,k _ H NoA .refl rfl⟩
  | _=>cases hg
 | _=>cases hg
def vY:OpR X (compareOp .NotIn) (rF2 K nZ 3):=op_notInS.imp fun x y H Q ⟨O,a,b,t,oa,ob,hd,hg,k⟩=>by
 cases a with
 | str i=>cases b with
  | str j=>cases hg; exact ⟨i,j,oa,ob,k _ H NoA .refl rfl⟩
  | _=>cases hg
 | _=>cases hg
def ixA:D->D->Option D
 | .list ts,.int n=>atI ts n
 | .tuple ts,.int n=>atI ts n
 | .str z,.int n=>if z.length<=sizeLine then (atI z.cps.toList n).map fun c=>.str (mk1 c) else none
 | _,_=>none
def bO (hK:X.K=K):IxR X (rF2 K ixA 0):=by
 subst hK;refine ix_seq.imp fun x y H Q ⟨O,a,b,t,oa,ob,hd,hg,k⟩=>?_;cases b with
 | int n =>
  cases a with
  | list ts =>
   obtain ⟨a,vs,e,fz,ow⟩:=oa.lst0;obtain ⟨v,h1,h2⟩:=ow.atI hg;exact .inl ⟨a,vs,n,v,e,ob,fz.sq,h1,k v H NoA .refl (by rw [ig]; exact h2)⟩
  | tuple ts =>
   obtain ⟨a,vs,e,fz,ow⟩:=oa.tup0;obtain ⟨v,h1,h2⟩:=ow.atI hg;exact .inr (.inl ⟨a,vs,n,v,e,ob,fz.sq,h1,k v H NoA .refl (by rw [ig]; exact h2)⟩)
  | str z =>
   dsimp only [ixA] at hg
   by_cases hl:z.length<=sizeLine
   ·rw [if_pos hl] at hg;obtain ⟨c,h1,h2⟩:=zab.mp hg;cases h2;exact .inr (.inr ⟨z,n,c,oa,ob,hl,h1,k _ H NoA .refl rfl⟩)
   ·rw [if_neg hl] at hg; cases hg
  | _=>cases hg
 | _=>cases a <;> cases hg
def ixT:D->D->Option D
 | .str z,.int n=>if z.length<=sizeLine then (atI z.cps.toList n).map fun c=>.str (mk1 c) else none
 | _,_=>none
def jm:IxR X (rF2 K ixT 3):=by
 refine ix_str.imp fun x y H Q ⟨O,a,b,t,oa,ob,hd,hg,k⟩=>?_;cases a with
 | str z=>cases b with
  | int n =>
   dsimp only [ixT] at hg
   by_cases hl:z.length<=sizeLine
   ·rw [if_pos hl] at hg;obtain ⟨c,h1,h2⟩:=zab.mp hg;cases h2;exact ⟨z,n,c,oa,ob,hl,h1,k _ H NoA .refl rfl⟩
   ·rw [if_neg hl] at hg; cases hg
  | _=>cases hg
 | _=>cases hg
def rB:D->D->Option D
 | .list a,.list b=>if a.length+b.length<=sizeLine then some (.list (a++b)) else none
 | _,_=>none
def LQ:D->D->Option D
 | .tuple a,.tuple b=>if a.length+b.length<=sizeLine then some (.tuple (a++b)) else none
 | _,_=>none
end
def grd {α:Type} (c:Prop) [Decidable c] (t:α):Option α:=if c then some t else none
def fS {α:Type} {c:Prop} [Decidable c] {t u:α} (h:grd c t=some u):c/\t=u:=by
 unfold grd at h;by_cases hc:c
 ·rw [if_pos hc] at h; exact ⟨hc,zat h⟩
 ·rw [if_neg hc] at h; cases h
section
variable {X:Cx} {K:PySem.W.Frag} {O:AS} {H:Hp} {ts us:List D} {vs ws:List V} {x y:V} {d:Nat} {Q:VK}
def Kj (K:PySem.W.Frag):R2:=fun x y H Q=>∃ l b xs zs,x=.ref l/\y=.ref b/\SqL K H l xs/\SqL K H b zs/\xs.length+zs.length<=sizeLine/\∀ p,H p=none->Q (.ref p) (upd H p (.lst (xs++zs)))
def op_catL:OpR X (binaryOp .Add) (Kj X.K):=by
 intro pins s σ H x y v u Q I rx ry h;obtain ⟨l,b,xs,zs,rfl,rfl,hH,hB,hz,q⟩:=h;cases rx;cases ry;obtain ⟨its,r,⟨⟨c1,dd,da1,sl⟩,n,ho,hc,hdd,hda⟩,_⟩:=I.list hH;obtain ⟨its2,r2,⟨⟨c2,dd2,da2,sl2⟩,n2,ho2,hc2,hdd2,hda2⟩,_⟩:=I.list hB;have hl:=r.length;have hl2:=r2.length;simp only at hc hda hc2 hda2;subst hc hda hc2 hda2;refine concat_meets ⟨_,ho,rfl⟩ ⟨_,ho2,rfl⟩ noFill_list_add seq_list_add PySem.F.slot_list_add PySem.F.entry_list_add (PySem.F.args_list_add_2 _ _) (list_addW l b its.toArray its2.toArray n n2 dd dd2 sl sl2 (by simp only [zai]; omega)) ⟨ho,ho2,?_⟩;have ea:its.toArray++its2.toArray=(its++its2).toArray:=by simp
 rw [ea];exact ⟨.ref _,_,I.lnew (t':=s.toks) (r.append r2) (by rw [zae]; omega),rfl,q _ I.fresh⟩
def sT (hK:X.K=K):OpR X (binaryOp .Add) (rF2 K rB 1):=by
 subst hK;refine op_catL.imp fun x y H Q ⟨O,a,b,t,oa,ob,hd,hg,k⟩=>?_;cases a with
 | list ts=>cases b with
  | list us =>
   dsimp only [rB] at hg
   by_cases hl:ts.length+us.length<=sizeLine
   case neg=>rw [if_neg hl] at hg; cases hg
   rw [if_pos hl] at hg;cases hg;obtain ⟨a,vs,e1,f1,w1⟩:=oa.lst0;obtain ⟨b,ws,e2,f2,w2⟩:=ob.lst0;refine ⟨a,b,vs,ws,e1,e2,f1.sq,f2.sq,by rw [w1.len,w2.len]; exact hl,fun p hp=>?_⟩;obtain ⟨n1,n2⟩:=dN hp hd (w1.app w2);exact k _ _ _ n1 n2
  | _=>cases hg
 | _=>cases hg
def LL:D->D->Option D
 | .list ts,.int k=>grd (-(2 ^ 63)<=k/\k < 2 ^ 63/\ts.length * k.toNat<=sizeLine) (.list (List.replicate k.toNat ts).flatten)
 | _,_=>none
def n5:D->D->Option D
 | .str z,.int k=>grd (z.length<=4000/\-(2 ^ 63)<=k/\k<=4000) (.str (Txt.mul z k))
 | _,_=>none
def lj:OpR X (binaryOp .Mult) (rF2 K n5 3):=op_mulS.imp fun x y H Q ⟨O,a,b,t,oa,ob,hd,hg,k⟩=>by
 cases a with
 | str z=>cases b with
  | int n =>
   obtain ⟨⟨c1,c2,c3⟩,rfl⟩:=fS hg;exact ⟨z,n,oa,ob,c1,c2,c3,k _ H NoA .refl rfl⟩
  | _=>cases hg
 | _=>cases hg
def iM:D->Option D
 | .int i=>some (.int (-i))
 | _=>none
def kC:UnR X (unaryOp .USub) (rF1 K iM 3):=un_neg.imp fun x H Q ⟨O,a,t,oa,hd,hg,k⟩=>by
 cases a with
 | int i=>cases hg; exact ⟨i,oa,k _ H NoA .refl rfl⟩
 | _=>cases hg
def bd:List D->Option D
 | [.list ts]=>some (.int ts.length)
 | [.tuple ts]=>some (.int ts.length)
 | [.str z]=>grd (z.length<=sizeLine) (.int z.length)
 | _=>none
def Jr (hK:X.K=K):CallR X (.builtin "len") (rFn K bd 3):=(Lc hK).imp fun xs H Q ⟨O,as,t,oa,hd,hg,k⟩=>by
 match as,hg with
 | [.list ts],hg =>
  cases hg;obtain ⟨v,rfl,o⟩:=oa.one;obtain ⟨a,vs,rfl,fz,w⟩:=o.lst0;exact ⟨_,_,rfl,.inl ⟨vs,fz.sq,rfl⟩,by rw [w.len]; exact k _ H NoA .refl rfl⟩
 | [.tuple ts],hg =>
  cases hg;obtain ⟨v,rfl,o⟩:=oa.one;obtain ⟨a,vs,rfl,fz,w⟩:=o.tup0;exact ⟨_,_,rfl,.inr ⟨vs,fz.sq,rfl⟩,by rw [w.len]; exact k _ H NoA .refl rfl⟩
 | [.str z],hg =>
  obtain ⟨c,rfl⟩:=fS hg;obtain ⟨v,rfl,o⟩:=oa.one;exact ⟨_,_,rfl,by rw [show v=.str z from o]; exact ⟨c,rfl⟩,k _ H NoA .refl rfl⟩
def jP:List D->Option D
 | [.int i]=>some (.int (if i < 0 then -i else i))
 | _=>none
def v1:CallR X (.builtin "abs") (rFn K jP 3):=call_abs.imp fun xs H Q ⟨O,as,t,oa,hd,hg,k⟩=>by
 match as,hg with
 | [.int i],hg =>
  cases hg;obtain ⟨v,rfl,o⟩:=oa.one;exact ⟨i,by rw [show v=.int i from o],k _ H NoA .refl rfl⟩
def ub:List D->Option D
 | [.int i,.int j]=>some (.int (if j > i then j else i))
 | _=>none
def t9:List D->Option D
 | [.int i,.int j]=>some (.int (if j < i then j else i))
 | _=>none
def Fo (hc:X.calm=true):CallR X (.builtin "max") (rFn K ub 3):=(wo hc).imp fun xs H Q ⟨O,as,t,oa,hd,hg,k⟩=>by
 match as,hg with
 | [.int i,.int j],hg =>
  cases hg;obtain ⟨v,w,rfl,o,o2⟩:=oa.two;exact ⟨i,j,by rw [show v=.int i from o,show w=.int j from o2],k _ H NoA .refl rfl⟩
def Fm (hc:X.calm=true):CallR X (.builtin "min") (rFn K t9 3):=(wn hc).imp fun xs H Q ⟨O,as,t,oa,hd,hg,k⟩=>by
 match as,hg with
 | [.int i,.int j],hg =>
  cases hg;obtain ⟨v,w,rfl,o,o2⟩:=oa.two;exact ⟨i,j,by rw [show v=.int i from o,show w=.int j from o2],k _ H NoA .refl rfl⟩
def iQ:List D->Option D
 | [.int i]=>some (.int i)
 | [.bool b]=>some (.int (if b then 1 else 0))
 | _=>none
def vZ:CallR X (.type "int") (rFn K iQ 3):=call_int1.imp fun xs H Q ⟨O,as,t,oa,hd,hg,k⟩=>by
 match as,hg with
 | [.int i],hg =>
  cases hg;obtain ⟨v,rfl,o⟩:=oa.one;exact .inl ⟨i,by rw [show v=.int i from o],k _ H NoA .refl rfl⟩
 | [.bool i],hg =>
  cases hg;obtain ⟨v,rfl,o⟩:=oa.one;exact .inr ⟨i,by rw [show v=.bl i from o],k _ H NoA .refl rfl⟩
def bF (z:Str):List D:=(li z).map fun c=>.str (mk1 c)
def qk {z:Str}:Ows K O H (bF z) 0 (dM z) NoA:=by
 unfold bF dM;show Ows K O H ((li z).map fun c=>.str (mk1 c)) 0 ((li z).map sgn) NoA;generalize li z=l
 induction l with
 | nil=>rfl
 | cons c r ih=>exact ⟨sgn c,r.map sgn,NoA,NoA,rfl,fun _ z=>z,fun _ z=>z,fun _ z=>z.elim,rfl,ih⟩
def gL:List D->Option D
 | [.list ts]=>some (.list ts)
 | [.tuple ts]=>some (.list ts)
 | [.str z]=>grd (z.cps.size<=sizeLine) (.list (bF z))
 | _=>none
def jl (hK:X.K=K) (hc:X.calm=true):CallR X (.type "list") (rFn K gL 1):=((ER hK).or' (oz hc)).imp fun xs H Q ⟨O,as,t,oa,hd,hg,k⟩=>by
 match as,hg with
 | [.list ts],hg =>
  cases hg;obtain ⟨v,rfl,o⟩:=oa.one;obtain ⟨a,vs,rfl,fz,w⟩:=o.lst0;exact .inl ⟨a,vs,rfl,.inl fz.sq,fun l hl=>k _ _ _ (dN hl hd w).1 (dN hl hd w).2⟩
 | [.tuple ts],hg =>
  cases hg;obtain ⟨v,rfl,o⟩:=oa.one;obtain ⟨a,vs,rfl,fz,w⟩:=o.tup0;exact .inl ⟨a,vs,rfl,.inr fz.sq,fun l hl=>k _ _ _ (dN hl hd w).1 (dN hl hd w).2⟩
 | [.str z],hg =>
  obtain ⟨c,rfl⟩:=fS hg;obtain ⟨v,rfl,o⟩:=oa.one;exact .inr ⟨z,by rw [show v=.str z from o],c,fun l hl=>k _ _ _ (dN (K:=K) hl hd qk).1 (dN hl hd qk).2⟩
def tK:List D->Option D
 | [.list ts]=>some (.tuple ts)
 | [.tuple ts]=>some (.tuple ts)
 | _=>none
def xG (hK:X.K=K):CallR X (.type "tuple") (rFn K tK 0):=(IP hK).imp fun xs H Q ⟨O,as,t,oa,hd,hg,k⟩=>by
 match as,hg with
 | [.list ts],hg =>
  cases hg;obtain ⟨v,rfl,o⟩:=oa.one;obtain ⟨a,vs,rfl,fz,w⟩:=o.lst0;exact ⟨a,vs,rfl,.inl ⟨fz.sq,fun l hl=>k _ _ _ (sB hl hd w).1 (sB hl hd w).2⟩⟩
 | [.tuple ts],hg =>
  cases hg;obtain ⟨v,rfl,o⟩:=oa.one;obtain ⟨a,vs,rfl,fz,w⟩:=o.tup0;exact ⟨a,vs,rfl,.inr ⟨fz.sq,k _ H NoA .refl (by rw [ig]; exact o)⟩⟩
def gZ:List D->Option (List Bool)
 | []=>some []
 | .bool b :: r=>(gZ r).map (b :: ·)
 | _ :: _=>none
def oQ:∀ {ts:List D} {vs:List V} {bs:List Bool},Ows K O H ts 0 vs NoA->gZ ts=some bs->vs=bs.map V.bl
 | [],_,_,h,hb=>by cases hb; exact h
 | .bool b :: r,_,_,h,hb=>by
  obtain ⟨v,w,F1,F2,e,_,_,_,h4,h5⟩:=h;obtain ⟨bs',h6,h7⟩:=zab.mp hb;subst e h7;rw [show v=.bl b from h4,oQ (Ows.any0 r h5) h6];rfl
 | .none :: _,_,_,_,hb=>by cases hb
 | .int _ :: _,_,_,_,hb=>by cases hb
 | .str _ :: _,_,_,_,hb=>by cases hb
 | .list _ :: _,_,_,_,hb=>by cases hb
 | .tuple _ :: _,_,_,_,hb=>by cases hb
 | .dict _ :: _,_,_,_,hb=>by cases hb
def oC:List D->Option D
 | [.list ts]=>(gZ ts).map fun bs=>.bool (bs.all id)
 | _=>none
def Ju (hK:X.K=K) (hc:X.calm=true):CallR X (.builtin "all") (rFn K oC 3):=(Lf hK hc).imp fun xs H Q ⟨O,as,t,oa,hd,hg,k⟩=>by
 match as,hg with
 | [.list ts],hg =>
  obtain ⟨bs,h1,rfl⟩:=zab.mp hg;obtain ⟨v,rfl,o⟩:=oa.one;obtain ⟨a,vs,rfl,fz,w⟩:=o.lst0;have e:=oQ w h1;subst e;exact ⟨a,bs,rfl,fz.sq,k _ H NoA .refl rfl⟩
def tyN:D->String
 | .none=>"NoneType" | .bool _=>"bool" | .int _=>"int" | .str _=>"str" | .list _=>"list" | .tuple _=>"tuple" | .dict _=>"dict"
def aE (n T:String):Bool:=n == T || (n == "bool" && T == "int")
def sM {T:String} (hT:T∈["int", "bool", "str", "list", "tuple", "dict"]) (a:D):PySem.W.kitOne K (.type (tyN a)) (.type T)=some (aE (tyN a) T):=by
 simp only [zay,List.not_mem_nil,or_false] at hT;rcases hT with rfl | rfl | rfl | rfl | rfl | rfl <;> cases a <;> rfl
def isX:D->Bool
 | .dict [(.none,.str _)]=>true
 | _=>false
def Ki (K:PySem.W.Frag):List V->Hp->VK->Prop:=fun xs H Q=>∃ x T,∃ (O:AS) (a:D),xs=[x,.ty T]/\Ow K O H a 0 x NoA/\isX a=false/\T∈["int", "bool", "str", "list", "tuple", "dict"]/\Q (.bl (aE (tyN a) T)) H
def wp:CallR X (.builtin "isinstance") (Ki X.K):=by
 intro pins s σ H xs us Q I r h;obtain ⟨x,T,O,a,rfl,oa,hX,hT,q⟩:=h;have base:∀ ty,TyOf X.K H x (.type ty)->tyN a=ty->wpAny (model X.prog X.w) X.A (call (.builtin "isinstance") us) (EP X pins σ Q) X.xe s:=fun ty h1 h2=>by
  refine ya pins s σ H _ us Q I r ⟨x,.type ty,T,aE (tyN a) T,rfl,h1,?_,q⟩;rw [<- h2];exact sM hT a
 cases a with
 | none=>exact base _ (by rw [show x=.non from oa]; exact .non) rfl
 | bool b=>exact base _ (by rw [show x=.bl b from oa]; exact .bl b) rfl
 | int b=>exact base _ (by rw [show x=.int b from oa]; exact .int b) rfl
 | str b=>exact base _ (by rw [show x=.str b from oa]; exact .str b) rfl
 | tuple ts =>
  obtain ⟨p,vs,rfl,fz,w⟩:=oa.tup0;exact base _ (.tup fz.1) rfl
 | dict ts =>
  obtain ⟨p,vs,rfl,⟨_,h1,_⟩ | ⟨_,h1,_⟩ | ⟨_,⟨kk,b,_,h1,_⟩ | ⟨cn,C,h0,_⟩⟩⟩:=oa
  ·exact base _ (.dK h1) rfl
  ·exact base _ (.dK h1) rfl
  ·exact base _ (.dT h1) rfl
  ·subst h0; cases hX
 | list ts =>
  obtain ⟨p,vs,rfl,fz,w⟩:=oa.lst0;obtain ⟨u,u2,rfl,r1,r2⟩:=r.two;cases r1;cases r2;obtain ⟨its,rv,pl,_⟩:=I.list fz.sq;have e:=sM (K:=X.K) hT (.list ts);obtain ⟨o,n,h1,h2,_⟩:=pl;exact PySem.W.kia_one PySem.W.kitx_list I.kIn ⟨o,h1,h2⟩ e (fun z=>nomatch z) fun tk=>⟨.bl _,H,I.tok tk,rfl,q⟩
end
def ay (T:String):D->Option D:=fun a=>if isX a=true then none else some (.bool (aE (tyN a) T))
section
variable {X:Cx} {K:PySem.W.Frag} {p:Bool} {ds ds1:List Nat} {d1:Nat} {e:Expr} {f:ME}
def JH {T:Str} {n:String} {px pt pos:Pos} (hK:X.K=K) (hg:Gl X "isinstance") (hm:X.mg "isinstance"=none) (hgT:Gl X T) (hmT:X.mg T=none) (hbT:bootBuiltins T=some (.type n)) (hT:n∈["int", "bool", "str", "list", "tuple", "dict"]) (he:PE X e (tF K p ds ds1 d1 f))
  (hnT:T≠"__name__") (hdT:(T == ("__debug__" : Str))=false)
  (hs1:starEach [e,.Name T pt] X.env=(false,eval e X.env) :: starEach [.Name T pt] X.env) (hs2:starEach [.Name T pt] X.env=(false,eval (.Name T pt) X.env) :: starEach [] X.env) (hpl:(backTo pos (starEach [.Name T pt] X.env)).any (·.1)=false) :
  PE X (.Call (.Name "isinstance" px) [e,.Name T pt] [] pos) (tF K p ds ds1 3 (e1 (ay n) f)):=by
 subst hK;refine (hU wp hg hm boot_isinstance (bU he (bU (sx (v:=.ty n) hgT hmT hbT rfl hnT hdT) pa_nil hs2) hs1) (by decide) (by decide) hs1 hpl).imp fun σ H Q h=>?_;obtain ⟨Ox,en,R,t,en',e,hf,k⟩:=h;unfold e1 at hf;obtain ⟨⟨t1,en1⟩,h1,hf⟩:=zaa.mp hf;obtain ⟨t',h3,hf⟩:=zab.mp hf;cases hf;unfold ay at h3;by_cases hX:isX t1=true
 ·rw [if_pos hX] at h3; cases h3
 rw [if_neg hX] at h3;cases h3;refine ⟨Ox,en,R,t1,en1,e,h1,fun v H' R' F P o=>?_⟩;exact ⟨v,n,Own R' Ox,t1,rfl,Ow.letgo P (fun _ z=>z) o,Bool.eq_false_iff.mpr hX,hT,k _ H' R' NoA (P.less fun _ z=>z.elim) rfl⟩
end
mutual
def peq:D->D->Bool
 | .none,.none=>true
 | .bool a,.bool b=>a == b
 | .bool a,.int b=>(if a then (1:Int) else 0) == b
 | .int a,.bool b=>a == (if b then (1:Int) else 0)
 | .int a,.int b=>a == b
 | .str a,.str b=>a == b
 | .list a,.list b=>bR a b
 | .tuple a,.tuple b=>bR a b
 | _,_=>false
def bR:List D->List D->Bool
 | [],[]=>true
 | a :: r,b :: s=>peq a b && bR r s
 | _,_=>false
end
mutual
def aA:D->Bool
 | .dict _=>false
 | .list ts=>aM ts
 | .tuple ts=>aM ts
 | _=>true
def aM:List D->Bool
 | []=>true
 | t :: r=>aA t && aM r
end
mutual
theorem l9:∀ a:D,aA a=true->peq a a=true
 | .none,_=>rfl
 | .bool b,_=>by cases b <;> rfl
 | .int i,_=>by simp [peq]
 | .str i,_=>by simp [peq]
 | .list ts,h=>by simp only [peq]; exact kt ts (by simpa [aA] using h)
 | .tuple ts,h=>by simp only [peq]; exact kt ts (by simpa [aA] using h)
 | .dict _,h=>by simp [aA] at h
theorem kt:∀ a:List D,aM a=true->bR a a=true
 | [],_=>rfl
 | t :: r,h=>by
  have h':aA t=true/\aM r=true:=by simpa [aM] using h
  simp only [bR,l9 t h'.1,kt r h'.2,Bool.and_self]
end
mutual
def dC:D->Nat
 | .list ts=>bw ts+1
 | .tuple ts=>bw ts+1
 | _=>0
def bw:List D->Nat
 | []=>0
 | t :: r=>max (dC t) (bw r)
end
def kI:∀ {ts:List D} {i:Nat} {t:D},ts[i]?=some t->dC t<=bw ts
 | [],_,_,h=>by simp at h
 | u :: r,i,t,h=>by
  simp only [bw];cases i with
  | zero=>simp at h; subst h; exact Nat.le_max_left _ _
  | succ i=>exact zau (kI (by simpa using h)) (Nat.le_max_right _ _)
def eh:∀ {ts:List D} {i:Nat} {t:D},aM ts=true->ts[i]?=some t->aA t=true
 | [],_,_,_,h=>by simp at h
 | u :: r,i,t,hn,h=>by
  have h':aA u=true/\aM r=true:=by simpa [aM] using hn
  cases i with
  | zero=>simp at h; subst h; exact h'.1
  | succ i=>exact eh h'.2 (by simpa using h)
def lZ:∀ {a b:List D},a.length≠b.length->bR a b=false
 | [],[],h=>absurd rfl h
 | [],_ :: _,_=>rfl
 | _ :: _,[],_=>rfl
 | a :: r,b :: s,h=>by
  simp only [bR,lZ (a:=r) (b:=s) (fun z=>h (by rw [zac,zac,z])),Bool.and_false]
def eAt (a b:List D) (j:Nat):Bool:=match a[j]?,b[j]? with
 | some x,some y=>peq x y
 | _,_=>true
def oB (n:Nat) (f:Nat->Bool):(List.range (n+1)).all f=(f 0 && (List.range n).all fun j=>f (j+1)):=by
 rw [List.range_succ_eq_map,List.all_cons,List.all_map];rfl
def l8:∀ {a b:List D},a.length=b.length->(List.range a.length).all (eAt a b)=bR a b
 | [],[],_=>rfl
 | a :: r,b :: s,h=>by
  rw [zac,oB];have e:(List.range r.length).all (fun j=>eAt (a :: r) (b :: s) (j+1))=(List.range r.length).all (eAt r s):=by
   congr 1
  rw [e,l8 (by simpa using h)];rfl
 | [],_ :: _,h=>by simp at h
 | _ :: _,[],h=>by simp at h
section
open PySem.SeqAt
variable {X:Cx} {pins:List (Addr × Obj)} {σ:St} {H:Hp} {s:Shared} {O:AS}
def DZ {p:Addr} {vs ws:List V} (I:Inv X pins σ H s) (h:SqL X.K H p vs) (g:SqT X.K H p ws):False:=by
 obtain ⟨its,_,p1,_⟩:=I.list h;obtain ⟨its2,_,p2,_⟩:=I.tuple g;exact ne_of_list_tuple p1.isList (show s.heap.IsTuple p its2.toArray from p2) rfl
def IE {p:Addr} {vs:List V} {ks:List (List Key × V)} (I:Inv X pins σ H s) (h:SqL X.K H p vs) (g:H p=some (.dT ks)):False:=by
 obtain ⟨its,_,⟨o,n,e1,e2,_⟩,_⟩:=I.list h;obtain ⟨_,_,_,_,o',_,_,g1,g2,_⟩:=Eg I.hok g;rw [e1] at g1;cases g1;rw [g2.1] at e2;simp at e2
def Kt {p:Addr} {vs:List V} {ks:List (Key × V)} (I:Inv X pins σ H s) (h:SqL X.K H p vs) (g:H p=some (.dK ks)):False:=by
 obtain ⟨its,_,⟨o,n,e1,e2,_⟩,_⟩:=I.list h;obtain ⟨_,_,_,_,o',_,_,g1,g2,_⟩:=uD I.hok g;rw [e1] at g1;cases g1;rw [g2.1] at e2;simp at e2
mutual
theorem Ow.inj (I:Inv X pins σ H s):∀ (a b:D) {x:V},Ow X.K O H a 0 x NoA->Ow X.K O H b 0 x NoA->aA a=true->a=b
 | .none,b,_,h,g,_=>by
  cases (show _=_ from h);cases b with
  | none=>rfl
  | list ts=>obtain ⟨_,_,z,_⟩:=g; cases z
  | tuple ts=>obtain ⟨_,_,z,_⟩:=g; cases z
  | dict ts=>obtain ⟨_,_,z,_⟩:=g; cases z
  | bool c=>cases (show V.non=V.bl c from g)
  | int c=>cases (show V.non=V.int c from g)
  | str c=>cases (show V.non=V.str c from g)
 | .bool c,b,_,h,g,_=>by
  cases (show _=_ from h);cases b with
  | none=>cases (show V.bl c=V.non from g)
  | list ts=>obtain ⟨_,_,z,_⟩:=g; cases z
  | tuple ts=>obtain ⟨_,_,z,_⟩:=g; cases z
  | dict ts=>obtain ⟨_,_,z,_⟩:=g; cases z
  | bool c'=>cases (show V.bl c=V.bl c' from g); rfl
  | int c'=>cases (show V.bl c=V.int c' from g)
  | str c'=>cases (show V.bl c=V.str c' from g)
 | .int c,b,_,h,g,_=>by
  cases (show _=_ from h);cases b with
  | none=>cases (show V.int c=V.non from g)
  | list ts=>obtain ⟨_,_,z,_⟩:=g; cases z
  | tuple ts=>obtain ⟨_,_,z,_⟩:=g; cases z
  | dict ts=>obtain ⟨_,_,z,_⟩:=g; cases z
  | bool c'=>cases (show V.int c=V.bl c' from g)
  | int c'=>cases (show V.int c=V.int c' from g); rfl
  | str c'=>cases (show V.int c=V.str c' from g)
 | .str c,b,_,h,g,_=>by
  cases (show _=_ from h);cases b with
  | none=>cases (show V.str c=V.non from g)
  | list ts=>obtain ⟨_,_,z,_⟩:=g; cases z
  | tuple ts=>obtain ⟨_,_,z,_⟩:=g; cases z
  | dict ts=>obtain ⟨_,_,z,_⟩:=g; cases z
  | bool c'=>cases (show V.str c=V.bl c' from g)
  | int c'=>cases (show V.str c=V.int c' from g)
  | str c'=>cases (show V.str c=V.str c' from g); rfl
 | .list ts,b,_,h,g,hn=>by
  obtain ⟨p,vs,rfl,fz,w⟩:=h.lst0;cases b with
  | none=>cases (show V.ref p=V.non from g)
  | bool c'=>cases (show V.ref p=V.bl c' from g)
  | int c'=>cases (show V.ref p=V.int c' from g)
  | str c'=>cases (show V.ref p=V.str c' from g)
  | list us =>
   obtain ⟨p',vs',e,fz',w'⟩:=g.lst0;cases e
   have:=I.list_inj fz.sq fz'.sq;subst this;rw [Ows.inj I ts us w w' (by simpa [aA] using hn)]
  | tuple us =>
   obtain ⟨p',vs',e,fz',w'⟩:=g.tup0;cases e;exact (DZ I fz.sq fz'.sq).elim
  | dict us =>
   obtain ⟨p',vs',e,⟨_,g1,_⟩ | ⟨z,_⟩ | ⟨_,⟨_,_,_,g1,_⟩ | ⟨_,C,_,_,g1,_⟩⟩⟩:=g
   ·cases e;exact (Kt I fz.sq g1).elim
   ·exact absurd rfl z
   ·cases e;exact (IE I fz.sq g1).elim
   ·cases e;obtain ⟨its,rv,⟨o,n,e1,e2,_⟩,_⟩:=I.list fz.sq;obtain ⟨⟨o',x1,x2,_⟩,_⟩:=(show ObjOk X.prog X.w H s.heap p (.ext (eW p C)) from I.hok p _ g1);rw [e1] at x1;cases x1;rw [e2] at x2;cases x2
 | .tuple ts,b,_,h,g,hn=>by
  obtain ⟨p,vs,rfl,fz,w⟩:=h.tup0;cases b with
  | none=>cases (show V.ref p=V.non from g)
  | bool c'=>cases (show V.ref p=V.bl c' from g)
  | int c'=>cases (show V.ref p=V.int c' from g)
  | str c'=>cases (show V.ref p=V.str c' from g)
  | tuple us =>
   obtain ⟨p',vs',e,fz',w'⟩:=g.tup0;cases e
   have:=fz.1.symm.trans fz'.1;cases this;rw [Ows.inj I ts us w w' (by simpa [aA] using hn)]
  | list us =>
   obtain ⟨p',vs',e,fz',w'⟩:=g.lst0;cases e;exact (DZ I fz'.sq fz.sq).elim
  | dict us =>
   obtain ⟨p',vs',e,⟨_,g1,_⟩ | ⟨z,_⟩ | ⟨_,⟨_,_,_,g1,_⟩ | ⟨_,C,_,_,g1,_⟩⟩⟩:=g
   ·cases e;rw [fz.1] at g1;cases g1
   ·exact absurd rfl z
   ·cases e;rw [fz.1] at g1;cases g1
   ·cases e;rw [fz.1] at g1;cases g1
 | .dict _,_,_,_,_,hn=>by simp [aA] at hn
theorem Ows.inj (I:Inv X pins σ H s):∀ (a b:List D) {x:List V},Ows X.K O H a 0 x NoA->Ows X.K O H b 0 x NoA->aM a=true->a=b
 | [],b,_,h,g,_=>by
  cases (show _=_ from h);cases b with
  | nil=>rfl
  | cons u us=>obtain ⟨_,_,_,_,e,_⟩:=g; cases e
 | t :: ts,b,_,h,g,hn=>by
  obtain ⟨v,r,F1,F2,e,_,_,_,h4,h5⟩:=h;subst e;have hn':aA t=true/\aM ts=true:=by simpa [aM] using hn
  cases b with
  | nil=>cases (show v :: r=[] from g)
  | cons u us =>
   obtain ⟨v',r',G1,G2,e,_,_,_,g4,g5⟩:=g;cases e;rw [Ow.inj I t u (Ow.any0 t h4) (Ow.any0 u g4) hn'.1,Ows.inj I ts us (Ows.any0 ts h5) (Ows.any0 us g5) hn'.2]
end
def qN {A:Around} {ts us:List D} {vs ws:List V} {its its2:List Value} (w:Ows X.K O H ts 0 vs NoA) (w2:Ows X.K O H us 0 ws NoA) (rv:Vals vs its) (rv2:Vals ws its2)
  (ih:∀ (j:Nat) a b x y v u,ts[j]?=some a->us[j]?=some b->Ow X.K O H a 0 x NoA->Ow X.K O H b 0 y NoA->RelV x v->RelV y u->EqAt A s v u (peq a b)) :
  ∀ j (h1:j < its.toArray.size) (h2:j < its2.toArray.size),EqAt A s its.toArray[j] its2.toArray[j] (eAt ts us j):=fun j h1 h2=>by
 have h1':j < its.length:=by simpa using h1
 have h2':j < its2.length:=by simpa using h2
 have l1:=rv.length;have l2:=rv2.length;have m1:=w.len;have m2:=w2.len;have e1:ts[j]?=some ts[j]:=zak (by omega);have e2:us[j]?=some us[j]:=zak (by omega);obtain ⟨x,g1,o1⟩:=w.get e1;obtain ⟨y,g2,o2⟩:=w2.get e2;obtain ⟨u1,f1,q1⟩:=rv.get g1;obtain ⟨u2,f2,q2⟩:=rv2.get g2;have z:=ih j _ _ x y u1 u2 e1 e2 o1 o2 q1 q2;rw [zak h1'] at f1;rw [zak h2'] at f2;have i1:its.toArray[j]=u1:=by simpa using zat f1
 have i2:its2.toArray[j]=u2:=by simpa using zat f2
 rw [i1,i2];unfold eAt;rw [e1,e2];exact z
def Ef (I:Inv X pins σ H s):∀ (n:Nat) (a b:D) (A:Around) (x y:V) (v u:Value),dC a<=n->aA a=true->aA b=true->Ow X.K O H a 0 x NoA->Ow X.K O H b 0 y NoA->RelV x v->RelV y u->A.units+n+1 < cLine ->
  EqAt A s v u (peq a b)/\RcAt A s v u (peq a b)/\RcNeAt A s v u (!peq a b):=by
 intro n
 induction n with
 | zero =>
  intro a b A x y v u hdp hna hnb o1 o2 r1 r2 hun;have hu:A.units < cLine:=by omega
  cases a with
  | none =>
   cases b with
   | none =>
    cases (show x=V.non from o1);cases r1;cases (show y=V.non from o2);cases r2;exact ⟨EqAt.same _,RcAt.none_none,RcNeAt.none_none⟩
   | bool c2 =>
    cases (show x=V.non from o1);cases r1;cases (show y=V.bl c2 from o2);cases r2;exact ⟨EqAt.none_bool _,RcAt.none_bool _,RcNeAt.none_bool _⟩
   | int c2 =>
    cases (show x=V.non from o1);cases r1;cases (show y=V.int c2 from o2);obtain ⟨tk2,rfl⟩:=r2;exact ⟨EqAt.none_int _ _,RcAt.none_int _ _,RcNeAt.none_int _ _⟩
   | str c2 =>
    cases (show x=V.non from o1);cases r1;cases (show y=V.str c2 from o2);obtain ⟨tk2,rfl⟩:=r2;exact ⟨EqAt.none_str _ _,RcAt.none_str _ _,RcNeAt.none_str _ _⟩
   | list c2 =>
    cases (show x=V.non from o1);cases r1;obtain ⟨p2,vs2,rfl,fz2,w2⟩:=o2.lst0;cases r2;obtain ⟨its2,rv2,pl2,_⟩:=I.list fz2.sq;have hl2:=pl2.isList;exact ⟨EqAt.none_list  hl2 hu,RcAt.none_list  hl2 hu,RcNeAt.none_list  hl2 hu⟩
   | tuple c2 =>
    cases (show x=V.non from o1);cases r1;obtain ⟨p2,vs2,rfl,fz2,w2⟩:=o2.tup0;cases r2;obtain ⟨its2,rv2,pl2,_⟩:=I.tuple fz2.sq;have hl2:s.heap.IsTuple p2 its2.toArray:=pl2;exact ⟨EqAt.none_tuple  hl2 hu,RcAt.none_tuple  hl2 hu,RcNeAt.none_tuple  hl2 hu⟩
   | dict c2=>simp [aA] at hnb
  | bool c1 =>
   cases b with
   | none =>
    cases (show x=V.bl c1 from o1);cases r1;cases (show y=V.non from o2);cases r2;exact ⟨EqAt.bool_none _,RcAt.bool_none _,RcNeAt.bool_none _⟩
   | bool c2 =>
    cases (show x=V.bl c1 from o1);cases r1;cases (show y=V.bl c2 from o2);cases r2;exact ⟨EqAt.bool_bool _ _,RcAt.bool_bool _ _,RcNeAt.bool_bool _ _⟩
   | int c2 =>
    cases (show x=V.bl c1 from o1);cases r1;cases (show y=V.int c2 from o2);obtain ⟨tk2,rfl⟩:=r2;exact ⟨EqAt.bool_int _ _ _,RcAt.bool_int _ _ _,RcNeAt.bool_int _ _ _⟩
   | str c2 =>
    cases (show x=V.bl c1 from o1);cases r1;cases (show y=V.str c2 from o2);obtain ⟨tk2,rfl⟩:=r2;exact ⟨EqAt.bool_str _ _ _,RcAt.bool_str _ _ _,RcNeAt.bool_str _ _ _⟩
   | list c2 =>
    cases (show x=V.bl c1 from o1);cases r1;obtain ⟨p2,vs2,rfl,fz2,w2⟩:=o2.lst0;cases r2;obtain ⟨its2,rv2,pl2,_⟩:=I.list fz2.sq;have hl2:=pl2.isList;exact ⟨EqAt.bool_list _ hl2 hu,RcAt.bool_list _ hl2 hu,RcNeAt.bool_list _ hl2 hu⟩
   | tuple c2 =>
    cases (show x=V.bl c1 from o1);cases r1;obtain ⟨p2,vs2,rfl,fz2,w2⟩:=o2.tup0;cases r2;obtain ⟨its2,rv2,pl2,_⟩:=I.tuple fz2.sq;have hl2:s.heap.IsTuple p2 its2.toArray:=pl2;exact ⟨EqAt.bool_tuple _ hl2 hu,RcAt.bool_tuple _ hl2 hu,RcNeAt.bool_tuple _ hl2 hu⟩
   | dict c2=>simp [aA] at hnb
  | int c1 =>
   cases b with
   | none =>
    cases (show x=V.int c1 from o1);obtain ⟨tk1,rfl⟩:=r1;cases (show y=V.non from o2);cases r2;exact ⟨EqAt.int_none _ _,RcAt.int_none _ _,RcNeAt.int_none _ _⟩
   | bool c2 =>
    cases (show x=V.int c1 from o1);obtain ⟨tk1,rfl⟩:=r1;cases (show y=V.bl c2 from o2);cases r2;exact ⟨EqAt.int_bool _ _ _,RcAt.int_bool _ _ _,RcNeAt.int_bool _ _ _⟩
   | int c2 =>
    cases (show x=V.int c1 from o1);obtain ⟨tk1,rfl⟩:=r1;cases (show y=V.int c2 from o2);obtain ⟨tk2,rfl⟩:=r2;exact ⟨EqAt.int_int _ _ _ _,RcAt.int_int _ _ _ _,RcNeAt.int_int _ _ _ _⟩
   | str c2 =>
    cases (show x=V.int c1 from o1);obtain ⟨tk1,rfl⟩:=r1;cases (show y=V.str c2 from o2);obtain ⟨tk2,rfl⟩:=r2;exact ⟨EqAt.int_str _ _ _ _,RcAt.int_str _ _ _ _,RcNeAt.int_str _ _ _ _⟩
   | list c2 =>
    cases (show x=V.int c1 from o1);obtain ⟨tk1,rfl⟩:=r1;obtain ⟨p2,vs2,rfl,fz2,w2⟩:=o2.lst0;cases r2;obtain ⟨its2,rv2,pl2,_⟩:=I.list fz2.sq;have hl2:=pl2.isList;exact ⟨EqAt.int_list _ _ hl2 hu,RcAt.int_list _ _ hl2 hu,RcNeAt.int_list _ _ hl2 hu⟩
   | tuple c2 =>
    cases (show x=V.int c1 from o1);obtain ⟨tk1,rfl⟩:=r1;obtain ⟨p2,vs2,rfl,fz2,w2⟩:=o2.tup0;cases r2;obtain ⟨its2,rv2,pl2,_⟩:=I.tuple fz2.sq;have hl2:s.heap.IsTuple p2 its2.toArray:=pl2;exact ⟨EqAt.int_tuple _ _ hl2 hu,RcAt.int_tuple _ _ hl2 hu,RcNeAt.int_tuple _ _ hl2 hu⟩
   | dict c2=>simp [aA] at hnb
  | str c1 =>
   cases b with
   | none =>
    cases (show x=V.str c1 from o1);obtain ⟨tk1,rfl⟩:=r1;cases (show y=V.non from o2);cases r2;exact ⟨EqAt.str_none _ _,RcAt.str_none _ _,RcNeAt.str_none _ _⟩
   | bool c2 =>
    cases (show x=V.str c1 from o1);obtain ⟨tk1,rfl⟩:=r1;cases (show y=V.bl c2 from o2);cases r2;exact ⟨EqAt.str_bool _ _ _,RcAt.str_bool _ _ _,RcNeAt.str_bool _ _ _⟩
   | int c2 =>
    cases (show x=V.str c1 from o1);obtain ⟨tk1,rfl⟩:=r1;cases (show y=V.int c2 from o2);obtain ⟨tk2,rfl⟩:=r2;exact ⟨EqAt.str_int _ _ _ _,RcAt.str_int _ _ _ _,RcNeAt.str_int _ _ _ _⟩
   | str c2 =>
    cases (show x=V.str c1 from o1);obtain ⟨tk1,rfl⟩:=r1;cases (show y=V.str c2 from o2);obtain ⟨tk2,rfl⟩:=r2;exact ⟨EqAt.str_str _ _ _ _,RcAt.str_str _ _ _ _,RcNeAt.str_str _ _ _ _⟩
   | list c2 =>
    cases (show x=V.str c1 from o1);obtain ⟨tk1,rfl⟩:=r1;obtain ⟨p2,vs2,rfl,fz2,w2⟩:=o2.lst0;cases r2;obtain ⟨its2,rv2,pl2,_⟩:=I.list fz2.sq;have hl2:=pl2.isList;exact ⟨EqAt.str_list _ _ hl2 hu,RcAt.str_list _ _ hl2 hu,RcNeAt.str_list _ _ hl2 hu⟩
   | tuple c2 =>
    cases (show x=V.str c1 from o1);obtain ⟨tk1,rfl⟩:=r1;obtain ⟨p2,vs2,rfl,fz2,w2⟩:=o2.tup0;cases r2;obtain ⟨its2,rv2,pl2,_⟩:=I.tuple fz2.sq;have hl2:s.heap.IsTuple p2 its2.toArray:=pl2;exact ⟨EqAt.str_tuple _ _ hl2 hu,RcAt.str_tuple _ _ hl2 hu,RcNeAt.str_tuple _ _ hl2 hu⟩
   | dict c2=>simp [aA] at hnb
  | list c1 =>
   simp only [dC] at hdp;omega
  | tuple c1 =>
   simp only [dC] at hdp;omega
  | dict c1=>simp [aA] at hna
 | succ n ih =>
  intro a b A x y v u hdp hna hnb o1 o2 r1 r2 hun;have hu:A.units < cLine:=by omega
  have hu1:A.in1.units+n+1 < cLine:=by
   show A.units+1+n+1 < cLine;omega
  cases a with
  | none =>
   cases b with
   | none =>
    cases (show x=V.non from o1);cases r1;cases (show y=V.non from o2);cases r2;exact ⟨EqAt.same _,RcAt.none_none,RcNeAt.none_none⟩
   | bool c2 =>
    cases (show x=V.non from o1);cases r1;cases (show y=V.bl c2 from o2);cases r2;exact ⟨EqAt.none_bool _,RcAt.none_bool _,RcNeAt.none_bool _⟩
   | int c2 =>
    cases (show x=V.non from o1);cases r1;cases (show y=V.int c2 from o2);obtain ⟨tk2,rfl⟩:=r2;exact ⟨EqAt.none_int _ _,RcAt.none_int _ _,RcNeAt.none_int _ _⟩
   | str c2 =>
    cases (show x=V.non from o1);cases r1;cases (show y=V.str c2 from o2);obtain ⟨tk2,rfl⟩:=r2;exact ⟨EqAt.none_str _ _,RcAt.none_str _ _,RcNeAt.none_str _ _⟩
   | list c2 =>
    cases (show x=V.non from o1);cases r1;obtain ⟨p2,vs2,rfl,fz2,w2⟩:=o2.lst0;cases r2;obtain ⟨its2,rv2,pl2,_⟩:=I.list fz2.sq;have hl2:=pl2.isList;exact ⟨EqAt.none_list  hl2 hu,RcAt.none_list  hl2 hu,RcNeAt.none_list  hl2 hu⟩
   | tuple c2 =>
    cases (show x=V.non from o1);cases r1;obtain ⟨p2,vs2,rfl,fz2,w2⟩:=o2.tup0;cases r2;obtain ⟨its2,rv2,pl2,_⟩:=I.tuple fz2.sq;have hl2:s.heap.IsTuple p2 its2.toArray:=pl2;exact ⟨EqAt.none_tuple  hl2 hu,RcAt.none_tuple  hl2 hu,RcNeAt.none_tuple  hl2 hu⟩
   | dict c2=>simp [aA] at hnb
  | bool c1 =>
   cases b with
   | none =>
    cases (show x=V.bl c1 from o1);cases r1;cases (show y=V.non from o2);cases r2;exact ⟨EqAt.bool_none _,RcAt.bool_none _,RcNeAt.bool_none _⟩
   | bool c2 =>
    cases (show x=V.bl c1 from o1);cases r1;cases (show y=V.bl c2 from o2);cases r2;exact ⟨EqAt.bool_bool _ _,RcAt.bool_bool _ _,RcNeAt.bool_bool _ _⟩
   | int c2 =>
    cases (show x=V.bl c1 from o1);cases r1;cases (show y=V.int c2 from o2);obtain ⟨tk2,rfl⟩:=r2;exact ⟨EqAt.bool_int _ _ _,RcAt.bool_int _ _ _,RcNeAt.bool_int _ _ _⟩
   | str c2 =>
    cases (show x=V.bl c1 from o1);cases r1;cases (show y=V.str c2 from o2);obtain ⟨tk2,rfl⟩:=r2;exact ⟨EqAt.bool_str _ _ _,RcAt.bool_str _ _ _,RcNeAt.bool_str _ _ _⟩
   | list c2 =>
    cases (show x=V.bl c1 from o1);cases r1;obtain ⟨p2,vs2,rfl,fz2,w2⟩:=o2.lst0;cases r2;obtain ⟨its2,rv2,pl2,_⟩:=I.list fz2.sq;have hl2:=pl2.isList;exact ⟨EqAt.bool_list _ hl2 hu,RcAt.bool_list _ hl2 hu,RcNeAt.bool_list _ hl2 hu⟩
   | tuple c2 =>
    cases (show x=V.bl c1 from o1);cases r1;obtain ⟨p2,vs2,rfl,fz2,w2⟩:=o2.tup0;cases r2;obtain ⟨its2,rv2,pl2,_⟩:=I.tuple fz2.sq;have hl2:s.heap.IsTuple p2 its2.toArray:=pl2;exact ⟨EqAt.bool_tuple _ hl2 hu,RcAt.bool_tuple _ hl2 hu,RcNeAt.bool_tuple _ hl2 hu⟩
   | dict c2=>simp [aA] at hnb
  | int c1 =>
   cases b with
   | none =>
    cases (show x=V.int c1 from o1);obtain ⟨tk1,rfl⟩:=r1;cases (show y=V.non from o2);cases r2;exact ⟨EqAt.int_none _ _,RcAt.int_none _ _,RcNeAt.int_none _ _⟩
   | bool c2 =>
    cases (show x=V.int c1 from o1);obtain ⟨tk1,rfl⟩:=r1;cases (show y=V.bl c2 from o2);cases r2;exact ⟨EqAt.int_bool _ _ _,RcAt.int_bool _ _ _,RcNeAt.int_bool _ _ _⟩
   | int c2 =>
    cases (show x=V.int c1 from o1);obtain ⟨tk1,rfl⟩:=r1;cases (show y=V.int c2 from o2);obtain ⟨tk2,rfl⟩:=r2;exact ⟨EqAt.int_int _ _ _ _,RcAt.int_int _ _ _ _,RcNeAt.int_int _ _ _ _⟩
   | str c2 =>
    cases (show x=V.int c1 from o1);obtain ⟨tk1,rfl⟩:=r1;cases (show y=V.str c2 from o2);obtain ⟨tk2,rfl⟩:=r2;exact ⟨EqAt.int_str _ _ _ _,RcAt.int_str _ _ _ _,RcNeAt.int_str _ _ _ _⟩
   | list c2 =>
    cases (show x=V.int c1 from o1);obtain ⟨tk1,rfl⟩:=r1;obtain ⟨p2,vs2,rfl,fz2,w2⟩:=o2.lst0;cases r2;obtain ⟨its2,rv2,pl2,_⟩:=I.list fz2.sq;have hl2:=pl2.isList;exact ⟨EqAt.int_list _ _ hl2 hu,RcAt.int_list _ _ hl2 hu,RcNeAt.int_list _ _ hl2 hu⟩
   | tuple c2 =>
    cases (show x=V.int c1 from o1);obtain ⟨tk1,rfl⟩:=r1;obtain ⟨p2,vs2,rfl,fz2,w2⟩:=o2.tup0;cases r2;obtain ⟨its2,rv2,pl2,_⟩:=I.tuple fz2.sq;have hl2:s.heap.IsTuple p2 its2.toArray:=pl2;exact ⟨EqAt.int_tuple _ _ hl2 hu,RcAt.int_tuple _ _ hl2 hu,RcNeAt.int_tuple _ _ hl2 hu⟩
   | dict c2=>simp [aA] at hnb
  | str c1 =>
   cases b with
   | none =>
    cases (show x=V.str c1 from o1);obtain ⟨tk1,rfl⟩:=r1;cases (show y=V.non from o2);cases r2;exact ⟨EqAt.str_none _ _,RcAt.str_none _ _,RcNeAt.str_none _ _⟩
   | bool c2 =>
    cases (show x=V.str c1 from o1);obtain ⟨tk1,rfl⟩:=r1;cases (show y=V.bl c2 from o2);cases r2;exact ⟨EqAt.str_bool _ _ _,RcAt.str_bool _ _ _,RcNeAt.str_bool _ _ _⟩
   | int c2 =>
    cases (show x=V.str c1 from o1);obtain ⟨tk1,rfl⟩:=r1;cases (show y=V.int c2 from o2);obtain ⟨tk2,rfl⟩:=r2;exact ⟨EqAt.str_int _ _ _ _,RcAt.str_int _ _ _ _,RcNeAt.str_int _ _ _ _⟩
   | str c2 =>
    cases (show x=V.str c1 from o1);obtain ⟨tk1,rfl⟩:=r1;cases (show y=V.str c2 from o2);obtain ⟨tk2,rfl⟩:=r2;exact ⟨EqAt.str_str _ _ _ _,RcAt.str_str _ _ _ _,RcNeAt.str_str _ _ _ _⟩
   | list c2 =>
    cases (show x=V.str c1 from o1);obtain ⟨tk1,rfl⟩:=r1;obtain ⟨p2,vs2,rfl,fz2,w2⟩:=o2.lst0;cases r2;obtain ⟨its2,rv2,pl2,_⟩:=I.list fz2.sq;have hl2:=pl2.isList;exact ⟨EqAt.str_list _ _ hl2 hu,RcAt.str_list _ _ hl2 hu,RcNeAt.str_list _ _ hl2 hu⟩
   | tuple c2 =>
    cases (show x=V.str c1 from o1);obtain ⟨tk1,rfl⟩:=r1;obtain ⟨p2,vs2,rfl,fz2,w2⟩:=o2.tup0;cases r2;obtain ⟨its2,rv2,pl2,_⟩:=I.tuple fz2.sq;have hl2:s.heap.IsTuple p2 its2.toArray:=pl2;exact ⟨EqAt.str_tuple _ _ hl2 hu,RcAt.str_tuple _ _ hl2 hu,RcNeAt.str_tuple _ _ hl2 hu⟩
   | dict c2=>simp [aA] at hnb
  | list c1 =>
   cases b with
   | none =>
    obtain ⟨p1,vs1,rfl,fz1,w1⟩:=o1.lst0;cases r1;obtain ⟨its1,rv1,pl1,_⟩:=I.list fz1.sq;have hl1:=pl1.isList;cases (show y=V.non from o2);cases r2;exact ⟨EqAt.list_none  hl1 hu,RcAt.list_none  hl1 hu,RcNeAt.list_none  hl1 hu⟩
   | bool c2 =>
    obtain ⟨p1,vs1,rfl,fz1,w1⟩:=o1.lst0;cases r1;obtain ⟨its1,rv1,pl1,_⟩:=I.list fz1.sq;have hl1:=pl1.isList;cases (show y=V.bl c2 from o2);cases r2;exact ⟨EqAt.list_bool _ hl1 hu,RcAt.list_bool _ hl1 hu,RcNeAt.list_bool _ hl1 hu⟩
   | int c2 =>
    obtain ⟨p1,vs1,rfl,fz1,w1⟩:=o1.lst0;cases r1;obtain ⟨its1,rv1,pl1,_⟩:=I.list fz1.sq;have hl1:=pl1.isList;cases (show y=V.int c2 from o2);obtain ⟨tk2,rfl⟩:=r2;exact ⟨EqAt.list_int _ _ hl1 hu,RcAt.list_int _ _ hl1 hu,RcNeAt.list_int _ _ hl1 hu⟩
   | str c2 =>
    obtain ⟨p1,vs1,rfl,fz1,w1⟩:=o1.lst0;cases r1;obtain ⟨its1,rv1,pl1,_⟩:=I.list fz1.sq;have hl1:=pl1.isList;cases (show y=V.str c2 from o2);obtain ⟨tk2,rfl⟩:=r2;exact ⟨EqAt.list_str _ _ hl1 hu,RcAt.list_str _ _ hl1 hu,RcNeAt.list_str _ _ hl1 hu⟩
   | list c2 =>
    obtain ⟨p1,vs1,rfl,fz1,w1⟩:=o1.lst0;cases r1;obtain ⟨its1,rv1,pl1,_⟩:=I.list fz1.sq;have hl1:=pl1.isList;obtain ⟨p2,vs2,rfl,fz2,w2⟩:=o2.lst0;cases r2;obtain ⟨its2,rv2,pl2,_⟩:=I.list fz2.sq;have hl2:=pl2.isList;have dl:bw c1<=n:=by simp only [dC] at hdp; omega
    have nd1:aM c1=true:=by simpa [aA] using hna
    have nd2:aM c2=true:=by simpa [aA] using hnb
    have el:=qN (A:=A.in1) w1 w2 rv1 rv2 fun j a b x y v u e1 e2 q1 q2 q3 q4=>(ih a b A.in1 x y v u (zau (kI e1) dl) (eh nd1 e1) (eh nd2 e2) q1 q2 q3 q4 hu1).1;have l1:=rv1.length;have l2:=rv2.length;have m1:=w1.len;have m2:=w2.len;have rc:RcAt A s (.ref p1) (.ref p2) (bR c1 c2)/\RcNeAt A s (.ref p1) (.ref p2) (!bR c1 c2):=by
     by_cases hz:c1.length=c2.length
     ·have hs1:its1.toArray.size=its2.toArray.size:=by rw [zai,zai]; omega
      have hs2:its1.toArray.size=c1.length:=by rw [zai]; omega
      have z1:=RcAt.lists hl1 hl2 hs1 hu el;have z2:=RcNeAt.lists hl1 hl2 hs1 hu el;rw [hs2,l8 hz] at z1 z2;exact ⟨z1,z2⟩
     ·have hs1:(its1.toArray.size != its2.toArray.size)=true:=by rw [zai,zai,bne_iff_ne]; omega
      rw [lZ hz];exact ⟨RcAt.lists_lengths hl1 hl2 hs1 hu,RcNeAt.lists_lengths hl1 hl2 hs1 hu⟩
    have pe:peq (.list c1) (.list c2)=bR c1 c2:=by simp only [peq]
    refine ⟨?_,by rw [pe]; exact rc.1,by rw [pe]; exact rc.2⟩;by_cases hp:p1=p2
    ·subst hp
     have:=Ow.inj I _ _ o1 o2 hna;cases this;rw [l9 _ hna];exact EqAt.same _
    ·rw [pe];exact EqAt.of_refs hp rc.1
   | tuple c2 =>
    obtain ⟨p1,vs1,rfl,fz1,w1⟩:=o1.lst0;cases r1;obtain ⟨its1,rv1,pl1,_⟩:=I.list fz1.sq;have hl1:=pl1.isList;obtain ⟨p2,vs2,rfl,fz2,w2⟩:=o2.tup0;cases r2;obtain ⟨its2,rv2,pl2,_⟩:=I.tuple fz2.sq;have hl2:s.heap.IsTuple p2 its2.toArray:=pl2;exact ⟨EqAt.list_tuple hl1 hl2 hu,RcAt.list_tuple hl1 hl2 hu,RcNeAt.list_tuple hl1 hl2 hu⟩
   | dict c2=>simp [aA] at hnb
  | tuple c1 =>
   cases b with
   | none =>
    obtain ⟨p1,vs1,rfl,fz1,w1⟩:=o1.tup0;cases r1;obtain ⟨its1,rv1,pl1,_⟩:=I.tuple fz1.sq;have hl1:s.heap.IsTuple p1 its1.toArray:=pl1;cases (show y=V.non from o2);cases r2;exact ⟨EqAt.tuple_none  hl1 hu,RcAt.tuple_none  hl1 hu,RcNeAt.tuple_none  hl1 hu⟩
   | bool c2 =>
    obtain ⟨p1,vs1,rfl,fz1,w1⟩:=o1.tup0;cases r1;obtain ⟨its1,rv1,pl1,_⟩:=I.tuple fz1.sq;have hl1:s.heap.IsTuple p1 its1.toArray:=pl1;cases (show y=V.bl c2 from o2);cases r2;exact ⟨EqAt.tuple_bool _ hl1 hu,RcAt.tuple_bool _ hl1 hu,RcNeAt.tuple_bool _ hl1 hu⟩
   | int c2 =>
    obtain ⟨p1,vs1,rfl,fz1,w1⟩:=o1.tup0;cases r1;obtain ⟨its1,rv1,pl1,_⟩:=I.tuple fz1.sq;have hl1:s.heap.IsTuple p1 its1.toArray:=pl1;cases (show y=V.int c2 from o2);obtain ⟨tk2,rfl⟩:=r2;exact ⟨EqAt.tuple_int _ _ hl1 hu,RcAt.tuple_int _ _ hl1 hu,RcNeAt.tuple_int _ _ hl1 hu⟩
   | str c2 =>
    obtain ⟨p1,vs1,rfl,fz1,w1⟩:=o1.tup0;cases r1;obtain ⟨its1,rv1,pl1,_⟩:=I.tuple fz1.sq;have hl1:s.heap.IsTuple p1 its1.toArray:=pl1;cases (show y=V.str c2 from o2);obtain ⟨tk2,rfl⟩:=r2;exact ⟨EqAt.tuple_str _ _ hl1 hu,RcAt.tuple_str _ _ hl1 hu,RcNeAt.tuple_str _ _ hl1 hu⟩
   | list c2 =>
    obtain ⟨p1,vs1,rfl,fz1,w1⟩:=o1.tup0;cases r1;obtain ⟨its1,rv1,pl1,_⟩:=I.tuple fz1.sq;have hl1:s.heap.IsTuple p1 its1.toArray:=pl1;obtain ⟨p2,vs2,rfl,fz2,w2⟩:=o2.lst0;cases r2;obtain ⟨its2,rv2,pl2,_⟩:=I.list fz2.sq;have hl2:=pl2.isList;exact ⟨EqAt.tuple_list hl1 hl2 hu,RcAt.tuple_list hl1 hl2 hu,RcNeAt.tuple_list hl1 hl2 hu⟩
   | tuple c2 =>
    obtain ⟨p1,vs1,rfl,fz1,w1⟩:=o1.tup0;cases r1;obtain ⟨its1,rv1,pl1,_⟩:=I.tuple fz1.sq;have hl1:s.heap.IsTuple p1 its1.toArray:=pl1;obtain ⟨p2,vs2,rfl,fz2,w2⟩:=o2.tup0;cases r2;obtain ⟨its2,rv2,pl2,_⟩:=I.tuple fz2.sq;have hl2:s.heap.IsTuple p2 its2.toArray:=pl2;have dl:bw c1<=n:=by simp only [dC] at hdp; omega
    have nd1:aM c1=true:=by simpa [aA] using hna
    have nd2:aM c2=true:=by simpa [aA] using hnb
    have el:=qN (A:=A.in1) w1 w2 rv1 rv2 fun j a b x y v u e1 e2 q1 q2 q3 q4=>(ih a b A.in1 x y v u (zau (kI e1) dl) (eh nd1 e1) (eh nd2 e2) q1 q2 q3 q4 hu1).1;have l1:=rv1.length;have l2:=rv2.length;have m1:=w1.len;have m2:=w2.len;have rc:RcAt A s (.ref p1) (.ref p2) (bR c1 c2)/\RcNeAt A s (.ref p1) (.ref p2) (!bR c1 c2):=by
     have z1:=RcAt.tuples hl1 hl2 hu el;have z2:=RcNeAt.tuples hl1 hl2 hu el;have ez:((List.range (min its1.toArray.size its2.toArray.size)).all (eAt c1 c2) && its1.toArray.size == its2.toArray.size)=bR c1 c2:=by
      rw [zai,zai];by_cases hz:c1.length=c2.length
      ·have h3:its1.length=its2.length:=by omega
       have h4:min its1.length its2.length=c1.length:=by omega
       rw [h4,l8 hz,h3,beq_self_eq_true,Bool.and_true]
      ·have h3:(its1.length == its2.length)=false:=by rw [beq_eq_false_iff_ne]; omega
       rw [h3,Bool.and_false,lZ hz]
     rw [ez] at z1 z2;exact ⟨z1,z2⟩
    have pe:peq (.tuple c1) (.tuple c2)=bR c1 c2:=by simp only [peq]
    refine ⟨?_,by rw [pe]; exact rc.1,by rw [pe]; exact rc.2⟩;by_cases hp:p1=p2
    ·subst hp
     have:=Ow.inj I _ _ o1 o2 hna;cases this;rw [l9 _ hna];exact EqAt.same _
    ·rw [pe];exact EqAt.of_refs hp rc.1
   | dict c2=>simp [aA] at hnb
  | dict c1=>simp [aA] at hna
end
def eqD (a b:D):Option D:=grd (aA a=true/\aA b=true/\dC a<=60) (.bool (peq a b))
def neD (a b:D):Option D:=grd (aA a=true/\aA b=true/\dC a<=60) (.bool (!peq a b))
section
variable {X:Cx} {K:PySem.W.Frag}
def pQ (hK:X.K=K) (hu:X.A.units+64 < cLine):OpR X (compareOp .Eq) (rF2 K eqD 3):=by
 subst hK;intro pins s σ H x y v u Q I rx ry ⟨O,a,b,t,oa,ob,hd,hg,k⟩;obtain ⟨⟨c1,c2,c3⟩,rfl⟩:=fS hg;exact (Ef I 60 a b X.A x y v u c3 c1 c2 oa ob rx ry (by omega)).2.1 X.prog X.w _ _ ⟨.bl _,H,I,rfl,k _ H NoA .refl rfl⟩
def KA (hK:X.K=K) (hu:X.A.units+64 < cLine):OpR X (compareOp .NotEq) (rF2 K neD 3):=by
 subst hK;intro pins s σ H x y v u Q I rx ry ⟨O,a,b,t,oa,ob,hd,hg,k⟩;obtain ⟨⟨c1,c2,c3⟩,rfl⟩:=fS hg;exact (Ef I 60 a b X.A x y v u c3 c1 c2 oa ob rx ry (by omega)).2.2 X.prog X.w _ _ ⟨.bl _,H,I,rfl,k _ H NoA .refl rfl⟩
end
def BlkOkC.inn {X:Cx} {scope:Scope} {ns:List Str} {js:List (Option Nat)} {N0:List Str} {sc0:Scope} {cl:List (Str × Addr)} {C:Addr} {env:Env} (hN:X.N=N0) (hE:X.env=compEnvC sc0 cl C env) (h:lu N0 sc0 scope ns js=true):BlkOkC X scope ns js:=by
 unfold lu at h;simp only [Bool.and_eq_true,List.all_eq_true,decide_eq_true_eq,List.mem_range] at h;obtain ⟨⟨⟨⟨⟨⟨h1,h2⟩,h3⟩,h4⟩,h5⟩,h6⟩,h7⟩:=h;refine ⟨h1,fun y hy=>h2 y hy,fun y hy=>h3 y hy,fun y hy hk=>?_,h5,h6,fun i x j e1 e2=>?_⟩
 ·rw [hE];rcases h4 y hy hk with q | q
  ·exact .inl (jC (env:=env) q)
  ·exact jB (env:=env) q
 ·rw [hN];exact sY h7 e1 e2
def ss {K:PySem.W.Frag} {dps:List Nat} {dr n:Nat} {F:List D->Option (D × En)} {vs:List V} {H:Hp} {Q:VK} {E:XK} (hn:dps.length=n) (h:spF K dps dr F vs H Q E):vs.length=n:=by
 obtain ⟨Ox,ts,R,r,outs,e,_⟩:=h
 have:=e.l2;rw [zad] at this;omega
section
variable {X:Cx} {K:PySem.W.Frag} {p:Bool} {J:Jd} {ds ds0 ds1 ds2 ds3 ds':List Nat} {d d' d1 d2 d3:Nat} {a b c e:Expr} {st:Stmt} {f f1 f2 f3:ME} {m:MS} {pos p2:Pos}
def Fb (h:PS X st (tFS K J ds ds2 m)) (hd:leD ds1 ds2=true):PS X st (tFS K J ds ds1 m):=h.imp fun _ _ _=>Jj hd
def Lx (g g':D->D->Option D) (f1 f2 f3:ME):ME:=fun en=>(f1 en).bind fun r=>(f2 r.2).bind fun q=>(g r.1 q.1).bind fun t=>match t with
 | .bool true=>(f3 q.2).bind fun z=>(g' q.1 z.1).map fun t=>(t,z.2)
 | .bool false=>some (.bool false,q.2)
 | _=>none
abbrev MO:=En->Option (Option Int × En)
def tFO (K:PySem.W.Frag) (p:Bool) (ds ds':List Nat) (f:MO):TO:=fun σ H Q=>∃ Ox en R o en',EnvOk K ds Ox H σ en R/\f en=some (o,en')/\∀ H' R',Post K p ds' Ox σ H en R en' H' R' NoA->Q o H'
def gJ:MO:=fun en=>some (none,en)
def gf (f:ME):MO:=fun en=>(f en).bind fun r=>match r.1 with
 | .int i=>some (some i,r.2)
 | _=>none
def PO.imp {X:Cx} {e:Option Expr} {t t':TO} (h:PO X e t) (hi:∀ σ H Q,t' σ H Q->t σ H Q):PO X e t':=fun pins s σ H Q I hw=>h pins s σ H Q I (hi _ _ _ hw)
def Fk:PO X none (tFO K p ds ds gJ):=po_none.imp fun σ H Q ⟨Ox,en,R,o,en',e,hf,k⟩=>by
 cases hf;exact k H R (Post.refl e)
def Fj (h:PE X e (tF K p ds ds1 d f)):PO X (some e) (tFO K p ds ds1 (gf f)):=(EB h).imp fun σ H Q ⟨Ox,en,R,o,en',e,hf,k⟩=>by
 unfold gf at hf;obtain ⟨⟨t1,en1⟩,h1,hf⟩:=zaa.mp hf;refine ⟨Ox,en,R,t1,en1,e,h1,fun v H' R' F P o=>?_⟩;cases t1 with
 | int i=>cases hf; exact ⟨i,o,k H' R' (P.less fun _ z=>z.elim)⟩
 | _=>cases hf
def rFs (K:PySem.W.Frag) (g:D->Option Int->Option Int->Option D) (d:Nat):V->Option Int->Option Int->Hp->VK->Prop:=fun x lo hi H Q=>∃ (O:AS) (a t:D),Ow K O H a 0 x NoA/\(∀ a,O a->∃ o,H a=some o)/\g a lo hi=some t/\∀ v H' F,NewTo H H' F->Ow K (U F O) H' t d v F->Q v H'
def eSl (g:D->Option Int->Option Int->Option D) (f:ME) (lo hi:MO):ME:=fun en=>(f en).bind fun r=>(lo r.2).bind fun l=>(hi l.2).bind fun h=>(g r.1 l.1 h.1).map fun t=>(t,h.2)
variable {lo hi:MO}
def Ow.past0 {H1 H2:Hp} {R1 R2:Nat->AS} {Ox:AS} {σ:St} {en1 en2:En} {F2:AS} {t:D} {v:V} (P2:Post K p ds2 Ox σ H1 en1 R1 en2 H2 R2 F2) (h:Ow K (Own R1 Ox) H1 t 0 v NoA):Ow K (Own R2 Ox) H2 t 0 v NoA:=by
 refine Ow.mv (G:=NoA) ⟨fun a o q z=>P2.keep a o q fun i zi=>?_,fun a z=>?_⟩ t (fun _ z=>z) h
 ·rcases z with z | z
  ·exact z (.inl ⟨i,zi⟩)
  ·exact z
 ·rcases z with z | z
  ·exact (P2.own a (.inr z)).imp .inl id
  ·exact .inl (.inr z)
def Lh {g:D->Option Int->Option Int->Option D} {σ:St} {H:Hp} {Q:VK} (h:tF K p ds ds3 d (eSl g f lo hi) σ H Q):tSl (rFs K g d) (tF K p ds ds1 d1 f) (tFO K p ds1 ds2 lo) (tFO K p ds2 ds3 hi) σ H Q:=by
 obtain ⟨Ox,en,R,t,en',e,hf,k⟩:=h;unfold eSl at hf;obtain ⟨⟨t1,en1⟩,h1,hf⟩:=zaa.mp hf;obtain ⟨⟨l,en2⟩,h2,hf⟩:=zaa.mp hf;obtain ⟨⟨u,en3⟩,h3,hf⟩:=zaa.mp hf;obtain ⟨t',h4,hf⟩:=zab.mp hf;cases hf;refine ⟨Ox,en,R,t1,en1,e,h1,fun v H1 R1 F1 P1 o1=>?_⟩;have o0:=Ow.letgo P1 (fun _ z=>z) o1;refine ⟨Ox,en1,R1,l,en2,P1.env0,h2,fun H2 R2 P2=>?_⟩;refine ⟨Ox,en2,R2,u,en3,P2.env0,h3,fun H3 R3 P3=>?_⟩;have P:=(P1.after P2).after P3;rw [Bool.and_self,Bool.and_self] at P;exact ⟨Own R3 Ox,t1,t,(o0.past0 P2).past0 P3,P3.doms,h4,fun v4 H4 F4 n4 o4=>k v4 H4 R3 F4 (P.fin n4) (pS ▸ o4)⟩
def SlR.imp {r r':V->Option Int->Option Int->Hp->VK->Prop} (h:SlR X r) (hi:∀ x lo hi H Q,r' x lo hi H Q->r x lo hi H Q):SlR X r':=fun pins s σ H x v vl vu lo hi' sl Q I rx hs pl pu q=>h pins s σ H x v vl vu lo hi' sl Q I rx hs pl pu (hi _ _ _ _ _ q)
def xK {g:D->Option Int->Option Int->Option D} {elo ehi:Option Expr} (hr:SlR X (rFs K g d)) (he:PE X e (tF K p ds ds1 d1 f)) (hl:PO X elo (tFO K p ds1 ds2 lo)) (hu:PO X ehi (tFO K p ds2 ds3 hi)):PE X (.Subscript e (.Slice elo ehi none p2) pos) (tF K p ds ds3 d (eSl g f lo hi)) :=
 (wU hr he hl hu).imp fun _ _ _=>Lh
def eY {α:Type} (xs:List α) (lo hi:Option Int):List α:=(xs.drop (HT.sIx xs.length 0 lo)).take (HT.sIx xs.length xs.length hi - HT.sIx xs.length 0 lo)
def no:D->Option Int->Option Int->Option D
 | .list ts,lo,hi=>some (.list (eY ts lo hi))
 | _,_,_=>none
def oi (hK:X.K=K):SlR X (rFs K no 1):=(Lb hK).imp fun x lo hi H Q ⟨O,a,t,oa,hd,hg,k⟩=>by
 cases a with
 | list ts =>
  cases hg;obtain ⟨a,vs,e1,f1,w1⟩:=oa.lst0;refine ⟨a,vs,e1,f1.sq,fun p hp=>?_⟩;have w2:Ows K O H (eY ts lo hi) 0 (oy vs lo hi) NoA:=by
   unfold eY oy;rw [w1.len];exact (w1.drop _).take _
  exact k _ _ _ (dN hp hd w2).1 (dN hp hd w2).2
 | _=>cases hg
def rh:D->Option Int->Option Int->Option D
 | .str z,lo,hi=>grd (z.length<=sizeLine) (.str ⟨(dH z.cps.toList lo hi).toArray⟩)
 | _,_,_=>none
def qY:SlR X (rFs K rh 3):=sl_str.imp fun x lo hi H Q ⟨O,a,t,oa,hd,hg,k⟩=>by
 cases a with
 | str z =>
  obtain ⟨c,rfl⟩:=fS hg;exact ⟨z,oa,c,k _ H NoA .refl rfl⟩
 | _=>cases hg
end
def kEq:D->D->Bool
 | .int a,.int b=>a == b
 | .str a,.str b=>a == b
 | _,_=>false
def m4 (a b:Key):kEq (kD a) (kD b)=decide (a=b):=by
 cases a with
 | inl i=>cases b with
  | inl j=>rw [vJ]; rfl
  | inr j=>rw [vI]; rfl
 | inr i=>cases b with
  | inl j=>rw [vH]; rfl
  | inr j =>
   rw [vG];show (i == j)=_;by_cases h:i=j
   ·subst h; simp
   ·rw [zaA h,beq_eq_false_iff_ne]; exact h
def kOf:D->Option Key
 | .int i=>some (.inl i)
 | .str x=>some (.inr x)
 | _=>none
def qK {a:D} {q:Key} (h:kOf a=some q):a=kD q:=by
 cases a <;> cases h <;> rfl
def qm {K:PySem.W.Frag} {O:AS} {H:Hp} {a:D} {q:Key} {d:Nat} {v:V} {F:AS} (h:kOf a=some q) (o:Ow K O H a d v F):v=kV q:=by
 cases a with
 | int i=>cases h; exact o
 | str i=>cases h; exact o
 | _=>cases h
def gg (ks:List (D × D)) (q:D):Option D:=(ks.find? fun kv=>kEq kv.1 q).map (·.2)
def oo (ks:List (D × D)) (q t:D):List (D × D):=if ks.any (fun kv=>kEq kv.1 q) then ks.map (fun kv=>if kEq kv.1 q then (kv.1,t) else kv) else ks++[(q,t)]
section
variable {K:PySem.W.Frag} {O:AS} {H:Hp} {d:Nat}
def Owd.look:∀ {ks:List (D × D)} {vs:List (Key × V)} {F:AS} (q:Key),Owd K O H ks d vs F->(∃ t v,gg ks (kD q)=some t/\eS vs q=some v/\Ow K O H t d v F)\/(gg ks (kD q)=none/\eS vs q=none)
 | [],_,_,q,h=>by rw [show _=[] from h]; exact .inr ⟨rfl,rfl⟩
 | (k,t) :: ks,_,F,q,h=>by
  obtain ⟨q',v,r,F1,F2,e,e2,s1,s2,_,h4,h5⟩:=h;subst e e2;by_cases hq:q'=q
  ·subst hq;refine .inl ⟨t,v,?_,jw rfl,Ow.grow (fun _ z=>z) t s1 h4⟩;unfold gg;rw [List.find?_cons,m4,zaB rfl];rfl
  ·have e1:gg ((kD q',t) :: ks) (kD q)=gg ks (kD q):=by
    unfold gg;rw [List.find?_cons,m4,zaA hq]
   have e2:eS ((q',v) :: r) q=eS r q:=jx hq;rw [e1,e2];rcases Owd.look q h5 with ⟨t',v',a1,a2,a3⟩ | z
   ·exact .inl ⟨t',v',a1,a2,Ow.grow (fun _ z=>z) t' s2 a3⟩
   ·exact .inr z
def Owd.any:∀ {ks:List (D × D)} {vs:List (Key × V)} {F:AS} (q:Key),Owd K O H ks d vs F->ks.any (fun kv=>kEq kv.1 (kD q))=vs.any (fun kv=>decide (kv.1=q))
 | [],_,_,q,h=>by rw [show _=[] from h]; rfl
 | (k,t) :: ks,_,F,q,h=>by
  obtain ⟨q',v,r,F1,F2,e,e2,_,_,_,_,h5⟩:=h;subst e e2;rw [List.any_cons,List.any_cons,m4,Owd.any q h5]
def Owd.len:∀ {ks:List (D × D)} {vs:List (Key × V)} {F:AS},Owd K O H ks d vs F->vs.length=ks.length
 | [],_,_,h=>by rw [show _=[] from h]; rfl
 | (k,t) :: ks,_,F,h=>by
  obtain ⟨q',v,r,F1,F2,e,e2,_,_,_,_,h5⟩:=h;rw [e,zac,zac,h5.len]
def Owd.rep0 {t:D} {v:V} {q:Key} (ht:Ow K O H t 0 v NoA):∀ {ks:List (D × D)} {vs:List (Key × V)},Owd K O H ks 0 vs NoA->Owd K O H (ks.map fun kv=>if kEq kv.1 (kD q) then (kv.1,t) else kv) 0 (vs.map fun kv=>if kv.1=q then (kv.1,v) else kv) NoA
 | [],_,h=>by rw [show _=[] from h]; rfl
 | (k,u) :: ks,_,h=>by
  obtain ⟨q',w,r,F1,F2,e,e2,_,_,_,h4,h5⟩:=h;subst e e2;rw [zar,zar];have ih:=Owd.rep0 (q:=q) ht (Owd.any0 ks h5)
  dsimp only
  rw [m4];by_cases hq:q'=q
  ·rw [if_pos hq,if_pos (zaB hq)];exact ⟨q',v,_,NoA,NoA,rfl,rfl,fun _ z=>z,fun _ z=>z,fun _ z=>z.elim,ht,ih⟩
  ·rw [if_neg hq,if_neg (by rw [zaA hq]; exact Bool.false_ne_true)];exact ⟨q',w,_,NoA,NoA,rfl,rfl,fun _ z=>z,fun _ z=>z,fun _ z=>z.elim,Ow.any0 u h4,ih⟩
def Owd.snoc0 {t:D} {v:V} {q:Key} (ht:Ow K O H t 0 v NoA):∀ {ks:List (D × D)} {vs:List (Key × V)},Owd K O H ks 0 vs NoA->Owd K O H (ks++[(kD q,t)]) 0 (vs++[(q,v)]) NoA
 | [],_,h=>by
  rw [show _=[] from h];exact ⟨q,v,[],NoA,NoA,rfl,rfl,fun _ z=>z,fun _ z=>z,fun _ z=>z.elim,ht,rfl⟩
 | (k,u) :: ks,_,h=>by
  obtain ⟨q',w,r,F1,F2,e,e2,_,_,_,h4,h5⟩:=h;subst e e2;exact ⟨q',w,_,NoA,NoA,rfl,rfl,fun _ z=>z,fun _ z=>z,fun _ z=>z.elim,Ow.any0 u h4,Owd.snoc0 ht (Owd.any0 ks h5)⟩
def Owd.put0 {t:D} {v:V} {q:Key} {ks:List (D × D)} {vs:List (Key × V)} (h:Owd K O H ks 0 vs NoA) (ht:Ow K O H t 0 v NoA):Owd K O H (oo ks (kD q) t) 0 (cR vs q v) NoA:=by
 unfold oo cR;rw [h.any q];by_cases hq:(vs.any fun kv=>decide (kv.1=q))=true
 ·rw [if_pos hq,if_pos hq];exact Owd.rep0 ht h
 ·rw [if_neg hq,if_neg hq];exact Owd.snoc0 ht h
def Owd.past {ks:List (D × D)} {vs:List (Key × V)} {F:AS} {l:Addr} {o:HO} {O':AS} (ho:∀ a,O' a->O a) (hl:O l) (hf:∀ b,F b->b≠l) (h:Owd K O H ks d vs F):Owd K O' (upd H l o) ks d vs F:=by
 refine Owd.mv (G:=F) ⟨fun a u q z=>?_,fun a z=>.inl (ho a z)⟩ ks (fun _ z=>z) h;rw [aC]
 ·exact q
 ·intro za;subst za;rcases z with z | z
  ·exact z hl
  ·exact hf a z rfl
def Ow.dict1 {ks:List (D × D)} {v:V} {F:AS} (hd:d≠0) (h:Ow K O H (.dict ks) d v F):∃ a vs,v=.ref a/\H a=some (.dK vs)/\F a/\∃ F':AS,(∀ b,F' b->F b/\b≠a)/\Owd K O H ks (dn d) vs F':=by
 obtain ⟨a,vs,e,⟨z,_⟩ | ⟨_,h1,h2,h3⟩ | ⟨z,_⟩⟩:=h
 ·exact absurd z hd
 ·exact ⟨a,vs,e,h1,h2,h3⟩
 ·exact absurd z hd
end
def lq:ME:=eC (.dict [])
def LO:D->D->Option D
 | .dict ks,q=>(kOf q).bind fun _=>gg ks q
 | _,_=>none
section
variable {X:Cx} {K:PySem.W.Frag} {p:Bool} {J:Jd} {ds ds0 ds1 ds2 ds':List Nat} {d d' d1 d2:Nat} {a b c e o k:Expr} {f f1 f2 fk fe:ME} {pos px spos:Pos} {i:Nat} {σ:St} {H:Hp} {Q:VK} {Dn:Ends}
def FB:PE X (.Dict [] [] pos) (tF K p ds ds 3 lq):=pe_dnewK.imp fun σ H Q ⟨Ox,en,R,t,en',e,hf,k⟩=>by
 cases hf;intro l hl;have n:NewTo H (upd H l (.dK [])) (fun b=>b=l):=bI hl;exact k (.ref l) _ R _ (Post.new e n.1 n.2) ⟨l,[],rfl,.inr (.inl ⟨by decide,aL,rfl,NoA,fun _ z=>z.elim,rfl⟩)⟩
def bH (i:Nat) (f:ME):ME:=fun en=>(en[i]?).join.bind fun _=>(f en).bind fun r=>match (r.2[i]?).join with
 | some (.dict ks)=>(kOf r.1).bind fun _=>(gg ks r.1).map fun t=>(t,r.2)
 | _=>none
def FH (hd:ds1[i]?=some 1) (h:tF K p ds ds1 0 (bH i f) σ H Q):DK (iJ i) (tF K p ds ds1 d1 f) σ H Q:=by
 obtain ⟨Ox,en,R,t,en',e,hf,k⟩:=h;unfold bH at hf;obtain ⟨t0,h0,hf⟩:=zaa.mp hf;obtain ⟨⟨t1,en1⟩,h1,hf⟩:=zaa.mp hf
 dsimp only at hf
 split at hf
 case h_2=>cases hf
 next ks h2 =>
 obtain ⟨q,hq,hf⟩:=zaa.mp hf;obtain ⟨t',h3,hf⟩:=zab.mp hf;cases hf;obtain ⟨v,d0,a1,_,a3⟩:=e.at_ i _ (bj h0);refine ⟨v,a1,Ox,en,R,t1,_,e,h1,fun x H1 R1 F P o=>?_⟩;obtain ⟨v',d',b1,b2,b3⟩:=P.env.at_ i _ (bj h2);rw [a1] at b1;cases b1;rw [hd] at b2;cases b2;obtain ⟨l,vs,el,hl,hr,F',hf',ow⟩:=b3.dict1 (by decide);rw [qK hq] at h3;rcases ow.look q with ⟨t'',w,c1,c2,c3⟩ | ⟨z,_⟩
 ·rw [h3] at c1;cases c1;refine ⟨l,w,el,?_,k w H1 R1 NoA (P.less fun _ z=>z.elim) ?_⟩
  ·rw [<- c2,qm hq o];exact DGet.k hl
  ·exact Ow.any0 _ (Ow.grow (fun a z=>z.imp id fun z=>z.elim (fun z=>False.elim z) Or.inr) _ (fun _ z=>z) c3)
 ·rw [h3] at z; cases z
def xR {x:Str} (hu:X.A.units+1 < cLine) (hN:X.N[i]?=some x) (hv:Vis X.env.scope x) (h1:ds1[i]?=some 1) (hi:PE X k (tF K p ds ds1 d1 f)) (hs:uJ k) (hd:(x == ("__debug__" : Str))=false) (hcd:(x == ("__classdict__" : Str))=false) :
  PE X (.Subscript (.Name x px) k pos) (tF K p ds ds1 0 (bH i f)):=(EE hu (gp hN hv hd hcd) hi hs).imp fun _ _ _=>FH h1
def dE (i:Nat) (fk fe:ME):MS:=fun en=>(fe en).bind fun r=>match (r.2[i]?).join with
 | some _=>(fk r.2).bind fun q=>match (q.2[i]?).join with
  | some (.dict ks)=>(kOf q.1).bind fun _=>if ks.length < sizeLine then some (.nx (q.2.set i (some (.dict (oo ks q.1 r.1))))) else none
  | _=>none
 | none=>none
def E9 (hd:ds2[i]?=some 1) (h:tFS K J ds ds2 (dE i fk fe) Dn σ H):DP (iJ i) (tF K false ds1 ds2 d2 fk) (tF K false ds ds1 0 fe) Dn σ H:=by
 obtain ⟨Ox,en,R,fl,e,hf,k⟩:=h;unfold dE at hf;obtain ⟨⟨t1,en1⟩,h1,hf⟩:=zaa.mp hf
 dsimp only at hf
 split at hf
 case h_2=>cases hf
 next tt h0 =>
 obtain ⟨⟨t2,en2⟩,h2,hf⟩:=zaa.mp hf
 dsimp only at hf
 split at hf
 case h_2=>cases hf
 next ks h3 =>
 obtain ⟨q,hq,hf⟩:=zaa.mp hf;by_cases hlen:ks.length < sizeLine
 case neg=>rw [if_neg hlen] at hf; cases hf
 rw [if_pos hlen] at hf;cases hf;refine ⟨Ox,en,R,t1,en1,e,h1,fun x H1 R1 F1 P1 o1=>?_⟩;obtain ⟨v0,d0,a1,_,_⟩:=P1.env.at_ i tt (bj h0);refine ⟨v0,a1,?_⟩;refine ⟨U F1 Ox,en1,R1,t2,en2,P1.env,h2,fun y H2 R2 F2 P2 o2=>?_⟩;have P:=P1.trans P2;have o1':=Ow.over P1.env P2 o1;have w1:=Ow.letgo P (fun _=>.inl) o1';obtain ⟨v',d',b1,b2,b3⟩:=P.env.at_ i _ (bj h3);rw [a1] at b1;cases b1;rw [hd] at b2;cases b2;obtain ⟨l,vs,el,hl,hr,F',hf',ow⟩:=b3.dict1 (by decide);have eq:=qm hq o2;subst eq;refine ⟨l,_,el,DPut.k hl (by rw [ow.len]; exact hlen),?_⟩;have hi:i < en2.length:=(zah.mp (bj h3)).1;have gG:∀ a,(fun a=>R2 i a) a->R2 i a\/U F1 F2 a:=fun a z=>.inl z;have sub:=nC (i:=i) (R1:=R2) (Ox:=Ox) (G:=fun a=>R2 i a) (F':=NoA) (F:=U F1 F2) gG (fun _ z=>z.elim);have Ol:Own R2 (U (U F1 F2) Ox) l:=.inl ⟨i,hr⟩;have PS:=P.slot (G:=fun a=>R2 i a) (F':=NoA) (o2:=.dK (cR vs q x)) (t:=.dict (oo ks t2 t1)) hr hi a1 hd gG (fun _ z=>z.elim) (fun _ _ z=>z) ?_
 ·exact k σ _ _ PS.s
 refine ⟨l,cR vs q x,el,.inr (.inl ⟨by decide,aL,hr,NoA,fun _ z=>z.elim,?_⟩)⟩;rw [qK hq];refine Owd.put0 (Owd.past sub Ol (fun _ z=>z.elim) (Owd.any0 ks ow)) ?_;refine Ow.past (O:=Own R2 Ox) (fun a z=>?_) (.inl ⟨i,hr⟩) (fun _ z=>z.elim) w1;rcases z with ⟨j,z⟩ | z | z
 ·by_cases hj:j=i
  ·rw [if_pos hj] at z; exact .inl ⟨i,z⟩
  ·rw [if_neg hj] at z; exact .inl ⟨j,z⟩
 ·exact z.elim
 ·exact .inr z
def xD {x:Str} (hu:X.A.units+1 < cLine) (hN:X.N[i]?=some x) (hv:Vis X.env.scope x) (he:PE X e (tF K false ds ds1 0 fe)) (hk:PE X k (tF K false ds1 ds2 d2 fk)) (h1:ds2[i]?=some 1)
  (hdb:(x == ("__debug__" : Str))=false) (hcd:(x == ("__classdict__" : Str))=false) (hs:swapsWith e (some (.Subscript (.Name x px) k spos)) pos.line X.env=pure false) :
  PS X (.Assign [.Subscript (.Name x px) k spos] e pos) (tFS K J ds ds2 (dE i fk fe)):=(Ew hu (gp hN hv hdb hcd) hk he hs).imp fun _ _ _=>E9 h1
end
def evP:List (ME × ME)->En->Option (List (D × D) × En)
 | [],en=>some ([],en)
 | (fk,fv) :: r,en=>(fk en).bind fun x=>(fv x.2).bind fun y=>(evP r y.2).bind fun z=>(kOf x.1).map fun _=>((x.1,y.1) :: z.1,z.2)
def II (ks:List (D × D)):List (D × D):=ks.foldl (fun acc kv=>oo acc kv.1 kv.2) []
def lr (fs:List (ME × ME)):ME:=fun en=>(evP fs en).bind fun r=>if r.1.length<=15 then some (.dict (II r.1),r.2) else none
def OwP (K:PySem.W.Frag) (O:AS) (H:Hp):List (D × D)->List (V × V)->Prop
 | [],ps=>ps=[]
 | (k,t) :: r,ps=>∃ q v s,ps=(kV q,v) :: s/\k=kD q/\Ow K O H t 0 v NoA/\OwP K O H r s
section
variable {X:Cx} {K:PySem.W.Frag} {p:Bool} {J:Jd} {ds ds0 ds1 ds2 ds':List Nat} {d d' d1 d2:Nat} {a b c e o k:Expr} {es:List Expr} {f f1 f2 fk fe:ME} {fa:MA} {sh:Sh} {pos px spos:Pos} {i j:Nat} {σ:St} {H:Hp} {Q:VK} {Dn:Ends}
def OwP.mv {O O':AS} {H H':Hp} (m:Mv O O' NoA H H'):∀ {ks:List (D × D)} {ps:List (V × V)},OwP K O H ks ps->OwP K O' H' ks ps
 | [],_,h=>h
 | (k,t) :: r,_,h=>by
  obtain ⟨q,v,s,e1,e2,o,h⟩:=h;exact ⟨q,v,s,e1,e2,Ow.mv m t (fun _ z=>z) o,OwP.mv m h⟩
def trs (K:PySem.W.Frag) (p:Bool) (ds:List Nat) (fs:List (ME × ME)):List (TE × TE):=fs.map fun q=>(tF K p ds ds 3 q.1,tF K p ds ds 0 q.2)
def Ey {R R1:Nat->AS} {Ox:AS} {en en1:En} {H1:Hp} {F:AS} (P:Post K p ds1 Ox σ H en R en1 H1 R1 F):Mv (Own R Ox) (Own R1 Ox) NoA H H1:=by
 refine ⟨fun a o q z=>P.keep a o q fun i zi=>?_,fun a z=>?_⟩
 ·rcases z with z | z
  ·exact z (.inl ⟨i,zi⟩)
  ·exact z
 ·rcases z with z | z
  ·exact (P.own a (.inr z)).imp .inl id
  ·exact .inl (.inr z)
def sU:∀ {fs:List (ME × ME)} {σ:St} {H:Hp} {Ox:AS} {en en':En} {R:Nat->AS} {ks:List (D × D)} {QP:List (V × V)->Hp->Prop},EnvOk K ds Ox H σ en R->evP fs en=some (ks,en') ->
  (∀ ps H' R',Post K p ds Ox σ H en R en' H' R' NoA->OwP K (Own R' Ox) H' ks ps->QP ps H')->mO (trs K p ds fs) σ H QP
 | [],σ,H,Ox,en,en',R,ks,QP,e,hf,k=>by
  cases hf;exact k [] H R (Post.refl e) rfl
 | (fk,fv) :: r,σ,H,Ox,en,en',R,ks,QP,e,hf,k=>by
  unfold evP at hf;obtain ⟨⟨t1,en1⟩,h1,hf⟩:=zaa.mp hf;obtain ⟨⟨t2,en2⟩,h2,hf⟩:=zaa.mp hf;obtain ⟨⟨ks3,en3⟩,h3,hf⟩:=zaa.mp hf;obtain ⟨q,hq,hf⟩:=zab.mp hf;cases hf;refine ⟨Ox,en,R,t1,en1,e,h1,fun x H1 R1 F1 P1 o1=>?_⟩;refine ⟨Ox,en1,R1,t2,en2,P1.env0,h2,fun y H2 R2 F2 P2 o2=>?_⟩;refine sU P2.env0 h3 fun ps H3 R3 P3 op=>?_;have PP:=(P1.after P2).after P3;rw [Bool.and_self,Bool.and_self] at PP;refine k _ H3 R3 PP ⟨q,y,ps,?_,qK hq,?_,op⟩
  ·rw [qm hq o1]
  ·exact Ow.mv (Ey P3) t2 (fun _ z=>z) (Ow.letgo P2 (fun _ z=>z) o2)
def qA {O:AS}:∀ {ks:List (D × D)} {kvs:List (Key × V)} {acc:List (D × D)} {avs:List (Key × V)},OwP K O H ks (kvs.map fun kv=>(kV kv.1,kv.2))->Owd K O H acc 0 avs NoA->Owd K O H (ks.foldl (fun acc kv=>oo acc kv.1 kv.2) acc) 0 (gt avs kvs) NoA
 | [],kvs,acc,avs,h,ha=>by
  have:kvs=[]:=List.map_eq_nil_iff.mp h;subst this;exact ha
 | (k,t) :: r,kvs,acc,avs,h,ha=>by
  obtain ⟨q,v,s,e1,e2,o,h⟩:=h;cases kvs with
  | nil=>cases e1
  | cons kv kvs =>
   rw [zar] at e1;injection e1 with e3 e4
   injection e3 with e5 e6
   have:=IN e5;subst this e6 e4 e2;exact qA (ks:=r) (kvs:=kvs) h (ha.put0 o)
def sy {O:AS}:∀ {ks:List (D × D)} {ps:List (V × V)},OwP K O H ks ps->∃ kvs:List (Key × V),ps=kvs.map (fun kv=>(kV kv.1,kv.2))/\kvs.length=ks.length
 | [],_,h=>⟨[],h,rfl⟩
 | (k,t) :: r,_,h=>by
  obtain ⟨q,v,s,e1,e2,o,h⟩:=h;obtain ⟨kvs,e3,e4⟩:=sy h;exact ⟨(q,v) :: kvs,by rw [e1,e3]; rfl,by rw [zac,zac,e4]⟩
def JT {fs:List (ME × ME)} (h:tF K p ds ds 1 (lr fs) σ H Q):DJ (trs K p ds fs) σ H Q:=by
 obtain ⟨Ox,en,R,t,en',e,hf,k⟩:=h;unfold lr at hf;obtain ⟨⟨ks,en1⟩,h1,hf⟩:=zaa.mp hf;by_cases hl:ks.length<=15
 case neg=>rw [if_neg hl] at hf; cases hf
 rw [if_pos hl] at hf;cases hf;intro l hl0;have n0:=bI (o:=.dK []) hl0;have P0:Post K true ds Ox σ H en R en (upd H l (.dK [])) R (fun b=>b=l):=Post.new e n0.1 n0.2;refine sU P0.env h1 fun ps H2 R2 P op=>?_;obtain ⟨kvs,e1,e2⟩:=sy op;have lO:U (fun b=>b=l) Ox l:=.inl rfl;have hl2:H2 l=some (.dK []):=P.keep l _ aL fun i z=>by
  obtain ⟨o,q⟩:=e.dom l (.inl ⟨i,z⟩);rw [hl0] at q;cases q
 have nl2:∀ i,¬ R2 i l:=fun i z=>P.env.dx i l z (.inr lO);refine ⟨hl2,kvs,e1,by omega,?_⟩;have PP:=P0.trans P;rw [Bool.true_and] at PP;have eU:U (fun b=>b=l) NoA=(fun b=>b=l):=fG fun a=>⟨fun z=>z.elim id fun z=>z.elim,.inl⟩;rw [eU] at PP;have keepl:∀ a o,H2 a=some o->a≠l->upd H2 l (.dK (gt [] kvs)) a=some o:=fun a o q n=>by rw [aC n]; exact q
 have OO:∀ a,Own R2 (U (fun b=>b=l) Ox) a->Own R2 (U (U (fun b=>b=l) Ox) NoA) a:=fun a z=>z.imp id .inl;refine k (.ref l) _ R2 (fun b=>b=l) ⟨⟨fun j u hu=>?_,PP.env.dj,PP.env.dx,fun a z=>?_,PP.env.l1,PP.env.l2⟩,PP.fx,fun a o q n=>?_,PP.own,fun a o q=>?_,fun hp=>?_⟩ ⟨l,_,rfl,.inr (.inl ⟨by decide,aL,rfl,NoA,fun _ z=>z.elim,?_⟩)⟩
 ·obtain ⟨v',d',g1,g2,g3⟩:=PP.env.at_ j u hu;refine ⟨v',d',g1,g2,Ow.mv (G:=R2 j) ⟨fun a o q z=>keepl a o q fun za=>?_,fun a z=>.inl z⟩ u (fun _ z=>z) g3⟩;subst za;rcases z with z | z
  ·exact z (.inr lO)
  ·exact nl2 j z
 ·by_cases ha:a=l
  ·subst ha; exact ⟨_,aL⟩
  ·obtain ⟨o,q⟩:=PP.env.dom a z;exact ⟨o,keepl a o q ha⟩
 ·refine keepl a o (PP.keep a o q n) fun za=>?_;subst za;rw [hl0] at q;cases q
 ·obtain ⟨o',q'⟩:=PP.dom a o q;by_cases ha:a=l
  ·subst ha; exact ⟨_,aL⟩
  ·exact ⟨o',keepl a o' q' ha⟩
 ·obtain ⟨b1,b2,b3⟩:=PP.pure hp;refine ⟨b1,b2,fun a o q=>keepl a o (b3 a o q) fun za=>?_⟩;subst za;rw [hl0] at q;cases q
 ·have op2:OwP K (Own R2 (U (fun b=>b=l) Ox)) (upd H2 l (.dK (gt [] kvs))) ks (kvs.map fun kv=>(kV kv.1,kv.2)):=by
   rw [e1] at op;refine OwP.mv ⟨fun a o q z=>keepl a o q fun za=>?_,fun a z=>.inl z⟩ op;subst za;rcases z with z | z
   ·exact z (.inr lO)
   ·exact z
  exact qA op2 rfl
def FC {keys:List (Option Expr)} {values:List Expr} {fs:List (ME × ME)} (h:PPs X pos keys values (trs K p ds fs)) (hall:keys.all (·.isSome)=true) (hl:keys.length=values.length) (h0:keys≠[]) (h15:keys.length<=15) :
  PE X (.Dict keys values pos) (tF K p ds ds 1 (lr fs)):=(ED h hall hl h0 h15).imp fun _ _ _=>JT
def Jq:PPs X pos [] [] (trs K p ds []):=Ex
def Fh {k v:Expr} {ks:List (Option Expr)} {vs:List Expr} {fk fv:ME} {fs:List (ME × ME)} (hk:PE X k (tF K p ds ds 3 fk)) (hv:PE X v (tF K p ds ds 0 fv)) (hr:PPs X pos ks vs (trs K p ds fs)):PPs X pos (some k :: ks) (v :: vs) (trs K p ds ((fk,fv) :: fs)):=wR hk hv hr
def LH (i j:Nat) (fa:MA):MS:=fun en=>(fa en).bind fun r=>match r.1 with
 | [.inl a,.inl b]=>some (.nx ((r.2.set i (some a)).set j (some b)))
 | _=>none
end
section
variable {X:Cx} {K:PySem.W.Frag}
end
section
variable {X:Cx} {K:PySem.W.Frag} {O:AS} {H:Hp} {ts us:List D} {vs ws:List V} {x y:V} {d:Nat} {Q:VK}
def Kg (K:PySem.W.Frag):List V->Hp->VK->Prop:=fun xs H Q=>∃ (p:Addr) (ns:List Int),xs=[.ref p]/\SqL K H p (ns.map V.int)/\Q (.int ns.sum) H
def wm (hc:X.calm=true):CallR X (.builtin "sum") (Kg X.K):=by
 intro pins s σ H xs us Q I r h;obtain ⟨p,ns,rfl,hp,q⟩:=h;obtain ⟨u,rfl,ru⟩:=eI r;cases ru;obtain ⟨its,rv,pl,hz⟩:=I.list hp;have hl:its.length=ns.length:=by rw [<- rv.length,zad]
 have hlt:p < s.heap.objs.size:=by
  obtain ⟨o,n,e,_⟩:=id pl;exact zal e
 have hsz:its.toArray.size=ns.length:=by rw [zai,hl]
 refine call_sum_walkAnyS (wpAny_pyIter_list pl.isList ?_);refine ⟨s.heap.objs.size,[s.heap.objs.size,p],[s.heap.objs.size],_,its.toArray.size,fun i v=>its.toArray[i]?=some v,_,fun i=>ns.getD i 0,rfl,(Walks.list (A:=X.A.in1) (show X.A.in1.handled=none from I.ok.hd hc) s.heap.objs.size p (zaw hlt) its.toArray).toS,?_,?_,?_,?_⟩
 ·exact ⟨⟨_,zan _ rfl,rfl,rfl⟩,pl.isList.push _⟩
 ·intro b hb;show b < (s.heap.push _).objs.size;rw [Heap.size_push];have hb':b=s.heap.objs.size\/b=p:=by simpa using hb
  rcases hb' with rfl | rfl
  ·exact Nat.lt_succ_self _
  ·exact Nat.lt_succ_of_lt hlt
 ·intro i v hv;have hv':its[i]?=some v:=by simpa using hv
  have hi:i < ns.length:=by
   rw [<- hl];exact (zah.mp hv').1
  obtain ⟨u,hu,ru⟩:=rv.get (i:=i) (x:=V.int ns[i]) (by rw [zao,zak hi]; rfl);rw [hu] at hv';cases hv';obtain ⟨t,rfl⟩:=ru;refine ⟨t,?_⟩;show Value.int ns[i] t=Value.int (ns.getD i 0) t;rw [List.getD_eq_getElem?_getD,zak hi];rfl
 ·intro s' t' hm;have e:preSum (fun i=>ns.getD i 0) its.toArray.size=ns.sum:=by
   rw [hsz,lH ns ns.length (zav _),zaQ]
  rw [e];obtain ⟨hh,g,dr,tk,os'⟩:=s';have e1:dr=s.drawn:=hm.drawn;have e2:os'=s.os:=hm.os;have e3:g=s.gens:=hm.gens;subst e1 e2 e3;refine ⟨.int ns.sum,H,I.kept (t':=tk) fun b o z=>hm.heap b o ?_ (zaf _ z),⟨_,rfl⟩,q⟩;intro z';have z'':b=s.heap.objs.size:=by simpa using z'
  exact zaw (zal z) z''
def fA:List D->Option (List Int)
 | []=>some []
 | .int i :: r=>(fA r).map (i :: ·)
 | _ :: _=>none
def ql:∀ {ts:List D} {vs:List V} {bs:List Int},Ows K O H ts 0 vs NoA->fA ts=some bs->vs=bs.map V.int
 | [],_,_,h,hb=>by cases hb; exact h
 | .int b :: r,_,_,h,hb=>by
  obtain ⟨v,w,F1,F2,e,_,_,_,h4,h5⟩:=h;obtain ⟨bs',h6,h7⟩:=zab.mp hb;subst e h7;rw [show v=.int b from h4,ql (Ows.any0 r h5) h6];rfl
 | .none :: _,_,_,_,hb=>by cases hb
 | .bool _ :: _,_,_,_,hb=>by cases hb
 | .str _ :: _,_,_,_,hb=>by cases hb
 | .list _ :: _,_,_,_,hb=>by cases hb
 | .tuple _ :: _,_,_,_,hb=>by cases hb
 | .dict _ :: _,_,_,_,hb=>by cases hb
def gy:List D->Option D
 | [.list ts]=>(fA ts).map fun ns=>.int ns.sum
 | _=>none
def kB (hK:X.K=K) (hc:X.calm=true):CallR X (.builtin "sum") (rFn K gy 3):=by
 subst hK;refine (wm hc).imp fun xs H Q ⟨O,as,t,oa,hd,hg,k⟩=>?_
 match as,hg with
 | [.list ts],hg =>
  obtain ⟨ns,h1,rfl⟩:=zab.mp hg;obtain ⟨v,rfl,o⟩:=oa.one;obtain ⟨a,vs,rfl,fz,w⟩:=o.lst0;have e:=ql w h1;subst e;exact ⟨a,ns,rfl,fz.sq,k _ H NoA .refl rfl⟩
end
section
variable {X:Cx} {K:PySem.W.Frag} {p:Bool} {ds ds1:List Nat} {O:AS} {H:Hp} {σ:St} {d:Nat} {f:ME} {i:Nat} {e:Expr} {Q:VK}
end
section
variable {X:Cx} {K:PySem.W.Frag} {p:Bool} {ds ds1:List Nat} {d:Nat} {fa:MA} {sh:Sh} {O O1:AS} {H0 H:Hp} {ts us:List D} {vs ws:List V} {a b:Addr}
def wB (ts us:List D):List D:=List.zipWith (fun x y=>.tuple [x,y]) ts us
def LE (fa:MA):MI:=fun en=>(fa en).bind fun r=>match r.1 with
 | [.inl (.list ts),.inl (.list us)]=>some (wB ts us,r.2)
 | _=>none
end
section
variable {X:Cx} {K:PySem.W.Frag} {p:Bool} {ds ds1:List Nat} {d1:Nat} {e:Expr} {f:ME}
end
section
variable {X:Cx} {K:PySem.W.Frag} {p p1 p2:Bool} {ds ds1 ds2:List Nat} {d d1:Nat} {e:Expr} {f:ME} {fa:MA} {sh:Sh} {σ:St} {H:Hp} {Q:VK}
def eM (g:Str->List D->Option D) (f:ME) (fa:MA):ME:=fun en=>(f en).bind fun r=>match r.1 with
 | .str z=>(fa r.2).bind fun q=>(vals q.1).bind fun ts=>(g z ts).map fun t=>(t,q.2)
 | _=>none
structure MtF (K:PySem.W.Frag) (r:V->List V->Hp->VK->Prop) (g:Str->List D->Option D):Prop where
 h:∀ {O:AS} {H:Hp} {z:Str} {ts:List D} {xs:List V} {t:D} {Q:VK},Ows K O H ts 0 xs NoA->g z ts=some t->(∀ v,Ow K O H t 3 v NoA->Q v H)->r (.str z) xs H Q
def JS {r:V->List V->Hp->VK->Prop} {g:Str->List D->Option D} (hr:MtF K r g) (hs:bT 0 sh=true) (h:tF K (p1 && p2) ds ds2 3 (eM g f fa) σ H Q):tBM K "str" r (tF K p1 ds ds1 d1 f) (tFA K p2 ds1 ds2 sh fa) σ H Q:=by
 obtain ⟨Ox,en,R,t,en',e,hf,k⟩:=h;unfold eM at hf;obtain ⟨⟨t1,en1⟩,h1,hf⟩:=zaa.mp hf
 dsimp only at hf
 split at hf
 case h_2=>cases hf
 next z =>
 obtain ⟨⟨as,en2⟩,h2,hf⟩:=zaa.mp hf;obtain ⟨ts,h3,hf⟩:=zaa.mp hf;obtain ⟨t',h4,hf⟩:=zab.mp hf;cases hf;refine ⟨Ox,en,R,.str z,en1,e,h1,fun x H1 R1 F1 P1 o1=>?_⟩;have ex:x=.str z:=o1;subst ex;refine ⟨rfl,Ox,en1,R1,as,en2,P1.env0,h2,fun vs H2 R2 F P2 o=>?_⟩;have P:=P1.after P2;obtain ⟨F',s1,s2⟩:=OwA.ows hs h3 o;have o2:Ows K (Own R2 Ox) H2 ts 0 vs F':=s2 _ (fun a z=>z.imp id .inr) fun a z z2=>by
  rcases z2 with ⟨i,z2⟩ | z2
  ·exact absurd (.inl z) (P.env.dx i a z2)
  ·exact absurd z2 (P.fx a z)
 refine hr.h (Ows.any0 ts o2) h4 fun v ov=>k v H2 R2 NoA (P.less fun _ z=>z.elim) ?_;rw [ig];exact ov
def joinD:Str->List D->Option D
 | sep,[.list ts]=>(strsOf ts).bind fun ys=>if sep.length<=16/\(ys.map (·.length)).sum+ys.length<=1048576 then some (.str (Txt.join sep ys)) else none
 | sep,[.tuple ts]=>(strsOf ts).bind fun ys=>if sep.length<=16/\(ys.map (·.length)).sum+ys.length<=1048576 then some (.str (Txt.join sep ys)) else none
 | _,_=>none
where strsOf:List D->Option (List Str)
 | []=>some []
 | .str z :: r=>(strsOf r).map (z :: ·)
 | _ :: _=>none
def ma {O:AS}:∀ {ts:List D} {ys:List Str} {xs:List V},joinD.strsOf ts=some ys->Ows K O H ts 0 xs NoA->xs=ys.map V.str
 | [],ys,xs,h,o=>by
  cases h;exact o
 | t :: ts,ys,xs,h,o=>by
  obtain ⟨v,r,F1,F2,e,_,_,_,h4,h5⟩:=o;cases t with
  | str z =>
   obtain ⟨ys',h6,rfl⟩:=zab.mp h;have e4:v=.str z:=h4;rw [e,e4,ma h6 (Ows.any0 ts h5)];rfl
  | _=>cases h
def gX:MtF K (DU K) joinD where
 h:=fun {O H z ts xs t Q} o hg q=>by
  unfold joinD at hg;split at hg
  ·next us =>
   obtain ⟨ys,h1,h2⟩:=zaa.mp hg;by_cases hc:z.length<=16/\(ys.map (·.length)).sum+ys.length<=1048576
   case neg=>rw [if_neg hc] at h2; cases h2
   rw [if_pos hc] at h2;cases h2;obtain ⟨v,r,F1,F2,e,_,_,_,h4,h5⟩:=o;have e5:r=[]:=h5;subst e5 e;obtain ⟨a,vs,rfl,fz,w⟩:=(Ow.any0 _ h4).lst0;have e6:=ma h1 w;subst e6;exact ⟨z,ys,a,rfl,rfl,.inl fz.sq,hc.1,hc.2,q _ rfl⟩
  ·next us =>
   obtain ⟨ys,h1,h2⟩:=zaa.mp hg;by_cases hc:z.length<=16/\(ys.map (·.length)).sum+ys.length<=1048576
   case neg=>rw [if_neg hc] at h2; cases h2
   rw [if_pos hc] at h2;cases h2;obtain ⟨v,r,F1,F2,e,_,_,_,h4,h5⟩:=o;have e5:r=[]:=h5;subst e5 e;obtain ⟨a,vs,rfl,fz,w⟩:=(Ow.any0 _ h4).tup0;have e6:=ma h1 w;subst e6;exact ⟨z,ys,a,rfl,rfl,.inr fz.sq,hc.1,hc.2,q _ rfl⟩
  ·cases hg
def Lp:Str->List D->Option D
 | z,[.str y]=>some (.bool (Txt.startswith z y))
 | _,_=>none
def LF:Str->List D->Option D
 | z,[.str y]=>some (.bool (Txt.endswith z y))
 | _,_=>none
def jj:Str->List D->Option D
 | z,[.str y]=>match Builtin.Str.occurrences z y 0 z.length 1 with
  | i :: _=>some (.int (i:Nat))
  | []=>none
 | _,_=>none
def wW {O:AS} {y:Str} {xs:List V} (o:Ows K O H [.str y] 0 xs NoA):xs=[.str y]:=by
 obtain ⟨v,r,F1,F2,e,_,_,_,h4,h5⟩:=o;have e4:v=.str y:=h4;have e5:r=[]:=h5;rw [e,e4,e5]
def qW:MtF K vb jj where
 h:=fun {O H z ts xs t Q} o hg q=>by
  unfold jj at hg;split at hg
  ·next y =>
   split at hg
   ·next i rest he =>
    cases hg;exact ⟨z,y,i,rest,rfl,wW o,he,q _ rfl⟩
   ·cases hg
  ·cases hg
def Fx {o:Expr} {es:List Expr} {name:Str} {id:String} {apos cpos:Pos} {r:V->List V->Hp->VK->Prop} {g:Str->List D->Option D} (hK:X.K=K) (slot:Slot "str" name id) (hty:typeOf (.builtin id)=pure (.type "method_descriptor")) (hm:MtR X id r) (hr:MtF K r g) (ho:PE X o (tF K p ds ds1 d1 f)) (ha:PA X (e :: es) (tFA K p ds1 ds2 sh fa))
  (hsh:bT 0 sh=true) (hbase:attributeBase o name X.env (eval o X.env)=eval o X.env)
  (hfew:((backTo cpos (starEach (e :: es) X.env)).all (fun x=>!x.1) && (backToKw cpos (keywordEach [] X.env)).all (fun x=>x.1.isSome)
   && decide ((e :: es).length+([]:List Keyword).length+(if ([]:List Keyword).isEmpty then 0 else 1) < 30))=true)
  (hline:(apos.endLine == cpos.line)=true) (hs:starEach (e :: es) X.env=(false,eval e X.env) :: starEach es X.env) (hplain:(backTo cpos (starEach es X.env)).any (·.1)=false) :
  PE X (.Call (.Attribute o name apos) (e :: es) [] cpos) (tF K p ds ds2 3 (eM g f fa)):=by
 subst hK;exact (tS PySem.F.plainAttrs_str slot hty hm ho ha hbase hfew hline hs hplain).imp fun _ _ _ h=>JS hr hsh (by rw [Bool.and_self]; exact h)
end
section
variable {X:Cx} {K:PySem.W.Frag} {pins:List (Addr × Obj)} {σ:St} {H:Hp} {s:Shared} {O:AS}
end
section
open PySem.SeqAt Classical
variable {X:Cx} {K:PySem.W.Frag} {pins:List (Addr × Obj)} {σ:St} {H:Hp} {s:Shared} {O:AS}
end
section
variable {K:PySem.W.Frag} {O:AS} {H:Hp}
end
abbrev MP:=En->Option (List Nat × En)
section
variable {X:Cx} {K:PySem.W.Frag} {p p1 p2:Bool} {J:Jd} {ds ds1 ds2:List Nat} {H:Hp} {σ:St} {d d1 d2 i m:Nat} {f fk fe:ME} {mp:MP} {e b o:Expr} {Q:VK}
end
def ua (f:Nat->Str):Nat->List Str
 | 0=>[]
 | i+1=>if (ua f i).any (· == f i)=true then ua f i else ua f i++[f i]
section
variable {P:Program} {w:World} {A:Around} {R:Result->Shared->Prop} {I:Addr} {fp wr:List Addr} {G:Array GenState->Array GenState->Prop} {n:Nat} {Pi:Nat->Value->Prop} {St:Nat->Shared->Prop}
end
section
variable {P:Program} {w:World} {A:Around} {E:Value->Shared->Prop} {s:Shared}
def Kf (z:Str) (i:Nat):Str:=match z.cps[i]? with
 | some c=>mk1 c
 | none=>""
end
section
variable {X:Cx} {K:PySem.W.Frag} {p p1 p2:Bool} {ds ds1 ds2:List Nat} {d d1 d2:Nat} {e k:Expr} {f f1 f2:ME} {fa:MA} {sh:Sh} {σ:St} {H:Hp} {Q Q':VK} {pos pos2 px py:Pos}
def Ls:D->Option D
 | .str z=>grd (z.length < 4000) (.int (ua (Kf z) z.length).length)
 | _=>none
def LJ:D->D->Option D
 | .list ts,.int (-1)=>some (.list ts.reverse)
 | _,_=>none
def LB:D->D->Option D
 | .tuple ts,.int (-1)=>some (.tuple ts.reverse)
 | _,_=>none
def LC:D->D->Option D
 | .str z,.int (-1)=>grd (z.length<=sizeLine) (.str ⟨z.cps.toList.reverse.toArray⟩)
 | _,_=>none
def Lv (fa:MA):MI:=fun en=>(fa en).bind fun r=>match r.1 with
 | [.inl (.str x),.inl (.str y)]=>some (wB (bF x) (bF y),r.2)
 | _=>none
def isB:D->D->Option D
 | .bool a,.bool b=>some (.bool (a == b))
 | _,_=>none
end
section
variable {X:Cx} {K:PySem.W.Frag} {pins:List (Addr × Obj)} {σ:St} {H:Hp} {s:Shared} {O:AS}
end
section
variable {X:Cx} {K:PySem.W.Frag} {p p1 p2:Bool} {ds ds1 ds2:List Nat} {d d1 d2:Nat} {a b:Expr} {f f1 f2:ME} {σ:St} {H:Hp} {Q Q':VK} {pos:Pos} {ta tb:TE} {rest:List Expr}
def LP:D->Option Int->Option Int->Option D
 | .tuple ts,lo,hi=>grd (¬ (HT.sIx ts.length 0 lo=0/\HT.sIx ts.length ts.length hi=ts.length)) (.tuple (eY ts lo hi))
 | _,_,_=>none
def K2:D->Option Bool
 | .none=>some false
 | .bool b=>some b
 | .list ts=>some (!ts.isEmpty)
 | .tuple ts=>some (!ts.isEmpty)
 | _=>none
def LN (f g:ME):ME:=fun en=>(f en).bind fun r=>(K2 r.1).bind fun c=>if c then some r else g r.2
end
section
variable {X:Cx} {K:PySem.W.Frag} {p p1 p2:Bool} {ds ds1 ds2:List Nat} {d d1 d2:Nat} {a b:Expr} {f f1 f2:ME} {σ:St} {H:Hp} {Q Q':VK} {pos:Pos}
end
end L2
namespace L2
open PySem PySem.Spec PyProof.Rows PySem.SeqAt PySem.MeetsSeq
section
variable {A:Around} {s:Shared}
end
section
variable {X:Cx} {pins:List (Addr × Obj)} {σ:St} {H:Hp} {s:Shared} {O:AS}
end
section
variable {X:Cx} {K:PySem.W.Frag}
end
def LK:D->D->Option D
 | .tuple ts,.int k=>grd (1<=k/\k<=1000/\ts.length<=1000) (.tuple (List.replicate k.toNat ts).flatten)
 | _,_=>none
section
variable {X:Cx} {K:PySem.W.Frag}
def LD:D->D->Option D
 | .int k,.str z=>grd (z.length<=4000/\1<=k/\k<=4000) (.str (Txt.mul z k))
 | _,_=>none
end
section
variable {X:Cx} {K:PySem.W.Frag} {p p1 p2:Bool} {ds ds1 ds2:List Nat} {d d1 d2:Nat} {e:Expr} {f f1 f2:ME} {σ:St} {H:Hp} {Q Q':VK}
end
def Ly:D->D->Option D
 | .tuple ts,b=>grd (aA b=true/\aM ts=true/\bw ts<=60) (.int (ts.countP fun t=>peq t b:Nat))
 | _,_=>none
section
variable {X:Cx} {K:PySem.W.Frag} {p:Bool} {ds ds1 ds2:List Nat} {d d1 d2:Nat} {e:Expr} {f f1 f2:ME} {σ:St} {H:Hp} {Q Q':VK}
end
end L2
namespace L2
open PySem PySem.Spec PyProof.Rows HT
section
variable {prog:Program} {w:World} {A:Around} {E:Value->Shared->Prop} {s:Shared}
end
def LG:D->Option Int->Option Int->Option D
 | .tuple ts,lo,hi=>some (.tuple (eY ts lo hi))
 | _,_,_=>none
section
variable {X:Cx} {K:PySem.W.Frag}
end
end L2
namespace L2
open PySem PySem.Spec PyProof.Rows
section
variable {P:Program} {w:World} {A:Around} {E:Value->Shared->Prop} {s:Shared}
end
section
variable {X:Cx} {K:PySem.W.Frag} {p p1 p2:Bool} {ds ds1 ds2:List Nat} {d d1 d2:Nat} {e k:Expr} {f f1 f2:ME} {fa:MA} {sh:Sh} {σ:St} {H:Hp} {Q Q':VK} {pos pos2 px py:Pos}
end
end L2
namespace L2
open PySem PySem.Spec PyProof.Rows PySem.SeqAt PySem.MeetsSeq
section
variable {X:Cx} {K:PySem.W.Frag}
end
section
variable {X:Cx} {K:PySem.W.Frag} {p p1 p2:Bool} {ds ds1 ds2:List Nat} {d d1 d2:Nat} {e:Expr} {f f1 f2:ME} {σ:St} {H:Hp} {Q Q':VK} {i:Nat}
end
section
variable {X:Cx} {K:PySem.W.Frag} {p p1 p2 q:Bool} {J:Jd} {ds ds0 ds1 ds2 ds' dsi dps:List Nat} {d d' d1 d2 dr:Nat} {a b c e tg iter:Expr} {es:List Expr} {st:Stmt} {rest body bodyB:List Stmt} {f f1 f2 fk fe:ME} {c1 c2:MT} {fa:MA} {sh:Sh} {pos px:Pos} {i:Nat} {x:Str} {m m1 m2:MS} {g:MG} {gs:List D->En->Option En} {fi:MI} {lk:List Nat}
end
end L2
namespace L2
open PySem PySem.Spec PyProof.Rows
section
variable {prog:Program} {w:World} {A:Around} {E:Value->Shared->Prop} {s:Shared}
end
section
variable {X:Cx} {tg:Expr} {K:PySem.W.Frag}
end
section
variable {X:Cx} {K:PySem.W.Frag} {p:Bool} {ds ds1:List Nat} {d:Nat} {fa:MA} {sh:Sh} {O O1:AS} {H0 H:Hp} {ts us:List D} {vs ws:List V} {a b:Addr}
def Lu (fa:MA):MI:=fun en=>(fa en).bind fun r=>match r.1 with
 | [.inl (.tuple ts),.inl (.tuple us)]=>some (wB ts us,r.2)
 | _=>none
end
section
variable {K:PySem.W.Frag} {p p1 p2 q:Bool} {J:Jd} {lk ds ds0 ds1 ds2 ds':List Nat} {d d' d1 d2:Nat} {f:ME} {i j:Nat} {g:MG} {gs:List D->En->Option En} {σ:St} {H:Hp} {Dn:Ends} {v:V} {vs:List V} {QS:St->Hp->Prop}
end
section
variable {X:Cx} {K:PySem.W.Frag} {J:Jd} {lk ds ds0 ds1 ds2 ds':List Nat} {e tg:Expr} {es:List Expr} {f:ME} {pos px:Pos} {i:Nat} {g:MG} {gs:List D->En->Option En}
end
section
variable {X:Cx} {K:PySem.W.Frag} {p:Bool} {ds:List Nat} {k v:Expr} {fk fv:ME} {pos:Pos} {σ:St} {H:Hp} {Q:VK} {O:AS}
end
structure QE (X:Cx) (e:Expr) (t:TE):Prop where
 h:PE X e t
structure QT (X:Cx) (e:Expr) (t:TT):Prop where
 h:PT X e t
structure QW (X:Cx) (e:Expr) (t:TT):Prop where
 h:PW X e t
structure QA (X:Cx) (e:List Expr) (t:TA):Prop where
 h:PA X e t
structure QS (X:Cx) (e:Stmt) (t:TS):Prop where
 h:PS X e t
structure QSs (X:Cx) (e:List Stmt) (t:TS):Prop where
 h:PSs X e t
structure QG (X:Cx) (e:Expr) (t:TG):Prop where
 h:PG X e t
structure QGs (X:Cx) (e:List Expr) (t:TGs):Prop where
 h:PGs X e t
structure QI (X:Cx) (tg e:Expr) (t:TI):Prop where
 h:PI X tg e t
structure QTs (X:Cx) (e:List Expr) (t:TT):Prop where
 h:PTs X e t
structure QO (X:Cx) (e:Option Expr) (t:TO):Prop where
 h:PO X e t
structure QPs (X:Cx) (pos:Pos) (ks:List (Option Expr)) (vs:List Expr) (t:List (TE × TE)):Prop where
 h:PPs X pos ks vs t
def qpt {X:Cx} {e:Expr} {t:TT} (h:QW X e t):QT X e t:=⟨h.h.pt⟩
section
variable {X:Cx} {K:PySem.W.Frag} {p p1 p2 q:Bool} {ds ds0 ds1 ds2 ds' dsi:List Nat} {d d' d1 d2:Nat} {a b c e:Expr} {es:List Expr} {f f1 f2:ME} {m c1 c2:MT} {fa:MA} {sh:Sh} {pos:Pos} {i:Nat} {x:Str}
def cT {x:Str} (hN:X.N[i]?=some x) (hv:Vis X.env.scope x) (h0:ds[i]?=some 0) (hd:(x == ("__debug__" : Str))=false) (hcd:(x == ("__classdict__" : Str))=false):QE X (.Name x pos) (tF K p ds ds 0 (ac i)):=⟨Jx hN hv h0 hd hcd⟩
def ah {n:Int} {j}:QE X (.Constant (.int n) j pos) (tF K p ds ds 3 (eC (.int n))):=⟨JL⟩
def cc {n:Bool} {j}:QE X (.Constant (.bool n) j pos) (tF K p ds ds 3 (eC (.bool n))):=⟨KK⟩
def bn {j}:QE X (.Constant .none j pos) (tF K p ds ds 3 (eC .none)):=⟨JD⟩
def aG {n:Str} {j}:QE X (.Constant (.str n) j pos) (tF K p ds ds 3 (eC (.str n))):=⟨JA⟩
def jL {x:Str} {n:Int} {t:Tok} (hg:Gl X x) (hm:X.mg x=some (.int n t)) (hd:(x == ("__debug__" : Str))=false):QE X (.Name x pos) (tF K p ds ds 3 (eC (.int n))):=⟨xP hg hm hd⟩
def cU (h:QE X e (tF K p ds ds' d f)) (hd:d'<=d):QE X e (tF K p ds ds' d' f):=⟨Jz h.h hd⟩
def fU (h:QE X e (tF K p ds0 ds' d f)) (hd:leD ds0 ds=true):QE X e (tF K false ds ds' d f):=⟨KI h.h hd⟩
def mr (h:QE X e (tF K true ds0 ds0 3 f)) (hd:leD ds0 ds=true):QE X e (tF K p ds ds 3 f):=⟨JO h.h hd⟩
def am {op:Operator} {g:D->D->Option D} (ho:OpR X (binaryOp op) (rF2 K g d)) (ha:QE X a (tF K p ds ds1 d1 f1)) (hb:QE X b (tF K p ds1 ds2 d2 f2)):QE X (.BinOp a op b pos) (tF K p ds ds2 d (e2 g f1 f2)):=⟨KD ho ha.h hb.h⟩
def jn {op:UnaryOp} {g:D->Option D} (ho:UnR X (unaryOp op) (rF1 K g d)) (ha:QE X a (tF K p ds ds1 d1 f1)):QE X (.UnaryOp op a pos) (tF K p ds ds1 d (e1 g f1)):=⟨KB ho ha.h⟩
def dG {op:CmpOp} {g:D->D->Option D} (ho:OpR X (compareOp op) (rF2 K g d)) (ha:QE X a (tF K p ds ds1 d1 f1)) (hb:QE X b (tF K p ds1 ds2 d2 f2)) (hm:behindInMarks op b=false):QE X (.Compare a [op] [b] pos) (tF K p ds ds2 d (e2 g f1 f2)):=⟨JN ho ha.h hb.h hm⟩
def aJ {op:CmpOp} {g:D->D->Option D} (ho:OpR X (compareOp op) (rF2 K g d)) (ha:QE X a (tF K p ds ds1 d1 f1)) (hb:QE X b (tF K p ds1 ds2 d2 f2)) (hm:behindInMarks op b=false):QT X (.Compare a [op] [b] pos) (tFT K p ds ds2 (tV (e2 g f1 f2))):=⟨E4 ho ha.h hb.h hm⟩
def a8 (h:QE X e (tF K p ds ds' d f)) (he:∀ whole,isTrue e X.env whole=(do let v <- whole; standAt e.pos; holding [v] (truthy v))):QT X e (tFT K p ds ds' (tV f)):=⟨E2 h.h he⟩
def oZ (ha:QT X a (tFT K p ds ds1 c1)):QW X (.BoolOp .And [a] pos) (tFT K p ds ds1 c1):=⟨EX ha.h⟩
def eT (ha:QT X a (tFT K p ds ds1 c1)):QW X (.BoolOp .Or [a] pos) (tFT K p ds ds1 c1):=⟨Je ha.h⟩
def qT {rest:List Expr} (ha:QT X a (tFT K p ds ds1 c1)) (hb:QW X (.BoolOp .And (b :: rest) pos) (tFT K p ds1 ds1 c2)):QW X (.BoolOp .And (a :: b :: rest) pos) (tFT K p ds ds1 (dJ c1 c2)):=⟨Jf ha.h hb.h⟩
def fT {rest:List Expr} (ha:QT X a (tFT K p ds ds1 c1)) (hb:QW X (.BoolOp .Or (b :: rest) pos) (tFT K p ds1 ds1 c2)):QW X (.BoolOp .Or (a :: b :: rest) pos) (tFT K p ds ds1 (bOr c1 c2)):=⟨Kx ha.h hb.h⟩
def bY (ha:QT X a (tFT K p ds ds1 c1)):QT X (.UnaryOp .Not a pos) (tFT K p ds ds1 (dD c1)):=⟨E3 ha.h⟩
def iA (h:QT X e (tFT K true ds0 ds0 c1)) (hd:leD ds0 ds=true):QT X e (tFT K p ds ds c1):=⟨E5 h.h hd⟩
def jK {op} (h:QE X a (tF K p ds ds1 d f)):QE X (.BoolOp op [a] pos) (tF K p ds ds1 d f):=⟨JB h.h⟩
def ms {rest:List Expr} (ha:QE X a (tF K p ds ds1 d1 f1)) (hb:QE X (.BoolOp .And (b :: rest) pos) (tF K p ds1 ds1 d f2)):QE X (.BoolOp .And (a :: b :: rest) pos) (tF K p ds ds1 d (kH f1 f2)):=⟨JQ ha.h hb.h⟩
def Fy {rest:List Expr} (ha:QE X a (tF K p ds ds1 d1 f1)) (hb:QE X (.BoolOp .Or (b :: rest) pos) (tF K p ds1 ds1 d f2)):QE X (.BoolOp .Or (a :: b :: rest) pos) (tF K p ds ds1 d (eOr f1 f2)):=⟨KC ha.h hb.h⟩
def xM (ha:QE X a (tF K p ds ds1 d1 f)):QE X (.UnaryOp .Not a pos) (tF K p ds ds1 3 (on f)):=⟨JC ha.h⟩
def om (hc:QT X c (tFT K p ds ds1 c1)) (ha:QE X a (tF K p ds1 ds2 d f1)) (hb:QE X b (tF K p ds1 ds2 d f2)):QE X (.IfExp c a b pos) (tF K p ds ds2 d (eIf c1 f1 f2)):=⟨KH hc.h ha.h hb.h⟩
def ae  : QA X [] (tFA K p ds ds [] ag):=⟨FE⟩
def aa (ha:QE X e (tF K p ds ds1 d f)) (hr:QA X es (tFA K p ds1 ds2 sh fa)) (hs:aF e=true):QA X (e :: es) (tFA K p ds ds2 (.inl d :: sh) (ad f fa)):=⟨xU ha.h hr.h hs⟩
def nc {x:Str} (hN:X.N[i]?=some x) (hv:Vis X.env.scope x) (hr:QA X es (tFA K p ds ds2 sh fa)) (hd:(x == ("__debug__" : Str))=false) (hcd:(x == ("__classdict__" : Str))=false):QA X (.Name x pos :: es) (tFA K p ds ds2 (.inr i :: sh) (aH i fa)):=⟨xT hN hv hr.h hd hcd⟩
def bq {c:Nat} (h:QA X es (tFA K p ds ds1 sh fa)) (hs:bT c sh=true) (hd:dn d=c) (hz:d≠0):QE X (.List es pos) (tF K p ds ds1 d (bg fa)):=⟨JE h.h hs hd hz⟩
def eV {c:Nat} {x1} (h:QA X es (tFA K p ds ds1 sh fa)) (hs:bT c sh=true) (hd:dn d=c):QE X (.Tuple es x1 pos) (tF K p ds ds1 d (eX fa)):=⟨Jy h.h hs hd⟩
def nb {id:String} {x:Str} {px:Pos} {g:List D->Option D} (hc:CallR X (.builtin id) (rFn K g d)) (hg:Gl X x) (hm:X.mg x=none) (hv:bootBuiltins x=some (.builtin id)) (ha:QA X (e :: es) (tFA K p ds ds1 sh fa)) (hsh:bT 0 sh=true) (hn:x≠"__name__") (hdb:(x == ("__debug__" : Str))=false) (he:aF e=true) (hpl:es.all aF=true):QE X (.Call (.Name x px) (e :: es) [] pos) (tF K p ds ds1 d (eN g fa)):=⟨xS hc hg hm hv ha.h hsh hn hdb he hpl⟩
def rY {T:String} {x:Str} {px:Pos} {g:List D->Option D} (hc:CallR X (.type T) (rFn K g d)) (hg:Gl X x) (hm:X.mg x=none) (hv:bootBuiltins x=some (.type T)) (ha:QA X (e :: es) (tFA K p ds ds1 sh fa)) (hsh:bT 0 sh=true) (hn:x≠"__name__") (hdb:(x == ("__debug__" : Str))=false) (he:aF e=true) (hpl:es.all aF=true):QE X (.Call (.Name x px) (e :: es) [] pos) (tF K p ds ds1 d (eN g fa)):=⟨v7 hc hg hm hv ha.h hsh hn hdb he hpl⟩
def FA {k:Nat} {x:Str} {ps:List Str} {px:Pos} {dps:List Nat} {dr:Nat} {F:List D->Option (D × En)} (G:Kn X.prog X.w X.K X.mg X.base k x ps (spF K dps dr F)) (hr:Room k X.A) (hg:Gl X x) (ha:QA X (e :: es) (tFA K p ds ds1 sh fa)) (hns:gq sh=true) (hcd:cZ ds1 sh dps=true) (hdb:(x == ("__debug__" : Str))=false) (he:aF e=true) (hpl:es.all aF=true):QE X (.Call (.Name x px) (e :: es) [] pos) (tF K p ds ds1 dr (ak F fa)):=⟨KJ G hr hg ha.h hns hcd hdb he hpl⟩
def xQ {k:Nat} {x:Str} {ps:List Str} {px:Pos} {dps:List Nat} {dr:Nat} {F:List D->Option (D × En)} (G:Kn X.prog X.w X.K X.mg X.base k x ps (spF K dps dr F)) (hr:Room k X.A) (hg:Gl X x) (ha:QA X (e :: es) (tFA K false ds ds1 sh fa)) (hcd:cZ ds1 sh dps=true) (hdb:(x == ("__debug__" : Str))=false) (he:aF e=true) (hpl:es.all aF=true):QE X (.Call (.Name x px) (e :: es) [] pos) (tF K false ds ds1 dr (ak F fa)):=⟨JM G hr hg ha.h hcd hdb he hpl⟩
def aQ {g:D->D->Option D} (ho:IxR X (rF2 K g d)) (ha:QE X a (tF K p ds ds1 d1 f1)) (hb:QE X b (tF K p ds1 ds2 d2 f2)) (hs:jr b):QE X (.Subscript a b pos) (tF K p ds ds2 d (e2 g f1 f2)):=⟨KG ho ha.h hb.h hs⟩
def mj {x:Str} {px:Pos} (hK:X.K=K) (hN:X.N[i]?=some x) (hv:Vis X.env.scope x) (h1:ds1[i]?=some 1) (hb:QE X b (tF K p ds ds1 d1 f)) (hs:jr b) (hd:(x == ("__debug__" : Str))=false) (hcd:(x == ("__classdict__" : Str))=false):QE X (.Subscript (.Name x px) b pos) (tF K p ds ds1 0 (cX i f)):=⟨JG hK hN hv h1 hb.h hs hd hcd⟩
def cj {c:Nat} {x:Str} {px apos cpos:Pos} (hK:X.K=K) (hN:X.N[i]?=some x) (hv:Vis X.env.scope x) (h1:ds1[i]?=some d) (he:QE X e (tF K false ds ds1 c f)) (hz:d≠0) (hc:dn d=c) (hd:(x == ("__debug__" : Str))=false) (hcd:(x == ("__classdict__" : Str))=false) (hbase:attributeBase (.Name x px) "append" X.env (eval (.Name x px) X.env)=eval (.Name x px) X.env) (hfew:((backTo cpos (starEach [e] X.env)).all (fun x=>!x.1) && (backToKw cpos (keywordEach [] X.env)).all (fun x=>x.1.isSome) && decide (([e]:List Expr).length+([]:List Keyword).length+(if ([]:List Keyword).isEmpty then 0 else 1) < 30))=true) (hline:(apos.endLine == cpos.line)=true) (hs:starEach [e] X.env=[(false,eval e X.env)]) (hplain:(backTo cpos (starEach [] X.env)).any (·.1)=false):QE X (.Call (.Attribute (.Name x px) "append" apos) [e] [] cpos) (tF K false ds ds1 3 (bK i f)):=⟨JP hK hN hv h1 he.h hz hc hd hcd hbase hfew hline hs hplain⟩
def uA {c:Nat} {x:Str} {px apos cpos:Pos} (hK:X.K=K) (hN:X.N[i]?=some x) (hv:Vis X.env.scope x) (h1:ds1[i]?=some d) (he:QE X e (tF K false ds ds1 d1 f)) (hz:d≠0) (hc:dn d=c) (hd:(x == ("__debug__" : Str))=false) (hcd:(x == ("__classdict__" : Str))=false) (hbase:attributeBase (.Name x px) "pop" X.env (eval (.Name x px) X.env)=eval (.Name x px) X.env) (hfew:((backTo cpos (starEach [e] X.env)).all (fun x=>!x.1) && (backToKw cpos (keywordEach [] X.env)).all (fun x=>x.1.isSome) && decide (([e]:List Expr).length+([]:List Keyword).length+(if ([]:List Keyword).isEmpty then 0 else 1) < 30))=true) (hline:(apos.endLine == cpos.line)=true) (hs:starEach [e] X.env=[(false,eval e X.env)]) (hplain:(backTo cpos (starEach [] X.env)).any (·.1)=false):QE X (.Call (.Attribute (.Name x px) "pop" apos) [e] [] cpos) (tF K false ds ds1 c (ic i f)):=⟨xL hK hN hv h1 he.h hz hc hd hcd hbase hfew hline hs hplain⟩
def aX  : QTs X [] (tFT K p ds ds cY):=⟨EZ⟩
def kz (hc:QT X c (tFT K p ds ds1 c1)):QTs X [c] (tFT K p ds ds1 c1):=⟨EY hc.h⟩
def bV {elt tg iter:Expr} {ifs:List Expr} {scope:Scope} {ns:List Str} {js:List (Option Nat)} {fi:MI} {g:MG} {lk:List Nat} {cd:Nat} (B:BlkOkC X scope ns js) (hc:X.calm=true) (hi:QI X tg iter (tFI K p ds ds1 fi)) (hg:∀ C cl s₀ H₀ fp,QG (aO X scope ns C cl s₀ H₀ fp) tg (tFG K lk dsi dsi g)) (ht:∀ C cl s₀ H₀ fp,QTs (aO X scope ns C cl s₀ H₀ fp) ifs (tFT K true dsi dsi c1)) (he:∀ C cl s₀ H₀ fp,QE (aO X scope ns C cl s₀ H₀ fp) elt (tF K true dsi dsi cd f)) (hcap:gD ds1 js dsi=true) (hd:dn d=cd) (hz:d≠0) (hlk:lk=gC js 0) (hs:∀ x,foldedSetIterable iter X.env x=pure x):QE X (.ListComp elt [⟨tg,iter,ifs,0⟩] scope pos) (tF K p ds ds1 d (eLC true fi g c1 f js)):=⟨KE B hc hi.h (fun C cl s₀ H₀ fp=>(hg C cl s₀ H₀ fp).h) (fun C cl s₀ H₀ fp=>(ht C cl s₀ H₀ fp).h) (fun C cl s₀ H₀ fp=>(he C cl s₀ H₀ fp).h) hcap hd hz hlk hs⟩
def rb {elt tg iter:Expr} {ifs:List Expr} {scope:Scope} {ns:List Str} {js:List (Option Nat)} {fi:MI} {g:MG} {lk:List Nat} {cd:Nat} (B:BlkOkC X scope ns js) (hc:X.calm=true) (hi:QI X tg iter (tFI K false ds ds1 fi)) (hg:∀ C cl s₀ H₀ fp,QG (aO X scope ns C cl s₀ H₀ fp) tg (tFG K lk dsi dsi g)) (ht:∀ C cl s₀ H₀ fp,QTs (aO X scope ns C cl s₀ H₀ fp) ifs (tFT K false dsi dsi c1)) (he:∀ C cl s₀ H₀ fp,QE (aO X scope ns C cl s₀ H₀ fp) elt (tF K false dsi dsi cd f)) (hcap:gD ds1 js dsi=true) (hd:dn d=cd) (hz:d≠0) (hlk:lk=gC js 0) (hs:∀ x,foldedSetIterable iter X.env x=pure x):QE X (.ListComp elt [⟨tg,iter,ifs,0⟩] scope pos) (tF K false ds ds1 d (eLC false fi g c1 f js)):=⟨JF B hc hi.h (fun C cl s₀ H₀ fp=>(hg C cl s₀ H₀ fp).h) (fun C cl s₀ H₀ fp=>(ht C cl s₀ H₀ fp).h) (fun C cl s₀ H₀ fp=>(he C cl s₀ H₀ fp).h) hcap hd hz hlk hs⟩
end
section
variable {X:Cx} {K:PySem.W.Frag} {p p1 p2 q:Bool} {J:Jd} {ds ds0 ds1 ds2 ds' dsi dps:List Nat} {d d' d1 d2 dr:Nat} {a b c e tg iter:Expr} {es:List Expr} {st:Stmt} {rest body bodyB:List Stmt} {f f1 f2 fk fe:ME} {c1 c2:MT} {fa:MA} {sh:Sh} {pos px:Pos} {i:Nat} {x:Str} {m m1 m2:MS} {g:MG} {gs:List D->En->Option En} {fi:MI} {lk:List Nat}
def aK  : QSs X [] (tFS K J ds ds aZ):=⟨E7⟩
def af (h1:QS X st (tFS K J ds ds1 m1)) (h2:QSs X rest (tFS K J ds1 ds2 m2)):QSs X (st :: rest) (tFS K J ds ds2 (ai m1 m2)):=⟨xy h1.h h2.h⟩
def aw (h1:QS X st (tFS K J ds ds1 m1)):QSs X [st] (tFS K J ds ds1 m1):=⟨E6 h1.h⟩
def bS (he:QE X e (tF K false ds ds1 d f)) (hs:swapsWith e none pos.line X.env=pure false):QS X (.Expr e pos) (tFS K J ds ds1 (bQ f)):=⟨Fg he.h hs⟩
def vW (he:QE X e (tF K false ds ds1 J.dr f)) (hd:leD J.dsr ds1=true):QS X (.Return (some e) pos) (tFS K J ds ds' (aB f)):=⟨Fd he.h hd⟩
def dq  : QS X st (tFS K J ds ds' df):=⟨vX⟩
def aN (hc:QT X c (tFT K false ds ds1 c1)) (ha:QSs X body (tFS K J ds1 ds2 m1)) (hb:QSs X bodyB (tFS K J ds1 ds2 m2)):QS X (.If c body bodyB pos) (tFS K J ds ds2 (sIf c1 m1 m2)):=⟨Jp hc.h ha.h hb.h⟩
def bb {x:Str} {pos':Pos} (hN:X.N.Nodup) (hi:X.N[i]?=some x) (hx:Loc X.env.scope x) (he:QE X e (tF K false ds ds1 d f)) (hds:ds1.set i d=ds') (hl:i < ds1.length) (hk:i ∉ J.lk) (hs:swapsWith e (some (.Name x pos')) pos.line X.env=pure false) (hf:X.fn x=true\/X.env.scope.names.lookup x=some .local):QS X (.Assign [.Name x pos'] e pos) (tFS K J ds ds' (al i f)):=⟨Fc hN hi hx he.h hds hl hk hs hf⟩
def eB {x:Str} {spos pos':Pos} {elt:Expr} {ifs:List Expr} {scope:Scope} {ns:List Str} {js:List (Option Nat)} {cd:Nat} (hN:X.N.Nodup) (hi':X.N[i]?=some x) (hx:X.env.scope.names.lookup x=some .local) (B:BlkOkC X scope ns js) (hc:X.calm=true) (hi:QI X tg iter (tFI K false ds ds1 fi)) (hg:∀ C cl s₀ H₀ fp,QG (aO X scope ns C cl s₀ H₀ fp) tg (tFG K lk dsi dsi g)) (ht:∀ C cl s₀ H₀ fp,QTs (aO X scope ns C cl s₀ H₀ fp) ifs (tFT K q dsi dsi c1)) (he:∀ C cl s₀ H₀ fp,QE (aO X scope ns C cl s₀ H₀ fp) elt (tF K q dsi dsi cd f)) (hds:ds1.set i d=ds') (hcap:gD ds1 js dsi=true) (hd:dn d=cd) (hz:d≠0) (hlk:lk=gC js 0) (hl:i < ds1.length) (hk:i ∉ J.lk) (hsw:swapsWith (.ListComp elt [⟨tg,iter,ifs,0⟩] scope pos) (some (.Name x pos')) spos.line X.env=pure true) (hs:∀ x,foldedSetIterable iter X.env x=pure x):QS X (.Assign [.Name x pos'] (.ListComp elt [⟨tg,iter,ifs,0⟩] scope pos) spos) (tFS K J ds ds' (al i (eLC q fi g c1 f js))):=⟨vV hN hi' hx B hc hi.h (fun C cl s₀ H₀ fp=>(hg C cl s₀ H₀ fp).h) (fun C cl s₀ H₀ fp=>(ht C cl s₀ H₀ fp).h) (fun C cl s₀ H₀ fp=>(he C cl s₀ H₀ fp).h) hds hcap hd hz hlk hl hk hsw hs⟩
def ut {c:Nat} {x:Str} {spos:Pos} {k:Expr} (hN:X.N[i]?=some x) (hv:Vis X.env.scope x) (he:QE X e (tF K false ds ds1 c fe)) (hk:QE X k (tF K false ds1 ds2 d2 fk)) (h1:ds2[i]?=some d) (hz:d≠0) (hc:dn d=c) (hdb:(x == ("__debug__" : Str))=false) (hcd:(x == ("__classdict__" : Str))=false) (ha:∀ v,assign (.Subscript (.Name x px) k spos) X.env v=(do
   let ov <- holding [v] (eval (.Name x px) X.env);let iv <- holding [v,ov] (eval k X.env)
   standAt spos
   holding [v,ov,iv] (setItem ov iv v)
   release [v,ov,iv] [])) (hs:swapsWithSole [.Subscript (.Name x px) k spos] e pos.line X.env=pure false) (hw:swappedStores [.Subscript (.Name x px) k spos] e X.env=pure none) (h2:(assignEach [.Subscript (.Name x px) k spos] X.env).map (·.2)=[assign (.Subscript (.Name x px) k spos) X.env]):QS X (.Assign [.Subscript (.Name x px) k spos] e pos) (tFS K J ds ds2 (fu i fk fe)):=⟨xC hN hv he.h hk.h h1 hz hc hdb hcd ha hs hw h2⟩
def au {x:Str} (hN:X.N.Nodup) (hi:X.N[i]?=some x) (hx:Loc X.env.scope x) (hds:ds.set i 0=ds') (hl:i < ds.length) (hk:i ∉ lk) (hf:X.fn x=true\/X.env.scope.names.lookup x=some .local):QG X (.Name x pos) (tFG K lk ds ds' (gN i)):=⟨xJ hN hi hx hds hl hk hf⟩
def jJ  : QGs X [] (gx K lk ds ds gs0):=⟨xH⟩
def du (h1:QG X e (tFG K lk ds ds1 g)) (h2:QGs X es (gx K lk ds1 ds2 gs)) (hs:(assignEach (e :: es) X.env).map (·.2)=assign e X.env :: (assignEach es X.env).map (·.2)):QGs X (e :: es) (gx K lk ds ds2 (gsC g gs)):=⟨v5 h1.h h2.h hs⟩
def kF {k n:Nat} (hK:X.K=K) (hc:X.calm=true) (h:QGs X es (gx K lk ds ds1 gs)) (hl:∀ ts en,(∃ en',gs ts en=some en')->ts.length=n) (hn:(assignEach es X.env).length=n) (hst:(assignEach es X.env).findIdx? (·.1)=none):QG X (.Tuple es k pos) (tFG K lk ds ds1 (gT gs)):=⟨Fv hK hc h.h hl hn hst⟩
def bZ (hc:X.calm=true) (hi:QI X tg iter (tFI K false ds ds1 fi)) (hg:QG X tg (tFG K J.lk ds1 ds2 g)) (hb:QSs X body (tFS K { J with dsl:=ds1 } ds2 ds1 m)) (hp:PassesOwn (model X.prog X.w) X.A X.env X.xe) (hs:∀ x,foldedSetIterable iter X.env x=pure x):QS X (.For tg iter body [] pos) (tFS K J ds ds1 (cF fi g m)):=⟨Fe hc hi.h hg.h hb.h hp hs⟩
def eA (hc:QT X c (tFT K false ds ds1 c1)) (hb:QSs X body (tFS K { J with dsl:=ds } ds1 ds m)) (hp:PassesOwn (model X.prog X.w) X.A X.env X.xe):QS X (.While c body [] pos) (tFS K J ds ds1 (bt c1 m)):=⟨vU hc.h hb.h hp⟩
end
section
variable {X:Cx} {K:PySem.W.Frag} {p:Bool} {ds ds1:List Nat} {d:Nat} {e tg l:Expr} {f:ME} {fa:MA} {sh:Sh}
def aU (hK:X.K=K) (hl:QE X l (tF K p ds ds1 d f)):QI X tg l (tFI K p ds ds1 (be f)):=⟨Jv hK hl.h⟩
def fj {a:Expr} {px pos:Pos} (hg:Gl X "range") (hm:X.mg "range"=none) (ha:QA X [a] (tFA K p ds ds1 sh fa)) (hs:aF a=true):QI X tg (.Call (.Name "range" px) [a] [] pos) (tFI K p ds ds1 (bG fa)):=⟨Fs hg hm ha.h hs⟩
def kE {px pos:Pos} {elts:List Expr} {k:Nat} {tp:Pos} (hK:X.K=K) (hg:Gl X "enumerate") (hm:X.mg "enumerate"=none) (ha:QA X [l] (tFA K p ds ds1 sh fa)) (hs:starEach [l] X.env=[(false,eval l X.env)]):QI X (.Tuple elts k tp) (.Call (.Name "enumerate" px) [l] [] pos) (tFI K p ds ds1 (fC fa)):=⟨Ft hK hg hm ha.h hs⟩
end
section
variable {X:Cx} {K:PySem.W.Frag} {p:Bool} {ds ds1:List Nat} {d1:Nat} {e:Expr} {f:ME}
def mn {T:Str} {n:String} {px pt pos:Pos} (hK:X.K=K) (hg:Gl X "isinstance") (hm:X.mg "isinstance"=none) (hgT:Gl X T) (hmT:X.mg T=none) (hbT:bootBuiltins T=some (.type n)) (hT:n∈["int", "bool", "str", "list", "tuple", "dict"]) (he:QE X e (tF K p ds ds1 d1 f)) (hnT:T≠"__name__") (hdT:(T == ("__debug__" : Str))=false) (hs1:starEach [e,.Name T pt] X.env=(false,eval e X.env) :: starEach [.Name T pt] X.env) (hs2:starEach [.Name T pt] X.env=(false,eval (.Name T pt) X.env) :: starEach [] X.env) (hpl:(backTo pos (starEach [.Name T pt] X.env)).any (·.1)=false):QE X (.Call (.Name "isinstance" px) [e,.Name T pt] [] pos) (tF K p ds ds1 3 (e1 (ay n) f)):=⟨JH hK hg hm hgT hmT hbT hT he.h hnT hdT hs1 hs2 hpl⟩
end
section
variable {X:Cx} {K:PySem.W.Frag} {p:Bool} {J:Jd} {ds ds0 ds1 ds2 ds3 ds':List Nat} {d d' d1 d2 d3:Nat} {a b c e:Expr} {st:Stmt} {f f1 f2 f3:ME} {m:MS} {pos p2:Pos}
def gu (h:QS X st (tFS K J ds ds2 m)) (hd:leD ds1 ds2=true):QS X st (tFS K J ds ds1 m):=⟨Fb h.h hd⟩
def fg  : QO X none (tFO K p ds ds gJ):=⟨Fk⟩
def ff (h:QE X e (tF K p ds ds1 d f)):QO X (some e) (tFO K p ds ds1 (gf f)):=⟨Fj h.h⟩
variable {lo hi:MO}
def dP {g:D->Option Int->Option Int->Option D} {elo ehi:Option Expr} (hr:SlR X (rFs K g d)) (he:QE X e (tF K p ds ds1 d1 f)) (hl:QO X elo (tFO K p ds1 ds2 lo)) (hu:QO X ehi (tFO K p ds2 ds3 hi)):QE X (.Subscript e (.Slice elo ehi none p2) pos) (tF K p ds ds3 d (eSl g f lo hi)):=⟨xK hr he.h hl.h hu.h⟩
end
section
variable {X:Cx} {K:PySem.W.Frag} {p:Bool} {J:Jd} {ds ds0 ds1 ds2 ds':List Nat} {d d' d1 d2:Nat} {a b c e o k:Expr} {f f1 f2 fk fe:ME} {pos px spos:Pos} {i:Nat} {σ:St} {H:Hp} {Q:VK} {Dn:Ends}
def pb  : QE X (.Dict [] [] pos) (tF K p ds ds 3 lq):=⟨FB⟩
def fE {x:Str} (hu:X.A.units+1 < cLine) (hN:X.N[i]?=some x) (hv:Vis X.env.scope x) (h1:ds1[i]?=some 1) (hi:QE X k (tF K p ds ds1 d1 f)) (hs:uJ k) (hd:(x == ("__debug__" : Str))=false) (hcd:(x == ("__classdict__" : Str))=false):QE X (.Subscript (.Name x px) k pos) (tF K p ds ds1 0 (bH i f)):=⟨xR hu hN hv h1 hi.h hs hd hcd⟩
def jH {x:Str} (hu:X.A.units+1 < cLine) (hN:X.N[i]?=some x) (hv:Vis X.env.scope x) (he:QE X e (tF K false ds ds1 0 fe)) (hk:QE X k (tF K false ds1 ds2 d2 fk)) (h1:ds2[i]?=some 1) (hdb:(x == ("__debug__" : Str))=false) (hcd:(x == ("__classdict__" : Str))=false) (hs:swapsWith e (some (.Subscript (.Name x px) k spos)) pos.line X.env=pure false):QS X (.Assign [.Subscript (.Name x px) k spos] e pos) (tFS K J ds ds2 (dE i fk fe)):=⟨xD hu hN hv he.h hk.h h1 hdb hcd hs⟩
end
section
variable {X:Cx} {K:PySem.W.Frag} {p:Bool} {J:Jd} {ds ds0 ds1 ds2 ds':List Nat} {d d' d1 d2:Nat} {a b c e o k:Expr} {es:List Expr} {f f1 f2 fk fe:ME} {fa:MA} {sh:Sh} {pos px spos:Pos} {i j:Nat} {σ:St} {H:Hp} {Q:VK} {Dn:Ends}
def v6 {keys:List (Option Expr)} {values:List Expr} {fs:List (ME × ME)} (h:QPs X pos keys values (trs K p ds fs)) (hall:keys.all (·.isSome)=true) (hl:keys.length=values.length) (h0:keys≠[]) (h15:keys.length<=15):QE X (.Dict keys values pos) (tF K p ds ds 1 (lr fs)):=⟨FC h.h hall hl h0 h15⟩
def xE  : QPs X pos [] [] (trs K p ds []):=⟨Jq⟩
def kA {k v:Expr} {ks:List (Option Expr)} {vs:List Expr} {fk fv:ME} {fs:List (ME × ME)} (hk:QE X k (tF K p ds ds 3 fk)) (hv:QE X v (tF K p ds ds 0 fv)) (hr:QPs X pos ks vs (trs K p ds fs)):QPs X pos (some k :: ks) (v :: vs) (trs K p ds ((fk,fv) :: fs)):=⟨Fh hk.h hv.h hr.h⟩
end
section
variable {X:Cx} {K:PySem.W.Frag} {p:Bool} {ds ds1:List Nat} {O:AS} {H:Hp} {σ:St} {d:Nat} {f:ME} {i:Nat} {e:Expr} {Q:VK}
end
section
variable {X:Cx} {K:PySem.W.Frag} {p:Bool} {ds ds1:List Nat} {d:Nat} {fa:MA} {sh:Sh} {O O1:AS} {H0 H:Hp} {ts us:List D} {vs ws:List V} {a b:Addr}
end
section
variable {X:Cx} {K:PySem.W.Frag} {p:Bool} {ds ds1:List Nat} {d1:Nat} {e:Expr} {f:ME}
end
section
variable {X:Cx} {K:PySem.W.Frag} {p p1 p2:Bool} {ds ds1 ds2:List Nat} {d d1:Nat} {e:Expr} {f:ME} {fa:MA} {sh:Sh} {σ:St} {H:Hp} {Q:VK}
def cN {o:Expr} {es:List Expr} {name:Str} {id:String} {apos cpos:Pos} {r:V->List V->Hp->VK->Prop} {g:Str->List D->Option D} (hK:X.K=K) (slot:Slot "str" name id) (hty:typeOf (.builtin id)=pure (.type "method_descriptor")) (hm:MtR X id r) (hr:MtF K r g) (ho:QE X o (tF K p ds ds1 d1 f)) (ha:QA X (e :: es) (tFA K p ds1 ds2 sh fa)) (hsh:bT 0 sh=true) (hbase:attributeBase o name X.env (eval o X.env)=eval o X.env) (hfew:((backTo cpos (starEach (e :: es) X.env)).all (fun x=>!x.1) && (backToKw cpos (keywordEach [] X.env)).all (fun x=>x.1.isSome)
   && decide ((e :: es).length+([]:List Keyword).length+(if ([]:List Keyword).isEmpty then 0 else 1) < 30))=true) (hline:(apos.endLine == cpos.line)=true) (hs:starEach (e :: es) X.env=(false,eval e X.env) :: starEach es X.env) (hplain:(backTo cpos (starEach es X.env)).any (·.1)=false):QE X (.Call (.Attribute o name apos) (e :: es) [] cpos) (tF K p ds ds2 3 (eM g f fa)):=⟨Fx hK slot hty hm hr ho.h ha.h hsh hbase hfew hline hs hplain⟩
end
section
variable {X:Cx} {K:PySem.W.Frag} {p p1 p2:Bool} {J:Jd} {ds ds1 ds2:List Nat} {H:Hp} {σ:St} {d d1 d2 i m:Nat} {f fk fe:ME} {mp:MP} {e b o:Expr} {Q:VK}
end
section
variable {X:Cx} {K:PySem.W.Frag} {p p1 p2:Bool} {ds ds1 ds2:List Nat} {d d1 d2:Nat} {e k:Expr} {f f1 f2:ME} {fa:MA} {sh:Sh} {σ:St} {H:Hp} {Q Q':VK} {pos pos2 px py:Pos}
end
section
variable {X:Cx} {K:PySem.W.Frag} {p p1 p2:Bool} {ds ds1 ds2:List Nat} {d d1 d2:Nat} {a b:Expr} {f f1 f2:ME} {σ:St} {H:Hp} {Q Q':VK} {pos:Pos} {ta tb:TE} {rest:List Expr}
end
section
variable {X:Cx} {K:PySem.W.Frag} {p p1 p2:Bool} {ds ds1 ds2:List Nat} {d d1 d2:Nat} {a b:Expr} {f f1 f2:ME} {σ:St} {H:Hp} {Q Q':VK} {pos:Pos}
end
section
variable {X:Cx} {K:PySem.W.Frag} {p p1 p2:Bool} {ds ds1 ds2:List Nat} {d d1 d2:Nat} {e:Expr} {f f1 f2:ME} {σ:St} {H:Hp} {Q Q':VK}
end
section
variable {X:Cx} {K:PySem.W.Frag} {p:Bool} {ds ds1 ds2:List Nat} {d d1 d2:Nat} {e:Expr} {f f1 f2:ME} {σ:St} {H:Hp} {Q Q':VK}
end
section
variable {X:Cx} {K:PySem.W.Frag} {p p1 p2:Bool} {ds ds1 ds2:List Nat} {d d1 d2:Nat} {e k:Expr} {f f1 f2:ME} {fa:MA} {sh:Sh} {σ:St} {H:Hp} {Q Q':VK} {pos pos2 px py:Pos}
end
section
variable {X:Cx} {K:PySem.W.Frag} {p p1 p2:Bool} {ds ds1 ds2:List Nat} {d d1 d2:Nat} {e:Expr} {f f1 f2:ME} {σ:St} {H:Hp} {Q Q':VK} {i:Nat}
end
section
variable {X:Cx} {K:PySem.W.Frag} {p p1 p2 q:Bool} {J:Jd} {ds ds0 ds1 ds2 ds' dsi dps:List Nat} {d d' d1 d2 dr:Nat} {a b c e tg iter:Expr} {es:List Expr} {st:Stmt} {rest body bodyB:List Stmt} {f f1 f2 fk fe:ME} {c1 c2:MT} {fa:MA} {sh:Sh} {pos px:Pos} {i:Nat} {x:Str} {m m1 m2:MS} {g:MG} {gs:List D->En->Option En} {fi:MI} {lk:List Nat}
end
section
variable {X:Cx} {K:PySem.W.Frag} {p:Bool} {ds ds1:List Nat} {d:Nat} {fa:MA} {sh:Sh} {O O1:AS} {H0 H:Hp} {ts us:List D} {vs ws:List V} {a b:Addr}
end
section
variable {X:Cx} {K:PySem.W.Frag} {J:Jd} {lk ds ds0 ds1 ds2 ds':List Nat} {e tg:Expr} {es:List Expr} {f:ME} {pos px:Pos} {i:Nat} {g:MG} {gs:List D->En->Option En}
end
section
variable {X:Cx} {K:PySem.W.Frag} {p:Bool} {ds:List Nat} {k v:Expr} {fk fv:ME} {pos:Pos} {σ:St} {H:Hp} {Q:VK} {O:AS}
end
def Fun.okQ {P:Program} {w:World} {K:PySem.W.Frag} {mg:Str->Option Value} {base:Heap} {x qual:Str} {st:Stmt} {f:Addr} {fd:FuncData} {N ps:List Str} {k n dr:Nat} {dps ds0:List Nat} {J:Jd} {b:MS}
  (F:Fun K x qual st f fd) (S:FnScope N ps (aj st)) (hl:dps.length=ps.length) (hn:N.length - dps.length=n) (hJ:J=⟨qC dps,dps++List.replicate n 0,dr,[]⟩) (hd:ds0=dps++List.replicate n 0)
  (hb:∀ (cdv:Value) (A:Around) (outer:List Env) (s:Shared) (H:Hp) (E:XK),Room k (A.deeper (envOfC qual (aj st) s.heap.objs.size f cdv)) ->
   QSs (ie CX0 P w K mg base N qual (aj st) f cdv A outer s H E).nox (cx st) (tFS K J ds0 ds0 b)):FnOk P w K mg base CX0 (k+1) f fd ps (spF K dps dr (fnF n dps b)):=by
 subst hJ hd;exact F.ok S (fun vs H Q E h=>ss hl h) fun cdv A outer s H vs Q E hr h=>⟨_,(hb cdv A outer s H E hr).h,Fp hn h⟩
def IM (F:List D->Option (D × En)):Prop:=∀ ns:List Int,ns.length<=63->∃ outs,F [.list (ns.map .int)]=some (.bool true,outs)
def mQ (K:PySem.W.Frag):Sp:=fun vs H Q _=>∃ (a:Addr) (ns:List Int),vs=[.ref a]/\SqL K H a (ns.map V.int)/\(∀ b,H b=none\/∃ o xs,H b=some (.frz o (.lst xs)))/\ns.length<=63/\∀ H':Hp,Q (.bl true) H'
def lJ {K:PySem.W.Frag} {O:AS} {H:Hp}:∀ ns:List Int,Ows K O H (ns.map .int) 0 (ns.map V.int) NoA
 | []=>rfl
 | n :: r=>⟨.int n,r.map V.int,NoA,NoA,rfl,fun _ z=>z,fun _ z=>z,fun _ z=>z.elim,rfl,lJ r⟩
def IL {K:PySem.W.Frag} {dr:Nat} {F:List D->Option (D × En)} (h:IM F) {vs:List V} {H:Hp} {Q:VK} {E:XK} (q:mQ K vs H Q E):spF K [0] dr F vs H Q E:=by
 obtain ⟨a,ns,rfl,hs,_,hl,q⟩:=q;obtain ⟨outs,e⟩:=h ns hl;have fz:FzL K (fun _=>False) H a (ns.map V.int):=by
  rcases hs with hs | hs
  ·exact .inl ⟨hs,fun z=>z⟩
  ·exact .inr fun H'=>.inr hs
 have eO:Own (fun _=>NoA) NoA=(fun _=>False):=fG fun b=>⟨fun z=>z.elim (fun ⟨_,z⟩=>z) fun z=>z,fun z=>z.elim⟩;refine ⟨NoA,[.list (ns.map .int)],fun _=>NoA,.bool true,outs,⟨fun i t hi=>?_,fun _ _ _ z=>z.elim,fun _ _ z=>z.elim,fun b z=>?_,rfl,rfl⟩,e,fun v H' R' Fr _ o=>?_⟩
 ·cases i with
  | zero =>
   have:t=.list (ns.map .int):=by
    have h2:some (some (PyData.list (ns.map .int)))=some (some t):=hi;injection h2 with h3
    injection h3 with h4
    exact h4.symm
   subst this;refine ⟨.ref a,0,rfl,rfl,?_⟩;rw [eO];exact ⟨a,ns.map V.int,rfl,.inl ⟨rfl,fz,lJ ns⟩⟩
  | succ i=>simp at hi
 ·rw [eO] at z;exact z.elim
 ·rw [show v=.bl true from o];exact q H'
inductive All2 (r:D->D->Prop):List D->List D->Prop
 | nil:All2 r [] []
 | cons {a b:D} {as bs:List D} (h:r a b) (t:All2 r as bs):All2 r (a :: as) (b :: bs)
section
variable {c:MT} {b:MS} {en en1 en2:En} {fl:Fl} {t:D}
def jv:∀ {n m:Nat} {en:En} {fl:Fl},whN c b n en=some fl->n<=m->whN c b m en=some fl
 | 0,_,_,_,h,_=>by cases h
 | n+1,0,_,_,_,h=>by omega
 | n+1,m+1,en,fl,h,hm=>by
  unfold whN at h ⊢;obtain ⟨r,h1,h⟩:=zaa.mp h;rw [h1];show (if r.1=true then _ else _)=_;by_cases hr:r.1=true
  ·rw [if_pos hr] at h ⊢;obtain ⟨f1,h2,h⟩:=zaa.mp h;rw [h2];cases f1 with
   | nx e=>exact jv (n:=n) (m:=m) h (by omega)
   | ct e=>exact jv (n:=n) (m:=m) h (by omega)
   | rt t e=>exact h
  ·rw [if_neg hr] at h ⊢;exact h
def iw {n:Nat} (h:whN c b n en=some fl):bt c b en=some fl:=by
 have q:∃ n fl,whN c b n en=some fl:=⟨n,fl,h⟩;unfold bt;rw [dif_pos q];have h2:=q.choose_spec.choose_spec;have h3:=jv h (Nat.le_max_left n q.choose);have h4:=jv h2 (Nat.le_max_right n q.choose);rw [h3] at h4;exact h4.symm
def lF (h:c en=some (false,en1)):bt c b en=some (.nx en1):=by
 refine iw (n:=1) ?_;unfold whN;rw [h];rfl
def lG (h:c en=some (true,en1)) (h1:b en1=some (.nx en2)) (h2:bt c b en2=some fl):bt c b en=some fl:=by
 obtain ⟨n,h3⟩:=iL h2;refine iw (n:=n+1) ?_;unfold whN;rw [h];show (b en1).bind _=_;rw [h1];exact h3
def sK {g:MG} {c:MT} {f:ME} (I:Nat->En->Prop) (r:D->D->Prop) {N:Nat} (hs:∀ n t en,n < N->I n en->∃ en1 en2 q en3,g t en=some en1/\c en1=some (true,en2)/\f en2=some (q,en3)/\I (n+1) en3/\r t q) :
  ∀ (ts acc:List D) (n:Nat) (en:En),I n en->n+ts.length<=N->acc.length+ts.length<=sizeLine->∃ us en',lcF g c f ts acc en=some (acc++us,en')/\I (n+ts.length) en'/\All2 r ts us
 | [],acc,n,en,hi,_,_=>⟨[],en,by rw [List.append_nil]; rfl,hi,.nil⟩
 | t :: ts,acc,n,en,hi,hN,hl=>by
  have hN':n+(ts.length+1)<=N:=hN;obtain ⟨en1,en2,q,en3,h1,h2,h3,h4,h5⟩:=hs n t en (by omega) hi;have hl':acc.length+(ts.length+1)<=sizeLine:=hl;obtain ⟨us,en',h6,h7,h8⟩:=sK I r hs ts (acc++[q]) (n+1) en3 h4 (by omega) (by rw [zae]; show acc.length+1+_<=_; omega);refine ⟨q :: us,en',?_,by rw [show n+(t :: ts).length=n+1+ts.length by show n+(ts.length+1)=_; omega]; exact h7,.cons h5 h8⟩;unfold lcF;rw [h1];show (c en1).bind _=_;rw [h2];show (f en2).bind _=_;rw [h3];show (if acc.length < sizeLine then _ else _)=_;rw [if_pos (by omega),h6];simp
def All2.ex {α:Type} {h:α->D} {Q:α->Prop}:∀ {ts us:List D},All2 (fun _ q=>∃ o,q=h o/\Q o) ts us->∃ os:List α,us=os.map h/\os.length=ts.length/\∀ o∈os,Q o
 | _,_,.nil=>⟨[],rfl,rfl,fun _ z=>by cases z⟩
 | _,_,.cons ⟨o,e,q⟩ t=>by
  obtain ⟨os,e1,e2,e3⟩:=All2.ex t;refine ⟨o :: os,by rw [e,e1]; rfl,by show os.length+1=_+1; rw [e2],fun x hx=>?_⟩;rcases zay.mp hx with rfl | hx
  ·exact q
  ·exact e3 x hx
def fy {c:MT} {f:ME} {p:D->Bool} {F:D->D} {rest:En}:∀ (ts acc:List D) (o:Option D),(∀ t∈ts,c (some t :: rest)=some (p t,some t :: rest))->(∀ t∈ts,p t=true->f (some t :: rest)=some (F t,some t :: rest))->acc.length+ts.length<=sizeLine ->
  ∃ o',lcF (gN 0) c f ts acc (o :: rest)=some (acc++(ts.filter p).map F,o' :: rest)
 | [],acc,o,_,_,_=>⟨o,by simp [lcF]⟩
 | t :: ts,acc,o,hc,hf,hl=>by
  have hl':acc.length+(ts.length+1)<=sizeLine:=hl;cases hp:p t with
  | true =>
   obtain ⟨o',h⟩:=fy (c:=c) (f:=f) (p:=p) (F:=F) ts (acc++[F t]) (some t) (fun x hx=>hc x (zaj _ hx)) (fun x hx=>hf x (zaj _ hx)) (by rw [zae]; show acc.length+1+_<=_; omega);refine ⟨o',?_⟩;unfold lcF;show ((c (some t :: rest)).bind _)=_;rw [hc t zaq,hp];show ((f (some t :: rest)).bind _)=_;rw [hf t zaq hp];show (if acc.length < sizeLine then _ else _)=_;rw [if_pos (by omega)]
   dsimp only
   rw [h,List.filter_cons_of_pos hp];simp
  | false =>
   obtain ⟨o',h⟩:=fy (c:=c) (f:=f) (p:=p) (F:=F) ts acc (some t) (fun x hx=>hc x (zaj _ hx)) (fun x hx=>hf x (zaj _ hx)) (by omega);refine ⟨o',?_⟩;unfold lcF;show ((c (some t :: rest)).bind _)=_;rw [hc t zaq,hp];show lcF (gN 0) c f ts acc (some t :: rest)=_;rw [h,List.filter_cons_of_neg (by rw [hp]; decide)]
def la {f:ME} {F:D->D} {rest:En} (ts acc:List D) (o:Option D) (hf:∀ t∈ts,f (some t :: rest)=some (F t,some t :: rest)) (hl:acc.length+ts.length<=sizeLine) :
  ∃ o',lcF (gN 0) cY f ts acc (o :: rest)=some (acc++ts.map F,o' :: rest):=by
 obtain ⟨o',h⟩:=fy (c:=cY) (f:=f) (p:=fun _=>true) (F:=F) ts acc o (fun _ _=>rfl) (fun t ht _=>hf t ht) hl;rw [List.filter_eq_self.mpr (fun _ _=>rfl)] at h;exact ⟨o',h⟩
def xF {g:MG} {b:MS} (I:Nat->En->Prop) {ts:List D} (hs:∀ i t en,ts[i]?=some t->I i en->∃ en1 en2,g t en=some en1/\(b en1=some (.nx en2)\/b en1=some (.ct en2))/\I (i+1) en2) {en:En} (h0:I 0 en) :
  ∃ en',cG g b ts en=some (.nx en')/\I ts.length en':=by
 suffices ∀ (us:List D) (i:Nat) (en:En),ts.drop i=us->i<=ts.length->I i en->∃ en',cG g b us en=some (.nx en')/\I ts.length en' from this ts 0 en rfl (Nat.zero_le _) h0
 intro us
 induction us with
 | nil =>
  intro i en hu hi h;refine ⟨en,rfl,?_⟩
  have:ts.length - i=0:=by rw [<- zaF,hu]; rfl
  rw [show ts.length=i by omega];exact h
 | cons t us ih =>
  intro i en hu hi h;have ht:ts[i]?=some t:=by
   have:(ts.drop i)[0]?=some t:=by rw [hu]; rfl
   rw [List.getElem?_drop] at this;exact this
  obtain ⟨en1,en2,h1,h2,h3⟩:=hs i t en ht h;have hl:i < ts.length:=(zah.mp ht).1;have hd:ts.drop (i+1)=us:=by rw [<- List.drop_drop,hu]; rfl
  obtain ⟨en',h4,h5⟩:=ih (i+1) en2 hd hl h3;refine ⟨en',?_,h5⟩;unfold cG;rw [h1];show (b en1).bind _=_;rcases h2 with h2 | h2
  ·rw [h2]; exact h4
  ·rw [h2]; exact h4
end
section
variable {c c1 c2:MT} {m1 m2 b:MS} {en en1 en2:En} {fl:Fl} {t t1 t2 u:D} {f f1 f2:ME} {g:D->D->Option D} {fa:MA} {i n:Nat} {x y:Bool} {F:List D->Option (D × En)} {as:List (D ⊕ Nat)} {ts:List D} {outs:En} {dps:List Nat}
def aD (h1:m1 en=some (.nx en1)) (h2:m2 en1=some fl):ai m1 m2 en=some fl:=by unfold ai; rw [h1]; exact h2
def jo (h1:m1 en=some (.rt t en1)):ai m1 m2 en=some (.rt t en1):=by unfold ai; rw [h1]; rfl
def fF {b:Bool} (h1:c en=some (b,en1)) (hb:b=true) (h2:m1 en1=some fl):sIf c m1 m2 en=some fl:=by unfold sIf; rw [h1,hb]; exact h2
def kG {b:Bool} (h1:c en=some (b,en1)) (hb:b=false) (h2:m2 en1=some fl):sIf c m1 m2 en=some fl:=by unfold sIf; rw [h1,hb]; exact h2
def ck (h:f en=some (t,en1)) (he:en1.set i (some t)=en2):al i f en=some (.nx en2):=by unfold al; rw [h,<- he]; rfl
def re (h:f en=some (t,en1)):bQ f en=some (.nx en1):=by unfold bQ; rw [h]; rfl
def jN (h:f en=some (t,en1)):aB f en=some (.rt t en1):=by unfold aB; rw [h]; rfl
def a9 (h1:f1 en=some (t1,en1)) (h2:f2 en1=some (t2,en2)) (h:g t1 t2=some u):e2 g f1 f2 en=some (u,en2):=by
 unfold e2;rw [h1];show (f2 en1).bind _=_;rw [h2];show (g t1 t2).map _=_;rw [h];rfl
def rd {b:Bool} (h1:c1 en=some (b,en1)) (hb:b=true):bOr c1 c2 en=some (true,en1):=by unfold bOr; rw [h1,hb]; rfl
def nh {b:Bool} {r:Bool × En} (h1:c1 en=some (b,en1)) (hb:b=false) (h2:c2 en1=some r):bOr c1 c2 en=some r:=by unfold bOr; rw [h1,hb]; exact h2
def sW {b:Bool} {r:Bool × En} (h1:c1 en=some (b,en1)) (hb:b=true) (h2:c2 en1=some r):dJ c1 c2 en=some r:=by unfold dJ; rw [h1,hb]; exact h2
def sX {b:Bool} (h1:c1 en=some (b,en1)) (hb:b=false):dJ c1 c2 en=some (false,en1):=by unfold dJ; rw [h1,hb]; rfl
def iD {b:Bool} (h:f en=some (.bool b,en1)):tV f en=some (b,en1):=by unfold tV; rw [h]; rfl
def gY (h1:fa en=some (as,en1)) (h2:cq as en1=some ts) (h:F ts=some (t,outs)) (hw:wb as outs en1=en2):ak F fa en=some (t,en2):=by
 subst hw;unfold ak;rw [h1];show (cq as en1).bind _=_;rw [h2];show (F ts).map _=_;rw [h];rfl
def mt {g:List D->Option D} (h1:fa en=some (as,en1)) (h2:vals as=some ts) (h:g ts=some t):eN g fa en=some (t,en1):=by
 unfold eN;rw [h1];show (vals as).bind _=_;rw [h2];show (g ts).map _=_;rw [h];rfl
def eJ {r:MA} (h1:f en=some (t,en1)) (h2:r en1=some (as,en2)):ad f r en=some (.inl t :: as,en2):=by
 unfold ad;rw [h1];show (r en1).map _=_;rw [h2];rfl
def ni (h1:fa en=some (as,en1)) (h2:vals as=some ts) (h:ts.length<=sizeLine):bg fa en=some (.list ts,en1):=by
 unfold bg;rw [h1];show (vals as).bind _=_;rw [h2];exact if_pos h
def JU (h1:fa en=some (as,en1)) (h2:vals as=some ts) (h:ts.length<=sizeLine):eX fa en=some (.tuple ts,en1):=by
 unfold eX;rw [h1];show (vals as).bind _=_;rw [h2];exact if_pos h
def rf {us:List D} (h0:en[i]?=some (some (.list ts))) (h1:f en=some (t,en1)) (h2:en1[i]?=some (some (.list us))) (h:us.length < sizeLine) (he:en1.set i (some (.list (us++[t])))=en2):bK i f en=some (.none,en2):=by
 unfold bK;rw [h0];show (f en).bind _=_;rw [h1];show (match (en1[i]?).join with
  | some (.list ts)=>if ts.length < sizeLine then some (PyData.none,en1.set i (some (.list (ts++[t])))) else none
  | _=>none)=_
 rw [h2,<- he];exact if_pos h
def nj {fi:MI} {g:MG} {js:List (Option Nat)} {q:Bool} {us:List D} {ex:En} (h1:fi en=some (ts,en1)) (h2:lcF g c f ts [] (cz js en1)=some (us,ex)) (he:(if q then en1 else wbB js ex en1)=en2):eLC q fi g c f js en=some (.list us,en2):=by
 unfold eLC;rw [h1];show (lcF g c f ts [] (cz js en1)).map _=_;rw [h2,<- he];rfl
def JW {fi:MI} {g:MG} (h1:fi en=some (ts,en1)) (h2:cG g b ts en1=some fl):cF fi g b en=some fl:=by
 unfold cF;rw [h1];exact h2
def aP:100<=sizeLine:=by rw [sizeLine_eq]; decide
def cH (h:b (ts.map some++List.replicate n none)=some (.rt t en)):fnF n dps b ts=some (t,msk dps en):=by
 unfold fnF;rw [h];rfl
end
namespace Pen2
def fq:MS:=(aB (lr [((eC (.str "script")),(ac 0)),((eC (.str "at")),(ac 1)),((eC (.str "left")),(eC (.int 0)))]))
def cA:List D->Option (D × En):=fnF 0 [0,0] fq
def eG:MS:=(ai (al 2 (e2 bv (e2 bJ (e2 aV (e2 aV (e2 bv (ac 0) (eC (.int 2147483629))) (e2 bJ (eC (.int 40503)) (ac 1))) (eC (.int 24691))) (eC (.int 48271))) (eC (.int 2147483647))))
 (ai (al 3 (e2 bv (e2 aV (e2 aV (e2 bJ (ac 2) (ac 2)) (e2 bJ (eC (.int 69621)) (ac 2))) (ac 1)) (eC (.int 2147483629))))
 (aB (e2 cV (e2 bv (e2 aV (e2 aV (e2 bJ (ac 3) (ac 3)) (e2 bJ (eC (.int 16807)) (ac 3))) (e2 bJ (eC (.int 31)) (ac 1))) (eC (.int 1073741789))) (eC (.int 64))))))
def b9:List D->Option (D × En):=fnF 2 [0,0] eG
def gQ:MS:=(ai (al 2 (bH 0 (eC (.str "at"))))
 (ai (al 3 (bH 0 (eC (.str "script"))))
 (ai (sIf (tV (e2 eqD (bH 0 (eC (.str "left"))) (eC (.int 0)))) (ai (dE 0 (eC (.str "at")) (e2 aV (ac 2) (eC (.int 1))))
 (ai (al 4 (eC (.int 0)))
 (ai (sIf (tV (e2 gtI (eN bd (ad (ac 3) ag)) (eC (.int 0)))) (al 4 (e2 ixA (ac 3) (e2 bv (ac 2) (eN bd (ad (ac 3) ag))))) aZ)
 (ai (sIf (bOr (tV (e2 geI (ac 2) (eN bd (ad (ac 3) ag)))) (tV (e2 ltI (eN jP (ad (ac 4) ag)) (e2 ko (eC (.int 10)) (eC (.int 18)))))) (aB (e2 bv (ak b9 (ad (ac 4) (ad (ac 2) ag))) (ac 1))) aZ)
 (dE 0 (eC (.str "left")) (eN jP (ad (ac 4) ag))))))) aZ)
 (ai (al 5 (e2 bv (bH 0 (eC (.str "left"))) (ac 1)))
 (ai (dE 0 (eC (.str "left")) (e2 cV (bH 0 (eC (.str "left"))) (ac 1)))
 (aB (ac 5)))))))
def aq:List D->Option (D × En):=fnF 4 [1,0] gQ
def penD (ns:List Int) (k l:Int):D:=.dict [(.str "script",.list (ns.map .int)),(.str "at",.int k),(.str "left",.int l)]
def qz {c k:Int} (h0:0<=k) (h1:k<=1000000000):∃ r,b9 [.int c,.int k]=some (.int r,[none,none])/\0<=r:=by
 have a0:0<=c % 2147483629:=by omega
 have a1:c % 2147483629 < 2147483629:=by omega
 generalize g1:(c % 2147483629+40503 * k+24691) * 48271 % 2147483647=x;have x0:0<=x:=by omega
 have x1:x < 2147483647:=by omega
 generalize g2:(x * x+69621 * x+k) % 2147483629=y;have y0:0<=y:=by omega
 have y1:y < 2147483629:=by omega
 refine ⟨(y * y+16807 * y+31 * k) % 1073741789 / 64,?_,by omega⟩;have c1:CMul 40503 k:=.inl (by decide);have c2:CMul (c % 2147483629+40503 * k+24691) 48271:=.inr (by decide);have c3:CMul x x:=.inl (by constructor <;> omega);have c4:CMul 69621 x:=.inl (by decide);have c5:CMul y y:=.inl (by constructor <;> omega);have c6:CMul 16807 y:=.inl (by decide);have c7:CMul 31 k:=.inl (by decide);have c8:∀ z,gI z 64:=fun z=>by unfold gI; decide
 simp [b9,fnF,eG,ai,al,aB,e2,ac,eC,bv,bJ,aV,cV,hV,c1,c2,c3,c4,c5,c6,c7,c8,g1,g2,msk]
def take_ok {ns:List Int} {k l m:Int} (h0:0<=k) (h1:k<=1000000000) (h2:0<=l) (h3:0 < m) (h4:m < 1073741824) :
  ∃ r k' l',aq [penD ns k l,.int m]=some (.int r,[some (penD ns k' l'),none])/\0<=r/\r < m/\k<=k'/\k'<=k+1/\0<=l':=by
 have cd:∀ z,gI z m:=fun z=>⟨h3,h4⟩;have cp:j5 10 18:=by unfold j5; decide
 have md:∀ z,bv (.int z) (.int m)=some (.int (z % m)):=fun z=>if_pos h3;have dv:∀ z,cV (.int z) (.int m)=some (.int (z / m)):=fun z=>if_pos (cd z);have last:∀ (k' b:Int) (x y z:Option D),(ai (al 5 (e2 bv (bH 0 (eC (.str "left"))) (ac 1)))
   (ai (dE 0 (eC (.str "left")) (e2 cV (bH 0 (eC (.str "left"))) (ac 1)))
   (aB (ac 5)))) [some (penD ns k' b),some (.int m),x,y,z,none]=some (.rt (.int (b % m)) [some (penD ns k' (b / m)),some (.int m),x,y,z,some (.int (b % m))]):=by
  intro k' b x y z;refine aD (en1:=[some (penD ns k' b),some (.int m),x,y,z,some (.int (b % m))]) (ck (a9 (t1:=.int b) (t2:=.int m) rfl rfl (md b)) rfl) (aD (en1:=[some (penD ns k' (b / m)),some (.int m),x,y,z,some (.int (b % m))]) ?_ rfl);unfold dE;rw [a9 (t1:=.int b) (t2:=.int m) (f1:=bH 0 (eC (.str "left"))) (f2:=ac 1) (g:=cV) (en:=[some (penD ns k' b),some (.int m),x,y,z,some (.int (b % m))]) (en1:=[some (penD ns k' b),some (.int m),x,y,z,some (.int (b % m))]) (en2:=[some (penD ns k' b),some (.int m),x,y,z,some (.int (b % m))]) rfl rfl (dv b)];rfl
 by_cases hl:l=0
 ·subst hl;by_cases hn:ns.length=0
  ·have hns:ns=[]:=List.length_eq_zero_iff.mp hn;subst hns;obtain ⟨r,e,hr⟩:=qz (c:=0) h0 h1;refine ⟨r % m,k+1,0,?_,zbb _ (by omega),zbc _ h3,by omega,by omega,by omega⟩;refine cH (en:=[some (penD [] (k+1) 0),some (.int m),some (.int k),some (.list []),some (.int 0),none]) (aD rfl (aD rfl (jo (fF (b:=true) rfl rfl (aD (en1:=[some (penD [] (k+1) 0),some (.int m),some (.int k),some (.list []),none,none]) rfl (aD rfl (aD rfl (jo (fF (b:=true) (rd (b:=decide ((0:Int)<=k)) rfl (zaB h0)) rfl (jN (a9 (en1:=[some (penD [] (k+1) 0),some (.int m),some (.int k),some (.list []),some (.int 0),none]) (t2:=.int m) (gY (as:=[.inl (.int 0),.inl (.int k)]) (en1:=[some (penD [] (k+1) 0),some (.int m),some (.int k),some (.list []),some (.int 0),none]) rfl rfl e rfl) rfl (md r))))))))))))
  ·obtain ⟨j,ej⟩:∃ j:Nat,ixN ns.length (k % ns.length)=some j/\j < ns.length:=by
    have q1:0<=k % (ns.length:Int):=zbb _ (by omega);have q2:k % (ns.length:Int) < ns.length:=zbc _ (by omega);exact ⟨(k % (ns.length:Int)).toNat,by unfold ixN; rw [if_pos q1,if_pos q2],by omega⟩
   obtain ⟨c,ec⟩:∃ c,ns[j]?=some c:=⟨_,zak ej.2⟩;have at1:ixA (.list (ns.map .int)) (.int (k % ns.length))=some (.int c):=by
    show atI _ _=_;unfold atI;rw [zad,ej.1];show (ns.map PyData.int)[j]?=_;rw [zao,ec];rfl
   have hn1:(0:Int) < ns.length:=by omega
   have len:bd [.list (ns.map .int)]=some (.int ns.length):=by show some (PyData.int (ns.map PyData.int).length)=_; rw [zad]
   have ml:bv (.int k) (.int ns.length)=some (.int (k % ns.length)):=if_pos hn1;obtain ⟨r,e,hr⟩:=qz (c:=c) h0 h1;obtain ⟨b,ab,b0⟩:∃ b,jP [.int c]=some (.int b)/\0<=b:=⟨if c < 0 then -c else c,rfl,by split <;> omega⟩;have pw:ko (.int 10) (.int 18)=some (.int 1000000000000000000):=by
    show (if j5 10 18 then some (PyData.int (10 ^ Int.toNat 18)) else none)=_;rw [if_pos cp]; rfl
   have ln:∀ (x y:Option D) (p:D),(eN bd (ad (ac 3) ag)) [some p,some (.int m),x,some (.list (ns.map .int)),y,none]=some (.int ns.length,[some p,some (.int m),x,some (.list (ns.map .int)),y,none]):=fun x y p=>mt rfl rfl len;have pre:∀ (x y:Option D) {m2:MS} {fl:Fl},m2 [some (penD ns (k+1) 0),some (.int m),some (.int k),some (.list (ns.map .int)),some (.int c),none]=some fl->(ai (dE 0 (eC (.str "at")) (e2 aV (ac 2) (eC (.int 1))))
 (ai (al 4 (eC (.int 0)))
 (ai (sIf (tV (e2 gtI (eN bd (ad (ac 3) ag)) (eC (.int 0)))) (al 4 (e2 ixA (ac 3) (e2 bv (ac 2) (eN bd (ad (ac 3) ag))))) aZ) m2))) [some (penD ns k 0),some (.int m),some (.int k),some (.list (ns.map .int)),none,none]=some fl:=by
    intro x y m2 fl h;refine aD (en1:=[some (penD ns (k+1) 0),some (.int m),some (.int k),some (.list (ns.map .int)),none,none]) rfl (aD (en1:=[some (penD ns (k+1) 0),some (.int m),some (.int k),some (.list (ns.map .int)),some (.int 0),none]) rfl (aD ?_ h));exact fF (iD (a9 (ln _ _ _) rfl rfl)) (zaB hn1) (ck (a9 rfl (a9 rfl (ln _ _ _) ml) at1) rfl)
   by_cases hq:(ns.length:Int)<=k\/b < 1000000000000000000
   ·refine ⟨r % m,k+1,0,?_,zbb _ (by omega),zbc _ h3,by omega,by omega,by omega⟩;refine cH (en:=[some (penD ns (k+1) 0),some (.int m),some (.int k),some (.list (ns.map .int)),some (.int c),none]) (aD rfl (aD rfl (jo (fF (b:=true) rfl rfl (pre none none (jo (fF (en1:=[some (penD ns (k+1) 0),some (.int m),some (.int k),some (.list (ns.map .int)),some (.int c),none]) (b:=true) ?_ rfl (jN (a9 (en1:=[some (penD ns (k+1) 0),some (.int m),some (.int k),some (.list (ns.map .int)),some (.int c),none]) (t2:=.int m) (gY (as:=[.inl (.int c),.inl (.int k)]) (en1:=[some (penD ns (k+1) 0),some (.int m),some (.int k),some (.list (ns.map .int)),some (.int c),none]) rfl rfl e rfl) rfl (md r))))))))));by_cases hq2:(ns.length:Int)<=k
    ·exact rd (iD (a9 rfl (ln _ _ _) rfl)) (zaB hq2)
    ·have hq3:=hq.resolve_left hq2;exact nh (iD (a9 rfl (ln _ _ _) rfl)) (zaA hq2) (iD (a9 (mt rfl rfl ab) (a9 rfl rfl pw) (congrArg (fun q=>some (PyData.bool q)) (zaB hq3))))
   ·have hq1:¬ (ns.length:Int)<=k:=fun z=>hq (.inl z);have hq2:¬ b < 1000000000000000000:=fun z=>hq (.inr z);refine ⟨b % m,k+1,b / m,?_,zbb _ (by omega),zbc _ h3,by omega,by omega,Int.ediv_nonneg b0 (by omega)⟩;refine cH (aD rfl (aD rfl (aD (en1:=[some (penD ns (k+1) b),some (.int m),some (.int k),some (.list (ns.map .int)),some (.int c),none]) (fF (b:=true) rfl rfl (pre none none (aD (kG (nh (iD (a9 rfl (ln _ _ _) rfl)) (zaA hq1) (iD (a9 (mt rfl rfl ab) (a9 rfl rfl pw) rfl))) (zaA hq2) rfl) ?_))) (last _ _ _ _ _))));unfold dE;rw [mt (fa:=ad (ac 4) ag) (en:=[some (penD ns (k+1) 0),some (.int m),some (.int k),some (.list (ns.map .int)),some (.int c),none]) (en1:=[some (penD ns (k+1) 0),some (.int m),some (.int k),some (.list (ns.map .int)),some (.int c),none]) rfl rfl ab];rfl
 ·refine ⟨l % m,k,l / m,?_,zbb _ (by omega),zbc _ h3,Int.le_refl _,by omega,Int.ediv_nonneg h2 (by omega)⟩;exact cH (aD rfl (aD rfl (aD (kG (b:=l == 0) rfl (beq_eq_false_iff_ne.mpr hl) rfl) (last k l _ _ _))))
def fV {ns:List Int} {k l m:Int} {i:Nat} {en:En} {fa:MA} (hp:en[i]?=some (some (penD ns k l))) (hf:fa en=some ([.inr i,.inl (.int m)],en)) (h0:0<=k) (h1:k<=1000000000) (h2:0<=l) (h3:0 < m) (h4:m < 1073741824) :
  ∃ r k' l',ak aq fa en=some (.int r,en.set i (some (penD ns k' l')))/\0<=r/\r < m/\k<=k'/\k'<=k+1/\0<=l':=by
 obtain ⟨r,k',l',e,q⟩:=take_ok (ns:=ns) h0 h1 h2 h3 h4;refine ⟨r,k',l',gY hf (ts:=[penD ns k l,.int m]) ?_ e rfl,q⟩;unfold cq;rw [hp];rfl
end Pen2
end L2
namespace L2
open PySem PySem.Spec PyProof.Rows
def JZ (a b:Int):eqD (.int a) (.int b)=some (.bool (a == b)):=by
 show grd _ _=_;unfold grd;rw [if_pos ⟨rfl,rfl,Nat.zero_le _⟩];simp only [peq]
def IH (a b:Int):neD (.int a) (.int b)=some (.bool (!(a == b))):=by
 show grd _ _=_;unfold grd;rw [if_pos ⟨rfl,rfl,Nat.zero_le _⟩];simp only [peq]
structure Df (K:PySem.W.Frag) (x:Str) (st:Stmt) (f:Addr):Prop where
 a:PySem.W.nsIn K mainGlobals x=some (some (.ref f))
 l:∃ oc od kV dc pm an cd ct sl,K.lookup f=some ⟨oc,od,.func (PySem.W.fnOf x x (dR st) (cx st) (aj st) .none kV dc pm an cd ct),sl⟩/\PySem.W.codeIn K cd x=true
 k:PySem.W.keepIn K (.ref f)=true
section
variable {P:Program} {w:World} {K:PySem.W.Frag} {mg:Str->Option Value} {base h:Heap} {k dr:Nat} {x:Str} {ps:List Str} {dps:List Nat} {f:Addr} {st:Stmt} {sp:Sp}
def Df.mk' {oc:Value} {od an:Option Addr} {sl:Array (Option Value)} {kV dc pm cd ct:Value} (a:PySem.W.nsIn K mainGlobals x=some (some (.ref f))) (l:K.lookup f=some ⟨oc,od,.func (PySem.W.fnOf x x (dR st) (cx st) (aj st) .none kV dc pm an cd ct),sl⟩) (c:PySem.W.codeIn K cd x=true) (k:PySem.W.keepIn K (.ref f)=true):Df K x st f :=
 ⟨a,⟨oc,od,kV,dc,pm,an,cd,ct,sl,l,c⟩,k⟩
def Df.kn (d:Df K x st f) (X:K.In h) (G:h.Ns mainGlobals mg) (b:∀ (kV doc pm:Value) (an:Option Addr) (cdv ct:Value) (us:List Value),us.length=ps.length->bindArgs (PySem.W.fnOf x x (dR st) (cx st) (aj st) .none kV doc pm an cdv ct) ⟨us,[]⟩=pure (ps.zip us))
  (ok:∀ fd,Fun K x x st f fd->FnOk P w K mg base CX0 k f fd ps sp):Kn P w K mg base k x ps sp:=by
 obtain ⟨_,_,_,_,_,_,_,_,_,l,c⟩:=d.l;have F:=qU (st:=st) l c d.k;exact ⟨_,_,ok _ F,zba X G d.a,d.k,F.binds b⟩
end
section
variable {X:Cx} {K:PySem.W.Frag} {p:Bool} {ds ds1 ds2 ds':List Nat} {d d1 d2:Nat} {a b e:Expr} {es:List Expr} {f f1 f2:ME} {fa:MA} {sh:Sh} {pos px:Pos} {x:Str} {J:Jd} {k dr:Nat} {ps:List Str} {dps:List Nat} {F:List D->Option (D × En)} {g:List D->Option D}
abbrev vck (X:Cx) (x:Str) (i:Nat) (n:NameKind):Prop:=(X.N[i]?,X.env.scope.names.lookup x,x == ("__debug__" : Str),x == ("__classdict__" : Str))=(some x,some n,false,false)
def fv (i:Nat) (h:vck X x i .local) (h0:ds[i]?=some 0):QE X (.Name x pos) (tF K p ds ds 0 (ac i)):=by
 simp only [vck,za1] at h;exact cT h.1 (.inl h.2.1) h0 h.2.2.1 h.2.2.2
def fvc (i:Nat) (h:vck X x i .cell) (h0:ds[i]?=some 0):QE X (.Name x pos) (tF K p ds ds 0 (ac i)):=by
 simp only [vck,za1] at h;exact cT h.1 (.inr (.inl h.2.1)) h0 h.2.2.1 h.2.2.2
def fsl (i:Nat) (hr:QA X es (tFA K p ds ds2 sh fa)) (h:vck X x i .local):QA X (.Name x pos :: es) (tFA K p ds ds2 (.inr i :: sh) (aH i fa)):=by
 simp only [vck,za1] at h;exact nc h.1 (.inl h.2.1) hr h.2.2.1 h.2.2.2
def h9 (i:Nat) (hr:QA X es (tFA K p ds ds2 sh fa)) (h:vck X x i .cell):QA X (.Name x pos :: es) (tFA K p ds ds2 (.inr i :: sh) (aH i fa)):=by
 simp only [vck,za1] at h;exact nc h.1 (.inr (.inl h.2.1)) hr h.2.2.1 h.2.2.2
def fs0 (h:QE X e (tF K p ds ds' d f)):QE X e (tF K p ds ds' 0 f):=cU h (Nat.zero_le _)
def frt (he:QE X e (tF K false ds ds1 J.dr f)) (hd:leD J.dsr ds1=true):QSs X [.Return (some e) pos] (tFS K J ds ds' (aB f)):=aw (vW he hd)
abbrev cck (X:Cx) (x:Str) (e:Expr) (es:List Expr):Prop:=(X.env.kindOf x,x == ("__debug__" : Str),aF e,es.all aF)=(some .globalImplicit,false,true,true)
def fnn (G:Kn X.prog X.w X.K X.mg X.base k x ps (spF K dps dr F)) (hr:Room k X.A) (ha:QA X (e :: es) (tFA K p ds ds1 sh fa)) (h:cck X x e es) (h2:(gq sh,cZ ds1 sh dps)=(true,true)):QE X (.Call (.Name x px) (e :: es) [] pos) (tF K p ds ds1 dr (ak F fa)):=by
 simp only [cck,za1] at h h2;exact FA G hr h.1 ha h2.1 h2.2 h.2.1 h.2.2.1 h.2.2.2
def fns (G:Kn X.prog X.w X.K X.mg X.base k x ps (spF K dps dr F)) (hr:Room k X.A) (ha:QA X (e :: es) (tFA K false ds ds1 sh fa)) (h:cck X x e es) (h2:cZ ds1 sh dps=true):QE X (.Call (.Name x px) (e :: es) [] pos) (tF K false ds ds1 dr (ak F fa)):=by
 simp only [cck,za1] at h;exact xQ G hr h.1 ha h2 h.2.1 h.2.2.1 h.2.2.2
def fcb {id:String} (hc:CallR X (.builtin id) (rFn K g d)) (hm:X.mg x=none) (hv:bootBuiltins x=some (.builtin id)) (ha:QA X (e :: es) (tFA K p ds ds1 sh fa)) (h:cck X x e es) (h2:(bT 0 sh,x == ("__name__" : Str))=(true,false)):QE X (.Call (.Name x px) (e :: es) [] pos) (tF K p ds ds1 d (eN g fa)):=by
 simp only [cck,za1] at h h2;exact nb hc h.1 hm hv ha h2.1 (by simpa using h2.2) h.2.1 h.2.2.1 h.2.2.2
def fct {id:String} (hc:CallR X (.type id) (rFn K g d)) (hm:X.mg x=none) (hv:bootBuiltins x=some (.type id)) (ha:QA X (e :: es) (tFA K p ds ds1 sh fa)) (h:cck X x e es) (h2:(bT 0 sh,x == ("__name__" : Str))=(true,false)):QE X (.Call (.Name x px) (e :: es) [] pos) (tF K p ds ds1 d (eN g fa)):=by
 simp only [cck,za1] at h h2;exact rY hc h.1 hm hv ha h2.1 (by simpa using h2.2) h.2.1 h.2.2.1 h.2.2.2
def fln (hK:X.K=K) (hm:X.mg "len"=none) (ha:QA X (e :: es) (tFA K p ds ds1 sh fa)) (h:cck X "len" e es) (h2:bT 0 sh=true):QE X (.Call (.Name "len" px) (e :: es) [] pos) (tF K p ds ds1 3 (eN bd fa)):=by
 simp only [cck,za1] at h;exact nb (Jr hK) h.1 hm (by decide +kernel) ha h2 (by decide) h.2.1 h.2.2.1 h.2.2.2
def fte (hK:X.K=K) (hu:X.A.units+64 < cLine) (ha:QE X a (tF K p ds ds1 d1 f1)) (hb:QE X b (tF K p ds1 ds2 d2 f2)):QT X (.Compare a [.Eq] [b] pos) (tFT K p ds ds2 (tV (e2 eqD f1 f2))):=aJ (pQ hK hu) ha hb (aR _)
def ftn (hK:X.K=K) (hu:X.A.units+64 < cLine) (ha:QE X a (tF K p ds ds1 d1 f1)) (hb:QE X b (tF K p ds1 ds2 d2 f2)):QT X (.Compare a [.NotEq] [b] pos) (tFT K p ds ds2 (tV (e2 neD f1 f2))):=aJ (KA hK hu) ha hb (aR _)
def fxi {n:Int} {j:Nat} {q:Pos} (hK:X.K=K) (ha:QE X a (tF K p ds ds1 d1 f1)):QE X (.Subscript a (.Constant (.int n) j q) pos) (tF K p ds ds1 0 (e2 ixA f1 (eC (.int n)))):=aQ (bO hK) ha ah fun _ _=>rfl
def aI (i:Nat) (ds':List Nat) {pos':Pos} (hN:X.N.Nodup) (he:QE X e (tF K false ds ds1 d f)) (h:(X.N[i]?,X.env.scope.names.lookup x,X.fn x)=(some x,some .local,true)) (h2:(ds1.set i d,decide (i < ds1.length),J.lk.contains i)=(ds',true,false)) (hs:swapsWith e (some (.Name x pos')) pos.line X.env=pure false):QS X (.Assign [.Name x pos'] e pos) (tFS K J ds ds' (al i f)):=by
 simp only [za1,decide_eq_true_eq] at h h2;exact bb hN h.1 (.inl h.2.1) he h2.1 h2.2.1 (by simpa using h2.2.2) hs (.inl h.2.2)
end
structure Fly (h:Heap) (a T C:Addr):Prop where
 x:∃ oe vs a0,h.get? a=some oe/\oe.cls=.ref C/\oe.data=.fields vs/\vs[0]?=some a0/\vs[1]?=some (.ref T)
 t:∃ oT ts,h.get? T=some oT/\oT.data=.fields ts/\ts[3]?=some .none
 ne:T≠a
def CXr (P:Program) (w:World):CXT:=fun outer H s E e s'=>∃ (a T C:Addr) (H':Hp),e=.ref a/\E (.ref C) none H'/\s'.os=s.os/\AllBare s'.gens/\Un (frs outer) [] H H' s.heap s'.heap/\HOk P w H' s'.heap /\
 H' a=none/\H' T=none/\s.heap.get? a=none/\s.heap.get? T=none/\Fly s'.heap a T C
def hZ (h:Heap) (l:List Addr):Heap:=iR h fun b=>if b∈l then some (.own 0) else none
def fR {h:Heap} {l:List Addr} {b:Addr} {o:Obj} (e:h.get? b=some o) (n:b ∉ l):(hZ h l).get? b=some o:=qQ e (if_neg n)
def k9 {h:Heap} {l:List Addr} {b:Addr} {o:Obj} (e:(hZ h l).get? b=some o):h.get? b=some o/\b ∉ l:=by
 obtain ⟨e1,e2⟩:=sC e;refine ⟨e1,fun z=>?_⟩;rw [if_pos z] at e2;cases e2
def cL {h:Heap} {l:List Addr} {b:Addr} (hb:b∈l):(hZ h l).get? b=none:=by
 cases q:(hZ h l).get? b with
 | none=>rfl
 | some o=>exact absurd hb (k9 q).2
def iB {h base base':Heap}:∀ {l:List Env},h.FunFrames base l->(∀ b∈frs l,base'.get? b=none)->h.FunFrames base' l
 | [],_,_=>trivial
 | env :: r,hl,hb=>by
  obtain ⟨hk,⟨L,o,hf,hn,ho,hd⟩,hr⟩:=hl;refine ⟨hk,⟨L,o,hf,hb L ?_,ho,hd⟩,iB hr fun b z=>hb b ?_⟩
  ·unfold frs; rw [List.filterMap_cons,hf]; exact zaq
  ·unfold frs; rw [List.filterMap_cons,hf]; exact zaj _ z
def cM {h base:Heap}:∀ {l:List Env},h.FunFrames base l->∀ b∈frs l,∃ o,h.get? b=some o/\∀ vs,o.data≠.fields vs
 | [],_,b,hb=>by cases hb
 | env :: r,hl,b,hb=>by
  obtain ⟨hk,⟨L,o,hf,hn,ho,hd⟩,hr⟩:=hl;unfold frs at hb;rw [List.filterMap_cons,hf] at hb;rcases zay.mp hb with rfl | hb
  ·exact ⟨o,ho,hd⟩
  ·exact cM hr b hb
def o9 {h h' base:Heap} (k:∀ b o,h.get? b=some o->(∀ vs,o.data≠.fields vs)->∃ sl,h'.get? b=some { o with slots:=sl }):∀ {l:List Env},h.FunFrames base l->h'.FunFrames base l
 | [],_=>trivial
 | env :: r,hl=>by
  obtain ⟨hk,⟨L,o,hf,hn,ho,hd⟩,hr⟩:=hl;obtain ⟨sl,e⟩:=k L o ho hd;exact ⟨hk,⟨L,_,hf,hn,e,hd⟩,o9 k hr⟩
def HOk.tracked {P:Program} {w:World} {H:Hp} {h h':Heap} (x:HOk P w H h) (k:∀ b u,H b≠none->h.get? b=some u->h'.get? b=some u):HOk P w H h':=fun a o e =>
 (x a o e).stay (fun b u hb q=>k b u (by
  rcases hb with rfl | hb
  ·rw [e]; simp
  ·rw [hb]; simp) q) (fun _ q=>q) fun _ _ q=>q
def Un.behind {fs:List Addr} {H H1:Hp} {h h1 h2:Heap} (u:Un fs [] H H1 h h1) (k:∀ b o',h.get? b=some o'->∀ o,h1.get? b=some o->b ∉ fs->h2.get? b=some o)
  (sl:∀ b o',h.get? b=some o'->∀ o,h1.get? b=some o->b∈fs->∃ sl,h2.get? b=some { o with slots:=sl }):Un fs [] H H1 h h2 where
 keep:=fun b o q n hb hx=>k b o q o (u.keep b o q n hb hx) hb
 slot:=fun b o q n hb hx=>by
  obtain ⟨s1,e1⟩:=u.slot b o q n hb hx;obtain ⟨s2,e2⟩:=sl b o q _ e1 hb;exact ⟨s2,e2⟩
 free:=u.free
 there:=fun b o q hx=>by
  obtain ⟨o',e⟩:=u.there b o q hx;by_cases hb:b∈fs
  ·obtain ⟨s2,e2⟩:=sl b o q _ e hb;exact ⟨_,e2⟩
  ·exact ⟨_,k b o q _ e hb⟩
 tups:=u.tups
 frzs:=u.frzs
 tbls:=u.tbls
def ObjOk.get {P:Program} {w:World} {H:Hp} {h:Heap} {a:Addr} {o:HO} (x:ObjOk P w H h a o):∃ ob,h.get? a=some ob:=by
 cases o with
 | lst xs=>obtain ⟨_,_,_,_,e⟩:=x; exact ⟨_,e⟩
 | tup xs=>obtain ⟨_,_,_,o,e,_⟩:=x; exact ⟨_,e⟩
 | dK kvs=>obtain ⟨_,_,_,_,o,_,_,e,_⟩:=x; exact ⟨_,e⟩
 | dT kvs=>obtain ⟨_,_,_,_,o,_,_,e,_⟩:=x; exact ⟨_,e⟩
 | set S n=>obtain ⟨o,_,_,_,e,_⟩:=x; exact ⟨_,e⟩
 | ins C dx fs=>obtain ⟨_,_,_,e,_⟩:=x; exact ⟨_,e⟩
 | own y=>exact x
 | xd fs=>obtain ⟨_,⟨_,_,_,e,_⟩,_⟩:=x; exact ⟨_,e⟩
 | rng lo hi=>obtain ⟨_,_,_,e⟩:=x; exact ⟨_,e⟩
 | frz ob u=>obtain ⟨e,_⟩:=x; exact ⟨_,e⟩
 | tbl ps=>exact ⟨_,(show h.get? a=some _ from x)⟩
 | met f y=>exact ⟨_,(show h.get? a=some _ from x)⟩
 | ext φ=>obtain ⟨_,e,_⟩:=x; exact e
def HOk.none {P:Program} {w:World} {H:Hp} {h:Heap} {a:Addr} (x:HOk P w H h) (e:h.get? a=none):H a=none:=by
 cases q:H a with
 | none=>rfl
 | some o =>
  obtain ⟨ob,z⟩:=(x a o q).get;rw [e] at z;cases z
section
variable {X:Cx} {pins:List (Addr × Obj)} {σ:St} {H:Hp} {s:Shared} {E:XK}
def Inv.frn (I:Inv X pins σ H s) (hx:X.ex=[]):∀ b∈frs X.stack,H b=none:=fun b hb=>by
 rcases zay.mp (I.stkSub b hb) with rfl | hb
 ·exact I.free
 ·obtain ⟨o,ho,_⟩:=cM I.ok.funs b hb;exact I.base.free b o ho (I.ok.frf b hb) (by rw [hx]; simp)
structure Rsx (X:Cx) (E:XK):Prop where
 xe:X.xe=fun e s'=>wpAny (model X.prog X.w) X.A (leaving X.env e) (fun _ s''=>CXr X.prog X.w X.outer X.H₀ X.s₀ E e s'') (fun e' s''=>CXr X.prog X.w X.outer X.H₀ X.s₀ E e' s'') s'
 stk:X.stack=X.env :: X.outer
 fr:X.env.frame=some X.env.locals
 ex:X.ex=[]
 calm:X.calm=true
def qi (R:Rsx X E) (I:Inv X pins σ H s) {h':Heap} {e C:Addr} {args:List Value} (m:s.heap.MadeExcOf h' e (.ref C) args) (hE:E (.ref C) none H) :
  X.xe (.ref e) { heap:=h',gens:=s.gens,drawn:=s.drawn,toks:=s.toks,os:=s.os }:=by
 rw [R.xe];obtain ⟨t,he,ht1,ht2⟩:=m.there;have fs:=I.stack;have fh:h'.FunFrames X.base X.stack:=o9 (fun b o q _=>⟨o.slots,m.keeps b o q⟩) fs;have fB:h'.FunFrames (hZ h' (frs X.stack++[e])) X.stack:=iB fh fun b hb=>cL (List.mem_append_left _ hb);have un:=I.base;rw [R.ex] at un;refine wpAny_leaving_firstW (base:=hZ h' (frs X.stack++[e])) (env:=X.env) (outer:=X.outer) (by rw [<- R.stk]; exact I.ok.frames) (by rw [<- R.stk]; exact fB) R.fr he (fun b o q=>(k9 q).1) (cL (by simp)) rfl rfl rfl fun h2 ⟨stays,f2,⟨oe,vs,T,oT,ts,q1,⟨q2,q3⟩,q4,q5,q6,q7,q8,q9,q10⟩,nonf⟩=>?_;have tn:h'.get? T=none:=by
  cases q:h'.get? T with
  | none=>rfl
  | some o =>
   have hT:T∈frs X.stack++[e]:=Decidable.byContradiction fun hn=>by
    rw [fR q hn] at q6;cases q6
   rcases zax.mp hT with hT | hT
   ·obtain ⟨o2,g1,g2⟩:=cM fh T hT;obtain ⟨sl,g3⟩:=nonf T o2 g1 g2;rw [q8] at g3;cases g3;exact absurd q9 (g2 ts)
   ·exact absurd (by simpa using hT) q7
 have sn:s.heap.get? T=none:=by
  cases q:s.heap.get? T with
  | none=>rfl
  | some o=>rw [m.keeps T o q] at tn; cases tn
 have old:∀ b o,s.heap.get? b=some o->b ∉ frs X.stack->h2.get? b=some o:=fun b o q hb=>stays b o (fR (m.keeps b o q) fun z=>by
  rcases zax.mp z with z | z
  ·exact hb z
  ·have z':b=e:=by simpa using z
   subst z';rw [m.new] at q;cases q)
 have nos:∀ b,s.heap.get? b=none->X.s₀.heap.get? b=none:=fun b q=>by
  cases q2:X.s₀.heap.get? b with
  | none=>rfl
  | some o =>
   obtain ⟨o',z⟩:=un.there b o q2 (by simp);rw [q] at z;cases z
 refine ⟨e,T,C,H,rfl,hE,I.os,I.bare,un.behind (fun b o' q0 o q hb=>old b o q fun z=>?_) (fun b o' q0 o q hb=>?_),I.hok.tracked fun b u hb q=>old b u q fun z=>hb (I.frn R.ex b z),I.hok.none m.new,I.hok.none sn,nos e m.new,nos T sn,⟨⟨oe,vs,_,q1,q2,q4,q3,q5⟩,⟨oT,ts,q8,q9,q10⟩,q7⟩⟩
 ·rcases zay.mp (I.stkSub b z) with rfl | z
  ·exact absurd (zal q0) (Nat.not_lt_of_le I.ok.above)
  ·exact hb z
 ·obtain ⟨o2,g1,g2⟩:=cM fs b (by rw [R.stk]; unfold frs; rw [List.filterMap_cons,R.fr]; exact zaj _ hb);rw [q] at g1;cases g1;exact nonf b o (m.keeps b o q) g2
end
def xX {K:PySem.W.Frag} {C:Addr} {bmB:List Value} {newId:String} (hx:PySem.W.excIn K C bmB newId=true) :
  ∃ nm q N bs bm hdct sn sub ab col dd k0 k1 k2 k3 k5,K.lookup C=some (excClassObj nm q C N bs bm hdct sn sub ab col dd k0 k1 k2 k3 k5 newId)/\PySem.W.tailIn K bmB bm=true/\PySem.W.nsOkIn K N=true/\PySem.W.nsIn K N (Str.ofString "__init__")=some none:=by
 unfold PySem.W.excIn at hx;split at hx
 ·next dict cd sl hl =>
  split at hx
  ·next C' bm h0 h1 h2 h3 n h5 e1 e2 =>
   simp only [Bool.and_eq_true,beq_iff_eq,Bool.not_eq_true'] at hx;obtain ⟨⟨⟨⟨⟨a1,a2⟩,a3⟩,a4⟩,a5⟩,a6⟩:=hx;subst a1 a2;obtain ⟨nm,bases,mro,ns,qn,hd,sn,sub,ab,col,hdel⟩:=cd;simp only at e1 a3 a5 a6;subst e1 a3;have e3:sl=#[h0,h1,h2,h3,some (Value.builtin n),h5]:=Array.toList_inj.mp e2;subst e3;exact ⟨nm,qn,ns,bases,bm,hd,sn,sub,ab,col,dict,h0,h1,h2,h3,h5,hl,a4,a5,a6⟩
  ·cases hx
 ·cases hx
def wH {h:Heap} {bmB bm:List Value} {v:Value} (t:OwnTail h bmB bm) (c:bmB.contains v=true):bm.contains v=true:=by
 induction t with
 | base=>exact c
 | own _ _ _ _ ih =>
  rw [List.contains_cons,ih];simp
section
variable {X:Cx} {E:XK} {C:Addr} {bmB:List Value} {B newId initId:String} {x:Str} {np cpos pos:Pos} {a:Expr} {t:TA}
def HN (E:XK) (C:Addr) (t:TA):TS:=fun _ σ H=>t σ H fun vs H1=>vs.length<=sizeLine/\E (.ref C) none H1
def wQ (R:Rsx X E) (hb:ExcBaseFacts B newId initId bmB) (hx:PySem.W.excIn X.K C bmB newId=true) (hg:Gl X x) (hm:X.mg x=some (.ref C)) (ha:PA X [a] t)
  (hdb:(x == ("__debug__" : Str))=false:=by decide) (hst:starEach [a] X.env=(false,eval a X.env) :: starEach [] X.env:=by rfl) :
  PS X (.Raise (some (.Call (.Name x np) [a] [] cpos)) none pos) (HN E C t):=by
 intro pins s σ H D I h;obtain ⟨nm,q,N,bs,bm,hdct,sn,sub,ab,col,dd,k0,k1,k2,k3,k5,l1,l2,l3,l4⟩:=xX hx;have kb:=I.mod.kin;have tb:=PySem.W.tail_of_in kb l2;refine wpAny_Raise_call_subT (nm:=nm) (q:=q) (C:=C) (N:=N) (bs:=bs) (bm:=bm) (hdct:=hdct) (sn:=sn) (sub:=sub) (ab:=ab) (col:=col) (dd:=dd) (k0:=k0) (k1:=k1) (k2:=k2) (k3:=k3) (k5:=k5) (mN:=X.base.nsMap N) hb (wH tb hb.hasBase) (I.ok.hd R.calm) ?_ (PySem.W.nsMap_none_of_in kb l3 l4) (fP I hg hm ⟨rfl,?_⟩ hdb)
 ·rw [hst]; rfl
 ·refine evalArgs_kw2 (kws:=[]) rfl (thn (ha cpos pins s σ H _ I h) fun us s2 ⟨vs,H2,I2,rv,hl,hE⟩=>?_) hst;refine zaT ⟨rfl,by show us.length<=sizeLine; rw [<- rv.length]; exact hl,I2.kIn C _ l1,(Heap.Ns.of_isNs (PySem.W.isNs_of_in kb l3)).keeps I2.bk,PySem.W.tail_of_in I2.kIn l2,fun h' e m=>qi R I2 m hE⟩
end
section
variable {X:Cx} {pins:List (Addr × Obj)} {σ:St} {H H1 H':Hp} {s s1 s':Shared} {E:XK} {D:Ends}
structure Dfx (X:Cx):Prop where
 stk:X.stack=X.env :: X.outer
 fr:X.env.frame=some X.env.locals
 ex:X.ex=[]
def iS {h h' base:Heap}:∀ {l:List Env},(∀ b∈frs l,∀ o,h.get? b=some o->∃ sl,h'.get? b=some { o with slots:=sl })->h.FunFrames base l->h'.FunFrames base l
 | [],_,_=>trivial
 | env :: r,k,hl=>by
  obtain ⟨hk,⟨L,o,hf,hn,ho,hd⟩,hr⟩:=hl;obtain ⟨sl,e⟩:=k L (by unfold frs; rw [List.filterMap_cons,hf]; exact zaq) o ho;exact ⟨hk,⟨L,_,hf,hn,e,hd⟩,iS (fun b hb=>k b (by unfold frs; rw [List.filterMap_cons,hf]; exact zaj _ hb)) hr⟩
def gM (I:Inv X pins σ H1 s1) (ex:X.ex=[]) (os:s'.os=s1.os) (bare:AllBare s'.gens) (un:Un (frs X.stack) [] H1 H' s1.heap s'.heap) (hok:HOk X.prog X.w H' s'.heap) {a T:Addr} (ha:H' a=none) (hT:H' T=none) (na:s1.heap.get? a=none) (nT:s1.heap.get? T=none)
  {h:Heap} {tk:Nat} (hk:∀ b o,s'.heap.get? b=some o->b ∉ frs X.stack->b≠a->b≠T->h.get? b=some o) (hf:∀ b∈frs X.stack,∀ o,s'.heap.get? b=some o->∃ sl,h.get? b=some { o with slots:=sl }) :
  Inv X pins σ H' { heap:=h,gens:=s'.gens,drawn:=s'.drawn,toks:=tk,os:=s'.os }:=by
 have fn:∀ b∈frs X.stack,H' b=none:=fun b hb=>by
  obtain ⟨o,ho,_⟩:=cM I.stack b hb;exact un.free b o ho (I.frn ex b hb) (by simp)
 have ne:∀ b o,s1.heap.get? b=some o->b≠a/\b≠T:=fun b o q=>⟨fun z=>(by rw [z,na] at q; cases q),fun z=>(by rw [z,nT] at q; cases q)⟩;have u2:Un (frs X.stack) [] H1 H' s1.heap h:=un.behind (fun b o' q0 o q hb=>hk b o q hb (ne b o' q0).1 (ne b o' q0).2) fun b o' q0 o q hb=>hf b hb o q;have ho:HOk X.prog X.w H' h:=hok.tracked fun b u hb q=>hk b u q (fun z=>hb (fn b z)) (fun z=>hb (by rw [z]; exact ha)) fun z=>hb (by rw [z]; exact hT);rw [os];exact I.call (ch:=[]) u2 ho bare fun _ z=>by cases z
abbrev Cx.suite (X:Cx) (v:Value) (xe:Value->Shared->Prop):Cx:={ X with A:=X.A.mark (some v),calm:=false,xe:=xe }
def Inv.suite (I:Inv X pins σ H s) (v:Value) (xe:Value->Shared->Prop):Inv (X.suite v xe) pins σ H s :=
 ⟨⟨I.ok.mod,I.ok.kind,I.ok.glob,I.ok.blt,I.ok.above,I.ok.inj,I.ok.has,I.ok.cab,fun z=>(nomatch z),I.ok.frames,I.ok.stk,I.ok.exf,I.ok.bs,I.ok.bsz,I.ok.noex,I.ok.exfs,I.ok.funs,I.ok.frf⟩,I.os,I.bare,I.base,I.loc,I.cell,I.free,I.freeC,I.pin,I.hok,I.len⟩
def Inv.unsuite {v:Value} {xe:Value->Shared->Prop} (hd:X.calm=true->X.A.handled=none) (I:Inv (X.suite v xe) pins σ H s):Inv X pins σ H s :=
 ⟨⟨I.ok.mod,I.ok.kind,I.ok.glob,I.ok.blt,I.ok.above,I.ok.inj,I.ok.has,I.ok.cab,hd,I.ok.frames,I.ok.stk,I.ok.exf,I.ok.bs,I.ok.bsz,I.ok.noex,I.ok.exfs,I.ok.funs,I.ok.frf⟩,I.os,I.bare,I.base,I.loc,I.cell,I.free,I.freeC,I.pin,I.hok,I.len⟩
end
def Ke (K:PySem.W.Frag) (C C':Addr):Bool:=match K.lookup C with
 | some o=>match o.data with
  | .cls cd=>cd.mro.tail.contains (.ref C')
  | _=>false
 | none=>false
section
variable {X:Cx} {pins:List (Addr × Obj)} {σ:St} {H H1 H':Hp} {s s1 s':Shared} {E:XK} {D:Ends}
end
abbrev MX:=En->Option Unit
structure Reach (H:Hp) (R:Nat->AS) (H':Hp):Prop where
 keep:∀ a o,H a=some o->(∀ i,¬ R i a)->H' a=some o
 dom:∀ a o,H a=some o->∃ o',H' a=some o'
section
variable {X:Cx} {K:PySem.W.Frag} {p:Bool} {J:Jd} {ds ds0 ds1 ds' dps:List Nat} {H H' H'':Hp} {σ σ':St} {Dn:Ends} {R R':Nat->AS} {Ox F:AS} {en en':En} {m:MX} {Z:Hp->Prop} {f:MS} {cm:MT} {st:Stmt} {sts body els:List Stmt} {c:Expr} {pos np cpos p2:Pos} {E:XK}
def Reach.post (P:Post K p ds' Ox σ H en R en' H' R' F) (r:Reach H' R' H''):Reach H R H'' :=
 ⟨fun a o q n=>r.keep a o (P.keep a o q n) fun i z=>(P.own a (.inr ⟨i,z⟩)).elim (fun ⟨j,w⟩=>n j w) fun w=>(by rw [q] at w; cases w),fun a o q=>let ⟨o',q'⟩:=P.dom a o q; r.dom a o' q'⟩
def Reach.postS {lk:List Nat} (P:PostS K lk ds' Ox σ H R σ' en' H' R' F) (r:Reach H' R' H''):Reach H R H'' :=
 ⟨fun a o q n=>r.keep a o (P.keep a o q n) fun i z=>(P.own a (.inr ⟨i,z⟩)).elim (fun ⟨j,w⟩=>n j w) fun w=>(by rw [q] at w; cases w),fun a o q=>let ⟨o',q'⟩:=P.dom a o q; r.dom a o' q'⟩
def PS.nox {t:TS} (h:PS X.nox st t):PS X st t:=fun pins s σ H D I hw =>
 wpAny_mono (h pins s σ H D (I.wish _) hw) (fun _ _ q=>q.unwish) fun _ _ z=>False.elim z
end
section
variable {P:Program} {w:World} {K:PySem.W.Frag} {mg:Str->Option Value} {base:Heap}
def KnX (P:Program) (w:World) (K:PySem.W.Frag) (mg:Str->Option Value) (base:Heap) (k:Nat) (x:Str) (ps:List Str) (sp:Sp):Prop :=
 ∃ f fd,FnOk P w K mg base (CXr P w) k f fd ps sp/\mg x=some (.ref f)/\PySem.W.keepIn K (.ref f)=true/\Binds K fd ps []
def KnX.mono {j k:Nat} {x:Str} {ps:List Str} {sp:Sp} (G:KnX P w K mg base j x ps sp) (h:j<=k):KnX P w K mg base k x ps sp :=
 let ⟨f,fd,a,b,c,d⟩:=G
 ⟨f,fd,a.mono h,b,c,d⟩
def u9 {N:List Str} {qual:Str} {scope:Scope} {f:Addr} {cd:Value} {A:Around} {outer:List Env} {s:Shared} {H:Hp} {E:XK}:Rsx (ie (CXr P w) P w K mg base N qual scope f cd A outer s H E) E:=⟨rfl,rfl,rfl,rfl,rfl⟩
end
section
variable {X:Cx} {K:PySem.W.Frag} {J:Jd} {ds ds1 ds' dps:List Nat} {sh:Sh} {fa:MA} {F:List D->Option (D × En)} {Rz:List D->Option Unit} {C C':Addr} {bmB:List Value} {newId newId':String} {fx x y:Str} {ps:List Str} {e:Expr} {es:List Expr} {xp fp cp ap yp hp np2 xp2 ap2 pos:Pos} {i j k:Nat}
def K0 {pins:List (Addr × Obj)} {σ:St} {H:Hp} {s:Shared} {Q:VK} {E:XK} {sp:Sp} {t:TA} (GX:KnX X.prog X.w X.K X.mg X.base k fx ps sp) (hr:Room k X.A) (hg:Gl X fx) (ha:PA X (e :: es) t) (hdb:(fx == ("__debug__" : Str))=false) (he:aF e=true) (hpl:es.all aF=true)
  (I:Inv X pins σ H s) (h:t σ H fun vs H1=>sp (vs++[]) H1 Q E) (hx:∀ H1 s1 ev s',Inv X pins σ H1 s1->CXr X.prog X.w X.stack H1 s1 E ev s'->X.xe ev s') :
  wpAny (model X.prog X.w) X.A (eval (.Call (.Name fx fp) (e :: es) [] cp) X.env) (EP X pins σ Q) X.xe s:=by
 obtain ⟨f,fd,Ff,hm,hk,hb⟩:=GX;refine wpAny_Call_Name_kw (fP I hg hm ?_ hdb);refine PySem.W.callWith_K (h₀:=X.base) I.ok.mod.kin hk (thn (ha cp pins s σ H _ I h) fun us s1 ⟨vs,H1,I1,r,q⟩=>⟨I1.kIn,?_⟩) (a7 he) (cQ hpl);have r2:Vals (vs++[]) (us++[]):=r.append .nil;have hl:(us++[]).length=ps.length:=by rw [<- r2.length]; exact Ff.len _ _ _ _ q
 refine wpAny_call (codeAny_mono (Ff.run X.A X.stack s1 H1 ⟨us,[]⟩ (us++[]) (vs++[]) Q E hr I1.env0 (hb s1 us I1.kIn hl) r2 q) fun r s' hq=>?_);cases r with
 | error ev=>exact hx H1 s1 ev s' I1 hq
 | ok fl =>
  cases fl with
  | ret u=>exact I1.after hq
  | next=>exact False.elim hq
  | brk=>exact False.elim hq
  | cont=>exact False.elim hq
def pX (X:Cx) (pins:List (Addr × Obj)) (Dn:Ends) (hs:List ExceptHandler):Value->Shared->Prop:=fun ev s' =>
 wpAny (model X.prog X.w) X.A (noteFrame ev X.env) (fun _ s2=>wpAny (model X.prog X.w) X.A (setFlight ev none) (fun _ s3=>wpAny (model X.prog X.w) X.A (handleBy ev X.env hs) (SP X pins Dn) X.xe s3) X.xe s2) X.xe s'
end
def vE:List Value:=[.type "ValueError",.type "Exception",.type "BaseException",.type "object"]
section
variable {P:Program} {w:World} {K:PySem.W.Frag} {mg:Str->Option Value} {base h:Heap} {k dr:Nat} {x:Str} {ps:List Str} {dps:List Nat} {f:Addr} {st:Stmt} {sp:Sp}
def Df.knX (d:Df K x st f) (X:K.In h) (G:h.Ns mainGlobals mg) (b:∀ (kV doc pm:Value) (an:Option Addr) (cdv ct:Value) (us:List Value),us.length=ps.length->bindArgs (PySem.W.fnOf x x (dR st) (cx st) (aj st) .none kV doc pm an cdv ct) ⟨us,[]⟩=pure (ps.zip us))
  (ok:∀ fd,Fun K x x st f fd->FnOk P w K mg base (CXr P w) k f fd ps sp):KnX P w K mg base k x ps sp:=by
 obtain ⟨_,_,_,_,_,_,_,_,_,l,c⟩:=d.l;have F:=qU (st:=st) l c d.k;exact ⟨_,_,ok _ F,zba X G d.a,d.k,F.binds b⟩
end
section
variable {M:Model} {A:Around} {E:Value->Shared->Prop} {s:Shared}
def uz {es:Array DictEntry} {i:Nat} (hi:i < es.size) (x:Str) (hx:(es[i]).key.isStr x=false):((es.eraseIdx i hi).find? fun e=>e.key.isStr x)=es.find? fun e=>e.key.isStr x:=by
 obtain ⟨l⟩:=es;have key:∀ (l:List DictEntry) (i:Nat) (h:i < l.length),(l[i]).key.isStr x=false->((l.eraseIdx i).find? fun e=>e.key.isStr x)=l.find? fun e=>e.key.isStr x:=by
  intro l
  induction l with
  | nil=>intro i h; simp at h
  | cons a l ih =>
   intro i h hx;cases i with
   | zero =>
    have hx':a.key.isStr x=false:=hx;rw [List.eraseIdx_zero,List.tail_cons,List.find?_cons,hx']
   | succ i =>
    rw [List.eraseIdx_cons_succ,List.find?_cons,List.find?_cons,ih i (by simpa using h) hx]
 have:=key l i (by simpa using hi) (by simpa using hx);simpa using this
def vt {a:Addr} {m:Str->Option Value} {name:Str} {Q:Bool->Shared->Prop} (hn:s.heap.Ns a m) (hs:(m name).isSome=true)
  (hQ:∀ h' m',h'.Ns a m'->(∀ x,x≠name->m' x=m x)->Heap.SameBut a s.heap h'->Q true { s with heap:=h' }):wpAny M A (nsDel a name) Q E s:=by
 obtain ⟨o,es,ep,ho,hd,hk,hm⟩:=id hn;have hany:es.any (·.refKey)=false:=by
  rw [Array.any_eq_false']; intro e he; obtain ⟨n,t,h⟩:=hk e he; simp [DictEntry.refKey,h]
 have hf:(es.any fun e=>e.key.isStr name)=true:=by
  rw [<- hm name] at hs;simp only [nsFind,findBy,Option.isSome_map] at hs;rw [Array.find?_isSome] at hs;obtain ⟨x,hx,hp⟩:=hs;obtain ⟨i,hi,rfl⟩:=Array.mem_iff_getElem.mp hx;exact Array.any_eq_true.mpr ⟨i,hi,hp⟩
 have hhas:nsHas name o=pure true:=by
  rw [nsHas_eq]; unfold nsHasByArray; rw [hd];show (if (es.any fun x=>x.key.isStr name)=true then _ else _)=_;rw [if_pos hf]
 unfold nsDel;refine zam (wpAny_loadPart ho ?_);rw [hhas];refine zam (zaT ?_);refine zam (wpAny_updatePart ho (zaT ?_));obtain ⟨cl,d,dt,sl⟩:=o;subst hd;cases hi:es.findIdx? (·.key.isStr name) with
 | none =>
  exfalso;rw [Array.findIdx?_eq_none_iff] at hi;obtain ⟨i,h,hp⟩:=Array.any_eq_true.mp hf
  have:=hi _ (Array.getElem_mem h);rw [hp] at this;cases this
 | some i =>
  obtain ⟨hlt,hp,_⟩:=Array.findIdx?_eq_some_iff_getElem.mp hi;refine hQ _ (fun x=>findBy (fun k v=>v.isStr k) (es.eraseIdxIfInBounds i) x) ⟨_,es.eraseIdxIfInBounds i,ep+1,Heap.get?_update_self _ ho (by simp only [Obj.dropName_eq,Obj.dropNameByArray,hi] <;> rfl),(by simp only [Obj.dropName_eq,Obj.dropNameByArray,hi] <;> rfl),hk.erase i,fun _=>rfl⟩ (fun x hx=>?_) (Heap.SameBut.update ..);rw [<- hm x];show _=findBy (fun k v=>v.isStr k) es x;unfold findBy;have hne:(es[i]).key.isStr x=false:=by
   obtain ⟨n,t,hkey⟩:=hk _ (Array.getElem_mem hlt);rw [hkey] at hp ⊢;have e1:n=name:=by simpa [Value.isStr] using hp
   have:n≠x:=fun z=>hx (by rw [<- z,e1]);simpa [Value.isStr] using this
  have e2:es.eraseIdxIfInBounds i=es.eraseIdx i hlt:=by
   unfold Array.eraseIdxIfInBounds;rw [dif_pos hlt]
  rw [e2,uz hlt x hne]
end
section
variable {X:Cx} {pins:List (Addr × Obj)} {σ σ':St} {H:Hp} {s:Shared}
def ET {h':Heap} {m':Str->Option Value} {t:Nat} (I:Inv X pins σ H s) (hs:Heap.SameBut X.env.locals s.heap h') (hn:h'.Ns X.env.locals m') (hl:σ'.length=X.N.length)
  (k:∀ (j:Nat) (y:Str) (v:V),X.N[j]?=some y->σ'[j]?=some (some v)->Vis X.env.scope y->∃ u,RelV v u/\J7 X.env h' m' y u):Inv X pins σ' H { s with heap:=h',toks:=t }:=by
 obtain ⟨m,hn0,hl0⟩:=id I.loc;obtain ⟨oL,_,_,hoL,_⟩:=id hn0;have hok:HOk X.prog X.w H h':=fun b ob e=>by
  refine (I.hok b ob e).stay (fun c w' hc q=>(hs.2 c ?_).trans q) (fun _ q=>q) fun _ _ q=>q;rintro rfl;rcases hc with z | hc
  ·subst z; rw [I.free] at e; cases e
  ·rw [I.free] at hc; cases hc
 refine ⟨I.ok,I.os,I.bare,⟨fun b o e n hb hx=>?_,fun b o e n hb hx=>?_,I.base.free,fun b o e hx=>?_,I.base.tups,I.base.frzs,I.base.tbls⟩,⟨_,hn,k⟩,fun y c e=>?_,I.free,I.freeC,fun p hp=>?_,hok,hl⟩
 ·exact (hs.2 b (zaw (zag (zal e) I.ok.above))).trans (I.base.keep b o e n hb hx)
 ·obtain ⟨sl,e1⟩:=I.base.slot b o e n hb hx;exact ⟨sl,(hs.2 b (zaw (zag (zal e) I.ok.above))).trans e1⟩
 ·obtain ⟨o',e1⟩:=I.base.there b o e hx;exact ⟨o',(hs.2 b (zaw (zag (zal e) I.ok.above))).trans e1⟩
 ·obtain ⟨w',z⟩:=I.cell y c e;exact ⟨w',z.sameBut hs (I.cne y c e)⟩
 ·obtain ⟨e,n,ne,nf,d⟩:=I.pin p hp;exact ⟨(hs.2 p.1 ne).trans e,n,ne,nf,d⟩
def vz {M:Model} {A:Around} {E:Value->Shared->Prop} {i:Nat} {n:Str} {pos:Pos} {Q:Unit->Shared->Prop} (I:Inv X pins σ H s) (hN:X.N.Nodup) (hi:X.N[i]?=some n) (hk:X.env.kindOf n=some .local)
  (h:∀ s',Inv X pins (σ.set i none) H s'->Q () s'):wpAny M A (do bindName X.env n .none; unbindBehindTheSuite X.env n pos) Q E s:=by
 obtain ⟨m,hn,hl⟩:=id I.loc;have hp:(X.env.scope.kind == .class || (X.env.scope.kind == .module && X.env.locals != X.env.globals))=false:=by rw [I.ok.kind]; rfl
 refine zam (wpAny_bindName (wpAny_storeName_local hk hn (fun h₁ hn₁ hs₁=>?_) hp));unfold unbindBehindTheSuite;refine wpAny_onRaise ?_;unfold unbindName;refine zam (wpAny_point (zam ?_));unfold deleteName;simp only [hk,hp];rw [if_neg (by decide)];refine zam (vt hn₁ (by simp) fun h₂ m₂ hn₂ hm₂ hs₂=>?_);simp only [if_true,Bool.not_true,Bool.false_eq_true,if_false];refine zaT (wpAny_point (h _ ?_));refine ET I (hs₁.trans hs₂) hn₂ (by rw [zaV]; exact I.len) fun j y v e1 e2 e3=>?_;have hiσ:i < σ.length:=by rw [I.len]; exact (zah.mp hi).1
 by_cases hj:j=i
 ·subst hj;rw [zaP hiσ] at e2;cases e2
 ·rw [zaO (Ne.symm hj)] at e2;obtain ⟨u',r',q⟩:=hl j y v e1 e2 e3;refine ⟨u',r',?_⟩;rcases q with ⟨kk,e⟩ | ⟨kk,c,e,z⟩
  ·refine .inl ⟨kk,?_⟩;have ne:y≠n:=fun e=>hj (mf hN e1 (e ▸ hi));rw [hm₂ y ne];simp [ne,e]
  ·exact .inr ⟨kk,c,e,(z.sameBut hs₁ (I.cne y c e)).sameBut hs₂ (I.cne y c e)⟩
end
section
variable {X:Cx} {pins:List (Addr × Obj)} {σ:St} {H H1 H':Hp} {s s1 s':Shared} {E:XK}
structure XOut (X:Cx) (E:XK):Prop where
 out:∀ {pins σ H1 s1 ev s'},Inv X pins σ H1 s1->CXr X.prog X.w X.stack H1 s1 E ev s'->X.xe ev s'
def nE (X:Cx) (pins:List (Addr × Obj)) (σ:St) (E:XK):Prop:=∀ H1 s1 ev s',Inv X pins σ H1 s1->CXr X.prog X.w X.stack H1 s1 E ev s'->X.xe ev s'
def XOut.of (R:Rsx X E) (hfs:X.fs=frs X.outer):XOut X E:=⟨fun {pins σ H1 s1 ev s'} I hc=>by
 obtain ⟨a,T,C,H',rfl,hE,os,bare,un,hok,ha,hT,na,nT,⟨oe,vs,a0,q1,q2,q3,q4,q5⟩,⟨oT,ts,q6,q7,q8⟩,hne⟩:=hc;rw [R.xe];have fh:s'.heap.FunFrames X.base X.stack:=iS (fun b hb o ho=>un.any ho (I.frn R.ex b hb) (by simp)) I.stack;have fB:s'.heap.FunFrames (hZ s'.heap (frs X.stack++[a,T])) X.stack:=iB fh fun b hb=>cL (List.mem_append_left _ hb);have frames:X.A.frames=some (X.env :: X.outer):=by rw [<- R.stk]; exact I.ok.frames
 refine wpAny_leaving_nextW (base:=hZ s'.heap (frs X.stack++[a,T])) (cls:=.ref C) (a0:=a0) frames (by rw [<- R.stk]; exact fB) R.fr ⟨oe,vs,T,oT,ts,q1,⟨q2,q4⟩,q3,q5,cL (by simp),hne,q6,q7,q8⟩ (fun b o q=>(k9 q).1) (cL (by simp)) fun h2 ⟨st2,f2,⟨oe3,vs3,T3,oT3,ts3,g1,⟨g2,g3⟩,g4,g5,g6,g7,g8,g9,g10⟩,nf2⟩=>?_;have old:∀ b o,s'.heap.get? b=some o->b ∉ frs X.stack->b≠a->b≠T->h2.get? b=some o:=fun b o q z1 z2 z3=>st2 b o (fR q fun z=>by
  rcases zax.mp z with z | z
  ·exact z1 z
  ·have z':b=a\/b=T:=by simpa using z
   exact z'.elim z2 z3)
 have I2:Inv X pins σ H' { heap:=h2,gens:=s'.gens,drawn:=s'.drawn,toks:=s'.toks,os:=s'.os }:=gM I R.ex os bare un hok ha hT na nT old fun b hb o q=>by
  obtain ⟨o2,z1,z2⟩:=cM fh b hb;rw [q] at z1;cases z1;exact nf2 b o q z2
 have un2:=I2.base;rw [R.ex,hfs] at un2;have un1:=I.base;rw [R.ex] at un1;have back:∀ b,s1.heap.get? b=none->X.s₀.heap.get? b=none:=fun b q=>by
  cases q2:X.s₀.heap.get? b with
  | none=>rfl
  | some o =>
   obtain ⟨o',z⟩:=un1.there b o q2 (by simp);rw [q] at z;cases z
 have hT3:H' T3=none/\X.s₀.heap.get? T3=none:=by
  by_cases e:T3=T
  ·rw [e]; exact ⟨hT,back T nT⟩
  ·have n3:s'.heap.get? T3=none:=by
    cases q:s'.heap.get? T3 with
    | none=>rfl
    | some o =>
     have hm:T3∈frs X.stack++[a,T]:=Decidable.byContradiction fun hn=>by
      rw [fR q hn] at g6;cases g6
     rcases zax.mp hm with z | z
     ·obtain ⟨o2,z1,z2⟩:=cM fh T3 z;rw [q] at z1;cases z1;obtain ⟨sl,z3⟩:=nf2 T3 o q z2;rw [g8] at z3;cases z3;exact absurd g9 (z2 ts3)
     ·have z':T3=a\/T3=T:=by simpa using z
      exact absurd (z'.resolve_right e) g7
   refine ⟨hok.none n3,back T3 ?_⟩;cases q:s1.heap.get? T3 with
   | none=>rfl
   | some o =>
    obtain ⟨o',z⟩:=un.there T3 o q (by simp);rw [n3] at z;cases z
 exact ⟨a,T3,C,H',rfl,hE,I2.os,bare,un2,I2.hok,ha,hT3.1,back a na,hT3.2,⟨⟨oe3,vs3,a0,g1,g2,g4,g3,g5⟩,⟨oT3,ts3,g8,g9,g10⟩,g7⟩⟩⟩
end
abbrev MN:=En->Option Str
def tX (K:PySem.W.Frag) (ds:List Nat) (m:MN) (cl:Str->Addr) (E:XK):TS:=fun _ σ H=>∃ Ox en R x,EnvOk K ds Ox H σ en R/\m en=some x/\∀ H',Reach H R H'->E (.ref (cl x)) none H'
def mh (x:Str):MN:=fun _=>some x
def nNo:MN:=fun _=>none
def nIf (c:MT) (m1 m2:MN):MN:=fun en=>(c en).bind fun r=>if r.1 then m1 r.2 else m2 r.2
def iN (f:MS) (m:MN):MN:=fun en=>(f en).bind fun fl=>match fl with
 | .nx en1=>m en1
 | _=>none
def nOr (m1 m2:MN):MN:=fun en=>match m1 en with
 | some x=>some x
 | none=>m2 en
def iy (Rz:List D->Option Str) (fa:MA):MN:=fun en=>(fa en).bind fun r=>(cq r.1 r.2).bind Rz
def fnN (n:Nat) (b:MN):List D->Option Str:=fun ts=>b (ts.map some++List.replicate n none)
def rzN (dps:List Nat) (Rz:List D->Option Str):List D->Option (D × En):=fun ts=>(Rz ts).map fun x=>(.str x,dps.map fun _=>none)
def spN (K:PySem.W.Frag) (dps:List Nat) (cl:Str->Addr) (Rz:List D->Option Str):Sp:=fun vs H _ E=>spF K dps 3 (rzN dps Rz) vs H (fun v H'=>∃ x,v=.str x/\E (.ref (cl x)) none H') E
section
variable {X:Cx} {K:PySem.W.Frag} {p:Bool} {J:Jd} {ds ds0 ds1 ds' dps:List Nat} {H H' H'':Hp} {σ σ':St} {Dn:Ends} {R R':Nat->AS} {Ox F:AS} {en en':En} {m m1 m2:MN} {f:MS} {cm:MT} {st:Stmt} {sts body els:List Stmt} {c:Expr} {pos np cpos p2 fp cp ap xp:Pos} {E:XK} {cl:Str->Addr} {sh:Sh} {fa:MA} {Rz:List D->Option Str} {e:Expr} {es:List Expr} {fx x:Str} {ps:List Str} {k:Nat}
def jI {x z:Str} {j:Nat} {bmB:List Value} {B newId initId:String} (R:Rsx X E) (hb:ExcBaseFacts B newId initId bmB) (hx:PySem.W.excIn X.K (cl x) bmB newId=true) (hg:Gl X x) (hm:X.mg x=some (.ref (cl x))) (hdb:(x == ("__debug__" : Str))=false) :
  QS X (.Raise (some (.Call (.Name x np) [.Constant (.str z) j p2] [] cpos)) none pos) (tX K ds (mh x) cl E) :=
 ⟨fun pins s σ H D I ⟨Ox,en,R0,y,e,hy,k⟩=>by
  cases hy;exact wQ R hb hx hg hm (bU pe_str pa_nil) hdb rfl pins s σ H D I ⟨by show 1<=sizeLine; decide,k H ⟨fun _ _ q _=>q,fun _ o q=>⟨o,q⟩⟩⟩⟩
def ux:QSs X sts (tX K ds nNo cl E):=⟨fun pins s σ H D I ⟨Ox,en,R,y,e,hy,k⟩=>by cases hy⟩
def uy (hc:QT X.nox c (tFT K p ds ds1 cm)) (ha:QSs X body (tX K ds1 m1 cl E)) (hb:QSs X els (tX K ds1 m2 cl E)):QS X (.If c body els pos) (tX K ds (nIf cm m1 m2) cl E) :=
 ⟨fun pins s σ H D I ⟨Ox,en,R,y,e,hm,k⟩=>DW hc.h.nox ha.h hb.h pins s σ H D I (by
  unfold nIf at hm;obtain ⟨⟨b,en1⟩,h1,h2⟩:=zaa.mp hm;cases b with
  | false=>exact ⟨Ox,en,R,false,en1,e,h1,fun H' R' P=>⟨Ox,en1,R',y,P.env0,h2,fun H'' r=>k H'' (r.post P)⟩⟩
  | true=>exact ⟨Ox,en,R,true,en1,e,h1,fun H' R' P=>⟨Ox,en1,R',y,P.env0,h2,fun H'' r=>k H'' (r.post P)⟩⟩)⟩
def ib (h:QS X st (tX K ds m cl E)):QSs X (st :: sts) (tX K ds m cl E) :=
 ⟨fun pins s σ H D I q=>lY h.h vc pins s σ H D I q⟩
def gW (h:QS X.nox st (tFS K J ds ds1 f)) (hr:QSs X sts (tX K ds1 m cl E)):QSs X (st :: sts) (tX K ds (iN f m) cl E) :=
 ⟨fun pins s σ H D I ⟨Ox,en,R,y,e,hm,k⟩=>lY h.h.nox hr.h pins s σ H D I (by
  unfold iN at hm;obtain ⟨fl,h1,h2⟩:=zaa.mp hm;cases fl with
  | nx en1=>exact ⟨Ox,en,R,.nx en1,e,h1,fun σ' H' R' P=>⟨Ox,en1,R',y,P.env0,h2,fun H'' r=>k H'' (r.postS P)⟩⟩
  | rt t en1=>cases h2
  | ct en1=>cases h2)⟩
def Eb (h1:QSs X sts (tX K ds m1 cl E)) (h2:QSs X sts (tX K ds m2 cl E)):QSs X sts (tX K ds (nOr m1 m2) cl E) :=
 ⟨fun pins s σ H D I ⟨Ox,en,R,y,e,hm,k⟩=>by
  unfold nOr at hm;cases q:m1 en with
  | some z =>
   rw [q] at hm;exact h1.h pins s σ H D I ⟨Ox,en,R,y,e,q.trans hm,k⟩
  | none =>
   rw [q] at hm;exact h2.h pins s σ H D I ⟨Ox,en,R,y,e,hm,k⟩⟩
def lL {pins:List (Addr × Obj)} {s:Shared} (O:nE X pins σ E) (GX:KnX X.prog X.w X.K X.mg X.base k fx ps (spN K dps cl Rz)) (hr:Room k X.A) (hgf:Gl X fx) (ha:QA X (e :: es) (tFA K true ds ds1 sh fa)) (hcd:cZ ds1 sh dps=true) (hdf:(fx == ("__debug__" : Str))=false) (he:aF e=true) (hpl:es.all aF=true)
  (I:Inv X pins σ H s) (h:tX K ds (iy Rz fa) cl E Dn σ H):wpAny (model X.prog X.w) X.A (eval (.Call (.Name fx fp) (e :: es) [] cp) X.env) (EP X pins σ fun _ _=>False) X.xe s:=by
 obtain ⟨Ox,en,R,y,ee,hm,kk⟩:=h;unfold iy at hm;obtain ⟨⟨as,en1⟩,h1,hm⟩:=zaa.mp hm;obtain ⟨ts,h2,hR⟩:=zaa.mp hm;have hz:ak (rzN dps Rz) fa en=some (.str y,wb as (dps.map fun _=>none) en1):=by
  unfold ak rzN;rw [h1];show (cq as en1).bind _=_;rw [h2];show ((Rz ts).map _).map _=_;rw [hR];rfl
 have tf:tF K (true && gq sh) ds ds1 3 (ak (rzN dps Rz) fa) σ H (fun v H'=>∃ x,v=.str x/\E (.ref (cl x)) none H'):=⟨Ox,en,R,_,_,ee,hz,fun v H' R' Fz P o=>⟨y,o,kk H' ⟨P.keep,P.dom⟩⟩⟩;exact K0 (Q:=fun _ _=>False) (E:=E) GX hr hgf ha.h hdf he hpl I (xW (E:=E) hcd tf) fun H1 s1 ev s' I1 hc=>O H1 s1 ev s' I1 hc
end
section
variable {K:PySem.W.Frag} {dps:List Nat} {cl:Str->Addr} {H:Hp} {Dn:Ends} {E:XK} {P:Program} {w:World} {mg:Str->Option Value} {base:Heap}
def EL {N:List Str} {vs:List V} {n:Nat} {b:MN} {Q:VK} (hn:N.length - dps.length=n) (h:spN K dps cl (fnN n b) vs H Q E):tX K (dps++List.replicate n 0) b cl E Dn (cw N vs) H:=by
 obtain ⟨Ox,ts,R,r,outs,e,hf,k⟩:=h;have lv:dps.length=vs.length:=by have:=e.l2; rw [zad] at this; exact this
 have lt:ts.length=vs.length:=by have:=e.l1; rw [zad,zad] at this; exact this
 have hs:cw N vs=vs.map some++List.replicate n none:=by unfold cw; rw [<- lv,hn]
 obtain ⟨u,h1,hf⟩:=zab.mp hf;cases hf;have get0:∀ {α:Type} (xs:List α) (i:Nat) (u:α),(xs.map some++List.replicate n none)[i]?=some (some u)->(xs.map some)[i]?=some (some u)/\i < xs.length:=fun xs i u z=>by
  by_cases hi:i < xs.length
  ·rw [zaS (by rw [zad]; exact hi)] at z;exact ⟨z,hi⟩
  ·rw [List.getElem?_append_right (by rw [zad]; omega),List.getElem?_replicate] at z;split at z
   ·cases z
   ·cases z
 have kk:∀ H',Reach H R H'->E (.ref (cl u)) none H':=fun H' r=>by
  have w:∃ x,V.str u=V.str x/\E (.ref (cl x)) none H':=by
   refine k (.str u) H' (fun _=>NoA) NoA ⟨⟨fun i u hu=>?_,fun _ _ _ z=>z.elim,fun _ _ z=>z.elim,fun a z=>?_,by simp [lv],by simp [lv]⟩,fun _ z=>z.elim,r.keep,fun a z=>?_,r.dom,fun z=>nomatch z⟩ rfl
   ·rw [zao] at hu;cases q:dps[i]? with
    | none=>rw [q] at hu; cases hu
    | some d=>rw [q] at hu; cases hu
   ·rcases z with ⟨_,z⟩ | z | z
    ·exact z.elim
    ·exact z.elim
    ·obtain ⟨o,q⟩:=e.dom a (.inr z);exact r.dom a o q
   ·rcases z with z | ⟨_,z⟩
    ·exact z.elim
    ·exact z.elim
  obtain ⟨x,e1,e2⟩:=w;cases e1;exact e2
 refine ⟨Ox,ts.map some++List.replicate n none,R,u,?_,h1,kk⟩;rw [hs];refine ⟨fun i u hu=>?_,e.dj,e.dx,e.dom,by simp [lt],by simp [lv]⟩;obtain ⟨hu',hi⟩:=get0 ts i u hu;obtain ⟨v,d,g1,g2,g3⟩:=e.at_ i u hu';refine ⟨v,d,?_,?_,g3⟩
 ·rw [zaS (by rw [zad]; omega)]; exact g1
 ·rw [zaS (by omega)]; exact g2
def Fun.okN {x qual:Str} {st:Stmt} {f:Addr} {fd:FuncData} {N ps:List Str} {k n:Nat} {ds0:List Nat} {b:MN} (F:Fun K x qual st f fd) (S:FnScope N ps (aj st)) (hl:dps.length=ps.length) (hn:N.length - dps.length=n) (hd:ds0=dps++List.replicate n 0)
  (hb:∀ (cdv:Value) (A:Around) (outer:List Env) (s:Shared) (H:Hp) (E:XK),Room k (A.deeper (envOfC qual (aj st) s.heap.objs.size f cdv))->Rsx (ie (CXr P w) P w K mg base N qual (aj st) f cdv A outer s H E) E->XOut (ie (CXr P w) P w K mg base N qual (aj st) f cdv A outer s H E) E ->
   QSs (ie (CXr P w) P w K mg base N qual (aj st) f cdv A outer s H E) (cx st) (tX K ds0 b cl E)):FnOk P w K mg base (CXr P w) (k+1) f fd ps (spN K dps cl (fnN n b)):=by
 subst hd;obtain ⟨oc,od,kV,doc,pm,an,cdv,ct,osl,rfl,lk,hcd⟩:=F.ex;refine Ec lk hcd S (fun vs H Q E h=>ss hl h) fun A outer s H vs Q E hr hsp=>?_;exact ⟨_,(hb cdv A outer s H E hr u9 (XOut.of u9 rfl)).h,EL hn hsp⟩
end
def bE (x:Str):D:=.dict [(.none,.str x)]
section
variable {fs ex:List Addr} {H H1 H':Hp} {h h1 h2:Heap} {a C:Addr} {o:HO} {P:Program} {w:World}
def Un.more (u:Un fs ex H1 H' h1 h2) (na:h1.get? a=none) (ha:H' a=none):Un fs ex H1 (upd H' a o) h1 h2 where
 keep:=u.keep
 slot:=u.slot
 free:=fun b ob q n hx=>by
  rw [aC (fun z=>by rw [z,na] at q; cases q)];exact u.free b ob q n hx
 there:=u.there
 tups:=fun b xs q=>by
  have e:=u.tups b xs q;rw [aC (fun z=>by rw [z,ha] at e; cases e)];exact e
 frzs:=fun b ob y q=>by
  have e:=u.frzs b ob y q;rw [aC (fun z=>by rw [z,ha] at e; cases e)];exact e
 tbls:=fun b ps q=>by
  obtain ⟨more,e⟩:=u.tbls b ps q;refine ⟨more,?_⟩;rw [aC (fun z=>by rw [z,ha] at e; cases e)];exact e
def HOk.more (x:HOk P w H' h) (ha:H' a=Option.none) (hx:eW a C h):HOk P w (upd H' a (.ext (eW a C))) h:=fun b ob e=>by
 by_cases hb:b=a
 ·subst hb;rw [aL] at e;cases e;refine ⟨hx,hx.elim fun o z=>⟨o,z.1⟩,fun g1 g2 hg k=>?_⟩;obtain ⟨o,z1,z2⟩:=hg;exact ⟨o,k o z1,z2⟩
 ·rw [aC hb] at e;refine (x b ob e).stay (fun _ _ _ q=>q) (fun c q=>?_) fun c xs q=>?_
  ·rw [aC (fun z=>by rw [z,ha] at q; cases q)]; exact q
  ·rw [aC (fun z=>by rw [z,ha] at q; cases q)]; exact q
end
section
variable {X:Cx} {pins:List (Addr × Obj)} {σ:St} {H H1 H':Hp} {s s1 s':Shared} {E:XK} {D:Ends}
end
def hidE (kp:List Nat) (en:En):En:=en.zipIdx.map fun p=>if p.2∈kp then none else p.1
def qR (kp:List Nat) (en:En) (i:Nat):(hidE kp en)[i]?=(en[i]?).map fun o=>if i∈kp then none else o:=by
 unfold hidE;rw [zao,List.getElem?_zipIdx];cases en[i]? <;> simp
section
variable {K:PySem.W.Frag} {ds:List Nat} {Ox:AS} {H H':Hp} {σ:St} {en:En} {R:Nat->AS} {kp:List Nat}
def EnvOk.hidE (e:EnvOk K ds Ox H σ en R) (kp:List Nat):EnvOk K ds (fun a=>Ox a\/∃ i∈kp,R i a) H σ (L2.hidE kp en) (fun i a=>i ∉ kp/\R i a):=by
 have eq:Own (fun i a=>i ∉ kp/\R i a) (fun a=>Ox a\/∃ i∈kp,R i a)=Own R Ox:=fG fun a=>by
  constructor
  ·rintro (⟨i,_,z⟩ | z | ⟨i,_,z⟩)
   ·exact .inl ⟨i,z⟩
   ·exact .inr z
   ·exact .inl ⟨i,z⟩
  ·rintro (⟨i,z⟩ | z)
   ·by_cases hi:i∈kp
    ·exact .inr (.inr ⟨i,hi,z⟩)
    ·exact .inl ⟨i,hi,z⟩
   ·exact .inr (.inl z)
 refine ⟨fun i t q=>?_,fun i j a z1 z2=>e.dj i j a z1.2 z2.2,fun i a z z2=>?_,fun a z=>e.dom a (eq ▸ z),?_,e.l2⟩
 ·rw [qR] at q;obtain ⟨o,q1,q2⟩:=zab.mp q;by_cases hi:i∈kp
  ·rw [if_pos hi] at q2; cases q2
  ·rw [if_neg hi] at q2;subst q2;obtain ⟨v,d,h1,h2,h3⟩:=e.at_ i t q1;refine ⟨v,d,h1,h2,?_⟩;rw [eq];exact Ow.grow (fun _ z=>z) t (fun b z=>⟨hi,z⟩) h3
 ·rcases z2 with z2 | ⟨j,hj,z2⟩
  ·exact e.dx i a z.2 z2
  ·have:=e.dj i j a z.2 z2;subst this;exact z.1 hj
 ·show (L2.hidE kp en).length=_;unfold L2.hidE;rw [zad,List.length_zipIdx];exact e.l1
def EnvOk.raised (e:EnvOk K ds Ox H σ en R) (r:Reach H (fun i a=>i ∉ kp/\R i a) H') (hd:∀ (i:Nat) d,ds[i]?=some d->d=0\/i∈kp):EnvOk K ds Ox H' σ en (fun i a=>i∈kp/\R i a):=by
 refine ⟨fun i t q=>?_,fun i j a z1 z2=>e.dj i j a z1.2 z2.2,fun i a z=>e.dx i a z.2,fun a z=>?_,e.l1,e.l2⟩
 ·obtain ⟨v,d,h1,h2,h3⟩:=e.at_ i t q;refine ⟨v,d,h1,h2,?_⟩;rcases hd i d h2 with h0 | hi
  ·subst h0;refine Ow.mv (O:=Own R Ox) (H:=H) (G:=fun _=>False) ⟨fun a o q z=>r.keep a o q fun j zj=>(z.resolve_right id) (.inl ⟨j,zj.2⟩),fun a z=>.inl (z.imp (fun ⟨j,z⟩=>⟨j,z.2⟩) id)⟩ t (F:=fun _=>False) (fun _ z=>z) (Ow.any0 t h3) |> Ow.any0 t
  ·refine Ow.mv (O:=Own R Ox) (H:=H) (G:=R i) ⟨fun a o q z=>r.keep a o q fun j zj=>?_,fun a z=>.inl (z.imp (fun ⟨j,z⟩=>⟨j,z.2⟩) id)⟩ t (F:=fun a=>i∈kp/\R i a) (fun _ z=>z.2) (Ow.grow (fun _ z=>z) t (fun b z=>⟨hi,z⟩) h3);rcases z with z | z
   ·exact z (.inl ⟨j,zj.2⟩)
   ·have:=e.dj j i a zj.2 z;subst this;exact zj.1 hi
 ·obtain ⟨o,q⟩:=e.dom a (z.imp (fun ⟨i,z⟩=>⟨i,z.2⟩) id);exact r.dom a o q
end
def PXs (X:Cx) (pins:List (Addr × Obj)) (σ:St) (E:XK) (K:PySem.W.Frag) (ds:List Nat) (m:MN) (cl:Str->Addr) (sts:List Stmt):Prop :=
 ∀ s H,Inv X pins σ H s->(∀ D,tX K ds m cl E D σ H)->wpAny (model X.prog X.w) X.A (execs sts X.env) (fun _ _=>False) X.xe s
section
variable {X:Cx} {pins:List (Addr × Obj)} {σ:St} {K:PySem.W.Frag} {p:Bool} {ds ds1 dps:List Nat} {m m1 m2:MN} {cm:MT} {body els:List Stmt} {c:Expr} {pos fp cp ap xp:Pos} {E:XK} {cl:Str->Addr} {sh:Sh} {fa:MA} {Rz:List D->Option Str} {e:Expr} {es:List Expr} {fx x:Str} {ps:List Str} {k:Nat}
def qj (O:nE X pins σ E) (GX:KnX X.prog X.w X.K X.mg X.base k fx ps (spN K dps cl Rz)) (hr:Room k X.A) (hgf:Gl X fx) (ha:QA X (e :: es) (tFA K true ds ds1 sh fa)) (hcd:cZ ds1 sh dps=true) (hdf:(fx == ("__debug__" : Str))=false) (he:aF e=true) (hpl:es.all aF=true)
  (hsw:swapsWith (.Call (.Name fx fp) (e :: es) [] cp) (some (.Name x xp)) ap.line X.env=pure false) :
  PXs X pins σ E K ds (iy Rz fa) cl [.Assign [.Name x xp] (.Call (.Name fx fp) (e :: es) [] cp) ap]:=fun s H I h =>
 wpAny_execs_cons (wpAny_Assign_Name (thn (lL O GX hr hgf ha hcd hdf he hpl I (h ⟨fun _ _=>True,fun _ _=>True,fun _ _=>True,fun _ _=>True⟩)) fun v s1 ⟨_,_,_,_,z⟩=>False.elim z) hsw)
def Kk (hc:QT X.nox c (tFT K p ds ds1 cm)) (ha:PXs X pins σ E K ds1 m1 cl body) (hb:PXs X pins σ E K ds1 m2 cl els):PXs X pins σ E K ds (nIf cm m1 m2) cl [.If c body els pos]:=fun s H I h=>by
 obtain ⟨Ox,en,R,y,e,hm,k⟩:=h ⟨fun _ _=>True,fun _ _=>True,fun _ _=>True,fun _ _=>True⟩;unfold nIf at hm;obtain ⟨⟨b,en1⟩,h1,h2⟩:=zaa.mp hm;refine wpAny_execs_cons (wpAny_If (thn (hc.h.nox pins s σ H (fun b' H'=>b'=b/\∃ R',EnvOk K ds1 Ox H' σ en1 R'/\∀ H'',Reach H' R' H''->Reach H R H'') I ⟨Ox,en,R,b,en1,e,h1,fun H' R' P=>⟨rfl,R',P.env0,fun H'' r=>r.post P⟩⟩) fun d s1 ⟨H1,I1,q1,R1,q2,q3⟩=>?_));subst q1;cases d with
 | true=>exact wpAny_mono (ha s1 H1 I1 fun D=>⟨Ox,en1,R1,y,q2,h2,fun H'' r=>k H'' (q3 H'' r)⟩) (fun _ _ z=>z.elim) fun _ _ z=>z
 | false=>exact wpAny_mono (hb s1 H1 I1 fun D=>⟨Ox,en1,R1,y,q2,h2,fun H'' r=>k H'' (q3 H'' r)⟩) (fun _ _ z=>z.elim) fun _ _ z=>z
end
def jy (kn:List Str) (kp:List Nat) (j:Nat) (b:MS) (m:MN) (hs:MS):MS:=fun en=>match b en with
 | some (.nx e)=>some (.nx e)
 | some _=>none
 | none=>(m (hidE kp en)).bind fun x=>if x∈kn then (hs (en.set j (some (bE x)))).bind fun fl=>match fl with
  | .nx e=>some (.nx (e.set j none))
  | _=>none else none
def xj (ds kp:List Nat):Bool:=ds.zipIdx.all fun p=>p.1 == 0 || kp.contains p.2
def xi {ds kp:List Nat} (h:xj ds kp=true) (i d:Nat) (q:ds[i]?=some d):d=0\/i∈kp:=by
 unfold xj at h
 have:=List.all_eq_true.mp h (d,i) (zaX (i:=i) (by rw [List.getElem?_zipIdx,q]; simp));simpa using this
section
variable {X:Cx} {K:PySem.W.Frag} {J:Jd} {ds ds1 ds':List Nat} {b hs:MS} {m:MN} {cl:Str->Addr} {kn:List Str} {kp:List Nat} {C':Addr} {bmB:List Value} {newId newId':String} {y n:Str} {j:Nat} {yp hp pos:Pos} {b₀:Stmt} {suite body:List Stmt}
end
end L2
namespace L2
open PySem PySem.Spec PyProof.Rows Builtin Builtin.ObjectAttr Builtin.Getset_descriptor
def jG:Value:=.builtin "object.__class__"
def qS:Value:=.builtin "getset_descriptor.__get__"
def gGa:Value:=.builtin "BaseException.__getattribute__"
def okX (K:PySem.W.Frag) (C:Addr):Bool:=((PySem.W.findIn K (.ref C) "__getattribute__" == some (some gGa)) && (PySem.W.findIn K (.ref C) "__getattr__" == some none) && (PySem.W.mroIn K C (.type "BaseException") == some true)) && (PySem.W.clsIn K C).isSome && (PySem.W.findIn K (.ref C) "__class__" == some (some jG)) && (PySem.W.specialIn K jG "__get__" == some (some qS)) && (PySem.W.takesIn K jG == some true) && (PySem.W.mroIn K C (.type "object") == some true) && (PySem.W.kitCls K (.ref C) (.ref C)).isSome
section
variable {prog:Program} {w:World} {A:Around} {E:Value->Shared->Prop} {s:Shared} {K:PySem.W.Frag} {a C:Addr}
def v9 {M:Model} {h:Heap} (p:eW a C h):PySem.W.Looks M h (typeOf (.ref a)) (.ref C):=by
 obtain ⟨o,h1,h2,_⟩:=p;exact h2 ▸ (PySem.W.Looks.ld h1).andThen .now
def FI {M:Model} {nv:Value} {Q:Unit->Shared->Prop} (t0:PySem.W.Looks M s.heap (typeOf (.ref a)) (.ref C)) (t6:PySem.W.Looks M s.heap (isSubtype (.ref C) (.type "BaseException")) true) (hq:Q () s):wpAny M A (checkBuiltinCall "BaseException.__getattribute__" ⟨[.ref a,nv],[]⟩) Q E s:=by
 have hb:builtinKind "BaseException.__getattribute__"=some .slot:=by decide +kernel
 have hp:splitId "BaseException.__getattribute__"=some ("BaseException", "__getattribute__"):=by decide +kernel
 have ha:=PySem.F.args_bexc_ga (.ref a) nv;obtain ⟨hh,g,d,t,os⟩:=s;simp only [checkBuiltinCall,hb,hp];refine zam ?_;unfold isInstance;refine zam (t0.at (t6.at ?_));simp only [Bool.not_true,Bool.false_eq_true,if_false];cases hs:Manifest.signature? "BaseException.__getattribute__" with
 | none=>exact zaT hq
 | some sg =>
  simp only [argsOk,hs] at ha;have h2:Bind.checkArgs "BaseException.__getattribute__" sg ⟨[.ref a,nv],[]⟩=pure ():=ha;show wpAny M A (Bind.checkArgs "BaseException.__getattribute__" sg ⟨[.ref a,nv],[]⟩) Q E _;rw [h2];exact zaT hq
def wa {Q:Option Value->Shared->Prop} (hk:okX K C=true) (X:K.In s.heap) (p:eW a C s.heap) (h:Q (some (.ref C)) { s with toks:=s.toks+1 }):wpAny (model prog w) A (getAttr? (.ref a) "__class__") Q E s:=by
 unfold okX at hk;simp only [Bool.and_eq_true,beq_iff_eq] at hk;obtain ⟨⟨⟨⟨⟨⟨⟨⟨k0,k1⟩,k7⟩,k2⟩,k3⟩,k4⟩,k5⟩,k6⟩,_⟩:=hk;obtain ⟨hh,g,d,t,os⟩:=s;have t0:=v9 (M:=model prog w) p;have t1:=PySem.W.looks_findIn (M:=model prog w) X k0;have t2:=PySem.W.looks_findIn (M:=model prog w) X k1;have t6:=PySem.W.looks_mroIn (M:=model prog w) X k7;have bs:∀ self,bindSpecial gGa self=pure (gGa,[self]):=PySem.F.attr_ValueError.ga.bind;have ng:(onTheHeap (Value.ref C) && gGa == Value.builtin "object.__getattribute__")=false:=by rw [show (gGa == Value.builtin "object.__getattribute__")=false by decide +kernel]; rfl
 have t3:PySem.W.Looks (model prog w) hh (Builtin.ObjectAttr.dataDescriptor? (some jG) (some qS)) (some (qS,jG)):=(PySem.W.looks_takesIn X k5).andThen .now;have t4:PySem.W.Looks (model prog w) hh (Builtin.ObjectAttr.find (.ref a) (.ref C) "__class__") (.bind qS jG):=(PySem.W.looks_findIn X k3).andThen ((PySem.W.looks_specialIn X k4).andThen (t3.andThen (PySem.W.Looks.tag .now)));have t5:=PySem.W.looks_mroIn (M:=model prog w) X k6;unfold getAttr? getAttrBy? getAttrBy;refine zam (wpAny_mkText (zam (wpAny_attempt (wpAny_holding (zam (t0.at (zam (t1.at ?_))))))))
 dsimp only
 rw [ng];show wpAny _ _ (getAttrByItsOwn _ _ _ _ _ _) _ _ _;unfold getAttrByItsOwn;refine zam (t2.at (zam (wpAny_attempt (wpAny_holding ?_))));show wpAny _ _ (boundAndCalled gGa _ _) _ _ _;unfold boundAndCalled;rw [bs];refine zam (zaT (wpAny_call ?_));refine codeAny_call_builtin PySem.F.attr_ValueError.ga.plain PySem.F.entry_bexc_ga (FI t0 t6 ?_);unfold Builtin.«object.__getattribute__»;refine zam ?_;show wpAny _ _ (pure (Value.ref a,[Value.str "__class__" t])) _ _ _;refine zaT ?_;refine zam (zaT (zam (t0.at (zam (t4.at ?_)))));show wpAny _ _ (holding [jG] (call qS [jG,.ref a,.ref C]) >>= ret) _ _ _;refine zam (wpAny_holding (wpAny_call ?_));refine codeAny_call_builtin PySem.W.KF.slot_gs.plain PySem.W.KF.entry_gs (PySem.W.KF.slot_gs.check _ _ _ _ _ _ _ _ PySem.W.KF.type_class (PySem.W.KF.args_gs _ _ _) ?_);unfold Builtin.«getset_descriptor.__get__» descrGet;rw [show jG=Value.builtin "object.__class__" from rfl,PySem.W.dga_obj];refine zam (zaT ?_);unfold descrGetter descrCheckInstance;unfold descrNameAndClass;unfold isInstance;simp only [PySem.W.KF.owner_class]
 repeat lk
 refine ⟨Code.quiet_builtin _ (by decide +kernel),codeAny_builtin PySem.W.KF.entry_class ?_⟩;unfold Builtin.«object.__class__»;unfold shownTypeOf
 repeat lk
 exact h
def qG (hk:okX K C=true):PySem.W.KitX K (.ref a) (.ref C) (eW a C) where
 ty:=fun _ _ _ p=>v9 p
 it:=fun M h X _=>by
  unfold okX at hk;simp only [Bool.and_eq_true] at hk;obtain ⟨v,hv⟩:=Option.isSome_iff_exists.mp hk.2;exact (PySem.W.kit_cls X hv).2.1
 ne:=fun h tp dd its n sl X htp=>by
  unfold okX at hk;simp only [Bool.and_eq_true] at hk;have k2:=hk.1.1.1.1.1.2;refine Bool.eq_false_iff.mpr fun q=>?_;have e:C=tp:=by simpa using q
  subst e;unfold PySem.W.clsIn at k2;split at k2
  ·next ho =>
   have z:=(X _ _ ho).symm.trans htp;cases z
  ·cases k2
 ca:=fun X p h=>wa hk X p h
end
def bi (kn xs:List Str):D->Option D
 | .dict [(.none,.str x)]=>if x∈kn then some (.bool (xs.contains x)) else none
 | _=>none
def fN (K:PySem.W.Frag) (kn xs:List Str) (cv:Value):Bool:=kn.all fun x=>match PySem.W.nsIn K mainGlobals x with
 | some (some (.ref C))=>okX K C && (PySem.W.kitOne K (.ref C) cv == some (xs.contains x))
 | _=>false
def p0 (K:PySem.W.Frag) (kn xs:List Str) (cvs:List Value):Bool:=kn.all fun x=>match PySem.W.nsIn K mainGlobals x with
 | some (some (.ref C))=>okX K C && (PySem.W.kitAny K (.ref C) cvs == some (xs.contains x))
 | _=>false
def Ih (K:PySem.W.Frag) (kn xs:List Str) (c:V):List V->Hp->VK->Prop:=fun vs H Q=>∃ (x:V) (O:AS) (a:D) (b:Bool),vs=[x,c]/\Ow K O H a 0 x NoA/\bi kn xs a=some (.bool b)/\Q (.bl b) H
section
variable {X:Cx} {K:PySem.W.Frag} {p:Bool} {ds ds1:List Nat} {d1:Nat} {e:Expr} {f:ME} {kn xs:List Str}
def qP {a:D} {b:Bool} {O:AS} {H:Hp} {x:V} (h:bi kn xs a=some (.bool b)) (o:Ow K O H a 0 x NoA):∃ q y C,x=.ref q/\y∈kn/\b=xs.contains y/\PySem.W.nsIn K mainGlobals y=some (some (.ref C))/\H q=some (.ext (eW q C)):=by
 unfold bi at h;split at h
 case h_2=>cases h
 next y =>
 by_cases hy:y∈kn
 case neg=>rw [if_neg hy] at h; cases h
 rw [if_pos hy] at h;cases h;obtain ⟨q,vs,rfl,⟨_,_,_,z⟩ | ⟨z,_⟩ | ⟨_,⟨kk,b,z,_⟩ | ⟨y',C,z,h1,h2,_⟩⟩⟩:=o
 ·obtain ⟨q',_,_,_,_,_,z,_⟩:=z;cases q' <;> cases z
 ·exact absurd rfl z
 ·cases z
 ·cases z;exact ⟨q,y,C,rfl,hy,rfl,h1,h2⟩
def rq {c:V} {cv:Value} (hc:∀ u,RelV c u->u=cv) (ht:fN X.K kn xs cv=true):CallR X (.builtin "isinstance") (Ih X.K kn xs c):=by
 intro pins s σ H vs us Q I r h;obtain ⟨x,O,a,b,rfl,oa,hb,q⟩:=h;obtain ⟨u,u2,rfl,r1,r2⟩:=r.two;have e2:=hc u2 r2;subst e2;obtain ⟨z,y,C,rfl,hy,rfl,h1,h2⟩:=qP hb oa;cases r1;have t:=List.all_eq_true.mp ht y hy;rw [h1] at t;simp only [Bool.and_eq_true,beq_iff_eq] at t;obtain ⟨hx,_⟩:=(show ObjOk X.prog X.w H s.heap z (.ext (eW z C)) from I.hok z _ h2);exact PySem.W.kia_one (qG t.1) I.kIn hx t.2 (fun z=>nomatch z) fun tk=>⟨.bl _,H,I.tok tk,rfl,q⟩
def sP {c:V} {σ:St} {H:Hp} {Q:VK} (h:tF K p ds ds1 3 (e1 (bi kn xs) f) σ H Q):tCB (Ih K kn xs c) (iu (tF K p ds ds1 d1 f) (iu (tC c) nQ)) σ H Q:=by
 obtain ⟨Ox,en,R,t,en',e,hf,k⟩:=h;unfold e1 at hf;obtain ⟨⟨t1,en1⟩,h1,hf⟩:=zaa.mp hf;obtain ⟨t',h3,hf⟩:=zab.mp hf;cases hf;obtain ⟨b,rfl⟩:∃ b,t=.bool b:=by
  unfold bi at h3;split at h3
  ·split at h3
   ·cases h3; exact ⟨_,rfl⟩
   ·cases h3
  ·cases h3
 refine ⟨Ox,en,R,t1,en1,e,h1,fun v H' R' F P o=>?_⟩;exact ⟨v,Own R' Ox,t1,b,rfl,Ow.letgo P (fun _ z=>z) o,h3,k _ H' R' NoA (P.less fun _ z=>z.elim) rfl⟩
def JI {T:Str} {C':Addr} {px pt pos:Pos} (hK:X.K=K) (hg:Gl X "isinstance") (hm:X.mg "isinstance"=none) (hgT:Gl X T) (hmT:X.mg T=some (.ref C')) (ht:fN K kn xs (.ref C')=true) (he:PE X e (tF K p ds ds1 d1 f)) (hdT:(T == ("__debug__" : Str))=false)
  (hs1:starEach [e,.Name T pt] X.env=(false,eval e X.env) :: starEach [.Name T pt] X.env) (hs2:starEach [.Name T pt] X.env=(false,eval (.Name T pt) X.env) :: starEach [] X.env) (hpl:(backTo pos (starEach [.Name T pt] X.env)).any (·.1)=false) :
  PE X (.Call (.Name "isinstance" px) [e,.Name T pt] [] pos) (tF K p ds ds1 3 (e1 (bi kn xs) f)):=by
 subst hK;exact (hU (rq (c:=.ref C') (fun u z=>z) ht) hg hm boot_isinstance (bU he (bU (nW (v:=.ref C') hgT hmT rfl hdT) pa_nil hs2) hs1) (by decide) (by decide) hs1 hpl).imp fun σ H Q h=>sP h
def JK {T:Str} {n:String} {px pt pos:Pos} (hK:X.K=K) (hg:Gl X "isinstance") (hm:X.mg "isinstance"=none) (hgT:Gl X T) (hmT:X.mg T=none) (hbT:bootBuiltins T=some (.type n)) (ht:fN K kn xs (.type n)=true) (he:PE X e (tF K p ds ds1 d1 f)) (hnT:T≠"__name__") (hdT:(T == ("__debug__" : Str))=false)
  (hs1:starEach [e,.Name T pt] X.env=(false,eval e X.env) :: starEach [.Name T pt] X.env) (hs2:starEach [.Name T pt] X.env=(false,eval (.Name T pt) X.env) :: starEach [] X.env) (hpl:(backTo pos (starEach [.Name T pt] X.env)).any (·.1)=false) :
  PE X (.Call (.Name "isinstance" px) [e,.Name T pt] [] pos) (tF K p ds ds1 3 (e1 (bi kn xs) f)):=by
 subst hK;exact (hU (rq (c:=.ty n) (fun u z=>z) ht) hg hm boot_isinstance (bU he (bU (sx (v:=.ty n) hgT hmT hbT rfl hnT hdT) pa_nil hs2) hs1) (by decide) (by decide) hs1 hpl).imp fun σ H Q h=>sP h
end
end L2
namespace L2
open PySem PySem.Spec PyProof.Rows
section
variable {X:Cx} {K:PySem.W.Frag} {O:AS} {H:Hp}
end
section
variable {X:Cx} {K:PySem.W.Frag} {p:Bool} {ds ds1:List Nat} {d1:Nat} {e:Expr} {f:ME} {kn xs:List Str}
def mq {T:Str} {C':Addr} {px pt pos:Pos} (hK:X.K=K) (hg:Gl X "isinstance") (hm:X.mg "isinstance"=none) (hgT:Gl X T) (hmT:X.mg T=some (.ref C')) (ht:fN K kn xs (.ref C')=true) (he:QE X e (tF K p ds ds1 d1 f)) (hdT:(T == ("__debug__" : Str))=false) (hs:aF e=true) :
  QE X (.Call (.Name "isinstance" px) [e,.Name T pt] [] pos) (tF K p ds ds1 3 (e1 (bi kn xs) f)):=⟨JI hK hg hm hgT hmT ht he.h hdT (a7 hs) (a7 rfl) (cQ rfl)⟩
def xO {T:Str} {n:String} {px pt pos:Pos} (hK:X.K=K) (hg:Gl X "isinstance") (hm:X.mg "isinstance"=none) (hgT:Gl X T) (hmT:X.mg T=none) (hbT:bootBuiltins T=some (.type n)) (ht:fN K kn xs (.type n)=true) (he:QE X e (tF K p ds ds1 d1 f)) (hnT:T≠"__name__") (hdT:(T == ("__debug__" : Str))=false) (hs:aF e=true) :
  QE X (.Call (.Name "isinstance" px) [e,.Name T pt] [] pos) (tF K p ds ds1 3 (e1 (bi kn xs) f)):=⟨JK hK hg hm hgT hmT hbT ht he.h hnT hdT (a7 hs) (a7 rfl) (cQ rfl)⟩
end
def clK (K:PySem.W.Frag) (x:Str):Addr:=match PySem.W.nsIn K mainGlobals x with
 | some (some (.ref C))=>C
 | _=>0
def Ed (K:PySem.W.Frag) (kn:List Str) (y:Str):Bool:=kn.all fun x=>(PySem.W.nsIn K mainGlobals x == some (some (.ref (clK K x)))) && PySem.W.excIn K (clK K x) vE "ValueError.__new__" && Ke K (clK K x) (clK K y)
structure ExcK (K:PySem.W.Frag) (mg:Str->Option Value) (kn:List Str) (y:Str):Prop where
 b:Ed K kn y=true
 m:mg y=some (.ref (clK K y))
 h:PySem.W.excIn K (clK K y) vE "ValueError.__new__"=true
def ExcK.cl {K:PySem.W.Frag} {mg:Str->Option Value} {kn:List Str} {y:Str} (E:ExcK K mg kn y):∀ x∈kn,PySem.W.nsIn K mainGlobals x=some (some (.ref (clK K x))):=fun x hx=>by
 have:=List.all_eq_true.mp E.b x hx;simp only [Bool.and_eq_true,beq_iff_eq] at this;exact this.1.1
section
variable {X:Cx} {K:PySem.W.Frag} {p:Bool} {ds ds1 ds2:List Nat} {d d1 d2:Nat} {e:Expr} {f f1 f2:ME} {σ:St} {H:Hp} {Q Q':VK} {O:AS} {pins:List (Addr × Obj)} {s:Shared}
end
end L2
namespace L2
open PySem PySem.Spec PyProof.Rows Builtin
section
variable {prog:Program} {w:World} {A:Around} {E:Value->Shared->Prop} {s:Shared}
end
section
variable {X:Cx} {K:PySem.W.Frag}
end
section
variable {X:Cx} {K:PySem.W.Frag} {a b:Expr} {rest:List Expr} {pos:Pos} {ta tb:TE} {p p1 p2:Bool} {ds ds1:List Nat} {f1 f2:ME} {σ:St} {H:Hp} {Q:VK}
end
end L2
namespace L2
open PySem PySem.Spec PyProof.Rows
def tCs:List Addr->TA
 | []=>nQ
 | C :: r=>iu (tC (.ref C)) (tCs r)
def sk:∀ (Cs:List Addr) {σ:St} {H:Hp} {Q:List V->Hp->Prop},Q (Cs.map V.ref) H->tCs Cs σ H Q
 | [],_,_,_,h=>h
 | _ :: r,_,_,_,h=>sk r h
def K6 (K:PySem.W.Frag) (kn xs:List Str) (Cs:List Addr):List V->Hp->VK->Prop:=fun vs H Q=>∃ (x:V) (O:AS) (a:D) (b:Bool) (l:Addr),vs=[x,.ref l]/\Ow K O H a 0 x NoA/\bi kn xs a=some (.bool b)/\H l=some (.tup (Cs.map V.ref))/\Q (.bl b) H
def pV:∀ {Cs:List Addr} {us:List Value},Vals (Cs.map V.ref) us->us=Cs.map Value.ref
 | [],_,.nil=>rfl
 | C :: Cs,_,.cons h t=>by
  rw [pV t];exact congrArg (· :: Cs.map Value.ref) h
section
variable {X:Cx} {K:PySem.W.Frag} {p:Bool} {ds ds1:List Nat} {d1:Nat} {e:Expr} {es:List Expr} {f:ME} {kn xs:List Str} {Cs:List Addr}
def Ij:PA X [] (tCs []):=pa_nil
def dk {T:Str} {C:Addr} {q:Pos} (hg:Gl X T) (hm:X.mg T=some (.ref C)) (hd:(T == ("__debug__" : Str))=false) (hr:PA X es (tCs Cs)):PA X (.Name T q :: es) (tCs (C :: Cs)) :=
 bU (nW (v:=.ref C) hg hm rfl hd) hr (a7 rfl)
def yb (ht:p0 X.K kn xs (Cs.map Value.ref)=true):CallR X (.builtin "isinstance") (K6 X.K kn xs Cs):=by
 intro pins s σ H vs us Q I r h;obtain ⟨x,O,a,b,l,rfl,oa,hb,hl,q⟩:=h;obtain ⟨u,u2,rfl,r1,r2⟩:=r.two;cases r2;obtain ⟨zl,its,rv,o,h3,h4,n,h5,_⟩:=(show ObjOk X.prog X.w H s.heap l (.tup (Cs.map V.ref)) from I.hok l _ hl);have ei:=pV rv;subst ei;obtain ⟨oc,od,oda,os⟩:=o;cases h4;cases h5;obtain ⟨z,y,C,rfl,hy,rfl,h1,h2⟩:=qP hb oa;cases r1;have t:=List.all_eq_true.mp ht y hy;rw [h1] at t;simp only [Bool.and_eq_true,beq_iff_eq] at t;obtain ⟨hx,_⟩:=(show ObjOk X.prog X.w H s.heap z (.ext (eW z C)) from I.hok z _ h2);exact PySem.W.kia_tup (qG t.1) I.kIn hx h3 t.2 (fun z=>nomatch z) fun tk=>⟨.bl _,H,I.tok tk,rfl,q⟩
def JJ {px pos tp:Pos} {kk:Nat} (hK:X.K=K) (hg:Gl X "isinstance") (hm:X.mg "isinstance"=none) (hes:PA X es (tCs Cs)) (ht:p0 K kn xs (Cs.map Value.ref)=true) (hl:Cs.length<=63) (he:PE X e (tF K p ds ds1 d1 f)) (hs:aF e=true) :
  PE X (.Call (.Name "isinstance" px) [e,.Tuple es kk tp] [] pos) (tF K p ds ds1 3 (e1 (bi kn xs) f)):=by
 subst hK;refine (hU (yb ht) hg hm boot_isinstance (bU he (bU (vg hes) pa_nil (a7 rfl)) (a7 hs)) (by decide) (by decide) (a7 hs) (cQ rfl)).imp fun σ H Q h=>?_;obtain ⟨Ox,en,R,t,en',e,hf,k⟩:=h;unfold e1 at hf;obtain ⟨⟨t1,en1⟩,h1,hf⟩:=zaa.mp hf;obtain ⟨t',h3,hf⟩:=zab.mp hf;cases hf;obtain ⟨b,rfl⟩:∃ b,t=.bool b:=by
  unfold bi at h3;split at h3
  ·split at h3
   ·cases h3; exact ⟨_,rfl⟩
   ·cases h3
  ·cases h3
 refine ⟨Ox,en,R,t1,en1,e,h1,fun v H' R' F P o=>?_⟩;refine sk Cs ⟨by rw [zad]; exact zau hl (by rw [sizeLine_eq]; decide),fun q hq=>?_⟩;have g:=(bI (o:=.tup (Cs.map V.ref)) hq).1;refine ⟨v,Own R' Ox,t1,b,q,rfl,Ow.mv (G:=NoA) ⟨fun a o e _=>g a o e,fun a z=>.inl z⟩ t1 (fun _ z=>z) (Ow.letgo P (fun _ z=>z) o),h3,aL,?_⟩;exact k _ _ R' NoA ((P.less (F':=NoA) fun _ z=>z.elim).fin ⟨g,fun _ z=>z.elim⟩) rfl
def xN {px pos tp:Pos} {kk:Nat} (hK:X.K=K) (hg:Gl X "isinstance") (hm:X.mg "isinstance"=none) (hes:PA X es (tCs Cs)) (ht:p0 K kn xs (Cs.map Value.ref)=true) (hl:Cs.length<=63) (he:QE X e (tF K p ds ds1 d1 f)) (hs:aF e=true) :
  QE X (.Call (.Name "isinstance" px) [e,.Tuple es kk tp] [] pos) (tF K p ds ds1 3 (e1 (bi kn xs) f)):=⟨JJ hK hg hm hes ht hl he.h hs⟩
end
def tM (K:PySem.W.Frag) (kn:List Str) (c1 c2 c:Value):Bool:=kn.all fun x=>match PySem.W.nsIn K mainGlobals x with
 | some (some (.ref C))=>match PySem.W.exmAny K (.ref C) [c1,c2] with
  | some true=>true
  | some false=>PySem.W.exmOne K (.ref C) c == some true
  | none=>false
 | _=>false
section
variable {X:Cx} {pins:List (Addr × Obj)} {σ:St} {H H1 H':Hp} {s s1 s':Shared} {E:XK} {D:Ends}
def wl {G:Str->Hp->Prop} {cl:Str->Addr} {kn:List Str} {C1 C2 C':Addr} {y1 y2 y n:Str} {j kk:Nat} {pq1 pq2 tq yp hp hp2:Pos} {b₀ b₁:Stmt} {suite suite2:List Stmt} {tb:TS} {ev:Value} (Df:Dfx X) (I:Inv X pins σ H1 s1)
  (hc:CXr X.prog X.w X.stack H1 s1 (fun c _ H'=>∃ x,c=.ref (cl x)/\x∈kn/\G x H') ev s') (hcl:∀ x∈kn,PySem.W.nsIn X.K mainGlobals x=some (some (.ref (cl x)))) (ht:tM X.K kn (.ref C1) (.ref C2) (.ref C')=true)
  (hg1:Gl X y1) (hm1:X.mg y1=some (.ref C1)) (hdb1:(y1 == ("__debug__" : Str))=false) (hg2:Gl X y2) (hm2:X.mg y2=some (.ref C2)) (hdb2:(y2 == ("__debug__" : Str))=false)
  (hg:Gl X y) (hm:X.mg y=some (.ref C')) (hdb:(y == ("__debug__" : Str))=false) (hN:X.N.Nodup) (hj:X.N[j]?=some n) (ln:Loc X.env.scope n) (kn0:X.env.scope.names.lookup n=some .local) (kn':X.env.kindOf n=some .local)
  (hsu:∀ v xe,PSs (X.suite v xe) (b₀ :: suite) tb) (hsu2:∀ v xe,PSs (X.suite v xe) (b₁ :: suite2) tb)
  (k:∀ a x H',x∈kn->G x H'->H' a=none->tb ⟨fun σ' H2=>D.nx (σ'.set j none) H2,fun _ _=>False,fun _ _=>False,fun _ _=>False⟩ (σ.set j (some (.ref a))) (upd H' a (.ext (eW a (cl x))))) :
  pX X pins D [.ExceptHandler (some (.Tuple [.Name y1 pq1,.Name y2 pq2] kk tq)) (some n) (b₀ :: suite) hp,.ExceptHandler (some (.Name y yp)) (some n) (b₁ :: suite2) hp2] ev s':=by
 obtain ⟨a,T,C0,H',rfl,⟨x,eC,hkn,hG⟩,os,bare,un,hok,ha,hT,na,nT,⟨oe,vs,a0,q1,q2,q3,q4,q5⟩,⟨oT,ts,q6,q7,q8⟩,hne⟩:=hc;have eC':C0=cl x:=by injection eC
 subst eC';unfold pX;have fh:s'.heap.FunFrames X.base X.stack:=iS (fun b hb o ho=>un.any ho (I.frn Df.ex b hb) (by simp)) I.stack;have fB:s'.heap.FunFrames (hZ s'.heap (frs X.stack++[a,T])) X.stack:=iB fh fun b hb=>cL (List.mem_append_left _ hb);have frames:X.A.frames=some (X.env :: X.outer):=by rw [<- Df.stk]; exact I.ok.frames
 refine wpAny_noteFrame_onW (base:=hZ s'.heap (frs X.stack++[a,T])) (cls:=.ref (cl x)) (a0:=a0) frames (by rw [<- Df.stk]; exact fB) Df.fr ⟨oe,vs,T,oT,ts,q1,⟨q2,q4⟩,q3,q5,cL (by simp),hne,q6,q7,q8⟩ (fun b o q=>(k9 q).1) (cL (by simp)) fun h2 ⟨st2,f2,tr2,nf2⟩=>?_;refine wpAny_setFlight_noneW (base:=hZ s'.heap (frs X.stack++[a,T])) (l:=X.env :: X.outer) st2 f2 tr2 fun h3 st3 f3 ⟨oe3,vs3,T3,oT3,ts3,g1,⟨g2,g3⟩,g4,g5,g6,g7,g8,g9,g10⟩ nf3=>?_;have nf4:∀ b∈frs X.stack,∀ o,s'.heap.get? b=some o->∃ sl,h3.get? b=some { o with slots:=sl }/\∀ vs,o.data≠.fields vs:=fun b hb o q=>by
  obtain ⟨o2,z1,z2⟩:=cM fh b hb;rw [q] at z1;cases z1;obtain ⟨sl,z3⟩:=nf2 b o q z2;exact ⟨sl,nf3 b _ z3 z2,z2⟩
 have old:∀ b o,s'.heap.get? b=some o->b ∉ frs X.stack->b≠a->b≠T->h3.get? b=some o:=fun b o q z1 z2 z3=>st3 b o (fR q fun z=>by
  rcases zax.mp z with z | z
  ·exact z1 z
  ·have z':b=a\/b=T:=by simpa using z
   exact z'.elim z2 z3)
 have I3:Inv X pins σ H' { heap:=h3,gens:=s'.gens,drawn:=s'.drawn,toks:=s'.toks,os:=s'.os }:=gM I Df.ex os bare un hok ha hT na nT old fun b hb o q=>let ⟨sl,z,_⟩:=nf4 b hb o q; ⟨sl,z⟩;have fin:∀ {b₀:Stmt} {suite:List Stmt} {hp:Pos},(∀ v xe,PSs (X.suite v xe) (b₀ :: suite) tb)->∀ {h4:Heap},(∀ b o,h3.get? b=some o->h4.get? b=some o) ->
   codeAny (model X.prog X.w) (X.A.mark (some (.ref a))) (.handlers (.ref a) [.ExceptHandler none (some n) (b₀ :: suite) hp] X.env) (fun r s₂=>match r with
     | .ok f=>wpAny (model X.prog X.w) X.A (do bindName X.env n .none; unbindBehindTheSuite X.env n hp) (fun _ s₃=>SP X pins D f s₃) X.xe s₂
     | .error x=>cameBackBy (model X.prog X.w) X.A X.env X.xe x s₂) { heap:=h4,gens:=s'.gens,drawn:=s'.drawn,toks:=s'.toks,os:=s'.os }:=by
  intro b₀ suite hp hsu h4 up;have g1:=up _ _ g1;have g8:=up _ _ g8;have old:∀ b o,s'.heap.get? b=some o->b ∉ frs X.stack->b≠a->b≠T->h4.get? b=some o:=fun b o q z1 z2 z3=>up b o (old b o q z1 z2 z3);have nf4:∀ b∈frs X.stack,∀ o,s'.heap.get? b=some o->∃ sl,h4.get? b=some { o with slots:=sl }/\∀ vs,o.data≠.fields vs:=fun b hb o q=>let ⟨sl,z,z2⟩:=nf4 b hb o q; ⟨sl,up _ _ z,z2⟩;have sz3:3 < ts3.size:=by
   rw [Array.getElem?_eq_some_iff] at g10;exact g10.1
  refine codeAny_handlers_suite_as (wpAny_setFlight_none g1 g4 g5 g8 g9 sz3 ?_);have hold:∀ b o,s'.heap.get? b=some o->b ∉ frs X.stack->b≠a->b≠T->(h4.update T3 (Obj.mapFields fun x=>x.setIfInBounds 3 Value.none)).get? b=some o:=fun b o q z1 z2 z3=>by
   rw [Heap.get?_update_ne]
   ·exact old b o q z1 z2 z3
   ·rintro rfl
    have:b∈frs X.stack++[a,T]:=Decidable.byContradiction fun hn=>by
     rw [fR q hn] at g6;cases g6
    rcases zax.mp this with z | z
    ·exact z1 z
    ·have z':b=a\/b=T:=by simpa using z
     exact z'.elim z2 z3
  have hfr:∀ b∈frs X.stack,∀ o,s'.heap.get? b=some o->∃ sl,(h4.update T3 (Obj.mapFields fun x=>x.setIfInBounds 3 Value.none)).get? b=some { o with slots:=sl }:=fun b hb o q=>by
   obtain ⟨sl,z,z2⟩:=nf4 b hb o q;refine ⟨sl,?_⟩;rw [Heap.get?_update_ne]
   ·exact z
   ·rintro rfl;rw [g8] at z;cases z;exact z2 ts3 g9
  have I4:Inv X pins σ H' { heap:=h4.update T3 (Obj.mapFields fun x=>x.setIfInBounds 3 Value.none),gens:=s'.gens,drawn:=s'.drawn,toks:=s'.toks,os:=s'.os }:=gM I Df.ex os bare un hok ha hT na nT hold hfr;have hxa:eW a (cl x) (h4.update T3 (Obj.mapFields fun x=>x.setIfInBounds 3 Value.none)):=by
   refine ⟨oe3,?_,g2,fun c z=>by rw [g4] at z; cases z⟩;rw [Heap.get?_update_ne]
   ·exact g1
   ·exact Ne.symm g7
  have hok2:=I4.hok.more ha hxa;have ne1:∀ b o,s1.heap.get? b=some o->b≠a/\b≠T:=fun b o q=>⟨fun z=>(by rw [z,na] at q; cases q),fun z=>(by rw [z,nT] at q; cases q)⟩;have u2:Un (frs X.stack) [] H1 H' s1.heap (h4.update T3 (Obj.mapFields fun x=>x.setIfInBounds 3 Value.none)):=un.behind (fun b o' q0 o q hb=>hold b o q hb (ne1 b o' q0).1 (ne1 b o' q0).2) fun b o' q0 o q hb=>hfr b hb o q;have I5:Inv X pins σ (upd H' a (.ext (eW a (cl x)))) { heap:=h4.update T3 (Obj.mapFields fun x=>x.setIfInBounds 3 Value.none),gens:=s'.gens,drawn:=s'.drawn,toks:=s'.toks,os:=s'.os }:=by
   rw [os];exact I.call (ch:=[]) (u2.more na ha) hok2 bare fun _ z=>by cases z
  refine kj (X:=X) I5 hN hj ln (v:=.ref a) rfl (fun s2 I6 _=>?_) (.inr kn0);refine wpAny_mono (hsu (.ref a) _ pins s2 _ _ _ (I6.suite _ _) (k a x H' hkn hG ha)) (fun f s4 z=>?_) fun e s4 z=>z;cases f with
  | next =>
   obtain ⟨σ',H2,I7,z⟩:=z;exact vz (I7.unsuite I.ok.hd) hN hj kn' fun s5 I8=>⟨_,_,I8,z⟩
  | ret u=>obtain ⟨_,_,_,_,_,z⟩:=z; exact z.elim
  | brk=>obtain ⟨_,_,_,z⟩:=z; exact z.elim
  | cont=>obtain ⟨_,_,_,z⟩:=z; exact z.elim
 have tt:=List.all_eq_true.mp ht x hkn;rw [hcl x hkn] at tt
 dsimp only at tt
 have LT:PySem.W.Looks (model X.prog X.w) h3 (typeOf (.ref a)) (.ref (cl x)):=g2 ▸ (PySem.W.Looks.ld g1).andThen .now;have up1:∀ b o,h3.get? b=some o->(h3.push { cls:=.type "tuple",data:=.seq [Value.ref C1,Value.ref C2].toArray }).get? b=some o:=fun b o q=>zaf _ q;have kin:=I3.kIn;refine wpAny_handleBy_cons (codeAny_handlers_test (wpAny_Tuple_spliced ?_)) (fun z=>nomatch z);rw [show starEach [Expr.Name y1 pq1,.Name y2 pq2] X.env=(false,eval (.Name y1 pq1) X.env) :: (false,eval (.Name y2 pq2) X.env) :: [] from rfl];refine Calls.spliced_cons (fP (X:=X.suite (.ref a) fun _ _=>False) (I3.suite _ _) hg1 hm1 ?_ hdb1);refine Calls.spliced_cons (fP (X:=X.suite (.ref a) fun _ _=>False) (I3.suite _ _) hg2 hm2 ?_ hdb2);refine Calls.spliced_nil ⟨by show 2<=sizeLine; rw [sizeLine_eq]; decide,?_⟩;cases e1:PySem.W.exmAny X.K (.ref (cl x)) [.ref C1,.ref C2] with
 | none=>rw [e1] at tt; cases tt
 | some b =>
  rw [e1] at tt;refine (PySem.W.exm_tup2 (K:=X.K) (fun b o q=>up1 b o (kin b o q)) (LT.keeps up1) (zan _ rfl) e1).at ?_;cases b with
  | true=>exact fin hsu up1
  | false =>
   have e2:PySem.W.exmOne X.K (.ref (cl x)) (.ref C')=some true:=by simpa using tt
   have I4:Inv X pins σ H' { heap:=h3.push { cls:=.type "tuple",data:=.seq [Value.ref C1,Value.ref C2].toArray },gens:=s'.gens,drawn:=s'.drawn,toks:=s'.toks,os:=s'.os }:=gM I Df.ex os bare un hok ha hT na nT (fun b o q z1 z2 z3=>up1 b o (old b o q z1 z2 z3)) fun b hb o q=>let ⟨sl,z,_⟩:=nf4 b hb o q; ⟨sl,up1 _ _ z⟩;refine wpAny_handleBy_cons (codeAny_handlers_test (fP (X:=X.suite (.ref a) fun _ _=>False) (I4.suite _ _) hg hm ?_ hdb)) (fun z=>nomatch z);exact (PySem.W.exm_one (K:=X.K) (fun b o q=>up1 b o (kin b o q)) (LT.keeps up1) e2).at (fin hsu2 up1)
end
section
variable {X:Cx} {K:PySem.W.Frag} {J:Jd} {ds ds1 ds':List Nat} {b hs:MS} {m:MN} {cl:Str->Addr} {kn:List Str} {kp:List Nat} {C1 C2 C':Addr} {y1 y2 y n:Str} {j kk:Nat} {pq1 pq2 tq yp hp hp2 pos:Pos} {b₀ b₁:Stmt} {suite suite2 body:List Stmt}
def xB (hK:X.K=K) (Df:Dfx X) (hb:∀ xe,QSs (X.wish xe) body (tFS K J ds ds' b)) (hm:∀ xe pins σ E,nE (X.wish xe) pins σ E->PXs (X.wish xe) pins σ E K ds m cl body) (hsu:∀ v xe,QSs (X.suite v xe) (b₀ :: suite) (tFS K J ds ds' hs))
  (hsu2:∀ v xe,QSs (X.suite v xe) (b₁ :: suite2) (tFS K J ds ds' hs)) (hcl:∀ x∈kn,PySem.W.nsIn K mainGlobals x=some (some (.ref (cl x)))) (ht:tM X.K kn (.ref C1) (.ref C2) (.ref C')=true) (hg1:Gl X y1) (hm1:X.mg y1=some (.ref C1)) (hdb1:(y1 == ("__debug__" : Str))=false) (hg2:Gl X y2) (hm2:X.mg y2=some (.ref C2)) (hdb2:(y2 == ("__debug__" : Str))=false)
  (hg:Gl X y) (hmy:X.mg y=some (.ref C')) (hdb:(y == ("__debug__" : Str))=false) (hN:X.N.Nodup) (hj:X.N[j]?=some n) (ln:Loc X.env.scope n) (kn0:X.env.scope.names.lookup n=some .local) (kn':X.env.kindOf n=some .local)
  (hkp:xj ds kp=true) (hjl:j ∉ J.lk) (hjd:ds[j]?=some 0) (hjd':ds'[j]?=some 0) (hjk:j ∉ kp) :
  QS X (.Try body [.ExceptHandler (some (.Tuple [.Name y1 pq1,.Name y2 pq2] kk tq)) (some n) (b₀ :: suite) hp,.ExceptHandler (some (.Name y yp)) (some n) (b₁ :: suite2) hp2] [] [] pos) (tFS K J ds ds' (jy kn kp j b m hs)):=by
 subst hK;refine ⟨fun pins s σ H Dn I h=>?_⟩;obtain ⟨Ox,en,R,fl,env,hf,k⟩:=h;refine wpAny_Try_except ?_;show wpAny (model X.prog X.w) X.A (execs body X.env) _ (pX X pins Dn [.ExceptHandler (some (.Tuple [.Name y1 pq1,.Name y2 pq2] kk tq)) (some n) (b₀ :: suite) hp,.ExceptHandler (some (.Name y yp)) (some n) (b₁ :: suite2) hp2]) s;unfold jy at hf;cases hB:b en with
 | some f1 =>
  rw [hB] at hf;cases f1 with
  | nx e1 =>
   cases hf;refine wpAny_mono ((hb (pX X pins Dn [.ExceptHandler (some (.Tuple [.Name y1 pq1,.Name y2 pq2] kk tq)) (some n) (b₀ :: suite) hp,.ExceptHandler (some (.Name y yp)) (some n) (b₁ :: suite2) hp2])).h pins s σ H Dn (I.wish _) ⟨Ox,en,R,_,env,hB,k⟩) (fun f s1 z=>?_) fun ev s1 z=>z;have z:=z.unwish;cases f with
   | next=>exact wpAny_execs_nil z
   | ret v=>exact z
   | brk=>exact z
   | cont=>exact z
  | rt t e1=>cases hf
  | ct e1=>cases hf
 | none =>
  rw [hB] at hf;obtain ⟨x,hx1,hf⟩:=zaa.mp hf;by_cases hkn:x∈kn
  case neg=>rw [if_neg hkn] at hf; cases hf
  rw [if_pos hkn] at hf;obtain ⟨fl2,hx2,hf⟩:=zaa.mp hf;cases fl2 with
  | rt t e1=>cases hf
  | ct e1=>cases hf
  | nx e2 =>
  cases hf;have hjl2:j < σ.length:=by rw [<- env.l2]; exact (zah.mp hjd).1
  have O:nE (X.wish (pX X pins Dn [.ExceptHandler (some (.Tuple [.Name y1 pq1,.Name y2 pq2] kk tq)) (some n) (b₀ :: suite) hp,.ExceptHandler (some (.Name y yp)) (some n) (b₁ :: suite2) hp2])) pins σ (fun c _ H'=>∃ z,c=.ref (cl z)/\z∈kn/\(z=x/\Reach H (fun i a=>i ∉ kp/\R i a) H')):=fun H1 s1 ev s' I1 hc=>by
   refine wl (G:=fun z H'=>z=x/\Reach H (fun i a=>i ∉ kp/\R i a) H') Df I1.unwish hc hcl ht hg1 hm1 hdb1 hg2 hm2 hdb2 hg hmy hdb hN hj ln kn0 kn' (fun v xe=>(hsu v xe).h) (fun v xe=>(hsu2 v xe).h) ?_;rintro a z H' _ ⟨ez,r⟩ ha;rw [ez];have e1:=env.raised r (xi hkp);have hnew:∀ b o,H' b=some o->(upd H' a (.ext (eW a (cl x)))) b=some o:=fun b o q=>by rw [aC (fun z=>by rw [z,ha] at q; cases q)]; exact q
   have na:¬ Own (fun i a=>i∈kp/\R i a) Ox a:=fun z=>by
    obtain ⟨o,q⟩:=e1.dom a z;rw [ha] at q;cases q
   have e2':EnvOk X.K ds Ox (upd H' a (.ext (eW a (cl x)))) (σ.set j (some (.ref a))) (en.set j (some (bE x))) (fun i a=>i∈kp/\R i a):=by
    refine ⟨fun i t q=>?_,e1.dj,e1.dx,fun b z=>let ⟨o,q⟩:=e1.dom b z; ⟨o,hnew b o q⟩,by rw [zaV,zaV]; exact e1.l1,by rw [zaV]; exact e1.l2⟩;by_cases hij:i=j
    ·subst hij;have hl:i < en.length:=by rw [env.l1]; exact hjl2
     rw [zaP hl] at q;cases q;exact ⟨.ref a,0,by rw [zaP hjl2],hjd,a,[],rfl,.inr (.inr ⟨rfl,.inr ⟨x,cl x,rfl,hcl x hkn,aL,na⟩⟩)⟩
    ·rw [zaO (Ne.symm hij)] at q;obtain ⟨v,d,g1,g2,g3⟩:=e1.at_ i t q;exact ⟨v,d,by rw [zaO (Ne.symm hij)]; exact g1,g2,Ow.mv (G:=fun a=>i∈kp/\R i a) ⟨fun b o q _=>hnew b o q,fun b z=>.inl z⟩ t (fun _ z=>z) g3⟩
   refine ⟨Ox,en.set j (some (bE x)),_,_,e2',hx2,fun σ' H2 R2 P=>?_⟩;refine k (σ'.set j none) H2 R2 ⟨?_,P.fx,fun b o q nn=>?_,fun b z=>?_,fun b o q=>?_,fun i hi=>?_⟩
   ·refine ⟨fun i t q=>?_,P.env.dj,P.env.dx,P.env.dom,by rw [zaV,zaV]; exact P.env.l1,by rw [zaV]; exact P.env.l2⟩;by_cases hij:i=j
    ·subst hij;by_cases hl:i < e2.length
     ·rw [zaP hl] at q; cases q
     ·rw [List.getElem?_eq_none (by rw [zaV]; omega)] at q; cases q
    ·rw [zaO (Ne.symm hij)] at q;obtain ⟨v,d,g1,g2,g3⟩:=P.env.at_ i t q;exact ⟨v,d,by rw [zaO (Ne.symm hij)]; exact g1,g2,g3⟩
   ·exact P.keep b o (hnew b o (r.keep b o q fun i z=>nn i z.2)) fun i z=>nn i z.2
   ·rcases P.own b z with ⟨i,z⟩ | z
    ·exact .inl ⟨i,z.2⟩
    ·by_cases q:∃ i,R i b
     ·exact .inl q
     ·refine .inr ?_;cases qb:H b with
      | none=>rfl
      | some o =>
       have:=hnew b o (r.keep b o qb fun i z=>q ⟨i,z.2⟩);rw [z] at this;cases this
   ·obtain ⟨o',q'⟩:=r.dom b o q;exact P.dom b o' (hnew b o' q')
   ·have:=P.lk i hi;have hij:j≠i:=fun z=>hjl (z ▸ hi);rw [zaO hij,this,zaO hij]
  exact wpAny_mono (hm _ pins σ _ O s H (I.wish _) fun D=>⟨_,hidE kp en,_,x,env.hidE kp,hx1,fun H' r=>⟨x,rfl,hkn,rfl,r⟩⟩) (fun _ _ z=>z.elim) fun _ _ z=>z
end
end L2
namespace L2
namespace Pen3
open PySem L2
def sl1000:1000<=sizeLine:=by rw [sizeLine_eq]; decide
def fq:MS:=(ai (al 2 (eC (.int 0)))
 (ai (sIf (tV (e2 gtI (eN bd (ad (ac 0) ag)) (eC (.int 0)))) (al 2 (e2 ixA (ac 0) (e2 bv (ac 1) (eN bd (ad (ac 0) ag))))) aZ)
 (ai (sIf (dJ (tV (e2 ltI (ac 1) (eN bd (ad (ac 0) ag)))) (tV (e2 geI (eN jP (ad (ac 2) ag)) (e2 ko (eC (.int 10)) (eC (.int 18)))))) (aB (bg (ad (eN jP (ad (ac 2) ag)) (ad (eC (.int 0)) (ad (eC (.int 0)) ag))))) aZ)
 (aB (bg (ad (eC (.int 0)) (ad (e2 aV (e2 bv (ac 2) (eC (.int 999999937))) (e2 bJ (eC (.int 70001)) (ac 1))) (ad (eC (.int 0)) ag))))))))
def cA:List D->Option (D × En):=fnF 1 [0,0] fq
def j9:MS:=(ai (sIf (tV (e2 gtI (cX 0 (eC (.int 0))) (eC (.int 0)))) (ai (al 2 (e2 bv (cX 0 (eC (.int 0))) (ac 1)))
 (ai (fu 0 (eC (.int 0)) (e2 cV (cX 0 (eC (.int 0))) (ac 1)))
 (aB (ac 2)))) aZ)
 (ai (fu 0 (eC (.int 2)) (e2 aV (cX 0 (eC (.int 2))) (eC (.int 1))))
 (ai (al 3 (e2 bv (e2 aV (e2 aV (e2 bJ (cX 0 (eC (.int 1))) (eC (.int 48271))) (e2 bJ (cX 0 (eC (.int 2))) (eC (.int 39373)))) (eC (.int 11))) (eC (.int 2147483647))))
 (ai (al 3 (e2 bv (e2 bJ (ac 3) (e2 aV (e2 bv (ac 3) (eC (.int 65521))) (cX 0 (eC (.int 2))))) (eC (.int 2147483629))))
 (aB (e2 bv (e2 cV (ac 3) (eC (.int 64))) (ac 1)))))))
def F_law_draw:List D->Option (D × En):=fnF 2 [1,0] j9
def fw (a b c:Int):D:=.list [.int a,.int b,.int c]
def IsPen (t:D):Prop:=∃ a b c,t=fw a b c
def draw_ok {p:D} {m:Int} (hp:IsPen p) (h3:0 < m) (h4:m < 1073741824):∃ r p',F_law_draw [p,.int m]=some (.int r,[some p',none])/\0<=r/\r < m/\IsPen p':=by
 obtain ⟨a,b,c,rfl⟩:=hp;have cd:∀ z,gI z m:=fun z=>⟨h3,h4⟩;have md:∀ z,bv (.int z) (.int m)=some (.int (z % m)):=fun z=>if_pos h3;have dv:∀ z,cV (.int z) (.int m)=some (.int (z / m)):=fun z=>if_pos (cd z);by_cases ha:0 < a
 ·refine ⟨a % m,fw (a / m) b c,?_,zbb _ (by omega),zbc _ h3,_,_,_,rfl⟩;refine cH (b:=j9) (en:=[some (fw (a / m) b c),some (.int m),some (.int (a % m)),none]) (jo (fF (b:=decide ((0:Int) < a)) rfl (zaB ha) (aD (en1:=[some (fw a b c),some (.int m),some (.int (a % m)),none]) (ck (a9 (t1:=.int a) (t2:=.int m) rfl rfl (md a)) rfl) (aD (en1:=[some (fw (a / m) b c),some (.int m),some (.int (a % m)),none]) ?_ rfl))));unfold fu;rw [a9 (t1:=.int a) (t2:=.int m) (f1:=cX 0 (eC (.int 0))) (f2:=ac 1) (g:=cV) (en:=[some (fw a b c),some (.int m),some (.int (a % m)),none]) (en1:=[some (fw a b c),some (.int m),some (.int (a % m)),none]) (en2:=[some (fw a b c),some (.int m),some (.int (a % m)),none]) rfl rfl (dv a)];rfl
 ·generalize g1:(b * 48271+(c+1) * 39373+11) % 2147483647=x;have x0:0<=x:=by omega
  have x1:x < 2147483647:=by omega
  generalize g2:x * (x % 65521+(c+1)) % 2147483629=y;refine ⟨y / 64 % m,fw a b (c+1),?_,zbb _ (by omega),zbc _ h3,_,_,_,rfl⟩;have c1:bJ (.int b) (.int 48271)=some (.int (b * 48271)):=if_pos (.inr (by decide));have c2:bJ (.int (c+1)) (.int 39373)=some (.int ((c+1) * 39373)):=if_pos (.inr (by decide));have c3:bJ (.int x) (.int (x % 65521+(c+1)))=some (.int (x * (x % 65521+(c+1)))):=if_pos (.inl (by constructor <;> omega));have c80:gI y 64:=⟨by decide,by decide⟩;have c8:cV (.int y) (.int 64)=some (.int (y / 64)):=by
   show (if gI y 64 then some (PyData.int (y / 64)) else none)=_;rw [if_pos c80]
  refine cH (b:=j9) (en:=[some (fw a b (c+1)),some (.int m),none,some (.int y)]) (aD (en1:=[some (fw a b c),some (.int m),none,none]) (kG (b:=decide ((0:Int) < a)) rfl (zaA ha) rfl)
   (aD (en1:=[some (fw a b (c+1)),some (.int m),none,none]) rfl
   (aD (en1:=[some (fw a b (c+1)),some (.int m),none,some (.int x)]) (ck (a9 (t2:=.int 2147483647) (a9 (a9 (a9 (t1:=.int b) (t2:=.int 48271) rfl rfl c1) (a9 (t1:=.int (c+1)) (t2:=.int 39373) rfl rfl c2) rfl) rfl rfl) rfl (by rw [<- g1]; rfl)) rfl)
   (aD (en1:=[some (fw a b (c+1)),some (.int m),none,some (.int y)]) (ck (a9 (t2:=.int 2147483629) (a9 (t1:=.int x) (t2:=.int (x % 65521+(c+1))) rfl (a9 (t1:=.int (x % 65521)) (t2:=.int (c+1)) rfl rfl rfl) c3) rfl (by rw [<- g2]; rfl)) rfl)
   (jN (a9 (t2:=.int m) (a9 (t1:=.int y) (t2:=.int 64) rfl rfl c8) rfl (md _)))))))
end Pen3
end L2
namespace Mch
open PySem L2 Pen2
def cu:MS:=(aB (eLC true (be (e2 ixA (ac 0) (eC (.int 0)))) (gN 0) cY (eIf (tV (ac 0)) (eC (.int 1)) (eC (.int 0))) [none]))
def br:List D->Option (D × En):=fnF 0 [0] cu
def bC:MS:=(aB (eLC true (be (e2 ixA (ac 0) (eC (.int 1)))) (gN 0) cY (eN gy (ad (eLC true (be (ac 0)) (gN 0) (tV (e2 dZ (ac 0) (eC .none))) (e2 ixA (ac 1) (ac 0)) [none,some 1]) ag)) [none,some 1]))
def aW:List D->Option (D × En):=fnF 0 [0,0] bC
noncomputable def kU:MS:=(ai (al 2 (bg (ad (ak br (ad (ac 0) ag)) ag)))
 (ai (bt (tV (e2 leI (eN bd (ad (ac 2) ag)) (ac 1))) (bQ (bK 2 (ak aW (ad (ac 0) (ad (cX 2 (e1 iM (eC (.int 1)))) ag))))))
 (aB (ac 2))))
noncomputable def cr:List D->Option (D × En):=fnF 1 [0,0] kU
def gl:MS:=(aB (e2 ixA (bg (ad (eC (.int 2)) (ad (eC (.int 1)) (ad (eC (.int 3)) (ad (eC (.int 2)) (ad (eC (.int 4)) (ad (eC (.int 3)) (ad (eC (.int 2)) (ad (e2 aV (eC (.int 5)) (ak aq (aH 0 (ad (eC (.int 8)) ag)))) ag))))))))) (ak aq (aH 0 (ad (eC (.int 8)) ag)))))
def dA:List D->Option (D × En):=fnF 0 [1] gl
def dX:MS:=(ai (al 4 (ak aq (aH 0 (ad (e2 aV (ac 2) (eC (.int 1))) ag))))
 (ai (sIf (bOr (tV (e2 eqD (ac 4) (ac 2))) (dJ (tV (e2 eqD (ac 3) (eC (.int 1)))) (tV (e2 leI (ac 4) (ac 1))))) (aB (eC .none)) aZ)
 (aB (ac 4))))
def bB:List D->Option (D × En):=fnF 1 [1,0,0,0] dX
def di:MS:=(ai (al 3 (e2 aV (eC (.int 1)) (ak aq (aH 0 (ad (ac 2) ag)))))
 (ai (al 4 (ak aq (aH 0 (ad (eC (.int 4)) ag))))
 (ai (al 5 (e2 aV (eC (.int 1)) (ak aq (aH 0 (ad (ac 3) ag)))))
 (ai (al 6 (bg ag))
 (ai (al 7 (bg ag))
 (ai (cF (bG (ad (ac 3) ag)) (gN 8) (ai (bQ (bK 6 (e2 eqD (ak aq (aH 0 (ad (eC (.int 3)) ag))) (eC (.int 0)))))
 (ai (al 9 (eLC false (bG (ad (ac 1) ag)) (gN 0) cY (ak bB (aH 1 (ad (ac 4) (ad (ac 2) (ad (ac 3) ag))))) [none,some 0,some 3,some 4,some 8]))
 (ai (sIf (dJ (tV (e2 eqD (ac 4) (eC (.int 2)))) (tV (e2 ltI (ac 8) (ac 5)))) (ai (fu 6 (ac 8) (eC (.bool false)))
 (al 9 (eLC true (be (ac 9)) (gN 0) cY (e2 ixA (bg (ad (ac 0) (ad (eC .none) ag))) (eN iQ (ad (eOr (e2 isN (ac 0) (eC .none)) (e2 geI (ac 0) (ac 1))) ag))) [none,some 5]))) aZ)
 (bQ (bK 7 (ac 9)))))))
 (aB (eX (ad (ac 6) (ad (ac 7) ag))))))))))
def cy:List D->Option (D × En):=fnF 7 [1,0,0] di
def goD:Option Nat->D
 | none=>.none
 | some j=>.int j
def aT (r:List (Option Nat)):D:=.list (r.map goD)
def ao (es:List Bool) (gs:List (List (Option Nat))):D:=.tuple [.list (es.map .bool),.list (gs.map aT)]
def fJ (S W:Nat) (r:List (Option Nat)):Prop:=r.length=W/\∀ o∈r,∀ j,o=some j->j < S
def wL {ns:List Int} {k l:Int} (h0:0<=k) (h1:k<=1000) (h2:0<=l):∃ (s:Nat) (k' l':Int),dA [penD ns k l]=some (.int s,[some (penD ns k' l')])/\1<=s/\s<=12/\k<=k'/\k'<=k+2/\0<=l':=by
 obtain ⟨r1,k1,l1,e1,a1,a2,a3,a4,a5⟩:=fV (ns:=ns) (k:=k) (l:=l) (m:=8) (i:=0) (en:=[some (penD ns k l)]) (fa:=aH 0 (ad (eC (.int 8)) ag)) rfl rfl h0 (by omega) h2 (by decide) (by decide);obtain ⟨r2,k2,l2,e2',b1,b2,b3,b4,b5⟩:=fV (ns:=ns) (k:=k1) (l:=l1) (m:=8) (i:=0) (en:=[some (penD ns k1 l1)]) (fa:=aH 0 (ad (eC (.int 8)) ag)) rfl rfl (by omega) (by omega) a5 (by decide) (by decide);have hx:∃ s:Nat,ixA (.list [.int 2,.int 1,.int 3,.int 2,.int 4,.int 3,.int 2,.int (5+r1)]) (.int r2)=some (.int s)/\1<=s/\s<=12:=by
  have:r2=0\/r2=1\/r2=2\/r2=3\/r2=4\/r2=5\/r2=6\/r2=7:=by omega
  rcases this with rfl | rfl | rfl | rfl | rfl | rfl | rfl | rfl
  ·exact ⟨2,rfl,by decide,by decide⟩
  ·exact ⟨1,rfl,by decide,by decide⟩
  ·exact ⟨3,rfl,by decide,by decide⟩
  ·exact ⟨2,rfl,by decide,by decide⟩
  ·exact ⟨4,rfl,by decide,by decide⟩
  ·exact ⟨3,rfl,by decide,by decide⟩
  ·exact ⟨2,rfl,by decide,by decide⟩
  ·refine ⟨(5+r1).toNat,?_,by omega,by omega⟩;rw [show (((5+r1).toNat:Nat):Int)=5+r1 by omega];rfl
 obtain ⟨s,ex,s1,s2⟩:=hx;refine ⟨s,k2,l2,?_,s1,s2,by omega,by omega,b5⟩;refine cH (en:=[some (penD ns k2 l2)]) (jN (a9 (en1:=[some (penD ns k1 l1)]) (ni (eJ rfl (eJ rfl (eJ rfl (eJ rfl (eJ rfl (eJ rfl (eJ rfl (eJ (a9 rfl e1 rfl) rfl)))))))) rfl ?_) e2' ex));exact zau (by show 8<=100; decide) aP
def EW {ns:List Int} {k l way:Int} {i S:Nat} (hS:S<=60) (h0:0<=k) (h1:k<=10000) (h2:0<=l):∃ (o:Option Nat) (k' l':Int),bB [penD ns k l,.int i,.int S,.int way]=some (goD o,[some (penD ns k' l'),none,none,none])/\(∀ j,o=some j->j < S)/\k<=k'/\k'<=k+1/\0<=l':=by
 obtain ⟨r1,k1,l1,e1,a1,a2,a3,a4,a5⟩:=fV (ns:=ns) (k:=k) (l:=l) (m:=S+1) (i:=0) (en:=[some (penD ns k l),some (.int i),some (.int S),some (.int way),none]) (fa:=aH 0 (ad (e2 aV (ac 2) (eC (.int 1))) ag)) rfl rfl h0 (by omega) h2 (by omega) (by omega);have c1:(tV (e2 eqD (ac 4) (ac 2))) [some (penD ns k1 l1),some (.int i),some (.int S),some (.int way),some (.int r1)]=some (r1 == (S:Int),[some (penD ns k1 l1),some (.int i),some (.int S),some (.int way),some (.int r1)]):=rfl;have c2:(tV (e2 eqD (ac 3) (eC (.int 1)))) [some (penD ns k1 l1),some (.int i),some (.int S),some (.int way),some (.int r1)]=some (way == 1,[some (penD ns k1 l1),some (.int i),some (.int S),some (.int way),some (.int r1)]):=rfl;have c3:(tV (e2 leI (ac 4) (ac 1))) [some (penD ns k1 l1),some (.int i),some (.int S),some (.int way),some (.int r1)]=some (decide (r1<=(i:Int)),[some (penD ns k1 l1),some (.int i),some (.int S),some (.int way),some (.int r1)]):=rfl;obtain ⟨b,cb,hb⟩:∃ b,(bOr (tV (e2 eqD (ac 4) (ac 2))) (dJ (tV (e2 eqD (ac 3) (eC (.int 1)))) (tV (e2 leI (ac 4) (ac 1))))) [some (penD ns k1 l1),some (.int i),some (.int S),some (.int way),some (.int r1)]=some (b,[some (penD ns k1 l1),some (.int i),some (.int S),some (.int way),some (.int r1)])/\(b=false->r1≠S):=by
  cases q1:(r1 == (S:Int)) with
  | true=>exact ⟨true,rd c1 q1,fun z=>by cases z⟩
  | false =>
   have n1:r1≠S:=by simpa using q1
   cases q2:(way == 1) with
   | true=>exact ⟨_,nh c1 q1 (sW c2 q2 c3),fun _=>n1⟩
   | false=>exact ⟨_,nh c1 q1 (sX c2 q2),fun _=>n1⟩
 cases b with
 | true=>exact ⟨none,k1,l1,cH (b:=dX) (t:=.none) (en:=[some (penD ns k1 l1),some (.int i),some (.int S),some (.int way),some (.int r1)]) (aD (en1:=[some (penD ns k1 l1),some (.int i),some (.int S),some (.int way),some (.int r1)]) (ck e1 rfl) (jo (fF cb rfl rfl))),fun _ (z:none=some _)=>(by cases z),a3,a4,a5⟩
 | false =>
  have:=hb rfl;refine ⟨some r1.toNat,k1,l1,?_,fun j hj=>by cases hj; omega,a3,a4,a5⟩;have e:goD (some r1.toNat)=.int r1:=by show PyData.int ((r1.toNat:Nat):Int)=_; rw [Int.toNat_of_nonneg a1]
  rw [e];exact cH (b:=dX) (en:=[some (penD ns k1 l1),some (.int i),some (.int S),some (.int way),some (.int r1)]) (aD (en1:=[some (penD ns k1 l1),some (.int i),some (.int S),some (.int way),some (.int r1)]) (ck e1 rfl) (aD (kG cb rfl rfl) rfl))
def Ia (n:Nat) (hn:n < 1000000):-(2 ^ 62)<=(n:Int)/\(n:Int) < 2 ^ 62:=by
 have:(n:Int) < 1000000:=by omega
 constructor
 ·exact Int.le_trans (by decide +kernel) (Int.natCast_nonneg n)
 ·exact Int.lt_of_lt_of_le this (by decide +kernel)
def JV {j:Int} (p1:-(2 ^ 62)<=j/\j < 2 ^ 62) {fa:MA} {en en1:En} (h:fa en=some ([.inl (.int j)],en1)):bG fa en=some ((List.range j.toNat).map fun k=>.int (0+(k:Nat)),en1):=by
 unfold bG;rw [h];simp only [Option.bind_some];exact if_pos p1
def sV {n:Nat} {fa:MA} {en en1:En} (h:fa en=some ([.inl (.int n)],en1)) (hn:n < 1000000):bG fa en=some ((List.range n).map fun k=>.int (0+(k:Nat)),en1):=by
 have e:=JV (Ia n hn) h;rw [zaL] at e;exact e
def mEn (mo:Int) (ns:List Int) (k l:Int) (W S:Nat) (way fence:Int) (es:List Bool) (gs:List (List (Option Nat))) (x y:Option D):En :=
 [some (penD ns k l),some (.int W),some (.int mo),some (.int S),some (.int way),some (.int fence),some (.list (es.map .bool)),some (.list (gs.map aT)),x,y]
def mw (fence:Int):Option Nat->Option Nat
 | some j=>if fence<=(j:Int) then none else some j
 | none=>none
def xY (fence:Int):D->D
 | .int j=>if fence<=j then .none else .int j
 | _=>.none
def J2 {fence:Int} (o:Option Nat):xY fence (goD o)=goD (mw fence o):=by
 cases o with
 | none=>rfl
 | some j =>
  show (if fence<=(j:Int) then PyData.none else .int j)=goD (if fence<=(j:Int) then none else some j);split <;> rfl
def mT {mo:Int} {ns:List Int} {k l way fence:Int} {W S i:Nat} {es:List Bool} {gs:List (List (Option Nat))} {y:Option D} (hW:W<=12) (hS:S<=60) (h0:0<=k) (h1:k<=9000) (h2:0<=l) :
  ∃ (r:List (Option Nat)) (k' l':Int),eLC false (bG (ad (ac 1) ag)) (gN 0) cY (ak bB (aH 1 (ad (ac 4) (ad (ac 2) (ad (ac 3) ag))))) [none,some 0,some 3,some 4,some 8] (mEn mo ns k l W S way fence es gs (some (.int i)) y)
   = some (aT r,mEn mo ns k' l' W S way fence es gs (some (.int i)) y)/\fJ S W r/\k<=k'/\k'<=k+12/\0<=l':=by
 have hl:((List.range W).map fun k=>PyData.int (0+(k:Nat))).length=W:=by rw [zad,List.length_range]
 obtain ⟨us,ex,e1,⟨o,k',l',rfl,q1,q2,q3⟩,a⟩:=sK (N:=W) (g:=gN 0) (c:=cY) (f:=ak bB (aH 1 (ad (ac 4) (ad (ac 2) (ad (ac 3) ag)))))
  (fun n en=>∃ o k' l',en=[o,some (penD ns k' l'),some (.int S),some (.int way),some (.int i)]/\k<=k'/\k'<=k+n/\0<=l') (fun _ q=>∃ o,q=goD o/\∀ j,o=some j->j < S)
  (fun n t en hn ⟨o,k',l',he,q1,q2,q3⟩=>by
   subst he;obtain ⟨o',k2,l2,e,p1,p2,p3,p4⟩:=EW (ns:=ns) (k:=k') (l:=l') (way:=way) (i:=i) (S:=S) hS (by omega) (by omega) q3;exact ⟨[some t,some (penD ns k' l'),some (.int S),some (.int way),some (.int i)],[some t,some (penD ns k' l'),some (.int S),some (.int way),some (.int i)],goD o',[some t,some (penD ns k2 l2),some (.int S),some (.int way),some (.int i)],rfl,rfl,gY (as:=[.inr 1,.inl (.int i),.inl (.int S),.inl (.int way)]) rfl rfl e rfl,⟨some t,k2,l2,rfl,by omega,by omega,p4⟩,⟨o',rfl,p1⟩⟩)
  ((List.range W).map fun k=>.int (0+(k:Nat))) [] 0 (cz [none,some 0,some 3,some 4,some 8] (mEn mo ns k l W S way fence es gs (some (.int i)) y)) ⟨none,k,l,rfl,Int.le_refl _,by omega,h2⟩ (by rw [hl]; omega) (by rw [hl]; show 0+W<=_; exact zau (by omega) aP)
 obtain ⟨os,rfl,o1,o2⟩:=a.ex;rw [hl] at o1 q2;refine ⟨os,k',l',nj (sV (n:=W) rfl (by omega)) e1 rfl,⟨o1,o2⟩,q1,by omega,q3⟩
def ES {n:Nat} {j:Int} (h0:0<=j) (h1:j < n):ixN n j=some j.toNat:=by
 unfold ixN;rw [if_pos h0,if_pos h1]
def og {n i:Nat} (h:i < n):ixN n (i:Int)=some i:=by
 have e:=ES (n:=n) (j:=(i:Int)) (Int.natCast_nonneg i) (Int.ofNat_lt.mpr h);rw [zaL] at e;exact e
def FM {mo:Int} {ns:List Int} {k l way fence:Int} {W S i:Nat} {es:List Bool} {gs:List (List (Option Nat))} {r:List (Option Nat)} (hr:fJ S W r) (hW:W<=12) :
  eLC true (be (ac 9)) (gN 0) cY (e2 ixA (bg (ad (ac 0) (ad (eC .none) ag))) (eN iQ (ad (eOr (e2 isN (ac 0) (eC .none)) (e2 geI (ac 0) (ac 1))) ag))) [none,some 5] (mEn mo ns k l W S way fence es gs (some (.int i)) (some (aT r)))
   = some (aT (r.map (mw fence)),mEn mo ns k l W S way fence es gs (some (.int i)) (some (aT r))):=by
 obtain ⟨o',e⟩:=la (F:=xY fence) (rest:=[some (.int fence)]) (f:=e2 ixA (bg (ad (ac 0) (ad (eC .none) ag))) (eN iQ (ad (eOr (e2 isN (ac 0) (eC .none)) (e2 geI (ac 0) (ac 1))) ag))) (r.map goD) [] none (fun t ht=>by
  obtain ⟨o,ho,rfl⟩:=zaz.mp ht;have l2:bg (ad (ac 0) (ad (eC .none) ag)) [some (goD o),some (.int fence)]=some (.list [goD o,.none],[some (goD o),some (.int fence)]):=ni rfl rfl (zau (by show 2<=100; decide) aP);cases o with
  | none=>exact a9 l2 (t2:=.int 1) rfl rfl
  | some j =>
   by_cases hf:fence<=(j:Int)
   ·refine a9 l2 (t2:=.int 1) ?_ (show _=some (if fence<=(j:Int) then PyData.none else .int j) by rw [if_pos hf]; rfl);show some (PyData.int (if decide (fence<=(j:Int)) then 1 else 0),_)=_;rw [zaB hf];rfl
   ·refine a9 l2 (t2:=.int 0) ?_ (show _=some (if fence<=(j:Int) then PyData.none else .int j) by rw [if_neg hf]; rfl);show some (PyData.int (if decide (fence<=(j:Int)) then 1 else 0),_)=_;rw [zaA hf];rfl) (by rw [zad,hr.1]; exact zau (by show 0+W<=100; omega) aP)
 have em:(r.map goD).map (xY fence)=(r.map (mw fence)).map goD:=by
  rw [zaR,zaR];exact List.map_congr_left fun o _=>J2 o
 rw [em] at e;exact nj (en1:=mEn mo ns k l W S way fence es gs (some (.int i)) (some (aT r))) rfl e rfl
def J1 {S W:Nat} {fence:Int} {r:List (Option Nat)} (hr:fJ S W r):fJ S W (r.map (mw fence)):=by
 refine ⟨by rw [zad,hr.1],fun o ho j hj=>?_⟩;obtain ⟨o',h1,h2⟩:=zaz.mp ho;cases o' with
 | none=>rw [hj] at h2; cases h2
 | some j' =>
  rw [hj] at h2;have h3:(if fence<=(j':Int) then none else some j')=some j:=h2;split at h3
  ·cases h3
  ·cases h3;exact hr.2 _ h1 _ rfl
def D1:MS:=(ai (bQ (bK 6 (e2 eqD (ak aq (aH 0 (ad (eC (.int 3)) ag))) (eC (.int 0)))))
 (ai (al 9 (eLC false (bG (ad (ac 1) ag)) (gN 0) cY (ak bB (aH 1 (ad (ac 4) (ad (ac 2) (ad (ac 3) ag))))) [none,some 0,some 3,some 4,some 8]))
 (ai (sIf (dJ (tV (e2 eqD (ac 4) (eC (.int 2)))) (tV (e2 ltI (ac 8) (ac 5)))) (ai (fu 6 (ac 8) (eC (.bool false)))
 (al 9 (eLC true (be (ac 9)) (gN 0) cY (e2 ixA (bg (ad (ac 0) (ad (eC .none) ag))) (eN iQ (ad (eOr (e2 isN (ac 0) (eC .none)) (e2 geI (ac 0) (ac 1))) ag))) [none,some 5]))) aZ)
 (bQ (bK 7 (ac 9))))))
def FQ {mo:Int} {ns:List Int} {k l way fence:Int} {W S i:Nat} {es:List Bool} {gs:List (List (Option Nat))} {y:Option D} (hW:W<=12) (hS:S<=60) (hi:i < 60) (h0:0<=k) (h1:k<=8000) (h2:0<=l) (he:es.length=i) (hg:gs.length=i) :
  ∃ (b:Bool) (r:List (Option Nat)) (k' l':Int) (y':Option D),D1 (mEn mo ns k l W S way fence es gs (some (.int i)) y)=some (.nx (mEn mo ns k' l' W S way fence (es++[b]) (gs++[r]) (some (.int i)) y'))/\fJ S W r/\k<=k'/\k'<=k+13/\0<=l':=by
 obtain ⟨r1,k1,l1,e1,a1,a2,a3,a4,a5⟩:=fV (ns:=ns) (k:=k) (l:=l) (m:=3) (i:=0) (en:=mEn mo ns k l W S way fence es gs (some (.int i)) y) (fa:=aH 0 (ad (eC (.int 3)) ag)) rfl rfl h0 (by omega) h2 (by decide) (by decide);have lm:(es.map PyData.bool).length < sizeLine:=by rw [zad,he]; exact zag (by omega) aP
 have s1:bQ (bK 6 (e2 eqD (ak aq (aH 0 (ad (eC (.int 3)) ag))) (eC (.int 0)))) (mEn mo ns k l W S way fence es gs (some (.int i)) y)=some (.nx (mEn mo ns k1 l1 W S way fence (es++[r1 == 0]) gs (some (.int i)) y)):=by
  refine re (rf (us:=es.map .bool) (en1:=mEn mo ns k1 l1 W S way fence es gs (some (.int i)) y) rfl (a9 (t2:=.int 0) e1 rfl rfl) rfl lm ?_);unfold mEn;rw [zaC];rfl
 obtain ⟨r,k2,l2,e2',hr,b3,b4,b5⟩:=mT (mo:=mo) (ns:=ns) (k:=k1) (l:=l1) (way:=way) (fence:=fence) (W:=W) (S:=S) (i:=i) (es:=es++[r1 == 0]) (gs:=gs) (y:=y) hW hS (by omega) (by omega) a5;have s2:al 9 (eLC false (bG (ad (ac 1) ag)) (gN 0) cY (ak bB (aH 1 (ad (ac 4) (ad (ac 2) (ad (ac 3) ag))))) [none,some 0,some 3,some 4,some 8]) (mEn mo ns k1 l1 W S way fence (es++[r1 == 0]) gs (some (.int i)) y)=some (.nx (mEn mo ns k2 l2 W S way fence (es++[r1 == 0]) gs (some (.int i)) (some (aT r)))):=ck e2' rfl;have s4:∀ (es':List Bool) (r':List (Option Nat)),bQ (bK 7 (ac 9)) (mEn mo ns k2 l2 W S way fence es' gs (some (.int i)) (some (aT r')))=some (.nx (mEn mo ns k2 l2 W S way fence es' (gs++[r']) (some (.int i)) (some (aT r')))):=by
  intro es' r';refine re (rf (us:=gs.map aT) (en1:=mEn mo ns k2 l2 W S way fence es' gs (some (.int i)) (some (aT r'))) rfl rfl rfl (by rw [zad,hg]; exact zag (by omega) aP) ?_);unfold mEn;rw [zaC];rfl
 have c1:tV (e2 eqD (ac 4) (eC (.int 2))) (mEn mo ns k2 l2 W S way fence (es++[r1 == 0]) gs (some (.int i)) (some (aT r)))=some (way == 2,mEn mo ns k2 l2 W S way fence (es++[r1 == 0]) gs (some (.int i)) (some (aT r))):=rfl;have c2:tV (e2 ltI (ac 8) (ac 5)) (mEn mo ns k2 l2 W S way fence (es++[r1 == 0]) gs (some (.int i)) (some (aT r)))=some (decide ((i:Int) < fence),mEn mo ns k2 l2 W S way fence (es++[r1 == 0]) gs (some (.int i)) (some (aT r))):=rfl;obtain ⟨b,cb⟩:∃ b,dJ (tV (e2 eqD (ac 4) (eC (.int 2)))) (tV (e2 ltI (ac 8) (ac 5))) (mEn mo ns k2 l2 W S way fence (es++[r1 == 0]) gs (some (.int i)) (some (aT r)))=some (b,mEn mo ns k2 l2 W S way fence (es++[r1 == 0]) gs (some (.int i)) (some (aT r))):=by
  cases q1:(way == 2) with
  | true=>exact ⟨_,sW c1 q1 c2⟩
  | false=>exact ⟨_,sX c1 q1⟩
 cases b with
 | false=>exact ⟨r1 == 0,r,k2,l2,_,aD s1 (aD s2 (aD (kG cb rfl rfl) (s4 _ _))),hr,by omega,by omega,b5⟩
 | true =>
  refine ⟨false,r.map (mw fence),k2,l2,some (aT (r.map (mw fence))),aD s1 (aD s2 (aD (en1:=mEn mo ns k2 l2 W S way fence (es++[false]) gs (some (.int i)) (some (aT (r.map (mw fence))))) (fF cb rfl (aD (en1:=mEn mo ns k2 l2 W S way fence (es++[false]) gs (some (.int i)) (some (aT r))) ?_ (ck (FM hr hW) rfl))) (s4 _ _))),J1 hr,by omega,by omega,b5⟩;have ix:ixN ((es++[r1 == 0]).map PyData.bool).length (i:Int)=some i:=og (by rw [zad,zae,he]; exact Nat.lt_succ_self _);have st:((es++[r1 == 0]).map PyData.bool).set i (.bool false)=(es++[false]).map PyData.bool:=by
   have e:(es++[r1 == 0]).set i false=es++[false]:=by
    rw [List.set_append_right _ _ (by omega),he,Nat.sub_self];rfl
   rw [<- e,List.map_set]
  show ((ixN ((es++[r1 == 0]).map PyData.bool).length (i:Int)).map fun k=>Fl.nx ((mEn mo ns k2 l2 W S way fence (es++[r1 == 0]) gs (some (.int i)) (some (aT r))).set 6 (some (.list (((es++[r1 == 0]).map PyData.bool).set k (.bool false))))))=_;rw [ix];show some (Fl.nx ((mEn mo ns k2 l2 W S way fence (es++[r1 == 0]) gs (some (.int i)) (some (aT r))).set 6 (some (.list (((es++[r1 == 0]).map PyData.bool).set i (.bool false))))))=_;rw [st];rfl
def EO {mo:Int} {ns:List Int} {k l:Int} {W:Nat} (mo1:1<=mo) (mo2:mo<=40) (hW:W<=12) (h0:0<=k) (h1:k<=1000) (h2:0<=l) :
  ∃ (es:List Bool) (gs:List (List (Option Nat))) (k' l':Int),cy [penD ns k l,.int W,.int mo]=some (ao es gs,[some (penD ns k' l'),none,none])/\1<=es.length/\(es.length:Int)<=mo/\gs.length=es.length/\(∀ r∈gs,fJ es.length W r)/\k<=k'/\k'<=k+600/\0<=l':=by
 obtain ⟨r1,k1,l1,e1,a1,a2,a3,a4,a5⟩:=fV (ns:=ns) (k:=k) (l:=l) (m:=mo) (i:=0) (en:=[some (penD ns k l),some (.int W),some (.int mo),none,none,none,none,none,none,none]) (fa:=aH 0 (ad (ac 2) ag)) rfl rfl h0 (by omega) h2 (by omega) (by omega);obtain ⟨S,hS⟩:∃ S:Nat,(S:Int)=1+r1:=⟨(1+r1).toNat,by omega⟩;obtain ⟨way,k2,l2,e2',b1,b2,b3,b4,b5⟩:=fV (ns:=ns) (k:=k1) (l:=l1) (m:=4) (i:=0) (en:=[some (penD ns k1 l1),some (.int W),some (.int mo),some (.int S),none,none,none,none,none,none]) (fa:=aH 0 (ad (eC (.int 4)) ag)) rfl rfl (by omega) (by omega) a5 (by decide) (by decide);obtain ⟨r3,k3,l3,e3,c1,c2,c3,c4,c5⟩:=fV (ns:=ns) (k:=k2) (l:=l2) (m:=S) (i:=0) (en:=[some (penD ns k2 l2),some (.int W),some (.int mo),some (.int S),some (.int way),none,none,none,none,none]) (fa:=aH 0 (ad (ac 3) ag)) rfl rfl (by omega) (by omega) b5 (by omega) (by omega);have hl:((List.range S).map fun k=>PyData.int (0+(k:Nat))).length=S:=by rw [zad,List.length_range]
 obtain ⟨en',e4,es,gs,k',l',x,y,rfl,d1,d2,d3,d4,d5,d6⟩:=xF (g:=gN 8) (b:=D1) (ts:=(List.range S).map fun k=>.int (0+(k:Nat)))
  (fun i en=>∃ es gs k' l' x y,en=mEn mo ns k' l' W S way (1+r3) es gs x y/\es.length=i/\gs.length=i/\(∀ r∈gs,fJ S W r)/\k3<=k'/\k'<=k3+13 * i/\0<=l')
  (fun i t en ht ⟨es,gs,k',l',x,y,hen,d1,d2,d3,d4,d5,d6⟩=>by
   subst hen;have hi:i < S:=by have:=(zah.mp ht).1; rw [hl] at this; exact this
   have et:t=.int i:=by
    rw [zao,List.getElem?_range hi] at ht;injection ht with ht
    rw [<- ht];show PyData.int (0+(i:Int))=_;rw [Int.zero_add]
   subst et;obtain ⟨b,r,k4,l4,y',f1,f2,f3,f4,f5⟩:=FQ (mo:=mo) (ns:=ns) (k:=k') (l:=l') (way:=way) (fence:=1+r3) (W:=W) (S:=S) (i:=i) (es:=es) (gs:=gs) (y:=y) hW (by omega) (by omega) (by omega) (by omega) d6 d1 d2;refine ⟨mEn mo ns k' l' W S way (1+r3) es gs (some (.int i)) y,_,rfl,.inl f1,es++[b],gs++[r],k4,l4,some (.int i),y',rfl,by rw [zae,d1]; rfl,by rw [zae,d2]; rfl,fun q hq=>?_,by omega,by omega,f5⟩;rcases zax.mp hq with hq | hq
   ·exact d3 q hq
   ·rw [zaH.mp hq];exact f2)
  (en:=mEn mo ns k3 l3 W S way (1+r3) [] [] none none) ⟨[],[],k3,l3,none,none,rfl,rfl,rfl,fun _ z=>(by cases z),Int.le_refl _,by omega,c5⟩
 rw [hl] at d1 d2 d5;refine ⟨es,gs,k',l',?_,by omega,by omega,by omega,by rw [d1]; exact d3,by omega,by omega,d6⟩;have l0:∀ {en:En},bg ag en=some (.list [],en):=fun {en}=>ni rfl rfl (Nat.zero_le _);refine cH (b:=di) (en:=mEn mo ns k' l' W S way (1+r3) es gs x y)
  (aD (en1:=[some (penD ns k1 l1),some (.int W),some (.int mo),some (.int S),none,none,none,none,none,none]) (ck (a9 rfl e1 (show _=some (PyData.int S) by rw [hS]; rfl)) rfl)
  (aD (en1:=[some (penD ns k2 l2),some (.int W),some (.int mo),some (.int S),some (.int way),none,none,none,none,none]) (ck e2' rfl)
  (aD (en1:=[some (penD ns k3 l3),some (.int W),some (.int mo),some (.int S),some (.int way),some (.int (1+r3)),none,none,none,none]) (ck (a9 rfl e3 rfl) rfl)
  (aD (en1:=[some (penD ns k3 l3),some (.int W),some (.int mo),some (.int S),some (.int way),some (.int (1+r3)),some (.list []),none,none,none]) (ck l0 rfl)
  (aD (en1:=[some (penD ns k3 l3),some (.int W),some (.int mo),some (.int S),some (.int way),some (.int (1+r3)),some (.list []),some (.list []),none,none]) (ck l0 rfl)
  (aD (JW (sV (n:=S) rfl (by omega)) e4) (jN (JU rfl rfl (zau (by show 2<=100; decide) aP)))))))))
def ax (v:List Int):D:=.list (v.map .int)
def kr (v:List Int):D->Option Int
 | .int j=>some (v.getD j.toNat 0)
 | _=>none
def rsD (v:List Int):D->Int
 | .list xs=>(xs.filterMap (kr v)).sum
 | _=>0
def nxt (gs:List (List (Option Nat))) (v:List Int):List Int:=gs.map fun r=>rsD v (aT r)
def base (es:List Bool):List Int:=es.map fun b=>if b then 1 else 0
def it (gs:List (List (Option Nat))) (v:List Int):Nat->List Int
 | 0=>v
 | n+1=>nxt gs (it gs v n)
def pF (v:List Int):D->D
 | .int j=>.int (v.getD j.toNat 0)
 | _=>.none
def ky (v:List Int):∀ r:List (Option Nat),fA ((((r.map goD).filter fun t=>!gU t)).map (pF v))=some ((r.map goD).filterMap (kr v))
 | []=>rfl
 | none :: r=>ky v r
 | some j :: r=>by
  show (fA ((((r.map goD).filter fun t=>!gU t)).map (pF v))).map (v.getD (j:Int).toNat 0 :: ·)=_;rw [ky v r];rfl
def ji {v:List Int} {j:Nat} (h:j < v.length):ixA (ax v) (.int j)=some (.int (v.getD j 0)):=by
 show atI (v.map PyData.int) (j:Int)=_;unfold atI;rw [og (by rw [zad]; exact h)];show (v.map PyData.int)[j]?=_;rw [zao,zak h,List.getD_eq_getElem?_getD,zak h];rfl
def inF:ME:=eN gy (ad (eLC true (be (ac 0)) (gN 0) (tV (e2 dZ (ac 0) (eC .none))) (e2 ixA (ac 1) (ac 0)) [none,some 1]) ag)
def D9 {v:List Int} {r:List (Option Nat)} {S W:Nat} (hr:fJ S W r) (hv:v.length=S) (hW:W<=12):inF [some (aT r),some (ax v)]=some (.int (rsD v (aT r)),[some (aT r),some (ax v)]):=by
 obtain ⟨o',e⟩:=fy (c:=tV (e2 dZ (ac 0) (eC .none))) (f:=e2 ixA (ac 1) (ac 0)) (p:=fun t=>!gU t) (F:=pF v) (rest:=[some (ax v)]) (r.map goD) [] none
  (fun t ht=>by
   obtain ⟨o,ho,rfl⟩:=zaz.mp ht;cases o <;> rfl)
  (fun t ht hp=>by
   obtain ⟨o,ho,rfl⟩:=zaz.mp ht;cases o with
   | none=>cases hp
   | some j=>exact a9 rfl rfl (ji (by rw [hv]; exact hr.2 _ ho _ rfl)))
  (by rw [zad,hr.1]; exact zau (by show 0+W<=100; omega) aP)
 refine mt (eJ (nj rfl e rfl) rfl) rfl ?_;show (fA _).map _=_;rw [List.nil_append,ky];rfl
def El {i:Nat} {en:En} {es:List Bool} {gs:List (List (Option Nat))} {v:List Int} {S W:Nat} (h0:(ac 0) en=some (ao es gs,en)) (hi:(en[i]?).join=some (ax v)) (hg:∀ r∈gs,fJ S W r) (hl:gs.length<=60) (hv:v.length=S) (hW:W<=12) :
  eLC true (be (e2 ixA (ac 0) (eC (.int 1)))) (gN 0) cY inF [none,some i] en=some (ax (nxt gs v),en):=by
 obtain ⟨o',e⟩:=la (f:=inF) (F:=fun t=>.int (rsD v t)) (rest:=[some (ax v)]) (gs.map aT) [] none
  (fun t ht=>by
   obtain ⟨r,hr,rfl⟩:=zaz.mp ht;exact D9 (hg r hr) hv hW)
  (by rw [zad]; exact zau (by show 0+_<=100; omega) aP)
 have e2':(gs.map aT).map (fun t=>PyData.int (rsD v t))=(nxt gs v).map .int:=by
  unfold nxt;rw [zaR,zaR];rfl
 rw [List.nil_append,e2'] at e;refine nj (ts:=gs.map aT) (en1:=en) (ex:=[o',some (ax v)]) ?_ ?_ rfl
 ·have:e2 ixA (ac 0) (eC (.int 1)) en=some (.list (gs.map aT),en):=a9 h0 rfl rfl;unfold be;rw [this];rfl
 ·show lcF (gN 0) cY inF (gs.map aT) [] [none,(en[i]?).join]=_;rw [hi];exact e
def b1F:D->D
 | .bool b=>.int (if b then 1 else 0)
 | _=>.none
def FR {en:En} {es:List Bool} {gs:List (List (Option Nat))} {f:ME} (h0:(ac 0) en=some (ao es gs,en)) (hf:∀ b,f [some (.bool b)]=some (.int (if b then 1 else 0),[some (.bool b)])) (hl:es.length<=60) :
  eLC true (be (e2 ixA (ac 0) (eC (.int 0)))) (gN 0) cY f [none] en=some (ax (base es),en):=by
 obtain ⟨o',e⟩:=la (f:=f) (F:=b1F) (rest:=[]) (es.map .bool) [] none
  (fun t ht=>by
   obtain ⟨b,hb,rfl⟩:=zaz.mp ht;exact hf b)
  (by rw [zad]; exact zau (by show 0+_<=100; omega) aP)
 have e2':(es.map PyData.bool).map b1F=(base es).map .int:=by
  unfold base;rw [zaR,zaR];rfl
 rw [List.nil_append,e2'] at e;refine nj (ts:=es.map .bool) (en1:=en) ?_ e rfl
 have:e2 ixA (ac 0) (eC (.int 0)) en=some (.list (es.map .bool),en):=a9 h0 rfl rfl;unfold be;rw [this];rfl
structure MOk (S W:Nat) (es:List Bool) (gs:List (List (Option Nat))):Prop where
 s1:1<=S
 s2:S<=40
 w1:1<=W
 w2:W<=12
 le:es.length=S
 lg:gs.length=S
 ok:∀ r∈gs,fJ S W r
section
variable {S W:Nat} {es:List Bool} {gs:List (List (Option Nat))}
def MOk.lit (M:MOk S W es gs):∀ n,(it gs (base es) n).length=S
 | 0=>by show (es.map _).length=S; rw [zad,M.le]
 | n+1=>by show (gs.map _).length=S; rw [zad,M.lg]
def bu (gs:List (List (Option Nat))) (es:List Bool) (n:Nat):D:=.list ((List.range (n+1)).map fun i=>ax (it gs (base es) i))
def gR {n:Nat}:((List.range (n+1)).map fun i=>ax (it gs (base es) i)).length=n+1:=by rw [zad,List.length_range]
def u4 {n i:Nat} (h:i<=n):ixA (bu gs es n) (.int i)=some (ax (it gs (base es) i)):=by
 show atI _ (i:Int)=_;unfold atI;rw [og (by rw [gR]; omega)];show ((List.range (n+1)).map fun i=>ax (it gs (base es) i))[i]?=_;rw [zao,List.getElem?_range (by omega)];rfl
def pZ {n:Nat}:atI ((List.range (n+1)).map fun i=>ax (it gs (base es) i)) (-1)=some (ax (it gs (base es) n)):=by
 unfold atI ixN;rw [gR,if_neg (by decide),if_pos (by omega)];show ((List.range (n+1)).map fun i=>ax (it gs (base es) i))[((-1:Int)+((n+1:Nat):Int)).toNat]?=_;rw [show ((-1:Int)+((n+1:Nat):Int)).toNat=n by omega,zao,List.getElem?_range (by omega)];rfl
def pY {n:Nat}:((List.range (n+1)).map fun i=>ax (it gs (base es) i))++[ax (it gs (base es) (n+1))]=(List.range (n+1+1)).map fun i=>ax (it gs (base es) i):=by
 rw [List.range_succ (n:=n+1),zaC];rfl
def EK (M:MOk S W es gs):br [ao es gs]=some (ax (base es),[none]) :=
 cH (b:=cu) (en:=[some (ao es gs)]) (jN (FR rfl (fun b=>by cases b <;> rfl) (by rw [M.le]; have:=M.s2; omega)))
def EN (M:MOk S W es gs) {v:List Int} (hv:v.length=S):aW [ao es gs,ax v]=some (ax (nxt gs v),[none,none]) :=
 cH (b:=bC) (en:=[some (ao es gs),some (ax v)]) (jN (El rfl rfl M.ok (by rw [M.lg]; have:=M.s2; omega) hv M.w2))
def lU (M:MOk S W es gs) {N:Nat} (hN:N<=60):cr [ao es gs,.int N]=some (bu gs es N,[none,none]):=by
 have key:∀ (m n:Nat),n+m=N->bt (tV (e2 leI (eN bd (ad (ac 2) ag)) (ac 1))) (bQ (bK 2 (ak aW (ad (ac 0) (ad (cX 2 (e1 iM (eC (.int 1)))) ag))))) [some (ao es gs),some (.int N),some (bu gs es n)]=some (.nx [some (ao es gs),some (.int N),some (bu gs es N)]):=by
  intro m
  induction m with
  | zero =>
   intro n hn
   have:n=N:=by omega
   subst this;refine lF (iD (a9 (mt rfl rfl rfl) rfl ?_));show some (PyData.bool (decide ((((List.range (n+1)).map fun i=>ax (it gs (base es) i)).length:Int)<=(n:Int))))=_;rw [gR,zaA (by omega)]
  | succ m ih =>
   intro n hn;refine lG (en1:=[some (ao es gs),some (.int N),some (bu gs es n)]) (en2:=[some (ao es gs),some (.int N),some (bu gs es (n+1))]) (iD (a9 (mt rfl rfl rfl) rfl ?_)) ?_ (ih (n+1) (by omega))
   ·show some (PyData.bool (decide ((((List.range (n+1)).map fun i=>ax (it gs (base es) i)).length:Int)<=(N:Int))))=_;rw [gR,zaB (by omega)]
   ·have ix:cX 2 (e1 iM (eC (.int 1))) [some (ao es gs),some (.int N),some (bu gs es n)]=some (ax (it gs (base es) n),[some (ao es gs),some (.int N),some (bu gs es n)]):=by
     show (atI ((List.range (n+1)).map fun i=>ax (it gs (base es) i)) (-1)).map (fun t=>(t,[some (ao es gs),some (PyData.int N),some (bu gs es n)]))=_;rw [pZ];rfl
    refine re (rf (ts:=(List.range (n+1)).map fun i=>ax (it gs (base es) i)) (us:=(List.range (n+1)).map fun i=>ax (it gs (base es) i)) (en1:=[some (ao es gs),some (.int N),some (bu gs es n)]) rfl (gY (eJ rfl (eJ ix rfl)) rfl (EN M (M.lit n)) rfl) rfl (by rw [gR]; exact zag (by omega) aP) ?_);rw [show ax (nxt gs (it gs (base es) n))=ax (it gs (base es) (n+1)) from rfl,pY];rfl
 refine cH (b:=kU) (en:=[some (ao es gs),some (.int N),some (bu gs es N)]) (aD (en1:=[some (ao es gs),some (.int N),some (bu gs es 0)]) (ck (ni (eJ (gY rfl rfl (EK M) rfl) rfl) rfl (zau (by show 1<=100; decide) aP)) rfl) (aD (key N 0 (by omega)) rfl))
end
def qa {v:List Int} {B:Int} (h0:0<=B) (h:∀ x∈v,0<=x/\x<=B):∀ r:List (Option Nat),0<=((r.map goD).filterMap (kr v)).sum/\((r.map goD).filterMap (kr v)).sum<=r.length * B
 | []=>⟨Int.le_refl 0,by show (0:Int)<=(0:Nat) * B; simp⟩
 | none :: r=>by
  have:=qa h0 h r;refine ⟨this.1,?_⟩;show ((r.map goD).filterMap (kr v)).sum<=((r.length+1:Nat):Int) * B;rw [Int.natCast_add,Int.add_mul]
  have:(0:Int)<=((1:Nat):Int) * B:=by omega
  omega
 | some j :: r=>by
  have q:=qa h0 h r;have e:(((some j :: r).map goD).filterMap (kr v)).sum=v.getD j 0+((r.map goD).filterMap (kr v)).sum:=rfl;have g:0<=v.getD j 0/\v.getD j 0<=B:=by
   rw [List.getD_eq_getElem?_getD];cases hj:v[j]? with
   | none=>exact ⟨by decide,h0⟩
   | some x=>exact h x (zaX hj)
  rw [e];refine ⟨by omega,?_⟩;show _<=((r.length+1:Nat):Int) * B;rw [Int.natCast_add,Int.add_mul]
  have:((1:Nat):Int) * B=B:=by simp
  omega
section
variable {S W:Nat} {es:List Bool} {gs:List (List (Option Nat))}
def MOk.itB (M:MOk S W es gs):∀ n,∀ x∈it gs (base es) n,0<=x/\x<=((W ^ n:Nat):Int)
 | 0=>fun x hx=>by
  obtain ⟨b,_,rfl⟩:=zaz.mp hx;cases b with
  | false=>exact ⟨Int.le_refl 0,Int.natCast_nonneg _⟩
  | true=>exact ⟨by show (0:Int)<=1; decide,by show (1:Int)<=((W ^ 0:Nat):Int); rw [Nat.pow_zero]; decide⟩
 | n+1=>fun x hx=>by
  obtain ⟨r,hr,rfl⟩:=zaz.mp hx
  have:=qa (B:=((W ^ n:Nat):Int)) (Int.natCast_nonneg _) (M.itB n) r;rw [(M.ok r hr).1,<- Int.natCast_mul] at this;rw [show W ^ (n+1)=W * W ^ n by rw [Nat.pow_succ,Nat.mul_comm]];exact this
end
end Mch
namespace L2
open PySem PySem.Spec PyProof.Rows
structure W {α:Type} (x:Option α) (Q:α->Prop):Prop where
 ex:∃ a,x=some a/\Q a
def ar {α:Type} (a:α) (Q:α->Prop):W (some a) Q=Q a:=propext ⟨fun ⟨b,e,h⟩=>(zat e) ▸ h,fun h=>⟨a,rfl,h⟩⟩
def ba {α:Type} (Q:α->Prop):W (none:Option α) Q=False:=propext ⟨(fun ⟨b,e,h⟩=>by cases e),(fun h=>h.elim)⟩
def W.use {α:Type} {x:Option α} {P Q:α->Prop} (h:W x P) (k:∀ a,P a->Q a):W x Q :=
 let ⟨a,e,h⟩:=h.ex
 ⟨a,e,k a h⟩
def W.of {α:Type} {x:Option α} {P:α->Prop} {a:α} (e:x=some a) (h:P a):W x P:=⟨a,e,h⟩
def av {α β:Type} (x:Option α) (f:α->Option β) (Q:β->Prop):W (x.bind f) Q=W x (fun a=>W (f a) Q):=by
 cases x with
 | none=>show W none _=_; rw [ba,ba]
 | some a=>show W (f a) Q=_; rw [ar]
def bx {α β:Type} (x:Option α) (f:α->β) (Q:β->Prop):W (x.map f) Q=W x (fun a=>Q (f a)):=by
 cases x with
 | none=>show W none _=_; rw [ba,ba]
 | some a=>show W (some (f a)) Q=_; rw [ar,ar]
def nA {α:Type} (c:Prop) [Decidable c] (a:α) (Q:α->Prop):W (grd c a) Q=(c/\Q a):=by
 unfold grd;by_cases h:c
 ·rw [if_pos h,ar]; exact propext ⟨fun z=>⟨h,z⟩,fun z=>z.2⟩
 ·rw [if_neg h,ba]; exact propext ⟨fun z=>z.elim,fun z=>h z.1⟩
def iT {α:Type} (c:Prop) [Decidable c] (a:α) (Q:α->Prop):W (if c then some a else none) Q=(c/\Q a):=nA c a Q
def uG {α:Type} (c:Prop) [Decidable c] (x:Option α) (Q:α->Prop):W (if c then x else none) Q=(c/\W x Q):=by
 by_cases h:c
 ·rw [if_pos h]; exact propext ⟨fun z=>⟨h,z⟩,fun z=>z.2⟩
 ·rw [if_neg h,ba]; exact propext ⟨fun z=>z.elim,fun z=>h z.1⟩
def gv (en:En) (i:Nat):Option D:=(en[i]?).join
def iK (ts:List D) (n:Int) (t:D):Option (List D):=(ixN ts.length n).map fun k=>ts.set k t
def tR (ts:List D) (n:Int):Option (D × List D):=(seqIndex? n ts.length).bind fun k=>(ts[k]?).map fun t=>(t,ts.eraseIdx k)
def jz (i:Int) (n:Nat):List D:=(List.range n).map fun k=>.int (i+(k:Nat))
section
variable {α β:Type}
def qJ (b:MS) (Q:Fl->Prop):Fl->Prop:=fun fl=>W (match fl with | .nx en1=>b en1 | .rt t en1=>some (.rt t en1) | .ct en1=>some (.ct en1)) Q
def IR (i:Nat) (Q:Fl->Prop):D × En->Prop:=fun r=>Q (.nx (r.2.set i (some r.1)))
def IY (Q:Fl->Prop):D × En->Prop:=fun r=>Q (.nx r.2)
def IS (Q:Fl->Prop):D × En->Prop:=fun r=>Q (.rt r.1 r.2)
def kIf (f g:En->Option β) (Q:β->Prop):Bool × En->Prop:=fun r=>W (if r.1 then f r.2 else g r.2) Q
def IX (g:MG) (b:MS) (Q:Fl->Prop):List D × En->Prop:=fun r=>W (cG g b r.1 r.2) Q
def m3 (g:MG) (b:MS) (ts:List D) (Q:Fl->Prop):Fl->Prop:=fun fl=>W (match fl with | .nx en2=>cG g b ts en2 | .ct en2=>cG g b ts en2 | .rt r en2=>some (.rt r en2)) Q
def D5 (g:MG) (b:MS) (ts:List D) (Q:Fl->Prop):En->Prop:=fun en=>W (b en) (m3 g b ts Q)
def xn (i:Nat) (en:En) (Q:Fl->Prop):List D->Prop:=fun ts=>Q (.nx (en.set i (some (.list ts))))
def mZ (i:Nat) (t:D) (Q:Fl->Prop):D × En->Prop:=fun q=>W (match q.1,(q.2[i]?).join with | .int n,some (.list ts)=>(ixN ts.length n).map fun k=>.nx (q.2.set i (some (.list (ts.set k t)))) | _,_=>none) Q
def uf (i:Nat) (fk:ME) (Q:Fl->Prop):D × En->Prop:=fun r=>W (match (r.2[i]?).join with | some _=>((fk r.2).bind fun q=>(match q.1,(q.2[i]?).join with | .int n,some (.list ts)=>(ixN ts.length n).map fun k=>.nx (q.2.set i (some (.list (ts.set k r.1)))) | _,_=>none)) | none=>none) Q
def vM (i:Nat) (t:D) (fk:ME) (en:En) (Q:Fl->Prop):D->Prop:=fun _x=>W (fk en) (mZ i t Q)
def qI (i:Nat) (t:D) (n:Int) (en:En) (Q:Fl->Prop):D->Prop:=fun x=>W (match x with | .list ts=>(ixN ts.length n).map fun k=>.nx (en.set i (some (.list (ts.set k t)))) | _=>none) Q
def fQ (en:En) (Q:D × En->Prop):D->Prop:=fun t=>Q (t,en)
def k1 (g:D->Option D) (Q:D × En->Prop):D × En->Prop:=fun r=>W (g r.1) (fQ r.2 Q)
def k2b (g:D->D->Option D) (t:D) (Q:D × En->Prop):D × En->Prop:=fun q=>W (g t q.1) (fQ q.2 Q)
def k2 (g:D->D->Option D) (f:ME) (Q:D × En->Prop):D × En->Prop:=fun r=>W (f r.2) (k2b g r.1 Q)
def xr (g:ME) (Q:D × En->Prop):D × En->Prop:=fun r=>W (match r.1 with | .bool true=>g r.2 | .bool false=>some (.bool false,r.2) | _=>none) Q
def kOr (g:ME) (Q:D × En->Prop):D × En->Prop:=fun r=>W (match r.1 with | .bool true=>some (.bool true,r.2) | .bool false=>g r.2 | _=>none) Q
def IU (Q:D × En->Prop):D × En->Prop:=fun r=>W (match r.1 with | .bool b=>some (.bool (!b),r.2) | _=>none) Q
def kTV (Q:Bool × En->Prop):D × En->Prop:=fun r=>W (match r.1 with | .bool b=>some (b,r.2) | _=>none) Q
def um (g:MT) (Q:Bool × En->Prop):Bool × En->Prop:=fun r=>W (if r.1 then g r.2 else some (false,r.2)) Q
def xq (g:MT) (Q:Bool × En->Prop):Bool × En->Prop:=fun r=>W (if r.1 then some (true,r.2) else g r.2) Q
def D7 (Q:Bool × En->Prop):Bool × En->Prop:=fun r=>Q (!r.1,r.2)
def xu (t:D) (Q:List (D ⊕ Nat) × En->Prop):List (D ⊕ Nat) × En->Prop:=fun y=>Q (.inl t :: y.1,y.2)
def kAC (r:MA) (Q:List (D ⊕ Nat) × En->Prop):D × En->Prop:=fun x=>W (r x.2) (xu x.1 Q)
def xt (i:Nat) (Q:List (D ⊕ Nat) × En->Prop):List (D ⊕ Nat) × En->Prop:=fun y=>Q (.inr i :: y.1,y.2)
def kAS (i:Nat) (r:MA) (en:En) (Q:List (D ⊕ Nat) × En->Prop):D->Prop:=fun _x=>W (r en) (xt i Q)
def kN2 (g:List D->Option D) (en:En) (Q:D × En->Prop):List D->Prop:=fun ts=>W (g ts) (fQ en Q)
def kN (g:List D->Option D) (Q:D × En->Prop):List (D ⊕ Nat) × En->Prop:=fun r=>W (vals r.1) (kN2 g r.2 Q)
def ui (en:En) (Q:D × En->Prop):List D->Prop:=fun ts=>W (if ts.length<=sizeLine then some (.list ts,en) else none) Q
def IV (Q:D × En->Prop):List (D ⊕ Nat) × En->Prop:=fun r=>W (vals r.1) (ui r.2 Q)
def ue (en:En) (Q:D × En->Prop):List D->Prop:=fun ts=>W (if ts.length<=sizeLine then some (.tuple ts,en) else none) Q
def IQ (Q:D × En->Prop):List (D ⊕ Nat) × En->Prop:=fun r=>W (vals r.1) (ue r.2 Q)
def qL (as:List (D ⊕ Nat)) (en:En) (Q:D × En->Prop):D × En->Prop:=fun q=>Q (q.1,wb as q.2 en)
def qM (F:List D->Option (D × En)) (as:List (D ⊕ Nat)) (en:En) (Q:D × En->Prop):List D->Prop:=fun ts=>W (F ts) (qL as en Q)
def D6 (F:List D->Option (D × En)) (Q:D × En->Prop):List (D ⊕ Nat) × En->Prop:=fun r=>W (cq r.1 r.2) (qM F r.1 r.2 Q)
def kFn (dps:List Nat) (Q:D × En->Prop):Fl->Prop:=fun fl=>W (match fl with | .rt t en=>some (t,msk dps en) | .nx en=>some (.none,msk dps en) | .ct _=>none) Q
def uk (q:Bool) (js:List (Option Nat)) (en:En) (Q:D × En->Prop):List D × En->Prop:=fun z=>Q (.list z.1,if q then en else wbB js z.2 en)
def kLC (q:Bool) (g:MG) (c:MT) (f:ME) (js:List (Option Nat)) (Q:D × En->Prop):List D × En->Prop:=fun r=>W (lcF g c f r.1 [] (cz js r.2)) (uk q js r.2 Q)
def kL3 (g:MG) (c:MT) (f:ME) (ts acc:List D) (Q:List D × En->Prop):D × En->Prop:=fun q=>W (if acc.length < sizeLine then lcF g c f ts (acc++[q.1]) q.2 else none) Q
def kL2 (g:MG) (c:MT) (f:ME) (ts acc:List D) (Q:List D × En->Prop):Bool × En->Prop:=fun r=>W (if r.1 then (f r.2).bind fun q=>if acc.length < sizeLine then lcF g c f ts (acc++[q.1]) q.2 else none else lcF g c f ts acc r.2) Q
def kL1 (g:MG) (c:MT) (f:ME) (ts acc:List D) (Q:List D × En->Prop):En->Prop:=fun en=>W (c en) (kL2 g c f ts acc Q)
def uq (Q:List D × En->Prop):D × En->Prop:=fun r=>W ((DN r.1).map fun ts=>(ts,r.2)) Q
def kR1 (Q:List D × En->Prop):List (D ⊕ Nat) × En->Prop:=fun r=>W (match r.1 with | [.inl (.int j)]=>if -(2 ^ 62)<=j/\j < 2 ^ 62 then some ((List.range j.toNat).map fun k=>.int (0+(k:Nat)),r.2) else none | _=>none) Q
def kEn (Q:List D × En->Prop):List (D ⊕ Nat) × En->Prop:=fun r=>W (match r.1 with | [.inl (.list ts)]=>some (dQ ts,r.2) | [.inl (.tuple ts)]=>some (dQ ts,r.2) | _=>none) Q
def vF (n:Int) (en:En) (Q:D × En->Prop):D->Prop:=fun x=>W (match x with | .list ts=>(atI ts n).map fun t=>(t,en) | _=>none) Q
def mY (i:Nat) (Q:D × En->Prop):D × En->Prop:=fun r=>W (match r.1,(r.2[i]?).join with | .int n,some (.list ts)=>(atI ts n).map fun t=>(t,r.2) | _,_=>none) Q
def D3 (i:Nat) (f:ME) (en:En) (Q:D × En->Prop):D->Prop:=fun _x=>W (f en) (mY i Q)
def uo (i:Nat) (Q:D × En->Prop):D × En->Prop:=fun r=>W (match (r.2[i]?).join with | some (.list ts)=>if ts.length < sizeLine then some (PyData.none,r.2.set i (some (.list (ts++[r.1])))) else none | _=>none) Q
def D8 (i:Nat) (t:D) (en:En) (Q:D × En->Prop):D->Prop:=fun x=>W (match x with | .list ts=>if ts.length < sizeLine then some (PyData.none,en.set i (some (.list (ts++[t])))) else none | _=>none) Q
def I0 (i:Nat) (f:ME) (en:En) (Q:D × En->Prop):D->Prop:=fun x=>W (match x with | .list _=>((f en).bind fun r=>(match (r.2[i]?).join with | some (.list ts)=>if ts.length < sizeLine then some (PyData.none,r.2.set i (some (.list (ts++[r.1])))) else none | _=>none)) | _=>none) Q
def kOS (Q:Option Int × En->Prop):D × En->Prop:=fun r=>W (match r.1 with | .int i=>some (some i,r.2) | _=>none) Q
def xl (g:D->Option Int->Option Int->Option D) (t:D) (lo:Option Int) (Q:D × En->Prop):Option Int × En->Prop:=fun h=>W (g t lo h.1) (fQ h.2 Q)
def xm (g:D->Option Int->Option Int->Option D) (t:D) (hi:MO) (Q:D × En->Prop):Option Int × En->Prop:=fun l=>W (hi l.2) (xl g t l.1 Q)
def kSl (g:D->Option Int->Option Int->Option D) (lo hi:MO) (Q:D × En->Prop):D × En->Prop:=fun r=>W (lo r.2) (xm g r.1 hi Q)
def kM2 (g:Str->List D->Option D) (z:Str) (en:En) (Q:D × En->Prop):List D->Prop:=fun ts=>W (g z ts) (fQ en Q)
def kM1 (g:Str->List D->Option D) (z:Str) (Q:D × En->Prop):List (D ⊕ Nat) × En->Prop:=fun q=>W (vals q.1) (kM2 g z q.2 Q)
def kM (g:Str->List D->Option D) (fa:MA) (Q:D × En->Prop):D × En->Prop:=fun r=>W (match r.1 with | .str z=>(fa r.2).bind fun q=>(vals q.1).bind fun ts=>(g z ts).map fun t=>(t,q.2) | _=>none) Q
def ul (i:Nat) (Q:D × En->Prop):D × En->Prop:=fun r=>W (match (r.2[i]?).join with | some (.dict ks)=>(kOf r.1).bind fun _=>(gg ks r.1).map fun t=>(t,r.2) | _=>none) Q
def Le (q:D) (en:En) (Q:D × En->Prop):D->Prop:=fun x=>W (match x with | .dict ks=>(kOf q).bind fun _=>(gg ks q).map fun t=>(t,en) | _=>none) Q
def kDg (f:ME) (i:Nat) (en:En) (Q:D × En->Prop):D->Prop:=fun _x=>W (f en) (ul i Q)
def kIt (J:En->Prop) (Q:Fl->Prop):Fl->Prop:=fun fl=>match fl with | .nx e=>J e | .ct e=>J e | .rt t e=>Q (.rt t e)
def xo (us:List D) (J:List D->En->Prop):D × En->Prop:=fun r=>J (us++[r.1]) r.2
def uj (f:ME) (us:List D) (J:List D->En->Prop):Bool × En->Prop:=fun r=>if r.1 then W (f r.2) (xo us J) else J us r.2
def IW (c:MT) (f:ME) (us:List D) (J:List D->En->Prop):En->Prop:=fun en=>W (c en) (uj f us J)
def kWh (b:MS) (J:En->Prop) (Q:Fl->Prop):Bool × En->Prop:=fun r=>if r.1 then W (b r.2) (kIt J Q) else Q (.nx r.2)
def kFg (b:MS) (J:En->Prop) (Q:Fl->Prop):En->Prop:=fun en=>W (b en) (kIt J Q)
def D4 (i:Nat) (en:En) (Q:D × En->Prop):D × List D->Prop:=fun r=>Q (r.1,en.set i (some (.list r.2)))
def ug (i:Nat) (n:Int) (en:En) (Q:D × En->Prop):D->Prop:=fun x=>W (match x with | .list ts=>(if -(2 ^ 63)<=n/\n < 2 ^ 63 then (seqIndex? n ts.length).bind fun k=>(ts[k]?).map fun t=>(t,en.set i (some (.list (ts.eraseIdx k)))) else none) | _=>none) Q
def uh (i:Nat) (Q:D × En->Prop):D × En->Prop:=fun r=>W (match r.1,(r.2[i]?).join with | .int n,some (.list ts)=>(if -(2 ^ 63)<=n/\n < 2 ^ 63 then (seqIndex? n ts.length).bind fun k=>(ts[k]?).map fun t=>(t,r.2.set i (some (.list (ts.eraseIdx k)))) else none) | _,_=>none) Q
def IT (i:Nat) (f:ME) (en:En) (Q:D × En->Prop):D->Prop:=fun x=>W (match x with | .list _=>(f en).bind (fun r=>match r.1,(r.2[i]?).join with | .int n,some (.list ts)=>(if -(2 ^ 63)<=n/\n < 2 ^ 63 then (seqIndex? n ts.length).bind fun k=>(ts[k]?).map fun t=>(t,r.2.set i (some (.list (ts.eraseIdx k)))) else none) | _,_=>none) | _=>none) Q
def kS1 (Q:D->Prop):Nat->Prop:=fun c=>Q (.str (mk1 c))
def kGs (q:List D->En->Option En) (ts:List D) (Q:En->Prop):En->Prop:=fun en=>W (q ts en) Q
def m5 (t:D) (Q:List D->Prop):List D->Prop:=fun ts=>Q (t :: ts)
def IZ (r:List (D ⊕ Nat)) (en:En) (Q:List D->Prop):D->Prop:=fun t=>W (cq r en) (m5 t Q)
def aY {α:Type} (ts:List α) (n:Nat):atI ts (n:Int)=ts[n]?:=by
 unfold atI ixN;rw [if_pos (by omega)];by_cases h:n < ts.length
 ·rw [if_pos (by omega)]; rfl
 ·rw [if_neg (by omega),List.getElem?_eq_none (by omega)]; rfl
def fO {ts:List D} {t:D} (n:Nat) (h:n < ts.length):iK ts (n:Int) t=some (ts.set n t):=by
 unfold iK ixN;rw [if_pos (by omega),if_pos (by omega)];rfl
def FN (x:D) (l:List D):eY (x :: l) (some 1) none=l:=by
 unfold eY;rw [HT.sIx_none,show (some (1:Int))=some ((1:Nat):Int) from rfl,HT.sIx_nat,Nat.min_eq_left (by simp),List.drop_one];exact List.take_of_length_le (by simp)
def KY (x:D) (l:List D):(HT.sIx (x :: l).length 0 (some 1)=0)=False:=by
 rw [show (some (1:Int))=some ((1:Nat):Int) from rfl,HT.sIx_nat,Nat.min_eq_left (by simp)];exact eq_false (by decide)
def sR (a b:Int):(a == b)=decide (a=b):=by
 by_cases h:a=b
 ·rw [h,zaB rfl]; exact beq_self_eq_true b
 ·rw [zaA h]; exact beq_eq_false_iff_ne.mpr h
def FK (a b:Bool):eqD (.bool a) (.bool b)=some (.bool (a == b)):=by
 show grd _ _=_;unfold grd;rw [if_pos ⟨rfl,rfl,Nat.zero_le _⟩];simp only [peq]
def EM (a b:Bool):neD (.bool a) (.bool b)=some (.bool (!(a == b))):=by
 show grd _ _=_;unfold grd;rw [if_pos ⟨rfl,rfl,Nat.zero_le _⟩];simp only [peq]
def so (a b:Str):(a == b)=decide (a=b):=by
 by_cases h:a=b
 ·rw [h,zaB rfl]; exact beq_self_eq_true b
 ·rw [zaA h]; exact beq_eq_false_iff_ne.mpr h
def JX (a b:Str):eqD (.str a) (.str b)=some (.bool (decide (a=b))):=by
 show grd _ _=_;unfold grd;rw [if_pos ⟨rfl,rfl,Nat.zero_le _⟩,<- so];simp only [peq]
def IF (a b:Str):neD (.str a) (.str b)=some (.bool (!decide (a=b))):=by
 show grd _ _=_;unfold grd;rw [if_pos ⟨rfl,rfl,Nat.zero_le _⟩,<- so];simp only [peq]
def JY:eqD (.list []) (.list [])=some (.bool true):=by
 show grd _ _=_;unfold grd;rw [if_pos ⟨rfl,rfl,by decide⟩];rfl
def IG:neD (.list []) (.list [])=some (.bool false):=by
 show grd _ _=_;unfold grd;rw [if_pos ⟨rfl,rfl,by decide⟩];rfl
variable (en:En) (Qs:Fl->Prop) (Qe:D × En->Prop) (Qb:Bool × En->Prop) (Qa:List (D ⊕ Nat) × En->Prop) (Ql:List D × En->Prop) (Qd:D->Prop) (Qt:List D->Prop) (Qn:En->Prop) (f:ME) (g:MG) (fa:MA) (c:MT) (ts:List D) (i:Nat)
def ws0 (α:Type) (a:α) (Q:α->Prop):W (some a) Q=Q a:=ar _ _
def ws1 (α:Type) (Q:α->Prop):W (none:Option α) Q=False:=ba _
def ws2 (α:Type) (c:Prop) (_:Decidable c) (a:α) (Q:α->Prop):W (grd c a) Q=(c/\Q a):=nA c a Q
def ws3 (a:Option D) (l:En):gv (a :: l) 0=a:=rfl
def ws4 (a:Option D) (l:En):gv (a :: l) (i+1)=gv l i:=rfl
def ws5 (a b:Option D) (l:En):List.set (a :: l) 0 b=b :: l:=rfl
def ws6 (a b:Option D) (l:En):List.set (a :: l) (i+1) b=a :: List.set l i b:=rfl
def ws7 (a b:MS):W (ai a b en) Qs=W (a en) (qJ b Qs):=av _ _ _
def ws8 (b:MS):qJ b Qs (.nx en)=W (b en) Qs:=rfl
def ws9 (b:MS) (t:D):qJ b Qs (.rt t en)=Qs (.rt t en):=ar _ _
def HI (b:MS):qJ b Qs (.ct en)=Qs (.ct en):=ar _ _
def HH:W (al i f en) Qs=W (f en) (IR i Qs):=bx _ _ _
def HG (t:D):IR i Qs (t,en)=Qs (.nx (en.set i (some t))):=rfl
def HF:W (bQ f en) Qs=W (f en) (IY Qs):=bx _ _ _
def HE (t:D):IY Qs (t,en)=Qs (.nx en):=rfl
def HD:W (aB f en) Qs=W (f en) (IS Qs):=bx _ _ _
def HC (t:D):IS Qs (t,en)=Qs (.rt t en):=rfl
def HB:W (aZ en) Qs=Qs (.nx en):=ar _ _
def HA:W (df en) Qs=False:=ba _
def Hz (a b:MS):W (sIf c a b en) Qs=W (c en) (kIf a b Qs):=av _ _ _
def Hy (β:Type) (a b:En->Option β) (Q:β->Prop):kIf a b Q (true,en)=W (a en) Q:=rfl
def Hx (β:Type) (a b:En->Option β) (Q:β->Prop):kIf a b Q (false,en)=W (b en) Q:=rfl
def Hw (fi:MI) (b:MS):W (cF fi g b en) Qs=W (fi en) (IX g b Qs):=av _ _ _
def Hv (b:MS):IX g b Qs (ts,en)=W (cG g b ts en) Qs:=rfl
def Hu (b:MS):W (cG g b [] en) Qs=Qs (.nx en):=ar _ _
def Ht (b:MS) (t:D):W (cG g b (t :: ts) en) Qs=W (g t en) (D5 g b ts Qs):=(av _ _ _).trans (congrArg _ (funext fun z=>av _ _ _))
def Hs (b:MS):D5 g b ts Qs en=W (b en) (m3 g b ts Qs):=rfl
def Hr (b:MS):m3 g b ts Qs (.nx en)=W (cG g b ts en) Qs:=rfl
def Hq (b:MS):m3 g b ts Qs (.ct en)=W (cG g b ts en) Qs:=rfl
def Ho (b:MS) (t:D):m3 g b ts Qs (.rt t en)=Qs (.rt t en):=ar _ _
def Hn (t:D):W (gN i t en) Qn=Qn (en.set i (some t)):=ar _ _
def Hm (g:List D->En->Option En):W (gT g (.tuple ts) en) Qn=W (g ts en) Qn:=rfl
def Hl (q:List D->En->Option En) (t:D):W (gsC g q (t :: ts) en) Qn=W (g t en) (kGs q ts Qn):=av _ _ _
def Hk (q:List D->En->Option En):kGs q ts Qn en=W (q ts en) Qn:=rfl
def Hj:W (gs0 [] en) Qn=Qn en:=ar _ _
def Hi (fk fe:ME):W (fu i fk fe en) Qs=W (fe en) (uf i fk Qs):=av _ _ _
def Hh (fk:ME) (t:D):uf i fk Qs (t,en)=W (gv en i) (vM i t fk en Qs):=by unfold uf gv; cases h:(en[i]?).join with | none=>simp only [h,ba] | some x=>simp only [h,ar]; exact av _ _ _
def Hg (t:D) (fk:ME) (x:D):vM i t fk en Qs x=W (fk en) (mZ i t Qs):=rfl
def Hf (t:D) (n:Int):mZ i t Qs (.int n,en)=W (gv en i) (qI i t n en Qs):=by unfold mZ gv; cases h:(en[i]?).join with | none=>simp only [h,ba] | some x=>simp only [h,ar]; cases x <;> first | rfl | exact (ar _ _).symm | (rw [ar]; rfl) | (rw [ar]; exact ba _)
def He (t:D) (n:Int):qI i t n en Qs (.list ts)=W (iK ts n t) (xn i en Qs):=by unfold qI iK xn; dsimp only; rw [bx,bx]
def Hd:xn i en Qs ts=Qs (.nx (en.set i (some (.list ts)))):=rfl
def Hc (x0 t:D) (l:List D):iK (x0 :: l) 0 t=some (t :: l):=fO 0 (by simp only [zac]; omega)
def Hb (x0 x1 t:D) (l:List D):iK (x0 :: x1 :: l) 1 t=some (x0 :: t :: l):=fO 1 (by simp only [zac]; omega)
def Ha (x0 x1 x2 t:D) (l:List D):iK (x0 :: x1 :: x2 :: l) 2 t=some (x0 :: x1 :: t :: l):=fO 2 (by simp only [zac]; omega)
def G9 (x0 x1 x2 x3 t:D) (l:List D):iK (x0 :: x1 :: x2 :: x3 :: l) 3 t=some (x0 :: x1 :: x2 :: t :: l):=fO 3 (by simp only [zac]; omega)
def G8 (x0 x1 x2 x3 x4 t:D) (l:List D):iK (x0 :: x1 :: x2 :: x3 :: x4 :: l) 4 t=some (x0 :: x1 :: x2 :: x3 :: t :: l):=fO 4 (by simp only [zac]; omega)
def G7 (x0 x1 x2 x3 x4 x5 t:D) (l:List D):iK (x0 :: x1 :: x2 :: x3 :: x4 :: x5 :: l) 5 t=some (x0 :: x1 :: x2 :: x3 :: x4 :: t :: l):=fO 5 (by simp only [zac]; omega)
def G6:W (ac i en) Qe=W (gv en i) (fQ en Qe):=bx _ _ _
def G5 (t:D):fQ en Qe t=Qe (t,en):=rfl
def G4 (t:D):W (eC t en) Qe=Qe (t,en):=ar _ _
def G3 (g:D->Option D):W (e1 g f en) Qe=W (f en) (k1 g Qe):=(av _ _ _).trans (congrArg _ (funext fun z=>bx _ _ _))
def G0 (g:D->Option D) (t:D):k1 g Qe (t,en)=W (g t) (fQ en Qe):=rfl
def GZ (g:D->D->Option D) (f1 f2:ME):W (e2 g f1 f2 en) Qe=W (f1 en) (k2 g f2 Qe):=(av _ _ _).trans (congrArg _ (funext fun z=>(av _ _ _).trans (congrArg _ (funext fun y=>bx _ _ _))))
def GY (g:D->D->Option D) (f2:ME) (t:D):k2 g f2 Qe (t,en)=W (f2 en) (k2b g t Qe):=rfl
def GW (g:D->D->Option D) (t u:D):k2b g t Qe (u,en)=W (g t u) (fQ en Qe):=rfl
def GV (f g:ME):W (kH f g en) Qe=W (f en) (xr g Qe):=av _ _ _
def GU (g:ME):xr g Qe (.bool true,en)=W (g en) Qe:=rfl
def GT (g:ME):xr g Qe (.bool false,en)=Qe (.bool false,en):=ar _ _
def GS (f g:ME):W (eOr f g en) Qe=W (f en) (kOr g Qe):=av _ _ _
def GR (g:ME):kOr g Qe (.bool true,en)=Qe (.bool true,en):=ar _ _
def GQ (g:ME):kOr g Qe (.bool false,en)=W (g en) Qe:=rfl
def GP:W (on f en) Qe=W (f en) (IU Qe):=av _ _ _
def GO (x:Bool):IU Qe (.bool x,en)=Qe (.bool (!x),en):=ar _ _
def GN (f g:ME):W (eIf c f g en) Qe=W (c en) (kIf f g Qe):=av _ _ _
def GM:W (tV f en) Qb=W (f en) (kTV Qb):=av _ _ _
def GL (x:Bool):kTV Qb (.bool x,en)=Qb (x,en):=ar _ _
def GK (f g:MT):W (dJ f g en) Qb=W (f en) (um g Qb):=av _ _ _
def GJ (g:MT):um g Qb (true,en)=W (g en) Qb:=rfl
def GI (g:MT):um g Qb (false,en)=Qb (false,en):=ar _ _
def GH (f g:MT):W (bOr f g en) Qb=W (f en) (xq g Qb):=av _ _ _
def GG (g:MT):xq g Qb (true,en)=Qb (true,en):=ar _ _
def GF (g:MT):xq g Qb (false,en)=W (g en) Qb:=rfl
def GE (f:MT):W (dD f en) Qb=W (f en) (D7 Qb):=bx _ _ _
def GD (x:Bool):D7 Qb (x,en)=Qb (!x,en):=rfl
def GC:W (cY en) Qb=Qb (true,en):=ar _ _
def GB:W (ag en) Qa=Qa ([],en):=ar _ _
def GA (r:MA):W (ad f r en) Qa=W (f en) (kAC r Qa):=(av _ _ _).trans (congrArg _ (funext fun z=>bx _ _ _))
def Gz (r:MA) (t:D):kAC r Qa (t,en)=W (r en) (xu t Qa):=rfl
def Gy (t:D) (as:List (D ⊕ Nat)):xu t Qa (as,en)=Qa (.inl t :: as,en):=rfl
def Gx (r:MA):W (aH i r en) Qa=W (gv en i) (kAS i r en Qa):=(av _ _ _).trans (congrArg _ (funext fun z=>bx _ _ _))
def Gw (r:MA) (t:D):kAS i r en Qa t=W (r en) (xt i Qa):=rfl
def Gv (as:List (D ⊕ Nat)):xt i Qa (as,en)=Qa (.inr i :: as,en):=rfl
def Gu:vals []=some []:=rfl
def Gs (t:D) (r:List (D ⊕ Nat)):W (vals (.inl t :: r)) Qt=W (vals r) (m5 t Qt):=bx _ _ _
def Gr (t:D):m5 t Qt ts=Qt (t :: ts):=rfl
def Gq:cq [] en=some []:=rfl
def Gp (t:D) (r:List (D ⊕ Nat)):W (cq (.inl t :: r) en) Qt=W (cq r en) (m5 t Qt):=bx _ _ _
def Go (r:List (D ⊕ Nat)):W (cq (.inr i :: r) en) Qt=W (gv en i) (IZ r en Qt):=(av _ _ _).trans (congrArg _ (funext fun z=>bx _ _ _))
def Gn (t:D) (r:List (D ⊕ Nat)):IZ r en Qt t=W (cq r en) (m5 t Qt):=rfl
def Gm (r:List (D ⊕ Nat)) (o:Option D) (outs:En):wb (.inr i :: r) (o :: outs) en=wb r outs (en.set i o):=rfl
def Gk (t:D) (r:List (D ⊕ Nat)) (o:Option D) (outs:En):wb (.inl t :: r) (o :: outs) en=wb r outs en:=rfl
def Gj (outs:En):wb [] outs en=en:=rfl
def Gi (g:List D->Option D):W (eN g fa en) Qe=W (fa en) (kN g Qe):=(av _ _ _).trans (congrArg _ (funext fun z=>(av _ _ _).trans (congrArg _ (funext fun y=>bx _ _ _))))
def Gh (g:List D->Option D) (as:List (D ⊕ Nat)):kN g Qe (as,en)=W (vals as) (kN2 g en Qe):=rfl
def Gg (g:List D->Option D):kN2 g en Qe ts=W (g ts) (fQ en Qe):=rfl
def Gf:W (bg fa en) Qe=W (fa en) (IV Qe):=(av _ _ _).trans (congrArg _ (funext fun z=>av _ _ _))
def Ge (as:List (D ⊕ Nat)):IV Qe (as,en)=W (vals as) (ui en Qe):=rfl
def Gd:ui en Qe ts=(ts.length<=sizeLine/\Qe (.list ts,en)):=iT _ _ _
def Gc:W (eX fa en) Qe=W (fa en) (IQ Qe):=(av _ _ _).trans (congrArg _ (funext fun z=>av _ _ _))
def Gb (as:List (D ⊕ Nat)):IQ Qe (as,en)=W (vals as) (ue en Qe):=rfl
def DE:ue en Qe ts=(ts.length<=sizeLine/\Qe (.tuple ts,en)):=iT _ _ _
def DD:(([]:List D).length<=sizeLine)=True:=eq_true (zau (by show 0<=100; decide) aP)
def DC (x0:D):(([x0]:List D).length<=sizeLine)=True:=eq_true (zau (by show 1<=100; decide) aP)
def DB (x0 x1:D):(([x0,x1]:List D).length<=sizeLine)=True:=eq_true (zau (by show 2<=100; decide) aP)
def DA (x0 x1 x2:D):(([x0,x1,x2]:List D).length<=sizeLine)=True:=eq_true (zau (by show 3<=100; decide) aP)
def Dz (x0 x1 x2 x3:D):(([x0,x1,x2,x3]:List D).length<=sizeLine)=True:=eq_true (zau (by show 4<=100; decide) aP)
def Dy (x0 x1 x2 x3 x4:D):(([x0,x1,x2,x3,x4]:List D).length<=sizeLine)=True:=eq_true (zau (by show 5<=100; decide) aP)
def Dx (x0 x1 x2 x3 x4 x5:D):(([x0,x1,x2,x3,x4,x5]:List D).length<=sizeLine)=True:=eq_true (zau (by show 6<=100; decide) aP)
def Dw (x0 x1 x2 x3 x4 x5 x6:D):(([x0,x1,x2,x3,x4,x5,x6]:List D).length<=sizeLine)=True:=eq_true (zau (by show 7<=100; decide) aP)
def Dv (x0 x1 x2 x3 x4 x5 x6 x7:D):(([x0,x1,x2,x3,x4,x5,x6,x7]:List D).length<=sizeLine)=True:=eq_true (zau (by show 8<=100; decide) aP)
def Du (x0 x1 x2 x3 x4 x5 x6 x7 x8:D):(([x0,x1,x2,x3,x4,x5,x6,x7,x8]:List D).length<=sizeLine)=True:=eq_true (zau (by show 9<=100; decide) aP)
def Dt (x0 x1 x2 x3 x4 x5 x6 x7 x8 x9:D):(([x0,x1,x2,x3,x4,x5,x6,x7,x8,x9]:List D).length<=sizeLine)=True:=eq_true (zau (by show 10<=100; decide) aP)
def Ds (x0 x1 x2 x3 x4 x5 x6 x7 x8 x9 x10:D):(([x0,x1,x2,x3,x4,x5,x6,x7,x8,x9,x10]:List D).length<=sizeLine)=True:=eq_true (zau (by show 11<=100; decide) aP)
def Dr (x0 x1 x2 x3 x4 x5 x6 x7 x8 x9 x10 x11:D):(([x0,x1,x2,x3,x4,x5,x6,x7,x8,x9,x10,x11]:List D).length<=sizeLine)=True:=eq_true (zau (by show 12<=100; decide) aP)
def Dq (x0 x1 x2 x3 x4 x5 x6 x7 x8 x9 x10 x11 x12:D):(([x0,x1,x2,x3,x4,x5,x6,x7,x8,x9,x10,x11,x12]:List D).length<=sizeLine)=True:=eq_true (zau (by show 13<=100; decide) aP)
def Dp (x0 x1 x2 x3 x4 x5 x6 x7 x8 x9 x10 x11 x12 x13:D):(([x0,x1,x2,x3,x4,x5,x6,x7,x8,x9,x10,x11,x12,x13]:List D).length<=sizeLine)=True:=eq_true (zau (by show 14<=100; decide) aP)
def Do (F:List D->Option (D × En)):W (ak F fa en) Qe=W (fa en) (D6 F Qe):=(av _ _ _).trans (congrArg _ (funext fun z=>(av _ _ _).trans (congrArg _ (funext fun y=>bx _ _ _))))
def Dm (F:List D->Option (D × En)) (as:List (D ⊕ Nat)):D6 F Qe (as,en)=W (cq as en) (qM F as en Qe):=rfl
def Dl (F:List D->Option (D × En)) (as:List (D ⊕ Nat)):qM F as en Qe ts=W (F ts) (qL as en Qe):=rfl
def Dk (as:List (D ⊕ Nat)) (t:D) (outs:En):qL as en Qe (t,outs)=Qe (t,wb as outs en):=rfl
def Dj (q:Bool) (fi:MI) (js:List (Option Nat)):W (eLC q fi g c f js en) Qe=W (fi en) (kLC q g c f js Qe):=(av _ _ _).trans (congrArg _ (funext fun z=>bx _ _ _))
def Di (q:Bool) (js:List (Option Nat)):kLC q g c f js Qe (ts,en)=W (lcF g c f ts [] (cz js en)) (uk q js en Qe):=rfl
def Dh (js:List (Option Nat)) (us:List D) (ex:En):uk true js en Qe (us,ex)=Qe (.list us,en):=rfl
def Dg (js:List (Option Nat)) (us:List D) (ex:En):uk false js en Qe (us,ex)=Qe (.list us,wbB js ex en):=rfl
def De:cz [] en=[]:=rfl
def Dd (j:Nat) (js:List (Option Nat)):cz (some j :: js) en=gv en j :: cz js en:=rfl
def Dc (js:List (Option Nat)):cz (none :: js) en=none :: cz js en:=rfl
def Db (j:Nat) (js:List (Option Nat)) (o:Option D) (ex:En):wbB (some j :: js) (o :: ex) en=wbB js ex (en.set j o):=rfl
def Da (js:List (Option Nat)) (o:Option D) (ex:En):wbB (none :: js) (o :: ex) en=wbB js ex en:=rfl
def C9 (ex:En):wbB [] ex en=en:=rfl
def C8:W (lcF g c f [] acc en) Ql=Ql (acc,en):=ar _ _
def C7:W (be f en) Ql=W (f en) (uq Ql):=av _ _ _
def C6:uq Ql (.list ts,en)=Ql (ts,en):=ar _ _
def C5:uq Ql (.tuple ts,en)=Ql (ts,en):=ar _ _
def C4 (z:Str):uq Ql (.str z,en)=Ql (bF z,en):=ar _ _
def C3:W (bG fa en) Ql=W (fa en) (kR1 Ql):=av _ _ _
def CZ (j:Int):kR1 Ql ([.inl (.int j)],en)=((-(2 ^ 62)<=j/\j < 2 ^ 62)/\Ql (jz 0 j.toNat,en)):=iT _ _ _
def CY:W (fC fa en) Ql=W (fa en) (kEn Ql):=av _ _ _
def CW:kEn Ql ([.inl (.list ts)],en)=Ql (dQ ts,en):=ar _ _
def CV:kEn Ql ([.inl (.tuple ts)],en)=Ql (dQ ts,en):=ar _ _
def CU:W (cX i f en) Qe=W (gv en i) (D3 i f en Qe):=(av _ _ _).trans (congrArg _ (funext fun z=>av _ _ _))
def CT (x:D):D3 i f en Qe x=W (f en) (mY i Qe):=rfl
def CQ (n:Int):mY i Qe (.int n,en)=W (gv en i) (vF n en Qe):=by unfold mY gv; cases h:(en[i]?).join with | none=>simp only [h,ba] | some x=>simp only [h,ar]; cases x <;> first | rfl | exact (ar _ _).symm | (rw [ar]; rfl) | (rw [ar]; exact ba _)
def CP (n:Int):vF n en Qe (.list ts)=W (atI ts n) (fQ en Qe):=bx _ _ _
def CO:W (bK i f en) Qe=W (gv en i) (I0 i f en Qe):=by unfold gv bK; cases (en[i]?).join with | none=>rw [ba,ba] | some x=>cases x <;> first | rfl | exact (ar _ _).symm | (rw [ar]; rfl) | (rw [ar]; exact ba _)
def CN:I0 i f en Qe (.list ts)=W (f en) (uo i Qe):=av _ _ _
def CM (t:D):uo i Qe (t,en)=W (gv en i) (D8 i t en Qe):=by unfold uo gv; cases h:(en[i]?).join with | none=>simp only [h,ba] | some x=>simp only [h,ar]; cases x <;> first | rfl | exact (ar _ _).symm | (rw [ar]; rfl) | (rw [ar]; exact ba _)
def CL (t:D):D8 i t en Qe (.list ts)=(ts.length < sizeLine/\Qe (.none,en.set i (some (.list (ts++[t]))))):=iT _ _ _
def CK (Q:Option Int × En->Prop):W (gJ en) Q=Q (none,en):=ar _ _
def CJ (Q:Option Int × En->Prop):W (gf f en) Q=W (f en) (kOS Q):=av _ _ _
def CI (n:Int) (Q:Option Int × En->Prop):kOS Q (.int n,en)=Q (some n,en):=ar _ _
def CH (g:D->Option Int->Option Int->Option D) (lo hi:MO):W (eSl g f lo hi en) Qe=W (f en) (kSl g lo hi Qe):=(av _ _ _).trans (congrArg _ (funext fun z=>(av _ _ _).trans (congrArg _ (funext fun y=>(av _ _ _).trans (congrArg _ (funext fun y=>bx _ _ _))))))
def CG (g:D->Option Int->Option Int->Option D) (lo hi:MO) (t:D):kSl g lo hi Qe (t,en)=W (lo en) (xm g t hi Qe):=rfl
def CF (g:D->Option Int->Option Int->Option D) (hi:MO) (t:D) (a:Option Int):xm g t hi Qe (a,en)=W (hi en) (xl g t a Qe):=rfl
def CD (g:D->Option Int->Option Int->Option D) (t:D) (a b:Option Int):xl g t a Qe (b,en)=W (g t a b) (fQ en Qe):=rfl
def CC (g:Str->List D->Option D):W (eM g f fa en) Qe=W (f en) (kM g fa Qe):=av _ _ _
def CB (g:Str->List D->Option D) (z:Str):kM g fa Qe (.str z,en)=W (fa en) (kM1 g z Qe):=(av _ _ _).trans (congrArg _ (funext fun z=>(av _ _ _).trans (congrArg _ (funext fun y=>bx _ _ _))))
def CA (g:Str->List D->Option D) (z:Str) (as:List (D ⊕ Nat)):kM1 g z Qe (as,en)=W (vals as) (kM2 g z en Qe):=rfl
def Cz (g:Str->List D->Option D) (z:Str):kM2 g z en Qe ts=W (g z ts) (fQ en Qe):=rfl
def Cy:W (bH i f en) Qe=W (gv en i) (kDg f i en Qe):=(av _ _ _).trans (congrArg _ (funext fun z=>av _ _ _))
def Cw (x:D):kDg f i en Qe x=W (f en) (ul i Qe):=rfl
def Cv (q:D):ul i Qe (q,en)=W (gv en i) (Le q en Qe):=by unfold ul gv; cases h:(en[i]?).join with | none=>simp only [h,ba] | some x=>simp only [h,ar]; cases x <;> first | rfl | exact (ar _ _).symm | (rw [ar]; rfl) | (rw [ar]; exact ba _)
def Cu (J:En->Prop):kIt J Qs (.nx en)=J en:=rfl
def Ct (J:En->Prop):kIt J Qs (.ct en)=J en:=rfl
def Cr (J:En->Prop) (t:D):kIt J Qs (.rt t en)=Qs (.rt t en):=rfl
def Cq (b:MS) (J:En->Prop):kFg b J Qs en=W (b en) (kIt J Qs):=rfl
def Cp (b:MS) (J:En->Prop):kWh b J Qs (true,en)=W (b en) (kIt J Qs):=rfl
def Co (b:MS) (J:En->Prop):kWh b J Qs (false,en)=Qs (.nx en):=rfl
def Cn (us:List D) (J:List D->En->Prop):IW c f us J en=W (c en) (uj f us J):=rfl
def Cm (us:List D) (J:List D->En->Prop):uj f us J (true,en)=W (f en) (xo us J):=rfl
def Cl (us:List D) (J:List D->En->Prop):uj f us J (false,en)=J us en:=rfl
def Ck (us:List D) (J:List D->En->Prop) (t:D):xo us J (t,en)=J (us++[t]) en:=rfl
def Cj (n:Nat) (dps:List Nat) (b:MS):W (fnF n dps b ts) Qe=W (b (ts.map some++List.replicate n none)) (kFn dps Qe):=av _ _ _
def Ci (dps:List Nat) (t:D):kFn dps Qe (.rt t en)=Qe (t,msk dps en):=ar _ _
def Ch (dps:List Nat):kFn dps Qe (.nx en)=Qe (.none,msk dps en):=ar _ _
def Cg (d:Nat) (ds:List Nat) (o:Option D):msk ((d+1) :: ds) (o :: en)=o :: msk ds en:=rfl
def Cf (ds:List Nat) (o:Option D):msk (0 :: ds) (o :: en)=none :: msk ds en:=rfl
def Ce:msk [] en=[]:=rfl
def Cd (t:D):List.map some (t :: ts)=some t :: List.map some ts:=rfl
def Cc:List.map (some:D->Option D) []=[]:=rfl
def Cb (a:Option D) (l m:En):(a :: l)++m=a :: (l++m):=rfl
def Ca (m:En):([]:En)++m=m:=rfl
def B9 (a:Option D):List.replicate 0 a=[]:=rfl
def B8 (a:Option D) (n:Nat):List.replicate (n+1) a=a :: List.replicate n a:=rfl
def B7 (a b:Int):aV (.int a) (.int b)=some (.int (a+b)):=rfl
def B6 (a b:Str):W (aV (.str a) (.str b)) Qd=(a.length+b.length<=sizeLine/\Qd (.str (a++b))):=iT _ _ _
def B5 (a b:Int):dY (.int a) (.int b)=some (.int (a - b)):=rfl
def B4 (a b:Int):W (bJ (.int a) (.int b)) Qd=(CMul a b/\Qd (.int (a * b))):=iT _ _ _
def B3 (a b:Int):W (cV (.int a) (.int b)) Qd=(gI a b/\Qd (.int (a / b))):=iT _ _ _
def B2 (a b:Int):W (bv (.int a) (.int b)) Qd=(0 < b/\Qd (.int (a % b))):=iT _ _ _
def B1 (a b:Int):W (ko (.int a) (.int b)) Qd=(j5 a b/\Qd (.int (a ^ b.toNat))):=iT _ _ _
def B0 (a b:Int):ltI (.int a) (.int b)=some (.bool (decide (a < b))):=rfl
def BZ (a b:Int):leI (.int a) (.int b)=some (.bool (decide (a<=b))):=rfl
def BY (a b:Int):gtI (.int a) (.int b)=some (.bool (decide (b < a))):=rfl
def BX (a b:Int):geI (.int a) (.int b)=some (.bool (decide (b<=a))):=rfl
def BW (a b:Int):eqD (.int a) (.int b)=some (.bool (decide (a=b))):=(JZ a b).trans (congrArg (fun q=>some (PyData.bool q)) (sR a b))
def BV (a b:Int):neD (.int a) (.int b)=some (.bool (!decide (a=b))):=(IH a b).trans (congrArg (fun q=>some (PyData.bool (!q))) (sR a b))
def BU:isN .none .none=some (.bool true):=rfl
def BT:dZ .none .none=some (.bool false):=rfl
def BS (x:Int):isN (.int x) .none=some (.bool false):=rfl
def BR (x:Int):dZ (.int x) .none=some (.bool true):=rfl
def BQ (x:Bool):isN (.bool x) .none=some (.bool false):=rfl
def BP (x:Bool):dZ (.bool x) .none=some (.bool true):=rfl
def BO (x:Str):isN (.str x) .none=some (.bool false):=rfl
def BN (x:Str):dZ (.str x) .none=some (.bool true):=rfl
def BM (x:List D):isN (.list x) .none=some (.bool false):=rfl
def BL (x:List D):dZ (.list x) .none=some (.bool true):=rfl
def BK (x:List D):isN (.tuple x) .none=some (.bool false):=rfl
def BJ (x:List D):dZ (.tuple x) .none=some (.bool true):=rfl
def BI (x:List (D × D)):isN (.dict x) .none=some (.bool false):=rfl
def BH (x:List (D × D)):dZ (.dict x) .none=some (.bool true):=rfl
def BG:ay "int" (.none)=some (.bool false):=(if_neg (fun z=>nomatch z)).trans (congrArg (fun b=>some (PyData.bool b)) (show aE "NoneType" "int"=false by decide))
def BF:ay "bool" (.none)=some (.bool false):=(if_neg (fun z=>nomatch z)).trans (congrArg (fun b=>some (PyData.bool b)) (show aE "NoneType" "bool"=false by decide))
def BE:ay "str" (.none)=some (.bool false):=(if_neg (fun z=>nomatch z)).trans (congrArg (fun b=>some (PyData.bool b)) (show aE "NoneType" "str"=false by decide))
def BD:ay "list" (.none)=some (.bool false):=(if_neg (fun z=>nomatch z)).trans (congrArg (fun b=>some (PyData.bool b)) (show aE "NoneType" "list"=false by decide))
def BC:ay "tuple" (.none)=some (.bool false):=(if_neg (fun z=>nomatch z)).trans (congrArg (fun b=>some (PyData.bool b)) (show aE "NoneType" "tuple"=false by decide))
def BB:ay "dict" (.none)=some (.bool false):=(if_neg (fun z=>nomatch z)).trans (congrArg (fun b=>some (PyData.bool b)) (show aE "NoneType" "dict"=false by decide))
def BA (x:Int):ay "int" (.int x)=some (.bool true):=(if_neg (fun z=>nomatch z)).trans (congrArg (fun b=>some (PyData.bool b)) (show aE "int" "int"=true by decide))
def Bz (x:Int):ay "bool" (.int x)=some (.bool false):=(if_neg (fun z=>nomatch z)).trans (congrArg (fun b=>some (PyData.bool b)) (show aE "int" "bool"=false by decide))
def By (x:Int):ay "str" (.int x)=some (.bool false):=(if_neg (fun z=>nomatch z)).trans (congrArg (fun b=>some (PyData.bool b)) (show aE "int" "str"=false by decide))
def Bx (x:Int):ay "list" (.int x)=some (.bool false):=(if_neg (fun z=>nomatch z)).trans (congrArg (fun b=>some (PyData.bool b)) (show aE "int" "list"=false by decide))
def Bw (x:Int):ay "tuple" (.int x)=some (.bool false):=(if_neg (fun z=>nomatch z)).trans (congrArg (fun b=>some (PyData.bool b)) (show aE "int" "tuple"=false by decide))
def Bv (x:Int):ay "dict" (.int x)=some (.bool false):=(if_neg (fun z=>nomatch z)).trans (congrArg (fun b=>some (PyData.bool b)) (show aE "int" "dict"=false by decide))
def Bu (x:Bool):ay "int" (.bool x)=some (.bool true):=(if_neg (fun z=>nomatch z)).trans (congrArg (fun b=>some (PyData.bool b)) (show aE "bool" "int"=true by decide))
def Bt (x:Bool):ay "bool" (.bool x)=some (.bool true):=(if_neg (fun z=>nomatch z)).trans (congrArg (fun b=>some (PyData.bool b)) (show aE "bool" "bool"=true by decide))
def Bs (x:Bool):ay "str" (.bool x)=some (.bool false):=(if_neg (fun z=>nomatch z)).trans (congrArg (fun b=>some (PyData.bool b)) (show aE "bool" "str"=false by decide))
def Br (x:Bool):ay "list" (.bool x)=some (.bool false):=(if_neg (fun z=>nomatch z)).trans (congrArg (fun b=>some (PyData.bool b)) (show aE "bool" "list"=false by decide))
def Bq (x:Bool):ay "tuple" (.bool x)=some (.bool false):=(if_neg (fun z=>nomatch z)).trans (congrArg (fun b=>some (PyData.bool b)) (show aE "bool" "tuple"=false by decide))
def Bp (x:Bool):ay "dict" (.bool x)=some (.bool false):=(if_neg (fun z=>nomatch z)).trans (congrArg (fun b=>some (PyData.bool b)) (show aE "bool" "dict"=false by decide))
def Bo (x:Str):ay "int" (.str x)=some (.bool false):=(if_neg (fun z=>nomatch z)).trans (congrArg (fun b=>some (PyData.bool b)) (show aE "str" "int"=false by decide))
def Bn (x:Str):ay "bool" (.str x)=some (.bool false):=(if_neg (fun z=>nomatch z)).trans (congrArg (fun b=>some (PyData.bool b)) (show aE "str" "bool"=false by decide))
def Bm (x:Str):ay "str" (.str x)=some (.bool true):=(if_neg (fun z=>nomatch z)).trans (congrArg (fun b=>some (PyData.bool b)) (show aE "str" "str"=true by decide))
def Bk (x:Str):ay "list" (.str x)=some (.bool false):=(if_neg (fun z=>nomatch z)).trans (congrArg (fun b=>some (PyData.bool b)) (show aE "str" "list"=false by decide))
def Bj (x:Str):ay "tuple" (.str x)=some (.bool false):=(if_neg (fun z=>nomatch z)).trans (congrArg (fun b=>some (PyData.bool b)) (show aE "str" "tuple"=false by decide))
def Bi (x:Str):ay "dict" (.str x)=some (.bool false):=(if_neg (fun z=>nomatch z)).trans (congrArg (fun b=>some (PyData.bool b)) (show aE "str" "dict"=false by decide))
def Bh (x:List D):ay "int" (.list x)=some (.bool false):=(if_neg (fun z=>nomatch z)).trans (congrArg (fun b=>some (PyData.bool b)) (show aE "list" "int"=false by decide))
def Bg (x:List D):ay "bool" (.list x)=some (.bool false):=(if_neg (fun z=>nomatch z)).trans (congrArg (fun b=>some (PyData.bool b)) (show aE "list" "bool"=false by decide))
def Bf (x:List D):ay "str" (.list x)=some (.bool false):=(if_neg (fun z=>nomatch z)).trans (congrArg (fun b=>some (PyData.bool b)) (show aE "list" "str"=false by decide))
def Be (x:List D):ay "list" (.list x)=some (.bool true):=(if_neg (fun z=>nomatch z)).trans (congrArg (fun b=>some (PyData.bool b)) (show aE "list" "list"=true by decide))
def Bd (x:List D):ay "tuple" (.list x)=some (.bool false):=(if_neg (fun z=>nomatch z)).trans (congrArg (fun b=>some (PyData.bool b)) (show aE "list" "tuple"=false by decide))
def Bc (x:List D):ay "dict" (.list x)=some (.bool false):=(if_neg (fun z=>nomatch z)).trans (congrArg (fun b=>some (PyData.bool b)) (show aE "list" "dict"=false by decide))
def Bb (x:List D):ay "int" (.tuple x)=some (.bool false):=(if_neg (fun z=>nomatch z)).trans (congrArg (fun b=>some (PyData.bool b)) (show aE "tuple" "int"=false by decide))
def Ba (x:List D):ay "bool" (.tuple x)=some (.bool false):=(if_neg (fun z=>nomatch z)).trans (congrArg (fun b=>some (PyData.bool b)) (show aE "tuple" "bool"=false by decide))
def A9 (x:List D):ay "str" (.tuple x)=some (.bool false):=(if_neg (fun z=>nomatch z)).trans (congrArg (fun b=>some (PyData.bool b)) (show aE "tuple" "str"=false by decide))
def A8 (x:List D):ay "list" (.tuple x)=some (.bool false):=(if_neg (fun z=>nomatch z)).trans (congrArg (fun b=>some (PyData.bool b)) (show aE "tuple" "list"=false by decide))
def A7 (x:List D):ay "tuple" (.tuple x)=some (.bool true):=(if_neg (fun z=>nomatch z)).trans (congrArg (fun b=>some (PyData.bool b)) (show aE "tuple" "tuple"=true by decide))
def A6 (x:List D):ay "dict" (.tuple x)=some (.bool false):=(if_neg (fun z=>nomatch z)).trans (congrArg (fun b=>some (PyData.bool b)) (show aE "tuple" "dict"=false by decide))
def A5:ay "int" (.dict [])=some (.bool false):=(if_neg (fun z=>nomatch z)).trans (congrArg (fun b=>some (PyData.bool b)) (show aE "dict" "int"=false by decide))
def A4 (k:Str) (x:D) (r:List (D × D)):ay "int" (.dict ((.str k,x) :: r))=some (.bool false):=(if_neg (fun z=>nomatch z)).trans (congrArg (fun b=>some (PyData.bool b)) (show aE "dict" "int"=false by decide))
def A3 (k:Int) (x:D) (r:List (D × D)):ay "int" (.dict ((.int k,x) :: r))=some (.bool false):=(if_neg (fun z=>nomatch z)).trans (congrArg (fun b=>some (PyData.bool b)) (show aE "dict" "int"=false by decide))
def A2 (k:List D) (x:D) (r:List (D × D)):ay "int" (.dict ((.tuple k,x) :: r))=some (.bool false):=(if_neg (fun z=>nomatch z)).trans (congrArg (fun b=>some (PyData.bool b)) (show aE "dict" "int"=false by decide))
def A1:ay "bool" (.dict [])=some (.bool false):=(if_neg (fun z=>nomatch z)).trans (congrArg (fun b=>some (PyData.bool b)) (show aE "dict" "bool"=false by decide))
def A0 (k:Str) (x:D) (r:List (D × D)):ay "bool" (.dict ((.str k,x) :: r))=some (.bool false):=(if_neg (fun z=>nomatch z)).trans (congrArg (fun b=>some (PyData.bool b)) (show aE "dict" "bool"=false by decide))
def AZ (k:Int) (x:D) (r:List (D × D)):ay "bool" (.dict ((.int k,x) :: r))=some (.bool false):=(if_neg (fun z=>nomatch z)).trans (congrArg (fun b=>some (PyData.bool b)) (show aE "dict" "bool"=false by decide))
def AY (k:List D) (x:D) (r:List (D × D)):ay "bool" (.dict ((.tuple k,x) :: r))=some (.bool false):=(if_neg (fun z=>nomatch z)).trans (congrArg (fun b=>some (PyData.bool b)) (show aE "dict" "bool"=false by decide))
def AX:ay "str" (.dict [])=some (.bool false):=(if_neg (fun z=>nomatch z)).trans (congrArg (fun b=>some (PyData.bool b)) (show aE "dict" "str"=false by decide))
def AW (k:Str) (x:D) (r:List (D × D)):ay "str" (.dict ((.str k,x) :: r))=some (.bool false):=(if_neg (fun z=>nomatch z)).trans (congrArg (fun b=>some (PyData.bool b)) (show aE "dict" "str"=false by decide))
def AV (k:Int) (x:D) (r:List (D × D)):ay "str" (.dict ((.int k,x) :: r))=some (.bool false):=(if_neg (fun z=>nomatch z)).trans (congrArg (fun b=>some (PyData.bool b)) (show aE "dict" "str"=false by decide))
def AU (k:List D) (x:D) (r:List (D × D)):ay "str" (.dict ((.tuple k,x) :: r))=some (.bool false):=(if_neg (fun z=>nomatch z)).trans (congrArg (fun b=>some (PyData.bool b)) (show aE "dict" "str"=false by decide))
def AT:ay "list" (.dict [])=some (.bool false):=(if_neg (fun z=>nomatch z)).trans (congrArg (fun b=>some (PyData.bool b)) (show aE "dict" "list"=false by decide))
def AR (k:Str) (x:D) (r:List (D × D)):ay "list" (.dict ((.str k,x) :: r))=some (.bool false):=(if_neg (fun z=>nomatch z)).trans (congrArg (fun b=>some (PyData.bool b)) (show aE "dict" "list"=false by decide))
def AQ (k:Int) (x:D) (r:List (D × D)):ay "list" (.dict ((.int k,x) :: r))=some (.bool false):=(if_neg (fun z=>nomatch z)).trans (congrArg (fun b=>some (PyData.bool b)) (show aE "dict" "list"=false by decide))
def AO (k:List D) (x:D) (r:List (D × D)):ay "list" (.dict ((.tuple k,x) :: r))=some (.bool false):=(if_neg (fun z=>nomatch z)).trans (congrArg (fun b=>some (PyData.bool b)) (show aE "dict" "list"=false by decide))
def AN:ay "tuple" (.dict [])=some (.bool false):=(if_neg (fun z=>nomatch z)).trans (congrArg (fun b=>some (PyData.bool b)) (show aE "dict" "tuple"=false by decide))
def AM (k:Str) (x:D) (r:List (D × D)):ay "tuple" (.dict ((.str k,x) :: r))=some (.bool false):=(if_neg (fun z=>nomatch z)).trans (congrArg (fun b=>some (PyData.bool b)) (show aE "dict" "tuple"=false by decide))
def AL (k:Int) (x:D) (r:List (D × D)):ay "tuple" (.dict ((.int k,x) :: r))=some (.bool false):=(if_neg (fun z=>nomatch z)).trans (congrArg (fun b=>some (PyData.bool b)) (show aE "dict" "tuple"=false by decide))
def AK (k:List D) (x:D) (r:List (D × D)):ay "tuple" (.dict ((.tuple k,x) :: r))=some (.bool false):=(if_neg (fun z=>nomatch z)).trans (congrArg (fun b=>some (PyData.bool b)) (show aE "dict" "tuple"=false by decide))
def AJ:ay "dict" (.dict [])=some (.bool true):=(if_neg (fun z=>nomatch z)).trans (congrArg (fun b=>some (PyData.bool b)) (show aE "dict" "dict"=true by decide))
def AI (k:Str) (x:D) (r:List (D × D)):ay "dict" (.dict ((.str k,x) :: r))=some (.bool true):=(if_neg (fun z=>nomatch z)).trans (congrArg (fun b=>some (PyData.bool b)) (show aE "dict" "dict"=true by decide))
def AH (k:Int) (x:D) (r:List (D × D)):ay "dict" (.dict ((.int k,x) :: r))=some (.bool true):=(if_neg (fun z=>nomatch z)).trans (congrArg (fun b=>some (PyData.bool b)) (show aE "dict" "dict"=true by decide))
def AG (k:List D) (x:D) (r:List (D × D)):ay "dict" (.dict ((.tuple k,x) :: r))=some (.bool true):=(if_neg (fun z=>nomatch z)).trans (congrArg (fun b=>some (PyData.bool b)) (show aE "dict" "dict"=true by decide))
def AF:((([]:List D).length:Nat):Int)=0:=rfl
def AE (x0:D):((([x0]:List D).length:Nat):Int)=1:=rfl
def AD (x0 x1:D):((([x0,x1]:List D).length:Nat):Int)=2:=rfl
def AC (x0 x1 x2:D):((([x0,x1,x2]:List D).length:Nat):Int)=3:=rfl
def AB (x0 x1 x2 x3:D):((([x0,x1,x2,x3]:List D).length:Nat):Int)=4:=rfl
def AA (x0 x1 x2 x3 x4:D):((([x0,x1,x2,x3,x4]:List D).length:Nat):Int)=5:=rfl
def Az (x0 x1 x2 x3 x4 x5:D):((([x0,x1,x2,x3,x4,x5]:List D).length:Nat):Int)=6:=rfl
def Ay (x0 x1 x2 x3 x4 x5 x6:D):((([x0,x1,x2,x3,x4,x5,x6]:List D).length:Nat):Int)=7:=rfl
def Ax (x0 x1 x2 x3 x4 x5 x6 x7:D):((([x0,x1,x2,x3,x4,x5,x6,x7]:List D).length:Nat):Int)=8:=rfl
def Aw (x0 x1 x2 x3 x4 x5 x6 x7 x8:D):((([x0,x1,x2,x3,x4,x5,x6,x7,x8]:List D).length:Nat):Int)=9:=rfl
def Av (x0 x1 x2 x3 x4 x5 x6 x7 x8 x9:D):((([x0,x1,x2,x3,x4,x5,x6,x7,x8,x9]:List D).length:Nat):Int)=10:=rfl
def Au (x0 x1 x2 x3 x4 x5 x6 x7 x8 x9 x10:D):((([x0,x1,x2,x3,x4,x5,x6,x7,x8,x9,x10]:List D).length:Nat):Int)=11:=rfl
def At (x0 x1 x2 x3 x4 x5 x6 x7 x8 x9 x10 x11:D):((([x0,x1,x2,x3,x4,x5,x6,x7,x8,x9,x10,x11]:List D).length:Nat):Int)=12:=rfl
def As (x0 x1 x2 x3 x4 x5 x6 x7 x8 x9 x10 x11 x12:D):((([x0,x1,x2,x3,x4,x5,x6,x7,x8,x9,x10,x11,x12]:List D).length:Nat):Int)=13:=rfl
def Ar (x0 x1 x2 x3 x4 x5 x6 x7 x8 x9 x10 x11 x12 x13:D):((([x0,x1,x2,x3,x4,x5,x6,x7,x8,x9,x10,x11,x12,x13]:List D).length:Nat):Int)=14:=rfl
def Aq (α β:Type) (f:α->β) (l:List α):(l.map f).length=l.length:=zad f
def Ap:bd [.list ts]=some (.int ts.length):=rfl
def Ao:bd [.tuple ts]=some (.int ts.length):=rfl
def An (z:Str):W (bd [.str z]) Qd=(z.length<=sizeLine/\Qd (.int z.length)):=nA _ _ _
def Am (a:Int):jP [.int a]=some (.int (if a < 0 then -a else a)):=rfl
def Al (a b:Int):ub [.int a,.int b]=some (.int (if b > a then b else a)):=rfl
def Ak (a b:Int):t9 [.int a,.int b]=some (.int (if b < a then b else a)):=rfl
def Aj (a:Int):iQ [.int a]=some (.int a):=rfl
def Ai:iQ [.bool true]=some (.int 1):=rfl
def Ah:iQ [.bool false]=some (.int 0):=rfl
def Ag (a:Int):iM (.int a)=some (.int (-a)):=rfl
def Af:gL [.list ts]=some (.list ts):=rfl
def Ae:tK [.list ts]=some (.tuple ts):=rfl
def Ad (n:Int):ixA (.list ts) (.int n)=atI ts n:=rfl
def Ac:gL [.tuple ts]=some (.list ts):=rfl
def Ab:tK [.tuple ts]=some (.tuple ts):=rfl
def Aa (n:Int):ixA (.tuple ts) (.int n)=atI ts n:=rfl
def zZ (ts us:List D):W (rB (.list ts) (.list us)) Qd=(ts.length+us.length<=sizeLine/\Qd (.list (ts++us))):=iT _ _ _
def zY (lo hi:Option Int):no (.list ts) lo hi=some (.list (eY ts lo hi)):=rfl
def zX:atI ts 0=ts[0]?:=aY ts _
def zW:atI ts 1=ts[1]?:=aY ts _
def zV:atI ts 2=ts[2]?:=aY ts _
def zU:atI ts 3=ts[3]?:=aY ts _
def zT:atI ts 4=ts[4]?:=aY ts _
def zS:atI ts 5=ts[5]?:=aY ts _
def zR:atI ts 6=ts[6]?:=aY ts _
def zQ:atI ts 7=ts[7]?:=aY ts _
def zP:atI ts 8=ts[8]?:=aY ts _
def zO:atI ts 9=ts[9]?:=aY ts _
def zN:atI ts 10=ts[10]?:=aY ts _
def zM:atI ts 11=ts[11]?:=aY ts _
def zL:atI ts 12=ts[12]?:=aY ts _
def zK:atI ts 13=ts[13]?:=aY ts _
def zJ:atI ts 14=ts[14]?:=aY ts _
def zI:atI ts 15=ts[15]?:=aY ts _
def zH:atI ts 16=ts[16]?:=aY ts _
def zG:atI ts 17=ts[17]?:=aY ts _
def zF:atI ts 18=ts[18]?:=aY ts _
def zE:atI ts 19=ts[19]?:=aY ts _
def zC:atI ts 20=ts[20]?:=aY ts _
def zB (t:D):(t :: ts)[0]?=some t:=rfl
def zA (t:D):(t :: ts)[i+1]?=ts[i]?:=List.getElem?_cons_succ
def zz:W (ic i f en) Qe=W (gv en i) (IT i f en Qe):=by unfold gv ic; cases (en[i]?).join with | none=>rw [ba,ba] | some x=>cases x <;> first | rfl | exact (ar _ _).symm | (rw [ar]; rfl) | (rw [ar]; exact ba _)
def zy:IT i f en Qe (.list ts)=W (f en) (uh i Qe):=av _ _ _
def zx (n:Int):uh i Qe (.int n,en)=W (gv en i) (ug i n en Qe):=by unfold uh gv; cases h:(en[i]?).join with | none=>simp only [h,ba] | some x=>simp only [h,ar]; cases x <;> first | rfl | exact (ar _ _).symm | (rw [ar]; rfl) | (rw [ar]; exact ba _)
def zw (n:Int):ug i n en Qe (.list ts)=((-(2 ^ 63)<=n/\n < 2 ^ 63)/\W (tR ts n) (D4 i en Qe)):=by unfold ug tR; dsimp only; rw [uG]; congr 1; rw [av,av]; congr 1; funext k; rw [bx,bx]; rfl
def zv (t:D) (us:List D):D4 i en Qe (t,us)=Qe (t,en.set i (some (.list us))):=rfl
def zu (z:Str) (n:Int):W (ixT (.str z) (.int n)) Qd=(z.length<=sizeLine/\W (atI (li z) n) (kS1 Qd)):=by show W (if _ then _ else _) _=_; rw [uG,bx]; rfl
def zt (c:Nat):kS1 Qd c=Qd (.str (mk1 c)):=rfl
def zr (z:Str) (n:Int):W (n5 (.str z) (.int n)) Qd=((z.length<=4000/\-(2 ^ 63)<=n/\n<=4000)/\Qd (.str (Txt.mul z n))):=nA _ _ _
def zq (z:Str) (lo hi:Option Int):W (rh (.str z) lo hi) Qd=(z.length<=sizeLine/\Qd (.str ⟨(dH z.cps.toList lo hi).toArray⟩)):=nA _ _ _
def zp (a b:Str):xx (.str a) (.str b)=some (.bool (ci b a)):=rfl
def zo (a b:Str):nZ (.str a) (.str b)=some (.bool (!ci b a)):=rfl
def zn (a b:Bool):eqD (.bool a) (.bool b)=some (.bool (a == b)):=FK a b
def zm (a b:Bool):neD (.bool a) (.bool b)=some (.bool (!(a == b))):=EM a b
def zh (a b:Str):eqD (.str a) (.str b)=some (.bool (decide (a=b))):=JX a b
def zg (a b:Str):neD (.str a) (.str b)=some (.bool (!decide (a=b))):=IF a b
def ze:neD (.list []) (.list [])=some (.bool false):=IG
def zd:eqD (.list []) (.list [])=some (.bool true):=JY
def zc (a:Bool):(a == a)=true:=beq_self_eq_true a
def zb:(true == false)=false:=rfl
def y9:(false == true)=false:=rfl
def y8 (t:D) (ts acc:List D):W (lcF g c f (t :: ts) acc en) Ql=W (g t en) (kL1 g c f ts acc Ql):=by unfold lcF; rw [av]; congr 1; funext z; rw [av]; rfl
def y6 (ts acc:List D):kL1 g c f ts acc Ql en=W (c en) (kL2 g c f ts acc Ql):=rfl
def y4 (ts acc:List D):kL2 g c f ts acc Ql (true,en)=W (f en) (kL3 g c f ts acc Ql):=av _ _ _
def y3 (ts acc:List D):kL2 g c f ts acc Ql (false,en)=W (lcF g c f ts acc en) Ql:=rfl
def yZ (ts acc:List D) (t:D):kL3 g c f ts acc Ql (t,en)=(acc.length < sizeLine/\W (lcF g c f ts (acc++[t]) en) Ql):=uG _ _ _
def yY (m:List D):([]++m:List D)=m:=rfl
def yX (x:D) (l m:List D):((x :: l)++m:List D)=x :: (l++m):=rfl
def yW:(([]:List D).length < sizeLine)=True:=eq_true (zag (by show 0 < 100; decide) aP)
def yV (x0:D):(([x0]:List D).length < sizeLine)=True:=eq_true (zag (by show 1 < 100; decide) aP)
def yU (x0 x1:D):(([x0,x1]:List D).length < sizeLine)=True:=eq_true (zag (by show 2 < 100; decide) aP)
def yT (x0 x1 x2:D):(([x0,x1,x2]:List D).length < sizeLine)=True:=eq_true (zag (by show 3 < 100; decide) aP)
def yS (x0 x1 x2 x3:D):(([x0,x1,x2,x3]:List D).length < sizeLine)=True:=eq_true (zag (by show 4 < 100; decide) aP)
def yR (x0 x1 x2 x3 x4:D):(([x0,x1,x2,x3,x4]:List D).length < sizeLine)=True:=eq_true (zag (by show 5 < 100; decide) aP)
def yQ (x0 x1 x2 x3 x4 x5:D):(([x0,x1,x2,x3,x4,x5]:List D).length < sizeLine)=True:=eq_true (zag (by show 6 < 100; decide) aP)
def yP (x0 x1 x2 x3 x4 x5 x6:D):(([x0,x1,x2,x3,x4,x5,x6]:List D).length < sizeLine)=True:=eq_true (zag (by show 7 < 100; decide) aP)
def yO (x0 x1 x2 x3 x4 x5 x6 x7:D):(([x0,x1,x2,x3,x4,x5,x6,x7]:List D).length < sizeLine)=True:=eq_true (zag (by show 8 < 100; decide) aP)
def yN (x0 x1 x2 x3 x4 x5 x6 x7 x8:D):(([x0,x1,x2,x3,x4,x5,x6,x7,x8]:List D).length < sizeLine)=True:=eq_true (zag (by show 9 < 100; decide) aP)
def yM (x0 x1 x2 x3 x4 x5 x6 x7 x8 x9:D):(([x0,x1,x2,x3,x4,x5,x6,x7,x8,x9]:List D).length < sizeLine)=True:=eq_true (zag (by show 10 < 100; decide) aP)
def yL (x0 x1 x2 x3 x4 x5 x6 x7 x8 x9 x10:D):(([x0,x1,x2,x3,x4,x5,x6,x7,x8,x9,x10]:List D).length < sizeLine)=True:=eq_true (zag (by show 11 < 100; decide) aP)
def yK (x0 x1 x2 x3 x4 x5 x6 x7 x8 x9 x10 x11:D):(([x0,x1,x2,x3,x4,x5,x6,x7,x8,x9,x10,x11]:List D).length < sizeLine)=True:=eq_true (zag (by show 12 < 100; decide) aP)
def yJ (x0 x1 x2 x3 x4 x5 x6 x7 x8 x9 x10 x11 x12:D):(([x0,x1,x2,x3,x4,x5,x6,x7,x8,x9,x10,x11,x12]:List D).length < sizeLine)=True:=eq_true (zag (by show 13 < 100; decide) aP)
def yI (x0 x1 x2 x3 x4 x5 x6 x7 x8 x9 x10 x11 x12 x13:D):(([x0,x1,x2,x3,x4,x5,x6,x7,x8,x9,x10,x11,x12,x13]:List D).length < sizeLine)=True:=eq_true (zag (by show 14 < 100; decide) aP)
def yH:oC [.list []]=some (.bool true):=rfl
def yG (a:Bool):oC [.list [.bool a]]=some (.bool a):=by cases a <;> rfl
def yF (a b:Bool):oC [.list [.bool a,.bool b]]=some (.bool (a && b)):=by cases a <;> cases b <;> rfl
def yE:gy [.list []]=some (.int 0):=rfl
def yD (a:Int):gy [.list [.int a]]=some (.int a):=by show some (PyData.int (a+0))=_; rw [Int.add_zero]
def yC (a b:Int):gy [.list [.int a,.int b]]=some (.int (a+b)):=by show some (PyData.int (a+(b+0)))=_; rw [Int.add_zero]
def yB (x:D) (l:List D):eY (x :: l) (some 1) none=l:=FN x l
def yA (x:D) (l:List D):(HT.sIx (x :: l).length 0 (some 1)=0)=False:=KY x l
def yz (p:Prop):(False/\p)=False:=false_and p
def yy:(¬ False)=True:=not_false_eq_true
def yx:(!true)=false:=rfl
def yw:(!false)=true:=rfl
def yv (p:Prop):(True/\p)=p:=true_and p
def yu (p:Prop):(p/\True)=p:=and_true p
def yt (_:Decidable True):decide True=true:=zaB trivial
def yr (_:Decidable False):decide False=false:=zaA (fun z=>z)
def yq (α:Sort 1) (a:α):(a=a)=True:=eq_self a
end
def zzI {a b:Prop} (x:a) (y:b):a/\b:=⟨x,y⟩
def Ga:=zzI @ws0 (zzI @ws1 (zzI @ws2 (zzI @ws3 (zzI @ws4 (zzI @ws5 (zzI @ws6 (zzI @ws7 (zzI @ws8 (zzI @ws9 (zzI @HI (zzI @HH (zzI @HG (zzI @HF (zzI @HE (zzI @HD (zzI @HC (zzI @HB (zzI @HA (zzI @Hz (zzI @Hy (zzI @Hx (zzI @Hw (zzI @Hv (zzI @Hu (zzI @Ht (zzI @Hs (zzI @Hr (zzI @Hq (zzI @Ho (zzI @Hn (zzI @Hm (zzI @Hl (zzI @Hk (zzI @Hj (zzI @Hi (zzI @Hh (zzI @Hg (zzI @Hf @He))))))))))))))))))))))))))))))))))))))
def F9:=zzI @Hd (zzI @Hc (zzI @Hb (zzI @Ha (zzI @G9 (zzI @G8 (zzI @G7 (zzI @G6 (zzI @G5 (zzI @G4 (zzI @G3 (zzI @G0 (zzI @GZ (zzI @GY (zzI @GW (zzI @GV (zzI @GU (zzI @GT (zzI @GS (zzI @GR (zzI @GQ (zzI @GP (zzI @GO (zzI @GN (zzI @GM (zzI @GL (zzI @GK (zzI @GJ (zzI @GI (zzI @GH (zzI @GG (zzI @GF (zzI @GE (zzI @GD (zzI @GC (zzI @GB (zzI @GA (zzI @Gz (zzI @Gy @Gx))))))))))))))))))))))))))))))))))))))
def F8:=zzI @Gw (zzI @Gv (zzI @Gu (zzI @Gs (zzI @Gr (zzI @Gq (zzI @Gp (zzI @Go (zzI @Gn (zzI @Gm (zzI @Gk (zzI @Gj (zzI @Gi (zzI @Gh (zzI @Gg (zzI @Gf (zzI @Ge (zzI @Gd (zzI @Gc (zzI @Gb (zzI @DE (zzI @DD (zzI @DC (zzI @DB (zzI @DA (zzI @Dz (zzI @Dy (zzI @Dx (zzI @Dw (zzI @Dv (zzI @Du (zzI @Dt (zzI @Ds (zzI @Dr (zzI @Dq (zzI @Dp (zzI @Do (zzI @Dm (zzI @Dl @Dk))))))))))))))))))))))))))))))))))))))
def F7:=zzI @Dj (zzI @Di (zzI @Dh (zzI @Dg (zzI @De (zzI @Dd (zzI @Dc (zzI @Db (zzI @Da (zzI @C9 (zzI @C8 (zzI @C7 (zzI @C6 (zzI @C5 (zzI @C4 (zzI @C3 (zzI @CZ (zzI @CY (zzI @CW (zzI @CV (zzI @CU (zzI @CT (zzI @CQ (zzI @CP (zzI @CO (zzI @CN (zzI @CM (zzI @CL (zzI @CK (zzI @CJ (zzI @CI (zzI @CH (zzI @CG (zzI @CF (zzI @CD (zzI @CC (zzI @CB (zzI @CA (zzI @Cz @Cy))))))))))))))))))))))))))))))))))))))
def FZ:=zzI @Cw (zzI @Cv (zzI @Cu (zzI @Ct (zzI @Cr (zzI @Cq (zzI @Cp (zzI @Co (zzI @Cn (zzI @Cm (zzI @Cl (zzI @Ck (zzI @Cj (zzI @Ci (zzI @Ch (zzI @Cg (zzI @Cf (zzI @Ce (zzI @Cd (zzI @Cc (zzI @Cb (zzI @Ca (zzI @B9 (zzI @B8 (zzI @B7 (zzI @B6 (zzI @B5 (zzI @B4 (zzI @B3 (zzI @B2 (zzI @B1 (zzI @B0 (zzI @BZ (zzI @BY (zzI @BX (zzI @BW (zzI @BV (zzI @BU (zzI @BT @BS))))))))))))))))))))))))))))))))))))))
def FY:=zzI @BR (zzI @BQ (zzI @BP (zzI @BO (zzI @BN (zzI @BM (zzI @BL (zzI @BK (zzI @BJ (zzI @BI (zzI @BH (zzI @BG (zzI @BF (zzI @BE (zzI @BD (zzI @BC (zzI @BB (zzI @BA (zzI @Bz (zzI @By (zzI @Bx (zzI @Bw (zzI @Bv (zzI @Bu (zzI @Bt (zzI @Bs (zzI @Br (zzI @Bq (zzI @Bp (zzI @Bo (zzI @Bn (zzI @Bm (zzI @Bk (zzI @Bj (zzI @Bi (zzI @Bh (zzI @Bg (zzI @Bf (zzI @Be @Bd))))))))))))))))))))))))))))))))))))))
def FX:=zzI @Bc (zzI @Bb (zzI @Ba (zzI @A9 (zzI @A8 (zzI @A7 (zzI @A6 (zzI @A5 (zzI @A4 (zzI @A3 (zzI @A2 (zzI @A1 (zzI @A0 (zzI @AZ (zzI @AY (zzI @AX (zzI @AW (zzI @AV (zzI @AU (zzI @AT (zzI @AR (zzI @AQ (zzI @AO (zzI @AN (zzI @AM (zzI @AL (zzI @AK (zzI @AJ (zzI @AI (zzI @AH (zzI @AG (zzI @AF (zzI @AE (zzI @AD (zzI @AC (zzI @AB (zzI @AA (zzI @Az (zzI @Ay @Ax))))))))))))))))))))))))))))))))))))))
def FW:=zzI @Aw (zzI @Av (zzI @Au (zzI @At (zzI @As (zzI @Ar (zzI @Aq (zzI @Ap (zzI @Ao (zzI @An (zzI @Am (zzI @Al (zzI @Ak (zzI @Aj (zzI @Ai (zzI @Ah (zzI @Ag (zzI @Af (zzI @Ae (zzI @Ad (zzI @Ac (zzI @Ab (zzI @Aa (zzI @zZ (zzI @zY (zzI @zX (zzI @zW (zzI @zV (zzI @zU (zzI @zT (zzI @zS (zzI @zR (zzI @zQ (zzI @zP (zzI @zO (zzI @zN (zzI @zM (zzI @zL (zzI @zK @zJ))))))))))))))))))))))))))))))))))))))
def FV:=zzI @zI (zzI @zH (zzI @zG (zzI @zF (zzI @zE (zzI @zC (zzI @zB (zzI @zA (zzI @zz (zzI @zy (zzI @zx (zzI @zw (zzI @zv (zzI @zu (zzI @zt (zzI @zr (zzI @zq (zzI @zp (zzI @zo (zzI @zn (zzI @zm (zzI @zh (zzI @zg (zzI @ze (zzI @zd (zzI @zc (zzI @zb (zzI @y9 (zzI @y8 (zzI @y6 (zzI @y4 (zzI @y3 (zzI @yZ (zzI @yY (zzI @yX (zzI @yW (zzI @yV (zzI @yU (zzI @yT @yS))))))))))))))))))))))))))))))))))))))
def FU:=zzI @yR (zzI @yQ (zzI @yP (zzI @yO (zzI @yN (zzI @yM (zzI @yL (zzI @yK (zzI @yJ (zzI @yI (zzI @yH (zzI @yG (zzI @yF (zzI @yE (zzI @yD (zzI @yC (zzI @yB (zzI @yA (zzI @yz (zzI @yy (zzI @yx (zzI @yw (zzI @yv (zzI @yu (zzI @yt (zzI @yr @yq)))))))))))))))))))))))))
def ws:=zzI @Ga (zzI @F9 (zzI @F8 (zzI @F7 (zzI @FZ (zzI @FY (zzI @FX (zzI @FW (zzI @FV @FU))))))))
def ly {g:MG} {b:MS} {ts:List D} {en:En} {Q:Fl->Prop} (I:Nat->En->Prop) (h0:I 0 en)
  (hs:∀ i t en,ts[i]?=some t->I i en->W (g t en) (kFg b (I (i+1)) Q)) (hq:∀ en,I ts.length en->Q (.nx en)):W (cG g b ts en) Q:=by
 suffices ∀ (us:List D) (i:Nat) (en:En),ts.drop i=us->i<=ts.length->I i en->W (cG g b us en) Q from this ts 0 en rfl (Nat.zero_le _) h0
 intro us
 induction us with
 | nil =>
  intro i en hu hi h
  have:ts.length - i=0:=by rw [<- zaF,hu]; rfl
  simp only [ws];exact hq en (by rw [show ts.length=i by omega]; exact h)
 | cons t us ih =>
  intro i en hu hi h;have ht:ts[i]?=some t:=by
   have:(ts.drop i)[0]?=some t:=by rw [hu]; rfl
   rw [List.getElem?_drop] at this;exact this
  have hl:i < ts.length:=(zah.mp ht).1;have hd:ts.drop (i+1)=us:=by rw [<- List.drop_drop,hu]; rfl
  simp only [ws];refine (hs i t en ht h).use fun en1 h1=>?_;simp only [ws] at h1 ⊢;refine h1.use fun fl h2=>?_;cases fl with
  | nx e=>simp only [ws] at h2 ⊢; exact ih (i+1) e hd hl h2
  | ct e=>simp only [ws] at h2 ⊢; exact ih (i+1) e hd hl h2
  | rt t e=>simp only [ws] at h2 ⊢; exact h2
def yh {g:MG} {c:MT} {f:ME} {ts:List D} {en:En} {Q:List D × En->Prop} (I:Nat->List D->En->Prop) (hz:ts.length<=sizeLine) (h0:I 0 [] en)
  (hs:∀ i t us en,ts[i]?=some t->us.length<=i->I i us en->W (g t en) (IW c f us (I (i+1)))) (hq:∀ us en,us.length<=ts.length->I ts.length us en->Q (us,en)):W (lcF g c f ts [] en) Q:=by
 suffices ∀ (vs:List D) (i:Nat) (us:List D) (en:En),ts.drop i=vs->i<=ts.length->us.length<=i->I i us en->W (lcF g c f vs us en) Q from this ts 0 [] en rfl (Nat.zero_le _) (Nat.zero_le _) h0
 intro vs
 induction vs with
 | nil =>
  intro i us en hu hi hl h
  have:ts.length - i=0:=by rw [<- zaF,hu]; rfl
  simp only [ws];exact hq us en (by omega) (by rw [show ts.length=i by omega]; exact h)
 | cons t vs ih =>
  intro i us en hu hi hl h;have ht:ts[i]?=some t:=by
   have:(ts.drop i)[0]?=some t:=by rw [hu]; rfl
   rw [List.getElem?_drop] at this;exact this
  have hlt:i < ts.length:=(zah.mp ht).1;have hd:ts.drop (i+1)=vs:=by rw [<- List.drop_drop,hu]; rfl
  unfold lcF;rw [av];refine (hs i t us en ht hl h).use fun en1 h1=>?_;simp only [ws] at h1;rw [av];refine h1.use fun r h2=>?_;obtain ⟨x,en2⟩:=r;cases x with
  | true =>
   simp only [ws] at h2;show W ((f en2).bind _) Q;rw [av];refine h2.use fun q h3=>?_;obtain ⟨u,en3⟩:=q;simp only [ws] at h3;show W (if us.length < sizeLine then _ else _) Q;rw [if_pos (by omega)];exact ih (i+1) _ _ hd hlt (by rw [zae]; show _+1<=_; omega) h3
  | false =>
   simp only [ws] at h2;exact ih (i+1) _ _ hd hlt (by omega) h2
def lw {c:MT} {b:MS} {en:En} {Q:Fl->Prop} (I:Nat->En->Prop) (hs:∀ n en,I n en->W (c en) (kWh b (fun e=>∃ m,m < n/\I m e) Q)) {n:Nat} (h0:I n en):W (bt c b en) Q:=by
 induction n using Nat.strongRecOn generalizing en with
 | _ n ih =>
  obtain ⟨⟨x,en1⟩,e1,h1⟩:=(hs n en h0).ex;cases x with
  | false=>simp only [ws] at h1; exact W.of (lF e1) h1
  | true =>
   simp only [ws] at h1;obtain ⟨fl,e2,h2⟩:=h1.ex;cases fl with
   | nx e =>
    obtain ⟨m,hm,hi⟩:∃ m,m < n/\I m e:=h2;obtain ⟨fl,e3,h3⟩:=(ih m hm hi).ex;exact W.of (lG e1 e2 e3) h3
   | ct e =>
    obtain ⟨m,hm,hi⟩:∃ m,m < n/\I m e:=h2;obtain ⟨fl,e3,h3⟩:=(ih m hm hi).ex;obtain ⟨k,h4⟩:=iL e3;refine W.of (iw (n:=k+1) ?_) h3;unfold whN;rw [e1];show (b en1).bind _=_;rw [e2];exact h4
   | rt t e =>
    refine W.of (iw (n:=1) ?_) (show Q (.rt t e) from h2);unfold whN;rw [e1];show (b en1).bind _=_;rw [e2];rfl
def dL {f:ME} {ts:List D} {o:Option D} {rest:En} {Q:List D × En->Prop} (F:D->D) (hz:ts.length<=sizeLine) (hf:∀ t∈ts,W (f (some t :: rest)) (fun r=>r=(F t,some t :: rest))) (hq:∀ o',Q (ts.map F,o' :: rest)):W (lcF (gN 0) cY f ts [] (o :: rest)) Q:=by
 obtain ⟨o',e⟩:=la (f:=f) (F:=F) (rest:=rest) ts [] o (fun t ht=>by
  obtain ⟨r,e,h⟩:=(hf t ht).ex;rw [e,h]) (by simpa using hz)
 exact W.of e (hq o')
def wy {c:MT} {f:ME} {ts:List D} {o:Option D} {rest:En} {Q:List D × En->Prop} (p:D->Bool) (F:D->D) (hz:ts.length<=sizeLine) (hc:∀ t∈ts,W (c (some t :: rest)) (fun r=>r=(p t,some t :: rest))) (hf:∀ t∈ts,p t=true->W (f (some t :: rest)) (fun r=>r=(F t,some t :: rest))) (hq:∀ o',Q ((ts.filter p).map F,o' :: rest)):W (lcF (gN 0) c f ts [] (o :: rest)) Q:=by
 obtain ⟨o',e⟩:=fy (c:=c) (f:=f) (p:=p) (F:=F) (rest:=rest) ts [] o (fun t ht=>by
  obtain ⟨r,e,h⟩:=(hc t ht).ex;rw [e,h]) (fun t ht hp=>by
  obtain ⟨r,e,h⟩:=(hf t ht hp).ex;rw [e,h]) (by simpa using hz)
 exact W.of e (hq o')
def gn {α:Type} {ts:List α} {i:Nat} {t:α} (h:ts[i]?=some t):ts.take (i+1)=ts.take i++[t]:=by
 rw [List.take_add_one,h]; rfl
def wx {g:MG} {b:MS} {ts:List D} {en:En} {Q:Fl->Prop} (J:En->Prop) (h0:J en) (hs:∀ t∈ts,∀ en,J en->W (g t en) (kFg b J Q)) (hq:∀ en,J en->Q (.nx en)):W (cG g b ts en) Q :=
 ly (fun _=>J) h0 (fun _ t en ht hj=>hs t (zaX ht) en hj) hq
def nV {i:Int} {n k:Nat} {t:D} (h:(jz i n)[k]?=some t):k < n/\t=.int (i+(k:Nat)):=by
 unfold jz at h;rw [zao] at h;obtain ⟨j,hj,rfl⟩:=zab.mp h;obtain ⟨hl,e⟩:=zah.mp hj;rw [List.getElem_range] at e;rw [List.length_range] at hl;exact ⟨hl,by rw [e]⟩
def je (i:Int) (n:Nat):(jz i n).length=n:=by unfold jz; rw [zad,List.length_range]
def sz {n:Nat} (h:n<=1000):n<=sizeLine:=zau h Pen3.sl1000
def szl {n:Nat} (h:n < 1000):n < sizeLine:=zag h Pen3.sl1000
def jp {p:D} {m:Int} (hp:Pen3.IsPen p) (h3:0 < m) (h4:m < 1073741824) {Q:D × En->Prop} (h:∀ r p',0<=r->r < m->Pen3.IsPen p'->Q (.int r,[some p',none])):W (Pen3.F_law_draw [p,.int m]) Q:=by
 obtain ⟨r,p',e,h1,h2,h5⟩:=Pen3.draw_ok hp h3 h4;exact W.of e (h r p' h1 h2 h5)
end L2
set_option maxHeartbeats 1000000
namespace L2
namespace Tg
open PySem L2 Pen3
abbrev s1 (c:Nat):D:=.str (mk1 c)
def ev:Str:=("!\"#$&'()*+,-./0123456789:;<=>?@ABCDEFGHIJKLMNOPQRSTUVWXYZ" : Str)++("[\\]^_`abcdefghijklmnopqrstuvwxyz{|}~" : Str)
def iE:∀ (l:List Nat) (k:Nat),(l.map s1).eraseIdx k=(l.eraseIdx k).map s1
 | [],_=>rfl
 | a :: l,0=>rfl
 | a :: l,k+1=>by
  show s1 a :: (l.map s1).eraseIdx k=s1 a :: (l.eraseIdx k).map s1;rw [iE l k]
def kw {z:Str} (h:(li z).length<=1000):gL [.str z]=some (.list ((li z).map s1)):=by
 show grd (z.cps.size<=sizeLine) _=_;unfold grd;rw [if_pos (zau (by rw [<- zaY]; exact h) sl1000)];rfl
def K9 {left:List Nat} {k:Nat} (hk:k < left.length):tR (left.map s1) (k:Int)=some (s1 left[k],(left.eraseIdx k).map s1):=by
 unfold tR;rw [zad,HX (by omega) (by omega),zaL];show Option.map _ _=_;rw [zao,zak hk,iE];rfl
def uE {α:Type} (xs:List α) (n:Nat):eY xs (some (n:Int)) none=xs.drop n:=by
 unfold eY;rw [HT.sIx_none,HT.sIx_nat,List.take_of_length_le (by rw [zaF]; exact zav _)];by_cases h:n<=xs.length
 ·rw [Nat.min_eq_left h]
 ·rw [Nat.min_eq_right (by omega),List.drop_eq_nil_of_le (zav _),List.drop_eq_nil_of_le (by omega)]
def jO {α:Type} (xs:List α) (n:Nat):eY xs none (some (n:Int))=xs.take n:=by
 unfold eY;rw [HT.sIx_none,HT.sIx_nat,List.drop_zero,Nat.sub_zero];by_cases h:n<=xs.length
 ·rw [Nat.min_eq_left h]
 ·rw [Nat.min_eq_right (by omega),List.take_of_length_le (zav _),List.take_of_length_le (by omega)]
def lW:∀ ks:List Str,joinD.strsOf (ks.map .str)=some ks
 | []=>rfl
 | c :: cs=>by
  show (joinD.strsOf (cs.map .str)).map (c :: ·)=_;rw [lW cs];rfl
def oV {ks:List Str} (h:(az ks).length<=1000) (h2:ks.length<=1000):joinD "" [.tuple (ks.map .str)]=some (.str (ofL (az ks)))/\joinD "" [.list (ks.map .str)]=some (.str (ofL (az ks))):=by
 have e:ofL (az ks)=Txt.join "" ks:=(vC (J3 ks)).symm;constructor
 ·show (joinD.strsOf (ks.map .str)).bind _=_;rw [lW];show (if _ then _ else _)=_;rw [if_pos ⟨by decide,by rw [rA]; omega⟩,e]
 ·show (joinD.strsOf (ks.map .str)).bind _=_;rw [lW];show (if _ then _ else _)=_;rw [if_pos ⟨by decide,by rw [rA]; omega⟩,e]
def lh {cs:List Nat} (h:cs.length<=1000):joinD "" [.list (cs.map s1)]=some (.str (ofL cs)):=by
 have e:(cs.map s1)=(cs.map mk1).map PyData.str:=by rw [zaR]; rfl
 have h2:=(oV (ks:=cs.map mk1) (by rw [rz]; exact h) (by rw [zad]; exact h)).2;rw [rz] at h2;rw [e];exact h2
def tD (ks:List Str):D:=.tuple (ks.map .str)
abbrev sgs (ks:List Str):Str:=ofL (az ks)
def fc (cs:List Nat):(ofL cs).length=cs.length:=by show cs.toArray.size=_; rw [zai]
end Tg
end L2
namespace L2
namespace Tg
open PySem L2 Pen3
abbrev rv (z:Str):Str:=⟨z.cps.toList.reverse.toArray⟩
end Tg
end L2
set_option maxHeartbeats 4000000
namespace W30
open PySem L2
def top (i:Nat):Stmt:=PySem.Challenge.pw_wordrules_k30_order_refused.main.body.getD i (.Pass ⟨0,0,0,0⟩)
structure Bl (mg:Str->Option Value):Prop where
 ValueError0:mg "ValueError"=none
 abs0:mg "abs"=none
 all0:mg "all"=none
 bool0:mg "bool"=none
 enumerate0:mg "enumerate"=none
 int0:mg "int"=none
 isinstance0:mg "isinstance"=none
 len0:mg "len"=none
 list0:mg "list"=none
 max0:mg "max"=none
 min0:mg "min"=none
 range0:mg "range"=none
 str0:mg "str"=none
 sum0:mg "sum"=none
 tuple0:mg "tuple"=none
section
variable {P:Program} {w:World} {K:PySem.W.Frag} {mg:Str->Option Value} {base:Heap} {f:Addr} {fd:FuncData}
def kn0:List Str:=["NoNumber", "NoWord", "NoFit"]
def fM:List Str:=["NoFit"]
def cP:List Str:=["NoNumber"]
def eR:List Str:=["NoWord"]
def cg:List Str:=["NoNumber", "NoWord", "NoFit"]
def xt0:List Str:=[]
abbrev kO:Stmt:=top 3
abbrev pq:List Str:=["tongue"]
def scsigns_of:FnScope pq ["tongue"] (aj kO):=⟨rfl,rfl,rfl,by decide +kernel,rfl,by decide +kernel,by decide +kernel⟩
def kW:MS:=(aB (eM joinD (eC (.str "")) (ad (ac 0) ag)))
def b8:List D->Option (D × En):=fnF 0 [0] kW
def tW {k:Nat} (T:Bl mg)   (F:Fun K "signs_of" "signs_of" kO f fd):FnOk P w K mg base CX0 (k+1) f fd ["tongue"] (spF K [0] 3 b8):=by
 have nd:=scsigns_of.nd;refine F.okQ (N:=pq) (b:=kW) (J:=⟨[],[0],3,[]⟩) (ds0:=[0]) scsigns_of rfl rfl rfl rfl fun cdv A outer s H E hr=>?_;exact (frt (cN (K:=K) rfl PySem.F.slot_str_join PySem.F.type_str_join (gS rfl) gX aG (aa (fv 0 rfl rfl) ae rfl) rfl rfl rfl rfl rfl rfl) rfl)
abbrev jS:Stmt:=top 2
abbrev mG:List Str:=["tongue", "thing", "signs"]
def scis_word:FnScope mG ["tongue", "thing"] (aj jS):=⟨rfl,rfl,rfl,by decide +kernel,rfl,by decide +kernel,by decide +kernel⟩
def j4:ME:=(e2 xx (ac 0) (ac 1))
def gc:MS:=(ai (sIf (bOr (dD (tV (e1 (ay "str") (ac 1)))) (tV (e2 gtI (eN bd (ad (ac 1) ag)) (eC (.int 60))))) (aB (eC (.bool false))) aZ)
 (ai (al 2 (ak b8 (ad (ac 0) ag)))
 (aB (eN oC (ad (eLC true (be (ac 1)) (gN 0) cY j4 [none,some 2]) ag)))))
def bz:List D->Option (D × En):=fnF 1 [0,0] gc
def vn {k:Nat} (T:Bl mg) {bh:Tok} (bo:mg "MOST_SIGNS_OF_A_WORD"=some (.int 60 bh)) (gw:Kn P w K mg base k "signs_of" ["tongue"] (spF K [0] 3 b8)) (F:Fun K "is_word" "is_word" jS f fd):FnOk P w K mg base CX0 (k+1) f fd ["tongue", "thing"] (spF K [0,0] 3 bz):=by
 have nd:=scis_word.nd;refine F.okQ (N:=mG) (b:=gc) (J:=⟨[],[0,0,0],3,[]⟩) (ds0:=[0,0,0]) scis_word rfl rfl rfl rfl fun cdv A outer s H E hr=>?_;exact (af (aN (ds2:=[0,0,0]) (qpt (fT (bY (a8 (mn (K:=K) (n:="str") rfl rfl T.isinstance0 rfl T.str0 (by decide +kernel) (by decide) (fv 1 rfl rfl) (by decide) rfl rfl rfl rfl) (fun _=>rfl))) (eT (aJ uv (fln rfl T.len0 (aa (fv 1 rfl rfl) ae rfl) rfl rfl) (jL rfl bo rfl) (aR _))))) (frt cc rfl) aK) (af (bb (i:=2) (d:=0) (ds':=[0,0,0]) nd rfl (.inr rfl) (fs0 (fnn gw hr (aa (fv 0 rfl rfl) ae rfl) rfl rfl)) rfl (by decide) (by decide) rfl (.inl rfl)) (frt (fcb (Ju (K:=K) rfl rfl) T.all0 (by decide +kernel) (aa (fs0 (bV (cd:=3) (d:=3) (dsi:=[0,0]) (lk:=[1]) (BlkOkC.of (ns:=["sign", "signs"]) (js:=[none,some 2]) (N0:=mG) (sc0:=aj jS) rfl rfl (by decide +kernel)) rfl (aU (K:=K) rfl (fv 1 rfl rfl)) (fun _ _ _ _ _=>(au (i:=0) (ds':=[0,0]) (show (["sign", "signs"]:List Str).Nodup by decide +kernel) rfl (.inl rfl) rfl (by decide) (by decide) (.inr rfl))) (fun _ _ _ _ _=>aX) (fun _ _ _ _ _=>(dG Js (fv 0 rfl rfl) (fvc 1 rfl rfl) (by with_unfolding_all rfl))) rfl rfl (by decide) rfl (fun _=>rfl))) ae rfl) rfl rfl) rfl)))
abbrev lA:Stmt:=top 4
abbrev oG:List Str:=["tongue", "word", "signs"]
def scrow_of:FnScope oG ["tongue", "word"] (aj lA):=⟨rfl,rfl,rfl,by decide +kernel,rfl,by decide +kernel,by decide +kernel⟩
def pB:ME:=(eM jj (ac 1) (ad (ac 0) ag))
def oK:MS:=(ai (al 2 (ak b8 (ad (ac 0) ag)))
 (aB (eLC true (be (ac 1)) (gN 0) cY pB [none,some 2])))
def dU:List D->Option (D × En):=fnF 1 [0,0] oK
def wX {k:Nat} (T:Bl mg)  (gw:Kn P w K mg base k "signs_of" ["tongue"] (spF K [0] 3 b8)) (F:Fun K "row_of" "row_of" lA f fd):FnOk P w K mg base CX0 (k+1) f fd ["tongue", "word"] (spF K [0,0] 3 dU):=by
 have nd:=scrow_of.nd;refine F.okQ (N:=oG) (b:=oK) (J:=⟨[],[0,0,0],3,[]⟩) (ds0:=[0,0,0]) scrow_of rfl rfl rfl rfl fun cdv A outer s H E hr=>?_;exact (af (bb (i:=2) (d:=0) (ds':=[0,0,0]) nd rfl (.inr rfl) (fs0 (fnn gw hr (aa (fv 0 rfl rfl) ae rfl) rfl rfl)) rfl (by decide) (by decide) rfl (.inl rfl)) (frt (bV (cd:=3) (d:=3) (dsi:=[0,0]) (lk:=[1]) (BlkOkC.of (ns:=["sign", "signs"]) (js:=[none,some 2]) (N0:=oG) (sc0:=aj lA) rfl rfl (by decide +kernel)) rfl (aU (K:=K) rfl (fv 1 rfl rfl)) (fun _ _ _ _ _=>(au (i:=0) (ds':=[0,0]) (show (["sign", "signs"]:List Str).Nodup by decide +kernel) rfl (.inl rfl) rfl (by decide) (by decide) (.inr rfl))) (fun _ _ _ _ _=>aX) (fun _ _ _ _ _=>(cN (K:=K) rfl PySem.F.slot_str_index PySem.F.type_str_index qy qW (fvc 1 rfl rfl) (aa (fv 0 rfl rfl) ae rfl) rfl rfl rfl rfl rfl rfl)) rfl rfl (by decide) rfl (fun _=>rfl)) rfl))
abbrev jQ:Stmt:=top 5
abbrev mE:List Str:=["tongue", "row", "signs"]
def scword_of:FnScope mE ["tongue", "row"] (aj jQ):=⟨rfl,rfl,rfl,by decide +kernel,rfl,by decide +kernel,by decide +kernel⟩
def nL:ME:=(e2 ixT (ac 1) (ac 0))
def mM:MS:=(ai (al 2 (ak b8 (ad (ac 0) ag)))
 (aB (eM joinD (eC (.str "")) (ad (eLC true (be (ac 1)) (gN 0) cY nL [none,some 2]) ag))))
def e8:List D->Option (D × En):=fnF 1 [0,0] mM
def vj {k:Nat} (T:Bl mg)  (gw:Kn P w K mg base k "signs_of" ["tongue"] (spF K [0] 3 b8)) (F:Fun K "word_of" "word_of" jQ f fd):FnOk P w K mg base CX0 (k+1) f fd ["tongue", "row"] (spF K [0,0] 3 e8):=by
 have nd:=scword_of.nd;refine F.okQ (N:=mE) (b:=mM) (J:=⟨[],[0,0,0],3,[]⟩) (ds0:=[0,0,0]) scword_of rfl rfl rfl rfl fun cdv A outer s H E hr=>?_;exact (af (bb (i:=2) (d:=0) (ds':=[0,0,0]) nd rfl (.inr rfl) (fs0 (fnn gw hr (aa (fv 0 rfl rfl) ae rfl) rfl rfl)) rfl (by decide) (by decide) rfl (.inl rfl)) (frt (cN (K:=K) rfl PySem.F.slot_str_join PySem.F.type_str_join (gS rfl) gX aG (aa (fs0 (bV (cd:=3) (d:=3) (dsi:=[0,0]) (lk:=[1]) (BlkOkC.of (ns:=["number", "signs"]) (js:=[none,some 2]) (N0:=mE) (sc0:=aj jQ) rfl rfl (by decide +kernel)) rfl (aU (K:=K) rfl (fv 1 rfl rfl)) (fun _ _ _ _ _=>(au (i:=0) (ds':=[0,0]) (show (["number", "signs"]:List Str).Nodup by decide +kernel) rfl (.inl rfl) rfl (by decide) (by decide) (.inr rfl))) (fun _ _ _ _ _=>aX) (fun _ _ _ _ _=>(aQ jm (fvc 1 rfl rfl) (fv 0 rfl rfl) (fun _ _=>rfl))) rfl rfl (by decide) rfl (fun _=>rfl))) ae rfl) rfl rfl rfl rfl rfl rfl) rfl))
abbrev kP:Stmt:=top 7
abbrev pr:List Str:=["thing"]
def scis_whole:FnScope pr ["thing"] (aj kP):=⟨rfl,rfl,rfl,by decide +kernel,rfl,by decide +kernel,by decide +kernel⟩
def cB:MS:=(aB (kH (e1 (ay "int") (ac 0)) (on (e1 (ay "bool") (ac 0)))))
def bc:List D->Option (D × En):=fnF 0 [0] cB
def tY {k:Nat} (T:Bl mg)   (F:Fun K "is_whole" "is_whole" kP f fd):FnOk P w K mg base CX0 (k+1) f fd ["thing"] (spF K [0] 3 bc):=by
 have nd:=scis_whole.nd;refine F.okQ (N:=pr) (b:=cB) (J:=⟨[],[0],3,[]⟩) (ds0:=[0]) scis_whole rfl rfl rfl rfl fun cdv A outer s H E hr=>?_;exact (frt (ms (mn (K:=K) (n:="int") rfl rfl T.isinstance0 rfl T.int0 (by decide +kernel) (by decide) (fv 0 rfl rfl) (by decide) rfl rfl rfl rfl) (jK (xM (mn (K:=K) (n:="bool") rfl rfl T.isinstance0 rfl T.bool0 (by decide +kernel) (by decide) (fv 0 rfl rfl) (by decide) rfl rfl rfl rfl)))) rfl)
abbrev oE:Stmt:=top 9
abbrev tj:List Str:=["machine", "stand"]
def scis_end:FnScope tj ["machine", "stand"] (aj oE):=⟨rfl,rfl,rfl,by decide +kernel,rfl,by decide +kernel,by decide +kernel⟩
def lC:MS:=(aB (kH (e2 dZ (ac 1) (eC .none)) (e2 ixA (e2 ixA (ac 0) (eC (.int 0))) (ac 1))))
def fZ:List D->Option (D × En):=fnF 0 [0,0] lC
def wZ {k:Nat} (T:Bl mg)   (F:Fun K "is_end" "is_end" oE f fd):FnOk P w K mg base CX0 (k+1) f fd ["machine", "stand"] (spF K [0,0] 0 fZ):=by
 have nd:=scis_end.nd;refine F.okQ (N:=tj) (b:=lC) (J:=⟨[],[0,0],0,[]⟩) (ds0:=[0,0]) scis_end rfl rfl rfl rfl fun cdv A outer s H E hr=>?_;exact (frt (ms (dG jk (fv 1 rfl rfl) bn (aR _)) (jK (aQ (bO (K:=K) rfl) (fxi rfl (fv 0 rfl rfl)) (fv 1 rfl rfl) (fun _ _=>rfl)))) rfl)
abbrev yk:Stmt:=top 10
abbrev J6:List Str:=["machine", "stand", "sign"]
def scled:FnScope J6 ["machine", "stand", "sign"] (aj yk):=⟨rfl,rfl,rfl,by decide +kernel,rfl,by decide +kernel,by decide +kernel⟩
def uS:MS:=(aB (eIf (tV (e2 isN (ac 1) (eC .none))) (eC .none) (e2 ixA (e2 ixA (e2 ixA (ac 0) (eC (.int 1))) (ac 1)) (ac 2))))
def mK:List D->Option (D × En):=fnF 0 [0,0,0] uS
def Kr {k:Nat} (T:Bl mg)   (F:Fun K "led" "led" yk f fd):FnOk P w K mg base CX0 (k+1) f fd ["machine", "stand", "sign"] (spF K [0,0,0] 0 mK):=by
 have nd:=scled.nd;refine F.okQ (N:=J6) (b:=uS) (J:=⟨[],[0,0,0],0,[]⟩) (ds0:=[0,0,0]) scled rfl rfl rfl rfl fun cdv A outer s H E hr=>?_;exact (frt (om (aJ m9 (fv 1 rfl rfl) bn (aR _)) (fs0 bn) (aQ (bO (K:=K) rfl) (aQ (bO (K:=K) rfl) (fxi rfl (fv 0 rfl rfl)) (fv 1 rfl rfl) (fun _ _=>rfl)) (fv 2 rfl rfl) (fun _ _=>rfl))) rfl)
abbrev uI:Stmt:=top 11
abbrev Ei:List Str:=["machine", "stand", "row", "here", "sign"]
def scgone:FnScope Ei ["machine", "stand", "row"] (aj uI):=⟨rfl,rfl,rfl,by decide +kernel,rfl,by decide +kernel,by decide +kernel⟩
def tm:MS:=(al 3 (ak mK (ad (ac 0) (ad (ac 3) (ad (ac 4) ag)))))
def uT:MS:=(ai (al 3 (ac 1))
 (ai (cF (be (ac 2)) (gN 4) tm)
 (aB (ac 3))))
def lB:List D->Option (D × En):=fnF 2 [0,0,0] uT
def ID {k:Nat} (T:Bl mg)  (Lo:Kn P w K mg base k "led" ["machine", "stand", "sign"] (spF K [0,0,0] 0 mK)) (F:Fun K "gone" "gone" uI f fd):FnOk P w K mg base CX0 (k+1) f fd ["machine", "stand", "row"] (spF K [0,0,0] 0 lB):=by
 have nd:=scgone.nd;refine F.okQ (N:=Ei) (b:=uT) (J:=⟨[],[0,0,0,0,0],0,[]⟩) (ds0:=[0,0,0,0,0]) scgone rfl rfl rfl rfl fun cdv A outer s H E hr=>?_;exact (af (aI 3 [0,0,0,0,0] nd (fv 1 rfl rfl) rfl rfl rfl) (af (bZ (ds1:=[0,0,0,0,0]) rfl (aU (K:=K) rfl (fv 2 rfl rfl)) (au (i:=4) (ds':=[0,0,0,0,0]) nd rfl (.inl rfl) rfl (by decide) (by decide) (.inl rfl)) (aw (aI 3 [0,0,0,0,0] nd (fnn Lo hr (aa (fv 0 rfl rfl) (aa (fv 3 rfl rfl) (aa (fv 4 rfl rfl) ae rfl) rfl) rfl) rfl rfl) rfl rfl rfl)) PassesOwn.never (fun _=>rfl)) (frt (fv 3 rfl rfl) rfl)))
abbrev uH:Stmt:=top 12
abbrev Eh:List Str:=["machine", "row"]
def sclets:FnScope Eh ["machine", "row"] (aj uH):=⟨rfl,rfl,rfl,by decide +kernel,rfl,by decide +kernel,by decide +kernel⟩
def uR:MS:=(aB (ak fZ (ad (ac 0) (ad (ak lB (ad (ac 0) (ad (eC (.int 0)) (ad (ac 1) ag)))) ag))))
def gP:List D->Option (D × En):=fnF 0 [0,0] uR
def IC {k:Nat} (T:Bl mg)  (FT:Kn P w K mg base k "is_end" ["machine", "stand"] (spF K [0,0] 0 fZ)) (K1:Kn P w K mg base k "gone" ["machine", "stand", "row"] (spF K [0,0,0] 0 lB)) (F:Fun K "lets" "lets" uH f fd):FnOk P w K mg base CX0 (k+1) f fd ["machine", "row"] (spF K [0,0] 0 gP):=by
 have nd:=sclets.nd;refine F.okQ (N:=Eh) (b:=uR) (J:=⟨[],[0,0],0,[]⟩) (ds0:=[0,0]) sclets rfl rfl rfl rfl fun cdv A outer s H E hr=>?_;exact (frt (fnn FT hr (aa (fv 0 rfl rfl) (aa (fnn K1 hr (aa (fv 0 rfl rfl) (aa (fs0 ah) (aa (fv 1 rfl rfl) ae rfl) rfl) rfl) rfl rfl) ae rfl) rfl) rfl rfl) rfl)
abbrev c9:Stmt:=top 15
abbrev eZ:List Str:=["machine"]
def scnumbers_of_none:FnScope eZ ["machine"] (aj c9):=⟨rfl,rfl,rfl,by decide +kernel,rfl,by decide +kernel,by decide +kernel⟩
def kS:ME:=(eIf (tV (ac 0)) (eC (.int 1)) (eC (.int 0)))
def cu:MS:=(aB (eLC true (be (e2 ixA (ac 0) (eC (.int 0)))) (gN 0) cY kS [none]))
def br:List D->Option (D × En):=fnF 0 [0] cu
def lD {k:Nat} (T:Bl mg)   (F:Fun K "numbers_of_none" "numbers_of_none" c9 f fd):FnOk P w K mg base CX0 (k+1) f fd ["machine"] (spF K [0] 3 br):=by
 have nd:=scnumbers_of_none.nd;refine F.okQ (N:=eZ) (b:=cu) (J:=⟨[],[0],3,[]⟩) (ds0:=[0]) scnumbers_of_none rfl rfl rfl rfl fun cdv A outer s H E hr=>?_;exact (frt (bV (cd:=3) (d:=3) (dsi:=[0]) (lk:=[]) (BlkOkC.of (ns:=["end"]) (js:=[none]) (N0:=eZ) (sc0:=aj c9) rfl rfl (by decide +kernel)) rfl (aU (K:=K) rfl (fxi rfl (fv 0 rfl rfl))) (fun _ _ _ _ _=>(au (i:=0) (ds':=[0]) (show (["end"]:List Str).Nodup by decide +kernel) rfl (.inl rfl) rfl (by decide) (by decide) (.inr rfl))) (fun _ _ _ _ _=>aX) (fun _ _ _ _ _=>(om (a8 (fv 0 rfl rfl) (fun _=>rfl)) ah ah)) rfl rfl (by decide) rfl (fun _=>rfl)) rfl)
abbrev bX:Stmt:=top 16
abbrev da:List Str:=["machine", "fewer"]
def scnumbers_of_one_more:FnScope da ["machine", "fewer"] (aj bX):=⟨rfl,rfl,rfl,by decide +kernel,rfl,by decide +kernel,by decide +kernel⟩
def iU:MT:=(tV (e2 dZ (ac 0) (eC .none)))
def i8:ME:=(e2 ixA (ac 1) (ac 0))
def i7:ME:=(eN gy (ad (eLC true (be (ac 0)) (gN 0) iU i8 [none,some 1]) ag))
def bC:MS:=(aB (eLC true (be (e2 ixA (ac 0) (eC (.int 1)))) (gN 0) cY i7 [none,some 1]))
def aW:List D->Option (D × En):=fnF 0 [0,0] bC
def jf {k:Nat} (T:Bl mg)   (F:Fun K "numbers_of_one_more" "numbers_of_one_more" bX f fd):FnOk P w K mg base CX0 (k+1) f fd ["machine", "fewer"] (spF K [0,0] 3 aW):=by
 have nd:=scnumbers_of_one_more.nd;refine F.okQ (N:=da) (b:=bC) (J:=⟨[],[0,0],3,[]⟩) (ds0:=[0,0]) scnumbers_of_one_more rfl rfl rfl rfl fun cdv A outer s H E hr=>?_;exact (frt (bV (cd:=3) (d:=3) (dsi:=[0,0]) (lk:=[1]) (BlkOkC.of (ns:=["ways", "fewer"]) (js:=[none,some 1]) (N0:=da) (sc0:=aj bX) rfl rfl (by decide +kernel)) rfl (aU (K:=K) rfl (fxi rfl (fv 0 rfl rfl))) (fun _ _ _ _ _=>(au (i:=0) (ds':=[0,0]) (show (["ways", "fewer"]:List Str).Nodup by decide +kernel) rfl (.inl rfl) rfl (by decide) (by decide) (.inr rfl))) (fun _ _ _ _ _=>aX) (fun _ _ _ _ _=>(fcb (kB (K:=K) rfl rfl) T.sum0 (by decide +kernel) (aa (fs0 (bV (cd:=0) (d:=1) (dsi:=[0,0]) (lk:=[1]) (BlkOkC.inn (ns:=["there", "fewer"]) (js:=[none,some 1]) (N0:=["ways", "fewer"]) rfl rfl (by decide +kernel)) rfl (aU (K:=K) rfl (fv 0 rfl rfl)) (fun _ _ _ _ _=>(au (i:=0) (ds':=[0,0]) (show (["there", "fewer"]:List Str).Nodup by decide +kernel) rfl (.inl rfl) rfl (by decide) (by decide) (.inr rfl))) (fun _ _ _ _ _=>(kz (aJ jk (fv 0 rfl rfl) bn (aR _)))) (fun _ _ _ _ _=>(aQ (bO (K:=K) rfl) (fvc 1 rfl rfl) (fv 0 rfl rfl) (fun _ _=>rfl))) rfl rfl (by decide) rfl (fun _=>rfl))) ae rfl) rfl rfl)) rfl rfl (by decide) rfl (fun _=>rfl)) rfl)
abbrev rC:Stmt:=top 14
abbrev wz:List Str:=["machine", "most", "lists"]
def sctable:FnScope wz ["machine", "most"] (aj rC):=⟨rfl,rfl,rfl,by decide +kernel,rfl,by decide +kernel,by decide +kernel⟩
def yn:MS:=(bQ (bK 2 (ak aW (ad (ac 0) (ad (cX 2 (e1 iM (eC (.int 1)))) ag)))))
def yi:MT:=(tV (e2 leI (eN bd (ad (ac 2) ag)) (ac 1)))
noncomputable def kU:MS:=(ai (al 2 (bg (ad (ak br (ad (ac 0) ag)) ag)))
 (ai (bt yi yn)
 (aB (ac 2))))
noncomputable def cr:List D->Option (D × En):=fnF 1 [0,0] kU
def EH {k:Nat} (T:Bl mg)  (mJ:Kn P w K mg base k "numbers_of_none" ["machine"] (spF K [0] 3 br)) (jZ:Kn P w K mg base k "numbers_of_one_more" ["machine", "fewer"] (spF K [0,0] 3 aW)) (F:Fun K "table" "table" rC f fd):FnOk P w K mg base CX0 (k+1) f fd ["machine", "most"] (spF K [0,0] 0 cr):=by
 have nd:=sctable.nd;refine F.okQ (N:=wz) (b:=kU) (J:=⟨[],[0,0,0],0,[]⟩) (ds0:=[0,0,0]) sctable rfl rfl rfl rfl fun cdv A outer s H E hr=>?_;exact (af (aI 2 [0,0,1] nd (cU (d':=1) (bq (d:=3) (c:=3) (aa (fnn mJ hr (aa (fv 0 rfl rfl) ae rfl) rfl rfl) ae rfl) rfl rfl (by decide)) (by decide)) rfl rfl rfl) (af (eA (ds:=[0,0,1]) (iA (ds0:=[0,0,0]) (aJ uu (fln rfl T.len0 (aa (fv 2 rfl rfl) ae rfl) rfl rfl) (fv 1 rfl rfl) (aR _)) rfl) (aw (bS (cj (K:=K) (i:=2) (d:=1) rfl rfl (.inl rfl) rfl (fs0 (fnn jZ hr (aa (fv 0 rfl rfl) (aa (mj (K:=K) (i:=2) rfl rfl (.inl rfl) rfl (jn kC ah) (fun _ _=>rfl) rfl rfl) ae rfl) rfl) rfl rfl)) (by decide) rfl rfl rfl rfl rfl rfl rfl rfl) rfl)) PassesOwn.never) (frt (fU (ds0:=[0,0,0]) (cT (p:=false) (i:=2) rfl (.inl rfl) rfl rfl rfl) rfl) rfl)))
abbrev mD:Stmt:=top 35
abbrev rE:List Str:=["machine", "stand", "sign", "behind", "there"]
def scrows_by:FnScope rE ["machine", "stand", "sign", "behind"] (aj mD):=⟨rfl,rfl,rfl,by decide +kernel,rfl,by decide +kernel,by decide +kernel⟩
def j6:MS:=(ai (al 4 (e2 ixA (e2 ixA (e2 ixA (ac 0) (eC (.int 1))) (ac 1)) (ac 2)))
 (aB (eIf (tV (e2 isN (ac 4) (eC .none))) (eC (.int 0)) (e2 ixA (ac 3) (ac 4)))))
def cD:List D->Option (D × En):=fnF 1 [0,0,0,0] j6
def vm {k:Nat} (T:Bl mg)   (F:Fun K "rows_by" "rows_by" mD f fd):FnOk P w K mg base CX0 (k+1) f fd ["machine", "stand", "sign", "behind"] (spF K [0,0,0,0] 0 cD):=by
 have nd:=scrows_by.nd;refine F.okQ (N:=rE) (b:=j6) (J:=⟨[],[0,0,0,0,0],0,[]⟩) (ds0:=[0,0,0,0,0]) scrows_by rfl rfl rfl rfl fun cdv A outer s H E hr=>?_;exact (af (aI 4 [0,0,0,0,0] nd (aQ (bO (K:=K) rfl) (aQ (bO (K:=K) rfl) (fxi rfl (fv 0 rfl rfl)) (fv 1 rfl rfl) (fun _ _=>rfl)) (fv 2 rfl rfl) (fun _ _=>rfl)) rfl rfl rfl) (frt (om (aJ m9 (fv 4 rfl rfl) bn (aR _)) (fs0 ah) (aQ (bO (K:=K) rfl) (fv 3 rfl rfl) (fv 4 rfl rfl) (fun _ _=>rfl))) rfl))
abbrev oD:Stmt:=top 34
abbrev sZ:List Str:=["machine", "lists", "length", "number", "row", "here", "left", "behind", "sign"]
def scrow_at:FnScope sZ ["machine", "lists", "length", "number"] (aj oD):=⟨rfl,rfl,rfl,by decide +kernel,rfl,by decide +kernel,by decide +kernel⟩
def kR:MS:=(ai (al 6 (e2 dY (ac 6) (ak cD (ad (ac 0) (ad (ac 5) (ad (ac 8) (ad (ac 7) ag)))))))
 (al 8 (e2 aV (ac 8) (eC (.int 1)))))
def kL:MT:=(tV (e2 geI (ac 6) (ak cD (ad (ac 0) (ad (ac 5) (ad (ac 8) (ad (ac 7) ag)))))))
noncomputable def pz:MS:=(ai (al 7 (e2 ixA (ac 1) (e2 dY (e2 dY (ac 2) (eN bd (ad (ac 4) ag))) (eC (.int 1)))))
 (ai (al 8 (eC (.int 0)))
 (ai (bt kL kR)
 (ai (bQ (bK 4 (ac 8)))
 (al 5 (e2 ixA (e2 ixA (e2 ixA (ac 0) (eC (.int 1))) (ac 5)) (ac 8)))))))
def kK:MT:=(tV (e2 ltI (eN bd (ad (ac 4) ag)) (ac 2)))
noncomputable def oM:MS:=(ai (al 4 (bg ag))
 (ai (al 5 (eC (.int 0)))
 (ai (al 6 (ac 3))
 (ai (bt kK pz)
 (aB (ac 4))))))
noncomputable def fY:List D->Option (D × En):=fnF 5 [0,0,0,0] oM
def wY {k:Nat} (T:Bl mg)  (jY:Kn P w K mg base k "rows_by" ["machine", "stand", "sign", "behind"] (spF K [0,0,0,0] 0 cD)) (F:Fun K "row_at" "row_at" oD f fd):FnOk P w K mg base CX0 (k+1) f fd ["machine", "lists", "length", "number"] (spF K [0,0,0,0] 0 fY):=by
 have nd:=scrow_at.nd;refine F.okQ (N:=sZ) (b:=oM) (J:=⟨[],[0,0,0,0,0,0,0,0,0],0,[]⟩) (ds0:=[0,0,0,0,0,0,0,0,0]) scrow_at rfl rfl rfl rfl fun cdv A outer s H E hr=>?_;exact (af (aI 4 [0,0,0,0,1,0,0,0,0] nd (cU (d':=1) (bq (d:=3) (c:=3) ae rfl rfl (by decide)) (by decide)) rfl rfl rfl) (af (aI 5 [0,0,0,0,1,0,0,0,0] nd (fs0 ah) rfl rfl rfl) (af (aI 6 [0,0,0,0,1,0,0,0,0] nd (fv 3 rfl rfl) rfl rfl rfl) (af (eA (ds:=[0,0,0,0,1,0,0,0,0]) (iA (ds0:=[0,0,0,0,0,0,0,0,0]) (aJ iC (fln rfl T.len0 (aa (fv 4 rfl rfl) ae rfl) rfl rfl) (fv 2 rfl rfl) (aR _)) rfl) (af (aI 7 [0,0,0,0,1,0,0,0,0] nd (aQ (bO (K:=K) rfl) (fv 1 rfl rfl) (mr (ds0:=[0,0,0,0,0,0,0,0,0]) (am dg (am dg (fv 2 rfl rfl) (fln rfl T.len0 (aa (fv 4 rfl rfl) ae rfl) rfl rfl)) ah) rfl) (fun _ _=>rfl)) rfl rfl rfl) (af (aI 8 [0,0,0,0,1,0,0,0,0] nd (fs0 ah) rfl rfl rfl) (af (eA (ds:=[0,0,0,0,1,0,0,0,0]) (aJ uw (fv 6 rfl rfl) (fnn jY hr (aa (fv 0 rfl rfl) (aa (fv 5 rfl rfl) (aa (fv 8 rfl rfl) (aa (fv 7 rfl rfl) ae rfl) rfl) rfl) rfl) rfl rfl) (aR _)) (af (aI 6 [0,0,0,0,1,0,0,0,0] nd (fs0 (am dg (fv 6 rfl rfl) (fnn jY hr (aa (fv 0 rfl rfl) (aa (fv 5 rfl rfl) (aa (fv 8 rfl rfl) (aa (fv 7 rfl rfl) ae rfl) rfl) rfl) rfl) rfl rfl))) rfl rfl rfl) (aw (aI 8 [0,0,0,0,1,0,0,0,0] nd (fs0 (am bp (fv 8 rfl rfl) ah)) rfl rfl rfl))) PassesOwn.never) (af (bS (cj (K:=K) (i:=4) (d:=1) rfl rfl (.inl rfl) rfl (fv 8 rfl rfl) (by decide) rfl rfl rfl rfl rfl rfl rfl rfl) rfl) (aw (aI 5 [0,0,0,0,1,0,0,0,0] nd (aQ (bO (K:=K) rfl) (aQ (bO (K:=K) rfl) (fxi rfl (fv 0 rfl rfl)) (fv 5 rfl rfl) (fun _ _=>rfl)) (fv 8 rfl rfl) (fun _ _=>rfl)) rfl rfl rfl)))))) PassesOwn.never) (frt (fU (ds0:=[0,0,0,0,0,0,0,0,0]) (cT (p:=false) (i:=4) rfl (.inl rfl) rfl rfl rfl) rfl) rfl)))))
abbrev jR:Stmt:=top 33
abbrev mF:List Str:=["tongue", "machine", "number", "lists", "left", "length", "numbers"]
def scword_at:FnScope mF ["tongue", "machine", "number"] (aj jR):=⟨rfl,rfl,rfl,by decide +kernel,rfl,by decide +kernel,by decide +kernel⟩
noncomputable def db:MS:=(ai (sIf (tV (e2 ltI (ac 4) (e2 ixA (ac 6) (eC (.int 0))))) (aB (ak e8 (ad (ac 0) (ad (ak fY (ad (ac 1) (ad (ac 3) (ad (ac 5) (ad (ac 4) ag))))) ag)))) aZ)
 (al 4 (e2 dY (ac 4) (e2 ixA (ac 6) (eC (.int 0))))))
noncomputable def ip:MS:=(ai (sIf (bOr (dD (tV (ak bc (ad (ac 2) ag)))) (tV (e2 ltI (ac 2) (eC (.int 0))))) df aZ)
 (ai (al 3 (ak cr (ad (ac 1) (ad (eC (.int 60)) ag))))
 (ai (al 4 (ac 2))
 (ai (cF (fC (ad (ac 3) ag)) (gT (gsC (gN 5) (gsC (gN 6) gs0))) db)
 df))))
noncomputable def bL:List D->Option (D × En):=fnF 4 [0,0,0] ip
def vk {k:Nat} (T:Bl mg) {bh:Tok} (bo:mg "MOST_SIGNS_OF_A_WORD"=some (.int 60 bh)) (ju:Kn P w K mg base k "table" ["machine", "most"] (spF K [0,0] 0 cr)) (iH:Kn P w K mg base k "is_whole" ["thing"] (spF K [0] 3 bc)) (mH:Kn P w K mg base k "word_of" ["tongue", "row"] (spF K [0,0] 3 e8)) (oI:Kn P w K mg base k "row_at" ["machine", "lists", "length", "number"] (spF K [0,0,0,0] 0 fY)) (F:Fun K "word_at" "word_at" jR f fd):FnOk P w K mg base CX0 (k+1) f fd ["tongue", "machine", "number"] (spF K [0,0,0] 3 bL):=by
 have nd:=scword_at.nd;refine F.okQ (N:=mF) (b:=ip) (J:=⟨[],[0,0,0,0,0,0,0],3,[]⟩) (ds0:=[0,0,0,0,0,0,0]) scword_at rfl rfl rfl rfl fun cdv A outer s H E hr=>?_;exact (af (aN (ds2:=[0,0,0,0,0,0,0]) (qpt (fT (bY (a8 (fnn iH hr (aa (fv 2 rfl rfl) ae rfl) rfl rfl) (fun _=>rfl))) (eT (aJ iC (fv 2 rfl rfl) ah (aR _))))) (aw dq) aK) (af (aI 3 [0,0,0,0,0,0,0] nd (fnn ju hr (aa (fv 1 rfl rfl) (aa (fs0 (jL rfl bo rfl)) ae rfl) rfl) rfl rfl) rfl rfl rfl) (af (aI 4 [0,0,0,0,0,0,0] nd (fv 2 rfl rfl) rfl rfl rfl) (af (bZ (ds1:=[0,0,0,0,0,0,0]) rfl (kE (K:=K) rfl rfl T.enumerate0 (aa (fv 3 rfl rfl) ae rfl) rfl) (kF (K:=K) rfl rfl (du (au (i:=5) (ds':=[0,0,0,0,0,0,0]) nd rfl (.inl rfl) rfl (by decide) (by decide) (.inl rfl)) (du (au (i:=6) (ds':=[0,0,0,0,0,0,0]) nd rfl (.inl rfl) rfl (by decide) (by decide) (.inl rfl)) jJ rfl) rfl) oh rfl rfl) (af (aN (ds2:=[0,0,0,0,0,0,0]) (aJ iC (fv 4 rfl rfl) (fxi rfl (fv 6 rfl rfl)) (aR _)) (frt (fnn mH hr (aa (fv 0 rfl rfl) (aa (fnn oI hr (aa (fv 1 rfl rfl) (aa (fv 3 rfl rfl) (aa (fv 5 rfl rfl) (aa (fv 4 rfl rfl) ae rfl) rfl) rfl) rfl) rfl rfl) ae rfl) rfl) rfl rfl) rfl) aK) (aw (aI 4 [0,0,0,0,0,0,0] nd (fs0 (am dg (fv 4 rfl rfl) (fxi rfl (fv 6 rfl rfl)))) rfl rfl rfl))) PassesOwn.never (fun _=>rfl)) (aw dq)))))
noncomputable def ft:MN:=(nOr (nIf (bOr (dD (tV (ak bc (ad (ac 2) ag)))) (tV (e2 ltI (ac 2) (eC (.int 0))))) (mh "NoNumber") nNo)
 (iN (sIf (bOr (dD (tV (ak bc (ad (ac 2) ag)))) (tV (e2 ltI (ac 2) (eC (.int 0))))) df aZ)
 (iN (al 3 (ak cr (ad (ac 1) (ad (eC (.int 60)) ag))))
 (iN (al 4 (ac 2))
 (iN (cF (fC (ad (ac 3) ag)) (gT (gsC (gN 5) (gsC (gN 6) gs0))) db)
 (mh "NoNumber"))))))
noncomputable def cO:List D->Option Str:=fnN 4 ft
def wc {k:Nat} (T:Bl mg) {bh:Tok} (bo:mg "MOST_SIGNS_OF_A_WORD"=some (.int 60 bh)) (ju:Kn P w K mg base k "table" ["machine", "most"] (spF K [0,0] 0 cr)) (iH:Kn P w K mg base k "is_whole" ["thing"] (spF K [0] 3 bc)) (mH:Kn P w K mg base k "word_of" ["tongue", "row"] (spF K [0,0] 3 e8)) (oI:Kn P w K mg base k "row_at" ["machine", "lists", "length", "number"] (spF K [0,0,0,0] 0 fY)) (m_NoNumber:mg "NoNumber"=some (.ref (clK K "NoNumber"))) (x_NoNumber:PySem.W.excIn K (clK K "NoNumber") vE "ValueError.__new__"=true) (F:Fun K "word_at" "word_at" jR f fd):FnOk P w K mg base (CXr P w) (k+1) f fd ["tongue", "machine", "number"] (spN K [0,0,0] (clK K) cO):=by
 have nd:=scword_at.nd;refine F.okN (N:=mF) (b:=ft) (ds0:=[0,0,0,0,0,0,0]) scword_at rfl rfl rfl fun cdv A outer s H E hr R O=>?_;exact (Eb (ib (uy (p:=false) (qpt (fT (bY (a8 (fnn iH hr (aa (fv 2 rfl rfl) ae rfl) rfl rfl) (fun _=>rfl))) (eT (aJ iC (fv 2 rfl rfl) ah (aR _))))) (ib (jI R PySem.F.excBase_ValueError x_NoNumber rfl m_NoNumber rfl)) ux)) (gW (J:=⟨[],[0,0,0,0,0,0,0],3,[]⟩) (aN (ds2:=[0,0,0,0,0,0,0]) (qpt (fT (bY (a8 (fnn iH hr (aa (fv 2 rfl rfl) ae rfl) rfl rfl) (fun _=>rfl))) (eT (aJ iC (fv 2 rfl rfl) ah (aR _))))) (aw dq) aK) (gW (J:=⟨[],[0,0,0,0,0,0,0],3,[]⟩) (aI 3 [0,0,0,0,0,0,0] nd (fnn ju hr (aa (fv 1 rfl rfl) (aa (fs0 (jL rfl bo rfl)) ae rfl) rfl) rfl rfl) rfl rfl rfl) (gW (J:=⟨[],[0,0,0,0,0,0,0],3,[]⟩) (aI 4 [0,0,0,0,0,0,0] nd (fv 2 rfl rfl) rfl rfl rfl) (gW (J:=⟨[],[0,0,0,0,0,0,0],3,[]⟩) (bZ (ds1:=[0,0,0,0,0,0,0]) rfl (kE (K:=K) rfl rfl T.enumerate0 (aa (fv 3 rfl rfl) ae rfl) rfl) (kF (K:=K) rfl rfl (du (au (i:=5) (ds':=[0,0,0,0,0,0,0]) nd rfl (.inl rfl) rfl (by decide) (by decide) (.inl rfl)) (du (au (i:=6) (ds':=[0,0,0,0,0,0,0]) nd rfl (.inl rfl) rfl (by decide) (by decide) (.inl rfl)) jJ rfl) rfl) oh rfl rfl) (af (aN (ds2:=[0,0,0,0,0,0,0]) (aJ iC (fv 4 rfl rfl) (fxi rfl (fv 6 rfl rfl)) (aR _)) (frt (fnn mH hr (aa (fv 0 rfl rfl) (aa (fnn oI hr (aa (fv 1 rfl rfl) (aa (fv 3 rfl rfl) (aa (fv 5 rfl rfl) (aa (fv 4 rfl rfl) ae rfl) rfl) rfl) rfl) rfl rfl) ae rfl) rfl) rfl rfl) rfl) aK) (aw (aI 4 [0,0,0,0,0,0,0] nd (fs0 (am dg (fv 4 rfl rfl) (fxi rfl (fv 6 rfl rfl)))) rfl rfl rfl))) PassesOwn.never (fun _=>rfl)) (ib (jI R PySem.F.excBase_ValueError x_NoNumber rfl m_NoNumber rfl)))))))
abbrev gh:Stmt:=top 37
abbrev iZ:List Str:=["machine", "lists", "row", "many", "here", "place", "sign", "behind"]
def scrows_ahead:FnScope iZ ["machine", "lists", "row"] (aj gh):=⟨rfl,rfl,rfl,by decide +kernel,rfl,by decide +kernel,by decide +kernel⟩
def kf:ME:=(ak cD (ad (ac 1) (ad (ac 2) (ad (ac 0) (ad (ac 3) ag)))))
def kd:MS:=(ai (al 7 (e2 ixA (ac 1) (e2 dY (e2 dY (eN bd (ad (ac 2) ag)) (ac 5)) (eC (.int 1)))))
 (ai (al 3 (e2 aV (ac 3) (eN gy (ad (eLC true (bG (ad (ac 6) ag)) (gN 0) cY kf [none,some 0,some 4,some 7]) ag))))
 (al 4 (e2 ixA (e2 ixA (e2 ixA (ac 0) (eC (.int 1))) (ac 4)) (ac 6)))))
def i9:MS:=(ai (al 3 (eC (.int 0)))
 (ai (al 4 (eC (.int 0)))
 (ai (cF (fC (ad (ac 2) ag)) (gT (gsC (gN 5) (gsC (gN 6) gs0))) kd)
 (aB (ac 3)))))
def cE:List D->Option (D × En):=fnF 5 [0,0,0] i9
def qo {k:Nat} (T:Bl mg)  (jY:Kn P w K mg base k "rows_by" ["machine", "stand", "sign", "behind"] (spF K [0,0,0,0] 0 cD)) (F:Fun K "rows_ahead" "rows_ahead" gh f fd):FnOk P w K mg base CX0 (k+1) f fd ["machine", "lists", "row"] (spF K [0,0,0] 0 cE):=by
 have nd:=scrows_ahead.nd;refine F.okQ (N:=iZ) (b:=i9) (J:=⟨[],[0,0,0,0,0,0,0,0],0,[]⟩) (ds0:=[0,0,0,0,0,0,0,0]) scrows_ahead rfl rfl rfl rfl fun cdv A outer s H E hr=>?_;exact (af (aI 3 [0,0,0,0,0,0,0,0] nd (fs0 ah) rfl rfl rfl) (af (bb (i:=4) (d:=0) (ds':=[0,0,0,0,0,0,0,0]) nd rfl (.inr rfl) (fs0 ah) rfl (by decide) (by decide) rfl (.inl rfl)) (af (bZ (ds1:=[0,0,0,0,0,0,0,0]) rfl (kE (K:=K) rfl rfl T.enumerate0 (aa (fv 2 rfl rfl) ae rfl) rfl) (kF (K:=K) rfl rfl (du (au (i:=5) (ds':=[0,0,0,0,0,0,0,0]) nd rfl (.inl rfl) rfl (by decide) (by decide) (.inl rfl)) (du (au (i:=6) (ds':=[0,0,0,0,0,0,0,0]) nd rfl (.inl rfl) rfl (by decide) (by decide) (.inl rfl)) jJ rfl) rfl) oh rfl rfl) (af (bb (i:=7) (d:=0) (ds':=[0,0,0,0,0,0,0,0]) nd rfl (.inr rfl) (aQ (bO (K:=K) rfl) (fv 1 rfl rfl) (am dg (am dg (fln rfl T.len0 (aa (fv 2 rfl rfl) ae rfl) rfl rfl) (fv 5 rfl rfl)) ah) (fun _ _=>rfl)) rfl (by decide) (by decide) rfl (.inl rfl)) (af (aI 3 [0,0,0,0,0,0,0,0] nd (fs0 (am bp (fv 3 rfl rfl) (fcb (kB (K:=K) rfl rfl) T.sum0 (by decide +kernel) (aa (fs0 (bV (cd:=0) (d:=1) (dsi:=[0,0,0,0]) (lk:=[1,2,3]) (BlkOkC.of (ns:=["lesser", "machine", "here", "behind"]) (js:=[none,some 0,some 4,some 7]) (N0:=iZ) (sc0:=aj gh) rfl rfl (by decide +kernel)) rfl (fj rfl T.range0 (aa (fv 6 rfl rfl) ae rfl) rfl) (fun _ _ _ _ _=>(au (i:=0) (ds':=[0,0,0,0]) (show (["lesser", "machine", "here", "behind"]:List Str).Nodup by decide +kernel) rfl (.inl rfl) rfl (by decide) (by decide) (.inr rfl))) (fun _ _ _ _ _=>aX) (fun _ _ _ _ _=>(fnn jY hr (aa (fvc 1 rfl rfl) (aa (fvc 2 rfl rfl) (aa (fv 0 rfl rfl) (aa (fvc 3 rfl rfl) ae rfl) rfl) rfl) rfl) rfl rfl)) rfl rfl (by decide) rfl (fun _=>rfl))) ae rfl) rfl rfl))) rfl rfl rfl) (aw (bb (i:=4) (d:=0) (ds':=[0,0,0,0,0,0,0,0]) nd rfl (.inr rfl) (aQ (bO (K:=K) rfl) (aQ (bO (K:=K) rfl) (fxi rfl (fvc 0 rfl rfl)) (fvc 4 rfl rfl) (fun _ _=>rfl)) (fv 6 rfl rfl) (fun _ _=>rfl)) rfl (by decide) (by decide) rfl (.inl rfl))))) PassesOwn.never (fun _=>rfl)) (frt (fv 3 rfl rfl) rfl))))
abbrev fH:Stmt:=top 36
abbrev gO:List Str:=["tongue", "machine", "word", "row", "lists", "shorter"]
def scnumber_of:FnScope gO ["tongue", "machine", "word"] (aj fH):=⟨rfl,rfl,rfl,by decide +kernel,rfl,by decide +kernel,by decide +kernel⟩
noncomputable def kT:ME:=(e2 ixA (ac 0) (eC (.int 0)))
noncomputable def fK:MS:=(ai (sIf (dD (tV (ak bz (ad (ac 0) (ad (ac 2) ag))))) df aZ)
 (ai (al 3 (ak dU (ad (ac 0) (ad (ac 2) ag))))
 (ai (sIf (dD (tV (ak gP (ad (ac 1) (ad (ac 3) ag))))) df aZ)
 (ai (al 4 (ak cr (ad (ac 1) (ad (eN bd (ad (ac 3) ag)) ag))))
 (ai (al 5 (eN gy (ad (eLC true (be (eSl no (ac 4) gJ (gf (eN bd (ad (ac 3) ag))))) (gN 0) cY kT [none]) ag)))
 (aB (e2 aV (ac 5) (ak cE (ad (ac 1) (ad (ac 4) (ad (ac 3) ag)))))))))))
noncomputable def bP:List D->Option (D × En):=fnF 3 [0,0,0] fK
def rN {k:Nat} (T:Bl mg)  (oH:Kn P w K mg base k "row_of" ["tongue", "word"] (spF K [0,0] 3 dU)) (ju:Kn P w K mg base k "table" ["machine", "most"] (spF K [0,0] 0 cr)) (j3:Kn P w K mg base k "is_word" ["tongue", "thing"] (spF K [0,0] 3 bz)) (uL:Kn P w K mg base k "lets" ["machine", "row"] (spF K [0,0] 0 gP)) (lQ:Kn P w K mg base k "rows_ahead" ["machine", "lists", "row"] (spF K [0,0,0] 0 cE)) (F:Fun K "number_of" "number_of" fH f fd):FnOk P w K mg base CX0 (k+1) f fd ["tongue", "machine", "word"] (spF K [0,0,0] 3 bP):=by
 have nd:=scnumber_of.nd;refine F.okQ (N:=gO) (b:=fK) (J:=⟨[],[0,0,0,0,0,0],3,[]⟩) (ds0:=[0,0,0,0,0,0]) scnumber_of rfl rfl rfl rfl fun cdv A outer s H E hr=>?_;exact (af (aN (ds2:=[0,0,0,0,0,0]) (bY (a8 (fnn j3 hr (aa (fv 0 rfl rfl) (aa (fv 2 rfl rfl) ae rfl) rfl) rfl rfl) (fun _=>rfl))) (aw dq) aK) (af (aI 3 [0,0,0,0,0,0] nd (fs0 (fnn oH hr (aa (fv 0 rfl rfl) (aa (fv 2 rfl rfl) ae rfl) rfl) rfl rfl)) rfl rfl rfl) (af (aN (ds2:=[0,0,0,0,0,0]) (bY (a8 (fnn uL hr (aa (fv 1 rfl rfl) (aa (fv 3 rfl rfl) ae rfl) rfl) rfl rfl) (fun _=>rfl))) (aw dq) aK) (af (aI 4 [0,0,0,0,0,0] nd (fnn ju hr (aa (fv 1 rfl rfl) (aa (fs0 (fln rfl T.len0 (aa (fv 3 rfl rfl) ae rfl) rfl rfl)) ae rfl) rfl) rfl rfl) rfl rfl rfl) (af (aI 5 [0,0,0,0,0,0] nd (fs0 (fcb (kB (K:=K) rfl rfl) T.sum0 (by decide +kernel) (aa (fs0 (bV (cd:=0) (d:=1) (dsi:=[0]) (lk:=[]) (BlkOkC.of (ns:=["numbers"]) (js:=[none]) (N0:=gO) (sc0:=aj fH) rfl rfl (by decide +kernel)) rfl (aU (K:=K) rfl (fs0 (dP (oi (K:=K) rfl) (fv 4 rfl rfl) fg (ff (fln rfl T.len0 (aa (fv 3 rfl rfl) ae rfl) rfl rfl))))) (fun _ _ _ _ _=>(au (i:=0) (ds':=[0]) (show (["numbers"]:List Str).Nodup by decide +kernel) rfl (.inl rfl) rfl (by decide) (by decide) (.inr rfl))) (fun _ _ _ _ _=>aX) (fun _ _ _ _ _=>(fxi rfl (fv 0 rfl rfl))) rfl rfl (by decide) rfl (fun _=>rfl))) ae rfl) rfl rfl)) rfl rfl rfl) (frt (am bp (fv 5 rfl rfl) (fnn lQ hr (aa (fv 1 rfl rfl) (aa (fv 4 rfl rfl) (aa (fv 3 rfl rfl) ae rfl) rfl) rfl) rfl rfl)) rfl))))))
noncomputable def dB:MN:=(nOr (nIf (dD (tV (ak bz (ad (ac 0) (ad (ac 2) ag))))) (mh "NoWord") nNo)
 (iN (sIf (dD (tV (ak bz (ad (ac 0) (ad (ac 2) ag))))) df aZ)
 (iN (al 3 (ak dU (ad (ac 0) (ad (ac 2) ag))))
 (nIf (dD (tV (ak gP (ad (ac 1) (ad (ac 3) ag))))) (mh "NoFit") nNo))))
noncomputable def cC:List D->Option Str:=fnN 3 dB
def rZ {k:Nat} (T:Bl mg)  (oH:Kn P w K mg base k "row_of" ["tongue", "word"] (spF K [0,0] 3 dU)) (ju:Kn P w K mg base k "table" ["machine", "most"] (spF K [0,0] 0 cr)) (j3:Kn P w K mg base k "is_word" ["tongue", "thing"] (spF K [0,0] 3 bz)) (uL:Kn P w K mg base k "lets" ["machine", "row"] (spF K [0,0] 0 gP)) (lQ:Kn P w K mg base k "rows_ahead" ["machine", "lists", "row"] (spF K [0,0,0] 0 cE)) (m_NoWord:mg "NoWord"=some (.ref (clK K "NoWord"))) (x_NoWord:PySem.W.excIn K (clK K "NoWord") vE "ValueError.__new__"=true) (m_NoFit:mg "NoFit"=some (.ref (clK K "NoFit"))) (x_NoFit:PySem.W.excIn K (clK K "NoFit") vE "ValueError.__new__"=true) (F:Fun K "number_of" "number_of" fH f fd):FnOk P w K mg base (CXr P w) (k+1) f fd ["tongue", "machine", "word"] (spN K [0,0,0] (clK K) cC):=by
 have nd:=scnumber_of.nd;refine F.okN (N:=gO) (b:=dB) (ds0:=[0,0,0,0,0,0]) scnumber_of rfl rfl rfl fun cdv A outer s H E hr R O=>?_;exact (Eb (ib (uy (p:=false) (bY (a8 (fnn j3 hr (aa (fv 0 rfl rfl) (aa (fv 2 rfl rfl) ae rfl) rfl) rfl rfl) (fun _=>rfl))) (ib (jI R PySem.F.excBase_ValueError x_NoWord rfl m_NoWord rfl)) ux)) (gW (J:=⟨[],[0,0,0,0,0,0],3,[]⟩) (aN (ds2:=[0,0,0,0,0,0]) (bY (a8 (fnn j3 hr (aa (fv 0 rfl rfl) (aa (fv 2 rfl rfl) ae rfl) rfl) rfl rfl) (fun _=>rfl))) (aw dq) aK) (gW (J:=⟨[],[0,0,0,0,0,0],3,[]⟩) (aI 3 [0,0,0,0,0,0] nd (fs0 (fnn oH hr (aa (fv 0 rfl rfl) (aa (fv 2 rfl rfl) ae rfl) rfl) rfl rfl)) rfl rfl rfl) (ib (uy (p:=false) (bY (a8 (fnn uL hr (aa (fv 1 rfl rfl) (aa (fv 3 rfl rfl) ae rfl) rfl) rfl rfl) (fun _=>rfl))) (ib (jI R PySem.F.excBase_ValueError x_NoFit rfl m_NoFit rfl)) ux)))))
abbrev kQ:Stmt:=top 39
abbrev pv:List Str:=["_law_script", "_law_first"]
def sc_law_pen:FnScope pv ["_law_script", "_law_first"] (aj kQ):=⟨rfl,rfl,rfl,by decide +kernel,rfl,by decide +kernel,by decide +kernel⟩
def fq:MS:=(aB (lr [((eC (.str "script")),(ac 0)),((eC (.str "at")),(ac 1)),((eC (.str "left")),(eC (.int 0)))]))
def cA:List D->Option (D × En):=fnF 0 [0,0] fq
def tZ {k:Nat} (T:Bl mg)   (F:Fun K "_law_pen" "_law_pen" kQ f fd):FnOk P w K mg base CX0 (k+1) f fd ["_law_script", "_law_first"] (spF K [0,0] 1 cA):=by
 have nd:=sc_law_pen.nd;refine F.okQ (N:=pv) (b:=fq) (J:=⟨[],[0,0],1,[]⟩) (ds0:=[0,0]) sc_law_pen rfl rfl rfl rfl fun cdv A outer s H E hr=>?_;exact (frt (v6 (fs:=[((eC (.str "script")),(ac 0)),((eC (.str "at")),(ac 1)),((eC (.str "left")),(eC (.int 0)))]) (kA aG (fv 0 rfl rfl) (kA aG (fv 1 rfl rfl) (kA aG (fs0 ah) xE))) rfl rfl (fun z=>nomatch z) (by decide)) rfl)
abbrev iX:Stmt:=top 40
abbrev lN:List Str:=["_law_cell", "_law_k", "_law_one", "_law_two"]
def sc_law_mixed:FnScope lN ["_law_cell", "_law_k"] (aj iX):=⟨rfl,rfl,rfl,by decide +kernel,rfl,by decide +kernel,by decide +kernel⟩
def eG:MS:=(ai (al 2 (e2 bv (e2 bJ (e2 aV (e2 aV (e2 bv (ac 0) (eC (.int 2147483629))) (e2 bJ (eC (.int 40503)) (ac 1))) (eC (.int 24691))) (eC (.int 48271))) (eC (.int 2147483647))))
 (ai (al 3 (e2 bv (e2 aV (e2 aV (e2 bJ (ac 2) (ac 2)) (e2 bJ (eC (.int 69621)) (ac 2))) (ac 1)) (eC (.int 2147483629))))
 (aB (e2 cV (e2 bv (e2 aV (e2 aV (e2 bJ (ac 3) (ac 3)) (e2 bJ (eC (.int 16807)) (ac 3))) (e2 bJ (eC (.int 31)) (ac 1))) (eC (.int 1073741789))) (eC (.int 64))))))
def b9:List D->Option (D × En):=fnF 2 [0,0] eG
def qu {k:Nat} (T:Bl mg)   (F:Fun K "_law_mixed" "_law_mixed" iX f fd):FnOk P w K mg base CX0 (k+1) f fd ["_law_cell", "_law_k"] (spF K [0,0] 3 b9):=by
 have nd:=sc_law_mixed.nd;refine F.okQ (N:=lN) (b:=eG) (J:=⟨[],[0,0,0,0],3,[]⟩) (ds0:=[0,0,0,0]) sc_law_mixed rfl rfl rfl rfl fun cdv A outer s H E hr=>?_;exact (af (aI 2 [0,0,0,0] nd (fs0 (am ia (am eD (am bp (am bp (am ia (fv 0 rfl rfl) ah) (am eD ah (fv 1 rfl rfl))) ah) ah) ah)) rfl rfl rfl) (af (aI 3 [0,0,0,0] nd (fs0 (am ia (am bp (am bp (am eD (fv 2 rfl rfl) (fv 2 rfl rfl)) (am eD ah (fv 2 rfl rfl))) (fv 1 rfl rfl)) ah)) rfl rfl rfl) (frt (am sS (am ia (am bp (am bp (am eD (fv 3 rfl rfl) (fv 3 rfl rfl)) (am eD ah (fv 3 rfl rfl))) (am eD ah (fv 1 rfl rfl))) ah) ah) rfl)))
abbrev jU:Stmt:=top 41
abbrev nG:List Str:=["_law_pen_here", "_law_most", "_law_k", "_law_script", "_law_cell", "_law_got"]
def sc_law_take:FnScope nG ["_law_pen_here", "_law_most"] (aj jU):=⟨rfl,rfl,rfl,by decide +kernel,rfl,by decide +kernel,by decide +kernel⟩
def gQ:MS:=(ai (al 2 (bH 0 (eC (.str "at"))))
 (ai (al 3 (bH 0 (eC (.str "script"))))
 (ai (sIf (tV (e2 eqD (bH 0 (eC (.str "left"))) (eC (.int 0)))) (ai (dE 0 (eC (.str "at")) (e2 aV (ac 2) (eC (.int 1))))
 (ai (al 4 (eC (.int 0)))
 (ai (sIf (tV (e2 gtI (eN bd (ad (ac 3) ag)) (eC (.int 0)))) (al 4 (e2 ixA (ac 3) (e2 bv (ac 2) (eN bd (ad (ac 3) ag))))) aZ)
 (ai (sIf (bOr (tV (e2 geI (ac 2) (eN bd (ad (ac 3) ag)))) (tV (e2 ltI (eN jP (ad (ac 4) ag)) (e2 ko (eC (.int 10)) (eC (.int 18)))))) (aB (e2 bv (ak b9 (ad (ac 4) (ad (ac 2) ag))) (ac 1))) aZ)
 (dE 0 (eC (.str "left")) (eN jP (ad (ac 4) ag))))))) aZ)
 (ai (al 5 (e2 bv (bH 0 (eC (.str "left"))) (ac 1)))
 (ai (dE 0 (eC (.str "left")) (e2 cV (bH 0 (eC (.str "left"))) (ac 1)))
 (aB (ac 5)))))))
def aq:List D->Option (D × En):=fnF 4 [1,0] gQ
def rP {k:Nat} (T:Bl mg)  (si:Kn P w K mg base k "_law_mixed" ["_law_cell", "_law_k"] (spF K [0,0] 3 b9)) (F:Fun K "_law_take" "_law_take" jU f fd):FnOk P w K mg base CX0 (k+1) f fd ["_law_pen_here", "_law_most"] (spF K [1,0] 0 aq):=by
 have nd:=sc_law_take.nd;refine F.okQ (N:=nG) (b:=gQ) (J:=⟨[0],[1,0,0,0,0,0],0,[]⟩) (ds0:=[1,0,0,0,0,0]) sc_law_take rfl rfl rfl rfl fun cdv A outer s H E hr=>?_;exact (af (aI 2 [1,0,0,0,0,0] nd (fE (i:=0) (iz hr) rfl (.inl rfl) rfl aG (fun _ _=>rfl) rfl rfl) rfl rfl rfl) (af (aI 3 [1,0,0,0,0,0] nd (fE (i:=0) (iz hr) rfl (.inl rfl) rfl aG (fun _ _=>rfl) rfl rfl) rfl rfl rfl) (af (aN (ds2:=[1,0,0,0,0,0]) (fte rfl hr.units (fE (i:=0) (iz hr) rfl (.inl rfl) rfl aG (fun _ _=>rfl) rfl rfl) ah) (af (jH (i:=0) (iz hr) rfl (.inl rfl) (fs0 (am bp (fv 2 rfl rfl) ah)) aG rfl rfl rfl rfl) (af (aI 4 [1,0,0,0,0,0] nd (fs0 ah) rfl rfl rfl) (af (aN (ds2:=[1,0,0,0,0,0]) (aJ uv (fln rfl T.len0 (aa (fv 3 rfl rfl) ae rfl) rfl rfl) ah (aR _)) (aw (aI 4 [1,0,0,0,0,0] nd (aQ (bO (K:=K) rfl) (fv 3 rfl rfl) (am ia (fv 2 rfl rfl) (fln rfl T.len0 (aa (fv 3 rfl rfl) ae rfl) rfl rfl)) (fun _ _=>rfl)) rfl rfl rfl)) aK) (af (aN (ds2:=[1,0,0,0,0,0]) (qpt (fT (aJ uw (fv 2 rfl rfl) (fln rfl T.len0 (aa (fv 3 rfl rfl) ae rfl) rfl rfl) (aR _)) (eT (aJ iC (fcb v1 T.abs0 (by decide +kernel) (aa (fv 4 rfl rfl) ae rfl) rfl rfl) (am qV ah ah) (aR _))))) (frt (fs0 (am ia (fnn si hr (aa (fv 4 rfl rfl) (aa (fv 2 rfl rfl) ae rfl) rfl) rfl rfl) (fv 1 rfl rfl))) rfl) aK) (aw (jH (i:=0) (iz hr) rfl (.inl rfl) (fs0 (fcb v1 T.abs0 (by decide +kernel) (aa (fv 4 rfl rfl) ae rfl) rfl rfl)) aG rfl rfl rfl rfl)))))) aK) (af (aI 5 [1,0,0,0,0,0] nd (fs0 (am ia (fE (i:=0) (iz hr) rfl (.inl rfl) rfl aG (fun _ _=>rfl) rfl rfl) (fv 1 rfl rfl))) rfl rfl rfl) (af (jH (i:=0) (iz hr) rfl (.inl rfl) (fs0 (am sS (fE (i:=0) (iz hr) rfl (.inl rfl) rfl aG (fun _ _=>rfl) rfl rfl) (fv 1 rfl rfl))) aG rfl rfl rfl rfl) (frt (fv 5 rfl rfl) rfl))))))
abbrev iW:Stmt:=top 42
abbrev lM:List Str:=["_law_pen_here"]
def sc_law_signs:FnScope lM ["_law_pen_here"] (aj iW):=⟨rfl,rfl,rfl,by decide +kernel,rfl,by decide +kernel,by decide +kernel⟩
def gl:MS:=(aB (e2 ixA (bg (ad (eC (.int 2)) (ad (eC (.int 1)) (ad (eC (.int 3)) (ad (eC (.int 2)) (ad (eC (.int 4)) (ad (eC (.int 3)) (ad (eC (.int 2)) (ad (e2 aV (eC (.int 5)) (ak aq (aH 0 (ad (eC (.int 8)) ag)))) ag))))))))) (ak aq (aH 0 (ad (eC (.int 8)) ag)))))
def dA:List D->Option (D × En):=fnF 0 [1] gl
def qt {k:Nat} (T:Bl mg)  (aS:Kn P w K mg base k "_law_take" ["_law_pen_here", "_law_most"] (spF K [1,0] 0 aq)) (F:Fun K "_law_signs" "_law_signs" iW f fd):FnOk P w K mg base CX0 (k+1) f fd ["_law_pen_here"] (spF K [1] 0 dA):=by
 have nd:=sc_law_signs.nd;refine F.okQ (N:=lM) (b:=gl) (J:=⟨[0],[1],0,[]⟩) (ds0:=[1]) sc_law_signs rfl rfl rfl rfl fun cdv A outer s H E hr=>?_;exact (frt (aQ (bO (K:=K) rfl) (bq (d:=3) (c:=3) (aa ah (aa ah (aa ah (aa ah (aa ah (aa ah (aa ah (aa (am bp ah (fns aS hr (fsl 0 (aa (fs0 ah) ae rfl) rfl) rfl rfl)) ae rfl) rfl) rfl) rfl) rfl) rfl) rfl) rfl) rfl rfl (by decide)) (fns aS hr (fsl 0 (aa (fs0 ah) ae rfl) rfl) rfl rfl) (fun _ _=>rfl)) rfl)
abbrev jX:Stmt:=top 43
abbrev nJ:List Str:=["_law_pen_here", "_law_stand", "_law_stands", "_law_way", "_law_goal_here"]
def sc_law_goal:FnScope nJ ["_law_pen_here", "_law_stand", "_law_stands", "_law_way"] (aj jX):=⟨rfl,rfl,rfl,by decide +kernel,rfl,by decide +kernel,by decide +kernel⟩
def dX:MS:=(ai (al 4 (ak aq (aH 0 (ad (e2 aV (ac 2) (eC (.int 1))) ag))))
 (ai (sIf (bOr (tV (e2 eqD (ac 4) (ac 2))) (dJ (tV (e2 eqD (ac 3) (eC (.int 1)))) (tV (e2 leI (ac 4) (ac 1))))) (aB (eC .none)) aZ)
 (aB (ac 4))))
def bB:List D->Option (D × En):=fnF 1 [1,0,0,0] dX
def rS {k:Nat} (T:Bl mg)  (aS:Kn P w K mg base k "_law_take" ["_law_pen_here", "_law_most"] (spF K [1,0] 0 aq)) (F:Fun K "_law_goal" "_law_goal" jX f fd):FnOk P w K mg base CX0 (k+1) f fd ["_law_pen_here", "_law_stand", "_law_stands", "_law_way"] (spF K [1,0,0,0] 0 bB):=by
 have nd:=sc_law_goal.nd;refine F.okQ (N:=nJ) (b:=dX) (J:=⟨[0],[1,0,0,0,0],0,[]⟩) (ds0:=[1,0,0,0,0]) sc_law_goal rfl rfl rfl rfl fun cdv A outer s H E hr=>?_;exact (af (aI 4 [1,0,0,0,0] nd (fns aS hr (fsl 0 (aa (fs0 (am bp (fv 2 rfl rfl) ah)) ae rfl) rfl) rfl rfl) rfl rfl rfl) (af (aN (ds2:=[1,0,0,0,0]) (qpt (fT (fte rfl hr.units (fv 4 rfl rfl) (fv 2 rfl rfl)) (eT (qpt (qT (fte rfl hr.units (fv 3 rfl rfl) ah) (oZ (aJ uu (fv 4 rfl rfl) (fv 1 rfl rfl) (aR _)))))))) (frt (fs0 bn) rfl) aK) (frt (fv 4 rfl rfl) rfl)))
abbrev dh:Stmt:=top 44
abbrev eQ:List Str:=["_law_pen_here", "_law_signs_here", "_law_most", "_law_stands", "_law_way", "_law_fence", "_law_ends", "_law_goes", "_law_stand", "_law_row"]
def sc_law_machine:FnScope eQ ["_law_pen_here", "_law_signs_here", "_law_most"] (aj dh):=⟨rfl,rfl,rfl,by decide +kernel,rfl,by decide +kernel,by decide +kernel⟩
def nN:ME:=(ak bB (aH 1 (ad (ac 4) (ad (ac 2) (ad (ac 3) ag)))))
def nM:ME:=(e2 ixA (bg (ad (ac 0) (ad (eC .none) ag))) (eN iQ (ad (eOr (e2 isN (ac 0) (eC .none)) (e2 geI (ac 0) (ac 1))) ag)))
def nK:MS:=(ai (bQ (bK 6 (e2 eqD (ak aq (aH 0 (ad (eC (.int 3)) ag))) (eC (.int 0)))))
 (ai (al 9 (eLC false (bG (ad (ac 1) ag)) (gN 0) cY nN [none,some 0,some 3,some 4,some 8]))
 (ai (sIf (dJ (tV (e2 eqD (ac 4) (eC (.int 2)))) (tV (e2 ltI (ac 8) (ac 5)))) (ai (fu 6 (ac 8) (eC (.bool false)))
 (al 9 (eLC true (be (ac 9)) (gN 0) cY nM [none,some 5]))) aZ)
 (bQ (bK 7 (ac 9))))))
def di:MS:=(ai (al 3 (e2 aV (eC (.int 1)) (ak aq (aH 0 (ad (ac 2) ag)))))
 (ai (al 4 (ak aq (aH 0 (ad (eC (.int 4)) ag))))
 (ai (al 5 (e2 aV (eC (.int 1)) (ak aq (aH 0 (ad (ac 3) ag)))))
 (ai (al 6 (bg ag))
 (ai (al 7 (bg ag))
 (ai (cF (bG (ad (ac 3) ag)) (gN 8) nK)
 (aB (eX (ad (ac 6) (ad (ac 7) ag))))))))))
def cy:List D->Option (D × En):=fnF 7 [1,0,0] di
def nX {k:Nat} (T:Bl mg)  (aS:Kn P w K mg base k "_law_take" ["_law_pen_here", "_law_most"] (spF K [1,0] 0 aq)) (uP:Kn P w K mg base k "_law_goal" ["_law_pen_here", "_law_stand", "_law_stands", "_law_way"] (spF K [1,0,0,0] 0 bB)) (F:Fun K "_law_machine" "_law_machine" dh f fd):FnOk P w K mg base CX0 (k+1) f fd ["_law_pen_here", "_law_signs_here", "_law_most"] (spF K [1,0,0] 0 cy):=by
 have nd:=sc_law_machine.nd;refine F.okQ (N:=eQ) (b:=di) (J:=⟨[0],[1,0,0,0,0,0,0,0,0,0],0,[]⟩) (ds0:=[1,0,0,0,0,0,0,0,0,0]) sc_law_machine rfl rfl rfl rfl fun cdv A outer s H E hr=>?_;exact (af (bb (i:=3) (d:=0) (ds':=[1,0,0,0,0,0,0,0,0,0]) nd rfl (.inr rfl) (fs0 (am bp ah (fns aS hr (h9 0 (aa (fv 2 rfl rfl) ae rfl) rfl) rfl rfl))) rfl (by decide) (by decide) rfl (.inl rfl)) (af (bb (i:=4) (d:=0) (ds':=[1,0,0,0,0,0,0,0,0,0]) nd rfl (.inr rfl) (fns aS hr (h9 0 (aa (fs0 ah) ae rfl) rfl) rfl rfl) rfl (by decide) (by decide) rfl (.inl rfl)) (af (bb (i:=5) (d:=0) (ds':=[1,0,0,0,0,0,0,0,0,0]) nd rfl (.inr rfl) (fs0 (am bp ah (fns aS hr (h9 0 (aa (fvc 3 rfl rfl) ae rfl) rfl) rfl rfl))) rfl (by decide) (by decide) rfl (.inl rfl)) (af (aI 6 [1,0,0,0,0,0,1,0,0,0] nd (cU (d':=1) (bq (d:=3) (c:=3) ae rfl rfl (by decide)) (by decide)) rfl rfl rfl) (af (aI 7 [1,0,0,0,0,0,1,1,0,0] nd (cU (d':=1) (bq (d:=3) (c:=3) ae rfl rfl (by decide)) (by decide)) rfl rfl rfl) (af (bZ (ds1:=[1,0,0,0,0,0,1,1,0,0]) rfl (fj rfl T.range0 (aa (fvc 3 rfl rfl) ae rfl) rfl) (au (i:=8) (ds':=[1,0,0,0,0,0,1,1,0,0]) nd rfl (.inr rfl) rfl (by decide) (by decide) (.inl rfl)) (af (bS (cj (K:=K) (i:=6) (d:=1) rfl rfl (.inl rfl) rfl (fs0 (dG (pQ (K:=K) rfl hr.units) (fns aS hr (h9 0 (aa (fs0 ah) ae rfl) rfl) rfl rfl) ah (aR _))) (by decide) rfl rfl rfl rfl rfl rfl rfl rfl) rfl) (af (gu (ds1:=[1,0,0,0,0,0,1,1,0,0]) (eB (i:=9) (ds':=[1,0,0,0,0,0,1,1,0,1]) (cd:=0) (d:=1) (dsi:=[0,1,0,0,0]) (lk:=[1,2,3,4]) nd rfl rfl (BlkOkC.of (ns:=["_law_number", "_law_pen_here", "_law_stands", "_law_way", "_law_stand"]) (js:=[none,some 0,some 3,some 4,some 8]) (N0:=eQ) (sc0:=aj dh) rfl rfl (by decide +kernel)) rfl (fj rfl T.range0 (aa (fv 1 rfl rfl) ae rfl) rfl) (fun _ _ _ _ _=>(au (i:=0) (ds':=[0,1,0,0,0]) (show (["_law_number", "_law_pen_here", "_law_stands", "_law_way", "_law_stand"]:List Str).Nodup by decide +kernel) rfl (.inl rfl) rfl (by decide) (by decide) (.inr rfl))) (fun _ _ _ _ _=>aX) (fun _ _ _ _ _=>(fns uP hr (h9 1 (aa (fvc 4 rfl rfl) (aa (fvc 2 rfl rfl) (aa (fvc 3 rfl rfl) ae rfl) rfl) rfl) rfl) rfl rfl)) rfl rfl rfl (by decide) rfl (by decide) (by decide) rfl (fun _=>rfl)) rfl) (af (aN (ds2:=[1,0,0,0,0,0,1,1,0,0]) (qpt (qT (fte rfl hr.units (fvc 4 rfl rfl) ah) (oZ (aJ iC (fvc 8 rfl rfl) (fvc 5 rfl rfl) (aR _))))) (af (ut (i:=6) (d:=1) (c:=0) rfl (.inl rfl) (fs0 cc) (fvc 8 rfl rfl) rfl (by decide) rfl rfl rfl (fun _=>rfl) rfl rfl rfl) (aw (gu (ds1:=[1,0,0,0,0,0,1,1,0,0]) (eB (i:=9) (ds':=[1,0,0,0,0,0,1,1,0,1]) (cd:=0) (d:=1) (dsi:=[0,0]) (lk:=[1]) nd rfl rfl (BlkOkC.of (ns:=["_law_goal_here", "_law_fence"]) (js:=[none,some 5]) (N0:=eQ) (sc0:=aj dh) rfl rfl (by decide +kernel)) rfl (aU (K:=K) rfl (fv 9 rfl rfl)) (fun _ _ _ _ _=>(au (i:=0) (ds':=[0,0]) (show (["_law_goal_here", "_law_fence"]:List Str).Nodup by decide +kernel) rfl (.inl rfl) rfl (by decide) (by decide) (.inr rfl))) (fun _ _ _ _ _=>aX) (fun _ _ _ _ _=>(aQ (bO (K:=K) rfl) (bq (d:=1) (c:=0) (aa (fv 0 rfl rfl) (aa bn ae rfl) rfl) rfl rfl (by decide)) (fct vZ T.int0 (by decide +kernel) (aa (fs0 (Fy (dG m9 (fv 0 rfl rfl) bn (aR _)) (jK (dG uw (fv 0 rfl rfl) (fvc 1 rfl rfl) (aR _))))) ae rfl) rfl rfl) (fun _ _=>rfl))) rfl rfl rfl (by decide) rfl (by decide) (by decide) rfl (fun _=>rfl)) rfl))) aK) (aw (bS (cj (K:=K) (i:=7) (d:=1) rfl rfl (.inl rfl) rfl (fv 9 rfl rfl) (by decide) rfl rfl rfl rfl rfl rfl rfl rfl) rfl))))) PassesOwn.never (fun _=>rfl)) (frt (eV (d:=0) (c:=0) (aa (fU (ds0:=[1,0,0,0,0,0,0,1,0,0]) (cT (p:=false) (i:=6) rfl (.inl rfl) rfl rfl rfl) rfl) (aa (fU (ds0:=[1,0,0,0,0,0,0,0,0,0]) (cT (p:=false) (i:=7) rfl (.inl rfl) rfl rfl rfl) rfl) ae rfl) rfl) rfl rfl) rfl)))))))
abbrev fI:Stmt:=top 45
abbrev ij:List Str:=["_law_pen_here", "_law_many", "_law_signs_here", "_law_left", "_law_kinds", "_law_size"]
def sc_law_tongue:FnScope ij ["_law_pen_here", "_law_many"] (aj fI):=⟨rfl,rfl,rfl,by decide +kernel,rfl,by decide +kernel,by decide +kernel⟩
def gb:ME:=(ic 2 (ak aq (aH 1 (ad (eN bd (ad (ac 2) ag)) ag))))
def fX:MS:=(ai (al 5 (e2 aV (eC (.int 1)) (ak aq (aH 0 (ad (eN t9 (ad (eC (.int 6)) (ad (eN bd (ad (ac 3) ag)) ag))) ag)))))
 (ai (al 5 (eN ub (ad (ac 5) (ad (e2 dY (eN bd (ad (ac 3) ag)) (e2 bJ (eC (.int 6)) (e2 dY (eC (.int 3)) (eN bd (ad (ac 4) ag))))) ag))))
 (ai (bQ (bK 4 (eM joinD (eC (.str "")) (ad (eSl no (ac 3) gJ (gf (ac 5))) ag))))
 (al 3 (eSl no (ac 3) (gf (ac 5)) gJ)))))
def dS:MT:=(tV (e2 neD (ac 3) (bg ag)))
noncomputable def iq:MS:=(ai (al 2 (eN gL (ad (eC (.str "!\"#$&'()*+,-./0123456789:;<=>?\x40[\\]^_`{|}~")) ag)))
 (ai (al 2 (e2 rB (ac 2) (eN gL (ad (eC (.str "ABCDEFGHIJKLMNOPQRSTUVWXYZabcdefghijklmnopqrstuvwxyz")) ag))))
 (ai (al 3 (eLC false (bG (ad (ac 1) ag)) (gN 0) cY gb [none,some 0,some 2]))
 (ai (al 4 (bg ag))
 (ai (bt dS fX)
 (aB (eN tK (ad (ac 4) ag))))))))
noncomputable def cK:List D->Option (D × En):=fnF 4 [1,0] iq
def pD {k:Nat} (T:Bl mg)  (aS:Kn P w K mg base k "_law_take" ["_law_pen_here", "_law_most"] (spF K [1,0] 0 aq)) (F:Fun K "_law_tongue" "_law_tongue" fI f fd):FnOk P w K mg base CX0 (k+1) f fd ["_law_pen_here", "_law_many"] (spF K [1,0] 0 cK):=by
 have nd:=sc_law_tongue.nd;refine F.okQ (N:=ij) (b:=iq) (J:=⟨[0],[1,0,0,0,0,0],0,[]⟩) (ds0:=[1,0,0,0,0,0]) sc_law_tongue rfl rfl rfl rfl fun cdv A outer s H E hr=>?_;exact (af (bb (i:=2) (d:=0) (ds':=[1,0,0,0,0,0]) nd rfl (.inr rfl) (fs0 (fct (jl (K:=K) rfl rfl) T.list0 (by decide +kernel) (aa (fs0 aG) ae rfl) rfl rfl)) rfl (by decide) (by decide) rfl (.inl rfl)) (af (bb (i:=2) (d:=1) (ds':=[1,0,1,0,0,0]) nd rfl (.inr rfl) (am (sT (K:=K) rfl) (fvc 2 rfl rfl) (fct (jl (K:=K) rfl rfl) T.list0 (by decide +kernel) (aa (fs0 aG) ae rfl) rfl rfl)) rfl (by decide) (by decide) rfl (.inl rfl)) (af (gu (ds1:=[1,0,1,0,0,0]) (eB (i:=3) (ds':=[1,0,1,1,0,0]) (cd:=0) (d:=1) (dsi:=[0,1,1]) (lk:=[1,2]) nd rfl rfl (BlkOkC.of (ns:=["_law_k", "_law_pen_here", "_law_signs_here"]) (js:=[none,some 0,some 2]) (N0:=ij) (sc0:=aj fI) rfl rfl (by decide +kernel)) rfl (fj rfl T.range0 (aa (fv 1 rfl rfl) ae rfl) rfl) (fun _ _ _ _ _=>(au (i:=0) (ds':=[0,1,1]) (show (["_law_k", "_law_pen_here", "_law_signs_here"]:List Str).Nodup by decide +kernel) rfl (.inl rfl) rfl (by decide) (by decide) (.inr rfl))) (fun _ _ _ _ _=>aX) (fun _ _ _ _ _=>(uA (K:=K) (i:=2) (d:=1) rfl rfl (.inr (.inl rfl)) rfl (fns aS hr (h9 1 (aa (fs0 (mr (ds0:=[0,1,0]) (fln rfl T.len0 (aa (fvc 2 rfl rfl) ae rfl) rfl rfl) rfl)) ae rfl) rfl) rfl rfl) (by decide) rfl rfl rfl rfl rfl rfl rfl rfl)) rfl rfl rfl (by decide) rfl (by decide) (by decide) rfl (fun _=>rfl)) rfl) (af (aI 4 [1,0,1,0,1,0] nd (cU (d':=1) (bq (d:=3) (c:=3) ae rfl rfl (by decide)) (by decide)) rfl rfl rfl) (af (eA (ds:=[1,0,1,0,1,0]) (ftn rfl hr.units (fv 3 rfl rfl) (bq (d:=3) (c:=3) ae rfl rfl (by decide))) (af (aI 5 [1,0,1,0,1,0] nd (fs0 (am bp ah (fns aS hr (h9 0 (aa (fs0 (fcb (Fm rfl) T.min0 (by decide +kernel) (aa (fs0 ah) (aa (fs0 (fln rfl T.len0 (aa (fv 3 rfl rfl) ae rfl) rfl rfl)) ae rfl) rfl) rfl rfl)) ae rfl) rfl) rfl rfl))) rfl rfl rfl) (af (aI 5 [1,0,1,0,1,0] nd (fs0 (mr (ds0:=[1,0,1,0,0,0]) (fcb (Fo rfl) T.max0 (by decide +kernel) (aa (fv 5 rfl rfl) (aa (fs0 (am dg (fln rfl T.len0 (aa (fv 3 rfl rfl) ae rfl) rfl rfl) (am eD ah (am dg ah (fln rfl T.len0 (aa (fv 4 rfl rfl) ae rfl) rfl rfl))))) ae rfl) rfl) rfl rfl) rfl)) rfl rfl rfl) (af (bS (cj (K:=K) (i:=4) (d:=1) rfl rfl (.inl rfl) rfl (fs0 (cN (K:=K) rfl PySem.F.slot_str_join PySem.F.type_str_join (gS rfl) gX aG (aa (fs0 (dP (oi (K:=K) rfl) (fv 3 rfl rfl) fg (ff (fv 5 rfl rfl)))) ae rfl) rfl rfl rfl rfl rfl rfl)) (by decide) rfl rfl rfl rfl rfl rfl rfl rfl) rfl) (aw (aI 3 [1,0,1,0,1,0] nd (fs0 (dP (oi (K:=K) rfl) (fv 3 rfl rfl) (ff (fv 5 rfl rfl)) fg)) rfl rfl rfl))))) PassesOwn.never) (frt (fct (xG (K:=K) rfl) T.tuple0 (by decide +kernel) (aa (fU (ds0:=[1,0,1,0,0,0]) (cT (p:=false) (i:=4) rfl (.inl rfl) rfl rfl rfl) rfl) ae rfl) rfl rfl) rfl))))))
abbrev eF:Stmt:=top 46
abbrev gj:List Str:=["_law_machine_here", "_law_most", "_law_lists", "_law_ahead"]
def sc_law_table:FnScope gj ["_law_machine_here", "_law_most"] (aj eF):=⟨rfl,rfl,rfl,by decide +kernel,rfl,by decide +kernel,by decide +kernel⟩
def kg:ME:=(eN iQ (ad (ac 0) ag))
def pH:MT:=(tV (e2 dZ (ac 0) (eC .none)))
def pK:ME:=(e2 ixA (ac 1) (ac 0))
def gH:ME:=(eN gy (ad (eLC true (be (ac 0)) (gN 0) pH pK [none,some 1]) ag))
def ke:MS:=(ai (al 3 (cX 2 (e1 iM (eC (.int 1)))))
 (bQ (bK 2 (eLC true (be (e2 ixA (ac 0) (eC (.int 1)))) (gN 0) cY gH [none,some 3]))))
def kc:MT:=(tV (e2 leI (eN bd (ad (ac 2) ag)) (ac 1)))
noncomputable def jb:MS:=(ai (al 2 (bg (ad (eLC true (be (e2 ixA (ac 0) (eC (.int 0)))) (gN 0) cY kg [none]) ag)))
 (ai (bt kc ke)
 (aB (ac 2))))
noncomputable def dz:List D->Option (D × En):=fnF 2 [0,0] jb
def qr {k:Nat} (T:Bl mg)   (F:Fun K "_law_table" "_law_table" eF f fd):FnOk P w K mg base CX0 (k+1) f fd ["_law_machine_here", "_law_most"] (spF K [0,0] 0 dz):=by
 have nd:=sc_law_table.nd;refine F.okQ (N:=gj) (b:=jb) (J:=⟨[],[0,0,0,0],0,[]⟩) (ds0:=[0,0,0,0]) sc_law_table rfl rfl rfl rfl fun cdv A outer s H E hr=>?_;exact (af (aI 2 [0,0,1,0] nd (cU (d':=1) (bq (d:=3) (c:=3) (aa (bV (cd:=3) (d:=3) (dsi:=[0]) (lk:=[]) (BlkOkC.of (ns:=["_law_one"]) (js:=[none]) (N0:=gj) (sc0:=aj eF) rfl rfl (by decide +kernel)) rfl (aU (K:=K) rfl (fxi rfl (fv 0 rfl rfl))) (fun _ _ _ _ _=>(au (i:=0) (ds':=[0]) (show (["_law_one"]:List Str).Nodup by decide +kernel) rfl (.inl rfl) rfl (by decide) (by decide) (.inr rfl))) (fun _ _ _ _ _=>aX) (fun _ _ _ _ _=>(fct vZ T.int0 (by decide +kernel) (aa (fv 0 rfl rfl) ae rfl) rfl rfl)) rfl rfl (by decide) rfl (fun _=>rfl)) ae rfl) rfl rfl (by decide)) (by decide)) rfl rfl rfl) (af (eA (ds:=[0,0,1,0]) (iA (ds0:=[0,0,0,0]) (aJ uu (fln rfl T.len0 (aa (fv 2 rfl rfl) ae rfl) rfl rfl) (fv 1 rfl rfl) (aR _)) rfl) (af (bb (i:=3) (d:=0) (ds':=[0,0,1,0]) nd rfl (.inr rfl) (mj (K:=K) (i:=2) rfl rfl (.inl rfl) rfl (jn kC ah) (fun _ _=>rfl) rfl rfl) rfl (by decide) (by decide) rfl (.inl rfl)) (aw (bS (cj (K:=K) (i:=2) (d:=1) rfl rfl (.inl rfl) rfl (fs0 (bV (cd:=3) (d:=3) (dsi:=[0,0]) (lk:=[1]) (BlkOkC.of (ns:=["_law_row", "_law_ahead"]) (js:=[none,some 3]) (N0:=gj) (sc0:=aj eF) rfl rfl (by decide +kernel)) rfl (aU (K:=K) rfl (fxi rfl (fv 0 rfl rfl))) (fun _ _ _ _ _=>(au (i:=0) (ds':=[0,0]) (show (["_law_row", "_law_ahead"]:List Str).Nodup by decide +kernel) rfl (.inl rfl) rfl (by decide) (by decide) (.inr rfl))) (fun _ _ _ _ _=>aX) (fun _ _ _ _ _=>(fcb (kB (K:=K) rfl rfl) T.sum0 (by decide +kernel) (aa (fs0 (bV (cd:=0) (d:=1) (dsi:=[0,0]) (lk:=[1]) (BlkOkC.inn (ns:=["_law_goal_here", "_law_ahead"]) (js:=[none,some 1]) (N0:=["_law_row", "_law_ahead"]) rfl rfl (by decide +kernel)) rfl (aU (K:=K) rfl (fv 0 rfl rfl)) (fun _ _ _ _ _=>(au (i:=0) (ds':=[0,0]) (show (["_law_goal_here", "_law_ahead"]:List Str).Nodup by decide +kernel) rfl (.inl rfl) rfl (by decide) (by decide) (.inr rfl))) (fun _ _ _ _ _=>(kz (aJ jk (fv 0 rfl rfl) bn (aR _)))) (fun _ _ _ _ _=>(aQ (bO (K:=K) rfl) (fvc 1 rfl rfl) (fv 0 rfl rfl) (fun _ _=>rfl))) rfl rfl (by decide) rfl (fun _=>rfl))) ae rfl) rfl rfl)) rfl rfl (by decide) rfl (fun _=>rfl))) (by decide) rfl rfl rfl rfl rfl rfl rfl rfl) rfl))) PassesOwn.never) (frt (fU (ds0:=[0,0,0,0]) (cT (p:=false) (i:=2) rfl (.inl rfl) rfl rfl rfl) rfl) rfl)))
abbrev jW:Stmt:=top 47
abbrev nI:List Str:=["_law_machine_here", "_law_stand", "_law_row", "_law_number"]
def sc_law_gone:FnScope nI ["_law_machine_here", "_law_stand", "_law_row"] (aj jW):=⟨rfl,rfl,rfl,by decide +kernel,rfl,by decide +kernel,by decide +kernel⟩
def ik:MS:=(sIf (tV (e2 dZ (ac 1) (eC .none))) (al 1 (e2 ixA (e2 ixA (e2 ixA (ac 0) (eC (.int 1))) (ac 1)) (ac 3))) aZ)
def j8:MS:=(ai (cF (be (ac 2)) (gN 3) ik)
 (aB (ac 1)))
def dW:List D->Option (D × En):=fnF 1 [0,0,0] j8
def rR {k:Nat} (T:Bl mg)   (F:Fun K "_law_gone" "_law_gone" jW f fd):FnOk P w K mg base CX0 (k+1) f fd ["_law_machine_here", "_law_stand", "_law_row"] (spF K [0,0,0] 0 dW):=by
 have nd:=sc_law_gone.nd;refine F.okQ (N:=nI) (b:=j8) (J:=⟨[],[0,0,0,0],0,[]⟩) (ds0:=[0,0,0,0]) sc_law_gone rfl rfl rfl rfl fun cdv A outer s H E hr=>?_;exact (af (bZ (ds1:=[0,0,0,0]) rfl (aU (K:=K) rfl (fv 2 rfl rfl)) (au (i:=3) (ds':=[0,0,0,0]) nd rfl (.inl rfl) rfl (by decide) (by decide) (.inl rfl)) (aw (aN (ds2:=[0,0,0,0]) (aJ jk (fv 1 rfl rfl) bn (aR _)) (aw (aI 1 [0,0,0,0] nd (aQ (bO (K:=K) rfl) (aQ (bO (K:=K) rfl) (fxi rfl (fv 0 rfl rfl)) (fv 1 rfl rfl) (fun _ _=>rfl)) (fv 3 rfl rfl) (fun _ _=>rfl)) rfl rfl rfl)) aK)) PassesOwn.never (fun _=>rfl)) (frt (fv 1 rfl rfl) rfl))
abbrev jV:Stmt:=top 48
abbrev nH:List Str:=["_law_machine_here", "_law_row", "_law_stand"]
def sc_law_lets:FnScope nH ["_law_machine_here", "_law_row"] (aj jV):=⟨rfl,rfl,rfl,by decide +kernel,rfl,by decide +kernel,by decide +kernel⟩
def j7:MS:=(ai (al 2 (ak dW (ad (ac 0) (ad (eC (.int 0)) (ad (ac 1) ag)))))
 (aB (kH (e2 dZ (ac 2) (eC .none)) (e2 ixA (e2 ixA (ac 0) (eC (.int 0))) (ac 2)))))
def de:List D->Option (D × En):=fnF 1 [0,0] j7
def rQ {k:Nat} (T:Bl mg)  (uO:Kn P w K mg base k "_law_gone" ["_law_machine_here", "_law_stand", "_law_row"] (spF K [0,0,0] 0 dW)) (F:Fun K "_law_lets" "_law_lets" jV f fd):FnOk P w K mg base CX0 (k+1) f fd ["_law_machine_here", "_law_row"] (spF K [0,0] 0 de):=by
 have nd:=sc_law_lets.nd;refine F.okQ (N:=nH) (b:=j7) (J:=⟨[],[0,0,0],0,[]⟩) (ds0:=[0,0,0]) sc_law_lets rfl rfl rfl rfl fun cdv A outer s H E hr=>?_;exact (af (aI 2 [0,0,0] nd (fnn uO hr (aa (fv 0 rfl rfl) (aa (fs0 ah) (aa (fv 1 rfl rfl) ae rfl) rfl) rfl) rfl rfl) rfl rfl rfl) (frt (ms (dG jk (fv 2 rfl rfl) bn (aR _)) (jK (aQ (bO (K:=K) rfl) (fxi rfl (fv 0 rfl rfl)) (fv 2 rfl rfl) (fun _ _=>rfl)))) rfl))
abbrev jT:Stmt:=top 49
abbrev nF:List Str:=["_law_caught", "_law_got"]
def sc_law_word:FnScope nF ["_law_caught"] (aj jT):=⟨rfl,rfl,rfl,by decide +kernel,rfl,by decide +kernel,by decide +kernel⟩
def fL:MS:=(ai (al 1 (bg ag))
 (ai (sIf (tV (e1 (bi kn0 cP) (ac 0))) (bQ (bK 1 (eC (.str "number")))) aZ)
 (ai (sIf (tV (e1 (bi kn0 eR) (ac 0))) (bQ (bK 1 (eC (.str "word")))) aZ)
 (ai (sIf (tV (e1 (bi kn0 fM) (ac 0))) (bQ (bK 1 (eC (.str "fit")))) aZ)
 (ai (sIf (tV (e1 (bi kn0 xt0) (ac 0))) (bQ (bK 1 (eC (.str "other")))) aZ)
 (ai (sIf (bOr (tV (e2 neD (eN bd (ad (ac 1) ag)) (eC (.int 1)))) (dD (tV (e1 (bi kn0 cg) (ac 0))))) (aB (eC (.str "none"))) aZ)
 (aB (cX 1 (eC (.int 0))))))))))
def bA:List D->Option (D × En):=fnF 1 [0] fL
def rO {k:Nat} (T:Bl mg)   {C_NoNumber:Addr} (m_NoNumber:mg "NoNumber"=some (.ref C_NoNumber)) (t_NoNumber:fN K kn0 cP (.ref C_NoNumber)=true) {C_NoWord:Addr} (m_NoWord:mg "NoWord"=some (.ref C_NoWord)) (t_NoWord:fN K kn0 eR (.ref C_NoWord)=true) {C_NoFit:Addr} (m_NoFit:mg "NoFit"=some (.ref C_NoFit)) (t_NoFit:fN K kn0 fM (.ref C_NoFit)=true) (t_ValueError:fN K kn0 cg (.type "ValueError")=true) (mi_NoTongue:mg "NoTongue"=some (.ref (clK K "NoTongue"))) (mi_NoSentence:mg "NoSentence"=some (.ref (clK K "NoSentence"))) (mi_TooMany:mg "TooMany"=some (.ref (clK K "TooMany"))) (mi_TooMuch:mg "TooMuch"=some (.ref (clK K "TooMuch"))) (mi_Elder:mg "Elder"=some (.ref (clK K "Elder"))) (mi_Near:mg "Near"=some (.ref (clK K "Near"))) (mi_NoBack:mg "NoBack"=some (.ref (clK K "NoBack"))) (mi_NoText:mg "NoText"=some (.ref (clK K "NoText"))) (mi_NoLine:mg "NoLine"=some (.ref (clK K "NoLine"))) (mi_NoName:mg "NoName"=some (.ref (clK K "NoName"))) (tt_0:p0 K kn0 xt0 (List.map Value.ref [clK K "NoTongue",clK K "NoSentence",clK K "TooMany",clK K "TooMuch",clK K "Elder",clK K "Near",clK K "NoBack",clK K "NoText",clK K "NoLine",clK K "NoName"])=true) (F:Fun K "_law_word" "_law_word" jT f fd):FnOk P w K mg base CX0 (k+1) f fd ["_law_caught"] (spF K [0] 0 bA):=by
 have nd:=sc_law_word.nd;refine F.okQ (N:=nF) (b:=fL) (J:=⟨[],[0,0],0,[]⟩) (ds0:=[0,0]) sc_law_word rfl rfl rfl rfl fun cdv A outer s H E hr=>?_;exact (af (aI 1 [0,1] nd (cU (d':=1) (bq (d:=3) (c:=3) ae rfl rfl (by decide)) (by decide)) rfl rfl rfl) (af (aN (ds2:=[0,1]) (a8 (mq (K:=K) (kn:=kn0) (xs:=cP) rfl rfl T.isinstance0 rfl m_NoNumber t_NoNumber (fv 0 rfl rfl) rfl rfl) (fun _=>rfl)) (aw (bS (cj (K:=K) (i:=1) (d:=1) rfl rfl (.inl rfl) rfl (fs0 aG) (by decide) rfl rfl rfl rfl rfl rfl rfl rfl) rfl)) aK) (af (aN (ds2:=[0,1]) (a8 (mq (K:=K) (kn:=kn0) (xs:=eR) rfl rfl T.isinstance0 rfl m_NoWord t_NoWord (fv 0 rfl rfl) rfl rfl) (fun _=>rfl)) (aw (bS (cj (K:=K) (i:=1) (d:=1) rfl rfl (.inl rfl) rfl (fs0 aG) (by decide) rfl rfl rfl rfl rfl rfl rfl rfl) rfl)) aK) (af (aN (ds2:=[0,1]) (a8 (mq (K:=K) (kn:=kn0) (xs:=fM) rfl rfl T.isinstance0 rfl m_NoFit t_NoFit (fv 0 rfl rfl) rfl rfl) (fun _=>rfl)) (aw (bS (cj (K:=K) (i:=1) (d:=1) rfl rfl (.inl rfl) rfl (fs0 aG) (by decide) rfl rfl rfl rfl rfl rfl rfl rfl) rfl)) aK) (af (aN (ds2:=[0,1]) (a8 (xN (K:=K) (kn:=kn0) (xs:=xt0) rfl rfl T.isinstance0 (dk rfl mi_NoTongue rfl (dk rfl mi_NoSentence rfl (dk rfl mi_TooMany rfl (dk rfl mi_TooMuch rfl (dk rfl mi_Elder rfl (dk rfl mi_Near rfl (dk rfl mi_NoBack rfl (dk rfl mi_NoText rfl (dk rfl mi_NoLine rfl (dk rfl mi_NoName rfl Ij)))))))))) tt_0 (by show 10<=63; decide) (fv 0 rfl rfl) rfl) (fun _=>rfl)) (aw (bS (cj (K:=K) (i:=1) (d:=1) rfl rfl (.inl rfl) rfl (fs0 aG) (by decide) rfl rfl rfl rfl rfl rfl rfl rfl) rfl)) aK) (af (aN (ds2:=[0,1]) (iA (ds0:=[0,0]) (qpt (fT (ftn rfl hr.units (fln rfl T.len0 (aa (fv 1 rfl rfl) ae rfl) rfl rfl) ah) (eT (bY (a8 (xO (K:=K) (n:="ValueError") (kn:=kn0) (xs:=cg) rfl rfl T.isinstance0 rfl T.ValueError0 (by decide +kernel) t_ValueError (fv 0 rfl rfl) (by decide) rfl rfl) (fun _=>rfl)))))) rfl) (frt (fs0 aG) rfl) aK) (frt (mj (K:=K) (i:=1) rfl rfl (.inl rfl) rfl ah (fun _ _=>rfl) rfl rfl) rfl)))))))
abbrev iY:Stmt:=top 50
abbrev lP:List Str:=["_law_tongue_here", "_law_machine_here", "_law_thing", "_law_at", "_law_caught", "_law_told", "e"]
def sc_law_asked:FnScope lP ["_law_tongue_here", "_law_machine_here", "_law_thing", "_law_at"] (aj iY):=⟨rfl,rfl,rfl,by decide +kernel,rfl,by decide +kernel,by decide +kernel⟩
noncomputable def gm:MS:=(ai (al 4 (eC .none))
 (ai (al 5 (eC .none))
 (ai (jy kn0 [] 6 (sIf (tV (ac 3)) (al 5 (ak bL (ad (ac 0) (ad (ac 1) (ad (ac 2) ag))))) (al 5 (ak bP (ad (ac 0) (ad (ac 1) (ad (ac 2) ag)))))) (nIf (tV (ac 3)) (iy cO (ad (ac 0) (ad (ac 1) (ad (ac 2) ag)))) (iy cC (ad (ac 0) (ad (ac 1) (ad (ac 2) ag))))) (al 4 (ac 6)))
 (ai (sIf (tV (e2 isN (ac 4) (eC .none))) (aB (ac 5)) aZ)
 (aB (e2 aV (eC (.str "no ")) (ak bA (ad (ac 4) ag))))))))
noncomputable def bf:List D->Option (D × En):=fnF 3 [0,0,0,0] gm
def qv {k:Nat} (T:Bl mg)  (uM:Kn P w K mg base k "_law_word" ["_law_caught"] (spF K [0] 0 bA)) (mI:Kn P w K mg base k "word_at" ["tongue", "machine", "number"] (spF K [0,0,0] 3 bL)) (uK:Kn P w K mg base k "number_of" ["tongue", "machine", "word"] (spF K [0,0,0] 3 bP)) (GNword_at:KnX P w K mg base k "word_at" ["tongue", "machine", "number"] (spN K [0,0,0] (clK K) cO)) (GNnumber_of:KnX P w K mg base k "number_of" ["tongue", "machine", "word"] (spN K [0,0,0] (clK K) cC)) (H_WordError:ExcK K mg kn0 "WordError") (mh_NoNumber:mg "NoNumber"=some (.ref (clK K "NoNumber"))) (mh_NoWord:mg "NoWord"=some (.ref (clK K "NoWord"))) (th_0:tM K kn0 (.ref (clK K "NoNumber")) (.ref (clK K "NoWord")) (.ref (clK K "WordError"))=true) (F:Fun K "_law_asked" "_law_asked" iY f fd):FnOk P w K mg base CX0 (k+1) f fd ["_law_tongue_here", "_law_machine_here", "_law_thing", "_law_at"] (spF K [0,0,0,0] 0 bf):=by
 have nd:=sc_law_asked.nd;refine F.okQ (N:=lP) (b:=gm) (J:=⟨[],[0,0,0,0,0,0,0],0,[]⟩) (ds0:=[0,0,0,0,0,0,0]) sc_law_asked rfl rfl rfl rfl fun cdv A outer s H E hr=>?_;exact (af (aI 4 [0,0,0,0,0,0,0] nd (fs0 bn) rfl rfl rfl) (af (aI 5 [0,0,0,0,0,0,0] nd (fs0 bn) rfl rfl rfl) (af (xB (K:=K) (ds:=[0,0,0,0,0,0,0]) (ds':=[0,0,0,0,0,0,0]) (kn:=kn0) (kp:=[]) (j:=6) (cl:=clK K) rfl ⟨rfl,rfl,rfl⟩ (fun _=>(aw (aN (ds2:=[0,0,0,0,0,0,0]) (a8 (fv 3 rfl rfl) (fun _=>rfl)) (aw (aI 5 [0,0,0,0,0,0,0] nd (fs0 (fnn mI hr (aa (fv 0 rfl rfl) (aa (fv 1 rfl rfl) (aa (fv 2 rfl rfl) ae rfl) rfl) rfl) rfl rfl)) rfl rfl rfl)) (aw (aI 5 [0,0,0,0,0,0,0] nd (fs0 (fnn uK hr (aa (fv 0 rfl rfl) (aa (fv 1 rfl rfl) (aa (fv 2 rfl rfl) ae rfl) rfl) rfl) rfl rfl)) rfl rfl rfl))))) (fun _ _ _ _ O=>(Kk (p:=false) (a8 (fv 3 rfl rfl) (fun _=>rfl)) (qj O GNword_at hr rfl (aa (fv 0 rfl rfl) (aa (fv 1 rfl rfl) (aa (fv 2 rfl rfl) ae rfl) rfl) rfl) rfl rfl rfl rfl rfl) (qj O GNnumber_of hr rfl (aa (fv 0 rfl rfl) (aa (fv 1 rfl rfl) (aa (fv 2 rfl rfl) ae rfl) rfl) rfl) rfl rfl rfl rfl rfl))) (fun _ _=>(aw (aI 4 [0,0,0,0,0,0,0] nd (fv 6 rfl rfl) rfl rfl rfl))) (fun _ _=>(aw (aI 4 [0,0,0,0,0,0,0] nd (fv 6 rfl rfl) rfl rfl rfl))) H_WordError.cl th_0 rfl mh_NoNumber rfl rfl mh_NoWord rfl rfl H_WordError.m rfl nd rfl (.inl rfl) rfl rfl rfl (by decide) rfl rfl (by decide)) (af (aN (ds2:=[0,0,0,0,0,0,0]) (aJ m9 (fv 4 rfl rfl) bn (aR _)) (frt (fv 5 rfl rfl) rfl) aK) (frt (fs0 (am bp aG (fnn uM hr (aa (fv 4 rfl rfl) ae rfl) rfl rfl))) rfl)))))
abbrev ce:Stmt:=top 51
abbrev cJ:List Str:=["_law_pen_here", "_law_letters", "_law_word_here", "_law_at", "_law_odd", "_law_got"]
def sc_law_no_words:FnScope cJ ["_law_pen_here", "_law_letters"] (aj ce):=⟨rfl,rfl,rfl,by decide +kernel,rfl,by decide +kernel,by decide +kernel⟩
def mL:ME:=(e2 ixT (ac 2) (ak aq (aH 1 (ad (eN bd (ad (ac 2) ag)) ag))))
def ii:MT:=(tV (e2 nZ (ac 0) (ac 1)))
def io:ME:=(ac 0)
def im:ME:=(e2 aV (e2 aV (eSl rh (ac 1) gJ (gf (ac 2))) (ac 0)) (eSl rh (ac 1) (gf (ac 2)) gJ))
def ge:MS:=(ai (al 2 (eM joinD (eC (.str "")) (ad (eLC false (bG (ad (ak aq (aH 0 (ad (eC (.int 9)) ag))) ag)) (gN 0) cY mL [none,some 0,some 1]) ag)))
 (ai (al 3 (ak aq (aH 0 (ad (e2 aV (eN bd (ad (ac 2) ag)) (eC (.int 1))) ag))))
 (ai (al 4 (eLC true (be (eC (.str "aZ0~! \n"))) (gN 0) ii io [none,some 1]))
 (ai (al 5 (eLC true (be (ac 4)) (gN 0) cY im [none,some 2,some 3]))
 (aB (e2 rB (ac 5) (bg (ad (e2 n5 (eSl rh (ac 1) gJ (gf (eC (.int 1)))) (eC (.int 61))) (ad (e2 n5 (e2 ixT (ac 1) (e1 iM (eC (.int 1)))) (eC (.int 200))) (ad (eC .none) (ad (eC (.int 0)) (ad (eC (.bool true)) (ad (bg (ad (ac 2) ag)) (ad (eX (ad (ac 2) ag)) (ad (eN gL (ad (ac 2) ag)) (ad lq (ad (bg (ad (eC (.int 0)) ag)) (ad (eX ag) ag))))))))))))))))))
def cf:List D->Option (D × En):=fnF 4 [1,0] ge
def mU {k:Nat} (T:Bl mg)  (aS:Kn P w K mg base k "_law_take" ["_law_pen_here", "_law_most"] (spF K [1,0] 0 aq)) (F:Fun K "_law_no_words" "_law_no_words" ce f fd):FnOk P w K mg base CX0 (k+1) f fd ["_law_pen_here", "_law_letters"] (spF K [1,0] 1 cf):=by
 have nd:=sc_law_no_words.nd;refine F.okQ (N:=cJ) (b:=ge) (J:=⟨[0],[1,0,0,0,0,0],1,[]⟩) (ds0:=[1,0,0,0,0,0]) sc_law_no_words rfl rfl rfl rfl fun cdv A outer s H E hr=>?_;exact (af (bb (i:=2) (d:=0) (ds':=[1,0,0,0,0,0]) nd rfl (.inr rfl) (fs0 (cN (K:=K) rfl PySem.F.slot_str_join PySem.F.type_str_join (gS rfl) gX aG (aa (fs0 (rb (cd:=3) (d:=3) (dsi:=[0,1,0]) (lk:=[1,2]) (BlkOkC.of (ns:=["_law_k", "_law_pen_here", "_law_letters"]) (js:=[none,some 0,some 1]) (N0:=cJ) (sc0:=aj ce) rfl rfl (by decide +kernel)) rfl (fj rfl T.range0 (aa (fns aS hr (h9 0 (aa (fs0 ah) ae rfl) rfl) rfl rfl) ae rfl) rfl) (fun _ _ _ _ _=>(au (i:=0) (ds':=[0,1,0]) (show (["_law_k", "_law_pen_here", "_law_letters"]:List Str).Nodup by decide +kernel) rfl (.inl rfl) rfl (by decide) (by decide) (.inr rfl))) (fun _ _ _ _ _=>aX) (fun _ _ _ _ _=>(aQ jm (fvc 2 rfl rfl) (fns aS hr (h9 1 (aa (fs0 (fln rfl T.len0 (aa (fvc 2 rfl rfl) ae rfl) rfl rfl)) ae rfl) rfl) rfl rfl) (fun _ _=>rfl))) rfl rfl (by decide) rfl (fun _=>rfl))) ae rfl) rfl rfl rfl rfl rfl rfl)) rfl (by decide) (by decide) rfl (.inl rfl)) (af (bb (i:=3) (d:=0) (ds':=[1,0,0,0,0,0]) nd rfl (.inr rfl) (fns aS hr (h9 0 (aa (fs0 (am bp (fln rfl T.len0 (aa (fvc 2 rfl rfl) ae rfl) rfl rfl) ah)) ae rfl) rfl) rfl rfl) rfl (by decide) (by decide) rfl (.inl rfl)) (af (gu (ds1:=[1,0,0,0,0,0]) (eB (i:=4) (ds':=[1,0,0,0,1,0]) (cd:=0) (d:=1) (dsi:=[0,0]) (lk:=[1]) nd rfl rfl (BlkOkC.of (ns:=["_law_sign", "_law_letters"]) (js:=[none,some 1]) (N0:=cJ) (sc0:=aj ce) rfl rfl (by decide +kernel)) rfl (aU (K:=K) rfl (fs0 aG)) (fun _ _ _ _ _=>(au (i:=0) (ds':=[0,0]) (show (["_law_sign", "_law_letters"]:List Str).Nodup by decide +kernel) rfl (.inl rfl) rfl (by decide) (by decide) (.inr rfl))) (fun _ _ _ _ _=>(kz (aJ vY (fv 0 rfl rfl) (fvc 1 rfl rfl) (by with_unfolding_all rfl)))) (fun _ _ _ _ _=>(fv 0 rfl rfl)) rfl rfl rfl (by decide) rfl (by decide) (by decide) rfl (fun _=>rfl)) rfl) (af (gu (ds1:=[1,0,0,0,0,0]) (eB (i:=5) (ds':=[1,0,0,0,0,3]) (cd:=3) (d:=3) (dsi:=[0,0,0]) (lk:=[1,2]) nd rfl rfl (BlkOkC.of (ns:=["_law_sign", "_law_word_here", "_law_at"]) (js:=[none,some 2,some 3]) (N0:=cJ) (sc0:=aj ce) rfl rfl (by decide +kernel)) rfl (aU (K:=K) rfl (fv 4 rfl rfl)) (fun _ _ _ _ _=>(au (i:=0) (ds':=[0,0,0]) (show (["_law_sign", "_law_word_here", "_law_at"]:List Str).Nodup by decide +kernel) rfl (.inl rfl) rfl (by decide) (by decide) (.inr rfl))) (fun _ _ _ _ _=>aX) (fun _ _ _ _ _=>(am bp (am bp (dP qY (fvc 1 rfl rfl) fg (ff (fvc 2 rfl rfl))) (fv 0 rfl rfl)) (dP qY (fvc 1 rfl rfl) (ff (fvc 2 rfl rfl)) fg))) rfl rfl rfl (by decide) rfl (by decide) (by decide) rfl (fun _=>rfl)) rfl) (frt (am (sT (K:=K) rfl) (fv 5 rfl rfl) (bq (d:=1) (c:=0) (aa (am lj (dP qY (fvc 1 rfl rfl) fg (ff ah)) ah) (aa (am lj (aQ jm (fvc 1 rfl rfl) (jn kC ah) (fun _ _=>rfl)) ah) (aa bn (aa ah (aa cc (aa (bq (d:=1) (c:=0) (aa (fvc 2 rfl rfl) ae rfl) rfl rfl (by decide)) (aa (eV (d:=0) (c:=0) (aa (fvc 2 rfl rfl) ae rfl) rfl rfl) (aa (fct (jl (K:=K) rfl rfl) T.list0 (by decide +kernel) (aa (fvc 2 rfl rfl) ae rfl) rfl rfl) (aa pb (aa (bq (d:=3) (c:=3) (aa ah ae rfl) rfl rfl (by decide)) (aa (eV (d:=3) (c:=3) ae rfl rfl) ae rfl) rfl) rfl) rfl) rfl) rfl) rfl) rfl) rfl) rfl) rfl) rfl rfl (by decide))) rfl)))))
abbrev gi:Stmt:=top 52
abbrev i6:List Str:=["_law_pen_here", "_law_letters", "_law_got", "_law_size"]
def sc_law_words:FnScope i6 ["_law_pen_here", "_law_letters"] (aj gi):=⟨rfl,rfl,rfl,by decide +kernel,rfl,by decide +kernel,by decide +kernel⟩
def pJ:ME:=(e2 ixT (ac 2) (ak aq (aH 1 (ad (eN bd (ad (ac 2) ag)) ag))))
def gE:MS:=(bQ (bK 2 (eM joinD (eC (.str "")) (ad (eLC false (bG (ad (ac 3) ag)) (gN 0) cY pJ [none,some 0,some 1]) ag))))
def ja:MS:=(ai (al 2 (bg (ad (eC (.str "")) (ad (e2 n5 (e2 ixT (ac 1) (eC (.int 0))) (eC (.int 60))) (ad (e2 n5 (e2 ixT (ac 1) (e1 iM (eC (.int 1)))) (eC (.int 59))) ag)))))
 (ai (cF (be (eX (ad (eC (.int 1)) (ad (eC (.int 2)) (ad (eC (.int 3)) (ad (eC (.int 5)) (ad (eC (.int 8)) (ad (eC (.int 60)) (ad (eC (.int 30)) ag))))))))) (gN 3) gE)
 (aB (ac 2))))
def dy:List D->Option (D × En):=fnF 2 [1,0] ja
def qp {k:Nat} (T:Bl mg)  (aS:Kn P w K mg base k "_law_take" ["_law_pen_here", "_law_most"] (spF K [1,0] 0 aq)) (F:Fun K "_law_words" "_law_words" gi f fd):FnOk P w K mg base CX0 (k+1) f fd ["_law_pen_here", "_law_letters"] (spF K [1,0] 0 dy):=by
 have nd:=sc_law_words.nd;refine F.okQ (N:=i6) (b:=ja) (J:=⟨[0],[1,0,0,0],0,[]⟩) (ds0:=[1,0,0,0]) sc_law_words rfl rfl rfl rfl fun cdv A outer s H E hr=>?_;exact (af (aI 2 [1,0,1,0] nd (cU (d':=1) (bq (d:=3) (c:=3) (aa aG (aa (am lj (aQ jm (fvc 1 rfl rfl) ah (fun _ _=>rfl)) ah) (aa (am lj (aQ jm (fvc 1 rfl rfl) (jn kC ah) (fun _ _=>rfl)) ah) ae rfl) rfl) rfl) rfl rfl (by decide)) (by decide)) rfl rfl rfl) (af (bZ (ds1:=[1,0,1,0]) rfl (aU (K:=K) rfl (fs0 (eV (d:=3) (c:=3) (aa ah (aa ah (aa ah (aa ah (aa ah (aa ah (aa ah ae rfl) rfl) rfl) rfl) rfl) rfl) rfl) rfl rfl))) (au (i:=3) (ds':=[1,0,1,0]) nd rfl (.inl rfl) rfl (by decide) (by decide) (.inl rfl)) (aw (bS (cj (K:=K) (i:=2) (d:=1) rfl rfl (.inl rfl) rfl (fs0 (cN (K:=K) rfl PySem.F.slot_str_join PySem.F.type_str_join (gS rfl) gX aG (aa (fs0 (rb (cd:=3) (d:=3) (dsi:=[0,1,0]) (lk:=[1,2]) (BlkOkC.of (ns:=["_law_k", "_law_pen_here", "_law_letters"]) (js:=[none,some 0,some 1]) (N0:=i6) (sc0:=aj gi) rfl rfl (by decide +kernel)) rfl (fj rfl T.range0 (aa (fv 3 rfl rfl) ae rfl) rfl) (fun _ _ _ _ _=>(au (i:=0) (ds':=[0,1,0]) (show (["_law_k", "_law_pen_here", "_law_letters"]:List Str).Nodup by decide +kernel) rfl (.inl rfl) rfl (by decide) (by decide) (.inr rfl))) (fun _ _ _ _ _=>aX) (fun _ _ _ _ _=>(aQ jm (fvc 2 rfl rfl) (fns aS hr (h9 1 (aa (fs0 (fln rfl T.len0 (aa (fvc 2 rfl rfl) ae rfl) rfl rfl)) ae rfl) rfl) rfl rfl) (fun _ _=>rfl))) rfl rfl (by decide) rfl (fun _=>rfl))) ae rfl) rfl rfl rfl rfl rfl rfl)) (by decide) rfl rfl rfl rfl rfl rfl rfl rfl) rfl)) PassesOwn.never (fun _=>rfl)) (frt (fU (ds0:=[1,0,0,0]) (cT (p:=false) (i:=2) rfl (.inl rfl) rfl rfl rfl) rfl) rfl)))
abbrev iV:Stmt:=top 53
abbrev rF:List Str:=["_law_script", "_law_pen_here", "_law_signs_here", "_law_machine_here", "_law_tongue_here", "_law_letters", "_law_total", "_law_far", "_law_handed", "_law_thing", "_law_word_here", "_law_let_by"]
def sclaw:FnScope rF ["_law_script"] (aj iV):=⟨rfl,rfl,rfl,by decide +kernel,rfl,by decide +kernel,by decide +kernel⟩
noncomputable def rM:ME:=(e2 ixA (ac 0) (eC (.int 0)))
noncomputable def wA:ME:=(eN gL (ad (ac 0) ag))
noncomputable def rJ:MS:=(sIf (tV (e2 neD (ak bf (ad (ac 4) (ad (ac 8) (ad (ac 9) (ad (eC (.bool true)) ag))))) (eC (.str "no number")))) (aB (eC (.bool false))) aZ)
noncomputable def rH:MS:=(sIf (tV (e2 neD (ak bf (ad (ac 4) (ad (ac 8) (ad (ac 9) (ad (eC (.bool false)) ag))))) (eC (.str "no word")))) (aB (eC (.bool false))) aZ)
noncomputable def rL:ME:=(eM jj (ac 1) (ad (ac 0) ag))
noncomputable def rG:MS:=(ai (al 11 (ak de (ad (ac 3) (ad (eLC true (be (ac 10)) (gN 0) cY rL [none,some 5]) ag))))
 (sIf (tV (e2 eqD (e2 eqD (ak bf (ad (ac 4) (ad (ac 8) (ad (ac 10) (ad (eC (.bool false)) ag))))) (eC (.str "no fit"))) (ac 11))) (aB (eC (.bool false))) aZ))
noncomputable def yo:MS:=(ai (al 1 (ak cA (ad (ac 0) (ad (eC (.int 0)) ag))))
 (ai (al 2 (ak dA (aH 1 ag)))
 (ai (al 3 (ak cy (aH 1 (ad (ac 2) (ad (eC (.int 7)) ag)))))
 (ai (al 1 (ak cA (ad (ac 0) (ad (eC (.int 28)) ag))))
 (ai (al 4 (ak cK (aH 1 (ad (ac 2) ag))))
 (ai (al 5 (eM joinD (eC (.str "")) (ad (ac 4) ag)))
 (ai (al 6 (eN gy (ad (eLC true (be (ak dz (ad (ac 3) (ad (eC (.int 60)) ag)))) (gN 0) cY rM [none]) ag)))
 (ai (al 7 (e2 bJ (e2 ko (eC (.int 10)) (eC (.int 60))) (e2 ko (eC (.int 10)) (eC (.int 19)))))
 (ai (al 8 (eX (ad (eN gL (ad (e2 ixA (ac 3) (eC (.int 0))) ag)) (ad (eLC true (be (e2 ixA (ac 3) (eC (.int 1)))) (gN 0) cY wA [none]) ag))))
 (ai (cF (be (eX (ad (e1 iM (eC (.int 1))) (ad (e2 dY (eC (.int 0)) (ac 7)) (ad (eC (.bool true)) (ad (eC (.bool false)) (ad (eC .none) (ad (eC (.str "0")) (ad (bg (ad (eC (.int 0)) ag)) (ad (eX (ad (eC (.int 0)) ag)) (ad lq (ad (ac 6) (ad (e2 aV (ac 6) (eC (.int 1))) (ad (e2 aV (ac 6) (ac 7)) (ad (e2 bJ (eC (.int 9)) (ac 7)) ag))))))))))))))) (gN 9) rJ)
 (ai (cF (be (ak cf (aH 1 (ad (ac 5) ag)))) (gN 9) rH)
 (ai (cF (be (ak dy (aH 1 (ad (ac 5) ag)))) (gN 10) rG)
 (ai (sIf (tV (e2 gtI (ac 6) (eC (.int 0)))) (ai (al 10 (ak bL (ad (ac 4) (ad (ac 8) (ad (e2 dY (ac 6) (eC (.int 1))) ag)))))
 (sIf (tV (e2 neD (ak bf (ad (ac 4) (ad (ac 8) (ad (ac 10) (ad (eC (.bool false)) ag))))) (e2 dY (ac 6) (eC (.int 1))))) (aB (eC (.bool false))) aZ)) aZ)
 (aB (e2 eqD (ac 8) (ac 3))))))))))))))))
noncomputable def uQ:List D->Option (D × En):=fnF 11 [0] yo
def Ks {k:Nat} (T:Bl mg)  (pA:Kn P w K mg base k "_law_pen" ["_law_script", "_law_first"] (spF K [0,0] 1 cA)) (sf:Kn P w K mg base k "_law_signs" ["_law_pen_here"] (spF K [1] 0 dA)) (pI:Kn P w K mg base k "_law_machine" ["_law_pen_here", "_law_signs_here", "_law_most"] (spF K [1,0,0] 0 cy)) (rK:Kn P w K mg base k "_law_tongue" ["_law_pen_here", "_law_many"] (spF K [1,0] 0 cK)) (oJ:Kn P w K mg base k "_law_no_words" ["_law_pen_here", "_law_letters"] (spF K [1,0] 1 cf)) (sd:Kn P w K mg base k "_law_words" ["_law_pen_here", "_law_letters"] (spF K [1,0] 0 dy)) (uN:Kn P w K mg base k "_law_lets" ["_law_machine_here", "_law_row"] (spF K [0,0] 0 de)) (mI:Kn P w K mg base k "word_at" ["tongue", "machine", "number"] (spF K [0,0,0] 3 bL)) (gk:Kn P w K mg base k "_law_asked" ["_law_tongue_here", "_law_machine_here", "_law_thing", "_law_at"] (spF K [0,0,0,0] 0 bf)) (se:Kn P w K mg base k "_law_table" ["_law_machine_here", "_law_most"] (spF K [0,0] 0 dz)) (F:Fun K "law" "law" iV f fd):FnOk P w K mg base CX0 (k+1) f fd ["_law_script"] (spF K [0] 3 uQ):=by
 have nd:=sclaw.nd;refine F.okQ (N:=rF) (b:=yo) (J:=⟨[],[0,0,0,0,0,0,0,0,0,0,0,0],3,[]⟩) (ds0:=[0,0,0,0,0,0,0,0,0,0,0,0]) sclaw rfl rfl rfl rfl fun cdv A outer s H E hr=>?_;exact (af (aI 1 [0,1,0,0,0,0,0,0,0,0,0,0] nd (fnn pA hr (aa (fv 0 rfl rfl) (aa (fs0 ah) ae rfl) rfl) rfl rfl) rfl rfl rfl) (af (aI 2 [0,1,0,0,0,0,0,0,0,0,0,0] nd (fns sf hr (fsl 1 ae rfl) rfl rfl) rfl rfl rfl) (af (aI 3 [0,1,0,0,0,0,0,0,0,0,0,0] nd (fns pI hr (fsl 1 (aa (fv 2 rfl rfl) (aa (fs0 ah) ae rfl) rfl) rfl) rfl rfl) rfl rfl rfl) (af (aI 1 [0,1,0,0,0,0,0,0,0,0,0,0] nd (fnn pA hr (aa (fv 0 rfl rfl) (aa (fs0 ah) ae rfl) rfl) rfl rfl) rfl rfl rfl) (af (aI 4 [0,1,0,0,0,0,0,0,0,0,0,0] nd (fns rK hr (fsl 1 (aa (fv 2 rfl rfl) ae rfl) rfl) rfl rfl) rfl rfl rfl) (af (bb (i:=5) (d:=0) (ds':=[0,1,0,0,0,0,0,0,0,0,0,0]) nd rfl (.inr rfl) (fs0 (cN (K:=K) rfl PySem.F.slot_str_join PySem.F.type_str_join (gS rfl) gX aG (aa (fv 4 rfl rfl) ae rfl) rfl rfl rfl rfl rfl rfl)) rfl (by decide) (by decide) rfl (.inl rfl)) (af (aI 6 [0,1,0,0,0,0,0,0,0,0,0,0] nd (fs0 (fcb (kB (K:=K) rfl rfl) T.sum0 (by decide +kernel) (aa (fs0 (bV (cd:=0) (d:=1) (dsi:=[0]) (lk:=[]) (BlkOkC.of (ns:=["_law_some"]) (js:=[none]) (N0:=rF) (sc0:=aj iV) rfl rfl (by decide +kernel)) rfl (aU (K:=K) rfl (fnn se hr (aa (fv 3 rfl rfl) (aa (fs0 ah) ae rfl) rfl) rfl rfl)) (fun _ _ _ _ _=>(au (i:=0) (ds':=[0]) (show (["_law_some"]:List Str).Nodup by decide +kernel) rfl (.inl rfl) rfl (by decide) (by decide) (.inr rfl))) (fun _ _ _ _ _=>aX) (fun _ _ _ _ _=>(fxi rfl (fv 0 rfl rfl))) rfl rfl (by decide) rfl (fun _=>rfl))) ae rfl) rfl rfl)) rfl rfl rfl) (af (aI 7 [0,1,0,0,0,0,0,0,0,0,0,0] nd (fs0 (am eD (am qV ah ah) (am qV ah ah))) rfl rfl rfl) (af (aI 8 [0,1,0,0,0,0,0,0,0,0,0,0] nd (fs0 (eV (d:=2) (c:=1) (aa (fct (jl (K:=K) rfl rfl) T.list0 (by decide +kernel) (aa (fxi rfl (fv 3 rfl rfl)) ae rfl) rfl rfl) (aa (bV (cd:=1) (d:=2) (dsi:=[0]) (lk:=[]) (BlkOkC.of (ns:=["_law_row"]) (js:=[none]) (N0:=rF) (sc0:=aj iV) rfl rfl (by decide +kernel)) rfl (aU (K:=K) rfl (fxi rfl (fv 3 rfl rfl))) (fun _ _ _ _ _=>(au (i:=0) (ds':=[0]) (show (["_law_row"]:List Str).Nodup by decide +kernel) rfl (.inl rfl) rfl (by decide) (by decide) (.inr rfl))) (fun _ _ _ _ _=>aX) (fun _ _ _ _ _=>(fct (jl (K:=K) rfl rfl) T.list0 (by decide +kernel) (aa (fv 0 rfl rfl) ae rfl) rfl rfl)) rfl rfl (by decide) rfl (fun _=>rfl)) ae rfl) rfl) rfl rfl)) rfl rfl rfl) (af (bZ (ds1:=[0,1,0,0,0,0,0,0,0,0,0,0]) rfl (aU (K:=K) rfl (eV (d:=0) (c:=0) (aa (jn kC ah) (aa (am dg ah (fv 7 rfl rfl)) (aa cc (aa cc (aa bn (aa aG (aa (bq (d:=3) (c:=3) (aa ah ae rfl) rfl rfl (by decide)) (aa (eV (d:=3) (c:=3) (aa ah ae rfl) rfl rfl) (aa pb (aa (fv 6 rfl rfl) (aa (am bp (fv 6 rfl rfl) ah) (aa (am bp (fv 6 rfl rfl) (fv 7 rfl rfl)) (aa (am eD ah (fv 7 rfl rfl)) ae rfl) rfl) rfl) rfl) rfl) rfl) rfl) rfl) rfl) rfl) rfl) rfl) rfl) rfl rfl)) (au (i:=9) (ds':=[0,1,0,0,0,0,0,0,0,0,0,0]) nd rfl (.inl rfl) rfl (by decide) (by decide) (.inl rfl)) (aw (aN (ds2:=[0,1,0,0,0,0,0,0,0,0,0,0]) (ftn rfl hr.units (fnn gk hr (aa (fv 4 rfl rfl) (aa (fv 8 rfl rfl) (aa (fv 9 rfl rfl) (aa (fs0 cc) ae rfl) rfl) rfl) rfl) rfl rfl) aG) (frt cc rfl) aK)) PassesOwn.never (fun _=>rfl)) (af (bZ (ds1:=[0,1,0,0,0,0,0,0,0,0,0,0]) rfl (aU (K:=K) rfl (fs0 (fns oJ hr (fsl 1 (aa (fvc 5 rfl rfl) ae rfl) rfl) rfl rfl))) (au (i:=9) (ds':=[0,1,0,0,0,0,0,0,0,0,0,0]) nd rfl (.inl rfl) rfl (by decide) (by decide) (.inl rfl)) (aw (aN (ds2:=[0,1,0,0,0,0,0,0,0,0,0,0]) (ftn rfl hr.units (fnn gk hr (aa (fv 4 rfl rfl) (aa (fv 8 rfl rfl) (aa (fv 9 rfl rfl) (aa (fs0 cc) ae rfl) rfl) rfl) rfl) rfl rfl) aG) (frt cc rfl) aK)) PassesOwn.never (fun _=>rfl)) (af (bZ (ds1:=[0,1,0,0,0,0,0,0,0,0,0,0]) rfl (aU (K:=K) rfl (fns sd hr (fsl 1 (aa (fvc 5 rfl rfl) ae rfl) rfl) rfl rfl)) (au (i:=10) (ds':=[0,1,0,0,0,0,0,0,0,0,0,0]) nd rfl (.inl rfl) rfl (by decide) (by decide) (.inl rfl)) (af (aI 11 [0,1,0,0,0,0,0,0,0,0,0,0] nd (fnn uN hr (aa (fv 3 rfl rfl) (aa (fs0 (bV (cd:=3) (d:=3) (dsi:=[0,0]) (lk:=[1]) (BlkOkC.of (ns:=["_law_sign", "_law_letters"]) (js:=[none,some 5]) (N0:=rF) (sc0:=aj iV) rfl rfl (by decide +kernel)) rfl (aU (K:=K) rfl (fv 10 rfl rfl)) (fun _ _ _ _ _=>(au (i:=0) (ds':=[0,0]) (show (["_law_sign", "_law_letters"]:List Str).Nodup by decide +kernel) rfl (.inl rfl) rfl (by decide) (by decide) (.inr rfl))) (fun _ _ _ _ _=>aX) (fun _ _ _ _ _=>(cN (K:=K) rfl PySem.F.slot_str_index PySem.F.type_str_index qy qW (fvc 1 rfl rfl) (aa (fv 0 rfl rfl) ae rfl) rfl rfl rfl rfl rfl rfl)) rfl rfl (by decide) rfl (fun _=>rfl))) ae rfl) rfl) rfl rfl) rfl rfl rfl) (aw (aN (ds2:=[0,1,0,0,0,0,0,0,0,0,0,0]) (fte rfl hr.units (dG (pQ (K:=K) rfl hr.units) (fnn gk hr (aa (fv 4 rfl rfl) (aa (fv 8 rfl rfl) (aa (fv 10 rfl rfl) (aa (fs0 cc) ae rfl) rfl) rfl) rfl) rfl rfl) aG (aR _)) (fv 11 rfl rfl)) (frt cc rfl) aK))) PassesOwn.never (fun _=>rfl)) (af (aN (ds2:=[0,1,0,0,0,0,0,0,0,0,0,0]) (aJ uv (fv 6 rfl rfl) ah (aR _)) (af (aI 10 [0,1,0,0,0,0,0,0,0,0,0,0] nd (fs0 (fnn mI hr (aa (fv 4 rfl rfl) (aa (fv 8 rfl rfl) (aa (fs0 (am dg (fv 6 rfl rfl) ah)) ae rfl) rfl) rfl) rfl rfl)) rfl rfl rfl) (aw (aN (ds2:=[0,1,0,0,0,0,0,0,0,0,0,0]) (ftn rfl hr.units (fnn gk hr (aa (fv 4 rfl rfl) (aa (fv 8 rfl rfl) (aa (fv 10 rfl rfl) (aa (fs0 cc) ae rfl) rfl) rfl) rfl) rfl rfl) (am dg (fv 6 rfl rfl) ah)) (frt cc rfl) aK))) aK) (frt (dG (pQ (K:=K) rfl hr.units) (fv 8 rfl rfl) (fv 3 rfl rfl) (aR _)) rfl))))))))))))))
end
end W30
set_option maxHeartbeats 1000000
namespace W30
open PySem L2 Pen2 Mch
def stp (gs:List (List (Option Nat))) (t:Option Nat) (a:Nat):Option Nat:=t.bind fun s=>((gs[s]?).bind fun r=>r[a]?).join
def gne (gs:List (List (Option Nat))) (t:Option Nat) (r:List Nat):Option Nat:=r.foldl (stp gs) t
def bW (r:List Nat):D:=.list (r.map fun a:Nat=>.int a)
def rws (W:Nat):Nat->List (List Nat)
 | 0=>[[]]
 | n+1=>(rws W n).flatMap fun r=>(List.range W).map fun a=>r++[a]
def Val (S:Nat) (t:Option Nat):Prop:=∀ s,t=some s->s < S
def wt (gs:List (List (Option Nat))) (es:List Bool) (k:Nat):Option Nat->Int
 | none=>0
 | some s=>(it gs (base es) k).getD s 0
def nU {W:Nat}:∀ {n:Nat} {r:List Nat},r∈rws W n->r.length=n/\∀ a∈r,a < W
 | 0,r,h=>by
  rw [zaH.mp h];exact ⟨rfl,fun _ z=>by cases z⟩
 | n+1,r,h=>by
  obtain ⟨q,hq,h⟩:=List.mem_flatMap.mp h;obtain ⟨a,ha,rfl⟩:=zaz.mp h;obtain ⟨h1,h2⟩:=nU hq;refine ⟨by rw [zae,h1]; rfl,fun x hx=>?_⟩;rcases zax.mp hx with hx | hx
  ·exact h2 x hx
  ·rw [zaH.mp hx];exact List.mem_range.mp ha
def qX {W:Nat}:∀ rs:List (List Nat),(rs.flatMap fun r=>(List.range W).map fun a=>r++[a]).length=rs.length * W
 | []=>by simp
 | r :: rs=>by
  rw [List.flatMap_cons,zae,qX rs,zad,List.length_range,zac,Nat.succ_mul];omega
def sv {W:Nat}:∀ n,(rws W n).length=W ^ n
 | 0=>rfl
 | n+1=>by
  show ((rws W n).flatMap fun r=>(List.range W).map fun a=>r++[a]).length=_;rw [qX,sv n,Nat.pow_succ]
section
variable {S W:Nat} {es:List Bool} {gs:List (List (Option Nat))}
def qf (M:MOk S W es gs) {s a:Nat} (hs:s < S) (ha:a < W):∃ r o,gs[s]?=some r/\r[a]?=some o/\stp gs (some s) a=o/\Val S o/\fJ S W r:=by
 have h1:s < gs.length:=by rw [M.lg]; exact hs
 have hr:=M.ok _ (zaK h1);have h2:a < (gs[s]).length:=by rw [hr.1]; exact ha
 refine ⟨gs[s],(gs[s])[a],zak h1,zak h2,?_,fun j hj=>hr.2 _ (zaK h2) j hj,hr⟩;show ((gs[s]?).bind fun r=>r[a]?).join=_;rw [zak h1];show ((gs[s])[a]?).join=_;rw [zak h2];rfl
def kY (M:MOk S W es gs) {t:Option Nat} {a:Nat} (ht:Val S t) (ha:a < W):Val S (stp gs t a):=by
 cases t with
 | none=>exact fun s z=>by cases z
 | some s =>
  obtain ⟨r,o,_,_,e,v,_⟩:=qf M (ht s rfl) ha;rw [e];exact v
def dm (M:MOk S W es gs):∀ (r:List Nat) {t:Option Nat},Val S t->(∀ a∈r,a < W)->Val S (gne gs t r)
 | [],_,ht,_=>ht
 | a :: r,_,ht,h=>dm M r (kY M ht (h a zaq)) fun x hx=>h x (zaj _ hx)
end
def qc (g:List Nat->Int) (f:List Nat->List (List Nat)):∀ rs:List (List Nat),((rs.flatMap f).map g).sum=(rs.map fun r=>((f r).map g).sum).sum
 | []=>rfl
 | r :: rs=>by
  rw [List.flatMap_cons,zaC,List.sum_append,qc g f rs,zar,List.sum_cons]
def lV {v:List Int} (G:Option Nat->Int) (h0:G none=0) (h1:∀ j,G (some j)=v.getD j 0):∀ r:List (Option Nat),(r.map G).sum=((r.map goD).filterMap (kr v)).sum
 | []=>rfl
 | none :: r=>by
  rw [zar,List.sum_cons,h0,Int.zero_add];exact lV G h0 h1 r
 | some j :: r=>by
  rw [zar,List.sum_cons,h1,lV G h0 h1 r];rfl
section
variable {S W:Nat} {es:List Bool} {gs:List (List (Option Nat))}
def nR (M:MOk S W es gs) (k:Nat) {t:Option Nat} (ht:Val S t):((List.range W).map fun a=>wt gs es k (stp gs t a)).sum=wt gs es (k+1) t:=by
 cases t with
 | none =>
  have:∀ l:List Nat,(l.map fun a=>wt gs es k (stp gs none a)).sum=0:=by
   intro l
   induction l with
   | nil=>rfl
   | cons a l ih=>rw [zar,List.sum_cons,ih]; rfl
  exact this _
 | some s =>
  have hs:=ht s rfl;have h1:s < gs.length:=by rw [M.lg]; exact hs
  have hr:=M.ok _ (zaK h1);have e1:wt gs es (k+1) (some s)=rsD (it gs (base es) k) (aT gs[s]):=by
   show (gs.map fun r=>rsD (it gs (base es) k) (aT r)).getD s 0=_;rw [List.getD_eq_getElem?_getD,zao,zak h1];rfl
  have e2':((List.range W).map fun a=>wt gs es k (stp gs (some s) a))=(gs[s]).map (wt gs es k):=by
   refine List.ext_getElem (by rw [zad,List.length_range,zad,hr.1]) fun i q1 q2=>?_;have hi:i < W:=by rw [zad,List.length_range] at q1; exact q1
   rw [List.getElem_map,List.getElem_map,List.getElem_range];obtain ⟨r,o,a1,a2,a3,_,_⟩:=qf M hs hi;rw [a3];rw [zak h1] at a1;cases a1;have h2:i < (gs[s]).length:=by rw [hr.1]; exact hi
   rw [zak h2] at a2;cases a2;rfl
  rw [e1,e2'];exact lV (v:=it gs (base es) k) (wt gs es k) rfl (fun _=>rfl) gs[s]
def su (M:MOk S W es gs) {t:Option Nat} (ht:Val S t):∀ (n k:Nat),((rws W n).map fun r=>wt gs es k (gne gs t r)).sum=wt gs es (n+k) t
 | 0,k=>by
  rw [Nat.zero_add];show wt gs es k t+0=_;rw [Int.add_zero]
 | n+1,k=>by
  show (((rws W n).flatMap fun r=>(List.range W).map fun a=>r++[a]).map fun r=>wt gs es k (gne gs t r)).sum=_;rw [qc]
  have:((rws W n).map fun r=>(((List.range W).map fun a=>r++[a]).map fun r=>wt gs es k (gne gs t r)).sum)=(rws W n).map fun r=>wt gs es (k+1) (gne gs t r):=by
   refine List.map_congr_left fun r hr=>?_;rw [zaR];have e:((fun r=>wt gs es k (gne gs t r)) ∘ fun a=>r++[a])=fun a=>wt gs es k (stp gs (gne gs t r) a):=by
    funext a
    show wt gs es k ((r++[a]).foldl (stp gs) t)=_;rw [List.foldl_append];rfl
   rw [e];exact nR M k (dm M r ht (nU hr).2)
  rw [this,su M ht n (k+1)];congr 1;omega
def ra (gs:List (List (Option Nat))) (es:List Bool) (k:Nat):Option Nat->List Nat->Int
 | _,[]=>0
 | t,a :: r=>((List.range a).map fun b=>wt gs es (r.length+k) (stp gs t b)).sum+ra gs es k (stp gs t a) r
end
end W30
namespace W30
open PySem L2 Pen2 Mch Tg
def Pn (n:Nat) (t:D):Prop:=∃ ns k l,t=Pen2.penD ns k l/\0<=k/\k<=(n:Int)/\0<=l
def Pn.mono {n m:Nat} {t:D} (h:Pn n t) (e:n<=m):Pn m t:=by
 obtain ⟨ns,k,l,rfl,h1,h2,h3⟩:=h;exact ⟨ns,k,l,rfl,h1,by omega,h3⟩
def jp {p:D} {m:Int} {n:Nat} (hp:Pn n p) (hn:n<=1000000) (h3:0 < m) (h4:m < 1073741824) {Q:D × En->Prop} (h:∀ r p',0<=r->r < m->Pn (n+1) p'->Q (.int r,[some p',none])):W (aq [p,.int m]) Q:=by
 obtain ⟨ns,k,l,rfl,k0,k1,l0⟩:=hp;obtain ⟨r,k',l',e,e1,e2,e3,e4,e5⟩:=Pen2.take_ok (ns:=ns) (k:=k) (l:=l) (m:=m) k0 (by omega) l0 h3 h4;exact W.of (show aq _=_ from e) (h r _ e1 e2 ⟨ns,k',l',rfl,by omega,by omega,e5⟩)
def pool:List Nat:=li "!\"#$&'()*+,-./0123456789:;<=>?\x40[\\]^_`{|}~"++li "ABCDEFGHIJKLMNOPQRSTUVWXYZabcdefghijklmnopqrstuvwxyz"
def wS:pool.length=93:=by decide +kernel
def EA:pool.Nodup:=by decide +kernel
def Ez {n m:Nat} {left:List Nat} {p:D} {Q:List D × En->Prop} (hp:Pn n p) (hn:n<=1000) (h1:m<=12) (hl:left.length=93) (hc:left.Nodup)
  (hq:∀ (cs:List Nat) o' p' l',cs.length=m->cs.Nodup->Pn (n+12) p'->Q (cs.map s1,[o',some p',l'])):W (lcF (gN 0) cY gb (jz 0 m) [] [none,some p,some (.list (left.map s1))]) Q:=by
 refine yh (fun i us en=>∃ (cs lf:List Nat) (o:Option D) (p:D),us=cs.map s1/\en=[o,some p,some (.list (lf.map s1))]/\cs.length=i/\lf.length+i=93/\(cs++lf).Perm left/\Pn (n+i) p) (by rw [je]; exact sz (by omega)) ⟨[],left,none,p,rfl,rfl,rfl,hl,List.Perm.refl _,hp⟩ ?_ ?_
 ·rintro i t us en ht hu ⟨cs,lf,o,p,rfl,rfl,g1,g2,g3,hp⟩;obtain ⟨hi,rfl⟩:=nV ht;simp only [ws,gb];refine jp hp (by omega) (by omega) (by omega) fun r p' r0 r1 hp'=>?_;obtain ⟨k,rfl⟩:=zaM r0;have hk:k < lf.length:=by omega
  simp only [ws,K9 hk];refine ⟨by omega,cs++[lf[k]],lf.eraseIdx k,_,p',by rw [zaC]; rfl,rfl,by rw [zae,g1]; rfl,by rw [List.length_eraseIdx_of_lt hk]; omega,?_,hp'⟩;rw [List.append_assoc];exact (List.Perm.append_left cs (nk lf k hk)).trans g3
 ·rintro us en hu ⟨cs,lf,o,p,rfl,rfl,g1,g2,g3,hp⟩;rw [je] at g1 g2 hp;exact hq cs o p _ g1 (List.nodup_append.mp (g3.nodup_iff.mpr hc)).1 (hp.mono (by omega))
def D0:∀ cs:List Nat,aM (cs.map s1)=true/\bw (cs.map s1)=0
 | []=>⟨rfl,rfl⟩
 | c :: cs=>by
  obtain ⟨h1,h2⟩:=D0 cs;refine ⟨?_,?_⟩
  ·rw [zar]; simp only [aM,aA,h1]; rfl
  ·rw [zar]; simp only [bw,dC,h2]; rfl
def Ku (cs:List Nat):neD (.list (cs.map s1)) (.list [])=some (.bool (!decide (cs=[]))):=by
 obtain ⟨h1,h2⟩:=D0 cs;show grd _ _=_;unfold grd;rw [if_pos ⟨by simp only [aA]; exact h1,rfl,by simp only [dC,h2]; decide⟩];cases cs with
 | nil=>rfl
 | cons c cs=>rfl
structure TX (m:Nat) (ks:List Str):Prop where
 n4:ks.length<=4
 l:(az ks).length=m
 m12:m<=12
 nd:(az ks).Nodup
def xk {n m:Nat} {cs:List Nat} {p:D} {x1 x2 x5:Option D} (hp:Pn n p) (hn:n<=1000) (hm:cs.length=m) (h1:1<=m) (h12:m<=12) (hc:cs.Nodup) {Q:Fl->Prop}
  (h:∀ ks p' o3 o5,TX m ks->Pn (n+12) p'->Q (.nx [some p',x1,x2,o3,some (.list (ks.map .str)),o5])) :
  W (bt dS fX [some p,x1,x2,some (.list (cs.map s1)),some (.list []),x5]) Q:=by
 refine lw (fun d en=>∃ p' left ks o5,en=[some p',x1,x2,some (.list (left.map s1)),some (.list (ks.map .str)),o5]/\left.length=d/\(az ks).length+left.length=m/\left.length+6 * ks.length<=24/\ks.length<=4/\Pn (n+ks.length) p'/\az ks++left=cs) (fun d en ⟨p',left,ks,o5,e,g1,g2,g3,g4,g5,g6⟩=>?_) (n:=cs.length) ⟨p,cs,[],x5,rfl,rfl,by simp [az,hm],by simp; omega,by simp,hp,by simp [az]⟩;subst e;have e0:=Ku left;by_cases hl:left=[]
 ·have q:decide (left=[])=true:=zaB hl;simp only [ws,dS,e0,q];have l0:left.length=0:=by rw [hl]; rfl
  rw [hl,List.append_nil] at g6;exact h ks p' _ _ ⟨g4,by omega,h12,by rw [g6]; exact hc⟩ (g5.mono (by omega))
 ·have q:decide (left=[])=false:=zaA hl;have lp:0 < left.length:=List.length_pos_iff.mpr hl;simp only [ws,dS,e0,q,fX];obtain ⟨mo,hmo⟩:∃ mo:Int,(if (left.length:Int) < 6 then (left.length:Int) else 6)=mo:=⟨_,rfl⟩;have hm':1<=mo/\mo<=left.length/\mo<=6:=by rw [<- hmo]; split <;> omega
  rw [hmo];refine jp g5 (by omega) (by omega) (by omega) fun r p1 r0 r1 hp1=>?_;simp only [ws,gt_iff_lt];refine ⟨.inl (by decide),?_⟩;obtain ⟨z,hz⟩:∃ z:Nat,(if 1+r < (left.length:Int) - 6 * (3 - (ks.length:Int)) then (left.length:Int) - 6 * (3 - (ks.length:Int)) else 1+r)=(z:Int)/\1<=z/\z<=left.length/\(left.length:Int) - 6 * (3 - (ks.length:Int))<=z:=by
   split
   ·exact ⟨((left.length:Int) - 6 * (3 - (ks.length:Int))).toNat,by omega,by omega,by omega,by omega⟩
   ·exact ⟨(1+r).toNat,by omega,by omega,by omega,by omega⟩
  obtain ⟨hz,z1,zl,z3⟩:=hz;have st:left.take z++left.drop z=left:=List.take_append_drop z left;have tl:(left.take z).length=z:=by rw [zaE]; omega
  have dl:(left.drop z).length=left.length - z:=zaF;simp only [ws,hz,jO,uE,<- List.map_take,<- List.map_drop,lh (cs:=left.take z) (by omega)];refine ⟨szl (by omega),(left.drop z).length,by omega,p1,left.drop z,ks++[ofL (left.take z)],_,by rw [zaC]; rfl,rfl,?_,?_,?_,hp1.mono (by rw [zae]; show _<=n+(_+1); omega),?_⟩
  ·rw [pp,mX,zae,tl,dl];omega
  ·rw [zae,dl];show _+6 * (_+1)<=24;omega
  ·rw [zae];show _+1<=4;omega
  ·rw [pp,mX,List.append_assoc,st,g6]
def u3 {p:D} {n m:Nat} (hp:Pn n p) (hn:n<=900) (h1:1<=m) (h12:m<=12):W (cK [p,.int (m:Nat)]) (fun r=>∃ ks p',r=(tD ks,[some p',none])/\TX m ks/\Pn (n+24) p'):=by
 have e1:=kw (z:="!\"#$&'()*+,-./0123456789:;<=>?\x40[\\]^_`{|}~") (by decide +kernel);have e2:=kw (z:="ABCDEFGHIJKLMNOPQRSTUVWXYZabcdefghijklmnopqrstuvwxyz") (by decide +kernel);have ep:(li "!\"#$&'()*+,-./0123456789:;<=>?\x40[\\]^_`{|}~").map s1++(li "ABCDEFGHIJKLMNOPQRSTUVWXYZabcdefghijklmnopqrstuvwxyz").map s1=pool.map s1:=by rw [<- zaC]; rfl
 simp only [cK,iq,ws,e1,e2,ep,zaL];refine ⟨sz (by decide +kernel),by omega,Ez hp (by omega) h12 wS EA fun cs o' p' l' hl hc hp'=>?_⟩;simp only [ws];refine xk hp' (by omega) hl h1 h12 hc fun ks p2 o3 o5 hT hp2=>?_;simp only [ws];exact ⟨ks,p2,rfl,hT,hp2.mono (by omega)⟩
section
variable {m:Nat} {ks:List Str}
def pd {α:Type} (f:α->Bool):∀ l:List α,gZ (l.map fun a=>.bool (f a))=some (l.map f)
 | []=>rfl
 | a :: l=>by
  show (gZ (l.map fun a=>.bool (f a))).map (f a :: ·)=_;rw [pd f l];rfl
def all_map {α:Type} (f:α->Bool) (l:List α):oC [.list (l.map fun a=>.bool (f a))]=some (.bool (l.all f)):=by
 show (gZ _).map _=_;rw [pd];show some (PyData.bool ((l.map f).all id))=_;rw [List.all_map];rfl
def sN (T:TX m ks):joinD "" [tD ks]=some (.str (sgs ks)):=(oV (by have:=T.l; have:=T.m12; omega) (by have:=T.n4; omega)).1
def mS (T:TX m ks):W (b8 [tD ks]) (fun r=>r=(.str (sgs ks),[none])):=by
 simp only [b8,kW,ws,sN T]
def spl (ks:List Str) (r:List Nat):List Nat:=r.map fun n=>(az ks).getD n 0
def jc (T:TX m ks) {r:List Nat} (hr:∀ a∈r,a < m):∀ c∈spl ks r,c∈az ks:=fun c hc=>by
 obtain ⟨a,ha,rfl⟩:=zaz.mp hc;have h:=hr a ha;rw [<- T.l] at h;rw [List.getD_eq_getElem?_getD,zak h];exact zaK h
def k8 (T:TX m ks):∀ {r:List Nat},(∀ a∈r,a < m)->((spl ks r).map fun c=>(az ks).idxOf c)=r
 | [],_=>rfl
 | a :: r,hr=>by
  have h:=hr a zaq;rw [<- T.l] at h;show (az ks).idxOf ((az ks).getD a 0) :: ((spl ks r).map fun c=>(az ks).idxOf c)=_;rw [k8 T fun x hx=>hr x (zaj _ hx),List.getD_eq_getElem?_getD,zak h];show (az ks).idxOf (az ks)[a] :: r=_;rw [T.nd.idxOf_getElem]
def wJ (T:TX m ks) {r:List Nat} (hr:∀ a∈r,a < m) (hl:r.length<=60) {Q:List D × En->Prop} (hq:∀ o,Q ((spl ks r).map s1,o :: [some (.str (sgs ks))])) :
  W (lcF (gN 0) cY (e2 ixT (ac 1) (ac 0)) (r.map fun a:Nat=>.int a) [] [none,some (.str (sgs ks))]) Q:=by
 let F:D->D:=fun t=>match t with
  | .int n=>s1 ((az ks).getD n.toNat 0)
  | _=>.none
 refine dL F (by rw [zad]; exact sz (by omega)) (fun t ht=>?_) fun o'=>?_
 ·obtain ⟨a,ha,rfl⟩:=zaz.mp ht;have h:=hr a ha;rw [<- T.l] at h;have lz:(sgs ks).length=(az ks).length:=fc _;have e:atI (li (sgs ks)) (a:Int)=some ((az ks).getD a 0):=by
   rw [aY];show (az ks)[a]?=_;rw [List.getD_eq_getElem?_getD,zak h];rfl
  simp only [ws,e]
  have:=T.l; have:=T.m12;exact ⟨sz (by omega),rfl⟩
 ·have em:(r.map fun a:Nat=>PyData.int a).map F=(spl ks r).map s1:=by
   unfold spl;rw [zaR,zaR];rfl
  rw [em];exact hq o'
def oX (T:TX m ks) {cs:List Nat} (hz:cs.length<=60) (hm:∀ c∈cs,c∈az ks):W (bz [tD ks,.str (ofL cs)]) (fun r=>r=(.bool true,[none,none])):=by
 have hl0:(ofL cs).length=cs.length:=fc cs;have h1:¬ (60:Int) < ((ofL cs).length:Nat):=by omega
 simp only [bz,gc,ws,h1];refine ⟨sz (by omega),?_⟩;refine W.use (mS T) ?_;rintro _ rfl;simp only [ws];have hl:(bF (ofL cs)).length=cs.length:=by unfold bF; rw [zad]; rfl
 refine dL (fun _=>.bool true) (by rw [hl]; exact sz (by omega)) (fun t ht=>?_) fun o'=>?_
 ·obtain ⟨c,hc,rfl⟩:=zaz.mp ht;have e:ci (sgs ks) (mk1 c)=true:=(StrLaws.found_one (sgs ks) c).trans (zaB (hm c hc));simp only [j4,ws,e]
 ·have e:=all_map (fun _:D=>true) (bF (ofL cs));simp only [ws,e];simp
def mT (T:TX m ks) {cs:List Nat} (hw:∀ c∈cs,c∈az ks) (hl:cs.length<=60):W (dU [tD ks,.str (ofL cs)]) (fun r=>r=(bW (cs.map fun c=>(az ks).idxOf c),[none,none])):=by
 let F:D->D:=fun t=>match t with
  | .str z=>.int (((az ks).idxOf ((li z).headD 0):Nat):Int)
  | _=>.none
 simp only [dU,oK,ws];refine W.use (mS T) ?_;rintro _ rfl;simp only [ws];have hl:(bF (ofL cs)).length=cs.length:=by unfold bF; rw [zad]; rfl
 refine dL F (by rw [hl]; exact sz (by omega)) (fun t ht=>?_) fun o'=>?_
 ·obtain ⟨c,hc,rfl⟩:=zaz.mp ht;obtain ⟨rest,hr⟩:=oY (z:=sgs ks) (c:=c) T.nd (hw c hc);have e:jj (sgs ks) [.str (mk1 c)]=some (.int (((az ks).idxOf c:Nat):Int)):=by
   show (match Builtin.Str.occurrences (sgs ks) (mk1 c) 0 (sgs ks).length 1 with
    | i :: _=>some (PyData.int (i:Nat))
    | []=>none)=_
   rw [hr];rfl
  simp only [pB,ws,e];rfl
 ·simp only [ws];show (PyData.list _,_)=_;have em:(bF (ofL cs)).map F=(cs.map fun c=>(az ks).idxOf c).map fun a:Nat=>.int a:=by
   unfold bF;rw [zaR,zaR];rfl
  rw [em];rfl
def uU (T:TX m ks) {r:List Nat} (hr:∀ a∈r,a < m) (hl:r.length<=60):W (e8 [tD ks,bW r]) (fun q=>q=(.str (ofL (spl ks r)),[none,none])):=by
 have ls:(spl ks r).length=r.length:=zad _;simp only [e8,mM,ws];refine W.use (mS T) ?_;rintro _ rfl;simp only [ws,bW,nL];refine wJ T hr hl fun o=>?_;simp only [ws,lh (cs:=spl ks r) (by omega)]
end
section
variable {S W0:Nat} {es:List Bool} {gs:List (List (Option Nat))}
def nz (M:MOk S W0 es gs) {s a:Nat} (hs:s < S) (ha:a < W0):∃ (rr:List (Option Nat)) (o:Option Nat),atI (gs.map aT) (s:Int)=some (.list (rr.map goD))/\atI (rr.map goD) (a:Int)=some (goD o)/\stp gs (some s) a=o/\Val S o:=by
 obtain ⟨rr,o,h1,h2,h3,h4,_⟩:=qf M hs ha;refine ⟨rr,o,?_,?_,h3,h4⟩
 ·rw [aY,zao,h1];rfl
 ·rw [aY,zao,h2];rfl
def dF (es:List Bool):Option Nat->Bool
 | none=>false
 | some j=>es.getD j false
def wq (M:MOk S W0 es gs) {s:Nat} (hs:s < S):atI (es.map PyData.bool) (s:Int)=some (.bool (es.getD s false)):=by
 have h1:s < es.length:=by rw [M.le]; exact hs
 rw [aY,zao,zak h1,List.getD_eq_getElem?_getD,zak h1];rfl
def nO (M:MOk S W0 es gs) {t:Option Nat} (ht:Val S t):wt gs es 0 t=if dF es t then 1 else 0:=by
 cases t with
 | none=>rfl
 | some j =>
  have h1:j < es.length:=by rw [M.le]; exact ht j rfl
  show (es.map _).getD j 0=if es.getD j false=true then 1 else 0
  rw [List.getD_eq_getElem?_getD,zao,zak h1,List.getD_eq_getElem?_getD,zak h1];rfl
def jF (t:Option Nat) (q:List Nat) (a:Nat):gne gs t (q++[a])=stp gs (gne gs t q) a:=by
 show (q++[a]).foldl (stp gs) t=_;rw [List.foldl_append];rfl
def mi:∀ r:List Nat,gne gs none r=none
 | []=>rfl
 | a :: r=>mi r
def lX {r:List Nat} {i:Nat} {t:D} (h:(r.map fun a:Nat=>PyData.int a)[i]?=some t):∃ a,r[i]?=some a/\t=.int (a:Nat):=by
 rw [zao] at h;obtain ⟨a,h1,h2⟩:=zab.mp h;exact ⟨a,h1,h2.symm⟩
def IJ (M:MOk S W0 es gs) {t:Option Nat} (ht:Val S t) {a:Nat} (ha:a < W0):W (mK [ao es gs,goD t,.int (a:Nat)]) (fun r=>r=(goD (stp gs t a),[none,none,none])):=by
 cases t with
 | none=>simp only [mK,uS,ws,goD]; rfl
 | some s =>
  obtain ⟨rr,o,h1,h2,h3,h4⟩:=nz M (ht s rfl) ha;rw [h3];simp only [mK,uS,ws,goD,ao,h1,h2]
def iI (M:MOk S W0 es gs):Val S (some 0):=fun s e=>by cases e; exact M.s1
def EV (M:MOk S W0 es gs) {r:List Nat} (hr:∀ a∈r,a < W0):W (lB [ao es gs,.int 0,bW r]) (fun q=>q=(goD (gne gs (some 0) r),[none,none,none])):=by
 simp only [lB,uT,ws,bW];refine ly (fun i en=>∃ o,en=[some (ao es gs),some (.int 0),some (bW r),some (goD (gne gs (some 0) (r.take i))),o]) ⟨none,rfl⟩ (fun i t en ht ⟨o,e⟩=>?_) fun en ⟨o,e⟩=>?_
 ·subst e;obtain ⟨a,h1,rfl⟩:=lX ht;simp only [ws,tm];refine W.use (IJ M (dm M _ (iI M) fun x hx=>hr x (List.mem_of_mem_take hx)) (hr a (zaX h1))) ?_;rintro _ rfl;simp only [ws];rw [gn h1,jF];exact ⟨_,rfl⟩
 ·subst e;simp only [ws];rw [zaQ]
def xv (M:MOk S W0 es gs) {t:Option Nat} (ht:Val S t):W (fZ [ao es gs,goD t]) (fun r=>r=(.bool (dF es t),[none,none])):=by
 cases t with
 | none=>simp only [fZ,lC,ws,goD]; rfl
 | some s=>simp only [fZ,lC,ws,goD,ao,wq M (ht s rfl),dF]
def sJ (M:MOk S W0 es gs) {r:List Nat} (hr:∀ a∈r,a < W0):W (gP [ao es gs,bW r]) (fun q=>q=(.bool (dF es (gne gs (some 0) r)),[none,none])):=by
 simp only [gP,uR,ws];refine W.use (EV M hr) ?_;rintro _ rfl;simp only [ws];refine W.use (xv M (dm M _ (iI M) hr)) ?_;rintro _ rfl;simp only [ws]
def xf (M:MOk S W0 es gs) {r:List Nat} (hr:∀ a∈r,a < W0):W (dW [ao es gs,.int 0,bW r]) (fun q=>q=(goD (gne gs (some 0) r),[none,none,none])):=by
 simp only [dW,j8,ws,bW];refine ly (fun i en=>∃ o,en=[some (ao es gs),some (goD (gne gs (some 0) (r.take i))),some (bW r),o]) ⟨none,rfl⟩ (fun i t en ht ⟨o,e⟩=>?_) fun en ⟨o,e⟩=>?_
 ·subst e;obtain ⟨a,h1,rfl⟩:=lX ht;have hv:=dm M (r.take i) (iI M) fun x hx=>hr x (List.mem_of_mem_take hx);have hs:gne gs (some 0) (r.take (i+1))=stp gs (gne gs (some 0) (r.take i)) a:=by rw [gn h1,jF]
  generalize gne gs (some 0) (r.take i)=t at hv hs;rw [hs];cases t with
  | none=>simp only [ws,ik,goD]; exact ⟨_,rfl⟩
  | some s =>
   obtain ⟨rr,o,g1,g2,g3,g4⟩:=nz M (hv s rfl) (hr a (zaX h1));rw [g3];simp only [ws,ik,goD,ao,g1,g2];exact ⟨_,rfl⟩
 ·subst e;simp only [ws];rw [zaQ]
def xc (M:MOk S W0 es gs) {r:List Nat} (hr:∀ a∈r,a < W0):W (de [ao es gs,bW r]) (fun q=>q=(.bool (dF es (gne gs (some 0) r)),[none,none])):=by
 simp only [de,j7,ws];refine W.use (xf M hr) ?_;rintro _ rfl;simp only [ws];have hv:=dm M r (iI M) hr;generalize gne gs (some 0) r=t at hv;cases t with
 | none=>simp only [ws,goD]; rfl
 | some s=>simp only [ws,goD,ao,wq M (hv s rfl),dF]
def km (M:MOk S W0 es gs) {s a k:Nat} (hs:s < S) (ha:a < W0):W (cD [ao es gs,.int (s:Nat),.int (a:Nat),ax (it gs (base es) k)]) (fun r=>r=(.int (wt gs es k (stp gs (some s) a)),[none,none,none,none])):=by
 obtain ⟨rr,o,g1,g2,g3,g4⟩:=nz M hs ha;rw [g3];cases o with
 | none =>
  simp only [cD,j6,ws,ao,g1,g2,goD];rfl
 | some j =>
  have e:atI ((it gs (base es) k).map PyData.int) (j:Int)=some (.int ((it gs (base es) k).getD j 0)):=ji (by rw [M.lit]; exact g4 j rfl);simp only [cD,j6,ws,ao,g1,g2,goD,ax,e];rfl
def sQ:∀ v:List Int,fA (v.map PyData.int)=some v
 | []=>rfl
 | x :: v=>by
  show (fA (v.map PyData.int)).map (x :: ·)=_;rw [sQ v];rfl
def p9 (v:List Int):gy [.list (v.map PyData.int)]=some (.int v.sum):=by
 show (fA _).map _=_;rw [sQ];rfl
def wu (M:MOk S W0 es gs) {r:List Nat} (hr:∀ a∈r,a < W0) (hl:r.length<=60) (hf:gne gs (some 0) r≠none):W (cE [ao es gs,bu gs es r.length,bW r]) (fun q=>q=(.int (ra gs es 0 (some 0) r),[none,none,none])):=by
 simp only [cE,i9,ws,bW];refine ly (fun i en=>∃ (c:Int) (s:Nat) (o5 o6 o7:Option D),en=[some (ao es gs),some (bu gs es r.length),some (bW r),some (.int c),some (.int (s:Nat)),o5,o6,o7]/\gne gs (some 0) (r.take i)=some s/\c+ra gs es 0 (some s) (r.drop i)=ra gs es 0 (some 0) r) ⟨0,0,none,none,none,rfl,rfl,by rw [List.drop_zero,Int.zero_add]⟩ (fun i t en ht ⟨c,s,o5,o6,o7,e,g1,g2⟩=>?_) fun en ⟨c,s,o5,o6,o7,e,g1,g2⟩=>?_
 ·subst e;obtain ⟨t,ht2,rfl⟩:=iG ht;obtain ⟨a,h1,rfl⟩:=lX ht2;obtain ⟨hi,ea⟩:=zah.mp h1;have ha:a < W0:=hr a (zaX h1);have hs:s < S:=dm M (r.take i) (iI M) (fun x hx=>hr x (List.mem_of_mem_take hx)) s g1;have ed:r.drop i=a :: r.drop (i+1):=by rw [List.drop_eq_getElem_cons hi,ea]
  have dl:(r.drop (i+1)).length=r.length - i - 1:=by rw [zaF]; omega
  have en:((r.length:Int) - (i:Nat) - 1)=((r.length - i - 1:Nat):Int):=by omega
  have e7:atI ((List.range (r.length+1)).map fun i=>ax (it gs (base es) i)) ((r.length - i - 1:Nat):Int)=some (ax (it gs (base es) (r.length - i - 1))):=u4 (n:=r.length) (by omega);obtain ⟨rr,o,q1,q2,q3,q4⟩:=nz M hs ha;have ne:stp gs (some s) a≠none:=fun z=>hf (by
   have e1:r=r.take i++a :: r.drop (i+1):=by rw [<- ed,List.take_append_drop]
   have e2:gne gs (some 0) r=gne gs (stp gs (gne gs (some 0) (r.take i)) a) (r.drop (i+1)):=by
    conv=>lhs; rw [e1]
    show (r.take i++a :: r.drop (i+1)).foldl (stp gs) (some 0)=_;rw [List.foldl_append];rfl
   rw [e2,g1,z,mi])
  simp only [ws,kd,bW,bu,zad,en,e7,zaL];have w2:=M.w2;refine ⟨by omega,dL (fun t=>match t with
   | .int b=>.int (wt gs es (r.length - i - 1) (stp gs (some s) b.toNat))
   | _=>.none) (by rw [je]; exact sz (by have:=M.w2; omega)) (fun t ht=>?_) fun o'=>?_⟩
  ·obtain ⟨j,hj,ej⟩:=List.mem_iff_getElem.mp ht;obtain ⟨b1,rfl⟩:=nV (zah.mpr ⟨hj,ej⟩);simp only [ws,kf,Int.zero_add];refine W.use (km M hs (a:=j) (by omega)) ?_;rintro _ rfl;simp only [ws];rfl
  ·have em:(jz 0 a).map (fun t=>match t with
     | PyData.int b=>PyData.int (wt gs es (r.length - i - 1) (stp gs (some s) b.toNat))
     | _=>.none)=((List.range a).map fun b=>wt gs es (r.length - i - 1) (stp gs (some s) b)).map PyData.int:=by
    unfold jz;rw [zaR,zaR];refine List.map_congr_left fun b _=>?_;show PyData.int (wt gs es _ (stp gs (some s) (0+(b:Int)).toNat))=_;rw [Int.zero_add,zaL];rfl
   rw [em];simp only [ws,p9,ao,q1,q2];rw [q3] at ne;cases o with
   | none=>exact absurd rfl ne
   | some j =>
    refine ⟨_,j,_,_,_,rfl,by rw [gn h1,jF,g1,q3],?_⟩;rw [<- g2,ed];show _=c+(((List.range a).map fun b=>wt gs es ((r.drop (i+1)).length+0) (stp gs (some s) b)).sum+ra gs es 0 (stp gs (some s) a) (r.drop (i+1)));rw [q3,dl,Int.add_assoc];rfl
 ·subst e;rw [iF,zad,List.drop_length] at g2;simp only [ws];rw [<- g2];show _=(PyData.int (c+0),_);rw [Int.add_zero]
end
section
variable {S W0:Nat} {es:List Bool} {gs:List (List (Option Nat))} {ks:List Str}
def pL (M:MOk S W0 es gs) (k:Nat) (t:Option Nat):0<=wt gs es k t:=by
 cases t with
 | none=>exact Int.le_refl 0
 | some s =>
  show 0<=(it gs (base es) k).getD s 0;rw [List.getD_eq_getElem?_getD];cases h:(it gs (base es) k)[s]? with
  | none=>exact Int.le_refl 0
  | some x=>exact (M.itB k x (zaX h)).1
def ki {f:Nat->Int} (h:∀ b,0<=f b):∀ l:List Nat,0<=(l.map f).sum
 | []=>Int.le_refl 0
 | a :: l=>by
  rw [zar,List.sum_cons]
  have:=ki h l
  have:=h a;omega
def Sg (f:Nat->Int) (j:Nat):Int:=((List.range j).map f).sum
def dw (f:Nat->Int) (j:Nat):Sg f (j+1)=Sg f j+f j:=by
 unfold Sg;rw [List.range_succ,zaC,List.sum_append];show _+(f j+0)=_;rw [Int.add_zero]
def jq {f:Nat->Int} (h:∀ b,0<=f b) {i:Nat}:∀ {j:Nat},i<=j->Sg f i<=Sg f j
 | 0,hj=>by rw [show i=0 by omega]; exact Int.le_refl _
 | j+1,hj=>by
  by_cases e:i=j+1
  ·rw [e]; exact Int.le_refl _
  ·have:=jq h (i:=i) (j:=j) (by omega)
   have:=h j;rw [dw];omega
def tP (M:MOk S W0 es gs):∀ (r:List Nat) (t:Option Nat),0<=ra gs es 0 t r
 | [],_=>Int.le_refl 0
 | a :: r,t=>by
  have h1:=ki (f:=fun b=>wt gs es (r.length+0) (stp gs t b)) (fun b=>pL M _ _) (List.range a);have h2:=tP M r (stp gs t a);show 0<=((List.range a).map fun b=>wt gs es (r.length+0) (stp gs t b)).sum+ra gs es 0 (stp gs t a) r;omega
def DS (M:MOk S W0 es gs):∀ (r:List Nat) (t:Option Nat),Val S t->(∀ a∈r,a < W0)->ra gs es 0 t r+wt gs es 0 (gne gs t r)<=wt gs es r.length t
 | [],t,_,_=>by show 0+wt gs es 0 t<=_; rw [Int.zero_add]; exact Int.le_refl _
 | a :: r,t,ht,hr=>by
  have ha:=hr a zaq;have ih:=DS M r (stp gs t a) (kY M ht ha) fun x hx=>hr x (zaj _ hx);have e:=nR M r.length ht;have m:=jq (f:=fun b=>wt gs es r.length (stp gs t b)) (fun b=>pL M _ _) (i:=a+1) (j:=W0) (by omega);rw [dw] at m;have e':Sg (fun b=>wt gs es r.length (stp gs t b)) W0=wt gs es (r.length+1) t:=e;show Sg (fun b=>wt gs es r.length (stp gs t b)) a+ra gs es 0 (stp gs t a) r+wt gs es 0 (gne gs (stp gs t a) r)<=wt gs es (r.length+1) t;omega
def Fq {t:Option Nat} (h:dF es t=true):t≠none:=fun z=>by rw [z] at h; cases h
def DR (M:MOk S W0 es gs) {r:List Nat} {t:Option Nat} (ht:Val S t) (hr:∀ a∈r,a < W0) (hf:dF es (gne gs t r)=true):ra gs es 0 t r < wt gs es r.length t:=by
 have h:=DS M r t ht hr;rw [nO M (dm M r ht hr),hf] at h
 have:(if true=true then (1:Int) else 0)=1:=rfl;omega
def Eo (M:MOk S W0 es gs) {s a k:Nat} (hs:s < S) (ha:a < W0) {L:Int} (l0:0<=L) (l1:L < wt gs es k (stp gs (some s) a)) {x1 x2 x3 x4:Option D} {Q:Fl->Prop}
  (h:Q (.nx [some (ao es gs),x1,x2,x3,x4,some (.int (s:Nat)),some (.int L),some (ax (it gs (base es) k)),some (.int (a:Nat))])) :
  W (bt kL kR [some (ao es gs),x1,x2,x3,x4,some (.int (s:Nat)),some (.int (Sg (fun b=>wt gs es k (stp gs (some s) b)) a+L)),some (ax (it gs (base es) k)),some (.int 0)]) Q:=by
 have nn:∀ b,0<=wt gs es k (stp gs (some s) b):=fun b=>pL M _ _;refine lw (fun d en=>∃ j:Nat,j<=a/\a - j=d/\en=[some (ao es gs),x1,x2,x3,x4,some (.int (s:Nat)),some (.int (Sg (fun b=>wt gs es k (stp gs (some s) b)) a - Sg (fun b=>wt gs es k (stp gs (some s) b)) j+L)),some (ax (it gs (base es) k)),some (.int (j:Nat))]) (fun d en ⟨j,j1,j2,e⟩=>?_) (n:=a) ⟨0,Nat.zero_le _,rfl,by show _=[_,_,_,_,_,_,some (PyData.int (_ - 0+L)),_,_]; rw [Int.sub_zero]; rfl⟩;subst e;simp only [ws,kL];refine W.use (km M hs (a:=j) (by omega)) ?_;rintro _ rfl;by_cases hj:j=a
 ·subst hj;have q:¬ (Sg (fun b=>wt gs es k (stp gs (some s) b)) j - Sg (fun b=>wt gs es k (stp gs (some s) b)) j+L >= wt gs es k (stp gs (some s) j)):=by omega
  simp only [ws,ge_iff_le] at q ⊢;simp only [ws,q];rw [Int.sub_self,Int.zero_add];exact h
 ·have m:=jq (f:=fun b=>wt gs es k (stp gs (some s) b)) nn (i:=j+1) (j:=a) (by omega);rw [dw] at m;have q:Sg (fun b=>wt gs es k (stp gs (some s) b)) a - Sg (fun b=>wt gs es k (stp gs (some s) b)) j+L >= wt gs es k (stp gs (some s) j):=by
   have m':Sg (fun b=>wt gs es k (stp gs (some s) b)) j+wt gs es k (stp gs (some s) j)<=Sg (fun b=>wt gs es k (stp gs (some s) b)) a:=m;omega
  simp only [ws,ge_iff_le] at q ⊢;simp only [ws,q,kR];refine W.use (km M hs (a:=j) (by omega)) ?_;rintro _ rfl;simp only [ws];refine ⟨a - (j+1),by omega,j+1,by omega,rfl,?_⟩;rw [dw];congr 7
  ·congr 2;omega
def wN (M:MOk S W0 es gs) {r:List Nat} (hr:∀ a∈r,a < W0) (hl:r.length<=60) (hf:dF es (gne gs (some 0) r)=true):W (fY [ao es gs,bu gs es 60,.int (r.length:Nat),.int (ra gs es 0 (some 0) r)]) (fun q=>q=(bW r,[none,none,none,none])):=by
 simp only [fY,oM,ws];refine lw (fun d en=>∃ (i s:Nat) (o7 o8:Option D),r.length - i=d/\i<=r.length/\gne gs (some 0) (r.take i)=some s/\en=[some (ao es gs),some (bu gs es 60),some (.int (r.length:Nat)),some (.int (ra gs es 0 (some 0) r)),some (bW (r.take i)),some (.int (s:Nat)),some (.int (ra gs es 0 (some s) (r.drop i))),o7,o8]) (fun d en ⟨i,s,o7,o8,d1,d2,d3,e⟩=>?_) (n:=r.length) ⟨0,0,none,none,rfl,Nat.zero_le _,rfl,rfl⟩;subst e;have tl:(r.take i).length=i:=by rw [zaE]; omega
 by_cases hi:i < r.length
 ·have q:((i:Nat):Int) < (r.length:Nat):=by omega
  obtain ⟨a,ea⟩:∃ a,r[i]?=some a:=⟨_,zak hi⟩;obtain ⟨_,eg⟩:=zah.mp ea;have ha:a < W0:=hr a (zaX ea);have vs:=dm M (r.take i) (iI M) fun x hx=>hr x (List.mem_of_mem_take hx);have hs:s < S:=vs s d3;have ed:r.drop i=a :: r.drop (i+1):=by rw [List.drop_eq_getElem_cons hi,eg]
  have dl:(r.drop (i+1)).length=r.length - i - 1:=by rw [zaF]; omega
  have hr':∀ x∈r.drop (i+1),x < W0:=fun x hx=>hr x (List.mem_of_mem_drop hx);have e1:r=r.take i++a :: r.drop (i+1):=by rw [<- ed,List.take_append_drop]
  have e2:gne gs (some 0) r=gne gs (stp gs (some s) a) (r.drop (i+1)):=by
   conv=>lhs; rw [e1]
   show (r.take i++a :: r.drop (i+1)).foldl (stp gs) (some 0)=_;rw [List.foldl_append];show gne gs (stp gs (gne gs (some 0) (r.take i)) a) (r.drop (i+1))=_;rw [d3]
  have hf':dF es (gne gs (stp gs (some s) a) (r.drop (i+1)))=true:=by rw [<- e2]; exact hf
  have vv:Val S (stp gs (some s) a):=kY M (fun x e=>by cases e; exact hs) ha;have lt:=DR M vv hr' hf';rw [dl] at lt;have en:((r.length:Int) - (i:Nat) - 1)=((r.length - i - 1:Nat):Int):=by omega
  have e7:atI ((List.range (60+1)).map fun i=>ax (it gs (base es) i)) ((r.length - i - 1:Nat):Int)=some (ax (it gs (base es) (r.length - i - 1))):=u4 (n:=60) (by omega);have er:ra gs es 0 (some s) (r.drop i)=Sg (fun b=>wt gs es (r.length - i - 1) (stp gs (some s) b)) a+ra gs es 0 (stp gs (some s) a) (r.drop (i+1)):=by
   rw [ed];show ((List.range a).map fun b=>wt gs es ((r.drop (i+1)).length+0) (stp gs (some s) b)).sum+_=_;rw [dl];rfl
  obtain ⟨rr,o,q1,q2,q3,q4⟩:=nz M hs ha;simp only [ws,kK,bW,zad,tl,q,pz,bu,en,e7,er];refine Eo M hs ha (tP M _ _) lt ?_;simp only [ws,ao,q1,q2,zad,tl];rw [q3] at hf' ⊢;cases o with
  | none=>rw [mi] at hf'; cases hf'
  | some j =>
   refine ⟨szl (by omega),r.length - (i+1),by omega,i+1,j,some (ax (it gs (base es) (r.length - i - 1))),some (.int (a:Nat)),rfl,by omega,by rw [gn ea,jF,d3,q3],?_⟩;rw [gn ea];show _=[_,_,_,_,some (PyData.list ((r.take i++[a]).map fun a:Nat=>PyData.int a)),_,_,_,_];rw [zaC];rfl
 ·have ei:i=r.length:=by omega
  subst ei;have q:¬ ((r.length:Nat):Int) < (r.length:Nat):=by omega
  simp only [ws,kK,bW,zad,tl,q];rw [zaQ]
def cn (gs:List (List (Option Nat))) (es:List Bool) (l:Nat):Int:=wt gs es l (some 0)
def num (gs:List (List (Option Nat))) (es:List Bool) (r:List Nat):Int:=Sg (cn gs es) r.length+ra gs es 0 (some 0) r
def nq (M:MOk S W0 es gs) (l:Nat):0<=cn gs es l:=pL M _ _
def lR (n:Int):W (bc [.int n]) (fun r=>r=(.bool true,[none])):=by
 simp only [bc,cB,ws]
def sj {l:Nat} {u:D} (h:(dQ ((List.range (60+1)).map fun i=>ax (it gs (base es) i)))[l]?=some u):l<=60/\u=.tuple [.int (l:Nat),ax (it gs (base es) l)]:=by
 obtain ⟨t,h1,rfl⟩:=iG h;have hl:=(zah.mp h1).1;rw [zad,List.length_range] at hl;rw [zao,List.getElem?_range hl] at h1;cases h1;exact ⟨by omega,rfl⟩
def at0 (M:MOk S W0 es gs) (l:Nat):ixA (ax (it gs (base es) l)) (.int 0)=some (.int (cn gs es l)):=ji (j:=0) (by rw [M.lit]; exact M.s1)
def uV (M:MOk S W0 es gs) (T:TX W0 ks) {r:List Nat} (hr:∀ a∈r,a < W0) (hl:r.length<=60) (hf:dF es (gne gs (some 0) r)=true):W (bL [tD ks,ao es gs,.int (num gs es r)]) (fun q=>q=(.str (ofL (spl ks r)),[none,none,none])):=by
 have lt:=DR M (iI M) hr hf;have rn:=tP M r (some 0);have sn:0<=Sg (cn gs es) r.length:=ki (nq M) _;have nn:¬ num gs es r < 0:=by unfold num; omega
 simp only [bL,ip,ws];refine W.use (lR _) ?_;rintro _ rfl;simp only [ws,nn];refine W.of (show cr [ao es gs,.int (60:Nat)]=_ from lU M (by decide)) ?_;simp only [ws,bu];refine ly (fun l en=>l<=r.length/\∃ o5 o6,en=[some (tD ks),some (ao es gs),some (.int (num gs es r)),some (bu gs es 60),some (.int (num gs es r - Sg (cn gs es) l)),o5,o6]) ⟨Nat.zero_le _,none,none,by show _=[_,_,_,_,some (PyData.int (_ - 0)),_,_]; rw [Int.sub_zero]; rfl⟩ (fun l t en ht ⟨h1,o5,o6,e⟩=>?_) fun en ⟨h1,_⟩=>?_
 ·subst e;obtain ⟨l60,rfl⟩:=sj ht;have e0:=at0 M l;by_cases hl':l=r.length
  ·subst hl';have q:num gs es r - Sg (cn gs es) r.length < cn gs es r.length:=by
    unfold num;show _ < wt gs es r.length (some 0);omega
   have e1:num gs es r - Sg (cn gs es) r.length=ra gs es 0 (some 0) r:=by unfold num; omega
   simp only [ws,db,e0,q];rw [e1];refine W.use (wN M hr hl hf) ?_;rintro _ rfl;simp only [ws];refine W.use (uU T hr hl) ?_;rintro _ rfl;simp only [ws]
  ·have m:=jq (nq M) (i:=l+1) (j:=r.length) (by omega);rw [dw] at m;have q:¬ num gs es r - Sg (cn gs es) l < cn gs es l:=by unfold num; omega
   simp only [ws,db,e0,q];refine ⟨by omega,?_⟩;rw [dw,<- Int.sub_sub];exact ⟨_,_,rfl⟩
 ·rw [iF,zad,List.length_range] at h1;omega
def oR (M:MOk S W0 es gs) (T:TX W0 ks) {r:List Nat} (hr:∀ a∈r,a < W0) (hl:r.length<=60) (hf:dF es (gne gs (some 0) r)=true):W (bP [tD ks,ao es gs,.str (ofL (spl ks r))]) (fun q=>q=(.int (num gs es r),[none,none,none])):=by
 have ls:(spl ks r).length=r.length:=zad _;simp only [bP,fK,ws];refine W.use (oX T (by omega) (jc T hr)) ?_;rintro _ rfl;simp only [ws];refine W.use (mT T (jc T hr) (by omega)) ?_;rintro _ rfl;rw [k8 T hr];simp only [ws];refine W.use (sJ M hr) ?_;rintro _ rfl;rw [hf];simp only [ws,bW,zad];refine W.of (show cr _=_ from lU M hl) ?_;have e1:eY ((List.range (r.length+1)).map fun i=>ax (it gs (base es) i)) none (some (r.length:Int))=(List.range r.length).map fun i=>ax (it gs (base es) i):=by
  rw [jO,<- List.map_take,List.take_range,Nat.min_eq_left (by omega)]
 simp only [ws,bu,e1,zad];refine dL (fun t=>(ixA t (.int 0)).getD .none) (by rw [zad,List.length_range]; exact sz (by omega)) (fun t ht=>?_) fun o=>?_
 ·obtain ⟨i,_,rfl⟩:=zaz.mp ht;have e:ixA (ax (it gs (base es) i)) (.int 0)=some (.int (wt gs es i (some 0))):=ji (j:=0) (by rw [M.lit]; exact M.s1);simp only [kT,ws,e];rfl
 ·have em:((List.range r.length).map fun i=>ax (it gs (base es) i)).map (fun t=>(ixA t (.int 0)).getD .none)=((List.range r.length).map fun l=>wt gs es l (some 0)).map PyData.int:=by
   rw [zaR,zaR];refine List.map_congr_left fun i _=>?_;have e:ixA (ax (it gs (base es) i)) (.int 0)=some (.int (wt gs es i (some 0))):=ji (j:=0) (by rw [M.lit]; exact M.s1);show (ixA _ _).getD _=_;rw [e];rfl
  rw [em];simp only [ws,p9];refine W.use (wu M hr hl (Fq hf)) ?_;rintro _ rfl;simp only [ws];rfl
def oF {f:Nat->Int}:∀ {n:Nat} {L:Int},0<=L->L < Sg f n->∃ a,a < n/\Sg f a<=L/\L < Sg f a+f a
 | 0,L,h0,h1=>by
  have:Sg f 0=0:=rfl;omega
 | n+1,L,h0,h1=>by
  by_cases hc:L < Sg f n
  ·obtain ⟨a,ha,h2⟩:=oF h0 hc;exact ⟨a,by omega,h2⟩
  ·rw [dw] at h1;exact ⟨n,by omega,by omega,h1⟩
def qh (M:MOk S W0 es gs):∀ (k:Nat) {t:Option Nat} {L:Int},Val S t->0<=L->L < wt gs es k t->∃ r:List Nat,r.length=k/\(∀ a∈r,a < W0)/\dF es (gne gs t r)=true/\ra gs es 0 t r=L
 | 0,t,L,ht,h0,h1=>by
  rw [nO M ht] at h1;cases hf:dF es t with
  | true =>
   rw [hf,if_pos rfl] at h1;exact ⟨[],rfl,(fun _ z=>nomatch z),hf,by show (0:Int)=L; omega⟩
  | false =>
   rw [hf,if_neg Bool.false_ne_true] at h1;omega
 | k+1,t,L,ht,h0,h1=>by
  have e:Sg (fun b=>wt gs es k (stp gs t b)) W0=wt gs es (k+1) t:=nR M k ht;rw [<- e] at h1;obtain ⟨a,ha,h2,h3⟩:=oF h0 h1;obtain ⟨r,r1,r2,r3,r4⟩:=qh M k (t:=stp gs t a) (L:=L - Sg (fun b=>wt gs es k (stp gs t b)) a) (kY M ht ha) (by omega) (by omega);refine ⟨a :: r,by rw [zac,r1],fun x hx=>?_,r3,?_⟩
  ·rcases zay.mp hx with e | hx
   ·rw [e]; exact ha
   ·exact r2 x hx
  ·show Sg (fun b=>wt gs es (r.length+0) (stp gs t b)) a+ra gs es 0 (stp gs t a) r=L;rw [r1,r4];show Sg (fun b=>wt gs es k (stp gs t b)) a+_=_;omega
def w6 (M:MOk S W0 es gs) {n:Int} (h0:0<=n) (h1:n < Sg (cn gs es) 61):∃ r:List Nat,r.length<=60/\(∀ a∈r,a < W0)/\dF es (gne gs (some 0) r)=true/\num gs es r=n:=by
 obtain ⟨l,hl,h2,h3⟩:=oF h0 h1;obtain ⟨r,r1,r2,r3,r4⟩:=qh M l (t:=some 0) (L:=n - Sg (cn gs es) l) (iI M) (by omega) (by show _ < cn gs es l; omega);refine ⟨r,by omega,r2,r3,?_⟩;show Sg (cn gs es) r.length+ra gs es 0 (some 0) r=n;rw [r1,r4];omega
def EJ (v:List Int):(gs.map aT).map (fun t=>(.int (rsD v t):D))=(nxt gs v).map .int:=by
 rw [nxt,zaR,zaR]; rfl
def yf:(es.map PyData.bool).map b1F=(base es).map .int:=by
 rw [base,zaR,zaR]; rfl
def HZ (M:MOk S W0 es gs) {v:List Int} (hv:v.length=S) {t:D} (ht:t∈gs.map aT):W (gH [some t,some (ax v)]) (fun r=>r=(.int (rsD v t),[some t,some (ax v)])):=by
 obtain ⟨r,hr,rfl⟩:=zaz.mp ht;exact W.of (show gH _=_ from D9 (M.ok r hr) hv M.w2) rfl
def p6 (gs:List (List (Option Nat))) (es:List Bool) (n:Nat):List D:=(List.range (n+1)).map fun i=>ax (it gs (base es) i)
def p5 (n:Nat):(p6 gs es n).length=n+1:=gR
def qF (M:MOk S W0 es gs) {N:Nat} (hN:N<=100):W (dz [ao es gs,.int (N:Int)]) (fun r=>r=(bu gs es N,[none,none])):=by
 simp only [ws,dz,jb,ao];refine dL b1F (by rw [zad,M.le]; exact sz (by have:=M.s2; omega)) (fun t ht=>?_) fun o=>?_
 ·obtain ⟨b,_,rfl⟩:=zaz.mp ht;cases b <;> simp only [ws,kg,b1F] <;> rfl
 ·simp only [ws];rw [yf];refine lw (fun d en=>∃ n x,n+d=N/\en=[some (ao es gs),some (.int (N:Int)),some (.list (p6 gs es n)),x]) (fun d en ⟨n,x,hd,e⟩=>?_) (n:=N) ⟨0,none,by omega,rfl⟩;subst e;simp only [ws,kc];rw [p5];by_cases hn:n < N
  ·have q:decide (((n+1:Nat):Int)<=(N:Int))=true:=zaB (by omega);have a1:atI (p6 gs es n) (-1)=some (ax (it gs (base es) n)):=pZ;simp only [ws,q,ke,a1,ao];refine dL (fun t=>.int (rsD (it gs (base es) n) t)) (by rw [zad,M.lg]; exact sz (by have:=M.s2; omega)) (fun t ht=>HZ M (M.lit n) ht) fun o=>?_;rw [EJ];simp only [ws];refine ⟨?_,?_⟩
   ·rw [p5]; exact szl (by omega)
   ·exact ⟨d - 1,by omega,n+1,_,by omega,by
     have e:p6 gs es n++[ax (it gs (base es) (n+1))]=p6 gs es (n+1):=pY;rw [<- e]; rfl⟩
  ·have q:decide (((n+1:Nat):Int)<=(N:Int))=false:=zaA (by omega);simp only [ws,q];rw [show n=N by omega];rfl
def xw (T:TX W0 ks) {r:List Nat} (hr:∀ a∈r,a < W0) (hl:r.length<=60) {Q:List D × En->Prop} (hq:∀ o,Q (r.map (fun a:Nat=>PyData.int a),o :: [some (.str (sgs ks))])) :
  W (lcF (gN 0) cY rL (bF (ofL (spl ks r))) [] [none,some (.str (sgs ks))]) Q:=by
 let F:D->D:=fun t=>match t with
  | .str z=>.int (((az ks).idxOf ((li z).headD 0):Nat):Int)
  | _=>.none
 have ls:(spl ks r).length=r.length:=zad _;have hl:(bF (ofL (spl ks r))).length=(spl ks r).length:=by unfold bF; rw [zad]; rfl
 refine dL F (by rw [hl]; exact sz (by omega)) (fun t ht=>?_) fun o'=>?_
 ·obtain ⟨c,hc,rfl⟩:=zaz.mp ht;obtain ⟨rest,hr⟩:=oY (z:=sgs ks) (c:=c) T.nd (jc T hr c hc);have e:jj (sgs ks) [.str (mk1 c)]=some (.int (((az ks).idxOf c:Nat):Int)):=by
   show (match Builtin.Str.occurrences (sgs ks) (mk1 c) 0 (sgs ks).length 1 with
    | i :: _=>some (PyData.int (i:Nat))
    | []=>none)=_
   rw [hr];rfl
  simp only [rL,ws,e];rfl
 ·have em:(bF (ofL (spl ks r))).map F=((spl ks r).map fun c=>(az ks).idxOf c).map fun a:Nat=>.int a:=by
   unfold bF;rw [zaR,zaR];rfl
  rw [em,k8 T hr];exact hq o'
def u6 (M:MOk S W0 es gs) {n:Nat} (C:ME) (hC:∀ i,W (C [some (ax (it gs (base es) i))]) (fun r=>r=(.int (cn gs es i),[some (ax (it gs (base es) i))]))) (hn:n<=100) {Q:List D × En->Prop}
  (hq:∀ o,Q (((List.range n).map (cn gs es)).map PyData.int,[o])):W (lcF (gN 0) cY C ((List.range n).map fun i=>ax (it gs (base es) i)) [] [none]) Q:=by
 refine dL (fun t=>(ixA t (.int 0)).getD .none) (by rw [zad,List.length_range]; exact sz (by omega)) (fun t ht=>?_) fun o=>?_
 ·obtain ⟨i,_,rfl⟩:=zaz.mp ht;rw [at0 M i];exact hC i
 ·have em:((List.range n).map fun i=>ax (it gs (base es) i)).map (fun t=>(ixA t (.int 0)).getD .none)=((List.range n).map (cn gs es)).map PyData.int:=by
   rw [zaR,zaR];refine List.map_congr_left fun i _=>?_;show (ixA _ _).getD _=_;rw [at0 M i];rfl
  rw [em];exact hq o
def nY {f g:MS} {en:En} (h1:f en=none):ai f g en=none:=by unfold ai; rw [h1]; rfl
def t7 {c:MT} {en en1:En} {b:Bool} (h1:c en=some (b,en1)) (hb:b=true):sIf c df aZ en=none:=by unfold sIf; rw [h1,hb]; rfl
def pM {n:Nat} {dps:List Nat} {b:MS} {ts:List D} (h:b (ts.map some++List.replicate n none)=none):fnF n dps b ts=none:=by unfold fnF; rw [h]; rfl
def sD {F:List D->Option (D × En)} {fa:MA} {en en1:En} {as:List (D ⊕ Nat)} {ts:List D} (h1:fa en=some (as,en1)) (h2:cq as en1=some ts) (h3:F ts=none):ak F fa en=none:=by
 unfold ak;rw [h1];show (cq as en1).bind _=_;rw [h2];show (F ts).map _=_;rw [h3];rfl
def pN {c:MT} {m1 m2:MN} {en en1:En} {b:Bool} (h1:c en=some (b,en1)):nIf c m1 m2 en=if b then m1 en1 else m2 en1:=by unfold nIf; rw [h1]; rfl
def sF {Rz:List D->Option Str} {fa:MA} {en en1:En} {as:List (D ⊕ Nat)} {ts:List D} (h1:fa en=some (as,en1)) (h2:cq as en1=some ts):iy Rz fa en=Rz ts:=by
 unfold iy;rw [h1];show (cq as en1).bind _=_;rw [h2];rfl
def vq {i:Nat} {f:ME} {en:En} (h1:f en=none):al i f en=none:=by unfold al; rw [h1]; rfl
def kZ {f g:MS} {en en1:En} (h1:f en=some (.nx en1)):ai f g en=g en1:=by unfold ai; rw [h1]; rfl
def mR {c:MT} {en en1:En} (h1:c en=some (false,en1)):sIf c df aZ en=some (.nx en1):=by unfold sIf; rw [h1]; rfl
def jg {f:MS} {m:MN} {en en1:En} (h1:f en=some (.nx en1)):iN f m en=m en1:=by unfold iN; rw [h1]; rfl
def vx {m1 m2:MN} {en:En} {x:Str} (h1:m1 en=some x):nOr m1 m2 en=some x:=by unfold nOr; rw [h1]
def vw {m1 m2:MN} {en:En} (h1:m1 en=none):nOr m1 m2 en=m2 en:=by unfold nOr; rw [h1]
def qw {c:MT} {en en1:En} {x:Str} (h1:c en=some (true,en1)):nIf c (mh x) nNo en=some x:=by rw [pN h1]; rfl
def sE {c:MT} {en en1:En} {x:Str} (h1:c en=some (false,en1)):nIf c (mh x) nNo en=none:=by rw [pN h1]; rfl
def W.eq {α:Type} {x:Option α} {v:α} (h:W x (fun r=>r=v)):x=some v:=by
 obtain ⟨r,e,rfl⟩:=h.ex;exact e
def NoN:D->Prop
 | .int n=>n < 0
 | .bool _=>True
 | t=>ay "int" t=some (.bool false)
abbrev cW:MT:=bOr (dD (tV (ak bc (ad (ac 2) ag)))) (tV (e2 ltI (ac 2) (eC (.int 0))))
def J9 {t a b:D} (h:NoN t):cW [some a,some b,some t,none,none,none,none]=some (true,[some a,some b,some t,none,none,none,none]):=by
 refine W.eq ?_;cases t with
 | int n =>
  have hn:n < 0:=h;simp only [ws];refine W.use (lR n) ?_;rintro _ rfl;simp only [ws,hn]
 | bool x=>simp only [ws,bc,cB]
 | none=>simp only [ws,bc,cB]
 | str z=>simp only [ws,bc,cB]
 | list ts=>simp only [ws,bc,cB]
 | tuple ts=>simp only [ws,bc,cB]
 | dict ts =>
  have h':ay "int" (.dict ts)=some (.bool false):=h;simp only [ws,bc,cB,h']
def uW {t a b:D} (h:NoN t):bL [a,b,t]=none/\cO [a,b,t]=some ("NoNumber" : Str):=by
 have e:=J9 (a:=a) (b:=b) h;constructor
 ·exact pM (nY (t7 e rfl))
 ·show ft [some a,some b,some t,none,none,none,none]=_;unfold ft;exact vx (qw e)
def tw (M:MOk S W0 es gs) {n:Int} (h:Sg (cn gs es) 61<=n):bL [tD ks,ao es gs,.int n]=none/\cO [tD ks,ao es gs,.int n]=some ("NoNumber" : Str):=by
 have s0:0<=Sg (cn gs es) 61:=ki (nq M) _;have nn:¬ n < 0:=by omega
 have e:cW [some (tD ks),some (ao es gs),some (.int n),none,none,none,none]=some (false,[some (tD ks),some (ao es gs),some (.int n),none,none,none,none]):=by
  refine W.eq ?_;simp only [ws];refine W.use (lR n) ?_;rintro _ rfl;simp only [ws,nn]
 have e1:al 3 (ak cr (ad (ac 1) (ad (eC (.int 60)) ag))) [some (tD ks),some (ao es gs),some (.int n),none,none,none,none]=some (.nx [some (tD ks),some (ao es gs),some (.int n),some (bu gs es 60),none,none,none]):=by
  refine W.eq ?_;simp only [ws];refine W.of (show cr [ao es gs,.int (60:Nat)]=_ from lU M (by decide)) ?_;simp only [ws]
 have e2:al 4 (ac 2) [some (tD ks),some (ao es gs),some (.int n),some (bu gs es 60),none,none,none]=some (.nx [some (tD ks),some (ao es gs),some (.int n),some (bu gs es 60),some (.int n),none,none]):=rfl;obtain ⟨en3,e3⟩:∃ en3,cF (fC (ad (ac 3) ag)) (gT (gsC (gN 5) (gsC (gN 6) gs0))) db [some (tD ks),some (ao es gs),some (.int n),some (bu gs es 60),some (.int n),none,none]=some (.nx en3):=by
  have w:W (cF (fC (ad (ac 3) ag)) (gT (gsC (gN 5) (gsC (gN 6) gs0))) db [some (tD ks),some (ao es gs),some (.int n),some (bu gs es 60),some (.int n),none,none]) (fun fl=>∃ en3,fl=.nx en3):=by
   simp only [ws,bu];refine ly (fun l en=>∃ o5 o6,en=[some (tD ks),some (ao es gs),some (.int n),some (bu gs es 60),some (.int (n - Sg (cn gs es) l)),o5,o6]) ⟨none,none,by show _=[_,_,_,_,some (PyData.int (_ - 0)),_,_]; rw [Int.sub_zero]; rfl⟩ (fun l t en ht ⟨o5,o6,e⟩=>?_) fun en ⟨o5,o6,e⟩=>?_
   ·subst e;obtain ⟨l60,rfl⟩:=sj ht;have e0:=at0 M l;have m:=jq (nq M) (i:=l+1) (j:=61) (by omega);rw [dw] at m;have q:¬ n - Sg (cn gs es) l < cn gs es l:=by omega
    simp only [ws,db,e0,q];rw [dw,<- Int.sub_sub];exact ⟨_,_,rfl⟩
   ·exact ⟨_,rfl⟩
  obtain ⟨r,e,en3,rfl⟩:=w.ex;exact ⟨en3,e⟩
 constructor
 ·refine pM ?_;show ip [some (tD ks),some (ao es gs),some (.int n),none,none,none,none]=none;unfold ip;rw [kZ (mR e),kZ e1,kZ e2,kZ e3];rfl
 ·show ft [some (tD ks),some (ao es gs),some (.int n),none,none,none,none]=_;unfold ft;rw [vw (sE e),jg (mR e),jg e1,jg e2,jg e3];rfl
def NoW (ks:List Str) (t:D):Prop:=ay "str" t=some (.bool false)\/∃ z:Str,t=.str z/\z.length<=1000/\(60 < z.length\/∃ c∈li z,c ∉ az ks)
def vN {m:Nat} (T:TX m ks) {t:D} (h:NoW ks t):W (bz [tD ks,t]) (fun r=>r=(.bool false,[none,none])):=by
 rcases h with h | ⟨z,rfl,hz,h⟩
 ·simp only [bz,gc,ws,h]
 by_cases h1:(60:Int) < (z.length:Nat)
 ·simp only [bz,gc,ws,h1];exact sz (by omega)
 ·obtain ⟨c,hc,hn⟩:=h.resolve_left (by omega);simp only [bz,gc,ws,h1];refine ⟨sz (by omega),?_⟩;refine W.use (mS T) ?_;rintro _ rfl;simp only [ws];have hl:(bF z).length=z.length:=by unfold bF; rw [zad]; exact zaY
  have e0:bF z=(li z).map s1:=rfl;rw [e0];refine dL (fun t=>match t with | .str y=>.bool (ci (sgs ks) y) | _=>.none) (by rw [<- e0,hl]; exact sz (by omega)) (fun t ht=>?_) fun o'=>?_
  ·obtain ⟨c,hc,rfl⟩:=zaz.mp ht;simp only [j4,ws]
  ·rw [zaR];have e:∀ c:Nat,ci (sgs ks) (mk1 c)=decide (c∈az ks):=fun c=>StrLaws.found_one (sgs ks) c;have e1:=all_map (fun c:Nat=>decide (c∈az ks)) (li z);have e2:(li z).map ((fun t:D=>match t with | .str y=>(.bool (ci (sgs ks) y):D) | _=>.none) ∘ s1)=(li z).map fun a=>.bool (decide (a∈az ks)):=by
    refine List.map_congr_left fun c _=>?_;show PyData.bool (ci (sgs ks) (mk1 c))=_;rw [e c]
   have e3:((li z).all fun c=>decide (c∈az ks))=false:=by
    rw [List.all_eq_false];exact ⟨c,hc,by simpa using hn⟩
   rw [e2];simp only [ws,e1,e3]
abbrev cI:MT:=dD (tV (ak bz (ad (ac 0) (ad (ac 2) ag))))
def w4 {m:Nat} (T:TX m ks) {t b:D} (h:NoW ks t):bP [tD ks,b,t]=none/\cC [tD ks,b,t]=some ("NoWord" : Str):=by
 have e:cI [some (tD ks),some b,some t,none,none,none]=some (true,[some (tD ks),some b,some t,none,none,none]):=by
  refine W.eq ?_;simp only [ws];refine W.use (vN T h) ?_;rintro _ rfl;simp only [ws]
 constructor
 ·exact pM (nY (t7 e rfl))
 ·show dB [some (tD ks),some b,some t,none,none,none]=_;unfold dB;exact vx (qw e)
def rT (M:MOk S W0 es gs) (T:TX W0 ks) {r:List Nat} (hr:∀ a∈r,a < W0) (hl:r.length<=60) (hf:dF es (gne gs (some 0) r)=false):bP [tD ks,ao es gs,.str (ofL (spl ks r))]=none/\cC [tD ks,ao es gs,.str (ofL (spl ks r))]=some ("NoFit" : Str):=by
 have ls:(spl ks r).length=r.length:=zad _;have e:cI [some (tD ks),some (ao es gs),some (.str (ofL (spl ks r))),none,none,none]=some (false,[some (tD ks),some (ao es gs),some (.str (ofL (spl ks r))),none,none,none]):=by
  refine W.eq ?_;simp only [ws];refine W.use (oX T (by omega) (jc T hr)) ?_;rintro _ rfl;simp only [ws]
 have e1:al 3 (ak dU (ad (ac 0) (ad (ac 2) ag))) [some (tD ks),some (ao es gs),some (.str (ofL (spl ks r))),none,none,none]=some (.nx [some (tD ks),some (ao es gs),some (.str (ofL (spl ks r))),some (bW r),none,none]):=by
  refine W.eq ?_;simp only [ws];refine W.use (mT T (jc T hr) (by omega)) ?_;rintro _ rfl;rw [k8 T hr];simp only [ws]
 have e2:dD (tV (ak gP (ad (ac 1) (ad (ac 3) ag)))) [some (tD ks),some (ao es gs),some (.str (ofL (spl ks r))),some (bW r),none,none]=some (true,[some (tD ks),some (ao es gs),some (.str (ofL (spl ks r))),some (bW r),none,none]):=by
  refine W.eq ?_;simp only [ws];refine W.use (sJ M hr) ?_;rintro _ rfl;rw [hf];simp only [ws]
 constructor
 ·refine pM ?_;show fK [some (tD ks),some (ao es gs),some (.str (ofL (spl ks r))),none,none,none]=none;unfold fK;rw [kZ (mR e),kZ e1];exact nY (t7 e2 rfl)
 ·show dB [some (tD ks),some (ao es gs),some (.str (ofL (spl ks r))),none,none,none]=_;unfold dB;rw [vw (sE e),jg (mR e),jg e1];exact qw e2
def wv {kn:List Str} {kp:List Nat} {j:Nat} {b hs:MS} {m:MN} {en e:En} {Q:Fl->Prop} (h:b en=some (.nx e)) (hq:Q (.nx e)):W (jy kn kp j b m hs en) Q:=by
 refine W.of ?_ hq;unfold jy;rw [h]
def ww {kn:List Str} {kp:List Nat} {j:Nat} {b hs:MS} {m:MN} {en e:En} {x:Str} {Q:Fl->Prop} (h:b en=none) (hm:m (hidE kp en)=some x) (hx:x∈kn) (h2:hs (en.set j (some (bE x)))=some (.nx e)) (hq:Q (.nx (e.set j none))):W (jy kn kp j b m hs en) Q:=by
 refine W.of ?_ hq;unfold jy;rw [h];show (m (hidE kp en)).bind _=_;rw [hm];show (if x∈kn then _ else _)=_;rw [if_pos hx];show (hs (en.set j (some (bE x)))).bind _=_;rw [h2];rfl
def rX:W (bA [bE "NoNumber"]) (fun r=>r=(.str "number",[none])):=by
 have i1:bi kn0 cP (bE "NoNumber")=some (.bool true):=rfl;have i2:bi kn0 eR (bE "NoNumber")=some (.bool false):=rfl;have i3:bi kn0 fM (bE "NoNumber")=some (.bool false):=rfl;have i4:bi kn0 xt0 (bE "NoNumber")=some (.bool false):=rfl;have i5:bi kn0 cg (bE "NoNumber")=some (.bool true):=rfl;simp only [ws,bA,fL,i1,i2,i3,i4,i5,Int.reduceEq]
def vA:W (bA [bE "NoWord"]) (fun r=>r=(.str "word",[none])):=by
 have i1:bi kn0 cP (bE "NoWord")=some (.bool false):=rfl;have i2:bi kn0 eR (bE "NoWord")=some (.bool true):=rfl;have i3:bi kn0 fM (bE "NoWord")=some (.bool false):=rfl;have i4:bi kn0 xt0 (bE "NoWord")=some (.bool false):=rfl;have i5:bi kn0 cg (bE "NoWord")=some (.bool true):=rfl;simp only [ws,bA,fL,i1,i2,i3,i4,i5,Int.reduceEq]
def xb:W (bA [bE "NoFit"]) (fun r=>r=(.str "fit",[none])):=by
 have i1:bi kn0 cP (bE "NoFit")=some (.bool false):=rfl;have i2:bi kn0 eR (bE "NoFit")=some (.bool false):=rfl;have i3:bi kn0 fM (bE "NoFit")=some (.bool true):=rfl;have i4:bi kn0 xt0 (bE "NoFit")=some (.bool false):=rfl;have i5:bi kn0 cg (bE "NoFit")=some (.bool true):=rfl;simp only [ws,bA,fL,i1,i2,i3,i4,i5,Int.reduceEq]
def Lg (en:En):hidE [] en=en:=by
 refine List.ext_getElem? fun i=>?_;rw [qR];cases en[i]? <;> simp
def mz {A B t:D} {b:Bool} {x a c:Str} (hx:x∈kn0) (hw:W (bA [bE x]) (fun r=>r=(.str a,[none]))) (hc:("no " : Str)++a=c) (hl:a.length<=100)
  (h:match b with | true=>bL [A,B,t]=none/\cO [A,B,t]=some x | false=>bP [A,B,t]=none/\cC [A,B,t]=some x) :
  W (bf [A,B,t,.bool b]) (fun r=>r=(.str c,[none,none,none,none])):=by
 have nn:isN (bE x) .none=some (.bool false):=rfl;have fin:W (bf [A,B,t,.bool b]) (fun r=>r=(.str (("no " : Str)++a),[none,none,none,none])):=by
  simp only [ws,bf,gm];refine ww (x:=x) (e:=[some A,some B,some t,some (.bool b),some (bE x),some .none,some (bE x)]) ?_ ?_ hx rfl ?_
  ·cases b with
   | true =>
    show sIf (tV (ac 3)) _ _ [some A,some B,some t,some (.bool true),some .none,some .none,none]=none;unfold sIf;rw [show (tV (ac 3)) [some A,some B,some t,some (.bool true),some .none,some .none,none]=some (true,[some A,some B,some t,some (.bool true),some .none,some .none,none]) from rfl];exact vq (sD (ts:=[A,B,t]) rfl rfl h.1)
   | false =>
    show sIf (tV (ac 3)) _ _ [some A,some B,some t,some (.bool false),some .none,some .none,none]=none;unfold sIf;rw [show (tV (ac 3)) [some A,some B,some t,some (.bool false),some .none,some .none,none]=some (false,[some A,some B,some t,some (.bool false),some .none,some .none,none]) from rfl];exact vq (sD (ts:=[A,B,t]) rfl rfl h.1)
  ·rw [Lg];cases b with
   | true =>
    rw [pN (b:=true) (en1:=[some A,some B,some t,some (.bool true),some .none,some .none,none]) rfl];exact (sF (ts:=[A,B,t]) rfl rfl).trans h.2
   | false =>
    rw [pN (b:=false) (en1:=[some A,some B,some t,some (.bool false),some .none,some .none,none]) rfl];exact (sF (ts:=[A,B,t]) rfl rfl).trans h.2
  ·show qJ _ _ (.nx [some A,some B,some t,some (.bool b),some (bE x),some .none,none]);simp only [ws,nn];refine W.use hw ?_;rintro _ rfl;simp only [ws];have l3:(("no " : Str)).length=3:=by decide +kernel
   exact sz (by omega)
 rw [hc] at fin;exact fin
def pk {A B t v:D} {b:Bool} (h:match b with | true=>bL [A,B,t]=some (v,[none,none,none]) | false=>bP [A,B,t]=some (v,[none,none,none])) :
  W (bf [A,B,t,.bool b]) (fun r=>r=(v,[none,none,none,none])):=by
 simp only [ws,bf,gm];refine wv (e:=[some A,some B,some t,some (.bool b),some .none,some v,none]) ?_ ?_
 ·refine W.eq ?_;cases b with
  | true =>
   simp only [ws];refine W.of h ?_;simp only [ws]
  | false =>
   simp only [ws];refine W.of h ?_;simp only [ws]
 ·simp only [ws]
def J4 {z:Str} {k:Nat} (h:k < (li z).length):atI (li z) (k:Int)=some (li z)[k]:=by
 rw [aY,zak h]
def wI (r:List Nat) (k:Nat):spl ks (r++[k])=spl ks r++[(az ks).getD k 0]:=by
 unfold spl;rw [zaC];rfl
def nS:(sgs ks).length=(az ks).length:=fc _
def pcF:ME:=e2 ixT (ac 2) (ak aq (aH 1 (ad (eN bd (ad (ac 2) ag)) ag)))
def oP (T:TX W0 ks) (t1:1<=W0) {p:D} {n m:Nat} (hp:Pn n p) (hn:n<=100000) (hm:m<=60) {Q:List D × En->Prop}
  (h:∀ (r:List Nat) o p',r.length=m->(∀ a∈r,a < W0)->Pn (n+m) p'->Q ((spl ks r).map s1,[o,some p',some (.str (sgs ks))])) :
  W (lcF (gN 0) cY pcF (jz 0 m) [] [none,some p,some (.str (sgs ks))]) Q:=by
 have tl:=T.l;have t12:=T.m12;have sl:=nS (ks:=ks);refine yh (fun i us en=>∃ (r:List Nat) (o:Option D) (p':D),us=(spl ks r).map s1/\en=[o,some p',some (.str (sgs ks))]/\r.length=i/\(∀ a∈r,a < W0)/\Pn (n+i) p') (by rw [je]; exact sz (by omega)) ⟨[],none,p,rfl,rfl,rfl,by simp,hp⟩ (fun i t us en ht hu ⟨r,o,p',e1,e2,h1,h2,h3⟩=>?_) fun us en _ ⟨r,o,p',e1,e2,h1,h2,h3⟩=>?_
 ·obtain ⟨hi,rfl⟩:=nV ht;subst e1 e2;simp only [ws,pcF];refine ⟨sz (by omega),jp h3 (by omega) (by omega) (by omega) fun q p2 q0 q1 hp2=>?_⟩;obtain ⟨k,rfl⟩:=zaM q0;have hk:k < (li (sgs ks)).length:=by show k < (az ks).length; omega
  have ek:=J4 hk;simp only [ws,ek];refine ⟨sz (by omega),r++[k],_,p2,?_,rfl,by rw [zae,h1]; rfl,fun a ha=>?_,hp2⟩
  ·rw [wI,zaC,List.getD_eq_getElem?_getD,zak (show k < (az ks).length from hk)];rfl
  ·rcases zax.mp ha with ha | ha
   ·exact h2 a ha
   ·rw [zaH.mp ha]; omega
 ·subst e1 e2;rw [je] at h1 h3;exact h r o p' h1 h2 h3
def mx (l:List Nat) (lo hi:Option Int):(dH l lo hi).length<=l.length:=by
 unfold dH;rw [zaE,zaF];omega
def qD (a b:Str):li (a++b)=li a++li b:=Array.toList_append
def ll (z:Str):(li z).length=z.length:=zaY
def n8 (a b:Str):(a++b).length=a.length+b.length:=by rw [<- ll,qD,zae,ll,ll]
def mW (c n:Nat):Txt.mul (mk1 c) (n:Int)=ofL (List.replicate n c):=vC (by
 rw [mX];exact (PyProof.Rows.mul_one_list c n).trans (by rw [zaL]))
def sr (n k:Nat):spl ks (List.replicate n k)=List.replicate n ((az ks).getD k 0):=by
 unfold spl;rw [List.map_replicate]
def qZ (T:TX W0 ks) (t1:1<=W0):∃ c rest,az ks=c :: rest/\(az ks).getD 0 0=c/\c∈az ks:=by
 have tl:=T.l;cases e:az ks with
 | nil=>rw [e] at tl; simp at tl; omega
 | cons c rest=>exact ⟨c,rest,rfl,rfl,zaq⟩
def sL (T:TX W0 ks) (t1:1<=W0):∃ c,atI (li (sgs ks)) (-1)=some c/\(az ks).getD (W0 - 1) 0=c/\c∈az ks:=by
 have tl:=T.l;have hk:W0 - 1 < (az ks).length:=by omega
 refine ⟨(az ks)[W0 - 1],?_,?_,zaK hk⟩
 ·have hne:az ks≠[]:=fun z=>by rw [z] at hk; simp at hk
  have e:(az ks).dropLast++[(az ks)[W0 - 1]]=az ks:=by
   have:=List.dropLast_concat_getLast hne;rw [List.getLast_eq_getElem] at this;simp only [tl] at this;exact this
  have:=yg (az ks).dropLast (az ks)[W0 - 1];rw [e] at this;exact this
 ·rw [List.getD_eq_getElem?_getD,zak hk];rfl
def t8 (T:TX W0 ks) (t1:1<=W0) {p:D} {n:Nat} (hp:Pn n p) (hn:n<=1000):W (cf [p,.str (sgs ks)]) (fun q=>∃ ts p',q=(.list ts,[some p',none])/\(∀ t∈ts,NoW ks t)/\Pn (n+20) p'):=by
 have tl:=T.l;have t12:=T.m12;have sl:=nS (ks:=ks);simp only [cf,ge,ws];refine jp hp (by omega) (by decide) (by decide) fun q p1 q0 q1 hp1=>?_;obtain ⟨m,rfl⟩:=zaM q0;simp only [ws,zaL];refine ⟨by omega,oP T t1 hp1 (by omega) (by omega) fun r o p2 hr hm hp2=>?_⟩;have ls:(spl ks r).length=m:=by unfold spl; rw [zad,hr]
 have lo:(ofL (spl ks r)).length=m:=by rw [fc,ls]
 simp only [ws,lh (cs:=spl ks r) (by omega)];refine ⟨sz (by omega),jp hp2 (by omega) (by omega) (by omega) fun a p3 a0 a1 hp3=>?_⟩;obtain ⟨a,rfl⟩:=zaM a0;simp only [ws];have eo:bF "aZ0~! \n"=(li "aZ0~! \n").map s1:=rfl;rw [eo];refine wy (fun t=>match t with | .str z=>!ci (sgs ks) z | _=>false) id (by rw [zad]; exact sz (by decide +kernel)) (fun t ht=>?_) (fun t ht _=>?_) fun o'=>?_
 ·obtain ⟨c,hc,rfl⟩:=zaz.mp ht;simp only [ws,ii]
 ·simp only [ws,io];rfl
 ·obtain ⟨cs,hcs,hco,hcl⟩:∃ cs:List Nat,(((li "aZ0~! \n").map s1).filter fun t=>match t with | .str z=>!ci (sgs ks) z | _=>false).map id=cs.map s1/\(∀ c∈cs,c ∉ az ks)/\cs.length<=7:=by
   refine ⟨(li "aZ0~! \n").filter fun c=>!ci (sgs ks) (mk1 c),by rw [List.map_id,List.filter_map]; rfl,fun c hc=>?_,zau (List.length_filter_le _ _) (by decide +kernel)⟩;have h:=(List.mem_filter.mp hc).2;have h2:ci (sgs ks) (mk1 c)=decide (c∈az ks):=StrLaws.found_one (sgs ks) c;rw [h2] at h;simpa using h
  rw [hcs];simp only [ws];refine yh (fun i us en=>us.length=i/\(∀ u∈us,NoW ks u)/\∃ o,en=[o,some (.str (ofL (spl ks r))),some (.int (a:Nat))]) (by rw [zad]; exact sz (by omega)) ⟨rfl,by simp,none,rfl⟩ (fun i t us en ht hu ⟨e1,e2,o,e3⟩=>?_) fun us en _ ⟨e1,e2,o,e3⟩=>?_
  ·subst e3;rw [zao] at ht;obtain ⟨c,hc,rfl⟩:=zab.mp ht;simp only [ws,im];have hx:=mx (ofL (spl ks r)).cps.toList none (some (a:Int));have hy:=mx (ofL (spl ks r)).cps.toList (some (a:Int)) none;have lx:∀ l:List Nat,(⟨l.toArray⟩:Str).length=l.length:=fun l=>by rw [<- ll]
   rw [show (ofL (spl ks r)).cps.toList.length=m from ls] at hx hy;rw [<- lx] at hx hy;generalize (⟨(dH (ofL (spl ks r)).cps.toList none (some (a:Int))).toArray⟩:Str)=x at hx ⊢;generalize (⟨(dH (ofL (spl ks r)).cps.toList (some (a:Int)) none).toArray⟩:Str)=y at hy ⊢;have l1:(mk1 c).length=1:=rfl;refine ⟨sz (by omega),sz (by omega),sz (by omega),sz (by rw [n8]; omega),by rw [zae,e1]; rfl,fun u hu=>?_,_,rfl⟩;rcases zax.mp hu with hu | hu
   ·exact e2 u hu
   ·rw [zaH.mp hu];refine .inr ⟨_,rfl,by rw [n8,n8]; omega,.inr ⟨c,?_,hco c (zaX hc)⟩⟩;rw [qD,qD];exact List.mem_append_left _ (List.mem_append_right _ (zaH.mpr rfl))
  ·subst e3;obtain ⟨c0,rest,f1,f2,f3⟩:=qZ T t1;obtain ⟨cl,g1,g2,g3⟩:=sL T t1;rw [zad] at e1;have ec:(⟨(dH (sgs ks).cps.toList none (some 1)).toArray⟩:Str)=mk1 c0:=by
    have:dH (li (sgs ks)) none (some ((1:Nat):Int))=[c0]:=by
     rw [show dH (li (sgs ks)) none (some ((1:Nat):Int))=eY (li (sgs ks)) none (some ((1:Nat):Int)) from rfl,jO];show (az ks).take 1=[c0];rw [f1];rfl
    show (⟨(dH (li (sgs ks)) none (some ((1:Nat):Int))).toArray⟩:Str)=mk1 c0;rw [this];rfl
   have m1:Txt.mul (mk1 c0) 61=ofL (List.replicate 61 c0):=mW c0 61;have m2:Txt.mul (mk1 cl) 200=ofL (List.replicate 200 cl):=mW cl 200;have el:=kw (z:=ofL (spl ks r)) (by rw [mX]; omega);simp only [ws,ec,g1,m1,m2,el];have l1:∀ c:Nat,(mk1 c:Str).length=1:=fun _=>rfl;refine ⟨sz (by omega),⟨by rw [l1]; decide,by decide,by decide⟩,sz (by omega),⟨by rw [l1]; decide,by decide,by decide⟩,W.of (show lq _=some (.dict [],_) from rfl) ?_⟩;simp only [ws];refine ⟨sz (by show _+11<=1000; omega),_,p3,rfl,fun u hu=>?_,hp3.mono (by omega)⟩;rcases zax.mp hu with hu | hu
   ·exact e2 u hu
   simp only [zay,List.not_mem_nil,or_false] at hu;rcases hu with rfl | rfl | rfl | rfl | rfl | rfl | rfl | rfl | rfl | rfl | rfl
   ·exact .inr ⟨_,rfl,by rw [fc,zaN]; decide,.inl (by rw [fc,zaN]; decide)⟩
   ·exact .inr ⟨_,rfl,by rw [fc,zaN]; decide,.inl (by rw [fc,zaN]; decide)⟩
   all_goals exact .inl rfl
def wC (T:TX W0 ks) (t1:1<=W0) {p:D} {n:Nat} (hp:Pn n p) (hn:n<=1000):W (dy [p,.str (sgs ks)]) (fun q=>∃ (rs:List (List Nat)) (p':D),q=(.list (rs.map fun r=>.str (ofL (spl ks r))),[some p',none])/\(∀ r∈rs,r.length<=60/\∀ a∈r,a < W0)/\Pn (n+500) p'):=by
 have tl:=T.l;have t12:=T.m12;have sl:=nS (ks:=ks);obtain ⟨c0,rest,f1,f2,f3⟩:=qZ T t1;obtain ⟨cl,g1,g2,g3⟩:=sL T t1;have a0:atI (li (sgs ks)) 0=some c0:=by
  show atI (az ks) ((0:Nat):Int)=_;rw [aY,f1];rfl
 have m1:Txt.mul (mk1 c0) 60=ofL (List.replicate 60 c0):=mW c0 60;have m2:Txt.mul (mk1 cl) 59=ofL (List.replicate 59 cl):=mW cl 59;have l1:∀ c:Nat,(mk1 c:Str).length=1:=fun _=>rfl;have s0:("" : Str)=ofL (spl ks []):=by
  show ("" : Str)=ofL [];decide +kernel
 simp only [dy,ja,ws,a0,g1,m1,m2];refine ⟨sz (by omega),⟨by rw [l1]; decide,by decide,by decide⟩,sz (by omega),⟨by rw [l1]; decide,by decide,by decide⟩,?_⟩;have cw:[PyData.str "",.str (ofL (List.replicate 60 c0)),.str (ofL (List.replicate 59 cl))]=[[],List.replicate 60 0,List.replicate 59 (W0 - 1)].map fun r=>PyData.str (ofL (spl ks r)):=by
  rw [zar,zar,zar,sr,sr,f2,g2,<- s0];rfl
 have turn:∀ (rs:List (List Nat)) (q:D) (k m:Nat) (o:Option D),rs.length<=20->Pn k q->k<=5000->m<=60->∀ {Q:Fl->Prop},(∀ (r:List Nat) (q':D),r.length=m->(∀ a∈r,a < W0)->Pn (k+m) q'->Q (.nx [some q',some (.str (sgs ks)),some (.list ((rs++[r]).map fun r=>.str (ofL (spl ks r)))),some (.int (m:Nat))]))->W (gE [some q,some (.str (sgs ks)),some (.list (rs.map fun r=>.str (ofL (spl ks r)))),some (.int (m:Nat))]) Q:=by
  intro rs q k m o hrs hq hk hm Q hQ;simp only [ws,gE,zaL];refine ⟨by omega,oP T t1 hq (by omega) hm fun r o' q' hr hm' hq'=>?_⟩;have ls:(spl ks r).length=m:=by unfold spl; rw [zad,hr]
  simp only [ws,lh (cs:=spl ks r) (by omega),zad];refine ⟨szl (by omega),?_⟩
  have:=hQ r q' hr hm' hq';rw [zaC] at this;exact this
 rw [cw];refine turn _ p (n) 1 none (by simp) hp (by omega) (by decide) fun r1 q1 l1 h1 hq1=>?_;simp only [ws];refine turn _ q1 (n+1) 2 none (by simp) hq1 (by omega) (by decide) fun r2 q2 l2 h2 hq2=>?_;simp only [ws];refine turn _ q2 (n+1+2) 3 none (by simp) hq2 (by omega) (by decide) fun r3 q3 l3 h3 hq3=>?_;simp only [ws];refine turn _ q3 (n+1+2+3) 5 none (by simp) hq3 (by omega) (by decide) fun r4 q4 l4 h4 hq4=>?_;simp only [ws];refine turn _ q4 (n+1+2+3+5) 8 none (by simp) hq4 (by omega) (by decide) fun r5 q5 l5 h5 hq5=>?_;simp only [ws];refine turn _ q5 (n+1+2+3+5+8) 60 none (by simp) hq5 (by omega) (by decide) fun r6 q6 l6 h6 hq6=>?_;simp only [ws];refine turn _ q6 (n+1+2+3+5+8+60) 30 none (by simp) hq6 (by omega) (by decide) fun r7 q7 l7 h7 hq7=>?_;simp only [ws];refine ⟨_,q7,rfl,fun r hr=>?_,hq7.mono (by omega)⟩;simp only [zax,zay,List.not_mem_nil,or_false] at hr;rcases hr with (((((((rfl | rfl | rfl) | rfl) | rfl) | rfl) | rfl) | rfl) | rfl) | rfl
 ·exact ⟨by simp,by simp⟩
 ·exact ⟨by simp,fun a ha=>by rw [List.eq_of_mem_replicate ha]; omega⟩
 ·exact ⟨by simp,fun a ha=>by rw [List.eq_of_mem_replicate ha]; omega⟩
 ·exact ⟨by omega,h1⟩
 ·exact ⟨by omega,h2⟩
 ·exact ⟨by omega,h3⟩
 ·exact ⟨by omega,h4⟩
 ·exact ⟨by omega,h5⟩
 ·exact ⟨by omega,h6⟩
 ·exact ⟨by omega,h7⟩
def qx:∀ es:List Bool,aM (es.map .bool)=true/\bw (es.map .bool)=0/\bR (es.map .bool) (es.map .bool)=true
 | []=>⟨by simp [aM],by simp [bw],by simp [bR]⟩
 | b :: r=>by
  obtain ⟨h1,h2,h3⟩:=qx r;refine ⟨?_,?_,?_⟩
  ·simp [aM,aA,h1]
  ·simp [bw,dC,h2]
  ·simp [bR,peq,h3]
def vy:∀ r:List (Option Nat),aM (r.map goD)=true/\bw (r.map goD)=0/\bR (r.map goD) (r.map goD)=true
 | []=>⟨by simp [aM],by simp [bw],by simp [bR]⟩
 | b :: r=>by
  obtain ⟨h1,h2,h3⟩:=vy r;cases b with
  | none=>exact ⟨by simp [aM,aA,goD,h1],by simp [bw,dC,goD,h2],by simp [bR,peq,goD,h3]⟩
  | some j=>exact ⟨by simp [aM,aA,goD,h1],by simp [bw,dC,goD,h2],by simp [bR,peq,goD,h3]⟩
def sG:∀ gs:List (List (Option Nat)),aM (gs.map aT)=true/\bw (gs.map aT)<=1/\bR (gs.map aT) (gs.map aT)=true
 | []=>⟨by simp [aM],by simp [bw],by simp [bR]⟩
 | b :: r=>by
  obtain ⟨h1,h2,h3⟩:=sG r;obtain ⟨g1,g2,g3⟩:=vy b;refine ⟨?_,?_,?_⟩
  ·simp [aM,aA,aT,h1,g1]
  ·simp [bw,dC,aT,g2]; omega
  ·simp [bR,peq,aT,h3,g3]
def EQ (es:List Bool) (gs:List (List (Option Nat))):eqD (ao es gs) (ao es gs)=some (.bool true):=by
 obtain ⟨h1,h2,h3⟩:=qx es;obtain ⟨g1,g2,g3⟩:=sG gs;have n:aA (ao es gs)=true:=by simp [ao,aA,aM,h1,g1]
 have d:dC (ao es gs)<=60:=by
  have:dC (ao es gs)=max (bw (es.map .bool)+1) (max (bw (gs.map aT)+1) 0)+1:=by simp [ao,dC,bw]
  rw [this,h2];omega
 have p:peq (ao es gs) (ao es gs)=true:=by simp [ao,peq,bR,h3,g3]
 unfold eqD grd;rw [if_pos ⟨n,n,d⟩,p]
def sm {f:List Nat->Int}:∀ l:List (List Nat),(∀ x∈l,f x<=1)->(l.map f).sum<=(l.length:Int)
 | [],_=>by simp
 | x :: l,h=>by
  have h1:=h x zaq;have h2:=sm l fun y hy=>h y (zaj _ hy);rw [zar,List.sum_cons,zac];omega
def KZ (M:MOk S W0 es gs) (l:Nat):cn gs es l<=((12 ^ l:Nat):Int):=by
 have h:=su M (iI M) l 0;rw [Nat.add_zero] at h;have h2:=sm (f:=fun r=>wt gs es 0 (gne gs (some 0) r)) (rws W0 l) (fun r hr=>by
  show wt gs es 0 (gne gs (some 0) r)<=1;rw [nO M (dm M r (iI M) (nU hr).2)];split <;> omega)
 rw [sv] at h2;have h3:W0 ^ l<=12 ^ l:=Nat.pow_le_pow_left M.w2 l;have h4:cn gs es l=_:=h.symm;rw [h4];exact Int.le_trans h2 (by exact_mod_cast h3)
def DM (M:MOk S W0 es gs):∀ j:Nat,Sg (cn gs es) j<=((12 ^ j:Nat):Int)
 | 0=>by show (0:Int)<=_; omega
 | j+1=>by
  have h1:=DM M j;have h2:=KZ M j;rw [dw,Nat.pow_succ];omega
def DF {t:D} (h:bL [tD ks,ao es gs,t]=none/\cO [tD ks,ao es gs,t]=some ("NoNumber" : Str)) {x0 x1 x2 x3 x5 x6 x7 x10 x11:Option D} {Q:Fl->Prop} (hq:Q (.nx [x0,x1,x2,x3,some (tD ks),x5,x6,x7,some (ao es gs),some t,x10,x11])) :
  W (rJ [x0,x1,x2,x3,some (tD ks),x5,x6,x7,some (ao es gs),some t,x10,x11]) Q:=by
 simp only [ws,rJ];refine W.use (mz (b:=true) (x:="NoNumber") (a:="number") (c:="no number") (by decide) rX (by decide +kernel) (by decide +kernel) h) ?_;rintro _ rfl;simp only [ws];exact hq
def Kb {t:D} {m:Nat} (T:TX m ks) (h:NoW ks t) {x0 x1 x2 x3 x5 x6 x7 x10 x11:Option D} {Q:Fl->Prop} (hq:Q (.nx [x0,x1,x2,x3,some (tD ks),x5,x6,x7,some (ao es gs),some t,x10,x11])) :
  W (rH [x0,x1,x2,x3,some (tD ks),x5,x6,x7,some (ao es gs),some t,x10,x11]) Q:=by
 simp only [ws,rH];refine W.use (mz (b:=false) (x:="NoWord") (a:="word") (c:="no word") (by decide) vA (by decide +kernel) (by decide +kernel) (w4 T h)) ?_;rintro _ rfl;simp only [ws];exact hq
def FJ (n:Int) (z:Str):eqD (.int n) (.str z)=some (.bool false):=rfl
def Ee (a b:Bool):eqD (.bool a) (.bool b)=some (.bool (decide (a=b))):=by cases a <;> cases b <;> rfl
def Ka (M:MOk S W0 es gs) (T:TX W0 ks) {r:List Nat} (hl:r.length<=60) (hr:∀ a∈r,a < W0) {x0 x1 x2 x6 x7 x9 x11:Option D} {Q:Fl->Prop} (hq:∀ o,Q (.nx [x0,x1,x2,some (ao es gs),some (tD ks),some (.str (sgs ks)),x6,x7,some (ao es gs),x9,some (.str (ofL (spl ks r))),o])) :
  W (rG [x0,x1,x2,some (ao es gs),some (tD ks),some (.str (sgs ks)),x6,x7,some (ao es gs),x9,some (.str (ofL (spl ks r))),x11]) Q:=by
 simp only [ws,rG];refine xw T hr hl fun o=>?_;simp only [ws];refine W.use (show W (de [ao es gs,bW r]) _ from xc M hr) ?_;rintro _ rfl;cases hf:dF es (gne gs (some 0) r) with
 | true =>
  simp only [ws];refine W.use (pk (b:=false) (v:=.int (num gs es r)) (W.eq (oR M T hr hl hf))) ?_;rintro _ rfl;simp only [ws,FJ,Ee];exact hq _
 | false =>
  simp only [ws];refine W.use (mz (b:=false) (x:="NoFit") (a:="fit") (c:="no fit") (by decide) xb (by decide +kernel) (by decide +kernel) (rT M T hr hl hf)) ?_;rintro _ rfl;simp only [ws,Ee];exact hq _
end
def xg:IM uQ:=by
 intro ns hn
 suffices W (uQ [.list (ns.map .int)]) (fun r=>∃ o,r=(.bool true,o)) by
  obtain ⟨_,e,o,rfl⟩:=this.ex;exact ⟨o,e⟩
 obtain ⟨s,k1,l1,e1,a1,a2,a3,a4,a5⟩:=wL (ns:=ns) (k:=0) (l:=0) (by decide) (by decide) (by decide);obtain ⟨es,gs,k2,l2,e2,b1,b2,b3,b4,b5,b6,b7⟩:=EO (mo:=7) (ns:=ns) (k:=k1) (l:=l1) (W:=s) (by decide) (by decide) a2 (by omega) (by omega) a5;have M:MOk es.length s es gs:=⟨b1,by omega,a1,a2,rfl,b3,b4⟩;simp only [ws,uQ,yo];refine W.of (show cA [.list (ns.map .int),.int 0]=some (penD ns 0 0,[none,none]) from rfl) ?_;simp only [ws];refine W.of e1 ?_;simp only [ws];refine W.of e2 ?_;simp only [ws];refine W.of (show cA [.list (ns.map .int),.int 28]=some (penD ns 28 0,[none,none]) from rfl) ?_;simp only [ws];refine W.use (u3 (n:=28) ⟨ns,28,0,rfl,by decide,by decide,by decide⟩ (by decide) a1 a2) ?_;rintro _ ⟨ks,p',rfl,T,hp'⟩;simp only [ws,sN T];refine W.use (qF (N:=60) M (by decide)) ?_;rintro _ rfl;simp only [ws,bu];refine u6 M rM (fun i=>?_) (by decide) fun o=>?_
 ·simp only [ws,rM,at0 M i]
 simp only [ws,p9];refine ⟨by decide,by decide,by decide,?_⟩;have fp:(0:Int) < 10 ^ Int.toNat 60 * 10 ^ Int.toNat 19:=by decide +kernel
 have fb:((12 ^ 61:Nat):Int)<=10 ^ Int.toNat 60 * 10 ^ Int.toNat 19:=by decide +kernel
 have fm:CMul 9 (10 ^ Int.toNat 60 * 10 ^ Int.toNat 19):=.inl (by decide);generalize (10:Int) ^ Int.toNat 60 * 10 ^ Int.toNat 19=far at fp fb fm ⊢;have et:(List.map (cn gs es) (List.range (60+1))).sum=Sg (cn gs es) 61:=rfl;rw [et];have s0:0<=Sg (cn gs es) 61:=ki (nq M) _;simp only [ao,ws];refine dL id (by rw [zad]; have:=M.lg; exact sz (by omega)) (fun t ht=>?_) fun o=>?_
 ·obtain ⟨r,hr,rfl⟩:=zaz.mp ht;simp only [ws,wA,aT];rfl
 rw [List.map_id];simp only [ws];refine W.of (show lq _=some (.dict [],_) from rfl) ?_;simp only [ws];refine ⟨fm,?_⟩;have tn:=fun {t:D} (h:NoN t) {x0 x1 x2 x3 x5 x6 x7 x10 x11:Option D} {Q:Fl->Prop}=>DF (es:=es) (gs:=gs) (uW (a:=tD ks) (b:=ao es gs) h) (x0:=x0) (x1:=x1) (x2:=x2) (x3:=x3) (x5:=x5) (x6:=x6) (x7:=x7) (x10:=x10) (x11:=x11) (Q:=Q);have tf:=fun {n:Int} (h:Sg (cn gs es) 61<=n) {x0 x1 x2 x3 x5 x6 x7 x10 x11:Option D} {Q:Fl->Prop}=>DF (es:=es) (gs:=gs) (tw (ks:=ks) M h) (x0:=x0) (x1:=x1) (x2:=x2) (x3:=x3) (x5:=x5) (x6:=x6) (x7:=x7) (x10:=x10) (x11:=x11) (Q:=Q);have sb:=DM M 61;refine tn (t:=.int (-1)) (show (-1:Int) < 0 by decide) ?_;simp only [ws];refine tn (t:=.int (0 - far)) (show 0 - far < 0 by omega) ?_;simp only [ws];refine tn (t:=.bool true) trivial ?_;simp only [ws];refine tn (t:=.bool false) trivial ?_;simp only [ws];refine tn (t:=.none) rfl ?_;simp only [ws];refine tn (t:=.str "0") rfl ?_;simp only [ws];refine tn (t:=.list [.int 0]) rfl ?_;simp only [ws];refine tn (t:=.tuple [.int 0]) rfl ?_;simp only [ws];refine tn (t:=.dict []) rfl ?_;simp only [ws];refine tf (Int.le_refl _) ?_;simp only [ws];refine tf (n:=Sg (cn gs es) 61+1) (by omega) ?_;simp only [ws];refine tf (n:=Sg (cn gs es) 61+far) (by omega) ?_;simp only [ws];refine tf (n:=9 * far) (by omega) ?_;simp only [ws];refine W.use (t8 T M.w1 hp' (by decide)) ?_;rintro _ ⟨ts,p2,rfl,hts,hp2⟩;simp only [ws];refine wx (fun en=>∃ x9,en=[some (.list (ns.map .int)),some p2,some (.int (s:Nat)),some (ao es gs),some (tD ks),some (.str (sgs ks)),some (.int (Sg (cn gs es) 61)),some (.int far),some (ao es gs),x9,none,none]) ⟨_,rfl⟩ ?_ ?_
 ·rintro t ht en ⟨x9,rfl⟩;simp only [ws];refine Kb T (hts t ht) ?_;exact ⟨_,rfl⟩
 rintro en ⟨x9,rfl⟩;simp only [ws];refine W.use (wC T M.w1 hp2 (by decide)) ?_;rintro _ ⟨rs,p3,rfl,hrs,hp3⟩;simp only [ws];refine wx (fun en=>∃ x10 x11,en=[some (.list (ns.map .int)),some p3,some (.int (s:Nat)),some (ao es gs),some (tD ks),some (.str (sgs ks)),some (.int (Sg (cn gs es) 61)),some (.int far),some (ao es gs),x9,x10,x11]) ⟨_,_,rfl⟩ ?_ ?_
 ·rintro t ht en ⟨x10,x11,rfl⟩;obtain ⟨r,hr,rfl⟩:=zaz.mp ht;simp only [ws];refine Ka M T (hrs r hr).1 (hrs r hr).2 fun o=>?_;exact ⟨_,_,rfl⟩
 rintro en ⟨x10,x11,rfl⟩;have me:=EQ es gs;by_cases hz:(0:Int) < Sg (cn gs es) 61
 ·obtain ⟨r,r1,r2,r3,r4⟩:=w6 M (n:=Sg (cn gs es) 61 - 1) (by omega) (by omega);simp only [ws,hz];rw [<- r4];refine W.use (uV M T r2 r1 r3) ?_;rintro _ rfl;simp only [ws];refine W.use (pk (b:=false) (v:=.int (num gs es r)) (W.eq (oR M T r2 r1 r3))) ?_;rintro _ rfl;simp only [ws,r4,me];exact ⟨_,rfl⟩
 ·simp only [ws,hz,me];exact ⟨_,rfl⟩
end W30
set_option maxHeartbeats 4000000
namespace W30
open PySem L2
def n9 {α β:Type} {us:List α} {x0:β} (h:us.length=[x0].length):∃ a0,us=[a0]:=by
 cases us with
 | nil=>cases h
 | cons a0 r=>exact ⟨a0,by rw [List.length_eq_zero_iff.mp (show r.length=0 from Nat.succ.inj h)]⟩
def ef {α β:Type} {us:List α} {x0 x1:β} (h:us.length=[x0,x1].length):∃ a0 a1,us=[a0,a1]:=by
 cases us with
 | nil=>cases h
 | cons a0 r=>obtain ⟨a1,rfl⟩:=n9 (us:=r) (x0:=x1) (Nat.succ.inj h); exact ⟨a0,a1,rfl⟩
def iP {α β:Type} {us:List α} {x0 x1 x2:β} (h:us.length=[x0,x1,x2].length):∃ a0 a1 a2,us=[a0,a1,a2]:=by
 cases us with
 | nil=>cases h
 | cons a0 r=>obtain ⟨a1,a2,rfl⟩:=ef (us:=r) (x0:=x1) (x1:=x2) (Nat.succ.inj h); exact ⟨a0,a1,a2,rfl⟩
def ud {α β:Type} {us:List α} {x0 x1 x2 x3:β} (h:us.length=[x0,x1,x2,x3].length):∃ a0 a1 a2 a3,us=[a0,a1,a2,a3]:=by
 cases us with
 | nil=>cases h
 | cons a0 r=>obtain ⟨a1,a2,a3,rfl⟩:=iP (us:=r) (x0:=x1) (x1:=x2) (x2:=x3) (Nat.succ.inj h); exact ⟨a0,a1,a2,a3,rfl⟩
def all_mk {l:PySem.W.OpenLaw} {w:World} {K:PySem.W.Frag} {h:Heap} {mg:Str->Option Value} {fa f0 f1 f2 f3 f4 f5 f6 f7 f8 f9 f10 f11 f12 f13 f14 f15 f16 f17 f18 f19 f20 f21 f22 f23 f24 f25 f26 f27 f28 f29 f30 f31:Addr} {tk0:Tok} (X:K.In h) (G:h.Ns mainGlobals mg) (hfa:mg "law"=some (.ref fa))
  (d0:Df K "signs_of" kO f0)
  (d1:Df K "is_word" jS f1)
  (d2:Df K "row_of" lA f2)
  (d3:Df K "word_of" jQ f3)
  (d4:Df K "is_whole" kP f4)
  (d5:Df K "is_end" oE f5)
  (d6:Df K "led" yk f6)
  (d7:Df K "gone" uI f7)
  (d8:Df K "lets" uH f8)
  (d9:Df K "numbers_of_none" c9 f9)
  (d10:Df K "numbers_of_one_more" bX f10)
  (d11:Df K "table" rC f11)
  (d12:Df K "rows_by" mD f12)
  (d13:Df K "row_at" oD f13)
  (d14:Df K "word_at" jR f14)
  (d15:Df K "rows_ahead" gh f15)
  (d16:Df K "number_of" fH f16)
  (d17:Df K "_law_pen" kQ f17)
  (d18:Df K "_law_mixed" iX f18)
  (d19:Df K "_law_take" jU f19)
  (d20:Df K "_law_signs" iW f20)
  (d21:Df K "_law_goal" jX f21)
  (d22:Df K "_law_machine" dh f22)
  (d23:Df K "_law_tongue" fI f23)
  (d24:Df K "_law_table" eF f24)
  (d25:Df K "_law_gone" jW f25)
  (d26:Df K "_law_lets" jV f26)
  (d27:Df K "_law_word" jT f27)
  (d28:Df K "_law_asked" iY f28)
  (d29:Df K "_law_no_words" ce f29)
  (d30:Df K "_law_words" gi f30)
  (d31:Df K "law" iV f31)
  (y0:PySem.W.nsIn K mainGlobals "MOST_SIGNS_OF_A_WORD"=some (some (.int 60 tk0)))
  (qNoNumber:PySem.W.nsIn K mainGlobals "NoNumber"=some (some (.ref (clK K "NoNumber"))))
  (qNoWord:PySem.W.nsIn K mainGlobals "NoWord"=some (some (.ref (clK K "NoWord"))))
  (qNoFit:PySem.W.nsIn K mainGlobals "NoFit"=some (some (.ref (clK K "NoFit"))))
  (qWordError:PySem.W.nsIn K mainGlobals "WordError"=some (some (.ref (clK K "WordError"))))
  (qNoTongue:PySem.W.nsIn K mainGlobals "NoTongue"=some (some (.ref (clK K "NoTongue"))))
  (qNoSentence:PySem.W.nsIn K mainGlobals "NoSentence"=some (some (.ref (clK K "NoSentence"))))
  (qTooMany:PySem.W.nsIn K mainGlobals "TooMany"=some (some (.ref (clK K "TooMany"))))
  (qTooMuch:PySem.W.nsIn K mainGlobals "TooMuch"=some (some (.ref (clK K "TooMuch"))))
  (qElder:PySem.W.nsIn K mainGlobals "Elder"=some (some (.ref (clK K "Elder"))))
  (qNear:PySem.W.nsIn K mainGlobals "Near"=some (some (.ref (clK K "Near"))))
  (qNoBack:PySem.W.nsIn K mainGlobals "NoBack"=some (some (.ref (clK K "NoBack"))))
  (qNoText:PySem.W.nsIn K mainGlobals "NoText"=some (some (.ref (clK K "NoText"))))
  (qNoLine:PySem.W.nsIn K mainGlobals "NoLine"=some (some (.ref (clK K "NoLine"))))
  (qNoName:PySem.W.nsIn K mainGlobals "NoName"=some (some (.ref (clK K "NoName"))))
  (rNoNumber:PySem.W.excIn K (clK K "NoNumber") vE "ValueError.__new__"=true)
  (rNoWord:PySem.W.excIn K (clK K "NoWord") vE "ValueError.__new__"=true)
  (rNoFit:PySem.W.excIn K (clK K "NoFit") vE "ValueError.__new__"=true)
  (rWordError:PySem.W.excIn K (clK K "WordError") vE "ValueError.__new__"=true)
  (bWordError:Ed K kn0 "WordError"=true)
  (tNoNumber:fN K kn0 cP (.ref (clK K "NoNumber"))=true)
  (tNoWord:fN K kn0 eR (.ref (clK K "NoWord"))=true)
  (tNoFit:fN K kn0 fM (.ref (clK K "NoFit"))=true)
  (tValueError:fN K kn0 cg (.type "ValueError")=true)
  (tt0:p0 K kn0 xt0 (List.map Value.ref [clK K "NoTongue",clK K "NoSentence",clK K "TooMany",clK K "TooMuch",clK K "Elder",clK K "Near",clK K "NoBack",clK K "NoText",clK K "NoLine",clK K "NoName"])=true)
  (th0:tM K kn0 (.ref (clK K "NoNumber")) (.ref (clK K "NoWord")) (.ref (clK K "WordError"))=true)
  (z0:PySem.W.nsIn K mainGlobals "ValueError"=some none)
  (z1:PySem.W.nsIn K mainGlobals "abs"=some none)
  (z2:PySem.W.nsIn K mainGlobals "all"=some none)
  (z3:PySem.W.nsIn K mainGlobals "bool"=some none)
  (z4:PySem.W.nsIn K mainGlobals "enumerate"=some none)
  (z5:PySem.W.nsIn K mainGlobals "int"=some none)
  (z6:PySem.W.nsIn K mainGlobals "isinstance"=some none)
  (z7:PySem.W.nsIn K mainGlobals "len"=some none)
  (z8:PySem.W.nsIn K mainGlobals "list"=some none)
  (z9:PySem.W.nsIn K mainGlobals "max"=some none)
  (z10:PySem.W.nsIn K mainGlobals "min"=some none)
  (z11:PySem.W.nsIn K mainGlobals "range"=some none)
  (z12:PySem.W.nsIn K mainGlobals "str"=some none)
  (z13:PySem.W.nsIn K mainGlobals "sum"=some none)
  (z14:PySem.W.nsIn K mainGlobals "tuple"=some none) :
  ∃ fd:FuncData,(∀ (s:Shared) (v:Value),BindsTo s fd ⟨[v],[]⟩ [("_law_script",v)])/\∀ base:Heap,K.In base->base.Ns mainGlobals mg->FnOk l.prog w K mg base CX0 6 fa fd ["_law_script"] (mQ K):=by
 have e:=hfa.symm.trans (zba X G d31.a);cases e;have v0:=zba X G y0;have mqNoNumber:=zba X G qNoNumber;have mqNoWord:=zba X G qNoWord;have mqNoFit:=zba X G qNoFit;have mqWordError:=zba X G qWordError;have mqNoTongue:=zba X G qNoTongue;have mqNoSentence:=zba X G qNoSentence;have mqTooMany:=zba X G qTooMany;have mqTooMuch:=zba X G qTooMuch;have mqElder:=zba X G qElder;have mqNear:=zba X G qNear;have mqNoBack:=zba X G qNoBack;have mqNoText:=zba X G qNoText;have mqNoLine:=zba X G qNoLine;have mqNoName:=zba X G qNoName;have HWordError:ExcK K mg kn0 "WordError":=⟨bWordError,mqWordError,rWordError⟩;have T:Bl mg:=⟨za9 X G z0,za9 X G z1,za9 X G z2,za9 X G z3,za9 X G z4,za9 X G z5,za9 X G z6,za9 X G z7,za9 X G z8,za9 X G z9,za9 X G z10,za9 X G z11,za9 X G z12,za9 X G z13,za9 X G z14⟩;obtain ⟨oc,od,kV,dc,pm,an,cd,ct,sl,ll,lc⟩:=d31.l;have FL:=qU (st:=iV) ll lc d31.k;refine ⟨PySem.W.fnOf "law" "law" (dR iV) (cx iV) (aj iV) .none kV dc pm an cd ct,fun s v=>.of_eq rfl,fun base _ _=>?_⟩;have g0:Kn l.prog w K mg base 1 "signs_of" ["tongue"] (spF K [0] 3 b8):=d0.kn X G (fun _ _ _ _ _ _ us hl=>by obtain ⟨a0,rfl⟩:=n9 hl; rfl) fun _ F=>tW (k:=0) T     F;have g1:Kn l.prog w K mg base 2 "is_word" ["tongue", "thing"] (spF K [0,0] 3 bz):=d1.kn X G (fun _ _ _ _ _ _ us hl=>by obtain ⟨a0,a1,rfl⟩:=ef hl; rfl) fun _ F=>vn (k:=1) T v0 (g0.mono (by decide))   F;have g2:Kn l.prog w K mg base 2 "row_of" ["tongue", "word"] (spF K [0,0] 3 dU):=d2.kn X G (fun _ _ _ _ _ _ us hl=>by obtain ⟨a0,a1,rfl⟩:=ef hl; rfl) fun _ F=>wX (k:=1) T  (g0.mono (by decide))   F;have g3:Kn l.prog w K mg base 2 "word_of" ["tongue", "row"] (spF K [0,0] 3 e8):=d3.kn X G (fun _ _ _ _ _ _ us hl=>by obtain ⟨a0,a1,rfl⟩:=ef hl; rfl) fun _ F=>vj (k:=1) T  (g0.mono (by decide))   F;have g4:Kn l.prog w K mg base 1 "is_whole" ["thing"] (spF K [0] 3 bc):=d4.kn X G (fun _ _ _ _ _ _ us hl=>by obtain ⟨a0,rfl⟩:=n9 hl; rfl) fun _ F=>tY (k:=0) T     F;have g5:Kn l.prog w K mg base 1 "is_end" ["machine", "stand"] (spF K [0,0] 0 fZ):=d5.kn X G (fun _ _ _ _ _ _ us hl=>by obtain ⟨a0,a1,rfl⟩:=ef hl; rfl) fun _ F=>wZ (k:=0) T     F;have g6:Kn l.prog w K mg base 1 "led" ["machine", "stand", "sign"] (spF K [0,0,0] 0 mK):=d6.kn X G (fun _ _ _ _ _ _ us hl=>by obtain ⟨a0,a1,a2,rfl⟩:=iP hl; rfl) fun _ F=>Kr (k:=0) T     F;have g7:Kn l.prog w K mg base 2 "gone" ["machine", "stand", "row"] (spF K [0,0,0] 0 lB):=d7.kn X G (fun _ _ _ _ _ _ us hl=>by obtain ⟨a0,a1,a2,rfl⟩:=iP hl; rfl) fun _ F=>ID (k:=1) T  (g6.mono (by decide))   F;have g8:Kn l.prog w K mg base 3 "lets" ["machine", "row"] (spF K [0,0] 0 gP):=d8.kn X G (fun _ _ _ _ _ _ us hl=>by obtain ⟨a0,a1,rfl⟩:=ef hl; rfl) fun _ F=>IC (k:=2) T  (g5.mono (by decide)) (g7.mono (by decide))   F;have g9:Kn l.prog w K mg base 1 "numbers_of_none" ["machine"] (spF K [0] 3 br):=d9.kn X G (fun _ _ _ _ _ _ us hl=>by obtain ⟨a0,rfl⟩:=n9 hl; rfl) fun _ F=>lD (k:=0) T     F;have g10:Kn l.prog w K mg base 1 "numbers_of_one_more" ["machine", "fewer"] (spF K [0,0] 3 aW):=d10.kn X G (fun _ _ _ _ _ _ us hl=>by obtain ⟨a0,a1,rfl⟩:=ef hl; rfl) fun _ F=>jf (k:=0) T     F;have g11:Kn l.prog w K mg base 2 "table" ["machine", "most"] (spF K [0,0] 0 cr):=d11.kn X G (fun _ _ _ _ _ _ us hl=>by obtain ⟨a0,a1,rfl⟩:=ef hl; rfl) fun _ F=>EH (k:=1) T  (g9.mono (by decide)) (g10.mono (by decide))   F;have g12:Kn l.prog w K mg base 1 "rows_by" ["machine", "stand", "sign", "behind"] (spF K [0,0,0,0] 0 cD):=d12.kn X G (fun _ _ _ _ _ _ us hl=>by obtain ⟨a0,a1,a2,a3,rfl⟩:=ud hl; rfl) fun _ F=>vm (k:=0) T     F;have g13:Kn l.prog w K mg base 2 "row_at" ["machine", "lists", "length", "number"] (spF K [0,0,0,0] 0 fY):=d13.kn X G (fun _ _ _ _ _ _ us hl=>by obtain ⟨a0,a1,a2,a3,rfl⟩:=ud hl; rfl) fun _ F=>wY (k:=1) T  (g12.mono (by decide))   F;have g14:Kn l.prog w K mg base 3 "word_at" ["tongue", "machine", "number"] (spF K [0,0,0] 3 bL):=d14.kn X G (fun _ _ _ _ _ _ us hl=>by obtain ⟨a0,a1,a2,rfl⟩:=iP hl; rfl) fun _ F=>vk (k:=2) T v0 (g11.mono (by decide)) (g4.mono (by decide)) (g3.mono (by decide)) (g13.mono (by decide))   F;have g14N:KnX l.prog w K mg base 3 "word_at" ["tongue", "machine", "number"] (spN K [0,0,0] (clK K) cO):=d14.knX X G (fun _ _ _ _ _ _ us hl=>by obtain ⟨a0,a1,a2,rfl⟩:=iP hl; rfl) fun _ F=>wc (k:=2) T v0 (g11.mono (by decide)) (g4.mono (by decide)) (g3.mono (by decide)) (g13.mono (by decide)) mqNoNumber rNoNumber F;have g15:Kn l.prog w K mg base 2 "rows_ahead" ["machine", "lists", "row"] (spF K [0,0,0] 0 cE):=d15.kn X G (fun _ _ _ _ _ _ us hl=>by obtain ⟨a0,a1,a2,rfl⟩:=iP hl; rfl) fun _ F=>qo (k:=1) T  (g12.mono (by decide))   F;have g16:Kn l.prog w K mg base 4 "number_of" ["tongue", "machine", "word"] (spF K [0,0,0] 3 bP):=d16.kn X G (fun _ _ _ _ _ _ us hl=>by obtain ⟨a0,a1,a2,rfl⟩:=iP hl; rfl) fun _ F=>rN (k:=3) T  (g2.mono (by decide)) (g11.mono (by decide)) (g1.mono (by decide)) (g8.mono (by decide)) (g15.mono (by decide))   F;have g16N:KnX l.prog w K mg base 4 "number_of" ["tongue", "machine", "word"] (spN K [0,0,0] (clK K) cC):=d16.knX X G (fun _ _ _ _ _ _ us hl=>by obtain ⟨a0,a1,a2,rfl⟩:=iP hl; rfl) fun _ F=>rZ (k:=3) T  (g2.mono (by decide)) (g11.mono (by decide)) (g1.mono (by decide)) (g8.mono (by decide)) (g15.mono (by decide)) mqNoWord rNoWord mqNoFit rNoFit F;have g17:Kn l.prog w K mg base 1 "_law_pen" ["_law_script", "_law_first"] (spF K [0,0] 1 cA):=d17.kn X G (fun _ _ _ _ _ _ us hl=>by obtain ⟨a0,a1,rfl⟩:=ef hl; rfl) fun _ F=>tZ (k:=0) T     F;have g18:Kn l.prog w K mg base 1 "_law_mixed" ["_law_cell", "_law_k"] (spF K [0,0] 3 b9):=d18.kn X G (fun _ _ _ _ _ _ us hl=>by obtain ⟨a0,a1,rfl⟩:=ef hl; rfl) fun _ F=>qu (k:=0) T     F;have g19:Kn l.prog w K mg base 2 "_law_take" ["_law_pen_here", "_law_most"] (spF K [1,0] 0 aq):=d19.kn X G (fun _ _ _ _ _ _ us hl=>by obtain ⟨a0,a1,rfl⟩:=ef hl; rfl) fun _ F=>rP (k:=1) T  (g18.mono (by decide))   F;have g20:Kn l.prog w K mg base 3 "_law_signs" ["_law_pen_here"] (spF K [1] 0 dA):=d20.kn X G (fun _ _ _ _ _ _ us hl=>by obtain ⟨a0,rfl⟩:=n9 hl; rfl) fun _ F=>qt (k:=2) T  (g19.mono (by decide))   F;have g21:Kn l.prog w K mg base 3 "_law_goal" ["_law_pen_here", "_law_stand", "_law_stands", "_law_way"] (spF K [1,0,0,0] 0 bB):=d21.kn X G (fun _ _ _ _ _ _ us hl=>by obtain ⟨a0,a1,a2,a3,rfl⟩:=ud hl; rfl) fun _ F=>rS (k:=2) T  (g19.mono (by decide))   F;have g22:Kn l.prog w K mg base 4 "_law_machine" ["_law_pen_here", "_law_signs_here", "_law_most"] (spF K [1,0,0] 0 cy):=d22.kn X G (fun _ _ _ _ _ _ us hl=>by obtain ⟨a0,a1,a2,rfl⟩:=iP hl; rfl) fun _ F=>nX (k:=3) T  (g19.mono (by decide)) (g21.mono (by decide))   F;have g23:Kn l.prog w K mg base 3 "_law_tongue" ["_law_pen_here", "_law_many"] (spF K [1,0] 0 cK):=d23.kn X G (fun _ _ _ _ _ _ us hl=>by obtain ⟨a0,a1,rfl⟩:=ef hl; rfl) fun _ F=>pD (k:=2) T  (g19.mono (by decide))   F;have g24:Kn l.prog w K mg base 1 "_law_table" ["_law_machine_here", "_law_most"] (spF K [0,0] 0 dz):=d24.kn X G (fun _ _ _ _ _ _ us hl=>by obtain ⟨a0,a1,rfl⟩:=ef hl; rfl) fun _ F=>qr (k:=0) T     F;have g25:Kn l.prog w K mg base 1 "_law_gone" ["_law_machine_here", "_law_stand", "_law_row"] (spF K [0,0,0] 0 dW):=d25.kn X G (fun _ _ _ _ _ _ us hl=>by obtain ⟨a0,a1,a2,rfl⟩:=iP hl; rfl) fun _ F=>rR (k:=0) T     F;have g26:Kn l.prog w K mg base 2 "_law_lets" ["_law_machine_here", "_law_row"] (spF K [0,0] 0 de):=d26.kn X G (fun _ _ _ _ _ _ us hl=>by obtain ⟨a0,a1,rfl⟩:=ef hl; rfl) fun _ F=>rQ (k:=1) T  (g25.mono (by decide))   F;have g27:Kn l.prog w K mg base 1 "_law_word" ["_law_caught"] (spF K [0] 0 bA):=d27.kn X G (fun _ _ _ _ _ _ us hl=>by obtain ⟨a0,rfl⟩:=n9 hl; rfl) fun _ F=>rO (k:=0) T   mqNoNumber tNoNumber mqNoWord tNoWord mqNoFit tNoFit tValueError mqNoTongue mqNoSentence mqTooMany mqTooMuch mqElder mqNear mqNoBack mqNoText mqNoLine mqNoName tt0  F;have g28:Kn l.prog w K mg base 5 "_law_asked" ["_law_tongue_here", "_law_machine_here", "_law_thing", "_law_at"] (spF K [0,0,0,0] 0 bf):=d28.kn X G (fun _ _ _ _ _ _ us hl=>by obtain ⟨a0,a1,a2,a3,rfl⟩:=ud hl; rfl) fun _ F=>qv (k:=4) T  (g27.mono (by decide)) (g14.mono (by decide)) (g16.mono (by decide)) (g14N.mono (by decide)) (g16N.mono (by decide)) HWordError mqNoNumber mqNoWord th0  F;have g29:Kn l.prog w K mg base 3 "_law_no_words" ["_law_pen_here", "_law_letters"] (spF K [1,0] 1 cf):=d29.kn X G (fun _ _ _ _ _ _ us hl=>by obtain ⟨a0,a1,rfl⟩:=ef hl; rfl) fun _ F=>mU (k:=2) T  (g19.mono (by decide))   F;have g30:Kn l.prog w K mg base 3 "_law_words" ["_law_pen_here", "_law_letters"] (spF K [1,0] 0 dy):=d30.kn X G (fun _ _ _ _ _ _ us hl=>by obtain ⟨a0,a1,rfl⟩:=ef hl; rfl) fun _ F=>qp (k:=2) T  (g19.mono (by decide))   F;exact (Ks (k:=5) T  (g17.mono (by decide)) (g20.mono (by decide)) (g22.mono (by decide)) (g23.mono (by decide)) (g29.mono (by decide)) (g30.mono (by decide)) (g26.mono (by decide)) (g14.mono (by decide)) (g28.mono (by decide)) (g24.mono (by decide))   FL).imp fun vs H Q E h=>IL xg h
def walk {l:PySem.W.OpenLaw} {q:Program} {loose:List Str} {XP:(Str->Option Value)->Heap->Prop} {YP:World->Heap->Prop} {d:DefRec} {K:Params->PySem.W.Frag} (hn:l.most=some 63) (hdf:d.params.defaults=[]) (hq:PyProof.Rows.importsNone q=true)
  (hY:∀ (w:World) (h:Heap),YP w h->(K w.params).In h)
  (F:∀ (w:World) (mg:Str->Option Value) (fa:Addr) (h:Heap),(K w.params).In h->h.Ns mainGlobals mg->mg d.name=some (.ref fa) ->
   ∃ fd:FuncData,(∀ (s:Shared) (u:Value),BindsTo s fd ⟨[u],[]⟩ [("_law_script",u)])/\∀ base:Heap,(K w.params).In base->base.Ns mainGlobals mg->FnOk l.prog w (K w.params) mg base CX0 6 fa fd ["_law_script"] (mQ (K w.params))) :
  PySem.W.WalkO q loose XP YP l.row.toRowW d [] (fun f vs=>PySem.call f vs) :=
 L2.walk_of (n:=63) (k:=6) (x:="_law_script") (CX:=fun _=>CX0) (sp:=fun w=>mQ (K w.params)) hn (by decide) hdf ⟨rfl,by decide,by decide,rfl⟩ hq hY F (fun _ _ a ns hl hO hS=>⟨a,ns,rfl,hS,hO,hl,fun _=>rfl⟩) fun _ _ _ _ _ z=>z
end W30
open PySem PySem.W PyProof.Rows
set_option maxRecDepth 100000 in
set_option maxHeartbeats 0 in
theorem PySem.Challenge.cw_wordrules_k30_order_refused_holds : PySem.Challenge.rw_wordrules_k30_order_refused.Holds := by
 w_on; o_law; k_head; (case hw=>w_witness2)
 k_fill
 refine W30.walk (l:=PySem.Challenge.rw_wordrules_k30_order_refused) rfl rfl rfl (fun w h Y=>PySem.W.kIn_of Y) ?F
 case F =>
  intro w mg fa h KX G hmg;refine' W30.all_mk KX G hmg (.mk' ?_ ?_ ?_ ?_) (.mk' ?_ ?_ ?_ ?_) (.mk' ?_ ?_ ?_ ?_) (.mk' ?_ ?_ ?_ ?_) (.mk' ?_ ?_ ?_ ?_) (.mk' ?_ ?_ ?_ ?_) (.mk' ?_ ?_ ?_ ?_) (.mk' ?_ ?_ ?_ ?_) (.mk' ?_ ?_ ?_ ?_) (.mk' ?_ ?_ ?_ ?_) (.mk' ?_ ?_ ?_ ?_) (.mk' ?_ ?_ ?_ ?_) (.mk' ?_ ?_ ?_ ?_) (.mk' ?_ ?_ ?_ ?_) (.mk' ?_ ?_ ?_ ?_) (.mk' ?_ ?_ ?_ ?_) (.mk' ?_ ?_ ?_ ?_) (.mk' ?_ ?_ ?_ ?_) (.mk' ?_ ?_ ?_ ?_) (.mk' ?_ ?_ ?_ ?_) (.mk' ?_ ?_ ?_ ?_) (.mk' ?_ ?_ ?_ ?_) (.mk' ?_ ?_ ?_ ?_) (.mk' ?_ ?_ ?_ ?_) (.mk' ?_ ?_ ?_ ?_) (.mk' ?_ ?_ ?_ ?_) (.mk' ?_ ?_ ?_ ?_) (.mk' ?_ ?_ ?_ ?_) (.mk' ?_ ?_ ?_ ?_) (.mk' ?_ ?_ ?_ ?_) (.mk' ?_ ?_ ?_ ?_) (.mk' ?_ ?_ ?_ ?_) ?_ ?kx0 ?kx1 ?kx2 ?kx3 ?kx4 ?kx5 ?kx6 ?kx7 ?kx8 ?kx9 ?kx10 ?kx11 ?kx12 ?kx13 ?kx14 ?kx15 ?kx16 ?kx17 ?kx18 ?kx19 ?kx20 ?kx21 ?kx22 ?kx23 ?kx24 ?_ ?_ ?_ ?_ ?_ ?_ ?_ ?_ ?_ ?_ ?_ ?_ ?_ ?_ ?_
  case kx0=>kernel_rfl
  case kx1=>kernel_rfl
  case kx2=>kernel_rfl
  case kx3=>kernel_rfl
  case kx4=>kernel_rfl
  case kx5=>kernel_rfl
  case kx6=>kernel_rfl
  case kx7=>kernel_rfl
  case kx8=>kernel_rfl
  case kx9=>kernel_rfl
  case kx10=>kernel_rfl
  case kx11=>kernel_rfl
  case kx12=>kernel_rfl
  case kx13=>kernel_rfl
  case kx14=>kernel_rfl
  case kx15=>kernel_rfl
  case kx16=>kernel_rfl
  case kx17=>kernel_rfl
  case kx18=>kernel_rfl
  case kx19=>kernel_rfl
  case kx20=>kernel_rfl
  case kx21=>kernel_rfl
  case kx22=>kernel_rfl
  case kx23=>kernel_rfl
  case kx24=>kernel_rfl
  all_goals (try k_is)
