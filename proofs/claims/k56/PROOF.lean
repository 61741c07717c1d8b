import PyProof.Rows.All
import Wide.All
import OpenK.AllK
import Wide.FinOn
import Lean
import PyProof.EqAt
import PyProof.EqKinds
import PyProof.TupleCall
import PyProof.NeKinds
import PyProof.ConsumeWalk
import PyProof.ZipIter
import PyProof.EnumMake
import PyProof.EnumFor
import PyProof.StrWalks
import PyProof.ListStr
import PyProof.SliceStr2
import PyProof.StrBlockI
import PyProof.Rows.StrWeight2
import PyProof.Rows.ZipGen
import PyProof.Rows.StrIndexOr
import PyProof.Draws
import PyProof.RaisesStr
import PyProof.Rows.StrCountLaw
import PyProof.SumWalk
import PyProof.ReprRoads
import PyProof.ReprLen
import PyProof.CallFns
import PyProof.SumAny
import PyProof.SumAnyB
import PySem.Challenge.RW_wordrules_k56_rule_texts
set_option Elab.async false
set_option linter.all false
set_option maxRecDepth 100000
section
open PySem PyProof.Rows
def zaa:=@Option.bind_eq_some_iff
def zab:=@Option.map_eq_some_iff
def zac:=@List.length_cons
def zad:=@List.length_map
def zae:=@List.length_append
def zaf:=@Heap.get?_push_of_some
def zag:=@Nat.lt_of_lt_of_le
def zah:=@List.getElem?_eq_some_iff
def zai:=@List.size_toArray
def zaj:=@List.mem_cons_of_mem
def zak:=@List.getElem?_eq_getElem
def zal:=@Heap.lt_size
def zam:=@wpAny_bind
def zan:=@Heap.get?_push_size
def zao:=@List.getElem?_map
def zap:=@List.not_mem_nil
def zaq:=@List.mem_cons_self
def zar:=@List.map_cons
def zas:=@List.lookup_cons
def zat:=@Option.some.inj
def zau:=@Nat.le_trans
def zav:=@Nat.le_refl
def zaw:=@Nat.ne_of_lt
def zax:=@List.mem_append
def zay:=@List.mem_cons
def zaz:=@List.mem_map
def zaA:=@decide_eq_false
def zaB:=@decide_eq_true
def zaC:=@List.map_append
def zaD:=@List.append_assoc
def zaE:=@List.length_take
def zaF:=@List.length_drop
def zaH:=@List.mem_singleton
def zaI:=@Nat.lt_irrefl
def zaL:=@Int.toNat_natCast
def zaM:=@Int.eq_ofNat_of_zero_le
def zaO:=@List.getElem?_set_ne
def zaP:=@List.getElem?_set_self
def zaQ:=@List.take_length
def zaS:=@List.getElem?_append_left
def zaT:=@wpAny_pure
def zaU:=@PySem.mem_of_lookup
def zaV:=@List.length_set
def zaX:=@List.mem_of_getElem?
def zaY:=@Array.length_toList
def zaZ:=@List.cons_append
def za0:=@List.map_nil
def za1:=@Prod.mk.injEq
def za7:=@List.length_eq_zero_iff
def za8:=@PySem.W.mg_none_of
def za9:=@PySem.W.mg_of
def zba:=@Int.emod_nonneg
def zbb:=@Int.emod_lt_of_pos
def zbc:=@List.nodup_cons
end
namespace PySem.W.Fast
def tw1003129786333197144:=0
def tw10162852664926541293:=0
def tw10176119718079628225:=0
def tw10180925844261318921:=0
def tw10203327081963825795:=0
def tw10219519521105509628:=0
def tw10242562282899954442:=0
def tw10348183573513259032:=0
def tw10588391150063339229:=0
def tw10717903829794217940:=0
def tw1076488310130651666:=0
def tw10774078059444695399:=0
def tw10809751748414573445:=0
def tw10818957281285877700:=0
def tw10838058616248324004:=0
def tw10911713407554833057:=0
def tw10942026149938837021:=0
def tw11028725766574431103:=0
def tw11137610022378824975:=0
def tw11181654834968441444:=0
def tw11296557059978743059:=0
def tw1149223912723798169:=0
def tw11675987946012501897:=0
def tw11685231178618508170:=0
def tw11737435806851384709:=0
def tw11747168524100854610:=0
def tw11762271563916062235:=0
def tw11918788841023747361:=0
def tw11939745844328960467:=0
def tw12295235839598678865:=0
def tw12295730884288390624:=0
def tw1244492455895930769:=0
def tw12529446018588642009:=0
def tw12564785204038088187:=0
def tw12607287267830954490:=0
def tw12645926537258029646:=0
def tw12730372286169131295:=0
def tw12757324579472265775:=0
def tw12916862482298005084:=0
def tw12988035707669868233:=0
def tw13003867429484544504:=0
def tw13021579748175814905:=0
def tw1319361520853693135:=0
def tw13230097449888596398:=0
def tw13271046225001795506:=0
def tw13272074197035212787:=0
def tw13295638916659096627:=0
def tw13423101168682732296:=0
def tw1350848200620588503:=0
def tw13520262621193336568:=0
def tw13737806520534514352:=0
def tw13781550241944979037:=0
def tw13828277441147355240:=0
def tw13894886478107011517:=0
def tw1394894163426269301:=0
def tw14045225862186851393:=0
def tw14159105101336753019:=0
def tw14161494821412825315:=0
def tw14171722322917728002:=0
def tw14205192229642524653:=0
def tw14217884998384375618:=0
def tw14219977142506819954:=0
def tw14406238693057996931:=0
def tw14468090476589083890:=0
def tw1447615190798519516:=0
def tw14479421387275778927:=0
def tw14503916800498862624:=0
def tw14514410329046005834:=0
def tw1461706958243786615:=0
def tw14832778987839601910:=0
def tw14870414881861335530:=0
def tw15006777412176833396:=0
def tw15014652325548950260:=0
def tw15017731217085579054:=0
def tw15157089480482274402:=0
def tw1523199664303861869:=0
def tw15269078349159199203:=0
def tw15324983748387857281:=0
def tw15479815250018405540:=0
def tw15526715322834480684:=0
def tw15598893982729322745:=0
def tw15614417778054506839:=0
def tw15878838743158665912:=0
def tw15956718946893916685:=0
def tw15968834825041841036:=0
def tw15993119617806489174:=0
def tw1600830879409984082:=0
def tw16032321630419191761:=0
def tw16045247754244940044:=0
def tw16070038749318647501:=0
def tw16109512515205101221:=0
def tw1612933187854332786:=0
def tw16188920969915613090:=0
def tw16608887416356470091:=0
def tw16916276923974388353:=0
def tw16948744832845463172:=0
def tw1695195700014362325:=0
def tw17129012399967885265:=0
def tw17313588879931069954:=0
def tw17347063149988161749:=0
def tw17348496055537647351:=0
def tw17366536210726918130:=0
def tw1738296815011944855:=0
def tw17550652725588000216:=0
def tw17618495572308011343:=0
def tw17658271230251428934:=0
def tw17700319666161487061:=0
def tw17742277282664827862:=0
def tw17750498155385855889:=0
def tw17767673605247836527:=0
def tw17825969613851818628:=0
def tw17827137267139903931:=0
def tw17932754844234469261:=0
def tw1793745245379746132:=0
def tw17938609077975927072:=0
def tw17969299689394910077:=0
def tw18002112889458268617:=0
def tw18030701837461901844:=0
def tw1809920153851462711:=0
def tw18130002693954078457:=0
def tw18214342768168151900:=0
def tw1822121852183395625:=0
def tw18243356323840325057:=0
def tw18281990460532974618:=0
def tw18330909633613158080:=0
def tw18359287492707556618:=0
def tw18400614361310561326:=0
def tw18429347634615815947:=0
def tw1908116548452737506:=0
def tw1972034399839053099:=0
def tw1978504249705669513:=0
def tw2035057089630624990:=0
def tw2104133170872650277:=0
def tw2113590123060049683:=0
def tw2181581201991815084:=0
def tw2385356088536347672:=0
def tw2419159805930886797:=0
def tw2439573807316572003:=0
def tw258644065276370736:=0
def tw2624733145742469656:=0
def tw2661378718549683783:=0
def tw270655775065659393:=0
def tw2708740346607352773:=0
def tw272085330732916651:=0
def tw2784925243806624137:=0
def tw2878727667972256180:=0
def tw2890270817289072334:=0
def tw3144953857165063834:=0
def tw3151920879661103237:=0
def tw3180281243555284677:=0
def tw3198642178406960840:=0
def tw323473755130385631:=0
def tw3237372552081996725:=0
def tw3260467847924265137:=0
def tw3475305518588440766:=0
def tw3504123485388626139:=0
def tw3592750289676853647:=0
def tw3612829946376563198:=0
def tw3650604451370699729:=0
def tw3716744457414581190:=0
def tw38067891402635980:=0
def tw3807738010973384213:=0
def tw3818125457241453590:=0
def tw3872592917542207584:=0
def tw3884146942239052190:=0
def tw3898123181632513884:=0
def tw3926559351049358777:=0
def tw3994929911143902040:=0
def tw41612768554648530:=0
def tw4250575121855691329:=0
def tw4261075228087883701:=0
def tw4263708197524378421:=0
def tw427846787438744986:=0
def tw4323786159264509658:=0
def tw4430954206191282254:=0
def tw4496642535469395029:=0
def tw4497635277527902401:=0
def tw4519115061650835052:=0
def tw4533552499548398802:=0
def tw4572716380426827031:=0
def tw4575194475291501500:=0
def tw4620908837720783663:=0
def tw4673795478896461029:=0
def tw4740558625548433109:=0
def tw4776993530552093638:=0
def tw4876988667670497913:=0
def tw513089415083283506:=0
def tw516224091664650782:=0
def tw5246055937551938529:=0
def tw5340206928175723981:=0
def tw5506284625122557783:=0
def tw5530503462338351512:=0
def tw5538878851087488588:=0
def tw5596199485224790988:=0
def tw5686976294288642032:=0
def tw5788716333812153019:=0
def tw5839011717744723192:=0
def tw5910105066734743693:=0
def tw6003044084041088350:=0
def tw6026634223064565351:=0
def tw6037946484691327812:=0
def tw6067487615102770779:=0
def tw6102934564241858354:=0
def tw6111985033121732768:=0
def tw62952124101499634:=0
def tw6346927574210035027:=0
def tw6376273694628455981:=0
def tw6463949413739877139:=0
def tw6501499412831011006:=0
def tw6530851355729052262:=0
def tw6629291347867537773:=0
def tw6715177973107097499:=0
def tw6939399065007361405:=0
def tw7030350779758541397:=0
def tw7202974541334639398:=0
def tw7224419079610894732:=0
def tw7226729294104105765:=0
def tw7354075409814047495:=0
def tw7412007032615801470:=0
def tw7470132726447802653:=0
def tw7500968589248554492:=0
def tw7523694931113713702:=0
def tw7601955824778691466:=0
def tw7687368280909445708:=0
def tw7782884413202916341:=0
def tw7793938378037475718:=0
def tw785515713227334191:=0
def tw7916808647110961107:=0
def tw822372950360029220:=0
def tw8342863786947351304:=0
def tw837149945353125548:=0
def tw846271749857893943:=0
def tw8464633055978036658:=0
def tw8478379410890857954:=0
def tw8578852465503581196:=0
def tw8588463430367785676:=0
def tw8591351137590812680:=0
def tw8608195243919951783:=0
def tw8658182457375213999:=0
def tw8734840629588619327:=0
def tw8832451329431693004:=0
def tw8848179295084478118:=0
def tw8879722224705059325:=0
def tw8926037089493593278:=0
def tw8948249481451580173:=0
def tw898320966172393764:=0
def tw9063009750206808620:=0
def tw9092661347444244726:=0
def tw9143257042634246980:=0
def tw9182830041345778893:=0
def tw921465139636730904:=0
def tw9259934588528926129:=0
def tw9272260991378884949:=0
def tw9274172714661752262:=0
def tw9297195681176726690:=0
def tw9327230202695736758:=0
def tw9338990332139396490:=0
def tw9412000933020678671:=0
def tw9426783026955739564:=0
def tw9497919796504219498:=0
def tw9612542649544503748:=0
def tw9659235361403246932:=0
def tw9753950422856584377:=0
def tw9822402023762152353:=0
def tw9872544801923342514:=0
def tw9876113324519762927:=0
def tw9980461287958379626:=0
end PySem.W.Fast
namespace L2
open PySem PySem.Spec PyProof.Rows
abbrev Key:=Sum Int Str
def j4:Key->Value->Bool
 | .inl k,v=>Value.isInt k v
 | .inr x,v=>Value.isStrOf x v
def J7 (w:World):Key->Int
 | .inl k=>hashInt k
 | .inr x=>hashStr w x
def bQ:∀ {k:Key} {v:Value},j4 k v=true->(∃ i t,k=Sum.inl i/\v=Value.int i t)\/(∃ x t,k=Sum.inr x/\v=Value.str x t)
 | .inl i,v,h=>by
  obtain ⟨t,e⟩:=Value.isInt_shape (k:=i) (v:=v) h;exact .inl ⟨i,t,rfl,e⟩
 | .inr x,v,h=>by
  obtain ⟨t,e⟩:=Value.isStrOf_shape (x:=x) (v:=v) h;exact .inr ⟨x,t,rfl,e⟩
def va (i:Int) (t:Tok):j4 (.inl i) (.int i t)=true:=by simp [j4,Value.isInt]
def u9 (x:Str) (t:Tok):j4 (.inr x) (.str x t)=true:=by simp [j4,Value.isStrOf]
def u8 (a b:Int):decide ((Sum.inl a:Key)=Sum.inl b)=(a == b):=by
 by_cases e:a=b
 ·subst e; simp
 ·have h:¬ (Sum.inl a:Key)=Sum.inl b:=fun q=>e (Sum.inl.inj q);rw [zaA h];exact (beq_eq_false_iff_ne.mpr e).symm
def u5 (a b:Str):decide ((Sum.inr a:Key)=Sum.inr b)=decide (a=b):=by
 by_cases e:a=b
 ·subst e; simp
 ·have h:¬ (Sum.inr a:Key)=Sum.inr b:=fun q=>e (Sum.inr.inj q);rw [zaA h,zaA e]
def u7 (a:Int) (b:Str):decide ((Sum.inl a:Key)=Sum.inr b)=false:=zaA (fun q=>nomatch q)
def u6 (a:Str) (b:Int):decide ((Sum.inr a:Key)=Sum.inl b)=false:=zaA (fun q=>nomatch q)
def bO (prog:Program) (w:World):PySem.KeyKind prog w Key where
 is:=j4
 hash:=J7 w
 inj:=fun v a b ha hb=>by
  rcases bQ ha with ⟨i,t,rfl,rfl⟩ | ⟨x,t,rfl,rfl⟩
  ·rcases bQ hb with ⟨j,u,rfl,e⟩ | ⟨y,u,rfl,e⟩
   ·injection e with e1 _; rw [e1]
   ·exact nomatch e
  ·rcases bQ hb with ⟨j,u,rfl,e⟩ | ⟨y,u,rfl,e⟩
   ·exact nomatch e
   ·injection e with e1 _; rw [e1]
 byValue:=fun k v h=>by
  rcases bQ h with ⟨i,t,rfl,rfl⟩ | ⟨x,t,rfl,rfl⟩ <;> rfl
 pyHash:=fun hv h=>by
  rcases bQ hv with ⟨i,t,rfl,rfl⟩ | ⟨x,t,rfl,rfl⟩
  ·exact wpAny_pyHash_int h
  ·exact wpAny_pyHash_str h
 eqBool:=fun hu hv h=>by
  rcases bQ hu with ⟨i,t,rfl,rfl⟩ | ⟨x,t,rfl,rfl⟩
  ·rcases bQ hv with ⟨j,u,rfl,rfl⟩ | ⟨y,u,rfl,rfl⟩
   ·rw [u8] at h; exact wpAny_eqBool_int h
   ·rw [u7] at h; exact SeqAt.EqAt.int_str i t y u _ _ _ _ h
  ·rcases bQ hv with ⟨j,u,rfl,rfl⟩ | ⟨y,u,rfl,rfl⟩
   ·rw [u6] at h; exact SeqAt.EqAt.str_int x t j u _ _ _ _ h
   ·rw [u5] at h; exact wpAny_eqBool_str h
 «strs»:=fun k x t v h=>by
  rcases bQ h with ⟨i,u,rfl,e⟩ | ⟨y,u,rfl,e⟩
  ·exact nomatch e
  ·injection e with e1 _
   subst e1;cases v <;> rfl
def rV (prog:Program) (w:World) (i:Int) (t:Tok):(bO prog w).is (.inl i) (.int i t)=true:=va i t
def rU (prog:Program) (w:World) (x:Str) (t:Tok):(bO prog w).is (.inr x) (.str x t)=true:=u9 x t
inductive V where
 | non | bl (b:Bool) | int (i:Int) | str (x:Str) | byt (b:Array UInt8) | flt (b:UInt64) | ref (a:Addr) | ty (n:String)
 deriving DecidableEq
def RelV:V->Value->Prop
 | .non,u=>u=Value.none
 | .bl b,u=>u=Value.bool b
 | .int i,u=>∃ t,u=Value.int i t
 | .str x,u=>∃ t,u=Value.str x t
 | .byt b,u=>∃ t,u=Value.bytes b t
 | .flt b,u=>∃ t,u=Value.float b t
 | .ref a,u=>u=Value.ref a
 | .ty n,u=>u=Value.type n
abbrev Vals:List V->List Value->Prop:=Paired RelV
def Vals.length {xs:List V} {us:List Value} (r:Vals xs us):xs.length=us.length:=Paired.length r
def Vals.get:∀ {xs:List V} {us:List Value} {i:Nat} {x:V},Vals xs us->xs[i]?=some x->∃ u,us[i]?=some u/\RelV x u
 | _,_,_,_,.nil,e=>by simp at e
 | _,_,0,_,.cons r _,e=>by simp at e; subst e; exact ⟨_,rfl,r⟩
 | _,_,i+1,x,.cons _ t,e=>by
  obtain ⟨u,h1,h2⟩:=Vals.get (i:=i) (x:=x) t (by simpa using e);exact ⟨u,by simpa using h1,h2⟩
def Vals.set {x:V} {u:Value} (r:RelV x u):∀ {xs:List V} {us:List Value} (i:Nat),Vals xs us->Vals (xs.set i x) (us.set i u)
 | _,_,_,.nil=>.nil
 | _,_,0,.cons _ t=>.cons r t
 | _,_,i+1,.cons q t=>.cons q (Vals.set r i t)
def Vals.append:∀ {xs ys:List V} {us ws:List Value},Vals xs us->Vals ys ws->Vals (xs++ys) (us++ws)
 | _,_,_,_,.nil,s=>s
 | _,_,_,_,.cons r t,s=>.cons r (Vals.append t s)
def Vals.take:∀ {xs:List V} {us:List Value} (n:Nat),Vals xs us->Vals (xs.take n) (us.take n)
 | _,_,0,_=>.nil
 | _,_,_+1,.nil=>.nil
 | _,_,n+1,.cons r t=>.cons r (Vals.take n t)
def Vals.drop:∀ {xs:List V} {us:List Value} (n:Nat),Vals xs us->Vals (xs.drop n) (us.drop n)
 | _,_,0,r=>r
 | _,_,_+1,.nil=>.nil
 | _,_,n+1,.cons _ t=>Vals.drop n t
def RelO:Option V->Option Value->Prop
 | some v,some u=>RelV v u
 | none,none=>True
 | _,_=>False
def KV {κ:Type}:List (κ × V)->List (κ × Value)->Prop:=Paired fun (p:κ × V) (q:κ × Value)=>p.1=q.1/\RelV p.2 q.2
def kV:Key->V
 | .inl i=>.int i
 | .inr x=>.str x
inductive HO where
 | lst (xs:List V)
 | tup (xs:List V)
 | dK (kvs:List (Key × V)) | dT (kvs:List (List Key × V))
 | set (S:Int->Bool) (n:Nat)
 | ins (C dx:Addr) (fs:List (Str × V))
 | own (x:Addr)
 | xd (fs:List (Str × V))
 | met (f x:Addr)
 | rng (lo hi:Int)
 | frz (o:Obj) (u:HO)
 | tbl (ps:Array Value)
 | ext (φ:Heap->Prop)
abbrev Hp:=Addr->Option HO
def upd (H:Hp) (a:Addr) (o:HO):Hp:=fun b=>if b=a then some o else H b
def aJ {H:Hp} {a:Addr} {o:HO}:upd H a o a=some o:=by unfold upd; rw [if_pos rfl]
def aO {H:Hp} {a b:Addr} {o:HO} (h:b≠a):upd H a o b=H b:=by unfold upd; rw [if_neg h]
def Jw {H:Hp} {a b:Addr} {o u:HO} (h:H a=some o) (h':H b=some u) (d:o≠u):a≠b:=by
 intro e; subst e; rw [h] at h'; exact d (zat h')
def cc {H:Hp} {a b:Addr} {o:HO} (h:H a=some o) (h':H b=none):a≠b:=by
 intro e; subst e; rw [h] at h'; cases h'
def IsTupN (h:Heap) (a:Addr) (its:Array Value):Prop:=∃ o,h.get? a=some o/\o.cls=.type "tuple"/\∃ n,o.data=.seq its n/\o.dict=none
def IsTupN.tup {h:Heap} {a:Addr} {its:Array Value} (x:IsTupN h a its):IsTup h a its:=by
 obtain ⟨o,h1,h2,n,h3,_⟩:=x;exact ⟨o,h1,h2,n,h3⟩
def IsTupN.lt {h:Heap} {a:Addr} {its:Array Value} (x:IsTupN h a its):a < h.objs.size:=zal x.choose_spec.1
def IsTupN.new (h:Heap) (its:Array Value):IsTupN (h.push { cls:=.type "tuple",data:=.seq its }) h.objs.size its:=⟨_,zan _ rfl,rfl,_,rfl,rfl⟩
section
variable (P:Program) (w:World)
def ObjOk (H:Hp) (h:Heap) (a:Addr):HO->Prop
 | .lst xs=>xs.length<=sizeLine/\∃ (its:List Value) (n:Nat),Vals xs its/\h.get? a=some { cls:=.type "list",data:=.seq its.toArray n }
 | .tup xs=>xs.length<=sizeLine/\∃ its:List Value,Vals xs its/\IsTupN h a its.toArray
 | .dK kvs=>kvs.length<=sizeLine/\(a == sysModules)=false/\∃ vs,KV kvs vs/\h.DictOf (bO P w) a vs
 | .dT kvs=>kvs.length<=sizeLine/\(a == sysModules)=false/\∃ xs:List (List Key × Addr × Value),
   Paired (fun (p:List Key × V) (q:List Key × Addr × Value)=>p.1=q.1/\H q.2.1=some (.tup (p.1.map kV))/\RelV p.2 q.2.2) kvs xs /\
   ∃ o es ep,h.get? a=some o/\o.ExactDict/\o.data=.dict es ep/\es.toList=xs.map (entryOfKey (tupleKind (bO P w)))/\(xs.map (·.1)).Nodup
 | .set S n=>h.SetOf (intKind P w) a S n
 | .ins C dx fs=>H dx=some (.own a)/\fs.length<=1000/\dx≠a/\h.get? a=some (PySem.W.instObj C dx) /\
   ∃ mA,h.Ns1 dx mA/\(∀ f,RelO (fs.lookup f) (mA f))/\PySem.Within mA (fs.map (·.1))
 | .own _=>∃ o,h.get? a=some o
 | .xd fs=>∃ mA,h.Ns1 a mA/\∀ f,RelO (fs.lookup f) (mA f)
 | .rng lo hi=>∃ t u v,h.get? a=some { cls:=.type "range",data:=.fields #[.int lo t,.int hi u,.int 1 v] }
 | .frz o u=>h.get? a=some o/\ObjOk H h a u
 | .tbl ps=>h.get? a=some { cls:=.none,data:=.fields ps }
 | .met f x=>h.get? a=some (PySem.W.methodObj (.ref f) (.ref x))
 | .ext φ=>φ h/\(∃ o,h.get? a=some o)/\∀ h1 h2:Heap,φ h1->(∀ o,h1.get? a=some o->h2.get? a=some o)->φ h2
def HOk (H:Hp) (h:Heap):Prop:=∀ a o,H a=some o->ObjOk P w H h a o
end
section
variable {P:Program} {w:World} {H H':Hp} {h h':Heap} {a:Addr} {o:HO}
def ObjOk.lt (x:ObjOk P w H h a o):a < h.objs.size:=by
 cases o with
 | lst xs=>obtain ⟨_,_,_,_,e⟩:=x; exact zal e
 | tup xs=>obtain ⟨_,_,_,p⟩:=x; exact p.lt
 | dK kvs=>obtain ⟨_,_,_,_,o,_,_,e,_⟩:=x; exact zal e
 | dT kvs=>obtain ⟨_,_,_,_,o,_,_,e,_⟩:=x; exact zal e
 | set S n=>obtain ⟨o,_,_,_,e,_⟩:=x; exact zal e
 | ins C dx fs=>obtain ⟨_,_,_,e,_⟩:=x; exact zal e
 | own y=>obtain ⟨_,e⟩:=x; exact zal e
 | xd fs=>obtain ⟨_,⟨_,_,_,e,_⟩,_⟩:=x; exact zal e
 | rng lo hi=>obtain ⟨_,_,_,e⟩:=x; exact zal e
 | frz ob u=>obtain ⟨e,_⟩:=x; exact zal e
 | tbl ps=>exact zal (show h.get? a=some _ from x)
 | met f y=>exact zal (show h.get? a=some _ from x)
 | ext φ=>obtain ⟨_,⟨_,e⟩,_⟩:=x; exact zal e
def Paired.mapP {α β:Type} {F G:α->β->Prop}:∀ {l₁:List α} {l₂:List β},Paired F l₁ l₂->(∀ a b,F a b->G a b)->Paired G l₁ l₂
 | _,_,.nil,_=>.nil
 | _,_,.cons r t,f=>.cons (f _ _ r) (Paired.mapP t f)
def ObjOk.stay (x:ObjOk P w H h a o) (k:∀ b u,(b=a\/H b=some (.own a))->h.get? b=some u->h'.get? b=some u)
  (ho:∀ b,H b=some (.own a)->H' b=some (.own a)) (ht:∀ b xs,H b=some (.tup xs)->H' b=some (.tup xs)):ObjOk P w H' h' a o:=by
 induction o with
 | lst xs=>obtain ⟨z,its,n,r,e⟩:=x; exact ⟨z,its,n,r,k _ _ (.inl rfl) e⟩
 | tup xs=>obtain ⟨z,its,r,ob,e,c⟩:=x; exact ⟨z,its,r,ob,k _ _ (.inl rfl) e,c⟩
 | dK kvs=>obtain ⟨z,y,vs,r,ob,es,ep,e,c⟩:=x; exact ⟨z,y,vs,r,ob,es,ep,k _ _ (.inl rfl) e,c⟩
 | dT kvs =>
  obtain ⟨z,y,xs,r,ob,es,ep,e,c⟩:=x;exact ⟨z,y,xs,Paired.mapP r fun p q z=>⟨z.1,ht _ _ z.2.1,z.2.2⟩,ob,es,ep,k _ _ (.inl rfl) e,c⟩
 | set S n=>obtain ⟨ob,es,ep,t,e,c⟩:=x; exact ⟨ob,es,ep,t,k _ _ (.inl rfl) e,c⟩
 | ins C dx fs =>
  obtain ⟨d,z,ne,e,mA,⟨od,es,ep,e2,c⟩,r⟩:=x;exact ⟨ho _ d,z,ne,k _ _ (.inl rfl) e,mA,⟨od,es,ep,k _ _ (.inr d) e2,c⟩,r⟩
 | own y=>obtain ⟨ob,e⟩:=x; exact ⟨ob,k _ _ (.inl rfl) e⟩
 | xd fs=>obtain ⟨mA,⟨od,es,ep,e,c⟩,r⟩:=x; exact ⟨mA,⟨od,es,ep,k _ _ (.inl rfl) e,c⟩,r⟩
 | rng lo hi=>obtain ⟨t,u,v,e⟩:=x; exact ⟨t,u,v,k _ _ (.inl rfl) e⟩
 | frz ob u ih=>obtain ⟨e,q⟩:=x; exact ⟨k _ _ (.inl rfl) e,ih q⟩
 | tbl ps =>
  have e:h.get? a=some { cls:=.none,data:=.fields ps }:=x;show h'.get? a=some { cls:=.none,data:=.fields ps };exact k a _ (.inl rfl) e
 | met f y =>
  have e:h.get? a=some (PySem.W.methodObj (.ref f) (.ref y)):=x;show h'.get? a=some (PySem.W.methodObj (.ref f) (.ref y));exact k a _ (.inl rfl) e
 | ext φ=>obtain ⟨p,⟨o,e⟩,st⟩:=x; exact ⟨st _ _ p fun o q=>k _ _ (.inl rfl) q,⟨o,k _ _ (.inl rfl) e⟩,st⟩
def HOk.lt (x:HOk P w H h) (e:H a=some o):a < h.objs.size:=(x a o e).lt
def HOk.fresh (x:HOk P w H h) (e:h.objs.size<=a):H a=none:=by
 cases q:H a with
 | none=>rfl
 | some u=>exact absurd (zag (x.lt q) e) (zaI _)
def HOk.kept (x:HOk P w H h) (k:∀ b u,h.get? b=some u->h'.get? b=some u):HOk P w H h':=fun a o e =>
 (x a o e).stay (fun b u _ q=>k b u q) (fun _ q=>q) fun _ _ q=>q
def HOk.laid (x:HOk P w H h) (k:∀ b u,h.get? b=some u->h'.get? b=some u) (hp:h.objs.size<=a) (new:ObjOk P w (upd H a o) h' a o):HOk P w (upd H a o) h':=fun b u e=>by
 have hn:=x.fresh hp;by_cases hb:b=a
 ·subst hb; rw [aJ] at e; cases e; exact new
 ·rw [aO hb] at e;exact (x b u e).stay (fun c v _ q=>k c v q) (fun c q=>by rw [aO (cc q hn)]; exact q) fun c xs q=>by rw [aO (cc q hn)]; exact q
end
def Rd (H:Hp) (a:Addr) (u:HO):Prop:=H a=some u\/∃ o,H a=some (.frz o u)
def Rd.ok {P:Program} {w:World} {H:Hp} {h:Heap} {a:Addr} {u:HO} (r:Rd H a u) (x:HOk P w H h):ObjOk P w H h a u:=by
 rcases r with r | ⟨o,r⟩
 ·exact x a u r
 ·obtain ⟨_,q⟩:=x a _ r;exact q
def Mut:Option HO->Prop
 | some (.lst _)=>True
 | some (.dK _)=>True
 | some (.dT _)=>True
 | some (.set _ _)=>True
 | some (.ins _ _ _)=>True
 | some (.ext _)=>True
 | _=>False
section
variable {P:Program} {w:World} {H:Hp} {h h':Heap} {x e:Addr} {o':HO}
def HOk.write (ok:HOk P w H h) (mu:Mut (H x)) (he:e=x\/H e=some (.own x)) (k:∀ b u,b≠e->h.get? b=some u->h'.get? b=some u) (heo:∃ u,h'.get? e=some u)
  (new:ObjOk P w (upd H x o') h' x o'):HOk P w (upd H x o') h':=fun b u q=>by
 have nown:∀ c y,H c=some (.own y)->c≠x:=fun c y r z=>by subst z; rw [r] at mu; exact mu
 have ntup:∀ c xs,H c=some (.tup xs)->c≠x:=fun c xs r z=>by subst z; rw [r] at mu; exact mu
 by_cases hb:b=x
 ·subst hb; rw [aJ] at q; cases q; exact new
 ·rw [aO hb] at q;by_cases hbe:b=e
  ·have q':H b=some (.own x):=by
    rcases he with z | z
    ·exact absurd (hbe.trans z) hb
    ·rw [hbe]; exact z
   rw [q] at q'; cases q';obtain ⟨v,hv⟩:=heo;exact ⟨v,by rw [hbe]; exact hv⟩
  ·refine (ok b u q).stay (fun c v hc r=>k c v ?_ r) (fun c r=>by rw [aO (nown c b r)]; exact r) fun c xs r=>by rw [aO (ntup c xs r)]; exact r
   rcases hc with rfl | hc
   ·exact hbe
   ·rintro rfl;rcases he with z | z
    ·exact nown c b hc z
    ·rw [hc] at z; cases z; exact hb rfl
end
structure Un (fs ex:List Addr) (H H':Hp) (h h':Heap):Prop where
 keep:∀ b o,h.get? b=some o->H b=none->b ∉ fs->b ∉ ex->h'.get? b=some o
 slot:∀ b o,h.get? b=some o->H b=none->b∈fs->b ∉ ex->∃ sl,h'.get? b=some { o with slots:=sl }
 free:∀ b o,h.get? b=some o->H b=none->b ∉ ex->H' b=none
 there:∀ b o,h.get? b=some o->b ∉ ex->∃ o',h'.get? b=some o'
 tups:∀ b xs,H b=some (.tup xs)->H' b=some (.tup xs)
 frzs:∀ b o u,H b=some (.frz o u)->H' b=some (.frz o u)
 tbls:∀ b ps,H b=some (.tbl ps)->∃ more,H' b=some (.tbl (ps++more))
section
variable {fs fs' ex ex':List Addr} {H H1 H2:Hp} {h h1 h2 h':Heap} {a x e:Addr} {o:HO}
def Un.any (u:Un fs ex H H1 h h1) {b:Addr} {ob:Obj} (q:h.get? b=some ob) (n:H b=none) (hx:b ∉ ex):∃ sl,h1.get? b=some { ob with slots:=sl }:=by
 by_cases hb:b∈fs
 ·exact u.slot b ob q n hb hx
 ·exact ⟨ob.slots,u.keep b ob q n hb hx⟩
def Un.trans (a:Un fs ex H H1 h h1) (b:Un fs ex H1 H2 h1 h2):Un fs ex H H2 h h2 where
 keep:=fun c ob q n hc hx=>b.keep c ob (a.keep c ob q n hc hx) (a.free c ob q n hx) hc hx
 slot:=fun c ob q n hc hx=>by
  obtain ⟨sl,e1⟩:=a.slot c ob q n hc hx;obtain ⟨sl',e2⟩:=b.slot c _ e1 (a.free c ob q n hx) hc hx;exact ⟨sl',e2⟩
 free:=fun c ob q n hx=>by
  obtain ⟨o',e1⟩:=a.there c ob q hx;exact b.free c o' e1 (a.free c ob q n hx) hx
 there:=fun c ob q hx=>by
  obtain ⟨o',e1⟩:=a.there c ob q hx;exact b.there c o' e1 hx
 tups:=fun c xs q=>b.tups c xs (a.tups c xs q)
 frzs:=fun c ob xs q=>b.frzs c ob xs (a.frzs c ob xs q)
 tbls:=fun c ps q=>by
  obtain ⟨m1,e1⟩:=a.tbls c ps q;obtain ⟨m2,e2⟩:=b.tbls c _ e1;exact ⟨m1++m2,by rw [e2,Array.append_assoc]⟩
def Un.kept (k:∀ b u,h.get? b=some u->h'.get? b=some u):Un fs ex H H h h' :=
 ⟨fun b ob q _ _ _=>k b ob q,fun b ob q _ _ _=>⟨ob.slots,k b ob q⟩,fun _ _ _ n _=>n,fun b ob q _=>⟨ob,k b ob q⟩,fun _ _ q=>q,fun _ _ _ q=>q,fun _ ps q=>⟨#[],by rw [q]; simp⟩⟩
def Un.refl:Un fs ex H H h h:=Un.kept fun _ _ q=>q
def Un.laid (k:∀ b u,h.get? b=some u->h'.get? b=some u) (hp:h.objs.size<=a) (hn:H a=none):Un fs ex H (upd H a o) h h' where
 keep:=fun b u q _ _ _=>k b u q
 slot:=fun b u q _ _ _=>⟨u.slots,k b u q⟩
 free:=fun b u q n _=>by rw [aO (zaw (zag (zal q) hp))]; exact n
 there:=fun b u q _=>⟨u,k b u q⟩
 tups:=fun b xs q=>by rw [aO (cc q hn)]; exact q
 frzs:=fun b u xs q=>by rw [aO (cc q hn)]; exact q
 tbls:=fun b ps q=>⟨#[],by rw [aO (cc q hn),q]; simp⟩
def Un.write (mu:Mut (H x)) (he:e=x\/H e=some (.own x)) (k:∀ b u,b≠e->h.get? b=some u->h'.get? b=some u) (heo:∃ u,h'.get? e=some u):Un fs ex H (upd H x o) h h':=by
 have hx:∀ b,H b=none->b≠x:=fun b n z=>by subst z; rw [n] at mu; exact mu
 have hb:∀ b,H b=none->b≠e:=fun b n z=>by
  subst z;rcases he with r | r
  ·exact hx b n r
  ·rw [n] at r; cases r
 have hm:∀ b u,H b=some u->¬ Mut (some u)->b≠x:=fun b u q nm z=>by subst z; rw [q] at mu; exact nm mu
 refine ⟨fun b u q n _ _=>k b u (hb b n) q,fun b u q n _ _=>⟨u.slots,k b u (hb b n) q⟩,fun b u q n _=>by rw [aO (hx b n)]; exact n,fun b u q _=>?_,
  fun b xs q=>by rw [aO (hm b _ q fun z=>z)]; exact q,fun b u xs q=>by rw [aO (hm b _ q fun z=>z)]; exact q,fun b ps q=>⟨#[],by rw [aO (hm b _ q fun z=>z),q]; simp⟩⟩
 by_cases hbe:b=e
 ·subst hbe; exact heo
 ·exact ⟨u,k b u hbe q⟩
end
def trk (h:Heap) (H:Hp):List Addr:=(List.range h.objs.size).filter fun a=>(H a).isSome
def j5 (h:Heap) (H:Hp):Heap:=PySem.W.hideAll h (trk h H)
def vh (h:Heap) (H:Hp):(j5 h H).objs.size=h.objs.size:=PySem.W.hideAll_size _ _
def wV {h:Heap} {H:Hp} {b:Addr} {o:Obj} (e:h.get? b=some o) (n:H b=none):(j5 h H).get? b=some o :=
 PySem.W.hideAll_get _ e fun hm=>by
  have q:(H b).isSome=true:=(List.mem_filter.mp hm).2;rw [n] at q; simp at q
def DM {h:Heap} {H:Hp} {b:Addr} {o:Obj} (e:(j5 h H).get? b=some o):h.get? b=some o/\H b=none:=by
 have e':h.get? b=some o:=PySem.W.of_hideAll (trk h H) e;refine ⟨e',?_⟩;cases q:H b with
 | none=>rfl
 | some x =>
  have hm:b∈trk h H:=List.mem_filter.mpr ⟨List.mem_range.mpr (zal e'),by simp [q]⟩;have z:(j5 h H).get? b=none:=PySem.W.hideAll_none (trk h H) hm;rw [z] at e; cases e
def EQ (g h:Heap) (L:Addr):List (Addr × Obj):=(List.range h.objs.size).filterMap fun a=>if a=L\/(g.get? a).isSome=true then none else (h.get? a).map fun o=>(a,o)
def rest (g h:Heap) (L d:Addr):List (Addr × Obj):=(EQ g h L).filter fun p=>decide (p.1≠d)
structure Mod (K:PySem.W.Frag) (mg:Str->Option Value) (base:Heap):Prop where
 kin:K.In base
 glob:base.Ns mainGlobals mg
 blt:∃ mb,base.Ns builtinsNs mb/\∀ x:Str,x≠"__name__"->mb x=bootBuiltins x
 nolimit:base.NoLimit
 mods:∃ mm,base.Ns sysModules mm
structure Cx where
 prog:Program
 w:World
 K:PySem.W.Frag
 mg:Str->Option Value
 base:Heap
 A:Around
 N:List Str
 s₀:Shared
 H₀:Hp
 env:Env
 outer:List Env
 stack:List Env
 ex:List Addr
 fn:Str->Bool
 calm:Bool
 pn:List (Addr × Obj)
 xe:Value->Shared->Prop
def frs (l:List Env):List Addr:=l.filterMap (·.frame)
abbrev Cx.fs (X:Cx):List Addr:=frs X.outer
def Vis (sc:Scope) (x:Str):Prop:=sc.names.lookup x=some .local\/sc.names.lookup x=some .cell\/sc.names.lookup x=some .free
def Loc (sc:Scope) (x:Str):Prop:=sc.names.lookup x=some .local\/sc.names.lookup x=some .cell
def Kq (env:Env) (h:Heap) (m:Str->Option Value) (x:Str) (u:Value):Prop :=
 (env.kindOf x=some .local/\m x=some u)\/((env.kindOf x=some .cell\/env.kindOf x=some .free)/\∃ c,env.cells.lookup x=some c/\h.IsCell c (some u))
structure Cx.Ok (X:Cx):Prop where
 mod:Mod X.K X.mg X.base
 kind:X.env.scope.kind=.function
 glob:X.env.globals=mainGlobals
 blt:X.env.builtins=builtinsNs
 above:X.s₀.heap.objs.size<=X.env.locals
 inj:∀ x y c,X.env.cells.lookup x=some c->X.env.cells.lookup y=some c->x=y
 has:∀ x,(X.env.kindOf x=some .cell\/X.env.kindOf x=some .free)->∃ c,X.env.cells.lookup x=some c
 cab:∀ x c,X.fn x=true->X.env.cells.lookup x=some c->X.s₀.heap.objs.size<=c
 hd:X.calm=true->X.A.handled=none
 frames:X.A.frames=some X.stack
 stk:X.stack=X.outer\/(X.stack=X.env :: X.outer/\X.env.frame=some X.env.locals)
 exf:∀ b∈X.ex,b≠X.env.locals/\∀ x c,X.env.cells.lookup x=some c->c≠b
 bs:∀ b o,X.base.get? b=some o->X.s₀.heap.get? b=some o/\X.H₀ b=none
 bsz:X.base.objs.size<=X.s₀.heap.objs.size
 noex:∀ b o,X.base.get? b=some o->b ∉ X.ex
 exfs:∀ b∈X.ex,b ∉ X.fs
 funs:X.s₀.heap.FunFrames X.base X.outer
 frf:∀ b∈X.fs,X.H₀ b=none
structure Inv (X:Cx) (pins:List (Addr × Obj)) (σ:List (Option V)) (H:Hp) (s:Shared):Prop where
 ok:X.Ok
 os:s.os=X.s₀.os
 bare:AllBare s.gens
 base:Un X.fs X.ex X.H₀ H X.s₀.heap s.heap
 loc:∃ m,s.heap.Ns X.env.locals m/\∀ (i:Nat) (x:Str) (v:V),X.N[i]?=some x->σ[i]?=some (some v)->Vis X.env.scope x->∃ u,RelV v u/\Kq X.env s.heap m x u
 cell:∀ x c,X.env.cells.lookup x=some c->∃ v,s.heap.IsCell c v
 free:H X.env.locals=none
 freeC:∀ x c,X.env.cells.lookup x=some c->H c=none
 pin:∀ p∈X.pn++pins,s.heap.get? p.1=some p.2/\H p.1=none/\p.1≠X.env.locals/\p.1 ∉ X.fs/\∀ v,p.2.data≠.cell v
 hok:HOk X.prog X.w H s.heap
 len:σ.length=X.N.length
section
variable {X:Cx} {pins:List (Addr × Obj)} {σ:List (Option V)} {H H':Hp} {s:Shared} {h':Heap}
def Cx.Ok.nofr (ok:X.Ok) {b:Addr} {o:Obj} (e:X.base.get? b=some o):b ∉ X.fs:=fun hb=>by
 have:=(ok.funs.mem hb).1;rw [e] at this; cases this
def Inv.bs (I:Inv X pins σ H s):∀ b o,X.base.get? b=some o->s.heap.get? b=some o/\H b=none:=fun b o e =>
 ⟨I.base.keep b o (I.ok.bs b o e).1 (I.ok.bs b o e).2 (I.ok.nofr e) (I.ok.noex b o e),I.base.free b o (I.ok.bs b o e).1 (I.ok.bs b o e).2 (I.ok.noex b o e)⟩
def Inv.bk (I:Inv X pins σ H s):∀ b o,X.base.get? b=some o->s.heap.get? b=some o:=fun b o e=>(I.bs b o e).1
def Inv.mod (I:Inv X pins σ H s):Mod X.K X.mg X.base:=I.ok.mod
def Inv.kIn (I:Inv X pins σ H s):X.K.In s.heap:=I.ok.mod.kin.keeps I.bk
def Inv.lt (I:Inv X pins σ H s):X.env.locals < s.heap.objs.size:=let ⟨_,hn,_⟩:=I.loc; hn.lt
def Inv.sz (I:Inv X pins σ H s):X.s₀.heap.objs.size<=s.heap.objs.size:=zau I.ok.above (Nat.le_of_lt I.lt)
def Inv.nofs (I:Inv X pins σ H s) {a:Addr} (h:s.heap.objs.size<=a):a ∉ X.fs:=fun hb=>by
 obtain ⟨_,o,ho,_⟩:=I.ok.funs.mem hb;exact absurd (zag (zal ho) (zau I.sz h)) (zaI _)
def Inv.cne (I:Inv X pins σ H s):∀ x c,X.env.cells.lookup x=some c->c≠X.env.locals:=fun x c e z=>by
 obtain ⟨v,o,ho,hd⟩:=I.cell x c e;obtain ⟨m,⟨o',es,ep,ho',hd',_⟩,_⟩:=I.loc;rw [z,ho'] at ho; cases ho; rw [hd'] at hd; cases hd
def Inv.funs (I:Inv X pins σ H s):s.heap.FunFrames X.base X.outer:=by
 have all:∀ (l:List Env),(∀ b∈frs l,b∈X.fs)->X.s₀.heap.FunFrames X.base l->s.heap.FunFrames X.base l:=by
  intro l
  induction l with
  | nil=>intro _ _; trivial
  | cons env r ih =>
   intro hs hl;obtain ⟨hk,⟨L,o,hf,hn,ho,hd⟩,hr⟩:=hl;have hL:L∈X.fs:=hs L (by unfold frs; rw [List.filterMap_cons,hf]; exact zaq);obtain ⟨sl,e⟩:=I.base.slot L o ho (I.ok.frf L hL) hL fun z=>I.ok.exfs L z hL;exact ⟨hk,⟨L,_,hf,hn,e,hd⟩,ih (fun b hb=>hs b (by unfold frs; rw [List.filterMap_cons,hf]; exact zaj _ hb)) hr⟩
 exact all X.outer (fun _ hb=>hb) I.ok.funs
def Inv.stack (I:Inv X pins σ H s):s.heap.FunFrames X.base X.stack:=by
 rcases I.ok.stk with e | ⟨e,hf⟩
 ·rw [e]; exact I.funs
 ·rw [e];obtain ⟨m,hn,_⟩:=I.loc;refine .cons (by rw [I.ok.kind]; decide) hf hn ?_ I.funs;exact Heap.get?_none_of_le (zau I.ok.bsz I.ok.above)
def Inv.stkSub (I:Inv X pins σ H s):∀ b∈frs X.stack,b∈X.env.locals :: X.fs:=fun b hb=>by
 rcases I.ok.stk with e | ⟨e,hf⟩
 ·rw [e] at hb; exact zaj _ hb
 ·rw [e] at hb;unfold frs at hb;rw [List.filterMap_cons,hf] at hb;exact hb
def Inv.stkFree (I:Inv X pins σ H s):∀ b∈frs X.stack,H b=none:=fun b hb=>by
 rcases zay.mp (I.stkSub b hb) with e | hb
 ·rw [e]; exact I.free
 ·obtain ⟨_,o,ho,_⟩:=I.ok.funs.mem hb;exact I.base.free b o ho (I.ok.frf b hb) fun z=>I.ok.exfs b z hb
def Inv.step {g':Array GenState} {t':Nat} {d':Drawn} {ch:List Addr} (I:Inv X pins σ H s)
  (hch:∀ b∈ch,(b∈X.ex\/X.s₀.heap.objs.size<=b)/\b≠X.env.locals/\(∀ x c,X.env.cells.lookup x=some c->c≠b)/\∀ p∈X.pn++pins,p.1≠b)
  (keep:∀ b o,b≠X.env.locals->b ∉ X.fs->b ∉ ch->s.heap.get? b=some o->H b=none->h'.get? b=some o)
  (slot:∀ b o,b≠X.env.locals->b∈X.fs->b ∉ ch->s.heap.get? b=some o->H b=none->∃ sl,h'.get? b=some { o with slots:=sl }) (free:∀ b o,b ∉ ch->s.heap.get? b=some o->H b=none->H' b=none)
  (there:∀ b o,b ∉ ch->s.heap.get? b=some o->∃ o',h'.get? b=some o')
  (tups:∀ b xs,H b=some (.tup xs)->H' b=some (.tup xs)) (frzs:∀ b o u,H b=some (.frz o u)->H' b=some (.frz o u)) (tbls:∀ b ps,H b=some (.tbl ps)->∃ more,H' b=some (.tbl (ps++more)))
  (ns:∀ m,s.heap.Ns X.env.locals m->h'.Ns X.env.locals m) (hok:HOk X.prog X.w H' h') (hg:AllBare g') :
  Inv X pins σ H' { s with heap:=h',gens:=g',drawn:=d',toks:=t' }:=by
 have neL:∀ b o,X.s₀.heap.get? b=some o->b≠X.env.locals:=fun b o e=>zaw (zag (zal e) I.ok.above);have neC:∀ b o,X.s₀.heap.get? b=some o->b ∉ X.ex->b ∉ ch:=fun b o e hx hb=>by
  rcases (hch b hb).1 with z | z
  ·exact hx z
  ·exact absurd (zag (zal e) z) (zaI _)
 have cellK:∀ x c,X.env.cells.lookup x=some c->∀ v,s.heap.IsCell c v->h'.IsCell c v:=fun x c e v ⟨o,ho,hd⟩=>by
  have nch:c ∉ ch:=fun z=>(hch c z).2.2.1 x c e rfl;by_cases hc:c∈X.fs
  ·obtain ⟨sl,q⟩:=slot c o (I.cne x c e) hc nch ho (I.freeC x c e);exact ⟨_,q,hd⟩
  ·exact ⟨o,keep c o (I.cne x c e) hc nch ho (I.freeC x c e),hd⟩
 refine ⟨I.ok,I.os,hg,⟨fun b o e n hb hx=>?_,fun b o e n hb hx=>?_,fun b o e n hx=>?_,fun b o e hx=>?_,fun b xs e=>tups b xs (I.base.tups b xs e),fun b o xs e=>frzs b o xs (I.base.frzs b o xs e),fun b ps e=>?_⟩,?_,fun x c e=>?_,?_,fun x c e=>?_,fun p hp=>?_,hok,I.len⟩
 ·exact keep b o (neL b o e) hb (neC b o e hx) (I.base.keep b o e n hb hx) (I.base.free b o e n hx)
 ·obtain ⟨sl,e1⟩:=I.base.slot b o e n hb hx;obtain ⟨sl',e2⟩:=slot b _ (neL b o e) hb (neC b o e hx) e1 (I.base.free b o e n hx);exact ⟨sl',e2⟩
 ·obtain ⟨o',e1⟩:=I.base.there b o e hx;exact free b o' (neC b o e hx) e1 (I.base.free b o e n hx)
 ·obtain ⟨o',e1⟩:=I.base.there b o e hx;exact there b o' (neC b o e hx) e1
 ·obtain ⟨m1,e1⟩:=I.base.tbls b ps e;obtain ⟨m2,e2⟩:=tbls b _ e1;exact ⟨m1++m2,by rw [e2,Array.append_assoc]⟩
 ·obtain ⟨m,hn,hl⟩:=I.loc;refine ⟨m,ns m hn,fun i x v e1 e2 e3=>?_⟩;obtain ⟨u,r,l⟩:=hl i x v e1 e2 e3;refine ⟨u,r,?_⟩;rcases l with l | ⟨k,c,e,z⟩
  ·exact .inl l
  ·exact .inr ⟨k,c,e,cellK x c e _ z⟩
 ·obtain ⟨v,z⟩:=I.cell x c e;exact ⟨v,cellK x c e v z⟩
 ·obtain ⟨m,⟨o,_,_,ho,_⟩,_⟩:=I.loc;exact free _ o (fun z=>(hch _ z).2.1 rfl) ho I.free
 ·obtain ⟨v,o,ho,hd⟩:=I.cell x c e;exact free c o (fun z=>(hch c z).2.2.1 x c e rfl) ho (I.freeC x c e)
 ·obtain ⟨e,n,ne,nf,d⟩:=I.pin p hp;have nch:p.1 ∉ ch:=fun z=>(hch p.1 z).2.2.2 p hp rfl;exact ⟨keep p.1 p.2 ne nf nch e n,free p.1 p.2 nch e n,ne,nf,d⟩
def Inv.un {t':Nat} (I:Inv X pins σ H s) (u:Un X.fs [] H H' s.heap h') (hok:HOk X.prog X.w H' h'):Inv X pins σ H' { s with heap:=h',toks:=t' }:=by
 obtain ⟨m,⟨o,es,ep,ho,r⟩,_⟩:=id I.loc;obtain ⟨sl,hL⟩:=u.any ho I.free (by simp);exact I.step (g':=s.gens) (d':=s.drawn) (ch:=[]) (fun _ z=>nomatch z) (fun b o _ hb _ e n=>u.keep b o e n hb (by simp)) (fun b o _ hb _ e n=>u.slot b o e n hb (by simp)) (fun b o _ e n=>u.free b o e n (by simp)) (fun b o _ e=>u.there b o e (by simp)) u.tups u.frzs u.tbls (fun m' hm=>by
  obtain ⟨o',es',ep',ho',r'⟩:=hm;rw [ho] at ho'; cases ho';exact ⟨_,es',ep',hL,r'⟩) hok I.bare
def Inv.call {g':Array GenState} {t':Nat} {d':Drawn} {ch:List Addr} (I:Inv X pins σ H s) (u:Un (frs X.stack) ch H H' s.heap h') (hok:HOk X.prog X.w H' h') (hg:AllBare g')
  (hch:∀ b∈ch,(b∈X.ex\/X.s₀.heap.objs.size<=b)/\b≠X.env.locals/\(∀ x c,X.env.cells.lookup x=some c->c≠b)/\∀ p∈X.pn++pins,p.1≠b) :
  Inv X pins σ H' { s with heap:=h',gens:=g',drawn:=d',toks:=t' }:=by
 obtain ⟨m,⟨o,es,ep,ho,r⟩,_⟩:=id I.loc;obtain ⟨sl,hL⟩:=u.any ho I.free fun z=>(hch _ z).2.1 rfl;exact I.step (ch:=ch) hch (fun b o hL hb hc e n=>u.keep b o e n (fun z=>(zay.mp (I.stkSub b z)).elim hL hb) hc) (fun b o _ _ hc e n=>u.any e n hc) (fun b o hc e n=>u.free b o e n hc) (fun b o hc e=>u.there b o e hc) u.tups u.frzs u.tbls (fun m' hm=>by
  obtain ⟨o',es',ep',ho',r'⟩:=hm;rw [ho] at ho'; cases ho';exact ⟨_,es',ep',hL,r'⟩) hok hg
def Inv.turned {t':Nat} {it:Addr} (I:Inv X pins σ H s) (k:∀ b o,b≠it->s.heap.get? b=some o->h'.get? b=some o) (hn:H it=none) (hL:it≠X.env.locals)
  (h1:it∈X.ex\/X.s₀.heap.objs.size<=it) (h2:∀ x c,X.env.cells.lookup x=some c->c≠it) (h3:∀ p∈X.pn++pins,p.1≠it):Inv X pins σ H { s with heap:=h',toks:=t' }:=by
 have nit:∀ b u,H b=some u->b≠it:=fun b u e z=>by rw [z,hn] at e; cases e
 refine I.step (g':=s.gens) (d':=s.drawn) (ch:=[it]) (fun b hb=>?_) (fun b o _ _ hc e _=>k b o (fun z=>hc (by simp [z])) e) (fun b o _ _ hc e _=>⟨o.slots,k b o (fun z=>hc (by simp [z])) e⟩) (fun _ _ _ _ n=>n)
  (fun b o hc e=>⟨o,k b o (fun z=>hc (by simp [z])) e⟩) (fun _ _ e=>e) (fun _ _ _ e=>e) (fun b ps e=>⟨#[],by rw [e]; simp⟩) (fun m hm=>?_) (fun b u e=>?_) I.bare
 ·have e:b=it:=by simpa using hb
  subst e;exact ⟨h1,hL,h2,h3⟩
 ·obtain ⟨o,es,ep,ho,r⟩:=hm;exact ⟨o,es,ep,k _ o (Ne.symm hL) ho,r⟩
 ·refine (I.hok b u e).stay (fun c v hc q=>k c v ?_ q) (fun _ q=>q) fun _ _ q=>q;rcases hc with z | z
  ·rw [z]; exact nit b u e
  ·exact nit c _ z
def Inv.tok (I:Inv X pins σ H s) (t:Nat):Inv X pins σ H { s with toks:=t }:=I.un (h':=s.heap) (t':=t) Un.refl I.hok
def Inv.kept {t':Nat} (I:Inv X pins σ H s) (k:∀ b u,s.heap.get? b=some u->h'.get? b=some u):Inv X pins σ H { s with heap:=h',toks:=t' }:=I.un (Un.kept k) (I.hok.kept k)
def Inv.laid {a:Addr} {o:HO} {t':Nat} (I:Inv X pins σ H s) (k:∀ b u,s.heap.get? b=some u->h'.get? b=some u) (hp:s.heap.objs.size<=a) (new:ObjOk X.prog X.w (upd H a o) h' a o) :
  Inv X pins σ (upd H a o) { s with heap:=h',toks:=t' }:=I.un (Un.laid k hp (I.hok.fresh hp)) (I.hok.laid k hp new)
def Inv.write {x e:Addr} {o:HO} {t':Nat} (I:Inv X pins σ H s) (mu:Mut (H x)) (he:e=x\/H e=some (.own x)) (k:∀ b u,b≠e->s.heap.get? b=some u->h'.get? b=some u) (heo:∃ u,h'.get? e=some u)
  (new:ObjOk X.prog X.w (upd H x o) h' x o):Inv X pins σ (upd H x o) { s with heap:=h',toks:=t' }:=I.un (Un.write mu he k heo) (I.hok.write mu he k heo new)
def Inv.pins_of {pins':List (Addr × Obj)} (I:Inv X pins σ H s) (h:∀ p∈pins',s.heap.get? p.1=some p.2/\H p.1=none/\p.1≠X.env.locals/\p.1 ∉ X.fs/\∀ v,p.2.data≠.cell v):Inv X pins' σ H s :=
 ⟨I.ok,I.os,I.bare,I.base,I.loc,I.cell,I.free,I.freeC,fun p hp=>(zax.mp hp).elim (fun z=>I.pin p (List.mem_append_left _ z)) (h p),I.hok,I.len⟩
def qJ {N:List Str} (hN:N.Nodup) {i j:Nat} {x:Str} (a:N[i]?=some x) (b:N[j]?=some x):i=j:=by
 obtain ⟨h1,e1⟩:=zah.mp a;obtain ⟨h2,e2⟩:=zah.mp b;exact (List.getElem_inj hN).mp (e1.trans e2.symm)
def pj {M:Model} {A:Around} {E:Value->Shared->Prop} {i:Nat} {x:Str} {v:V} {u:Value} {Q:Unit->Shared->Prop} (I:Inv X pins σ H s) (hN:X.N.Nodup) (hi:X.N[i]?=some x) (hx:Loc X.env.scope x) (r:RelV v u)
  (h:∀ s',Inv X pins (σ.set i (some v)) H s'->(∃ a,Heap.SameBut a s.heap s'.heap/\(a=X.env.locals\/X.env.cells.lookup x=some a))->Q () s') (hf:X.fn x=true\/X.env.scope.names.lookup x=some .local:=by first | exact .inl rfl | exact .inr rfl | assumption):wpAny M A (storeName X.env x u) Q E s:=by
 obtain ⟨m,hn,hl⟩:=id I.loc;have hcls:(X.env.scope.kind == .class || (X.env.scope.kind == .module && X.env.locals != X.env.globals))=false:=by rw [I.ok.kind]; rfl
 have hiσ:i < σ.length:=by rw [I.len]; exact (zah.mp hi).1
 have cne:=I.cne;have tracked:∀ {a:Addr} {h':Heap},(∃ o,s.heap.get? a=some o/\H a=none)->Heap.SameBut a s.heap h'->HOk X.prog X.w H h':=fun {a h'} ha hs b ob e=>by
  obtain ⟨_,_,hfree⟩:=ha;refine (I.hok b ob e).stay (fun c w' hc q=>(hs.2 c ?_).trans q) (fun _ q=>q) fun _ _ q=>q;rintro rfl;rcases hc with rfl | hc
  ·rw [hfree] at e; cases e
  ·rw [hfree] at hc; cases hc
 rcases hx with hk | hk
 ·refine wpAny_storeName_local hk hn (fun h' hn' hs=>?_) hcls;obtain ⟨oL,_,_,hoL,_⟩:=id hn;refine h _ ⟨I.ok,I.os,I.bare,⟨fun b o e n hb hx=>?_,fun b o e n hb hx=>?_,I.base.free,fun b o e hx=>?_,I.base.tups,I.base.frzs,I.base.tbls⟩,⟨_,hn',fun j y v' e1 e2 e3=>?_⟩,fun y c e=>?_,I.free,I.freeC,fun p hp=>?_,tracked ⟨oL,hoL,I.free⟩ hs,by simpa using I.len⟩ ⟨_,hs,.inl rfl⟩
  ·exact (hs.2 b (zaw (zag (zal e) I.ok.above))).trans (I.base.keep b o e n hb hx)
  ·obtain ⟨sl,e1⟩:=I.base.slot b o e n hb hx;exact ⟨sl,(hs.2 b (zaw (zag (zal e) I.ok.above))).trans e1⟩
  ·obtain ⟨o',e1⟩:=I.base.there b o e hx;exact ⟨o',(hs.2 b (zaw (zag (zal e) I.ok.above))).trans e1⟩
  ·by_cases hj:j=i
   ·subst hj;rw [hi] at e1; cases e1;rw [zaP hiσ] at e2;cases e2;exact ⟨u,r,.inl ⟨hk,by simp⟩⟩
   ·rw [zaO (Ne.symm hj)] at e2;obtain ⟨u',r',q⟩:=hl j y v' e1 e2 e3;refine ⟨u',r',?_⟩;rcases q with ⟨k,e⟩ | ⟨k,c,e,z⟩
    ·refine .inl ⟨k,?_⟩
     have:y≠x:=fun e=>hj (qJ hN e1 (e ▸ hi));simp [this,e]
    ·exact .inr ⟨k,c,e,z.sameBut hs (cne y c e)⟩
  ·obtain ⟨w',z⟩:=I.cell y c e;exact ⟨w',z.sameBut hs (cne y c e)⟩
  ·obtain ⟨e,n,ne,nf,d⟩:=I.pin p hp;exact ⟨(hs.2 p.1 ne).trans e,n,ne,nf,d⟩
 ·have hfn:X.fn x=true:=by
   rcases hf with z | z
   ·exact z
   ·rw [z] at hk; cases hk
  obtain ⟨c,hc⟩:=I.ok.has x (.inl hk);obtain ⟨w',z⟩:=I.cell x c hc;refine wpAny_storeName_cell I.ok.kind hk hc z (fun h' hc' hs=>?_);obtain ⟨oc,hoc,hocd⟩:=id z;refine h { s with heap:=h' } ⟨I.ok,I.os,I.bare,⟨fun b o e n hb hx=>?_,fun b o e n hb hx=>?_,I.base.free,fun b o e hx=>?_,I.base.tups,I.base.frzs,I.base.tbls⟩,⟨m,hn.sameBut hs (Ne.symm (cne x c hc)),fun j y v' e1 e2 e3=>?_⟩,fun y c' e=>?_,I.free,I.freeC,fun p hp=>?_,tracked ⟨oc,hoc,I.freeC x c hc⟩ hs,by simpa using I.len⟩ ⟨c,hs,.inr hc⟩
  ·exact (hs.2 b (zaw (zag (zal e) (I.ok.cab x c hfn hc)))).trans (I.base.keep b o e n hb hx)
  ·obtain ⟨sl,e1⟩:=I.base.slot b o e n hb hx;exact ⟨sl,(hs.2 b (zaw (zag (zal e) (I.ok.cab x c hfn hc)))).trans e1⟩
  ·obtain ⟨o',e1⟩:=I.base.there b o e hx;exact ⟨o',(hs.2 b (zaw (zag (zal e) (I.ok.cab x c hfn hc)))).trans e1⟩
  ·by_cases hj:j=i
   ·subst hj;rw [hi] at e1; cases e1;rw [zaP hiσ] at e2;cases e2;exact ⟨u,r,.inr ⟨.inl hk,c,hc,hc'⟩⟩
   ·rw [zaO (Ne.symm hj)] at e2;obtain ⟨u',r',q⟩:=hl j y v' e1 e2 e3;refine ⟨u',r',?_⟩;rcases q with q | ⟨k,c',e,z'⟩
    ·exact .inl q
    ·refine .inr ⟨k,c',e,z'.sameBut hs ?_⟩;rintro rfl;exact hj (qJ hN e1 (I.ok.inj _ _ _ e hc ▸ hi))
  ·by_cases hcc:c'=c
   ·subst hcc; exact ⟨_,hc'⟩
   ·obtain ⟨w2,z2⟩:=I.cell y c' e;exact ⟨w2,z2.sameBut hs hcc⟩
  ·obtain ⟨e,n,ne,nf,d⟩:=I.pin p hp;refine ⟨(hs.2 p.1 ?_).trans e,n,ne,nf,d⟩;intro q;rw [q,hoc] at e;have q':oc=p.2:=zat e;exact d w' (by rw [<- q']; exact hocd)
def qp {M:Model} {A:Around} {E:Value->Shared->Prop} {i:Nat} {x:Str} {v:V} {u:Value} {Q:Unit->Shared->Prop} (I:Inv X pins σ H s) (hN:X.N.Nodup) (hi:X.N[i]?=some x) (hx:Loc X.env.scope x) (r:RelV v u)
  (h:∀ s',Inv X pins (σ.set i (some v)) H s'->Q () s') (hf:X.fn x=true\/X.env.scope.names.lookup x=some .local:=by first | exact .inl rfl | exact .inr rfl | assumption):wpAny M A (storeName X.env x u) Q E s :=
 pj I hN hi hx r (fun s' I' _=>h s' I') hf
def Inv.call' {s':Shared} {ch:List Addr} (I:Inv X pins σ H s) (ho:s'.os=s.os) (u:Un (frs X.stack) ch H H' s.heap s'.heap) (hok:HOk X.prog X.w H' s'.heap) (hg:AllBare s'.gens)
  (hch:∀ b∈ch,(b∈X.ex\/X.s₀.heap.objs.size<=b)/\b≠X.env.locals/\(∀ x c,X.env.cells.lookup x=some c->c≠b)/\∀ p∈X.pn++pins,p.1≠b):Inv X pins σ H' s':=by
 obtain ⟨h',g',d',t',o'⟩:=s';have e:o'=s.os:=ho;subst e;exact I.call (g':=g') (t':=t') (d':=d') u hok hg hch
end
abbrev XK:=Value->Option Addr->Hp->Prop
abbrev St:=List (Option V)
abbrev VK:=V->Hp->Prop
abbrev TE:=St->Hp->VK->Prop
abbrev TT:=St->Hp->(Bool->Hp->Prop)->Prop
abbrev TA:=St->Hp->(List V->Hp->Prop)->Prop
structure Ends where
 nx:St->Hp->Prop
 rt:VK
 bk:St->Hp->Prop:=fun _ _=>False
 ct:St->Hp->Prop:=fun _ _=>False
abbrev TS:=Ends->St->Hp->Prop
def EP (X:Cx) (pins:List (Addr × Obj)) (σ:St) (Q:VK) (u:Value) (s':Shared):Prop:=∃ v H',Inv X pins σ H' s'/\RelV v u/\Q v H'
def TP (X:Cx) (pins:List (Addr × Obj)) (σ:St) (Q:Bool->Hp->Prop) (b:Bool) (s':Shared):Prop:=∃ H',Inv X pins σ H' s'/\Q b H'
def AP (X:Cx) (pins:List (Addr × Obj)) (σ:St) (Q:List V->Hp->Prop) (us:List Value) (s':Shared):Prop:=∃ vs H',Inv X pins σ H' s'/\Vals vs us/\Q vs H'
def SP (X:Cx) (pins:List (Addr × Obj)) (D:Ends) (f:Flow) (s':Shared):Prop :=
 match f with
 | .next=>∃ σ' H',Inv X pins σ' H' s'/\D.nx σ' H'
 | .brk=>∃ σ' H',Inv X pins σ' H' s'/\D.bk σ' H'
 | .cont=>∃ σ' H',Inv X pins σ' H' s'/\D.ct σ' H'
 | .ret u=>∃ v σ' H',Inv X pins σ' H' s'/\RelV v u/\D.rt v H'
def PE (X:Cx) (e:Expr) (t:TE):Prop :=
 ∀ (pins:List (Addr × Obj)) (s:Shared) (σ:St) (H:Hp) (Q:VK),Inv X pins σ H s->t σ H Q->wpAny (model X.prog X.w) X.A (eval e X.env) (EP X pins σ Q) X.xe s
def PT (X:Cx) (e:Expr) (t:TT):Prop :=
 ∀ (pins:List (Addr × Obj)) (s:Shared) (σ:St) (H:Hp) (Q:Bool->Hp->Prop),Inv X pins σ H s->t σ H Q->wpAny (model X.prog X.w) X.A (isTrue e X.env (eval e X.env)) (TP X pins σ Q) X.xe s
def PW (X:Cx) (e:Expr) (t:TT):Prop :=
 ∀ (whole:Sem Value) (pins:List (Addr × Obj)) (s:Shared) (σ:St) (H:Hp) (Q:Bool->Hp->Prop),Inv X pins σ H s->t σ H Q->wpAny (model X.prog X.w) X.A (isTrue e X.env whole) (TP X pins σ Q) X.xe s
def PW.pt {X:Cx} {e:Expr} {t:TT} (h:PW X e t):PT X e t:=h _
def PA (X:Cx) (es:List Expr) (t:TA):Prop :=
 ∀ (pos:Pos) (pins:List (Addr × Obj)) (s:Shared) (σ:St) (H:Hp) (Q:List V->Hp->Prop),Inv X pins σ H s->t σ H Q->wpAny (model X.prog X.w) X.A (spliced (backTo pos (starEach es X.env))) (AP X pins σ Q) X.xe s
def PS (X:Cx) (st:Stmt) (t:TS):Prop :=
 ∀ (pins:List (Addr × Obj)) (s:Shared) (σ:St) (H:Hp) (D:Ends),Inv X pins σ H s->t D σ H->wpAny (model X.prog X.w) X.A (exec st X.env) (SP X pins D) X.xe s
def PSs (X:Cx) (st:List Stmt) (t:TS):Prop :=
 ∀ (pins:List (Addr × Obj)) (s:Shared) (σ:St) (H:Hp) (D:Ends),Inv X pins σ H s->t D σ H->wpAny (model X.prog X.w) X.A (execs st X.env) (SP X pins D) X.xe s
def thn {α:Type} {t:Sem α} {Q Q':α->Shared->Prop} {M:Model} {A:Around} {E:Value->Shared->Prop} {s:Shared} (h:wpAny M A t Q E s) (hQ:∀ a s,Q a s->Q' a s):wpAny M A t Q' E s:=wpAny_mono h hQ fun _ _ x=>x
section
variable {X:Cx}
def i8 (i:Nat):TE:=fun σ H Q=>∃ v,σ[i]?=some (some v)/\Q v H
def tC (v:V):TE:=fun _ H Q=>Q v H
def fA {i:Nat} {x:Str} {pos:Pos} (hN:X.N[i]?=some x) (hv:Vis X.env.scope x) (hd:(x == ("__debug__" : Str))=false:=by decide) (hcd:(x == ("__classdict__" : Str))=false:=by decide):PE X (.Name x pos) (i8 i):=by
 intro pins s σ H Q I h;obtain ⟨v,e,h⟩:=h;obtain ⟨m,hn,hl⟩:=I.loc;obtain ⟨u,r,l⟩:=hl i x v hN e hv;have fin:EP X pins σ Q u s:=⟨v,H,I,r,h⟩;rcases l with ⟨hk,hm⟩ | ⟨hk,c,hc,hcell⟩
 ·exact wpAny_Name (wpAny_loadName_local I.ok.kind hk hn hm fin) hd
 ·rcases hk with hk | hk
  ·exact wpAny_Name (wpAny_loadName_cell I.ok.kind hk hc hcell fin) hd
  ·exact wpAny_Name (wpAny_loadName_free I.ok.kind hk hc hcell fin hcd) hd
def pe_int {i j pos}:PE X (.Constant (.int i) j pos) (tC (.int i)):=fun _ _ _ H _ I h=>wpAny_Constant_int ⟨.int i,H,I.tok _,⟨_,rfl⟩,h⟩
def pe_bl {b j pos}:PE X (.Constant (.bool b) j pos) (tC (.bl b)):=fun _ _ _ H _ I h=>Constant_bool ⟨.bl b,H,I,rfl,h⟩
def pe_non {j pos}:PE X (.Constant .none j pos) (tC .non):=fun _ _ _ H _ I h=>Constant_none ⟨.non,H,I,rfl,h⟩
def pe_str {x j pos}:PE X (.Constant (.str x) j pos) (tC (.str x)):=fun _ _ _ H _ I h=>Calls.Constant_str ⟨.str x,H,I.tok _,⟨_,rfl⟩,h⟩
def Gl (X:Cx) (x:Str):Prop:=X.env.kindOf x=some .globalImplicit
def sy {E:Value->Shared->Prop} {pins:List (Addr × Obj)} {s:Shared} {σ:St} {H:Hp} {x:Str} {u:Value} {pos:Pos} {Q:Value->Shared->Prop} (I:Inv X pins σ H s) (hg:Gl X x) (hm:X.mg x=some u) (h:Q u s)
  (hd:(x == ("__debug__" : Str))=false:=by decide):wpAny (model X.prog X.w) X.A (eval (.Name x pos) X.env) Q E s :=
 Calls.Name_function_global I.ok.kind hg (Calls.loadGlobal_global (by rw [I.ok.glob]; exact I.mod.glob.keeps I.bk) hm h) hd
def kW {E:Value->Shared->Prop} {pins:List (Addr × Obj)} {s:Shared} {σ:St} {H:Hp} {x:Str} {u:Value} {pos:Pos} {Q:Value->Shared->Prop} (I:Inv X pins σ H s) (hg:Gl X x) (hm:X.mg x=none) (hv:bootBuiltins x=some u) (h:Q u s)
  (hn:x≠"__name__":=by decide) (hd:(x == ("__debug__" : Str))=false:=by decide):wpAny (model X.prog X.w) X.A (eval (.Name x pos) X.env) Q E s:=by
 obtain ⟨mb,h1,h2⟩:=I.mod.blt;exact Calls.Name_function_global I.ok.kind hg (Calls.loadGlobal_builtin (by rw [I.ok.glob]; exact I.mod.glob.keeps I.bk) hm (by rw [I.ok.blt]; exact h1.keeps I.bk) ((h2 x hn).trans hv) h) hd
def su {x:Str} {v:V} {u:Value} {pos:Pos} (hg:Gl X x) (hm:X.mg x=some u) (r:RelV v u) (hd:(x == ("__debug__" : Str))=false:=by decide):PE X (.Name x pos) (tC v) :=
 fun _ _ _ H _ I h=>sy I hg hm ⟨v,H,I,r,h⟩ hd
def oE {x:Str} {v:V} {u:Value} {pos:Pos} (hg:Gl X x) (hm:X.mg x=none) (hv:bootBuiltins x=some u) (r:RelV v u) (hn:x≠"__name__":=by decide) (hd:(x == ("__debug__" : Str))=false:=by decide):PE X (.Name x pos) (tC v) :=
 fun _ _ _ H _ I h=>kW I hg hm hv ⟨v,H,I,r,h⟩ hn hd
variable {a b:Expr} {ta tb:TE} {pos:Pos}
def PC (X:Cx) (op:CmpOp) (a b:Expr) (t:TE):Prop :=
 ∀ (pins:List (Addr × Obj)) (s:Shared) (σ:St) (H:Hp) (Q:VK),Inv X pins σ H s->t σ H Q ->
  wpAny (model X.prog X.w) X.A (eval a X.env) (fun v s₁=>wpAny (model X.prog X.w) X.A (eval b X.env) (fun u s₂=>wpAny (model X.prog X.w) X.A (compareOp op v u) (EP X pins σ Q) X.xe s₂) X.xe s₁) X.xe s
def tB (t:TE):TT:=fun σ H Q=>t σ H fun x H1=>∃ c,x=.bl c/\Q c H1
def G8 {e:Expr} {t:TE} (h:PE X e t) (he:∀ whole,isTrue e X.env whole=(do let v <- whole; standAt e.pos; holding [v] (truthy v)):=by intro _; rfl):PT X e (tB t):=by
 intro pins s σ H Q I hw;refine isTrue_plain (thn (h pins s σ H _ I hw) fun v s1 ⟨x,H1,I1,r1,q1⟩=>?_) (he _);obtain ⟨d,rfl,q⟩:=q1;cases r1;exact wpAny_truthy_bool ⟨H1,I1,q⟩
variable {tA tB':TT} {rest:List Expr}
def tOr (t u:TT):TT:=fun σ H Q=>t σ H fun c H1=>if c=true then Q true H1 else u σ H1 Q
def GP (t:TT):TT:=fun σ H Q=>t σ H fun c H1=>Q (!c) H1
def G7 (ha:PT X a tA):PW X (.BoolOp .Or [a] pos) tA:=by
 intro wh pins s σ H Q I h;refine isTrue_or (thn (ha pins s σ H Q I h) fun c s1 e=>?_);cases c with
 | false=>exact isTrue_or_nil e
 | true=>exact e
def Jl (ha:PT X a tA) (hb:PW X (.BoolOp .Or (b :: rest) pos) tB'):PW X (.BoolOp .Or (a :: b :: rest) pos) (tOr tA tB'):=by
 intro wh pins s σ H Q I h;refine isTrue_or (thn (ha pins s σ H _ I h) fun c s1 ⟨H1,I1,q1⟩=>?_);cases c with
 | true=>exact ⟨H1,I1,q1⟩
 | false=>exact hb wh pins s1 σ H1 Q I1 q1
def G9 (ha:PT X a tA):PT X (.UnaryOp .Not a pos) (GP tA):=by
 intro pins s σ H Q I h;exact isTrue_not (ha pins s σ H (fun c H1=>Q (!c) H1) I h)
def CU (ta tb:TE):TE:=fun σ H Q=>ta σ H fun x H1=>∃ c,x=.bl c/\if c=true then tb σ H1 Q else Q (.bl false) H1
def GO (ta tb:TE):TE:=fun σ H Q=>ta σ H fun x H1=>∃ c,x=.bl c/\if c=true then Q (.bl true) H1 else tb σ H1 Q
def CN (ta:TE):TE:=fun σ H Q=>ta σ H fun x H1=>∃ c,x=.bl c/\Q (.bl (!c)) H1
def Hh {op} {t:TE} (h:PE X a t):PE X (.BoolOp op [a] pos) t:=fun pins s σ H Q I hw=>BoolOp_one (h pins s σ H Q I hw)
def Hk (ha:PE X a ta) (hb:PE X (.BoolOp .And (b :: rest) pos) tb):PE X (.BoolOp .And (a :: b :: rest) pos) (CU ta tb):=by
 intro pins s σ H Q I h;refine BoolOp_and (thn (ha pins s σ H _ I h) fun v s1 ⟨x,H1,I1,r1,q1⟩=>?_);obtain ⟨c,rfl,q1⟩:=q1;cases r1;refine wpAny_truthy_bool ?_;cases c with
 | true=>exact hb pins s1 σ H1 Q I1 q1
 | false=>exact ⟨.bl false,H1,I1,rfl,q1⟩
def Jn (ha:PE X a ta) (hb:PE X (.BoolOp .Or (b :: rest) pos) tb):PE X (.BoolOp .Or (a :: b :: rest) pos) (GO ta tb):=by
 intro pins s σ H Q I h;refine BoolOp_or (thn (ha pins s σ H _ I h) fun v s1 ⟨x,H1,I1,r1,q1⟩=>?_);obtain ⟨c,rfl,q1⟩:=q1;cases r1;refine wpAny_truthy_bool ?_;cases c with
 | false=>exact hb pins s1 σ H1 Q I1 q1
 | true=>exact ⟨.bl true,H1,I1,rfl,q1⟩
def Hi (ha:PE X a ta):PE X (.UnaryOp .Not a pos) (CN ta):=by
 intro pins s σ H Q I h;refine UnaryOp_ (thn (ha pins s σ H _ I h) fun v s1 ⟨x,H1,I1,r1,q1⟩=>?_);obtain ⟨c,rfl,q1⟩:=q1;cases r1;exact not_of (wpAny_truthy_bool ⟨.bl (!c),H1,I1,rfl,q1⟩)
def tIf (t:TT) (ta tb:TE):TE:=fun σ H Q=>t σ H fun c H1=>if c=true then ta σ H1 Q else tb σ H1 Q
def wx {c:Expr} (hc:PT X c tA) (ha:PE X a ta) (hb:PE X b tb):PE X (.IfExp c a b pos) (tIf tA ta tb):=by
 intro pins s σ H Q I h;refine wpAny_IfExp (thn (hc pins s σ H _ I h) fun d s1 ⟨H1,I1,q1⟩=>?_);cases d with
 | true=>exact ha pins s1 σ H1 Q I1 q1
 | false=>exact hb pins s1 σ H1 Q I1 q1
end
def SqL (K:PySem.W.Frag) (H:Hp) (a:Addr) (xs:List V):Prop :=
 Rd H a (.lst xs) \/
  ∃ (o:Obj) (its:Array Value) (n:Nat),K.lookup a=some o/\o.cls=.type "list"/\o.dict=none/\o.data=.seq its n/\its.size<=sizeLine/\Vals xs its.toList
def SqT (K:PySem.W.Frag) (H:Hp) (a:Addr) (xs:List V):Prop :=
 Rd H a (.tup xs) \/
  ∃ (o:Obj) (its:Array Value) (n:Nat),K.lookup a=some o/\o.cls=.type "tuple"/\o.data=.seq its n/\its.size<=sizeLine/\Vals xs its.toList
def Km:Value->Option V
 | .none=>some .non
 | .bool b=>some (.bl b)
 | .int i _=>some (.int i)
 | .str x _=>some (.str x)
 | .bytes b _=>some (.byt b)
 | .float b _=>some (.flt b)
 | .ref a=>some (.ref a)
 | .type n=>some (.ty n)
 | _=>none
def RelV.abs {x:V} {u:Value} (r:RelV x u):Km u=some x:=by
 cases x with
 | non=>cases r; rfl
 | bl _=>cases r; rfl
 | int _=>obtain ⟨t,rfl⟩:=r; rfl
 | str _=>obtain ⟨t,rfl⟩:=r; rfl
 | byt _=>obtain ⟨t,rfl⟩:=r; rfl
 | flt _=>obtain ⟨t,rfl⟩:=r; rfl
 | ref _=>cases r; rfl
 | ty _=>cases r; rfl
def RelV.inj {x y:V} {u:Value} (r:RelV x u) (q:RelV y u):x=y:=zat (r.abs.symm.trans q.abs)
def Vals.inj:∀ {xs ys:List V} {us:List Value},Vals xs us->Vals ys us->xs=ys
 | _,_,_,.nil,.nil=>rfl
 | _,_,_,.cons r t,.cons r' t'=>by rw [r.inj r',Vals.inj t t']
section
variable {X:Cx} {pins:List (Addr × Obj)} {σ:St} {H:Hp} {s:Shared} {a:Addr} {xs ys:List V}
def SqL.of {K:PySem.W.Frag} (h:H a=some (.lst xs)):SqL K H a xs:=.inl (.inl h)
def SqT.of {K:PySem.W.Frag} (h:H a=some (.tup xs)):SqT K H a xs:=.inl (.inl h)
def Inv.list (I:Inv X pins σ H s) (h:SqL X.K H a xs):∃ its:List Value,Vals xs its/\PlainL s.heap a its.toArray/\xs.length<=sizeLine:=by
 rcases h with h | ⟨o,its,n,hk,hc,hd,hs,hz,r⟩
 ·obtain ⟨z,its,n,r,e⟩:=h.ok I.hok;exact ⟨its,r,⟨_,n,e,rfl,rfl,rfl⟩,z⟩
 ·refine ⟨its.toList,r,⟨o,n,I.kIn a o hk,hc,hd,by simpa using hs⟩,?_⟩;have e:=r.length;simp only [zaY] at e;omega
def Inv.tuple (I:Inv X pins σ H s) (h:SqT X.K H a xs):∃ its:List Value,Vals xs its/\IsTup s.heap a its.toArray/\xs.length<=sizeLine:=by
 rcases h with h | ⟨o,its,n,hk,hc,hs,hz,r⟩
 ·obtain ⟨z,its,r,p⟩:=h.ok I.hok;exact ⟨its,r,p.tup,z⟩
 ·refine ⟨its.toList,r,⟨o,I.kIn a o hk,hc,n,by simpa using hs⟩,?_⟩;have e:=r.length;simp only [zaY] at e;omega
def Inv.list_inj (I:Inv X pins σ H s) (h:SqL X.K H a xs) (h':SqL X.K H a ys):xs=ys:=by
 obtain ⟨its,r,⟨o,n,e,_,_,d⟩,_⟩:=I.list h;obtain ⟨its',r',⟨o',n',e',_,_,d'⟩,_⟩:=I.list h';rw [e] at e'; cases e';rw [d] at d';injection d' with d1 _
 have:its=its':=by simpa using congrArg Array.toList d1
 subst this;exact r.inj r'
def Inv.tuple_inj (I:Inv X pins σ H s) (h:SqT X.K H a xs) (h':SqT X.K H a ys):xs=ys:=by
 obtain ⟨its,r,⟨o,e,_,n,d⟩,_⟩:=I.tuple h;obtain ⟨its',r',⟨o',e',_,n',d'⟩,_⟩:=I.tuple h';rw [e] at e'; cases e';rw [d] at d';injection d' with d1 _
 have:its=its':=by simpa using congrArg Array.toList d1
 subst this;exact r.inj r'
end
abbrev Cx.wish (X:Cx) (E:Value->Shared->Prop):Cx:={ X with xe:=E }
abbrev Cx.nox (X:Cx):Cx:=X.wish fun _ _=>False
def Cx.Ok.wish {X:Cx} (ok:X.Ok) (E:Value->Shared->Prop):(X.wish E).Ok :=
 ⟨ok.mod,ok.kind,ok.glob,ok.blt,ok.above,ok.inj,ok.has,ok.cab,ok.hd,ok.frames,ok.stk,ok.exf,ok.bs,ok.bsz,ok.noex,ok.exfs,ok.funs,ok.frf⟩
def Cx.Ok.unwish {X:Cx} {E:Value->Shared->Prop} (ok:(X.wish E).Ok):X.Ok :=
 ⟨ok.mod,ok.kind,ok.glob,ok.blt,ok.above,ok.inj,ok.has,ok.cab,ok.hd,ok.frames,ok.stk,ok.exf,ok.bs,ok.bsz,ok.noex,ok.exfs,ok.funs,ok.frf⟩
section
variable {X:Cx} {pins:List (Addr × Obj)} {σ:St} {H:Hp} {s:Shared} {E:Value->Shared->Prop}
def Inv.wish (I:Inv X pins σ H s) (E:Value->Shared->Prop):Inv (X.wish E) pins σ H s:=⟨I.ok.wish E,I.os,I.bare,I.base,I.loc,I.cell,I.free,I.freeC,I.pin,I.hok,I.len⟩
def Inv.unwish (I:Inv (X.wish E) pins σ H s):Inv X pins σ H s:=⟨I.ok.unwish,I.os,I.bare,I.base,I.loc,I.cell,I.free,I.freeC,I.pin,I.hok,I.len⟩
def SP.unwish {D:Ends} {f:Flow} {s':Shared} (h:SP (X.wish E) pins D f s'):SP X pins D f s':=by
 cases f with
 | next=>obtain ⟨σ',H',I,q⟩:=h; exact ⟨σ',H',I.unwish,q⟩
 | brk=>obtain ⟨σ',H',I,q⟩:=h; exact ⟨σ',H',I.unwish,q⟩
 | cont=>obtain ⟨σ',H',I,q⟩:=h; exact ⟨σ',H',I.unwish,q⟩
 | ret u=>obtain ⟨v,σ',H',I,r,q⟩:=h; exact ⟨v,σ',H',I.unwish,r,q⟩
def PSs.nox {st:List Stmt} {t:TS} (h:PSs X.nox st t):PSs X st t:=fun pins s σ H D I hw =>
 wpAny_mono (h pins s σ H D (I.wish _) hw) (fun _ _ q=>q.unwish) fun _ _ z=>False.elim z
end
section
variable {X:Cx} {st:Stmt} {rest:List Stmt} {t u:TS} {e:Expr} {te:TE} {pos:Pos}
def CO:TS:=fun D σ H=>D.nx σ H
def GM (t u:TS):TS:=fun D σ H=>t { D with nx:=u D } σ H
def pss_nil:PSs X [] CO:=fun _ _ σ H _ I h=>wpAny_execs_nil ⟨σ,H,I,h⟩
def wo (h1:PS X st t) (h2:PSs X rest u):PSs X (st :: rest) (GM t u):=by
 intro pins s σ H D I h;refine wpAny_execs_cons (thn (h1 pins s σ H { D with nx:=u D } I h) fun f s1 q=>?_);cases f with
 | next =>
  obtain ⟨σ',H',I',q⟩:=q;exact h2 pins s1 σ' H' D I' q
 | ret v=>exact q
 | brk=>exact q
 | cont=>exact q
def Dy (h1:PS X st t):PSs X [st] t:=by
 intro pins s σ H D I h;refine wpAny_execs_cons (thn (h1 pins s σ H D I h) fun f s1 q=>?_);cases f with
 | next=>exact wpAny_execs_nil q
 | ret v=>exact q
 | brk=>exact q
 | cont=>exact q
def Inv.quiet {pins:List (Addr × Obj)} {σ:St} {H:Hp} {s:Shared} (I:Inv X pins σ H s):interactive X.env=false:=by simp [interactive,I.ok.kind]
def CP (te:TE):TS:=fun D σ H=>te σ H fun _ H1=>D.nx σ H1
def Dz (he:PE X e te) (hs:swapsWith e none pos.line X.env=pure false:=by rfl):PS X (.Expr e pos) (CP te):=by
 intro pins s σ H D I h;exact wpAny_Expr_any (thn (he pins s σ H _ I h) fun v s1 ⟨x,H1,I1,r1,q1⟩=>⟨σ,H1,I1,q1⟩) I.quiet hs
def GN (te:TE):TS:=fun D σ H=>te σ H D.rt
def Hb (he:PE X e te):PS X (.Return (some e) pos) (GN te):=by
 intro pins s σ H D I h;exact wpAny_Return_some (thn (he pins s σ H _ I h) fun v s1 ⟨x,H1,I1,r1,q1⟩=>⟨x,σ,H1,I1,r1,q1⟩)
def GR (c:TT) (t u:TS):TS:=fun D σ H=>c σ H fun b H1=>if b=true then t D σ H1 else u D σ H1
def Jm {c:Expr} {a b:List Stmt} {tc:TT} (hc:PT X c tc) (ha:PSs X a t) (hb:PSs X b u):PS X (.If c a b pos) (GR tc t u):=by
 intro pins s σ H D I h;refine wpAny_If (thn (hc pins s σ H _ I h) fun d s1 ⟨H1,I1,q1⟩=>?_);cases d with
 | true=>exact ha pins s1 σ H1 D I1 q1
 | false=>exact hb pins s1 σ H1 D I1 q1
def uF:TS:=fun _ _ _=>False
def ps_never:PS X st uF:=fun _ _ _ _ _ _ h=>h.elim
end
abbrev TG:=V->St->Hp->(St->Hp->Prop)->Prop
abbrev TGs:=List V->St->Hp->(St->Hp->Prop)->Prop
def PG (X:Cx) (target:Expr) (t:TG):Prop :=
 ∀ (pins:List (Addr × Obj)) (s:Shared) (σ:St) (H:Hp) (v:V) (u:Value) (Q:St->Hp->Prop),Inv X pins σ H s->RelV v u->t v σ H Q ->
  wpAny (model X.prog X.w) X.A (assign target X.env u) (fun _ s'=>∃ σ' H',Inv X pins σ' H' s'/\Q σ' H') X.xe s
def PGs (X:Cx) (ts:List Expr) (t:TGs):Prop :=
 ∀ (pins:List (Addr × Obj)) (s:Shared) (σ:St) (H:Hp) (vs:List V) (us:List Value) (Q:St->Hp->Prop),Inv X pins σ H s->Vals vs us->t vs σ H Q ->
  wpAny (model X.prog X.w) X.A (assignInOrder ((assignEach ts X.env).map (·.2)) us) (fun _ s'=>∃ σ' H',Inv X pins σ' H' s'/\Q σ' H') X.xe s
abbrev xz:=V->V->V->Hp->(Hp->Prop)->Prop
def IZ (X:Cx) (t:xz):Prop :=
 ∀ (pins:List (Addr × Obj)) (s:Shared) (σ:St) (H:Hp) (o i v:V) (ov iv u:Value) (Q:Hp->Prop),Inv X pins σ H s->RelV o ov->RelV i iv->RelV v u->t o i v H Q ->
  wpAny (model X.prog X.w) X.A (setItem ov iv u) (fun _ s'=>∃ H',Inv X pins σ H' s'/\Q H') X.xe s
section
variable {X:Cx} {pos:Pos}
def nH (i:Nat):TG:=fun v σ H Q=>Q (σ.set i (some v)) H
def DH {i:Nat} {x:Str} (hN:X.N.Nodup) (hi:X.N[i]?=some x) (hx:Loc X.env.scope x) (hf:X.fn x=true\/X.env.scope.names.lookup x=some .local:=by first | exact .inl rfl | exact .inr rfl | assumption):PG X (.Name x pos) (nH i):=by
 intro pins s σ H v u Q I r h;exact wpAny_assign_Name (qp I hN hi hx r (fun s' I'=>⟨_,H,I',h⟩) hf)
def HQ:TGs:=fun vs σ H Q=>vs=[]/\Q σ H
def Dj (t:TG) (u:TGs):TGs:=fun vs σ H Q=>∃ v r,vs=v :: r/\t v σ H fun σ' H'=>u r σ' H' Q
def pgs_nil:PGs X [] HQ:=by
 intro pins s σ H vs us Q I r h;obtain ⟨e,h⟩:=h;subst e;cases r;exact assignInOrder_nil ⟨σ,H,I,h⟩
def wv {e:Expr} {es:List Expr} {t:TG} {u:TGs} (h1:PG X e t) (h2:PGs X es u)
  (hs:(assignEach (e :: es) X.env).map (·.2)=assign e X.env :: (assignEach es X.env).map (·.2):=by rfl):PGs X (e :: es) (Dj t u):=by
 intro pins s σ H vs us Q I r h;obtain ⟨v,vr,e1,h⟩:=h;subst e1;cases r with
 | cons r rr =>
  rw [hs];refine assignInOrder_cons (thn (h1 pins s σ H _ _ _ I r h) fun _ s1 ⟨σ1,H1,I1,q1⟩=>?_);exact h2 pins s1 σ1 H1 _ _ Q I1 rr q1
def HN (K:PySem.W.Frag) (n:Nat) (t:TGs):TG:=fun v σ H Q=>∃ a xs,v=.ref a/\SqT K H a xs/\xs.length=n/\t xs σ H Q
def Hf {es:List Expr} {k:Nat} {t:TGs} {n:Nat} (hc:X.calm=true) (h:PGs X es t)
  (hn:(assignEach es X.env).length=n:=by rfl) (hst:(assignEach es X.env).findIdx? (·.1)=none:=by rfl):PG X (.Tuple es k pos) (HN X.K n t):=by
 intro pins s σ H v u Q I r hw;obtain ⟨a,xs,e1,hq,hl,hw⟩:=hw;subst e1;cases r;obtain ⟨its,rv,ht,hz⟩:=I.tuple hq;refine assign_Tuple_tuple (I.ok.hd hc) ht (by simp [hn,<- hl,rv.length]) hst fun h' hx=>?_;have I1:Inv X pins σ H { s with heap:=h' }:=I.kept (t':=s.toks) fun b o e=>hx b o (zaw (zal e)) e;exact h pins _ σ H xs _ Q I1 (by simpa using rv) hw
def HP (to ti:TE) (t:xz):TG:=fun v σ H Q=>to σ H fun o H1=>ti σ H1 fun i H2=>t o i v H2 fun H3=>Q σ H3
def Hg {o i:Expr} {to ti:TE} {t:xz} (ho:PE X o to) (hi:PE X i ti) (hs:IZ X t)
  (ha:∀ v,assign (.Subscript o i pos) X.env v=(do
   let ov <- holding [v] (eval o X.env);let iv <- holding [v,ov] (eval i X.env)
   standAt pos
   holding [v,ov,iv] (setItem ov iv v)
   release [v,ov,iv] []):=by intro _; rfl):PG X (.Subscript o i pos) (HP to ti t):=by
 intro pins s σ H v u Q I r h;rw [ha];refine zam (wpAny_holding (thn (ho pins s σ H _ I h) fun ov s1 ⟨x,H1,I1,r1,q1⟩=>?_));refine zam (wpAny_holding (thn (hi pins s1 σ H1 _ I1 q1) fun iv s2 ⟨y,H2,I2,r2,q2⟩=>?_));refine zam (wpAny_standAt (zam (wpAny_holding (thn (hs pins s2 σ H2 x y v ov iv u _ I2 r1 r2 r q2) fun _ s3 ⟨H3,I3,q3⟩=>?_))));exact wpAny_release ⟨σ,H3,I3,q3⟩
def qm (te:TE) (g:TG):TS:=fun D σ H=>te σ H fun x H1=>g x σ H1 D.nx
def Hd {tg e:Expr} {te:TE} {g:TG} (he:PE X e te) (hg:PG X tg g) (hs:swapsWithSole [tg] e pos.line X.env=pure false:=by rfl) (hw:swappedStores [tg] e X.env=pure none:=by rfl)
  (h1:(assignEach [tg] X.env).map (·.2)=[assign tg X.env]:=by rfl):PS X (.Assign [tg] e pos) (qm te g):=by
 intro pins s σ H D I h;refine wpAny_Assign_stores (thn (he pins s σ H _ I h) fun v s1 ⟨x,H1,I1,r1,q1⟩=>?_) hs hw;rw [h1];exact thn (hg pins s1 σ H1 x v _ I1 r1 q1) fun _ s2 q=>q
def Ha {i:Nat} {x:Str} {e:Expr} {te:TE} {pos':Pos} (hN:X.N.Nodup) (hi:X.N[i]?=some x) (hx:Loc X.env.scope x) (he:PE X e te) (hs:swapsWith e (some (.Name x pos')) pos.line X.env=pure false:=by rfl) (hf:X.fn x=true\/X.env.scope.names.lookup x=some .local:=by first | exact .inl rfl | exact .inr rfl | assumption) :
  PS X (.Assign [.Name x pos'] e pos) (qm te (nH i)):=by
 intro pins s σ H D I h;refine wpAny_Assign_Name (thn (he pins s σ H _ I h) fun v s1 ⟨y,H1,I1,r1,q1⟩=>?_) hs;exact qp I1 hN hi hx r1 (fun s2 I2=>⟨_,H1,I2,q1⟩) hf
def uE (c:TT) (tb:TS):TS:=fun D σ H=>∃ W:Nat->St->Hp->Prop,(∃ m,W m σ H)/\∀ m σ H,W m σ H ->
 c σ H fun b H1=>if b=true then ∃ N:St->Hp->Prop,(∀ σ' H',N σ' H'->∃ m',m' < m/\W m' σ' H')/\tb { D with nx:=N,ct:=N,bk:=D.nx } σ H1 else D.nx σ H1
def wp {c:Expr} {body:List Stmt} {tc:TT} {tb:TS} (hp:PassesOwn (model X.prog X.w) X.A X.env X.xe) (hc:PT X c tc) (hb:PSs X body tb):PS X (.While c body [] pos) (uE tc tb):=by
 intro pins s σ H D I h;obtain ⟨W,⟨m0,w0⟩,turn⟩:=h;refine wpAny_While (codeAny_whileLoop (fun n s'=>∃ σ' H',Inv X pins σ' H' s'/\W n σ' H') ?_ m0 ⟨σ,H,I,w0⟩);rintro n s1 ⟨σ1,H1,I1,w1⟩;refine wpAny_passesOwn hp (thn (hc pins s1 σ1 H1 _ I1 (turn n σ1 H1 w1)) fun b s2 ⟨H2,I2,q2⟩=>?_);cases b with
 | true =>
  obtain ⟨N,hN,q2⟩:=q2;rw [if_pos rfl];refine wpAny_passesOwn hp (thn (hb pins s2 σ1 H2 _ I2 q2) fun f s3 q3=>?_);cases f with
  | next =>
   obtain ⟨σ3,H3,I3,n3⟩:=q3;obtain ⟨m',hm,w3⟩:=hN σ3 H3 n3;exact ⟨m',hm,σ3,H3,I3,w3⟩
  | cont =>
   obtain ⟨σ3,H3,I3,n3⟩:=q3;obtain ⟨m',hm,w3⟩:=hN σ3 H3 n3;exact ⟨m',hm,σ3,H3,I3,w3⟩
  | brk=>exact q3
  | ret v=>exact q3
 | false =>
  rw [if_neg Bool.false_ne_true];exact wpAny_execs_nil ⟨σ1,H2,I2,q2⟩
end
structure It where
 go:Nat->Hp->Prop
 yld:Nat->Hp->V->Hp->Prop
 stop:Nat->Hp->Prop
def gX (X:Cx) (pins:List (Addr × Obj)) (H:Hp) (b:Addr):Prop :=
 H b=none/\b≠X.env.locals/\b ∉ X.fs/\(b∈X.ex\/X.s₀.heap.objs.size<=b)/\(∀ x c,X.env.cells.lookup x=some c->c≠b)/\∀ p∈X.pn++pins,p.1≠b
def Inv.fpOk {X:Cx} {pins:List (Addr × Obj)} {σ:St} {H H':Hp} {s:Shared} {b:Addr} (I:Inv X pins σ H s) (hb:s.heap.objs.size<=b) (hn:H' b=none):gX X pins H' b:=by
 refine ⟨hn,Nat.ne_of_gt (zag I.lt hb),I.nofs hb,.inr (zau I.sz hb),fun x c e z=>?_,fun p hp z=>?_⟩
 ·obtain ⟨v,q⟩:=I.cell x c e;exact absurd (zag q.lt (by rw [z]; exact hb)) (zaI _)
 ·exact absurd (zag (zal (I.pin p hp).1) (by rw [z]; exact hb)) (zaI _)
structure Turn (P:Program) (w:World) (K:PySem.W.Frag) (tg:Expr) (J:It) (fp:List Addr) (it:Addr) (tn:Nat->Heap->Prop):Prop where
 mem:it∈fp
 obj:∀ i h,tn i h->∀ b∈fp,∃ o,h.get? b=some o/\∀ v,o.data≠.cell v
 keep:∀ i h h',tn i h->(∀ b∈fp,∀ o,h.get? b=some o->h'.get? b=some o)->tn i h'
 item:∀ (X:Cx),X.prog=P->X.w=w->X.K=K->X.calm=true->∀ (i:Nat) (pins:List (Addr × Obj)) (s:Shared) (σ:St) (H:Hp) (E:Value->Shared->Prop),Inv X pins σ H s->(∀ b∈fp,gX X pins H b)->tn i s.heap->J.go i H ->
  wpAny (model P w) X.A (pyNext (.ref it)) (fun r s1=>∃ u,r=some u /\
   wpAny (model P w) X.A (letOwnedTupleGo tg (.ref it) u) (fun _ s2=>∃ x H',Inv X pins σ H' s2/\RelV x u/\J.yld i H x H'/\tn (i+1) s2.heap/\∀ b∈fp,H' b=none) E s1) E s
 done:∀ (X:Cx),X.prog=P->X.w=w->X.K=K->X.calm=true->∀ (i:Nat) (pins:List (Addr × Obj)) (s:Shared) (σ:St) (H:Hp) (E:Value->Shared->Prop),Inv X pins σ H s->(∀ b∈fp,gX X pins H b)->tn i s.heap->J.stop i H ->
  wpAny (model P w) X.A (pyNext (.ref it)) (fun r s1=>r=none/\Inv X pins σ H s1) E s
 self:∀ (A:Around) (i:Nat) (s:Shared) (Q:Value->Shared->Prop) (E:Value->Shared->Prop),tn i s.heap->Q (.ref it) s->wpAny (model P w) A (pyIter (.ref it)) Q E s
abbrev TI:=St->Hp->(It->Hp->Prop)->Prop
def PIE (X:Cx) (pins:List (Addr × Obj)) (σ:St) (tg:Expr) (R:It->Hp->Prop) (itv:Value) (s2:Shared):Prop :=
 ∃ (it:Addr) (fp:List Addr) (tn:Nat->Heap->Prop) (J:It) (H':Hp),itv=.ref it/\Inv X pins σ H' s2/\Turn X.prog X.w X.K tg J fp it tn/\tn 0 s2.heap/\(∀ b∈fp,gX X pins H' b)/\R J H'
def PI (X:Cx) (tg iter:Expr) (wi:TI):Prop :=
 ∀ (pins:List (Addr × Obj)) (s:Shared) (σ:St) (H:Hp) (R:It->Hp->Prop),Inv X pins σ H s->wi σ H R ->
  wpAny (model X.prog X.w) X.A (eval iter X.env) (fun v s1=>wpAny (model X.prog X.w) X.A (pyIter v) (PIE X pins σ tg R) X.xe s1) X.xe s
def qf {M:Model} {A:Around} {E:Value->Shared->Prop} {s:Shared} {tg:Expr} {it:Addr} {u:Value} {o:Obj} {n:String} {vs:Array Value} {Q:Unit->Shared->Prop} (ho:s.heap.get? it=some o) (hc:o.cls=.type n) (hd:o.data=.fields vs)
  (hn:["enumerate", "zip", "dict_itemiterator", "dict_reverseitemiterator", "odict_iterator", "itertools.zip_longest", "itertools.pairwise"].contains n=false) (hQ:Q () s):wpAny M A (letOwnedTupleGo tg (.ref it) u) Q E s:=by
 unfold letOwnedTupleGo;cases tg <;> first
  | exact zaT hQ
  | (cases u <;> first
    | exact zaT hQ
    | (refine zam (wpAny_load ho ?_)
       rw [hc,hd];show wpAny M A (if (["enumerate", "zip", "dict_itemiterator", "dict_reverseitemiterator", "odict_iterator", "itertools.zip_longest", "itertools.pairwise"].contains n && vs[0]? == some (rawInt _))=true then _ else _) Q E s;rw [if_neg (by intro h; rw [hn,Bool.false_and] at h; cases h)];exact zaT hQ))
def Itl (K:PySem.W.Frag) (a:Addr):It :=
 ⟨fun i H=>∃ xs x,SqL K H a xs/\xs[i]?=some x,fun i H x H'=>H'=H/\∀ xs,SqL K H a xs->xs[i]?=some x,fun i H=>∃ xs,SqL K H a xs/\xs.length<=i⟩
def Itt (K:PySem.W.Frag) (a:Addr):It :=
 ⟨fun i H=>∃ xs x,SqT K H a xs/\xs[i]?=some x,fun i H x H'=>H'=H/\∀ xs,SqT K H a xs->xs[i]?=some x,fun i H=>∃ xs,SqT K H a xs/\xs.length<=i⟩
def Itr (lo:Int) (n:Nat):It:=⟨fun i _=>i < n,fun i H x H'=>H'=H/\x=.int (lo+i),fun i _=>n<=i⟩
def uB {P:Program} {w:World} {K:PySem.W.Frag} {tg:Expr} (a it:Addr):Turn P w K tg (Itl K a) [it] it (fun i h=>h.IsListIter it a i) where
 mem:=by simp
 obj:=fun i h st b hb=>by
  have e:b=it:=by simpa using hb
  subst e;obtain ⟨o,e,c,d⟩:=st;exact ⟨o,e,fun v z=>by rw [d] at z; cases z⟩
 keep:=fun i h h' st k=>st.at fun o e=>k it (by simp) o e
 item:=by
  intro X hP hw hK hc i pins s σ H E I hf st hg;subst hP hw hK;obtain ⟨xs,x,hq,hx⟩:=hg;obtain ⟨its,rv,p,hz⟩:=I.list hq;obtain ⟨u,hu,ru⟩:=rv.get hx;obtain ⟨f0,f1,f2,f3,f4,f5⟩:=hf it (by simp);refine wpAny_pyNext_list_item st p.isList (x:=u) (by simpa using hu) fun h' st' sb=>?_;have I1:Inv X pins σ H { s with heap:=h' }:=I.turned (t':=s.toks) (fun b o hb e=>(sb.2 b hb).trans e) f0 f1 f3 f4 f5;obtain ⟨o,e,c,d⟩:=id st';exact ⟨u,rfl,qf (s:={ s with heap:=h' }) e c d (by decide) ⟨x,H,I1,ru,⟨rfl,fun ys hy=>by rw [I.list_inj hy hq]; exact hx⟩,st',fun b hb=>(hf b hb).1⟩⟩
 done:=by
  intro X hP hw hK hc i pins s σ H E I hf st hg;subst hP hw hK;obtain ⟨xs,hq,hx⟩:=hg;obtain ⟨its,rv,p,hz⟩:=I.list hq;obtain ⟨f0,f1,f2,f3,f4,f5⟩:=hf it (by simp);have hl:=rv.length;exact wpAny_pyNext_list_end (I.ok.hd hc) st p.isList (by simp; omega) fun h' eb=>⟨rfl,I.turned (t':=s.toks) (fun b o hb e=>eb b o hb e) f0 f1 f3 f4 f5⟩
 self:=fun _ _ _ _ _ st h=>wpAny_pyIter_listiter st h
def sU {P:Program} {w:World} {K:PySem.W.Frag} {tg:Expr} (a it:Addr):Turn P w K tg (Itt K a) [it] it (fun i h=>h.IsTupleIter it a i) where
 mem:=by simp
 obj:=fun i h st b hb=>by
  have e:b=it:=by simpa using hb
  subst e;obtain ⟨o,e,c,d⟩:=st;exact ⟨o,e,fun v z=>by rw [d] at z; cases z⟩
 keep:=fun i h h' st k=>st.at fun o e=>k it (by simp) o e
 item:=by
  intro X hP hw hK hc i pins s σ H E I hf st hg;subst hP hw hK;obtain ⟨xs,x,hq,hx⟩:=hg;obtain ⟨its,rv,p,hz⟩:=I.tuple hq;obtain ⟨u,hu,ru⟩:=rv.get hx;obtain ⟨f0,f1,f2,f3,f4,f5⟩:=hf it (by simp);refine wpAny_pyNext_tuple_item st (show s.heap.IsTuple a its.toArray from p) (x:=u) (by simpa using hu) fun h' st' sb=>?_;have I1:Inv X pins σ H { s with heap:=h' }:=I.turned (t':=s.toks) (fun b o hb e=>(sb.2 b hb).trans e) f0 f1 f3 f4 f5;obtain ⟨o,e,c,d⟩:=id st';exact ⟨u,rfl,qf (s:={ s with heap:=h' }) e c d (by decide) ⟨x,H,I1,ru,⟨rfl,fun ys hy=>by rw [I.tuple_inj hy hq]; exact hx⟩,st',fun b hb=>(hf b hb).1⟩⟩
 done:=by
  intro X hP hw hK hc i pins s σ H E I hf st hg;subst hP hw hK;obtain ⟨xs,hq,hx⟩:=hg;obtain ⟨its,rv,p,hz⟩:=I.tuple hq;obtain ⟨f0,f1,f2,f3,f4,f5⟩:=hf it (by simp);have hl:=rv.length;exact wpAny_pyNext_tuple_end (I.ok.hd hc) st (show s.heap.IsTuple a its.toArray from p) (by simp; omega) fun h' eb=>⟨rfl,I.turned (t':=s.toks) (fun b o hb e=>eb b o hb e) f0 f1 f3 f4 f5⟩
 self:=fun _ _ _ _ _ st h=>wpAny_pyIter_tupleiter st h
def sV {P:Program} {w:World} {K:PySem.W.Frag} {tg:Expr} (it:Addr) (lo:Int) (n:Nat):Turn P w K tg (Itr lo n) [it] it (fun i h=>IsRangeIter h it (lo+(i:Nat) * 1) ((n:Int) - (i:Nat)) 1) where
 mem:=by simp
 obj:=fun i h st b hb=>by
  have e:b=it:=by simpa using hb
  subst e;exact ⟨_,st,fun v z=>by
   have z':Data.fields _=Data.cell v:=z;cases z'⟩
 keep:=fun i h h' st k=>k it (by simp) _ st
 item:=by
  intro X hP hw hK hc i pins s σ H E I hf st hg;subst hP hw hK;obtain ⟨f0,f1,f2,f3,f4,f5⟩:=hf it (by simp);have W:=Walks.range (prog:=X.prog) (w:=X.w) (I.ok.hd hc) it lo 1 n;refine W.item i s _ _ hg st fun v h' tk hv st' kk=>?_;obtain ⟨t,rfl⟩:=hv;have I1:Inv X pins σ H { s with heap:=h',toks:=tk }:=I.turned (fun b o hb e=>kk b o (by simpa using hb) e) f0 f1 f3 f4 f5;refine ⟨_,rfl,qf (s:={ s with heap:=h',toks:=tk }) (n:="range_iterator") st' rfl rfl (by decide) ⟨.int (lo+i),H,I1,⟨t,?_⟩,⟨rfl,rfl⟩,st',fun b hb=>(hf b hb).1⟩⟩;rw [Int.mul_one]
 done:=by
  intro X hP hw hK hc i pins s σ H E I hf st hg;subst hP hw hK;obtain ⟨f0,f1,f2,f3,f4,f5⟩:=hf it (by simp);exact wpAny_pyNext_range_end (I.ok.hd hc) st (by have:n<=i:=hg; omega) fun h' eb=>⟨rfl,I.turned (t':=s.toks) (fun b o hb e=>eb b o hb e) f0 f1 f3 f4 f5⟩
 self:=fun _ _ _ _ _ st h=>wpAny_pyIter_rangeiter st h
section
variable {X:Cx} {tg:Expr}
def wm {pins:List (Addr × Obj)} {σ:St} {H:Hp} {s:Shared} {R:It->Hp->Prop} {E:Value->Shared->Prop} {lo hi:Int} {t u v:Tok} {tk:Nat} (I:Inv X pins σ H s) (h1:-(2 ^ 62)<=lo) (h2:lo < 2 ^ 62) (h3:-(2 ^ 62)<=hi) (h4:hi < 2 ^ 62)
  (q:R (Itr lo (hi - lo).toNat) H):wpAny (model X.prog X.w) X.A (pyIter (.ref s.heap.objs.size)) (PIE X pins σ tg R) E { s with heap:=s.heap.push { cls:=.type "range",data:=.fields #[.int lo t,.int hi u,.int 1 v] },toks:=tk }:=by
 refine wpAny_pyIter_range (IsRange.new ..) (small_one h1 h2 h3 h4) ?_;have I1:Inv X pins σ H { s with heap:=s.heap.push { cls:=.type "range",data:=.fields #[.int lo t,.int hi u,.int 1 v] },toks:=tk }:=I.kept fun b o e=>zaf _ e;refine ⟨(s.heap.push { cls:=.type "range",data:=.fields #[.int lo t,.int hi u,.int 1 v] }).objs.size,[(s.heap.push { cls:=.type "range",data:=.fields #[.int lo t,.int hi u,.int 1 v] }).objs.size],_,_,H,rfl,
  I1.kept (t':=tk) fun b o e=>zaf _ e,sV _ lo (hi - lo).toNat,?_,fun b hb=>?_,q⟩
 ·have e1:lo+((0:Nat):Int) * 1=lo:=by simp
  have e2:(((hi - lo).toNat:Nat):Int) - ((0:Nat):Int)=Builtin.Range.rangeSize lo hi 1:=by rw [rangeSize_one]; split <;> omega
  show IsRangeIter _ _ (lo+((0:Nat):Int) * 1) ((((hi - lo).toNat:Nat):Int) - ((0:Nat):Int)) 1;rw [e1,e2];exact zan _ rfl
 ·have e:b=(s.heap.push { cls:=.type "range",data:=.fields #[.int lo t,.int hi u,.int 1 v] }).objs.size:=by simpa using hb
  subst e;exact I1.fpOk (zav _) (I1.hok.fresh (zav _))
def Jz (ta:TA):TI:=fun σ H R=>ta σ H fun vs H1=>∃ j:Int,vs=[.int j]/\-(2 ^ 62)<=j/\j < 2 ^ 62/\R (Itr 0 j.toNat) H1
def uP {a:Expr} {ta:TA} {p pos:Pos} (hg:Gl X "range") (hm:X.mg "range"=none) (ha:PA X [a] ta) (hs:starEach [a] X.env=[(false,eval a X.env)]:=by rfl):PI X tg (.Call (.Name "range" p) [a] [] pos) (Jz ta):=by
 intro pins s σ H R I h;refine Call_ (kW I hg hm boot_range (PyProof.Rows.callWith_type1 (thn (ha pos pins s σ H _ I h) fun us s1 ⟨vs,H1,I1,r1,q1⟩=>?_) hs rfl));obtain ⟨j,e,q1,q2,q⟩:=q1;subst e;cases r1 with
 | cons r rr =>
  cases rr;obtain ⟨t,rfl⟩:=r;exact call_range_1 (wm I1 (by omega) (by omega) q1 q2 (by simpa using q))
def GT (wi:TI) (g:TG) (tb:TS):TS:=fun D σ H=>wi σ H fun J H1=>∃ W:Nat->Nat->St->Hp->Prop,(∃ m,W 0 m σ H1)/\∀ i m σ H,W i m σ H ->
 (J.stop i H/\D.nx σ H)\/(J.go i H/\∃ N:St->Hp->Prop,(∀ σ' H',N σ' H'->∃ m',m' < m/\W (i+1) m' σ' H')/\∀ x H',J.yld i H x H'->g x σ H' fun σ2 H2=>tb { D with nx:=N,ct:=N,bk:=D.nx } σ2 H2)
def kP (fp:List Addr) (h:Heap):List (Addr × Obj):=fp.filterMap fun b=>(h.get? b).map fun o=>(b,o)
def hR {fp:List Addr} {h:Heap} {b:Addr} {o:Obj} (hb:b∈fp) (e:h.get? b=some o):(b,o)∈kP fp h:=List.mem_filterMap.mpr ⟨b,hb,by rw [e]; rfl⟩
def uW {fp:List Addr} {h:Heap} {p:Addr × Obj} (hp:p∈kP fp h):p.1∈fp/\h.get? p.1=some p.2:=by
 obtain ⟨b,hb,e⟩:=List.mem_filterMap.mp hp;cases q:h.get? b with
 | none=>rw [q] at e; cases e
 | some o =>
  rw [q] at e;have e':(b,o)=p:=zat e;subst e';exact ⟨hb,q⟩
def Inv.pinned {pins:List (Addr × Obj)} {σ:St} {H:Hp} {s:Shared} {fp:List Addr} (I:Inv X pins σ H s) (hf:∀ b∈fp,gX X pins H b) (ho:∀ b∈fp,∃ o,s.heap.get? b=some o/\∀ v,o.data≠.cell v):Inv X (pins++kP fp s.heap) σ H s :=
 I.pins_of fun p hp=>(zax.mp hp).elim (fun z=>I.pin p (List.mem_append_right _ z)) fun z=>by
  obtain ⟨hb,e⟩:=uW z;obtain ⟨f0,f1,f2,_⟩:=hf p.1 hb;obtain ⟨o,e',d⟩:=ho p.1 hb;rw [e] at e'; cases e';exact ⟨e,f0,f1,f2,d⟩
def Inv.unpinned {pins pl:List (Addr × Obj)} {σ:St} {H:Hp} {s:Shared} (I:Inv X (pins++pl) σ H s):Inv X pins σ H s:=I.pins_of fun p hp=>I.pin p (List.mem_append_right _ (List.mem_append_left _ hp))
def Hc {iter:Expr} {body:List Stmt} {wi:TI} {g:TG} {tb:TS} {pos:Pos} (hp:PassesOwn (model X.prog X.w) X.A X.env X.xe) (hc:X.calm=true) (hi:PI X tg iter wi) (hg:PG X tg g) (hb:PSs X body tb)
  (hs:∀ x,foldedSetIterable iter X.env x=pure x:=by intro _; rfl):PS X (.For tg iter body [] pos) (GT wi g tb):=by
 intro pins s σ H D I h;refine wpAny_For (thn (hi pins s σ H _ I h) fun v s1 h1=>thn h1 fun itv s2 h2=>?_) hs;obtain ⟨it,fp,tn,J,H2,e,I2,T,st2,f2,W,⟨m0,w0⟩,turn⟩:=h2;subst e;have stat:∀ {H':Hp},(∀ b∈fp,H' b=none)->∀ b∈fp,gX X pins H' b:=fun hn b hb=>⟨hn b hb,(f2 b hb).2⟩;refine codeAny_forLoop_any (fun n s'=>∃ i σ' H',Inv X pins σ' H' s'/\tn i s'.heap/\(∀ b∈fp,H' b=none)/\W i n σ' H') ?_ m0 ⟨0,σ,H2,I2,st2,fun b hb=>(f2 b hb).1,w0⟩;rintro n s3 ⟨i,σ3,H3,I3,st3,fr3,w3⟩;rcases turn i n σ3 H3 w3 with ⟨stop,qn⟩ | ⟨go,N,hN,step⟩
 ·refine wpAny_passesOwn hp (thn (T.done X rfl rfl rfl hc i pins s3 σ3 H3 X.xe I3 (stat fr3) st3 stop) fun r s4 ⟨hr,I4⟩=>?_);subst hr;exact wpAny_execs_nil ⟨σ3,H3,I4,qn⟩
 ·refine wpAny_passesOwn hp (thn (T.item X rfl rfl rfl hc i pins s3 σ3 H3 X.xe I3 (stat fr3) st3 go) fun r s4 ⟨u,hr,h4⟩=>?_);subst hr;refine wpAny_passesOwn hp (thn h4 fun _ s5 ⟨x,H5,I5,r5,y5,st5,fr5⟩=>?_);have I5':=I5.pinned (stat fr5) (T.obj _ _ st5);refine wpAny_passesOwn hp (thn (hg _ s5 σ3 H5 x u _ I5' r5 (step x H5 y5)) fun _ s6 ⟨σ6,H6,I6,q6⟩=>?_);refine wpAny_passesOwn hp (thn (hb _ s6 σ6 H6 _ I6 q6) fun f s7 q7=>?_);have again:∀ {σ7:St} {H7:Hp},Inv X (pins++kP fp s5.heap) σ7 H7 s7->N σ7 H7->∃ m,m < n/\∃ i σ' H',Inv X pins σ' H' s7/\tn i s7.heap/\(∀ b∈fp,H' b=none)/\W i m σ' H':=fun {σ7 H7} I7 n7=>by
   obtain ⟨m',hm,w7⟩:=hN σ7 H7 n7;refine ⟨m',hm,i+1,σ7,H7,I7.unpinned,T.keep _ _ _ st5 fun b hb o e=>(I7.pin (b,o) (List.mem_append_right _ (List.mem_append_right _ (hR hb e)))).1,fun b hb=>?_,w7⟩;obtain ⟨o,e,d⟩:=T.obj _ _ st5 b hb;exact (I7.pin (b,o) (List.mem_append_right _ (List.mem_append_right _ (hR hb e)))).2.1
  cases f with
  | next=>obtain ⟨σ7,H7,I7,n7⟩:=q7; exact again I7 n7
  | cont=>obtain ⟨σ7,H7,I7,n7⟩:=q7; exact again I7 n7
  | brk=>obtain ⟨σ7,H7,I7,q7⟩:=q7; exact ⟨σ7,H7,I7.unpinned,q7⟩
  | ret v=>obtain ⟨x7,σ7,H7,I7,r7,q7⟩:=q7; exact ⟨x7,σ7,H7,I7.unpinned,r7,q7⟩
end
abbrev R2:=V->V->Hp->VK->Prop
def OpR (X:Cx) (f:Value->Value->Sem Value) (r:R2):Prop :=
 ∀ (pins:List (Addr × Obj)) (s:Shared) (σ:St) (H:Hp) (x y:V) (v u:Value) (Q:VK),Inv X pins σ H s->RelV x v->RelV y u->r x y H Q ->
  wpAny (model X.prog X.w) X.A (f v u) (EP X pins σ Q) X.xe s
def CallR (X:Cx) (f:Value) (r:List V->Hp->VK->Prop):Prop :=
 ∀ (pins:List (Addr × Obj)) (s:Shared) (σ:St) (H:Hp) (xs:List V) (us:List Value) (Q:VK),Inv X pins σ H s->Vals xs us->r xs H Q ->
  wpAny (model X.prog X.w) X.A (call f us) (EP X pins σ Q) X.xe s
def Kp (X:Cx) (r:V->Hp->(Bool->Hp->Prop)->Prop):Prop :=
 ∀ (pins:List (Addr × Obj)) (s:Shared) (σ:St) (H:Hp) (x:V) (v:Value) (Q:Bool->Hp->Prop),Inv X pins σ H s->RelV x v->r x H Q ->
  wpAny (model X.prog X.w) X.A (truthy v) (TP X pins σ Q) X.xe s
def tOp (r:R2) (ta tb:TE):TE:=fun σ H Q=>ta σ H fun x H1=>tb σ H1 fun y H2=>r x y H2 Q
def rI (C:Int->Int->Prop) (g:Int->Int->V):R2:=fun x y H Q=>∃ i j,x=.int i/\y=.int j/\C i j/\Q (g i j) H
def rI0 (g:Int->Int->V):R2:=fun x y H Q=>∃ i j,x=.int i/\y=.int j/\Q (g i j) H
section
variable {X:Cx} {a b c:Expr} {ta tb tc:TE} {pos:Pos}
def xy (ha:PE X a ta) (hb:PE X b tb) {pins:List (Addr × Obj)} {s:Shared} {σ:St} {H:Hp} {R:V->V->Hp->Prop} (I:Inv X pins σ H s)
  (h:ta σ H fun x H1=>tb σ H1 fun y H2=>R x y H2) {Q:Value->Shared->Prop} {f:Value->Value->Sem Value}
  (hf:∀ v u s2 x y H2,Inv X pins σ H2 s2->RelV x v->RelV y u->R x y H2->wpAny (model X.prog X.w) X.A (f v u) Q X.xe s2) :
  wpAny (model X.prog X.w) X.A (eval a X.env) (fun v s₁=>wpAny (model X.prog X.w) X.A (eval b X.env) (fun u s₂=>wpAny (model X.prog X.w) X.A (f v u) Q X.xe s₂) X.xe s₁) X.xe s:=by
 refine thn (ha pins s σ H _ I h) fun v s1 ⟨x,H1,I1,r1,q1⟩=>?_;refine thn (hb pins s1 σ H1 _ I1 q1) fun u s2 ⟨y,H2,I2,r2,q2⟩=>?_;exact hf v u s2 x y H2 I2 r1 r2 q2
def Jo {op:Operator} {r:R2} (ho:OpR X (binaryOp op) r) (ha:PE X a ta) (hb:PE X b tb):PE X (.BinOp a op b pos) (tOp r ta tb):=by
 intro pins s σ H Q I h;exact wpAny_BinOp (xy ha hb I h fun v u s2 x y H2 I2 rx ry q=>ho pins s2 σ H2 x y v u Q I2 rx ry q)
def opI {f:Value->Value->Sem Value} {C:Int->Int->Prop} {g:Int->Int->Int}
  (rule:∀ (i j:Int) (t u:Tok) (s:Shared) (Q:Value->Shared->Prop) (E:Value->Shared->Prop),C i j->Q (.int (g i j) s.toks) { s with toks:=s.toks+1 }->wpAny (model X.prog X.w) X.A (f (.int i t) (.int j u)) Q E s) :
  OpR X f (rI C fun i j=>.int (g i j)):=by
 intro pins s σ H x y v u Q I rx ry h;obtain ⟨i,j,rfl,rfl,hc,q⟩:=h;obtain ⟨t,rfl⟩:=rx;obtain ⟨t',rfl⟩:=ry;exact rule i j t t' s _ _ hc ⟨.int (g i j),H,I.tok _,⟨_,rfl⟩,q⟩
def Hm {f:Value->Value->Sem Value} {g:Int->Int->Int}
  (rule:∀ (i j:Int) (t u:Tok) (s:Shared) (Q:Value->Shared->Prop) (E:Value->Shared->Prop),Q (.int (g i j) s.toks) { s with toks:=s.toks+1 }->wpAny (model X.prog X.w) X.A (f (.int i t) (.int j u)) Q E s) :
  OpR X f (rI0 fun i j=>.int (g i j)):=by
 intro pins s σ H x y v u Q I rx ry h;obtain ⟨i,j,rfl,rfl,q⟩:=h;obtain ⟨t,rfl⟩:=rx;obtain ⟨t',rfl⟩:=ry;exact rule i j t t' s _ _ ⟨.int (g i j),H,I.tok _,⟨_,rfl⟩,q⟩
def tG {f:Value->Value->Sem Value} {g:Int->Int->Bool}
  (rule:∀ (i j:Int) (t u:Tok) (s:Shared) (Q:Value->Shared->Prop) (E:Value->Shared->Prop),Q (.bool (g i j)) s->wpAny (model X.prog X.w) X.A (f (.int i t) (.int j u)) Q E s) :
  OpR X f (rI0 fun i j=>.bl (g i j)):=by
 intro pins s σ H x y v u Q I rx ry h;obtain ⟨i,j,rfl,rfl,q⟩:=h;obtain ⟨t,rfl⟩:=rx;obtain ⟨t',rfl⟩:=ry;exact rule i j t t' s _ _ ⟨.bl (g i j),H,I,rfl,q⟩
def gY (i j:Int):Prop:=0 < j/\j < 1073741824
def iP (i j:Int):Prop:=0<=j/\j<=1000000/\i.natAbs < 2 ^ 64
def CMul (i j:Int):Prop:=(-(2 ^ 64) < i/\i < 2 ^ 64)\/(-(2 ^ 64) < j/\j < 2 ^ 64)
def CMul.ok {i j:Int} (h:CMul i j):IntMulOk i j:=by
 rcases h with ⟨h1,h2⟩ | ⟨h1,h2⟩
 ·exact .of_left (intBits_le_64 h1 h2)
 ·exact .of_right (intBits_le_64 h1 h2)
def op_add:OpR X (binaryOp .Add) (rI0 fun i j=>.int (i+j)):=Hm fun _ _ _ _ _ _ _ q=>add_int q
def op_sub:OpR X (binaryOp .Sub) (rI0 fun i j=>.int (i - j)):=Hm fun _ _ _ _ _ _ _ q=>sub_int q
def op_mul:OpR X (binaryOp .Mult) (rI CMul fun i j=>.int (i * j)):=opI fun _ _ _ _ _ _ _ hc q=>mul_int q hc.ok
def op_fdiv:OpR X (binaryOp .FloorDiv) (rI gY fun i j=>.int (i / j)):=opI fun i j _ _ _ _ _ hc q=>by
 have h1:(0:Int) < j:=hc.1;have h2:j < 1073741824:=hc.2;exact floordiv_int (by omega) (by rw [Int.fdiv_eq_ediv_of_nonneg i (by omega)]; exact q) (.inl (PyProof.noPylong_small (by omega)))
def op_mod:OpR X (binaryOp .Mod) (rI (fun _ j=>0 < j) fun i j=>.int (i % j)):=opI fun i j _ _ _ _ _ hc q=>by
 have h1:(0:Int) < j:=hc;exact mod_int' (by omega) (by rw [Int.fmod_eq_emod_of_nonneg i (by omega)]; exact q)
def op_pow:OpR X (binaryOp .Pow) (rI iP fun i j=>.int (i ^ j.toNat)):=opI fun _ _ _ _ _ _ _ hc q=>pow_int_small hc.1 hc.2.1 hc.2.2 q
def Im {pins:List (Addr × Obj)} {σ:St} {H:Hp} {s:Shared} {Q:VK} {k k':Bool} (I:Inv X pins σ H s) (q:Q (.bl k) H) (e:k=k'):EP X pins σ Q (.bool k') s:=by
 subst e;exact ⟨.bl k,H,I,rfl,q⟩
def op_lt:OpR X (compareOp .Lt) (rI0 fun i j=>.bl (decide (i < j))):=tG fun _ _ _ _ _ _ _ q=>lt_int q
def op_le:OpR X (compareOp .LtE) (rI0 fun i j=>.bl (decide (i<=j))):=tG fun _ _ _ _ _ _ _ q=>le_int q
def op_gt:OpR X (compareOp .Gt) (rI0 fun i j=>.bl (decide (j < i))):=tG fun _ _ _ _ _ _ _ q=>gt_int q
def op_ge:OpR X (compareOp .GtE) (rI0 fun i j=>.bl (decide (j<=i))):=tG fun _ _ _ _ _ _ _ q=>ge_int q
def op_isN:OpR X (compareOp .Is) (fun x y H Q=>y=.non/\Q (.bl (decide (x=.non))) H):=by
 intro pins s σ H x y v u Q I rx ry h;obtain ⟨rfl,q⟩:=h;cases ry;refine is_none_gen (Im I q ?_);cases x <;> first
  | (cases rx; rfl)
  | (obtain ⟨t,rfl⟩:=rx; rfl)
def bq (b:Expr) {op:CmpOp} (h:op≠.In:=by decide) (h2:op≠.NotIn:=by decide):behindInMarks op b=false:=by
 have e1:(op == CmpOp.In)=false:=by cases op <;> first | rfl | exact absurd rfl h
 have e2:(op == CmpOp.NotIn)=false:=by cases op <;> first | rfl | exact absurd rfl h2
 cases b <;> simp [behindInMarks,e1,e2]
def DK {op:CmpOp} {r:R2} (ho:OpR X (compareOp op) r) (ha:PE X a ta) (hb:PE X b tb) (hm:behindInMarks op b=false):PE X (.Compare a [op] [b] pos) (tOp r ta tb):=by
 intro pins s σ H Q I h;exact wpAny_Compare1 (xy ha hb I h fun v u s2 x y H2 I2 rx ry q=>ho pins s2 σ H2 x y v u Q I2 rx ry q) hm
def CM (t:TE):TT:=fun σ H Q=>t σ H fun x H'=>∃ k,x=.bl k/\Q k H'
def Dx {op:CmpOp} {r:R2} (ho:OpR X (compareOp op) r) (ha:PE X a ta) (hb:PE X b tb) (hm:behindInMarks op b=false):PT X (.Compare a [op] [b] pos) (CM (tOp r ta tb)):=by
 intro pins s σ H Q I h;refine wpAny_isTrue_Compare1 (thn (ha pins s σ H _ I h) fun v s1 ⟨x,H1,I1,r1,q1⟩=>thn (hb pins s1 σ H1 _ I1 q1) fun u s2 ⟨y,H2,I2,r2,q2⟩ =>
  thn (ho pins s2 σ H2 x y v u _ I2 r1 r2 q2) fun c s3 ⟨z,H3,I3,r3,k,e,q3⟩=>?_) hm
 subst e;cases r3;exact wpAny_truthy_bool ⟨H3,I3,q3⟩
def ql (r r':R2) (ta tb tc:TE):TE:=fun σ H Q=>ta σ H fun x H1=>tb σ H1 fun y H2=>r x y H2 fun z H3=>∃ k,z=.bl k /\
 (if k=true then tc σ H3 fun w' H4=>r' y w' H4 Q else Q (.bl false) H3)
def wy {op op':CmpOp} {r r':R2} (ho:OpR X (compareOp op) r) (ho':OpR X (compareOp op') r') (ha:PE X a ta) (hb:PE X b tb) (hc:PE X c tc)
  (hm:lastMarks [op,op'] [b,c]=false:=by with_unfolding_all rfl):PE X (.Compare a [op,op'] [b,c] pos) (ql r r' ta tb tc):=by
 intro pins s σ H Q I h;refine Compare_chain (thn (ha pins s σ H _ I h) fun v s1 ⟨x,H1,I1,r1,q1⟩=>chain_link (thn (hb pins s1 σ H1 _ I1 q1) fun u s2 ⟨y,H2,I2,r2,q2⟩ =>
  thn (ho pins s2 σ H2 x y v u _ I2 r1 r2 q2) fun d s3 ⟨z,H3,I3,r3,k,e,q3⟩=>?_)) hm
 subst e;cases r3;refine wpAny_truthy_bool ?_;cases k with
 | false=>exact ite_ff ⟨.bl false,H3,I3,rfl,q3⟩
 | true=>exact ite_tt (chain_last (thn (hc pins s3 σ H3 _ I3 q3) fun w' s4 ⟨z',H4,I4,r4,q4⟩=>ho' pins s4 σ H4 y z' u w' Q I4 r2 r4 q4))
def wn {op op':CmpOp} {r r':R2} (ho:OpR X (compareOp op) r) (ho':OpR X (compareOp op') r') (ha:PE X a ta) (hb:PE X b tb) (hc:PE X c tc)
  (hm:lastMarks [op,op'] [b,c]=false:=by with_unfolding_all rfl):PT X (.Compare a [op,op'] [b,c] pos) (CM (ql r r' ta tb tc)):=by
 intro pins s σ H Q I h;refine isTrue_chain (thn (ha pins s σ H _ I h) fun v s1 ⟨x,H1,I1,r1,q1⟩=>test_link (thn (hb pins s1 σ H1 _ I1 q1) fun u s2 ⟨y,H2,I2,r2,q2⟩ =>
  thn (ho pins s2 σ H2 x y v u _ I2 r1 r2 q2) fun d s3 ⟨z,H3,I3,r3,k,e,q3⟩=>?_)) hm
 subst e;cases r3;refine wpAny_truthy_bool ?_;cases k with
 | false =>
  obtain ⟨k',e',q'⟩:=q3;cases e';exact ite_ff ⟨H3,I3,q'⟩
 | true =>
  refine ite_tt (test_last (thn (hc pins s3 σ H3 _ I3 q3) fun w' s4 ⟨z',H4,I4,r4,q4⟩=>thn (ho' pins s4 σ H4 y z' u w' _ I4 r2 r4 q4) fun d' s5 ⟨z2,H5,I5,r5,k2,e2,q5⟩=>?_));subst e2;cases r5;exact wpAny_truthy_bool ⟨H5,I5,q5⟩
def Ko (K:PySem.W.Frag) (x:V) (H:Hp) (k:Bool):Prop :=
 match x with
 | .non=>k=false
 | .bl b=>k=b
 | .int i=>k=(i != 0)
 | .str y=>y.length<=sizeLine/\k=((y.length:Int) != 0)
 | .byt y=>y.size<=sizeLine/\k=((y.size:Int) != 0)
 | .ref p=>(∃ xs,SqL K H p xs/\k=!xs.isEmpty)\/(∃ xs,SqT K H p xs/\k=!xs.isEmpty)\/∃ kvs,H p=some (.dK kvs)/\k=!kvs.isEmpty
 | _=>False
def jE:(sizeLine:Nat) < 2 ^ 63:=by rw [sizeLine_eq]; decide
def tE:OpR X (binaryOp .Add) (fun x y H Q=>∃ i j,x=.str i/\y=.str j/\i.length+j.length<=sizeLine/\Q (.str (i++j)) H):=by
 intro pins s σ H x y v u Q I rx ry h;obtain ⟨i,j,rfl,rfl,hz,q⟩:=h;obtain ⟨t,rfl⟩:=rx;obtain ⟨t',rfl⟩:=ry;exact add_str (fun t' tk=>⟨.str (i++j),H,I.tok _,⟨_,rfl⟩,q⟩) hz
def bW {x:V} {us:List Value} (r:Vals [x] us):∃ u,us=[u]/\RelV x u:=by
 cases r with
 | cons r1 r2=>cases r2; exact ⟨_,rfl,r1⟩
def p7 {x y:V} {us:List Value} (r:Vals [x,y] us):∃ u w',us=[u,w']/\RelV x u/\RelV y w':=by
 cases r with
 | cons r1 r2 =>
  cases r2 with
  | cons r3 r4=>cases r4; exact ⟨_,_,rfl,r1,r3⟩
def call_abs:CallR X (.builtin "abs") (fun xs H Q=>∃ i,xs=[.int i]/\Q (.int (if i < 0 then -i else i)) H):=by
 intro pins s σ H xs us Q I r h;obtain ⟨i,rfl,q⟩:=h;obtain ⟨u,rfl,t,rfl⟩:=bW r;exact call_abs_int fun u tk=>⟨.int (if i < 0 then -i else i),H,I.tok _,⟨_,rfl⟩,q⟩
def vO (hc:X.calm=true):CallR X (.builtin "max") (fun xs H Q=>∃ i j,xs=[.int i,.int j]/\Q (.int (if j > i then j else i)) H):=by
 intro pins s σ H xs us Q I r h;obtain ⟨i,j,rfl,q⟩:=h;obtain ⟨u,w',rfl,⟨t,rfl⟩,⟨t',rfl⟩⟩:=p7 r;refine max_two_ints (I.ok.hd hc) fun h' tk k=>⟨_,H,I.kept k,?_,q⟩;by_cases hj:j > i
 ·rw [if_pos hj,if_pos hj]; exact ⟨_,rfl⟩
 ·rw [if_neg hj,if_neg hj]; exact ⟨_,rfl⟩
def vN (hc:X.calm=true):CallR X (.builtin "min") (fun xs H Q=>∃ i j,xs=[.int i,.int j]/\Q (.int (if j < i then j else i)) H):=by
 intro pins s σ H xs us Q I r h;obtain ⟨i,j,rfl,q⟩:=h;obtain ⟨u,w',rfl,⟨t,rfl⟩,⟨t',rfl⟩⟩:=p7 r;refine min_two_ints (I.ok.hd hc) fun h' tk k=>⟨_,H,I.kept k,?_,q⟩;by_cases hj:j < i
 ·rw [if_pos hj,if_pos hj]; exact ⟨_,rfl⟩
 ·rw [if_neg hj,if_neg hj]; exact ⟨_,rfl⟩
def call_int1:CallR X (.type "int") (fun xs H Q=>(∃ i,xs=[.int i]/\Q (.int i) H)\/∃ k,xs=[.bl k]/\Q (.int (if k then 1 else 0)) H):=by
 intro pins s σ H xs us Q I r h;rcases h with ⟨i,rfl,q⟩ | ⟨k,rfl,q⟩
 ·obtain ⟨u,rfl,t,rfl⟩:=bW r;exact call_int_int ⟨.int i,H,I,⟨_,rfl⟩,q⟩
 ·obtain ⟨u,rfl,r1⟩:=bW r;cases r1;exact call_int_bool ⟨.int (if k then 1 else 0),H,I.tok _,⟨_,rfl⟩,q⟩
def Ja (K:PySem.W.Frag) (x:V) (H:Hp) (n:Nat):Prop :=
 match x with
 | .str y=>y.length<=sizeLine/\n=y.length
 | .byt y=>y.size<=sizeLine/\n=y.size
 | .ref p=>(∃ xs,SqL K H p xs/\n=xs.length)\/∃ xs,SqT K H p xs/\n=xs.length
 | _=>False
def xu:CallR X (.builtin "len") (fun xs H Q=>∃ x n,xs=[x]/\Ja X.K x H n/\Q (.int n) H):=by
 intro pins s σ H xs us Q I r h;obtain ⟨x,n,rfl,e,q⟩:=h;obtain ⟨u,rfl,rx⟩:=bW r;have hl:=jE;have hs:sizeLine=16777216:=sizeLine_eq;cases x with
 | str y =>
  obtain ⟨t,rfl⟩:=rx;obtain ⟨hy,e'⟩:y.length<=sizeLine/\n=y.length:=e;subst e';exact len_str (by omega) ⟨.int _,H,I.tok _,⟨_,rfl⟩,q⟩
 | byt y =>
  obtain ⟨t,rfl⟩:=rx;obtain ⟨hy,e'⟩:y.size<=sizeLine/\n=y.size:=e;subst e';exact PySem.W.len_bytes (by omega) ⟨.int _,H,I.tok _,⟨_,rfl⟩,q⟩
 | ref p =>
  cases rx;have e':(∃ xs,SqL X.K H p xs/\n=xs.length)\/∃ xs,SqT X.K H p xs/\n=xs.length:=e;rcases e' with ⟨xs,hx,e'⟩ | ⟨xs,hx,e'⟩
  ·subst e';obtain ⟨its,r',pl,hz⟩:=I.list hx;have hlen:=r'.length;exact Calls.call_len_list pl.isList (by simp only [zai]; omega) ⟨.int xs.length,H,I.tok _,⟨_,by simp only [zai]; rw [hlen]⟩,q⟩
  ·subst e';obtain ⟨its,r',pl,hz⟩:=I.tuple hx;have hlen:=r'.length;exact len_tuple pl (by simp only [zai]; omega) ⟨.int xs.length,H,I.tok _,⟨_,by simp only [zai]; rw [hlen]⟩,q⟩
 | _=>exact (show False from e).elim
end
structure ObjM (h:Heap) (x dx C:Addr) (mA:Str->Option Value):Prop where
 obj:h.get? x=some (PySem.W.instObj C dx)
 ns:h.Ns1 dx mA
 ne:dx≠x
def uZ {h:Heap} {dx:Addr} {mA:Str->Option Value} (n:h.Ns1 dx mA):∃ od,h.get? dx=some od/\∀ name,PySem.W.lookIn name od=some (mA name):=by
 obtain ⟨o,es,ep,ho,hd,hk,_,hm⟩:=n;refine ⟨o,ho,fun name=>?_⟩;have e:=hm name;unfold nsFind findBy at e;rw [<- Array.find?_toList] at e;unfold PySem.W.lookIn;rw [hd]
 dsimp only
 split
 ·rename_i y q;rw [q] at e;exact congrArg some e
 ·rename_i q;rw [q] at e;have a:es.toList.any (·.refKey)=false:=by
   rw [List.any_eq_false];intro y hy;obtain ⟨z,t,hkey⟩:=hk y (Array.mem_toList_iff.mp hy);simp [DictEntry.refKey,hkey]
  have a':¬ es.toList.any (·.refKey)=true:=by rw [a]; exact Bool.false_ne_true
  rw [if_neg a'];exact congrArg some e
def ObjM.look {h:Heap} {x dx C:Addr} {mA:Str->Option Value} (I:ObjM h x dx C mA):∃ od,PySem.W.InstAt h x (PySem.W.instObj C dx) C (some od)/\∀ name,PySem.W.lookIn name od=some (mA name) :=
 let ⟨od,ho,hl⟩:=uZ I.ns
 ⟨od,⟨I.obj,rfl,rfl,ho⟩,hl⟩
section
variable {prog:Program} {w:World} {A:Around} {E:Value->Shared->Prop} {s:Shared} {K:PySem.W.Frag} {x dx C f:Addr} {mA:Str->Option Value} {name:Str} {v:Value}
end
def RelO.some_of {v:V} {o:Option Value} (r:RelO (some v) o):∃ u,o=some u/\RelV v u:=by
 cases o with
 | none=>exact (show False from r).elim
 | some u=>exact ⟨u,rfl,r⟩
section
variable {P:Program} {w:World} {H H':Hp} {h h':Heap} {a C dx:Addr} {fs fs':List (Str × V)}
def DW (hok:HOk P w H h) (e:H a=some (.ins C dx fs)):∃ mA,ObjM h a dx C mA/\(∀ f,RelO (fs.lookup f) (mA f))/\PySem.Within mA (fs.map (·.1))/\fs.length<=1000/\H dx=some (.own a):=by
 obtain ⟨d,z,ne,ob,mA,n,r,q⟩:=(show ObjOk P w H h a (.ins C dx fs) from hok a _ e);exact ⟨mA,⟨ob,n,ne⟩,r,q,z,d⟩
end
structure Cls (K:PySem.W.Frag) (C:Addr):Prop where
 pg:PySem.W.plainGet K C Str.empty=true
 hd:PySem.W.hasDictIn K C=true
 po:PySem.W.plainOver K C=true
 sa:PySem.W.findIn K (.ref C) "__setattr__"=some (some (.builtin "object.__setattr__"))
def Cls.get {K:PySem.W.Frag} {C:Addr} (c:Cls K C) (f:Str):PySem.W.plainGet K C f=true:=c.pg
section
variable {X:Cx} {pins:List (Addr × Obj)} {σ:St} {H:Hp} {s:Shared} {a C dx:Addr} {fs:List (Str × V)} {f:Str} {v:V} {A:Around} {E:Value->Shared->Prop}
end
section
variable {X:Cx} {o e value:Expr} {f:Str} {pos pos' tpos:Pos} {ta tv:TE}
end
section
variable {X:Cx} {pins:List (Addr × Obj)} {σ:St} {H:Hp} {s:Shared} {A:Around} {E:Value->Shared->Prop} {Q:Value->Shared->Prop} {c:Value} {b:Bool}
inductive TyOf (K:PySem.W.Frag) (H:Hp):V->Value->Prop where
 | non:TyOf K H .non (.type "NoneType")
 | bl (x:Bool):TyOf K H (.bl x) (.type "bool")
 | int (i:Int):TyOf K H (.int i) (.type "int")
 | str (x:Str):TyOf K H (.str x) (.type "str")
 | flt (x:UInt64):TyOf K H (.flt x) (.type "float")
 | lst {a:Addr} {xs:List V} (e:H a=some (.lst xs)):TyOf K H (.ref a) (.type "list")
 | frz {a:Addr} {o:Obj} {xs:List V} (e:H a=some (.frz o (.lst xs))):TyOf K H (.ref a) (.type "list")
 | tup {a:Addr} {xs:List V} (e:H a=some (.tup xs)):TyOf K H (.ref a) (.type "tuple")
 | dK {a:Addr} {kvs:List (Key × V)} (e:H a=some (.dK kvs)):TyOf K H (.ref a) (.type "dict")
 | dT {a:Addr} {kvs:List (List Key × V)} (e:H a=some (.dT kvs)):TyOf K H (.ref a) (.type "dict")
 | ins {a C dx:Addr} {fs:List (Str × V)} (e:H a=some (.ins C dx fs)) (cl:Cls K C) (ha:PySem.W.findIn K (.ref C) "__class__"=some (some (.builtin "object.__class__")))
   (hn:PySem.W.specialIn K (.builtin "object.__class__") "__get__"=some (some (.builtin "getset_descriptor.__get__"))) (htk:PySem.W.takesIn K (.builtin "object.__class__")=some true)
   (hm:PySem.W.mroIn K C (.type "object")=some true):TyOf K H (.ref a) (.ref C)
def vf {x:V} {u t:Value} (I:Inv X pins σ H s) (rx:RelV x u) (ty:TyOf X.K H x t) (e:PySem.W.kitOne X.K t c=some b) (h:∀ tk,Q (.bool b) { s with toks:=tk }) :
  wpAny (model X.prog X.w) A (call (.builtin "isinstance") [u,c]) Q E s:=by
 cases ty with
 | non=>cases (show u=Value.none from rx); exact PySem.W.kia_one PySem.W.kitx_none I.kIn True.intro e (fun z=>nomatch z) h
 | bl y=>cases (show u=Value.bool y from rx); exact PySem.W.kia_one PySem.W.kitx_bool I.kIn True.intro e (fun z=>nomatch z) h
 | int i=>obtain ⟨t,q⟩:=(show ∃ t,u=Value.int i t from rx); cases q; exact PySem.W.kia_one PySem.W.kitx_int I.kIn True.intro e (fun z=>nomatch z) h
 | str y=>obtain ⟨t,q⟩:=(show ∃ t,u=Value.str y t from rx); cases q; exact PySem.W.kia_one PySem.W.kitx_str I.kIn True.intro e (fun z=>nomatch z) h
 | flt y=>obtain ⟨t,q⟩:=(show ∃ t,u=Value.float y t from rx); cases q; exact PySem.W.kia_one PySem.W.kitx_float I.kIn True.intro e (fun z=>nomatch z) h
 | @lst a xs ea =>
  cases (show u=Value.ref a from rx);obtain ⟨_,_,n,_,h1⟩:=(show ObjOk X.prog X.w H s.heap a (.lst xs) from I.hok a _ ea);exact PySem.W.kia_one PySem.W.kitx_list I.kIn ⟨_,h1,rfl⟩ e (fun z=>nomatch z) h
 | @frz a ob xs ea =>
  cases (show u=Value.ref a from rx);obtain ⟨_,_,_,n,_,h1⟩:=(show ObjOk X.prog X.w H s.heap a (.frz ob (.lst xs)) from I.hok a _ ea);exact PySem.W.kia_one PySem.W.kitx_list I.kIn ⟨_,h1,rfl⟩ e (fun z=>nomatch z) h
 | @tup a xs ea =>
  cases (show u=Value.ref a from rx);obtain ⟨_,_,_,p⟩:=(show ObjOk X.prog X.w H s.heap a (.tup xs) from I.hok a _ ea);obtain ⟨o,h1,h2,_⟩:=p;exact PySem.W.kia_one PySem.W.kitx_tuple I.kIn ⟨o,h1,h2⟩ e (fun z=>nomatch z) h
 | @dK a kvs ea =>
  cases (show u=Value.ref a from rx);obtain ⟨_,_,vs,_,p⟩:=(show ObjOk X.prog X.w H s.heap a (.dK kvs) from I.hok a _ ea);obtain ⟨o,es,ep,h1,h2,_⟩:=p;exact PySem.W.kia_one PySem.W.kitx_dict I.kIn ⟨o,h1,h2.1⟩ e (fun z=>nomatch z) h
 | @dT a kvs ea =>
  cases (show u=Value.ref a from rx);obtain ⟨_,_,xs,_,o,es,ep,h1,h2,_⟩:=(show ObjOk X.prog X.w H s.heap a (.dT kvs) from I.hok a _ ea);exact PySem.W.kia_one PySem.W.kitx_dict I.kIn ⟨o,h1,h2.1⟩ e (fun z=>nomatch z) h
 | @ins a C dx fs ea cl ha hn htk hm =>
  cases (show u=Value.ref a from rx);obtain ⟨mA,O,_⟩:=DW I.hok ea;obtain ⟨od,J,_⟩:=O.look;exact PySem.W.kia_one (PySem.W.kitx_own (cl.get _) cl.hd ha hn htk hm) I.kIn J e (fun z=>nomatch z) h
end
structure Room (k:Nat) (A:Around):Prop where
 hd:A.handled=none
 dp:A.depth+3 * k+5 < recursionLimit
 un:A.units+16 * k+200 < cLine
 gd:A.guards=some []
def Room.mono {j k:Nat} {A:Around} (r:Room k A) (h:j<=k):Room j A:=⟨r.hd,by have:=r.dp; omega,by have:=r.un; omega,r.gd⟩
def Room.deeper {k:Nat} {A:Around} (r:Room (k+1) A) (env:Env):Room k (A.deeper env) :=
 ⟨r.hd,by have:=r.dp; show A.depth+1+3 * k+5 < _; omega,by have:=r.un; show A.units+3+16 * k+200 < _; omega,r.gd⟩
def Room.depth {k:Nat} {A:Around} (r:Room k A):A.depth < recursionLimit:=by have:=r.dp; omega
def Room.units {k:Nat} {A:Around} (r:Room k A):A.units+64 < cLine:=by have:=r.un; omega
def sY:TA:=fun _ H Q=>Q [] H
def na (ta:TE) (tr:TA):TA:=fun σ H Q=>ta σ H fun x H1=>tr σ H1 fun xs H2=>Q (x :: xs) H2
section
variable {X:Cx} {e:Expr} {es:List Expr} {te:TE} {t:TA} {pos:Pos}
def pa_nil:PA X [] sY:=fun _ _ _ _ H Q I h=>Calls.spliced_nil ⟨[],H,I,.nil,h⟩
def cy (ha:PE X e te) (hr:PA X es t) (hs:starEach (e :: es) X.env=(false,eval e X.env) :: starEach es X.env:=by rfl):PA X (e :: es) (na te t):=by
 intro pos pins s σ H Q I h;rw [hs];show wpAny _ _ (spliced ((false,eval e X.env) :: backTo pos (starEach es X.env))) _ _ s;refine Calls.spliced_cons (thn (ha pins s σ H _ I h) fun u s1 ⟨x,H1,I1,r1,q1⟩=>?_);exact thn (hr pos pins s1 σ H1 _ I1 q1) fun us s2 ⟨xs,H2,I2,r2,q2⟩=>⟨x :: xs,H2,I2,.cons r1 r2,q2⟩
def GL (t:TA):TE:=fun σ H Q=>t σ H fun xs H1=>xs.length<=sizeLine/\∀ p,H1 p=none->Q (.ref p) (upd H1 p (.tup xs))
def GQ (t:TA):TE:=fun σ H Q=>t σ H fun xs H1=>xs.length<=sizeLine/\∀ p,H1 p=none->Q (.ref p) (upd H1 p (.lst xs))
def uQ {x1} (h:PA X es t):PE X (.Tuple es x1 pos) (GL t):=by
 intro pins s σ H Q I hq;refine wpAny_Tuple_spliced (thn (h pos pins s σ H _ I hq) fun us s1 ⟨xs,H1,I1,r,z,q⟩=>⟨by rw [<- r.length]; exact z,?_⟩);have hf:H1 s1.heap.objs.size=none:=I1.hok.fresh (zav _);refine ⟨.ref s1.heap.objs.size,upd H1 s1.heap.objs.size (.tup xs),I1.laid (t':=s1.toks) (fun b u e=>zaf _ e) (zav _) ?_,rfl,q _ hf⟩;exact ⟨z,us,r,⟨_,zan _ rfl,rfl,_,rfl,rfl⟩⟩
def Hj (h:PA X es t):PE X (.List es pos) (GQ t):=by
 intro pins s σ H Q I hq;refine wpAny_List_spliced (thn (h pos pins s σ H _ I hq) fun us s1 ⟨xs,H1,I1,r,z,q⟩=>⟨by rw [<- r.length]; exact z,?_⟩);have hf:H1 s1.heap.objs.size=none:=I1.hok.fresh (zav _);refine ⟨.ref s1.heap.objs.size,upd H1 s1.heap.objs.size (.lst xs),I1.laid (t':=s1.toks) (fun b u e=>zaf _ e) (zav _) ?_,rfl,q _ hf⟩;exact ⟨z,us,0,r,zan _ rfl⟩
end
abbrev Sp:=List V->Hp->VK->XK->Prop
abbrev CXT:=List Env->Hp->Shared->XK->Value->Shared->Prop
structure Env0 (P:Program) (w:World) (K:PySem.W.Frag) (mg:Str->Option Value) (base:Heap) (A:Around) (outer:List Env) (s:Shared) (H:Hp):Prop where
 frames:A.frames=some outer
 mod:Mod K mg base
 bs:∀ b o,base.get? b=some o->s.heap.get? b=some o/\H b=none
 bsz:base.objs.size<=s.heap.objs.size
 funs:s.heap.FunFrames base outer
 frf:∀ b∈frs outer,H b=none
 hok:HOk P w H s.heap
 bare:AllBare s.gens
def CE (outer:List Env) (P:Program) (w:World) (H:Hp) (s:Shared) (Q:VK) (u:Value) (s':Shared):Prop :=
 ∃ v H',s'.os=s.os/\AllBare s'.gens/\Un (frs outer) [] H H' s.heap s'.heap/\HOk P w H' s'.heap/\RelV v u/\Q v H'
def CR (CX:CXT) (outer:List Env) (P:Program) (w:World) (H:Hp) (s:Shared) (Q:VK) (E:XK) (r:Result) (s':Shared):Prop :=
 match r with
 | .ok (.ret u)=>CE outer P w H s Q u s'
 | .ok _=>False
 | .error e=>CX outer H s E e s'
structure FnOk (P:Program) (w:World) (K:PySem.W.Frag) (mg:Str->Option Value) (base:Heap) (CX:CXT) (k:Nat) (f:Addr) (fd:FuncData) (ps:List Str) (sp:Sp):Prop where
 len:∀ vs H Q E,sp vs H Q E->vs.length=ps.length
 run:∀ (A:Around) (outer:List Env) (s:Shared) (H:Hp) (args:Args) (us:List Value) (vs:List V) (Q:VK) (E:XK),Room k A->Env0 P w K mg base A outer s H->BindsTo s fd args (ps.zip us)->Vals vs us->sp vs H Q E ->
  codeAny (model P w) A (.call (.ref f) args) (CR CX outer P w H s Q E) s
def FnOk.mono {P:Program} {w:World} {K:PySem.W.Frag} {mg:Str->Option Value} {base:Heap} {CX:CXT} {j k:Nat} {f:Addr} {fd:FuncData} {ps:List Str} {sp:Sp} (F:FnOk P w K mg base CX j f fd ps sp) (h:j<=k) :
  FnOk P w K mg base CX k f fd ps sp:=⟨F.len,fun A outer s H args us vs Q E hr=>F.run A outer s H args us vs Q E (hr.mono h)⟩
def FnOk.imp {P:Program} {w:World} {K:PySem.W.Frag} {mg:Str->Option Value} {base:Heap} {CX:CXT} {k:Nat} {f:Addr} {fd:FuncData} {ps:List Str} {sp sp':Sp} (F:FnOk P w K mg base CX k f fd ps sp)
  (h:∀ vs H Q E,sp' vs H Q E->sp vs H Q E):FnOk P w K mg base CX k f fd ps sp' :=
 ⟨fun vs H Q E q=>F.len vs H Q E (h _ _ _ _ q),fun A outer s H args us vs Q E hr he hb hv hs=>F.run A outer s H args us vs Q E hr he hb hv (h _ _ _ _ hs)⟩
section
variable {X:Cx} {pins:List (Addr × Obj)} {σ:St} {H:Hp} {s s':Shared}
def Inv.env0 (I:Inv X pins σ H s):Env0 X.prog X.w X.K X.mg X.base X.A X.stack s H :=
 ⟨I.ok.frames,I.ok.mod,I.bs,zau I.ok.bsz I.sz,I.stack,I.stkFree,I.hok,I.bare⟩
def Inv.after {Q:VK} {u:Value} (I:Inv X pins σ H s) (h:CE X.stack X.prog X.w H s Q u s'):EP X pins σ Q u s':=by
 obtain ⟨v,H',os,bare,un,hok,r,q⟩:=h;obtain ⟨hh,g,d,t,os'⟩:=s';obtain rfl:os'=s.os:=os;exact ⟨v,H',I.call (h':=hh) (g':=g) (d':=d) (t':=t) (ch:=[]) un hok bare (fun b z=>absurd z (by simp)),r,q⟩
end
def sZ (sp:Sp) (dvs:List V) (E:XK) (t:TA):TE:=fun σ H Q=>t σ H fun vs H1=>sp (vs++dvs) H1 Q E
def Binds (K:PySem.W.Frag) (fd:FuncData) (ps:List Str) (ds:List Value):Prop :=
 ∀ (s:Shared) (us:List Value),K.In s.heap->(us++ds).length=ps.length->BindsTo s fd ⟨us,[]⟩ (ps.zip (us++ds))
def Binds.all {K:PySem.W.Frag} {fd:FuncData} {ps:List Str} (h:∀ us:List Value,us.length=ps.length->bindArgs fd ⟨us,[]⟩=pure (ps.zip us)):Binds K fd ps []:=fun s us _ hl=>by
 rw [List.append_nil] at hl ⊢;exact .of_eq (h us hl)
def rB (CX:CXT) (X:Cx) (E:XK):Prop:=∀ (pins:List (Addr × Obj)) (σ:St) (H:Hp) (s:Shared) (e:Value) (s':Shared),Inv X pins σ H s->CX X.stack H s E e s'->X.xe e s'
section
variable {X:Cx} {CX:CXT} {k:Nat} {f C:Addr} {fd:FuncData} {ps:List Str} {sp:Sp} {dvs:List V} {ds:List Value} {E:XK} {x m:Str} {p pos apos:Pos} {e o:Expr} {es:List Expr} {ta:TE} {t:TA}
def GY {pins:List (Addr × Obj)} {σ:St} {H:Hp} {s:Shared} {Q:VK} {us:List Value} {vs:List V} (F:FnOk X.prog X.w X.K X.mg X.base CX k f fd ps sp) (hr:Room k X.A) (hb:Binds X.K fd ps ds) (hd:Vals dvs ds) (hx:rB CX X E)
  (I:Inv X pins σ H s) (r:Vals vs us) (h:sp (vs++dvs) H Q E):wpAny (model X.prog X.w) X.A (call (.ref f) us) (EP X pins σ Q) X.xe s:=by
 have r2:Vals (vs++dvs) (us++ds):=r.append hd;have hl:(us++ds).length=ps.length:=by rw [<- r2.length]; exact F.len _ _ _ _ h
 refine wpAny_call (codeAny_mono (F.run X.A X.stack s H ⟨us,[]⟩ (us++ds) (vs++dvs) Q E hr I.env0 (hb s us I.kIn hl) r2 h) fun r s' hq=>?_);cases r with
 | error e=>exact hx pins σ H s e s' I hq
 | ok fl =>
  cases fl with
  | ret u=>exact I.after hq
  | next=>exact False.elim hq
  | brk=>exact False.elim hq
  | cont=>exact False.elim hq
def DL (F:FnOk X.prog X.w X.K X.mg X.base CX k f fd ps sp) (hr:Room k X.A) (hg:Gl X x) (hm:X.mg x=some (.ref f)) (hk:PySem.W.keepIn X.K (.ref f)=true) (hb:Binds X.K fd ps ds) (hd:Vals dvs ds) (hx:rB CX X E)
  (ha:PA X (e :: es) t) (hdb:(x == ("__debug__" : Str))=false:=by decide) (he:starEach (e :: es) X.env=(false,eval e X.env) :: starEach es X.env:=by rfl) (hpl:(backTo pos (starEach es X.env)).any (·.1)=false:=by rfl) :
  PE X (.Call (.Name x p) (e :: es) [] pos) (sZ sp dvs E t):=by
 intro pins s σ H Q I h;refine wpAny_Call_Name_kw (sy I hg hm ?_ hdb);refine PySem.W.callWith_K (h₀:=X.base) I.ok.mod.kin hk (thn (ha pos pins s σ H _ I h) fun us s1 ⟨vs,H1,I1,r,q⟩=>⟨I1.kIn,?_⟩) he hpl;exact GY F hr hb hd hx I1 r q
end
section
variable {X:Cx} {CX:CXT} {k:Nat} {f C:Addr} {fd:FuncData} {ps ks:List Str} {sp:Sp} {E:XK} {x m:Str} {p pos apos kpos:Pos} {e o:Expr} {es:List Expr} {kws:List Keyword} {te ta:TE} {t tk:TA} {nm:Option Str}
variable {g:List Value->List Value->List Value} {gV:List V->List V->List V}
end
structure FnScope (N P:List Str) (sc:Scope):Prop where
 kind:sc.kind=.function
 co:sc.isCoroutine=false
 gen:sc.isGenerator=false
 nd:N.Nodup
 pre:N.take P.length=P
 par:∀ x∈P,sc.names.lookup x=some .local\/sc.names.lookup x=some .cell
 nofree:∀ y∈sc.names,y.2≠.free
def pH {kindOf:Str->Option NameKind} {x:Str}:∀ {binds:List (Str × Value)} {m:Str->Option Value},(∀ v,(x,v) ∉ binds)->bindL kindOf binds m x=m x
 | [],_,_=>rfl
 | (n,v) :: r,m,h=>by
  unfold bindL;rw [pH fun w hw=>h w (zaj _ hw)];split
  ·have:x≠n:=by rintro rfl; exact h v zaq
   simp [this]
  ·rfl
def pJ {kindOf:Str->Option NameKind} {x:Str}:∀ {binds:List (Str × Value)} {m:Str->Option Value},(∀ v,(x,v) ∉ binds)->bindC kindOf binds m x=m x
 | [],_,_=>rfl
 | (n,v) :: r,m,h=>by
  unfold bindC;rw [pJ fun w hw=>h w (zaj _ hw)];split
  ·rfl
  ·have:x≠n:=by rintro rfl; exact h v zaq
   simp [this]
def pI {kindOf:Str->Option NameKind} {x:Str} {v:Value}:∀ {P:List Str} {vs:List Value} {i:Nat} {m:Str->Option Value},P.Nodup->P[i]?=some x->vs[i]?=some v->kindOf x=some .local ->
  bindL kindOf (P.zip vs) m x=some v
 | [],_,_,_,_,h,_,_=>by simp at h
 | _ :: _,[],_,_,_,_,h,_=>by simp at h
 | p :: P,w :: vs,0,m,nd,h1,h2,hk=>by
  simp at h1 h2; subst h1; subst h2;show bindL kindOf ((p,w) :: P.zip vs) m p=_;unfold bindL;rw [pH fun v hv=>(zbc.mp nd).1 (List.of_mem_zip hv).1,if_pos hk];simp
 | p :: P,w :: vs,i+1,m,nd,h1,h2,hk=>by
  show bindL kindOf ((p,w) :: P.zip vs) m x=_;unfold bindL;exact pI (i:=i) (zbc.mp nd).2 (by simpa using h1) (by simpa using h2) hk
def pK {kindOf:Str->Option NameKind} {x:Str} {v:Value}:∀ {P:List Str} {vs:List Value} {i:Nat} {m:Str->Option Value},P.Nodup->P[i]?=some x->vs[i]?=some v->kindOf x≠some .local ->
  bindC kindOf (P.zip vs) m x=some v
 | [],_,_,_,_,h,_,_=>by simp at h
 | _ :: _,[],_,_,_,_,h,_=>by simp at h
 | p :: P,w :: vs,0,m,nd,h1,h2,hk=>by
  simp at h1 h2; subst h1; subst h2;show bindC kindOf ((p,w) :: P.zip vs) m p=_;unfold bindC;rw [pJ fun v hv=>(zbc.mp nd).1 (List.of_mem_zip hv).1,if_neg hk];simp
 | p :: P,w :: vs,i+1,m,nd,h1,h2,hk=>by
  show bindC kindOf ((p,w) :: P.zip vs) m x=_;unfold bindC;exact pK (i:=i) (zbc.mp nd).2 (by simpa using h1) (by simpa using h2) hk
def dW (N:List Str) (vs:List V):St:=vs.map some++List.replicate (N.length - vs.length) none
def mM (CX:CXT) (P:Program) (w:World) (K:PySem.W.Frag) (mg:Str->Option Value) (base:Heap) (N:List Str) (qual:Str) (scope:Scope) (f:Addr) (cd:Value) (A:Around) (outer:List Env) (s:Shared) (H:Hp) (E:XK):Cx where
 prog:=P
 w:=w
 K:=K
 mg:=mg
 base:=base
 A:=A.deeper (envOfC qual scope s.heap.objs.size f cd)
 N:=N
 s₀:=s
 H₀:=H
 env:=envOfC qual scope s.heap.objs.size f cd
 outer:=outer
 stack:=envOfC qual scope s.heap.objs.size f cd :: outer
 ex:=[]
 calm:=true
 fn:=fun _=>true
 pn:=[]
 xe:=fun e s'=>wpAny (model P w) (A.deeper (envOfC qual scope s.heap.objs.size f cd)) (leaving (envOfC qual scope s.heap.objs.size f cd) e) (fun _ s''=>CX outer H s E e s'') (fun e' s''=>CX outer H s E e' s'') s'
def rm {sc:Scope} {n:Nat} {x:Str} (h:sc.names.lookup x=some .cell):∃ c,(cellsFrom n sc.names []).lookup x=some c:=by
 have q:=PySem.W.cellsFrom_some sc.names n [] (.inl h);exact Option.isSome_iff_exists.mp q
def vg {CX:CXT} {P:Program} {w:World} {K:PySem.W.Frag} {mg:Str->Option Value} {base:Heap} {N ps:List Str} {qual:Str} {scope:Scope} {f:Addr} {cd:Value} {A:Around} {outer:List Env} {s s1:Shared} {H:Hp} {E:XK} {us:List Value} {vs:List V}
  (S:FnScope N ps scope) (hd:A.handled=none) (e0:Env0 P w K mg base A outer s H) (hl:vs.length=ps.length) (r:Vals vs us)
  (x:InCallC s s.heap.objs.size (bindL (envOfC qual scope s.heap.objs.size f cd).kindOf (ps.zip us) fun _=>none) (cellsFrom (s.heap.objs.size+1) scope.names []) (bindC (envOfC qual scope s.heap.objs.size f cd).kindOf (ps.zip us) fun _=>none) s1) :
  Inv (mM CX P w K mg base N qual scope f cd A outer s H E) [] (dW N vs) H s1:=by
 have hpl:ps.length<=N.length:=by have:=congrArg List.length S.pre; rw [zaE] at this; omega
 obtain ⟨h1,tk,rfl,hk⟩:=x.done;have noA:∀ b:Addr,b ∉ (mM CX P w K mg base N qual scope f cd A outer s H E).ex:=fun b z=>absurd (show b∈([]:List Addr) from z) (by simp);refine ⟨⟨e0.mod,S.kind,rfl,rfl,zav _,fun y z c h1 h2=>?_,fun y hy=>?_,fun y c _ h=>?_,fun _=>hd,Around.frames_deeper e0.frames,.inr ⟨rfl,rfl⟩,fun b z=>absurd z (noA b),e0.bs,e0.bsz,fun b _ _=>noA b,fun b z=>absurd z (noA b),e0.funs,e0.frf⟩,
  rfl,e0.bare,Un.kept hk,⟨_,x.toInCall.ns,fun i y v h1 h2 h3=>?_⟩,fun y c h=>⟨_,x.cell y c h⟩,e0.hok.fresh (zav _),fun y c h=>?_,fun p hp=>absurd (show p∈([]:List (Addr × Obj)) from hp) (by simp),e0.hok.kept hk,?_⟩
 ·exact name_of_addr x.apart (zaU h1) (zaU h2)
 ·have hy:scope.names.lookup y=some .cell\/scope.names.lookup y=some .free:=hy;rcases hy with hy | hy
  ·exact rm hy
  ·exact absurd rfl (S.nofree _ (zaU hy))
 ·exact Nat.le_of_lt (x.above y c (zaU h))
 ·have hi:i < vs.length:=by
   unfold dW at h2;by_cases hi:i < vs.length
   ·exact hi
   ·rw [List.getElem?_append_right (by simpa using hi)] at h2;rw [List.getElem?_replicate] at h2;split at h2 <;> cases h2
  have ha:vs[i]?=some v:=by
   unfold dW at h2;rw [zaS (by simpa using hi),zao] at h2;cases e:vs[i]? with
   | none=>rw [e] at h2; cases h2
   | some a=>rw [e] at h2; cases h2; rfl
  obtain ⟨u,hu,rv⟩:=r.get ha;have hp:ps[i]?=some y:=by
   rw [<- S.pre,List.getElem?_take_of_lt (by omega)]; exact h1
  have ndP:ps.Nodup:=by rw [<- S.pre]; exact S.nd.sublist (List.take_sublist _ _)
  refine ⟨u,rv,?_⟩;rcases S.par y (zaX hp) with k | k
  ·exact .inl ⟨k,pI ndP hp hu k⟩
  ·obtain ⟨c,e⟩:=rm (n:=s.heap.objs.size+1) k;refine .inr ⟨.inl k,c,e,?_⟩;have q:=x.cell y c e;rw [pK ndP hp hu (by show scope.names.lookup y≠_; rw [k]; decide)] at q;exact q
 ·exact e0.hok.fresh (Nat.le_of_lt (x.above y c (zaU h)))
 ·unfold dW;show _=N.length;rw [zae,zad,List.length_replicate];omega
def JF {CX:CXT} {P:Program} {w:World} {K:PySem.W.Frag} {mg:Str->Option Value} {base:Heap} {k:Nat} {f:Addr} {name qual:Str} {params:Arguments} {body:List Stmt} {scope:Scope} {dV kV doc pm cdv ct oc:Value} {an od:Option Addr}
  {osl:Array (Option Value)} {N ps:List Str} {sp:Sp} (lk:K.lookup f=some ⟨oc,od,.func (PySem.W.fnOf name qual params body scope dV kV doc pm an cdv ct),osl⟩) (hcd:PySem.W.codeIn K cdv qual=true) (S:FnScope N ps scope)
  (len:∀ vs H Q E,sp vs H Q E->vs.length=ps.length)
  (hbody:∀ (A:Around) (outer:List Env) (s:Shared) (H:Hp) (vs:List V) (Q:VK) (E:XK),Room k (A.deeper (envOfC qual scope s.heap.objs.size f cdv))->sp vs H Q E ->
   ∃ t,PSs (mM CX P w K mg base N qual scope f cdv A outer s H E) body t/\t { nx:=fun _ H'=>Q .non H',rt:=Q } (dW N vs) H) :
  FnOk P w K mg base CX (k+1) f (PySem.W.fnOf name qual params body scope dV kV doc pm an cdv ct) ps sp:=by
 refine ⟨len,fun A outer s H args us vs Q E hr e0 hb r hsp=>?_⟩;have hl:=len _ _ _ _ hsp;have KX:K.In s.heap:=e0.mod.kin.keeps fun b o e=>(e0.bs b o e).1;have lim:s.heap.NoLimit:=e0.mod.nolimit.keeps fun b o e=>(e0.bs b o e).1;have hkind:∀ y∈ps.zip us,scope.names.lookup y.1=some .local\/(scope.names.lookup y.1=some .cell/\((cellsFrom (s.heap.objs.size+1) scope.names []).lookup y.1).isSome=true):=fun ⟨n,v⟩ hy=>by
  rcases S.par n (List.of_mem_zip hy).1 with q | q
  ·exact .inl q
  ·exact .inr ⟨q,PySem.W.cellsFrom_some _ _ _ (.inl q)⟩
 refine codeAny_call_function hr.depth (KX _ _ lk) rfl S.co S.gen rfl (PySem.W.codeRec_of KX hcd) (hb _ _ _ _ ?_);refine wpAny_newFunctionEnv_cells S.kind hkind fun env he s1 x=>?_;subst he;refine ⟨lim.keeps x.toInCall.keep,codeAny_func ?_⟩;obtain ⟨t,ht,hq⟩:=hbody A outer s H vs Q E (hr.deeper _) hsp;have I:Inv (mM CX P w K mg base N qual scope f cdv A outer s H E) [] (dW N vs) H s1:=vg S hr.hd e0 hl r x;refine wpAny_mono (ht [] s1 (dW N vs) H _ I hq) (fun fl s' hs=>?_) fun e s' hs=>hs;have fin:∀ {σ':St} {H':Hp} {v:V} {u:Value},Inv (mM CX P w K mg base N qual scope f cdv A outer s H E) [] σ' H' s'->RelV v u->Q v H'->CE outer P w H s Q u s' :=
  fun {σ' H' v u} J rv q=>⟨v,H',J.os,J.bare,J.base,J.hok,rv,q⟩
 cases fl with
 | ret u =>
  obtain ⟨v,σ',H',J,rv,q⟩:=hs;exact fin J rv q
 | next =>
  obtain ⟨σ',H',J,q⟩:=hs;exact fin (v:=V.non) (u:=Value.none) J rfl q
 | brk =>
  obtain ⟨_,_,_,q⟩:=hs;exact False.elim q
 | cont =>
  obtain ⟨_,_,_,q⟩:=hs;exact False.elim q
section
variable {X:Cx} {x:Str} {p pos:Pos} {e:Expr} {es:List Expr} {t:TA} {id T:String} {r:List V->Hp->VK->Prop}
def tCB (r:List V->Hp->VK->Prop) (t:TA):TE:=fun σ H Q=>t σ H fun vs H1=>r vs H1 Q
def jV (hc:CallR X (.builtin id) r) (hg:Gl X x) (hm:X.mg x=none) (hv:bootBuiltins x=some (.builtin id)) (ha:PA X (e :: es) t) (hn:x≠"__name__":=by decide) (hdb:(x == ("__debug__" : Str))=false:=by decide)
  (he:starEach (e :: es) X.env=(false,eval e X.env) :: starEach es X.env:=by rfl) (hpl:(backTo pos (starEach es X.env)).any (·.1)=false:=by rfl):PE X (.Call (.Name x p) (e :: es) [] pos) (tCB r t):=by
 intro pins s σ H Q I h;refine wpAny_Call_Name_kw (kW I hg hm hv ?_ hn hdb);exact PyProof.Rows.callWith_builtin1 (thn (ha pos pins s σ H _ I h) fun us s1 ⟨vs,H1,I1,r1,q1⟩=>hc pins s1 σ H1 vs us Q I1 r1 q1) he hpl
def pk (hc:CallR X (.type T) r) (hg:Gl X x) (hm:X.mg x=none) (hv:bootBuiltins x=some (.type T)) (ha:PA X (e :: es) t) (hn:x≠"__name__":=by decide) (hdb:(x == ("__debug__" : Str))=false:=by decide)
  (he:starEach (e :: es) X.env=(false,eval e X.env) :: starEach es X.env:=by rfl) (hpl:(backTo pos (starEach es X.env)).any (·.1)=false:=by rfl):PE X (.Call (.Name x p) (e :: es) [] pos) (tCB r t):=by
 intro pins s σ H Q I h;refine wpAny_Call_Name_kw (kW I hg hm hv ?_ hn hdb);exact PyProof.Rows.callWith_type1 (thn (ha pos pins s σ H _ I h) fun us s1 ⟨vs,H1,I1,r1,q1⟩=>hc pins s1 σ H1 vs us Q I1 r1 q1) he hpl
end
end L2
namespace HT
open PySem PyProof.Rows
section
open PySem.SeqAt
open PySem.AutoSeq1 (wpAny_loadPart')
open PySem.MeetsSeq PySem.MeetsSeq2 PySem.MeetsSeq3
end
section
variable {prog:Program} {w:World} {A:Around} {E:Value->Shared->Prop} {s:Shared}
def sIx (n d:Nat):Option Int->Nat
 | none=>d
 | some v=>if v < 0 then (v+(n:Int)).toNat else min v.toNat n
def sIx_none (n d:Nat):sIx n d none=d:=rfl
def sIx_nat (n d k:Nat):sIx n d (some (k:Int))=min k n:=by
 show (if (k:Int) < 0 then ((k:Int)+(n:Int)).toNat else min (k:Int).toNat n)=min k n;rw [if_neg (by omega),zaL]
def uJ (n d:Nat) (hd:d<=n) (o:Option Int):sIx n d o<=n:=by
 cases o with
 | none=>exact hd
 | some v =>
  show (if v < 0 then (v+(n:Int)).toNat else min v.toNat n)<=n;by_cases hv:v < 0
  ·rw [if_pos hv]; omega
  ·rw [if_neg hv]; exact Nat.min_le_right _ _
def sP (v:Int) (n d:Nat):(if v < 0 then max (v+(n:Int)) 0 else min v (n:Int))=((sIx n d (some v):Nat):Int):=by
 show (if v < 0 then max (v+(n:Int)) 0 else min v (n:Int))=(((if v < 0 then (v+(n:Int)).toNat else min v.toNat n):Nat):Int);by_cases hv:v < 0
 ·simp only [if_pos hv]; omega
 ·simp only [if_neg hv]; omega
def ul (lo hi:Option Int) (n:Nat):Builtin.Slice.sliceAdjust lo hi 1 (n:Int)=(((sIx n 0 lo:Nat):Int),((sIx n n hi:Nat):Int)):=by
 have h1:¬ ((1:Int) < 0):=by omega
 unfold Builtin.Slice.sliceAdjust;simp only [h1,if_false];refine Prod.ext ?_ ?_
 ·cases lo with
  | none=>rfl
  | some v=>exact sP v n 0
 ·cases hi with
  | none=>rfl
  | some v=>exact sP v n n
def tq (i j:Nat):Builtin.Slice.slicePlaces (i:Int) (j:Int) 1=j - i:=by
 unfold Builtin.Slice.slicePlaces;have h1:(1:Int) > 0:=by omega
 simp only [h1,if_true,Int.ediv_one];split <;> omega
def nh {v:Value} {o:Option Int} {Q:Option Int->Shared->Prop} (p:IsPart v o) (h:Q o s):wpAny (model prog w) A (Builtin.Slice.slicePartIndex v) Q E s:=by
 cases p with
 | none=>exact slicePart_none h
 | int i t=>exact slicePart_int h
def iw {sl:Addr} {vl vu:Value} {lo hi:Option Int} {n:Nat} {Q:Int × Int × Nat->Shared->Prop} (hs:s.heap.IsSliceOf sl vl vu .none) (pl:IsPart vl lo) (pu:IsPart vu hi)
  (h:Q (((sIx n 0 lo:Nat):Int),1,sIx n n hi - sIx n 0 lo) s):wpAny (model prog w) A (Builtin.Slice.sliceApplied (.ref sl) (pure (n:Int))) Q E s:=by
 obtain ⟨os,hos,hcs,hds⟩:=id hs;unfold Builtin.Slice.sliceApplied Builtin.Slice.sliceFields;refine zam (zam (wpAny_field hos hds (x:=vl) rfl (zam (wpAny_field hos hds (x:=vu) rfl (zam (wpAny_field hos hds (x:=.none) rfl (zaT ?_)))))));refine zam (slicePart_none ?_);show wpAny _ _ (if ((1:Int) == 0)=true then _ else _) _ _ s;rw [if_neg (by decide)];refine zam (nh pl (zam (nh pu (zam (zaT ?_)))));show wpAny _ _ (match Builtin.Slice.sliceAdjust lo hi 1 (n:Int) with | (lo,hi)=>pure (lo,(1:Int),Builtin.Slice.slicePlaces lo hi 1)) _ _ s;rw [ul lo hi n];show wpAny _ _ (pure (((sIx n 0 lo:Nat):Int),(1:Int),Builtin.Slice.slicePlaces ((sIx n 0 lo:Nat):Int) ((sIx n n hi:Nat):Int) 1)) _ _ s;rw [tq];exact zaT h
def wu (xs:Array Value) (i k:Nat):((List.range k).filterMap fun (m:Nat)=>xs[((i:Int)+(m:Int) * 1).toNat]?).toArray=((xs.toList.drop i).take k).toArray:=by
 have e:(fun (m:Nat)=>xs[((i:Int)+(m:Int) * 1).toNat]?)=fun m=>xs[i+m]?:=by
  funext m
  have:((i:Int)+(m:Int) * 1).toNat=i+m:=by omega
  rw [this]
 rw [e]
 have:=pick_run xs i k;rw [List.filterMap_map] at this;have e2:((fun x=>xs[x]?) ∘ fun x=>i+x)=fun m=>xs[i+m]?:=rfl;rw [e2] at this;rw [this]
def getItem_tuple_cut {t sl:Addr} {items:Array Value} {vl vu:Value} {lo hi:Option Int} {Q:Value->Shared->Prop} (ht:IsTup s.heap t items) (hs:s.heap.IsSliceOf sl vl vu .none) (pl:IsPart vl lo) (pu:IsPart vu hi)
  (hw:¬ (sIx items.size 0 lo=0/\sIx items.size items.size hi=items.size))
  (h:Q (.ref s.heap.objs.size) { s with heap:=s.heap.push { cls:=.type "tuple",data:=.seq ((items.toList.drop (sIx items.size 0 lo)).take (sIx items.size items.size hi - sIx items.size 0 lo)).toArray } })
  (hsz:items.size<=sizeLine):wpAny (model prog w) A (getItem (.ref t) (.ref sl)) Q E s:=by
 have htake:sizeOk (.seq ((items.toList.drop (sIx items.size 0 lo)).take (sIx items.size items.size hi - sIx items.size 0 lo)).toArray):=by
  show ((items.toList.drop (sIx items.size 0 lo)).take (sIx items.size items.size hi - sIx items.size 0 lo)).toArray.size<=sizeLine;rw [zai,zaE,zaF,zaY];omega
 have hj:sIx items.size items.size hi<=items.size:=uJ _ _ (zav _) hi;obtain ⟨os,hos,hcs,hds⟩:=id hs;have hTs:s.TypeIs (.ref sl) "slice":=⟨os,hos,hcs⟩;unfold getItem
 try with_reducible refine wpAny_holding ?_
 first | refine zam (zaT ?_) | skip
 refine zam (wpAny_sequenceKey ht.typeIs (by decide) ?_);refine zam (wpAny_callSpecial?_slot (name:=Str.ofString "__getitem__") ht.typeIs PyProof.Rows.slot_tuple_getitem
  (wpAny_call_entry PyProof.Rows.slot_tuple_getitem ht.typeIs entry_tuple_getitem ?_ (args_tuple_getitem _ _)))
 show wpAny _ _ (Builtin.Tuple.tupleItemsOf (.ref t) >>= _) _ _ s;refine zam (tupleItemsOf_ ht ?_);refine zam (wpAny_typeOf hTs ?_);rw [if_pos (by decide)];refine zam (iw hs pl pu ?_);have hno:¬ ((((sIx items.size 0 lo:Nat):Int) == 0 && (1:Int) == 1 && (sIx items.size items.size hi - sIx items.size 0 lo) == items.size)=true):=by
  intro q;rw [Bool.and_eq_true,Bool.and_eq_true] at q;have q1:((sIx items.size 0 lo:Nat):Int)=0:=eq_of_beq q.1.1;have q2:sIx items.size items.size hi - sIx items.size 0 lo=items.size:=eq_of_beq q.2;exact hw ⟨by omega,by omega⟩
 show wpAny _ _ (if (((sIx items.size 0 lo:Nat):Int) == 0 && (1:Int) == 1 && (sIx items.size items.size hi - sIx items.size 0 lo) == items.size)=true then _ else _) _ _ s;rw [if_neg hno,wu]
 first
  | exact zam (m:=Builtin.Tuple.tupleExact _) (wpAny_newObj_type (zaT ⟨_,rfl,zaT h⟩) htake)
  | exact zam (m:=Builtin.Tuple.tupleExact _) (wpAny_newObj_type (zam (zaT (zaT ⟨_,rfl,zaT h⟩))) htake)
  | exact zam (zam (m:=Builtin.Tuple.tupleExact _) (wpAny_newObj_type (zaT (zaT ⟨_,rfl,zaT h⟩)) htake))
  | exact zam (zam (m:=Builtin.Tuple.tupleExact _) (wpAny_newObj_type (zaT ⟨_,rfl,zaT h⟩) htake))
end
end HT
namespace L2
open PySem PySem.Spec PyProof.Rows
abbrev TO:=St->Hp->(Option Int->Hp->Prop)->Prop
def PO (X:Cx) (e:Option Expr) (t:TO):Prop :=
 ∀ (pins:List (Addr × Obj)) (s:Shared) (σ:St) (H:Hp) (Q:Option Int->Hp->Prop),Inv X pins σ H s->t σ H Q ->
  wpAny (model X.prog X.w) X.A (evalPart e X.env) (fun u s'=>∃ o H',Inv X pins σ H' s'/\IsPart u o/\Q o H') X.xe s
def Dq:TO:=fun _ H Q=>Q none H
def Jc (t:TE):TO:=fun σ H Q=>t σ H fun x H1=>∃ i,x=.int i/\Q (some i) H1
section
variable {X:Cx} {e:Expr} {te:TE} {lo hi:Option Expr} {tl th:TO} {pos p2:Pos}
def po_none:PO X none Dq:=by
 intro pins s σ H Q I h;rw [evalPart_none];exact zaT ⟨none,H,I,.none,h⟩
def DF (h:PE X e te):PO X (some e) (Jc te):=by
 intro pins s σ H Q I hw;rw [evalPart_some];refine thn (h pins s σ H _ I hw) fun u s1 ⟨x,H1,I1,r1,q1⟩=>?_;obtain ⟨i,rfl,q⟩:=q1;obtain ⟨t,rfl⟩:=r1;exact ⟨some i,H1,I1,.int i t,q⟩
def SlR (X:Cx) (r:V->Option Int->Option Int->Hp->VK->Prop):Prop :=
 ∀ (pins:List (Addr × Obj)) (s:Shared) (σ:St) (H:Hp) (x:V) (v vl vu:Value) (lo hi:Option Int) (sl:Addr) (Q:VK),Inv X pins σ H s->RelV x v->s.heap.IsSliceOf sl vl vu .none->IsPart vl lo->IsPart vu hi->r x lo hi H Q ->
  ∃ T id,typeLookup (.type T) "__getitem__"=pure (some (.builtin id))/\s.TypeIs v T/\wpAny (model X.prog X.w) X.A (getItem v (.ref sl)) (EP X pins σ Q) X.xe s
def tSl (r:V->Option Int->Option Int->Hp->VK->Prop) (te:TE) (tl th:TO):TE:=fun σ H Q=>te σ H fun x H1=>tl σ H1 fun l H2=>th σ H2 fun u H3=>r x l u H3 Q
def ww {r:V->Option Int->Option Int->Hp->VK->Prop} (hr:SlR X r) (he:PE X e te) (hl:PO X lo tl) (hu:PO X hi th):PE X (.Subscript e (.Slice lo hi none p2) pos) (tSl r te tl th):=by
 intro pins s σ H Q I h;refine Subscript_ (thn (he pins s σ H _ I h) fun v s1 ⟨x,H1,I1,r1,q1⟩=>?_);refine wpAny_Slice (thn (hl pins s1 σ H1 _ I1 q1) fun vl s2 ⟨l,H2,I2,pl,q2⟩=>thn (hu pins s2 σ H2 _ I2 q2) fun vu s3 ⟨u,H3,I3,pu,q3⟩=>?_);rw [evalPart_none];refine zaT ?_;have I4:Inv X pins σ H3 { s3 with heap:=s3.heap.push { cls:=.type "slice",data:=.fields #[vl,vu,.none] } }:=I3.kept (t':=s3.toks) fun b ob q=>zaf _ q;obtain ⟨T,id,hT,ht,hg⟩:=hr pins { s3 with heap:=s3.heap.push { cls:=.type "slice",data:=.fields #[vl,vu,.none] } } σ H3 x v vl vu l u s3.heap.objs.size Q I4 r1 (Heap.IsSliceOf.new ..) pl pu q3;show wpAny (model X.prog X.w) X.A (subscriptTail e (.Slice lo hi none p2) v (.ref s3.heap.objs.size)) (EP X pins σ Q) X.xe { s3 with heap:=s3.heap.push { cls:=.type "slice",data:=.fields #[vl,vu,.none] } };exact tail_any (ops:=[.ref s3.heap.objs.size,v]) ht hT hg (by with_unfolding_all rfl)
def ji (xs:List V) (lo hi:Option Int):List V:=(xs.drop (HT.sIx xs.length 0 lo)).take (HT.sIx xs.length xs.length hi - HT.sIx xs.length 0 lo)
def ma (xs:List V) (lo hi:Option Int):(ji xs lo hi).length<=xs.length:=by
 unfold ji;rw [zaE,zaF];omega
def G0 (K:PySem.W.Frag):V->Option Int->Option Int->Hp->VK->Prop:=fun x lo hi H Q=>∃ a xs,x=.ref a/\SqT K H a xs /\
 ¬ (HT.sIx xs.length 0 lo=0/\HT.sIx xs.length xs.length hi=xs.length)/\∀ p,H p=none->Q (.ref p) (upd H p (.tup (ji xs lo hi)))
def GV:SlR X (G0 X.K):=by
 intro pins s σ H x v vl vu lo hi sl Q I rx hs pl pu h;obtain ⟨a,xs,rfl,hx,hw,q⟩:=h;cases rx;obtain ⟨its,r,ht,hz⟩:=I.tuple hx;have hlen:its.toArray.size=xs.length:=by rw [zai]; exact r.length.symm
 refine ⟨"tuple",_,PyProof.Rows.slot_tuple_getitem.lookup,ht.typeIs,?_⟩;refine HT.getItem_tuple_cut ht hs pl pu (by rw [hlen]; exact hw) ?_ (by rw [hlen]; exact hz);rw [hlen];refine ⟨.ref s.heap.objs.size,_,I.laid (t':=s.toks) (o:=.tup (ji xs lo hi)) (fun b ob q=>zaf _ q) (zav _) ?_,rfl,q _ (I.hok.fresh (zav _))⟩;exact ⟨zau (ma xs lo hi) hz,_,(r.drop (HT.sIx xs.length 0 lo)).take (HT.sIx xs.length xs.length hi - HT.sIx xs.length 0 lo),IsTupN.new _ _⟩
end
def ixN (n:Nat) (i:Int):Option Nat:=if 0<=i then (if i < n then some i.toNat else none) else if -(n:Int)<=i then some (i+n).toNat else none
def atI {α:Type} (xs:List α) (i:Int):Option α:=(ixN xs.length i).bind fun j=>xs[j]?
def sC {n:Nat} {i:Int} {j:Nat} (h:ixN n i=some j):seqIndex? i n=some j/\j < n/\-(n:Int)<=i/\i < n:=by
 unfold ixN at h;by_cases h0:0<=i
 ·rw [if_pos h0] at h;by_cases h1:i < n
  ·rw [if_pos h1] at h;have e:i.toNat=j:=zat h;exact ⟨by rw [seqIndex_of h0 h1,e],by omega,by omega,h1⟩
  ·rw [if_neg h1] at h; cases h
 ·rw [if_neg h0] at h;by_cases h1:-(n:Int)<=i
  ·rw [if_pos h1] at h;have e:(i+n).toNat=j:=zat h;exact ⟨by rw [seqIndex_neg (by omega) h1,e],by omega,h1,by omega⟩
  ·rw [if_neg h1] at h; cases h
def o8 {α:Type} {xs:List α} {i:Int} {v:α} (h:atI xs i=some v):∃ j,seqIndex? i xs.length=some j/\xs[j]?=some v/\j < xs.length/\-(xs.length:Int)<=i/\i < xs.length:=by
 unfold atI at h;cases e:ixN xs.length i with
 | none=>rw [e] at h; cases h
 | some j =>
  rw [e] at h;obtain ⟨h1,h2,h3,h4⟩:=sC e;exact ⟨j,h1,h,h2,h3,h4⟩
def jK (b:Expr):Prop:=∀ o i,subscripted b false o i=operate [o,i] (getItem o i)
def IxR (X:Cx) (r:R2):Prop :=
 ∀ (value slice:Expr) (pins:List (Addr × Obj)) (s:Shared) (σ:St) (H:Hp) (x y:V) (v u:Value) (Q:VK),Inv X pins σ H s->RelV x v->RelV y u->r x y H Q ->
  subscripted slice false v u=operate [v,u] (getItem v u)->wpAny (model X.prog X.w) X.A (subscriptTail value slice v u) (EP X pins σ Q) X.xe s
def MtR (X:Cx) (id:String) (r:V->List V->Hp->VK->Prop):Prop :=
 ∀ (pins:List (Addr × Obj)) (s:Shared) (σ:St) (H:Hp) (x:V) (xs:List V) (v:Value) (us:List Value) (Q:VK),Inv X pins σ H s->RelV x v->Vals xs us->r x xs H Q ->
  wpAny (model X.prog X.w) X.A (call (.builtin id) (v :: us)) (EP X pins σ Q) X.xe s
section
variable {X:Cx} {a b:Expr} {ta tb:TE} {pos:Pos}
def IxR.or {r r':R2} (h:IxR X r) (h':IxR X r'):IxR X (fun x y H Q=>r x y H Q\/r' x y H Q):=by
 intro value slice pins s σ H x y v u Q I rx ry q hs;rcases q with q | q
 ·exact h value slice pins s σ H x y v u Q I rx ry q hs
 ·exact h' value slice pins s σ H x y v u Q I rx ry q hs
def C3 {r:R2} (hr:IxR X r) (ha:PE X a ta) (hb:PE X b tb) (hs:jK b):PE X (.Subscript a b pos) (tOp r ta tb):=by
 intro pins s σ H Q I h;exact Subscript_ (xy ha hb I h fun v u s2 x y H2 I2 rx ry q=>hr a b pins s2 σ H2 x y v u Q I2 rx ry q (hs _ _))
def tm (K:PySem.W.Frag):R2:=fun x y H Q=>∃ p xs i v,x=.ref p/\y=.int i/\SqL K H p xs/\atI xs i=some v/\Q v H
def G5 (K:PySem.W.Frag):R2:=fun x y H Q=>∃ p xs i v,x=.ref p/\y=.int i/\SqT K H p xs/\atI xs i=some v/\Q v H
def G6:R2:=fun x y H Q=>∃ z i c,x=.str z/\y=.int i/\z.length<=sizeLine/\atI z.cps.toList i=some c/\Q (.str ⟨#[c]⟩) H
def ix_list:IxR X (tm X.K):=by
 intro value slice pins s σ H x y v u Q I rx ry h hs;obtain ⟨p,xs,i,z,rfl,rfl,hq,he,q⟩:=h;cases rx;obtain ⟨t,rfl⟩:=ry;obtain ⟨its,r,pl,hz⟩:=I.list hq;obtain ⟨j,h1,h2,h3,h4,h5⟩:=o8 he;obtain ⟨w,ew,rw'⟩:=r.get h2;have hl:=r.length;have hn:=jE;have fin:EP X pins σ Q w s:=⟨z,H,I,rw',q⟩;by_cases h0:0<=i
 ·have hj:i.toNat=j:=by
   rw [seqIndex_of h0 h5] at h1;exact zat h1
  exact item_listR pl.isList h0 (by omega) (by rw [hj]; simpa using ew) fin hs
 ·have hj:(i+(its.toArray.size:Int)).toNat=j:=by
   rw [seqIndex_neg (by omega) h4] at h1;rw [zai,<- hl];exact zat h1
  exact subscriptTail_builtinR (x:=w) pl.isList.typeIs slot_list_getitem.lookup
   (wpAny_getItem_list_neg (Q:=fun r s'=>r=w/\EP X pins σ Q r s') pl.isList (by omega) (by rw [zai] <;> omega) (by omega) (by rw [hj]; simpa using ew) ⟨rfl,fin⟩) hs
def ix_tup:IxR X (G5 X.K):=by
 intro value slice pins s σ H x y v u Q I rx ry h hs;obtain ⟨p,xs,i,z,rfl,rfl,hq,he,q⟩:=h;cases rx;obtain ⟨t,rfl⟩:=ry;obtain ⟨its,r,pl,hz⟩:=I.tuple hq;obtain ⟨j,h1,h2,h3,h4,h5⟩:=o8 he;obtain ⟨w,ew,rw'⟩:=r.get h2;have hl:=r.length;have hn:=jE;have fin:EP X pins σ Q w s:=⟨z,H,I,rw',q⟩;exact subscriptTail_builtinR (x:=w) pl.typeIs slot_tuple_getitem.lookup
  (getItem_tuple (j:=j) (Q:=fun r s'=>r=w/\EP X pins σ Q r s') pl (by omega) (by omega) (by rw [zai,<- hl]; exact h1) (by simpa using ew) ⟨rfl,fin⟩) hs
def ix_str:IxR X G6:=by
 intro value slice pins s σ H x y v u Q I rx ry h hs;obtain ⟨z,i,c,rfl,rfl,hz,he,q⟩:=h;obtain ⟨t,rfl⟩:=rx;obtain ⟨t',rfl⟩:=ry;obtain ⟨j,h1,h2,h3,h4,h5⟩:=o8 he;have hl:z.cps.toList.length=z.length:=by simp [Str.length]
 rw [hl] at h1 h4 h5;have hn:=jE;exact tail_any (typeIs_str s z t) slot_str_getitem.lookup (getItem_str (c:=c) (by
  have e1:decide (i < -(2 ^ 63:Int))=false:=zaA (by omega);have e2:decide (i >= 2 ^ 63)=false:=zaA (by omega);rw [e1,e2,Bool.or_false]) (by rw [h1]; simpa using h2) ⟨.str ⟨#[c]⟩,H,I.tok _,⟨_,rfl⟩,q⟩) hs
def rIx (K:PySem.W.Frag):R2:=fun x y H Q=>tm K x y H Q\/G5 K x y H Q\/G6 x y H Q
def ix_seq:IxR X (rIx X.K):=ix_list.or (ix_tup.or ix_str)
def tL (its:List Value) (n j:Nat) (u:Value):Obj.mapSeq (·.setIfInBounds j u) { cls:=.type "list",data:=.seq its.toArray n }={ cls:=.type "list",data:=.seq (its.set j u).toArray n }:=by
 simp [Obj.mapSeq]
def Inv.lst {pins:List (Addr × Obj)} {σ:St} {H:Hp} {s:Shared} {p:Addr} {xs:List V} (I:Inv X pins σ H s) (h:H p=some (.lst xs)) :
  ∃ (its:List Value) (n:Nat),Vals xs its/\s.heap.get? p=some { cls:=.type "list",data:=.seq its.toArray n }/\xs.length<=sizeLine:=by
 obtain ⟨z,its,n,r,e⟩:=I.hok p _ h;exact ⟨its,n,r,e,z⟩
def Inv.lstUpd {pins:List (Addr × Obj)} {σ:St} {H:Hp} {s:Shared} {p:Addr} {xs ys:List V} {its its':List Value} {n n':Nat} {f:Obj->Obj} (I:Inv X pins σ H s) (h:H p=some (.lst xs))
  (ho:s.heap.get? p=some { cls:=.type "list",data:=.seq its.toArray n }) (hf:f { cls:=.type "list",data:=.seq its.toArray n }={ cls:=.type "list",data:=.seq its'.toArray n' }) (r:Vals ys its') (hz:ys.length<=sizeLine) (t:Nat) :
  Inv X pins σ (upd H p (.lst ys)) { s with heap:=s.heap.update p f,toks:=t }:=by
 have e:(s.heap.update p f).get? p=some { cls:=.type "list",data:=.seq its'.toArray n' }:=by
  rw [Heap.get?_update_self f ho (by rw [hf] <;> rfl),hf]
 refine I.write (x:=p) (e:=p) (by rw [h]; trivial) (.inl rfl) (fun b u hb q=>(Heap.get?_update_other _ _ (Ne.symm hb)).trans q) ⟨_,e⟩ ?_;exact ⟨hz,its',n',r,e⟩
def C0:V->V->V->Hp->(Hp->Prop)->Prop:=fun o i v H Q=>∃ p xs k j,o=.ref p/\i=.int k/\H p=some (.lst xs)/\ixN xs.length k=some j/\Q (upd H p (.lst (xs.set j v)))
def wg:IZ X C0:=by
 intro pins s σ H o i v ov iv u Q I ro ri rv h;obtain ⟨p,xs,k,j,rfl,rfl,hp,hj,q⟩:=h;cases ro;obtain ⟨t,rfl⟩:=ri;obtain ⟨its,n,r,ho,hz⟩:=I.lst hp;obtain ⟨h1,h2,h3,h4⟩:=sC hj;have hl:=r.length;have hn:=jE;have I':Inv X pins σ (upd H p (.lst (xs.set j v))) { s with heap:=s.heap.update p (Obj.mapSeq (·.setIfInBounds j u)) } :=
  I.lstUpd hp ho (tL its n j u) (r.set rv j) (by rw [zaV]; exact hz) s.toks
 by_cases h0:0<=k
 ·have hk:k.toNat=j:=by
   rw [seqIndex_of h0 h4] at h1;exact zat h1
  exact PySem.W.ki_setAt ho h0 (by omega) (by rw [zai,<- hl]; exact h4) (by rw [hk]; exact ⟨_,I',q⟩)
 ·have hk:(k+(its.toArray.size:Int)).toNat=j:=by
   rw [seqIndex_neg (by omega) h3] at h1;rw [zai,<- hl];exact zat h1
  exact PySem.W.ki_setBack ho (by omega) (by rw [zai,<- hl]; exact h3) (by omega) (by rw [hk]; exact ⟨_,I',q⟩)
def qt (lo hi:Option Int) (n:Nat):(sliceBounds lo hi none n).1=((HT.sIx n 0 lo:Nat):Int)/\(sliceBounds lo hi none n).2.1=((HT.sIx n n hi:Nat):Int)/\(sliceBounds lo hi none n).2.2=1:=by
 refine ⟨?_,?_,rfl⟩
 ·cases lo with
  | none=>simp [sliceBounds,HT.sIx]
  | some i =>
   simp only [sliceBounds,HT.sIx,Option.getD_none,show (1:Int) > 0 by decide,if_true];by_cases h:i < 0
   ·simp only [h,if_true] <;> omega
   ·simp only [h,if_false] <;> omega
 ·cases hi with
  | none=>simp [sliceBounds,HT.sIx]
  | some i =>
   simp only [sliceBounds,HT.sIx,Option.getD_none,show (1:Int) > 0 by decide,if_true];by_cases h:i < 0
   ·simp only [h,if_true] <;> omega
   ·simp only [h,if_false] <;> omega
def pS (its:List Value) (lo hi:Option Int):slicePick its.toArray lo hi none=((its.drop (HT.sIx its.length 0 lo)).take (HT.sIx its.length its.length hi - HT.sIx its.length 0 lo)).toArray:=by
 obtain ⟨h1,h2,h3⟩:=qt lo hi its.toArray.size;unfold slicePick;rw [h1,h2,h3];simp only [sliceRange_one,pick_run,zai] <;> rfl
def G3 (K:PySem.W.Frag):V->Option Int->Option Int->Hp->VK->Prop:=fun x lo hi H Q=>∃ a xs,x=.ref a/\SqL K H a xs/\∀ p,H p=none->Q (.ref p) (upd H p (.lst (ji xs lo hi)))
def Dt:SlR X (G3 X.K):=by
 intro pins s σ H x v vl vu lo hi sl Q I rx hs pl pu h;obtain ⟨a,xs,rfl,hx,q⟩:=h;cases rx;obtain ⟨its,r,ht,hz⟩:=I.list hx;have hlen:=r.length;refine ⟨"list",_,slot_list_getitem.lookup,ht.isList.typeIs,?_⟩;refine wpAny_getItem_list_slice ht.isList hs pl pu .none (by simp) ?_ (by rw [zai] <;> omega);rw [pS,<- hlen];refine ⟨.ref s.heap.objs.size,_,I.laid (t':=s.toks) (o:=.lst (ji xs lo hi)) (fun b ob q=>zaf _ q) (zav _) ?_,rfl,q _ (I.hok.fresh (zav _))⟩;exact ⟨zau (ma xs lo hi) hz,_,0,(r.drop (HT.sIx xs.length 0 lo)).take (HT.sIx xs.length xs.length hi - HT.sIx xs.length 0 lo),zan _ rfl⟩
def rp:CallR X (.type "list") (fun xs H Q=>∃ p ys,xs=[.ref p]/\(SqL X.K H p ys\/SqT X.K H p ys)/\∀ l,H l=none->Q (.ref l) (upd H l (.lst ys))):=by
 intro pins s σ H xs us Q I r h;obtain ⟨p,ys,rfl,hq,q⟩:=h;obtain ⟨u,rfl,rx⟩:=bW r;cases rx;have fin:∀ (its:List Value),Vals ys its->ys.length<=sizeLine->∀ (h':Heap) (c':Nat),(∀ b o',s.heap.get? b=some o'->h'.get? b=some o') ->
   h'.get? s.heap.objs.size=some { cls:=.type "list",dict:=none,data:=.seq its.toArray c',slots:=#[] }->EP X pins σ Q (.ref s.heap.objs.size) { s with heap:=h' }:=fun its r' hz h' c' kp e =>
  ⟨.ref s.heap.objs.size,_,I.laid (t':=s.toks) kp (zav _) (show ObjOk X.prog X.w _ h' _ (.lst ys) from ⟨hz,its,c',r',e⟩),rfl,q _ (I.hok.fresh (zav _))⟩
 rcases hq with hq | hq
 ·obtain ⟨its,r',pl,hz⟩:=I.list hq;have hlen:=r'.length;obtain ⟨o,ho,hc,n,hd⟩:=pl.isList;exact call_list_seq p (.inl rfl) ho hc hd (fun h' c' kp e=>fin its r' hz h' c' kp e) (by simp only [zai] <;> omega)
 ·obtain ⟨its,r',pl,hz⟩:=I.tuple hq;have hlen:=r'.length;obtain ⟨o,ho,hc,n,hd⟩:=pl;exact call_list_seq p (.inr rfl) ho hc hd (fun h' c' kp e=>fin its r' hz h' c' kp e) (by simp only [zai] <;> omega)
def pY:CallR X (.type "tuple") (fun xs H Q=>∃ p ys,xs=[.ref p]/\((SqL X.K H p ys/\∀ l,H l=none->Q (.ref l) (upd H l (.tup ys)))\/(SqT X.K H p ys/\Q (.ref p) H))):=by
 intro pins s σ H xs us Q I r h;obtain ⟨p,ys,rfl,h⟩:=h;obtain ⟨u,rfl,rx⟩:=bW r;cases rx;rcases h with ⟨hq,q⟩ | ⟨hq,q⟩
 ·obtain ⟨its,r',pl,hz⟩:=I.list hq;have hlen:=r'.length;refine call_tuple_list pl.isList (fun h' kp=>?_) (by simp only [zai] <;> omega);have I1:Inv X pins σ H { s with heap:=h' }:=I.kept (t':=s.toks) kp;have I2:Inv X pins σ (upd H h'.objs.size (.tup ys)) { s with heap:=h'.push { cls:=.type "tuple",data:=.seq its.toArray } } :=
   I1.laid (t':=s.toks) (fun b o e=>zaf _ e) (zav _) (show ObjOk X.prog X.w _ _ _ (.tup ys) from ⟨hz,its,r',IsTupN.new _ _⟩)
  exact ⟨.ref h'.objs.size,_,I2,rfl,q _ (I1.hok.fresh (zav _))⟩
 ·obtain ⟨its,r',pl,hz⟩:=I.tuple hq;exact call_tuple_same pl ⟨.ref p,H,I,rfl,q⟩
def tyV (K:PySem.W.Frag) (T:String) (x:V) (H:Hp):Prop:=match x with
 | .str _=>T="str"
 | .int _=>T="int"
 | .ref p=>(T="list"/\∃ xs,SqL K H p xs)\/(T="tuple"/\∃ o,K.lookup p=some o/\o.cls=.type "tuple"/\o.dict=none) \/
   (T="dict"/\((∃ kvs,H p=some (.dK kvs))\/∃ kvs,H p=some (.dT kvs)))\/(T="set"/\∃ S n,H p=some (.set S n))
 | _=>False
def GK {pins:List (Addr × Obj)} {σ:St} {H:Hp} {s:Shared} {T:String} {x:V} {v:Value} (I:Inv X pins σ H s) (r:RelV x v) (ty:tyV X.K T x H) :
  s.TypeIs v T/\∀ a,v=.ref a->∃ ob,s.heap.get? a=some ob/\ob.dict=none:=by
 cases x with
 | str z =>
  obtain ⟨t,rfl⟩:=r;cases (show T="str" from ty);exact ⟨typeIs_str s z t,fun _ e=>nomatch e⟩
 | int i =>
  obtain ⟨t,rfl⟩:=r;cases (show T="int" from ty);exact ⟨typeIs_int s i t,fun _ e=>nomatch e⟩
 | ref p =>
  cases r;rcases ty with ⟨rfl,xs,hq⟩ | ⟨rfl,o,hk,hc,hd⟩ | ⟨rfl,hk⟩ | ⟨rfl,S,n,hk⟩
  ·obtain ⟨its,_,pl,_⟩:=I.list hq;refine ⟨pl.isList.typeIs,fun a e=>?_⟩;cases e;obtain ⟨o,n,e,c,hd,_⟩:=pl;exact ⟨o,e,hd⟩
  ·refine ⟨⟨o,I.kIn p o hk,hc⟩,fun a e=>?_⟩;cases e;exact ⟨o,I.kIn _ o hk,hd⟩
  ·have z:∃ o,s.heap.get? p=some o/\o.ExactDict:=by
    rcases hk with ⟨kvs,hk⟩ | ⟨kvs,hk⟩
    ·obtain ⟨_,_,_,_,o,_,_,e,ex,_⟩:=I.hok p _ hk;exact ⟨o,e,ex⟩
    ·obtain ⟨_,_,_,_,o,_,_,e,ex,_⟩:=I.hok p _ hk;exact ⟨o,e,ex⟩
   obtain ⟨o,e,ex⟩:=z;refine ⟨⟨o,e,ex.1⟩,fun a e2=>?_⟩;cases e2;exact ⟨o,e,ex.2.1⟩
  ·obtain ⟨o,_,_,_,e,ex,_⟩:=I.hok p _ hk;refine ⟨⟨o,e,ex.1⟩,fun a e2=>?_⟩;cases e2;exact ⟨o,e,ex.2.1⟩
 | _=>exact False.elim ty
def tBM (K:PySem.W.Frag) (T:String) (r:V->List V->Hp->VK->Prop) (to:TE) (t:TA):TE:=fun σ H Q=>to σ H fun x H1=>tyV K T x H1/\t σ H1 fun xs H2=>r x xs H2 Q
variable {o e:Expr} {es:List Expr} {to:TE} {t:TA} {name:Str} {apos cpos:Pos} {T id:String} {r:V->List V->Hp->VK->Prop}
def tw (pa:PlainAttrs T) (slot:Slot T name id) (hty:typeOf (.builtin id)=pure (.type "method_descriptor")) (hm:MtR X id r) (ho:PE X o to) (ha:PA X (e :: es) t)
  (hbase:attributeBase o name X.env (eval o X.env)=eval o X.env:=by rfl)
  (hfew:((backTo cpos (starEach (e :: es) X.env)).all (fun x=>!x.1) && (backToKw cpos (keywordEach [] X.env)).all (fun x=>x.1.isSome)
   && decide ((e :: es).length+([]:List Keyword).length+(if ([]:List Keyword).isEmpty then 0 else 1) < 30))=true:=by rfl)
  (hline:(apos.endLine == cpos.line)=true:=by rfl) (hs:starEach (e :: es) X.env=(false,eval e X.env) :: starEach es X.env:=by rfl) (hplain:(backTo cpos (starEach es X.env)).any (·.1)=false:=by rfl) :
  PE X (.Call (.Attribute o name apos) (e :: es) [] cpos) (tBM X.K T r to t):=by
 intro pins s σ H Q I h;refine wpAny_Call_method_late hbase hfew hline rfl (thn (ho pins s σ H _ I h) fun v s1 ⟨x,H1,I1,r1,ty,q1⟩=>?_);obtain ⟨h1,h2⟩:=GK I1 r1 ty;refine ⟨T,id,pa,slot,hty,h1,h2,?_⟩;have hA:=ha cpos pins s1 σ H1 _ I1 q1;rw [hs] at hA ⊢;refine Calls.callWith_builtin (by show (false || (backTo cpos (starEach es X.env)).any (·.1))=false; rw [hplain] <;> rfl) (Calls.evalArgs_plain ?_);exact thn hA fun us s2 ⟨vs,H2,I2,r2,q2⟩=>hm pins s2 σ H2 x vs v us Q I2 r1 r2 q2
end
def MtM (X:Cx) (id:String) (r:V->List V->Hp->VK->Prop):Prop :=
 ∀ (pins:List (Addr × Obj)) (s:Shared) (σ:St) (H:Hp) (x:V) (xs:List V) (v:Value) (us:List Value) (Q:VK),Inv X pins σ H s->RelV x v->Vals xs us->r x xs H Q ->
  wpAny (model X.prog X.w) X.A (call (.builtin id) (v :: us)) (EP X pins σ Q) X.xe s
def Vals.one:∀ {x:V} {us:List Value},Vals [x] us->∃ u,us=[u]/\RelV x u
 | _,_,.cons r .nil=>⟨_,rfl,r⟩
def Vals.two {x y:V} {us:List Value} (h:Vals [x,y] us):∃ u v,us=[u,v]/\RelV x u/\RelV y v:=by
 cases h with
 | cons r t =>
  cases t with
  | cons q n =>
   cases n;exact ⟨_,_,rfl,r,q⟩
def Vals.eraseIdx:∀ {xs:List V} {us:List Value} (i:Nat),Vals xs us->Vals (xs.eraseIdx i) (us.eraseIdx i)
 | _,_,_,.nil=>.nil
 | _,_,0,.cons _ t=>t
 | _,_,i+1,.cons r t=>.cons r (Vals.eraseIdx i t)
def pz {α:Type}:∀ (l:List α) (i:Nat),(l.eraseIdx i).length<=l.length
 | [],_=>zav _
 | _ :: _,0=>Nat.le_succ _
 | _ :: r,i+1=>Nat.succ_le_succ (pz r i)
section
variable {X:Cx} {pins:List (Addr × Obj)} {σ:St} {H:Hp} {s:Shared} {l b:Addr} {xs ys zs:List V}
def Inv.lset {its its':List Value} {n:Nat} {f:Array Value->Array Value} {t':Nat} (I:Inv X pins σ H s) (hH:H l=some (.lst xs))
  (e:s.heap.get? l=some { cls:=.type "list",data:=.seq its.toArray n }) (hf:f its.toArray=its'.toArray) (hv:Vals ys its') (hz:ys.length<=sizeLine) :
  Inv X pins σ (upd H l (.lst ys)) { s with heap:=s.heap.update l (Obj.mapSeq f),toks:=t' }:=by
 have q:=PySem.IsL.update e f;rw [hf] at q;refine I.write (x:=l) (e:=l) (by rw [hH]; exact trivial) (.inl rfl) (fun b' u hb hu=>(Heap.get?_update_other s.heap (Obj.mapSeq f) (Ne.symm hb)).trans hu) ⟨_,q⟩ ?_;exact ⟨hz,its',_,hv,q⟩
def Inv.lnew {its:List Value} {t':Nat} (I:Inv X pins σ H s) (hv:Vals ys its) (hz:ys.length<=sizeLine) :
  Inv X pins σ (upd H s.heap.objs.size (.lst ys)) { s with heap:=s.heap.push { cls:=.type "list",data:=.seq its.toArray },toks:=t' } :=
 I.laid (fun _ _ q=>zaf _ q) (zav _) ⟨hz,its,0,hv,zan _ rfl⟩
def Inv.fresh (I:Inv X pins σ H s):H s.heap.objs.size=none:=I.hok.fresh (zav _)
def Inv.lstM (I:Inv X pins σ H s) (hH:H l=some (.lst xs)):xs.length<=sizeLine/\∃ (its:List Value) (n:Nat),Vals xs its/\xs.length=its.length/\s.heap.get? l=some { cls:=.type "list",data:=.seq its.toArray n }:=by
 obtain ⟨z,its,n,r,e⟩:=I.hok l _ hH;exact ⟨z,its,n,r,r.length,e⟩
end
section
variable {X:Cx}
def so:V->List V->Hp->VK->Prop:=fun x vs H Q=>∃ l xs y,x=.ref l/\vs=[y]/\H l=some (.lst xs)/\xs.length < sizeLine/\Q .non (upd H l (.lst (xs++[y])))
def pv:MtM X "list.append" so:=by
 intro pins s σ H x vs v us Q I rx rv h;obtain ⟨l,xs,y,rfl,rfl,hH,hz,q⟩:=h;cases rx;obtain ⟨u,rfl,ru⟩:=rv.one;obtain ⟨z,its,n,r,hl,e⟩:=I.lstM hH;refine call_meets F.slot_list_append ⟨_,e,rfl⟩ F.entry_list_append (F.args_list_append_2 _ _) (PySem.list_append l its.toArray n u (by rw [zai]; omega)) ⟨e,?_⟩;refine ⟨.non,_,I.lset (its':=its++[u]) hH e (by simp) (r.append (.cons ru .nil)) ?_,rfl,q⟩;rw [zae,List.length_singleton];omega
def uM:V->List V->Hp->VK->Prop:=fun x vs H Q=>∃ l xs i k y,x=.ref l/\vs=[.int i]/\H l=some (.lst xs)/\-(2 ^ 63)<=i/\i < 2 ^ 63/\seqIndex? i xs.length=some k/\xs[k]?=some y/\Q y (upd H l (.lst (xs.eraseIdx k)))
def wB:MtM X "list.pop" uM:=by
 intro pins s σ H x vs v us Q I rx rv h;obtain ⟨l,xs,i,k,y,rfl,rfl,hH,h1,h2,hk,hy,q⟩:=h;cases rx;obtain ⟨u,rfl,ru⟩:=rv.one;obtain ⟨t,rfl⟩:=ru;obtain ⟨z,its,n,r,hl,e⟩:=I.lstM hH;obtain ⟨w,hw,rw'⟩:=r.get hy;refine call_meets F.slot_list_pop ⟨_,e,rfl⟩ F.entry_list_pop (F.args_list_pop_2 _ _)
  (MeetsSeq.list_pop_at l its.toArray n i t k w (fitsIndex_both h1 h2) (by rw [zai,<- hl]; exact hk) (by rw [<- Array.getElem?_toList]; exact hw) (by rw [zai]; omega)) ⟨e,?_⟩
 refine ⟨y,_,I.lset (its':=its.eraseIdx k) hH e ?_ (r.eraseIdx k) ?_,rw',q⟩
 ·show its.toArray.eraseIdxIfInBounds k=(its.eraseIdx k).toArray;rw [List.eraseIdxIfInBounds_toArray]
 ·have:=pz xs k;omega
end
section
variable {prog:Program} {w:World} {A:Around} {E:Value->Shared->Prop} {s:Shared}
end
section
variable {X:Cx}
end
end L2
namespace Att
open PySem PySem.W PySem.Calls PyProof.Rows
def nC {P:Params} {h:Heap}:∀ (ns:List Int) (vs:List Value),WellAll P h vs (ns.map WData.int)->IntsAre vs ns:=by
 intro ns
 induction ns with
 | nil =>
  intro vs w;rw [za0] at w;cases w;exact .nil
 | cons n ns ih =>
  intro vs w;rw [zar] at w;cases w with
  | cons a b =>
   cases a;exact .cons _ _ (ih _ b)
def uH {l:OpenLaw} {n:Nat} (hn:l.most=some n) {P:Params} {h:Heap} {args:List WData} {vals:List Value}
  (hpre:l.row.toRowW.claim.pre args=true) (hwl:WellAll P h vals args) :
  ∃ a vs ns,vals=[Value.ref a]/\args=[WData.list (ns.map WData.int)]/\h.get? a=some { cls:=.type "list",data:=.seq vs.toArray }/\IntsAre vs ns/\ns.length<=n:=by
 have hsh:WShape.hasAll [] args [.list .int]=true:=(pre_splitW hpre).1;have hc:l.pre.holds [] { args:=args }=true:=(pre_splitW hpre).2;obtain ⟨d,r,rfl,h1,h2⟩:=hasAllW_cons hsh;obtain rfl:=hasAllW_nil h2;obtain ⟨xs,rfl,h3⟩:=hasW_list h1;obtain ⟨ns,rfl⟩:=items_int h3;have hlen:ns.length<=n:=by
  unfold OpenLaw.pre at hc;have h4:(WTm.not (.lt (.lit (.int (n:Int))) (.len (.arg 0)))).holds [] { args:=[.list (ns.map .int)] }=true:=by
   have h4:=(holds_andW hc).1;rw [hn] at h4;exact h4
  have h5:=condW_of h4 (w_not (w_lt w_lit (w_len_list (w_arg rfl))));rw [zad] at h5;refine Nat.le_of_not_lt fun q=>?_;have q':(n:Int) < ((ns.length:Nat):Int):=by omega
  first
   | (rw [zaB q'] at h5; exact absurd h5 (by decide))
   | (simp at h5; omega)
 cases hwl with
 | cons w1 w2 =>
  cases w2;cases w1 with
  | list ho hall=>exact ⟨_,_,ns,rfl,rfl,ho,nC ns _ hall,hlen⟩
def uO (l:OpenLaw) (args:List WData):l.row.toRowW.claim.post args (.bool true) args=true :=
 postW_of (r:=l.row.toRowW) (X:=(true == true))
  (show WShape.has [] (.bool true) .bool=true by first | rfl | decide | simp [WShape.has,WShape.arms,WShape.armsAll])
  (show (WTm.eq .res (.lit (.bool true))).value [] { args:=args,res:=some (.bool true),after:=args }=some (.bool (true == true)) from w_eq_bool (w_res rfl) w_lit) rfl
def attach_call {l:OpenLaw} {n:Nat} {q:Program} {loose:List Str} {XP:(Str->Option Value)->Heap->Prop} {YP:World->Heap->Prop} {d:DefRec}
  (hn:l.most=some n) (hdf:d.params.defaults=[])
  (call:∀ (w:World) (s₀ s₁:Shared) (mg mb:Str->Option Value) (fa:Addr) (o:Obj) (pm cd doc:Value) (a:Addr) (vs:List Value) (ns:List Int),
   Ground q loose [] XP w s₀ mg mb s₁.heap->YP w s₁.heap ->
   s₁.heap.get? fa=some o->o.data=.func (docDef d.name d.params d.body d.scope pm cd doc)->s₁.heap.CodeRec cd d.name->mg d.name=some (.ref fa) ->
   s₁.heap.get? a=some { cls:=.type "list",data:=.seq vs.toArray }->IntsAre vs ns->ns.length<=n->s₁.gens=#[] ->
   codeAny (model l.prog w) callerA (.call (.ref fa) ⟨[.ref a],[]⟩) (fun r s'=>r=.ok (.ret (.bool true))/\OldK s₁.heap s'.heap/\s'.os=s₁.os/\AllBare s'.gens) s₁) :
  WalkO q loose XP YP l.row.toRowW d [] (fun f vs=>PySem.call f vs):=by
 intro w s₀ s₁ mg mb G Y fa o pm cd doc dV kV ho hd hcd hD hmg hg args vals as hpre hlay hrd hwl hlo;obtain rfl:dV=.none:=Dflts.none hD hdf;obtain rfl:kV=.none:=Dflts.noKw hD;obtain ⟨a,vs,ns,rfl,rfl,hobj,hints,hlen⟩:=uH hn hpre hwl;refine enter_call (codeAny_mono (call w s₀ s₁ mg mb fa o pm cd doc a vs ns G Y ho (fd_plain hd) hcd hmg hobj hints hlen hg) fun r s' hq=>?_);obtain ⟨rfl,h2,h3,h4⟩:=hq;exact ⟨.inl ⟨.bool true,.bool true,[],rfl,fun _=>rfl,.bool true,uO l _,fun _=>⟨List.Pairwise.nil,fun _ hm=>(nomatch hm)⟩⟩,h2,h3,h4⟩
section
variable {prog:Program} {w:World} {A:Around} {E:Value->Shared->Prop} {s:Shared} {K:Frag}
end
end Att
namespace L2
open PySem PySem.Spec PyProof.Rows
def ph:∀ {vs:List Value} {ns:List Int},IntsAre vs ns->Vals (ns.map V.int) vs
 | _,_,.nil=>.nil
 | _,_,.cons n t h=>.cons ⟨t,rfl⟩ (ph h)
def xA (H:Hp):Prop:=∀ b,H b=none\/∃ o xs,H b=some (.frz o (.lst xs))
def wG {P:Program} {w:World} {K:PySem.W.Frag} {mg mb:Str->Option Value} {CX:CXT} {k:Nat} {fa a:Addr} {fd:FuncData} {x:Str} {sp:Sp} {s₁:Shared} {vs:List Value} {ns:List Int}
  (KX:K.In s₁.heap) (hns:s₁.heap.Ns mainGlobals mg) (hb:s₁.heap.Ns builtinsNs mb) (hbb:∀ x:Str,x≠"__name__"->mb x=bootBuiltins x) (hlim:s₁.heap.NoLimit) (hmods:∃ mm,s₁.heap.Ns sysModules mm) (hg:s₁.gens=#[])
  (ha:s₁.heap.get? a=some { cls:=.type "list",data:=.seq vs.toArray }) (hi:IntsAre vs ns) (hl:ns.length<=sizeLine) (hr:Room k callerA)
  (F:∀ base:Heap,K.In base->base.Ns mainGlobals mg->FnOk P w K mg base CX k fa fd [x] sp) (hbind:∀ (s:Shared) (u:Value),BindsTo s fd ⟨[u],[]⟩ [(x,u)])
  (hsp:∀ H:Hp,xA H->SqL K H a (ns.map V.int)->sp [.ref a] H (fun v _=>v=.bl true) fun _ _ _=>False)
  (hCX:∀ H e s',CX [] H s₁ (fun _ _ _=>False) e s'->False) :
  codeAny (model P w) callerA (.call (.ref fa) ⟨[.ref a],[]⟩) (fun r s'=>r=.ok (.ret (.bool true))/\OldK s₁.heap s'.heap/\s'.os=s₁.os/\AllBare s'.gens) s₁:=by
 have rv:=ph hi;have lenV:=hi.length;have core:∀ H:Hp,xA H->SqL K H a (ns.map V.int)->HOk P w H s₁.heap->(∀ b,H b≠none->b=a)->(H a≠none->K.lookup a=none) ->
   codeAny (model P w) callerA (.call (.ref fa) ⟨[.ref a],[]⟩) (fun r s'=>r=.ok (.ret (.bool true))/\OldK s₁.heap s'.heap/\s'.os=s₁.os/\AllBare s'.gens) s₁:=by
  intro H hO hS hok hA hK;have base_of:∀ {b:Addr} {o:Obj},s₁.heap.get? b=some o->H b=none->(j5 s₁.heap H).get? b=some o:=fun e n=>wV e n;have noA:∀ {b:Addr} {o:Obj} {es:Array DictEntry} {ep:Nat},s₁.heap.get? b=some o->o.data=.dict es ep->H b=none:=fun {b o es ep} e d=>by
   cases q:H b with
   | none=>rfl
   | some u =>
    have e':b=a:=hA b (by rw [q]; simp);subst e';rw [ha] at e; cases e;have d':Data.seq vs.toArray _=Data.dict es ep:=d;cases d'
  have nsK:∀ {b:Addr} {m:Str->Option Value},s₁.heap.Ns b m->(j5 s₁.heap H).Ns b m:=fun {b m} ⟨o,es,ep,e,d,r⟩=>⟨o,es,ep,base_of e (noA e d),d,r⟩;have hKb:K.In (j5 s₁.heap H):=fun b o e=>base_of (KX b o e) (by
   cases q:H b with
   | none=>rfl
   | some u =>
    have e':b=a:=hA b (by rw [q]; simp);subst e';rw [hK (by rw [q]; simp)] at e; cases e)
  have hM:Mod K mg (j5 s₁.heap H):=⟨hKb,nsK hns,⟨mb,nsK hb,hbb⟩,let ⟨mc,h1,h2⟩:=hlim; ⟨mc,nsK h1,h2⟩,let ⟨mm,h1⟩:=hmods; ⟨mm,nsK h1⟩⟩;have e0:Env0 P w K mg (j5 s₁.heap H) callerA [] s₁ H:=⟨rfl,hM,fun b o e=>DM e,Nat.le_of_eq (vh _ _),trivial,fun b hb=>absurd (show b∈([]:List Addr) from hb) (by simp),hok,.of_eq hg⟩;refine codeAny_mono ((F _ hKb (nsK hns)).run callerA [] s₁ H ⟨[.ref a],[]⟩ [.ref a] [.ref a] _ _ hr e0 (hbind s₁ (.ref a)) (.cons rfl .nil) (hsp H hO hS)) fun r s' h=>?_;cases r with
  | error e=>exact (hCX H e s' h).elim
  | ok fl =>
   cases fl with
   | next=>exact False.elim h
   | brk=>exact False.elim h
   | cont=>exact False.elim h
   | ret u =>
    obtain ⟨v,H',os,bare,un,hok',r',q⟩:=h;have q':v=.bl true:=q;subst q';obtain rfl:u=Value.bool true:=r';refine ⟨rfl,OldK.of_keep fun b o e=>?_,os,bare⟩;cases q:H b with
    | none=>exact un.keep b o e q (by intro z; exact absurd (show b∈([]:List Addr) from z) (by simp)) (by simp)
    | some u =>
     rcases hO b with z | ⟨ob,xs,z⟩
     ·rw [q] at z; cases z
     ·have z2:=un.frzs b ob _ z;obtain ⟨e1,_⟩:=hok b _ z;obtain ⟨e2,_⟩:=hok' b _ z2;rw [e] at e1; cases e1;exact e2
 cases hk:K.lookup a with
 | some o =>
  have e:=KX a o hk;rw [ha] at e;cases e;refine core (fun _=>none) (fun _=>.inl rfl) (.inr ⟨_,vs.toArray,_,hk,rfl,rfl,rfl,by rw [zai,lenV]; exact hl,by simpa using rv⟩) (fun b u z=>by have z':(none:Option HO)=some u:=z; cases z') (fun b z=>absurd rfl z) fun z=>absurd rfl z
 | none =>
  refine core (fun b=>if b=a then some (.frz { cls:=.type "list",data:=.seq vs.toArray } (.lst (ns.map V.int))) else none) (fun b=>?_) (.inl (.inr ⟨{ cls:=.type "list",data:=.seq vs.toArray },if_pos rfl⟩)) (fun b u z=>?_) (fun b z=>?_) fun _=>hk
  ·by_cases hb:b=a
   ·exact .inr ⟨_,_,if_pos hb⟩
   ·exact .inl (if_neg hb)
  ·by_cases hb:b=a
   ·have z':=(if_pos hb).symm.trans z;cases z';subst hb;exact ⟨ha,by rw [zad]; exact hl,vs,_,rv,ha⟩
   ·have z':=(if_neg hb).symm.trans z;cases z'
  ·by_cases hb:b=a
   ·exact hb
   ·exact absurd (if_neg hb) z
def walk_of {l:PySem.W.OpenLaw} {n k:Nat} {q:Program} {loose:List Str} {XP:(Str->Option Value)->Heap->Prop} {YP:World->Heap->Prop} {d:DefRec} {K:Params->PySem.W.Frag} {CX:World->CXT} {sp:World->Sp} {x:Str}
  (hn:l.most=some n) (hn2:n<=sizeLine) (hdf:d.params.defaults=[]) (hr:Room k callerA)
  (hq:importsNone q=true) (hY:∀ (w:World) (h:Heap),YP w h->(K w.params).In h)
  (F:∀ (w:World) (mg:Str->Option Value) (fa:Addr) (h:Heap),(K w.params).In h->h.Ns mainGlobals mg->mg d.name=some (.ref fa) ->
   ∃ fd:FuncData,(∀ (s:Shared) (u:Value),BindsTo s fd ⟨[u],[]⟩ [(x,u)]) /\
    ∀ base:Heap,(K w.params).In base->base.Ns mainGlobals mg->FnOk l.prog w (K w.params) mg base (CX w) k fa fd [x] (sp w))
  (hsp:∀ (w:World) (H:Hp) (a:Addr) (ns:List Int),ns.length<=n->xA H->SqL (K w.params) H a (ns.map V.int)->sp w [.ref a] H (fun v _=>v=.bl true) fun _ _ _=>False)
  (hCX:∀ (w:World) (H:Hp) (s:Shared) (e:Value) (s':Shared),CX w [] H s (fun _ _ _=>False) e s'->False) :
  PySem.W.WalkO q loose XP YP l.row.toRowW d [] (fun f vs=>PySem.call f vs):=by
 refine Att.attach_call hn hdf fun w s₀ s₁ mg mb fa o pm cd doc a vs ns G Y ho hd hcd hmg hobj hints hlen hg=>?_;have KX:=hY w _ Y;obtain ⟨fd,hb,hF⟩:=F w mg fa _ KX G.T.g hmg;exact wG KX G.T.g G.T.b G.T.builtins G.T.nolimit (let ⟨mm,hm,_⟩:=(G.T.seer hq).mods; ⟨mm,hm⟩) hg hobj hints (zau hlen hn2) hr hF hb (fun H hO hS=>hsp w H a ns hlen hO hS) fun H e s'=>hCX w H s₁ e s'
def eh (s:Stmt):Arguments:=match s with
 | .FunctionDef _ a _ _ _ _ _ _ _ _=>a
 | _=>{ posonlyargs:=[],args:=[],vararg:=none,kwonlyargs:=[],kw_defaults:=[],kwarg:=none,defaults:=[] }
def cW (s:Stmt):List Stmt:=match s with
 | .FunctionDef _ _ b _ _ _ _ _ _ _=>b
 | _=>[]
def aj (s:Stmt):Scope:=match s with
 | .FunctionDef _ _ _ _ _ _ sc _ _ _=>sc
 | _=>{ kind:=.function,names:=[],isGenerator:=false,isCoroutine:=false }
abbrev CX0:CXT:=fun _ _ _ _ _ _=>False
abbrev E0:XK:=fun _ _ _=>False
def Jp {X:Cx}:rB CX0 X E0:=fun _ _ _ _ _ _ _ h=>h.elim
structure Fun (K:PySem.W.Frag) (x qual:Str) (st:Stmt) (f:Addr) (fd:FuncData):Prop where
 ex:∃ (oc:Value) (od:Option Addr) (kV doc pm:Value) (an:Option Addr) (cdv ct:Value) (osl:Array (Option Value)),
  fd=PySem.W.fnOf x qual (eh st) (cW st) (aj st) .none kV doc pm an cdv ct/\K.lookup f=some ⟨oc,od,.func fd,osl⟩/\PySem.W.codeIn K cdv qual=true
 kp:PySem.W.keepIn K (.ref f)=true
section
variable {P:Program} {w:World} {K:PySem.W.Frag} {mg:Str->Option Value} {base:Heap}
def Fun.ok {x qual:Str} {st:Stmt} {f:Addr} {fd:FuncData} {N ps:List Str} {k:Nat} {sp:Sp} (F:Fun K x qual st f fd) (S:FnScope N ps (aj st)) (len:∀ vs H Q E,sp vs H Q E->vs.length=ps.length)
  (hbody:∀ (cdv:Value) (A:Around) (outer:List Env) (s:Shared) (H:Hp) (vs:List V) (Q:VK) (E:XK),Room k (A.deeper (envOfC qual (aj st) s.heap.objs.size f cdv))->sp vs H Q E ->
   ∃ t,PSs (mM CX0 P w K mg base N qual (aj st) f cdv A outer s H E).nox (cW st) t/\t { nx:=fun _ H'=>Q .non H',rt:=Q } (dW N vs) H):FnOk P w K mg base CX0 (k+1) f fd ps sp:=by
 obtain ⟨oc,od,kV,doc,pm,an,cdv,ct,osl,rfl,lk,hcd⟩:=F.ex;refine JF lk hcd S len fun A outer s H vs Q E hr hsp=>?_;obtain ⟨t,h,q⟩:=hbody cdv A outer s H vs Q E hr hsp;exact ⟨t,h.nox,q⟩
def Fun.binds {x qual:Str} {st:Stmt} {f:Addr} {fd:FuncData} {ps:List Str} (F:Fun K x qual st f fd)
  (h:∀ (kV doc pm:Value) (an:Option Addr) (cdv ct:Value) (us:List Value),us.length=ps.length->bindArgs (PySem.W.fnOf x qual (eh st) (cW st) (aj st) .none kV doc pm an cdv ct) ⟨us,[]⟩=pure (ps.zip us)):Binds K fd ps []:=by
 obtain ⟨oc,od,kV,doc,pm,an,cdv,ct,osl,rfl,lk,hcd⟩:=F.ex;exact .all (h kV doc pm an cdv ct)
def rg {x qual:Str} {st:Stmt} {f:Addr} {oc:Value} {od an:Option Addr} {osl:Array (Option Value)} {kV doc pm cdv ct:Value} (l:K.lookup f=some ⟨oc,od,.func (PySem.W.fnOf x qual (eh st) (cW st) (aj st) .none kV doc pm an cdv ct),osl⟩)
  (c:PySem.W.codeIn K cdv qual=true) (k:PySem.W.keepIn K (.ref f)=true):Fun K x qual st f (PySem.W.fnOf x qual (eh st) (cW st) (aj st) .none kV doc pm an cdv ct):=⟨⟨oc,od,kV,doc,pm,an,cdv,ct,osl,rfl,l,c⟩,k⟩
end
def i3 {A:Around} {k:Nat} (hr:Room k A):A.units+1 < cLine:=Nat.lt_of_le_of_lt (Nat.add_le_add_left (by decide:1<=64) _) hr.units
section
variable {X:Cx}
end
def IY (H H':Hp):Prop:=∀ b o,H b=some o->H' b=some o
section
variable {κ:Type} [DecidableEq κ]
def e8 (kvs:List (κ × V)) (k:κ):Option V:=(kvs.find? fun kv=>decide (kv.1=k)).map (·.2)
def dk (kvs:List (κ × V)) (k:κ) (v:V):List (κ × V) :=
 if (kvs.any fun kv=>decide (kv.1=k))=true then kvs.map (fun kv=>if kv.1=k then (kv.1,v) else kv) else kvs++[(k,v)]
def jN {p:κ × V} {r:List (κ × V)} {k:κ} (e:p.1=k):e8 (p :: r) k=some p.2:=by simp [e8,List.find?_cons,e]
def jO {p:κ × V} {r:List (κ × V)} {k:κ} (e:¬ p.1=k):e8 (p :: r) k=e8 r k:=by simp [e8,List.find?_cons,e]
def qk (k:κ):∀ kvs:List (κ × V),(kvs.any fun kv=>decide (kv.1=k))=(e8 kvs k).isSome
 | []=>rfl
 | p :: r=>by
  rw [List.any_cons];by_cases e:p.1=k
  ·simp only [jN e,zaB e,Bool.true_or,Option.isSome_some]
  ·rw [jO e,zaA e,Bool.false_or]; exact qk k r
def jc (kvs:List (κ × V)) (k:κ) (v:V):(dk kvs k v).length<=kvs.length+1:=by
 unfold dk;split
 ·rw [zad]; omega
 ·rw [zae,zac,List.length_nil]; omega
def RelO.isSome_eq {o:Option V} {u:Option Value} (r:RelO o u):o.isSome=u.isSome:=by
 cases o with
 | none=>cases u with
  | none=>rfl
  | some _=>exact (show False from r).elim
 | some _=>cases u with
  | none=>exact (show False from r).elim
  | some _=>rfl
def KV.val {kvs:List (κ × V)} {vs:List (κ × Value)} (r:KV kvs vs) (k:κ):RelO (e8 kvs k) (valueAt vs k):=by
 unfold KV at r
 induction r with
 | nil=>exact True.intro
 | @cons p q ps qs h t ih =>
  obtain ⟨h1,h2⟩:=h;by_cases e:p.1=k
  ·have e':q.1=k:=h1.symm.trans e;have b:valueAt (q :: qs) k=some q.2:=by simp [valueAt,List.find?_cons,e']
   rw [jN e,b]; exact h2
  ·have e':¬ q.1=k:=fun z=>e (h1.trans z);have b:valueAt (q :: qs) k=valueAt qs k:=by simp [valueAt,List.find?_cons,e']
   rw [jO e,b]; exact ih
def KV.any {kvs:List (κ × V)} {vs:List (κ × Value)} (r:KV kvs vs) (k:κ):(kvs.any fun kv=>decide (kv.1=k))=vs.any fun kv=>decide (kv.1=k):=by
 unfold KV at r
 induction r with
 | nil=>rfl
 | cons h t ih=>rw [List.any_cons,List.any_cons,ih,h.1]
def KV.repl {kvs:List (κ × V)} {vs:List (κ × Value)} (r:KV kvs vs) (k:κ) {y:V} {u:Value} (ry:RelV y u) :
  KV (kvs.map fun kv=>if kv.1=k then (kv.1,y) else kv) (vs.map fun kv=>if kv.1=k then (kv.1,u) else kv):=by
 unfold KV at r ⊢
 induction r with
 | nil=>exact .nil
 | @cons p q ps qs h t ih =>
  rw [zar,zar];refine .cons ?_ ih;obtain ⟨h1,h2⟩:=h;by_cases e:p.1=k
  ·rw [if_pos e,if_pos (h1.symm.trans e)]; exact ⟨h1,ry⟩
  ·rw [if_neg e,if_neg (fun z=>e (h1.trans z))]; exact ⟨h1,h2⟩
def KV.put {kvs:List (κ × V)} {vs:List (κ × Value)} (r:KV kvs vs) (k:κ) {y:V} {u:Value} (ry:RelV y u):KV (dk kvs k y) (stored vs k u):=by
 unfold dk stored;rw [r.any k];by_cases e:(vs.any fun kv=>decide (kv.1=k))=true
 ·rw [if_pos e,if_pos e]; exact r.repl k ry
 ·rw [if_neg e,if_neg e]; exact Paired.snoc r ⟨rfl,ry⟩
def KV.length {kvs:List (κ × V)} {vs:List (κ × Value)} (r:KV kvs vs):kvs.length=vs.length:=Paired.length r
end
def qc {P:Program} {w:World} {k:Key} {u:Value} (r:RelV (kV k) u):(bO P w).is k u=true:=by
 cases k with
 | inl i=>obtain ⟨t,e⟩:=(show ∃ t,u=Value.int i t from r); subst e; exact rV P w i t
 | inr x=>obtain ⟨t,e⟩:=(show ∃ t,u=Value.str x t from r); subst e; exact rU P w x t
def Hy {a b:Key} (e:kV a=kV b):a=b:=by
 cases a with
 | inl i=>cases b with
  | inl j=>have e':V.int i=V.int j:=e; injection e' with e'; rw [e']
  | inr y=>exact nomatch (show V.int i=V.str y from e)
 | inr x=>cases b with
  | inl j=>exact nomatch (show V.str x=V.int j from e)
  | inr y=>have e':V.str x=V.str y:=e; injection e' with e'; rw [e']
def pB {P:Program} {w:World}:∀ {ks:List Key} {us:List Value},Vals (ks.map kV) us->ItemsAre (bO P w) ks us
 | [],_,r=>by rw [za0] at r; cases r; exact .nil
 | k :: ks,_,r=>by
  rw [zar] at r;cases r with
  | cons h t=>exact .cons (qc h) (pB t)
abbrev KT (H:Hp):List (List Key × V)->List (List Key × Addr × Value)->Prop:=Paired fun p q=>p.1=q.1/\H q.2.1=some (.tup (p.1.map kV))/\RelV p.2 q.2.2
def KT.val {H:Hp} {kvs:List (List Key × V)} {xs:List (List Key × Addr × Value)} (r:KT H kvs xs) (k:List Key):RelO (e8 kvs k) ((atKey xs k).map (·.2)):=by
 induction r with
 | nil=>exact True.intro
 | @cons p q ps qs h t ih =>
  obtain ⟨h1,_,h2⟩:=h;by_cases e:p.1=k
  ·have e':q.1=k:=h1.symm.trans e;have b:atKey (q :: qs) k=some q.2:=by simp [atKey,List.find?_cons,e']
   rw [jN e,b]; exact h2
  ·have e':¬ q.1=k:=fun z=>e (h1.trans z);have b:atKey (q :: qs) k=atKey qs k:=by simp [atKey,List.find?_cons,e']
   rw [jO e,b]; exact ih
def KT.repl {H:Hp} {kvs:List (List Key × V)} {xs:List (List Key × Addr × Value)} (r:KT H kvs xs) (k:List Key) {y:V} {u:Value} (ry:RelV y u) :
  KT H (kvs.map fun kv=>if kv.1=k then (kv.1,y) else kv) (xs.map (putAt k u)):=by
 induction r with
 | nil=>exact .nil
 | @cons p q ps qs h t ih =>
  rw [zar,zar];refine .cons ?_ ih;obtain ⟨h1,h2,h3⟩:=h;unfold putAt;by_cases e:p.1=k
  ·rw [if_pos e,if_pos (h1.symm.trans e)]; exact ⟨h1,h2,ry⟩
  ·rw [if_neg e,if_neg (fun z=>e (h1.trans z))]; exact ⟨h1,h2,h3⟩
def KT.put {H:Hp} {kvs:List (List Key × V)} {xs:List (List Key × Addr × Value)} (r:KT H kvs xs) (k:List Key) {b:Addr} {y:V} {u:Value} (hb:H b=some (.tup (k.map kV))) (ry:RelV y u) :
  KT H (dk kvs k y) (storedH xs k b u):=by
 have e:(kvs.any fun kv=>decide (kv.1=k))=(atKey xs k).isSome:=by
  rw [qk,(r.val k).isSome_eq,Option.isSome_map]
 unfold dk storedH;rw [e];by_cases q:(atKey xs k).isSome=true
 ·rw [if_pos q,if_pos q]; exact r.repl k ry
 ·rw [if_neg q,if_neg q]; exact Paired.snoc r ⟨rfl,hb,ry⟩
def KT.keeps {H H':Hp} {kvs:List (List Key × V)} {xs:List (List Key × Addr × Value)} (r:KT H kvs xs) (ht:∀ b ys,H b=some (.tup ys)->H' b=some (.tup ys)):KT H' kvs xs :=
 Paired.mapP r fun _ _ z=>⟨z.1,ht _ _ z.2.1,z.2.2⟩
section
variable {P:Program} {w:World} {H:Hp} {h:Heap} {a:Addr}
def CZ {u:HO} (ok:HOk P w H h) (e:Rd H a u):ObjOk P w H h a u:=e.ok ok
def uh {kvs:List (Key × V)} (ok:HOk P w H h) (e:Rd H a (.dK kvs)):kvs.length<=sizeLine/\(a == sysModules)=false/\∃ vs,KV kvs vs/\h.DictOf (bO P w) a vs :=
 show ObjOk P w H h a (.dK kvs) from CZ ok e
def nP {kvs:List (Key × V)} (ok:HOk P w H h) (e:H a=some (.dK kvs)):kvs.length<=sizeLine/\(a == sysModules)=false/\∃ vs,KV kvs vs/\h.DictOf (bO P w) a vs:=uh ok (.inl e)
def qQ {ks:List Key} (ok:HOk P w H h) (e:H a=some (.tup (ks.map kV))):(tupleKind (bO P w)).is h ks a:=by
 obtain ⟨_,its,r,o,h1,h2,n,h3⟩:=(show ObjOk P w H h a (.tup (ks.map kV)) from ok a _ e);exact ⟨o,its.toArray,n,h1,h2,h3.1,by simpa using pB r⟩
def uf {kvs:List (List Key × V)} (ok:HOk P w H h) (e:Rd H a (.dT kvs)):kvs.length<=sizeLine/\(a == sysModules)=false /\
  ∃ xs,KT H kvs xs/\h.DictOfH (tupleKind (bO P w)) a xs:=by
 obtain ⟨z,y,xs,r,o,es,ep,h1,h2,h3,h4,h5⟩:=(show ObjOk P w H h a (.dT kvs) from CZ ok e);refine ⟨z,y,xs,r,o,es,ep,h1,h2,h3,h4,fun x hx=>?_,h5⟩;have all:∀ {l:List (List Key × V)} {m:List (List Key × Addr × Value)},KT H l m->∀ x∈m,(tupleKind (bO P w)).is h x.1 x.2.1:=by
  intro l m q
  induction q with
  | nil=>intro x hx; exact nomatch hx
  | @cons p q ps qs hq t ih =>
   intro x hx;rcases zay.mp hx with e | hx
   ·subst e;exact qQ ok (by rw [<- hq.1]; exact hq.2.1)
   ·exact ih x hx
 exact all r x hx
def ug {kvs:List (List Key × V)} (ok:HOk P w H h) (e:H a=some (.dT kvs)):kvs.length<=sizeLine/\(a == sysModules)=false /\
  ∃ xs,KT H kvs xs/\h.DictOfH (tupleKind (bO P w)) a xs:=uf ok (.inl e)
end
def DGet (H:Hp) (a:Addr) (y:V) (r:Option V):Prop :=
 (∃ kvs k,Rd H a (.dK kvs)/\y=kV k/\r=e8 kvs k)\/∃ kvs k b,Rd H a (.dT kvs)/\y=.ref b/\H b=some (.tup (k.map kV))/\r=e8 kvs k
def DPut (H:Hp) (a:Addr) (y v:V) (H':Hp):Prop :=
 (∃ kvs k,H a=some (.dK kvs)/\y=kV k/\kvs.length < sizeLine/\H'=upd H a (.dK (dk kvs k v))) \/
 ∃ kvs k b,H a=some (.dT kvs)/\y=.ref b/\H b=some (.tup (k.map kV))/\kvs.length < sizeLine/\H'=upd H a (.dT (dk kvs k v))
def DGet.k {H:Hp} {a:Addr} {kvs:List (Key × V)} {k:Key} (e:H a=some (.dK kvs)):DGet H a (kV k) (e8 kvs k):=.inl ⟨kvs,k,.inl e,rfl,rfl⟩
def DPut.k {H:Hp} {a:Addr} {kvs:List (Key × V)} {k:Key} {v:V} (e:H a=some (.dK kvs)) (hl:kvs.length < sizeLine):DPut H a (kV k) v (upd H a (.dK (dk kvs k v))):=.inl ⟨kvs,k,e,rfl,hl,rfl⟩
section
variable {X:Cx} {pins:List (Addr × Obj)} {σ:St} {H:Hp} {s:Shared} {a:Addr} {y v:V} {u r:Value} {o:Option V} {A:Around} {E:Value->Shared->Prop}
def Inv.big (I:Inv X pins σ H s):sysModules < s.heap.objs.size:=by
 have h:mainGlobals < s.heap.objs.size:=(I.mod.glob.keeps I.bk).lt;exact Nat.lt_trans (by decide) h
def vI {Q:Value->Shared->Prop} (hu:A.units+1 < cLine) (I:Inv X pins σ H s) (g:DGet H a y (some v)) (ry:RelV y u) (h:∀ w' s',Inv X pins σ H s'->RelV v w'->Q w' s') :
  wpAny (model X.prog X.w) A (getItem (.ref a) u) Q E s:=by
 rcases g with ⟨kvs,k,e,ey,l⟩ | ⟨kvs,k,b,e,ey,eb,l⟩
 ·subst ey;obtain ⟨z,hd,vs,rel,dd⟩:=uh I.hok e;obtain ⟨w',hw,rw'⟩:=RelO.some_of (v:=v) (o:=valueAt vs k) (by rw [l]; exact rel.val k);exact wpAny_getItem_of (qc ry) dd.mapOf hw (h w' _ (I.tok _) rw')
 ·subst ey;cases (show u=Value.ref b from ry);obtain ⟨z,hd,xs,rel,dd⟩:=uf I.hok e;obtain ⟨w',hw,rw'⟩:=RelO.some_of (v:=v) (o:=(atKey xs k).map (·.2)) (by rw [l]; exact rel.val k);obtain ⟨p,hp,hp2⟩:=zab.mp hw;refine wpAny_getItem_heap (tupleKind_room_in1 hu) (qQ I.hok eb) dd hp ?_;rw [hp2];exact h w' _ (I.tok _) rw'
def oX {h':Heap} {t':Nat} {ob:HO} (I:Inv X pins σ H s) (mu:Mut (H a)) (hs:Heap.SameBut a s.heap h') (he:∃ q,h'.get? a=some q) (new:ObjOk X.prog X.w (upd H a ob) h' a ob) :
  Inv X pins σ (upd H a ob) { s with heap:=h',toks:=t' } :=
 I.write (x:=a) (e:=a) mu (.inl rfl) (fun b q hb z=>(hs.2 b hb).trans z) he new
def vG {P:Program} {w:World} {H':Hp} {h':Heap} {kvs:List (Key × V)} {vs:List (Key × Value)} (z:kvs.length<=sizeLine) (hd:(a == sysModules)=false) (rel:KV kvs vs) (dd:h'.DictOf (bO P w) a vs) :
  ObjOk P w H' h' a (.dK kvs):=⟨z,hd,vs,rel,dd⟩
def vH {H':Hp} {Q:Unit->Shared->Prop} (hu:A.units+1 < cLine) (I:Inv X pins σ H s) (g:DPut H a y v H') (ry:RelV y u) (rv:RelV v r) (h:∀ s',Inv X pins σ H' s'->Q () s') :
  wpAny (model X.prog X.w) A (setItem (.ref a) u r) Q E s:=by
 rcases g with ⟨kvs,k,e,ey,l,eH⟩ | ⟨kvs,k,b,e,ey,eb,l,eH⟩
 ·subst ey eH;obtain ⟨z,hd,vs,rel,dd⟩:=nP I.hok e;have hz:vs.length<=sizeLine:=by rw [<- rel.length]; exact z
  have hl:(dk kvs k v).length<=sizeLine:=by have:=jc kvs k v; omega
  refine wpAny_setItem_pairs (hsz:=hz) (qc ry) dd fun h' dd' hs=>h _ ?_;have he:∃ q,h'.get? a=some q:=let ⟨q,_,_,hq,_⟩:=dd'; ⟨q,hq⟩;exact oX I (by rw [e]; exact True.intro) hs he (vG hl hd (rel.put k rv) dd')
 ·subst ey eH;cases (show u=Value.ref b from ry);obtain ⟨z,hd,xs,rel,dd⟩:=ug I.hok e;have hz:xs.length<=sizeLine:=by rw [<- Paired.length rel]; exact z
  have hl:(dk kvs k v).length<=sizeLine:=by have:=jc kvs k v; omega
  refine wpAny_setItem_heap (hsz:=hz) (tupleKind_room_in1 hu) (qQ I.hok eb) dd fun h' dd' hs=>h _ ?_;obtain ⟨q,es,ep,hq,h2,h3,h4,_,h5⟩:=dd';refine oX I (by rw [e]; exact True.intro) hs ⟨q,hq⟩ ⟨hl,hd,_,(rel.put k eb rv).keeps fun c ys ec=>?_,q,es,ep,hq,h2,h3,h4,h5⟩;rw [aO (Jw ec e (fun z=>nomatch z))];exact ec
end
section
variable {X:Cx} {pins:List (Addr × Obj)} {σ:St} {H:Hp} {s:Shared} {a:Addr} {kvs:List (Key × V)} {k:Key} {u:Value} {A:Around} {E:Value->Shared->Prop}
end
def uq (i:Expr):Prop:=∀ ov iv,subscripted i false ov iv=operate [ov,iv] (getItem ov iv)
def Dr {prog:Program} {w:World} {A:Around} {E:Value->Shared->Prop} {s:Shared} {env:Env} {value slice:Expr} {pos:Pos} {T id:String} {Q:Value->Shared->Prop}
  (hl:typeLookup (.type T) "__getitem__"=pure (some (.builtin id))) (hs:uq slice)
  (h:wpAny (model prog w) A (eval value env) (fun o s₁=>wpAny (model prog w) A (eval slice env) (fun i s₂=>s₂.TypeIs o T/\wpAny (model prog w) A (getItem o i) Q E s₂) E s₁) E s) :
  wpAny (model prog w) A (eval (.Subscript value slice pos) env) Q E s:=by
 refine Subscript_ (wpAny_mono h (fun o s₁ h₁=>wpAny_mono h₁ (fun i s₂ h₂=>?_) fun _ _ x=>x) fun _ _ x=>x);obtain ⟨hT,h₂⟩:=h₂;unfold subscriptTail;refine zam ?_;rw [getitemInPython_of_ne hT.not_modules];refine zam (wpAny_specialOf hT hl ?_);have fin:wpAny (model prog w) A (subscripted slice false o i) (fun r s₃=>wpAny (model prog w) A (letTemporaryGo value o r >>= fun _=>pure r) Q E s₃) E s₂:=by
  rw [hs o i];exact wpAny_operating (wpAny_mono h₂ (fun r s₃ h₃=>zam (wpAny_letTemporaryGo (zaT h₃))) fun _ _ x=>x)
 first
  | exact zaT (zam fin)
  | exact zam (zaT (zam fin))
  | exact zam fin
def r8 {X:Cx} {pins:List (Addr × Obj)} {σ:St} {H:Hp} {s:Shared} {a:Addr} {y:V} {o:Option V} (I:Inv X pins σ H s) (g:DGet H a y o):s.TypeIs (.ref a) "dict":=by
 rcases g with ⟨kvs,k,e,_,_⟩ | ⟨kvs,k,b,e,_,_,_⟩
 ·obtain ⟨_,_,vs,_,dd⟩:=uh I.hok e;exact dd.typeIs
 ·obtain ⟨_,_,xs,_,dd⟩:=uf I.hok e;exact dd.typeIs
def CT (td ty:TE):TE:=fun σ H Q=>td σ H fun x H1=>ty σ H1 fun y H2=>∃ a v,x=.ref a/\DGet H2 a y (some v)/\Q v H2
def CW (td ty tv:TE):TS:=fun D σ H=>tv σ H fun v H1=>td σ H1 fun x H2=>ty σ H2 fun y H3=>∃ a H4,x=.ref a/\DPut H3 a y v H4/\D.nx σ H4
section
variable {X:Cx} {o i e value:Expr} {pos pos' tpos:Pos} {td ty tv:TE}
def DJ (hu:X.A.units+1 < cLine) (ho:PE X o td) (hi:PE X i ty) (hs:uq i):PE X (.Subscript o i pos) (CT td ty):=by
 intro pins s σ H Q I h;refine Dr PySem.F.slot_dict_getitem.lookup hs (thn (ho pins s σ H _ I h) fun u s1 ⟨x,H1,I1,rx,q1⟩=>thn (hi pins s1 σ H1 _ I1 q1) fun iv s2 ⟨y,H2,I2,ry,a,v,ex,g,q2⟩=>?_);subst ex;obtain rfl:u=Value.ref a:=rx;exact ⟨r8 I2 g,vI hu I2 g ry fun w' s3 I3 rw'=>⟨v,H2,I3,rw',q2⟩⟩
def DA (hu:X.A.units+1 < cLine) (ho:PE X o td) (hi:PE X i ty) (hv:PE X value tv) (hs:swapsWith value (some (.Subscript o i pos')) pos.line X.env=pure false) :
  PS X (.Assign [.Subscript o i pos'] value pos) (CW td ty tv):=by
 intro pins s σ H D I h;refine wpAny_Assign_Subscript (thn (hv pins s σ H _ I h) fun r s1 ⟨v,H1,I1,rv,q1⟩=>thn (ho pins s1 σ H1 _ I1 q1) fun u s2 ⟨x,H2,I2,rx,q2⟩=>thn (hi pins s2 σ H2 _ I2 q2) fun iv s3 ⟨y,H3,I3,ry,a,H4,ex,g,q3⟩=>?_) hs;subst ex;obtain rfl:u=Value.ref a:=rx;exact vH hu I3 g ry rv fun s4 I4=>⟨σ,H4,I4,q3⟩
end
def xt {P:Program} {w:World} {H:Hp} (h:Heap) (hb:sysModules < h.objs.size):ObjOk P w H (h.push { cls:=.type "dict",data:=.dict #[] }) h.objs.size (.dK []) :=
 ⟨Nat.zero_le _,beq_eq_false_iff_ne.mpr (Ne.symm (zaw hb)),[],.nil,Heap.DictOf.new h⟩
section
variable {X:Cx} {pos:Pos}
end
def m9:List (TE × TE)->St->Hp->(List (V × V)->Hp->Prop)->Prop
 | [],_,H,Q=>Q [] H
 | (tk,tv) :: r,σ,H,Q=>tk σ H fun x H1=>tv σ H1 fun y H2=>m9 r σ H2 fun ps H3=>Q ((x,y) :: ps) H3
abbrev VV:List (V × V)->List (Value × Value)->Prop:=Paired fun p q=>RelV p.1 q.1/\RelV p.2 q.2
def PPs (X:Cx) (pos:Pos) (keys:List (Option Expr)) (values:List Expr) (trs:List (TE × TE)):Prop :=
 ∀ (pins:List (Addr × Obj)) (s:Shared) (σ:St) (H:Hp) (Q:List (V × V)->Hp->Prop),Inv X pins σ H s->m9 trs σ H Q ->
  wpAny (model X.prog X.w) X.A (evalPairs (pairTrees keys values X.env pos)) (fun vs s'=>∃ ps H',Inv X pins σ H' s'/\VV ps vs/\Q ps H') X.xe s
def DB {X:Cx} {pos:Pos}:PPs X pos [] [] []:=fun pins s σ H Q I h=>pairTrees_nil_walk ⟨[],H,I,.nil,h⟩
def wq {X:Cx} {pos:Pos} {k v:Expr} {ks:List (Option Expr)} {vs:List Expr} {tk tv:TE} {trs:List (TE × TE)} (hk:PE X k tk) (hv:PE X v tv) (hr:PPs X pos ks vs trs) :
  PPs X pos (some k :: ks) (v :: vs) ((tk,tv) :: trs):=fun pins s σ H Q I h =>
 pairTrees_cons_walk (thn (hk pins s σ H _ I h) fun u s1 ⟨x,H1,I1,rx,q1⟩=>thn (hv pins s1 σ H1 _ I1 q1) fun w2 s2 ⟨y,H2,I2,ry,q2⟩ =>
  thn (hr pins s2 σ H2 _ I2 q2) fun ws s3 ⟨ps,H3,I3,rel,q3⟩=>⟨(x,y) :: ps,H3,I3,.cons ⟨rx,ry⟩ rel,q3⟩)
def gy (kvs more:List (Key × V)):List (Key × V):=more.foldl (fun acc kv=>dk acc kv.1 kv.2) kvs
def KV.merge:∀ {more:List (Key × V)} {rs:List (Key × Value)} {kvs:List (Key × V)} {vs:List (Key × Value)},KV more rs->KV kvs vs->KV (gy kvs more) (merged vs rs):=by
 intro more rs kvs vs r;unfold KV at r
 induction r generalizing kvs vs with
 | nil=>intro q; exact q
 | @cons p q ps qs h t ih =>
  intro r0;have e:KV (dk kvs p.1 p.2) (stored vs q.1 q.2):=by
   have:=r0.put p.1 h.2;rw [<- h.1]; exact this
  exact ih e
def kB:∀ (more kvs:List (Key × V)),(gy kvs more).length<=kvs.length+more.length
 | [],kvs=>by show kvs.length<=kvs.length+0; omega
 | p :: r,kvs=>by
  have h1:=kB r (dk kvs p.1 p.2);have h2:=jc kvs p.1 p.2;show (gy (dk kvs p.1 p.2) r).length<=_;rw [zac]; omega
def nV {P:Program} {w:World}:∀ {kvs:List (Key × V)} {ws:List (Value × Value)},VV (kvs.map fun kv=>(kV kv.1,kv.2)) ws->∃ rs,Carries (bO P w) ws rs/\KV kvs rs
 | [],_,r=>by rw [za0] at r; cases r; exact ⟨[],True.intro,.nil⟩
 | p :: kvs,_,r=>by
  rw [zar] at r;cases r with
  | @cons a b as bs h t =>
   obtain ⟨rs,c,q⟩:=nV (P:=P) (w:=w) t;obtain ⟨b1,b2⟩:=b;exact ⟨(p.1,b2) :: rs,⟨qc h.1,rfl,c⟩,.cons ⟨rfl,h.2⟩ q⟩
def CQ (trs:List (TE × TE)):TE:=fun σ H Q=>∀ p,H p=none->m9 trs σ (upd H p (.dK [])) fun ps H2=>H2 p=some (.dK [])/\∃ kvs:List (Key × V),ps=kvs.map (fun kv=>(kV kv.1,kv.2))/\kvs.length<=15/\Q (.ref p) (upd H2 p (.dK (gy [] kvs)))
def DI {X:Cx} {pos:Pos} {keys:List (Option Expr)} {values:List Expr} {trs:List (TE × TE)} (h:PPs X pos keys values trs) (hall:keys.all (·.isSome)=true) (hl:keys.length=values.length) (h0:keys≠[])
  (h15:keys.length<=15):PE X (.Dict keys values pos) (CQ trs):=by
 intro pins s σ H Q I q;have hn:=I.hok.fresh (zav s.heap.objs.size);have I1:=I.laid (a:=s.heap.objs.size) (o:=.dK []) (h':=s.heap.push { cls:=.type "dict",data:=.dict #[] }) (t':=s.toks) (fun _ _ q=>zaf _ q) (zav _) (xt s.heap I.big);refine wpAny_Dict_walk (knd:=bO X.prog X.w) hall hl h0 h15 (thn (h pins _ σ _ _ I1 (q _ hn)) fun ws s2 ⟨ps,H2,I2,rel,e,kvs,ep,lk,q2⟩=>?_);subst ep;obtain ⟨rs,c,rk⟩:=nV (P:=X.prog) (w:=X.w) rel;obtain ⟨z,hd,vs0,r0,dd⟩:=nP I2.hok e;cases r0;refine ⟨rs,c,dd,fun h' dd' hs=>⟨.ref s.heap.objs.size,_,?_,rfl,q2⟩⟩;have hz:(gy [] kvs).length<=sizeLine:=by
  have h1:=kB kvs [];rw [List.length_nil] at h1;rw [sizeLine_eq]; omega
 have he:∃ q,h'.get? s.heap.objs.size=some q:=let ⟨q,_,_,hq,_⟩:=dd'; ⟨q,hq⟩;exact oX I2 (by rw [e]; exact True.intro) hs he (vG hz hd (rk.merge .nil) dd')
section
variable {X:Cx} {pins:List (Addr × Obj)} {σ:St} {H:Hp} {s:Shared} {a:Addr} {y d:V} {u r:Value} {o:Option V} {A:Around} {E:Value->Shared->Prop}
end
section
variable {X:Cx} {o e f:Expr} {apos cpos:Pos} {td ty tx:TE}
end
section
variable {X:Cx} {pins:List (Addr × Obj)} {σ:St} {H:Hp} {s:Shared} {a:Addr} {kvs:List (Key × V)} {A:Around} {E:Value->Shared->Prop}
end
section
variable {X:Cx} {pins:List (Addr × Obj)} {σ:St} {H:Hp} {s:Shared} {a:Addr} {y:V} {u:Value} {A:Around} {E:Value->Shared->Prop}
end
section
variable {X:Cx}
end
section
variable {κ:Type} [DecidableEq κ]
end
end L2
set_option maxHeartbeats 4000000
namespace L2
open PySem PySem.Spec PyProof.Rows
def Eg {α β:Type} {l:List α} {f:α->β->Sem (ForInStep β)} {g:β->α->β} (h:∀ x∈l,∀ c,f x c=pure (.yield (g c x))):∀ c,forIn l c f=pure (l.foldl g c):=by
 induction l with
 | nil=>intro c; rfl
 | cons x l ih =>
  intro c;rw [List.forIn_cons,h x zaq,pure_bind];exact ih (fun y hy=>h y (zaj _ hy)) (g c x)
def eQ (env:Env) (acc:List (Str × Addr)) (x:Str × NameKind):List (Str × Addr) :=
 if x.2 == NameKind.free then (x.1,(env.cells.lookup x.1).getD 0) :: acc else acc
def dS (env:Env) (names:List (Str × NameKind)):List (Str × Addr):=names.foldl (eQ env) []
def nS {scope:Scope} {env:Env} (h:∀ y∈scope.names,y.2=.free->∃ c,env.cells.lookup y.1=some c):closureFor scope env=pure (dS env scope.names):=by
 simp only [closureFor];rw [Eg (g:=eQ env) (fun x hx c=>by
  obtain ⟨n,kind⟩:=x;by_cases hk:kind=.free
  ·obtain ⟨a,e⟩:=h _ hx hk;subst hk;have e':env.cells.lookup n=some a:=e;simp [cellOf,eQ,e']
  ·have hb:(kind == NameKind.free)=false:=by simpa using hk
   simp [eQ,hb])]
 rfl
def nT {env:Env}:∀ (names:List (Str × NameKind)) (acc:List (Str × Addr)) (p:Str × Addr),
  p∈names.foldl (eQ env) acc->p∈acc\/((p.1,NameKind.free)∈names/\p.2=(env.cells.lookup p.1).getD 0)
 | [],_,_,h=>.inl h
 | (n,k) :: r,acc,p,h=>by
  rw [List.foldl_cons] at h;rcases nT r _ p h with q | ⟨q,e⟩
  ·unfold eQ at q;by_cases hk:(k == NameKind.free)=true
   ·rw [if_pos hk] at q;rcases zay.mp q with z | z
    ·subst z;have hk':k=NameKind.free:=by simpa using hk
     subst hk';exact .inr ⟨zaq,rfl⟩
    ·exact .inl z
   ·rw [if_neg hk] at q;exact .inl q
  ·exact .inr ⟨zaj _ q,e⟩
def me {env:Env}:∀ (names:List (Str × NameKind)) (acc:List (Str × Addr)) (p:Str × Addr),p∈acc->p∈names.foldl (eQ env) acc
 | [],_,_,h=>h
 | x :: r,acc,p,h=>by
  rw [List.foldl_cons];refine me r _ p ?_;unfold eQ;split
  ·exact zaj _ h
  ·exact h
def nU {env:Env} {n:Str}:∀ (names:List (Str × NameKind)) (acc:List (Str × Addr)),(n,NameKind.free)∈names->∃ c,(n,c)∈names.foldl (eQ env) acc
 | (m,k) :: r,acc,h=>by
  rw [List.foldl_cons];rcases zay.mp h with e | e
  ·cases e;exact ⟨(env.cells.lookup n).getD 0,me r _ _ (by unfold eQ; rw [if_pos (show (((n,NameKind.free):Str × NameKind).2 == NameKind.free)=true from rfl)]; exact zaq)⟩
  ·exact nU r _ e
def gH {α:Type}:∀ {l:List (Str × α)} {n:Str} {c:α},(n,c)∈l->∃ c',l.lookup n=some c'
 | (m,d) :: r,n,c,h=>by
  rw [zas];cases hb:n == m with
  | true=>exact ⟨d,rfl⟩
  | false =>
   rcases zay.mp h with e | e
   ·cases e;simp at hb
   ·exact gH e
def rl {env:Env} {names:List (Str × NameKind)} {n:Str} (h:(n,NameKind.free)∈names):∃ c,(dS env names).lookup n=some c :=
 let ⟨_,e⟩:=nU (env:=env) names [] h
 gH e
def pF {env:Env} {names:List (Str × NameKind)} {n:Str} {c:Addr} (h:∀ y∈names,y.2=.free->∃ c,env.cells.lookup y.1=some c) (e:(dS env names).lookup n=some c):env.cells.lookup n=some c:=by
 rcases nT names [] (n,c) (zaU e) with q | ⟨q,z⟩
 ·simp at q
 ·obtain ⟨a,ea⟩:=h _ q rfl;have z':c=(env.cells.lookup n).getD 0:=z;have ea':env.cells.lookup n=some a:=ea;rw [ea'] at z';rw [ea',z'];rfl
def jS {env:Env}:∀ {names:List (Str × NameKind)} {x:Str} {k:NameKind},
  (names.map fun (n,k)=>if (k == NameKind.free && env.scope.kind == .function && env.kindOf n == some .cell) then (n,NameKind.cell) else (n,k)).lookup x=some k ->
  names.lookup x=some k\/(names.lookup x=some .free/\k=.cell)
 | [],_,_,h=>by simp at h
 | (n,k0) :: r,x,k,h=>by
  rw [zar] at h;cases hx:x == n with
  | true =>
   rcases Bool.eq_false_or_eq_true (k0 == NameKind.free && env.scope.kind == .function && env.kindOf n == some .cell) with hc | hc
   ·simp only [hc,if_true,zas,hx] at h;have hk:k0=.free:=by
     simp only [Bool.and_eq_true,beq_iff_eq] at hc;exact hc.1.1
    refine .inr ⟨?_,?_⟩
    ·simp only [zas,hx,hk]
    ·exact (zat h).symm
   ·simp only [hc,Bool.false_eq_true,if_false,zas,hx] at h;refine .inl ?_;simp only [zas,hx];exact h
  | false =>
   have h':(r.map fun (n,k)=>if (k == NameKind.free && env.scope.kind == .function && env.kindOf n == some .cell) then (n,NameKind.cell) else (n,k)).lookup x=some k:=by
    rcases Bool.eq_false_or_eq_true (k0 == NameKind.free && env.scope.kind == .function && env.kindOf n == some .cell) with hc | hc
    ·simp only [hc,if_true,zas,hx] at h;exact h
    ·simp only [hc,Bool.false_eq_true,if_false,zas,hx] at h;exact h
   simp only [zas,hx];exact jS h'
def ni {env:Env}:∀ {names:List (Str × NameKind)} {x:Str},names.lookup x=some .free ->
  (names.map fun (n,k)=>if (k == NameKind.free && env.scope.kind == .function && env.kindOf n == some .cell) then (n,NameKind.cell) else (n,k)).lookup x=some .cell \/
  (names.map fun (n,k)=>if (k == NameKind.free && env.scope.kind == .function && env.kindOf n == some .cell) then (n,NameKind.cell) else (n,k)).lookup x=some .free
 | [],_,h=>by simp at h
 | (n,k0) :: r,x,h=>by
  rw [zar];cases hx:x == n with
  | true =>
   simp only [zas,hx] at h;rcases Bool.eq_false_or_eq_true (k0 == NameKind.free && env.scope.kind == .function && env.kindOf n == some .cell) with hc | hc
   ·refine .inl ?_;simp only [hc,if_true,zas,hx]
   ·refine .inr ?_;simp only [hc,Bool.false_eq_true,if_false,zas,hx];exact h
  | false =>
   simp only [zas,hx] at h;have ih:=ni (env:=env) h;rcases Bool.eq_false_or_eq_true (k0 == NameKind.free && env.scope.kind == .function && env.kindOf n == some .cell) with hc | hc
   ·simp only [hc,if_true,zas,hx];exact ih
   ·simp only [hc,Bool.false_eq_true,if_false,zas,hx];exact ih
def eY (js:List (Option Nat)) (σ:St):St:=js.map fun j=>match j with
 | some j=>(σ[j]?).join
 | none=>none
def PTs (X:Cx) (ifs:List Expr) (tt:TT):Prop :=
 ∀ (pins:List (Addr × Obj)) (s:Shared) (σ:St) (H:Hp) (Q:Bool->Hp->Prop),Inv X pins σ H s->tt σ H Q ->
  wpAny (model X.prog X.w) X.A (forIn ifs true fun c r=>if r=true then do let ok <- isTrue c X.env (eval c X.env); pure (ForInStep.yield ok) else pure (ForInStep.yield r)) (TP X pins σ Q) X.xe s
def J2:TT:=fun _ H Q=>Q true H
def pts_nil {X:Cx}:PTs X [] J2:=fun _ _ _ H _ I h=>wpAny_tests_nil ⟨H,I,h⟩
def Hv (g:TG) (tt:TT) (te:TE) (D:Addr) (x:V) (τ:St) (H:Hp) (N:St->Hp->Prop):Prop :=
 g x τ H fun τ4 H4=>tt τ4 H4 fun b H5=>if b=true then te τ4 H5 fun v H6=>∃ xs,H6 D=some (.lst xs)/\xs.length < sizeLine/\N τ4 (upd H6 D (.lst (xs++[v]))) else N τ4 H5
def C7 (J:It) (g:TG) (tt:TT) (te:TE) (σ0:St) (H1:Hp) (D:Addr) (Q:VK):Prop :=
 ∃ W:Nat->Nat->St->Hp->Prop,(∃ m,W 0 m σ0 (upd H1 D (.lst []))) /\
  ∀ i m τ H2,W i m τ H2->(J.stop i H2/\Q (.ref D) H2)\/(J.go i H2/\∃ N:St->Hp->Prop,(∀ τ' H',N τ' H'->∃ m',m' < m/\W (i+1) m' τ' H')/\∀ x H3,J.yld i H2 x H3->Hv g tt te D x τ H3 N)
def tLC (wi:TI) (g:TG) (tt:TT) (te:TE) (js:List (Option Nat)):TE:=fun σ H Q =>
 wi σ H fun J H1=>∀ D,H1 D=none->C7 J g tt te (eY js σ) H1 D Q
def thF {α:Type} {t:Sem α} {Q Q':α->Shared->Prop} {M:Model} {A:Around} {E:Value->Shared->Prop} {s:Shared} (h:wpAny M A t Q (fun _ _=>False) s) (hQ:∀ a s,Q a s->Q' a s):wpAny M A t Q' E s :=
 wpAny_mono h hQ fun _ _ x=>x.elim
section
variable {X:Cx} {elt tg iter:Expr} {ifs:List Expr} {scope:Scope} {pos:Pos} {ns:List Str} {js:List (Option Nat)} {wi:TI} {g:TG} {tt:TT} {te:TE}
end
section
variable {X:Cx}
def uk:∀ (bs:List Bool),(List.range bs.length).all (fun i=>bs.getD i true)=bs.all id:=fun bs=>by
 rw [Bool.eq_iff_iff,List.all_eq_true,List.all_eq_true];constructor
 ·intro h b hb;obtain ⟨i,hi,e⟩:=List.mem_iff_getElem.mp hb;have q:=h i (List.mem_range.mpr hi);rw [List.getD_eq_getElem?_getD,zak hi,e] at q;exact q
 ·intro h i hi;have hi':=List.mem_range.mp hi;rw [List.getD_eq_getElem?_getD,zak hi'];exact h _ (List.getElem_mem hi')
def xw (hc:X.calm=true):CallR X (.builtin "all") (fun xs H Q=>∃ (p:Addr) (bs:List Bool),xs=[.ref p]/\SqL X.K H p (bs.map V.bl)/\Q (.bl (bs.all id)) H):=by
 intro pins s σ H xs us Q I r h;obtain ⟨p,bs,rfl,hp,q⟩:=h;obtain ⟨u,rfl,ru⟩:=bW r;cases ru;obtain ⟨its,rv,pl,hz⟩:=I.list hp;have hl:its.length=bs.length:=by rw [<- rv.length,zad]
 have hlt:p < s.heap.objs.size:=by
  obtain ⟨o,n,e,_⟩:=id pl;exact zal e
 refine call_all_walk (wpAny_pyIter_list pl.isList ?_);refine ⟨s.heap.objs.size,[s.heap.objs.size,p],[s.heap.objs.size],its.toArray.size,fun i v=>its.toArray[i]?=some v,_,fun i=>bs.getD i true,rfl,Walks.list (A:=X.A.in1) (show X.A.in1.handled=none from I.ok.hd hc) s.heap.objs.size p (zaw hlt) its.toArray,?_,?_,?_⟩
 ·exact ⟨⟨_,zan _ rfl,rfl,rfl⟩,pl.isList.push _⟩
 ·intro i v s' Q' E' hv hq;have hv':its[i]?=some v:=by simpa using hv
  have hi:i < bs.length:=by
   rw [<- hl];exact (zah.mp hv').1
  obtain ⟨u,hu,ru⟩:=rv.get (i:=i) (x:=V.bl bs[i]) (by rw [zao,zak hi]; rfl);rw [hu] at hv';cases hv';cases ru;have e:bs.getD i true=bs[i]:=by rw [List.getD_eq_getElem?_getD,zak hi]; rfl
  have hq':Q' (bs.getD i true) s':=hq;rw [e] at hq';exact wpAny_truthy_bool hq'
 ·intro h' tk hk;have e:(List.range its.toArray.size).all (fun i=>bs.getD i true)=bs.all id:=by
   rw [<- uk bs,zai,hl]
  rw [e];refine ⟨.bl (bs.all id),H,I.kept (t':=tk) fun b o z=>hk b o ?_ (zaf _ z),rfl,q⟩;intro z';have z'':b=s.heap.objs.size:=by simpa using z'
  exact zaw (zal z) z''
def xv:CallR X (.builtin "isinstance") (fun xs H Q=>∃ x t n b,xs=[x,.ty n]/\TyOf X.K H x t/\PySem.W.kitOne X.K t (.type n)=some b/\Q (.bl b) H):=by
 intro pins s σ H xs us Q I r h;obtain ⟨x,t,n,b,rfl,ty,e,q⟩:=h;obtain ⟨u,w',rfl,r1,r2⟩:=p7 r;cases r2;exact vf I r1 ty e fun tk=>⟨.bl b,H,I.tok _,rfl,q⟩
end
section
open PySem.SeqAt
variable {X:Cx} {pins:List (Addr × Obj)} {σ:St} {H:Hp} {s:Shared}
end
section
variable {X:Cx}
def Inv.turnedLaid {pins:List (Addr × Obj)} {σ:St} {H:Hp} {s:Shared} {h':Heap} {t':Nat} {fp:List Addr} {p:Addr} {o:HO} (I:Inv X pins σ H s) (f:∀ b∈fp,gX X pins H b) (hp:s.heap.objs.size<=p)
  (k:∀ b ob,b ∉ fp->s.heap.get? b=some ob->h'.get? b=some ob) (th:∀ b∈fp,∃ ob,h'.get? b=some ob) (new:ObjOk X.prog X.w (upd H p o) h' p o):Inv X pins σ (upd H p o) { s with heap:=h',toks:=t' }:=by
 have hn:H p=none:=I.hok.fresh hp;have ne:∀ b ob,s.heap.get? b=some ob->b≠p:=fun b ob e=>zaw (zag (zal e) hp);have nf:∀ b u,H b=some u->b ∉ fp:=fun b u e z=>by rw [(f b z).1] at e; cases e
 refine I.step (g':=s.gens) (d':=s.drawn) (ch:=fp) (fun b hb=>⟨(f b hb).2.2.2.1,(f b hb).2.1,(f b hb).2.2.2.2.1,(f b hb).2.2.2.2.2⟩) (fun b ob _ _ hc e _=>k b ob hc e) (fun b ob _ _ hc e _=>⟨ob.slots,k b ob hc e⟩)
  (fun b ob _ e n=>by rw [aO (ne b ob e)]; exact n) (fun b ob hc e=>⟨ob,k b ob hc e⟩) (fun b xs e=>by rw [aO (cc e hn)]; exact e) (fun b ob u e=>by rw [aO (cc e hn)]; exact e)
  (fun b ps e=>⟨#[],by rw [aO (cc e hn),e]; simp⟩) (fun m hm=>?_) (fun b u e=>?_) I.bare
 ·obtain ⟨ob,es,ep,ho,r⟩:=hm;exact ⟨ob,es,ep,k _ ob (fun z=>(f _ z).2.1 rfl) ho,r⟩
 ·by_cases hb:b=p
  ·subst hb;rw [aJ] at e;cases e;exact new
  ·rw [aO hb] at e;refine (I.hok b u e).stay (fun c v hc q=>k c v ?_ q) (fun c q=>by rw [aO (cc q hn)]; exact q) fun c xs q=>by rw [aO (cc q hn)]; exact q
   rcases hc with z | z
   ·rw [z]; exact nf b u e
   ·exact nf c _ z
end
def Kn (P:Program) (w:World) (K:PySem.W.Frag) (mg:Str->Option Value) (base:Heap) (k:Nat) (x:Str) (ps:List Str) (sp:Sp):Prop :=
 ∃ f fd,FnOk P w K mg base CX0 k f fd ps sp/\mg x=some (.ref f)/\PySem.W.keepIn K (.ref f)=true/\Binds K fd ps []
def Kn.mono {P:Program} {w:World} {K:PySem.W.Frag} {mg:Str->Option Value} {base:Heap} {j k:Nat} {x:Str} {ps:List Str} {sp:Sp} (G:Kn P w K mg base j x ps sp) (h:j<=k):Kn P w K mg base k x ps sp :=
 let ⟨f,fd,a,b,c,d⟩:=G
 ⟨f,fd,a.mono h,b,c,d⟩
section
variable {X:Cx} {k:Nat} {x:Str} {ps:List Str} {sp:Sp} {p pos:Pos} {e:Expr} {es:List Expr} {t:TA}
def C4 (G:Kn X.prog X.w X.K X.mg X.base k x ps sp) (hr:Room k X.A) (hg:Gl X x) (ha:PA X (e :: es) t) (hdb:(x == ("__debug__" : Str))=false:=by decide)
  (he:starEach (e :: es) X.env=(false,eval e X.env) :: starEach es X.env:=by rfl) (hpl:(backTo pos (starEach es X.env)).any (·.1)=false:=by rfl) :
  PE X (.Call (.Name x p) (e :: es) [] pos) (sZ sp [] E0 t):=by
 obtain ⟨f,fd,F,hm,hk,hb⟩:=G;exact DL F hr hg hm hk hb .nil Jp ha hdb he hpl
end
def J3 (K:PySem.W.Frag):List V->Hp->VK->Prop:=fun xs H Q=>∃ x n,xs=[x]/\Ja K x H n/\Q (.int n) H
def Dw (K:PySem.W.Frag):List V->Hp->VK->Prop:=fun xs H Q=>∃ p ys,xs=[.ref p]/\(SqL K H p ys\/SqT K H p ys)/\∀ l,H l=none->Q (.ref l) (upd H l (.lst ys))
def GZ (K:PySem.W.Frag):List V->Hp->VK->Prop:=fun xs H Q=>∃ p ys,xs=[.ref p]/\((SqL K H p ys/\∀ l,H l=none->Q (.ref l) (upd H l (.tup ys)))\/(SqT K H p ys/\Q (.ref p) H))
def J5 (K:PySem.W.Frag):List V->Hp->VK->Prop:=fun xs H Q=>∃ (p:Addr) (bs:List Bool),xs=[.ref p]/\SqL K H p (bs.map V.bl)/\Q (.bl (bs.all id)) H
section
variable {X:Cx} {K:PySem.W.Frag}
def Ka (hK:X.K=K):CallR X (.builtin "len") (J3 K):=by subst hK; exact xu
def DU (hK:X.K=K):CallR X (.type "list") (Dw K):=by subst hK; exact rp
def Hz (hK:X.K=K):CallR X (.type "tuple") (GZ K):=by subst hK; exact pY
def Kd (hK:X.K=K) (hc:X.calm=true):CallR X (.builtin "all") (J5 K):=by subst hK; exact xw hc
def Kb (hK:X.K=K):IxR X (tm K):=by subst hK; exact ix_list
def J9 (hK:X.K=K):SlR X (G3 K):=by subst hK; exact Dt
def J8 (hK:X.K=K):SlR X (G0 K):=by subst hK; exact GV
variable {tg l:Expr} {tl:TE} {es:List Expr} {t:TGs} {n k:Nat} {pos p p2 cpos apos:Pos}
end
def sgn (c:Nat):V:=.str ⟨#[c]⟩
def Its (z:Str):It:=⟨fun i _=>i < z.cps.size,fun i H x H'=>H'=H/\∃ c,z.cps[i]?=some c/\x=sgn c,fun i _=>z.cps.size<=i⟩
def vY {P:Program} {w:World} {K:PySem.W.Frag} {tg:Expr} (it:Addr) (z:Str) (t:Tok) (ty:String) (hty:ty="str_ascii_iterator"\/ty="str_iterator") :
  Turn P w K tg (Its z) [it] it (fun i h=>h.IsStrIter it ty z t i) where
 mem:=by simp
 obj:=fun i h st b hb=>by
  have e:b=it:=by simpa using hb
  subst e;obtain ⟨o,e,c,d⟩:=st;exact ⟨o,e,fun v q=>by rw [d] at q; cases q⟩
 keep:=fun i h h' st k=>let ⟨o,e,r⟩:=st; ⟨o,k it (by simp) o e,r⟩
 item:=by
  intro X hP hw hK hc i pins s σ H E I hf st hg;subst hP hw hK;obtain ⟨f0,f1,f2,f3,f4,f5⟩:=hf it (by simp);have W:Walks X.prog X.w X.A it [it] [it] z.cps.size (SignAt z) (fun i h=>h.IsStrIter it ty z t i):=by
   rcases hty with rfl | rfl
   ·exact Walks.strAscii (I.ok.hd hc) it z t
   ·exact Walks.strWide (I.ok.hd hc) it z t
  refine W.item i s _ _ hg st fun v h' tk hv st' kk=>?_;obtain ⟨c,u,hcv,rfl⟩:=hv;have I1:Inv X pins σ H { s with heap:=h',toks:=tk }:=I.turned (fun b o hb e=>kk b o (by simpa using hb) e) f0 f1 f3 f4 f5;obtain ⟨o,e,ec,ed⟩:=id st';refine ⟨_,rfl,qf (s:={ s with heap:=h',toks:=tk }) (n:=ty) e ec ed (by rcases hty with rfl | rfl <;> decide) ⟨sgn c,H,I1,⟨u,rfl⟩,⟨rfl,c,hcv,rfl⟩,st',fun b hb=>(hf b hb).1⟩⟩
 done:=by
  intro X hP hw hK hc i pins s σ H E I hf st hg;subst hP hw hK;obtain ⟨f0,f1,f2,f3,f4,f5⟩:=hf it (by simp);have hle:z.cps.size<=i:=hg;rcases hty with rfl | rfl
  ·exact wpAny_pyNext_ascii_end (I.ok.hd hc) st (by simpa using hle) fun h' he=>⟨rfl,I.turned (t':=s.toks) (fun b o hb e=>he b o hb e) f0 f1 f3 f4 f5⟩
  ·exact wpAny_pyNext_wide_end (I.ok.hd hc) st (by simpa using hle) fun h' he=>⟨rfl,I.turned (t':=s.toks) (fun b o hb e=>he b o hb e) f0 f1 f3 f4 f5⟩
 self:=fun A i s Q E st h=>by
  rcases hty with rfl | rfl
  ·exact wpAny_pyIter_striter_ascii st h
  ·exact wpAny_pyIter_striter_wide st h
section
variable {X:Cx} {tg:Expr} {K:PySem.W.Frag}
def dX (z:Str):List V:=z.cps.toList.map sgn
def l5:∀ {xs:List V} {us:List Value},xs.length=us.length->(∀ (i:Nat) x u,xs[i]?=some x->us[i]?=some u->RelV x u)->Vals xs us
 | [],[],_,_=>.nil
 | [],_ :: _,h,_=>by cases h
 | _ :: _,[],h,_=>by cases h
 | x :: xs,u :: us,h,f=>.cons (f 0 x u rfl rfl) (l5 (Nat.succ.inj h) fun i y v a b=>f (i+1) y v (by simpa using a) (by simpa using b))
def oY (hc:X.calm=true):CallR X (.type "list") (fun xs H Q=>∃ z,xs=[.str z]/\z.cps.size<=sizeLine/\∀ l,H l=none->Q (.ref l) (upd H l (.lst (dX z)))):=by
 intro pins s σ H xs us Q I r h;obtain ⟨z,rfl,hz,q⟩:=h;obtain ⟨u,rfl,t,rfl⟩:=bW r;refine call_list_str (I.ok.hd hc) z t (fun h' tk acc c' hk ho hi=>?_) hz;have hl:(dX z).length=acc.toList.length:=by
  unfold dX;rw [zad,zaY,zaY,hi.1]
 have rv:Vals (dX z) acc.toList:=l5 hl fun i x v a b=>by
  obtain ⟨c,tk',hcv,rfl⟩:=hi.2 i v (by simpa using b);unfold dX at a;rw [zao] at a;have e:z.cps.toList[i]?=some c:=by simpa using hcv
  rw [e] at a;cases a;exact ⟨_,rfl⟩
 refine ⟨.ref s.heap.objs.size,_,I.laid (t':=tk) (o:=.lst (dX z)) hk (zav _) ⟨?_,acc.toList,c',rv,by simpa using ho⟩,rfl,q _ I.fresh⟩;unfold dX;rw [zad,zaY];exact hz
def nb {ys:List Str}:∀ {us:List Value},Vals (ys.map V.str) us->StrsAre us ys:=by
 induction ys with
 | nil=>intro us r; cases r; exact .nil
 | cons y ys ih =>
  intro us r;cases r with
  | cons r1 r2 =>
   obtain ⟨t,e⟩:=r1;subst e;exact .cons y t (ih r2)
def C1 (K:PySem.W.Frag):V->List V->Hp->VK->Prop:=fun x xs H Q=>∃ sep ys p,x=.str sep/\xs=[.ref p]/\(SqL K H p (ys.map V.str)\/SqT K H p (ys.map V.str))/\sep.length<=16/\(ys.map (·.length)).sum+ys.length<=1048576/\Q (.str (Txt.join sep ys)) H
def cA (hK:X.K=K):MtR X "str.join" (C1 K):=by
 subst hK;intro pins s σ H x xs v us Q I rx rs h;obtain ⟨sep,ys,p,rfl,rfl,hp,hs,hw,q⟩:=h;obtain ⟨t,rfl⟩:=rx;obtain ⟨u,rfl,ru⟩:=bW rs;cases ru;rcases hp with hp | hp
 ·obtain ⟨its,rv,pl,_⟩:=I.list hp;exact join_listW pl.isList (by simpa using nb rv) hs hw fun t' k=>⟨.str _,H,I.tok k,⟨_,rfl⟩,q⟩
 ·obtain ⟨its,rv,pl,_⟩:=I.tuple hp;exact join_tupleW pl (by simpa using nb rv) hs hw fun t' k=>⟨.str _,H,I.tok k,⟨_,rfl⟩,q⟩
def Kl (xs:List Nat) (lo hi:Option Int):List Nat:=(xs.drop (HT.sIx xs.length 0 lo)).take (HT.sIx xs.length xs.length hi - HT.sIx xs.length 0 lo)
def uJ (n d:Nat) (v:Option Int) (h:d<=n):HT.sIx n d v<=n:=by
 cases v with
 | none=>exact h
 | some i =>
  unfold HT.sIx
  dsimp only
  split <;> omega
end
section
variable {l l':List Addr} {H H':Hp} {a b:Addr} {o:HO}
end
section
variable {K:PySem.W.Frag}
end
section
variable {X:Cx} {tg:Expr} {K:PySem.W.Frag}
def Inv.turnedMany {pins:List (Addr × Obj)} {σ:St} {H:Hp} {s:Shared} {h':Heap} {t':Nat} {fp:List Addr} (I:Inv X pins σ H s) (f:∀ b∈fp,gX X pins H b)
  (k:∀ b ob,b ∉ fp->s.heap.get? b=some ob->h'.get? b=some ob):Inv X pins σ H { s with heap:=h',toks:=t' }:=by
 have nf:∀ b u,H b=some u->b ∉ fp:=fun b u e z=>by rw [(f b z).1] at e; cases e
 refine I.step (g':=s.gens) (d':=s.drawn) (ch:=fp) (fun b hb=>⟨(f b hb).2.2.2.1,(f b hb).2.1,(f b hb).2.2.2.2.1,(f b hb).2.2.2.2.2⟩) (fun b ob _ _ hc e _=>k b ob hc e) (fun b ob _ _ hc e _=>⟨ob.slots,k b ob hc e⟩)
  (fun _ _ _ _ n=>n) (fun b ob hc e=>⟨ob,k b ob hc e⟩) (fun _ _ e=>e) (fun _ _ _ e=>e) (fun b ps e=>⟨#[],by rw [e]; simp⟩) (fun m hm=>?_) (fun b u e=>?_) I.bare
 ·obtain ⟨ob,es,ep,ho,r⟩:=hm;exact ⟨ob,es,ep,k _ ob (fun z=>(f _ z).2.1 rfl) ho,r⟩
 ·refine (I.hok b u e).stay (fun c v hc q=>k c v ?_ q) (fun _ q=>q) fun _ _ q=>q;rcases hc with z | z
  ·rw [z]; exact nf b u e
  ·exact nf c _ z
end
section
variable {prog:Program} {w:World} {A:Around} {E:Value->Shared->Prop} {s:Shared}
end
section
variable {X:Cx} {tg:Expr} {K:PySem.W.Frag}
end
abbrev li (z:Str):List Nat:=z.cps.toList
def mk1 (c:Nat):Str:=⟨#[c]⟩
def ofL (l:List Nat):Str:=⟨l.toArray⟩
def kU (l:List Nat):li (ofL l)=l:=rfl
def uX (z:Str):ofL (li z)=z:=rfl
def Hu {a b:Str} (h:li a=li b):a=b:=by rw [<- uX a,<- uX b,h]
def u3 (a b:Str):li (a++b)=li a++li b:=by
 show (a.cps++b.cps).toList=_;rw [Array.toList_append]
def emp:Str:=""
def cat (ks:List Str):Str:=Txt.join emp ks
def br (ks:List Str):List Nat:=(ks.map li).flatten
def IU (ks:List Str):li (cat ks)=br ks:=by
 unfold cat Txt.join br;rw [StrLaws.glued_eq_join]
 induction ks with
 | nil=>rfl
 | cons x r ih =>
  cases r with
  | nil =>
   show li x=_;simp
  | cons y r =>
   show li (x++emp++Str.join emp (y :: r))=_;rw [u3,u3,ih];show li x++[]++_=li x++((y :: r).map li).flatten;rw [List.append_nil]
def rz (cs:List Nat):br (cs.map mk1)=cs:=by
 unfold br;rw [List.map_map]
 induction cs with
 | nil=>rfl
 | cons c r ih =>
  rw [zar,List.flatten_cons,ih];rfl
def vS (ks:List Str) (x:Str):br (ks++[x])=br ks++li x:=by
 unfold br;rw [zaC,List.flatten_append];simp
def rA (ks:List Str):(ks.map (·.length)).sum=(br ks).length:=by
 unfold br;rw [List.length_flatten,List.map_map];rfl
def Sub (x z:List Nat):Prop:=∀ c∈x,c∈z
def i5 {α β:Type} (f:α->β):∀ (ys:List α) (k:Nat),(ys.map f).eraseIdx k=(ys.eraseIdx k).map f
 | [],_=>rfl
 | _ :: _,0=>rfl
 | y :: ys,k+1=>by
  show f y :: (ys.map f).eraseIdx k=f y :: (ys.eraseIdx k).map f;rw [i5 f ys k]
def GW {n:Nat} {i:Int} (h0:0<=i) (h1:i < (n:Int)):seqIndex? i n=some i.toNat:=PySem.seqIndex_of h0 h1
def nO:∀ (us:List Nat) (d:Nat) (h:d < us.length),([us[d]]++us.eraseIdx d).Perm us
 | [],_,h=>absurd h (Nat.not_lt_zero _)
 | a :: r,0,_=>List.Perm.refl _
 | a :: r,d+1,h=>by
  have h':d < r.length:=Nat.lt_of_succ_lt_succ h;show (r[d] :: a :: r.eraseIdx d).Perm (a :: r);exact (List.Perm.swap _ _ _).trans (List.Perm.cons a (nO r d h'))
section
variable {prog:Program} {w:World} {A:Around} {E:Value->Shared->Prop} {s:Shared}
structure ZApart (z TI TO i1 i2:Addr):Prop where
 TIz:TI≠z
 TOz:TO≠z
 i1z:i1≠z
 i2z:i2≠z
 TITO:TI≠TO
 TIi1:TI≠i1
 TIi2:TI≠i2
 TOi1:TO≠i1
 TOi2:TO≠i2
 i12:i1≠i2
end
def sR (n:Nat):ZApart (n+4) (n+2) (n+3) n (n+1):=⟨(by show (n+2:Nat)≠(n+4:Nat); omega),(by show (n+3:Nat)≠(n+4:Nat); omega),(by show (n:Nat)≠(n+4:Nat); omega),(by show (n+1:Nat)≠(n+4:Nat); omega),(by show (n+2:Nat)≠(n+3:Nat); omega),(by show (n+2:Nat)≠(n:Nat); omega),(by show (n+2:Nat)≠(n+1:Nat); omega),(by show (n+3:Nat)≠(n:Nat); omega),(by show (n+3:Nat)≠(n+1:Nat); omega),(by show (n:Nat)≠(n+1:Nat); omega)⟩
section
variable {X:Cx} {K:PySem.W.Frag}
def sn:V->List V->Hp->VK->Prop:=fun x xs H Q=>∃ z y,x=.str z/\xs=[.str y]/\Q (.bl (Txt.startswith z y)) H
def uY:MtR X "str.startswith" sn:=by
 intro pins s σ H x xs v us Q I rx rs h;obtain ⟨z,y,rfl,rfl,q⟩:=h;obtain ⟨t,rfl⟩:=rx;obtain ⟨u,rfl,ru⟩:=bW rs;obtain ⟨t2,rfl⟩:=ru;exact SC.startswith ⟨.bl _,H,I,rfl,q⟩
def iB (z y:Str):Bool:=!(Builtin.Str.occurrences z y 0 z.length 1).isEmpty
def J4 (neg:Bool):R2:=fun x y H Q=>∃ a b,x=.str a/\y=.str b/\Q (.bl (if neg then !iB b a else iB b a)) H
def op_inS:OpR X (compareOp .In) (J4 false):=by
 intro pins s σ H x y v u Q I rx ry h;obtain ⟨a,b,rfl,rfl,q⟩:=h;obtain ⟨t,rfl⟩:=rx;obtain ⟨t2,rfl⟩:=ry;exact PySem.P.in_str ⟨.bl _,H,I,rfl,q⟩
end
section
open PySem.SeqAt
end
def eW:∀ (names:List (Str × NameKind)) (n:Nat) (acc:List (Str × Addr)),cellsFrom n names acc=cellsFrom n names []++acc
 | [],_,_=>rfl
 | (x,k) :: r,n,acc=>by
  unfold cellsFrom;split
  ·rw [eW r (n+1) ((x,n) :: acc),eW r (n+1) [(x,n)],zaD];rfl
  ·exact eW r n acc
def gJ:∀ (names:List (Str × NameKind)) (n:Nat) (acc:List (Str × Addr)) {x:Str} {c:Addr},(x,c)∈cellsFrom n names acc->(x,c)∈acc\/(x,NameKind.cell)∈names
 | [],_,_,_,_,h=>.inl h
 | (y,k) :: r,n,acc,x,c,h=>by
  unfold cellsFrom at h;split at h
  ·rename_i hk;rcases gJ r _ _ h with h | h
   ·rcases zay.mp h with e | e
    ·have hk':k=.cell:=by simpa using hk
     have e':=(Prod.mk.inj e).1;rw [e',<- hk'];exact .inr zaq
    ·exact .inl e
   ·exact .inr (zaj _ h)
  ·rcases gJ r _ _ h with h | h
   ·exact .inl h
   ·exact .inr (zaj _ h)
def fZ:∀ (names:List (Str × NameKind)) (n:Nat) (acc:List (Str × Addr)) {p:Str × Addr},p∈acc->p∈cellsFrom n names acc
 | [],_,_,_,h=>h
 | (y,k) :: r,n,acc,p,h=>by
  unfold cellsFrom;split
  ·exact fZ r _ _ (zaj _ h)
  ·exact fZ r _ _ h
def gK:∀ (names:List (Str × NameKind)) (n:Nat) (acc:List (Str × Addr)) {x:Str},(x,NameKind.cell)∈names->∃ c,(x,c)∈cellsFrom n names acc
 | [],_,_,_,h=>by simp at h
 | (y,k) :: r,n,acc,x,h=>by
  unfold cellsFrom;rcases zay.mp h with e | e
  ·cases e;rw [if_pos (by rfl)];exact ⟨n,fZ r _ _ zaq⟩
  ·split
   ·exact gK r _ _ e
   ·exact gK r _ _ e
def qM {α:Type}:∀ {a b:List (Str × α)} {x:Str} {c:α},(a++b).lookup x=some c->a.lookup x=some c\/(a.lookup x=none/\b.lookup x=some c)
 | [],_,_,_,h=>.inr ⟨rfl,h⟩
 | (n,v) :: r,b,x,c,h=>by
  rw [zaZ,zas] at h;rw [zas];cases e:x == n with
  | true=>rw [e] at h; exact .inl h
  | false=>rw [e] at h; exact qM h
def kS {α:Type}:∀ {a b:List (Str × α)} {x:Str} {c:α},a.lookup x=some c->(a++b).lookup x=some c
 | [],_,_,_,h=>by simp at h
 | (n,v) :: r,b,x,c,h=>by
  rw [zaZ,zas];rw [zas] at h;cases e:x == n with
  | true=>rw [e] at h; exact h
  | false=>rw [e] at h; exact kS h
def jY {α:Type}:∀ {a b:List (Str × α)} {x:Str} {c:α},a.lookup x=none->b.lookup x=some c->(a++b).lookup x=some c
 | [],_,_,_,_,h=>h
 | (n,v) :: r,b,x,c,hn,h=>by
  rw [zaZ,zas];rw [zas] at hn;cases e:x == n with
  | true=>rw [e] at hn; cases hn
  | false=>rw [e] at hn; exact jY hn h
abbrev aN (X:Cx) (scope:Scope) (ns:List Str) (C:Addr) (cl:List (Str × Addr)) (s₀:Shared) (H₀:Hp) (fp:List Addr):Cx :=
 { X with N:=ns,s₀:=s₀,H₀:=H₀,env:=compEnvC scope cl C X.env,outer:=X.stack,ex:=fp,fn:=fun x=>scope.names.lookup x == some NameKind.cell,pn:=[],xe:=fun _ _=>False }
structure BlkOkC (X:Cx) (scope:Scope) (ns:List Str) (js:List (Option Nat)):Prop where
 kind:scope.kind=.function
 uniq:∀ y∈scope.names,y.2=.cell->scope.names.lookup y.1=some .cell
 names:∀ y∈scope.names,y.2=.local->scope.names.lookup y.1=some .local
 free:∀ y∈scope.names,y.2=.free->X.env.kindOf y.1=some .cell\/X.env.kindOf y.1=some .free
 nd:ns.Nodup
 len:js.length=ns.length
 out:∀ (i:Nat) (x:Str) (j:Nat),ns[i]?=some x->js[i]?=some (some j)->X.N[j]?=some x/\scope.names.lookup x=some .free
def sQ (N:List Str) (sc scope:Scope) (ns:List Str) (js:List (Option Nat)):Bool :=
 decide (scope.kind=.function) && scope.names.all (fun y=>decide (y.2=.cell->scope.names.lookup y.1=some .cell)) && scope.names.all (fun y=>decide (y.2=.local->scope.names.lookup y.1=some .local)) &&
 scope.names.all (fun y=>decide (y.2=.free->sc.names.lookup y.1=some .cell\/sc.names.lookup y.1=some .free)) && decide ns.Nodup && decide (js.length=ns.length) &&
 (List.range ns.length).all (fun i=>match js[i]?,ns[i]? with
  | some (some j),some x=>decide (N[j]?=some x) && decide (scope.names.lookup x=some .free)
  | _,_=>true)
def EL {N:List Str} {scope:Scope} {ns:List Str} {js:List (Option Nat)} (h7:∀ i < ns.length,(match js[i]?,ns[i]? with
  | some (some j),some x=>decide (N[j]?=some x) && decide (scope.names.lookup x=some .free)
  | _,_=>true)=true) {i:Nat} {x:Str} {j:Nat} (e1:ns[i]?=some x) (e2:js[i]?=some (some j)):N[j]?=some x/\scope.names.lookup x=some .free:=by
 have q:=h7 i (zah.mp e1).1;rw [e1,e2] at q;simpa using q
def BlkOkC.of {X:Cx} {scope:Scope} {ns:List Str} {js:List (Option Nat)} {N0:List Str} {sc0:Scope} (hN:X.N=N0) (hS:X.env.scope=sc0) (h:sQ N0 sc0 scope ns js=true):BlkOkC X scope ns js:=by
 unfold sQ at h;simp only [Bool.and_eq_true,List.all_eq_true,decide_eq_true_eq,List.mem_range] at h;obtain ⟨⟨⟨⟨⟨⟨h1,h2⟩,h3⟩,h4⟩,h5⟩,h6⟩,h7⟩:=h;refine ⟨h1,fun y hy=>h2 y hy,fun y hy=>h3 y hy,fun y hy hk=>?_,h5,h6,fun i x j e1 e2=>?_⟩
 ·have q:=h4 y hy hk;rw [<- hS] at q;exact q
 ·rw [hN];exact EL h7 e1 e2
section
variable {M:Model} {A:Around} {E:Value->Shared->Prop} {s:Shared}
def iT {scope:Scope} {globals:Addr} {closure:List (Str × Addr)} {qual:Str} {outer:Env} {builtins:Addr} {Q:Env->Shared->Prop}
  (hQ:Q (newEnv scope s.heap.objs.size globals (cellsFrom (s.heap.objs.size+1) scope.names closure) qual none .none (some outer) builtins) { s with heap:=pushCells (s.heap.push { cls:=.type "dict",data:=.dict #[] }) scope.names }) :
  wpAny M A (newFunctionEnv scope globals closure [] qual none .none (some outer) builtins) Q E s:=by
 simp only [newFunctionEnv,Option.isSome_some,if_true];refine zam (wpAny_alloc ?_);refine zam (wpAny_layCells _ (fun name kind cells=>by cases hkc:kind == NameKind.cell <;> simp [hkc]) _ _ _ _ ?_);rw [show ({ s with heap:=s.heap.push { cls:=.type "dict",data:=.dict #[] } }:Shared).heap.objs.size=s.heap.objs.size+1 from Heap.size_push ..];rw [List.forIn_nil];exact zam (zaT (zaT hQ))
end
section
variable {X:Cx} {elt tg iter:Expr} {ifs:List Expr} {scope:Scope} {pos:Pos} {ns:List Str} {js:List (Option Nat)} {wi:TI} {g:TG} {tt:TT} {te:TE}
def xx {pins:List (Addr × Obj)} {s3:Shared} {σ:St} {H3:Hp} {fp:List Addr} {h₁:Heap} {tk:Nat} (B:BlkOkC X scope ns js) (I3:Inv X pins σ H3 s3)
  (f3:∀ b∈fp,gX X pins H3 b) (lt3:∀ b∈fp,b < s3.heap.objs.size) (hns:h₁.Ns s3.heap.objs.size (fun _=>none)) (old:∀ b u,s3.heap.get? b=some u->h₁.get? b=some u)
  (cok:CellsOk h₁ (s3.heap.objs.size+1) (cellsFrom (s3.heap.objs.size+1) scope.names [])) :
  Inv (aN X scope ns s3.heap.objs.size (cellsFrom (s3.heap.objs.size+1) scope.names (dS X.env scope.names)) s3 H3 fp) [] (eY js σ) H3 { s3 with heap:=h₁,toks:=tk }:=by
 rw [eW];have hmem:∀ {x:Str} {c:Addr},(x,c)∈cellsFrom (s3.heap.objs.size+1) scope.names []->scope.names.lookup x=some .cell:=fun {x c} h=>by
  rcases gJ _ _ _ h with h | h
  ·simp at h
  ·exact B.uniq _ h rfl
 have hhas:∀ {x:Str},scope.names.lookup x=some .cell->∃ c,(cellsFrom (s3.heap.objs.size+1) scope.names []).lookup x=some c:=fun {x} h=>by
  obtain ⟨c,hc⟩:=gK scope.names (s3.heap.objs.size+1) [] (zaU h);exact gH hc
 generalize cellsFrom (s3.heap.objs.size+1) scope.names []=CS at cok hmem hhas;have has:∀ y∈scope.names,y.2=.free->∃ c,X.env.cells.lookup y.1=some c:=fun y hy hk=>I3.ok.has y.1 (B.free y hy hk);have look:∀ {n:Str} {c:Addr},(CS++dS X.env scope.names).lookup n=some c->(CS.lookup n=some c/\h₁.IsCell c none/\s3.heap.objs.size+1<=c)\/(CS.lookup n=none/\X.env.cells.lookup n=some c/\c < s3.heap.objs.size):=fun {n c} e=>by
  rcases qM e with e | ⟨e1,e2⟩
  ·exact .inl ⟨e,cok.empty n c (zaU e)⟩
  ·have e3:=pF has e2;obtain ⟨v,hv⟩:=I3.cell n c e3;exact .inr ⟨e1,e3,hv.lt⟩
 refine ⟨⟨I3.ok.mod,B.kind,I3.ok.glob,I3.ok.blt,zav _,fun y z c h1 h2=>?_,fun y hy=>?_,fun y c hf h=>?_,I3.ok.hd,I3.ok.frames,.inl rfl,fun b hb=>?_,I3.bs,zau I3.ok.bsz I3.sz,
   fun b o e hb=>?_,fun b hb z=>?_,I3.stack,I3.stkFree⟩,
  rfl,I3.bare,Un.kept old,⟨_,hns,fun i x v h1 h2 h3=>?_⟩,fun y c h=>?_,I3.fresh,fun y c h=>?_,fun p hp=>absurd (show p∈([]:List (Addr × Obj)) from hp) (by simp),I3.hok.kept old,?_⟩
 ·rcases look h1 with ⟨a1,_,a3⟩ | ⟨_,a2,a3⟩ <;> rcases look h2 with ⟨b1,_,b3⟩ | ⟨_,b2,b3⟩
  ·exact name_of_addr cok.apart (zaU a1) (zaU b1)
  ·exact absurd (zag (zag b3 (Nat.le_succ _)) a3) (zaI _)
  ·exact absurd (zag (zag a3 (Nat.le_succ _)) b3) (zaI _)
  ·exact I3.ok.inj y z c a2 b2
 ·have hf:scope.names.lookup y=some .cell\/scope.names.lookup y=some .free:=by
   rcases hy with hy | hy
   ·rcases jS (env:=X.env) hy with q | q
    ·exact .inl q
    ·exact .inr q.1
   ·rcases jS (env:=X.env) hy with q | q
    ·exact .inr q
    ·exact .inr q.1
  show ∃ c,(CS++dS X.env scope.names).lookup y=some c;rcases hf with hf | hf
  ·obtain ⟨c,hc⟩:=hhas hf;exact ⟨c,kS hc⟩
  ·obtain ⟨c,hc⟩:=rl (env:=X.env) (zaU hf);cases e:CS.lookup y with
   | none=>exact ⟨c,jY e hc⟩
   | some d=>exact ⟨d,kS e⟩
 ·rcases look h with ⟨_,_,a3⟩ | ⟨a1,_,_⟩
  ·show s3.heap.objs.size<=c;omega
  ·have hf':(scope.names.lookup y == some NameKind.cell)=true:=hf;obtain ⟨d,hd⟩:=hhas (by simpa using hf');rw [a1] at hd;cases hd
 ·refine ⟨zaw (lt3 b hb),fun x c e=>?_⟩;rcases look e with ⟨_,_,a3⟩ | ⟨_,a2,_⟩
  ·have:=lt3 b hb;intro z;subst z;exact zaI _ (zag (zag this (Nat.le_succ _)) a3)
  ·exact (f3 b hb).2.2.2.2.1 x c a2
 ·rcases (f3 b hb).2.2.2.1 with z | z
  ·exact I3.ok.noex b o e z
  ·exact absurd (zag (zag (zal e) I3.ok.bsz) z) (zaI _)
 ·rcases zay.mp (I3.stkSub b z) with q | q
  ·exact (f3 b hb).2.1 q
  ·exact (f3 b hb).2.2.1 q
 ·have h2':(js.map fun j=>match j with | some j=>(σ[j]?).join | none=>none)[i]?=some (some v):=h2;rw [zao] at h2';obtain ⟨j,hj,hσ⟩:∃ j,js[i]?=some (some j)/\σ[j]?=some (some v):=by
   cases e:js[i]? with
   | none=>rw [e] at h2'; simp at h2'
   | some oj =>
    rw [e] at h2';cases oj with
    | none=>simp at h2'
    | some j =>
     refine ⟨j,rfl,?_⟩;have q:(σ[j]?).join=some v:=by simpa using h2'
     cases e2:σ[j]? with
     | none=>rw [e2] at q; simp at q
     | some ov =>
      rw [e2] at q;simp at q;rw [q]
  obtain ⟨hN,hfr⟩:=B.out i x j h1 hj;have hf:=B.free (x,.free) (zaU hfr) rfl;have hf':X.env.kindOf x=some .cell\/X.env.kindOf x=some .free:=hf;obtain ⟨m,hn,hl⟩:=I3.loc;obtain ⟨u,r,l⟩:=hl j x v hN hσ (by
   rcases hf' with z | z
   ·exact .inr (.inl z)
   ·exact .inr (.inr z))
  refine ⟨u,r,?_⟩;rcases l with ⟨hk,_⟩ | ⟨hk,c,hc,hcell⟩
  ·rcases hf' with z | z
   ·rw [z] at hk; cases hk
   ·rw [z] at hk; cases hk
  ·obtain ⟨c',hc'⟩:=rl (env:=X.env) (zaU hfr);have e':=pF has hc';rw [hc] at e';cases e';obtain ⟨o,ho,hd⟩:=hcell;have hno:CS.lookup x=none:=by
    cases e:CS.lookup x with
    | none=>rfl
    | some d =>
     have q:=hmem (zaU e);rw [hfr] at q;cases q
   exact .inr ⟨ni (env:=X.env) hfr,c,jY hno hc',⟨o,old c o ho,hd⟩⟩
 ·rcases look h with ⟨_,a2,_⟩ | ⟨_,a2,_⟩
  ·exact ⟨_,a2⟩
  ·obtain ⟨v,o,ho,hd⟩:=I3.cell y c a2;exact ⟨v,o,old c o ho,hd⟩
 ·rcases look h with ⟨_,_,a3⟩ | ⟨_,a2,_⟩
  ·exact I3.hok.fresh (by omega)
  ·exact I3.freeC y c a2
 ·show (js.map _).length=ns.length;rw [zad];exact B.len
def qP {pins:List (Addr × Obj)} {s2:Shared} {σ:St} {H2:Hp} {Qv:VK} {J:It} {fp:List Addr} {it:Addr} {tn:Nat->Heap->Prop} {RR:Value->Addr->Result->Shared->Prop}
  (B:BlkOkC X scope ns js) (hc:X.calm=true) (I2:Inv X pins σ H2 s2) (T:Turn X.prog X.w X.K tg J fp it tn) (st2:tn 0 s2.heap) (f2:∀ b∈fp,gX X pins H2 b)
  (hg:∀ C cl s₀ H₀ fp,PG (aN X scope ns C cl s₀ H₀ fp) tg g) (ht:∀ C cl s₀ H₀ fp,PTs (aN X scope ns C cl s₀ H₀ fp) ifs tt) (he:∀ C cl s₀ H₀ fp,PE (aN X scope ns C cl s₀ H₀ fp) elt te)
  (hw:∀ D,H2 D=none->C7 J g tt te (eY js σ) H2 D Qv)
  (hRR:∀ D C s' H',Inv X pins σ H' s'->Qv (.ref D) H'->(∃ m,s'.heap.Ns C m)->H' C=none->C≠X.env.locals->X.s₀.heap.objs.size<=C->(∀ x c,X.env.cells.lookup x=some c->c≠C)->(∀ p∈X.pn++pins,p.1≠C)->RR (.ref D) C (.ok .next) s') :
  wpAny (model X.prog X.w) X.A (newList []) (fun acc s₃=>wpAny (model X.prog X.w) X.A (newFunctionEnv scope X.env.globals (dS X.env scope.names) [] X.env.qual none .none (some X.env)) (fun cenv s₄ =>
   codeAny (model X.prog X.w) X.A (.compStart (.ListComp elt [⟨tg,iter,ifs,0⟩] scope pos) 0 (.ref it) acc { cenv with scope:=relabel scope X.env }) (RR acc cenv.locals) s₄) X.xe s₃) X.xe s2:=by
 refine wpAny_newObj_type (iT ?_)
 dsimp only
 have I3:Inv X pins σ (upd H2 s2.heap.objs.size (.lst [])) { s2 with heap:=s2.heap.push { cls:=.type "list",data:=.seq ([]:List Value).toArray },toks:=s2.toks }:=I2.lnew .nil (Nat.zero_le _);generalize hs3:({ s2 with heap:=s2.heap.push { cls:=.type "list",data:=.seq ([]:List Value).toArray },toks:=s2.toks }:Shared)=s3 at I3;have e3:s3.heap=s2.heap.push { cls:=.type "list",data:=.seq ([]:List Value).toArray }:=by rw [<- hs3]
 have k3:∀ b u,s2.heap.get? b=some u->s3.heap.get? b=some u:=fun b u e=>by rw [e3]; exact zaf _ e
 have sz3:s3.heap.objs.size=s2.heap.objs.size+1:=by rw [e3,Heap.size_push]
 have hD:H2 s2.heap.objs.size=none:=I2.fresh;obtain ⟨h₁,hh₁⟩:∃ h₁,h₁=pushCells (s3.heap.push { cls:=.type "dict",data:=.dict #[] }) scope.names:=⟨_,rfl⟩;have old:∀ b u,s3.heap.get? b=some u->h₁.get? b=some u:=fun b u e=>by
  rw [hh₁];exact pushCells_keeps _ _ b u (zaf _ e)
 have hns:h₁.Ns s3.heap.objs.size (fun _=>none):=by
  rw [hh₁];exact (Heap.Ns.new s3.heap (.type "dict")).keeps (pushCells_keeps _ _)
 have cok:CellsOk h₁ (s3.heap.objs.size+1) (cellsFrom (s3.heap.objs.size+1) scope.names []):=by
  have q:=cellsFrom_ok scope.names (s3.heap.push { cls:=.type "dict",data:=.dict #[] }) (s3.heap.objs.size+1) [] ⟨fun _ _ hm=>(nomatch hm),List.Pairwise.nil⟩ (by rw [Heap.size_push]; exact zav _);rw [Heap.size_push,<- hh₁] at q;exact q
 have obj2:∀ b∈fp,b < s2.heap.objs.size:=fun b hb=>let ⟨o,e,_⟩:=T.obj 0 _ st2 b hb; zal e;have f3:∀ b∈fp,gX X pins (upd H2 s2.heap.objs.size (.lst [])) b:=fun b hb=>⟨by rw [aO (zaw (obj2 b hb))]; exact (f2 b hb).1,(f2 b hb).2⟩;have lt3:∀ b∈fp,b < s3.heap.objs.size:=fun b hb=>by rw [sz3]; exact Nat.lt_succ_of_lt (obj2 b hb)
 obtain ⟨W,⟨m0,w0⟩,turn⟩:=hw _ hD;have J0:=fun tk=>xx (tk:=tk) B I3 f3 lt3 hns old cok;have has:∀ y∈scope.names,y.2=.free->∃ c,X.env.cells.lookup y.1=some c:=fun y hy hk=>I2.ok.has y.1 (B.free y hy hk);have stat:∀ {H':Hp},(∀ b∈fp,H' b=none)->∀ b∈fp,gX (aN X scope ns s3.heap.objs.size (cellsFrom (s3.heap.objs.size+1) scope.names (dS X.env scope.names)) s3 (upd H2 s2.heap.objs.size (.lst [])) fp) [] H' b:=fun hn b hb =>
  ⟨hn b hb,zaw (lt3 b hb),(J0 0).ok.exfs b hb,.inl hb,fun x c e=>(J0 0).ok.exf b hb |>.2 x c e,fun p hp=>absurd (show p∈([]:List (Addr × Obj)) from hp) (by simp)⟩
 have fin:∀ {τ:St} {H':Hp} {s':Shared},Inv (aN X scope ns s3.heap.objs.size (cellsFrom (s3.heap.objs.size+1) scope.names (dS X.env scope.names)) s3 (upd H2 s2.heap.objs.size (.lst [])) fp) [] τ H' s'->Qv (.ref s2.heap.objs.size) H'->RR (.ref s2.heap.objs.size) s3.heap.objs.size (.ok .next) s':=fun {τ H' s'} I6 q=>by
  have u1:Un (frs X.stack) fp H2 (upd H2 s2.heap.objs.size (.lst [])) s2.heap s3.heap:=Un.laid k3 (zav _) hD;have os3:s3.os=s2.os:=by rw [<- hs3]
  have I7:Inv X pins σ H' s':=I2.call' (ch:=fp) (I6.os.trans os3) (u1.trans I6.base) I6.hok I6.bare fun b hb=>⟨(f2 b hb).2.2.2.1,(f2 b hb).2.1,(f2 b hb).2.2.2.2.1,(f2 b hb).2.2.2.2.2⟩;have le2:s2.heap.objs.size<=s3.heap.objs.size:=by rw [sz3]; exact Nat.le_succ _
  refine hRR _ _ s' H' I7 q ?_ I6.free (Nat.ne_of_gt (zag I2.lt le2)) (zau I2.sz le2) (fun x c e z=>?_) fun p hp z=>?_
  ·obtain ⟨m,hn,_⟩:=I6.loc;exact ⟨m,hn⟩
  ·obtain ⟨v,hv⟩:=I2.cell x c e;exact absurd (zag hv.lt (by rw [z]; exact le2)) (zaI _)
  ·exact absurd (zag (zal (I2.pin p hp).1) (by rw [z]; exact le2)) (zaI _)
 rw [<- e3,<- hh₁];have loop:∀ tk,codeAny (model X.prog X.w) X.A (.compLoop (.ListComp elt [⟨tg,iter,ifs,0⟩] scope pos) 0 (.ref it) (.ref s2.heap.objs.size) (compEnvC scope (cellsFrom (s3.heap.objs.size+1) scope.names (dS X.env scope.names)) s3.heap.objs.size X.env))
   (RR (.ref s2.heap.objs.size) s3.heap.objs.size) { s3 with heap:=h₁,toks:=tk }:=fun tk=>by
  refine codeAny_loop rfl (fun n s'=>∃ i τ H',Inv (aN X scope ns s3.heap.objs.size (cellsFrom (s3.heap.objs.size+1) scope.names (dS X.env scope.names)) s3 (upd H2 s2.heap.objs.size (.lst [])) fp) [] τ H' s'/\tn i s'.heap/\(∀ b∈fp,H' b=none)/\W i n τ H') (fun n s5 hI=>?_) m0
   ⟨0,_,_,J0 tk,T.keep _ _ _ st2 fun b _ o e=>old b o (k3 b o e),fun b hb=>(f3 b hb).1,w0⟩
  obtain ⟨i,τ,H5,I5,st5,fr5,w5⟩:=hI;show wpAny _ X.A ((compTurn (.ListComp elt [⟨tg,iter,ifs,0⟩] scope pos) 0 (.ref it) (.ref s2.heap.objs.size) (compEnvC scope (cellsFrom (s3.heap.objs.size+1) scope.names (dS X.env scope.names)) s3.heap.objs.size X.env)).onRaise (fun x=>do noteFrame x (compEnvC scope (cellsFrom (s3.heap.objs.size+1) scope.names (dS X.env scope.names)) s3.heap.objs.size X.env); theTreesLotGoes x)) _ _ s5;refine wpAny_noted ?_;rw [compTurn_list];refine zam (wpAny_standAt (zam ?_));rcases turn i n τ H5 w5 with ⟨stop,qn⟩ | ⟨go,N,hN,step⟩
  ·refine thn (T.done (aN X scope ns s3.heap.objs.size (cellsFrom (s3.heap.objs.size+1) scope.names (dS X.env scope.names)) s3 (upd H2 s2.heap.objs.size (.lst [])) fp) rfl rfl rfl hc i [] s5 τ H5 _ I5 (stat fr5) st5 stop) fun r s6 ⟨hr,I6⟩=>?_;subst hr;exact zaT (fin I6 qn)
  ·refine thn (T.item (aN X scope ns s3.heap.objs.size (cellsFrom (s3.heap.objs.size+1) scope.names (dS X.env scope.names)) s3 (upd H2 s2.heap.objs.size (.lst [])) fp) rfl rfl rfl hc i [] s5 τ H5 _ I5 (stat fr5) st5 go) fun r s6 ⟨u,hr,h6⟩=>?_;subst hr
   dsimp only
   refine zam (thn h6 fun _ s7 ⟨x,H7,I7,r7,y7,st7,fr7⟩=>?_);have I7':=I7.pinned (stat fr7) (T.obj _ _ st7);have back:∀ {τ9:St} {H9:Hp} {s9:Shared},Inv (aN X scope ns s3.heap.objs.size (cellsFrom (s3.heap.objs.size+1) scope.names (dS X.env scope.names)) s3 (upd H2 s2.heap.objs.size (.lst [])) fp) ([]++kP fp s7.heap) τ9 H9 s9 ->
     Inv (aN X scope ns s3.heap.objs.size (cellsFrom (s3.heap.objs.size+1) scope.names (dS X.env scope.names)) s3 (upd H2 s2.heap.objs.size (.lst [])) fp) [] τ9 H9 s9/\tn (i+1) s9.heap/\∀ b∈fp,H9 b=none:=fun {τ9 H9 s9} I9=>by
    refine ⟨I9.unpinned,T.keep _ _ _ st7 fun b hb o e=>(I9.pin (b,o) (List.mem_append_right _ (List.mem_append_right _ (hR hb e)))).1,fun b hb=>?_⟩;obtain ⟨o,e,d⟩:=T.obj _ _ st7 b hb;exact (I9.pin (b,o) (List.mem_append_right _ (List.mem_append_right _ (hR hb e)))).2.1
   refine zam (thF (hg _ _ _ _ _ _ s7 τ H7 x u _ I7' r7 (step x H7 y7)) fun _ s8 ⟨τ8,H8,I8,q8⟩=>?_);refine zam (thF (ht _ _ _ _ _ _ s8 τ8 H8 _ I8 q8) fun b s9 ⟨H9,I9,q9⟩=>?_);cases b with
   | false =>
    rw [if_neg Bool.false_ne_true] at q9;obtain ⟨m',hm,w9⟩:=hN _ _ q9;obtain ⟨a1,a2,a3⟩:=back I9;exact zaT ⟨rfl,m',hm,i+1,τ8,H9,a1,a2,a3,w9⟩
   | true =>
    rw [if_pos rfl] at q9;refine zam (zam (thF (he _ _ _ _ _ _ s9 τ8 H9 _ I9 q9) fun v s10 ⟨y,H10,I10,r10,q10⟩=>?_));obtain ⟨xs,hx,hz,n10⟩:=q10;obtain ⟨m',hm,w10⟩:=hN _ _ n10;refine zam (thF (pv _ s10 τ8 H10 (.ref s2.heap.objs.size) [y] (.ref s2.heap.objs.size) [v] (fun _ H11=>W (i+1) m' τ8 H11) I10 rfl (.cons r10 .nil) ⟨_,xs,y,rfl,rfl,hx,hz,w10⟩) fun _ s11 ⟨_,H11,I11,_,q11⟩=>?_);obtain ⟨a1,a2,a3⟩:=back I11;exact zaT (zaT ⟨rfl,m',hm,i+1,τ8,H11,a1,a2,a3,q11⟩)
 have hst1:tn 0 h₁:=T.keep _ _ _ st2 fun b _ o e=>old b o (k3 b o e);subst hs3;exact codeAny_compStart_list (loop _) (T.self _ 0 _ _ _ hst1 (loop _))
def uR (B:BlkOkC X scope ns js) (hc:X.calm=true) (hi:PI X tg iter wi)
  (hg:∀ C cl s₀ H₀ fp,PG (aN X scope ns C cl s₀ H₀ fp) tg g) (ht:∀ C cl s₀ H₀ fp,PTs (aN X scope ns C cl s₀ H₀ fp) ifs tt) (he:∀ C cl s₀ H₀ fp,PE (aN X scope ns C cl s₀ H₀ fp) elt te)
  (hs:∀ x,foldedSetIterable iter X.env x=pure x:=by intro _; rfl):PE X (.ListComp elt [⟨tg,iter,ifs,0⟩] scope pos) (tLC wi g tt te js):=by
 intro pins s σ H Q I h;rw [eval_ListComp];have hclos:=nS (scope:=scope) (env:=X.env) (fun y hy hk=>I.ok.has y.1 (B.free y hy hk));refine wpAny_comprehension_free (use:=none) rfl hs hclos B.kind B.names (thn (hi pins s σ H _ I h) fun v s1 h1=>thn h1 fun itv s2 h2=>?_);obtain ⟨it,fp,tn,J,H2,e,I2,T,st2,f2,hw⟩:=h2;subst e;refine qP (RR:=fun acc C=>compPost (model X.prog X.w) X.A X.xe none (EP X pins σ Q) acc C) B hc I2 T st2 f2 hg ht he hw ?_;intro D C s' H' I' q hm c0 c1 c2 c3 c4;obtain ⟨m,hn⟩:=hm;exact ⟨m,hn,fun h' hs'=>⟨.ref D,H',I'.turned (t':=s'.toks) (fun b o hb e=>(hs'.2 b hb).trans e) c0 c1 (.inr c2) c3 c4,rfl,q⟩⟩
def uN {i:Nat} {x:Str} {spos pos':Pos} (hN:X.N.Nodup) (hi':X.N[i]?=some x) (hx:X.env.scope.names.lookup x=some .local) (B:BlkOkC X scope ns js) (hc:X.calm=true) (hi:PI X tg iter wi)
  (hg:∀ C cl s₀ H₀ fp,PG (aN X scope ns C cl s₀ H₀ fp) tg g) (ht:∀ C cl s₀ H₀ fp,PTs (aN X scope ns C cl s₀ H₀ fp) ifs tt) (he:∀ C cl s₀ H₀ fp,PE (aN X scope ns C cl s₀ H₀ fp) elt te)
  (hsw:swapsWith (.ListComp elt [⟨tg,iter,ifs,0⟩] scope pos) (some (.Name x pos')) spos.line X.env=pure true:=by rfl)
  (hs:∀ x,foldedSetIterable iter X.env x=pure x:=by intro _; rfl):PS X (.Assign [.Name x pos'] (.ListComp elt [⟨tg,iter,ifs,0⟩] scope pos) spos) (qm (tLC wi g tt te js) (nH i)):=by
 intro pins s σ H D I h;rw [exec_Assign_Name_used _ _ _ _ hsw];have hclos:=nS (scope:=scope) (env:=X.env) (fun y hy hk=>I.ok.has y.1 (B.free y hy hk));refine zam (wpAny_standAt (zam ?_));show wpAny _ X.A (do let _ <- comprehension (.ListComp elt [⟨tg,iter,ifs,0⟩] scope pos) scope X.env _ (newList []) false (eval iter X.env) (some (assign (.Name x pos') X.env))) _ _ s;refine zam (wpAny_mono (wpAny_comprehension_free (use:=some (assign (.Name x pos') X.env)) (Q:=fun _ s'=>SP X pins D .next s') rfl hs hclos B.kind B.names
  (thn (hi pins s σ H _ I h) fun v s1 h1=>thn h1 fun itv s2 h2=>?_)) (fun _ s' hq=>zaT (zaT hq)) fun _ _ e=>e)
 obtain ⟨it,fp,tn,J,H2,e,I2,T,st2,f2,hw⟩:=h2;subst e;refine qP (RR:=fun acc C=>compPost (model X.prog X.w) X.A X.xe (some (assign (.Name x pos') X.env)) (fun _ s'=>SP X pins D .next s') acc C) B hc I2 T st2 f2 hg ht he hw ?_;intro D' C s' H' I' q hm c0 c1 c2 c3 c4;obtain ⟨m,hn⟩:=hm;show wpAny _ X.A (assign (.Name x pos') X.env (.ref D')) _ _ _;refine wpAny_assign_Name (pj (v:=.ref D') I' hN hi' (.inl hx) rfl (fun s4 I4 ⟨a,hsb,ha⟩=>?_) (.inr hx));have ne:C≠a:=by
  rcases ha with z | z
  ·rw [z]; exact c1
  ·exact (c3 x a z).symm
 exact ⟨m,hn.sameBut hsb ne,fun h' hs'=>⟨_,H',I4.turned (t':=s4.toks) (fun b o hb e=>(hs'.2 b hb).trans e) c0 c1 (.inr c2) c3 c4,q⟩⟩
end
section
variable {X:Cx} {K:PySem.W.Frag}
def l6 (ns:List Int):∀ k,k<=ns.length->preSum (fun i=>ns.getD i 0) k=(ns.take k).sum
 | 0,_=>rfl
 | k+1,h=>by
  show preSum (fun i=>ns.getD i 0) k+ns.getD k 0=_;rw [l6 ns k (by omega),PyProof.Rows.take_sum_succ ns k (by omega)]
end
mutual
def DV (H:Hp):V->PyData->Prop
 | v,.none=>v=.non
 | v,.bool b=>v=.bl b
 | v,.int i=>v=.int i
 | v,.str x=>v=.str x
 | v,.list ds=>∃ a xs,v=.ref a/\H a=some (.lst xs)/\DVs H xs ds
 | v,.tuple ds=>∃ a xs,v=.ref a/\H a=some (.tup xs)/\DVs H xs ds
 | _,.dict _=>False
def DVs (H:Hp):List V->List PyData->Prop
 | vs,[]=>vs=[]
 | vs,d :: ds=>∃ v r,vs=v :: r/\DV H v d/\DVs H r ds
end
mutual
theorem DV.same {H H':Hp} (s:IY H H'):∀ {v:V} (d:PyData),DV H v d->DV H' v d
 | _,.none,h=>by simpa [DV] using h
 | _,.bool _,h=>by simpa [DV] using h
 | _,.int _,h=>by simpa [DV] using h
 | _,.str _,h=>by simpa [DV] using h
 | _,.list ds,h=>by
  unfold DV at h ⊢;obtain ⟨a,xs,e,h1,h2⟩:=h;exact ⟨a,xs,e,s _ _ h1,DVs.same s ds h2⟩
 | _,.tuple ds,h=>by
  unfold DV at h ⊢;obtain ⟨a,xs,e,h1,h2⟩:=h;exact ⟨a,xs,e,s _ _ h1,DVs.same s ds h2⟩
 | _,.dict _,h=>by
  unfold DV at h;exact h.elim
theorem DVs.same {H H':Hp} (s:IY H H'):∀ {vs:List V} (ds:List PyData),DVs H vs ds->DVs H' vs ds
 | _,[],h=>by
  unfold DVs at h ⊢;exact h
 | _,d :: ds,h=>by
  unfold DVs at h ⊢;obtain ⟨v,r,e,h1,h2⟩:=h;exact ⟨v,r,e,DV.same s d h1,DVs.same s ds h2⟩
end
section
variable {X:Cx} {pins:List (Addr × Obj)} {σ:St} {H:Hp} {s:Shared}
mutual
theorem DV.reads (I:Inv X pins σ H s):∀ {v:V} {u:Value} (d:PyData),DV H v d->RelV v u->∃ as,Reads s.heap u d as
 | _,_,.none,h,r=>by
  unfold DV at h;subst h;cases r;exact ⟨_,.none⟩
 | _,_,.bool b,h,r=>by
  unfold DV at h;subst h;cases r;exact ⟨_,.bool _⟩
 | _,_,.int i,h,r=>by
  unfold DV at h;subst h;obtain ⟨t,rfl⟩:=r;exact ⟨_,.int _ _⟩
 | _,_,.str x,h,r=>by
  unfold DV at h;subst h;obtain ⟨t,rfl⟩:=r;exact ⟨_,.str _ _⟩
 | _,_,.list ds,h,r=>by
  unfold DV at h;obtain ⟨a,xs,rfl,h1,h2⟩:=h;cases r;obtain ⟨its,rv,⟨o,n,e1,e2,_,e3⟩,_⟩:=I.list (SqL.of h1);obtain ⟨as,ra⟩:=DVs.reads I ds h2 rv;exact ⟨_,.list e1 e2 e3 (by simpa using ra)⟩
 | _,_,.tuple ds,h,r=>by
  unfold DV at h;obtain ⟨a,xs,rfl,h1,h2⟩:=h;cases r;obtain ⟨its,rv,⟨o,e1,e2,n,e3⟩,_⟩:=I.tuple (SqT.of h1);obtain ⟨as,ra⟩:=DVs.reads I ds h2 rv;exact ⟨_,.tuple e1 e2 e3 (by simpa using ra)⟩
 | _,_,.dict _,h,_=>by
  unfold DV at h;exact h.elim
theorem DVs.reads (I:Inv X pins σ H s):∀ {vs:List V} {us:List Value} (ds:List PyData),DVs H vs ds->Vals vs us->∃ as,ReadsAll s.heap us ds as
 | _,_,[],h,r=>by
  unfold DVs at h;subst h;cases r;exact ⟨_,.nil⟩
 | _,_,d :: ds,h,r=>by
  unfold DVs at h;obtain ⟨v,t,rfl,h1,h2⟩:=h;cases r with
  | cons ru rr =>
   obtain ⟨as,a1⟩:=DV.reads I d h1 ru;obtain ⟨bs,a2⟩:=DVs.reads I ds h2 rr;exact ⟨_,.cons a1 a2⟩
end
end
mutual
theorem pE {H:Hp}:∀ {v:V} (d:PyData),DV H v d->d.hasDict=false
 | _,.none,_=>by simp only [PyData.hasDict]
 | _,.bool _,_=>by simp only [PyData.hasDict]
 | _,.int _,_=>by simp only [PyData.hasDict]
 | _,.str _,_=>by simp only [PyData.hasDict]
 | _,.list ds,h=>by
  unfold DV at h;obtain ⟨a,xs,e,h1,h2⟩:=h;simp only [PyData.hasDict];exact ka ds h2
 | _,.tuple ds,h=>by
  unfold DV at h;obtain ⟨a,xs,e,h1,h2⟩:=h;simp only [PyData.hasDict];exact ka ds h2
 | _,.dict _,h=>by
  unfold DV at h;exact h.elim
theorem ka {H:Hp}:∀ {vs:List V} (ds:List PyData),DVs H vs ds->PyData.hasDictAll ds=false
 | _,[],_=>by simp only [PyData.hasDictAll]
 | _,d :: ds,h=>by
  unfold DVs at h;obtain ⟨v,r,e,h1,h2⟩:=h;simp only [PyData.hasDictAll,pE d h1,ka ds h2,Bool.or_self]
end
section
variable {X:Cx}
def Jg:List V->Hp->VK->Prop:=fun xs H Q=>∃ x d,xs=[x]/\DV H x d/\d.showable=true/\d.depth<=60/\d.shown.length<=sizeLine/\Q (.str d.shown) H
def vM (hg:X.A.guards=some []) (hu:X.A.units+64 < cLine):CallR X (.builtin "repr") Jg:=by
 intro pins s σ H xs us Q I r h;obtain ⟨x,d,rfl,hd,hsh,hdp,hsz,q⟩:=h;obtain ⟨u,rfl,ru⟩:=bW r;have nd:=pE d hd;obtain ⟨as,rd⟩:=DV.reads I d hd ru;cases d with
 | none =>
  unfold DV at hd;subst hd;cases ru;have e:(PyData.none).shown=("None" : Str):=PyData.shown_none;rw [e] at q;exact P.repr_of_none ⟨.str _,H,I.tok _,⟨_,rfl⟩,q⟩
 | bool b =>
  unfold DV at hd;subst hd;cases ru;have e:(PyData.bool b).shown=(if b then "True" else "False" : Str):=PyData.shown_bool b;rw [e] at q;exact P.repr_of_bool ⟨.str (if b then "True" else "False"),H,I.tok _,⟨_,rfl⟩,q⟩
 | int i =>
  unfold DV at hd;subst hd;obtain ⟨t,rfl⟩:=ru;have e:(PyData.int i).shown=((toString i:String):Str):=PyData.shown_int i;rw [e] at q;have hl:i.natAbs.log2 < 1920:=by simpa [PyData.showable] using hsh
  exact P.repr_of_int hl ⟨.str _,H,I.tok _,⟨_,rfl⟩,q⟩
 | str y =>
  unfold DV at hd;subst hd;obtain ⟨t,rfl⟩:=ru;have e:(PyData.str y).shown=reprText y:=PyData.shown_str y;rw [e] at q hsz;exact P.repr_of_str ⟨.str _,H,I.tok _,⟨_,rfl⟩,q⟩ hsz
 | list ds =>
  have hd':=hd;unfold DV at hd';obtain ⟨a,ys,rfl,_,_⟩:=hd';cases ru;exact repr_of_reads' rd hsh (PyData.noDict_hsm nd) hg (by omega) (fun _ _ e=>e) (fun h' u tk hk=>⟨.str _,H,I.kept (t':=tk) hk,⟨_,rfl⟩,q⟩) hsz
 | tuple ds =>
  have hd':=hd;unfold DV at hd';obtain ⟨a,ys,rfl,_,_⟩:=hd';cases ru;exact repr_of_reads' rd hsh (PyData.noDict_hsm nd) hg (by omega) (fun _ _ e=>e) (fun h' u tk hk=>⟨.str _,H,I.kept (t':=tk) hk,⟨_,rfl⟩,q⟩) hsz
 | dict _ =>
  unfold DV at hd;exact hd.elim
end
section
variable {prog:Program} {w:World} {A:Around} {E:Value->Shared->Prop} {s:Shared}
def sW {jt tu:Addr} {n:Nat} {vals:Array Value} {y:Value} {R:Value->Shared->Prop} (a1:s.heap.IsTupleIter jt tu n) (a2:s.heap.IsTuple tu vals) (a3:vals[n]?=some y)
  (q:∀ g,g.IsTupleIter jt tu (n+1)->Heap.SameBut jt s.heap g->R y { s with heap:=g }):wpAny (model prog w) A (Builtin.SmallTypes.nextOf (.ref jt)) R E s:=by
 obtain ⟨ob,b1,b2,b3⟩:=id a1;obtain ⟨ot,c1,_,m,c2⟩:=a2;unfold Builtin.SmallTypes.nextOf;refine zam (wpAny_callSpecial?_slot (name:=Str.ofString "__next__") a1.typeIs F.slot_tuple_iterator_next (wpAny_call_entry F.slot_tuple_iterator_next a1.typeIs F.entry_tuple_iterator_next ?_ (F.args_tuple_iterator_next_1 _)));show wpAny _ _ (field (.ref jt) 0 >>= _) _ _ s;refine zam (wpAny_field b1 b3 (x:=.ref tu) rfl ?_);show wpAny _ _ (if (Value.ref tu == Value.none)=true then _ else _) _ _ s;rw [if_neg (show ¬ ((Value.ref tu == Value.none)=true) from Bool.false_ne_true)];show wpAny _ _ (field (.ref jt) 1 >>= _) _ _ s;refine zam (wpAny_field b1 b3 (x:=.int n 0) rfl ?_);show wpAny _ _ (seqItems? (.ref tu) >>= _) _ _ s;refine zam (wpAny_seqItems c1 c2 ?_);simp only [zaL,a3];refine zam (wpAny_setField b1 b3 (by simp) (zaT ⟨y,rfl,zaT (q _ ?_ (Heap.SameBut.update ..))⟩));refine ⟨_,Heap.get?_update_self _ b1 (Obj.isFreed_of_fields (Obj.data_mapFields b3 _)),(Obj.cls_mapFields ..).trans b2,?_⟩;rw [Obj.data_mapFields b3];simp [rawInt]
def uD {jt tu:Addr} {n:Nat} {vals:Array Value} {R:Value->Shared->Prop} (hh:A.handled=none) (a1:s.heap.IsTupleIter jt tu n) (a2:s.heap.IsTuple tu vals) (a3:vals[n]?=none)
  (q:∀ g e,Heap.ExtBut jt s.heap g->(∃ o,g.get? e=some o/\o.cls=.type "StopIteration")->E (.ref e) { s with heap:=g }):wpAny (model prog w) A (Builtin.SmallTypes.nextOf (.ref jt)) R E s:=by
 obtain ⟨ob,b1,b2,b3⟩:=id a1;obtain ⟨ot,c1,_,m,c2⟩:=a2;unfold Builtin.SmallTypes.nextOf;refine zam (wpAny_callSpecial?_slot (name:=Str.ofString "__next__") a1.typeIs F.slot_tuple_iterator_next (wpAny_call_entry F.slot_tuple_iterator_next a1.typeIs F.entry_tuple_iterator_next ?_ (F.args_tuple_iterator_next_1 _)));show wpAny _ _ (field (.ref jt) 0 >>= _) _ _ s;refine zam (wpAny_field b1 b3 (x:=.ref tu) rfl ?_);show wpAny _ _ (if (Value.ref tu == Value.none)=true then _ else _) _ _ s;rw [if_neg (show ¬ ((Value.ref tu == Value.none)=true) from Bool.false_ne_true)];show wpAny _ _ (field (.ref jt) 1 >>= _) _ _ s;refine zam (wpAny_field b1 b3 (x:=.int n 0) rfl ?_);show wpAny _ _ (seqItems? (.ref tu) >>= _) _ _ s;refine zam (wpAny_seqItems c1 c2 ?_);simp only [zaL,a3];refine zam (wpAny_rule (zam (wpAny_setField b1 b3 (by simp) ?_)));show wpAny _ _ (newExc (.type "StopIteration") [] >>= _) _ _ _;refine zam ?_;simp only [newExc,newTuple];refine zam (wpAny_newObj_type ?_ (by show (0:Nat)<=_; exact Nat.zero_le _));refine zam (m:=firstArgMember _ _) (wpAny_of_eq (a:=Value.none) (by first | rfl | (simp only [firstArgMember]; rfl)) ?_);refine wpAny_newObj_type ?_;simp only [raiseNew];refine zam (wpAny_handled ?_)
 first | rw [show A.in1.handled=none from hh] | rw [hh]
 refine zam (zaT (wpAny_throw ?_));exact q _ _ (((Heap.SameBut.update ..).extBut.push _).push _) ⟨_,zan _ rfl,rfl⟩
def gC (hh:A.handled=none) (jt tu:Addr) (hne:tu≠jt) (vals:Array Value):Draws prog w A jt [jt,tu] vals.size (fun i v=>vals[i]?=some v) (fun i h=>h.IsTupleIter jt tu i/\h.IsTuple tu vals) where
 live:=fun _ _ st=>let ⟨o,ho,_⟩:=st.1; ⟨o,ho⟩
 frame:=fun _ _ _ st hk=>⟨st.1.at fun o e=>hk jt (by simp) o e,let ⟨o,ho,r⟩:=st.2; ⟨o,hk tu (by simp) o ho,r⟩⟩
 item:=fun i s Q E hi st hQ=>by
  refine sW st.1 st.2 (y:=vals[i]) (by simp [hi]) fun g st' sb=>?_;exact hQ _ g s.toks (by simp [hi]) ⟨st',let ⟨o,ho,r⟩:=st.2; ⟨o,sb.extBut _ _ hne ho,r⟩⟩ sb
 done:=fun s Q E st hE=>uD hh st.1 st.2 (by simp) hE
end
section
variable {X:Cx} {K:PySem.W.Frag}
end
section
open PySem.SeqAt
end
def Rp (H:Hp) (v:V) (txt:Str):Prop:=(∃ d,DV H v d/\d.showable=true/\d.depth<=60/\d.shown.length<=sizeLine/\txt=d.shown)\/∃ a,v=.ref a/\H a=some (.dK [])/\txt=("{}" : Str)
section
variable {X:Cx}
def G4:List V->Hp->VK->Prop:=fun xs H Q=>∃ x txt,xs=[x]/\Rp H x txt/\Q (.str txt) H
def uj (hg:X.A.guards=some []) (hu:X.A.units+64 < cLine):CallR X (.builtin "repr") G4:=by
 intro pins s σ H xs us Q I r h;obtain ⟨x,txt,rfl,hd,q⟩:=h;rcases hd with ⟨d,h1,h2,h3,h4,rfl⟩ | ⟨a,rfl,ha,rfl⟩
 ·exact vM hg hu pins s σ H _ us Q I r ⟨x,d,rfl,h1,h2,h3,h4,q⟩
 ·obtain ⟨u,rfl,ru⟩:=bW r;cases ru;obtain ⟨_,hsys,vs,kv,dd⟩:=nP I.hok ha;have hv:vs=[]:=by
   have e:=KV.length kv;exact za7.mp e.symm
  subst hv;have rd:Reads s.heap (.ref a) (.dict []) (a :: []++[]):=by
   obtain ⟨o,es,n,g1,g2,g3,_,g5,_⟩:=dd;have h0:es.toList=[]:=by
    generalize es.toList=L at g5;cases g5;rfl
   refine .dict g1 g2.1 g3 ?_ ?_
   ·rw [h0];exact .nil
   ·rw [h0];exact .nil
  have e:(PyData.dict []).shown=("{}" : Str):=by decide +kernel
  refine repr_of_reads' rd (by decide +kernel) (fun _ hm=>?_) hg (by show X.A.units+(1+1) < cLine; omega) (fun _ _ e=>e) (fun h' u tk hk=>⟨.str _,H,I.kept (t':=tk) hk,⟨_,rfl⟩,?_⟩) (by rw [e]; decide)
  ·have hm':sysModules=a:=by simpa using hm
   rw [<- hm'] at hsys;simp at hsys
  ·rw [e];exact q
end
abbrev D:=PyData
abbrev En:=List (Option D)
abbrev AS:=Addr->Prop
def dn:Nat->Nat
 | 0=>0
 | 1=>0
 | 2=>1
 | n+3=>n+3
def oW:∀ {a b:Nat},a<=b->dn a<=dn b
 | 0,_,_=>Nat.zero_le _
 | 1,_,_=>Nat.zero_le _
 | 2,2,_=>zav _
 | 2,b+3,_=>by show 1<=b+3; omega
 | a+3,b+3,h=>h
 | a+3,0,h=>by omega
 | a+3,1,h=>by omega
 | a+3,2,h=>by omega
 | 2,0,h=>by omega
 | 2,1,h=>by omega
def kD:Key->D
 | .inl i=>.int i
 | .inr x=>.str x
def FzL (K:PySem.W.Frag) (O:AS) (H:Hp) (a:Addr) (vs:List V):Prop:=(Rd H a (.lst vs)/\¬ O a)\/∀ H',SqL K H' a vs
def FzT (K:PySem.W.Frag) (O:AS) (H:Hp) (a:Addr) (vs:List V):Prop:=H a=some (.tup vs)/\¬ O a
def FzL.sq {K:PySem.W.Frag} {O:AS} {H:Hp} {a:Addr} {vs:List V} (h:FzL K O H a vs):SqL K H a vs:=h.elim (fun h=>.inl h.1) fun h=>h H
def FzT.sq {K:PySem.W.Frag} {O:AS} {H:Hp} {a:Addr} {vs:List V} (h:FzT K O H a vs):SqT K H a vs:=SqT.of h.1
def IQ (a C:Addr):Heap->Prop:=fun h=>∃ o,h.get? a=some o/\o.cls=.ref C/\∀ c,o.data≠.cls c
def TupD (K:PySem.W.Frag) (H:Hp) (O:AS) (ks:List (D × D)) (a:Addr):Prop:=(∃ (kk:List Key) (b:Bool),ks=[(.tuple (kk.map kD),.bool b)]/\H a=some (.dT [(kk,.bl b)])/\¬ O a) \/
 ∃ (x:Str) (C:Addr),ks=[(.none,.str x)]/\PySem.W.nsIn K mainGlobals x=some (some (.ref C))/\H a=some (.ext (IQ a C))/\¬ O a
def TupD.to {K:PySem.W.Frag} {H H':Hp} {O O':AS} {ks:List (D × D)} {a:Addr} (h:TupD K H O ks a) (k:∀ o,H a=some o->¬ O a->H' a=some o/\¬ O' a):TupD K H' O' ks a:=by
 rcases h with ⟨kk,b,h1,h2,h3⟩ | ⟨x,C,h1,h0,h2,h3⟩
 ·obtain ⟨g1,g2⟩:=k _ h2 h3;exact .inl ⟨kk,b,h1,g1,g2⟩
 ·obtain ⟨g1,g2⟩:=k _ h2 h3;exact .inr ⟨x,C,h1,h0,g1,g2⟩
mutual
def Ow (K:PySem.W.Frag) (O:AS) (H:Hp):D->Nat->V->AS->Prop
 | .none,_,v,_=>v=.non
 | .bool b,_,v,_=>v=.bl b
 | .int i,_,v,_=>v=.int i
 | .str x,_,v,_=>v=.str x
 | .tuple ts,d,v,F=>∃ a vs,v=.ref a/\((d=0/\FzT K O H a vs/\Ows K O H ts 0 vs F)\/(d≠0/\H a=some (.tup vs)/\F a/\∃ F':AS,(∀ b,F' b->F b/\b≠a)/\Ows K O H ts (dn d) vs F'))
 | .list ts,d,v,F=>∃ a vs,v=.ref a/\((d=0/\FzL K O H a vs/\Ows K O H ts 0 vs F)\/(d≠0/\H a=some (.lst vs)/\F a/\∃ F':AS,(∀ b,F' b->F b/\b≠a)/\Ows K O H ts (dn d) vs F'))
 | .dict ks,d,v,F=>∃ a vs,v=.ref a/\((d=0/\H a=some (.dK vs)/\¬ O a/\Owd K O H ks 0 vs F)\/(d≠0/\H a=some (.dK vs)/\F a/\∃ F':AS,(∀ b,F' b->F b/\b≠a)/\Owd K O H ks (dn d) vs F')\/(d=0/\TupD K H O ks a))
def Ows (K:PySem.W.Frag) (O:AS) (H:Hp):List D->Nat->List V->AS->Prop
 | [],_,vs,_=>vs=[]
 | t :: ts,d,vs,F=>∃ v r,∃ F1 F2:AS,vs=v :: r/\(∀ b,F1 b->F b)/\(∀ b,F2 b->F b)/\(∀ b,F1 b->¬ F2 b)/\Ow K O H t d v F1/\Ows K O H ts d r F2
def Owd (K:PySem.W.Frag) (O:AS) (H:Hp):List (D × D)->Nat->List (Key × V)->AS->Prop
 | [],_,vs,_=>vs=[]
 | (k,t) :: ts,d,vs,F=>∃ q v r,∃ F1 F2:AS,vs=(q,v) :: r/\k=kD q/\(∀ b,F1 b->F b)/\(∀ b,F2 b->F b)/\(∀ b,F1 b->¬ F2 b)/\Ow K O H t d v F1/\Owd K O H ts d r F2
end
section
variable {K:PySem.W.Frag} {O O':AS} {H H':Hp}
def Rd.mv {a:Addr} {u:HO} (hk:∀ o,H a=some o->H' a=some o) (h:Rd H a u):Rd H' a u:=by
 rcases h with h | ⟨o,h⟩
 ·exact .inl (hk _ h)
 ·exact .inr ⟨o,hk _ h⟩
def Rd.there {a:Addr} {u:HO} (h:Rd H a u):H a≠none:=by
 rcases h with h | ⟨o,h⟩ <;> rw [h] <;> exact fun z=>nomatch z
structure Mv (O O':AS) (G:AS) (H H':Hp):Prop where
 k:∀ a o,H a=some o->(¬ O a\/G a)->H' a=some o
 o:∀ a,O' a->O a\/H a=none
def FzL.mv {G:AS} {a:Addr} {vs:List V} (m:Mv O O' G H H') (h:FzL K O H a vs):FzL K O' H' a vs:=by
 rcases h with ⟨h,n⟩ | h
 ·refine .inl ⟨h.mv fun o e=>m.k _ _ e (.inl n),fun z=>?_⟩;rcases m.o _ z with z | z
  ·exact n z
  ·exact h.there z
 ·exact .inr h
def FzT.mv {G:AS} {a:Addr} {vs:List V} (m:Mv O O' G H H') (h:FzT K O H a vs):FzT K O' H' a vs:=by
 obtain ⟨h,n⟩:=h;refine ⟨m.k _ _ h (.inl n),fun z=>?_⟩;rcases m.o _ z with z | z
 ·exact n z
 ·rw [h] at z; cases z
mutual
theorem Ow.mv {G:AS} (m:Mv O O' G H H'):∀ (t:D) {d:Nat} {v:V} {F:AS},(∀ b,F b->G b)->Ow K O H t d v F->Ow K O' H' t d v F
 | .none,_,_,_,_,h=>h
 | .bool _,_,_,_,_,h=>h
 | .int _,_,_,_,_,h=>h
 | .str _,_,_,_,_,h=>h
 | .tuple ts,_,_,_,g,h=>by
  obtain ⟨a,vs,e,⟨h0,h1,h2⟩ | ⟨h0,h1,h2,F',hf,h3⟩⟩:=h
  ·exact ⟨a,vs,e,.inl ⟨h0,h1.mv m,Ows.mv m ts g h2⟩⟩
  ·exact ⟨a,vs,e,.inr ⟨h0,m.k _ _ h1 (.inr (g _ h2)),h2,F',hf,Ows.mv m ts (fun b hb=>g _ (hf b hb).1) h3⟩⟩
 | .list ts,_,_,_,g,h=>by
  obtain ⟨a,vs,e,⟨h0,h1,h2⟩ | ⟨h0,h1,h2,F',hf,h3⟩⟩:=h
  ·exact ⟨a,vs,e,.inl ⟨h0,h1.mv m,Ows.mv m ts g h2⟩⟩
  ·exact ⟨a,vs,e,.inr ⟨h0,m.k _ _ h1 (.inr (g _ h2)),h2,F',hf,Ows.mv m ts (fun b hb=>g _ (hf b hb).1) h3⟩⟩
 | .dict ks,_,_,_,g,h=>by
  obtain ⟨a,vs,e,⟨h0,h1,hn,h2⟩ | ⟨h0,h1,h2,F',hf,h3⟩ | ⟨h0,ht⟩⟩:=h
  ·refine ⟨a,vs,e,.inl ⟨h0,m.k _ _ h1 (.inl hn),fun z=>?_,Owd.mv m ks g h2⟩⟩;rcases m.o _ z with z | z
   ·exact hn z
   ·rw [h1] at z; cases z
  ·exact ⟨a,vs,e,.inr (.inl ⟨h0,m.k _ _ h1 (.inr (g _ h2)),h2,F',hf,Owd.mv m ks (fun b hb=>g _ (hf b hb).1) h3⟩)⟩
  ·refine ⟨a,vs,e,.inr (.inr ⟨h0,ht.to fun o h2 hn=>⟨m.k _ _ h2 (.inl hn),fun z=>?_⟩⟩)⟩;rcases m.o _ z with z | z
   ·exact hn z
   ·rw [h2] at z; cases z
theorem Ows.mv {G:AS} (m:Mv O O' G H H'):∀ (ts:List D) {d:Nat} {vs:List V} {F:AS},(∀ b,F b->G b)->Ows K O H ts d vs F->Ows K O' H' ts d vs F
 | [],_,_,_,_,h=>h
 | t :: ts,_,_,_,g,h=>by
  obtain ⟨v,r,F1,F2,e,h1,h2,h3,h4,h5⟩:=h;exact ⟨v,r,F1,F2,e,h1,h2,h3,Ow.mv m t (fun b hb=>g _ (h1 b hb)) h4,Ows.mv m ts (fun b hb=>g _ (h2 b hb)) h5⟩
theorem Owd.mv {G:AS} (m:Mv O O' G H H'):∀ (ts:List (D × D)) {d:Nat} {vs:List (Key × V)} {F:AS},(∀ b,F b->G b)->Owd K O H ts d vs F->Owd K O' H' ts d vs F
 | [],_,_,_,_,h=>h
 | (k,t) :: ts,_,_,_,g,h=>by
  obtain ⟨q,v,r,F1,F2,e,e2,h1,h2,h3,h4,h5⟩:=h;exact ⟨q,v,r,F1,F2,e,e2,h1,h2,h3,Ow.mv m t (fun b hb=>g _ (h1 b hb)) h4,Owd.mv m ts (fun b hb=>g _ (h2 b hb)) h5⟩
end
def FzL.sub {a:Addr} {vs:List V} (ho:∀ a,O' a->O a) (h:FzL K O H a vs):FzL K O' H a vs:=h.imp (fun h=>⟨h.1,fun z=>h.2 (ho _ z)⟩) id
def FzT.sub {a:Addr} {vs:List V} (ho:∀ a,O' a->O a) (h:FzT K O H a vs):FzT K O' H a vs:=⟨h.1,fun z=>h.2 (ho _ z)⟩
mutual
theorem Ow.cut:∀ (t:D) {d d':Nat} {v:V} {F:AS},d'<=d->Ow K O H t d v F->∃ F':AS,(∀ b,F' b->F b)/\∀ O':AS,(∀ a,O' a->O a)->(∀ a,F a->O' a->F' a)->Ow K O' H t d' v F'
 | .none,_,_,_,F,_,h=>⟨F,fun _ z=>z,fun _ _ _=>h⟩
 | .bool _,_,_,_,F,_,h=>⟨F,fun _ z=>z,fun _ _ _=>h⟩
 | .int _,_,_,_,F,_,h=>⟨F,fun _ z=>z,fun _ _ _=>h⟩
 | .str _,_,_,_,F,_,h=>⟨F,fun _ z=>z,fun _ _ _=>h⟩
 | .tuple ts,d,d',_,F,hd,h=>by
  obtain ⟨a,vs,e,⟨h0,h1,h2⟩ | ⟨h0,h1,h2,G,hg,h3⟩⟩:=h
  ·subst h0;have e0:d'=0:=by omega
   subst e0;obtain ⟨F',s1,s2⟩:=Ows.cut ts (zav _) h2;exact ⟨F',s1,fun O' ho hx=>⟨a,vs,e,.inl ⟨rfl,h1.sub ho,s2 O' ho hx⟩⟩⟩
  ·by_cases e0:d'=0
   ·subst e0;obtain ⟨F',s1,s2⟩:=Ows.cut ts (Nat.zero_le _) h3;refine ⟨F',fun b hb=>(hg _ (s1 b hb)).1,fun O' ho hx=>⟨a,vs,e,.inl ⟨rfl,⟨h1,fun z=>(hg _ (s1 _ (hx _ h2 z))).2 rfl⟩,s2 O' ho fun b hb=>hx b (hg b hb).1⟩⟩⟩
   ·obtain ⟨F',s1,s2⟩:=Ows.cut ts (oW hd) h3;refine ⟨fun b=>b=a\/F' b,fun b hb=>hb.elim (fun z=>z ▸ h2) fun z=>(hg _ (s1 b z)).1,fun O' ho hx=>⟨a,vs,e,.inr ⟨e0,h1,.inl rfl,F',fun b hb=>⟨.inr hb,(hg _ (s1 b hb)).2⟩,s2 O' ho fun b hb hz=>?_⟩⟩⟩;exact (hx b (hg b hb).1 hz).elim (fun z=>absurd z (hg b hb).2) id
 | .list ts,d,d',_,F,hd,h=>by
  obtain ⟨a,vs,e,⟨h0,h1,h2⟩ | ⟨h0,h1,h2,G,hg,h3⟩⟩:=h
  ·subst h0;have e0:d'=0:=by omega
   subst e0;obtain ⟨F',s1,s2⟩:=Ows.cut ts (zav _) h2;exact ⟨F',s1,fun O' ho hx=>⟨a,vs,e,.inl ⟨rfl,h1.sub ho,s2 O' ho hx⟩⟩⟩
  ·by_cases e0:d'=0
   ·subst e0;obtain ⟨F',s1,s2⟩:=Ows.cut ts (Nat.zero_le _) h3;refine ⟨F',fun b hb=>(hg _ (s1 b hb)).1,fun O' ho hx=>⟨a,vs,e,.inl ⟨rfl,.inl ⟨.inl h1,fun z=>(hg _ (s1 _ (hx _ h2 z))).2 rfl⟩,s2 O' ho fun b hb=>hx b (hg b hb).1⟩⟩⟩
   ·obtain ⟨F',s1,s2⟩:=Ows.cut ts (oW hd) h3;refine ⟨fun b=>b=a\/F' b,fun b hb=>hb.elim (fun z=>z ▸ h2) fun z=>(hg _ (s1 b z)).1,fun O' ho hx=>⟨a,vs,e,.inr ⟨e0,h1,.inl rfl,F',fun b hb=>⟨.inr hb,(hg _ (s1 b hb)).2⟩,s2 O' ho fun b hb hz=>?_⟩⟩⟩;exact (hx b (hg b hb).1 hz).elim (fun z=>absurd z (hg b hb).2) id
 | .dict ts,d,d',_,F,hd,h=>by
  obtain ⟨a,vs,e,⟨h0,h1,hn,h2⟩ | ⟨h0,h1,h2,G,hg,h3⟩ | ⟨h0,ht⟩⟩:=h
  ·subst h0;have e0:d'=0:=by omega
   subst e0;obtain ⟨F',s1,s2⟩:=Owd.cut ts (zav _) h2;exact ⟨F',s1,fun O' ho hx=>⟨a,vs,e,.inl ⟨rfl,h1,fun z=>hn (ho _ z),s2 O' ho hx⟩⟩⟩
  ·by_cases e0:d'=0
   ·subst e0;obtain ⟨F',s1,s2⟩:=Owd.cut ts (Nat.zero_le _) h3;refine ⟨F',fun b hb=>(hg _ (s1 b hb)).1,fun O' ho hx=>⟨a,vs,e,.inl ⟨rfl,h1,fun z=>(hg _ (s1 _ (hx _ h2 z))).2 rfl,s2 O' ho fun b hb=>hx b (hg b hb).1⟩⟩⟩
   ·obtain ⟨F',s1,s2⟩:=Owd.cut ts (oW hd) h3;refine ⟨fun b=>b=a\/F' b,fun b hb=>hb.elim (fun z=>z ▸ h2) fun z=>(hg _ (s1 b z)).1,fun O' ho hx=>⟨a,vs,e,.inr (.inl ⟨e0,h1,.inl rfl,F',fun b hb=>⟨.inr hb,(hg _ (s1 b hb)).2⟩,s2 O' ho fun b hb hz=>?_⟩)⟩⟩;exact (hx b (hg b hb).1 hz).elim (fun z=>absurd z (hg b hb).2) id
  ·subst h0;have e0:d'=0:=by omega
   subst e0;exact ⟨F,fun _ z=>z,fun O' ho hx=>⟨a,vs,e,.inr (.inr ⟨rfl,ht.to fun o h2 hn=>⟨h2,fun z=>hn (ho _ z)⟩⟩)⟩⟩
theorem Ows.cut:∀ (ts:List D) {d d':Nat} {vs:List V} {F:AS},d'<=d->Ows K O H ts d vs F->∃ F':AS,(∀ b,F' b->F b)/\∀ O':AS,(∀ a,O' a->O a)->(∀ a,F a->O' a->F' a)->Ows K O' H ts d' vs F'
 | [],_,_,_,F,_,h=>⟨F,fun _ z=>z,fun _ _ _=>h⟩
 | t :: ts,_,_,_,F,hd,h=>by
  obtain ⟨v,r,F1,F2,e,h1,h2,h3,h4,h5⟩:=h;obtain ⟨G1,a1,a2⟩:=Ow.cut t hd h4;obtain ⟨G2,b1,b2⟩:=Ows.cut ts hd h5;refine ⟨fun b=>G1 b\/G2 b,fun b hb=>hb.elim (fun z=>h1 _ (a1 _ z)) fun z=>h2 _ (b1 _ z),fun O' ho hx=>⟨v,r,G1,G2,e,fun b=>.inl,fun b=>.inr,fun b z1 z2=>h3 b (a1 b z1) (b1 b z2),a2 O' ho fun b hb hz=>?_,b2 O' ho fun b hb hz=>?_⟩⟩
  ·exact (hx b (h1 b hb) hz).elim id fun z=>absurd (b1 b z) (h3 b hb)
  ·exact (hx b (h2 b hb) hz).elim (fun z=>absurd hb (h3 b (a1 b z))) id
theorem Owd.cut:∀ (ts:List (D × D)) {d d':Nat} {vs:List (Key × V)} {F:AS},d'<=d->Owd K O H ts d vs F->∃ F':AS,(∀ b,F' b->F b)/\∀ O':AS,(∀ a,O' a->O a)->(∀ a,F a->O' a->F' a)->Owd K O' H ts d' vs F'
 | [],_,_,_,F,_,h=>⟨F,fun _ z=>z,fun _ _ _=>h⟩
 | (k,t) :: ts,_,_,_,F,hd,h=>by
  obtain ⟨q,v,r,F1,F2,e,e2,h1,h2,h3,h4,h5⟩:=h;obtain ⟨G1,a1,a2⟩:=Ow.cut t hd h4;obtain ⟨G2,b1,b2⟩:=Owd.cut ts hd h5;refine ⟨fun b=>G1 b\/G2 b,fun b hb=>hb.elim (fun z=>h1 _ (a1 _ z)) fun z=>h2 _ (b1 _ z),fun O' ho hx=>⟨q,v,r,G1,G2,e,e2,fun b=>.inl,fun b=>.inr,fun b z1 z2=>h3 b (a1 b z1) (b1 b z2),a2 O' ho fun b hb hz=>?_,b2 O' ho fun b hb hz=>?_⟩⟩
  ·exact (hx b (h1 b hb) hz).elim id fun z=>absurd (b1 b z) (h3 b hb)
  ·exact (hx b (h2 b hb) hz).elim (fun z=>absurd hb (h3 b (a1 b z))) id
end
mutual
theorem Ow.grow (ho:∀ a,O' a->O a):∀ (t:D) {d:Nat} {v:V} {F F':AS},(∀ b,F b->F' b)->Ow K O H t d v F->Ow K O' H t d v F'
 | .none,_,_,_,_,_,h=>h
 | .bool _,_,_,_,_,_,h=>h
 | .int _,_,_,_,_,_,h=>h
 | .str _,_,_,_,_,_,h=>h
 | .tuple ts,_,_,_,_,hf,h=>by
  obtain ⟨a,vs,e,⟨h0,h1,h2⟩ | ⟨h0,h1,h2,G,hg,h3⟩⟩:=h
  ·exact ⟨a,vs,e,.inl ⟨h0,h1.sub ho,Ows.grow ho ts hf h2⟩⟩
  ·exact ⟨a,vs,e,.inr ⟨h0,h1,hf _ h2,G,fun b hb=>⟨hf _ (hg b hb).1,(hg b hb).2⟩,Ows.grow ho ts (fun _ z=>z) h3⟩⟩
 | .list ts,_,_,_,_,hf,h=>by
  obtain ⟨a,vs,e,⟨h0,h1,h2⟩ | ⟨h0,h1,h2,G,hg,h3⟩⟩:=h
  ·exact ⟨a,vs,e,.inl ⟨h0,h1.sub ho,Ows.grow ho ts hf h2⟩⟩
  ·exact ⟨a,vs,e,.inr ⟨h0,h1,hf _ h2,G,fun b hb=>⟨hf _ (hg b hb).1,(hg b hb).2⟩,Ows.grow ho ts (fun _ z=>z) h3⟩⟩
 | .dict ts,_,_,_,_,hf,h=>by
  obtain ⟨a,vs,e,⟨h0,h1,hn,h2⟩ | ⟨h0,h1,h2,G,hg,h3⟩ | ⟨h0,ht⟩⟩:=h
  ·exact ⟨a,vs,e,.inl ⟨h0,h1,fun z=>hn (ho _ z),Owd.grow ho ts hf h2⟩⟩
  ·exact ⟨a,vs,e,.inr (.inl ⟨h0,h1,hf _ h2,G,fun b hb=>⟨hf _ (hg b hb).1,(hg b hb).2⟩,Owd.grow ho ts (fun _ z=>z) h3⟩)⟩
  ·exact ⟨a,vs,e,.inr (.inr ⟨h0,ht.to fun o h2 hn=>⟨h2,fun z=>hn (ho _ z)⟩⟩)⟩
theorem Ows.grow (ho:∀ a,O' a->O a):∀ (ts:List D) {d:Nat} {vs:List V} {F F':AS},(∀ b,F b->F' b)->Ows K O H ts d vs F->Ows K O' H ts d vs F'
 | [],_,_,_,_,_,h=>h
 | t :: ts,_,_,_,_,hf,h=>by
  obtain ⟨v,r,F1,F2,e,h1,h2,h3,h4,h5⟩:=h;exact ⟨v,r,F1,F2,e,fun b z=>hf _ (h1 b z),fun b z=>hf _ (h2 b z),h3,Ow.grow ho t (fun _ z=>z) h4,Ows.grow ho ts (fun _ z=>z) h5⟩
theorem Owd.grow (ho:∀ a,O' a->O a):∀ (ts:List (D × D)) {d:Nat} {vs:List (Key × V)} {F F':AS},(∀ b,F b->F' b)->Owd K O H ts d vs F->Owd K O' H ts d vs F'
 | [],_,_,_,_,_,h=>h
 | (k,t) :: ts,_,_,_,_,hf,h=>by
  obtain ⟨q,v,r,F1,F2,e,e2,h1,h2,h3,h4,h5⟩:=h;exact ⟨q,v,r,F1,F2,e,e2,fun b z=>hf _ (h1 b z),fun b z=>hf _ (h2 b z),h3,Ow.grow ho t (fun _ z=>z) h4,Owd.grow ho ts (fun _ z=>z) h5⟩
end
mutual
theorem Ow.full:∀ (t:D) {d:Nat} {v:V} {F:AS},Ow K O H t (d+3) v F->Ow K O' H t (d+3) v F
 | .none,_,_,_,h=>h
 | .bool _,_,_,_,h=>h
 | .int _,_,_,_,h=>h
 | .str _,_,_,_,h=>h
 | .tuple ts,_,_,_,h=>by
  obtain ⟨a,vs,e,⟨h0,h1,h2⟩ | ⟨h0,h1,h2,G,hg,h3⟩⟩:=h
  ·cases h0
  ·exact ⟨a,vs,e,.inr ⟨h0,h1,h2,G,hg,Ows.full ts h3⟩⟩
 | .list ts,_,_,_,h=>by
  obtain ⟨a,vs,e,⟨h0,h1,h2⟩ | ⟨h0,h1,h2,G,hg,h3⟩⟩:=h
  ·cases h0
  ·exact ⟨a,vs,e,.inr ⟨h0,h1,h2,G,hg,Ows.full ts h3⟩⟩
 | .dict ts,_,_,_,h=>by
  obtain ⟨a,vs,e,⟨h0,h1,hn,h2⟩ | ⟨h0,h1,h2,G,hg,h3⟩ | ⟨h0,_⟩⟩:=h
  ·cases h0
  ·exact ⟨a,vs,e,.inr (.inl ⟨h0,h1,h2,G,hg,Owd.full ts h3⟩)⟩
  ·cases h0
theorem Ows.full:∀ (ts:List D) {d:Nat} {vs:List V} {F:AS},Ows K O H ts (d+3) vs F->Ows K O' H ts (d+3) vs F
 | [],_,_,_,h=>h
 | t :: ts,_,_,_,h=>by
  obtain ⟨v,r,F1,F2,e,h1,h2,h3,h4,h5⟩:=h;exact ⟨v,r,F1,F2,e,h1,h2,h3,Ow.full t h4,Ows.full ts h5⟩
theorem Owd.full:∀ (ts:List (D × D)) {d:Nat} {vs:List (Key × V)} {F:AS},Owd K O H ts (d+3) vs F->Owd K O' H ts (d+3) vs F
 | [],_,_,_,h=>h
 | (k,t) :: ts,_,_,_,h=>by
  obtain ⟨q,v,r,F1,F2,e,e2,h1,h2,h3,h4,h5⟩:=h;exact ⟨q,v,r,F1,F2,e,e2,h1,h2,h3,Ow.full t h4,Owd.full ts h5⟩
end
mutual
theorem Ow.any0:∀ (t:D) {v:V} {F F':AS},Ow K O H t 0 v F->Ow K O H t 0 v F'
 | .none,_,_,_,h=>h
 | .bool _,_,_,_,h=>h
 | .int _,_,_,_,h=>h
 | .str _,_,_,_,h=>h
 | .tuple ts,_,_,_,h=>by
  obtain ⟨a,vs,e,⟨h0,h1,h2⟩ | ⟨h0,_⟩⟩:=h
  ·exact ⟨a,vs,e,.inl ⟨rfl,h1,Ows.any0 ts h2⟩⟩
  ·exact absurd rfl h0
 | .list ts,_,_,_,h=>by
  obtain ⟨a,vs,e,⟨h0,h1,h2⟩ | ⟨h0,_⟩⟩:=h
  ·exact ⟨a,vs,e,.inl ⟨rfl,h1,Ows.any0 ts h2⟩⟩
  ·exact absurd rfl h0
 | .dict ts,_,_,_,h=>by
  obtain ⟨a,vs,e,⟨h0,h1,hn,h2⟩ | ⟨h0,_⟩ | ⟨_,ht⟩⟩:=h
  ·exact ⟨a,vs,e,.inl ⟨rfl,h1,hn,Owd.any0 ts h2⟩⟩
  ·exact absurd rfl h0
  ·exact ⟨a,vs,e,.inr (.inr ⟨rfl,ht⟩)⟩
theorem Ows.any0:∀ (ts:List D) {vs:List V} {F F':AS},Ows K O H ts 0 vs F->Ows K O H ts 0 vs F'
 | [],_,_,_,h=>h
 | t :: ts,_,_,_,h=>by
  obtain ⟨v,r,F1,F2,e,_,_,_,h4,h5⟩:=h;exact ⟨v,r,fun _=>False,fun _=>False,e,fun _ z=>z.elim,fun _ z=>z.elim,fun _ z=>z.elim,Ow.any0 t h4,Ows.any0 ts h5⟩
theorem Owd.any0:∀ (ts:List (D × D)) {vs:List (Key × V)} {F F':AS},Owd K O H ts 0 vs F->Owd K O H ts 0 vs F'
 | [],_,_,_,h=>h
 | (k,t) :: ts,_,_,_,h=>by
  obtain ⟨q,v,r,F1,F2,e,e2,_,_,_,h4,h5⟩:=h;exact ⟨q,v,r,fun _=>False,fun _=>False,e,e2,fun _ z=>z.elim,fun _ z=>z.elim,fun _ z=>z.elim,Ow.any0 t h4,Owd.any0 ts h5⟩
end
def Ow.fz {t:D} {d:Nat} {v:V} {F F2:AS} (ho:∀ a,O' a->O a) (hn:∀ a,F a->¬ O' a) (h:Ow K O H t d v F):Ow K O' H t 0 v F2:=by
 obtain ⟨F',s1,s2⟩:=Ow.cut t (Nat.zero_le d) h;exact Ow.any0 t (s2 O' ho fun a z1 z2=>absurd z2 (hn a z1))
end
def U (A B:AS):AS:=fun a=>A a\/B a
def Own (R:Nat->AS) (Ox:AS):AS:=fun a=>(∃ i,R i a)\/Ox a
def gq {A B:AS} (h:∀ a,A a↔B a):A=B:=funext fun a=>propext (h a)
structure EnvOk (K:PySem.W.Frag) (ds:List Nat) (Ox:AS) (H:Hp) (σ:St) (en:En) (R:Nat->AS):Prop where
 at_:∀ (i:Nat) (t:D),en[i]?=some (some t)->∃ v d,σ[i]?=some (some v)/\ds[i]?=some d/\Ow K (Own R Ox) H t d v (R i)
 dj:∀ i j a,R i a->R j a->i=j
 dx:∀ i a,R i a->¬ Ox a
 dom:∀ a,Own R Ox a->∃ o,H a=some o
 l1:en.length=σ.length
 l2:ds.length=σ.length
structure Post (K:PySem.W.Frag) (p:Bool) (ds':List Nat) (Ox:AS) (σ:St) (H:Hp) (en:En) (R:Nat->AS) (en':En) (H':Hp) (R':Nat->AS) (F:AS):Prop where
 env:EnvOk K ds' (U F Ox) H' σ en' R'
 fx:∀ a,F a->¬ Ox a
 keep:∀ a o,H a=some o->(∀ i,¬ R i a)->H' a=some o
 own:∀ a,(F a\/∃ i,R' i a)->(∃ i,R i a)\/H a=none
 dom:∀ a o,H a=some o->∃ o',H' a=some o'
 pure:p=true->en'=en/\R'=R/\∀ a o,H a=some o->H' a=some o
section
variable {K:PySem.W.Frag} {p p1 p2:Bool} {ds ds1 ds2 ds':List Nat} {Ox Ox':AS} {H H':Hp} {σ:St} {en en' en1 en2:En} {R R':Nat->AS} {d d1 d2:Nat} {t1 t2:D}
def EnvOk.grow (e:EnvOk K ds Ox H σ en R) (hk:∀ a o,H a=some o->H' a=some o) {F:AS} (hf:∀ a,F a->H a=none/\∃ o,H' a=some o):EnvOk K ds (U F Ox) H' σ en R:=by
 have fo:∀ a,F a->¬ Own R Ox a:=fun a z z2=>by
  obtain ⟨o,q⟩:=e.dom a z2;rw [(hf a z).1] at q;cases q
 refine ⟨fun i t h=>?_,e.dj,fun i a h z=>?_,fun a h=>?_,e.l1,e.l2⟩
 ·obtain ⟨v,d,h1,h2,h3⟩:=e.at_ i t h;refine ⟨v,d,h1,h2,Ow.mv (G:=R i) ⟨fun a o q _=>hk a o q,fun a z=>?_⟩ t (fun _ z=>z) h3⟩;rcases z with z | z | z
  ·exact .inl (.inl z)
  ·exact .inr (hf a z).1
  ·exact .inl (.inr z)
 ·rcases z with z | z
  ·exact fo a z (.inl ⟨i,h⟩)
  ·exact e.dx i a h z
 ·rcases h with h | h | h
  ·obtain ⟨o,q⟩:=e.dom a (.inl h);exact ⟨o,hk a o q⟩
  ·exact (hf a h).2
  ·obtain ⟨o,q⟩:=e.dom a (.inr h);exact ⟨o,hk a o q⟩
def EnvOk.fewer (e:EnvOk K ds Ox H σ en R) (h:∀ a,Ox' a->Ox a):EnvOk K ds Ox' H σ en R:=by
 refine ⟨fun i t q=>?_,e.dj,fun i a z1 z2=>e.dx i a z1 (h a z2),fun a z=>e.dom a (z.imp id (h a)),e.l1,e.l2⟩;obtain ⟨v,d,h1,h2,h3⟩:=e.at_ i t q;exact ⟨v,d,h1,h2,Ow.grow (fun a z=>z.imp id (h a)) t (fun _ z=>z) h3⟩
def tF (K:PySem.W.Frag) (p:Bool) (ds ds':List Nat) (d:Nat) (f:En->Option (D × En)):TE:=fun σ H Q =>
 ∃ Ox en R t en',EnvOk K ds Ox H σ en R/\f en=some (t,en')/\∀ v H' R' F,Post K p ds' Ox σ H en R en' H' R' F->Ow K (Own R' (U F Ox)) H' t d v F->Q v H'
def Post.refl (e:EnvOk K ds Ox H σ en R):Post K p ds Ox σ H en R en H R (fun _=>False):=by
 have eq:U (fun _=>False) Ox=Ox:=gq fun a=>⟨fun z=>z.elim (fun z=>z.elim) id,.inr⟩;exact ⟨eq.symm ▸ e,fun _ z=>z.elim,fun _ _ q _=>q,fun a z=>z.elim (fun z=>z.elim) .inl,fun a o q=>⟨o,q⟩,fun _=>⟨rfl,rfl,fun _ _ q=>q⟩⟩
def Post.new (e:EnvOk K ds Ox H σ en R) (hk:∀ a o,H a=some o->H' a=some o) {F:AS} (hf:∀ a,F a->H a=none/\∃ o,H' a=some o):Post K p ds Ox σ H en R en H' R F:=by
 refine ⟨e.grow hk hf,fun a z z2=>?_,fun a o q _=>hk a o q,fun a z=>z.elim (fun z=>.inr (hf a z).1) .inl,fun a o q=>⟨o,hk a o q⟩,fun _=>⟨rfl,rfl,hk⟩⟩;obtain ⟨o,q⟩:=e.dom a (.inr z2);rw [(hf a z).1] at q;cases q
def Post.trans {H1 H2:Hp} {R1 R2:Nat->AS} {F1 F2:AS} (P1:Post K p1 ds1 Ox σ H en R en1 H1 R1 F1) (P2:Post K p2 ds2 (U F1 Ox) σ H1 en1 R1 en2 H2 R2 F2) :
  Post K (p1 && p2) ds2 Ox σ H en R en2 H2 R2 (U F1 F2):=by
 have eq:U F2 (U F1 Ox)=U (U F1 F2) Ox:=gq fun a=>by unfold U; exact ⟨fun z=>by rcases z with z | z | z; exact .inl (.inr z); exact .inl (.inl z); exact .inr z,fun z=>by rcases z with (z | z) | z; exact .inr (.inl z); exact .inl z; exact .inr (.inr z)⟩
 have n1:∀ a,H1 a=none->H a=none:=fun a z=>by
  cases q:H a with
  | none=>rfl
  | some o =>
   obtain ⟨o',q'⟩:=P1.dom a o q;rw [z] at q';cases q'
 refine ⟨eq ▸ P2.env,fun a z z2=>?_,fun a o q n=>?_,fun a z=>?_,fun a o q=>?_,fun hp=>?_⟩
 ·rcases z with z | z
  ·exact P1.fx a z z2
  ·exact P2.fx a z (.inr z2)
 ·refine P2.keep a o (P1.keep a o q n) fun i z=>?_;rcases P1.own a (.inr ⟨i,z⟩) with ⟨j,z⟩ | z
  ·exact n j z
  ·rw [q] at z; cases z
 ·rcases z with (z | z) | z
  ·exact P1.own a (.inl z)
  ·rcases P2.own a (.inl z) with z | z
   ·exact P1.own a (.inr z)
   ·exact .inr (n1 a z)
  ·rcases P2.own a (.inr z) with z | z
   ·exact P1.own a (.inr z)
   ·exact .inr (n1 a z)
 ·obtain ⟨o',q'⟩:=P1.dom a o q;exact P2.dom a o' q'
 ·have h1:p1=true:=by cases p1 <;> simp_all
  have h2:p2=true:=by cases p2 <;> simp_all
  obtain ⟨a1,a2,a3⟩:=P1.pure h1;obtain ⟨b1,b2,b3⟩:=P2.pure h2;exact ⟨b1.trans a1,b2.trans a2,fun a o q=>b3 a o (a3 a o q)⟩
def Ow.over {H1 H2:Hp} {R1 R2:Nat->AS} {F1 F2:AS} {t:D} {v:V} (P1:EnvOk K ds1 (U F1 Ox) H1 σ en1 R1) (P2:Post K p2 ds2 (U F1 Ox) σ H1 en1 R1 en2 H2 R2 F2) (h:Ow K (Own R1 (U F1 Ox)) H1 t d v F1) :
  Ow K (Own R2 (U (U F1 F2) Ox)) H2 t d v F1:=by
 refine Ow.mv (G:=F1) ⟨fun a o q z=>P2.keep a o q fun i zi=>?_,fun a z=>?_⟩ t (fun _ z=>z) h
 ·rcases z with z | z
  ·exact z (.inl ⟨i,zi⟩)
  ·exact P1.dx i a zi (.inl z)
 ·rcases z with z | (z | z) | z
  ·rcases P2.own a (.inr z) with z | z
   ·exact .inl (.inl z)
   ·exact .inr z
  ·exact .inl (.inr (.inl z))
  ·rcases P2.own a (.inl z) with z | z
   ·exact .inl (.inl z)
   ·exact .inr z
  ·exact .inl (.inr (.inr z))
def lj {F1 F2:AS}:U F2 (U F1 Ox)=U (U F1 F2) Ox:=gq fun a=>by unfold U; exact ⟨fun z=>by rcases z with z | z | z; exact .inl (.inr z); exact .inl (.inl z); exact .inr z,fun z=>by rcases z with (z | z) | z; exact .inr (.inl z); exact .inl z; exact .inr (.inr z)⟩
def two {f g:En->Option (D × En)} {Q:V->V->Hp->Prop} (e:EnvOk K ds Ox H σ en R) (h1:f en=some (t1,en1)) (h2:g en1=some (t2,en2))
  (k:∀ x y H2 R2 F1 F2,Post K (p1 && p2) ds2 Ox σ H en R en2 H2 R2 (U F1 F2)->Ow K (Own R2 (U (U F1 F2) Ox)) H2 t1 d1 x F1->Ow K (Own R2 (U (U F1 F2) Ox)) H2 t2 d2 y F2->Q x y H2) :
  tF K p1 ds ds1 d1 f σ H fun x H1=>tF K p2 ds1 ds2 d2 g σ H1 fun y H2=>Q x y H2:=by
 refine ⟨Ox,en,R,t1,en1,e,h1,fun x H1 R1 F1 P1 o1=>?_⟩;refine ⟨U F1 Ox,en1,R1,t2,en2,P1.env,h2,fun y H2 R2 F2 P2 o2=>?_⟩;exact k x y H2 R2 F1 F2 (P1.trans P2) (Ow.over P1.env P2 o1) (lj ▸ o2)
end
abbrev ME:=En->Option (D × En)
abbrev MT:=En->Option (Bool × En)
abbrev MA:=En->Option (List (D ⊕ Nat) × En)
def ae (i:Nat):ME:=fun en=>(en[i]?).join.map fun t=>(t,en)
def eMv (i:Nat):ME:=fun en=>(en[i]?).join.map fun t=>(t,en.set i none)
def eC (t:D):ME:=fun en=>some (t,en)
def e1 (g:D->Option D) (f:ME):ME:=fun en=>(f en).bind fun r=>(g r.1).map fun t=>(t,r.2)
def e2 (g:D->D->Option D) (f1 f2:ME):ME:=fun en=>(f1 en).bind fun r=>(f2 r.2).bind fun q=>(g r.1 q.1).map fun t=>(t,q.2)
def cV (f g:ME):ME:=fun en=>(f en).bind fun r=>match r.1 with
 | .bool true=>g r.2
 | .bool false=>some (.bool false,r.2)
 | _=>none
def eOr (f g:ME):ME:=fun en=>(f en).bind fun r=>match r.1 with
 | .bool true=>some (.bool true,r.2)
 | .bool false=>g r.2
 | _=>none
def la (f:ME):ME:=fun en=>(f en).bind fun r=>match r.1 with
 | .bool b=>some (.bool (!b),r.2)
 | _=>none
def eIf (c:MT) (f g:ME):ME:=fun en=>(c en).bind fun r=>if r.1 then f r.2 else g r.2
def tV (f:ME):MT:=fun en=>(f en).bind fun r=>match r.1 with
 | .bool b=>some (b,r.2)
 | _=>none
def oZ (f g:MT):MT:=fun en=>(f en).bind fun r=>if r.1 then g r.2 else some (false,r.2)
def bOr (f g:MT):MT:=fun en=>(f en).bind fun r=>if r.1 then some (true,r.2) else g r.2
def cr (f:MT):MT:=fun en=>(f en).map fun r=>(!r.1,r.2)
def ag:MA:=fun en=>some ([],en)
def ad (f:ME) (r:MA):MA:=fun en=>(f en).bind fun x=>(r x.2).map fun y=>(.inl x.1 :: y.1,y.2)
def aD (i:Nat) (r:MA):MA:=fun en=>(en[i]?).join.bind fun _=>(r en).map fun y=>(.inr i :: y.1,y.2)
def vals:List (D ⊕ Nat)->Option (List D)
 | []=>some []
 | .inl t :: r=>(vals r).map (t :: ·)
 | .inr _ :: _=>none
def eN (g:List D->Option D) (fa:MA):ME:=fun en=>(fa en).bind fun r=>(vals r.1).bind fun ts=>(g ts).map fun t=>(t,r.2)
def NewTo (H H':Hp) (F:AS):Prop:=(∀ a o,H a=some o->H' a=some o)/\∀ a,F a->H a=none/\∃ o,H' a=some o
def NoA:AS:=fun _=>False
def gP {A:AS}:U NoA A=A:=gq fun a=>⟨fun z=>z.elim (fun z=>z.elim) id,.inr⟩
def rF2 (K:PySem.W.Frag) (g:D->D->Option D) (d:Nat):R2:=fun x y H Q=>∃ (O:AS) (a b t:D),Ow K O H a 0 x NoA/\Ow K O H b 0 y NoA/\(∀ a,O a->∃ o,H a=some o)/\g a b=some t/\∀ v H' F,NewTo H H' F->Ow K (U F O) H' t d v F->Q v H'
def rFn (K:PySem.W.Frag) (g:List D->Option D) (d:Nat):List V->Hp->VK->Prop:=fun xs H Q=>∃ (O:AS) (ts:List D) (t:D),Ows K O H ts 0 xs NoA/\(∀ a,O a->∃ o,H a=some o)/\g ts=some t/\∀ v H' F,NewTo H H' F->Ow K (U F O) H' t d v F->Q v H'
section
variable {K:PySem.W.Frag} {p p1 p2:Bool} {ds ds0 ds1 ds2 ds':List Nat} {Ox Ox':AS} {H H':Hp} {σ:St} {en en' en1 en2:En} {R R':Nat->AS} {d d' d1 d2:Nat} {t t1 t2:D} {Q:VK} {f f1 f2 fa fb:ME}
def nX {F:AS}:U F (Own R Ox)=Own R (U F Ox):=gq fun a=>by
 unfold U Own;exact ⟨fun z=>by rcases z with z | z | z; exact .inr (.inl z); exact .inl z; exact .inr (.inr z),fun z=>by rcases z with z | z | z; exact .inr (.inl z); exact .inl z; exact .inr (.inr z)⟩
def Post.fin {H1:Hp} {F0 F:AS} (P:Post K p ds' Ox σ H en R en' H1 R' F0) (n:NewTo H1 H' F):Post K p ds' Ox σ H en R en' H' R' F:=by
 have e:=P.env.fewer (Ox':=Ox) fun a z=>.inr z;have n1:∀ a,H1 a=none->H a=none:=fun a z=>by
  cases q:H a with
  | none=>rfl
  | some o =>
   obtain ⟨o',q'⟩:=P.dom a o q;rw [z] at q';cases q'
 refine ⟨e.grow n.1 n.2,fun a z z2=>?_,fun a o q nn=>n.1 a o (P.keep a o q nn),fun a z=>?_,fun a o q=>?_,fun hp=>?_⟩
 ·obtain ⟨o,q⟩:=e.dom a (.inr z2);rw [(n.2 a z).1] at q;cases q
 ·rcases z with z | z
  ·exact .inr (n1 a (n.2 a z).1)
  ·exact P.own a (.inr z)
 ·obtain ⟨o',q'⟩:=P.dom a o q;exact ⟨o',n.1 a o' q'⟩
 ·obtain ⟨a1,a2,a3⟩:=P.pure hp;exact ⟨a1,a2,fun a o q=>n.1 a o (a3 a o q)⟩
def Post.less {F F':AS} (P:Post K p ds' Ox σ H en R en' H' R' F) (h:∀ a,F' a->F a):Post K p ds' Ox σ H en R en' H' R' F' :=
 ⟨P.env.fewer fun a z=>z.imp (h a) id,fun a z=>P.fx a (h a z),P.keep,fun a z=>P.own a (z.imp (h a) id),P.dom,P.pure⟩
def Ow.letgo {F F0:AS} {v:V} (P:Post K p ds' Ox σ H en R en' H' R' F0) (hf:∀ a,F a->F0 a) (h:Ow K (Own R' (U F0 Ox)) H' t d v F):Ow K (Own R' Ox) H' t 0 v NoA:=by
 refine Ow.fz (fun a z=>z.imp id .inr) (fun a z z2=>?_) h;rcases z2 with ⟨i,z2⟩ | z2
 ·exact P.env.dx i a z2 (.inl (hf a z))
 ·exact P.fx a (hf a z) z2
def Post.doms {F0:AS} (P:Post K p ds' Ox σ H en R en' H' R' F0):∀ a,Own R' Ox a->∃ o,H' a=some o:=fun a z=>P.env.dom a (z.imp id .inr)
def JP (hd:ds[i]?=some 0) (h:tF K true ds ds 0 (ae i) σ H Q):i8 i σ H Q:=by
 obtain ⟨Ox,en,R,t,en',e,hf,k⟩:=h;unfold ae at hf;cases q:en[i]? with
 | none=>rw [q] at hf; cases hf
 | some o =>
  rw [q] at hf;cases o with
  | none=>cases hf
  | some t' =>
   cases hf;obtain ⟨v,d,h1,h2,h3⟩:=e.at_ i t q;rw [hd] at h2;cases h2;exact ⟨v,h1,k v H R NoA (Post.refl e) (by rw [gP]; exact Ow.any0 t h3)⟩
def Kh (hd:ds[i]?=some d) (h:tF K false ds (ds.set i 0) d (eMv i) σ H Q):i8 i σ H Q:=by
 obtain ⟨Ox,en,R,t,en',e,hf,k⟩:=h;unfold eMv at hf;cases q:en[i]? with
 | none=>rw [q] at hf; cases hf
 | some o =>
  rw [q] at hf;cases o with
  | none=>cases hf
  | some t' =>
   cases hf;obtain ⟨v,d',h1,h2,h3⟩:=e.at_ i t q;rw [hd] at h2;cases h2;have eq:Own (fun j=>if j=i then NoA else R j) (U (R i) Ox)=Own R Ox:=gq fun a=>by
    unfold Own U;constructor
    ·rintro (⟨j,z⟩ | z | z)
     ·by_cases hj:j=i
      ·rw [if_pos hj] at z; exact z.elim
      ·rw [if_neg hj] at z; exact .inl ⟨j,z⟩
     ·exact .inl ⟨i,z⟩
     ·exact .inr z
    ·rintro (⟨j,z⟩ | z)
     ·by_cases hj:j=i
      ·subst hj; exact .inr (.inl z)
      ·exact .inl ⟨j,by show (if j=i then NoA else R j) a; rw [if_neg hj]; exact z⟩
     ·exact .inr (.inr z)
   refine ⟨v,h1,k v H (fun j=>if j=i then NoA else R j) (R i) ⟨⟨fun j u hu=>?_,fun j j' a z z'=>?_,fun j a z=>?_,fun a z=>e.dom a (eq ▸ z),?_,?_⟩,e.dx i,fun a o q _=>q,fun a z=>?_,fun a o q=>⟨o,q⟩,fun z=>nomatch z⟩ (eq.symm ▸ h3)⟩
   ·by_cases hj:j=i
    ·subst hj;rw [List.getElem?_set_self' ] at hu;rw [q] at hu;cases hu
    ·rw [zaO (Ne.symm hj)] at hu;obtain ⟨v',d',a1,a2,a3⟩:=e.at_ j u hu;refine ⟨v',d',a1,by rw [zaO (Ne.symm hj)]; exact a2,?_⟩;rw [if_neg hj,eq];exact a3
   ·by_cases hj:j=i
    ·rw [if_pos hj] at z; exact z.elim
    ·rw [if_neg hj] at z;by_cases hj':j'=i
     ·rw [if_pos hj'] at z'; exact z'.elim
     ·rw [if_neg hj'] at z'; exact e.dj j j' a z z'
   ·by_cases hj:j=i
    ·rw [if_pos hj] at z; exact z.elim
    ·rw [if_neg hj] at z;rintro (z2 | z2)
     ·exact hj (e.dj j i a z z2)
     ·exact e.dx j a z z2
   ·rw [zaV]; exact e.l1
   ·rw [zaV]; exact e.l2
   ·rcases z with z | ⟨j,z⟩
    ·exact .inl ⟨i,z⟩
    ·by_cases hj:j=i
     ·rw [if_pos hj] at z; exact z.elim
     ·rw [if_neg hj] at z; exact .inl ⟨j,z⟩
def f_c {v:V} (hv:∀ K O H F,Ow K O H t 3 v F) (h:tF K true ds ds 3 (eC t) σ H Q):tC v σ H Q:=by
 obtain ⟨Ox,en,R,t',en',e,hf,k⟩:=h;cases hf;exact k v H R NoA (Post.refl e) (hv _ _ _ _)
def JR (hd:d'<=d) (h:tF K p ds ds' d' f σ H Q):tF K p ds ds' d f σ H Q:=by
 obtain ⟨Ox,en,R,t,en',e,hf,k⟩:=h;refine ⟨Ox,en,R,t,en',e,hf,fun v H' R' F P o=>?_⟩;obtain ⟨F',s1,s2⟩:=Ow.cut t hd o;refine k v H' R' F' (P.less s1) (s2 _ (fun a z=>z.imp id fun z=>z.imp (s1 a) id) fun a z z2=>?_);rcases z2 with ⟨i,z2⟩ | z2 | z2
 ·exact absurd (.inl z) (P.env.dx i a z2)
 ·exact z2
 ·exact absurd z2 (P.fx a z)
def i4 (hp:p'=true->p=true) (h:tF K p' ds ds' d f σ H Q):tF K p ds ds' d f σ H Q:=by
 obtain ⟨Ox,en,R,t,en',e,hf,k⟩:=h;exact ⟨Ox,en,R,t,en',e,hf,fun v H' R' F P o=>k v H' R' F ⟨P.env,P.fx,P.keep,P.own,P.dom,fun z=>P.pure (hp z)⟩ o⟩
def EnvOk.cut (e:EnvOk K ds Ox H σ en R) (hl:ds0.length=ds.length) (hd:∀ (i:Nat) a b,ds0[i]?=some a->ds[i]?=some b->a<=b):∃ R',(∀ i a,R' i a->R i a)/\EnvOk K ds0 Ox H σ en R':=by
 have ch:∀ i,∃ F':AS,(∀ b,F' b->R i b)/\∀ t v d0,en[i]?=some (some t)->σ[i]?=some (some v)->ds0[i]?=some d0->∀ O':AS,(∀ a,O' a->Own R Ox a)->(∀ a,R i a->O' a->F' a)->Ow K O' H t d0 v F':=fun i=>by
  by_cases h:∃ t,en[i]?=some (some t)
  ·obtain ⟨t,ht⟩:=h;obtain ⟨v,d,h1,h2,h3⟩:=e.at_ i t ht;cases q:ds0[i]? with
   | none=>exact ⟨NoA,fun _ z=>z.elim,fun _ _ _ _ _ z=>nomatch z⟩
   | some d0 =>
    obtain ⟨F',s1,s2⟩:=Ow.cut t (hd i d0 d q h2) h3;refine ⟨F',s1,fun t' v' d0' h1' h2' h3' O'=>?_⟩;rw [ht] at h1'; cases h1';rw [h1] at h2'; cases h2';cases h3';exact s2 O'
  ·exact ⟨NoA,fun _ z=>z.elim,fun t _ _ ht=>absurd ⟨t,ht⟩ h⟩
 refine ⟨fun i=>(ch i).choose,fun i=>(ch i).choose_spec.1,fun i t ht=>?_,fun i j a z1 z2=>e.dj i j a ((ch i).choose_spec.1 a z1) ((ch j).choose_spec.1 a z2),fun i a z=>e.dx i a ((ch i).choose_spec.1 a z),fun a z=>e.dom a (z.imp (fun ⟨i,z⟩=>⟨i,(ch i).choose_spec.1 a z⟩) id),e.l1,hl.trans e.l2⟩;obtain ⟨v,d,h1,h2,h3⟩:=e.at_ i t ht;have hi:i < ds0.length:=by rw [hl]; exact (zah.mp h2).1
 refine ⟨v,ds0[i],h1,zak hi,(ch i).choose_spec.2 t v _ ht h1 (zak hi) _ (fun a z=>z.imp (fun ⟨j,z⟩=>⟨j,(ch j).choose_spec.1 a z⟩) id) fun a z z2=>?_⟩;rcases z2 with ⟨j,z2⟩ | z2
 ·have:=e.dj i j a z ((ch j).choose_spec.1 a z2);subst this;exact z2
 ·exact absurd z2 (e.dx i a z)
def leD:List Nat->List Nat->Bool
 | [],[]=>true
 | a :: r,b :: s=>decide (a<=b) && leD r s
 | _,_=>false
def ef:∀ {a b:List Nat},leD a b=true->a.length=b.length/\∀ (i:Nat) x y,a[i]?=some x->b[i]?=some y->x<=y
 | [],[],_=>⟨rfl,fun i x y h=>by simp at h⟩
 | a :: r,b :: s,h=>by
  unfold leD at h;rw [Bool.and_eq_true] at h;obtain ⟨h1,h2⟩:=h;obtain ⟨h3,h4⟩:=ef h2;refine ⟨by rw [zac,zac,h3],fun i x y e1 e2=>?_⟩;cases i with
  | zero=>cases e1; cases e2; exact of_decide_eq_true h1
  | succ i=>exact h4 i x y e1 e2
 | [],_ :: _,h=>nomatch h
 | _ :: _,[],h=>nomatch h
def Kj (hd:leD ds0 ds=true) (h:tF K false ds ds' d f σ H Q):tF K p ds0 ds' d f σ H Q:=by
 obtain ⟨Ox,en,R,t,en',e,hf,k⟩:=h;obtain ⟨R1,s1,e1⟩:=e.cut (ef hd).1 (ef hd).2;refine ⟨Ox,en,R1,t,en',e1,hf,fun v H' R' F P o=>k v H' R' F ⟨P.env,P.fx,fun a o q n=>P.keep a o q fun i z=>n i (s1 i a z),fun a z=>(P.own a z).imp (fun ⟨i,z⟩=>⟨i,s1 i a z⟩) id,P.dom,fun z=>nomatch z⟩ o⟩
def JV (hd:leD ds0 ds=true) (h:tF K true ds ds 3 f σ H Q):tF K true ds0 ds0 3 f σ H Q:=by
 obtain ⟨Ox,en,R,t,en',e,hf,k⟩:=h;obtain ⟨R1,s1,e1⟩:=e.cut (ef hd).1 (ef hd).2;refine ⟨Ox,en,R1,t,en',e1,hf,fun v H' R' F P o=>?_⟩;obtain ⟨a1,a2,a3⟩:=P.pure rfl;subst a1 a2;have nf:∀ a,F a->H a=none:=fun a z=>by
  rcases P.own a (.inl z) with ⟨i,z2⟩ | z2
  ·exact absurd (.inl z) (P.env.dx i a z2)
  ·exact z2
 have nt:NewTo H H' F:=⟨a3,fun a z=>⟨nf a z,P.env.dom a (.inr (.inl z))⟩⟩;exact k v H' R F (Post.new e nt.1 nt.2) (Ow.full t o)
def qg {g:D->D->Option D} (h:tF K (p1 && p2) ds ds2 d (e2 g f1 f2) σ H Q):tOp (rF2 K g d) (tF K p1 ds ds1 d1 f1) (tF K p2 ds1 ds2 d2 f2) σ H Q:=by
 obtain ⟨Ox,en,R,t,en',e,hf,k⟩:=h;unfold e2 at hf;obtain ⟨⟨t1,en1⟩,h1,hf⟩:=zaa.mp hf;obtain ⟨⟨t2,en2⟩,h2,hf⟩:=zaa.mp hf;obtain ⟨t',h3,hf⟩:=zab.mp hf;cases hf;refine two e h1 h2 fun x y H2 R2 F1 F2 P o1 o2=>?_;exact ⟨Own R2 Ox,t1,t2,t,Ow.letgo P (fun _=>.inl) o1,Ow.letgo P (fun _=>.inr) o2,P.doms,h3,fun v2 H3 F3 n o3=>k v2 H3 R2 F3 (P.fin n) (nX ▸ o3)⟩
def Post.after {H1:Hp} {R1 R2:Nat->AS} {F1 F:AS} (P1:Post K p1 ds1 Ox σ H en R en1 H1 R1 F1) (P2:Post K p2 ds2 Ox σ H1 en1 R1 en2 H' R2 F):Post K (p1 && p2) ds2 Ox σ H en R en2 H' R2 F:=by
 have P1':=P1.less (F':=NoA) fun _ z=>z.elim;have P2':Post K p2 ds2 (U NoA Ox) σ H1 en1 R1 en2 H' R2 F:=by rw [gP]; exact P2
 have:=P1'.trans P2';rw [gP] at this;exact this
def Post.env0 {F:AS} (P:Post K p ds' Ox σ H en R en' H' R' F):EnvOk K ds' Ox H' σ en' R':=P.env.fewer fun a z=>.inr z
def JX (h:tF K (p1 && p2) ds ds1 d (cV f1 f2) σ H Q):CU (tF K p1 ds ds1 d1 f1) (tF K p2 ds1 ds1 d f2) σ H Q:=by
 obtain ⟨Ox,en,R,t,en',e,hf,k⟩:=h;unfold cV at hf;obtain ⟨⟨t1,en1⟩,h1,hf⟩:=zaa.mp hf;refine ⟨Ox,en,R,t1,en1,e,h1,fun v H1 R1 F1 P1 o1=>?_⟩;cases t1 with
 | bool b =>
  have ev:v=.bl b:=o1;refine ⟨b,ev,?_⟩;cases b with
  | true =>
   rw [if_pos rfl];exact ⟨Ox,en1,R1,t,en',P1.env0,hf,fun v2 H2 R2 F2 P2 o2=>k v2 H2 R2 F2 (P1.after P2) o2⟩
  | false =>
   cases hf;rw [if_neg Bool.false_ne_true];refine k _ H1 R1 NoA ?_ rfl
   have:=(P1.less (F':=NoA) fun _ z=>z.elim);exact ⟨this.env,this.fx,this.keep,this.own,this.dom,fun hp=>this.pure (by cases p1 <;> simp_all)⟩
 | _=>cases hf
def Kg (h:tF K (p1 && p2) ds ds1 d (eOr f1 f2) σ H Q):GO (tF K p1 ds ds1 d1 f1) (tF K p2 ds1 ds1 d f2) σ H Q:=by
 obtain ⟨Ox,en,R,t,en',e,hf,k⟩:=h;unfold eOr at hf;obtain ⟨⟨t1,en1⟩,h1,hf⟩:=zaa.mp hf;refine ⟨Ox,en,R,t1,en1,e,h1,fun v H1 R1 F1 P1 o1=>?_⟩;cases t1 with
 | bool b =>
  have ev:v=.bl b:=o1;refine ⟨b,ev,?_⟩;cases b with
  | false =>
   rw [if_neg Bool.false_ne_true];exact ⟨Ox,en1,R1,t,en',P1.env0,hf,fun v2 H2 R2 F2 P2 o2=>k v2 H2 R2 F2 (P1.after P2) o2⟩
  | true =>
   cases hf;rw [if_pos rfl];refine k _ H1 R1 NoA ?_ rfl
   have:=(P1.less (F':=NoA) fun _ z=>z.elim);exact ⟨this.env,this.fx,this.keep,this.own,this.dom,fun hp=>this.pure (by cases p1 <;> simp_all)⟩
 | _=>cases hf
def JS (h:tF K p ds ds1 3 (la f) σ H Q):CN (tF K p ds ds1 d1 f) σ H Q:=by
 obtain ⟨Ox,en,R,t,en',e,hf,k⟩:=h;unfold la at hf;obtain ⟨⟨t1,en1⟩,h1,hf⟩:=zaa.mp hf;refine ⟨Ox,en,R,t1,en1,e,h1,fun v H1 R1 F1 P1 o1=>?_⟩;cases t1 with
 | bool b =>
  cases hf;exact ⟨b,o1,k _ H1 R1 NoA (P1.less fun _ z=>z.elim) rfl⟩
 | _=>cases hf
def tFT (K:PySem.W.Frag) (p:Bool) (ds ds':List Nat) (f:MT):TT:=fun σ H Q =>
 ∃ Ox en R b en',EnvOk K ds Ox H σ en R/\f en=some (b,en')/\∀ H' R',Post K p ds' Ox σ H en R en' H' R' NoA->Q b H'
variable {c c1 c2:MT} {QT:Bool->Hp->Prop}
def rh (h:tFT K p ds ds' (tV f) σ H QT):tB (tF K p ds ds' d f) σ H QT:=by
 obtain ⟨Ox,en,R,b,en',e,hf,k⟩:=h;unfold tV at hf;obtain ⟨⟨t1,en1⟩,h1,hf⟩:=zaa.mp hf;refine ⟨Ox,en,R,t1,en1,e,h1,fun v H1 R1 F1 P1 o1=>?_⟩;cases t1 with
 | bool b =>
  cases hf;exact ⟨_,o1,k H1 R1 (P1.less fun _ z=>z.elim)⟩
 | _=>cases hf
def JB (h:tFT K (p1 && p2) ds ds1 (bOr c1 c2) σ H QT):tOr (tFT K p1 ds ds1 c1) (tFT K p2 ds1 ds1 c2) σ H QT:=by
 obtain ⟨Ox,en,R,b,en',e,hf,k⟩:=h;unfold bOr at hf;obtain ⟨⟨b1,en1⟩,h1,hf⟩:=zaa.mp hf;refine ⟨Ox,en,R,b1,en1,e,h1,fun H1 R1 P1=>?_⟩;cases b1 with
 | false =>
  rw [if_neg Bool.false_ne_true];exact ⟨Ox,en1,R1,b,en',P1.env0,hf,fun H2 R2 P2=>k H2 R2 (P1.after P2)⟩
 | true =>
  cases hf;rw [if_pos rfl];exact k H1 R1 ⟨P1.env,P1.fx,P1.keep,P1.own,P1.dom,fun hp=>P1.pure (by cases p1 <;> simp_all)⟩
def HS (h:tFT K p ds ds1 (cr c) σ H QT):GP (tFT K p ds ds1 c) σ H QT:=by
 obtain ⟨Ox,en,R,b,en',e,hf,k⟩:=h;unfold cr at hf;obtain ⟨⟨b1,en1⟩,h1,hf⟩:=zab.mp hf;cases hf;exact ⟨Ox,en,R,b1,_,e,h1,fun H1 R1 P1=>k H1 R1 P1⟩
def HU (hd:leD ds0 ds=true) (h:tFT K true ds ds c σ H QT):tFT K true ds0 ds0 c σ H QT:=by
 obtain ⟨Ox,en,R,t,en',e,hf,k⟩:=h;obtain ⟨R1,s1,e1⟩:=e.cut (ef hd).1 (ef hd).2;refine ⟨Ox,en,R1,t,en',e1,hf,fun H' R' P=>?_⟩;obtain ⟨a1,a2,a3⟩:=P.pure rfl;subst a1 a2;exact k H' R (Post.new e a3 fun _ z=>z.elim)
def Ki (h:tF K (p && (p1 && p2)) ds ds2 d (eIf c f1 f2) σ H Q):tIf (tFT K p ds ds1 c) (tF K p1 ds1 ds2 d f1) (tF K p2 ds1 ds2 d f2) σ H Q:=by
 obtain ⟨Ox,en,R,t,en',e,hf,k⟩:=h;unfold eIf at hf;obtain ⟨⟨b1,en1⟩,h1,hf⟩:=zaa.mp hf;refine ⟨Ox,en,R,b1,en1,e,h1,fun H1 R1 P1=>?_⟩;cases b1 with
 | true =>
  rw [if_pos rfl];refine ⟨Ox,en1,R1,t,en',P1.env0,hf,fun v H2 R2 F2 P2 o2=>k v H2 R2 F2 ?_ o2⟩
  have:=P1.after P2;exact ⟨this.env,this.fx,this.keep,this.own,this.dom,fun hp=>this.pure (by cases p <;> cases p1 <;> simp_all)⟩
 | false =>
  rw [if_neg Bool.false_ne_true];refine ⟨Ox,en1,R1,t,en',P1.env0,hf,fun v H2 R2 F2 P2 o2=>k v H2 R2 F2 ?_ o2⟩
  have:=P1.after P2;exact ⟨this.env,this.fx,this.keep,this.own,this.dom,fun hp=>this.pure (by cases p <;> cases p1 <;> simp_all)⟩
end
abbrev Sh:=List (Nat ⊕ Nat)
def OwA (K:PySem.W.Frag) (O:AS) (H:Hp) (σ:St):List (D ⊕ Nat)->Sh->List V->AS->Prop
 | [],ds,vs,_=>ds=[]/\vs=[]
 | .inl t :: as,ds,vs,F=>∃ v r d dr,∃ F1 F2:AS,vs=v :: r/\ds=.inl d :: dr/\(∀ b,F1 b->F b)/\(∀ b,F2 b->F b)/\(∀ b,F1 b->¬ F2 b)/\Ow K O H t d v F1/\OwA K O H σ as dr r F2
 | .inr i :: as,ds,vs,F=>∃ v r dr,vs=v :: r/\ds=.inr i :: dr/\σ[i]?=some (some v)/\OwA K O H σ as dr r F
def tFA (K:PySem.W.Frag) (p:Bool) (ds ds':List Nat) (sh:Sh) (f:MA):TA:=fun σ H Q =>
 ∃ Ox en R as en',EnvOk K ds Ox H σ en R/\f en=some (as,en')/\∀ vs H' R' F,Post K p ds' Ox σ H en R en' H' R' F->OwA K (Own R' (U F Ox)) H' σ as sh vs F->Q vs H'
def bx (fa:MA):ME:=fun en=>(fa en).bind fun r=>(vals r.1).bind fun ts=>if ts.length<=sizeLine then some (.list ts,r.2) else none
def bR (fa:MA):ME:=fun en=>(fa en).bind fun r=>(vals r.1).bind fun ts=>if ts.length<=sizeLine then some (.tuple ts,r.2) else none
section
variable {K:PySem.W.Frag} {p p1 p2:Bool} {ds ds0 ds1 ds2 ds':List Nat} {Ox Ox' O O':AS} {H H':Hp} {σ:St} {en en' en1 en2:En} {R R':Nat->AS} {d d' d1 d2:Nat} {t t1 t2:D} {Q:VK} {f f1 f2:ME} {fa:MA} {sh:Sh} {QA:List V->Hp->Prop} {i:Nat}
def IK (h:tFA K true ds ds [] ag σ H QA):sY σ H QA:=by
 obtain ⟨Ox,en,R,as,en',e,hf,k⟩:=h;cases hf;exact k [] H R NoA (Post.refl e) ⟨rfl,rfl⟩
def EC (h:tFA K (p1 && p2) ds ds2 (.inl d :: sh) (ad f fa) σ H QA):na (tF K p1 ds ds1 d f) (tFA K p2 ds1 ds2 sh fa) σ H QA:=by
 obtain ⟨Ox,en,R,as,en',e,hf,k⟩:=h;unfold ad at hf;obtain ⟨⟨t1,en1⟩,h1,hf⟩:=zaa.mp hf;obtain ⟨⟨as2,en2⟩,h2,hf⟩:=zab.mp hf;cases hf;refine ⟨Ox,en,R,t1,en1,e,h1,fun x H1 R1 F1 P1 o1=>?_⟩;refine ⟨U F1 Ox,en1,R1,as2,en2,P1.env,h2,fun vs H2 R2 F2 P2 o2=>?_⟩;refine k (x :: vs) H2 R2 (U F1 F2) (P1.trans P2) ⟨x,vs,d,sh,F1,F2,rfl,rfl,fun _=>.inl,fun _=>.inr,fun b z1 z2=>P2.fx b z2 (.inl z1),Ow.over P1.env P2 o1,?_⟩;rw [<- lj];exact o2
def EA (h:tFA K p ds ds2 (.inr i :: sh) (aD i fa) σ H QA):na (i8 i) (tFA K p ds ds2 sh fa) σ H QA:=by
 obtain ⟨Ox,en,R,as,en',e,hf,k⟩:=h;unfold aD at hf;obtain ⟨t0,h0,hf⟩:=zaa.mp hf;obtain ⟨⟨as2,en2⟩,h2,hf⟩:=zab.mp hf;cases hf;have q:en[i]?=some (some t0):=by
  cases q:en[i]? with
  | none=>rw [q] at h0; cases h0
  | some o=>rw [q] at h0; exact congrArg some h0
 obtain ⟨v,d,h1,_⟩:=e.at_ i t0 q;exact ⟨v,h1,Ox,en,R,as2,en2,e,h2,fun vs H2 R2 F2 P2 o2=>k (v :: vs) H2 R2 F2 P2 ⟨v,vs,sh,rfl,rfl,h1,o2⟩⟩
def cg (c:Nat):Sh->Bool
 | []=>true
 | .inl d :: r=>decide (c<=d) && cg c r
 | .inr _ :: _=>false
def OwA.ows:∀ {as:List (D ⊕ Nat)} {sh:Sh} {vs:List V} {F:AS} {ts:List D} {c:Nat},cg c sh=true->vals as=some ts->OwA K O H σ as sh vs F ->
  ∃ F':AS,(∀ b,F' b->F b)/\∀ O':AS,(∀ a,O' a->O a)->(∀ a,F a->O' a->F' a)->Ows K O' H ts c vs F'
 | [],_,_,F,ts,c,_,hv,h=>by
  cases hv;exact ⟨F,fun _ z=>z,fun _ _ _=>h.2⟩
 | .inl t :: as,_,_,F,ts,c,hs,hv,h=>by
  obtain ⟨v,r,d,dr,F1,F2,e1,e2,s1,s2,s3,h1,h2⟩:=h;subst e1 e2;unfold vals at hv;obtain ⟨ts',hv',e⟩:=zab.mp hv;subst e;unfold cg at hs;rw [Bool.and_eq_true] at hs;obtain ⟨G1,a1,a2⟩:=Ow.cut t (of_decide_eq_true hs.1) h1;obtain ⟨G2,b1,b2⟩:=OwA.ows hs.2 hv' h2;refine ⟨fun b=>G1 b\/G2 b,fun b hb=>hb.elim (fun z=>s1 _ (a1 _ z)) fun z=>s2 _ (b1 _ z),fun O' ho hx=>⟨v,r,G1,G2,rfl,fun b=>.inl,fun b=>.inr,fun b z1 z2=>s3 b (a1 b z1) (b1 b z2),a2 O' ho fun b hb hz=>?_,b2 O' ho fun b hb hz=>?_⟩⟩
  ·exact (hx b (s1 b hb) hz).elim id fun z=>absurd (b1 b z) (s3 b hb)
  ·exact (hx b (s2 b hb) hz).elim (fun z=>absurd hb (s3 b (a1 b z))) id
 | .inr i :: as,_,_,F,ts,c,_,hv,_=>by cases hv
def OwA.len:∀ {as:List (D ⊕ Nat)} {sh:Sh} {vs:List V} {F:AS},OwA K O H σ as sh vs F->vs.length=as.length
 | [],_,_,_,h=>by rw [h.2]; rfl
 | .inl t :: as,_,_,_,h=>by
  obtain ⟨v,r,d,dr,F1,F2,e1,e2,s1,s2,s3,h1,h2⟩:=h;rw [e1,zac,zac,h2.len]
 | .inr i :: as,_,_,_,h=>by
  obtain ⟨v,r,dr,e1,e2,e3,h2⟩:=h;rw [e1,zac,zac,h2.len]
def mr:∀ {as:List (D ⊕ Nat)} {ts:List D},vals as=some ts->ts.length=as.length
 | [],_,h=>by cases h; rfl
 | .inl t :: as,_,h=>by
  unfold vals at h;obtain ⟨ts',hv',e⟩:=zab.mp h;subst e;rw [zac,zac,mr hv']
 | .inr _ :: _,_,h=>by cases h
def vB {g:List D->Option D} (hs:cg 0 sh=true) (h:tF K p ds ds1 d (eN g fa) σ H Q):tCB (rFn K g d) (tFA K p ds ds1 sh fa) σ H Q:=by
 obtain ⟨Ox,en,R,t,en',e,hf,k⟩:=h;unfold eN at hf;obtain ⟨⟨as,en1⟩,h1,hf⟩:=zaa.mp hf;obtain ⟨ts,h2,hf⟩:=zaa.mp hf;obtain ⟨t',h3,hf⟩:=zab.mp hf;cases hf;refine ⟨Ox,en,R,as,en1,e,h1,fun vs H1 R1 F P o=>?_⟩;obtain ⟨F',s1,s2⟩:=OwA.ows hs h2 o;have o2:Ows K (Own R1 Ox) H1 ts 0 vs F':=s2 _ (fun a z=>z.imp id .inr) fun a z z2=>by
  rcases z2 with ⟨i,z2⟩ | z2
  ·exact absurd (.inl z) (P.env.dx i a z2)
  ·exact absurd z2 (P.fx a z)
 exact ⟨Own R1 Ox,ts,t,Ows.any0 ts o2,P.doms,h3,fun v2 H2 F2 n o2=>k v2 H2 R1 F2 (P.fin n) (nX ▸ o2)⟩
def Post.add {H1:Hp} {F G:AS} (P:Post K p ds' Ox σ H en R en' H1 R' F) (n:NewTo H1 H' G):Post K p ds' Ox σ H en R en' H' R' (U F G):=by
 have P2:Post K true ds' (U F Ox) σ H1 en' R' en' H' R' G:=Post.new P.env n.1 n.2
 have:=P.trans P2;rw [Bool.and_true] at this;exact this
def bT {l:Addr} {o:HO} (hl:H l=none):NewTo H (upd H l o) (fun b=>b=l):=by
 refine ⟨fun a u q=>?_,fun a z=>?_⟩
 ·rw [aO]
  ·exact q
  ·intro z;subst z;rw [hl] at q;cases q
 ·subst z;exact ⟨hl,_,aJ⟩
def JT {c:Nat} (hs:cg c sh=true) (hd:dn d=c) (hz:d≠0) (h:tF K p ds ds1 d (bx fa) σ H Q):GQ (tFA K p ds ds1 sh fa) σ H Q:=by
 obtain ⟨Ox,en,R,t,en',e,hf,k⟩:=h;unfold bx at hf;obtain ⟨⟨as,en1⟩,h1,hf⟩:=zaa.mp hf;obtain ⟨ts,h2,hf⟩:=zaa.mp hf;by_cases hlen:ts.length<=sizeLine
 case neg=>rw [if_neg hlen] at hf; cases hf
 rw [if_pos hlen] at hf;cases hf;refine ⟨Ox,en,R,as,en1,e,h1,fun vs H1 R1 F P o=>⟨?_,fun l hl=>?_⟩⟩
 ·rw [o.len,<- mr h2]; exact hlen
 obtain ⟨F',s1,s2⟩:=OwA.ows hs h2 o;have o2:=s2 (Own R1 (U F' Ox)) (fun a z=>z.imp id fun z=>z.imp (s1 a) id) fun a z z2=>by
  rcases z2 with ⟨i,z2⟩ | z2 | z2
  ·exact absurd (.inl z) (P.env.dx i a z2)
  ·exact z2
  ·exact absurd z2 (P.fx a z)
 have P':=(P.less s1).add (bT (o:=.lst vs) hl);have nl:∀ a,F' a->a≠l:=fun a z z2=>by
  subst z2;obtain ⟨o',q⟩:=P.env.dom a (.inr (.inl (s1 a z)));rw [hl] at q;cases q
 refine k (.ref l) (upd H1 l (.lst vs)) R1 _ P' ⟨l,vs,rfl,.inr ⟨hz,aJ,.inr rfl,F',fun b z=>⟨.inl z,nl b z⟩,?_⟩⟩;rw [hd];refine Ows.mv (G:=F') ⟨fun a o q _=>(bT (o:=.lst vs) hl).1 a o q,fun a z=>?_⟩ ts (fun _ z=>z) o2;rcases z with z | (z | z) | z
 ·exact .inl (.inl z)
 ·exact .inl (.inr (.inl z))
 ·exact .inr (by rw [show a=l from z]; exact hl)
 ·exact .inl (.inr (.inr z))
def JQ {c:Nat} (hs:cg c sh=true) (hd:dn d=c) (h:tF K p ds ds1 d (bR fa) σ H Q):GL (tFA K p ds ds1 sh fa) σ H Q:=by
 obtain ⟨Ox,en,R,t,en',e,hf,k⟩:=h;unfold bR at hf;obtain ⟨⟨as,en1⟩,h1,hf⟩:=zaa.mp hf;obtain ⟨ts,h2,hf⟩:=zaa.mp hf;by_cases hlen:ts.length<=sizeLine
 case neg=>rw [if_neg hlen] at hf; cases hf
 rw [if_pos hlen] at hf;cases hf;refine ⟨Ox,en,R,as,en1,e,h1,fun vs H1 R1 F P o=>⟨?_,fun l hl=>?_⟩⟩
 ·rw [o.len,<- mr h2]; exact hlen
 obtain ⟨F',s1,s2⟩:=OwA.ows hs h2 o;have o2:=s2 (Own R1 (U F' Ox)) (fun a z=>z.imp id fun z=>z.imp (s1 a) id) fun a z z2=>by
  rcases z2 with ⟨i,z2⟩ | z2 | z2
  ·exact absurd (.inl z) (P.env.dx i a z2)
  ·exact z2
  ·exact absurd z2 (P.fx a z)
 have nl:∀ a,Own R1 (U F' Ox) a->a≠l:=fun a z z2=>by
  subst z2;obtain ⟨o',q⟩:=P.env.dom a (z.imp id fun z=>z.imp (s1 a) id);rw [hl] at q;cases q
 by_cases hz:d=0
 ·subst hz;have P':=(P.less s1).add (G:=NoA) (H':=upd H1 l (.tup vs)) ⟨(bT (o:=.tup vs) hl).1,fun _ z=>z.elim⟩;have eq:U F' NoA=F':=gq fun a=>⟨fun z=>z.elim id fun z=>z.elim,.inl⟩;rw [eq] at P';refine k (.ref l) (upd H1 l (.tup vs)) R1 _ P' ⟨l,vs,rfl,.inl ⟨rfl,⟨aJ,fun z=>nl l z rfl⟩,?_⟩⟩;have hc:c=0:=hd.symm;subst hc;exact Ows.mv (G:=F') ⟨fun a o q _=>(bT (o:=.tup vs) hl).1 a o q,fun a z=>.inl z⟩ ts (fun _ z=>z) o2
 ·have P':=(P.less s1).add (bT (o:=.tup vs) hl);refine k (.ref l) (upd H1 l (.tup vs)) R1 _ P' ⟨l,vs,rfl,.inr ⟨hz,aJ,.inr rfl,F',fun b z=>⟨.inl z,nl b (.inr (.inl z))⟩,?_⟩⟩;rw [hd];refine Ows.mv (G:=F') ⟨fun a o q _=>(bT (o:=.tup vs) hl).1 a o q,fun a z=>?_⟩ ts (fun _ z=>z) o2;rcases z with z | (z | z) | z
  ·exact .inl (.inl z)
  ·exact .inl (.inr (.inl z))
  ·exact .inr (by rw [show a=l from z]; exact hl)
  ·exact .inl (.inr (.inr z))
end
def spF (K:PySem.W.Frag) (dps:List Nat) (dr:Nat) (F:List D->Option (D × En)):Sp:=fun vs H Q _ =>
 ∃ Ox ts R r outs,EnvOk K dps Ox H (vs.map some) (ts.map some) R/\F ts=some (r,outs) /\
  ∀ v H' R' Fr,Post K false dps Ox (vs.map some) H (ts.map some) R outs H' R' Fr->Ow K (Own R' (U Fr Ox)) H' r dr v Fr->Q v H'
def eJ:List (D ⊕ Nat)->En->Option (List D)
 | [],_=>some []
 | .inl t :: r,en=>(eJ r en).map (t :: ·)
 | .inr i :: r,en=>(en[i]?).join.bind fun t=>(eJ r en).map (t :: ·)
def wb:List (D ⊕ Nat)->En->En->En
 | .inr i :: r,o :: outs,en=>wb r outs (en.set i o)
 | .inl _ :: r,_ :: outs,en=>wb r outs en
 | _,_,en=>en
def al (F:List D->Option (D × En)) (fa:MA):ME:=fun en=>(fa en).bind fun r=>(eJ r.1 r.2).bind fun ts=>(F ts).map fun q=>(q.1,wb r.1 q.2 r.2)
def jD:Sh->List Nat
 | []=>[]
 | .inl _ :: r=>jD r
 | .inr i :: r=>i :: jD r
def eX (ds:List Nat):Sh->List Nat->Bool
 | [],[]=>true
 | .inl d :: r,q :: s=>decide (d=q) && eX ds r s
 | .inr i :: r,q :: s=>decide (ds[i]?=some q) && (decide (i ∉ jD r) && eX ds r s)
 | _,_=>false
def iz:Sh->Bool
 | []=>true
 | .inl _ :: r=>iz r
 | .inr _ :: _=>false
section
variable {K:PySem.W.Frag} {p p1 p2:Bool} {ds ds0 ds1 ds2 ds' dps:List Nat} {Ox Ox' O O':AS} {H H':Hp} {σ:St} {en en' en1 en2:En} {R R':Nat->AS} {d d' d1 d2 dr:Nat} {t t1 t2:D} {Q:VK} {f f1 f2:ME} {fa:MA} {sh:Sh} {QA:List V->Hp->Prop} {i:Nat}
def OwA.parts:∀ {as:List (D ⊕ Nat)} {sh:Sh} {vs:List V} {F:AS},OwA K O H σ as sh vs F ->
  ∃ Rp:Nat->AS,(∀ (j:Nat) t,as[j]?=some (.inl t)->∃ v d,vs[j]?=some v/\sh[j]?=some (.inl d)/\Ow K O H t d v (Rp j))/\(∀ (j i:Nat),as[j]?=some (.inr i)->∃ v,vs[j]?=some v/\sh[j]?=some (.inr i)/\σ[i]?=some (some v)) /\
   (∀ j a,Rp j a->F a)/\(∀ j j' a,Rp j a->Rp j' a->j=j')
 | [],sh,vs,F,h=>⟨fun _=>NoA,fun j t z=>by simp at z,fun j i z=>by simp at z,fun _ _ z=>z.elim,fun _ _ _ z=>z.elim⟩
 | .inl t :: as,sh,vs,F,h=>by
  obtain ⟨v,r,d,dr,F1,F2,e1,e2,s1,s2,s3,h1,h2⟩:=h;subst e1 e2;obtain ⟨Rp,a1,a2,a3,a4⟩:=h2.parts;refine ⟨fun j=>match j with | 0=>F1 | j+1=>Rp j,fun j u hj=>?_,fun j i hj=>?_,fun j a z=>?_,fun j j' a z z'=>?_⟩
  ·cases j with
   | zero =>
    have:t=u:=by simpa using hj
    subst this;exact ⟨v,d,rfl,rfl,h1⟩
   | succ j=>exact a1 j u (by simpa using hj)
  ·cases j with
   | zero=>simp at hj
   | succ j=>exact a2 j i (by simpa using hj)
  ·cases j with
   | zero=>exact s1 a z
   | succ j=>exact s2 a (a3 j a z)
  ·cases j with
   | zero =>
    cases j' with
    | zero=>rfl
    | succ j'=>exact absurd (a3 j' a z') (s3 a z)
   | succ j =>
    cases j' with
    | zero=>exact absurd (a3 j a z) (s3 a z')
    | succ j'=>rw [a4 j j' a z z']
 | .inr i :: as,sh,vs,F,h=>by
  obtain ⟨v,r,dr,e1,e2,e3,h2⟩:=h;subst e1 e2;obtain ⟨Rp,a1,a2,a3,a4⟩:=h2.parts;refine ⟨fun j=>match j with | 0=>NoA | j+1=>Rp j,fun j u hj=>?_,fun j i' hj=>?_,fun j a z=>?_,fun j j' a z z'=>?_⟩
  ·cases j with
   | zero=>simp at hj
   | succ j=>exact a1 j u (by simpa using hj)
  ·cases j with
   | zero =>
    have:i=i':=by simpa using hj
    subst this;exact ⟨v,rfl,rfl,e3⟩
   | succ j=>exact a2 j i' (by simpa using hj)
  ·cases j with
   | zero=>exact z.elim
   | succ j=>exact a3 j a z
  ·cases j with
   | zero=>exact z.elim
   | succ j =>
    cases j' with
    | zero=>exact z'.elim
    | succ j'=>rw [a4 j j' a z z']
def mO:∀ {as:List (D ⊕ Nat)} {en:En} {ts:List D},eJ as en=some ts->ts.length=as.length/\∀ (j:Nat) t,ts[j]?=some t->as[j]?=some (.inl t)\/∃ i,as[j]?=some (.inr i)/\en[i]?=some (some t)
 | [],_,_,h=>by cases h; exact ⟨rfl,fun j t z=>by simp at z⟩
 | .inl t :: as,en,_,h=>by
  unfold eJ at h;obtain ⟨ts',h',e⟩:=zab.mp h;subst e;obtain ⟨l,g⟩:=mO h';refine ⟨by rw [zac,zac,l],fun j u z=>?_⟩;cases j with
  | zero=>simp at z; subst z; exact .inl rfl
  | succ j=>exact g j u (by simpa using z)
 | .inr i :: as,en,_,h=>by
  unfold eJ at h;obtain ⟨t,ht,h⟩:=zaa.mp h;obtain ⟨ts',h',e⟩:=zab.mp h;subst e;obtain ⟨l,g⟩:=mO h';refine ⟨by rw [zac,zac,l],fun j u z=>?_⟩;cases j with
  | zero =>
   simp at z;subst z;refine .inr ⟨i,rfl,?_⟩;cases q:en[i]? with
   | none=>rw [q] at ht; cases ht
   | some o=>rw [q] at ht; exact congrArg some ht
  | succ j=>exact g j u (by simpa using z)
def lg:∀ {sh:Sh} {dps:List Nat},eX ds sh dps=true->sh.length=dps.length/\(∀ (j d:Nat),sh[j]?=some (.inl d)->dps[j]?=some d)/\(∀ (j i:Nat),sh[j]?=some (.inr i)->∃ q,dps[j]?=some q/\ds[i]?=some q) /\
   (∀ (j j' i:Nat),sh[j]?=some (.inr i)->sh[j']?=some (.inr i)->j=j')
 | [],[],_=>⟨rfl,fun j d z=>by simp at z,fun j d z=>by simp at z,fun j j' d z=>by simp at z⟩
 | .inl d :: r,q :: s,h=>by
  unfold eX at h;rw [Bool.and_eq_true] at h;obtain ⟨h1,h2⟩:=h;have h1':=of_decide_eq_true h1;subst h1';obtain ⟨l,a,b,c⟩:=lg h2;refine ⟨by rw [zac,zac,l],fun j u z=>?_,fun j i z=>?_,fun j j' i z z'=>?_⟩
  ·cases j with
   | zero=>simp at z; subst z; rfl
   | succ j=>exact a j u (by simpa using z)
  ·cases j with
   | zero=>simp at z
   | succ j=>exact b j i (by simpa using z)
  ·cases j with
   | zero=>simp at z
   | succ j =>
    cases j' with
    | zero=>simp at z'
    | succ j'=>rw [c j j' i (by simpa using z) (by simpa using z')]
 | .inr i0 :: r,q :: s,h=>by
  unfold eX at h;rw [Bool.and_eq_true,Bool.and_eq_true] at h;obtain ⟨h1,h2,h3⟩:=h;have h1':=of_decide_eq_true h1;have h2':=of_decide_eq_true h2;obtain ⟨l,a,b,c⟩:=lg h3;have mem:∀ {r:Sh} {j i:Nat},r[j]?=some (.inr i)->i∈jD r:=fun {r}=>by
   induction r with
   | nil=>intro j i z; simp at z
   | cons x r ih =>
    intro j i z;cases j with
    | zero =>
     simp at z;subst z;unfold jD;exact zaq
    | succ j =>
     have:=ih (j:=j) (i:=i) (by simpa using z);cases x with
     | inl _=>exact this
     | inr _=>exact zaj _ this
  refine ⟨by rw [zac,zac,l],fun j u z=>?_,fun j i z=>?_,fun j j' i z z'=>?_⟩
  ·cases j with
   | zero=>simp at z
   | succ j=>exact a j u (by simpa using z)
  ·cases j with
   | zero=>simp at z; subst z; exact ⟨q,rfl,h1'⟩
   | succ j=>exact b j i (by simpa using z)
  ·cases j with
   | zero =>
    simp at z;subst z;cases j' with
    | zero=>rfl
    | succ j'=>exact absurd (mem (by simpa using z')) h2'
   | succ j =>
    cases j' with
    | zero =>
     simp at z';subst z';exact absurd (mem (by simpa using z)) h2'
    | succ j'=>rw [c j j' i (by simpa using z) (by simpa using z')]
 | [],_ :: _,h=>nomatch h
 | .inl _ :: _,[],h=>nomatch h
 | .inr _ :: _,[],h=>nomatch h
def qi:∀ (as:List (D ⊕ Nat)) (outs en:En),(wb as outs en).length=en.length
 | [],_,_=>by unfold wb; rfl
 | .inl _ :: as,[],_=>by unfold wb; rfl
 | .inr _ :: as,[],_=>by unfold wb; rfl
 | .inl _ :: as,o :: outs,en=>by unfold wb; exact qi as outs en
 | .inr i :: as,o :: outs,en=>by unfold wb; rw [qi as outs _,zaV]
def kJ:∀ (as:List (D ⊕ Nat)) (outs en:En) (i:Nat),(∀ j:Nat,as[j]?≠some (.inr i))->(wb as outs en)[i]?=en[i]?
 | [],_,_,_,_=>by unfold wb; rfl
 | .inl _ :: as,[],_,_,_=>by unfold wb; rfl
 | .inr _ :: as,[],_,_,_=>by unfold wb; rfl
 | .inl _ :: as,o :: outs,en,i,h=>by unfold wb; exact kJ as outs en i fun j=>h (j+1)
 | .inr k :: as,o :: outs,en,i,h=>by
  unfold wb;rw [kJ as outs _ i fun j=>h (j+1),zaO];intro e;subst e;exact h 0 rfl
def sS:∀ (as:List (D ⊕ Nat)) (outs en:En) (i j:Nat),as[j]?=some (.inr i)->(∀ j':Nat,as[j']?=some (.inr i)->j'=j)->outs.length=as.length->i < en.length->(wb as outs en)[i]?=outs[j]?
 | [],_,_,_,_,h,_,_,_=>by simp at h
 | .inl _ :: as,[],_,_,_,_,_,h,_=>by simp at h
 | .inr _ :: as,[],_,_,_,_,_,h,_=>by simp at h
 | .inl _ :: as,o :: outs,en,i,j,h,u,l,b=>by
  unfold wb;cases j with
  | zero=>simp at h
  | succ j=>exact sS as outs en i j (by simpa using h) (fun j' z=>by have:=u (j'+1) (by simpa using z); omega) (by simpa using l) b
 | .inr k :: as,o :: outs,en,i,j,h,u,l,b=>by
  unfold wb;cases j with
  | zero =>
   have e:k=i:=by simpa using h
   subst e;rw [kJ as outs _ k fun j' z=>by have:=u (j'+1) (by simpa using z); omega];rw [zaP b];rfl
  | succ j=>exact sS as outs _ i j (by simpa using h) (fun j' z=>by have:=u (j'+1) (by simpa using z); omega) (by simpa using l) (by rw [zaV]; exact b)
def OwA.shl:∀ {as:List (D ⊕ Nat)} {sh:Sh} {vs:List V} {F:AS},OwA K O H σ as sh vs F->sh.length=as.length
 | [],_,_,_,h=>by rw [h.1]; rfl
 | .inl t :: as,_,_,_,h=>by
  obtain ⟨v,r,d,dr,F1,F2,e1,e2,s1,s2,s3,h1,h2⟩:=h;rw [e2,zac,zac,h2.shl]
 | .inr i :: as,_,_,_,h=>by
  obtain ⟨v,r,dr,e1,e2,e3,h2⟩:=h;rw [e2,zac,zac,h2.shl]
def nk:∀ {sh:Sh},iz sh=true->∀ (j i:Nat),sh[j]?≠some (.inr i)
 | [],_,j,i,z=>by simp at z
 | .inl _ :: r,h,j,i,z=>by
  cases j with
  | zero=>simp at z
  | succ j=>exact nk (sh:=r) h j i (by simpa using z)
 | .inr _ :: r,h,_,_,_=>nomatch h
def IN {E:XK} {F:List D->Option (D × En)} (hc:eX ds1 sh dps=true) (h:tF K (p && iz sh) ds ds1 dr (al F fa) σ H Q):sZ (spF K dps dr F) [] E (tFA K p ds ds1 sh fa) σ H Q:=by
 obtain ⟨Ox,en,R,t,en',e,hf,k⟩:=h;unfold al at hf;obtain ⟨⟨as,en1⟩,h1,hf⟩:=zaa.mp hf;obtain ⟨ts,h2,hf⟩:=zaa.mp hf;obtain ⟨⟨r,outs⟩,h3,hf⟩:=zab.mp hf;cases hf;refine ⟨Ox,en,R,as,en1,e,h1,fun vs H1 R1 F0 P o=>?_⟩;obtain ⟨cl,c1,c2,c3⟩:=lg hc;obtain ⟨Rp,a1,a2,a3,a4⟩:=o.parts;obtain ⟨tl,tg⟩:=mO h2;have ol:=o.len;have asl:∀ (j i:Nat),as[j]?=some (.inr i)->sh[j]?=some (.inr i):=fun j i z=>(a2 j i z).choose_spec.2.1;have asr:∀ (j i:Nat),sh[j]?=some (.inr i)->as[j]?=some (.inr i):=fun j i z=>by
  cases q:as[j]? with
  | none =>
   have e1:as.length<=j:=List.getElem?_eq_none_iff.mp q;have e2:j < sh.length:=(zah.mp z).1
   have:=o.shl;omega
  | some x =>
   cases x with
   | inl t =>
    obtain ⟨_,_,_,e2,_⟩:=a1 j t q;rw [z] at e2; cases e2
   | inr i' =>
    have:=asl j i' q;rw [z] at this;cases this;rfl
 let Rq:Nat->AS:=fun j=>match sh[j]? with | some (.inr i)=>R1 i | _=>Rp j
 have rq1:∀ j i:Nat,sh[j]?=some (.inr i)->Rq j=R1 i:=fun j i z=>by show (match sh[j]? with | some (.inr i)=>R1 i | _=>Rp j)=R1 i; rw [z]
 have rq2:∀ j:Nat,(∀ i:Nat,sh[j]?≠some (.inr i))->Rq j=Rp j:=fun j z=>by
  show (match sh[j]? with | some (.inr i)=>R1 i | _=>Rp j)=Rp j;split
  ·next i q=>exact absurd q (z i)
  ·rfl
 have rqc:∀ (j:Nat) a,Rq j a->(∃ i,sh[j]?=some (.inr i)/\R1 i a)\/Rp j a:=fun j a z=>by
  by_cases q:∃ i,sh[j]?=some (.inr i)
  ·obtain ⟨i,q⟩:=q;rw [rq1 j i q] at z;exact .inl ⟨i,q,z⟩
  ·rw [rq2 j fun i z=>q ⟨i,z⟩] at z;exact .inr z
 let Oxp:AS:=fun a=>Ox a\/∃ i,R1 i a/\∀ j:Nat,sh[j]?≠some (.inr i);have sub:∀ a,Own Rq Oxp a->Own R1 (U F0 Ox) a:=fun a z=>by
  rcases z with ⟨j,z⟩ | z | ⟨i,z,_⟩
  ·rcases rqc j a z with ⟨i,_,z⟩ | z
   ·exact .inl ⟨i,z⟩
   ·exact .inr (.inl (a3 j a z))
  ·exact .inr (.inr z)
  ·exact .inl ⟨i,z⟩
 have ec:EnvOk K dps Oxp H1 (vs.map some) (ts.map some) Rq:=by
  refine ⟨fun j u hu=>?_,fun j j' a z z'=>?_,fun j a z z2=>?_,fun a z=>P.env.dom a (sub a z),by rw [zad,zad,tl,ol],?_⟩
  ·rw [zao] at hu;obtain ⟨u',hu,eu⟩:=zab.mp hu;cases eu;rcases tg j u hu with q | ⟨i,q,qe⟩
   ·obtain ⟨v,d,b1,b2,b3⟩:=a1 j u q;refine ⟨v,d,by rw [zao,b1]; rfl,c1 j d b2,?_⟩;rw [rq2 j fun i z=>by rw [b2] at z; cases z];exact Ow.grow sub u (fun _ z=>z) b3
   ·obtain ⟨v,b1,b2,b3⟩:=a2 j i q;obtain ⟨v',d,g1,g2,g3⟩:=P.env.at_ i u qe;rw [b3] at g1;cases g1;obtain ⟨qd,q1,q2⟩:=c2 j i b2;rw [g2] at q2;cases q2;refine ⟨v,d,by rw [zao,b1]; rfl,q1,?_⟩;rw [rq1 j i b2];exact Ow.grow sub u (fun _ z=>z) g3
  ·rcases rqc j a z with ⟨i,q,z⟩ | z <;> rcases rqc j' a z' with ⟨i',q',z'⟩ | z'
   ·have:=P.env.dj i i' a z z';subst this;exact c3 j j' i q q'
   ·exact absurd (.inl (a3 j' a z')) (P.env.dx i a z)
   ·exact absurd (.inl (a3 j a z)) (P.env.dx i' a z')
   ·exact a4 j j' a z z'
  ·rcases rqc j a z with ⟨i,q,z⟩ | z
   ·rcases z2 with z2 | ⟨i',z2,n⟩
    ·exact P.env.dx i a z (.inr z2)
    ·have:=P.env.dj i i' a z z2;subst this;exact n j q
   ·rcases z2 with z2 | ⟨i',z2,n⟩
    ·exact P.fx a (a3 j a z) z2
    ·exact P.env.dx i' a z2 (.inl (a3 j a z))
  ·have:=o.shl;rw [zad];omega
 rw [List.append_nil];refine ⟨Oxp,ts,Rq,r,outs,ec,h3,fun v H2 R2 Fr Pc oc=>?_⟩;have outl:outs.length=as.length:=by rw [Pc.env.l1,zad]; exact ol
 classical
 let R3:Nat->AS:=fun i=>if q:∃ j:Nat,sh[j]?=some (.inr i) then R2 q.choose else R1 i
 have r31:∀ (i j:Nat),sh[j]?=some (.inr i)->R3 i=R2 j:=fun i j z=>by
  have q:∃ j:Nat,sh[j]?=some (.inr i):=⟨j,z⟩
  have:q.choose=j:=c3 _ _ i q.choose_spec z;show (if q:∃ j:Nat,sh[j]?=some (.inr i) then R2 q.choose else R1 i)=R2 j;rw [dif_pos q,this]
 have r32:∀ i:Nat,(∀ j:Nat,sh[j]?≠some (.inr i))->R3 i=R1 i:=fun i z=>by
  show (if q:∃ j:Nat,sh[j]?=some (.inr i) then R2 q.choose else R1 i)=R1 i;rw [dif_neg fun ⟨j,q⟩=>z j q]
 have r3c:∀ (i:Nat) a,R3 i a->(∃ j:Nat,sh[j]?=some (.inr i)/\R2 j a)\/((∀ j:Nat,sh[j]?≠some (.inr i))/\R1 i a):=fun i a z=>by
  by_cases q:∃ j:Nat,sh[j]?=some (.inr i)
  ·obtain ⟨j,q⟩:=q;rw [r31 i j q] at z;exact .inl ⟨j,q,z⟩
  ·rw [r32 i fun j z=>q ⟨j,z⟩] at z;exact .inr ⟨fun j z=>q ⟨j,z⟩,z⟩
 have sub3:∀ a,Own R3 (U Fr Ox) a->Own R2 (U Fr Oxp) a:=fun a z=>by
  rcases z with ⟨i,z⟩ | z | z
  ·rcases r3c i a z with ⟨j,_,z⟩ | ⟨n,z⟩
   ·exact .inl ⟨j,z⟩
   ·exact .inr (.inr (.inr ⟨i,z,n⟩))
  ·exact .inr (.inl z)
  ·exact .inr (.inr (.inl z))
 have back:∀ a,(Fr a\/∃ j,R2 j a)->Own R1 (U F0 Ox) a\/H1 a=none:=fun a z=>by
  rcases Pc.own a z with ⟨j,z⟩ | z
  ·exact .inl (sub a (.inl ⟨j,z⟩))
  ·exact .inr z
 have back2:∀ a,(Fr a\/∃ j,R2 j a)->(F0 a\/∃ i,R1 i a)\/H1 a=none:=fun a z=>by
  rcases Pc.own a z with ⟨j,z⟩ | z
  ·rcases rqc j a z with ⟨i,_,z⟩ | z
   ·exact .inl (.inr ⟨i,z⟩)
   ·exact .inl (.inl (a3 j a z))
  ·exact .inr z
 have n1:∀ a,H1 a=none->H a=none:=fun a z=>by
  cases q:H a with
  | none=>rfl
  | some o =>
   obtain ⟨o',q'⟩:=P.dom a o q;rw [z] at q';cases q'
 have rqsub:∀ j a,Rq j a->Own R1 (U F0 Ox) a:=fun j a z=>sub a (.inl ⟨j,z⟩);have env3:EnvOk K ds1 (U Fr Ox) H2 σ (wb as outs en1) R3:=by
  refine ⟨fun i u hu=>?_,fun i i' a z z'=>?_,fun i a z z2=>?_,fun a z=>Pc.env.dom a (sub3 a z),by rw [qi]; exact P.env.l1,P.env.l2⟩
  ·by_cases q:∃ j:Nat,as[j]?=some (.inr i)
   ·obtain ⟨j,q⟩:=q;obtain ⟨v,b1,b2,b3⟩:=a2 j i q;have hil:i < en1.length:=by rw [P.env.l1]; exact (zah.mp b3).1
    rw [sS as outs en1 i j q (fun j' z=>c3 j' j i (asl j' i z) b2) outl hil] at hu;obtain ⟨v',d,g1,g2,g3⟩:=Pc.env.at_ j u hu;rw [zao,b1] at g1;cases g1;obtain ⟨qd,q1,q2⟩:=c2 j i b2;rw [g2] at q1;cases q1;refine ⟨v,d,b3,q2,?_⟩;rw [r31 i j b2];exact Ow.grow sub3 u (fun _ z=>z) g3
   ·rw [kJ as outs en1 i fun j z=>q ⟨j,z⟩] at hu;have ns:∀ j:Nat,sh[j]?≠some (.inr i):=fun j z=>q ⟨j,asr j i z⟩;obtain ⟨v,d,g1,g2,g3⟩:=P.env.at_ i u hu;refine ⟨v,d,g1,g2,?_⟩;rw [r32 i ns];refine Ow.mv (G:=R1 i) ⟨fun a o q z=>Pc.keep a o q fun j zj=>?_,fun a z=>?_⟩ u (fun _ z=>z) g3
    ·rcases z with z | z
     ·exact z (rqsub j a zj)
     ·rcases rqc j a zj with ⟨i',q',z'⟩ | z'
      ·have:=P.env.dj i i' a z z';subst this;exact ns j q'
      ·exact P.env.dx i a z (.inl (a3 j a z'))
    ·rcases z with ⟨i',z⟩ | z | z
     ·rcases r3c i' a z with ⟨j,_,z⟩ | ⟨n,z⟩
      ·exact back a (.inr ⟨j,z⟩)
      ·exact .inl (.inl ⟨i',z⟩)
     ·exact back a (.inl z)
     ·exact .inl (.inr (.inr z))
  ·rcases r3c i a z with ⟨j,q,z⟩ | ⟨n,z⟩ <;> rcases r3c i' a z' with ⟨j',q',z'⟩ | ⟨n',z'⟩
   ·have:=Pc.env.dj j j' a z z';subst this;rw [q] at q';cases q';rfl
   ·exact absurd (.inr (.inr ⟨i',z',n'⟩)) (Pc.env.dx j a z)
   ·exact absurd (.inr (.inr ⟨i,z,n⟩)) (Pc.env.dx j' a z')
   ·exact P.env.dj i i' a z z'
  ·rcases r3c i a z with ⟨j,q,z⟩ | ⟨n,z⟩
   ·exact Pc.env.dx j a z (z2.imp id .inl)
   ·rcases z2 with z2 | z2
    ·exact Pc.fx a z2 (.inr ⟨i,z,n⟩)
    ·exact P.env.dx i a z (.inr z2)
 refine k v H2 R3 Fr ⟨env3,fun a z z2=>Pc.fx a z (.inl z2),fun a o q n=>?_,fun a z=>?_,fun a o q=>?_,fun hp=>?_⟩ (Ow.grow sub3 r (fun _ z=>z) oc)
 ·refine Pc.keep a o (P.keep a o q n) fun j z=>?_;have nn:∀ i,¬ R1 i a:=fun i z=>by
   rcases P.own a (.inr ⟨i,z⟩) with ⟨i',z⟩ | z
   ·exact n i' z
   ·rw [q] at z; cases z
  rcases rqc j a z with ⟨i,_,z⟩ | z
  ·exact nn i z
  ·rcases P.own a (.inl (a3 j a z)) with ⟨i',z⟩ | z
   ·exact n i' z
   ·rw [q] at z; cases z
 ·have:(F0 a\/∃ i,R1 i a)\/H1 a=none:=by
   rcases z with z | ⟨i,z⟩
   ·exact back2 a (.inl z)
   ·rcases r3c i a z with ⟨j,_,z⟩ | ⟨n,z⟩
    ·exact back2 a (.inr ⟨j,z⟩)
    ·exact .inl (.inr ⟨i,z⟩)
  rcases this with z | z
  ·exact P.own a z
  ·exact .inr (n1 a z)
 ·obtain ⟨o',q'⟩:=P.dom a o q;exact Pc.dom a o' q'
 ·obtain ⟨hp1,hp2⟩:=(Bool.and_eq_true _ _ ▸ hp:p=true/\iz sh=true);obtain ⟨b1,b2,b3⟩:=P.pure hp1;have ns:=nk hp2;refine ⟨?_,?_,fun a o q=>?_⟩
  ·show wb as outs en1=en;rw [<- b1];refine List.ext_getElem? fun i=>?_;exact kJ as outs en1 i fun j z=>ns j i (asl j i z)
  ·rw [<- b2]
   funext i
   exact r32 i fun j=>ns j i
  ·refine Pc.keep a o (b3 a o q) fun j z=>?_;rcases rqc j a z with ⟨i,z,_⟩ | z
   ·exact ns j i z
   ·have zf:=a3 j a z;rcases P.own a (.inl zf) with ⟨i,z2⟩ | z2
    ·rw [<- b2] at z2;exact P.env.dx i a z2 (.inl zf)
    ·rw [q] at z2; cases z2
end
inductive Fl where
 | nx (en:En) | rt (t:D) (en:En) | ct (en:En)
abbrev MS:=En->Option Fl
structure Jd where
 lk:List Nat
 dsr:List Nat
 dr:Nat
 dsl:List Nat
structure PostS (K:PySem.W.Frag) (lk:List Nat) (ds':List Nat) (Ox:AS) (σ:St) (H:Hp) (R:Nat->AS) (σ':St) (en':En) (H':Hp) (R':Nat->AS) (F:AS):Prop where
 env:EnvOk K ds' (U F Ox) H' σ' en' R'
 fx:∀ a,F a->¬ Ox a
 keep:∀ a o,H a=some o->(∀ i,¬ R i a)->H' a=some o
 own:∀ a,(F a\/∃ i,R' i a)->(∃ i,R i a)\/H a=none
 dom:∀ a o,H a=some o->∃ o',H' a=some o'
 lk:∀ j∈lk,σ'[j]?=σ[j]?
def tFS (K:PySem.W.Frag) (J:Jd) (ds ds':List Nat) (f:MS):TS:=fun D σ H =>
 ∃ Ox en R fl,EnvOk K ds Ox H σ en R/\f en=some fl/\match fl with
  | .nx en'=>∀ σ' H' R',PostS K J.lk ds' Ox σ H R σ' en' H' R' NoA->D.nx σ' H'
  | .ct en'=>∀ σ' H' R',PostS K J.lk J.dsl Ox σ H R σ' en' H' R' NoA->D.ct σ' H'
  | .rt t en'=>∀ v σ' H' R' F,PostS K J.lk J.dsr Ox σ H R σ' en' H' R' F->Ow K (Own R' (U F Ox)) H' t J.dr v F->D.rt v H'
def ak (f g:MS):MS:=fun en=>(f en).bind fun fl=>match fl with
 | .nx en1=>g en1
 | .rt t en1=>some (.rt t en1)
 | .ct en1=>some (.ct en1)
def aB (i:Nat) (f:ME):MS:=fun en=>(f en).map fun r=>.nx (r.2.set i (some r.1))
def iy (f:ME):MS:=fun en=>(f en).map fun r=>.nx r.2
def aq (f:ME):MS:=fun en=>(f en).map fun r=>.rt r.1 r.2
def Ky:MS:=fun en=>some (.rt .none en)
def aG:MS:=fun en=>some (.nx en)
def Kz:MS:=fun en=>some (.ct en)
def dO:MS:=fun _=>none
def sIf (c:MT) (f g:MS):MS:=fun en=>(c en).bind fun r=>if r.1 then f r.2 else g r.2
section
variable {K:PySem.W.Frag} {p p1 p2:Bool} {J:Jd} {lk:List Nat} {ds ds0 ds1 ds2 ds':List Nat} {Ox Ox' O O':AS} {H H':Hp} {σ σ':St} {en en' en1 en2:En} {R R':Nat->AS} {d d' d1 d2 dr:Nat} {t t1 t2:D} {f f1 f2:ME} {c:MT} {m m1 m2:MS} {i:Nat} {D:Ends}
def PostS.refl (e:EnvOk K ds Ox H σ en R):PostS K lk ds Ox σ H R σ en H R NoA :=
 ⟨by rw [gP]; exact e,fun _ z=>z.elim,fun _ _ q _=>q,fun a z=>z.elim (fun z=>z.elim) .inl,fun a o q=>⟨o,q⟩,fun _ _=>rfl⟩
def PostS.env0 {F:AS} (P:PostS K lk ds' Ox σ H R σ' en' H' R' F):EnvOk K ds' Ox H' σ' en' R':=P.env.fewer fun a z=>.inr z
def PostS.less {F F':AS} (P:PostS K lk ds' Ox σ H R σ' en' H' R' F) (h:∀ a,F' a->F a):PostS K lk ds' Ox σ H R σ' en' H' R' F' :=
 ⟨P.env.fewer fun a z=>z.imp (h a) id,fun a z=>P.fx a (h a z),P.keep,fun a z=>P.own a (z.imp (h a) id),P.dom,P.lk⟩
def PostS.after {σ1 σ2:St} {H1:Hp} {R1 R2:Nat->AS} {F:AS} (P1:PostS K lk ds1 Ox σ H R σ1 en1 H1 R1 NoA) (P2:PostS K lk ds2 Ox σ1 H1 R1 σ2 en2 H' R2 F):PostS K lk ds2 Ox σ H R σ2 en2 H' R2 F:=by
 have n1:∀ a,H1 a=none->H a=none:=fun a z=>by
  cases q:H a with
  | none=>rfl
  | some o =>
   obtain ⟨o',q'⟩:=P1.dom a o q;rw [z] at q';cases q'
 refine ⟨P2.env,P2.fx,fun a o q n=>?_,fun a z=>?_,fun a o q=>?_,fun j hj=>(P2.lk j hj).trans (P1.lk j hj)⟩
 ·refine P2.keep a o (P1.keep a o q n) fun i z=>?_;rcases P1.own a (.inr ⟨i,z⟩) with ⟨j,z⟩ | z
  ·exact n j z
  ·rw [q] at z; cases z
 ·rcases P2.own a z with z | z
  ·exact P1.own a (.inr z)
  ·exact .inr (n1 a z)
 ·obtain ⟨o',q'⟩:=P1.dom a o q;exact P2.dom a o' q'
def Post.s {F:AS} (P:Post K p ds' Ox σ H en R en' H' R' F):PostS K lk ds' Ox σ H R σ en' H' R' F:=⟨P.env,P.fx,P.keep,P.own,P.dom,fun _ _=>rfl⟩
def PostS.cut {F:AS} (P:PostS K lk ds1 Ox σ H R σ' en' H' R' F) (hd:leD ds2 ds1=true):∃ R2,(∀ i a,R2 i a->R' i a)/\PostS K lk ds2 Ox σ H R σ' en' H' R2 F:=by
 obtain ⟨R2,s1,e2⟩:=P.env.cut (ef hd).1 (ef hd).2;exact ⟨R2,s1,e2,P.fx,P.keep,fun a z=>P.own a (z.imp id fun ⟨i,z⟩=>⟨i,s1 i a z⟩),P.dom,P.lk⟩
def HY (h:tFS K J ds ds aG D σ H):CO D σ H:=by
 obtain ⟨Ox,en,R,fl,e,hf,k⟩:=h;cases hf;exact k σ H R (PostS.refl e)
def HW (h:tFS K J ds ds2 (ak m1 m2) D σ H):GM (tFS K J ds ds1 m1) (tFS K J ds1 ds2 m2) D σ H:=by
 obtain ⟨Ox,en,R,fl,e,hf,k⟩:=h;unfold ak at hf;obtain ⟨fl1,h1,hf⟩:=zaa.mp hf;refine ⟨Ox,en,R,fl1,e,h1,?_⟩;cases fl1 with
 | nx en1 =>
  intro σ1 H1 R1 P1;refine ⟨Ox,en1,R1,fl,P1.env0,hf,?_⟩;cases fl with
  | nx en2=>exact fun σ2 H2 R2 P2=>k σ2 H2 R2 (P1.after P2)
  | ct en2=>exact fun σ2 H2 R2 P2=>k σ2 H2 R2 (P1.after P2)
  | rt t en2=>exact fun v σ2 H2 R2 F P2 o=>k v σ2 H2 R2 F (P1.after P2) o
 | ct en1=>cases hf; exact k
 | rt t en1=>cases hf; exact k
def HV (hd:leD ds1 ds2=true) (h:tFS K J ds ds1 m D σ H):tFS K J ds ds2 m D σ H:=by
 obtain ⟨Ox,en,R,fl,e,hf,k⟩:=h;refine ⟨Ox,en,R,fl,e,hf,?_⟩;cases fl with
 | nx en2 =>
  intro σ2 H2 R2 P2;obtain ⟨R3,_,P3⟩:=P2.cut hd;exact k σ2 H2 R3 P3
 | ct en2=>exact k
 | rt t en2=>exact k
def Ia (h:tFS K J ds ds1 (iy f) D σ H):CP (tF K p ds ds1 d f) D σ H:=by
 obtain ⟨Ox,en,R,fl,e,hf,k⟩:=h;unfold iy at hf;obtain ⟨⟨t,en1⟩,h1,hf⟩:=zab.mp hf;cases hf;exact ⟨Ox,en,R,t,en1,e,h1,fun v H1 R1 F P o=>k σ H1 R1 (P.s.less fun _ z=>z.elim)⟩
def HX (hd:leD J.dsr ds1=true) (h:tFS K J ds ds' (aq f) D σ H):GN (tF K p ds ds1 J.dr f) D σ H:=by
 obtain ⟨Ox,en,R,fl,e,hf,k⟩:=h;unfold aq at hf;obtain ⟨⟨t,en1⟩,h1,hf⟩:=zab.mp hf;cases hf;refine ⟨Ox,en,R,t,en1,e,h1,fun v H1 R1 F P o=>?_⟩;obtain ⟨R2,s1,P2⟩:=(P.s (lk:=J.lk)).cut hd;exact k v σ H1 R2 F P2 (Ow.grow (fun a z=>z.imp (fun ⟨i,z⟩=>⟨i,s1 i a z⟩) id) t (fun _ z=>z) o)
def wZ (h:tFS K J ds ds' dO D σ H):uF D σ H:=by
 obtain ⟨Ox,en,R,fl,e,hf,k⟩:=h;cases hf
def JC (h:tFS K J ds ds2 (sIf c m1 m2) D σ H):GR (tFT K p ds ds1 c) (tFS K J ds1 ds2 m1) (tFS K J ds1 ds2 m2) D σ H:=by
 obtain ⟨Ox,en,R,fl,e,hf,k⟩:=h;unfold sIf at hf;obtain ⟨⟨b,en1⟩,h1,hf⟩:=zaa.mp hf;refine ⟨Ox,en,R,b,en1,e,h1,fun H1 R1 P1=>?_⟩;have fin:∀ m,m en1=some fl->tFS K J ds1 ds2 m D σ H1:=fun m hm=>by
  refine ⟨Ox,en1,R1,fl,P1.env0,hm,?_⟩;cases fl with
  | nx en2=>exact fun σ2 H2 R2 P2=>k σ2 H2 R2 (P1.s.after P2)
  | ct en2=>exact fun σ2 H2 R2 P2=>k σ2 H2 R2 (P1.s.after P2)
  | rt t en2=>exact fun v σ2 H2 R2 F P2 o=>k v σ2 H2 R2 F (P1.s.after P2) o
 cases b with
 | true=>exact fin m1 hf
 | false=>exact fin m2 hf
def PostS.store {F:AS} {v:V} (P:Post K p ds1 Ox σ H en R en1 H' R' F) (o:Ow K (Own R' (U F Ox)) H' t d v F) (hi:i < ds1.length) (hl:i ∉ lk) :
  PostS K lk (ds1.set i d) Ox σ H R (σ.set i (some v)) (en1.set i (some t)) H' (fun j=>if j=i then F else R' j) NoA:=by
 have l1:=P.env.l1;have l2:=P.env.l2;have sub:∀ a,Own (fun j=>if j=i then F else R' j) Ox a->Own R' (U F Ox) a:=fun a z=>by
  rcases z with ⟨j,z⟩ | z
  ·by_cases hj:j=i
   ·rw [if_pos hj] at z; exact .inr (.inl z)
   ·rw [if_neg hj] at z; exact .inl ⟨j,z⟩
  ·exact .inr (.inr z)
 refine ⟨?_,fun _ z=>z.elim,P.keep,fun a z=>?_,P.dom,fun j hj=>?_⟩
 ·rw [gP];refine ⟨fun j u hu=>?_,fun j j' a z z'=>?_,fun j a z z2=>?_,fun a z=>P.env.dom a (sub a z),by rw [zaV,zaV]; exact l1,by rw [zaV,zaV]; exact l2⟩
  ·by_cases hj:j=i
   ·subst hj;rw [zaP (by omega)] at hu;cases hu;refine ⟨v,d,zaP (by omega),zaP hi,?_⟩;rw [if_pos rfl];exact Ow.grow sub t (fun _ z=>z) o
   ·rw [zaO (Ne.symm hj)] at hu;obtain ⟨v',d',g1,g2,g3⟩:=P.env.at_ j u hu;refine ⟨v',d',by rw [zaO (Ne.symm hj)]; exact g1,by rw [zaO (Ne.symm hj)]; exact g2,?_⟩;rw [if_neg hj];exact Ow.grow sub u (fun _ z=>z) g3
  ·by_cases hj:j=i <;> by_cases hj':j'=i
   ·rw [hj,hj']
   ·rw [if_pos hj] at z; rw [if_neg hj'] at z';exact absurd (.inl z) (P.env.dx j' a z')
   ·rw [if_neg hj] at z; rw [if_pos hj'] at z';exact absurd (.inl z') (P.env.dx j a z)
   ·rw [if_neg hj] at z; rw [if_neg hj'] at z';exact P.env.dj j j' a z z'
  ·by_cases hj:j=i
   ·rw [if_pos hj] at z;exact P.fx a z z2
   ·rw [if_neg hj] at z;exact P.env.dx j a z (.inr z2)
 ·rcases z with z | ⟨j,z⟩
  ·exact z.elim
  ·by_cases hj:j=i
   ·rw [if_pos hj] at z; exact P.own a (.inl z)
   ·rw [if_neg hj] at z; exact P.own a (.inr ⟨j,z⟩)
 ·rw [zaO];intro z;subst z;exact hl hj
def vj (hi:i < ds1.length) (hl:i ∉ J.lk) (h:tFS K J ds (ds1.set i d) (aB i f) D σ H):qm (tF K p ds ds1 d f) (nH i) D σ H:=by
 obtain ⟨Ox,en,R,fl,e,hf,k⟩:=h;unfold aB at hf;obtain ⟨⟨t,en1⟩,h1,hf⟩:=zab.mp hf;cases hf;exact ⟨Ox,en,R,t,en1,e,h1,fun v H1 R1 F P o=>k _ H1 _ (PostS.store P o hi hl)⟩
abbrev MG:=PyData->En->Option En
def tFG (K:PySem.W.Frag) (lk:List Nat) (ds ds':List Nat) (g:MG):TG:=fun v σ H Q =>
 ∃ Ox en R t en',EnvOk K ds Ox H σ en R/\Ow K (Own R Ox) H t 0 v NoA/\g t en=some en'/\∀ σ' R',PostS K lk ds' Ox σ H R σ' en' H R' NoA->(∀ j∈lk,R' j=R j)->Q σ' H
def gE (K:PySem.W.Frag) (lk:List Nat) (ds ds':List Nat) (g:List PyData->En->Option En):TGs:=fun vs σ H Q =>
 ∃ Ox en R ts en',EnvOk K ds Ox H σ en R/\Ows K (Own R Ox) H ts 0 vs NoA/\g ts en=some en'/\∀ σ' R',PostS K lk ds' Ox σ H R σ' en' H R' NoA->(∀ j∈lk,R' j=R j)->Q σ' H
def gN (i:Nat):MG:=fun t en=>some (en.set i (some t))
def gs0:List PyData->En->Option En:=fun ts en=>match ts with
 | []=>some en
 | _=>none
def gsC (g:MG) (r:List PyData->En->Option En):List PyData->En->Option En:=fun ts en=>match ts with
 | t :: ts=>(g t en).bind fun en1=>r ts en1
 | []=>none
def gT (g:List PyData->En->Option En):MG:=fun t en=>match t with
 | .tuple ts=>g ts en
 | _=>none
variable {g g1:MG} {gs:List PyData->En->Option En} {v:V} {vs:List V} {QS:St->Hp->Prop}
def Et (hi:i < ds.length) (hl:i ∉ lk) (h:tFG K lk ds (ds.set i 0) (gN i) v σ H QS):nH i v σ H QS:=by
 obtain ⟨Ox,en,R,t,en',e,o,hf,k⟩:=h;cases hf;exact k _ _ (PostS.store (p:=true) (Post.refl e) (by rw [show (fun _=>False:AS)=NoA from rfl,gP]; exact o) hi hl) fun j hj=>if_neg (fun (z:j=i)=>hl (by rw [<- z]; exact hj))
def Er (h:gE K lk ds ds gs0 vs σ H QS):HQ vs σ H QS:=by
 obtain ⟨Ox,en,R,ts,en',e,o,hf,k⟩:=h;cases ts with
 | nil=>cases hf; exact ⟨o,k σ R (PostS.refl e) fun _ _=>rfl⟩
 | cons t ts=>cases hf
def xc (h:gE K lk ds ds2 (gsC g gs) vs σ H QS):Dj (tFG K lk ds ds1 g) (gE K lk ds1 ds2 gs) vs σ H QS:=by
 obtain ⟨Ox,en,R,ts,en',e,o,hf,k⟩:=h;cases ts with
 | nil=>cases hf
 | cons t ts =>
  obtain ⟨en1,h1,h2⟩:=zaa.mp hf;obtain ⟨v,r,F1,F2,e1,s1,s2,s3,o1,o2⟩:=o;refine ⟨v,r,e1,Ox,en,R,t,en1,e,Ow.any0 t o1,h1,fun σ1 R1 P1 r1=>?_⟩;refine ⟨Ox,en1,R1,ts,en',P1.env0,Ows.any0 ts (Ows.mv (G:=NoA) ⟨fun a o q _=>q,fun a z=>?_⟩ ts (F:=NoA) (fun _ z=>z) (Ows.any0 ts o2)),h2,fun σ2 R2 P2 r2=>k σ2 R2 (P1.after P2) fun j hj=>(r2 j hj).trans (r1 j hj)⟩;rcases z with z | z
  ·exact (P1.own a (.inr z)).imp .inl id
  ·exact .inl (.inr z)
def Ip {n:Nat} (hn:∀ ts en,(∃ en',gs ts en=some en')->ts.length=n) (h:tFG K lk ds ds1 (gT gs) v σ H QS):HN K n (gE K lk ds ds1 gs) v σ H QS:=by
 obtain ⟨Ox,en,R,t,en',e,o,hf,k⟩:=h;cases t with
 | tuple ts =>
  have hf':gs ts en=some en':=hf;obtain ⟨a,vs,e1,⟨_,h1,h2⟩ | ⟨z,_⟩⟩:=o
  ·refine ⟨a,vs,e1,h1.sq,?_,Ox,en,R,ts,en',e,h2,hf',k⟩;rw [<- hn ts en ⟨en',hf'⟩]
   have:∀ {ts:List PyData} {vs:List V} {F:AS},Ows K (Own R Ox) H ts 0 vs F->vs.length=ts.length:=fun {ts}=>by
    induction ts with
    | nil=>intro vs F h; rw [show vs=[] from h]; rfl
    | cons t ts ih =>
     intro vs F h;obtain ⟨v,r,F1,F2,e,h1,h2,h3,h4,h5⟩:=h;rw [e,zac,zac,ih h5]
   exact this h2
  ·exact absurd rfl z
 | _=>cases hf
abbrev MI:=En->Option (List PyData × En)
def pb (K:PySem.W.Frag) (O:AS) (H0:Hp) (J:It) (ts:List PyData):Prop :=
 ∀ (i:Nat) (H:Hp) (O1:AS),(∀ a o,H0 a=some o->¬ O a->H a=some o)->(∀ a,O1 a->O a\/H0 a=none)->(∀ a,O1 a->∃ o,H a=some o) ->
  (∀ t,ts[i]?=some t->J.go i H/\∀ x H1,J.yld i H x H1->(∀ a o,H a=some o->H1 a=some o)/\Ow K O1 H1 t 0 x NoA)/\(ts.length=i->J.stop i H)
def tFI (K:PySem.W.Frag) (p:Bool) (ds ds':List Nat) (f:MI):TI:=fun σ H RJ =>
 ∃ Ox en R ts en',EnvOk K ds Ox H σ en R/\f en=some (ts,en')/\∀ J H' R',Post K p ds' Ox σ H en R en' H' R' NoA->pb K (Own R' Ox) H' J ts->RJ J H'
def fc (g:MG) (b:MS):List PyData->En->Option Fl
 | [],en=>some (.nx en)
 | t :: ts,en=>(g t en).bind fun en1=>(b en1).bind fun fl=>match fl with
  | .nx en2=>fc g b ts en2
  | .ct en2=>fc g b ts en2
  | .rt r en2=>some (.rt r en2)
def kO (fi:MI) (g:MG) (b:MS):MS:=fun en=>(fi en).bind fun r=>fc g b r.1 r.2
def HZ {fi:MI} (h:tFS K J ds ds1 (kO fi g m) D σ H):GT (tFI K p ds ds1 fi) (tFG K J.lk ds1 ds2 g) (tFS K { J with dsl:=ds1 } ds2 ds1 m) D σ H:=by
 obtain ⟨Ox,en,R,fl,e,hf,k⟩:=h;unfold kO at hf;obtain ⟨⟨ts,en1⟩,h1,hf⟩:=zaa.mp hf;refine ⟨Ox,en,R,ts,en1,e,h1,fun Jt H1 R1 P1 wk=>?_⟩;refine ⟨fun i n σ' H'=>∃ en' R',n=ts.length - i/\i<=ts.length/\PostS K J.lk ds1 Ox σ H1 R1 σ' en' H' R' NoA/\fc g m (ts.drop i) en'=some fl,⟨_,en1,R1,rfl,Nat.zero_le _,PostS.refl P1.env0,hf⟩,?_⟩;rintro i n σ2 H2 ⟨en2,R2,rfl,hi,P2,hr⟩;obtain ⟨w1,w2⟩:=wk i H2 (Own R2 Ox) (fun a o q z=>P2.keep a o q fun j zj=>z (.inl ⟨j,zj⟩)) (fun a z=>by
  rcases z with z | z
  ·exact (P2.own a (.inr z)).imp .inl id
  ·exact .inl (.inr z)) fun a z=>P2.env0.dom a z
 by_cases hlt:i < ts.length
 ·obtain ⟨go,yl⟩:=w1 ts[i] (zak hlt);have hd:ts.drop i=ts[i] :: ts.drop (i+1):=List.drop_eq_getElem_cons hlt;rw [hd] at hr;obtain ⟨en3,h3,hr⟩:=zaa.mp hr;obtain ⟨fl2,h4,hr⟩:=zaa.mp hr;refine .inr ⟨go,fun σ' H'=>∃ en' R',PostS K J.lk ds1 Ox σ H1 R1 σ' en' H' R' NoA/\fc g m (ts.drop (i+1)) en'=some fl,fun σ' H' ⟨en',R',P',h'⟩=>⟨ts.length - (i+1),by omega,en',R',rfl,hlt,P',h'⟩,fun x H3 y=>?_⟩;obtain ⟨gr,ox⟩:=yl x H3 y;have P3:Post K true ds1 Ox σ2 H2 en2 R2 en2 H3 R2 NoA:=Post.new P2.env0 gr fun _ z=>z.elim;refine ⟨Ox,en2,R2,ts[i],en3,P3.env0,ox,h3,fun σ4 R4 P4 _=>?_⟩;have P4':=(P2.after P3.s).after P4;refine ⟨Ox,en3,R4,fl2,P4.env0,h4,?_⟩;cases fl2 with
  | nx en5=>exact fun σ5 H5 R5 P5=>⟨en5,R5,P4'.after P5,hr⟩
  | ct en5=>exact fun σ5 H5 R5 P5=>⟨en5,R5,P4'.after P5,hr⟩
  | rt t en5 =>
   cases hr;exact fun v σ5 H5 R5 F P5 o=>k v σ5 H5 R5 F (P1.s.after (P4'.after P5)) o
 ·have e2:i=ts.length:=by omega
  subst e2;rw [List.drop_length] at hr;cases hr;exact .inl ⟨w2 rfl,k σ2 H2 R2 (P1.s.after P2)⟩
def whN (c:MT) (b:MS):Nat->En->Option Fl
 | 0,_=>none
 | n+1,en=>(c en).bind fun r=>if r.1 then (b r.2).bind fun fl=>match fl with
   | .nx en2=>whN c b n en2
   | .ct en2=>whN c b n en2
   | .rt t en2=>some (.rt t en2)
  else some (.nx r.2)
open Classical in
noncomputable def cQ (c:MT) (b:MS):MS:=fun en=>if h:∃ n fl,whN c b n en=some fl then some h.choose_spec.choose else none
def ja {b:MS} {fl:Fl} (h:cQ c b en=some fl):∃ n,whN c b n en=some fl:=by
 unfold cQ at h;split at h
 ·next q =>
  cases h;exact ⟨q.choose,q.choose_spec.choose_spec⟩
 ·cases h
def wY (h:tFS K J ds ds1 (cQ c m) D σ H):uE (tFT K p ds ds1 c) (tFS K { J with dsl:=ds } ds1 ds m) D σ H:=by
 obtain ⟨Ox,en,R,fl,e,hf,k⟩:=h;obtain ⟨n0,hn⟩:=ja hf;refine ⟨fun n σ' H'=>∃ en' R',PostS K J.lk ds Ox σ H R σ' en' H' R' NoA/\whN c m n en'=some fl,⟨n0,en,R,PostS.refl e,hn⟩,?_⟩;rintro n σ2 H2 ⟨en2,R2,P2,hr⟩;cases n with
 | zero=>cases hr
 | succ n =>
  unfold whN at hr;obtain ⟨⟨b,en3⟩,h3,hr⟩:=zaa.mp hr;refine ⟨Ox,en2,R2,b,en3,P2.env0,h3,fun H3 R3 P3=>?_⟩;cases b with
  | false =>
   cases hr;rw [if_neg Bool.false_ne_true];exact k σ2 H3 R3 (P2.after P3.s)
  | true =>
   rw [if_pos rfl] at hr ⊢;obtain ⟨fl2,h4,hr⟩:=zaa.mp hr;refine ⟨fun σ' H'=>∃ en' R',PostS K J.lk ds Ox σ H R σ' en' H' R' NoA/\whN c m n en'=some fl,fun σ' H' q=>⟨n,Nat.lt_succ_self _,q⟩,Ox,en3,R3,fl2,P3.env0,h4,?_⟩;have P3':=P2.after (P3.s (lk:=J.lk));cases fl2 with
   | nx en5=>exact fun σ5 H5 R5 P5=>⟨en5,R5,P3'.after P5,hr⟩
   | ct en5=>exact fun σ5 H5 R5 P5=>⟨en5,R5,P3'.after P5,hr⟩
   | rt t en5 =>
    cases hr;exact fun v σ5 H5 R5 F P5 o=>k v σ5 H5 R5 F (P3'.after P5) o
end
def lcF (g:MG) (c:MT) (f:ME):List D->List D->En->Option (List D × En)
 | [],acc,en=>some (acc,en)
 | t :: ts,acc,en=>(g t en).bind fun en1=>(c en1).bind fun r=>if r.1 then (f r.2).bind fun q=>if acc.length < sizeLine then lcF g c f ts (acc++[q.1]) q.2 else none else lcF g c f ts acc r.2
def dI (js:List (Option Nat)) (en:En):En:=js.map fun j=>match j with
 | some j=>(en[j]?).join
 | none=>none
def wbB:List (Option Nat)->En->En->En
 | some j :: js,o :: r,en=>wbB js r (en.set j o)
 | none :: js,_ :: r,en=>wbB js r en
 | _,_,en=>en
def eLC (q:Bool) (fi:MI) (g:MG) (c:MT) (f:ME) (js:List (Option Nat)):ME:=fun en=>(fi en).bind fun r=>(lcF g c f r.1 [] (dI js r.2)).map fun z=>(.list z.1,if q then r.2 else wbB js z.2 r.2)
def gM (ds:List Nat):List (Option Nat)->List Nat->Bool
 | [],[]=>true
 | some j :: js,d :: r=>decide (ds[j]?=some d) && (decide (some j ∉ js) && gM ds js r)
 | none :: js,_ :: r=>gM ds js r
 | _,_=>false
section
variable {K:PySem.W.Frag} {p p1 p2 q:Bool} {lk:List Nat} {ds ds0 ds1 ds2 ds' dsi:List Nat} {Ox Ox' O O':AS} {H H':Hp} {σ σ':St} {en en' en1 en2:En} {R R':Nat->AS} {d d' d1 d2 dr:Nat} {t t1 t2:D} {Q:VK} {f f1 f2:ME} {c:MT} {g:MG} {fi:MI} {i:Nat} {js:List (Option Nat)}
def mN:∀ {js:List (Option Nat)} {dsi:List Nat},gM ds js dsi=true->dsi.length=js.length/\(∀ (k j:Nat),js[k]?=some (some j)->∃ d,dsi[k]?=some d/\ds[j]?=some d)/\(∀ (k k' j:Nat),js[k]?=some (some j)->js[k']?=some (some j)->k=k')
 | [],[],_=>⟨rfl,fun k j z=>by simp at z,fun k k' j z=>by simp at z⟩
 | some j0 :: js,d :: r,h=>by
  unfold gM at h;rw [Bool.and_eq_true,Bool.and_eq_true] at h;obtain ⟨h1,h2,h3⟩:=h;obtain ⟨a,b,c⟩:=mN h3;have n:=of_decide_eq_true h2;refine ⟨by rw [zac,zac,a],fun k j z=>?_,fun k k' j z z'=>?_⟩
  ·cases k with
   | zero=>simp at z; subst z; exact ⟨d,rfl,of_decide_eq_true h1⟩
   | succ k=>exact b k j (by simpa using z)
  ·cases k with
   | zero =>
    simp at z;subst z;cases k' with
    | zero=>rfl
    | succ k'=>exact absurd (zaX (by simpa using z':js[k']?=some (some j0))) n
   | succ k =>
    cases k' with
    | zero =>
     simp at z';subst z';exact absurd (zaX (by simpa using z:js[k]?=some (some j0))) n
    | succ k'=>rw [c k k' j (by simpa using z) (by simpa using z')]
 | none :: js,d :: r,h=>by
  unfold gM at h;obtain ⟨a,b,c⟩:=mN h;refine ⟨by rw [zac,zac,a],fun k j z=>?_,fun k k' j z z'=>?_⟩
  ·cases k with
   | zero=>simp at z
   | succ k=>exact b k j (by simpa using z)
  ·cases k with
   | zero=>simp at z
   | succ k =>
    cases k' with
    | zero=>simp at z'
    | succ k'=>rw [c k k' j (by simpa using z) (by simpa using z')]
 | [],_ :: _,h=>nomatch h
 | some _ :: _,[],h=>nomatch h
 | none :: _,[],h=>nomatch h
def oo:∀ (js:List (Option Nat)) (r en:En),(wbB js r en).length=en.length
 | [],_,_=>by unfold wbB; rfl
 | some _ :: _,[],_=>by unfold wbB; rfl
 | none :: _,[],_=>by unfold wbB; rfl
 | some j :: js,o :: r,en=>by unfold wbB; rw [oo js r _,zaV]
 | none :: js,o :: r,en=>by unfold wbB; exact oo js r _
def lJ:∀ (js:List (Option Nat)) (r en:En) (i:Nat),(∀ k:Nat,js[k]?≠some (some i))->(wbB js r en)[i]?=en[i]?
 | [],_,_,_,_=>by unfold wbB; rfl
 | some _ :: _,[],_,_,_=>by unfold wbB; rfl
 | none :: _,[],_,_,_=>by unfold wbB; rfl
 | none :: js,o :: r,en,i,h=>by unfold wbB; exact lJ js r en i fun j=>h (j+1)
 | some k :: js,o :: r,en,i,h=>by
  unfold wbB;rw [lJ js r _ i fun j=>h (j+1),zaO];intro e;subst e;exact h 0 rfl
def qj:∀ (js:List (Option Nat)) (r en:En) (i k:Nat),js[k]?=some (some i)->(∀ k':Nat,js[k']?=some (some i)->k'=k)->r.length=js.length->i < en.length->(wbB js r en)[i]?=r[k]?
 | [],_,_,_,_,h,_,_,_=>by simp at h
 | some _ :: js,[],_,_,_,_,_,h,_=>by simp at h
 | none :: js,[],_,_,_,_,_,h,_=>by simp at h
 | none :: js,o :: r,en,i,k,h,u,l,b=>by
  unfold wbB;cases k with
  | zero=>simp at h
  | succ k=>exact qj js r en i k (by simpa using h) (fun j' z=>by have:=u (j'+1) (by simpa using z); omega) (by simpa using l) b
 | some j :: js,o :: r,en,i,k,h,u,l,b=>by
  unfold wbB;cases k with
  | zero =>
   have e:j=i:=by simpa using h
   subst e;rw [lJ js r _ j fun j' z=>by have:=u (j'+1) (by simpa using z); omega];rw [zaP b];rfl
  | succ k=>exact qj js r _ i k (by simpa using h) (fun j' z=>by have:=u (j'+1) (by simpa using z); omega) (by simpa using l) (by rw [zaV]; exact b)
def Ows.snoc:∀ {ts:List D} {vs:List V} {F1 F2:AS} {v:V},Ows K O H ts d vs F1->Ow K O H t d v F2->(∀ b,F1 b->¬ F2 b)->Ows K O H (ts++[t]) d (vs++[v]) (U F1 F2)
 | [],vs,F1,F2,v,h,h2,_=>by
  have e:vs=[]:=h;subst e;exact ⟨v,[],F2,NoA,rfl,fun _ z=>.inr z,fun _ z=>z.elim,fun _ _ z=>z.elim,h2,rfl⟩
 | u :: ts,vs,F1,F2,v,h,h2,hd=>by
  obtain ⟨w,r,G1,G2,e,s1,s2,s3,h4,h5⟩:=h;subst e;refine ⟨w,r++[v],G1,U G2 F2,rfl,fun b z=>.inl (s1 b z),fun b z=>z.imp (s2 b) id,fun b z z2=>?_,h4,Ows.snoc h5 h2 fun b z=>hd b (s2 b z)⟩;rcases z2 with z2 | z2
  ·exact s3 b z z2
  ·exact hd b (s1 b z) z2
def Ows.len:∀ {ts:List D} {vs:List V} {F:AS},Ows K O H ts d vs F->vs.length=ts.length
 | [],_,_,h=>by rw [show _=[] from h]; rfl
 | t :: ts,_,_,h=>by
  obtain ⟨v,r,F1,F2,e,h1,h2,h3,h4,h5⟩:=h;rw [e,zac,zac,h5.len]
def gL:List (Option Nat)->Nat->List Nat
 | [],_=>[]
 | some _ :: r,n=>n :: gL r (n+1)
 | none :: r,n=>gL r (n+1)
def jX:∀ {js:List (Option Nat)} {n k j:Nat},js[k]?=some (some j)->n+k∈gL js n
 | [],n,k,j,h=>by simp at h
 | some x :: r,n,k,j,h=>by
  unfold gL;cases k with
  | zero=>exact zaq
  | succ k =>
   refine zaj _ ?_
   have:=jX (n:=n+1) (k:=k) (j:=j) (by simpa using h);rw [show n+(k+1)=n+1+k by omega];exact this
 | none :: r,n,k,j,h=>by
  unfold gL;cases k with
  | zero=>simp at h
  | succ k =>
   have:=jX (n:=n+1) (k:=k) (j:=j) (by simpa using h);rw [show n+(k+1)=n+1+k by omega];exact this
def rn (js:List (Option Nat)) (R1:Nat->AS):Nat->AS:=fun k=>match js[k]? with
 | some (some j)=>R1 j
 | _=>NoA
def EN {R1:Nat->AS} {k j:Nat} (h:js[k]?=some (some j)):rn js R1 k=R1 j:=by unfold rn; rw [h]
def EM {R1:Nat->AS} {k:Nat} {a:Addr} (h:rn js R1 k a):∃ j,js[k]?=some (some j)/\R1 j a:=by
 unfold rn at h;cases q:js[k]? with
 | none=>rw [q] at h; exact h.elim
 | some o =>
  rw [q] at h;cases o with
  | none=>exact h.elim
  | some j=>exact ⟨j,rfl,h⟩
def xr {cd:Nat} (hc:gM ds1 js dsi=true) (hd:dn d=cd) (hz:d≠0) (hl:lk=gL js 0) (h:tF K (p && q) ds ds1 d (eLC q fi g c f js) σ H Q) :
  tLC (tFI K p ds ds1 fi) (tFG K lk dsi dsi g) (tFT K q dsi dsi c) (tF K q dsi dsi cd f) js σ H Q:=by
 obtain ⟨Ox,en,R,t,en',e,hf,k⟩:=h;unfold eLC at hf;obtain ⟨⟨ts,en1⟩,h1,hf⟩:=zaa.mp hf;obtain ⟨⟨fin,enf⟩,h2,hf⟩:=zab.mp hf;cases hf;obtain ⟨cl,c1,c2⟩:=mN hc;refine ⟨Ox,en,R,ts,en1,e,h1,fun J H1 R1 P1 wk D hD=>?_⟩;have E1:=P1.env0;generalize hRI:rn js R1=RI;have ri1:∀ k j:Nat,js[k]?=some (some j)->RI k=R1 j:=fun k j z=>by rw [<- hRI]; exact EN z
 have ric:∀ (k:Nat) a,RI k a->∃ j,js[k]?=some (some j)/\R1 j a:=fun k a z=>by rw [<- hRI] at z; exact EM z
 let OxI:AS:=fun a=>Ox a\/a=D\/∃ i,R1 i a/\∀ k:Nat,js[k]?≠some (some i);have nD:∀ a,Own R1 Ox a->a≠D:=fun a z z2=>by
  subst z2;obtain ⟨o,q⟩:=E1.dom a z;rw [hD] at q;cases q
 have lI:(dI js en1).length=js.length:=by unfold dI; rw [zad]
 have lS:(eY js σ).length=js.length:=by unfold eY; rw [zad]
 have getE:∀ (k:Nat) t,(dI js en1)[k]?=some (some t)->∃ j,js[k]?=some (some j)/\en1[j]?=some (some t):=fun k t z=>by
  unfold dI at z;rw [zao] at z;obtain ⟨oj,h1,h2⟩:=zab.mp z;cases oj with
  | none=>cases h2
  | some j =>
   refine ⟨j,h1,?_⟩;have h2':(en1[j]?).join=some t:=h2;cases q:en1[j]? with
   | none=>rw [q] at h2'; cases h2'
   | some o=>rw [q] at h2'; exact congrArg some h2'
 have getS:∀ (k j:Nat) v,js[k]?=some (some j)->σ[j]?=some (some v)->(eY js σ)[k]?=some (some v):=fun k j v z1 z2=>by
  unfold eY;rw [zao,z1];show some ((σ[j]?).join)=_;rw [z2];rfl
 have u2:∀ a o,H1 a=some o->upd H1 D (.lst []) a=some o:=fun a o q=>(bT (o:=.lst []) hD).1 a o q;have EI:EnvOk K dsi OxI (upd H1 D (.lst [])) (eY js σ) (dI js en1) RI:=by
  refine ⟨fun k t hk=>?_,fun k k' a z z'=>?_,fun k a z z2=>?_,fun a z=>?_,by rw [lI,lS],by rw [cl,lS]⟩
  ·obtain ⟨j,hj,ht⟩:=getE k t hk;obtain ⟨v,d,g1,g2,g3⟩:=E1.at_ j t ht;obtain ⟨d',q1,q2⟩:=c1 k j hj;rw [g2] at q2;cases q2;refine ⟨v,d,getS k j v hj g1,q1,?_⟩;rw [ri1 k j hj];refine Ow.mv (G:=R1 j) ⟨fun a o q _=>u2 a o q,fun a z=>?_⟩ t (fun _ z=>z) g3;rcases z with ⟨k',z⟩ | z | z | ⟨i,z,_⟩
   ·obtain ⟨j',_,z⟩:=ric k' a z;exact .inl (.inl ⟨j',z⟩)
   ·exact .inl (.inr z)
   ·exact .inr (z ▸ hD)
   ·exact .inl (.inl ⟨i,z⟩)
  ·obtain ⟨j,hj,z⟩:=ric k a z;obtain ⟨j',hj',z'⟩:=ric k' a z'
   have:=E1.dj j j' a z z';subst this;exact c2 k k' j hj hj'
  ·obtain ⟨j,hj,z⟩:=ric k a z;rcases z2 with z2 | z2 | ⟨i,z2,n⟩
   ·exact E1.dx j a z z2
   ·exact nD a (.inl ⟨j,z⟩) z2
   ·have:=E1.dj j i a z z2;subst this;exact n k hj
  ·rcases z with ⟨k,z⟩ | z | z | ⟨i,z,_⟩
   ·obtain ⟨j,hj,z⟩:=ric k a z;obtain ⟨o,q⟩:=E1.dom a (.inl ⟨j,z⟩);exact ⟨o,u2 a o q⟩
   ·obtain ⟨o,q⟩:=E1.dom a (.inr z);exact ⟨o,u2 a o q⟩
   ·subst z;exact ⟨_,aJ⟩
   ·obtain ⟨o,q⟩:=E1.dom a (.inl ⟨i,z⟩);exact ⟨o,u2 a o q⟩
 refine ⟨fun i n τ H'=>∃ eni RI' acc vs Fa,n=ts.length - i/\i<=ts.length/\PostS K lk dsi OxI (eY js σ) H1 RI τ eni H' RI' Fa/\H' D=some (.lst vs)/\Ows K (Own RI' (U Fa OxI)) H' acc cd vs Fa/\lcF g c f (ts.drop i) acc eni=some (fin,enf) /\
   (q=true->(∀ k j:Nat,js[k]?=some (some j)->RI' k=RI k)/\(∀ a o,H1 a=some o->H' a=some o)),
  ⟨_,dI js en1,RI,[],[],NoA,rfl,Nat.zero_le _,⟨by rw [gP]; exact EI,fun _ z=>z.elim,fun a o q _=>u2 a o q,fun a z=>z.elim (fun z=>z.elim) .inl,fun a o q=>⟨o,u2 a o q⟩,fun _ _=>rfl⟩,aJ,rfl,h2,fun _=>⟨fun _ _ _=>rfl,u2⟩⟩,?_⟩
 rintro i n τ H2 ⟨eni,RI2,acc,vs,Fa,rfl,hi,P2,hDl,oacc,hr,pu⟩;have e9:∀ a,Own RI2 (U Fa OxI) a->Own R1 Ox a\/H1 a=none:=fun a z=>by
  rcases z with z | z | z | z | ⟨i,z,_⟩
  ·rcases P2.own a (.inr z) with ⟨k,z⟩ | z
   ·obtain ⟨j,_,z⟩:=ric k a z;exact .inl (.inl ⟨j,z⟩)
   ·exact .inr z
  ·rcases P2.own a (.inl z) with ⟨k,z⟩ | z
   ·obtain ⟨j,_,z⟩:=ric k a z;exact .inl (.inl ⟨j,z⟩)
   ·exact .inr z
  ·exact .inl (.inr z)
  ·exact .inr (z ▸ hD)
  ·exact .inl (.inl ⟨i,z⟩)
 obtain ⟨w1,w2⟩:=wk i H2 (Own RI2 (U Fa OxI)) (fun a o q z=>P2.keep a o q fun k zk=>by
  obtain ⟨j,_,zj⟩:=ric k a zk;exact z (.inl ⟨j,zj⟩)) e9 fun a z=>P2.env.dom a z
 have DO:OxI D:=.inr (.inl rfl);by_cases hlt:i < ts.length
 ·obtain ⟨go,yl⟩:=w1 ts[i] (zak hlt);rw [List.drop_eq_getElem_cons hlt] at hr;obtain ⟨en3,h3,hr⟩:=zaa.mp hr;obtain ⟨⟨b,en4⟩,h4,hr⟩:=zaa.mp hr;refine .inr ⟨go,fun τ' H'=>∃ eni RI' acc vs Fa,PostS K lk dsi OxI (eY js σ) H1 RI τ' eni H' RI' Fa/\H' D=some (.lst vs)/\Ows K (Own RI' (U Fa OxI)) H' acc cd vs Fa/\lcF g c f (ts.drop (i+1)) acc eni=some (fin,enf)/\(q=true->(∀ k j:Nat,js[k]?=some (some j)->RI' k=RI k)/\(∀ a o,H1 a=some o->H' a=some o)),
   fun τ' H' ⟨eni,RI',acc,vs,Fa,P',x1,x2,x3,x4⟩=>⟨_,by omega,eni,RI',acc,vs,Fa,rfl,hlt,P',x1,x2,x3,x4⟩,fun x H3 y=>?_⟩
  obtain ⟨gr,ox⟩:=yl x H3 y;have P3:Post K true dsi (U Fa OxI) τ H2 eni RI2 eni H3 RI2 NoA:=Post.new P2.env gr fun _ z=>z.elim;have chain:∀ {τ5 en5 H5 RI5 F5},PostS K lk dsi (U Fa OxI) τ H2 RI2 τ5 en5 H5 RI5 F5->PostS K lk dsi OxI (eY js σ) H1 RI τ5 en5 H5 RI5 (U Fa F5):=fun {τ5 en5 H5 RI5 F5} P5=>by
   have n1:∀ a,H2 a=none->H1 a=none:=fun a z=>by
    cases q:H1 a with
    | none=>rfl
    | some o =>
     obtain ⟨o',q'⟩:=P2.dom a o q;rw [z] at q';cases q'
   refine ⟨lj ▸ P5.env,fun a z z2=>?_,fun a o q n=>?_,fun a z=>?_,fun a o q=>?_,fun j hj=>(P5.lk j hj).trans (P2.lk j hj)⟩
   ·rcases z with z | z
    ·exact P2.fx a z z2
    ·exact P5.fx a z (.inr z2)
   ·refine P5.keep a o (P2.keep a o q n) fun i z=>?_;rcases P2.own a (.inr ⟨i,z⟩) with ⟨j,z⟩ | z
    ·exact n j z
    ·rw [q] at z; cases z
   ·rcases z with (z | z) | z
    ·exact P2.own a (.inl z)
    ·rcases P5.own a (.inl z) with z | z
     ·exact P2.own a (.inr z)
     ·exact .inr (n1 a z)
    ·rcases P5.own a (.inr z) with z | z
     ·exact P2.own a (.inr z)
     ·exact .inr (n1 a z)
   ·obtain ⟨o',q'⟩:=P2.dom a o q;exact P5.dom a o' q'
  have carry:∀ {τ5 en5 H5 RI5 F5},PostS K lk dsi (U Fa OxI) τ H2 RI2 τ5 en5 H5 RI5 F5->Ows K (Own RI5 (U (U Fa F5) OxI)) H5 acc cd vs Fa:=fun {τ5 en5 H5 RI5 F5} P5=>by
   refine Ows.mv (G:=Fa) ⟨fun a o q z=>P5.keep a o q fun i zi=>?_,fun a z=>?_⟩ acc (fun _ z=>z) oacc
   ·rcases z with z | z
    ·exact z (.inl ⟨i,zi⟩)
    ·exact P2.env.dx i a zi (.inl z)
   ·rcases z with z | (z | z) | z
    ·exact (P5.own a (.inr z)).imp .inl id
    ·exact .inl (.inr (.inl z))
    ·exact (P5.own a (.inl z)).imp .inl id
    ·exact .inl (.inr (.inr z))
  have UFN:U Fa NoA=Fa:=gq fun a=>⟨fun z=>z.elim id fun z=>z.elim,.inl⟩;refine ⟨U Fa OxI,eni,RI2,ts[i],en3,P3.env0,ox,h3,fun τ4 R4 P4 r4=>?_⟩;have P4':=(P3.s (lk:=lk)).after P4;refine ⟨U Fa OxI,en3,R4,b,en4,P4.env0,h4,fun H5 R5 P5=>?_⟩;have P5':=P4'.after (P5.s (lk:=lk));have pu5:q=true->(∀ k j:Nat,js[k]?=some (some j)->R5 k=RI k)/\(∀ a o,H1 a=some o->H5 a=some o):=fun hq=>by
   obtain ⟨_,b2,b3⟩:=P5.pure hq;obtain ⟨e1,e2⟩:=pu hq;refine ⟨fun k j z=>?_,fun a o qq=>b3 a o (gr a o (e2 a o qq))⟩;rw [b2,r4 k (by rw [hl]; have:=jX (n:=0) z; rw [Nat.zero_add] at this; exact this)];exact e1 k j z
  cases b with
  | false =>
   dsimp only
   rw [if_neg Bool.false_ne_true];have c5:=chain P5';have o5:=carry P5';rw [UFN] at c5 o5;exact ⟨en4,R5,acc,vs,Fa,c5,P5'.keep D _ hDl fun k z=>P2.env.dx k D z (.inr DO),o5,hr,pu5⟩
  | true =>
   dsimp only
   rw [if_pos rfl];obtain ⟨⟨t6,en6⟩,h6,hr⟩:=zaa.mp (show ((f en4).bind fun q=>if acc.length < sizeLine then lcF g c f (ts.drop (i+1)) (acc++[q.1]) q.2 else none)=some (fin,enf) from hr);refine ⟨U Fa OxI,en4,R5,t6,en6,P5.env0,h6,fun v H6 R6 F6 P6 o6=>?_⟩;have P6':=P5'.after (P6.s (lk:=lk));by_cases hlen:acc.length < sizeLine
   case neg=>rw [if_neg hlen] at hr; cases hr
   rw [if_pos hlen] at hr;have hD6:=P6'.keep D _ hDl fun k z=>P2.env.dx k D z (.inr DO);refine ⟨vs,hD6,by rw [oacc.len]; exact hlen,en6,R6,acc++[t6],vs++[v],U Fa F6,?_,aJ,?_,hr,?_⟩
   ·have c6:=chain P6';have keepD:∀ a o,H6 a=some o->a≠D->upd H6 D (.lst (vs++[v])) a=some o:=fun a o q n=>by rw [aO n]; exact q
    refine ⟨⟨fun k t hk=>?_,c6.env.dj,c6.env.dx,fun a z=>?_,c6.env.l1,c6.env.l2⟩,c6.fx,fun a o q n=>?_,c6.own,fun a o q=>?_,c6.lk⟩
    ·obtain ⟨v',d',g1,g2,g3⟩:=c6.env.at_ k t hk;refine ⟨v',d',g1,g2,Ow.mv (G:=R6 k) ⟨fun a o q z=>keepD a o q fun zD=>?_,fun a z=>.inl z⟩ t (fun _ z=>z) g3⟩;subst zD;rcases z with z | z
     ·exact z (.inr (.inr DO))
     ·exact c6.env.dx k a z (.inr DO)
    ·by_cases ha:a=D
     ·subst ha; exact ⟨_,aJ⟩
     ·obtain ⟨o,q⟩:=c6.env.dom a z;exact ⟨o,keepD a o q ha⟩
    ·refine keepD a o (c6.keep a o q n) fun zD=>?_;subst zD;rw [hD] at q;cases q
    ·obtain ⟨o',q'⟩:=c6.dom a o q;by_cases ha:a=D
     ·subst ha; exact ⟨_,aJ⟩
     ·exact ⟨o',keepD a o' q' ha⟩
   ·have o1:=carry P6';have o2:Ow K (Own R6 (U (U Fa F6) OxI)) H6 t6 cd v F6:=lj ▸ o6
    have:=Ows.snoc o1 o2 fun b z1 z2=>P6.fx b z2 (.inl z1);refine Ows.mv (G:=U Fa F6) ⟨fun a o q z=>?_,fun a z=>.inl z⟩ _ (fun _ z=>z) this;rw [aO]
    ·exact q
    ·intro zD;subst zD;rcases z with z | z | z
     ·exact z (.inr (.inr DO))
     ·exact P2.fx a z DO
     ·exact P6.fx a z (.inr DO)
   ·intro hq;obtain ⟨_,b2,b3⟩:=P6.pure hq;obtain ⟨e1,e2⟩:=pu5 hq;refine ⟨fun k j z=>by rw [b2]; exact e1 k j z,fun a o qq=>?_⟩;rw [aO]
    ·exact b3 a o (e2 a o qq)
    ·intro zD;subst zD;rw [hD] at qq;cases qq
 ·have e2:i=ts.length:=by omega
  subst e2;rw [List.drop_length] at hr;obtain ⟨e3,e4⟩:acc=fin/\eni=enf:=by cases hr; exact ⟨rfl,rfl⟩
  subst e3 e4;refine .inl ⟨w2 rfl,?_⟩;have fD:∀ a,Fa a->a≠D:=fun a z z2=>by
   subst z2;exact P2.fx a z DO
  cases hq:q with
  | true =>
   obtain ⟨e1,e2⟩:=pu hq;subst hq;have fn:∀ a,Fa a->H1 a=none:=fun a z=>by
    rcases P2.own a (.inl z) with ⟨k,z2⟩ | z2
    ·obtain ⟨j,hj,z3⟩:=ric k a z2;rw [<- e1 k j hj] at z2;exact absurd (.inl z) (P2.env.dx k a z2)
    ·exact z2
   have nt:NewTo H1 H2 (fun a=>a=D\/Fa a):=⟨e2,fun a z=>by
    rcases z with z | z
    ·subst z;exact ⟨hD,_,hDl⟩
    ·exact ⟨fn a z,P2.env.dom a (.inr (.inl z))⟩⟩
   have PF:=P1.fin nt;rw [Bool.and_true] at k;refine k (.ref D) H2 R1 _ PF ⟨D,vs,rfl,.inr ⟨hz,hDl,.inl rfl,Fa,fun b z=>⟨.inr z,fD b z⟩,?_⟩⟩;rw [hd];refine Ows.grow (fun a z=>?_) _ (fun _ z=>z) oacc;rcases z with ⟨i,z⟩ | (z | z) | z
   ·by_cases hc2:∃ kk:Nat,js[kk]?=some (some i)
    ·obtain ⟨kk,hk⟩:=hc2;refine .inl ⟨kk,?_⟩;rw [e1 kk i hk,ri1 kk i hk];exact z
    ·exact .inr (.inr (.inr (.inr ⟨i,z,fun kk hk=>hc2 ⟨kk,hk⟩⟩)))
   ·exact .inr (.inr (z ▸ DO))
   ·exact .inr (.inl z)
   ·exact .inr (.inr (.inl z))
  | false =>
   subst hq;rw [Bool.and_false] at k
   classical
   let R3:Nat->AS:=fun i=>if hh:∃ kk:Nat,js[kk]?=some (some i) then RI2 hh.choose else R1 i
   have r31:∀ (i kk:Nat),js[kk]?=some (some i)->R3 i=RI2 kk:=fun i kk z=>by
    have hh:∃ kk:Nat,js[kk]?=some (some i):=⟨kk,z⟩
    have:hh.choose=kk:=c2 _ _ i hh.choose_spec z;show (if hh:∃ kk:Nat,js[kk]?=some (some i) then RI2 hh.choose else R1 i)=RI2 kk;rw [dif_pos hh,this]
   have r32:∀ i:Nat,(∀ kk:Nat,js[kk]?≠some (some i))->R3 i=R1 i:=fun i z=>by
    show (if hh:∃ kk:Nat,js[kk]?=some (some i) then RI2 hh.choose else R1 i)=R1 i;rw [dif_neg fun ⟨j,q⟩=>z j q]
   have r3c:∀ (i:Nat) a,R3 i a->(∃ kk:Nat,js[kk]?=some (some i)/\RI2 kk a)\/((∀ kk:Nat,js[kk]?≠some (some i))/\R1 i a):=fun i a z=>by
    by_cases hh:∃ kk:Nat,js[kk]?=some (some i)
    ·obtain ⟨kk,hk⟩:=hh;rw [r31 i kk hk] at z;exact .inl ⟨kk,hk,z⟩
    ·rw [r32 i fun j z=>hh ⟨j,z⟩] at z;exact .inr ⟨fun j z=>hh ⟨j,z⟩,z⟩
   have sub3:∀ a,Own R3 (U (fun a=>a=D\/Fa a) Ox) a->Own RI2 (U Fa OxI) a:=fun a z=>by
    rcases z with ⟨i,z⟩ | (z | z) | z
    ·rcases r3c i a z with ⟨j,_,z⟩ | ⟨n,z⟩
     ·exact .inl ⟨j,z⟩
     ·exact .inr (.inr (.inr (.inr ⟨i,z,n⟩)))
    ·exact .inr (.inr (z ▸ DO))
    ·exact .inr (.inl z)
    ·exact .inr (.inr (.inl z))
   have el:eni.length=js.length:=by rw [P2.env.l1,<- P2.env.l2]; exact cl
   have riO:∀ (kk:Nat) a,RI kk a->Own R1 Ox a:=fun kk a z=>by
    obtain ⟨j,_,z⟩:=ric kk a z;exact .inl ⟨j,z⟩
   have env3:EnvOk K ds1 (U (fun a=>a=D\/Fa a) Ox) H2 σ (wbB js eni en1) R3:=by
    refine ⟨fun i u hu=>?_,fun i i' a z z'=>?_,fun i a z z2=>?_,fun a z=>P2.env.dom a (sub3 a z),by rw [oo]; exact E1.l1,E1.l2⟩
    ·by_cases hh:∃ kk:Nat,js[kk]?=some (some i)
     ·obtain ⟨kk,hk⟩:=hh;obtain ⟨dd,q1,q2⟩:=c1 kk i hk;have hil:i < en1.length:=by rw [E1.l1,<- E1.l2]; exact (zah.mp q2).1
      rw [qj js eni en1 i kk hk (fun k' z=>c2 k' kk i z hk) el hil] at hu;obtain ⟨v,d',g1,g2,g3⟩:=P2.env.at_ kk u hu;rw [q1] at g2;cases g2;have hlk:=P2.lk kk (by rw [hl]; have:=jX (n:=0) hk; rw [Nat.zero_add] at this; exact this);rw [hlk] at g1;refine ⟨v,dd,?_,q2,?_⟩
      ·unfold eY at g1;rw [zao,hk] at g1;have g1':(σ[i]?).join=some v:=zat g1;cases q3:σ[i]? with
       | none=>rw [q3] at g1'; cases g1'
       | some o=>rw [q3] at g1'; exact congrArg some g1'
      ·rw [r31 i kk hk];exact Ow.grow sub3 u (fun _ z=>z) g3
     ·rw [lJ js eni en1 i fun j z=>hh ⟨j,z⟩] at hu;have ns:∀ j:Nat,js[j]?≠some (some i):=fun j z=>hh ⟨j,z⟩;obtain ⟨v,d',g1,g2,g3⟩:=E1.at_ i u hu;refine ⟨v,d',g1,g2,?_⟩;rw [r32 i ns];refine Ow.mv (G:=R1 i) ⟨fun a o q z=>P2.keep a o q fun j zj=>?_,fun a z=>e9 a (sub3 a z)⟩ u (fun _ z=>z) g3;obtain ⟨j',hj',zj⟩:=ric j a zj;rcases z with z | z
      ·exact z (.inl ⟨j',zj⟩)
      ·have:=E1.dj i j' a z zj;subst this;exact ns j hj'
    ·rcases r3c i a z with ⟨j,q,z⟩ | ⟨n,z⟩ <;> rcases r3c i' a z' with ⟨j',q',z'⟩ | ⟨n',z'⟩
     ·have:=P2.env.dj j j' a z z';subst this;rw [q] at q';cases q';rfl
     ·exact absurd (.inr (.inr (.inr ⟨i',z',n'⟩))) (P2.env.dx j a z)
     ·exact absurd (.inr (.inr (.inr ⟨i,z,n⟩))) (P2.env.dx j' a z')
     ·exact E1.dj i i' a z z'
    ·rcases r3c i a z with ⟨j,q,z⟩ | ⟨n,z⟩
     ·refine P2.env.dx j a z ?_;rcases z2 with (z2 | z2) | z2
      ·exact .inr (z2 ▸ DO)
      ·exact .inl z2
      ·exact .inr (.inl z2)
     ·rcases z2 with (z2 | z2) | z2
      ·exact nD a (.inl ⟨i,z⟩) z2
      ·exact P2.fx a z2 (.inr (.inr ⟨i,z,n⟩))
      ·exact E1.dx i a z z2
   have n1:∀ a,H1 a=none->H a=none:=fun a z=>by
    cases q:H a with
    | none=>rfl
    | some o =>
     obtain ⟨o',q'⟩:=P1.dom a o q;rw [z] at q';cases q'
   refine k (.ref D) H2 R3 (fun a=>a=D\/Fa a) ⟨env3,fun a z z2=>?_,fun a o q n=>?_,fun a z=>?_,fun a o q=>?_,fun z=>nomatch z⟩ ⟨D,vs,rfl,.inr ⟨hz,hDl,.inl rfl,Fa,fun b z=>⟨.inr z,fD b z⟩,?_⟩⟩
   ·rcases z with z | z
    ·exact nD a (.inr z2) z
    ·exact P2.fx a z (.inl z2)
   ·refine P2.keep a o (P1.keep a o q n) fun kk z=>?_;obtain ⟨j,_,z⟩:=ric kk a z;rcases P1.own a (.inr ⟨j,z⟩) with ⟨i',z⟩ | z
    ·exact n i' z
    ·rw [q] at z; cases z
   ·have h3:(∃ i,R1 i a)\/H1 a=none:=by
     have h4:(Fa a\/∃ kk,RI2 kk a)->(∃ i,R1 i a)\/H1 a=none:=fun z=>by
      rcases P2.own a z with ⟨kk,z⟩ | z
      ·obtain ⟨j,_,z⟩:=ric kk a z;exact .inl ⟨j,z⟩
      ·exact .inr z
     rcases z with (z | z) | ⟨i,z⟩
     ·exact .inr (z ▸ hD)
     ·exact h4 (.inl z)
     ·rcases r3c i a z with ⟨j,_,z⟩ | ⟨n,z⟩
      ·exact h4 (.inr ⟨j,z⟩)
      ·exact .inl ⟨i,z⟩
    rcases h3 with h3 | h3
    ·exact P1.own a (.inr h3)
    ·exact .inr (n1 a h3)
   ·obtain ⟨o',q'⟩:=P1.dom a o q;exact P2.dom a o' q'
   ·rw [hd];exact Ows.grow sub3 _ (fun _ z=>z) oacc
end
def msk:List Nat->En->En
 | d :: ds,o :: en=>(if d=0 then none else o) :: msk ds en
 | _,_=>[]
def fnF (n:Nat) (dps:List Nat) (b:MS):List PyData->Option (PyData × En):=fun ts=>(b (ts.map some++List.replicate n none)).bind fun fl=>match fl with
 | .rt t en=>some (t,msk dps en)
 | .nx en=>some (.none,msk dps en)
 | .ct _=>none
def qN (dps:List Nat):List Nat:=(List.range dps.length).filter fun j=>dps[j]? != some 0
section
variable {K:PySem.W.Frag} {p p1 p2 q:Bool} {J:Jd} {lk:List Nat} {ds ds0 ds1 ds2 ds' dps:List Nat} {Ox Ox' O O':AS} {H H' H1:Hp} {σ σ':St} {en en' en1 en2:En} {R R' R1:Nat->AS} {d d' d1 d2 dr:Nat} {t t1 t2:PyData} {Q:VK} {f f1 f2:ME} {i:Nat} {v:V} {D:Ends}
def sx:∀ {dps:List Nat} {en:En} {j:Nat} {u:PyData},(msk dps en)[j]?=some (some u)->∃ d,dps[j]?=some d/\d≠0/\en[j]?=some (some u)
 | [],en,j,u,h=>by unfold msk at h; simp at h
 | d :: ds,[],j,u,h=>by unfold msk at h; simp at h
 | d :: ds,o :: en,j,u,h=>by
  unfold msk at h;cases j with
  | zero =>
   by_cases hd:d=0
   ·simp [hd] at h
   ·refine ⟨d,rfl,hd,?_⟩;simpa [hd] using h
  | succ j =>
   have:=sx (dps:=ds) (en:=en) (j:=j) (u:=u) (by simpa using h);simpa using this
def sw:∀ {dps:List Nat} {en:En},dps.length<=en.length->(msk dps en).length=dps.length
 | [],en,_=>by unfold msk; rfl
 | d :: ds,[],h=>by simp at h
 | d :: ds,o :: en,h=>by
  unfold msk;rw [zac,zac,sw (by simpa using h)]
def Em {N:List Str} {vs:List V} {E:XK} {n:Nat} {b:MS} (hn:N.length - dps.length=n) (h:spF K dps dr (fnF n dps b) vs H Q E) :
  tFS K ⟨qN dps,dps++List.replicate n 0,dr,[]⟩ (dps++List.replicate n 0) (dps++List.replicate n 0) b { nx:=fun _ H'=>Q .non H',rt:=Q } (dW N vs) H:=by
 obtain ⟨Ox,ts,R,r,outs,e,hf,k⟩:=h;have lv:dps.length=vs.length:=by have:=e.l2; rw [zad] at this; exact this
 have lt:ts.length=vs.length:=by have:=e.l1; rw [zad,zad] at this; exact this
 have hs:dW N vs=vs.map some++List.replicate n none:=by unfold dW; rw [<- lv,hn]
 unfold fnF at hf;obtain ⟨fl,h1,hf⟩:=zaa.mp hf;have get0:∀ {α:Type} (xs:List α) (i:Nat) (u:α),(xs.map some++List.replicate n none)[i]?=some (some u)->(xs.map some)[i]?=some (some u)/\i < xs.length:=fun xs i u z=>by
  by_cases hi:i < xs.length
  ·rw [zaS (by rw [zad]; exact hi)] at z;exact ⟨z,hi⟩
  ·rw [List.getElem?_append_right (by rw [zad]; omega),List.getElem?_replicate] at z;split at z
   ·cases z
   ·cases z
 have e0:EnvOk K (dps++List.replicate n 0) Ox H (dW N vs) (ts.map some++List.replicate n none) R:=by
  rw [hs];refine ⟨fun i u hu=>?_,e.dj,e.dx,e.dom,by simp [lt],by simp [lv]⟩;obtain ⟨hu',hi⟩:=get0 ts i u hu;obtain ⟨v,d,g1,g2,g3⟩:=e.at_ i u hu';refine ⟨v,d,?_,?_,g3⟩
  ·rw [zaS (by rw [zad]; omega)]; exact g1
  ·rw [zaS (by omega)]; exact g2
 have back:∀ {σ' en' H' R' F},PostS K (qN dps) (dps++List.replicate n 0) Ox (dW N vs) H R σ' en' H' R' F->Post K false dps Ox (vs.map some) H (ts.map some) R (msk dps en') H' R' F:=fun {σ' en' H' R' F} P=>by
  have l1:=P.env.l1;have l2:=P.env.l2;rw [zae,List.length_replicate] at l2;refine ⟨⟨fun j u hu=>?_,P.env.dj,P.env.dx,P.env.dom,by rw [sw (by omega),zad]; exact lv,by rw [zad]; exact lv⟩,P.fx,P.keep,P.own,P.dom,fun z=>nomatch z⟩;obtain ⟨d,a1,a2,a3⟩:=sx hu;obtain ⟨v,d',g1,g2,g3⟩:=P.env.at_ j u a3;have hj:j < dps.length:=(zah.mp a1).1;have hlk:j∈qN dps:=by
   unfold qN;rw [List.mem_filter,List.mem_range];refine ⟨hj,?_⟩;rw [a1];simpa using a2
  rw [P.lk j hlk,hs,zaS (by rw [zad]; omega)] at g1;rw [zaS hj] at g2;exact ⟨v,d',g1,g2,g3⟩
 refine ⟨Ox,_,R,fl,e0,h1,?_⟩;cases fl with
 | nx en2 =>
  cases hf;exact fun σ2 H2 R2 P2=>k .non H2 R2 NoA (back P2) rfl
 | ct en2=>cases hf
 | rt t en2 =>
  cases hf;exact fun v σ2 H2 R2 F P2 o=>k v H2 R2 F (back P2) o
def Post.slot {F G F':AS} {l:Addr} {o2:HO} (P:Post K p ds1 Ox σ H en R en1 H1 R1 F) (hl:R1 i l) (hi:i < en1.length) (hv:σ[i]?=some (some v)) (hd:ds1[i]?=some d)
  (hg:∀ a,G a->R1 i a\/F a) (hf:∀ a,F' a->R1 i a\/F a) (hx:∀ a,G a->¬ F' a)
  (ho:Ow K (Own (fun j=>if j=i then G else R1 j) (U F' Ox)) (upd H1 l o2) t d v G) :
  Post K false ds1 Ox σ H en R (en1.set i (some t)) (upd H1 l o2) (fun j=>if j=i then G else R1 j) F':=by
 have rc:∀ (j:Nat) a,(if j=i then G else R1 j) a->R1 j a\/(j=i/\F a):=fun j a z=>by
  by_cases hj:j=i
  ·rw [if_pos hj] at z;rcases hg a z with z | z
   ·exact .inl (hj ▸ z)
   ·exact .inr ⟨hj,z⟩
  ·rw [if_neg hj] at z; exact .inl z
 have sub:∀ a,Own (fun j=>if j=i then G else R1 j) (U F' Ox) a->Own R1 (U F Ox) a:=fun a z=>by
  rcases z with ⟨j,z⟩ | z | z
  ·rcases rc j a z with z | ⟨_,z⟩
   ·exact .inl ⟨j,z⟩
   ·exact .inr (.inl z)
  ·rcases hf a z with z | z
   ·exact .inl ⟨i,z⟩
   ·exact .inr (.inl z)
  ·exact .inr (.inr z)
 have dom2:∀ a o,H1 a=some o->∃ o',upd H1 l o2 a=some o':=fun a o q=>by
  by_cases ha:a=l
  ·subst ha; exact ⟨_,aJ⟩
  ·exact ⟨o,by rw [aO ha]; exact q⟩
 have nl:∀ a o,H1 a=some o->a≠l->upd H1 l o2 a=some o:=fun a o q n=>by rw [aO n]; exact q
 refine ⟨⟨fun j u hu=>?_,fun j j' a z z'=>?_,fun j a z z2=>?_,fun a z=>?_,by rw [zaV]; exact P.env.l1,P.env.l2⟩,fun a z z2=>?_,fun a o q n=>?_,fun a z=>?_,fun a o q=>?_,fun z=>nomatch z⟩
 ·by_cases hj:j=i
  ·subst hj;rw [zaP hi] at hu;cases hu;refine ⟨v,d,hv,hd,?_⟩;rw [if_pos rfl];exact ho
  ·rw [zaO (Ne.symm hj)] at hu;obtain ⟨v',d',g1,g2,g3⟩:=P.env.at_ j u hu;refine ⟨v',d',g1,g2,?_⟩;rw [if_neg hj];refine Ow.mv (G:=R1 j) ⟨fun a o q z=>nl a o q fun za=>?_,fun a z=>.inl (sub a z)⟩ u (fun _ z=>z) g3;subst za;rcases z with z | z
   ·exact z (.inl ⟨i,hl⟩)
   ·exact hj (P.env.dj j i a z hl)
 ·have z0:=z;have z0':=z';by_cases hj:j=i <;> by_cases hj':j'=i
  ·rw [hj,hj']
  ·rw [if_pos hj] at z0; rw [if_neg hj'] at z0';rcases hg a z0 with z1 | z1
   ·exact absurd (P.env.dj i j' a z1 z0') (fun e=>hj' e.symm)
   ·exact absurd (.inl z1) (P.env.dx j' a z0')
  ·rw [if_neg hj] at z0; rw [if_pos hj'] at z0';rcases hg a z0' with z1 | z1
   ·exact absurd (P.env.dj j i a z0 z1) hj
   ·exact absurd (.inl z1) (P.env.dx j a z0)
  ·rw [if_neg hj] at z0; rw [if_neg hj'] at z0';exact P.env.dj j j' a z0 z0'
 ·have z0:=z;by_cases hj:j=i
  ·rw [if_pos hj] at z0;rcases z2 with z2 | z2
   ·exact hx a z0 z2
   ·rcases hg a z0 with z1 | z1
    ·exact P.env.dx i a z1 (.inr z2)
    ·exact P.fx a z1 z2
  ·rw [if_neg hj] at z0;rcases z2 with z2 | z2
   ·rcases hf a z2 with z1 | z1
    ·exact hj (P.env.dj j i a z0 z1)
    ·exact P.env.dx j a z0 (.inl z1)
   ·exact P.env.dx j a z0 (.inr z2)
 ·obtain ⟨o,q⟩:=P.env.dom a (sub a z);exact dom2 a o q
 ·rcases hf a z with z1 | z1
  ·exact P.env.dx i a z1 (.inr z2)
  ·exact P.fx a z1 z2
 ·refine nl a o (P.keep a o q n) fun za=>?_;subst za;rcases P.own a (.inr ⟨i,hl⟩) with ⟨j,z⟩ | z
  ·exact n j z
  ·rw [q] at z; cases z
 ·have:F a\/∃ j,R1 j a:=by
   rcases z with z | ⟨j,z⟩
   ·rcases hf a z with z | z
    ·exact .inr ⟨i,z⟩
    ·exact .inl z
   ·rcases rc j a z with z | ⟨_,z⟩
    ·exact .inr ⟨j,z⟩
    ·exact .inl z
  exact P.own a this
 ·obtain ⟨o',q'⟩:=P.dom a o q;exact dom2 a o' q'
def nW {G F' F:AS} (hg:∀ a,G a->R1 i a\/F a) (hf:∀ a,F' a->R1 i a\/F a):∀ a,Own (fun j=>if j=i then G else R1 j) (U F' Ox) a->Own R1 (U F Ox) a:=fun a z=>by
 rcases z with ⟨j,z⟩ | z | z
 ·by_cases hj:j=i
  ·rw [if_pos hj] at z;rcases hg a z with z | z
   ·exact .inl ⟨i,z⟩
   ·exact .inr (.inl z)
  ·rw [if_neg hj] at z; exact .inl ⟨j,z⟩
 ·rcases hf a z with z | z
  ·exact .inl ⟨i,z⟩
  ·exact .inr (.inl z)
 ·exact .inr (.inr z)
def bD {α:Type} {en:List (Option α)} {i:Nat} {t:α} (h:(en[i]?).join=some t):en[i]?=some (some t):=by
 cases q:en[i]? with
 | none=>rw [q] at h; cases h
 | some o=>rw [q] at h; exact congrArg some h
def Ow.sqL {ts:List PyData} {F:AS} (h:Ow K O H (.list ts) d v F):∃ a vs,v=.ref a/\SqL K H a vs:=by
 obtain ⟨a,vs,e,⟨_,h1,_⟩ | ⟨_,h1,_⟩⟩:=h
 ·exact ⟨a,vs,e,h1.sq⟩
 ·exact ⟨a,vs,e,SqL.of h1⟩
def Ow.ownL {ts:List PyData} {F:AS} (hd:d≠0) (h:Ow K O H (.list ts) d v F):∃ a vs,v=.ref a/\H a=some (.lst vs)/\F a/\∃ F':AS,(∀ b,F' b->F b/\b≠a)/\Ows K O H ts (dn d) vs F':=by
 obtain ⟨a,vs,e,⟨h0,_⟩ | ⟨_,h1,h2,h3⟩⟩:=h
 ·exact absurd h0 hd
 ·exact ⟨a,vs,e,h1,h2,h3⟩
def Ows.past {ts:List PyData} {vs:List V} {F:AS} {l:Addr} {o:HO} (ho:∀ a,O' a->O a) (hl:O l) (hf:∀ b,F b->b≠l) (h:Ows K O H ts d vs F):Ows K O' (upd H l o) ts d vs F :=
 Ows.mv (G:=F) ⟨fun a u q z=>by
  rw [aO]
  ·exact q
  ·intro za;subst za;rcases z with z | z
   ·exact z hl
   ·exact hf a z rfl,fun a z=>.inl (ho a z)⟩ ts (fun _ z=>z) h
def Ow.past {F:AS} {l:Addr} {o:HO} (ho:∀ a,O' a->O a) (hl:O l) (hf:∀ b,F b->b≠l) (h:Ow K O H t d v F):Ow K O' (upd H l o) t d v F :=
 Ow.mv (G:=F) ⟨fun a u q z=>by
  rw [aO]
  ·exact q
  ·intro za;subst za;rcases z with z | z
   ·exact z hl
   ·exact hf a z rfl,fun a z=>.inl (ho a z)⟩ t (fun _ z=>z) h
def iH (i:Nat) (f:ME):ME:=fun en=>match (en[i]?).join with
 | some (.list _)=>(f en).bind fun r=>match (r.2[i]?).join with
  | some (.list ts)=>if ts.length < sizeLine then some (.none,r.2.set i (some (.list (ts++[r.1])))) else none
  | _=>none
 | _=>none
def JW {c:Nat} (hd:ds1[i]?=some d) (hz:d≠0) (hc:dn d=c) (h:tF K false ds ds1 3 (iH i f) σ H Q):tBM K "list" so (i8 i) (na (tF K p ds ds1 c f) sY) σ H Q:=by
 obtain ⟨Ox,en,R,t,en',e,hf,k⟩:=h;unfold iH at hf;split at hf
 case h_2=>cases hf
 next ts0 h0 =>
 obtain ⟨⟨t1,en1⟩,h1,hf⟩:=zaa.mp hf
 dsimp only at hf
 split at hf
 case h_2=>cases hf
 next ts h2 =>
 by_cases hlen:ts.length < sizeLine
 case neg=>rw [if_neg hlen] at hf; cases hf
 rw [if_pos hlen] at hf;cases hf;obtain ⟨v,d0,a1,_,a3⟩:=e.at_ i _ (bD h0);obtain ⟨l0,vs0,e0,sq⟩:=a3.sqL;refine ⟨v,a1,?_,Ox,en,R,t1,en1,e,h1,fun x H1 R1 F P o=>?_⟩
 ·rw [e0]; exact .inl ⟨rfl,vs0,sq⟩
 obtain ⟨v',d',b1,b2,b3⟩:=P.env.at_ i _ (bD h2);rw [a1] at b1;cases b1;rw [hd] at b2;cases b2;obtain ⟨l,vs,el,hl,hr,F',hf',ow⟩:=b3.ownL hz;refine ⟨l,vs,x,el,rfl,hl,by rw [ow.len]; exact hlen,?_⟩;have hi:i < en1.length:=(zah.mp (bD h2)).1;have Fn:∀ a,F a->a≠l:=fun a z z2=>by
  subst z2;exact P.env.dx i a hr (.inl z)
 have sub:=nW (i:=i) (R1:=R1) (Ox:=Ox) (G:=fun a=>R1 i a\/F a) (F':=NoA) (F:=F) (fun _ z=>z) (fun _ z=>z.elim);have Ol:Own R1 (U F Ox) l:=.inl ⟨i,hr⟩;refine k .non (upd H1 l (.lst (vs++[x]))) _ NoA (P.slot (G:=fun a=>R1 i a\/F a) hr hi a1 hd (fun _ z=>z) (fun _ z=>z.elim) (fun _ _ z=>z) ?_) rfl;refine ⟨l,vs++[x],el,.inr ⟨hz,aJ,.inl hr,U F' F,fun b z=>?_,?_⟩⟩
 ·rcases z with z | z
  ·exact ⟨.inl (hf' b z).1,(hf' b z).2⟩
  ·exact ⟨.inr z,Fn b z⟩
 ·refine Ows.snoc (Ows.past sub Ol (fun b z=>(hf' b z).2) ow) ?_ fun b z1 z2=>P.env.dx i b (hf' b z1).1 (.inl z2);rw [hc];exact Ow.past sub Ol Fn o
def Ows.out:∀ {ts:List PyData} {vs:List V} {F:AS} {k:Nat} {t:PyData},Ows K O H ts d vs F->ts[k]?=some t ->
  ∃ v,∃ F1 F2:AS,vs[k]?=some v/\(∀ b,F1 b->F b)/\(∀ b,F2 b->F b)/\(∀ b,F1 b->¬ F2 b)/\Ow K O H t d v F1/\Ows K O H (ts.eraseIdx k) d (vs.eraseIdx k) F2
 | [],_,_,k,t,_,h=>by simp at h
 | u :: ts,_,F,k,t,h,hk=>by
  obtain ⟨v,r,F1,F2,e,s1,s2,s3,h4,h5⟩:=h;subst e;cases k with
  | zero =>
   have:u=t:=by simpa using hk
   subst this;exact ⟨v,F1,F2,rfl,s1,s2,s3,h4,h5⟩
  | succ k =>
   obtain ⟨w,G1,G2,g1,g2,g3,g4,g5,g6⟩:=Ows.out (k:=k) h5 (by simpa using hk);refine ⟨w,G1,U F1 G2,by simpa using g1,fun b z=>s2 b (g2 b z),fun b z=>z.elim (s1 b) fun z=>s2 b (g3 b z),fun b z z2=>?_,g5,v,r.eraseIdx k,F1,G2,rfl,fun b=>.inl,fun b=>.inr,fun b z1 z2=>s3 b z1 (g3 b z2),h4,g6⟩;rcases z2 with z2 | z2
   ·exact s3 b z2 (g2 b z)
   ·exact g4 b z z2
def dR (i:Nat) (f:ME):ME:=fun en=>match (en[i]?).join with
 | some (.list _)=>(f en).bind fun r=>match r.1,(r.2[i]?).join with
  | .int n,some (.list ts)=>if -(2 ^ 63)<=n/\n < 2 ^ 63 then (seqIndex? n ts.length).bind fun k=>(ts[k]?).map fun t=>(t,r.2.set i (some (.list (ts.eraseIdx k)))) else none
  | _,_=>none
 | _=>none
def ED {c:Nat} (hd:ds1[i]?=some d) (hz:d≠0) (hc:dn d=c) (h:tF K false ds ds1 c (dR i f) σ H Q):tBM K "list" uM (i8 i) (na (tF K p ds ds1 d1 f) sY) σ H Q:=by
 obtain ⟨Ox,en,R,t,en',e,hf,k⟩:=h;unfold dR at hf;split at hf
 case h_2=>cases hf
 next ts0 h0 =>
 obtain ⟨⟨t1,en1⟩,h1,hf⟩:=zaa.mp hf
 dsimp only at hf
 split at hf
 case h_2=>cases hf
 next n ts h2 =>
 by_cases hn:-(2 ^ 63)<=n/\n < 2 ^ 63
 case neg=>rw [if_neg hn] at hf; cases hf
 rw [if_pos hn] at hf;obtain ⟨kk,h3,hf⟩:=zaa.mp hf;obtain ⟨t',h4,hf⟩:=zab.mp hf;cases hf;obtain ⟨v,d0,a1,_,a3⟩:=e.at_ i _ (bD h0);obtain ⟨l0,vs0,e0,sq⟩:=a3.sqL;refine ⟨v,a1,?_,Ox,en,R,.int n,en1,e,h1,fun x H1 R1 F P o=>?_⟩
 ·rw [e0]; exact .inl ⟨rfl,vs0,sq⟩
 obtain ⟨v',d',b1,b2,b3⟩:=P.env.at_ i _ (bD h2);rw [a1] at b1;cases b1;rw [hd] at b2;cases b2;obtain ⟨l,vs,el,hl,hr,F',hf',ow⟩:=b3.ownL hz;have len:=ow.len;obtain ⟨w,F1,F2,g1,g2,g3,g4,g5,g6⟩:=ow.out h4;have ex:x=.int n:=o;refine ⟨l,vs,n,kk,w,el,by rw [ex],hl,hn.1,hn.2,by rw [len]; exact h3,g1,?_⟩;have hi:i < en1.length:=(zah.mp (bD h2)).1;have gG:∀ a,(fun a=>R1 i a/\¬ F1 a) a->R1 i a\/F a:=fun a z=>.inl z.1;have gF:∀ a,F1 a->R1 i a\/F a:=fun a z=>.inl (hf' a (g2 a z)).1;have sub:∀ a,Own (fun j=>if j=i then (fun a=>R1 i a/\¬ F1 a) else R1 j) (U F1 Ox) a->Own R1 (U F Ox) a:=fun a z=>nW gG gF a z;have Ol:Own R1 (U F Ox) l:=.inl ⟨i,hr⟩;have F1l:¬ F1 l:=fun z=>(hf' l (g2 l z)).2 rfl;rw [hc] at g5;refine k w (upd H1 l (.lst (vs.eraseIdx kk))) _ F1 (P.slot (G:=fun a=>R1 i a/\¬ F1 a) hr hi a1 hd gG gF (fun a z z2=>z.2 z2) ?_) (Ow.past sub Ol (fun b z=>(hf' b (g2 b z)).2) g5);exact ⟨l,vs.eraseIdx kk,el,.inr ⟨hz,aJ,⟨hr,F1l⟩,F2,fun b z=>⟨⟨(hf' b (g3 b z)).1,fun z1=>g4 b z1 z⟩,(hf' b (g3 b z)).2⟩,Ows.past sub Ol (fun b z=>(hf' b (g3 b z)).2) g6⟩⟩
def Ows.setAt:∀ {ts:List PyData} {vs:List V} {F F2:AS} {k:Nat} {t:PyData} {v:V},Ows K O H ts d vs F->Ow K O H t d v F2->(∀ b,F b->¬ F2 b)->Ows K O H (ts.set k t) d (vs.set k v) (U F F2)
 | [],_,_,_,_,_,_,h,_,_=>by rw [show _=[] from h]; rfl
 | u :: ts,_,F,F2,k,t,v,h,h2,hd=>by
  obtain ⟨w,r,G1,G2,e,s1,s2,s3,h4,h5⟩:=h;subst e;cases k with
  | zero=>exact ⟨v,r,F2,G2,rfl,fun _ z=>.inr z,fun b z=>.inl (s2 b z),fun b z z2=>hd b (s2 b z2) z,h2,h5⟩
  | succ k =>
   refine ⟨w,r.set k v,G1,U G2 F2,rfl,fun b z=>.inl (s1 b z),fun b z=>z.imp (s2 b) id,fun b z z2=>?_,h4,Ows.setAt h5 h2 fun b z=>hd b (s2 b z)⟩;rcases z2 with z2 | z2
   ·exact s3 b z z2
   ·exact hd b (s1 b z) z2
def gk (i:Nat) (fk fe:ME):MS:=fun en=>(fe en).bind fun r=>match (r.2[i]?).join with
 | some _=>(fk r.2).bind fun q=>match q.1,(q.2[i]?).join with
  | .int n,some (.list ts)=>(ixN ts.length n).map fun k=>.nx (q.2.set i (some (.list (ts.set k r.1))))
  | _,_=>none
 | none=>none
def D8 {c:Nat} {fk fe:ME} (hd:ds2[i]?=some d) (hz:d≠0) (hc:dn d=c) (h:tFS K J ds ds2 (gk i fk fe) D σ H) :
  qm (tF K p1 ds ds1 c fe) (HP (i8 i) (tF K p2 ds1 ds2 d2 fk) C0) D σ H:=by
 obtain ⟨Ox,en,R,fl,e,hf,k⟩:=h;unfold gk at hf;obtain ⟨⟨t1,en1⟩,h1,hf⟩:=zaa.mp hf
 dsimp only at hf
 split at hf
 case h_2=>cases hf
 next tt h0 =>
 obtain ⟨⟨t2,en2⟩,h2,hf⟩:=zaa.mp hf
 dsimp only at hf
 split at hf
 case h_2=>cases hf
 next n ts h3 =>
 obtain ⟨kk,h4,hf⟩:=zab.mp hf;cases hf;refine ⟨Ox,en,R,t1,en1,e,h1,fun x H1 R1 F1 P1 o1=>?_⟩;obtain ⟨v0,d0,a1,_,_⟩:=P1.env.at_ i tt (bD h0);refine ⟨v0,a1,?_⟩;refine ⟨U F1 Ox,en1,R1,.int n,en2,P1.env,h2,fun y H2 R2 F2 P2 o2=>?_⟩;have P:=P1.trans P2;have o1':=Ow.over P1.env P2 o1;obtain ⟨v',d',b1,b2,b3⟩:=P.env.at_ i _ (bD h3);rw [a1] at b1;cases b1;rw [hd] at b2;cases b2;obtain ⟨l,vs,el,hl,hr,F',hf',ow⟩:=b3.ownL hz;refine ⟨l,vs,n,kk,el,o2,hl,by rw [ow.len]; exact h4,?_⟩;have hi:i < en2.length:=(zah.mp (bD h3)).1;have Fn:∀ a,F1 a->a≠l:=fun a z z2=>by
  subst z2;exact P.env.dx i a hr (.inl (.inl z))
 have gG:∀ a,(fun a=>R2 i a\/F1 a) a->R2 i a\/U F1 F2 a:=fun a z=>z.imp id .inl;have sub:=nW (i:=i) (R1:=R2) (Ox:=Ox) (G:=fun a=>R2 i a\/F1 a) (F':=NoA) (F:=U F1 F2) gG (fun _ z=>z.elim);have Ol:Own R2 (U (U F1 F2) Ox) l:=.inl ⟨i,hr⟩;have PS:=P.slot (G:=fun a=>R2 i a\/F1 a) (F':=NoA) (o2:=.lst (vs.set kk x)) (t:=.list (ts.set kk t1)) hr hi a1 hd gG (fun _ z=>z.elim) (fun _ _ z=>z) ?_
 ·exact k σ _ _ PS.s
 refine ⟨l,vs.set kk x,el,.inr ⟨hz,aJ,.inl hr,U F' F1,fun b z=>?_,?_⟩⟩
 ·rcases z with z | z
  ·exact ⟨.inl (hf' b z).1,(hf' b z).2⟩
  ·exact ⟨.inr z,Fn b z⟩
 ·refine Ows.setAt (Ows.past sub Ol (fun b z=>(hf' b z).2) ow) ?_ fun b z1 z2=>P.env.dx i b (hf' b z1).1 (.inl (.inl z2));rw [hc];exact Ow.past sub Ol Fn o1'
def Ows.get:∀ {ts:List PyData} {vs:List V} {F:AS} {k:Nat} {t:PyData},Ows K O H ts d vs F->ts[k]?=some t->∃ v,vs[k]?=some v/\Ow K O H t d v F
 | [],_,_,k,t,_,h=>by simp at h
 | u :: ts,_,F,k,t,h,hk=>by
  obtain ⟨v,r,F1,F2,e,s1,s2,s3,h4,h5⟩:=h;subst e;cases k with
  | zero =>
   have:u=t:=by simpa using hk
   subst this;exact ⟨v,rfl,Ow.grow (fun _ z=>z) u s1 h4⟩
  | succ k =>
   obtain ⟨w,g1,g2⟩:=Ows.get (k:=k) h5 (by simpa using hk);exact ⟨w,by simpa using g1,Ow.grow (fun _ z=>z) t s2 g2⟩
def Ows.atI {ts:List PyData} {vs:List V} {F:AS} {n:Int} {t:PyData} (h:Ows K O H ts d vs F) (ht:L2.atI ts n=some t):∃ v,L2.atI vs n=some v/\Ow K O H t d v F:=by
 unfold L2.atI at ht ⊢;rw [h.len];obtain ⟨k,h1,h2⟩:=zaa.mp ht;obtain ⟨v,g1,g2⟩:=h.get h2;exact ⟨v,by rw [h1]; exact g1,g2⟩
def dG (i:Nat) (f:ME):ME:=fun en=>(en[i]?).join.bind fun _=>(f en).bind fun r=>match r.1,(r.2[i]?).join with
 | .int n,some (.list ts)=>(atI ts n).map fun t=>(t,r.2)
 | _,_=>none
def JU (hd:ds1[i]?=some 1) (h:tF K p ds ds1 0 (dG i f) σ H Q):tOp (tm K) (i8 i) (tF K p ds ds1 d1 f) σ H Q:=by
 obtain ⟨Ox,en,R,t,en',e,hf,k⟩:=h;unfold dG at hf;obtain ⟨t0,h0,hf⟩:=zaa.mp hf;obtain ⟨⟨t1,en1⟩,h1,hf⟩:=zaa.mp hf
 dsimp only at hf
 split at hf
 case h_2=>cases hf
 next n ts h2 =>
 obtain ⟨t',h3,hf⟩:=zab.mp hf;cases hf;obtain ⟨v,d0,a1,_,a3⟩:=e.at_ i _ (bD h0);refine ⟨v,a1,Ox,en,R,.int n,_,e,h1,fun x H1 R1 F P o=>?_⟩;obtain ⟨v',d',b1,b2,b3⟩:=P.env.at_ i _ (bD h2);rw [a1] at b1;cases b1;rw [hd] at b2;cases b2;obtain ⟨l,vs,el,hl,hr,F',hf',ow⟩:=b3.ownL (by decide);obtain ⟨w,g1,g2⟩:=ow.atI h3;refine ⟨l,vs,n,w,el,o,SqL.of hl,g1,k w H1 R1 NoA (P.less fun _ z=>z.elim) ?_⟩;exact Ow.any0 _ (Ow.grow (fun a z=>z.imp id fun z=>z.elim (fun z=>False.elim z) Or.inr) _ (fun _ z=>z) g2)
end
def PE.imp {X:Cx} {e:Expr} {t t':TE} (h:PE X e t) (hi:∀ σ H Q,t' σ H Q->t σ H Q):PE X e t':=fun pins s σ H Q I hw=>h pins s σ H Q I (hi _ _ _ hw)
def PT.imp {X:Cx} {e:Expr} {t t':TT} (h:PT X e t) (hi:∀ σ H Q,t' σ H Q->t σ H Q):PT X e t':=fun pins s σ H Q I hw=>h pins s σ H Q I (hi _ _ _ hw)
def PW.imp {X:Cx} {e:Expr} {t t':TT} (h:PW X e t) (hi:∀ σ H Q,t' σ H Q->t σ H Q):PW X e t':=fun wh pins s σ H Q I hw=>h wh pins s σ H Q I (hi _ _ _ hw)
def PA.imp {X:Cx} {e:List Expr} {t t':TA} (h:PA X e t) (hi:∀ σ H Q,t' σ H Q->t σ H Q):PA X e t':=fun pos pins s σ H Q I hw=>h pos pins s σ H Q I (hi _ _ _ hw)
def PS.imp {X:Cx} {e:Stmt} {t t':TS} (h:PS X e t) (hi:∀ D σ H,t' D σ H->t D σ H):PS X e t':=fun pins s σ H D I hw=>h pins s σ H D I (hi _ _ _ hw)
def PSs.imp {X:Cx} {e:List Stmt} {t t':TS} (h:PSs X e t) (hi:∀ D σ H,t' D σ H->t D σ H):PSs X e t':=fun pins s σ H D I hw=>h pins s σ H D I (hi _ _ _ hw)
def PG.imp {X:Cx} {e:Expr} {t t':TG} (h:PG X e t) (hi:∀ v σ H Q,t' v σ H Q->t v σ H Q):PG X e t':=fun pins s σ H v u Q I r hw=>h pins s σ H v u Q I r (hi _ _ _ _ hw)
def PGs.imp {X:Cx} {e:List Expr} {t t':TGs} (h:PGs X e t) (hi:∀ v σ H Q,t' v σ H Q->t v σ H Q):PGs X e t':=fun pins s σ H v u Q I r hw=>h pins s σ H v u Q I r (hi _ _ _ _ hw)
def PI.imp {X:Cx} {tg e:Expr} {t t':TI} (h:PI X tg e t) (hi:∀ σ H R,t' σ H R->t σ H R):PI X tg e t':=fun pins s σ H R I hw=>h pins s σ H R I (hi _ _ _ hw)
def PTs.imp {X:Cx} {e:List Expr} {t t':TT} (h:PTs X e t) (hi:∀ σ H Q,t' σ H Q->t σ H Q):PTs X e t':=fun pins s σ H Q I hw=>h pins s σ H Q I (hi _ _ _ hw)
def aH:Expr->Bool
 | .Starred _ _=>false
 | _=>true
def bd {e:Expr} {es:List Expr} {env:Env} (h:aH e=true):starEach (e :: es) env=(false,eval e env) :: starEach es env:=by
 cases e <;> first | rfl | cases h
def fR {pos:Pos} {env:Env}:∀ {es:List Expr},es.all aH=true->(backTo pos (starEach es env)).any (·.1)=false
 | [],_=>rfl
 | e :: es,h=>by
  rw [List.all_cons,Bool.and_eq_true] at h;rw [bd h.1];show (false || (backTo pos (starEach es env)).any (·.1))=false;rw [fR h.2];rfl
section
variable {X:Cx} {K:PySem.W.Frag} {p p1 p2 q:Bool} {ds ds0 ds1 ds2 ds' dsi:List Nat} {d d' d1 d2:Nat} {a b c e:Expr} {es:List Expr} {f f1 f2:ME} {m c1 c2:MT} {fa:MA} {sh:Sh} {pos:Pos} {i:Nat} {x:Str}
def Iq {x:Str} (hN:X.N[i]?=some x) (hv:Vis X.env.scope x) (h0:ds[i]?=some 0) (hd:(x == ("__debug__" : Str))=false) (hcd:(x == ("__classdict__" : Str))=false):PE X (.Name x pos) (tF K p ds ds 0 (ae i)) :=
 (fA hN hv hd hcd).imp fun _ _ _ h=>JP h0 (i4 (fun _=>rfl) h)
def JI {x:Str} (hN:X.N[i]?=some x) (hv:Vis X.env.scope x) (h0:ds[i]?=some d) (hds:ds.set i 0=ds') (hd:(x == ("__debug__" : Str))=false) (hcd:(x == ("__classdict__" : Str))=false):PE X (.Name x pos) (tF K false ds ds' d (eMv i)):=by
 subst hds;exact (fA hN hv hd hcd).imp fun _ _ _=>Kh h0
def IE {n:Int} {j}:PE X (.Constant (.int n) j pos) (tF K p ds ds 3 (eC (.int n))):=pe_int.imp fun _ _ _ h=>f_c (t:=.int n) (fun _ _ _ _=>rfl) (i4 (fun _=>rfl) h)
def JO {n:Bool} {j}:PE X (.Constant (.bool n) j pos) (tF K p ds ds 3 (eC (.bool n))):=pe_bl.imp fun _ _ _ h=>f_c (t:=.bool n) (fun _ _ _ _=>rfl) (i4 (fun _=>rfl) h)
def Iy {j}:PE X (.Constant .none j pos) (tF K p ds ds 3 (eC .none)):=pe_non.imp fun _ _ _ h=>f_c (t:=.none) (fun _ _ _ _=>rfl) (i4 (fun _=>rfl) h)
def Iv {n:Str} {j}:PE X (.Constant (.str n) j pos) (tF K p ds ds 3 (eC (.str n))):=pe_str.imp fun _ _ _ h=>f_c (t:=.str n) (fun _ _ _ _=>rfl) (i4 (fun _=>rfl) h)
def xk {x:Str} {n:Int} {t:Tok} (hg:Gl X x) (hm:X.mg x=some (.int n t)) (hd:(x == ("__debug__" : Str))=false):PE X (.Name x pos) (tF K p ds ds 3 (eC (.int n))) :=
 (su (v:=.int n) hg hm ⟨t,rfl⟩ hd).imp fun _ _ _ h=>f_c (t:=.int n) (fun _ _ _ _=>rfl) (i4 (fun _=>rfl) h)
def xj {x:Str} {n:Str} {t:Tok} (hg:Gl X x) (hm:X.mg x=some (.str n t)) (hd:(x == ("__debug__" : Str))=false):PE X (.Name x pos) (tF K p ds ds 3 (eC (.str n))) :=
 (su (v:=.str n) hg hm ⟨t,rfl⟩ hd).imp fun _ _ _ h=>f_c (t:=.str n) (fun _ _ _ _=>rfl) (i4 (fun _=>rfl) h)
def Iu (h:PE X e (tF K p ds ds' d f)) (hd:d'<=d):PE X e (tF K p ds ds' d' f):=h.imp fun _ _ _=>JR hd
def JM (h:PE X e (tF K p ds0 ds' d f)) (hd:leD ds0 ds=true):PE X e (tF K false ds ds' d f):=h.imp fun _ _ _=>Kj hd
def IH (h:PE X e (tF K true ds0 ds0 3 f)) (hd:leD ds0 ds=true):PE X e (tF K p ds ds 3 f):=h.imp fun _ _ _ h=>JV hd (i4 (fun _=>rfl) h)
def JH {op:Operator} {g:D->D->Option D} (ho:OpR X (binaryOp op) (rF2 K g d)) (ha:PE X a (tF K p ds ds1 d1 f1)) (hb:PE X b (tF K p ds1 ds2 d2 f2)):PE X (.BinOp a op b pos) (tF K p ds ds2 d (e2 g f1 f2)) :=
 (Jo ho ha hb).imp fun _ _ _ h=>qg (by rw [Bool.and_self]; exact h)
def IG {op:CmpOp} {g:D->D->Option D} (ho:OpR X (compareOp op) (rF2 K g d)) (ha:PE X a (tF K p ds ds1 d1 f1)) (hb:PE X b (tF K p ds1 ds2 d2 f2)) (hm:behindInMarks op b=false):PE X (.Compare a [op] [b] pos) (tF K p ds ds2 d (e2 g f1 f2)) :=
 (DK ho ha hb hm).imp fun _ _ _ h=>qg (by rw [Bool.and_self]; exact h)
def D4 {op:CmpOp} {g:D->D->Option D} (ho:OpR X (compareOp op) (rF2 K g d)) (ha:PE X a (tF K p ds ds1 d1 f1)) (hb:PE X b (tF K p ds1 ds2 d2 f2)) (hm:behindInMarks op b=false):PT X (.Compare a [op] [b] pos) (tFT K p ds ds2 (tV (e2 g f1 f2))) :=
 (Dx ho ha hb hm).imp fun σ H Q h=>by
  obtain ⟨Ox,en,R,t,en',e,hf,k⟩:=rh (d:=d) h;exact qg (by rw [Bool.and_self]; exact ⟨Ox,en,R,t,en',e,hf,k⟩)
def D2 (h:PE X e (tF K p ds ds' d f)) (he:∀ whole,isTrue e X.env whole=(do let v <- whole; standAt e.pos; holding [v] (truthy v))):PT X e (tFT K p ds ds' (tV f)):=(G8 h he).imp fun _ _ _=>rh
def HR (ha:PT X a (tFT K p ds ds1 c1)):PW X (.BoolOp .Or [a] pos) (tFT K p ds ds1 c1):=G7 ha
def JA {rest:List Expr} (ha:PT X a (tFT K p ds ds1 c1)) (hb:PW X (.BoolOp .Or (b :: rest) pos) (tFT K p ds1 ds1 c2)):PW X (.BoolOp .Or (a :: b :: rest) pos) (tFT K p ds ds1 (bOr c1 c2)):=(Jl ha hb).imp fun _ _ _ h=>JB (by rw [Bool.and_self]; exact h)
def D3 (ha:PT X a (tFT K p ds ds1 c1)):PT X (.UnaryOp .Not a pos) (tFT K p ds ds1 (cr c1)):=(G9 ha).imp fun _ _ _=>HS
def D5 (h:PT X e (tFT K true ds0 ds0 c1)) (hd:leD ds0 ds=true):PT X e (tFT K p ds ds c1):=h.imp fun _ _ _ ⟨Ox,en,R,t,en',e,hf,k⟩=>HU hd ⟨Ox,en,R,t,en',e,hf,fun H' R' P=>k H' R' ⟨P.env,P.fx,P.keep,P.own,P.dom,fun _=>P.pure rfl⟩⟩
def Iw {op} (h:PE X a (tF K p ds ds1 d f)):PE X (.BoolOp op [a] pos) (tF K p ds ds1 d f):=Hh h
def IJ {rest:List Expr} (ha:PE X a (tF K p ds ds1 d1 f1)) (hb:PE X (.BoolOp .And (b :: rest) pos) (tF K p ds1 ds1 d f2)):PE X (.BoolOp .And (a :: b :: rest) pos) (tF K p ds ds1 d (cV f1 f2)):=(Hk ha hb).imp fun _ _ _ h=>JX (by rw [Bool.and_self]; exact h)
def JG {rest:List Expr} (ha:PE X a (tF K p ds ds1 d1 f1)) (hb:PE X (.BoolOp .Or (b :: rest) pos) (tF K p ds1 ds1 d f2)):PE X (.BoolOp .Or (a :: b :: rest) pos) (tF K p ds ds1 d (eOr f1 f2)):=(Jn ha hb).imp fun _ _ _ h=>Kg (by rw [Bool.and_self]; exact h)
def Ix (ha:PE X a (tF K p ds ds1 d1 f)):PE X (.UnaryOp .Not a pos) (tF K p ds ds1 3 (la f)):=(Hi ha).imp fun _ _ _=>JS
def JL (hc:PT X c (tFT K p ds ds1 c1)) (ha:PE X a (tF K p ds1 ds2 d f1)) (hb:PE X b (tF K p ds1 ds2 d f2)):PE X (.IfExp c a b pos) (tF K p ds ds2 d (eIf c1 f1 f2)):=(wx hc ha hb).imp fun _ _ _ h=>Ki (by rw [Bool.and_self,Bool.and_self]; exact h)
def EB:PA X [] (tFA K p ds ds [] ag):=pa_nil.imp fun _ _ _ ⟨Ox,en,R,t,en',e,hf,k⟩=>IK ⟨Ox,en,R,t,en',e,hf,fun vs H' R' F P=>k vs H' R' F ⟨P.env,P.fx,P.keep,P.own,P.dom,fun _=>P.pure rfl⟩⟩
def xq (ha:PE X e (tF K p ds ds1 d f)) (hr:PA X es (tFA K p ds1 ds2 sh fa)) (hs:aH e=true):PA X (e :: es) (tFA K p ds ds2 (.inl d :: sh) (ad f fa)):=(cy ha hr (bd hs)).imp fun _ _ _ h=>EC (by rw [Bool.and_self]; exact h)
def xp {x:Str} (hN:X.N[i]?=some x) (hv:Vis X.env.scope x) (hr:PA X es (tFA K p ds ds2 sh fa)) (hd:(x == ("__debug__" : Str))=false) (hcd:(x == ("__classdict__" : Str))=false) :
  PA X (.Name x pos :: es) (tFA K p ds ds2 (.inr i :: sh) (aD i fa)):=(cy (fA hN hv hd hcd) hr (bd rfl)).imp fun _ _ _=>EA
def IA {c:Nat} (h:PA X es (tFA K p ds ds1 sh fa)) (hs:cg c sh=true) (hd:dn d=c) (hz:d≠0):PE X (.List es pos) (tF K p ds ds1 d (bx fa)):=(Hj h).imp fun _ _ _=>JT hs hd hz
def Ir {c:Nat} {x1} (h:PA X es (tFA K p ds ds1 sh fa)) (hs:cg c sh=true) (hd:dn d=c):PE X (.Tuple es x1 pos) (tF K p ds ds1 d (bR fa)):=(uQ h).imp fun _ _ _=>JQ hs hd
def xo {id:String} {x:Str} {px:Pos} {g:List D->Option D} (hc:CallR X (.builtin id) (rFn K g d)) (hg:Gl X x) (hm:X.mg x=none) (hv:bootBuiltins x=some (.builtin id)) (ha:PA X (e :: es) (tFA K p ds ds1 sh fa)) (hsh:cg 0 sh=true) (hn:x≠"__name__") (hdb:(x == ("__debug__" : Str))=false)
  (he:aH e=true) (hpl:es.all aH=true):PE X (.Call (.Name x px) (e :: es) [] pos) (tF K p ds ds1 d (eN g fa)) :=
 (jV hc hg hm hv ha hn hdb (bd he) (fR hpl)).imp fun _ _ _=>vB hsh
def vA {T:String} {x:Str} {px:Pos} {g:List D->Option D} (hc:CallR X (.type T) (rFn K g d)) (hg:Gl X x) (hm:X.mg x=none) (hv:bootBuiltins x=some (.type T)) (ha:PA X (e :: es) (tFA K p ds ds1 sh fa)) (hsh:cg 0 sh=true) (hn:x≠"__name__") (hdb:(x == ("__debug__" : Str))=false)
  (he:aH e=true) (hpl:es.all aH=true):PE X (.Call (.Name x px) (e :: es) [] pos) (tF K p ds ds1 d (eN g fa)) :=
 (pk hc hg hm hv ha hn hdb (bd he) (fR hpl)).imp fun _ _ _=>vB hsh
def JN {k:Nat} {x:Str} {ps:List Str} {px:Pos} {dps:List Nat} {dr:Nat} {F:List D->Option (D × En)} (G:Kn X.prog X.w X.K X.mg X.base k x ps (spF K dps dr F)) (hr:Room k X.A) (hg:Gl X x) (ha:PA X (e :: es) (tFA K p ds ds1 sh fa)) (hns:iz sh=true) (hcd:eX ds1 sh dps=true) (hdb:(x == ("__debug__" : Str))=false)
  (he:aH e=true) (hpl:es.all aH=true) :
  PE X (.Call (.Name x px) (e :: es) [] pos) (tF K p ds ds1 dr (al F fa)):=(C4 G hr hg ha hdb (bd he) (fR hpl)).imp fun _ _ _ h=>IN hcd (by rw [hns,Bool.and_true]; exact h)
def IF {k:Nat} {x:Str} {ps:List Str} {px:Pos} {dps:List Nat} {dr:Nat} {F:List D->Option (D × En)} (G:Kn X.prog X.w X.K X.mg X.base k x ps (spF K dps dr F)) (hr:Room k X.A) (hg:Gl X x) (ha:PA X (e :: es) (tFA K false ds ds1 sh fa)) (hcd:eX ds1 sh dps=true) (hdb:(x == ("__debug__" : Str))=false)
  (he:aH e=true) (hpl:es.all aH=true) :
  PE X (.Call (.Name x px) (e :: es) [] pos) (tF K false ds ds1 dr (al F fa)):=(C4 G hr hg ha hdb (bd he) (fR hpl)).imp fun _ _ _ h=>IN hcd h
def JK {g:D->D->Option D} (ho:IxR X (rF2 K g d)) (ha:PE X a (tF K p ds ds1 d1 f1)) (hb:PE X b (tF K p ds1 ds2 d2 f2)) (hs:jK b):PE X (.Subscript a b pos) (tF K p ds ds2 d (e2 g f1 f2)) :=
 (C3 ho ha hb hs).imp fun _ _ _ h=>qg (by rw [Bool.and_self]; exact h)
def IC {x:Str} {px:Pos} (hK:X.K=K) (hN:X.N[i]?=some x) (hv:Vis X.env.scope x) (h1:ds1[i]?=some 1) (hb:PE X b (tF K p ds ds1 d1 f)) (hs:jK b) (hd:(x == ("__debug__" : Str))=false) (hcd:(x == ("__classdict__" : Str))=false) :
  PE X (.Subscript (.Name x px) b pos) (tF K p ds ds1 0 (dG i f)):=(C3 (Kb hK) (fA hN hv hd hcd) hb hs).imp fun _ _ _=>JU h1
def II {c:Nat} {x:Str} {px apos cpos:Pos} (hK:X.K=K) (hN:X.N[i]?=some x) (hv:Vis X.env.scope x) (h1:ds1[i]?=some d) (he:PE X e (tF K false ds ds1 c f)) (hz:d≠0) (hc:dn d=c)
  (hd:(x == ("__debug__" : Str))=false) (hcd:(x == ("__classdict__" : Str))=false)
  (hbase:attributeBase (.Name x px) "append" X.env (eval (.Name x px) X.env)=eval (.Name x px) X.env)
  (hfew:((backTo cpos (starEach [e] X.env)).all (fun x=>!x.1) && (backToKw cpos (keywordEach [] X.env)).all (fun x=>x.1.isSome) && decide (([e]:List Expr).length+([]:List Keyword).length+(if ([]:List Keyword).isEmpty then 0 else 1) < 30))=true)
  (hline:(apos.endLine == cpos.line)=true) (hs:starEach [e] X.env=[(false,eval e X.env)]) (hplain:(backTo cpos (starEach [] X.env)).any (·.1)=false) :
  PE X (.Call (.Attribute (.Name x px) "append" apos) [e] [] cpos) (tF K false ds ds1 3 (iH i f)):=by
 subst hK;exact (tw PySem.F.plainAttrs_list PySem.F.slot_list_append PySem.F.type_list_append pv (fA hN hv hd hcd) (cy he pa_nil hs) hbase hfew hline hs hplain).imp fun _ _ _=>JW h1 hz hc
def xi {c:Nat} {x:Str} {px apos cpos:Pos} (hK:X.K=K) (hN:X.N[i]?=some x) (hv:Vis X.env.scope x) (h1:ds1[i]?=some d) (he:PE X e (tF K false ds ds1 d1 f)) (hz:d≠0) (hc:dn d=c)
  (hd:(x == ("__debug__" : Str))=false) (hcd:(x == ("__classdict__" : Str))=false)
  (hbase:attributeBase (.Name x px) "pop" X.env (eval (.Name x px) X.env)=eval (.Name x px) X.env)
  (hfew:((backTo cpos (starEach [e] X.env)).all (fun x=>!x.1) && (backToKw cpos (keywordEach [] X.env)).all (fun x=>x.1.isSome) && decide (([e]:List Expr).length+([]:List Keyword).length+(if ([]:List Keyword).isEmpty then 0 else 1) < 30))=true)
  (hline:(apos.endLine == cpos.line)=true) (hs:starEach [e] X.env=[(false,eval e X.env)]) (hplain:(backTo cpos (starEach [] X.env)).any (·.1)=false) :
  PE X (.Call (.Attribute (.Name x px) "pop" apos) [e] [] cpos) (tF K false ds ds1 c (dR i f)):=by
 subst hK;exact (tw PySem.F.plainAttrs_list PySem.F.slot_list_pop PySem.F.type_list_pop wB (fA hN hv hd hcd) (cy he pa_nil hs) hbase hfew hline hs hplain).imp fun _ _ _=>ED h1 hz hc
def cY:MT:=fun en=>some (true,en)
def D1:PTs X [] (tFT K p ds ds cY):=pts_nil.imp fun σ H Q ⟨Ox,en,R,b,en',e,hf,k⟩=>by
 cases hf;exact k H R (Post.refl e)
def JJ {elt tg iter:Expr} {ifs:List Expr} {scope:Scope} {ns:List Str} {js:List (Option Nat)} {fi:MI} {g:MG} {lk:List Nat} {cd:Nat} (B:BlkOkC X scope ns js) (hc:X.calm=true) (hi:PI X tg iter (tFI K p ds ds1 fi))
  (hg:∀ C cl s₀ H₀ fp,PG (aN X scope ns C cl s₀ H₀ fp) tg (tFG K lk dsi dsi g)) (ht:∀ C cl s₀ H₀ fp,PTs (aN X scope ns C cl s₀ H₀ fp) ifs (tFT K true dsi dsi c1)) (he:∀ C cl s₀ H₀ fp,PE (aN X scope ns C cl s₀ H₀ fp) elt (tF K true dsi dsi cd f))
  (hcap:gM ds1 js dsi=true) (hd:dn d=cd) (hz:d≠0) (hlk:lk=gL js 0)
  (hs:∀ x,foldedSetIterable iter X.env x=pure x):PE X (.ListComp elt [⟨tg,iter,ifs,0⟩] scope pos) (tF K p ds ds1 d (eLC true fi g c1 f js)) :=
 (uR B hc hi hg ht he hs).imp fun _ _ _ h=>xr hcap hd hz hlk (by rw [Bool.and_true]; exact h)
def IB {elt tg iter:Expr} {ifs:List Expr} {scope:Scope} {ns:List Str} {js:List (Option Nat)} {fi:MI} {g:MG} {lk:List Nat} {cd:Nat} (B:BlkOkC X scope ns js) (hc:X.calm=true) (hi:PI X tg iter (tFI K false ds ds1 fi))
  (hg:∀ C cl s₀ H₀ fp,PG (aN X scope ns C cl s₀ H₀ fp) tg (tFG K lk dsi dsi g)) (ht:∀ C cl s₀ H₀ fp,PTs (aN X scope ns C cl s₀ H₀ fp) ifs (tFT K false dsi dsi c1)) (he:∀ C cl s₀ H₀ fp,PE (aN X scope ns C cl s₀ H₀ fp) elt (tF K false dsi dsi cd f))
  (hcap:gM ds1 js dsi=true) (hd:dn d=cd) (hz:d≠0) (hlk:lk=gL js 0)
  (hs:∀ x,foldedSetIterable iter X.env x=pure x):PE X (.ListComp elt [⟨tg,iter,ifs,0⟩] scope pos) (tF K false ds ds1 d (eLC false fi g c1 f js)) :=
 (uR B hc hi hg ht he hs).imp fun _ _ _ h=>xr hcap hd hz hlk h
end
def KG (f:ME) (g:MG):MS:=fun en=>(f en).bind fun r=>(g r.1 r.2).map .nx
section
variable {K:PySem.W.Frag} {p p1 p2 q:Bool} {J:Jd} {ds ds0 ds1 ds2 ds' dsi dps:List Nat} {d d' d1 d2 dr:Nat} {f f1 f2 fk fe:ME} {c1 c2:MT} {fa:MA} {sh:Sh} {i:Nat} {m m1 m2:MS} {g:MG} {lk:List Nat} {σ:St} {H:Hp} {Dn:Ends}
end
section
variable {X:Cx} {K:PySem.W.Frag} {p p1 p2 q:Bool} {J:Jd} {ds ds0 ds1 ds2 ds' dsi dps:List Nat} {d d' d1 d2 dr:Nat} {a b c e tg iter:Expr} {es:List Expr} {st:Stmt} {rest body bodyB:List Stmt} {f f1 f2 fk fe:ME} {c1 c2:MT} {fa:MA} {sh:Sh} {pos px:Pos} {i:Nat} {x:Str} {m m1 m2:MS} {g:MG} {gs:List D->En->Option En} {fi:MI} {lk:List Nat}
def D7:PSs X [] (tFS K J ds ds aG):=pss_nil.imp fun _ _ _=>HY
def wX (h1:PS X st (tFS K J ds ds1 m1)) (h2:PSs X rest (tFS K J ds1 ds2 m2)):PSs X (st :: rest) (tFS K J ds ds2 (ak m1 m2)):=(wo h1 h2).imp fun _ _ _=>HW
def D6 (h1:PS X st (tFS K J ds ds1 m1)):PSs X [st] (tFS K J ds ds1 m1):=Dy h1
def Ee (he:PE X e (tF K false ds ds1 d f)) (hs:swapsWith e none pos.line X.env=pure false):PS X (.Expr e pos) (tFS K J ds ds1 (iy f)):=(Dz he hs).imp fun _ _ _=>Ia
def Ec (he:PE X e (tF K false ds ds1 J.dr f)) (hd:leD J.dsr ds1=true):PS X (.Return (some e) pos) (tFS K J ds ds' (aq f)):=(Hb he).imp fun _ _ _=>HX hd
def vo:PS X st (tFS K J ds ds' dO):=ps_never.imp fun _ _ _=>wZ
def Ib (hc:PT X c (tFT K false ds ds1 c1)) (ha:PSs X body (tFS K J ds1 ds2 m1)) (hb:PSs X bodyB (tFS K J ds1 ds2 m2)):PS X (.If c body bodyB pos) (tFS K J ds ds2 (sIf c1 m1 m2)):=(Jm hc ha hb).imp fun _ _ _=>JC
def Eb {x:Str} {pos':Pos} (hN:X.N.Nodup) (hi:X.N[i]?=some x) (hx:Loc X.env.scope x) (he:PE X e (tF K false ds ds1 d f)) (hds:ds1.set i d=ds') (hl:i < ds1.length) (hk:i ∉ J.lk)
  (hs:swapsWith e (some (.Name x pos')) pos.line X.env=pure false) (hf:X.fn x=true\/X.env.scope.names.lookup x=some .local) :
  PS X (.Assign [.Name x pos'] e pos) (tFS K J ds ds' (aB i f)):=by
 subst hds;exact (Ha hN hi hx he hs hf).imp fun _ _ _=>vj hl hk
def vm {x:Str} {spos pos':Pos} {elt:Expr} {ifs:List Expr} {scope:Scope} {ns:List Str} {js:List (Option Nat)} {cd:Nat} (hN:X.N.Nodup) (hi':X.N[i]?=some x) (hx:X.env.scope.names.lookup x=some .local) (B:BlkOkC X scope ns js) (hc:X.calm=true) (hi:PI X tg iter (tFI K false ds ds1 fi))
  (hg:∀ C cl s₀ H₀ fp,PG (aN X scope ns C cl s₀ H₀ fp) tg (tFG K lk dsi dsi g)) (ht:∀ C cl s₀ H₀ fp,PTs (aN X scope ns C cl s₀ H₀ fp) ifs (tFT K q dsi dsi c1)) (he:∀ C cl s₀ H₀ fp,PE (aN X scope ns C cl s₀ H₀ fp) elt (tF K q dsi dsi cd f))
  (hds:ds1.set i d=ds') (hcap:gM ds1 js dsi=true) (hd:dn d=cd) (hz:d≠0) (hlk:lk=gL js 0) (hl:i < ds1.length) (hk:i ∉ J.lk)
  (hsw:swapsWith (.ListComp elt [⟨tg,iter,ifs,0⟩] scope pos) (some (.Name x pos')) spos.line X.env=pure true)
  (hs:∀ x,foldedSetIterable iter X.env x=pure x):PS X (.Assign [.Name x pos'] (.ListComp elt [⟨tg,iter,ifs,0⟩] scope pos) spos) (tFS K J ds ds' (aB i (eLC q fi g c1 f js))):=by
 subst hds;exact (uN hN hi' hx B hc hi hg ht he hsw hs).imp fun D σ H h=>xr (p:=false) hcap hd hz hlk (vj (p:=false && q) hl hk h)
def w4 {c:Nat} {x:Str} {spos:Pos} {k:Expr} (hN:X.N[i]?=some x) (hv:Vis X.env.scope x) (he:PE X e (tF K false ds ds1 c fe)) (hk:PE X k (tF K false ds1 ds2 d2 fk)) (h1:ds2[i]?=some d) (hz:d≠0) (hc:dn d=c)
  (hdb:(x == ("__debug__" : Str))=false) (hcd:(x == ("__classdict__" : Str))=false)
  (ha:∀ v,assign (.Subscript (.Name x px) k spos) X.env v=(do
   let ov <- holding [v] (eval (.Name x px) X.env);let iv <- holding [v,ov] (eval k X.env)
   standAt spos
   holding [v,ov,iv] (setItem ov iv v)
   release [v,ov,iv] []))
  (hs:swapsWithSole [.Subscript (.Name x px) k spos] e pos.line X.env=pure false) (hw:swappedStores [.Subscript (.Name x px) k spos] e X.env=pure none)
  (h2:(assignEach [.Subscript (.Name x px) k spos] X.env).map (·.2)=[assign (.Subscript (.Name x px) k spos) X.env]) :
  PS X (.Assign [.Subscript (.Name x px) k spos] e pos) (tFS K J ds ds2 (gk i fk fe)) :=
 (Hd he (Hg (fA hN hv hdb hcd) hk wg ha) hs hw h2).imp fun _ _ _=>D8 h1 hz hc
def xf {x:Str} (hN:X.N.Nodup) (hi:X.N[i]?=some x) (hx:Loc X.env.scope x) (hds:ds.set i 0=ds') (hl:i < ds.length) (hk:i ∉ lk) (hf:X.fn x=true\/X.env.scope.names.lookup x=some .local) :
  PG X (.Name x pos) (tFG K lk ds ds' (gN i)):=by
 subst hds;exact (DH hN hi hx hf).imp fun _ _ _ _=>Et hl hk
def xb:PGs X [] (gE K lk ds ds gs0):=pgs_nil.imp fun _ _ _ _=>Er
def vw (h1:PG X e (tFG K lk ds ds1 g)) (h2:PGs X es (gE K lk ds1 ds2 gs)) (hs:(assignEach (e :: es) X.env).map (·.2)=assign e X.env :: (assignEach es X.env).map (·.2)):PGs X (e :: es) (gE K lk ds ds2 (gsC g gs)):=(wv h1 h2 hs).imp fun _ _ _ _=>xc
def DZ {g1 g2:MG}:∀ ts en,(∃ en',gsC g1 (gsC g2 gs0) ts en=some en')->ts.length=2:=fun ts en ⟨en',h⟩=>by
 match ts,h with
 | [],h=>cases h
 | [_],h =>
  obtain ⟨_,_,h⟩:=zaa.mp h;cases h
 | [_,_],_=>rfl
 | a :: b :: c :: r,h =>
  obtain ⟨_,_,h⟩:=zaa.mp h;obtain ⟨_,_,h⟩:=zaa.mp h;cases h
def Es {k n:Nat} (hK:X.K=K) (hc:X.calm=true) (h:PGs X es (gE K lk ds ds1 gs)) (hl:∀ ts en,(∃ en',gs ts en=some en')->ts.length=n) (hn:(assignEach es X.env).length=n) (hst:(assignEach es X.env).findIdx? (·.1)=none) :
  PG X (.Tuple es k pos) (tFG K lk ds ds1 (gT gs)):=by
 subst hK;exact (Hf hc h hn hst).imp fun _ _ _ _=>Ip hl
def Ed (hc:X.calm=true) (hi:PI X tg iter (tFI K false ds ds1 fi)) (hg:PG X tg (tFG K J.lk ds1 ds2 g)) (hb:PSs X body (tFS K { J with dsl:=ds1 } ds2 ds1 m)) (hp:PassesOwn (model X.prog X.w) X.A X.env X.xe)
  (hs:∀ x,foldedSetIterable iter X.env x=pure x):PS X (.For tg iter body [] pos) (tFS K J ds ds1 (kO fi g m)):=(Hc hp hc hi hg hb hs).imp fun _ _ _=>HZ
def vk (hc:PT X c (tFT K false ds ds1 c1)) (hb:PSs X body (tFS K { J with dsl:=ds } ds1 ds m)) (hp:PassesOwn (model X.prog X.w) X.A X.env X.xe):PS X (.While c body [] pos) (tFS K J ds ds1 (cQ c1 m)):=(wp hp hc hb).imp fun _ _ _=>wY
end
def CV:D->Option (List D)
 | .list ts=>some ts
 | .tuple ts=>some ts
 | .str z=>some ((li z).map fun c=>.str (mk1 c))
 | _=>none
def dQ (f:ME):MI:=fun en=>(f en).bind fun r=>(CV r.1).map fun ts=>(ts,r.2)
section
variable {K:PySem.W.Frag} {O O1:AS} {H0 H:Hp} {ts:List D} {vs:List V} {a:Addr} {F:AS}
def fq {O O1:AS} (h1:∀ a o,H0 a=some o->¬ O a->H a=some o) (h2:∀ a,O1 a->O a\/H0 a=none):Mv O O1 NoA H0 H:=⟨fun a o q z=>z.elim (h1 a o q) fun z=>z.elim,h2⟩
def uz (h:FzL K O H0 a vs) (ho:Ows K O H0 ts 0 vs NoA):pb K O H0 (Itl K a) ts:=fun i H O1 h1 h2 h3=>by
 have sq:=(h.mv (fq h1 h2)).sq;refine ⟨fun t ht=>?_,fun hl=>⟨vs,sq,by rw [ho.len]; omega⟩⟩;obtain ⟨v,hv,ov⟩:=ho.get ht;refine ⟨⟨vs,v,sq,hv⟩,fun x H1 ⟨e,y⟩=>?_⟩;subst e;have e2:=y vs sq;rw [hv] at e2;cases e2;exact ⟨fun _ _ q=>q,Ow.mv (fq h1 h2) t (fun _ z=>z) ov⟩
def vV (h:FzT K O H0 a vs) (ho:Ows K O H0 ts 0 vs NoA):pb K O H0 (Itt K a) ts:=fun i H O1 h1 h2 h3=>by
 have sq:=(h.mv (fq h1 h2)).sq;refine ⟨fun t ht=>?_,fun hl=>⟨vs,sq,by rw [ho.len]; omega⟩⟩;obtain ⟨v,hv,ov⟩:=ho.get ht;refine ⟨⟨vs,v,sq,hv⟩,fun x H1 ⟨e,y⟩=>?_⟩;subst e;have e2:=y vs sq;rw [hv] at e2;cases e2;exact ⟨fun _ _ q=>q,Ow.mv (fq h1 h2) t (fun _ z=>z) ov⟩
def vW {z:Str}:pb K O H0 (Its z) ((li z).map fun c=>.str (mk1 c)):=fun i H O1 h1 h2 h3=>by
 refine ⟨fun t ht=>?_,fun hl=>?_⟩
 ·rw [zao] at ht;obtain ⟨c,hc,e⟩:=zab.mp ht;have hi:i < z.cps.size:=by
   have:=(zah.mp hc).1;simpa [li] using this
  have hc':z.cps[i]?=some c:=by
   have:z.cps.toList[i]?=some c:=hc;simpa using this
  refine ⟨hi,fun x H1 ⟨e1,c',e2,e3⟩=>?_⟩;subst e1 e e3;rw [hc'] at e2;cases e2;exact ⟨fun _ _ q=>q,rfl⟩
 ·have:z.cps.size=i:=by
   rw [zad] at hl;simpa [li] using hl
  show z.cps.size<=i;omega
def vX {lo:Int} {n:Nat}:pb K O H0 (Itr lo n) ((List.range n).map fun k=>.int (lo+(k:Nat))):=fun i H O1 h1 h2 h3=>by
 refine ⟨fun t ht=>?_,fun hl=>?_⟩
 ·rw [zao] at ht;obtain ⟨c,hc,e⟩:=zab.mp ht;have hi:=(zah.mp hc).1;rw [List.length_range] at hi;rw [List.getElem?_range hi] at hc;cases hc;refine ⟨hi,fun x H1 ⟨e1,e2⟩=>?_⟩;subst e1 e e2;exact ⟨fun _ _ q=>q,rfl⟩
 ·rw [zad,List.length_range] at hl;show n<=i;omega
def Dm (ts:List D):List D:=ts.zipIdx.map fun p=>.tuple [.int (p.2:Nat),p.1]
end
def fC (fa:MA):MI:=fun en=>(fa en).bind fun r=>match r.1 with
 | [.inl (.int j)]=>if -(2 ^ 62)<=j/\j < 2 ^ 62 then some ((List.range j.toNat).map fun k=>.int (0+(k:Nat)),r.2) else none
 | _=>none
def Kv (fa:MA):MI:=fun en=>(fa en).bind fun r=>match r.1 with
 | [.inl (.int i),.inl (.int j)]=>if -(2 ^ 62)<=i/\i < 2 ^ 62/\-(2 ^ 62)<=j/\j < 2 ^ 62 then some ((List.range (j - i).toNat).map fun k=>.int (i+(k:Nat)),r.2) else none
 | _=>none
def Kw (fa:MA):MI:=fun en=>(fa en).bind fun r=>match r.1 with
 | [.inl (.list ts)]=>some (Dm ts,r.2)
 | [.inl (.tuple ts)]=>some (Dm ts,r.2)
 | _=>none
section
variable {X:Cx} {K:PySem.W.Frag} {p:Bool} {ds ds1:List Nat} {d:Nat} {e tg l:Expr} {f:ME} {fa:MA} {sh:Sh}
def Io (hK:X.K=K) (hl:PE X l (tF K p ds ds1 d f)):PI X tg l (tFI K p ds ds1 (dQ f)):=by
 subst hK;intro pins s σ H R I h;obtain ⟨Ox,en,Rg,ts,en',e,hf,k⟩:=h;unfold dQ at hf;obtain ⟨⟨t,en1⟩,h1,hf⟩:=zaa.mp hf;obtain ⟨ts',h2,hf⟩:=zab.mp hf;cases hf;refine thn (hl pins s σ H (fun v H1=>∃ R1,Post X.K p ds1 Ox σ H en Rg en1 H1 R1 NoA/\Ow X.K (Own R1 Ox) H1 t 0 v NoA) I ⟨Ox,en,Rg,t,en1,e,h1,fun v H1 R1 F P o=>⟨R1,P.less fun _ z=>z.elim,Ow.letgo P (fun _ z=>z) o⟩⟩) fun v s1 ⟨x,H1,I1,r1,R1,P,o⟩=>?_;cases t with
 | list ts0 =>
  cases h2;obtain ⟨a,vs,e1,⟨_,fz,ow⟩ | ⟨z,_⟩⟩:=o
  ·subst e1;cases r1;obtain ⟨its,rv,pl,hz⟩:=I1.list fz.sq;refine wpAny_pyIter_list pl.isList ?_;refine ⟨s1.heap.objs.size,[s1.heap.objs.size],_,_,H1,rfl,I1.kept (t':=s1.toks) fun b o e=>zaf _ e,uB a _,⟨_,zan _ rfl,rfl,rfl⟩,fun b hb=>?_,k _ H1 R1 P (uz fz ow)⟩;have e:b=s1.heap.objs.size:=by simpa using hb
   subst e;exact I1.fpOk (zav _) (I1.hok.fresh (zav _))
  ·exact absurd rfl z
 | tuple ts0 =>
  cases h2;obtain ⟨a,vs,e1,⟨_,fz,ow⟩ | ⟨z,_⟩⟩:=o
  ·subst e1;cases r1;obtain ⟨its,rv,pl,hz⟩:=I1.tuple fz.sq;refine wpAny_pyIter_tuple (show s1.heap.IsTuple a its.toArray from pl) ?_;refine ⟨s1.heap.objs.size,[s1.heap.objs.size],_,_,H1,rfl,I1.kept (t':=s1.toks) fun b o e=>zaf _ e,sU a _,⟨_,zan _ rfl,rfl,rfl⟩,fun b hb=>?_,k _ H1 R1 P (vV fz ow)⟩;have e:b=s1.heap.objs.size:=by simpa using hb
   subst e;exact I1.fpOk (zav _) (I1.hok.fresh (zav _))
  ·exact absurd rfl z
 | str z =>
  cases h2;have e1:x=.str z:=o;subst e1;obtain ⟨t,rfl⟩:=r1;have fin:∀ (ty:String) (o:Obj),(ty="str_ascii_iterator"\/ty="str_iterator")->(s1.heap.push o).IsStrIter s1.heap.objs.size ty z t 0->PIE X pins σ tg R (.ref s1.heap.objs.size) { s1 with heap:=s1.heap.push o }:=fun ty o hty st=>by
   refine ⟨s1.heap.objs.size,[s1.heap.objs.size],_,_,H1,rfl,I1.kept (t':=s1.toks) fun b o e=>zaf _ e,vY _ z t ty hty,st,fun b hb=>?_,k _ H1 R1 P vW⟩;have e:b=s1.heap.objs.size:=by simpa using hb
   subst e;exact I1.fpOk (zav _) (I1.hok.fresh (zav _))
  cases ha:z.cps.all (· < 128)
  ·exact wpAny_pyIter_wide ha (fin _ _ (.inr rfl) ⟨_,zan _ rfl,rfl,rfl⟩)
  ·exact wpAny_pyIter_ascii ha (fin _ _ (.inl rfl) ⟨_,zan _ rfl,rfl,rfl⟩)
 | _=>cases h2
def Ep {a:Expr} {px pos:Pos} (hg:Gl X "range") (hm:X.mg "range"=none) (ha:PA X [a] (tFA K p ds ds1 sh fa)) (hs:aH a=true):PI X tg (.Call (.Name "range" px) [a] [] pos) (tFI K p ds ds1 (fC fa)) :=
 (uP hg hm ha (bd hs)).imp fun σ H R ⟨Ox,en,Rg,ts,en',e,hf,k⟩=>by
  unfold fC at hf;obtain ⟨⟨as,en1⟩,h1,hf⟩:=zaa.mp hf;refine ⟨Ox,en,Rg,as,en1,e,h1,fun vs H1 R1 F P o=>?_⟩
  dsimp only at hf
  split at hf
  case h_2=>cases hf
  next j =>
  by_cases hj:-(2 ^ 62)<=j/\j < 2 ^ 62
  case neg=>rw [if_neg hj] at hf; cases hf
  rw [if_pos hj] at hf;cases hf;obtain ⟨v,r,d,dr,F1,F2,e1,e2,_,_,_,o1,o2⟩:=o;obtain ⟨_,o2⟩:=o2;subst e1 o2;have ev:v=.int j:=o1;subst ev;exact ⟨j,rfl,hj.1,hj.2,k _ H1 R1 (P.less fun _ z=>z.elim) vX⟩
end
def NewTo.refl {H:Hp}:NewTo H H NoA:=⟨fun _ _ q=>q,fun _ z=>z.elim⟩
def OpR.imp {X:Cx} {fn:Value->Value->Sem Value} {r r':R2} (h:OpR X fn r) (hi:∀ x y H Q,r' x y H Q->r x y H Q):OpR X fn r':=fun pins s σ H x y v u Q I rx ry q=>h pins s σ H x y v u Q I rx ry (hi _ _ _ _ q)
def OpR.or' {X:Cx} {fn:Value->Value->Sem Value} {r r':R2} (h:OpR X fn r) (h':OpR X fn r'):OpR X fn (fun x y H Q=>r x y H Q\/r' x y H Q):=fun pins s σ H x y v u Q I rx ry q=>q.elim (h pins s σ H x y v u Q I rx ry) (h' pins s σ H x y v u Q I rx ry)
def CallR.imp {X:Cx} {fn:Value} {r r':List V->Hp->VK->Prop} (h:CallR X fn r) (hi:∀ x H Q,r' x H Q->r x H Q):CallR X fn r':=fun pins s σ H x v Q I rx q=>h pins s σ H x v Q I rx (hi _ _ _ q)
def CallR.or' {X:Cx} {fn:Value} {r r':List V->Hp->VK->Prop} (h:CallR X fn r) (h':CallR X fn r'):CallR X fn (fun x H Q=>r x H Q\/r' x H Q):=fun pins s σ H x v Q I rx q=>q.elim (h pins s σ H x v Q I rx) (h' pins s σ H x v Q I rx)
def IxR.imp {X:Cx} {r r':R2} (h:IxR X r) (hi:∀ x y H Q,r' x y H Q->r x y H Q):IxR X r':=fun value slice pins s σ H x y v u Q I rx ry q=>h value slice pins s σ H x y v u Q I rx ry (hi _ _ _ _ q)
section
variable {X:Cx} {K:PySem.W.Frag} {O:AS} {H:Hp} {ts us:List D} {vs ws:List V} {x y:V} {d:Nat} {Q:VK}
def dZ {l:Addr} (hl:H l=none) (hd:∀ a,O a->∃ o,H a=some o) (h:Ows K O H ts 0 vs NoA):NewTo H (upd H l (.lst vs)) (fun b=>b=l)/\Ow K (U (fun b=>b=l) O) (upd H l (.lst vs)) (.list ts) 1 (.ref l) (fun b=>b=l):=by
 refine ⟨bT hl,l,vs,rfl,.inr ⟨by decide,aJ,rfl,NoA,fun _ z=>z.elim,?_⟩⟩;refine Ows.mv (G:=NoA) ⟨fun a o q _=>(bT (o:=.lst vs) hl).1 a o q,fun a z=>?_⟩ ts (fun _ z=>z) h;rcases z with z | z
 ·exact .inr (by rw [show a=l from z]; exact hl)
 ·exact .inl z
def lM {l:Addr} (hl:H l=none) (hd:∀ a,O a->∃ o,H a=some o) (h:Ows K O H ts 0 vs NoA):NewTo H (upd H l (.tup vs)) NoA/\Ow K (U NoA O) (upd H l (.tup vs)) (.tuple ts) 0 (.ref l) NoA:=by
 refine ⟨⟨(bT hl).1,fun _ z=>z.elim⟩,l,vs,rfl,.inl ⟨rfl,⟨aJ,fun z=>?_⟩,?_⟩⟩
 ·rcases z with z | z
  ·exact z
  ·obtain ⟨o,q⟩:=hd l z;rw [hl] at q;cases q
 ·refine Ows.mv (G:=NoA) ⟨fun a o q _=>(bT (o:=.tup vs) hl).1 a o q,fun a z=>?_⟩ ts (fun _ z=>z) h;rcases z with z | z
  ·exact z.elim
  ·exact .inl z
def Ows.app:∀ {ts:List D} {vs:List V},Ows K O H ts 0 vs NoA->Ows K O H us 0 ws NoA->Ows K O H (ts++us) 0 (vs++ws) NoA
 | [],_,h,h2=>by rw [show _=[] from h]; exact h2
 | t :: ts,_,h,h2=>by
  obtain ⟨v,r,F1,F2,e,_,_,_,h4,h5⟩:=h;subst e;exact ⟨v,r++ws,NoA,NoA,rfl,fun _ z=>z,fun _ z=>z,fun _ z=>z.elim,Ow.any0 t h4,Ows.app (Ows.any0 ts h5) h2⟩
def Ows.drop:∀ {ts:List D} {vs:List V} (n:Nat),Ows K O H ts 0 vs NoA->Ows K O H (ts.drop n) 0 (vs.drop n) NoA
 | ts,vs,0,h=>h
 | [],_,n+1,h=>by rw [show _=[] from h]; rfl
 | t :: ts,_,n+1,h=>by
  obtain ⟨v,r,F1,F2,e,_,_,_,h4,h5⟩:=h;subst e;exact Ows.drop n (Ows.any0 ts h5)
def Ows.take:∀ {ts:List D} {vs:List V} (n:Nat),Ows K O H ts 0 vs NoA->Ows K O H (ts.take n) 0 (vs.take n) NoA
 | ts,vs,0,h=>rfl
 | [],_,n+1,h=>by rw [show _=[] from h]; rfl
 | t :: ts,_,n+1,h=>by
  obtain ⟨v,r,F1,F2,e,_,_,_,h4,h5⟩:=h;subst e;exact ⟨v,r.take n,NoA,NoA,rfl,fun _ z=>z,fun _ z=>z,fun _ z=>z.elim,Ow.any0 t h4,Ows.take n (Ows.any0 ts h5)⟩
def Ow.lst0 {v:V} (h:Ow K O H (.list ts) 0 v NoA):∃ a vs,v=.ref a/\FzL K O H a vs/\Ows K O H ts 0 vs NoA:=by
 obtain ⟨a,vs,e,⟨_,h1,h2⟩ | ⟨z,_⟩⟩:=h
 ·exact ⟨a,vs,e,h1,h2⟩
 ·exact absurd rfl z
def Ow.tup0 {v:V} (h:Ow K O H (.tuple ts) 0 v NoA):∃ a vs,v=.ref a/\FzT K O H a vs/\Ows K O H ts 0 vs NoA:=by
 obtain ⟨a,vs,e,⟨_,h1,h2⟩ | ⟨z,_⟩⟩:=h
 ·exact ⟨a,vs,e,h1,h2⟩
 ·exact absurd rfl z
def Ows.one {t:D} (h:Ows K O H [t] 0 vs NoA):∃ v,vs=[v]/\Ow K O H t 0 v NoA:=by
 obtain ⟨v,r,F1,F2,e,_,_,_,h4,h5⟩:=h;rw [show r=[] from h5] at e;exact ⟨v,e,Ow.any0 t h4⟩
def Ows.two {t t2:D} (h:Ows K O H [t,t2] 0 vs NoA):∃ v w,vs=[v,w]/\Ow K O H t 0 v NoA/\Ow K O H t2 0 w NoA:=by
 obtain ⟨v,r,F1,F2,e,_,_,_,h4,h5⟩:=h;obtain ⟨w,e2,h6⟩:=Ows.one (Ows.any0 [t2] h5);subst e2;exact ⟨v,w,e,Ow.any0 t h4,h6⟩
def bw:D->D->Option D
 | .int a,.int b=>some (.int (a+b))
 | .str a,.str b=>if a.length+b.length<=sizeLine then some (.str (a++b)) else none
 | _,_=>none
def bX:OpR X (binaryOp .Add) (rF2 K bw 3):=(op_add.or' tE).imp fun x y H Q ⟨O,a,b,t,oa,ob,hd,hg,k⟩=>by
 cases a with
 | int i=>cases b with
  | int j=>cases hg; exact .inl ⟨i,j,oa,ob,k _ H NoA .refl rfl⟩
  | _=>cases hg
 | str i=>cases b with
  | str j =>
   dsimp only [bw] at hg
   by_cases hl:i.length+j.length<=sizeLine
   ·rw [if_pos hl] at hg; cases hg; exact .inr ⟨i,j,oa,ob,hl,k _ H NoA .refl rfl⟩
   ·rw [if_neg hl] at hg; cases hg
  | _=>cases hg
 | _=>cases hg
def iA (g:Int->Int->Option D):D->D->Option D
 | .int a,.int b=>g a b
 | _,_=>none
def dm {g:Int->Int->Option D} {a b t:D} (h:iA g a b=some t):∃ i j,a=.int i/\b=.int j/\g i j=some t:=by
 cases a with
 | int i=>cases b with
  | int j=>exact ⟨i,j,rfl,rfl,h⟩
  | _=>cases h
 | _=>cases h
def e9:D->D->Option D:=iA fun a b=>some (.int (a - b))
def eP:OpR X (binaryOp .Sub) (rF2 K e9 3):=op_sub.imp fun x y H Q ⟨O,a,b,t,oa,ob,hd,hg,k⟩=>by
 obtain ⟨i,j,rfl,rfl,h⟩:=dm hg;cases h;exact ⟨i,j,oa,ob,k _ H NoA .refl rfl⟩
instance (i j:Int):Decidable (CMul i j):=by unfold CMul; exact inferInstance
instance (i j:Int):Decidable (gY i j):=by unfold gY; exact inferInstance
instance (i j:Int):Decidable (iP i j):=by unfold iP; exact inferInstance
def b6:D->D->Option D:=iA fun a b=>if CMul a b then some (.int (a * b)) else none
def gz:OpR X (binaryOp .Mult) (rF2 K b6 3):=op_mul.imp fun x y H Q ⟨O,a,b,t,oa,ob,hd,hg,k⟩=>by
 obtain ⟨i,j,rfl,rfl,h⟩:=dm hg;by_cases hc:CMul i j
 ·rw [if_pos hc] at h; cases h; exact ⟨i,j,oa,ob,hc,k _ H NoA .refl rfl⟩
 ·rw [if_neg hc] at h; cases h
def dt:D->D->Option D:=iA fun a b=>if gY a b then some (.int (a / b)) else none
def sI:OpR X (binaryOp .FloorDiv) (rF2 K dt 3):=op_fdiv.imp fun x y H Q ⟨O,a,b,t,oa,ob,hd,hg,k⟩=>by
 obtain ⟨i,j,rfl,rfl,h⟩:=dm hg;by_cases hc:gY i j
 ·rw [if_pos hc] at h; cases h; exact ⟨i,j,oa,ob,hc,k _ H NoA .refl rfl⟩
 ·rw [if_neg hc] at h; cases h
def bF:D->D->Option D:=iA fun a b=>if 0 < b then some (.int (a % b)) else none
def iD:OpR X (binaryOp .Mod) (rF2 K bF 3):=op_mod.imp fun x y H Q ⟨O,a,b,t,oa,ob,hd,hg,k⟩=>by
 obtain ⟨i,j,rfl,rfl,h⟩:=dm hg;by_cases hc:0 < j
 ·rw [if_pos hc] at h; cases h; exact ⟨i,j,oa,ob,hc,k _ H NoA .refl rfl⟩
 ·rw [if_neg hc] at h; cases h
def mx:D->D->Option D:=iA fun a b=>if iP a b then some (.int (a ^ b.toNat)) else none
def Ig:OpR X (binaryOp .Pow) (rF2 K mx 3):=op_pow.imp fun x y H Q ⟨O,a,b,t,oa,ob,hd,hg,k⟩=>by
 obtain ⟨i,j,rfl,rfl,h⟩:=dm hg;by_cases hc:iP i j
 ·rw [if_pos hc] at h; cases h; exact ⟨i,j,oa,ob,hc,k _ H NoA .refl rfl⟩
 ·rw [if_neg hc] at h; cases h
def ltI:D->D->Option D:=iA fun a b=>some (.bool (decide (a < b)))
def leI:D->D->Option D:=iA fun a b=>some (.bool (decide (a<=b)))
def gtI:D->D->Option D:=iA fun a b=>some (.bool (decide (b < a)))
def geI:D->D->Option D:=iA fun a b=>some (.bool (decide (b<=a)))
def JD:OpR X (compareOp .Lt) (rF2 K ltI 3):=op_lt.imp fun x y H Q ⟨O,a,b,t,oa,ob,hd,hg,k⟩=>by
 obtain ⟨i,j,rfl,rfl,h⟩:=dm hg;cases h;exact ⟨i,j,oa,ob,k _ H NoA .refl rfl⟩
def cN:OpR X (compareOp .LtE) (rF2 K leI 3):=op_le.imp fun x y H Q ⟨O,a,b,t,oa,ob,hd,hg,k⟩=>by
 obtain ⟨i,j,rfl,rfl,h⟩:=dm hg;cases h;exact ⟨i,j,oa,ob,k _ H NoA .refl rfl⟩
def nK:OpR X (compareOp .Gt) (rF2 K gtI 3):=op_gt.imp fun x y H Q ⟨O,a,b,t,oa,ob,hd,hg,k⟩=>by
 obtain ⟨i,j,rfl,rfl,h⟩:=dm hg;cases h;exact ⟨i,j,oa,ob,k _ H NoA .refl rfl⟩
def JE:OpR X (compareOp .GtE) (rF2 K geI 3):=op_ge.imp fun x y H Q ⟨O,a,b,t,oa,ob,hd,hg,k⟩=>by
 obtain ⟨i,j,rfl,rfl,h⟩:=dm hg;cases h;exact ⟨i,j,oa,ob,k _ H NoA .refl rfl⟩
def oP:D->Bool
 | .none=>true
 | _=>false
def wT {a:D} {F:AS} (h:Ow K O H a d x F):decide (x=.non)=oP a:=by
 cases a with
 | none=>rw [show x=.non from h]; rfl
 | bool b=>rw [show x=.bl b from h]; rfl
 | int b=>rw [show x=.int b from h]; rfl
 | str b=>rw [show x=.str b from h]; rfl
 | list ts=>obtain ⟨a,vs,e,_⟩:=h; rw [e]; rfl
 | tuple ts=>obtain ⟨a,vs,e,_⟩:=h; rw [e]; rfl
 | dict ts=>obtain ⟨a,vs,e,_⟩:=h; rw [e]; rfl
def isN:D->D->Option D
 | a,.none=>some (.bool (oP a))
 | _,_=>none
def KI:D->D->Option D
 | a,.none=>some (.bool (!oP a))
 | _,_=>none
def nJ:OpR X (compareOp .Is) (rF2 K isN 3):=op_isN.imp fun x y H Q ⟨O,a,b,t,oa,ob,hd,hg,k⟩=>by
 cases b with
 | none=>cases hg; exact ⟨ob,by rw [wT oa]; exact k _ H NoA .refl rfl⟩
 | _=>cases hg
def ub:D->D->Option D
 | .str a,.str b=>some (.bool (iB b a))
 | _,_=>none
def Kr:D->D->Option D
 | .str a,.str b=>some (.bool (!iB b a))
 | _,_=>none
def vp:OpR X (compareOp .In) (rF2 K ub 3):=op_inS.imp fun x y H Q ⟨O,a,b,t,oa,ob,hd,hg,k⟩=>by
 cases a with
 | str i=>cases b with
  | str j=>cases hg; exact ⟨i,j,oa,ob,k _ H NoA .refl rfl⟩
  | _=>cases hg
 | _=>cases hg
def ixA:D->D->Option D
 | .list ts,.int n=>atI ts n
 | .tuple ts,.int n=>atI ts n
 | .str z,.int n=>if z.length<=sizeLine then (atI z.cps.toList n).map fun c=>.str (mk1 c) else none
 | _,_=>none
def lQ (hK:X.K=K):IxR X (rF2 K ixA 0):=by
 subst hK;refine ix_seq.imp fun x y H Q ⟨O,a,b,t,oa,ob,hd,hg,k⟩=>?_;cases b with
 | int n =>
  cases a with
  | list ts =>
   obtain ⟨a,vs,e,fz,ow⟩:=oa.lst0;obtain ⟨v,h1,h2⟩:=ow.atI hg;exact .inl ⟨a,vs,n,v,e,ob,fz.sq,h1,k v H NoA .refl (by rw [gP]; exact h2)⟩
  | tuple ts =>
   obtain ⟨a,vs,e,fz,ow⟩:=oa.tup0;obtain ⟨v,h1,h2⟩:=ow.atI hg;exact .inr (.inl ⟨a,vs,n,v,e,ob,fz.sq,h1,k v H NoA .refl (by rw [gP]; exact h2)⟩)
  | str z =>
   dsimp only [ixA] at hg
   by_cases hl:z.length<=sizeLine
   ·rw [if_pos hl] at hg;obtain ⟨c,h1,h2⟩:=zab.mp hg;cases h2;exact .inr (.inr ⟨z,n,c,oa,ob,hl,h1,k _ H NoA .refl rfl⟩)
   ·rw [if_neg hl] at hg; cases hg
  | _=>cases hg
 | _=>cases a <;> cases hg
def ixT:D->D->Option D
 | .str z,.int n=>if z.length<=sizeLine then (atI z.cps.toList n).map fun c=>.str (mk1 c) else none
 | _,_=>none
def Ij:IxR X (rF2 K ixT 3):=by
 refine ix_str.imp fun x y H Q ⟨O,a,b,t,oa,ob,hd,hg,k⟩=>?_;cases a with
 | str z=>cases b with
  | int n =>
   dsimp only [ixT] at hg
   by_cases hl:z.length<=sizeLine
   ·rw [if_pos hl] at hg;obtain ⟨c,h1,h2⟩:=zab.mp hg;cases h2;exact ⟨z,n,c,oa,ob,hl,h1,k _ H NoA .refl rfl⟩
   ·rw [if_neg hl] at hg; cases hg
  | _=>cases hg
 | _=>cases hg
def ga:D->D->Option D
 | .list a,.list b=>if a.length+b.length<=sizeLine then some (.list (a++b)) else none
 | _,_=>none
def KQ:D->D->Option D
 | .tuple a,.tuple b=>if a.length+b.length<=sizeLine then some (.tuple (a++b)) else none
 | _,_=>none
end
def grd {α:Type} (c:Prop) [Decidable c] (t:α):Option α:=if c then some t else none
def cJ {α:Type} {c:Prop} [Decidable c] {t u:α} (h:grd c t=some u):c/\t=u:=by
 unfold grd at h;by_cases hc:c
 ·rw [if_pos hc] at h; exact ⟨hc,zat h⟩
 ·rw [if_neg hc] at h; cases h
section
variable {X:Cx} {K:PySem.W.Frag} {O:AS} {H:Hp} {ts us:List D} {vs ws:List V} {x y:V} {d:Nat} {Q:VK}
def Jk (K:PySem.W.Frag):R2:=fun x y H Q=>∃ l b xs zs,x=.ref l/\y=.ref b/\SqL K H l xs/\SqL K H b zs/\xs.length+zs.length<=sizeLine/\∀ p,H p=none->Q (.ref p) (upd H p (.lst (xs++zs)))
def op_catL:OpR X (binaryOp .Add) (Jk X.K):=by
 intro pins s σ H x y v u Q I rx ry h;obtain ⟨l,b,xs,zs,rfl,rfl,hH,hB,hz,q⟩:=h;cases rx;cases ry;obtain ⟨its,r,⟨⟨c1,dd,da1,sl⟩,n,ho,hc,hdd,hda⟩,_⟩:=I.list hH;obtain ⟨its2,r2,⟨⟨c2,dd2,da2,sl2⟩,n2,ho2,hc2,hdd2,hda2⟩,_⟩:=I.list hB;have hl:=r.length;have hl2:=r2.length;simp only at hc hda hc2 hda2;subst hc hda hc2 hda2;refine concat_meets ⟨_,ho,rfl⟩ ⟨_,ho2,rfl⟩ noFill_list_add seq_list_add PySem.F.slot_list_add PySem.F.entry_list_add (PySem.F.args_list_add_2 _ _) (list_addW l b its.toArray its2.toArray n n2 dd dd2 sl sl2 (by simp only [zai]; omega)) ⟨ho,ho2,?_⟩;have ea:its.toArray++its2.toArray=(its++its2).toArray:=by simp
 rw [ea];exact ⟨.ref _,_,I.lnew (t':=s.toks) (r.append r2) (by rw [zae]; omega),rfl,q _ I.fresh⟩
def dD (hK:X.K=K):OpR X (binaryOp .Add) (rF2 K ga 1):=by
 subst hK;refine op_catL.imp fun x y H Q ⟨O,a,b,t,oa,ob,hd,hg,k⟩=>?_;cases a with
 | list ts=>cases b with
  | list us =>
   dsimp only [ga] at hg
   by_cases hl:ts.length+us.length<=sizeLine
   case neg=>rw [if_neg hl] at hg; cases hg
   rw [if_pos hl] at hg;cases hg;obtain ⟨a,vs,e1,f1,w1⟩:=oa.lst0;obtain ⟨b,ws,e2,f2,w2⟩:=ob.lst0;refine ⟨a,b,vs,ws,e1,e2,f1.sq,f2.sq,by rw [w1.len,w2.len]; exact hl,fun p hp=>?_⟩;obtain ⟨n1,n2⟩:=dZ hp hd (w1.app w2);exact k _ _ _ n1 n2
  | _=>cases hg
 | _=>cases hg
def KM:D->D->Option D
 | .list ts,.int k=>grd (-(2 ^ 63)<=k/\k < 2 ^ 63/\ts.length * k.toNat<=sizeLine) (.list (List.replicate k.toNat ts).flatten)
 | _,_=>none
def KL:D->D->Option D
 | .str z,.int k=>grd (z.length<=4000/\-(2 ^ 63)<=k/\k<=4000) (.str (Txt.mul z k))
 | _,_=>none
def KJ:D->Option D
 | .int i=>some (.int (-i))
 | _=>none
def aQ:List D->Option D
 | [.list ts]=>some (.int ts.length)
 | [.tuple ts]=>some (.int ts.length)
 | [.str z]=>grd (z.length<=sizeLine) (.int z.length)
 | _=>none
def Ii (hK:X.K=K):CallR X (.builtin "len") (rFn K aQ 3):=(Ka hK).imp fun xs H Q ⟨O,as,t,oa,hd,hg,k⟩=>by
 match as,hg with
 | [.list ts],hg =>
  cases hg;obtain ⟨v,rfl,o⟩:=oa.one;obtain ⟨a,vs,rfl,fz,w⟩:=o.lst0;exact ⟨_,_,rfl,.inl ⟨vs,fz.sq,rfl⟩,by rw [w.len]; exact k _ H NoA .refl rfl⟩
 | [.tuple ts],hg =>
  cases hg;obtain ⟨v,rfl,o⟩:=oa.one;obtain ⟨a,vs,rfl,fz,w⟩:=o.tup0;exact ⟨_,_,rfl,.inr ⟨vs,fz.sq,rfl⟩,by rw [w.len]; exact k _ H NoA .refl rfl⟩
 | [.str z],hg =>
  obtain ⟨c,rfl⟩:=cJ hg;obtain ⟨v,rfl,o⟩:=oa.one;exact ⟨_,_,rfl,by rw [show v=.str z from o]; exact ⟨c,rfl⟩,k _ H NoA .refl rfl⟩
def jj:List D->Option D
 | [.int i]=>some (.int (if i < 0 then -i else i))
 | _=>none
def vq:CallR X (.builtin "abs") (rFn K jj 3):=call_abs.imp fun xs H Q ⟨O,as,t,oa,hd,hg,k⟩=>by
 match as,hg with
 | [.int i],hg =>
  cases hg;obtain ⟨v,rfl,o⟩:=oa.one;exact ⟨i,by rw [show v=.int i from o],k _ H NoA .refl rfl⟩
def tK:List D->Option D
 | [.int i,.int j]=>some (.int (if j > i then j else i))
 | _=>none
def qa:List D->Option D
 | [.int i,.int j]=>some (.int (if j < i then j else i))
 | _=>none
def Ek (hc:X.calm=true):CallR X (.builtin "max") (rFn K tK 3):=(vO hc).imp fun xs H Q ⟨O,as,t,oa,hd,hg,k⟩=>by
 match as,hg with
 | [.int i,.int j],hg =>
  cases hg;obtain ⟨v,w,rfl,o,o2⟩:=oa.two;exact ⟨i,j,by rw [show v=.int i from o,show w=.int j from o2],k _ H NoA .refl rfl⟩
def sH (hc:X.calm=true):CallR X (.builtin "min") (rFn K qa 3):=(vN hc).imp fun xs H Q ⟨O,as,t,oa,hd,hg,k⟩=>by
 match as,hg with
 | [.int i,.int j],hg =>
  cases hg;obtain ⟨v,w,rfl,o,o2⟩:=oa.two;exact ⟨i,j,by rw [show v=.int i from o,show w=.int j from o2],k _ H NoA .refl rfl⟩
def qZ:List D->Option D
 | [.int i]=>some (.int i)
 | [.bool b]=>some (.int (if b then 1 else 0))
 | _=>none
def Ik:CallR X (.type "int") (rFn K qZ 3):=call_int1.imp fun xs H Q ⟨O,as,t,oa,hd,hg,k⟩=>by
 match as,hg with
 | [.int i],hg =>
  cases hg;obtain ⟨v,rfl,o⟩:=oa.one;exact .inl ⟨i,by rw [show v=.int i from o],k _ H NoA .refl rfl⟩
 | [.bool i],hg =>
  cases hg;obtain ⟨v,rfl,o⟩:=oa.one;exact .inr ⟨i,by rw [show v=.bl i from o],k _ H NoA .refl rfl⟩
def eT (z:Str):List D:=(li z).map fun c=>.str (mk1 c)
def qy {z:Str}:Ows K O H (eT z) 0 (dX z) NoA:=by
 unfold eT dX;show Ows K O H ((li z).map fun c=>.str (mk1 c)) 0 ((li z).map sgn) NoA;generalize li z=l
 induction l with
 | nil=>rfl
 | cons c r ih=>exact ⟨sgn c,r.map sgn,NoA,NoA,rfl,fun _ z=>z,fun _ z=>z,fun _ z=>z.elim,rfl,ih⟩
def gm:List D->Option D
 | [.list ts]=>some (.list ts)
 | [.tuple ts]=>some (.list ts)
 | [.str z]=>grd (z.cps.size<=sizeLine) (.list (eT z))
 | _=>none
def jF (hK:X.K=K) (hc:X.calm=true):CallR X (.type "list") (rFn K gm 1):=((DU hK).or' (oY hc)).imp fun xs H Q ⟨O,as,t,oa,hd,hg,k⟩=>by
 match as,hg with
 | [.list ts],hg =>
  cases hg;obtain ⟨v,rfl,o⟩:=oa.one;obtain ⟨a,vs,rfl,fz,w⟩:=o.lst0;exact .inl ⟨a,vs,rfl,.inl fz.sq,fun l hl=>k _ _ _ (dZ hl hd w).1 (dZ hl hd w).2⟩
 | [.tuple ts],hg =>
  cases hg;obtain ⟨v,rfl,o⟩:=oa.one;obtain ⟨a,vs,rfl,fz,w⟩:=o.tup0;exact .inl ⟨a,vs,rfl,.inr fz.sq,fun l hl=>k _ _ _ (dZ hl hd w).1 (dZ hl hd w).2⟩
 | [.str z],hg =>
  obtain ⟨c,rfl⟩:=cJ hg;obtain ⟨v,rfl,o⟩:=oa.one;exact .inr ⟨z,by rw [show v=.str z from o],c,fun l hl=>k _ _ _ (dZ (K:=K) hl hd qy).1 (dZ hl hd qy).2⟩
def jP:List D->Option D
 | [.list ts]=>some (.tuple ts)
 | [.tuple ts]=>some (.tuple ts)
 | _=>none
def fV (hK:X.K=K):CallR X (.type "tuple") (rFn K jP 0):=(Hz hK).imp fun xs H Q ⟨O,as,t,oa,hd,hg,k⟩=>by
 match as,hg with
 | [.list ts],hg =>
  cases hg;obtain ⟨v,rfl,o⟩:=oa.one;obtain ⟨a,vs,rfl,fz,w⟩:=o.lst0;exact ⟨a,vs,rfl,.inl ⟨fz.sq,fun l hl=>k _ _ _ (lM hl hd w).1 (lM hl hd w).2⟩⟩
 | [.tuple ts],hg =>
  cases hg;obtain ⟨v,rfl,o⟩:=oa.one;obtain ⟨a,vs,rfl,fz,w⟩:=o.tup0;exact ⟨a,vs,rfl,.inr ⟨fz.sq,k _ H NoA .refl (by rw [gP]; exact o)⟩⟩
def ip:List D->Option (List Bool)
 | []=>some []
 | .bool b :: r=>(ip r).map (b :: ·)
 | _ :: _=>none
def pr:∀ {ts:List D} {vs:List V} {bs:List Bool},Ows K O H ts 0 vs NoA->ip ts=some bs->vs=bs.map V.bl
 | [],_,_,h,hb=>by cases hb; exact h
 | .bool b :: r,_,_,h,hb=>by
  obtain ⟨v,w,F1,F2,e,_,_,_,h4,h5⟩:=h;obtain ⟨bs',h6,h7⟩:=zab.mp hb;subst e h7;rw [show v=.bl b from h4,pr (Ows.any0 r h5) h6];rfl
 | .none :: _,_,_,_,hb=>by cases hb
 | .int _ :: _,_,_,_,hb=>by cases hb
 | .str _ :: _,_,_,_,hb=>by cases hb
 | .list _ :: _,_,_,_,hb=>by cases hb
 | .tuple _ :: _,_,_,_,hb=>by cases hb
 | .dict _ :: _,_,_,_,hb=>by cases hb
def gO:List D->Option D
 | [.list ts]=>(ip ts).map fun bs=>.bool (bs.all id)
 | _=>none
def iE (hK:X.K=K) (hc:X.calm=true):CallR X (.builtin "all") (rFn K gO 3):=(Kd hK hc).imp fun xs H Q ⟨O,as,t,oa,hd,hg,k⟩=>by
 match as,hg with
 | [.list ts],hg =>
  obtain ⟨bs,h1,rfl⟩:=zab.mp hg;obtain ⟨v,rfl,o⟩:=oa.one;obtain ⟨a,vs,rfl,fz,w⟩:=o.lst0;have e:=pr w h1;subst e;exact ⟨a,bs,rfl,fz.sq,k _ H NoA .refl rfl⟩
def tyN:D->String
 | .none=>"NoneType" | .bool _=>"bool" | .int _=>"int" | .str _=>"str" | .list _=>"list" | .tuple _=>"tuple" | .dict _=>"dict"
def ax (n T:String):Bool:=n == T || (n == "bool" && T == "int")
def oN {T:String} (hT:T∈["int", "bool", "str", "list", "tuple", "dict"]) (a:D):PySem.W.kitOne K (.type (tyN a)) (.type T)=some (ax (tyN a) T):=by
 simp only [zay,zap,or_false] at hT;rcases hT with rfl | rfl | rfl | rfl | rfl | rfl <;> cases a <;> rfl
def isX:D->Bool
 | .dict [(.none,.str _)]=>true
 | _=>false
def Jj (K:PySem.W.Frag):List V->Hp->VK->Prop:=fun xs H Q=>∃ x T,∃ (O:AS) (a:D),xs=[x,.ty T]/\Ow K O H a 0 x NoA/\isX a=false/\T∈["int", "bool", "str", "list", "tuple", "dict"]/\Q (.bl (ax (tyN a) T)) H
def vR:CallR X (.builtin "isinstance") (Jj X.K):=by
 intro pins s σ H xs us Q I r h;obtain ⟨x,T,O,a,rfl,oa,hX,hT,q⟩:=h;have base:∀ ty,TyOf X.K H x (.type ty)->tyN a=ty->wpAny (model X.prog X.w) X.A (call (.builtin "isinstance") us) (EP X pins σ Q) X.xe s:=fun ty h1 h2=>by
  refine xv pins s σ H _ us Q I r ⟨x,.type ty,T,ax (tyN a) T,rfl,h1,?_,q⟩;rw [<- h2];exact oN hT a
 cases a with
 | none=>exact base _ (by rw [show x=.non from oa]; exact .non) rfl
 | bool b=>exact base _ (by rw [show x=.bl b from oa]; exact .bl b) rfl
 | int b=>exact base _ (by rw [show x=.int b from oa]; exact .int b) rfl
 | str b=>exact base _ (by rw [show x=.str b from oa]; exact .str b) rfl
 | tuple ts =>
  obtain ⟨p,vs,rfl,fz,w⟩:=oa.tup0;exact base _ (.tup fz.1) rfl
 | dict ts =>
  obtain ⟨p,vs,rfl,⟨_,h1,_⟩ | ⟨_,h1,_⟩ | ⟨_,⟨kk,b,_,h1,_⟩ | ⟨cn,C,h0,_⟩⟩⟩:=oa
  ·exact base _ (.dK h1) rfl
  ·exact base _ (.dK h1) rfl
  ·exact base _ (.dT h1) rfl
  ·subst h0; cases hX
 | list ts =>
  obtain ⟨p,vs,rfl,fz,w⟩:=oa.lst0;obtain ⟨u,u2,rfl,r1,r2⟩:=r.two;cases r1;cases r2;obtain ⟨its,rv,pl,_⟩:=I.list fz.sq;have e:=oN (K:=X.K) hT (.list ts);obtain ⟨o,n,h1,h2,_⟩:=pl;exact PySem.W.kia_one PySem.W.kitx_list I.kIn ⟨o,h1,h2⟩ e (fun z=>nomatch z) fun tk=>⟨.bl _,H,I.tok tk,rfl,q⟩
end
def ay (T:String):D->Option D:=fun a=>if isX a=true then none else some (.bool (ax (tyN a) T))
section
variable {X:Cx} {K:PySem.W.Frag} {p:Bool} {ds ds1:List Nat} {d1:Nat} {e:Expr} {f:ME}
def ID {T:Str} {n:String} {px pt pos:Pos} (hK:X.K=K) (hg:Gl X "isinstance") (hm:X.mg "isinstance"=none) (hgT:Gl X T) (hmT:X.mg T=none) (hbT:bootBuiltins T=some (.type n)) (hT:n∈["int", "bool", "str", "list", "tuple", "dict"]) (he:PE X e (tF K p ds ds1 d1 f))
  (hnT:T≠"__name__") (hdT:(T == ("__debug__" : Str))=false)
  (hs1:starEach [e,.Name T pt] X.env=(false,eval e X.env) :: starEach [.Name T pt] X.env) (hs2:starEach [.Name T pt] X.env=(false,eval (.Name T pt) X.env) :: starEach [] X.env) (hpl:(backTo pos (starEach [.Name T pt] X.env)).any (·.1)=false) :
  PE X (.Call (.Name "isinstance" px) [e,.Name T pt] [] pos) (tF K p ds ds1 3 (e1 (ay n) f)):=by
 subst hK;refine (jV vR hg hm boot_isinstance (cy he (cy (oE (v:=.ty n) hgT hmT hbT rfl hnT hdT) pa_nil hs2) hs1) (by decide) (by decide) hs1 hpl).imp fun σ H Q h=>?_;obtain ⟨Ox,en,R,t,en',e,hf,k⟩:=h;unfold e1 at hf;obtain ⟨⟨t1,en1⟩,h1,hf⟩:=zaa.mp hf;obtain ⟨t',h3,hf⟩:=zab.mp hf;cases hf;unfold ay at h3;by_cases hX:isX t1=true
 ·rw [if_pos hX] at h3; cases h3
 rw [if_neg hX] at h3;cases h3;refine ⟨Ox,en,R,t1,en1,e,h1,fun v H' R' F P o=>?_⟩;exact ⟨v,n,Own R' Ox,t1,rfl,Ow.letgo P (fun _ z=>z) o,Bool.eq_false_iff.mpr hX,hT,k _ H' R' NoA (P.less fun _ z=>z.elim) rfl⟩
end
mutual
def peq:D->D->Bool
 | .none,.none=>true
 | .bool a,.bool b=>a == b
 | .bool a,.int b=>(if a then (1:Int) else 0) == b
 | .int a,.bool b=>a == (if b then (1:Int) else 0)
 | .int a,.int b=>a == b
 | .str a,.str b=>a == b
 | .list a,.list b=>dP a b
 | .tuple a,.tuple b=>dP a b
 | _,_=>false
def dP:List D->List D->Bool
 | [],[]=>true
 | a :: r,b :: s=>peq a b && dP r s
 | _,_=>false
end
mutual
def az:D->Bool
 | .dict _=>false
 | .list ts=>ba ts
 | .tuple ts=>ba ts
 | _=>true
def ba:List D->Bool
 | []=>true
 | t :: r=>az t && ba r
end
mutual
theorem mC:∀ a:D,az a=true->peq a a=true
 | .none,_=>rfl
 | .bool b,_=>by cases b <;> rfl
 | .int i,_=>by simp [peq]
 | .str i,_=>by simp [peq]
 | .list ts,h=>by simp only [peq]; exact kQ ts (by simpa [az] using h)
 | .tuple ts,h=>by simp only [peq]; exact kQ ts (by simpa [az] using h)
 | .dict _,h=>by simp [az] at h
theorem kQ:∀ a:List D,ba a=true->dP a a=true
 | [],_=>rfl
 | t :: r,h=>by
  have h':az t=true/\ba r=true:=by simpa [ba] using h
  simp only [dP,mC t h'.1,kQ r h'.2,Bool.and_self]
end
mutual
def fY:D->Nat
 | .list ts=>fG ts+1
 | .tuple ts=>fG ts+1
 | _=>0
def fG:List D->Nat
 | []=>0
 | t :: r=>max (fY t) (fG r)
end
def ld:∀ {ts:List D} {i:Nat} {t:D},ts[i]?=some t->fY t<=fG ts
 | [],_,_,h=>by simp at h
 | u :: r,i,t,h=>by
  simp only [fG];cases i with
  | zero=>simp at h; subst h; exact Nat.le_max_left _ _
  | succ i=>exact zau (ld (by simpa using h)) (Nat.le_max_right _ _)
def eL:∀ {ts:List D} {i:Nat} {t:D},ba ts=true->ts[i]?=some t->az t=true
 | [],_,_,_,h=>by simp at h
 | u :: r,i,t,hn,h=>by
  have h':az u=true/\ba r=true:=by simpa [ba] using hn
  cases i with
  | zero=>simp at h; subst h; exact h'.1
  | succ i=>exact eL h'.2 (by simpa using h)
def mz:∀ {a b:List D},a.length≠b.length->dP a b=false
 | [],[],h=>absurd rfl h
 | [],_ :: _,_=>rfl
 | _ :: _,[],_=>rfl
 | a :: r,b :: s,h=>by
  simp only [dP,mz (a:=r) (b:=s) (fun z=>h (by rw [zac,zac,z])),Bool.and_false]
def eAt (a b:List D) (j:Nat):Bool:=match a[j]?,b[j]? with
 | some x,some y=>peq x y
 | _,_=>true
def o9 (n:Nat) (f:Nat->Bool):(List.range (n+1)).all f=(f 0 && (List.range n).all fun j=>f (j+1)):=by
 rw [List.range_succ_eq_map,List.all_cons,List.all_map];rfl
def mB:∀ {a b:List D},a.length=b.length->(List.range a.length).all (eAt a b)=dP a b
 | [],[],_=>rfl
 | a :: r,b :: s,h=>by
  rw [zac,o9];have e:(List.range r.length).all (fun j=>eAt (a :: r) (b :: s) (j+1))=(List.range r.length).all (eAt r s):=by
   congr 1
  rw [e,mB (by simpa using h)];rfl
 | [],_ :: _,h=>by simp at h
 | _ :: _,[],h=>by simp at h
section
open PySem.SeqAt
variable {X:Cx} {pins:List (Addr × Obj)} {σ:St} {H:Hp} {s:Shared} {O:AS}
def C5 {p:Addr} {vs ws:List V} (I:Inv X pins σ H s) (h:SqL X.K H p vs) (g:SqT X.K H p ws):False:=by
 obtain ⟨its,_,p1,_⟩:=I.list h;obtain ⟨its2,_,p2,_⟩:=I.tuple g;exact ne_of_list_tuple p1.isList (show s.heap.IsTuple p its2.toArray from p2) rfl
def Ho {p:Addr} {vs:List V} {ks:List (List Key × V)} (I:Inv X pins σ H s) (h:SqL X.K H p vs) (g:H p=some (.dT ks)):False:=by
 obtain ⟨its,_,⟨o,n,e1,e2,_⟩,_⟩:=I.list h;obtain ⟨_,_,_,_,o',_,_,g1,g2,_⟩:=ug I.hok g;rw [e1] at g1;cases g1;rw [g2.1] at e2;simp at e2
def Js {p:Addr} {vs:List V} {ks:List (Key × V)} (I:Inv X pins σ H s) (h:SqL X.K H p vs) (g:H p=some (.dK ks)):False:=by
 obtain ⟨its,_,⟨o,n,e1,e2,_⟩,_⟩:=I.list h;obtain ⟨_,_,_,_,o',_,_,g1,g2,_⟩:=nP I.hok g;rw [e1] at g1;cases g1;rw [g2.1] at e2;simp at e2
mutual
theorem Ow.inj (I:Inv X pins σ H s):∀ (a b:D) {x:V},Ow X.K O H a 0 x NoA->Ow X.K O H b 0 x NoA->az a=true->a=b
 | .none,b,_,h,g,_=>by
  cases (show _=_ from h);cases b with
  | none=>rfl
  | list ts=>obtain ⟨_,_,z,_⟩:=g; cases z
  | tuple ts=>obtain ⟨_,_,z,_⟩:=g; cases z
  | dict ts=>obtain ⟨_,_,z,_⟩:=g; cases z
  | bool c=>cases (show V.non=V.bl c from g)
  | int c=>cases (show V.non=V.int c from g)
  | str c=>cases (show V.non=V.str c from g)
 | .bool c,b,_,h,g,_=>by
  cases (show _=_ from h);cases b with
  | none=>cases (show V.bl c=V.non from g)
  | list ts=>obtain ⟨_,_,z,_⟩:=g; cases z
  | tuple ts=>obtain ⟨_,_,z,_⟩:=g; cases z
  | dict ts=>obtain ⟨_,_,z,_⟩:=g; cases z
  | bool c'=>cases (show V.bl c=V.bl c' from g); rfl
  | int c'=>cases (show V.bl c=V.int c' from g)
  | str c'=>cases (show V.bl c=V.str c' from g)
 | .int c,b,_,h,g,_=>by
  cases (show _=_ from h);cases b with
  | none=>cases (show V.int c=V.non from g)
  | list ts=>obtain ⟨_,_,z,_⟩:=g; cases z
  | tuple ts=>obtain ⟨_,_,z,_⟩:=g; cases z
  | dict ts=>obtain ⟨_,_,z,_⟩:=g; cases z
  | bool c'=>cases (show V.int c=V.bl c' from g)
  | int c'=>cases (show V.int c=V.int c' from g); rfl
  | str c'=>cases (show V.int c=V.str c' from g)
 | .str c,b,_,h,g,_=>by
  cases (show _=_ from h);cases b with
  | none=>cases (show V.str c=V.non from g)
  | list ts=>obtain ⟨_,_,z,_⟩:=g; cases z
  | tuple ts=>obtain ⟨_,_,z,_⟩:=g; cases z
  | dict ts=>obtain ⟨_,_,z,_⟩:=g; cases z
  | bool c'=>cases (show V.str c=V.bl c' from g)
  | int c'=>cases (show V.str c=V.int c' from g)
  | str c'=>cases (show V.str c=V.str c' from g); rfl
 | .list ts,b,_,h,g,hn=>by
  obtain ⟨p,vs,rfl,fz,w⟩:=h.lst0;cases b with
  | none=>cases (show V.ref p=V.non from g)
  | bool c'=>cases (show V.ref p=V.bl c' from g)
  | int c'=>cases (show V.ref p=V.int c' from g)
  | str c'=>cases (show V.ref p=V.str c' from g)
  | list us =>
   obtain ⟨p',vs',e,fz',w'⟩:=g.lst0;cases e
   have:=I.list_inj fz.sq fz'.sq;subst this;rw [Ows.inj I ts us w w' (by simpa [az] using hn)]
  | tuple us =>
   obtain ⟨p',vs',e,fz',w'⟩:=g.tup0;cases e;exact (C5 I fz.sq fz'.sq).elim
  | dict us =>
   obtain ⟨p',vs',e,⟨_,g1,_⟩ | ⟨z,_⟩ | ⟨_,⟨_,_,_,g1,_⟩ | ⟨_,C,_,_,g1,_⟩⟩⟩:=g
   ·cases e;exact (Js I fz.sq g1).elim
   ·exact absurd rfl z
   ·cases e;exact (Ho I fz.sq g1).elim
   ·cases e;obtain ⟨its,rv,⟨o,n,e1,e2,_⟩,_⟩:=I.list fz.sq;obtain ⟨⟨o',x1,x2,_⟩,_⟩:=(show ObjOk X.prog X.w H s.heap p (.ext (IQ p C)) from I.hok p _ g1);rw [e1] at x1;cases x1;rw [e2] at x2;cases x2
 | .tuple ts,b,_,h,g,hn=>by
  obtain ⟨p,vs,rfl,fz,w⟩:=h.tup0;cases b with
  | none=>cases (show V.ref p=V.non from g)
  | bool c'=>cases (show V.ref p=V.bl c' from g)
  | int c'=>cases (show V.ref p=V.int c' from g)
  | str c'=>cases (show V.ref p=V.str c' from g)
  | tuple us =>
   obtain ⟨p',vs',e,fz',w'⟩:=g.tup0;cases e
   have:=fz.1.symm.trans fz'.1;cases this;rw [Ows.inj I ts us w w' (by simpa [az] using hn)]
  | list us =>
   obtain ⟨p',vs',e,fz',w'⟩:=g.lst0;cases e;exact (C5 I fz'.sq fz.sq).elim
  | dict us =>
   obtain ⟨p',vs',e,⟨_,g1,_⟩ | ⟨z,_⟩ | ⟨_,⟨_,_,_,g1,_⟩ | ⟨_,C,_,_,g1,_⟩⟩⟩:=g
   ·cases e;rw [fz.1] at g1;cases g1
   ·exact absurd rfl z
   ·cases e;rw [fz.1] at g1;cases g1
   ·cases e;rw [fz.1] at g1;cases g1
 | .dict _,_,_,_,_,hn=>by simp [az] at hn
theorem Ows.inj (I:Inv X pins σ H s):∀ (a b:List D) {x:List V},Ows X.K O H a 0 x NoA->Ows X.K O H b 0 x NoA->ba a=true->a=b
 | [],b,_,h,g,_=>by
  cases (show _=_ from h);cases b with
  | nil=>rfl
  | cons u us=>obtain ⟨_,_,_,_,e,_⟩:=g; cases e
 | t :: ts,b,_,h,g,hn=>by
  obtain ⟨v,r,F1,F2,e,_,_,_,h4,h5⟩:=h;subst e;have hn':az t=true/\ba ts=true:=by simpa [ba] using hn
  cases b with
  | nil=>cases (show v :: r=[] from g)
  | cons u us =>
   obtain ⟨v',r',G1,G2,e,_,_,_,g4,g5⟩:=g;cases e;rw [Ow.inj I t u (Ow.any0 t h4) (Ow.any0 u g4) hn'.1,Ows.inj I ts us (Ows.any0 ts h5) (Ows.any0 us g5) hn'.2]
end
def qX {A:Around} {ts us:List D} {vs ws:List V} {its its2:List Value} (w:Ows X.K O H ts 0 vs NoA) (w2:Ows X.K O H us 0 ws NoA) (rv:Vals vs its) (rv2:Vals ws its2)
  (ih:∀ (j:Nat) a b x y v u,ts[j]?=some a->us[j]?=some b->Ow X.K O H a 0 x NoA->Ow X.K O H b 0 y NoA->RelV x v->RelV y u->EqAt A s v u (peq a b)) :
  ∀ j (h1:j < its.toArray.size) (h2:j < its2.toArray.size),EqAt A s its.toArray[j] its2.toArray[j] (eAt ts us j):=fun j h1 h2=>by
 have h1':j < its.length:=by simpa using h1
 have h2':j < its2.length:=by simpa using h2
 have l1:=rv.length;have l2:=rv2.length;have m1:=w.len;have m2:=w2.len;have e1:ts[j]?=some ts[j]:=zak (by omega);have e2:us[j]?=some us[j]:=zak (by omega);obtain ⟨x,g1,o1⟩:=w.get e1;obtain ⟨y,g2,o2⟩:=w2.get e2;obtain ⟨u1,f1,q1⟩:=rv.get g1;obtain ⟨u2,f2,q2⟩:=rv2.get g2;have z:=ih j _ _ x y u1 u2 e1 e2 o1 o2 q1 q2;rw [zak h1'] at f1;rw [zak h2'] at f2;have i1:its.toArray[j]=u1:=by simpa using zat f1
 have i2:its2.toArray[j]=u2:=by simpa using zat f2
 rw [i1,i2];unfold eAt;rw [e1,e2];exact z
def Dl (I:Inv X pins σ H s):∀ (n:Nat) (a b:D) (A:Around) (x y:V) (v u:Value),fY a<=n->az a=true->az b=true->Ow X.K O H a 0 x NoA->Ow X.K O H b 0 y NoA->RelV x v->RelV y u->A.units+n+1 < cLine ->
  EqAt A s v u (peq a b)/\RcAt A s v u (peq a b)/\RcNeAt A s v u (!peq a b):=by
 intro n
 induction n with
 | zero =>
  intro a b A x y v u hdp hna hnb o1 o2 r1 r2 hun;have hu:A.units < cLine:=by omega
  cases a with
  | none =>
   cases b with
   | none =>
    cases (show x=V.non from o1);cases r1;cases (show y=V.non from o2);cases r2;exact ⟨EqAt.same _,RcAt.none_none,RcNeAt.none_none⟩
   | bool c2 =>
    cases (show x=V.non from o1);cases r1;cases (show y=V.bl c2 from o2);cases r2;exact ⟨EqAt.none_bool _,RcAt.none_bool _,RcNeAt.none_bool _⟩
   | int c2 =>
    cases (show x=V.non from o1);cases r1;cases (show y=V.int c2 from o2);obtain ⟨tk2,rfl⟩:=r2;exact ⟨EqAt.none_int _ _,RcAt.none_int _ _,RcNeAt.none_int _ _⟩
   | str c2 =>
    cases (show x=V.non from o1);cases r1;cases (show y=V.str c2 from o2);obtain ⟨tk2,rfl⟩:=r2;exact ⟨EqAt.none_str _ _,RcAt.none_str _ _,RcNeAt.none_str _ _⟩
   | list c2 =>
    cases (show x=V.non from o1);cases r1;obtain ⟨p2,vs2,rfl,fz2,w2⟩:=o2.lst0;cases r2;obtain ⟨its2,rv2,pl2,_⟩:=I.list fz2.sq;have hl2:=pl2.isList;exact ⟨EqAt.none_list  hl2 hu,RcAt.none_list  hl2 hu,RcNeAt.none_list  hl2 hu⟩
   | tuple c2 =>
    cases (show x=V.non from o1);cases r1;obtain ⟨p2,vs2,rfl,fz2,w2⟩:=o2.tup0;cases r2;obtain ⟨its2,rv2,pl2,_⟩:=I.tuple fz2.sq;have hl2:s.heap.IsTuple p2 its2.toArray:=pl2;exact ⟨EqAt.none_tuple  hl2 hu,RcAt.none_tuple  hl2 hu,RcNeAt.none_tuple  hl2 hu⟩
   | dict c2=>simp [az] at hnb
  | bool c1 =>
   cases b with
   | none =>
    cases (show x=V.bl c1 from o1);cases r1;cases (show y=V.non from o2);cases r2;exact ⟨EqAt.bool_none _,RcAt.bool_none _,RcNeAt.bool_none _⟩
   | bool c2 =>
    cases (show x=V.bl c1 from o1);cases r1;cases (show y=V.bl c2 from o2);cases r2;exact ⟨EqAt.bool_bool _ _,RcAt.bool_bool _ _,RcNeAt.bool_bool _ _⟩
   | int c2 =>
    cases (show x=V.bl c1 from o1);cases r1;cases (show y=V.int c2 from o2);obtain ⟨tk2,rfl⟩:=r2;exact ⟨EqAt.bool_int _ _ _,RcAt.bool_int _ _ _,RcNeAt.bool_int _ _ _⟩
   | str c2 =>
    cases (show x=V.bl c1 from o1);cases r1;cases (show y=V.str c2 from o2);obtain ⟨tk2,rfl⟩:=r2;exact ⟨EqAt.bool_str _ _ _,RcAt.bool_str _ _ _,RcNeAt.bool_str _ _ _⟩
   | list c2 =>
    cases (show x=V.bl c1 from o1);cases r1;obtain ⟨p2,vs2,rfl,fz2,w2⟩:=o2.lst0;cases r2;obtain ⟨its2,rv2,pl2,_⟩:=I.list fz2.sq;have hl2:=pl2.isList;exact ⟨EqAt.bool_list _ hl2 hu,RcAt.bool_list _ hl2 hu,RcNeAt.bool_list _ hl2 hu⟩
   | tuple c2 =>
    cases (show x=V.bl c1 from o1);cases r1;obtain ⟨p2,vs2,rfl,fz2,w2⟩:=o2.tup0;cases r2;obtain ⟨its2,rv2,pl2,_⟩:=I.tuple fz2.sq;have hl2:s.heap.IsTuple p2 its2.toArray:=pl2;exact ⟨EqAt.bool_tuple _ hl2 hu,RcAt.bool_tuple _ hl2 hu,RcNeAt.bool_tuple _ hl2 hu⟩
   | dict c2=>simp [az] at hnb
  | int c1 =>
   cases b with
   | none =>
    cases (show x=V.int c1 from o1);obtain ⟨tk1,rfl⟩:=r1;cases (show y=V.non from o2);cases r2;exact ⟨EqAt.int_none _ _,RcAt.int_none _ _,RcNeAt.int_none _ _⟩
   | bool c2 =>
    cases (show x=V.int c1 from o1);obtain ⟨tk1,rfl⟩:=r1;cases (show y=V.bl c2 from o2);cases r2;exact ⟨EqAt.int_bool _ _ _,RcAt.int_bool _ _ _,RcNeAt.int_bool _ _ _⟩
   | int c2 =>
    cases (show x=V.int c1 from o1);obtain ⟨tk1,rfl⟩:=r1;cases (show y=V.int c2 from o2);obtain ⟨tk2,rfl⟩:=r2;exact ⟨EqAt.int_int _ _ _ _,RcAt.int_int _ _ _ _,RcNeAt.int_int _ _ _ _⟩
   | str c2 =>
    cases (show x=V.int c1 from o1);obtain ⟨tk1,rfl⟩:=r1;cases (show y=V.str c2 from o2);obtain ⟨tk2,rfl⟩:=r2;exact ⟨EqAt.int_str _ _ _ _,RcAt.int_str _ _ _ _,RcNeAt.int_str _ _ _ _⟩
   | list c2 =>
    cases (show x=V.int c1 from o1);obtain ⟨tk1,rfl⟩:=r1;obtain ⟨p2,vs2,rfl,fz2,w2⟩:=o2.lst0;cases r2;obtain ⟨its2,rv2,pl2,_⟩:=I.list fz2.sq;have hl2:=pl2.isList;exact ⟨EqAt.int_list _ _ hl2 hu,RcAt.int_list _ _ hl2 hu,RcNeAt.int_list _ _ hl2 hu⟩
   | tuple c2 =>
    cases (show x=V.int c1 from o1);obtain ⟨tk1,rfl⟩:=r1;obtain ⟨p2,vs2,rfl,fz2,w2⟩:=o2.tup0;cases r2;obtain ⟨its2,rv2,pl2,_⟩:=I.tuple fz2.sq;have hl2:s.heap.IsTuple p2 its2.toArray:=pl2;exact ⟨EqAt.int_tuple _ _ hl2 hu,RcAt.int_tuple _ _ hl2 hu,RcNeAt.int_tuple _ _ hl2 hu⟩
   | dict c2=>simp [az] at hnb
  | str c1 =>
   cases b with
   | none =>
    cases (show x=V.str c1 from o1);obtain ⟨tk1,rfl⟩:=r1;cases (show y=V.non from o2);cases r2;exact ⟨EqAt.str_none _ _,RcAt.str_none _ _,RcNeAt.str_none _ _⟩
   | bool c2 =>
    cases (show x=V.str c1 from o1);obtain ⟨tk1,rfl⟩:=r1;cases (show y=V.bl c2 from o2);cases r2;exact ⟨EqAt.str_bool _ _ _,RcAt.str_bool _ _ _,RcNeAt.str_bool _ _ _⟩
   | int c2 =>
    cases (show x=V.str c1 from o1);obtain ⟨tk1,rfl⟩:=r1;cases (show y=V.int c2 from o2);obtain ⟨tk2,rfl⟩:=r2;exact ⟨EqAt.str_int _ _ _ _,RcAt.str_int _ _ _ _,RcNeAt.str_int _ _ _ _⟩
   | str c2 =>
    cases (show x=V.str c1 from o1);obtain ⟨tk1,rfl⟩:=r1;cases (show y=V.str c2 from o2);obtain ⟨tk2,rfl⟩:=r2;exact ⟨EqAt.str_str _ _ _ _,RcAt.str_str _ _ _ _,RcNeAt.str_str _ _ _ _⟩
   | list c2 =>
    cases (show x=V.str c1 from o1);obtain ⟨tk1,rfl⟩:=r1;obtain ⟨p2,vs2,rfl,fz2,w2⟩:=o2.lst0;cases r2;obtain ⟨its2,rv2,pl2,_⟩:=I.list fz2.sq;have hl2:=pl2.isList;exact ⟨EqAt.str_list _ _ hl2 hu,RcAt.str_list _ _ hl2 hu,RcNeAt.str_list _ _ hl2 hu⟩
   | tuple c2 =>
    cases (show x=V.str c1 from o1);obtain ⟨tk1,rfl⟩:=r1;obtain ⟨p2,vs2,rfl,fz2,w2⟩:=o2.tup0;cases r2;obtain ⟨its2,rv2,pl2,_⟩:=I.tuple fz2.sq;have hl2:s.heap.IsTuple p2 its2.toArray:=pl2;exact ⟨EqAt.str_tuple _ _ hl2 hu,RcAt.str_tuple _ _ hl2 hu,RcNeAt.str_tuple _ _ hl2 hu⟩
   | dict c2=>simp [az] at hnb
  | list c1 =>
   simp only [fY] at hdp;omega
  | tuple c1 =>
   simp only [fY] at hdp;omega
  | dict c1=>simp [az] at hna
 | succ n ih =>
  intro a b A x y v u hdp hna hnb o1 o2 r1 r2 hun;have hu:A.units < cLine:=by omega
  have hu1:A.in1.units+n+1 < cLine:=by
   show A.units+1+n+1 < cLine;omega
  cases a with
  | none =>
   cases b with
   | none =>
    cases (show x=V.non from o1);cases r1;cases (show y=V.non from o2);cases r2;exact ⟨EqAt.same _,RcAt.none_none,RcNeAt.none_none⟩
   | bool c2 =>
    cases (show x=V.non from o1);cases r1;cases (show y=V.bl c2 from o2);cases r2;exact ⟨EqAt.none_bool _,RcAt.none_bool _,RcNeAt.none_bool _⟩
   | int c2 =>
    cases (show x=V.non from o1);cases r1;cases (show y=V.int c2 from o2);obtain ⟨tk2,rfl⟩:=r2;exact ⟨EqAt.none_int _ _,RcAt.none_int _ _,RcNeAt.none_int _ _⟩
   | str c2 =>
    cases (show x=V.non from o1);cases r1;cases (show y=V.str c2 from o2);obtain ⟨tk2,rfl⟩:=r2;exact ⟨EqAt.none_str _ _,RcAt.none_str _ _,RcNeAt.none_str _ _⟩
   | list c2 =>
    cases (show x=V.non from o1);cases r1;obtain ⟨p2,vs2,rfl,fz2,w2⟩:=o2.lst0;cases r2;obtain ⟨its2,rv2,pl2,_⟩:=I.list fz2.sq;have hl2:=pl2.isList;exact ⟨EqAt.none_list  hl2 hu,RcAt.none_list  hl2 hu,RcNeAt.none_list  hl2 hu⟩
   | tuple c2 =>
    cases (show x=V.non from o1);cases r1;obtain ⟨p2,vs2,rfl,fz2,w2⟩:=o2.tup0;cases r2;obtain ⟨its2,rv2,pl2,_⟩:=I.tuple fz2.sq;have hl2:s.heap.IsTuple p2 its2.toArray:=pl2;exact ⟨EqAt.none_tuple  hl2 hu,RcAt.none_tuple  hl2 hu,RcNeAt.none_tuple  hl2 hu⟩
   | dict c2=>simp [az] at hnb
  | bool c1 =>
   cases b with
   | none =>
    cases (show x=V.bl c1 from o1);cases r1;cases (show y=V.non from o2);cases r2;exact ⟨EqAt.bool_none _,RcAt.bool_none _,RcNeAt.bool_none _⟩
   | bool c2 =>
    cases (show x=V.bl c1 from o1);cases r1;cases (show y=V.bl c2 from o2);cases r2;exact ⟨EqAt.bool_bool _ _,RcAt.bool_bool _ _,RcNeAt.bool_bool _ _⟩
   | int c2 =>
    cases (show x=V.bl c1 from o1);cases r1;cases (show y=V.int c2 from o2);obtain ⟨tk2,rfl⟩:=r2;exact ⟨EqAt.bool_int _ _ _,RcAt.bool_int _ _ _,RcNeAt.bool_int _ _ _⟩
   | str c2 =>
    cases (show x=V.bl c1 from o1);cases r1;cases (show y=V.str c2 from o2);obtain ⟨tk2,rfl⟩:=r2;exact ⟨EqAt.bool_str _ _ _,RcAt.bool_str _ _ _,RcNeAt.bool_str _ _ _⟩
   | list c2 =>
    cases (show x=V.bl c1 from o1);cases r1;obtain ⟨p2,vs2,rfl,fz2,w2⟩:=o2.lst0;cases r2;obtain ⟨its2,rv2,pl2,_⟩:=I.list fz2.sq;have hl2:=pl2.isList;exact ⟨EqAt.bool_list _ hl2 hu,RcAt.bool_list _ hl2 hu,RcNeAt.bool_list _ hl2 hu⟩
   | tuple c2 =>
    cases (show x=V.bl c1 from o1);cases r1;obtain ⟨p2,vs2,rfl,fz2,w2⟩:=o2.tup0;cases r2;obtain ⟨its2,rv2,pl2,_⟩:=I.tuple fz2.sq;have hl2:s.heap.IsTuple p2 its2.toArray:=pl2;exact ⟨EqAt.bool_tuple _ hl2 hu,RcAt.bool_tuple _ hl2 hu,RcNeAt.bool_tuple _ hl2 hu⟩
   | dict c2=>simp [az] at hnb
  | int c1 =>
   cases b with
   | none =>
    cases (show x=V.int c1 from o1);obtain ⟨tk1,rfl⟩:=r1;cases (show y=V.non from o2);cases r2;exact ⟨EqAt.int_none _ _,RcAt.int_none _ _,RcNeAt.int_none _ _⟩
   | bool c2 =>
    cases (show x=V.int c1 from o1);obtain ⟨tk1,rfl⟩:=r1;cases (show y=V.bl c2 from o2);cases r2;exact ⟨EqAt.int_bool _ _ _,RcAt.int_bool _ _ _,RcNeAt.int_bool _ _ _⟩
   | int c2 =>
    cases (show x=V.int c1 from o1);obtain ⟨tk1,rfl⟩:=r1;cases (show y=V.int c2 from o2);obtain ⟨tk2,rfl⟩:=r2;exact ⟨EqAt.int_int _ _ _ _,RcAt.int_int _ _ _ _,RcNeAt.int_int _ _ _ _⟩
   | str c2 =>
    cases (show x=V.int c1 from o1);obtain ⟨tk1,rfl⟩:=r1;cases (show y=V.str c2 from o2);obtain ⟨tk2,rfl⟩:=r2;exact ⟨EqAt.int_str _ _ _ _,RcAt.int_str _ _ _ _,RcNeAt.int_str _ _ _ _⟩
   | list c2 =>
    cases (show x=V.int c1 from o1);obtain ⟨tk1,rfl⟩:=r1;obtain ⟨p2,vs2,rfl,fz2,w2⟩:=o2.lst0;cases r2;obtain ⟨its2,rv2,pl2,_⟩:=I.list fz2.sq;have hl2:=pl2.isList;exact ⟨EqAt.int_list _ _ hl2 hu,RcAt.int_list _ _ hl2 hu,RcNeAt.int_list _ _ hl2 hu⟩
   | tuple c2 =>
    cases (show x=V.int c1 from o1);obtain ⟨tk1,rfl⟩:=r1;obtain ⟨p2,vs2,rfl,fz2,w2⟩:=o2.tup0;cases r2;obtain ⟨its2,rv2,pl2,_⟩:=I.tuple fz2.sq;have hl2:s.heap.IsTuple p2 its2.toArray:=pl2;exact ⟨EqAt.int_tuple _ _ hl2 hu,RcAt.int_tuple _ _ hl2 hu,RcNeAt.int_tuple _ _ hl2 hu⟩
   | dict c2=>simp [az] at hnb
  | str c1 =>
   cases b with
   | none =>
    cases (show x=V.str c1 from o1);obtain ⟨tk1,rfl⟩:=r1;cases (show y=V.non from o2);cases r2;exact ⟨EqAt.str_none _ _,RcAt.str_none _ _,RcNeAt.str_none _ _⟩
   | bool c2 =>
    cases (show x=V.str c1 from o1);obtain ⟨tk1,rfl⟩:=r1;cases (show y=V.bl c2 from o2);cases r2;exact ⟨EqAt.str_bool _ _ _,RcAt.str_bool _ _ _,RcNeAt.str_bool _ _ _⟩
   | int c2 =>
    cases (show x=V.str c1 from o1);obtain ⟨tk1,rfl⟩:=r1;cases (show y=V.int c2 from o2);obtain ⟨tk2,rfl⟩:=r2;exact ⟨EqAt.str_int _ _ _ _,RcAt.str_int _ _ _ _,RcNeAt.str_int _ _ _ _⟩
   | str c2 =>
    cases (show x=V.str c1 from o1);obtain ⟨tk1,rfl⟩:=r1;cases (show y=V.str c2 from o2);obtain ⟨tk2,rfl⟩:=r2;exact ⟨EqAt.str_str _ _ _ _,RcAt.str_str _ _ _ _,RcNeAt.str_str _ _ _ _⟩
   | list c2 =>
    cases (show x=V.str c1 from o1);obtain ⟨tk1,rfl⟩:=r1;obtain ⟨p2,vs2,rfl,fz2,w2⟩:=o2.lst0;cases r2;obtain ⟨its2,rv2,pl2,_⟩:=I.list fz2.sq;have hl2:=pl2.isList;exact ⟨EqAt.str_list _ _ hl2 hu,RcAt.str_list _ _ hl2 hu,RcNeAt.str_list _ _ hl2 hu⟩
   | tuple c2 =>
    cases (show x=V.str c1 from o1);obtain ⟨tk1,rfl⟩:=r1;obtain ⟨p2,vs2,rfl,fz2,w2⟩:=o2.tup0;cases r2;obtain ⟨its2,rv2,pl2,_⟩:=I.tuple fz2.sq;have hl2:s.heap.IsTuple p2 its2.toArray:=pl2;exact ⟨EqAt.str_tuple _ _ hl2 hu,RcAt.str_tuple _ _ hl2 hu,RcNeAt.str_tuple _ _ hl2 hu⟩
   | dict c2=>simp [az] at hnb
  | list c1 =>
   cases b with
   | none =>
    obtain ⟨p1,vs1,rfl,fz1,w1⟩:=o1.lst0;cases r1;obtain ⟨its1,rv1,pl1,_⟩:=I.list fz1.sq;have hl1:=pl1.isList;cases (show y=V.non from o2);cases r2;exact ⟨EqAt.list_none  hl1 hu,RcAt.list_none  hl1 hu,RcNeAt.list_none  hl1 hu⟩
   | bool c2 =>
    obtain ⟨p1,vs1,rfl,fz1,w1⟩:=o1.lst0;cases r1;obtain ⟨its1,rv1,pl1,_⟩:=I.list fz1.sq;have hl1:=pl1.isList;cases (show y=V.bl c2 from o2);cases r2;exact ⟨EqAt.list_bool _ hl1 hu,RcAt.list_bool _ hl1 hu,RcNeAt.list_bool _ hl1 hu⟩
   | int c2 =>
    obtain ⟨p1,vs1,rfl,fz1,w1⟩:=o1.lst0;cases r1;obtain ⟨its1,rv1,pl1,_⟩:=I.list fz1.sq;have hl1:=pl1.isList;cases (show y=V.int c2 from o2);obtain ⟨tk2,rfl⟩:=r2;exact ⟨EqAt.list_int _ _ hl1 hu,RcAt.list_int _ _ hl1 hu,RcNeAt.list_int _ _ hl1 hu⟩
   | str c2 =>
    obtain ⟨p1,vs1,rfl,fz1,w1⟩:=o1.lst0;cases r1;obtain ⟨its1,rv1,pl1,_⟩:=I.list fz1.sq;have hl1:=pl1.isList;cases (show y=V.str c2 from o2);obtain ⟨tk2,rfl⟩:=r2;exact ⟨EqAt.list_str _ _ hl1 hu,RcAt.list_str _ _ hl1 hu,RcNeAt.list_str _ _ hl1 hu⟩
   | list c2 =>
    obtain ⟨p1,vs1,rfl,fz1,w1⟩:=o1.lst0;cases r1;obtain ⟨its1,rv1,pl1,_⟩:=I.list fz1.sq;have hl1:=pl1.isList;obtain ⟨p2,vs2,rfl,fz2,w2⟩:=o2.lst0;cases r2;obtain ⟨its2,rv2,pl2,_⟩:=I.list fz2.sq;have hl2:=pl2.isList;have dl:fG c1<=n:=by simp only [fY] at hdp; omega
    have nd1:ba c1=true:=by simpa [az] using hna
    have nd2:ba c2=true:=by simpa [az] using hnb
    have el:=qX (A:=A.in1) w1 w2 rv1 rv2 fun j a b x y v u e1 e2 q1 q2 q3 q4=>(ih a b A.in1 x y v u (zau (ld e1) dl) (eL nd1 e1) (eL nd2 e2) q1 q2 q3 q4 hu1).1;have l1:=rv1.length;have l2:=rv2.length;have m1:=w1.len;have m2:=w2.len;have rc:RcAt A s (.ref p1) (.ref p2) (dP c1 c2)/\RcNeAt A s (.ref p1) (.ref p2) (!dP c1 c2):=by
     by_cases hz:c1.length=c2.length
     ·have hs1:its1.toArray.size=its2.toArray.size:=by rw [zai,zai]; omega
      have hs2:its1.toArray.size=c1.length:=by rw [zai]; omega
      have z1:=RcAt.lists hl1 hl2 hs1 hu el;have z2:=RcNeAt.lists hl1 hl2 hs1 hu el;rw [hs2,mB hz] at z1 z2;exact ⟨z1,z2⟩
     ·have hs1:(its1.toArray.size != its2.toArray.size)=true:=by rw [zai,zai,bne_iff_ne]; omega
      rw [mz hz];exact ⟨RcAt.lists_lengths hl1 hl2 hs1 hu,RcNeAt.lists_lengths hl1 hl2 hs1 hu⟩
    have pe:peq (.list c1) (.list c2)=dP c1 c2:=by simp only [peq]
    refine ⟨?_,by rw [pe]; exact rc.1,by rw [pe]; exact rc.2⟩;by_cases hp:p1=p2
    ·subst hp
     have:=Ow.inj I _ _ o1 o2 hna;cases this;rw [mC _ hna];exact EqAt.same _
    ·rw [pe];exact EqAt.of_refs hp rc.1
   | tuple c2 =>
    obtain ⟨p1,vs1,rfl,fz1,w1⟩:=o1.lst0;cases r1;obtain ⟨its1,rv1,pl1,_⟩:=I.list fz1.sq;have hl1:=pl1.isList;obtain ⟨p2,vs2,rfl,fz2,w2⟩:=o2.tup0;cases r2;obtain ⟨its2,rv2,pl2,_⟩:=I.tuple fz2.sq;have hl2:s.heap.IsTuple p2 its2.toArray:=pl2;exact ⟨EqAt.list_tuple hl1 hl2 hu,RcAt.list_tuple hl1 hl2 hu,RcNeAt.list_tuple hl1 hl2 hu⟩
   | dict c2=>simp [az] at hnb
  | tuple c1 =>
   cases b with
   | none =>
    obtain ⟨p1,vs1,rfl,fz1,w1⟩:=o1.tup0;cases r1;obtain ⟨its1,rv1,pl1,_⟩:=I.tuple fz1.sq;have hl1:s.heap.IsTuple p1 its1.toArray:=pl1;cases (show y=V.non from o2);cases r2;exact ⟨EqAt.tuple_none  hl1 hu,RcAt.tuple_none  hl1 hu,RcNeAt.tuple_none  hl1 hu⟩
   | bool c2 =>
    obtain ⟨p1,vs1,rfl,fz1,w1⟩:=o1.tup0;cases r1;obtain ⟨its1,rv1,pl1,_⟩:=I.tuple fz1.sq;have hl1:s.heap.IsTuple p1 its1.toArray:=pl1;cases (show y=V.bl c2 from o2);cases r2;exact ⟨EqAt.tuple_bool _ hl1 hu,RcAt.tuple_bool _ hl1 hu,RcNeAt.tuple_bool _ hl1 hu⟩
   | int c2 =>
    obtain ⟨p1,vs1,rfl,fz1,w1⟩:=o1.tup0;cases r1;obtain ⟨its1,rv1,pl1,_⟩:=I.tuple fz1.sq;have hl1:s.heap.IsTuple p1 its1.toArray:=pl1;cases (show y=V.int c2 from o2);obtain ⟨tk2,rfl⟩:=r2;exact ⟨EqAt.tuple_int _ _ hl1 hu,RcAt.tuple_int _ _ hl1 hu,RcNeAt.tuple_int _ _ hl1 hu⟩
   | str c2 =>
    obtain ⟨p1,vs1,rfl,fz1,w1⟩:=o1.tup0;cases r1;obtain ⟨its1,rv1,pl1,_⟩:=I.tuple fz1.sq;have hl1:s.heap.IsTuple p1 its1.toArray:=pl1;cases (show y=V.str c2 from o2);obtain ⟨tk2,rfl⟩:=r2;exact ⟨EqAt.tuple_str _ _ hl1 hu,RcAt.tuple_str _ _ hl1 hu,RcNeAt.tuple_str _ _ hl1 hu⟩
   | list c2 =>
    obtain ⟨p1,vs1,rfl,fz1,w1⟩:=o1.tup0;cases r1;obtain ⟨its1,rv1,pl1,_⟩:=I.tuple fz1.sq;have hl1:s.heap.IsTuple p1 its1.toArray:=pl1;obtain ⟨p2,vs2,rfl,fz2,w2⟩:=o2.lst0;cases r2;obtain ⟨its2,rv2,pl2,_⟩:=I.list fz2.sq;have hl2:=pl2.isList;exact ⟨EqAt.tuple_list hl1 hl2 hu,RcAt.tuple_list hl1 hl2 hu,RcNeAt.tuple_list hl1 hl2 hu⟩
   | tuple c2 =>
    obtain ⟨p1,vs1,rfl,fz1,w1⟩:=o1.tup0;cases r1;obtain ⟨its1,rv1,pl1,_⟩:=I.tuple fz1.sq;have hl1:s.heap.IsTuple p1 its1.toArray:=pl1;obtain ⟨p2,vs2,rfl,fz2,w2⟩:=o2.tup0;cases r2;obtain ⟨its2,rv2,pl2,_⟩:=I.tuple fz2.sq;have hl2:s.heap.IsTuple p2 its2.toArray:=pl2;have dl:fG c1<=n:=by simp only [fY] at hdp; omega
    have nd1:ba c1=true:=by simpa [az] using hna
    have nd2:ba c2=true:=by simpa [az] using hnb
    have el:=qX (A:=A.in1) w1 w2 rv1 rv2 fun j a b x y v u e1 e2 q1 q2 q3 q4=>(ih a b A.in1 x y v u (zau (ld e1) dl) (eL nd1 e1) (eL nd2 e2) q1 q2 q3 q4 hu1).1;have l1:=rv1.length;have l2:=rv2.length;have m1:=w1.len;have m2:=w2.len;have rc:RcAt A s (.ref p1) (.ref p2) (dP c1 c2)/\RcNeAt A s (.ref p1) (.ref p2) (!dP c1 c2):=by
     have z1:=RcAt.tuples hl1 hl2 hu el;have z2:=RcNeAt.tuples hl1 hl2 hu el;have ez:((List.range (min its1.toArray.size its2.toArray.size)).all (eAt c1 c2) && its1.toArray.size == its2.toArray.size)=dP c1 c2:=by
      rw [zai,zai];by_cases hz:c1.length=c2.length
      ·have h3:its1.length=its2.length:=by omega
       have h4:min its1.length its2.length=c1.length:=by omega
       rw [h4,mB hz,h3,beq_self_eq_true,Bool.and_true]
      ·have h3:(its1.length == its2.length)=false:=by rw [beq_eq_false_iff_ne]; omega
       rw [h3,Bool.and_false,mz hz]
     rw [ez] at z1 z2;exact ⟨z1,z2⟩
    have pe:peq (.tuple c1) (.tuple c2)=dP c1 c2:=by simp only [peq]
    refine ⟨?_,by rw [pe]; exact rc.1,by rw [pe]; exact rc.2⟩;by_cases hp:p1=p2
    ·subst hp
     have:=Ow.inj I _ _ o1 o2 hna;cases this;rw [mC _ hna];exact EqAt.same _
    ·rw [pe];exact EqAt.of_refs hp rc.1
   | dict c2=>simp [az] at hnb
  | dict c1=>simp [az] at hna
end
def eqD (a b:D):Option D:=grd (az a=true/\az b=true/\fY a<=60) (.bool (peq a b))
def neD (a b:D):Option D:=grd (az a=true/\az b=true/\fY a<=60) (.bool (!peq a b))
section
variable {X:Cx} {K:PySem.W.Frag}
def gn (hK:X.K=K) (hu:X.A.units+64 < cLine):OpR X (compareOp .Eq) (rF2 K eqD 3):=by
 subst hK;intro pins s σ H x y v u Q I rx ry ⟨O,a,b,t,oa,ob,hd,hg,k⟩;obtain ⟨⟨c1,c2,c3⟩,rfl⟩:=cJ hg;exact (Dl I 60 a b X.A x y v u c3 c1 c2 oa ob rx ry (by omega)).2.1 X.prog X.w _ _ ⟨.bl _,H,I,rfl,k _ H NoA .refl rfl⟩
def Dk (hK:X.K=K) (hu:X.A.units+64 < cLine):OpR X (compareOp .NotEq) (rF2 K neD 3):=by
 subst hK;intro pins s σ H x y v u Q I rx ry ⟨O,a,b,t,oa,ob,hd,hg,k⟩;obtain ⟨⟨c1,c2,c3⟩,rfl⟩:=cJ hg;exact (Dl I 60 a b X.A x y v u c3 c1 c2 oa ob rx ry (by omega)).2.2 X.prog X.w _ _ ⟨.bl _,H,I,rfl,k _ H NoA .refl rfl⟩
end
def Ds {K:PySem.W.Frag} {dps:List Nat} {dr n:Nat} {F:List D->Option (D × En)} {vs:List V} {H:Hp} {Q:VK} {E:XK} (hn:dps.length=n) (h:spF K dps dr F vs H Q E):vs.length=n:=by
 obtain ⟨Ox,ts,R,r,outs,e,_⟩:=h
 have:=e.l2;rw [zad] at this;omega
section
variable {X:Cx} {K:PySem.W.Frag} {p:Bool} {J:Jd} {ds ds0 ds1 ds2 ds3 ds':List Nat} {d d' d1 d2 d3:Nat} {a b c e:Expr} {st:Stmt} {f f1 f2 f3:ME} {m:MS} {pos p2:Pos}
def Ea (h:PS X st (tFS K J ds ds2 m)) (hd:leD ds1 ds2=true):PS X st (tFS K J ds ds1 m):=h.imp fun _ _ _=>HV hd
def cG (g g':D->D->Option D) (f1 f2 f3:ME):ME:=fun en=>(f1 en).bind fun r=>(f2 r.2).bind fun q=>(g r.1 q.1).bind fun t=>match t with
 | .bool true=>(f3 q.2).bind fun z=>(g' q.1 z.1).map fun t=>(t,z.2)
 | .bool false=>some (.bool false,q.2)
 | _=>none
def sM {g g':D->D->Option D} {σ:St} {H:Hp} {Q:VK} (h:tF K p ds ds1 3 (cG g g' f1 f2 f3) σ H Q) :
  ql (rF2 K g 3) (rF2 K g' 3) (tF K p ds ds0 d1 f1) (tF K p ds0 ds1 d2 f2) (tF K p ds1 ds1 d3 f3) σ H Q:=by
 obtain ⟨Ox,en,R,t,en',e,hf,k⟩:=h;unfold cG at hf;obtain ⟨⟨t1,en1⟩,h1,hf⟩:=zaa.mp hf;obtain ⟨⟨t2,en2⟩,h2,hf⟩:=zaa.mp hf;obtain ⟨tb,h3,hf⟩:=zaa.mp hf;refine two (p1:=p) (p2:=p) e h1 h2 fun x y H2 R2 F1 F2 P o1 o2=>?_;rw [Bool.and_self] at P;have oy:=Ow.letgo P (fun _=>.inr) o2;refine ⟨Own R2 Ox,t1,t2,tb,Ow.letgo P (fun _=>.inl) o1,oy,P.doms,h3,fun v3 H3 F3 n3 o3=>?_⟩;have P3:=P.fin n3;cases tb with
 | bool bb =>
  refine ⟨bb,o3,?_⟩;cases bb with
  | false =>
   cases hf;exact k _ H3 R2 NoA (P3.less fun _ z=>z.elim) rfl
  | true =>
   obtain ⟨⟨t4,en4⟩,h4,hf⟩:=zaa.mp hf;obtain ⟨t5,h5,hf⟩:=zab.mp hf;cases hf;have P30:=P3.less (F':=NoA) fun _ z=>z.elim;refine ⟨Ox,en2,R2,t4,en4,P30.env0,h4,fun v4 H4 R4 F4 P4 o4=>?_⟩;have P34:=P30.after P4;rw [Bool.and_self] at P34;have oy3:Ow K (Own R2 Ox) H3 t2 0 y NoA:=Ow.mv (G:=NoA) ⟨fun a o q _=>n3.1 a o q,fun a z=>.inl z⟩ t2 (fun _ z=>z) oy;have oy4:Ow K (Own R4 Ox) H4 t2 0 y NoA:=by
    refine Ow.mv (G:=NoA) ⟨fun a o q z=>P4.keep a o q fun i zi=>?_,fun a z=>?_⟩ t2 (fun _ z=>z) oy3
    ·rcases z with z | z
     ·exact z (.inl ⟨i,zi⟩)
     ·exact z
    ·rcases z with z | z
     ·exact (P4.own a (.inr z)).imp .inl id
     ·exact .inl (.inr z)
   exact ⟨Own R4 Ox,t2,t4,_,oy4,Ow.letgo P4 (fun _ z=>z) o4,P4.doms,h5,fun v5 H5 F5 n5 o5=>k v5 H5 R4 F5 (P34.fin n5) (nX ▸ o5)⟩
 | _=>cases hf
def xn {op op':CmpOp} {g g':D->D->Option D} (ho:OpR X (compareOp op) (rF2 K g 3)) (ho':OpR X (compareOp op') (rF2 K g' 3)) (ha:PE X a (tF K p ds ds0 d1 f1)) (hb:PE X b (tF K p ds0 ds1 d2 f2)) (hc:PE X c (tF K p ds1 ds1 d3 f3))
  (hm:lastMarks [op,op'] [b,c]=false):PE X (.Compare a [op,op'] [b,c] pos) (tF K p ds ds1 3 (cG g g' f1 f2 f3)):=(wy ho ho' ha hb hc hm).imp fun _ _ _=>sM
def wW {op op':CmpOp} {g g':D->D->Option D} (ho:OpR X (compareOp op) (rF2 K g 3)) (ho':OpR X (compareOp op') (rF2 K g' 3)) (ha:PE X a (tF K p ds ds0 d1 f1)) (hb:PE X b (tF K p ds0 ds1 d2 f2)) (hc:PE X c (tF K p ds1 ds1 d3 f3))
  (hm:lastMarks [op,op'] [b,c]=false):PT X (.Compare a [op,op'] [b,c] pos) (tFT K p ds ds1 (tV (cG g g' f1 f2 f3))) :=
 (wn ho ho' ha hb hc hm).imp fun σ H Q h=>by
  obtain ⟨Ox,en,R,t,en',e,hf,k⟩:=rh (d:=3) h;exact sM ⟨Ox,en,R,t,en',e,hf,k⟩
abbrev MO:=En->Option (Option Int × En)
def tFO (K:PySem.W.Frag) (p:Bool) (ds ds':List Nat) (f:MO):TO:=fun σ H Q=>∃ Ox en R o en',EnvOk K ds Ox H σ en R/\f en=some (o,en')/\∀ H' R',Post K p ds' Ox σ H en R en' H' R' NoA->Q o H'
def fB:MO:=fun en=>some (none,en)
def eV (f:ME):MO:=fun en=>(f en).bind fun r=>match r.1 with
 | .int i=>some (some i,r.2)
 | _=>none
def PO.imp {X:Cx} {e:Option Expr} {t t':TO} (h:PO X e t) (hi:∀ σ H Q,t' σ H Q->t σ H Q):PO X e t':=fun pins s σ H Q I hw=>h pins s σ H Q I (hi _ _ _ hw)
def Ej:PO X none (tFO K p ds ds fB):=po_none.imp fun σ H Q ⟨Ox,en,R,o,en',e,hf,k⟩=>by
 cases hf;exact k H R (Post.refl e)
def Eh (h:PE X e (tF K p ds ds1 d f)):PO X (some e) (tFO K p ds ds1 (eV f)):=(DF h).imp fun σ H Q ⟨Ox,en,R,o,en',e,hf,k⟩=>by
 unfold eV at hf;obtain ⟨⟨t1,en1⟩,h1,hf⟩:=zaa.mp hf;refine ⟨Ox,en,R,t1,en1,e,h1,fun v H' R' F P o=>?_⟩;cases t1 with
 | int i=>cases hf; exact ⟨i,o,k H' R' (P.less fun _ z=>z.elim)⟩
 | _=>cases hf
def rFs (K:PySem.W.Frag) (g:D->Option Int->Option Int->Option D) (d:Nat):V->Option Int->Option Int->Hp->VK->Prop:=fun x lo hi H Q=>∃ (O:AS) (a t:D),Ow K O H a 0 x NoA/\(∀ a,O a->∃ o,H a=some o)/\g a lo hi=some t/\∀ v H' F,NewTo H H' F->Ow K (U F O) H' t d v F->Q v H'
def eSl (g:D->Option Int->Option Int->Option D) (f:ME) (lo hi:MO):ME:=fun en=>(f en).bind fun r=>(lo r.2).bind fun l=>(hi l.2).bind fun h=>(g r.1 l.1 h.1).map fun t=>(t,h.2)
variable {lo hi:MO}
def Ow.past0 {H1 H2:Hp} {R1 R2:Nat->AS} {Ox:AS} {σ:St} {en1 en2:En} {F2:AS} {t:D} {v:V} (P2:Post K p ds2 Ox σ H1 en1 R1 en2 H2 R2 F2) (h:Ow K (Own R1 Ox) H1 t 0 v NoA):Ow K (Own R2 Ox) H2 t 0 v NoA:=by
 refine Ow.mv (G:=NoA) ⟨fun a o q z=>P2.keep a o q fun i zi=>?_,fun a z=>?_⟩ t (fun _ z=>z) h
 ·rcases z with z | z
  ·exact z (.inl ⟨i,zi⟩)
  ·exact z
 ·rcases z with z | z
  ·exact (P2.own a (.inr z)).imp .inl id
  ·exact .inl (.inr z)
def Kf {g:D->Option Int->Option Int->Option D} {σ:St} {H:Hp} {Q:VK} (h:tF K p ds ds3 d (eSl g f lo hi) σ H Q):tSl (rFs K g d) (tF K p ds ds1 d1 f) (tFO K p ds1 ds2 lo) (tFO K p ds2 ds3 hi) σ H Q:=by
 obtain ⟨Ox,en,R,t,en',e,hf,k⟩:=h;unfold eSl at hf;obtain ⟨⟨t1,en1⟩,h1,hf⟩:=zaa.mp hf;obtain ⟨⟨l,en2⟩,h2,hf⟩:=zaa.mp hf;obtain ⟨⟨u,en3⟩,h3,hf⟩:=zaa.mp hf;obtain ⟨t',h4,hf⟩:=zab.mp hf;cases hf;refine ⟨Ox,en,R,t1,en1,e,h1,fun v H1 R1 F1 P1 o1=>?_⟩;have o0:=Ow.letgo P1 (fun _ z=>z) o1;refine ⟨Ox,en1,R1,l,en2,P1.env0,h2,fun H2 R2 P2=>?_⟩;refine ⟨Ox,en2,R2,u,en3,P2.env0,h3,fun H3 R3 P3=>?_⟩;have P:=(P1.after P2).after P3;rw [Bool.and_self,Bool.and_self] at P;exact ⟨Own R3 Ox,t1,t,(o0.past0 P2).past0 P3,P3.doms,h4,fun v4 H4 F4 n4 o4=>k v4 H4 R3 F4 (P.fin n4) (nX ▸ o4)⟩
def SlR.imp {r r':V->Option Int->Option Int->Hp->VK->Prop} (h:SlR X r) (hi:∀ x lo hi H Q,r' x lo hi H Q->r x lo hi H Q):SlR X r':=fun pins s σ H x v vl vu lo hi' sl Q I rx hs pl pu q=>h pins s σ H x v vl vu lo hi' sl Q I rx hs pl pu (hi _ _ _ _ _ q)
def xh {g:D->Option Int->Option Int->Option D} {elo ehi:Option Expr} (hr:SlR X (rFs K g d)) (he:PE X e (tF K p ds ds1 d1 f)) (hl:PO X elo (tFO K p ds1 ds2 lo)) (hu:PO X ehi (tFO K p ds2 ds3 hi)):PE X (.Subscript e (.Slice elo ehi none p2) pos) (tF K p ds ds3 d (eSl g f lo hi)) :=
 (ww hr he hl hu).imp fun _ _ _=>Kf
def du {α:Type} (xs:List α) (lo hi:Option Int):List α:=(xs.drop (HT.sIx xs.length 0 lo)).take (HT.sIx xs.length xs.length hi - HT.sIx xs.length 0 lo)
def kb:D->Option Int->Option Int->Option D
 | .list ts,lo,hi=>some (.list (du ts lo hi))
 | _,_,_=>none
def jG (hK:X.K=K):SlR X (rFs K kb 1):=(J9 hK).imp fun x lo hi H Q ⟨O,a,t,oa,hd,hg,k⟩=>by
 cases a with
 | list ts =>
  cases hg;obtain ⟨a,vs,e1,f1,w1⟩:=oa.lst0;refine ⟨a,vs,e1,f1.sq,fun p hp=>?_⟩;have w2:Ows K O H (du ts lo hi) 0 (ji vs lo hi) NoA:=by
   unfold du ji;rw [w1.len];exact (w1.drop _).take _
  exact k _ _ _ (dZ hp hd w2).1 (dZ hp hd w2).2
 | _=>cases hg
def KP:D->Option Int->Option Int->Option D
 | .str z,lo,hi=>grd (z.length<=sizeLine) (.str ⟨(Kl z.cps.toList lo hi).toArray⟩)
 | _,_,_=>none
end
def kEq:D->D->Bool
 | .int a,.int b=>a == b
 | .str a,.str b=>a == b
 | _,_=>false
def ny (a b:Key):kEq (kD a) (kD b)=decide (a=b):=by
 cases a with
 | inl i=>cases b with
  | inl j=>rw [u8]; rfl
  | inr j=>rw [u7]; rfl
 | inr i=>cases b with
  | inl j=>rw [u6]; rfl
  | inr j =>
   rw [u5];show (i == j)=_;by_cases h:i=j
   ·subst h; simp
   ·rw [zaA h,beq_eq_false_iff_ne]; exact h
def kOf:D->Option Key
 | .int i=>some (.inl i)
 | .str x=>some (.inr x)
 | _=>none
def qS {a:D} {q:Key} (h:kOf a=some q):a=kD q:=by
 cases a <;> cases h <;> rfl
def qB {K:PySem.W.Frag} {O:AS} {H:Hp} {a:D} {q:Key} {d:Nat} {v:V} {F:AS} (h:kOf a=some q) (o:Ow K O H a d v F):v=kV q:=by
 cases a with
 | int i=>cases h; exact o
 | str i=>cases h; exact o
 | _=>cases h
def gp (ks:List (D × D)) (q:D):Option D:=(ks.find? fun kv=>kEq kv.1 q).map (·.2)
def oV (ks:List (D × D)) (q t:D):List (D × D):=if ks.any (fun kv=>kEq kv.1 q) then ks.map (fun kv=>if kEq kv.1 q then (kv.1,t) else kv) else ks++[(q,t)]
section
variable {K:PySem.W.Frag} {O:AS} {H:Hp} {d:Nat}
def Owd.look:∀ {ks:List (D × D)} {vs:List (Key × V)} {F:AS} (q:Key),Owd K O H ks d vs F->(∃ t v,gp ks (kD q)=some t/\e8 vs q=some v/\Ow K O H t d v F)\/(gp ks (kD q)=none/\e8 vs q=none)
 | [],_,_,q,h=>by rw [show _=[] from h]; exact .inr ⟨rfl,rfl⟩
 | (k,t) :: ks,_,F,q,h=>by
  obtain ⟨q',v,r,F1,F2,e,e2,s1,s2,_,h4,h5⟩:=h;subst e e2;by_cases hq:q'=q
  ·subst hq;refine .inl ⟨t,v,?_,jN rfl,Ow.grow (fun _ z=>z) t s1 h4⟩;unfold gp;rw [List.find?_cons,ny,zaB rfl];rfl
  ·have e1:gp ((kD q',t) :: ks) (kD q)=gp ks (kD q):=by
    unfold gp;rw [List.find?_cons,ny,zaA hq]
   have e2:e8 ((q',v) :: r) q=e8 r q:=jO hq;rw [e1,e2];rcases Owd.look q h5 with ⟨t',v',a1,a2,a3⟩ | z
   ·exact .inl ⟨t',v',a1,a2,Ow.grow (fun _ z=>z) t' s2 a3⟩
   ·exact .inr z
def Owd.any:∀ {ks:List (D × D)} {vs:List (Key × V)} {F:AS} (q:Key),Owd K O H ks d vs F->ks.any (fun kv=>kEq kv.1 (kD q))=vs.any (fun kv=>decide (kv.1=q))
 | [],_,_,q,h=>by rw [show _=[] from h]; rfl
 | (k,t) :: ks,_,F,q,h=>by
  obtain ⟨q',v,r,F1,F2,e,e2,_,_,_,_,h5⟩:=h;subst e e2;rw [List.any_cons,List.any_cons,ny,Owd.any q h5]
def Owd.len:∀ {ks:List (D × D)} {vs:List (Key × V)} {F:AS},Owd K O H ks d vs F->vs.length=ks.length
 | [],_,_,h=>by rw [show _=[] from h]; rfl
 | (k,t) :: ks,_,F,h=>by
  obtain ⟨q',v,r,F1,F2,e,e2,_,_,_,_,h5⟩:=h;rw [e,zac,zac,h5.len]
def Owd.rep0 {t:D} {v:V} {q:Key} (ht:Ow K O H t 0 v NoA):∀ {ks:List (D × D)} {vs:List (Key × V)},Owd K O H ks 0 vs NoA->Owd K O H (ks.map fun kv=>if kEq kv.1 (kD q) then (kv.1,t) else kv) 0 (vs.map fun kv=>if kv.1=q then (kv.1,v) else kv) NoA
 | [],_,h=>by rw [show _=[] from h]; rfl
 | (k,u) :: ks,_,h=>by
  obtain ⟨q',w,r,F1,F2,e,e2,_,_,_,h4,h5⟩:=h;subst e e2;rw [zar,zar];have ih:=Owd.rep0 (q:=q) ht (Owd.any0 ks h5)
  dsimp only
  rw [ny];by_cases hq:q'=q
  ·rw [if_pos hq,if_pos (zaB hq)];exact ⟨q',v,_,NoA,NoA,rfl,rfl,fun _ z=>z,fun _ z=>z,fun _ z=>z.elim,ht,ih⟩
  ·rw [if_neg hq,if_neg (by rw [zaA hq]; exact Bool.false_ne_true)];exact ⟨q',w,_,NoA,NoA,rfl,rfl,fun _ z=>z,fun _ z=>z,fun _ z=>z.elim,Ow.any0 u h4,ih⟩
def Owd.snoc0 {t:D} {v:V} {q:Key} (ht:Ow K O H t 0 v NoA):∀ {ks:List (D × D)} {vs:List (Key × V)},Owd K O H ks 0 vs NoA->Owd K O H (ks++[(kD q,t)]) 0 (vs++[(q,v)]) NoA
 | [],_,h=>by
  rw [show _=[] from h];exact ⟨q,v,[],NoA,NoA,rfl,rfl,fun _ z=>z,fun _ z=>z,fun _ z=>z.elim,ht,rfl⟩
 | (k,u) :: ks,_,h=>by
  obtain ⟨q',w,r,F1,F2,e,e2,_,_,_,h4,h5⟩:=h;subst e e2;exact ⟨q',w,_,NoA,NoA,rfl,rfl,fun _ z=>z,fun _ z=>z,fun _ z=>z.elim,Ow.any0 u h4,Owd.snoc0 ht (Owd.any0 ks h5)⟩
def Owd.put0 {t:D} {v:V} {q:Key} {ks:List (D × D)} {vs:List (Key × V)} (h:Owd K O H ks 0 vs NoA) (ht:Ow K O H t 0 v NoA):Owd K O H (oV ks (kD q) t) 0 (dk vs q v) NoA:=by
 unfold oV dk;rw [h.any q];by_cases hq:(vs.any fun kv=>decide (kv.1=q))=true
 ·rw [if_pos hq,if_pos hq];exact Owd.rep0 ht h
 ·rw [if_neg hq,if_neg hq];exact Owd.snoc0 ht h
def Owd.past {ks:List (D × D)} {vs:List (Key × V)} {F:AS} {l:Addr} {o:HO} {O':AS} (ho:∀ a,O' a->O a) (hl:O l) (hf:∀ b,F b->b≠l) (h:Owd K O H ks d vs F):Owd K O' (upd H l o) ks d vs F:=by
 refine Owd.mv (G:=F) ⟨fun a u q z=>?_,fun a z=>.inl (ho a z)⟩ ks (fun _ z=>z) h;rw [aO]
 ·exact q
 ·intro za;subst za;rcases z with z | z
  ·exact z hl
  ·exact hf a z rfl
def noT:List (D × D)->Bool
 | (.tuple _,_) :: _=>false
 | (.none,_) :: _=>false
 | _=>true
def Ow.dict0 {ks:List (D × D)} {v:V} (hk:noT ks=true) (h:Ow K O H (.dict ks) 0 v NoA):∃ a vs,v=.ref a/\H a=some (.dK vs)/\Owd K O H ks 0 vs NoA:=by
 obtain ⟨a,vs,e,⟨_,h1,_,h2⟩ | ⟨z,_⟩ | ⟨_,⟨kk,b,h1,_⟩ | ⟨cn,C,h1,_⟩⟩⟩:=h
 ·exact ⟨a,vs,e,h1,h2⟩
 ·exact absurd rfl z
 ·rw [h1] at hk;cases hk
 ·rw [h1] at hk;cases hk
def Ow.dict1 {ks:List (D × D)} {v:V} {F:AS} (hd:d≠0) (h:Ow K O H (.dict ks) d v F):∃ a vs,v=.ref a/\H a=some (.dK vs)/\F a/\∃ F':AS,(∀ b,F' b->F b/\b≠a)/\Owd K O H ks (dn d) vs F':=by
 obtain ⟨a,vs,e,⟨z,_⟩ | ⟨_,h1,h2,h3⟩ | ⟨z,_⟩⟩:=h
 ·exact absurd z hd
 ·exact ⟨a,vs,e,h1,h2,h3⟩
 ·exact absurd z hd
end
def KO:D->D->Option D
 | .dict ks,q=>(kOf q).bind fun _=>gp ks q
 | _,_=>none
section
variable {X:Cx} {K:PySem.W.Frag} {p:Bool} {J:Jd} {ds ds0 ds1 ds2 ds':List Nat} {d d' d1 d2:Nat} {a b c e o k:Expr} {f f1 f2 fk fe:ME} {pos px spos:Pos} {i:Nat} {σ:St} {H:Hp} {Q:VK} {Dn:Ends}
def bY (i:Nat) (f:ME):ME:=fun en=>(en[i]?).join.bind fun _=>(f en).bind fun r=>match (r.2[i]?).join with
 | some (.dict ks)=>(kOf r.1).bind fun _=>(gp ks r.1).map fun t=>(t,r.2)
 | _=>none
def EE (hd:ds1[i]?=some 1) (h:tF K p ds ds1 0 (bY i f) σ H Q):CT (i8 i) (tF K p ds ds1 d1 f) σ H Q:=by
 obtain ⟨Ox,en,R,t,en',e,hf,k⟩:=h;unfold bY at hf;obtain ⟨t0,h0,hf⟩:=zaa.mp hf;obtain ⟨⟨t1,en1⟩,h1,hf⟩:=zaa.mp hf
 dsimp only at hf
 split at hf
 case h_2=>cases hf
 next ks h2 =>
 obtain ⟨q,hq,hf⟩:=zaa.mp hf;obtain ⟨t',h3,hf⟩:=zab.mp hf;cases hf;obtain ⟨v,d0,a1,_,a3⟩:=e.at_ i _ (bD h0);refine ⟨v,a1,Ox,en,R,t1,_,e,h1,fun x H1 R1 F P o=>?_⟩;obtain ⟨v',d',b1,b2,b3⟩:=P.env.at_ i _ (bD h2);rw [a1] at b1;cases b1;rw [hd] at b2;cases b2;obtain ⟨l,vs,el,hl,hr,F',hf',ow⟩:=b3.dict1 (by decide);rw [qS hq] at h3;rcases ow.look q with ⟨t'',w,c1,c2,c3⟩ | ⟨z,_⟩
 ·rw [h3] at c1;cases c1;refine ⟨l,w,el,?_,k w H1 R1 NoA (P.less fun _ z=>z.elim) ?_⟩
  ·rw [<- c2,qB hq o];exact DGet.k hl
  ·exact Ow.any0 _ (Ow.grow (fun a z=>z.imp id fun z=>z.elim (fun z=>False.elim z) Or.inr) _ (fun _ z=>z) c3)
 ·rw [h3] at z; cases z
def xm {x:Str} (hu:X.A.units+1 < cLine) (hN:X.N[i]?=some x) (hv:Vis X.env.scope x) (h1:ds1[i]?=some 1) (hi:PE X k (tF K p ds ds1 d1 f)) (hs:uq k) (hd:(x == ("__debug__" : Str))=false) (hcd:(x == ("__classdict__" : Str))=false) :
  PE X (.Subscript (.Name x px) k pos) (tF K p ds ds1 0 (bY i f)):=(DJ hu (fA hN hv hd hcd) hi hs).imp fun _ _ _=>EE h1
def dH (i:Nat) (fk fe:ME):MS:=fun en=>(fe en).bind fun r=>match (r.2[i]?).join with
 | some _=>(fk r.2).bind fun q=>match (q.2[i]?).join with
  | some (.dict ks)=>(kOf q.1).bind fun _=>if ks.length < sizeLine then some (.nx (q.2.set i (some (.dict (oV ks q.1 r.1))))) else none
  | _=>none
 | none=>none
def D9 (hd:ds2[i]?=some 1) (h:tFS K J ds ds2 (dH i fk fe) Dn σ H):CW (i8 i) (tF K false ds1 ds2 d2 fk) (tF K false ds ds1 0 fe) Dn σ H:=by
 obtain ⟨Ox,en,R,fl,e,hf,k⟩:=h;unfold dH at hf;obtain ⟨⟨t1,en1⟩,h1,hf⟩:=zaa.mp hf
 dsimp only at hf
 split at hf
 case h_2=>cases hf
 next tt h0 =>
 obtain ⟨⟨t2,en2⟩,h2,hf⟩:=zaa.mp hf
 dsimp only at hf
 split at hf
 case h_2=>cases hf
 next ks h3 =>
 obtain ⟨q,hq,hf⟩:=zaa.mp hf;by_cases hlen:ks.length < sizeLine
 case neg=>rw [if_neg hlen] at hf; cases hf
 rw [if_pos hlen] at hf;cases hf;refine ⟨Ox,en,R,t1,en1,e,h1,fun x H1 R1 F1 P1 o1=>?_⟩;obtain ⟨v0,d0,a1,_,_⟩:=P1.env.at_ i tt (bD h0);refine ⟨v0,a1,?_⟩;refine ⟨U F1 Ox,en1,R1,t2,en2,P1.env,h2,fun y H2 R2 F2 P2 o2=>?_⟩;have P:=P1.trans P2;have o1':=Ow.over P1.env P2 o1;have w1:=Ow.letgo P (fun _=>.inl) o1';obtain ⟨v',d',b1,b2,b3⟩:=P.env.at_ i _ (bD h3);rw [a1] at b1;cases b1;rw [hd] at b2;cases b2;obtain ⟨l,vs,el,hl,hr,F',hf',ow⟩:=b3.dict1 (by decide);have eq:=qB hq o2;subst eq;refine ⟨l,_,el,DPut.k hl (by rw [ow.len]; exact hlen),?_⟩;have hi:i < en2.length:=(zah.mp (bD h3)).1;have gG:∀ a,(fun a=>R2 i a) a->R2 i a\/U F1 F2 a:=fun a z=>.inl z;have sub:=nW (i:=i) (R1:=R2) (Ox:=Ox) (G:=fun a=>R2 i a) (F':=NoA) (F:=U F1 F2) gG (fun _ z=>z.elim);have Ol:Own R2 (U (U F1 F2) Ox) l:=.inl ⟨i,hr⟩;have PS:=P.slot (G:=fun a=>R2 i a) (F':=NoA) (o2:=.dK (dk vs q x)) (t:=.dict (oV ks t2 t1)) hr hi a1 hd gG (fun _ z=>z.elim) (fun _ _ z=>z) ?_
 ·exact k σ _ _ PS.s
 refine ⟨l,dk vs q x,el,.inr (.inl ⟨by decide,aJ,hr,NoA,fun _ z=>z.elim,?_⟩)⟩;rw [qS hq];refine Owd.put0 (Owd.past sub Ol (fun _ z=>z.elim) (Owd.any0 ks ow)) ?_;refine Ow.past (O:=Own R2 Ox) (fun a z=>?_) (.inl ⟨i,hr⟩) (fun _ z=>z.elim) w1;rcases z with ⟨j,z⟩ | z | z
 ·by_cases hj:j=i
  ·rw [if_pos hj] at z; exact .inl ⟨i,z⟩
  ·rw [if_neg hj] at z; exact .inl ⟨j,z⟩
 ·exact z.elim
 ·exact .inr z
def w6 {x:Str} (hu:X.A.units+1 < cLine) (hN:X.N[i]?=some x) (hv:Vis X.env.scope x) (he:PE X e (tF K false ds ds1 0 fe)) (hk:PE X k (tF K false ds1 ds2 d2 fk)) (h1:ds2[i]?=some 1)
  (hdb:(x == ("__debug__" : Str))=false) (hcd:(x == ("__classdict__" : Str))=false) (hs:swapsWith e (some (.Subscript (.Name x px) k spos)) pos.line X.env=pure false) :
  PS X (.Assign [.Subscript (.Name x px) k spos] e pos) (tFS K J ds ds2 (dH i fk fe)):=(DA hu (fA hN hv hdb hcd) hk he hs).imp fun _ _ _=>D9 h1
end
def evP:List (ME × ME)->En->Option (List (D × D) × En)
 | [],en=>some ([],en)
 | (fk,fv) :: r,en=>(fk en).bind fun x=>(fv x.2).bind fun y=>(evP r y.2).bind fun z=>(kOf x.1).map fun _=>((x.1,y.1) :: z.1,z.2)
def Ht (ks:List (D × D)):List (D × D):=ks.foldl (fun acc kv=>oV acc kv.1 kv.2) []
def lR (fs:List (ME × ME)):ME:=fun en=>(evP fs en).bind fun r=>if r.1.length<=15 then some (.dict (Ht r.1),r.2) else none
def OwP (K:PySem.W.Frag) (O:AS) (H:Hp):List (D × D)->List (V × V)->Prop
 | [],ps=>ps=[]
 | (k,t) :: r,ps=>∃ q v s,ps=(kV q,v) :: s/\k=kD q/\Ow K O H t 0 v NoA/\OwP K O H r s
section
variable {X:Cx} {K:PySem.W.Frag} {p:Bool} {J:Jd} {ds ds0 ds1 ds2 ds':List Nat} {d d' d1 d2:Nat} {a b c e o k:Expr} {es:List Expr} {f f1 f2 fk fe:ME} {fa:MA} {sh:Sh} {pos px spos:Pos} {i j:Nat} {σ:St} {H:Hp} {Q:VK} {Dn:Ends}
def OwP.mv {O O':AS} {H H':Hp} (m:Mv O O' NoA H H'):∀ {ks:List (D × D)} {ps:List (V × V)},OwP K O H ks ps->OwP K O' H' ks ps
 | [],_,h=>h
 | (k,t) :: r,_,h=>by
  obtain ⟨q,v,s,e1,e2,o,h⟩:=h;exact ⟨q,v,s,e1,e2,Ow.mv m t (fun _ z=>z) o,OwP.mv m h⟩
def trs (K:PySem.W.Frag) (p:Bool) (ds:List Nat) (fs:List (ME × ME)):List (TE × TE):=fs.map fun q=>(tF K p ds ds 3 q.1,tF K p ds ds 0 q.2)
def DC {R R1:Nat->AS} {Ox:AS} {en en1:En} {H1:Hp} {F:AS} (P:Post K p ds1 Ox σ H en R en1 H1 R1 F):Mv (Own R Ox) (Own R1 Ox) NoA H H1:=by
 refine ⟨fun a o q z=>P.keep a o q fun i zi=>?_,fun a z=>?_⟩
 ·rcases z with z | z
  ·exact z (.inl ⟨i,zi⟩)
  ·exact z
 ·rcases z with z | z
  ·exact (P.own a (.inr z)).imp .inl id
  ·exact .inl (.inr z)
def sL:∀ {fs:List (ME × ME)} {σ:St} {H:Hp} {Ox:AS} {en en':En} {R:Nat->AS} {ks:List (D × D)} {QP:List (V × V)->Hp->Prop},EnvOk K ds Ox H σ en R->evP fs en=some (ks,en') ->
  (∀ ps H' R',Post K p ds Ox σ H en R en' H' R' NoA->OwP K (Own R' Ox) H' ks ps->QP ps H')->m9 (trs K p ds fs) σ H QP
 | [],σ,H,Ox,en,en',R,ks,QP,e,hf,k=>by
  cases hf;exact k [] H R (Post.refl e) rfl
 | (fk,fv) :: r,σ,H,Ox,en,en',R,ks,QP,e,hf,k=>by
  unfold evP at hf;obtain ⟨⟨t1,en1⟩,h1,hf⟩:=zaa.mp hf;obtain ⟨⟨t2,en2⟩,h2,hf⟩:=zaa.mp hf;obtain ⟨⟨ks3,en3⟩,h3,hf⟩:=zaa.mp hf;obtain ⟨q,hq,hf⟩:=zab.mp hf;cases hf;refine ⟨Ox,en,R,t1,en1,e,h1,fun x H1 R1 F1 P1 o1=>?_⟩;refine ⟨Ox,en1,R1,t2,en2,P1.env0,h2,fun y H2 R2 F2 P2 o2=>?_⟩;refine sL P2.env0 h3 fun ps H3 R3 P3 op=>?_;have PP:=(P1.after P2).after P3;rw [Bool.and_self,Bool.and_self] at PP;refine k _ H3 R3 PP ⟨q,y,ps,?_,qS hq,?_,op⟩
  ·rw [qB hq o1]
  ·exact Ow.mv (DC P3) t2 (fun _ z=>z) (Ow.letgo P2 (fun _ z=>z) o2)
def qL {O:AS}:∀ {ks:List (D × D)} {kvs:List (Key × V)} {acc:List (D × D)} {avs:List (Key × V)},OwP K O H ks (kvs.map fun kv=>(kV kv.1,kv.2))->Owd K O H acc 0 avs NoA->Owd K O H (ks.foldl (fun acc kv=>oV acc kv.1 kv.2) acc) 0 (gy avs kvs) NoA
 | [],kvs,acc,avs,h,ha=>by
  have:kvs=[]:=List.map_eq_nil_iff.mp h;subst this;exact ha
 | (k,t) :: r,kvs,acc,avs,h,ha=>by
  obtain ⟨q,v,s,e1,e2,o,h⟩:=h;cases kvs with
  | nil=>cases e1
  | cons kv kvs =>
   rw [zar] at e1;injection e1 with e3 e4
   injection e3 with e5 e6
   have:=Hy e5;subst this e6 e4 e2;exact qL (ks:=r) (kvs:=kvs) h (ha.put0 o)
def sv {O:AS}:∀ {ks:List (D × D)} {ps:List (V × V)},OwP K O H ks ps->∃ kvs:List (Key × V),ps=kvs.map (fun kv=>(kV kv.1,kv.2))/\kvs.length=ks.length
 | [],_,h=>⟨[],h,rfl⟩
 | (k,t) :: r,_,h=>by
  obtain ⟨q,v,s,e1,e2,o,h⟩:=h;obtain ⟨kvs,e3,e4⟩:=sv h;exact ⟨(q,v) :: kvs,by rw [e1,e3]; rfl,by rw [zac,zac,e4]⟩
def IP {fs:List (ME × ME)} (h:tF K p ds ds 1 (lR fs) σ H Q):CQ (trs K p ds fs) σ H Q:=by
 obtain ⟨Ox,en,R,t,en',e,hf,k⟩:=h;unfold lR at hf;obtain ⟨⟨ks,en1⟩,h1,hf⟩:=zaa.mp hf;by_cases hl:ks.length<=15
 case neg=>rw [if_neg hl] at hf; cases hf
 rw [if_pos hl] at hf;cases hf;intro l hl0;have n0:=bT (o:=.dK []) hl0;have P0:Post K true ds Ox σ H en R en (upd H l (.dK [])) R (fun b=>b=l):=Post.new e n0.1 n0.2;refine sL P0.env h1 fun ps H2 R2 P op=>?_;obtain ⟨kvs,e1,e2⟩:=sv op;have lO:U (fun b=>b=l) Ox l:=.inl rfl;have hl2:H2 l=some (.dK []):=P.keep l _ aJ fun i z=>by
  obtain ⟨o,q⟩:=e.dom l (.inl ⟨i,z⟩);rw [hl0] at q;cases q
 have nl2:∀ i,¬ R2 i l:=fun i z=>P.env.dx i l z (.inr lO);refine ⟨hl2,kvs,e1,by omega,?_⟩;have PP:=P0.trans P;rw [Bool.true_and] at PP;have eU:U (fun b=>b=l) NoA=(fun b=>b=l):=gq fun a=>⟨fun z=>z.elim id fun z=>z.elim,.inl⟩;rw [eU] at PP;have keepl:∀ a o,H2 a=some o->a≠l->upd H2 l (.dK (gy [] kvs)) a=some o:=fun a o q n=>by rw [aO n]; exact q
 have OO:∀ a,Own R2 (U (fun b=>b=l) Ox) a->Own R2 (U (U (fun b=>b=l) Ox) NoA) a:=fun a z=>z.imp id .inl;refine k (.ref l) _ R2 (fun b=>b=l) ⟨⟨fun j u hu=>?_,PP.env.dj,PP.env.dx,fun a z=>?_,PP.env.l1,PP.env.l2⟩,PP.fx,fun a o q n=>?_,PP.own,fun a o q=>?_,fun hp=>?_⟩ ⟨l,_,rfl,.inr (.inl ⟨by decide,aJ,rfl,NoA,fun _ z=>z.elim,?_⟩)⟩
 ·obtain ⟨v',d',g1,g2,g3⟩:=PP.env.at_ j u hu;refine ⟨v',d',g1,g2,Ow.mv (G:=R2 j) ⟨fun a o q z=>keepl a o q fun za=>?_,fun a z=>.inl z⟩ u (fun _ z=>z) g3⟩;subst za;rcases z with z | z
  ·exact z (.inr lO)
  ·exact nl2 j z
 ·by_cases ha:a=l
  ·subst ha; exact ⟨_,aJ⟩
  ·obtain ⟨o,q⟩:=PP.env.dom a z;exact ⟨o,keepl a o q ha⟩
 ·refine keepl a o (PP.keep a o q n) fun za=>?_;subst za;rw [hl0] at q;cases q
 ·obtain ⟨o',q'⟩:=PP.dom a o q;by_cases ha:a=l
  ·subst ha; exact ⟨_,aJ⟩
  ·exact ⟨o',keepl a o' q' ha⟩
 ·obtain ⟨b1,b2,b3⟩:=PP.pure hp;refine ⟨b1,b2,fun a o q=>keepl a o (b3 a o q) fun za=>?_⟩;subst za;rw [hl0] at q;cases q
 ·have op2:OwP K (Own R2 (U (fun b=>b=l) Ox)) (upd H2 l (.dK (gy [] kvs))) ks (kvs.map fun kv=>(kV kv.1,kv.2)):=by
   rw [e1] at op;refine OwP.mv ⟨fun a o q z=>keepl a o q fun za=>?_,fun a z=>.inl z⟩ op;subst za;rcases z with z | z
   ·exact z (.inr lO)
   ·exact z
  exact qL op2 rfl
def Ez {keys:List (Option Expr)} {values:List Expr} {fs:List (ME × ME)} (h:PPs X pos keys values (trs K p ds fs)) (hall:keys.all (·.isSome)=true) (hl:keys.length=values.length) (h0:keys≠[]) (h15:keys.length<=15) :
  PE X (.Dict keys values pos) (tF K p ds ds 1 (lR fs)):=(DI h hall hl h0 h15).imp fun _ _ _=>IP
def Ic:PPs X pos [] [] (trs K p ds []):=DB
def Ef {k v:Expr} {ks:List (Option Expr)} {vs:List Expr} {fk fv:ME} {fs:List (ME × ME)} (hk:PE X k (tF K p ds ds 3 fk)) (hv:PE X v (tF K p ds ds 0 fv)) (hr:PPs X pos ks vs (trs K p ds fs)):PPs X pos (some k :: ks) (v :: vs) (trs K p ds ((fk,fv) :: fs)):=wq hk hv hr
def KF (i j:Nat) (fa:MA):MS:=fun en=>(fa en).bind fun r=>match r.1 with
 | [.inl a,.inl b]=>some (.nx ((r.2.set i (some a)).set j (some b)))
 | _=>none
end
section
variable {X:Cx} {K:PySem.W.Frag}
end
section
variable {X:Cx} {K:PySem.W.Frag} {O:AS} {H:Hp} {ts us:List D} {vs ws:List V} {x y:V} {d:Nat} {Q:VK}
def Je (K:PySem.W.Frag):List V->Hp->VK->Prop:=fun xs H Q=>∃ (p:Addr) (ns:List Int),xs=[.ref p]/\SqL K H p (ns.map V.int)/\Q (.int ns.sum) H
def vK (hc:X.calm=true):CallR X (.builtin "sum") (Je X.K):=by
 intro pins s σ H xs us Q I r h;obtain ⟨p,ns,rfl,hp,q⟩:=h;obtain ⟨u,rfl,ru⟩:=bW r;cases ru;obtain ⟨its,rv,pl,hz⟩:=I.list hp;have hl:its.length=ns.length:=by rw [<- rv.length,zad]
 have hlt:p < s.heap.objs.size:=by
  obtain ⟨o,n,e,_⟩:=id pl;exact zal e
 have hsz:its.toArray.size=ns.length:=by rw [zai,hl]
 refine call_sum_walkAnyS (wpAny_pyIter_list pl.isList ?_);refine ⟨s.heap.objs.size,[s.heap.objs.size,p],[s.heap.objs.size],_,its.toArray.size,fun i v=>its.toArray[i]?=some v,_,fun i=>ns.getD i 0,rfl,(Walks.list (A:=X.A.in1) (show X.A.in1.handled=none from I.ok.hd hc) s.heap.objs.size p (zaw hlt) its.toArray).toS,?_,?_,?_,?_⟩
 ·exact ⟨⟨_,zan _ rfl,rfl,rfl⟩,pl.isList.push _⟩
 ·intro b hb;show b < (s.heap.push _).objs.size;rw [Heap.size_push];have hb':b=s.heap.objs.size\/b=p:=by simpa using hb
  rcases hb' with rfl | rfl
  ·exact Nat.lt_succ_self _
  ·exact Nat.lt_succ_of_lt hlt
 ·intro i v hv;have hv':its[i]?=some v:=by simpa using hv
  have hi:i < ns.length:=by
   rw [<- hl];exact (zah.mp hv').1
  obtain ⟨u,hu,ru⟩:=rv.get (i:=i) (x:=V.int ns[i]) (by rw [zao,zak hi]; rfl);rw [hu] at hv';cases hv';obtain ⟨t,rfl⟩:=ru;refine ⟨t,?_⟩;show Value.int ns[i] t=Value.int (ns.getD i 0) t;rw [List.getD_eq_getElem?_getD,zak hi];rfl
 ·intro s' t' hm;have e:preSum (fun i=>ns.getD i 0) its.toArray.size=ns.sum:=by
   rw [hsz,l6 ns ns.length (zav _),zaQ]
  rw [e];obtain ⟨hh,g,dr,tk,os'⟩:=s';have e1:dr=s.drawn:=hm.drawn;have e2:os'=s.os:=hm.os;have e3:g=s.gens:=hm.gens;subst e1 e2 e3;refine ⟨.int ns.sum,H,I.kept (t':=tk) fun b o z=>hm.heap b o ?_ (zaf _ z),⟨_,rfl⟩,q⟩;intro z';have z'':b=s.heap.objs.size:=by simpa using z'
  exact zaw (zal z) z''
def qY:List D->Option (List Int)
 | []=>some []
 | .int i :: r=>(qY r).map (i :: ·)
 | _ :: _=>none
def qA:∀ {ts:List D} {vs:List V} {bs:List Int},Ows K O H ts 0 vs NoA->qY ts=some bs->vs=bs.map V.int
 | [],_,_,h,hb=>by cases hb; exact h
 | .int b :: r,_,_,h,hb=>by
  obtain ⟨v,w,F1,F2,e,_,_,_,h4,h5⟩:=h;obtain ⟨bs',h6,h7⟩:=zab.mp hb;subst e h7;rw [show v=.int b from h4,qA (Ows.any0 r h5) h6];rfl
 | .none :: _,_,_,_,hb=>by cases hb
 | .bool _ :: _,_,_,_,hb=>by cases hb
 | .str _ :: _,_,_,_,hb=>by cases hb
 | .list _ :: _,_,_,_,hb=>by cases hb
 | .tuple _ :: _,_,_,_,hb=>by cases hb
 | .dict _ :: _,_,_,_,hb=>by cases hb
def qo:List D->Option D
 | [.list ts]=>(qY ts).map fun ns=>.int ns.sum
 | _=>none
def Ie (hK:X.K=K) (hc:X.calm=true):CallR X (.builtin "sum") (rFn K qo 3):=by
 subst hK;refine (vK hc).imp fun xs H Q ⟨O,as,t,oa,hd,hg,k⟩=>?_
 match as,hg with
 | [.list ts],hg =>
  obtain ⟨ns,h1,rfl⟩:=zab.mp hg;obtain ⟨v,rfl,o⟩:=oa.one;obtain ⟨a,vs,rfl,fz,w⟩:=o.lst0;have e:=qA w h1;subst e;exact ⟨a,ns,rfl,fz.sq,k _ H NoA .refl rfl⟩
end
section
variable {X:Cx} {K:PySem.W.Frag} {p:Bool} {ds ds1:List Nat} {O:AS} {H:Hp} {σ:St} {d:Nat} {f:ME} {i:Nat} {e:Expr} {Q:VK}
end
section
variable {X:Cx} {K:PySem.W.Frag} {p:Bool} {ds ds1:List Nat} {d:Nat} {fa:MA} {sh:Sh} {O O1:AS} {H0 H:Hp} {ts us:List D} {vs ws:List V} {a b:Addr}
def eG (ts us:List D):List D:=List.zipWith (fun x y=>.tuple [x,y]) ts us
def Hl {t u:D} {v w:V} {q:Addr} (hp:H q=none) (h3:∀ a,O1 a->∃ o,H a=some o) (ov:Ow K O1 H t 0 v NoA) (ow:Ow K O1 H u 0 w NoA):(∀ a o,H a=some o->upd H q (.tup [v,w]) a=some o)/\Ow K O1 (upd H q (.tup [v,w])) (.tuple [t,u]) 0 (.ref q) NoA:=by
 have g:=(bT (o:=.tup [v,w]) hp).1;refine ⟨g,q,[v,w],rfl,.inl ⟨rfl,⟨aJ,fun z=>?_⟩,v,[w],NoA,NoA,rfl,fun _ z=>z,fun _ z=>z,fun _ z=>z.elim,?_,w,[],NoA,NoA,rfl,fun _ z=>z,fun _ z=>z,fun _ z=>z.elim,?_,rfl⟩⟩
 ·obtain ⟨o,e⟩:=h3 q z;rw [hp] at e;cases e
 ·exact Ow.mv (G:=NoA) ⟨fun a o e _=>g a o e,fun a z=>.inl z⟩ t (fun _ z=>z) ov
 ·exact Ow.mv (G:=NoA) ⟨fun a o e _=>g a o e,fun a z=>.inl z⟩ u (fun _ z=>z) ow
def KD (fa:MA):MI:=fun en=>(fa en).bind fun r=>match r.1 with
 | [.inl (.list ts),.inl (.list us)]=>some (eG ts us,r.2)
 | _=>none
end
section
variable {X:Cx} {K:PySem.W.Frag} {p:Bool} {ds ds1:List Nat} {d1:Nat} {e:Expr} {f:ME}
def sT:List String:=["int", "bool", "str", "list", "tuple", "dict"]
def sA (a:D):∀ {Ts:List String},(∀ T∈Ts,T∈sT)->PySem.W.kitAny K (.type (tyN a)) (Ts.map Value.type)=some (Ts.any fun T=>ax (tyN a) T)
 | [],_=>rfl
 | T :: Ts,h=>by
  have e1:=oN (K:=K) (h T zaq) a;have e2:=sA a (Ts:=Ts) fun x hx=>h x (zaj _ hx);show (match PySem.W.kitOne K (.type (tyN a)) (.type T) with
   | some true=>some true
   | some false=>PySem.W.kitAny K (.type (tyN a)) (Ts.map Value.type)
   | none=>none)=_
  rw [e1,List.any_cons];cases ax (tyN a) T with
  | true=>rfl
  | false=>rw [e2]; rfl
def Ji (K:PySem.W.Frag):List V->Hp->VK->Prop:=fun xs H Q=>∃ (x:V) (tp:Addr) (Ts:List String) (O:AS) (a:D),xs=[x,.ref tp]/\Ow K O H a 0 x NoA/\isX a=false/\H tp=some (.tup (Ts.map V.ty))/\(∀ T∈Ts,T∈sT)/\Q (.bl (Ts.any fun T=>ax (tyN a) T)) H
def si:∀ {Ts:List String} {us:List Value},Vals (Ts.map V.ty) us->us=Ts.map Value.type
 | [],_,.nil=>rfl
 | T :: Ts,_,.cons h t=>by
  rw [si t];exact congrArg (· :: Ts.map Value.type) h
def vQ:CallR X (.builtin "isinstance") (Ji X.K):=by
 intro pins s σ H xs us Q I r h;obtain ⟨x,tp,Ts,O,a,rfl,oa,hX,ht,hT,q⟩:=h;obtain ⟨u,u2,rfl,r1,r2⟩:=r.two;cases r2;have ek:=sA (K:=X.K) a hT;obtain ⟨zl,its,rv,o,h1,h2,n,h3,_⟩:=(show ObjOk X.prog X.w H s.heap tp (.tup (Ts.map V.ty)) from I.hok tp _ ht);have ei:=si rv;subst ei;obtain ⟨oc,od,oda,os⟩:=o;cases h2;cases h3;have fin:∀ tk,EP X pins σ Q (.bool (Ts.any fun T=>ax (tyN a) T)) { s with toks:=tk }:=fun tk=>⟨.bl _,H,I.tok tk,rfl,q⟩;cases a with
 | none =>
  have:x=.non:=oa;subst this;cases (show u=Value.none from r1);exact PySem.W.kia_tup PySem.W.kitx_none I.kIn True.intro h1 ek (fun z=>nomatch z) fin
 | bool b =>
  have:x=.bl b:=oa;subst this;cases (show u=Value.bool b from r1);exact PySem.W.kia_tup PySem.W.kitx_bool I.kIn True.intro h1 ek (fun z=>nomatch z) fin
 | int b =>
  have:x=.int b:=oa;subst this;obtain ⟨t,rfl⟩:=(show ∃ t,u=Value.int b t from r1);exact PySem.W.kia_tup PySem.W.kitx_int I.kIn True.intro h1 ek (fun z=>nomatch z) fin
 | str b =>
  have:x=.str b:=oa;subst this;obtain ⟨t,rfl⟩:=(show ∃ t,u=Value.str b t from r1);exact PySem.W.kia_tup PySem.W.kitx_str I.kIn True.intro h1 ek (fun z=>nomatch z) fin
 | tuple ts =>
  obtain ⟨p,vs,rfl,fz,w⟩:=oa.tup0;cases r1;obtain ⟨its,rv,pl,_⟩:=I.tuple fz.sq;obtain ⟨o,g1,g2,_⟩:=pl;exact PySem.W.kia_tup PySem.W.kitx_tuple I.kIn ⟨o,g1,g2⟩ h1 ek (fun z=>nomatch z) fin
 | dict ts =>
  have go:∀ {p:Addr} {kvs:List (Key × V)},x=.ref p->H p=some (.dK kvs)->wpAny (model X.prog X.w) X.A (call (.builtin "isinstance") [u,.ref tp]) (EP X pins σ Q) X.xe s:=fun {p kvs} ex ea=>by
   subst ex;cases (show u=Value.ref p from r1);obtain ⟨_,_,vs,_,pp⟩:=(show ObjOk X.prog X.w H s.heap p (.dK kvs) from I.hok p _ ea);obtain ⟨o,es,ep,g1,g2,_⟩:=pp;exact PySem.W.kia_tup PySem.W.kitx_dict I.kIn ⟨o,g1,g2.1⟩ h1 ek (fun z=>nomatch z) fin
  obtain ⟨p,vs,ex,⟨_,h1,_⟩ | ⟨_,h1,_⟩ | ⟨_,⟨kk,b,_,h2,_⟩ | ⟨cn,C,h0,_⟩⟩⟩:=oa
  ·exact go ex h1
  ·exact go ex h1
  ·subst ex;cases (show u=Value.ref p from r1);obtain ⟨_,_,xs,_,o,es,ep,g1,g2,_⟩:=(show ObjOk X.prog X.w H s.heap p (.dT _) from I.hok p _ h2);exact PySem.W.kia_tup PySem.W.kitx_dict I.kIn ⟨o,g1,g2.1⟩ h1 ek (fun z=>nomatch z) fin
  ·subst h0; cases hX
 | list ts =>
  obtain ⟨p,vs,rfl,fz,w⟩:=oa.lst0;cases r1;obtain ⟨its,rv,pl,_⟩:=I.list fz.sq;obtain ⟨o,n,g1,g2,_⟩:=pl;exact PySem.W.kia_tup PySem.W.kitx_list I.kIn ⟨o,g1,g2⟩ h1 ek (fun z=>nomatch z) fin
def gI (Ts:List String):D->Option D:=fun a=>if isX a=true then none else some (.bool (Ts.any fun T=>ax (tyN a) T))
def Ew {T1 T2:Str} {n1 n2:String} {px p1 p2 pos tp:Pos} {kk:Nat} (hK:X.K=K) (hg:Gl X "isinstance") (hm:X.mg "isinstance"=none) (hg1:Gl X T1) (hm1:X.mg T1=none) (hb1:bootBuiltins T1=some (.type n1)) (hg2:Gl X T2) (hm2:X.mg T2=none) (hb2:bootBuiltins T2=some (.type n2)) (hT:∀ T∈[n1,n2],T∈sT) (he:PE X e (tF K p ds ds1 d1 f))
  (hn1:T1≠"__name__") (hd1:(T1 == ("__debug__" : Str))=false) (hn2:T2≠"__name__") (hd2:(T2 == ("__debug__" : Str))=false) (hs:aH e=true) :
  PE X (.Call (.Name "isinstance" px) [e,.Tuple [.Name T1 p1,.Name T2 p2] kk tp] [] pos) (tF K p ds ds1 3 (e1 (gI [n1,n2]) f)):=by
 subst hK;refine (jV vQ hg hm boot_isinstance (cy he (cy (uQ (cy (oE (v:=.ty n1) hg1 hm1 hb1 rfl hn1 hd1) (cy (oE (v:=.ty n2) hg2 hm2 hb2 rfl hn2 hd2) pa_nil (bd rfl)) (bd rfl))) pa_nil (bd rfl)) (bd hs)) (by decide) (by decide) (bd hs) (fR rfl)).imp fun σ H Q h=>?_;obtain ⟨Ox,en,R,t,en',e,hf,k⟩:=h;unfold e1 at hf;obtain ⟨⟨t1,en1⟩,h1,hf⟩:=zaa.mp hf;obtain ⟨t',h3,hf⟩:=zab.mp hf;cases hf;unfold gI at h3;by_cases hX:isX t1=true
 ·rw [if_pos hX] at h3; cases h3
 rw [if_neg hX] at h3;cases h3;refine ⟨Ox,en,R,t1,en1,e,h1,fun v H' R' F P o=>?_⟩;refine ⟨zau (by show 2<=63; decide) (by rw [sizeLine_eq]; decide),fun q hq=>?_⟩;have g:=(bT (o:=.tup [.ty n1,.ty n2]) hq).1;refine ⟨v,q,[n1,n2],Own R' Ox,t1,rfl,Ow.mv (G:=NoA) ⟨fun a o e _=>g a o e,fun a z=>.inl z⟩ t1 (fun _ z=>z) (Ow.letgo P (fun _ z=>z) o),Bool.eq_false_iff.mpr hX,aJ,hT,?_⟩;exact k _ _ R' NoA ((P.less (F':=NoA) fun _ z=>z.elim).fin ⟨g,fun _ z=>z.elim⟩) rfl
end
section
variable {X:Cx} {K:PySem.W.Frag} {p p1 p2:Bool} {ds ds1 ds2:List Nat} {d d1:Nat} {e:Expr} {f:ME} {fa:MA} {sh:Sh} {σ:St} {H:Hp} {Q:VK}
def eM (g:Str->List D->Option D) (f:ME) (fa:MA):ME:=fun en=>(f en).bind fun r=>match r.1 with
 | .str z=>(fa r.2).bind fun q=>(vals q.1).bind fun ts=>(g z ts).map fun t=>(t,q.2)
 | _=>none
structure MtF (K:PySem.W.Frag) (r:V->List V->Hp->VK->Prop) (g:Str->List D->Option D):Prop where
 h:∀ {O:AS} {H:Hp} {z:Str} {ts:List D} {xs:List V} {t:D} {Q:VK},Ows K O H ts 0 xs NoA->g z ts=some t->(∀ v,Ow K O H t 3 v NoA->Q v H)->r (.str z) xs H Q
def IL {r:V->List V->Hp->VK->Prop} {g:Str->List D->Option D} (hr:MtF K r g) (hs:cg 0 sh=true) (h:tF K (p1 && p2) ds ds2 3 (eM g f fa) σ H Q):tBM K "str" r (tF K p1 ds ds1 d1 f) (tFA K p2 ds1 ds2 sh fa) σ H Q:=by
 obtain ⟨Ox,en,R,t,en',e,hf,k⟩:=h;unfold eM at hf;obtain ⟨⟨t1,en1⟩,h1,hf⟩:=zaa.mp hf
 dsimp only at hf
 split at hf
 case h_2=>cases hf
 next z =>
 obtain ⟨⟨as,en2⟩,h2,hf⟩:=zaa.mp hf;obtain ⟨ts,h3,hf⟩:=zaa.mp hf;obtain ⟨t',h4,hf⟩:=zab.mp hf;cases hf;refine ⟨Ox,en,R,.str z,en1,e,h1,fun x H1 R1 F1 P1 o1=>?_⟩;have ex:x=.str z:=o1;subst ex;refine ⟨rfl,Ox,en1,R1,as,en2,P1.env0,h2,fun vs H2 R2 F P2 o=>?_⟩;have P:=P1.after P2;obtain ⟨F',s1,s2⟩:=OwA.ows hs h3 o;have o2:Ows K (Own R2 Ox) H2 ts 0 vs F':=s2 _ (fun a z=>z.imp id .inr) fun a z z2=>by
  rcases z2 with ⟨i,z2⟩ | z2
  ·exact absurd (.inl z) (P.env.dx i a z2)
  ·exact absurd z2 (P.fx a z)
 refine hr.h (Ows.any0 ts o2) h4 fun v ov=>k v H2 R2 NoA (P.less fun _ z=>z.elim) ?_;rw [gP];exact ov
def joinD:Str->List D->Option D
 | sep,[.list ts]=>(strsOf ts).bind fun ys=>if sep.length<=16/\(ys.map (·.length)).sum+ys.length<=1048576 then some (.str (Txt.join sep ys)) else none
 | sep,[.tuple ts]=>(strsOf ts).bind fun ys=>if sep.length<=16/\(ys.map (·.length)).sum+ys.length<=1048576 then some (.str (Txt.join sep ys)) else none
 | _,_=>none
where strsOf:List D->Option (List Str)
 | []=>some []
 | .str z :: r=>(strsOf r).map (z :: ·)
 | _ :: _=>none
def mD {O:AS}:∀ {ts:List D} {ys:List Str} {xs:List V},joinD.strsOf ts=some ys->Ows K O H ts 0 xs NoA->xs=ys.map V.str
 | [],ys,xs,h,o=>by
  cases h;exact o
 | t :: ts,ys,xs,h,o=>by
  obtain ⟨v,r,F1,F2,e,_,_,_,h4,h5⟩:=o;cases t with
  | str z =>
   obtain ⟨ys',h6,rfl⟩:=zab.mp h;have e4:v=.str z:=h4;rw [e,e4,mD h6 (Ows.any0 ts h5)];rfl
  | _=>cases h
def cB:MtF K (C1 K) joinD where
 h:=fun {O H z ts xs t Q} o hg q=>by
  unfold joinD at hg;split at hg
  ·next us =>
   obtain ⟨ys,h1,h2⟩:=zaa.mp hg;by_cases hc:z.length<=16/\(ys.map (·.length)).sum+ys.length<=1048576
   case neg=>rw [if_neg hc] at h2; cases h2
   rw [if_pos hc] at h2;cases h2;obtain ⟨v,r,F1,F2,e,_,_,_,h4,h5⟩:=o;have e5:r=[]:=h5;subst e5 e;obtain ⟨a,vs,rfl,fz,w⟩:=(Ow.any0 _ h4).lst0;have e6:=mD h1 w;subst e6;exact ⟨z,ys,a,rfl,rfl,.inl fz.sq,hc.1,hc.2,q _ rfl⟩
  ·next us =>
   obtain ⟨ys,h1,h2⟩:=zaa.mp hg;by_cases hc:z.length<=16/\(ys.map (·.length)).sum+ys.length<=1048576
   case neg=>rw [if_neg hc] at h2; cases h2
   rw [if_pos hc] at h2;cases h2;obtain ⟨v,r,F1,F2,e,_,_,_,h4,h5⟩:=o;have e5:r=[]:=h5;subst e5 e;obtain ⟨a,vs,rfl,fz,w⟩:=(Ow.any0 _ h4).tup0;have e6:=mD h1 w;subst e6;exact ⟨z,ys,a,rfl,rfl,.inr fz.sq,hc.1,hc.2,q _ rfl⟩
  ·cases hg
def lK:Str->List D->Option D
 | z,[.str y]=>some (.bool (Txt.startswith z y))
 | _,_=>none
def KE:Str->List D->Option D
 | z,[.str y]=>some (.bool (Txt.endswith z y))
 | _,_=>none
def wz {O:AS} {y:Str} {xs:List V} (o:Ows K O H [.str y] 0 xs NoA):xs=[.str y]:=by
 obtain ⟨v,r,F1,F2,e,_,_,_,h4,h5⟩:=o;have e4:v=.str y:=h4;have e5:r=[]:=h5;rw [e,e4,e5]
def vt:MtF K sn lK where
 h:=fun {O H z ts xs t Q} o hg q=>by
  unfold lK at hg;split at hg
  ·next y =>
   cases hg;exact ⟨z,y,rfl,wz o,q _ rfl⟩
  ·cases hg
def Eu {o:Expr} {es:List Expr} {name:Str} {id:String} {apos cpos:Pos} {r:V->List V->Hp->VK->Prop} {g:Str->List D->Option D} (hK:X.K=K) (slot:Slot "str" name id) (hty:typeOf (.builtin id)=pure (.type "method_descriptor")) (hm:MtR X id r) (hr:MtF K r g) (ho:PE X o (tF K p ds ds1 d1 f)) (ha:PA X (e :: es) (tFA K p ds1 ds2 sh fa))
  (hsh:cg 0 sh=true) (hbase:attributeBase o name X.env (eval o X.env)=eval o X.env)
  (hfew:((backTo cpos (starEach (e :: es) X.env)).all (fun x=>!x.1) && (backToKw cpos (keywordEach [] X.env)).all (fun x=>x.1.isSome)
   && decide ((e :: es).length+([]:List Keyword).length+(if ([]:List Keyword).isEmpty then 0 else 1) < 30))=true)
  (hline:(apos.endLine == cpos.line)=true) (hs:starEach (e :: es) X.env=(false,eval e X.env) :: starEach es X.env) (hplain:(backTo cpos (starEach es X.env)).any (·.1)=false) :
  PE X (.Call (.Attribute o name apos) (e :: es) [] cpos) (tF K p ds ds2 3 (eM g f fa)):=by
 subst hK;exact (tw PySem.F.plainAttrs_str slot hty hm ho ha hbase hfew hline hs hplain).imp fun _ _ _ h=>IL hr hsh (by rw [Bool.and_self]; exact h)
end
section
variable {X:Cx} {K:PySem.W.Frag} {pins:List (Addr × Obj)} {σ:St} {H:Hp} {s:Shared} {O:AS}
mutual
theorem Ow.reads (I:Inv X pins σ H s):∀ (t:D) {v:V} {u:Value},az t=true->Ow X.K O H t 0 v NoA->RelV v u->∃ as,Reads s.heap u t as
 | .none,_,_,_,h,r=>by
  cases (show _=V.non from h);cases r;exact ⟨_,.none⟩
 | .bool b,_,_,_,h,r=>by
  cases (show _=V.bl b from h);cases r;exact ⟨_,.bool _⟩
 | .int i,_,_,_,h,r=>by
  cases (show _=V.int i from h);obtain ⟨t,rfl⟩:=r;exact ⟨_,.int _ _⟩
 | .str x,_,_,_,h,r=>by
  cases (show _=V.str x from h);obtain ⟨t,rfl⟩:=r;exact ⟨_,.str _ _⟩
 | .list ts,_,_,hn,h,r=>by
  obtain ⟨p,vs,rfl,fz,w⟩:=h.lst0;cases r;obtain ⟨its,rv,⟨o,n,e1,e2,_,e3⟩,_⟩:=I.list fz.sq;obtain ⟨as,ra⟩:=Ows.reads I ts (by simpa [az] using hn) w rv;exact ⟨_,.list e1 e2 e3 (by simpa using ra)⟩
 | .tuple ts,_,_,hn,h,r=>by
  obtain ⟨p,vs,rfl,fz,w⟩:=h.tup0;cases r;obtain ⟨its,rv,⟨o,e1,e2,n,e3⟩,_⟩:=I.tuple fz.sq;obtain ⟨as,ra⟩:=Ows.reads I ts (by simpa [az] using hn) w rv;exact ⟨_,.tuple e1 e2 e3 (by simpa using ra)⟩
 | .dict _,_,_,hn,_,_=>by simp [az] at hn
theorem Ows.reads (I:Inv X pins σ H s):∀ (ts:List D) {vs:List V} {us:List Value},ba ts=true->Ows X.K O H ts 0 vs NoA->Vals vs us->∃ as,ReadsAll s.heap us ts as
 | [],_,_,_,h,r=>by
  cases (show _=[] from h);cases r;exact ⟨_,.nil⟩
 | t :: ts,_,_,hn,h,r=>by
  obtain ⟨v,q,F1,F2,e,_,_,_,h4,h5⟩:=h;subst e;have hn':az t=true/\ba ts=true:=by simpa [ba] using hn
  cases r with
  | cons ru rr =>
   obtain ⟨as,a1⟩:=Ow.reads I t hn'.1 (Ow.any0 t h4) ru;obtain ⟨bs,a2⟩:=Ows.reads I ts hn'.2 (Ows.any0 ts h5) rr;exact ⟨_,.cons a1 a2⟩
end
mutual
theorem jW:∀ t:D,az t=true->t.hasDict=false
 | .none,_=>by simp only [PyData.hasDict]
 | .bool _,_=>by simp only [PyData.hasDict]
 | .int _,_=>by simp only [PyData.hasDict]
 | .str _,_=>by simp only [PyData.hasDict]
 | .list ts,h=>by simp only [PyData.hasDict]; exact jb ts (by simpa [az] using h)
 | .tuple ts,h=>by simp only [PyData.hasDict]; exact jb ts (by simpa [az] using h)
 | .dict _,h=>by simp [az] at h
theorem jb:∀ ts:List D,ba ts=true->PyData.hasDictAll ts=false
 | [],_=>by simp only [PyData.hasDictAll]
 | t :: ts,h=>by
  have h':az t=true/\ba ts=true:=by simpa [ba] using h
  simp only [PyData.hasDictAll,jW t h'.1,jb ts h'.2,Bool.or_self]
end
def tj:List D->Option D
 | [.dict []]=>some (.str "{}")
 | [t]=>grd (az t=true/\t.showable=true/\t.depth<=60/\t.shown.length<=sizeLine) (.str t.shown)
 | _=>none
def Ei (hK:X.K=K) (hg:X.A.guards=some []) (hu:X.A.units+64 < cLine):CallR X (.builtin "repr") (rFn K tj 3):=by
 subst hK;intro pins s σ H xs us Q I r ⟨O,as,t,oa,hd,hr,k⟩;unfold tj at hr;split at hr
 ·cases hr;obtain ⟨v,rfl,o⟩:=oa.one;obtain ⟨a,vs,rfl,g1,g2⟩:=o.dict0 rfl;have e:vs=[]:=g2;subst e;exact uj hg hu pins s σ H _ us Q I r ⟨_,_,rfl,.inr ⟨a,rfl,g1,rfl⟩,k _ H NoA .refl rfl⟩
 ·next d hne =>
  obtain ⟨⟨c1,c2,c3,c4⟩,rfl⟩:=cJ hr;obtain ⟨v,rfl,o⟩:=oa.one;obtain ⟨u,rfl,ru⟩:=bW r;obtain ⟨as,rd⟩:=Ow.reads I d c1 o ru;have q:=k (.str d.shown) H NoA .refl rfl;cases d with
  | none =>
   cases (show v=V.non from o);cases ru;have e:(PyData.none).shown=("None" : Str):=PyData.shown_none;rw [e] at q;exact P.repr_of_none ⟨.str _,H,I.tok _,⟨_,rfl⟩,q⟩
  | bool b =>
   cases (show v=V.bl b from o);cases ru;have e:(PyData.bool b).shown=(if b then "True" else "False" : Str):=PyData.shown_bool b;rw [e] at q;exact P.repr_of_bool ⟨.str (if b then "True" else "False"),H,I.tok _,⟨_,rfl⟩,q⟩
  | int i =>
   cases (show v=V.int i from o);obtain ⟨t,rfl⟩:=ru;have e:(PyData.int i).shown=((toString i:String):Str):=PyData.shown_int i;rw [e] at q;have hl:i.natAbs.log2 < 1920:=by simpa [PyData.showable] using c2
   exact P.repr_of_int hl ⟨.str _,H,I.tok _,⟨_,rfl⟩,q⟩
  | str y =>
   cases (show v=V.str y from o);obtain ⟨t,rfl⟩:=ru;have e:(PyData.str y).shown=reprText y:=PyData.shown_str y;rw [e] at q c4;exact P.repr_of_str ⟨.str _,H,I.tok _,⟨_,rfl⟩,q⟩ c4
  | list ts =>
   obtain ⟨p,vs,rfl,_,_⟩:=o.lst0;cases ru;exact repr_of_reads' rd c2 (PyData.noDict_hsm (jW _ c1)) hg (by omega) (fun _ _ e=>e) (fun h' u tk hk=>⟨.str _,H,I.kept (t':=tk) hk,⟨_,rfl⟩,q⟩) c4
  | tuple ts =>
   obtain ⟨p,vs,rfl,_,_⟩:=o.tup0;cases ru;exact repr_of_reads' rd c2 (PyData.noDict_hsm (jW _ c1)) hg (by omega) (fun _ _ e=>e) (fun h' u tk hk=>⟨.str _,H,I.kept (t':=tk) hk,⟨_,rfl⟩,q⟩) c4
  | dict _=>simp [az] at c1
 ·cases hr
end
section
open PySem.SeqAt Classical
variable {X:Cx} {K:PySem.W.Frag} {pins:List (Addr × Obj)} {σ:St} {H:Hp} {s:Shared} {O:AS}
end
section
variable {K:PySem.W.Frag} {O:AS} {H:Hp}
end
abbrev MP:=En->Option (List Nat × En)
section
variable {X:Cx} {K:PySem.W.Frag} {p p1 p2:Bool} {J:Jd} {ds ds1 ds2:List Nat} {H:Hp} {σ:St} {d d1 d2 i m:Nat} {f fk fe:ME} {mp:MP} {e b o:Expr} {Q:VK}
end
def DT {P:Program} {w:World} {K:PySem.W.Frag} {mg:Str->Option Value} {base:Heap} {k dr:Nat} {x:Str} {ps:List Str} {dps:List Nat} {f:Addr} {fd:FuncData} (m:mg x=some (.ref f)) (hk:PySem.W.keepIn K (.ref f)=true) (b:Binds K fd ps []):Kn P w K mg base k x ps (spF K dps dr fun _=>none) :=
 ⟨f,fd,⟨fun vs H Q E ⟨_,_,_,_,_,_,z,_⟩=>(nomatch z),fun A outer s H args us vs Q E _ _ _ _ ⟨_,_,_,_,_,_,z,_⟩=>(nomatch z)⟩,m,hk,b⟩
def cq (f:Nat->Str):Nat->List Str
 | 0=>[]
 | i+1=>if (cq f i).any (· == f i)=true then cq f i else cq f i++[f i]
def iZ (f:Nat->Str) (i:Nat):cq f (i+1)=if (cq f i).any (· == f i)=true then cq f i else cq f i++[f i]:=rfl
def oJ (f:Nat->Str):∀ i,(cq f i).length<=i
 | 0=>zav _
 | i+1=>by
  have h:=oJ f i;rw [iZ];by_cases q:(cq f i).any (· == f i)=true
  ·rw [if_pos q]; omega
  ·rw [if_neg q,zae]; show _+1<=_; omega
def wD (f:Nat->Str) (i:Nat) (x:Str):(cq f (i+1)).any (· == x)=((cq f i).any (· == x) || decide (x=f i)):=by
 rw [iZ];by_cases q:(cq f i).any (· == f i)=true
 ·rw [if_pos q];by_cases e:x=f i
  ·rw [e,q,zaB rfl]; rfl
  ·rw [zaA e,Bool.or_false]
 ·rw [if_neg q,List.any_append];congr 1;by_cases e:x=f i
  ·rw [e,zaB rfl]; simp
  ·rw [zaA e];simp only [List.any_cons,List.any_nil,Bool.or_false,beq_eq_false_iff_ne];exact fun z=>e z.symm
def wC (f:Nat->Str) (i:Nat):(cq f (i+1)).length=if (cq f i).any (· == f i) then (cq f i).length else (cq f i).length+1:=by
 rw [iZ];by_cases q:(cq f i).any (· == f i)=true
 ·rw [if_pos q,if_pos q]
 ·rw [if_neg q,if_neg q,zae]; rfl
abbrev SetS (P:Program) (w:World) (h:Heap) (a:Addr) (f:Nat->Str) (n:Nat):Prop:=h.SetOf (strKind P w) a (fun k=>(cq f n).any (· == k)) (cq f n).length
section
variable {P:Program} {w:World} {A:Around} {R:Result->Shared->Prop} {I:Addr} {fp wr:List Addr} {G:Array GenState->Array GenState->Prop} {n:Nat} {Pi:Nat->Value->Prop} {St:Nat->Shared->Prop}
def SetS.mv {h h':Heap} {a:Addr} {f:Nat->Str} {n:Nat} (x:SetS P w h a f n) (k:∀ o,h.get? a=some o->h'.get? a=some o):SetS P w h' a f n:=by
 obtain ⟨o,es,ep,t,e,r⟩:=x;exact ⟨o,es,ep,t,k o e,r⟩
def we (W:WalksS P w A.in1 I fp wr G n Pi St) (a:Addr) (ha:a ∉ fp) (f:Nat->Str) (hf:∀ i v,Pi i v->∃ t,v=.str (f i) t) (hb:n+1 < scanBound) :
  ∀ (k i:Nat) (s:Shared),n - i=k->i<=n->St i s->SetS P w s.heap a f i ->
   (∀ s',Moved (a :: wr) G s s'->SetS P w s'.heap a f n->R (.ok (.ret .none)) s')->codeAny (model P w) A (.builtin "set.update.loop" ⟨[.ref a,.ref I],[]⟩) R s:=by
 have hw:a ∉ wr:=fun h=>ha (W.sub _ h);intro k
 induction k with
 | zero =>
  intro i s hk hi st hS q;obtain rfl:i=n:=by omega
  refine codeAny_builtin PyProof.Rows.F.entry_set_update_loop ?_;rw [Around.under_plainId PyProof.Rows.F.plain_set_update_loop _];show wpAny _ _ (pyNext (.ref I) >>= _) _ _ s;exact zam (W.done s _ _ st fun s1 m=>zaT (q s1 (m.mono fun b h=>zaj _ h) (hS.mv fun o e=>m.heap a o hw e)))
 | succ k ih =>
  intro i s hk hi st hS q;have lt:i < n:=by omega
  refine codeAny_builtin PyProof.Rows.F.entry_set_update_loop ?_;rw [Around.under_plainId PyProof.Rows.F.plain_set_update_loop _];show wpAny _ _ (pyNext (.ref I) >>= _) _ _ s;refine zam (W.item i s _ _ lt st fun v s1 hv st1 m=>?_);obtain ⟨t,rfl⟩:=hf i v hv;have h1:SetS P w s1.heap a f i:=hS.mv fun o e=>m.heap a o hw e;show wpAny _ _ (holding [Value.str (f i) t] (setAdd a (.str (f i) t)) >>= _) _ _ s1;refine zam (wpAny_holding ?_);unfold setAdd;refine wpAny_holding (zam ((strKind P w).pyHash (k:=f i) (strKind_is P w (f i) t) ?_));have le:=oJ f i;refine wpAny_setAddHashed_of (knd:=strKind P w) (s:={ s1 with toks:=s1.toks+1 }) (strKind_is P w (f i) t) rfl h1 (by omega) fun h2 sb h3=>?_;have h4:SetS P w h2 a f (i+1):=SetOf_congr h3 (fun x=>(wD f i x).symm) (wC f i).symm;refine zaT ⟨plainId_quiet PyProof.Rows.F.plain_set_update_loop _,ih (i+1) _ (by omega) lt (W.frame _ s1 _ _ st1 (Nat.le_succ _) fun b hb o e=>?_) h4 fun s3 m3 h5=>?_⟩
  ·rw [sb.2 b fun z=>ha (z ▸ hb)]; exact e
  ·refine q s3 (Moved.trans W.gtrans ((m.mono fun b h=>zaj _ h).then_heap (Nat.le_succ _) fun b o hb e=>?_) m3) h5;rw [sb.2 b fun z=>hb (z ▸ zaq)]; exact e
end
section
variable {P:Program} {w:World} {A:Around} {E:Value->Shared->Prop} {s:Shared}
def rK:isSubtype (.type "str") (.type "set")=pure false:=by rw [isSubtype_type]; kernel_rfl
def lV:isSubtype (.type "str") (.type "frozenset")=pure false:=by rw [isSubtype_type]; kernel_rfl
def dY (z:Str) (i:Nat):Str:=match z.cps[i]? with
 | some c=>mk1 c
 | none=>""
abbrev np (led:Bool):Obj:={ cls:=.type "set",dict:=none,data:=.set #[] 0 (.fresh 0 0 led) }
def pZ {z:Str} {t:Tok} {Q:Value->Shared->Prop} (hh:A.handled=none) (hb:z.length+1 < scanBound)
  (h:∀ (h':Heap) (tk:Nat),SetS P w h' s.heap.objs.size (dY z) z.length->(∀ b o,b < s.heap.objs.size->s.heap.get? b=some o->h'.get? b=some o)->Q (.ref s.heap.objs.size) { s with heap:=h',toks:=tk }) :
  wpAny (model P w) A (call (.type "set") [.str z t]) Q E s:=by
 obtain ⟨c,tl,e0⟩:=PySem.F.called_set.mro;have e1:=PySem.F.called_set.made;have e2:=PySem.F.called_set.sub;refine wpAny_call (codeAny_of_tree ?_);show wpAny _ _ (callAny (.type "set") ⟨[.str z t],[]⟩) _ _ _;refine zaT ⟨Code.quiet_builtin _ (by decide +kernel),codeAny_builtin PySem.F.entry_type_call ?_⟩;rw [Around.under_plain (weight_type_call_type "set" [.str z t] []) rfl];have e3:=PySem.F.called_set.notType;have e4:=PySem.F.called_set.canCreate;have e5:=PySem.F.typeCall_set_1 (.str z t)
 repeat (any_goals (first | assumption | wp_step))
 refine codeAny_mono (code_set_new_1 (.str z t) (E:=E) (Q₁:=fun obj s1=>∃ led:Bool,obj=.ref s.heap.objs.size/\s1={ s with heap:=s.heap.push (np led) }) fun led=>⟨led,rfl,rfl⟩) fun r s1 hr=>?_;cases r with
 | error e=>exact hr
 | ok fl =>
  cases fl with
  | ret obj =>
   obtain ⟨led,rfl,rfl⟩:=hr;have g0:(s.heap.push (np led)).get? s.heap.objs.size=some (np led):=zan _ rfl;have hT:Shared.TypeIs { s with heap:=s.heap.push (np led) } (.ref s.heap.objs.size) "set":=⟨_,g0,rfl⟩;have i1:=PySem.F.called_set.init.lookup;have i2:=PySem.F.called_set.init.bind (.ref s.heap.objs.size)
   repeat (any_goals (first | assumption | wp_step))
   refine codeAny_mono (codeAny_call_builtin (R:=wants (fun r s2=>r=.none/\∃ h' tk,s2={ s with heap:=h',toks:=tk }/\SetS P w h' s.heap.objs.size (dY z) z.length /\
     ∀ b o,b < s.heap.objs.size->s.heap.get? b=some o->h'.get? b=some o) E) PySem.F.called_set.init.plain PySem.F.entry_set_init (check_set_init_1 hT ?_)) fun r2 s2 hr2=>?_
   ·have j1:=rK;have j2:=lV;have j3:(Value.type "str" == Value.type "dict")=false:=by decide
    unfold Builtin.«set.__init__» noKeywords Builtin.Frozenset.updateFrom;generalize hPI:pyIter=PI
    wp_walk
    subst hPI;refine wpAny_pyIter_str fun o St W w0=>?_;refine zam (wpAny_runValue ?_);have hne:s.heap.objs.size ∉ [(s.heap.push (np led)).objs.size]:=by rw [Heap.size_push]; simp
    refine we ((W _ (by simp [hh])).toS) s.heap.objs.size hne (dY z) (fun i v ⟨c,u,ec,ev⟩=>⟨u,by rw [ev]; unfold dY; rw [ec]; rfl⟩) hb (z.length - 0) 0 _ rfl (Nat.zero_le _) w0 ?_ ?_
    ·exact SetOf_congr ((setObjOf_fresh (knd:=strKind P w) led).setOf (zaf _ g0) (by unfold scanBound; omega)) (fun _=>rfl) rfl
    ·intro s3 m h3;obtain ⟨h',g',d',tk,os'⟩:=s3;obtain rfl:g'=s.gens:=m.gens;obtain rfl:d'=s.drawn:=m.drawn;obtain rfl:os'=s.os:=m.os;refine zaT (zaT ⟨rfl,h',tk,rfl,h3,fun b o hb e=>?_⟩);refine m.heap b o ?_ (zaf _ (zaf _ e));simp only [zay,zap,or_false,not_or];exact ⟨zaw hb,zaw (zag hb (by rw [Heap.size_push]; omega))⟩
   ·cases r2 with
    | error e=>exact hr2
    | ok fl2 =>
     cases fl2 with
     | ret r =>
      obtain ⟨rfl,h',tk,rfl,h3,hk⟩:=hr2
      repeat (any_goals (first | assumption | wp_step))
      exact h _ _ h3 hk
     | _=>exact hr2.elim
  | _=>exact hr.elim
end
section
variable {X:Cx} {K:PySem.W.Frag} {p p1 p2:Bool} {ds ds1 ds2:List Nat} {d d1 d2:Nat} {e k:Expr} {f f1 f2:ME} {fa:MA} {sh:Sh} {σ:St} {H:Hp} {Q Q':VK} {pos pos2 px py:Pos}
def GU (h:∀ v H,Q v H->Q' v H):tF K p ds ds1 d f σ H Q->tF K p ds ds1 d f σ H Q'
 | ⟨Ox,en,R,t,en',e,hf,k⟩=>⟨Ox,en,R,t,en',e,hf,fun v H' R' F P o=>h _ _ (k v H' R' F P o)⟩
def tf (P:Program) (w:World) (a:Addr) (z:Str):HO:=.ext fun h=>SetS P w h a (dY z) z.length
def Jf (P:Program) (w:World):List V->Hp->VK->Prop:=fun xs H Q=>∃ z,xs=[.str z]/\z.length+1 < scanBound/\∀ a,H a=none->Q (.ref a) (upd H a (tf P w a z))
def vL (hc:X.calm=true):CallR X (.type "set") (Jf X.prog X.w):=by
 intro pins s σ H xs us Q I r ⟨z,e,hb,q⟩;subst e;obtain ⟨u,rfl,ru⟩:=bW r;obtain ⟨t,rfl⟩:=ru;refine pZ (I.ok.hd hc) hb fun h' tk hS hk=>⟨.ref _,_,I.laid (a:=s.heap.objs.size) (o:=tf X.prog X.w s.heap.objs.size z) (t':=tk) (fun b o e=>hk b o (zal e) e) (zav _) ?_,rfl,q _ (I.hok.fresh (zav _))⟩;have h2:=hS;obtain ⟨o,_,_,_,e,_⟩:=h2;exact ⟨hS,⟨o,e⟩,fun h1 h2 a k=>a.mv k⟩
def Jh (P:Program) (w:World):List V->Hp->VK->Prop:=fun xs H Q=>∃ a z,xs=[.ref a]/\H a=some (tf P w a z)/\z.length < 4096/\Q (.int (cq (dY z) z.length).length) H
def vP:CallR X (.builtin "len") (Jh X.prog X.w):=by
 intro pins s σ H xs us Q I r ⟨a,z,e,ha,hz,q⟩;subst e;obtain ⟨u,rfl,ru⟩:=bW r;cases ru;obtain ⟨⟨o,es,ep,t,g1,g2,g3,_,_,_,g5,g6⟩,_⟩:=I.hok a _ ha;have le:=oJ (dY z) z.length;have e:(es.size:Int)=((cq (dY z) z.length).length:Nat):=by rw [g6]
 refine call_len_set g1 g2 g3 g5 (by omega) ⟨.int es.size,H,(I.tok _).tok _,⟨_,rfl⟩,?_⟩;rw [e];exact q
def nr:D->Option D
 | .str z=>grd (z.length < 4000) (.int (cq (dY z) z.length).length)
 | _=>none
def vy (hK:X.K=K) (hc:X.calm=true) (hg:Gl X "len") (hm:X.mg "len"=none) (hg2:Gl X "set") (hm2:X.mg "set"=none) (hb:bootBuiltins "len"=some (.builtin "len")) (hb2:bootBuiltins "set"=some (.type "set")) (he:PE X e (tF K p ds ds1 d1 f)) (hs:aH e=true) :
  PE X (.Call (.Name "len" px) [.Call (.Name "set" py) [e] [] pos2] [] pos) (tF K p ds ds1 3 (e1 nr f)):=by
 subst hK;refine (jV vP hg hm hb (cy (pk (vL hc) hg2 hm2 hb2 (cy he pa_nil (bd hs)) (by decide) (by decide) (bd hs) rfl) pa_nil (bd rfl)) (by decide) (by decide) (bd rfl) rfl).imp fun σ H Q h=>?_;obtain ⟨Ox,en,R,t,en',e,hf,k⟩:=h;unfold e1 at hf;obtain ⟨⟨t1,en1⟩,h1,hf⟩:=zaa.mp hf;obtain ⟨t',h3,hf⟩:=zab.mp hf;cases hf;cases t1 with
 | str z =>
  obtain ⟨c,rfl⟩:=cJ h3;refine ⟨Ox,en,R,.str z,en1,e,h1,fun v H' R' F P o=>?_⟩;refine ⟨z,by rw [show v=.str z from o],by unfold scanBound; omega,fun a ha=>?_⟩;refine ⟨a,z,rfl,aJ,by omega,?_⟩;have n:NewTo H' (upd H' a (tf X.prog X.w a z)) NoA:=⟨(bT ha).1,fun _ z=>z.elim⟩;exact k _ _ R' NoA (P.fin n) rfl
 | _=>cases h3
def KH:D->D->Option D
 | .list ts,.int (-1)=>some (.list ts.reverse)
 | _,_=>none
def KA:D->D->Option D
 | .tuple ts,.int (-1)=>some (.tuple ts.reverse)
 | _,_=>none
def KB:D->D->Option D
 | .str z,.int (-1)=>grd (z.length<=sizeLine) (.str ⟨z.cps.toList.reverse.toArray⟩)
 | _,_=>none
def Ku (fa:MA):MI:=fun en=>(fa en).bind fun r=>match r.1 with
 | [.inl (.str x),.inl (.str y)]=>some (eG (eT x) (eT y),r.2)
 | _=>none
def isB:D->D->Option D
 | .bool a,.bool b=>some (.bool (a == b))
 | _,_=>none
end
section
variable {X:Cx} {K:PySem.W.Frag} {pins:List (Addr × Obj)} {σ:St} {H:Hp} {s:Shared} {O:AS}
def Inv.noSeq (I:Inv X pins σ H s) {a:Addr} {o:Obj} {xs:Array Value} {n:Nat} (h:s.heap.get? a=some o) (d:o.data=.seq xs n):sysModules≠a:=by
 intro e;obtain ⟨mm,hm⟩:=I.mod.mods;obtain ⟨ob,es,ep,g1,g2,_⟩:=hm.keeps I.bk;rw [e,h] at g1;cases g1;rw [d] at g2;cases g2
def jT {h:Heap}:∀ (kk:List Key) {its:List Value},Vals (kk.map kV) its->ReadsAll h its (kk.map kD) []
 | [],_,r=>by cases r; exact .nil
 | .inl i :: kk,_,r=>by
  cases r with
  | cons ru rr =>
   obtain ⟨t,rfl⟩:=ru;exact .cons (as:=[]) (bs:=[]) (.int i t) (jT kk rr)
 | .inr x :: kk,_,r=>by
  cases r with
  | cons ru rr =>
   obtain ⟨t,rfl⟩:=ru;exact .cons (as:=[]) (bs:=[]) (.str x t) (jT kk rr)
mutual
def noX:D->Bool
 | .list ts=>oI ts
 | .tuple ts=>oI ts
 | .dict ks=>!isX (.dict ks) && kR ks
 | _=>true
def oI:List D->Bool
 | []=>true
 | t :: ts=>noX t && oI ts
def kR:List (D × D)->Bool
 | []=>true
 | (_,t) :: ts=>noX t && kR ts
end
def Ju {ks:List (D × D)} (h:noX (.dict ks)=true):kR ks=true:=by
 have:(!isX (.dict ks))=true/\kR ks=true:=by simpa [noX] using h
 exact this.2
mutual
theorem Ow.reads2 (I:Inv X pins σ H s):∀ (t:D) {v:V} {u:Value},noX t=true->Ow X.K O H t 0 v NoA->RelV v u->∃ as,Reads s.heap u t as/\sysModules ∉ as
 | .none,_,_,hX,h,r=>by
  cases (show _=V.non from h);cases r;exact ⟨_,.none,by simp⟩
 | .bool b,_,_,hX,h,r=>by
  cases (show _=V.bl b from h);cases r;exact ⟨_,.bool _,by simp⟩
 | .int i,_,_,hX,h,r=>by
  cases (show _=V.int i from h);obtain ⟨t,rfl⟩:=r;exact ⟨_,.int _ _,by simp⟩
 | .str x,_,_,hX,h,r=>by
  cases (show _=V.str x from h);obtain ⟨t,rfl⟩:=r;exact ⟨_,.str _ _,by simp⟩
 | .list ts,_,_,hX,h,r=>by
  obtain ⟨p,vs,rfl,fz,w⟩:=h.lst0;cases r;obtain ⟨its,rv,pl,_⟩:=I.list fz.sq;obtain ⟨as,ra,rb⟩:=Ows.reads2 I ts (by simpa [noX] using hX) w rv;obtain ⟨o,n,e,e2,_,e3⟩:=pl;refine ⟨_,.list e e2 e3 (by simpa using ra),fun hm=>?_⟩;rcases zay.mp hm with z | z
  ·exact I.noSeq e e3 z
  ·exact rb z
 | .tuple ts,_,_,hX,h,r=>by
  obtain ⟨p,vs,rfl,fz,w⟩:=h.tup0;cases r;obtain ⟨its,rv,⟨o,e1,e2,n,e3⟩,_⟩:=I.tuple fz.sq;obtain ⟨as,ra,rb⟩:=Ows.reads2 I ts (by simpa [noX] using hX) w rv;exact ⟨_,.tuple e1 e2 e3 (by simpa using ra),rb⟩
 | .dict ks,_,_,hX,h,r=>by
  obtain ⟨a,vs,rfl,⟨_,ha,_,g2⟩ | ⟨z,_⟩ | ⟨_,⟨kk,b,hk,ha,_⟩ | ⟨cn,C,hk,_⟩⟩⟩:=h
  ·cases r;obtain ⟨_,hsys,us,kv,dd⟩:=nP I.hok ha;obtain ⟨o,es,n,g1,gc,g3,_,g5,_⟩:=dd;obtain ⟨bs,r1,r2,r3⟩:=Owd.reads2 I ks (Ju hX) g2 kv g5;refine ⟨_,.dict g1 gc.1 g3 r1 r2,fun hm=>?_⟩;have hm':sysModules=a\/sysModules∈bs:=by simpa using hm
   rcases hm' with e | e
   ·rw [<- e] at hsys;simp at hsys
   ·exact r3 e
  ·exact absurd rfl z
  ·cases r;subst hk;obtain ⟨_,hsys,xs,rel,o,es,ep,g1,gc,g3,g4,_⟩:=ug I.hok ha;cases rel with
   | @cons _ q _ _ rq rr =>
    cases rr;obtain ⟨q1,q2,q3⟩:=q;obtain ⟨e1,e2,e3⟩:=rq;have e3':q3=.bool b:=e3;subst e3';obtain ⟨its,rv,⟨ot,t1,t2,n,t3⟩,_⟩:=I.tuple (SqT.of e2);have rk:=jT (h:=s.heap) kk rv;refine ⟨_,.dict g1 gc.1 g3 (as:=[]) (bs:=[]) ?_ ?_,fun hm=>?_⟩
    ·rw [g4];exact .cons (as:=[]) (bs:=[]) (.tuple t1 t2 t3 (by simpa using rk)) .nil
    ·rw [g4];exact .cons (as:=[]) (bs:=[]) (.bool b) .nil
    ·have hm':sysModules=a:=by simpa using hm
     rw [<- hm'] at hsys;simp at hsys
  ·subst hk
   have:(!isX (.dict [(.none,.str cn)]))=true/\kR [(.none,.str cn)]=true:=by simpa [noX] using hX
   cases this.1
theorem Ows.reads2 (I:Inv X pins σ H s):∀ (ts:List D) {vs:List V} {us:List Value},oI ts=true->Ows X.K O H ts 0 vs NoA->Vals vs us->∃ as,ReadsAll s.heap us ts as/\sysModules ∉ as
 | [],_,_,hX,h,r=>by
  cases (show _=[] from h);cases r;exact ⟨_,.nil,by simp⟩
 | t :: ts,_,_,hX,h,r=>by
  have hX':noX t=true/\oI ts=true:=by simpa [oI] using hX
  obtain ⟨v,q,F1,F2,e,_,_,_,h4,h5⟩:=h;subst e;cases r with
  | cons ru rr =>
   obtain ⟨as,a1,b1⟩:=Ow.reads2 I t hX'.1 (Ow.any0 t h4) ru;obtain ⟨bs,a2,b2⟩:=Ows.reads2 I ts hX'.2 (Ows.any0 ts h5) rr;exact ⟨_,.cons a1 a2,fun z=>(zax.mp z).elim b1 b2⟩
theorem Owd.reads2 (I:Inv X pins σ H s):∀ (ks:List (D × D)) {vs:List (Key × V)} {us:List (Key × Value)} {es:List DictEntry},kR ks=true->Owd X.K O H ks 0 vs NoA->KV vs us->Pairs (bO X.prog X.w) es us ->
  ∃ bs,ReadsAll s.heap (es.map fun x=>x.key) (ks.map fun x=>x.1) []/\ReadsAll s.heap (es.map fun x=>x.val) (ks.map fun x=>x.2) bs/\sysModules ∉ bs
 | [],_,_,_,hX,h,r,p=>by
  cases (show _=[] from h);cases r;cases p;exact ⟨_,.nil,.nil,by simp⟩
 | (k,t) :: ks,_,_,_,hX,h,r,p=>by
  have hX':noX t=true/\kR ks=true:=by simpa [kR] using hX
  obtain ⟨q,v,r',F1,F2,e,rfl,_,_,_,h4,h5⟩:=h;subst e;cases r with
  | cons ru rr =>
   cases p with
   | @cons e0 _ _ _ p1 p2 p3 =>
    obtain ⟨as,a1,b1⟩:=Ow.reads2 I t hX'.1 (Ow.any0 t h4) ru.2;obtain ⟨bs,a2,a3,b2⟩:=Owd.reads2 I ks hX'.2 (Owd.any0 ks h5) rr p3;have hk:Reads s.heap e0.key (kD q) []:=by
     have p1':j4 _ e0.key=true:=p1;rw [<- ru.1] at p1';rcases bQ p1' with ⟨i,t,e1,e2⟩ | ⟨x,t,e1,e2⟩
     ·have e1':q=Sum.inl i:=e1;rw [e1',e2];exact .int _ _
     ·have e1':q=Sum.inr x:=e1;rw [e1',e2];exact .str _ _
    exact ⟨as++bs,.cons hk a2,.cons (show Reads s.heap e0.val t as from p2 ▸ a1) a3,fun z=>(zax.mp z).elim b1 b2⟩
end
def lL:List D->Option D
 | [t]=>grd (noX t=true/\t.showable=true/\t.depth<=60/\t.shown.length<=sizeLine) (.str t.shown)
 | _=>none
def rj (hK:X.K=K) (hg:X.A.guards=some []) (hu:X.A.units+64 < cLine):CallR X (.builtin "repr") (rFn K lL 3):=by
 intro pins s σ H xs us Q I r ⟨O,as,t,oa,hd,hr,k⟩;by_cases hold:tj as=some t
 ·exact Ei hK hg hu pins s σ H xs us Q I r ⟨O,as,t,oa,hd,hold,k⟩
 subst hK;unfold lL at hr;split at hr
 ·next d =>
  obtain ⟨⟨cX,c2,c3,c4⟩,rfl⟩:=cJ hr;obtain ⟨v,rfl,o⟩:=oa.one;obtain ⟨u,rfl,ru⟩:=bW r;obtain ⟨as,rd,hs⟩:=Ow.reads2 I d cX o ru;have q:=k (.str d.shown) H NoA .refl rfl;obtain ⟨a,rfl⟩:∃ a,u=.ref a:=by
   cases d with
   | tuple ts =>
    obtain ⟨p,vs,rfl,_,_⟩:=o.tup0;exact ⟨p,ru⟩
   | list ts =>
    obtain ⟨p,vs,rfl,_,_⟩:=o.lst0;exact ⟨p,ru⟩
   | dict ks =>
    obtain ⟨a,vs,rfl,_⟩:=o;exact ⟨a,ru⟩
   | _ =>
    refine absurd ?_ hold;show grd _ _=_;exact if_pos ⟨rfl,c2,c3,c4⟩
  exact repr_of_reads' rd c2 (fun _=>hs) hg (by omega) (fun _ _ e=>e) (fun h' u tk hk=>⟨.str _,H,I.kept (t':=tk) hk,⟨_,rfl⟩,q⟩) c4
 ·cases hr
end
section
variable {X:Cx} {K:PySem.W.Frag} {p p1 p2:Bool} {ds ds1 ds2:List Nat} {d d1 d2:Nat} {a b:Expr} {f f1 f2:ME} {σ:St} {H:Hp} {Q Q':VK} {pos:Pos} {ta tb:TE} {rest:List Expr}
def tz:List D->Option D
 | [.str z]=>match z.cps.toList with
  | [c]=>some (.int (c:Nat))
  | _=>none
 | _=>none
def Ih:CallR X (.builtin "ord") (rFn K tz 3):=by
 intro pins s σ H xs us Q I r ⟨O,as,t,oa,hd,hr,k⟩;unfold tz at hr;split at hr
 ·next z =>
  split at hr
  ·next c hc =>
   cases hr;obtain ⟨v,rfl,o⟩:=oa.one;obtain ⟨u,rfl,ru⟩:=bW r;cases (show v=V.str z from o);obtain ⟨t,rfl⟩:=ru;have e:z=⟨#[c]⟩:=by
    obtain ⟨w⟩:=z;have e:w=#[c]:=Array.toList_inj.mp hc;rw [e]
   subst e;exact P.ord_of_char ⟨.int (c:Nat),H,I.tok _,⟨_,rfl⟩,k _ H NoA .refl rfl⟩
  ·cases hr
 ·cases hr
def Kk:D->Option Int->Option Int->Option D
 | .tuple ts,lo,hi=>grd (¬ (HT.sIx ts.length 0 lo=0/\HT.sIx ts.length ts.length hi=ts.length)) (.tuple (du ts lo hi))
 | _,_,_=>none
def Il (hK:X.K=K):SlR X (rFs K Kk 0):=(J8 hK).imp fun x lo hi H Q ⟨O,a,t,oa,hd,hg,k⟩=>by
 cases a with
 | tuple ts =>
  obtain ⟨c,rfl⟩:=cJ hg;obtain ⟨a,vs,e1,f1,w1⟩:=oa.tup0;refine ⟨a,vs,e1,f1.sq,by rw [w1.len]; exact c,fun p hp=>?_⟩;have w2:Ows K O H (du ts lo hi) 0 (ji vs lo hi) NoA:=by
   unfold du ji;rw [w1.len];exact (w1.drop _).take _
  exact k _ _ _ (lM hp hd w2).1 (lM hp hd w2).2
 | _=>cases hg
def J1:D->Option Bool
 | .none=>some false
 | .bool b=>some b
 | .list ts=>some (!ts.isEmpty)
 | .tuple ts=>some (!ts.isEmpty)
 | _=>none
def KN (f g:ME):ME:=fun en=>(f en).bind fun r=>(J1 r.1).bind fun c=>if c then some r else g r.2
end
section
variable {X:Cx} {K:PySem.W.Frag} {p p1 p2:Bool} {ds ds1 ds2:List Nat} {d d1 d2:Nat} {a b:Expr} {f f1 f2:ME} {σ:St} {H:Hp} {Q Q':VK} {pos:Pos}
end
end L2
namespace L2
open PySem PySem.Spec PyProof.Rows PySem.SeqAt PySem.MeetsSeq
section
variable {A:Around} {s:Shared}
end
section
variable {X:Cx} {pins:List (Addr × Obj)} {σ:St} {H:Hp} {s:Shared} {O:AS}
end
section
variable {X:Cx} {K:PySem.W.Frag}
end
def KK:D->D->Option D
 | .tuple ts,.int k=>grd (1<=k/\k<=1000/\ts.length<=1000) (.tuple (List.replicate k.toNat ts).flatten)
 | _,_=>none
section
variable {X:Cx} {K:PySem.W.Frag}
def KC:D->D->Option D
 | .int k,.str z=>grd (z.length<=4000/\1<=k/\k<=4000) (.str (Txt.mul z k))
 | _,_=>none
end
section
variable {X:Cx} {K:PySem.W.Frag} {p p1 p2:Bool} {ds ds1 ds2:List Nat} {d d1 d2:Nat} {e:Expr} {f f1 f2:ME} {σ:St} {H:Hp} {Q Q':VK}
def IM {g:D->D->Option D} {Ty:V->Hp->Prop} (ht:∀ a b t O x H F,g a b=some t->Ow K O H a d1 x F->Ty x H) (h:tF K (p1 && p2) ds ds2 d (e2 g f1 f2) σ H Q) :
  tF K p1 ds ds1 d1 f1 σ H fun x H1=>Ty x H1/\tF K p2 ds1 ds2 d2 f2 σ H1 fun y H2=>rF2 K g d x y H2 Q:=by
 obtain ⟨Ox,en,R,t,en',e,hf,k⟩:=h;unfold e2 at hf;obtain ⟨⟨t1,en1⟩,h1,hf⟩:=zaa.mp hf;obtain ⟨⟨t2,en2⟩,h2,hf⟩:=zaa.mp hf;obtain ⟨t',h3,hf⟩:=zab.mp hf;cases hf;refine ⟨Ox,en,R,t1,en1,e,h1,fun x H1 R1 F1 P1 o1=>⟨ht _ _ _ _ _ _ _ h3 o1,U F1 Ox,en1,R1,t2,en2,P1.env,h2,fun y H2 R2 F2 P2 o2=>?_⟩⟩;have P:=P1.trans P2;have o1':=Ow.over P1.env P2 o1;have o2':Ow K (Own R2 (U (U F1 F2) Ox)) H2 t2 d2 y F2:=lj ▸ o2;exact ⟨Own R2 Ox,t1,t2,t,Ow.letgo P (fun _=>.inl) o1',Ow.letgo P (fun _=>.inr) o2',P.doms,h3,fun v2 H3 F3 n o3=>k v2 H3 R2 F3 (P.fin n) (nX ▸ o3)⟩
def Iz {T:String} {o:Expr} {name:Str} {id:String} {apos cpos:Pos} {g:D->D->Option D} {Ty:V->Hp->Prop} (pa:PlainAttrs T) (slot:Slot T name id) (hty:typeOf (.builtin id)=pure (.type "method_descriptor"))
  (ht:∀ a b t O x H F,g a b=some t->Ow K O H a d1 x F->Ty x H) (hT:∀ pins s σ H x v,Inv X pins σ H s->RelV x v->Ty x H->s.TypeIs v T/\∀ a,v=.ref a->∃ ob,s.heap.get? a=some ob/\ob.dict=none)
  (hm:OpR X (fun v u=>call (.builtin id) [v,u]) (rF2 K g 3)) (ho:PE X o (tF K p ds ds1 d1 f1)) (he:PE X e (tF K p ds1 ds2 d2 f2))
  (hbase:attributeBase o name X.env (eval o X.env)=eval o X.env)
  (hfew:((backTo cpos (starEach [e] X.env)).all (fun x=>!x.1) && (backToKw cpos (keywordEach [] X.env)).all (fun x=>x.1.isSome) && decide (([e]:List Expr).length+([]:List Keyword).length+(if ([]:List Keyword).isEmpty then 0 else 1) < 30))=true)
  (hline:(apos.endLine == cpos.line)=true) (hs:starEach [e] X.env=[(false,eval e X.env)]) (hplain:(backTo cpos (starEach [] X.env)).any (·.1)=false) :
  PE X (.Call (.Attribute o name apos) [e] [] cpos) (tF K p ds ds2 3 (e2 g f1 f2)):=by
 intro pins s σ H Q I h;have h':=IM (p1:=p) (p2:=p) (ds1:=ds1) (d1:=d1) (d2:=d2) (Ty:=Ty) ht (by rw [Bool.and_self]; exact h);refine wpAny_Call_method_late hbase hfew hline rfl (thn (ho pins s σ H _ I h') fun v s1 ⟨x,H1,I1,r1,ty,q1⟩=>?_);obtain ⟨h1,h2⟩:=hT pins s1 σ H1 x v I1 r1 ty;refine ⟨T,id,pa,slot,hty,h1,h2,?_⟩;have hA:=cy he pa_nil hs cpos pins s1 σ H1 (fun xs H2=>∃ y,xs=[y]/\rF2 K g 3 x y H2 Q) I1 (GU (fun y H2 q=>⟨y,rfl,q⟩) q1);rw [hs] at hA ⊢;refine Calls.callWith_builtin (by show (false || (backTo cpos (starEach [] X.env)).any (·.1))=false; rw [hplain] <;> rfl) (Calls.evalArgs_plain ?_);refine thn hA fun us s2 ⟨vs,H2,I2,r2,y,e2,q2⟩=>?_;subst e2;obtain ⟨u,rfl,ru⟩:=bW r2;exact hm pins s2 σ H2 x y v u Q I2 r1 ru q2
end
def Kx:D->D->Option D
 | .tuple ts,b=>grd (az b=true/\ba ts=true/\fG ts<=60) (.int (ts.countP fun t=>peq t b:Nat))
 | _,_=>none
section
variable {X:Cx} {K:PySem.W.Frag} {p:Bool} {ds ds1 ds2:List Nat} {d d1 d2:Nat} {e:Expr} {f f1 f2:ME} {σ:St} {H:Hp} {Q Q':VK}
end
end L2
namespace L2
open PySem PySem.Spec PyProof.Rows HT
section
variable {prog:Program} {w:World} {A:Around} {E:Value->Shared->Prop} {s:Shared}
def lZ {t sl:Addr} {items:Array Value} {vl vu:Value} {lo hi:Option Int} {Q:Value->Shared->Prop} (ht:IsTup s.heap t items) (hs:s.heap.IsSliceOf sl vl vu .none) (pl:IsPart vl lo) (pu:IsPart vu hi)
  (hw:HT.sIx items.size 0 lo=0/\HT.sIx items.size items.size hi=items.size) (h:Q (.ref t) s):wpAny (model prog w) A (getItem (.ref t) (.ref sl)) Q E s:=by
 obtain ⟨os,hos,hcs,hds⟩:=id hs;have hTs:s.TypeIs (.ref sl) "slice":=⟨os,hos,hcs⟩;obtain ⟨ot,hot,hct,m,hdt⟩:=id ht;obtain ⟨cls,dd,data,slo⟩:=ot;simp only at hct hdt;subst hct hdt;unfold getItem
 try with_reducible refine wpAny_holding ?_
 first | refine zam (zaT ?_) | skip
 refine zam (wpAny_sequenceKey ht.typeIs (by decide) (zam (wpAny_callSpecial?_slot (name:=Str.ofString "__getitem__") ht.typeIs PyProof.Rows.slot_tuple_getitem
  (wpAny_call_entry PyProof.Rows.slot_tuple_getitem ht.typeIs entry_tuple_getitem ?_ (args_tuple_getitem _ _)))))
 show wpAny _ _ (Builtin.Tuple.tupleItemsOf (.ref t) >>= _) _ _ s;refine zam (tupleItemsOf_ ht (zam (wpAny_typeOf hTs ?_)));rw [if_pos (by decide)];refine zam (iw hs pl pu ?_);rw [hw.1,hw.2];have h1:(((0:Nat):Int) == 0 && (1:Int) == 1 && (items.size - 0) == items.size)=true:=by simp
 show wpAny _ _ (if (((0:Nat):Int) == 0 && (1:Int) == 1 && (items.size - 0) == items.size)=true then _ else _) _ _ s;rw [if_pos h1]
 wp_walk using wpAny_loadPart' hot,wpAny_load hot
 exact ⟨_,rfl,zaT h⟩
end
def nQ:D->Option Int->Option Int->Option D
 | .tuple ts,lo,hi=>some (.tuple (du ts lo hi))
 | _,_,_=>none
section
variable {X:Cx} {K:PySem.W.Frag}
def oU (hK:X.K=K):SlR X (rFs K nQ 0):=by
 intro pins s σ H x v vl vu lo hi sl Q I rx hs pl pu ⟨O,a,t,oa,hd,hg,k⟩;cases a with
 | tuple ts =>
  by_cases hw:HT.sIx ts.length 0 lo=0/\HT.sIx ts.length ts.length hi=ts.length
  ·subst hK;obtain ⟨a,vs,rfl,fz,w⟩:=id oa.tup0;cases rx;obtain ⟨its,r,ht,hz⟩:=I.tuple fz.sq;have hlen:its.toArray.size=ts.length:=by rw [zai,<- w.len]; exact r.length.symm
   refine ⟨"tuple",_,PyProof.Rows.slot_tuple_getitem.lookup,ht.typeIs,?_⟩;refine lZ ht hs pl pu (by rw [hlen]; exact hw) ⟨.ref a,H,I,rfl,k _ H NoA .refl ?_⟩;cases hg;have e:du ts lo hi=ts:=by
    unfold du;rw [hw.1,hw.2];simp
   rw [e,gP];exact oa
  ·refine Il hK pins s σ H x v vl vu lo hi sl Q I rx hs pl pu ⟨O,.tuple ts,t,oa,hd,?_,k⟩;cases hg;show grd _ _=_;unfold grd;rw [if_pos hw]
 | _=>cases hg
end
end L2
namespace L2
open PySem PySem.Spec PyProof.Rows
section
variable {P:Program} {w:World} {A:Around} {E:Value->Shared->Prop} {s:Shared}
end
section
variable {X:Cx} {K:PySem.W.Frag} {p p1 p2:Bool} {ds ds1 ds2:List Nat} {d d1 d2:Nat} {e k:Expr} {f f1 f2:ME} {fa:MA} {sh:Sh} {σ:St} {H:Hp} {Q Q':VK} {pos pos2 px py:Pos}
end
end L2
namespace L2
open PySem PySem.Spec PyProof.Rows PySem.SeqAt PySem.MeetsSeq
section
variable {X:Cx} {K:PySem.W.Frag}
end
def Jb {α:Type} {M:Model} {A:Around} {Q:α->Shared->Prop} {E:Value->Shared->Prop} {s:Shared} {x y:Sem α} (h:x=y) (q:wpAny M A y Q E s):wpAny M A x Q E s:=h ▸ q
def wE:typeLookup (.type "str") (Str.ofString "__int__")=pure none:=by unfold typeLookup; kernel_rfl
def tN:typeLookup (.type "str") (Str.ofString "__index__")=pure none:=by unfold typeLookup; kernel_rfl
def tM:typeLookup (.type "str") (Str.ofString "__trunc__")=pure none:=by unfold typeLookup; kernel_rfl
noncomputable def Ke:{ T:Str->Tok->Sem Value // ∀ (z:Str) (t:Tok) (n:Int),(List.takeWhile (fun x=>x != 0) (if (z.cps.all fun x=>decide (x < 128))=true then z.cps.toList else Unicode.numberText z.cps.toList)).length<=640->T z t=mkInt n ->
  Meets (Builtin.«int.__new__» ⟨[.type "int",.str z t],[]⟩) (fun _ R s=>R (.ok (.ret (.int n s.toks))) { s with toks:=s.toks+1 }) } :=
 ⟨_,fun z t n hc hT=>.of_wp fun prog w A R s h=>by
  obtain ⟨hp,g,d,tk,os⟩:=s;have f1:=F.called_int.sub;have f2:=F.called_int.made;have f3:=wE;have f4:=tN;have f5:=tM
  wp_walk
  rw [if_pos hc]
  wp_walk
  refine Jb hT ?_
  wp_walk
  exact ⟨_,rfl,h⟩⟩
section
variable {X:Cx} {K:PySem.W.Frag}
end
section
variable {X:Cx} {K:PySem.W.Frag} {p p1 p2:Bool} {ds ds1 ds2:List Nat} {d d1 d2:Nat} {e:Expr} {f f1 f2:ME} {σ:St} {H:Hp} {Q Q':VK} {i:Nat}
def jC (z y:Str):List Str:=if (Builtin.Str.occurrences z y 0 z.length (z.length+1)).isEmpty then [z] else Builtin.Str.partsBetween z (Builtin.Str.occurrences z y 0 z.length (z.length+1)) y.length
def dA:D->D->Option D
 | .str z,.str y=>grd ((decide (z.length < y.length) || decide (Builtin.Str.strKind z < Builtin.Str.strKind y))=false/\(y.length == 0)=false/\z.length<=100000/\(jC z y).length<=100000) (.list ((jC z y).map .str))
 | _,_=>none
def pf:∀ (k:Nat) (ys:List Str),Vals (ys.map V.str) (strsFrom k ys)
 | _,[]=>.nil
 | k,y :: ys=>.cons ⟨_,rfl⟩ (pf (k+1) ys)
def pq (O:AS) (H:Hp) (d:Nat):∀ ys:List Str,Ows K O H (ys.map .str) d (ys.map V.str) NoA
 | []=>rfl
 | y :: ys=>⟨.str y,ys.map V.str,NoA,NoA,rfl,fun _ z=>z,fun _ z=>z,fun _ z=>z.elim,rfl,pq O H d ys⟩
def xa (hK:X.K=K):OpR X (fun v u=>call (.builtin "str.split") [v,u]) (rF2 K dA 3):=by
 subst hK;intro pins s σ H x y v u Q I rx ry ⟨O,a,b,t,oa,ob,hd,hg,k⟩;unfold dA at hg;split at hg
 case h_2=>cases hg
 next z w =>
 obtain ⟨⟨c1,c2,c3,c4⟩,rfl⟩:=cJ hg;cases (show x=V.str z from oa);cases (show y=V.str w from ob);obtain ⟨t1,rfl⟩:=rx;obtain ⟨t2,rfl⟩:=ry;have hf:H s.heap.objs.size=none:=I.hok.fresh (zav _);have sl:(100000:Nat)<=sizeLine:=by decide
 have fin:∀ (its:List Value) (tk:Nat),Vals ((jC z w).map V.str) its->EP X pins σ Q (.ref s.heap.objs.size) { s with heap:=s.heap.push { cls:=.type "list",data:=.seq its.toArray },toks:=tk }:=fun its tk rv=>by
  refine ⟨.ref _,_,I.lnew (t':=tk) rv (by rw [zad]; omega),rfl,k _ _ (fun b=>b=s.heap.objs.size) (bT hf) ?_⟩;exact ⟨_,_,rfl,.inr ⟨by decide,aJ,rfl,NoA,fun _ z=>z.elim,pq _ _ _ _⟩⟩
 by_cases he:(Builtin.Str.occurrences z w 0 z.length (z.length+1)).isEmpty=true
 ·refine call_meets F.slot_str_split (typeIs_str s z t1) F.entry_str_split (F.args_str_split_2 _ _) (meets_str_split_not_found z w t1 t2 c1 c2 he) ?_;have e:jC z w=[z]:=if_pos he;exact fin [.str z t1] s.toks (by rw [e]; exact .cons ⟨_,rfl⟩ .nil)
 ·have he':(Builtin.Str.occurrences z w 0 z.length (z.length+1)).isEmpty=false:=by simpa using he
  have e:jC z w=Builtin.Str.partsBetween z (Builtin.Str.occurrences z w 0 z.length (z.length+1)) w.length:=if_neg he;refine call_meets F.slot_str_split (typeIs_str s z t1) F.entry_str_split (F.args_str_split_2 _ _) (meets_str_split_sep z w t1 t2 c1 c2 he' (by omega) (by rw [<- e]; omega)) ?_;exact fin _ _ (by rw [e]; exact pf _ _)
def xg {o:Expr} {apos cpos:Pos} (hK:X.K=K) (ho:PE X o (tF K p ds ds1 d1 f1)) (he:PE X e (tF K p ds1 ds2 d2 f2))
  (hbase:attributeBase o "split" X.env (eval o X.env)=eval o X.env)
  (hfew:((backTo cpos (starEach [e] X.env)).all (fun x=>!x.1) && (backToKw cpos (keywordEach [] X.env)).all (fun x=>x.1.isSome) && decide (([e]:List Expr).length+([]:List Keyword).length+(if ([]:List Keyword).isEmpty then 0 else 1) < 30))=true)
  (hline:(apos.endLine == cpos.line)=true) (hs:starEach [e] X.env=[(false,eval e X.env)]) (hplain:(backTo cpos (starEach [] X.env)).any (·.1)=false) :
  PE X (.Call (.Attribute o "split" apos) [e] [] cpos) (tF K p ds ds2 3 (e2 dA f1 f2)):=by
 subst hK;refine Iz (Ty:=fun x _=>∃ z,x=V.str z) F.plainAttrs_str F.slot_str_split F.type_str_split (fun a b t O x H F hg o=>?_) (fun pins s σ H x v I r ty=>?_) (xa rfl) ho he hbase hfew hline hs hplain
 ·unfold dA at hg;split at hg
  ·exact ⟨_,o⟩
  ·cases hg
 ·obtain ⟨z,rfl⟩:=ty;obtain ⟨t,rfl⟩:=r;exact ⟨typeIs_str s z t,fun a e=>nomatch e⟩
end
section
variable {X:Cx} {K:PySem.W.Frag} {p p1 p2 q:Bool} {J:Jd} {ds ds0 ds1 ds2 ds' dsi dps:List Nat} {d d' d1 d2 dr:Nat} {a b c e tg iter:Expr} {es:List Expr} {st:Stmt} {rest body bodyB:List Stmt} {f f1 f2 fk fe:ME} {c1 c2:MT} {fa:MA} {sh:Sh} {pos px:Pos} {i:Nat} {x:Str} {m m1 m2:MS} {g:MG} {gs:List D->En->Option En} {fi:MI} {lk:List Nat}
end
end L2
namespace L2
open PySem PySem.Spec PyProof.Rows
structure ZApartT (z TI TO i1 i2 ta tb:Addr):Prop extends ZApart z TI TO i1 i2 where
 taz:ta≠z
 taTO:ta≠TO
 tai1:ta≠i1
 tai2:ta≠i2
 tbz:tb≠z
 tbTO:tb≠TO
 tbi1:tb≠i1
 tbi2:tb≠i2
def TSt (h:Heap) (i t:Addr) (x:Array Value) (k:Nat):Prop:=h.IsTupleIter i t k/\h.IsTuple t x
def TSt.ext {h h':Heap} {i t b:Addr} {x:Array Value} {k:Nat} (st:TSt h i t x k) (s:Heap.SameBut b h h') (n1:i≠b) (n2:t≠b):TSt h' i t x k :=
 ⟨let ⟨o,ho,r⟩:=st.1; ⟨o,s.extBut _ _ n1 ho,r⟩,let ⟨o,ho,r⟩:=st.2; ⟨o,s.extBut _ _ n2 ho,r⟩⟩
section
variable {prog:Program} {w:World} {A:Around} {E:Value->Shared->Prop} {s:Shared}
def on {z TI TO i1 i2:Addr} {k1 k2:Nat} {x1 x2:Array Value} {ta tb:Addr} {a b:Value} {Q:Value->Shared->Prop} (hh:A.handled=none) (D:ZApartT z TI TO i1 i2 ta tb)
  (hz:IsZip s.heap z TI TO .none) (hTI:IsPair s.heap TI (.ref i1) (.ref i2)) (hTO:IsPair s.heap TO a b)
  (h1:TSt s.heap i1 ta x1 k1) (h2:TSt s.heap i2 tb x2 k2) (hk1:k1 < x1.size) (hk2:k2 < x2.size)
  (hQ:∀ h' tk (c d:Value),x1[k1]?=some c->x2[k2]?=some d->IsZip h' z TI TO (rawInt s.heap.objs.size)->IsPair h' TO c d->h'.IsTupleIter i1 ta (k1+1)->h'.IsTupleIter i2 tb (k2+1) ->
   IsPair h' s.heap.objs.size c d->h'.objs.size=s.heap.objs.size+1 ->
   (∀ c o,c≠z->c≠TO->c≠i1->c≠i2->s.heap.get? c=some o->h'.get? c=some o)->Q (.ref s.heap.objs.size) { s with heap:=h',toks:=tk }) :
  wpAny (model prog w) A (Builtin.«zip.__next__» ⟨[.ref z],[]⟩) (fun fin s'=>∃ v,fin=.done (.ret v)/\Q v s') E s:=by
 show wpAny _ _ (field (.ref z) 2 >>= _) _ _ _;refine zam (wpAny_field hz rfl (x:=.bool false) rfl ?_);show wpAny _ _ (field (.ref z) 3 >>= _) _ _ _;refine zam (wpAny_field hz rfl (x:=.ref TI) rfl ?_);refine zam (wpAny_seqItems hTI rfl ?_);show wpAny _ _ (Builtin.SmallTypes.ownedTupleIsFree (.ref z) >>= _) _ _ _;refine zam ?_;unfold Builtin.SmallTypes.ownedTupleIsFree;refine zam (wpAny_field hz rfl (x:=.none) rfl (zaT ?_));simp only [if_true];refine zam (wpAny_rule ?_);refine zam (wpAny_field hz rfl (x:=.ref TO) rfl ?_);refine zam (wpAny_setField_rec hz (by simp) fun h₁ hz₁ hs₁=>?_)
 replace hz₁:IsZip h₁ z TI TO .ellipsis:=hz₁
 refine zam ?_;simp only [List.zipIdx_cons,List.zipIdx_nil,List.forIn_cons,List.forIn_nil];refine zam (zam (wpAny_onRaise ?_));show wpAny _ _ (Builtin.SmallTypes.nextOf (.ref i1) >>= _) _ _ _;refine zam ((gC hh i1 ta D.tai1 x1).item k1 _ _ _ hk1 (h1.ext hs₁ D.i1z D.taz) fun v1 h₂ tk2 hp1 h1₂ hs₂=>zaT ?_);have hc:x1[k1]?=some v1:=hp1;have hTO₂:IsPair h₂ TO a b:=hs₂.extBut _ _ D.TOi1 (hs₁.extBut _ _ D.TOz hTO);refine zam (wpAny_seqItems hTO₂ rfl ?_);refine zam (wpAny_updateSeq_pair hTO₂ fun h₃ hTO₃ hs₃=>?_)
 replace hTO₃:IsPair h₃ TO v1 b:=hTO₃
 refine zam (wpAny_letGo (zaT ?_));refine zam (zam (wpAny_onRaise ?_));show wpAny _ _ (Builtin.SmallTypes.nextOf (.ref i2) >>= _) _ _ _;refine zam ((gC hh i2 tb D.tbi2 x2).item k2 _ _ _ hk2 (((h2.ext hs₁ D.i2z D.tbz).ext hs₂ D.i12.symm D.tbi1).ext hs₃ D.TOi2.symm D.tbTO) fun v2 h₄ tk4 hp2 h2₄ hs₄=>zaT ?_);have hd:x2[k2]?=some v2:=hp2;have hTO₄:IsPair h₄ TO v1 b:=hs₄.extBut _ _ D.TOi2 hTO₃;refine zam (wpAny_seqItems hTO₄ rfl ?_);refine zam (wpAny_updateSeq_pair hTO₄ fun h₅ hTO₅ hs₅=>?_)
 replace hTO₅:IsPair h₅ TO v1 v2:=hTO₅
 refine zam (wpAny_letGo (zaT (zaT ?_)));refine zam (wpAny_seqItems hTO₅ rfl ?_);refine zam (wpAny_newTuple ?_);have hsz:h₅.objs.size=s.heap.objs.size:=by rw [hs₅.1,hs₄.1,hs₃.1,hs₂.1,hs₁.1]
 have hz₅:IsZip h₅ z TI TO .ellipsis:=hs₅.extBut _ _ D.TOz.symm (hs₄.extBut _ _ D.i2z.symm (hs₃.extBut _ _ D.TOz.symm (hs₂.extBut _ _ D.i1z.symm hz₁)));have hk₅:∀ c o,c≠z->c≠TO->c≠i1->c≠i2->s.heap.get? c=some o->h₅.get? c=some o:=fun c o c1 c2 c3 c4 e =>
  hs₅.extBut _ _ c2 (hs₄.extBut _ _ c4 (hs₃.extBut _ _ c2 (hs₂.extBut _ _ c3 (hs₁.extBut _ _ c1 e))))
 have h1₅:TSt h₅ i1 ta x1 (k1+1):=((TSt.ext h1₂ hs₃ D.TOi1.symm D.taTO).ext hs₄ D.i12 D.tai2).ext hs₅ D.TOi1.symm D.taTO;have h2₅:TSt h₅ i2 tb x2 (k2+1):=TSt.ext h2₄ hs₅ D.TOi2.symm D.tbTO;have hzlt:z < h₅.objs.size:=zal hz₅;show wpAny _ _ (Builtin.SmallTypes.ownedTupleHandOut (.ref z) (.ref h₅.objs.size) >>= _) _ _ _;refine zam ?_;unfold Builtin.SmallTypes.ownedTupleHandOut;have hz₆:IsZip (h₅.push { cls:=.type "tuple",data:=.seq #[v1,v2] }) z TI TO .ellipsis:=zaf _ hz₅;refine zam (wpAny_setField_rec hz₆ (by simp) fun h₇ hz₇ hs₇=>?_)
 replace hz₇:IsZip h₇ z TI TO (rawInt h₅.objs.size):=hz₇
 refine wpAny_setField_rec hz₇ (by simp) fun h₈ hz₈ hs₈=>?_
 replace hz₈:IsZip h₈ z TI TO (rawInt h₅.objs.size):=hz₈
 have up:∀ c o,c≠z->h₅.get? c=some o->h₈.get? c=some o:=fun c o c1 e=>hs₈.extBut _ _ c1 (hs₇.extBut _ _ c1 (zaf _ e));have hT₈:IsPair h₈ h₅.objs.size v1 v2:=hs₈.extBut _ _ (Nat.ne_of_gt hzlt) (hs₇.extBut _ _ (Nat.ne_of_gt hzlt) (zan _ rfl));have hz8:h₈.objs.size=h₅.objs.size+1:=by rw [hs₈.1,hs₇.1,Heap.size_push]
 rw [hsz] at hz₈ hT₈ hz8;refine zaT ⟨_,rfl,?_⟩;show Q (.ref h₅.objs.size) _;rw [hsz];exact hQ h₈ _ v1 v2 hc hd hz₈ (up _ _ D.TOz hTO₅) (let ⟨o,ho,r⟩:=h1₅.1; ⟨o,up _ _ D.i1z ho,r⟩) (let ⟨o,ho,r⟩:=h2₅.1; ⟨o,up _ _ D.i2z ho,r⟩) hT₈ hz8 fun c o c1 c2 c3 c4 e=>up c o c1 (hk₅ c o c1 c2 c3 c4 e)
def pP {z TI TO i1 i2:Addr} {k1 k2:Nat} {x1 x2:Array Value} {ta tb:Addr} {a b:Value} {Q:Fin->Shared->Prop} (hh:A.handled=none) (D:ZApartT z TI TO i1 i2 ta tb)
  (hz:IsZip s.heap z TI TO .none) (hTI:IsPair s.heap TI (.ref i1) (.ref i2)) (hTO:IsPair s.heap TO a b)
  (h1:TSt s.heap i1 ta x1 k1) (h2:TSt s.heap i2 tb x2 k2) (hend:k1=x1.size\/(k1 < x1.size/\k2=x2.size))
  (hE:∀ h' e tk,(∀ c o,c≠z->c≠TO->c≠i1->c≠i2->s.heap.get? c=some o->h'.get? c=some o)->(∃ o,h'.get? e=some o/\o.cls=.type "StopIteration")->E (.ref e) { s with heap:=h',toks:=tk }) :
  wpAny (model prog w) A (Builtin.«zip.__next__» ⟨[.ref z],[]⟩) Q E s:=by
 show wpAny _ _ (field (.ref z) 2 >>= _) _ _ _;refine zam (wpAny_field hz rfl (x:=.bool false) rfl ?_);show wpAny _ _ (field (.ref z) 3 >>= _) _ _ _;refine zam (wpAny_field hz rfl (x:=.ref TI) rfl ?_);refine zam (wpAny_seqItems hTI rfl ?_);show wpAny _ _ (Builtin.SmallTypes.ownedTupleIsFree (.ref z) >>= _) _ _ _;refine zam ?_;unfold Builtin.SmallTypes.ownedTupleIsFree;refine zam (wpAny_field hz rfl (x:=.none) rfl (zaT ?_));simp only [if_true];refine zam (wpAny_rule ?_);refine zam (wpAny_field hz rfl (x:=.ref TO) rfl ?_);refine zam (wpAny_setField_rec hz (by simp) fun h₁ hz₁ hs₁=>?_)
 replace hz₁:IsZip h₁ z TI TO .ellipsis:=hz₁
 refine zam ?_;simp only [List.zipIdx_cons,List.zipIdx_nil,List.forIn_cons,List.forIn_nil];refine zam (zam (wpAny_onRaise ?_));show wpAny _ _ (Builtin.SmallTypes.nextOf (.ref i1) >>= _) _ _ _;rcases hend with rfl | ⟨hk1,rfl⟩
 ·refine zam ((gC hh i1 ta D.tai1 x1).done _ _ _ (h1.ext hs₁ D.i1z D.taz) fun h₂ e hs₂ he=>?_);obtain ⟨oe,hoe,hce⟩:=he;have hz₂:IsZip h₂ z TI TO .ellipsis:=hs₂ _ _ D.i1z.symm hz₁;have hez:e≠z:=fun x=>by subst x; rw [hz₂] at hoe; cases hoe; simp at hce
  refine wpAny_setField_rec hz₂ (by simp) fun h₃ _ hs₃=>hE h₃ e _ (fun c o c1 _ c3 _ x=>hs₃.extBut _ _ c1 (hs₂ _ _ c3 (hs₁.extBut _ _ c1 x))) ⟨oe,hs₃.extBut _ _ hez hoe,hce⟩
 ·refine zam ((gC hh i1 ta D.tai1 x1).item k1 _ _ _ hk1 (h1.ext hs₁ D.i1z D.taz) fun v1 h₂ tk2 hp1 h1₂ hs₂=>zaT ?_);have hTO₂:IsPair h₂ TO a b:=hs₂.extBut _ _ D.TOi1 (hs₁.extBut _ _ D.TOz hTO);refine zam (wpAny_seqItems hTO₂ rfl ?_);refine zam (wpAny_updateSeq_pair hTO₂ fun h₃ hTO₃ hs₃=>?_);refine zam (wpAny_letGo (zaT ?_));refine zam (zam (wpAny_onRaise ?_));show wpAny _ _ (Builtin.SmallTypes.nextOf (.ref i2) >>= _) _ _ _;refine zam ((gC hh i2 tb D.tbi2 x2).done _ _ _ (((h2.ext hs₁ D.i2z D.tbz).ext hs₂ D.i12.symm D.tbi1).ext hs₃ D.TOi2.symm D.tbTO) fun h₄ e hs₄ he=>?_);obtain ⟨oe,hoe,hce⟩:=he;have hz₄:IsZip h₄ z TI TO .ellipsis:=hs₄ _ _ D.i2z.symm (hs₃.extBut _ _ D.TOz.symm (hs₂.extBut _ _ D.i1z.symm hz₁));have hez:e≠z:=fun x=>by subst x; rw [hz₄] at hoe; cases hoe; simp at hce
  refine wpAny_setField_rec hz₄ (by simp) fun h₅ _ hs₅=>hE h₅ e _ (fun c o c1 c2 c3 c4 x=>hs₅.extBut _ _ c1 (hs₄ _ _ c4 (hs₃.extBut _ _ c2 (hs₂.extBut _ _ c3 (hs₁.extBut _ _ c1 x))))) ⟨oe,hs₅.extBut _ _ hez hoe,hce⟩
def mw {z TI TO i1 i2:Addr} {k1 k2:Nat} {x1 x2:Array Value} {ta tb:Addr} {a b:Value} {Q:Option Value->Shared->Prop} (hh:A.handled=none) (D:ZApartT z TI TO i1 i2 ta tb)
  (hz:IsZip s.heap z TI TO .none) (hTI:IsPair s.heap TI (.ref i1) (.ref i2)) (hTO:IsPair s.heap TO a b)
  (h1:TSt s.heap i1 ta x1 k1) (h2:TSt s.heap i2 tb x2 k2) (hk1:k1 < x1.size) (hk2:k2 < x2.size)
  (hQ:∀ h' tk (c d:Value),x1[k1]?=some c->x2[k2]?=some d->IsZip h' z TI TO (rawInt s.heap.objs.size)->IsPair h' TO c d->h'.IsTupleIter i1 ta (k1+1)->h'.IsTupleIter i2 tb (k2+1) ->
   IsPair h' s.heap.objs.size c d->h'.objs.size=s.heap.objs.size+1 ->
   (∀ c o,c≠z->c≠TO->c≠i1->c≠i2->s.heap.get? c=some o->h'.get? c=some o)->Q (some (.ref s.heap.objs.size)) { s with heap:=h',toks:=tk }) :
  wpAny (model prog w) A (pyNext (.ref z)) Q E s:=by
 have hT:s.TypeIs (.ref z) "zip":=⟨_,hz,rfl⟩;unfold pyNext;exact zam (wpAny_attempt (wpAny_callSpecial?_slot (name:=Str.ofString "__next__") hT F.slot_zip_next
  (wpAny_call_entry F.slot_zip_next hT F.entry_zip_next
   (on hh D hz hTI hTO h1 h2 hk1 hk2 fun h' tk c d a1 a2 a3 a4 a5 a6 a7 a8 a9=>zaT (hQ h' tk c d a1 a2 a3 a4 a5 a6 a7 a8 a9)) (F.args_zip_next_1 _))))
def nj {z TI TO i1 i2:Addr} {k1 k2:Nat} {x1 x2:Array Value} {ta tb:Addr} {a b:Value} {Q:Option Value->Shared->Prop} (hh:A.handled=none) (D:ZApartT z TI TO i1 i2 ta tb)
  (hz:IsZip s.heap z TI TO .none) (hTI:IsPair s.heap TI (.ref i1) (.ref i2)) (hTO:IsPair s.heap TO a b)
  (h1:TSt s.heap i1 ta x1 k1) (h2:TSt s.heap i2 tb x2 k2) (hend:k1=x1.size\/(k1 < x1.size/\k2=x2.size))
  (hQ:∀ h' tk,(∀ c o,c≠z->c≠TO->c≠i1->c≠i2->s.heap.get? c=some o->h'.get? c=some o)->Q none { s with heap:=h',toks:=tk }):wpAny (model prog w) A (pyNext (.ref z)) Q E s:=by
 have hT:s.TypeIs (.ref z) "zip":=⟨_,hz,rfl⟩;unfold pyNext;refine zam (wpAny_attempt (wpAny_callSpecial?_slot (name:=Str.ofString "__next__") hT F.slot_zip_next
  (wpAny_call_entry F.slot_zip_next hT F.entry_zip_next (pP hh D hz hTI hTO h1 h2 hend fun h' e tk hk he=>?_) (F.args_zip_next_1 _))))
 obtain ⟨o,ho,hc⟩:=he;refine zam (wpAny_isInstance (T:="StopIteration") (b:=true) ⟨o,ho,hc⟩ isSubtype_stop ?_);exact zaT (hQ _ tk hk)
end
abbrev zT1 (h:Heap) (a:Addr):Heap:=h.push { cls:=.type "tuple_iterator",data:=.fields #[.ref a,.int 0 0] }
abbrev zT2 (h:Heap) (a b:Addr):Heap:=(zT1 h a).push { cls:=.type "tuple_iterator",data:=.fields #[.ref b,.int 0 0] }
abbrev zT3 (h:Heap) (a b:Addr):Heap:=(zT2 h a b).push { cls:=.type "tuple",data:=.seq #[.ref h.objs.size,.ref (zT1 h a).objs.size] }
abbrev zT4 (h:Heap) (a b:Addr):Heap:=(zT3 h a b).push { cls:=.type "tuple",data:=.seq #[.none,.none] }
abbrev zT5 (h:Heap) (a b:Addr):Heap:=(zT4 h a b).push { cls:=.type "zip",data:=.fields #[.none,.bool false,.bool false,.ref (zT2 h a b).objs.size,.ref (zT3 h a b).objs.size] }
def oK (a b:Addr) (x y:Array Value) :
  Meets (Builtin.«zip.__new__» ⟨[.type "zip",.ref a,.ref b],[]⟩) (fun _ R s=>(s.heap.IsTuple a x/\s.heap.IsTuple b y)/\R (.ok (.ret (.ref (zT4 s.heap a b).objs.size))) { s with heap:=zT5 s.heap a b }) :=
 .of_wp fun prog w A R s h=>by
  obtain ⟨hp,g,d,tk,os⟩:=s;obtain ⟨⟨ha,hb⟩,h⟩:=h;have hsub:isSubtype (.type "zip") (.type "zip")=pure true:=by rw [isSubtype_type]; kernel_rfl
  have hb':=hb.push { cls:=.type "tuple_iterator",data:=.fields #[.ref a,.int 0 0] }
  wp_walk using wpAny_pyIter_tuple ha,wpAny_pyIter_tuple hb'
  exact ⟨_,rfl,h⟩
section
variable {prog:Program} {w:World} {A:Around} {E:Value->Shared->Prop} {s:Shared}
def vJ {a b:Addr} {x y:Array Value} {Q:Value->Shared->Prop}
  (ha:s.heap.IsTuple a x) (hb:s.heap.IsTuple b y) (h:∀ h',IsZip h' (s.heap.objs.size+4) (s.heap.objs.size+2) (s.heap.objs.size+3) .none->IsPair h' (s.heap.objs.size+2) (.ref s.heap.objs.size) (.ref (s.heap.objs.size+1)) ->
   IsPair h' (s.heap.objs.size+3) .none .none->h'.IsTupleIter s.heap.objs.size a 0->h'.IsTupleIter (s.heap.objs.size+1) b 0->h'.objs.size=s.heap.objs.size+5 ->
   (∀ c o,s.heap.get? c=some o->h'.get? c=some o)->Q (.ref (s.heap.objs.size+4)) { s with heap:=h' }) :
  wpAny (model prog w) A (call (.type "zip") [.ref a,.ref b]) Q E s:=by
 refine callType_new F.called_zip (by decide) (F.typeCall_zip_2 _ _) (F.newCall_zip_2 _ _) (fun obj=>F.args_object_init_3 obj _ _) F.entry_zip_new
  (oK a b x y) ?_
 have z1:(zT1 s.heap a).objs.size=s.heap.objs.size+1:=Heap.size_push ..;have z2:(zT2 s.heap a b).objs.size=s.heap.objs.size+2:=by rw [Heap.size_push,z1]
 have z3:(zT3 s.heap a b).objs.size=s.heap.objs.size+3:=by rw [Heap.size_push,z2]
 have z4:(zT4 s.heap a b).objs.size=s.heap.objs.size+4:=by rw [Heap.size_push,z3]
 have z5:(zT5 s.heap a b).objs.size=s.heap.objs.size+5:=by rw [Heap.size_push,z4]
 have g5:(zT5 s.heap a b).get? (zT4 s.heap a b).objs.size=some _:=zan _ rfl;have g4:(zT5 s.heap a b).get? (zT3 s.heap a b).objs.size=some _:=zaf _ (zan _ rfl);have g3:(zT5 s.heap a b).get? (zT2 s.heap a b).objs.size=some _:=zaf _ (zaf _ (zan _ rfl));have g2:(zT5 s.heap a b).get? (zT1 s.heap a).objs.size=some _:=zaf _ (zaf _ (zaf _ (zan _ rfl)));have g1:(zT5 s.heap a b).get? s.heap.objs.size=some _:=zaf _ (zaf _ (zaf _ (zaf _ (zan _ rfl))));refine ⟨⟨ha,hb⟩,?_⟩;show _/\_;rw [z2,z3,z4] at g5;rw [z1,z2] at g3;rw [z3] at g4;rw [z1] at g2;rw [z4];exact ⟨⟨_,g5,rfl⟩,h _ g5 g3 g4 ⟨_,g1,rfl,rfl⟩ ⟨_,g2,rfl,rfl⟩ z5 fun c o x =>
  zaf _ (zaf _ (zaf _ (zaf _ (zaf _ x))))⟩
end
def rJ {n a b:Nat} (ha:a < n) (hb:b < n):ZApartT (n+4) (n+2) (n+3) n (n+1) a b :=
 ⟨sR n,zaw (by omega),zaw (by omega),zaw (by omega),zaw (by omega),zaw (by omega),zaw (by omega),zaw (by omega),zaw (by omega)⟩
section
variable {X:Cx} {tg:Expr} {K:PySem.W.Frag}
def xB (K:PySem.W.Frag) (a b:Addr):It :=
 ⟨fun i H=>∃ xs ys x y,SqT K H a xs/\SqT K H b ys/\xs[i]?=some x/\ys[i]?=some y,
  fun i H v H'=>∃ p x y,v=.ref p/\H p=none/\H'=upd H p (.tup [x,y])/\(∀ xs,SqT K H a xs->xs[i]?=some x)/\(∀ ys,SqT K H b ys->ys[i]?=some y),
  fun i H=>∃ xs ys,SqT K H a xs/\SqT K H b ys/\(i=xs.length\/(i < xs.length/\i=ys.length))⟩
def uA {P:Program} {w:World} {elts:List Expr} {k:Nat} {tp:Pos} (z TI TO i1 i2 a b:Addr) (D:ZApartT z TI TO i1 i2 a b) :
  Turn P w K (.Tuple elts k tp) (xB K a b) [z,TI,TO,i1,i2] z (fun i h=>IsZip h z TI TO .none/\IsPair h TI (.ref i1) (.ref i2)/\(∃ u v,IsPair h TO u v)/\h.IsTupleIter i1 a i/\h.IsTupleIter i2 b i) where
 mem:=by simp
 obj:=fun i h st c hc=>by
  obtain ⟨h1,h2,⟨u,v,h3⟩,⟨o4,g4,_,d4⟩,⟨o5,g5,_,d5⟩⟩:=st;have hc':c=z\/c=TI\/c=TO\/c=i1\/c=i2:=by simpa using hc
  rcases hc' with rfl | rfl | rfl | rfl | rfl
  ·exact ⟨_,h1,fun v q=>by
    have q':Data.fields _=Data.cell v:=q;cases q'⟩
  ·exact ⟨_,h2,fun v q=>by
    have q':Data.seq _ _=Data.cell v:=q;cases q'⟩
  ·exact ⟨_,h3,fun v q=>by
    have q':Data.seq _ _=Data.cell v:=q;cases q'⟩
  ·exact ⟨o4,g4,fun v q=>by rw [d4] at q; cases q⟩
  ·exact ⟨o5,g5,fun v q=>by rw [d5] at q; cases q⟩
 keep:=fun i h h' st kp=>⟨kp z (by simp) _ st.1,kp TI (by simp) _ st.2.1,let ⟨u,v,e⟩:=st.2.2.1; ⟨u,v,kp TO (by simp) _ e⟩,st.2.2.2.1.at fun o q=>kp i1 (by simp) o q,st.2.2.2.2.at fun o q=>kp i2 (by simp) o q⟩
 item:=by
  intro X hP hw hK hc i pins s σ H E I hf st hg;subst hP hw hK;obtain ⟨xs,ys,x,y,hq,hq2,hx,hy⟩:=hg;obtain ⟨its,rv,p,hz⟩:=I.tuple hq;obtain ⟨its2,rv2,p2,hz2⟩:=I.tuple hq2;obtain ⟨u,hu,ru⟩:=rv.get hx;obtain ⟨u2,hu2,ru2⟩:=rv2.get hy;obtain ⟨hZ,hTI,⟨c1,c2,hTO⟩,hi1,hi2⟩:=st;have bd1:i < its.toArray.size:=by have:=(zah.mp hu).1; simpa using this
  have bd2:i < its2.toArray.size:=by have:=(zah.mp hu2).1; simpa using this
  refine mw (I.ok.hd hc) D hZ hTI hTO ⟨hi1,p⟩ ⟨hi2,p2⟩ bd1 bd2 fun h1 tk c d hcx hdx a1 a2 a3 a4 a5 a6 a7=>?_;have ec:u=c:=by
   have e:its[i]?=some c:=by simpa using hcx
   rw [hu] at e; exact zat e
  have ed:u2=d:=by
   have e:its2[i]?=some d:=by simpa using hdx
   rw [hu2] at e; exact zat e
  subst ec ed;refine ⟨_,rfl,wpAny_letOwnedTupleGo_zip a1 fun h2 hz2' hs2=>?_⟩;have zL:z < s.heap.objs.size:=zal hZ;have ht2:IsPair h2 s.heap.objs.size u u2:=(hs2.2 _ (Nat.ne_of_gt zL)).trans a5;have hTI2:IsPair h2 TI (.ref i1) (.ref i2):=(hs2.2 _ D.TIz).trans (a7 _ _ D.TIz D.TITO D.TIi1 D.TIi2 hTI);have hTO2:IsPair h2 TO u u2:=(hs2.2 _ D.TOz).trans a2;have hi1':h2.IsTupleIter i1 a (i+1):=(let ⟨o,ho,r⟩:=a3; ⟨o,hs2.extBut _ _ D.i1z ho,r⟩);have hi2':h2.IsTupleIter i2 b (i+1):=(let ⟨o,ho,r⟩:=a4; ⟨o,hs2.extBut _ _ D.i2z ho,r⟩);have I2:Inv X pins σ (upd H s.heap.objs.size (.tup [x,y])) { s with heap:=h2,toks:=tk }:=by
   refine I.turnedLaid (fp:=[z,TI,TO,i1,i2]) hf (zav _) (fun c ob hb q=>?_) (fun c hb=>?_) ?_
   ·have n1:c≠z:=fun e=>hb (by simp [e]);have n3:c≠TO:=fun e=>hb (by simp [e]);have n4:c≠i1:=fun e=>hb (by simp [e]);have n5:c≠i2:=fun e=>hb (by simp [e]);exact (hs2.2 c n1).trans (a7 c ob n1 n3 n4 n5 q)
   ·have hb':c=z\/c=TI\/c=TO\/c=i1\/c=i2:=by simpa using hb
    rcases hb' with rfl | rfl | rfl | rfl | rfl
    ·exact ⟨_,hz2'⟩
    ·exact ⟨_,hTI2⟩
    ·exact ⟨_,hTO2⟩
    ·obtain ⟨o,ho,_⟩:=hi1';exact ⟨o,ho⟩
    ·obtain ⟨o,ho,_⟩:=hi2';exact ⟨o,ho⟩
   ·refine ⟨(by show 2<=sizeLine; decide),[u,u2],.cons ru (.cons ru2 .nil),?_⟩;exact ⟨_,ht2,rfl,_,rfl,rfl⟩
  have fr:∀ c∈[z,TI,TO,i1,i2],upd H s.heap.objs.size (.tup [x,y]) c=none:=fun c hb=>by
   have hlt:c < s.heap.objs.size:=by
    have hb':c=z\/c=TI\/c=TO\/c=i1\/c=i2:=by simpa using hb
    rcases hb' with rfl | rfl | rfl | rfl | rfl
    ·exact zL
    ·exact zal hTI
    ·exact zal hTO
    ·obtain ⟨o,ho,_⟩:=hi1;exact zal ho
    ·obtain ⟨o,ho,_⟩:=hi2;exact zal ho
   rw [aO (zaw hlt)];exact (hf c hb).1
  exact ⟨.ref s.heap.objs.size,_,I2,rfl,⟨_,x,y,rfl,I.fresh,rfl,fun zs hz=>by rw [I.tuple_inj hz hq]; exact hx,fun zs hz=>by rw [I.tuple_inj hz hq2]; exact hy⟩,⟨hz2',hTI2,⟨_,_,hTO2⟩,hi1',hi2'⟩,fr⟩
 done:=by
  intro X hP hw hK hc i pins s σ H E I hf st hg;subst hP hw hK;obtain ⟨xs,ys,hq,hq2,he⟩:=hg;obtain ⟨its,rv,p,hz⟩:=I.tuple hq;obtain ⟨its2,rv2,p2,hz2⟩:=I.tuple hq2;obtain ⟨hZ,hTI,⟨c1,c2,hTO⟩,hi1,hi2⟩:=st;have l1:=rv.length;have l2:=rv2.length;have he':i=its.toArray.size\/(i < its.toArray.size/\i=its2.toArray.size):=by
   rw [zai,zai];omega
  exact nj (I.ok.hd hc) D hZ hTI hTO ⟨hi1,p⟩ ⟨hi2,p2⟩ he' fun h' tk eb=>⟨rfl,I.turnedMany (t':=tk) hf fun c o hb q=>eb c o (fun e=>hb (by simp [e])) (fun e=>hb (by simp [e])) (fun e=>hb (by simp [e])) (fun e=>hb (by simp [e])) q⟩
 self:=fun _ _ _ _ _ st h=>wpAny_pyIter_zip st.1 h
def Di (K:PySem.W.Frag) (ta:TA):TI:=fun σ H R=>ta σ H fun vs H1=>∃ a b,vs=[.ref a,.ref b]/\(∃ xs,SqT K H1 a xs)/\(∃ ys,SqT K H1 b ys)/\R (xB K a b) H1
def DG {l m:Expr} {ta:TA} {p pos:Pos} {elts:List Expr} {k:Nat} {tp:Pos} (hg:Gl X "zip") (hm:X.mg "zip"=none) (ha:PA X [l,m] ta) (hs:starEach [l,m] X.env=(false,eval l X.env) :: starEach [m] X.env:=by rfl) (hpl:(backTo pos (starEach [m] X.env)).any (·.1)=false:=by rfl) :
  PI X (.Tuple elts k tp) (.Call (.Name "zip" p) [l,m] [] pos) (Di X.K ta):=by
 intro pins s σ H R I h;refine Call_ (kW I hg hm boot_zip (PyProof.Rows.callWith_type1 (thn (ha pos pins s σ H _ I h) fun us s1 ⟨vs,H1,I1,r1,q1⟩=>?_) hs hpl));obtain ⟨a,b,e,⟨xs,hq⟩,⟨ys,hq2⟩,q⟩:=q1;subst e;obtain ⟨u,v,rfl,ru,rv'⟩:=p7 r1;cases ru;cases rv';obtain ⟨its,rv,pl,hz⟩:=I1.tuple hq;obtain ⟨its2,rv2,pl2,hz2⟩:=I1.tuple hq2;have La:a < s1.heap.objs.size:=let ⟨_,e,_⟩:=pl; zal e;have Lb:b < s1.heap.objs.size:=let ⟨_,e,_⟩:=pl2; zal e;refine vJ pl pl2 fun h' hZ hTI hTO hi1 hi2 hsz hk=>?_;refine wpAny_pyIter_zip hZ ?_;have I2:Inv X pins σ H1 { s1 with heap:=h' }:=I1.kept (t':=s1.toks) hk;refine ⟨s1.heap.objs.size+4,[s1.heap.objs.size+4,s1.heap.objs.size+2,s1.heap.objs.size+3,s1.heap.objs.size,s1.heap.objs.size+1],_,_,H1,rfl,I2,uA _ _ _ _ _ a b (rJ La Lb),⟨hZ,hTI,⟨_,_,hTO⟩,hi1,hi2⟩,fun c hb=>?_,q⟩;have hb':s1.heap.objs.size<=c:=by
  have hb':c=s1.heap.objs.size+4\/c=s1.heap.objs.size+2\/c=s1.heap.objs.size+3\/c=s1.heap.objs.size\/c=s1.heap.objs.size+1:=by simpa using hb
  rcases hb' with rfl | rfl | rfl | rfl | rfl <;> omega
 exact I1.fpOk hb' (I1.hok.fresh hb')
def wH {l m:Expr} {ta:TA} {p pos:Pos} {elts:List Expr} {k:Nat} {tp:Pos} (hK:X.K=K) (hg:Gl X "zip") (hm:X.mg "zip"=none) (ha:PA X [l,m] ta) (hs:starEach [l,m] X.env=(false,eval l X.env) :: starEach [m] X.env:=by rfl) (hpl:(backTo pos (starEach [m] X.env)).any (·.1)=false:=by rfl) :
  PI X (.Tuple elts k tp) (.Call (.Name "zip" p) [l,m] [] pos) (Di K ta):=by subst hK; exact DG hg hm ha hs hpl
end
section
variable {X:Cx} {K:PySem.W.Frag} {p:Bool} {ds ds1:List Nat} {d:Nat} {fa:MA} {sh:Sh} {O O1:AS} {H0 H:Hp} {ts us:List D} {vs ws:List V} {a b:Addr}
def uy (h:FzT K O H0 a vs) (ho:Ows K O H0 ts 0 vs NoA) (h':FzT K O H0 b ws) (ho':Ows K O H0 us 0 ws NoA):pb K O H0 (xB K a b) (eG ts us):=fun i H O1 h1 h2 h3=>by
 have sq:=(h.mv (fq h1 h2)).sq;have sq':=(h'.mv (fq h1 h2)).sq;refine ⟨fun u hu=>?_,fun hl=>⟨vs,ws,sq,sq',?_⟩⟩
 ·unfold eG at hu;rw [List.getElem?_zipWith] at hu;split at hu
  case h_2=>cases hu
  next t t' ht ht' =>
  cases hu;obtain ⟨v,hv,ov⟩:=ho.get ht;obtain ⟨w,hw,ow⟩:=ho'.get ht';refine ⟨⟨vs,ws,v,w,sq,sq',hv,hw⟩,fun x H1 ⟨q,v',w',e1,hp,e2,y1,y2⟩=>?_⟩;have e3:=y1 vs sq;have e4:=y2 ws sq';rw [hv] at e3;rw [hw] at e4;cases e3;cases e4;subst e1 e2;exact Hl hp h3 (Ow.mv (fq h1 h2) t (fun _ z=>z) ov) (Ow.mv (fq h1 h2) t' (fun _ z=>z) ow)
 ·unfold eG at hl;rw [List.length_zipWith] at hl;rw [ho.len,ho'.len];omega
def kX (fa:MA):MI:=fun en=>(fa en).bind fun r=>match r.1 with
 | [.inl (.tuple ts),.inl (.tuple us)]=>some (eG ts us,r.2)
 | _=>none
def Eo {l m:Expr} {px pos:Pos} {elts:List Expr} {k:Nat} {tp:Pos} (hK:X.K=K) (hg:Gl X "zip") (hm:X.mg "zip"=none) (ha:PA X [l,m] (tFA K p ds ds1 sh fa)) (hs:aH l=true) (hs2:aH m=true) :
  PI X (.Tuple elts k tp) (.Call (.Name "zip" px) [l,m] [] pos) (tFI K p ds ds1 (kX fa)) :=
 (wH hK hg hm ha (by rw [bd hs]) (by rw [bd hs2]; rfl)).imp fun σ H R ⟨Ox,en,Rg,ts,en',e,hf,k⟩=>by
  unfold kX at hf;obtain ⟨⟨as,en1⟩,h1,hf⟩:=zaa.mp hf;refine ⟨Ox,en,Rg,as,en1,e,h1,fun vs H1 R1 F P o=>?_⟩
  dsimp only at hf
  split at hf
  case h_2=>cases hf
  next t1 t2 =>
  cases hf;obtain ⟨v,r,d,dr,F1,F2,e1,e2,s1,s2,_,o1,v2,r2,d2,dr2,G1,G2,e3,e4,s3,_,_,o2,o3⟩:=o;obtain ⟨_,o3⟩:=o3;subst e1 e3 o3;have q1:=Ow.letgo P s1 o1;have q2:=Ow.letgo P (fun b z=>s2 b (s3 b z)) o2;obtain ⟨a,xs,f1,⟨_,fz,ow⟩ | ⟨z,_⟩⟩:=q1
  ·obtain ⟨b,ys,f2,⟨_,fz2,ow2⟩ | ⟨z,_⟩⟩:=q2
   ·subst f1 f2;exact ⟨a,b,rfl,⟨xs,fz.sq⟩,⟨ys,fz2.sq⟩,k _ H1 R1 (P.less fun _ z=>z.elim) (uy fz ow fz2 ow2)⟩
   ·exact absurd rfl z
  ·exact absurd rfl z
end
section
variable {K:PySem.W.Frag} {p p1 p2 q:Bool} {J:Jd} {lk ds ds0 ds1 ds2 ds':List Nat} {d d' d1 d2:Nat} {f:ME} {i j:Nat} {g:MG} {gs:List D->En->Option En} {σ:St} {H:Hp} {Dn:Ends} {v:V} {vs:List V} {QS:St->Hp->Prop}
end
section
variable {X:Cx} {K:PySem.W.Frag} {J:Jd} {lk ds ds0 ds1 ds2 ds':List Nat} {e tg:Expr} {es:List Expr} {f:ME} {pos px:Pos} {i:Nat} {g:MG} {gs:List D->En->Option En}
end
section
variable {X:Cx} {K:PySem.W.Frag} {p:Bool} {ds:List Nat} {k v:Expr} {fk fv:ME} {pos:Pos} {σ:St} {H:Hp} {Q:VK} {O:AS}
end
structure QE (X:Cx) (e:Expr) (t:TE):Prop where
 h:PE X e t
structure QT (X:Cx) (e:Expr) (t:TT):Prop where
 h:PT X e t
structure QW (X:Cx) (e:Expr) (t:TT):Prop where
 h:PW X e t
structure QA (X:Cx) (e:List Expr) (t:TA):Prop where
 h:PA X e t
structure QS (X:Cx) (e:Stmt) (t:TS):Prop where
 h:PS X e t
structure QSs (X:Cx) (e:List Stmt) (t:TS):Prop where
 h:PSs X e t
structure QG (X:Cx) (e:Expr) (t:TG):Prop where
 h:PG X e t
structure QGs (X:Cx) (e:List Expr) (t:TGs):Prop where
 h:PGs X e t
structure QI (X:Cx) (tg e:Expr) (t:TI):Prop where
 h:PI X tg e t
structure QTs (X:Cx) (e:List Expr) (t:TT):Prop where
 h:PTs X e t
structure QO (X:Cx) (e:Option Expr) (t:TO):Prop where
 h:PO X e t
structure QPs (X:Cx) (pos:Pos) (ks:List (Option Expr)) (vs:List Expr) (t:List (TE × TE)):Prop where
 h:PPs X pos ks vs t
def qpt {X:Cx} {e:Expr} {t:TT} (h:QW X e t):QT X e t:=⟨h.h.pt⟩
section
variable {X:Cx} {K:PySem.W.Frag} {p p1 p2 q:Bool} {ds ds0 ds1 ds2 ds' dsi:List Nat} {d d' d1 d2:Nat} {a b c e:Expr} {es:List Expr} {f f1 f2:ME} {m c1 c2:MT} {fa:MA} {sh:Sh} {pos:Pos} {i:Nat} {x:Str}
def j8 {x:Str} (hN:X.N[i]?=some x) (hv:Vis X.env.scope x) (h0:ds[i]?=some 0) (hd:(x == ("__debug__" : Str))=false) (hcd:(x == ("__classdict__" : Str))=false):QE X (.Name x pos) (tF K p ds ds 0 (ae i)):=⟨Iq hN hv h0 hd hcd⟩
def Ev {x:Str} (hN:X.N[i]?=some x) (hv:Vis X.env.scope x) (h0:ds[i]?=some d) (hds:ds.set i 0=ds') (hd:(x == ("__debug__" : Str))=false) (hcd:(x == ("__classdict__" : Str))=false):QE X (.Name x pos) (tF K false ds ds' d (eMv i)):=⟨JI hN hv h0 hds hd hcd⟩
def ah {n:Int} {j}:QE X (.Constant (.int n) j pos) (tF K p ds ds 3 (eC (.int n))):=⟨IE⟩
def b8 {n:Bool} {j}:QE X (.Constant (.bool n) j pos) (tF K p ds ds 3 (eC (.bool n))):=⟨JO⟩
def fW {j}:QE X (.Constant .none j pos) (tF K p ds ds 3 (eC .none)):=⟨Iy⟩
def ai {n:Str} {j}:QE X (.Constant (.str n) j pos) (tF K p ds ds 3 (eC (.str n))):=⟨Iv⟩
def aW {x:Str} {n:Int} {t:Tok} (hg:Gl X x) (hm:X.mg x=some (.int n t)) (hd:(x == ("__debug__" : Str))=false):QE X (.Name x pos) (tF K p ds ds 3 (eC (.int n))):=⟨xk hg hm hd⟩
def ud {x:Str} {n:Str} {t:Tok} (hg:Gl X x) (hm:X.mg x=some (.str n t)) (hd:(x == ("__debug__" : Str))=false):QE X (.Name x pos) (tF K p ds ds 3 (eC (.str n))):=⟨xj hg hm hd⟩
def dq (h:QE X e (tF K p ds ds' d f)) (hd:d'<=d):QE X e (tF K p ds ds' d' f):=⟨Iu h.h hd⟩
def sK (h:QE X e (tF K p ds0 ds' d f)) (hd:leD ds0 ds=true):QE X e (tF K false ds ds' d f):=⟨JM h.h hd⟩
def j9 (h:QE X e (tF K true ds0 ds0 3 f)) (hd:leD ds0 ds=true):QE X e (tF K p ds ds 3 f):=⟨IH h.h hd⟩
def ar {op:Operator} {g:D->D->Option D} (ho:OpR X (binaryOp op) (rF2 K g d)) (ha:QE X a (tF K p ds ds1 d1 f1)) (hb:QE X b (tF K p ds1 ds2 d2 f2)):QE X (.BinOp a op b pos) (tF K p ds ds2 d (e2 g f1 f2)):=⟨JH ho ha.h hb.h⟩
def bL {op:CmpOp} {g:D->D->Option D} (ho:OpR X (compareOp op) (rF2 K g d)) (ha:QE X a (tF K p ds ds1 d1 f1)) (hb:QE X b (tF K p ds1 ds2 d2 f2)) (hm:behindInMarks op b=false):QE X (.Compare a [op] [b] pos) (tF K p ds ds2 d (e2 g f1 f2)):=⟨IG ho ha.h hb.h hm⟩
def bU {op:CmpOp} {g:D->D->Option D} (ho:OpR X (compareOp op) (rF2 K g d)) (ha:QE X a (tF K p ds ds1 d1 f1)) (hb:QE X b (tF K p ds1 ds2 d2 f2)) (hm:behindInMarks op b=false):QT X (.Compare a [op] [b] pos) (tFT K p ds ds2 (tV (e2 g f1 f2))):=⟨D4 ho ha.h hb.h hm⟩
def aT (h:QE X e (tF K p ds ds' d f)) (he:∀ whole,isTrue e X.env whole=(do let v <- whole; standAt e.pos; holding [v] (truthy v))):QT X e (tFT K p ds ds' (tV f)):=⟨D2 h.h he⟩
def bz (ha:QT X a (tFT K p ds ds1 c1)):QW X (.BoolOp .Or [a] pos) (tFT K p ds ds1 c1):=⟨HR ha.h⟩
def bg {rest:List Expr} (ha:QT X a (tFT K p ds ds1 c1)) (hb:QW X (.BoolOp .Or (b :: rest) pos) (tFT K p ds1 ds1 c2)):QW X (.BoolOp .Or (a :: b :: rest) pos) (tFT K p ds ds1 (bOr c1 c2)):=⟨JA ha.h hb.h⟩
def aX (ha:QT X a (tFT K p ds ds1 c1)):QT X (.UnaryOp .Not a pos) (tFT K p ds ds1 (cr c1)):=⟨D3 ha.h⟩
def kZ (h:QT X e (tFT K true ds0 ds0 c1)) (hd:leD ds0 ds=true):QT X e (tFT K p ds ds c1):=⟨D5 h.h hd⟩
def bK {op} (h:QE X a (tF K p ds ds1 d f)):QE X (.BoolOp op [a] pos) (tF K p ds ds1 d f):=⟨Iw h.h⟩
def bM {rest:List Expr} (ha:QE X a (tF K p ds ds1 d1 f1)) (hb:QE X (.BoolOp .And (b :: rest) pos) (tF K p ds1 ds1 d f2)):QE X (.BoolOp .And (a :: b :: rest) pos) (tF K p ds ds1 d (cV f1 f2)):=⟨IJ ha.h hb.h⟩
def sJ {rest:List Expr} (ha:QE X a (tF K p ds ds1 d1 f1)) (hb:QE X (.BoolOp .Or (b :: rest) pos) (tF K p ds1 ds1 d f2)):QE X (.BoolOp .Or (a :: b :: rest) pos) (tF K p ds ds1 d (eOr f1 f2)):=⟨JG ha.h hb.h⟩
def mK (ha:QE X a (tF K p ds ds1 d1 f)):QE X (.UnaryOp .Not a pos) (tF K p ds ds1 3 (la f)):=⟨Ix ha.h⟩
def Ex (hc:QT X c (tFT K p ds ds1 c1)) (ha:QE X a (tF K p ds1 ds2 d f1)) (hb:QE X b (tF K p ds1 ds2 d f2)):QE X (.IfExp c a b pos) (tF K p ds ds2 d (eIf c1 f1 f2)):=⟨JL hc.h ha.h hb.h⟩
def ac  : QA X [] (tFA K p ds ds [] ag):=⟨EB⟩
def aa (ha:QE X e (tF K p ds ds1 d f)) (hr:QA X es (tFA K p ds1 ds2 sh fa)) (hs:aH e=true):QA X (e :: es) (tFA K p ds ds2 (.inl d :: sh) (ad f fa)):=⟨xq ha.h hr.h hs⟩
def nM {x:Str} (hN:X.N[i]?=some x) (hv:Vis X.env.scope x) (hr:QA X es (tFA K p ds ds2 sh fa)) (hd:(x == ("__debug__" : Str))=false) (hcd:(x == ("__classdict__" : Str))=false):QA X (.Name x pos :: es) (tFA K p ds ds2 (.inr i :: sh) (aD i fa)):=⟨xp hN hv hr.h hd hcd⟩
def aM {c:Nat} (h:QA X es (tFA K p ds ds1 sh fa)) (hs:cg c sh=true) (hd:dn d=c) (hz:d≠0):QE X (.List es pos) (tF K p ds ds1 d (bx fa)):=⟨IA h.h hs hd hz⟩
def aS {c:Nat} {x1} (h:QA X es (tFA K p ds ds1 sh fa)) (hs:cg c sh=true) (hd:dn d=c):QE X (.Tuple es x1 pos) (tF K p ds ds1 d (bR fa)):=⟨Ir h.h hs hd⟩
def nL {id:String} {x:Str} {px:Pos} {g:List D->Option D} (hc:CallR X (.builtin id) (rFn K g d)) (hg:Gl X x) (hm:X.mg x=none) (hv:bootBuiltins x=some (.builtin id)) (ha:QA X (e :: es) (tFA K p ds ds1 sh fa)) (hsh:cg 0 sh=true) (hn:x≠"__name__") (hdb:(x == ("__debug__" : Str))=false) (he:aH e=true) (hpl:es.all aH=true):QE X (.Call (.Name x px) (e :: es) [] pos) (tF K p ds ds1 d (eN g fa)):=⟨xo hc hg hm hv ha.h hsh hn hdb he hpl⟩
def r6 {T:String} {x:Str} {px:Pos} {g:List D->Option D} (hc:CallR X (.type T) (rFn K g d)) (hg:Gl X x) (hm:X.mg x=none) (hv:bootBuiltins x=some (.type T)) (ha:QA X (e :: es) (tFA K p ds ds1 sh fa)) (hsh:cg 0 sh=true) (hn:x≠"__name__") (hdb:(x == ("__debug__" : Str))=false) (he:aH e=true) (hpl:es.all aH=true):QE X (.Call (.Name x px) (e :: es) [] pos) (tF K p ds ds1 d (eN g fa)):=⟨vA hc hg hm hv ha.h hsh hn hdb he hpl⟩
def Ey {k:Nat} {x:Str} {ps:List Str} {px:Pos} {dps:List Nat} {dr:Nat} {F:List D->Option (D × En)} (G:Kn X.prog X.w X.K X.mg X.base k x ps (spF K dps dr F)) (hr:Room k X.A) (hg:Gl X x) (ha:QA X (e :: es) (tFA K p ds ds1 sh fa)) (hns:iz sh=true) (hcd:eX ds1 sh dps=true) (hdb:(x == ("__debug__" : Str))=false) (he:aH e=true) (hpl:es.all aH=true):QE X (.Call (.Name x px) (e :: es) [] pos) (tF K p ds ds1 dr (al F fa)):=⟨JN G hr hg ha.h hns hcd hdb he hpl⟩
def xl {k:Nat} {x:Str} {ps:List Str} {px:Pos} {dps:List Nat} {dr:Nat} {F:List D->Option (D × En)} (G:Kn X.prog X.w X.K X.mg X.base k x ps (spF K dps dr F)) (hr:Room k X.A) (hg:Gl X x) (ha:QA X (e :: es) (tFA K false ds ds1 sh fa)) (hcd:eX ds1 sh dps=true) (hdb:(x == ("__debug__" : Str))=false) (he:aH e=true) (hpl:es.all aH=true):QE X (.Call (.Name x px) (e :: es) [] pos) (tF K false ds ds1 dr (al F fa)):=⟨IF G hr hg ha.h hcd hdb he hpl⟩
def fX {g:D->D->Option D} (ho:IxR X (rF2 K g d)) (ha:QE X a (tF K p ds ds1 d1 f1)) (hb:QE X b (tF K p ds1 ds2 d2 f2)) (hs:jK b):QE X (.Subscript a b pos) (tF K p ds ds2 d (e2 g f1 f2)):=⟨JK ho ha.h hb.h hs⟩
def iF {x:Str} {px:Pos} (hK:X.K=K) (hN:X.N[i]?=some x) (hv:Vis X.env.scope x) (h1:ds1[i]?=some 1) (hb:QE X b (tF K p ds ds1 d1 f)) (hs:jK b) (hd:(x == ("__debug__" : Str))=false) (hcd:(x == ("__classdict__" : Str))=false):QE X (.Subscript (.Name x px) b pos) (tF K p ds ds1 0 (dG i f)):=⟨IC hK hN hv h1 hb.h hs hd hcd⟩
def iG {c:Nat} {x:Str} {px apos cpos:Pos} (hK:X.K=K) (hN:X.N[i]?=some x) (hv:Vis X.env.scope x) (h1:ds1[i]?=some d) (he:QE X e (tF K false ds ds1 c f)) (hz:d≠0) (hc:dn d=c) (hd:(x == ("__debug__" : Str))=false) (hcd:(x == ("__classdict__" : Str))=false) (hbase:attributeBase (.Name x px) "append" X.env (eval (.Name x px) X.env)=eval (.Name x px) X.env) (hfew:((backTo cpos (starEach [e] X.env)).all (fun x=>!x.1) && (backToKw cpos (keywordEach [] X.env)).all (fun x=>x.1.isSome) && decide (([e]:List Expr).length+([]:List Keyword).length+(if ([]:List Keyword).isEmpty then 0 else 1) < 30))=true) (hline:(apos.endLine == cpos.line)=true) (hs:starEach [e] X.env=[(false,eval e X.env)]) (hplain:(backTo cpos (starEach [] X.env)).any (·.1)=false):QE X (.Call (.Attribute (.Name x px) "append" apos) [e] [] cpos) (tF K false ds ds1 3 (iH i f)):=⟨II hK hN hv h1 he.h hz hc hd hcd hbase hfew hline hs hplain⟩
def hV {c:Nat} {x:Str} {px apos cpos:Pos} (hK:X.K=K) (hN:X.N[i]?=some x) (hv:Vis X.env.scope x) (h1:ds1[i]?=some d) (he:QE X e (tF K false ds ds1 d1 f)) (hz:d≠0) (hc:dn d=c) (hd:(x == ("__debug__" : Str))=false) (hcd:(x == ("__classdict__" : Str))=false) (hbase:attributeBase (.Name x px) "pop" X.env (eval (.Name x px) X.env)=eval (.Name x px) X.env) (hfew:((backTo cpos (starEach [e] X.env)).all (fun x=>!x.1) && (backToKw cpos (keywordEach [] X.env)).all (fun x=>x.1.isSome) && decide (([e]:List Expr).length+([]:List Keyword).length+(if ([]:List Keyword).isEmpty then 0 else 1) < 30))=true) (hline:(apos.endLine == cpos.line)=true) (hs:starEach [e] X.env=[(false,eval e X.env)]) (hplain:(backTo cpos (starEach [] X.env)).any (·.1)=false):QE X (.Call (.Attribute (.Name x px) "pop" apos) [e] [] cpos) (tF K false ds ds1 c (dR i f)):=⟨xi hK hN hv h1 he.h hz hc hd hcd hbase hfew hline hs hplain⟩
def bv  : QTs X [] (tFT K p ds ds cY):=⟨D1⟩
def cU {elt tg iter:Expr} {ifs:List Expr} {scope:Scope} {ns:List Str} {js:List (Option Nat)} {fi:MI} {g:MG} {lk:List Nat} {cd:Nat} (B:BlkOkC X scope ns js) (hc:X.calm=true) (hi:QI X tg iter (tFI K p ds ds1 fi)) (hg:∀ C cl s₀ H₀ fp,QG (aN X scope ns C cl s₀ H₀ fp) tg (tFG K lk dsi dsi g)) (ht:∀ C cl s₀ H₀ fp,QTs (aN X scope ns C cl s₀ H₀ fp) ifs (tFT K true dsi dsi c1)) (he:∀ C cl s₀ H₀ fp,QE (aN X scope ns C cl s₀ H₀ fp) elt (tF K true dsi dsi cd f)) (hcap:gM ds1 js dsi=true) (hd:dn d=cd) (hz:d≠0) (hlk:lk=gL js 0) (hs:∀ x,foldedSetIterable iter X.env x=pure x):QE X (.ListComp elt [⟨tg,iter,ifs,0⟩] scope pos) (tF K p ds ds1 d (eLC true fi g c1 f js)):=⟨JJ B hc hi.h (fun C cl s₀ H₀ fp=>(hg C cl s₀ H₀ fp).h) (fun C cl s₀ H₀ fp=>(ht C cl s₀ H₀ fp).h) (fun C cl s₀ H₀ fp=>(he C cl s₀ H₀ fp).h) hcap hd hz hlk hs⟩
def mL {elt tg iter:Expr} {ifs:List Expr} {scope:Scope} {ns:List Str} {js:List (Option Nat)} {fi:MI} {g:MG} {lk:List Nat} {cd:Nat} (B:BlkOkC X scope ns js) (hc:X.calm=true) (hi:QI X tg iter (tFI K false ds ds1 fi)) (hg:∀ C cl s₀ H₀ fp,QG (aN X scope ns C cl s₀ H₀ fp) tg (tFG K lk dsi dsi g)) (ht:∀ C cl s₀ H₀ fp,QTs (aN X scope ns C cl s₀ H₀ fp) ifs (tFT K false dsi dsi c1)) (he:∀ C cl s₀ H₀ fp,QE (aN X scope ns C cl s₀ H₀ fp) elt (tF K false dsi dsi cd f)) (hcap:gM ds1 js dsi=true) (hd:dn d=cd) (hz:d≠0) (hlk:lk=gL js 0) (hs:∀ x,foldedSetIterable iter X.env x=pure x):QE X (.ListComp elt [⟨tg,iter,ifs,0⟩] scope pos) (tF K false ds ds1 d (eLC false fi g c1 f js)):=⟨IB B hc hi.h (fun C cl s₀ H₀ fp=>(hg C cl s₀ H₀ fp).h) (fun C cl s₀ H₀ fp=>(ht C cl s₀ H₀ fp).h) (fun C cl s₀ H₀ fp=>(he C cl s₀ H₀ fp).h) hcap hd hz hlk hs⟩
end
section
variable {X:Cx} {K:PySem.W.Frag} {p p1 p2 q:Bool} {J:Jd} {ds ds0 ds1 ds2 ds' dsi dps:List Nat} {d d' d1 d2 dr:Nat} {a b c e tg iter:Expr} {es:List Expr} {st:Stmt} {rest body bodyB:List Stmt} {f f1 f2 fk fe:ME} {c1 c2:MT} {fa:MA} {sh:Sh} {pos px:Pos} {i:Nat} {x:Str} {m m1 m2:MS} {g:MG} {gs:List D->En->Option En} {fi:MI} {lk:List Nat}
def am  : QSs X [] (tFS K J ds ds aG):=⟨D7⟩
def af (h1:QS X st (tFS K J ds ds1 m1)) (h2:QSs X rest (tFS K J ds1 ds2 m2)):QSs X (st :: rest) (tFS K J ds ds2 (ak m1 m2)):=⟨wX h1.h h2.h⟩
def bh (h1:QS X st (tFS K J ds ds1 m1)):QSs X [st] (tFS K J ds ds1 m1):=⟨D6 h1.h⟩
def fw (he:QE X e (tF K false ds ds1 d f)) (hs:swapsWith e none pos.line X.env=pure false):QS X (.Expr e pos) (tFS K J ds ds1 (iy f)):=⟨Ee he.h hs⟩
def vn (he:QE X e (tF K false ds ds1 J.dr f)) (hd:leD J.dsr ds1=true):QS X (.Return (some e) pos) (tFS K J ds ds' (aq f)):=⟨Ec he.h hd⟩
def cK  : QS X st (tFS K J ds ds' dO):=⟨vo⟩
def ao (hc:QT X c (tFT K false ds ds1 c1)) (ha:QSs X body (tFS K J ds1 ds2 m1)) (hb:QSs X bodyB (tFS K J ds1 ds2 m2)):QS X (.If c body bodyB pos) (tFS K J ds ds2 (sIf c1 m1 m2)):=⟨Ib hc.h ha.h hb.h⟩
def ft {x:Str} {pos':Pos} (hN:X.N.Nodup) (hi:X.N[i]?=some x) (hx:Loc X.env.scope x) (he:QE X e (tF K false ds ds1 d f)) (hds:ds1.set i d=ds') (hl:i < ds1.length) (hk:i ∉ J.lk) (hs:swapsWith e (some (.Name x pos')) pos.line X.env=pure false) (hf:X.fn x=true\/X.env.scope.names.lookup x=some .local):QS X (.Assign [.Name x pos'] e pos) (tFS K J ds ds' (aB i f)):=⟨Eb hN hi hx he.h hds hl hk hs hf⟩
def l8 {x:Str} {spos pos':Pos} {elt:Expr} {ifs:List Expr} {scope:Scope} {ns:List Str} {js:List (Option Nat)} {cd:Nat} (hN:X.N.Nodup) (hi':X.N[i]?=some x) (hx:X.env.scope.names.lookup x=some .local) (B:BlkOkC X scope ns js) (hc:X.calm=true) (hi:QI X tg iter (tFI K false ds ds1 fi)) (hg:∀ C cl s₀ H₀ fp,QG (aN X scope ns C cl s₀ H₀ fp) tg (tFG K lk dsi dsi g)) (ht:∀ C cl s₀ H₀ fp,QTs (aN X scope ns C cl s₀ H₀ fp) ifs (tFT K q dsi dsi c1)) (he:∀ C cl s₀ H₀ fp,QE (aN X scope ns C cl s₀ H₀ fp) elt (tF K q dsi dsi cd f)) (hds:ds1.set i d=ds') (hcap:gM ds1 js dsi=true) (hd:dn d=cd) (hz:d≠0) (hlk:lk=gL js 0) (hl:i < ds1.length) (hk:i ∉ J.lk) (hsw:swapsWith (.ListComp elt [⟨tg,iter,ifs,0⟩] scope pos) (some (.Name x pos')) spos.line X.env=pure true) (hs:∀ x,foldedSetIterable iter X.env x=pure x):QS X (.Assign [.Name x pos'] (.ListComp elt [⟨tg,iter,ifs,0⟩] scope pos) spos) (tFS K J ds ds' (aB i (eLC q fi g c1 f js))):=⟨vm hN hi' hx B hc hi.h (fun C cl s₀ H₀ fp=>(hg C cl s₀ H₀ fp).h) (fun C cl s₀ H₀ fp=>(ht C cl s₀ H₀ fp).h) (fun C cl s₀ H₀ fp=>(he C cl s₀ H₀ fp).h) hds hcap hd hz hlk hl hk hsw hs⟩
def nI {c:Nat} {x:Str} {spos:Pos} {k:Expr} (hN:X.N[i]?=some x) (hv:Vis X.env.scope x) (he:QE X e (tF K false ds ds1 c fe)) (hk:QE X k (tF K false ds1 ds2 d2 fk)) (h1:ds2[i]?=some d) (hz:d≠0) (hc:dn d=c) (hdb:(x == ("__debug__" : Str))=false) (hcd:(x == ("__classdict__" : Str))=false) (ha:∀ v,assign (.Subscript (.Name x px) k spos) X.env v=(do
   let ov <- holding [v] (eval (.Name x px) X.env);let iv <- holding [v,ov] (eval k X.env)
   standAt spos
   holding [v,ov,iv] (setItem ov iv v)
   release [v,ov,iv] [])) (hs:swapsWithSole [.Subscript (.Name x px) k spos] e pos.line X.env=pure false) (hw:swappedStores [.Subscript (.Name x px) k spos] e X.env=pure none) (h2:(assignEach [.Subscript (.Name x px) k spos] X.env).map (·.2)=[assign (.Subscript (.Name x px) k spos) X.env]):QS X (.Assign [.Subscript (.Name x px) k spos] e pos) (tFS K J ds ds2 (gk i fk fe)):=⟨w4 hN hv he.h hk.h h1 hz hc hdb hcd ha hs hw h2⟩
def aP {x:Str} (hN:X.N.Nodup) (hi:X.N[i]?=some x) (hx:Loc X.env.scope x) (hds:ds.set i 0=ds') (hl:i < ds.length) (hk:i ∉ lk) (hf:X.fn x=true\/X.env.scope.names.lookup x=some .local):QG X (.Name x pos) (tFG K lk ds ds' (gN i)):=⟨xf hN hi hx hds hl hk hf⟩
def uc  : QGs X [] (gE K lk ds ds gs0):=⟨xb⟩
def l9 (h1:QG X e (tFG K lk ds ds1 g)) (h2:QGs X es (gE K lk ds1 ds2 gs)) (hs:(assignEach (e :: es) X.env).map (·.2)=assign e X.env :: (assignEach es X.env).map (·.2)):QGs X (e :: es) (gE K lk ds ds2 (gsC g gs)):=⟨vw h1.h h2.h hs⟩
def vx {k n:Nat} (hK:X.K=K) (hc:X.calm=true) (h:QGs X es (gE K lk ds ds1 gs)) (hl:∀ ts en,(∃ en',gs ts en=some en')->ts.length=n) (hn:(assignEach es X.env).length=n) (hst:(assignEach es X.env).findIdx? (·.1)=none):QG X (.Tuple es k pos) (tFG K lk ds ds1 (gT gs)):=⟨Es hK hc h.h hl hn hst⟩
def k4 (hc:X.calm=true) (hi:QI X tg iter (tFI K false ds ds1 fi)) (hg:QG X tg (tFG K J.lk ds1 ds2 g)) (hb:QSs X body (tFS K { J with dsl:=ds1 } ds2 ds1 m)) (hp:PassesOwn (model X.prog X.w) X.A X.env X.xe) (hs:∀ x,foldedSetIterable iter X.env x=pure x):QS X (.For tg iter body [] pos) (tFS K J ds ds1 (kO fi g m)):=⟨Ed hc hi.h hg.h hb.h hp hs⟩
def rY (hc:QT X c (tFT K false ds ds1 c1)) (hb:QSs X body (tFS K { J with dsl:=ds } ds1 ds m)) (hp:PassesOwn (model X.prog X.w) X.A X.env X.xe):QS X (.While c body [] pos) (tFS K J ds ds1 (cQ c1 m)):=⟨vk hc.h hb.h hp⟩
end
section
variable {X:Cx} {K:PySem.W.Frag} {p:Bool} {ds ds1:List Nat} {d:Nat} {e tg l:Expr} {f:ME} {fa:MA} {sh:Sh}
def b7 (hK:X.K=K) (hl:QE X l (tF K p ds ds1 d f)):QI X tg l (tFI K p ds ds1 (dQ f)):=⟨Io hK hl.h⟩
def gB {a:Expr} {px pos:Pos} (hg:Gl X "range") (hm:X.mg "range"=none) (ha:QA X [a] (tFA K p ds ds1 sh fa)) (hs:aH a=true):QI X tg (.Call (.Name "range" px) [a] [] pos) (tFI K p ds ds1 (fC fa)):=⟨Ep hg hm ha.h hs⟩
end
section
variable {X:Cx} {K:PySem.W.Frag} {p:Bool} {ds ds1:List Nat} {d1:Nat} {e:Expr} {f:ME}
def bA {T:Str} {n:String} {px pt pos:Pos} (hK:X.K=K) (hg:Gl X "isinstance") (hm:X.mg "isinstance"=none) (hgT:Gl X T) (hmT:X.mg T=none) (hbT:bootBuiltins T=some (.type n)) (hT:n∈["int", "bool", "str", "list", "tuple", "dict"]) (he:QE X e (tF K p ds ds1 d1 f)) (hnT:T≠"__name__") (hdT:(T == ("__debug__" : Str))=false) (hs1:starEach [e,.Name T pt] X.env=(false,eval e X.env) :: starEach [.Name T pt] X.env) (hs2:starEach [.Name T pt] X.env=(false,eval (.Name T pt) X.env) :: starEach [] X.env) (hpl:(backTo pos (starEach [.Name T pt] X.env)).any (·.1)=false):QE X (.Call (.Name "isinstance" px) [e,.Name T pt] [] pos) (tF K p ds ds1 3 (e1 (ay n) f)):=⟨ID hK hg hm hgT hmT hbT hT he.h hnT hdT hs1 hs2 hpl⟩
end
section
variable {X:Cx} {K:PySem.W.Frag} {p:Bool} {J:Jd} {ds ds0 ds1 ds2 ds3 ds':List Nat} {d d' d1 d2 d3:Nat} {a b c e:Expr} {st:Stmt} {f f1 f2 f3:ME} {m:MS} {pos p2:Pos}
def pD (h:QS X st (tFS K J ds ds2 m)) (hd:leD ds1 ds2=true):QS X st (tFS K J ds ds1 m):=⟨Ea h.h hd⟩
def hW {op op':CmpOp} {g g':D->D->Option D} (ho:OpR X (compareOp op) (rF2 K g 3)) (ho':OpR X (compareOp op') (rF2 K g' 3)) (ha:QE X a (tF K p ds ds0 d1 f1)) (hb:QE X b (tF K p ds0 ds1 d2 f2)) (hc:QE X c (tF K p ds1 ds1 d3 f3)) (hm:lastMarks [op,op'] [b,c]=false):QE X (.Compare a [op,op'] [b,c] pos) (tF K p ds ds1 3 (cG g g' f1 f2 f3)):=⟨xn ho ho' ha.h hb.h hc.h hm⟩
def j6 {op op':CmpOp} {g g':D->D->Option D} (ho:OpR X (compareOp op) (rF2 K g 3)) (ho':OpR X (compareOp op') (rF2 K g' 3)) (ha:QE X a (tF K p ds ds0 d1 f1)) (hb:QE X b (tF K p ds0 ds1 d2 f2)) (hc:QE X c (tF K p ds1 ds1 d3 f3)) (hm:lastMarks [op,op'] [b,c]=false):QT X (.Compare a [op,op'] [b,c] pos) (tFT K p ds ds1 (tV (cG g g' f1 f2 f3))):=⟨wW ho ho' ha.h hb.h hc.h hm⟩
def dg  : QO X none (tFO K p ds ds fB):=⟨Ej⟩
def df (h:QE X e (tF K p ds ds1 d f)):QO X (some e) (tFO K p ds ds1 (eV f)):=⟨Eh h.h⟩
variable {lo hi:MO}
def cF {g:D->Option Int->Option Int->Option D} {elo ehi:Option Expr} (hr:SlR X (rFs K g d)) (he:QE X e (tF K p ds ds1 d1 f)) (hl:QO X elo (tFO K p ds1 ds2 lo)) (hu:QO X ehi (tFO K p ds2 ds3 hi)):QE X (.Subscript e (.Slice elo ehi none p2) pos) (tF K p ds ds3 d (eSl g f lo hi)):=⟨xh hr he.h hl.h hu.h⟩
end
section
variable {X:Cx} {K:PySem.W.Frag} {p:Bool} {J:Jd} {ds ds0 ds1 ds2 ds':List Nat} {d d' d1 d2:Nat} {a b c e o k:Expr} {f f1 f2 fk fe:ME} {pos px spos:Pos} {i:Nat} {σ:St} {H:Hp} {Q:VK} {Dn:Ends}
def fE {x:Str} (hu:X.A.units+1 < cLine) (hN:X.N[i]?=some x) (hv:Vis X.env.scope x) (h1:ds1[i]?=some 1) (hi:QE X k (tF K p ds ds1 d1 f)) (hs:uq k) (hd:(x == ("__debug__" : Str))=false) (hcd:(x == ("__classdict__" : Str))=false):QE X (.Subscript (.Name x px) k pos) (tF K p ds ds1 0 (bY i f)):=⟨xm hu hN hv h1 hi.h hs hd hcd⟩
def j7 {x:Str} (hu:X.A.units+1 < cLine) (hN:X.N[i]?=some x) (hv:Vis X.env.scope x) (he:QE X e (tF K false ds ds1 0 fe)) (hk:QE X k (tF K false ds1 ds2 d2 fk)) (h1:ds2[i]?=some 1) (hdb:(x == ("__debug__" : Str))=false) (hcd:(x == ("__classdict__" : Str))=false) (hs:swapsWith e (some (.Subscript (.Name x px) k spos)) pos.line X.env=pure false):QS X (.Assign [.Subscript (.Name x px) k spos] e pos) (tFS K J ds ds2 (dH i fk fe)):=⟨w6 hu hN hv he.h hk.h h1 hdb hcd hs⟩
end
section
variable {X:Cx} {K:PySem.W.Frag} {p:Bool} {J:Jd} {ds ds0 ds1 ds2 ds':List Nat} {d d' d1 d2:Nat} {a b c e o k:Expr} {es:List Expr} {f f1 f2 fk fe:ME} {fa:MA} {sh:Sh} {pos px spos:Pos} {i j:Nat} {σ:St} {H:Hp} {Q:VK} {Dn:Ends}
def vz {keys:List (Option Expr)} {values:List Expr} {fs:List (ME × ME)} (h:QPs X pos keys values (trs K p ds fs)) (hall:keys.all (·.isSome)=true) (hl:keys.length=values.length) (h0:keys≠[]) (h15:keys.length<=15):QE X (.Dict keys values pos) (tF K p ds ds 1 (lR fs)):=⟨Ez h.h hall hl h0 h15⟩
def w8  : QPs X pos [] [] (trs K p ds []):=⟨Ic⟩
def k5 {k v:Expr} {ks:List (Option Expr)} {vs:List Expr} {fk fv:ME} {fs:List (ME × ME)} (hk:QE X k (tF K p ds ds 3 fk)) (hv:QE X v (tF K p ds ds 0 fv)) (hr:QPs X pos ks vs (trs K p ds fs)):QPs X pos (some k :: ks) (v :: vs) (trs K p ds ((fk,fv) :: fs)):=⟨Ef hk.h hv.h hr.h⟩
end
section
variable {X:Cx} {K:PySem.W.Frag} {p:Bool} {ds ds1:List Nat} {O:AS} {H:Hp} {σ:St} {d:Nat} {f:ME} {i:Nat} {e:Expr} {Q:VK}
end
section
variable {X:Cx} {K:PySem.W.Frag} {p:Bool} {ds ds1:List Nat} {d:Nat} {fa:MA} {sh:Sh} {O O1:AS} {H0 H:Hp} {ts us:List D} {vs ws:List V} {a b:Addr}
end
section
variable {X:Cx} {K:PySem.W.Frag} {p:Bool} {ds ds1:List Nat} {d1:Nat} {e:Expr} {f:ME}
def k6 {T1 T2:Str} {n1 n2:String} {px p1 p2 pos tp:Pos} {kk:Nat} (hK:X.K=K) (hg:Gl X "isinstance") (hm:X.mg "isinstance"=none) (hg1:Gl X T1) (hm1:X.mg T1=none) (hb1:bootBuiltins T1=some (.type n1)) (hg2:Gl X T2) (hm2:X.mg T2=none) (hb2:bootBuiltins T2=some (.type n2)) (hT:∀ T∈[n1,n2],T∈sT) (he:QE X e (tF K p ds ds1 d1 f)) (hn1:T1≠"__name__") (hd1:(T1 == ("__debug__" : Str))=false) (hn2:T2≠"__name__") (hd2:(T2 == ("__debug__" : Str))=false) (hs:aH e=true):QE X (.Call (.Name "isinstance" px) [e,.Tuple [.Name T1 p1,.Name T2 p2] kk tp] [] pos) (tF K p ds ds1 3 (e1 (gI [n1,n2]) f)):=⟨Ew hK hg hm hg1 hm1 hb1 hg2 hm2 hb2 hT he.h hn1 hd1 hn2 hd2 hs⟩
end
section
variable {X:Cx} {K:PySem.W.Frag} {p p1 p2:Bool} {ds ds1 ds2:List Nat} {d d1:Nat} {e:Expr} {f:ME} {fa:MA} {sh:Sh} {σ:St} {H:Hp} {Q:VK}
def bE {o:Expr} {es:List Expr} {name:Str} {id:String} {apos cpos:Pos} {r:V->List V->Hp->VK->Prop} {g:Str->List D->Option D} (hK:X.K=K) (slot:Slot "str" name id) (hty:typeOf (.builtin id)=pure (.type "method_descriptor")) (hm:MtR X id r) (hr:MtF K r g) (ho:QE X o (tF K p ds ds1 d1 f)) (ha:QA X (e :: es) (tFA K p ds1 ds2 sh fa)) (hsh:cg 0 sh=true) (hbase:attributeBase o name X.env (eval o X.env)=eval o X.env) (hfew:((backTo cpos (starEach (e :: es) X.env)).all (fun x=>!x.1) && (backToKw cpos (keywordEach [] X.env)).all (fun x=>x.1.isSome)
   && decide ((e :: es).length+([]:List Keyword).length+(if ([]:List Keyword).isEmpty then 0 else 1) < 30))=true) (hline:(apos.endLine == cpos.line)=true) (hs:starEach (e :: es) X.env=(false,eval e X.env) :: starEach es X.env) (hplain:(backTo cpos (starEach es X.env)).any (·.1)=false):QE X (.Call (.Attribute o name apos) (e :: es) [] cpos) (tF K p ds ds2 3 (eM g f fa)):=⟨Eu hK slot hty hm hr ho.h ha.h hsh hbase hfew hline hs hplain⟩
end
section
variable {X:Cx} {K:PySem.W.Frag} {p p1 p2:Bool} {J:Jd} {ds ds1 ds2:List Nat} {H:Hp} {σ:St} {d d1 d2 i m:Nat} {f fk fe:ME} {mp:MP} {e b o:Expr} {Q:VK}
end
section
variable {X:Cx} {K:PySem.W.Frag} {p p1 p2:Bool} {ds ds1 ds2:List Nat} {d d1 d2:Nat} {e k:Expr} {f f1 f2:ME} {fa:MA} {sh:Sh} {σ:St} {H:Hp} {Q Q':VK} {pos pos2 px py:Pos}
def rZ (hK:X.K=K) (hc:X.calm=true) (hg:Gl X "len") (hm:X.mg "len"=none) (hg2:Gl X "set") (hm2:X.mg "set"=none) (hb:bootBuiltins "len"=some (.builtin "len")) (hb2:bootBuiltins "set"=some (.type "set")) (he:QE X e (tF K p ds ds1 d1 f)) (hs:aH e=true):QE X (.Call (.Name "len" px) [.Call (.Name "set" py) [e] [] pos2] [] pos) (tF K p ds ds1 3 (e1 nr f)):=⟨vy hK hc hg hm hg2 hm2 hb hb2 he.h hs⟩
end
section
variable {X:Cx} {K:PySem.W.Frag} {p p1 p2:Bool} {ds ds1 ds2:List Nat} {d d1 d2:Nat} {a b:Expr} {f f1 f2:ME} {σ:St} {H:Hp} {Q Q':VK} {pos:Pos} {ta tb:TE} {rest:List Expr}
end
section
variable {X:Cx} {K:PySem.W.Frag} {p p1 p2:Bool} {ds ds1 ds2:List Nat} {d d1 d2:Nat} {a b:Expr} {f f1 f2:ME} {σ:St} {H:Hp} {Q Q':VK} {pos:Pos}
end
section
variable {X:Cx} {K:PySem.W.Frag} {p p1 p2:Bool} {ds ds1 ds2:List Nat} {d d1 d2:Nat} {e:Expr} {f f1 f2:ME} {σ:St} {H:Hp} {Q Q':VK}
end
section
variable {X:Cx} {K:PySem.W.Frag} {p:Bool} {ds ds1 ds2:List Nat} {d d1 d2:Nat} {e:Expr} {f f1 f2:ME} {σ:St} {H:Hp} {Q Q':VK}
end
section
variable {X:Cx} {K:PySem.W.Frag} {p p1 p2:Bool} {ds ds1 ds2:List Nat} {d d1 d2:Nat} {e k:Expr} {f f1 f2:ME} {fa:MA} {sh:Sh} {σ:St} {H:Hp} {Q Q':VK} {pos pos2 px py:Pos}
end
section
variable {X:Cx} {K:PySem.W.Frag} {p p1 p2:Bool} {ds ds1 ds2:List Nat} {d d1 d2:Nat} {e:Expr} {f f1 f2:ME} {σ:St} {H:Hp} {Q Q':VK} {i:Nat}
def hU {o:Expr} {apos cpos:Pos} (hK:X.K=K) (ho:QE X o (tF K p ds ds1 d1 f1)) (he:QE X e (tF K p ds1 ds2 d2 f2)) (hbase:attributeBase o "split" X.env (eval o X.env)=eval o X.env) (hfew:((backTo cpos (starEach [e] X.env)).all (fun x=>!x.1) && (backToKw cpos (keywordEach [] X.env)).all (fun x=>x.1.isSome) && decide (([e]:List Expr).length+([]:List Keyword).length+(if ([]:List Keyword).isEmpty then 0 else 1) < 30))=true) (hline:(apos.endLine == cpos.line)=true) (hs:starEach [e] X.env=[(false,eval e X.env)]) (hplain:(backTo cpos (starEach [] X.env)).any (·.1)=false):QE X (.Call (.Attribute o "split" apos) [e] [] cpos) (tF K p ds ds2 3 (e2 dA f1 f2)):=⟨xg hK ho.h he.h hbase hfew hline hs hplain⟩
end
section
variable {X:Cx} {K:PySem.W.Frag} {p p1 p2 q:Bool} {J:Jd} {ds ds0 ds1 ds2 ds' dsi dps:List Nat} {d d' d1 d2 dr:Nat} {a b c e tg iter:Expr} {es:List Expr} {st:Stmt} {rest body bodyB:List Stmt} {f f1 f2 fk fe:ME} {c1 c2:MT} {fa:MA} {sh:Sh} {pos px:Pos} {i:Nat} {x:Str} {m m1 m2:MS} {g:MG} {gs:List D->En->Option En} {fi:MI} {lk:List Nat}
end
section
variable {X:Cx} {K:PySem.W.Frag} {p:Bool} {ds ds1:List Nat} {d:Nat} {fa:MA} {sh:Sh} {O O1:AS} {H0 H:Hp} {ts us:List D} {vs ws:List V} {a b:Addr}
def vv {l m:Expr} {px pos:Pos} {elts:List Expr} {k:Nat} {tp:Pos} (hK:X.K=K) (hg:Gl X "zip") (hm:X.mg "zip"=none) (ha:QA X [l,m] (tFA K p ds ds1 sh fa)) (hs:aH l=true) (hs2:aH m=true):QI X (.Tuple elts k tp) (.Call (.Name "zip" px) [l,m] [] pos) (tFI K p ds ds1 (kX fa)):=⟨Eo hK hg hm ha.h hs hs2⟩
end
section
variable {X:Cx} {K:PySem.W.Frag} {J:Jd} {lk ds ds0 ds1 ds2 ds':List Nat} {e tg:Expr} {es:List Expr} {f:ME} {pos px:Pos} {i:Nat} {g:MG} {gs:List D->En->Option En}
end
section
variable {X:Cx} {K:PySem.W.Frag} {p:Bool} {ds:List Nat} {k v:Expr} {fk fv:ME} {pos:Pos} {σ:St} {H:Hp} {Q:VK} {O:AS}
end
def Fun.okQ {P:Program} {w:World} {K:PySem.W.Frag} {mg:Str->Option Value} {base:Heap} {x qual:Str} {st:Stmt} {f:Addr} {fd:FuncData} {N ps:List Str} {k n dr:Nat} {dps ds0:List Nat} {J:Jd} {b:MS}
  (F:Fun K x qual st f fd) (S:FnScope N ps (aj st)) (hl:dps.length=ps.length) (hn:N.length - dps.length=n) (hJ:J=⟨qN dps,dps++List.replicate n 0,dr,[]⟩) (hd:ds0=dps++List.replicate n 0)
  (hb:∀ (cdv:Value) (A:Around) (outer:List Env) (s:Shared) (H:Hp) (E:XK),Room k (A.deeper (envOfC qual (aj st) s.heap.objs.size f cdv)) ->
   QSs (mM CX0 P w K mg base N qual (aj st) f cdv A outer s H E).nox (cW st) (tFS K J ds0 ds0 b)):FnOk P w K mg base CX0 (k+1) f fd ps (spF K dps dr (fnF n dps b)):=by
 subst hJ hd;exact F.ok S (fun vs H Q E h=>Ds hl h) fun cdv A outer s H vs Q E hr h=>⟨_,(hb cdv A outer s H E hr).h,Em hn h⟩
def Hx (F:List D->Option (D × En)):Prop:=∀ ns:List Int,ns.length<=63->∃ outs,F [.list (ns.map .int)]=some (.bool true,outs)
def ng (K:PySem.W.Frag):Sp:=fun vs H Q _=>∃ (a:Addr) (ns:List Int),vs=[.ref a]/\SqL K H a (ns.map V.int)/\(∀ b,H b=none\/∃ o xs,H b=some (.frz o (.lst xs)))/\ns.length<=63/\∀ H':Hp,Q (.bl true) H'
def l7 {K:PySem.W.Frag} {O:AS} {H:Hp}:∀ ns:List Int,Ows K O H (ns.map .int) 0 (ns.map V.int) NoA
 | []=>rfl
 | n :: r=>⟨.int n,r.map V.int,NoA,NoA,rfl,fun _ z=>z,fun _ z=>z,fun _ z=>z.elim,rfl,l7 r⟩
def Hw {K:PySem.W.Frag} {dr:Nat} {F:List D->Option (D × En)} (h:Hx F) {vs:List V} {H:Hp} {Q:VK} {E:XK} (q:ng K vs H Q E):spF K [0] dr F vs H Q E:=by
 obtain ⟨a,ns,rfl,hs,_,hl,q⟩:=q;obtain ⟨outs,e⟩:=h ns hl;have fz:FzL K (fun _=>False) H a (ns.map V.int):=by
  rcases hs with hs | hs
  ·exact .inl ⟨hs,fun z=>z⟩
  ·exact .inr fun H'=>.inr hs
 have eO:Own (fun _=>NoA) NoA=(fun _=>False):=gq fun b=>⟨fun z=>z.elim (fun ⟨_,z⟩=>z) fun z=>z,fun z=>z.elim⟩;refine ⟨NoA,[.list (ns.map .int)],fun _=>NoA,.bool true,outs,⟨fun i t hi=>?_,fun _ _ _ z=>z.elim,fun _ _ z=>z.elim,fun b z=>?_,rfl,rfl⟩,e,fun v H' R' Fr _ o=>?_⟩
 ·cases i with
  | zero =>
   have:t=.list (ns.map .int):=by
    have h2:some (some (PyData.list (ns.map .int)))=some (some t):=hi;injection h2 with h3
    injection h3 with h4
    exact h4.symm
   subst this;refine ⟨.ref a,0,rfl,rfl,?_⟩;rw [eO];exact ⟨a,ns.map V.int,rfl,.inl ⟨rfl,fz,l7 ns⟩⟩
  | succ i=>simp at hi
 ·rw [eO] at z;exact z.elim
 ·rw [show v=.bl true from o];exact q H'
section
variable {c:MT} {b:MS} {en en1 en2:En} {fl:Fl} {t:D}
def jM:∀ {n m:Nat} {en:En} {fl:Fl},whN c b n en=some fl->n<=m->whN c b m en=some fl
 | 0,_,_,_,h,_=>by cases h
 | n+1,0,_,_,_,h=>by omega
 | n+1,m+1,en,fl,h,hm=>by
  unfold whN at h ⊢;obtain ⟨r,h1,h⟩:=zaa.mp h;rw [h1];show (if r.1=true then _ else _)=_;by_cases hr:r.1=true
  ·rw [if_pos hr] at h ⊢;obtain ⟨f1,h2,h⟩:=zaa.mp h;rw [h2];cases f1 with
   | nx e=>exact jM (n:=n) (m:=m) h (by omega)
   | ct e=>exact jM (n:=n) (m:=m) h (by omega)
   | rt t e=>exact h
  ·rw [if_neg hr] at h ⊢;exact h
def iY {n:Nat} (h:whN c b n en=some fl):cQ c b en=some fl:=by
 have q:∃ n fl,whN c b n en=some fl:=⟨n,fl,h⟩;unfold cQ;rw [dif_pos q];have h2:=q.choose_spec.choose_spec;have h3:=jM h (Nat.le_max_left n q.choose);have h4:=jM h2 (Nat.le_max_right n q.choose);rw [h3] at h4;exact h4.symm
def rL (h:c en=some (false,en1)):cQ c b en=some (.nx en1):=by
 refine iY (n:=1) ?_;unfold whN;rw [h];rfl
def rM (h:c en=some (true,en1)) (h1:b en1=some (.nx en2)) (h2:cQ c b en2=some fl):cQ c b en=some fl:=by
 obtain ⟨n,h3⟩:=ja h2;refine iY (n:=n+1) ?_;unfold whN;rw [h];show (b en1).bind _=_;rw [h1];exact h3
def jZ {c:MT} {f:ME} {p:D->Bool} {F:D->D} {rest:En}:∀ (ts acc:List D) (o:Option D),(∀ t∈ts,c (some t :: rest)=some (p t,some t :: rest))->(∀ t∈ts,p t=true->f (some t :: rest)=some (F t,some t :: rest))->acc.length+ts.length<=sizeLine ->
  ∃ o',lcF (gN 0) c f ts acc (o :: rest)=some (acc++(ts.filter p).map F,o' :: rest)
 | [],acc,o,_,_,_=>⟨o,by simp [lcF]⟩
 | t :: ts,acc,o,hc,hf,hl=>by
  have hl':acc.length+(ts.length+1)<=sizeLine:=hl;cases hp:p t with
  | true =>
   obtain ⟨o',h⟩:=jZ (c:=c) (f:=f) (p:=p) (F:=F) ts (acc++[F t]) (some t) (fun x hx=>hc x (zaj _ hx)) (fun x hx=>hf x (zaj _ hx)) (by rw [zae]; show acc.length+1+_<=_; omega);refine ⟨o',?_⟩;unfold lcF;show ((c (some t :: rest)).bind _)=_;rw [hc t zaq,hp];show ((f (some t :: rest)).bind _)=_;rw [hf t zaq hp];show (if acc.length < sizeLine then _ else _)=_;rw [if_pos (by omega)]
   dsimp only
   rw [h,List.filter_cons_of_pos hp];simp
  | false =>
   obtain ⟨o',h⟩:=jZ (c:=c) (f:=f) (p:=p) (F:=F) ts acc (some t) (fun x hx=>hc x (zaj _ hx)) (fun x hx=>hf x (zaj _ hx)) (by omega);refine ⟨o',?_⟩;unfold lcF;show ((c (some t :: rest)).bind _)=_;rw [hc t zaq,hp];show lcF (gN 0) c f ts acc (some t :: rest)=_;rw [h,List.filter_cons_of_neg (by rw [hp]; decide)]
def DS {f:ME} {F:D->D} {rest:En} (ts acc:List D) (o:Option D) (hf:∀ t∈ts,f (some t :: rest)=some (F t,some t :: rest)) (hl:acc.length+ts.length<=sizeLine) :
  ∃ o',lcF (gN 0) cY f ts acc (o :: rest)=some (acc++ts.map F,o' :: rest):=by
 obtain ⟨o',h⟩:=jZ (c:=cY) (f:=f) (p:=fun _=>true) (F:=F) ts acc o (fun _ _=>rfl) (fun t ht _=>hf t ht) hl;rw [List.filter_eq_self.mpr (fun _ _=>rfl)] at h;exact ⟨o',h⟩
end
section
variable {c c1 c2:MT} {m1 m2 b:MS} {en en1 en2:En} {fl:Fl} {t t1 t2 u:D} {f f1 f2:ME} {g:D->D->Option D} {fa:MA} {i n:Nat} {x y:Bool} {F:List D->Option (D × En)} {as:List (D ⊕ Nat)} {ts:List D} {outs:En} {dps:List Nat}
def aY (h1:m1 en=some (.nx en1)) (h2:m2 en1=some fl):ak m1 m2 en=some fl:=by unfold ak; rw [h1]; exact h2
def jI (h1:m1 en=some (.rt t en1)):ak m1 m2 en=some (.rt t en1):=by unfold ak; rw [h1]; rfl
def fF {b:Bool} (h1:c en=some (b,en1)) (hb:b=true) (h2:m1 en1=some fl):sIf c m1 m2 en=some fl:=by unfold sIf; rw [h1,hb]; exact h2
def k9 {b:Bool} (h1:c en=some (b,en1)) (hb:b=false) (h2:m2 en1=some fl):sIf c m1 m2 en=some fl:=by unfold sIf; rw [h1,hb]; exact h2
def jH (h:f en=some (t,en1)) (he:en1.set i (some t)=en2):aB i f en=some (.nx en2):=by unfold aB; rw [h,<- he]; rfl
def nN (h:f en=some (t,en1)):aq f en=some (.rt t en1):=by unfold aq; rw [h]; rfl
def bp (h1:f1 en=some (t1,en1)) (h2:f2 en1=some (t2,en2)) (h:g t1 t2=some u):e2 g f1 f2 en=some (u,en2):=by
 unfold e2;rw [h1];show (f2 en1).bind _=_;rw [h2];show (g t1 t2).map _=_;rw [h];rfl
def vC {b:Bool} (h1:c1 en=some (b,en1)) (hb:b=true):bOr c1 c2 en=some (true,en1):=by unfold bOr; rw [h1,hb]; rfl
def vD {b:Bool} {r:Bool × En} (h1:c1 en=some (b,en1)) (hb:b=false) (h2:c2 en1=some r):bOr c1 c2 en=some r:=by unfold bOr; rw [h1,hb]; exact h2
def sO {b:Bool} {r:Bool × En} (h1:c1 en=some (b,en1)) (hb:b=true) (h2:c2 en1=some r):oZ c1 c2 en=some r:=by unfold oZ; rw [h1,hb]; exact h2
def EG {b:Bool} (h1:c1 en=some (b,en1)) (hb:b=false):oZ c1 c2 en=some (false,en1):=by unfold oZ; rw [h1,hb]; rfl
def eg {b:Bool} (h:f en=some (.bool b,en1)):tV f en=some (b,en1):=by unfold tV; rw [h]; rfl
def sN (h1:fa en=some (as,en1)) (h2:eJ as en1=some ts) (h:F ts=some (t,outs)) (hw:wb as outs en1=en2):al F fa en=some (t,en2):=by
 subst hw;unfold al;rw [h1];show (eJ as en1).bind _=_;rw [h2];show (F ts).map _=_;rw [h];rfl
def k7 {g:List D->Option D} (h1:fa en=some (as,en1)) (h2:vals as=some ts) (h:g ts=some t):eN g fa en=some (t,en1):=by
 unfold eN;rw [h1];show (vals as).bind _=_;rw [h2];show (g ts).map _=_;rw [h];rfl
def ue {r:MA} (h1:f en=some (t,en1)) (h2:r en1=some (as,en2)):ad f r en=some (.inl t :: as,en2):=by
 unfold ad;rw [h1];show (r en1).map _=_;rw [h2];rfl
def vF (h1:fa en=some (as,en1)) (h2:vals as=some ts) (h:ts.length<=sizeLine):bx fa en=some (.list ts,en1):=by
 unfold bx;rw [h1];show (vals as).bind _=_;rw [h2];exact if_pos h
def cf:100<=sizeLine:=by rw [sizeLine_eq]; decide
def gA (h:b (ts.map some++List.replicate n none)=some (.rt t en)):fnF n dps b ts=some (t,msk dps en):=by
 unfold fnF;rw [h];rfl
end
namespace Pen2
def di:MS:=(aq (lR [((eC (.str "script")),(ae 0)),((eC (.str "at")),(ae 1)),((eC (.str "left")),(eC (.int 0)))]))
def F_law_pen:List D->Option (D × En):=fnF 0 [0,0] di
def eS:MS:=(ak (aB 2 (e2 bF (e2 b6 (e2 bw (e2 bw (e2 bF (ae 0) (eC (.int 2147483629))) (e2 b6 (eC (.int 40503)) (ae 1))) (eC (.int 24691))) (eC (.int 48271))) (eC (.int 2147483647))))
 (ak (aB 3 (e2 bF (e2 bw (e2 bw (e2 b6 (ae 2) (ae 2)) (e2 b6 (eC (.int 69621)) (ae 2))) (ae 1)) (eC (.int 2147483629))))
 (aq (e2 dt (e2 bF (e2 bw (e2 bw (e2 b6 (ae 3) (ae 3)) (e2 b6 (eC (.int 16807)) (ae 3))) (e2 b6 (eC (.int 31)) (ae 1))) (eC (.int 1073741789))) (eC (.int 64))))))
def cx:List D->Option (D × En):=fnF 2 [0,0] eS
def ig:MS:=(ak (aB 2 (bY 0 (eC (.str "at"))))
 (ak (aB 3 (bY 0 (eC (.str "script"))))
 (ak (sIf (tV (e2 eqD (bY 0 (eC (.str "left"))) (eC (.int 0)))) (ak (dH 0 (eC (.str "at")) (e2 bw (ae 2) (eC (.int 1))))
 (ak (aB 4 (eC (.int 0)))
 (ak (sIf (tV (e2 gtI (eN aQ (ad (ae 3) ag)) (eC (.int 0)))) (aB 4 (e2 ixA (ae 3) (e2 bF (ae 2) (eN aQ (ad (ae 3) ag))))) aG)
 (ak (sIf (bOr (tV (e2 geI (ae 2) (eN aQ (ad (ae 3) ag)))) (tV (e2 ltI (eN jj (ad (ae 4) ag)) (e2 mx (eC (.int 10)) (eC (.int 18)))))) (aq (e2 bF (al cx (ad (ae 4) (ad (ae 2) ag))) (ae 1))) aG)
 (dH 0 (eC (.str "left")) (eN jj (ad (ae 4) ag))))))) aG)
 (ak (aB 5 (e2 bF (bY 0 (eC (.str "left"))) (ae 1)))
 (ak (dH 0 (eC (.str "left")) (e2 dt (bY 0 (eC (.str "left"))) (ae 1)))
 (aq (ae 5)))))))
def aw:List D->Option (D × En):=fnF 4 [1,0] ig
def penD (ns:List Int) (k l:Int):D:=.dict [(.str "script",.list (ns.map .int)),(.str "at",.int k),(.str "left",.int l)]
def qK {c k:Int} (h0:0<=k) (h1:k<=1000000000):∃ r,cx [.int c,.int k]=some (.int r,[none,none])/\0<=r:=by
 have a0:0<=c % 2147483629:=by omega
 have a1:c % 2147483629 < 2147483629:=by omega
 generalize g1:(c % 2147483629+40503 * k+24691) * 48271 % 2147483647=x;have x0:0<=x:=by omega
 have x1:x < 2147483647:=by omega
 generalize g2:(x * x+69621 * x+k) % 2147483629=y;have y0:0<=y:=by omega
 have y1:y < 2147483629:=by omega
 refine ⟨(y * y+16807 * y+31 * k) % 1073741789 / 64,?_,by omega⟩;have c1:CMul 40503 k:=.inl (by decide);have c2:CMul (c % 2147483629+40503 * k+24691) 48271:=.inr (by decide);have c3:CMul x x:=.inl (by constructor <;> omega);have c4:CMul 69621 x:=.inl (by decide);have c5:CMul y y:=.inl (by constructor <;> omega);have c6:CMul 16807 y:=.inl (by decide);have c7:CMul 31 k:=.inl (by decide);have c8:∀ z,gY z 64:=fun z=>by unfold gY; decide
 simp [cx,fnF,eS,ak,aB,aq,e2,ae,eC,bF,b6,bw,dt,iA,c1,c2,c3,c4,c5,c6,c7,c8,g1,g2,msk]
def take_ok {ns:List Int} {k l m:Int} (h0:0<=k) (h1:k<=1000000000) (h2:0<=l) (h3:0 < m) (h4:m < 1073741824) :
  ∃ r k' l',aw [penD ns k l,.int m]=some (.int r,[some (penD ns k' l'),none])/\0<=r/\r < m/\k<=k'/\k'<=k+1/\0<=l':=by
 have cd:∀ z,gY z m:=fun z=>⟨h3,h4⟩;have cp:iP 10 18:=by unfold iP; decide
 have md:∀ z,bF (.int z) (.int m)=some (.int (z % m)):=fun z=>if_pos h3;have dv:∀ z,dt (.int z) (.int m)=some (.int (z / m)):=fun z=>if_pos (cd z);have last:∀ (k' b:Int) (x y z:Option D),(ak (aB 5 (e2 bF (bY 0 (eC (.str "left"))) (ae 1)))
   (ak (dH 0 (eC (.str "left")) (e2 dt (bY 0 (eC (.str "left"))) (ae 1)))
   (aq (ae 5)))) [some (penD ns k' b),some (.int m),x,y,z,none]=some (.rt (.int (b % m)) [some (penD ns k' (b / m)),some (.int m),x,y,z,some (.int (b % m))]):=by
  intro k' b x y z;refine aY (en1:=[some (penD ns k' b),some (.int m),x,y,z,some (.int (b % m))]) (jH (bp (t1:=.int b) (t2:=.int m) rfl rfl (md b)) rfl) (aY (en1:=[some (penD ns k' (b / m)),some (.int m),x,y,z,some (.int (b % m))]) ?_ rfl);unfold dH;rw [bp (t1:=.int b) (t2:=.int m) (f1:=bY 0 (eC (.str "left"))) (f2:=ae 1) (g:=dt) (en:=[some (penD ns k' b),some (.int m),x,y,z,some (.int (b % m))]) (en1:=[some (penD ns k' b),some (.int m),x,y,z,some (.int (b % m))]) (en2:=[some (penD ns k' b),some (.int m),x,y,z,some (.int (b % m))]) rfl rfl (dv b)];rfl
 by_cases hl:l=0
 ·subst hl;by_cases hn:ns.length=0
  ·have hns:ns=[]:=za7.mp hn;subst hns;obtain ⟨r,e,hr⟩:=qK (c:=0) h0 h1;refine ⟨r % m,k+1,0,?_,zba _ (by omega),zbb _ h3,by omega,by omega,by omega⟩;refine gA (en:=[some (penD [] (k+1) 0),some (.int m),some (.int k),some (.list []),some (.int 0),none]) (aY rfl (aY rfl (jI (fF (b:=true) rfl rfl (aY (en1:=[some (penD [] (k+1) 0),some (.int m),some (.int k),some (.list []),none,none]) rfl (aY rfl (aY rfl (jI (fF (b:=true) (vC (b:=decide ((0:Int)<=k)) rfl (zaB h0)) rfl (nN (bp (en1:=[some (penD [] (k+1) 0),some (.int m),some (.int k),some (.list []),some (.int 0),none]) (t2:=.int m) (sN (as:=[.inl (.int 0),.inl (.int k)]) (en1:=[some (penD [] (k+1) 0),some (.int m),some (.int k),some (.list []),some (.int 0),none]) rfl rfl e rfl) rfl (md r))))))))))))
  ·obtain ⟨j,ej⟩:∃ j:Nat,ixN ns.length (k % ns.length)=some j/\j < ns.length:=by
    have q1:0<=k % (ns.length:Int):=zba _ (by omega);have q2:k % (ns.length:Int) < ns.length:=zbb _ (by omega);exact ⟨(k % (ns.length:Int)).toNat,by unfold ixN; rw [if_pos q1,if_pos q2],by omega⟩
   obtain ⟨c,ec⟩:∃ c,ns[j]?=some c:=⟨_,zak ej.2⟩;have at1:ixA (.list (ns.map .int)) (.int (k % ns.length))=some (.int c):=by
    show atI _ _=_;unfold atI;rw [zad,ej.1];show (ns.map PyData.int)[j]?=_;rw [zao,ec];rfl
   have hn1:(0:Int) < ns.length:=by omega
   have len:aQ [.list (ns.map .int)]=some (.int ns.length):=by show some (PyData.int (ns.map PyData.int).length)=_; rw [zad]
   have ml:bF (.int k) (.int ns.length)=some (.int (k % ns.length)):=if_pos hn1;obtain ⟨r,e,hr⟩:=qK (c:=c) h0 h1;obtain ⟨b,ab,b0⟩:∃ b,jj [.int c]=some (.int b)/\0<=b:=⟨if c < 0 then -c else c,rfl,by split <;> omega⟩;have pw:mx (.int 10) (.int 18)=some (.int 1000000000000000000):=by
    show (if iP 10 18 then some (PyData.int (10 ^ Int.toNat 18)) else none)=_;rw [if_pos cp]; rfl
   have ln:∀ (x y:Option D) (p:D),(eN aQ (ad (ae 3) ag)) [some p,some (.int m),x,some (.list (ns.map .int)),y,none]=some (.int ns.length,[some p,some (.int m),x,some (.list (ns.map .int)),y,none]):=fun x y p=>k7 rfl rfl len;have pre:∀ (x y:Option D) {m2:MS} {fl:Fl},m2 [some (penD ns (k+1) 0),some (.int m),some (.int k),some (.list (ns.map .int)),some (.int c),none]=some fl->(ak (dH 0 (eC (.str "at")) (e2 bw (ae 2) (eC (.int 1))))
 (ak (aB 4 (eC (.int 0)))
 (ak (sIf (tV (e2 gtI (eN aQ (ad (ae 3) ag)) (eC (.int 0)))) (aB 4 (e2 ixA (ae 3) (e2 bF (ae 2) (eN aQ (ad (ae 3) ag))))) aG) m2))) [some (penD ns k 0),some (.int m),some (.int k),some (.list (ns.map .int)),none,none]=some fl:=by
    intro x y m2 fl h;refine aY (en1:=[some (penD ns (k+1) 0),some (.int m),some (.int k),some (.list (ns.map .int)),none,none]) rfl (aY (en1:=[some (penD ns (k+1) 0),some (.int m),some (.int k),some (.list (ns.map .int)),some (.int 0),none]) rfl (aY ?_ h));exact fF (eg (bp (ln _ _ _) rfl rfl)) (zaB hn1) (jH (bp rfl (bp rfl (ln _ _ _) ml) at1) rfl)
   by_cases hq:(ns.length:Int)<=k\/b < 1000000000000000000
   ·refine ⟨r % m,k+1,0,?_,zba _ (by omega),zbb _ h3,by omega,by omega,by omega⟩;refine gA (en:=[some (penD ns (k+1) 0),some (.int m),some (.int k),some (.list (ns.map .int)),some (.int c),none]) (aY rfl (aY rfl (jI (fF (b:=true) rfl rfl (pre none none (jI (fF (en1:=[some (penD ns (k+1) 0),some (.int m),some (.int k),some (.list (ns.map .int)),some (.int c),none]) (b:=true) ?_ rfl (nN (bp (en1:=[some (penD ns (k+1) 0),some (.int m),some (.int k),some (.list (ns.map .int)),some (.int c),none]) (t2:=.int m) (sN (as:=[.inl (.int c),.inl (.int k)]) (en1:=[some (penD ns (k+1) 0),some (.int m),some (.int k),some (.list (ns.map .int)),some (.int c),none]) rfl rfl e rfl) rfl (md r))))))))));by_cases hq2:(ns.length:Int)<=k
    ·exact vC (eg (bp rfl (ln _ _ _) rfl)) (zaB hq2)
    ·have hq3:=hq.resolve_left hq2;exact vD (eg (bp rfl (ln _ _ _) rfl)) (zaA hq2) (eg (bp (k7 rfl rfl ab) (bp rfl rfl pw) (congrArg (fun q=>some (PyData.bool q)) (zaB hq3))))
   ·have hq1:¬ (ns.length:Int)<=k:=fun z=>hq (.inl z);have hq2:¬ b < 1000000000000000000:=fun z=>hq (.inr z);refine ⟨b % m,k+1,b / m,?_,zba _ (by omega),zbb _ h3,by omega,by omega,Int.ediv_nonneg b0 (by omega)⟩;refine gA (aY rfl (aY rfl (aY (en1:=[some (penD ns (k+1) b),some (.int m),some (.int k),some (.list (ns.map .int)),some (.int c),none]) (fF (b:=true) rfl rfl (pre none none (aY (k9 (vD (eg (bp rfl (ln _ _ _) rfl)) (zaA hq1) (eg (bp (k7 rfl rfl ab) (bp rfl rfl pw) rfl))) (zaA hq2) rfl) ?_))) (last _ _ _ _ _))));unfold dH;rw [k7 (fa:=ad (ae 4) ag) (en:=[some (penD ns (k+1) 0),some (.int m),some (.int k),some (.list (ns.map .int)),some (.int c),none]) (en1:=[some (penD ns (k+1) 0),some (.int m),some (.int k),some (.list (ns.map .int)),some (.int c),none]) rfl rfl ab];rfl
 ·refine ⟨l % m,k,l / m,?_,zba _ (by omega),zbb _ h3,Int.le_refl _,by omega,Int.ediv_nonneg h2 (by omega)⟩;exact gA (aY rfl (aY rfl (aY (k9 (b:=l == 0) rfl (beq_eq_false_iff_ne.mpr hl) rfl) (last k l _ _ _))))
end Pen2
end L2
namespace L2
open PySem PySem.Spec PyProof.Rows
def IT (a b:Int):eqD (.int a) (.int b)=some (.bool (a == b)):=by
 show grd _ _=_;unfold grd;rw [if_pos ⟨rfl,rfl,Nat.zero_le _⟩];simp only [peq]
def Hs (a b:Int):neD (.int a) (.int b)=some (.bool (!(a == b))):=by
 show grd _ _=_;unfold grd;rw [if_pos ⟨rfl,rfl,Nat.zero_le _⟩];simp only [peq]
structure Df (K:PySem.W.Frag) (x:Str) (st:Stmt) (f:Addr):Prop where
 a:PySem.W.nsIn K mainGlobals x=some (some (.ref f))
 l:∃ oc od kV dc pm an cd ct sl,K.lookup f=some ⟨oc,od,.func (PySem.W.fnOf x x (eh st) (cW st) (aj st) .none kV dc pm an cd ct),sl⟩/\PySem.W.codeIn K cd x=true
 k:PySem.W.keepIn K (.ref f)=true
section
variable {P:Program} {w:World} {K:PySem.W.Frag} {mg:Str->Option Value} {base h:Heap} {k dr:Nat} {x:Str} {ps:List Str} {dps:List Nat} {f:Addr} {st:Stmt} {sp:Sp}
def Df.mk' {oc:Value} {od an:Option Addr} {sl:Array (Option Value)} {kV dc pm cd ct:Value} (a:PySem.W.nsIn K mainGlobals x=some (some (.ref f))) (l:K.lookup f=some ⟨oc,od,.func (PySem.W.fnOf x x (eh st) (cW st) (aj st) .none kV dc pm an cd ct),sl⟩) (c:PySem.W.codeIn K cd x=true) (k:PySem.W.keepIn K (.ref f)=true):Df K x st f :=
 ⟨a,⟨oc,od,kV,dc,pm,an,cd,ct,sl,l,c⟩,k⟩
def Df.kn (d:Df K x st f) (X:K.In h) (G:h.Ns mainGlobals mg) (b:∀ (kV doc pm:Value) (an:Option Addr) (cdv ct:Value) (us:List Value),us.length=ps.length->bindArgs (PySem.W.fnOf x x (eh st) (cW st) (aj st) .none kV doc pm an cdv ct) ⟨us,[]⟩=pure (ps.zip us))
  (ok:∀ fd,Fun K x x st f fd->FnOk P w K mg base CX0 k f fd ps sp):Kn P w K mg base k x ps sp:=by
 obtain ⟨_,_,_,_,_,_,_,_,_,l,c⟩:=d.l;have F:=rg (st:=st) l c d.k;exact ⟨_,_,ok _ F,za9 X G d.a,d.k,F.binds b⟩
def Df.none (d:Df K x st f) (X:K.In h) (G:h.Ns mainGlobals mg) (b:∀ (kV doc pm:Value) (an:Option Addr) (cdv ct:Value) (us:List Value),us.length=ps.length->bindArgs (PySem.W.fnOf x x (eh st) (cW st) (aj st) .none kV doc pm an cdv ct) ⟨us,[]⟩=pure (ps.zip us)) :
  Kn P w K mg base k x ps (spF K dps dr fun _=>Option.none):=by
 obtain ⟨_,_,_,_,_,_,_,_,_,l,c⟩:=d.l;have F:=rg (st:=st) l c d.k;exact DT (za9 X G d.a) d.k (F.binds b)
end
section
variable {X:Cx} {K:PySem.W.Frag} {p:Bool} {ds ds1 ds2 ds':List Nat} {d d1 d2:Nat} {a b e:Expr} {es:List Expr} {f f1 f2:ME} {fa:MA} {sh:Sh} {pos px:Pos} {x:Str} {J:Jd} {k dr:Nat} {ps:List Str} {dps:List Nat} {F:List D->Option (D × En)} {g:List D->Option D}
abbrev vck (X:Cx) (x:Str) (i:Nat) (n:NameKind):Prop:=(X.N[i]?,X.env.scope.names.lookup x,x == ("__debug__" : Str),x == ("__classdict__" : Str))=(some x,some n,false,false)
def fv (i:Nat) (h:vck X x i .local) (h0:ds[i]?=some 0):QE X (.Name x pos) (tF K p ds ds 0 (ae i)):=by
 simp only [vck,za1] at h;exact j8 h.1 (.inl h.2.1) h0 h.2.2.1 h.2.2.2
def fvc (i:Nat) (h:vck X x i .cell) (h0:ds[i]?=some 0):QE X (.Name x pos) (tF K p ds ds 0 (ae i)):=by
 simp only [vck,za1] at h;exact j8 h.1 (.inr (.inl h.2.1)) h0 h.2.2.1 h.2.2.2
def fsl (i:Nat) (hr:QA X es (tFA K p ds ds2 sh fa)) (h:vck X x i .local):QA X (.Name x pos :: es) (tFA K p ds ds2 (.inr i :: sh) (aD i fa)):=by
 simp only [vck,za1] at h;exact nM h.1 (.inl h.2.1) hr h.2.2.1 h.2.2.2
def cT (i:Nat) (hr:QA X es (tFA K p ds ds2 sh fa)) (h:vck X x i .cell):QA X (.Name x pos :: es) (tFA K p ds ds2 (.inr i :: sh) (aD i fa)):=by
 simp only [vck,za1] at h;exact nM h.1 (.inr (.inl h.2.1)) hr h.2.2.1 h.2.2.2
def fs0 (h:QE X e (tF K p ds ds' d f)):QE X e (tF K p ds ds' 0 f):=dq h (Nat.zero_le _)
def frt (he:QE X e (tF K false ds ds1 J.dr f)) (hd:leD J.dsr ds1=true):QSs X [.Return (some e) pos] (tFS K J ds ds' (aq f)):=bh (vn he hd)
abbrev cck (X:Cx) (x:Str) (e:Expr) (es:List Expr):Prop:=(X.env.kindOf x,x == ("__debug__" : Str),aH e,es.all aH)=(some .globalImplicit,false,true,true)
def fnn (G:Kn X.prog X.w X.K X.mg X.base k x ps (spF K dps dr F)) (hr:Room k X.A) (ha:QA X (e :: es) (tFA K p ds ds1 sh fa)) (h:cck X x e es) (h2:(iz sh,eX ds1 sh dps)=(true,true)):QE X (.Call (.Name x px) (e :: es) [] pos) (tF K p ds ds1 dr (al F fa)):=by
 simp only [cck,za1] at h h2;exact Ey G hr h.1 ha h2.1 h2.2 h.2.1 h.2.2.1 h.2.2.2
def fns (G:Kn X.prog X.w X.K X.mg X.base k x ps (spF K dps dr F)) (hr:Room k X.A) (ha:QA X (e :: es) (tFA K false ds ds1 sh fa)) (h:cck X x e es) (h2:eX ds1 sh dps=true):QE X (.Call (.Name x px) (e :: es) [] pos) (tF K false ds ds1 dr (al F fa)):=by
 simp only [cck,za1] at h;exact xl G hr h.1 ha h2 h.2.1 h.2.2.1 h.2.2.2
def fcb {id:String} (hc:CallR X (.builtin id) (rFn K g d)) (hm:X.mg x=none) (hv:bootBuiltins x=some (.builtin id)) (ha:QA X (e :: es) (tFA K p ds ds1 sh fa)) (h:cck X x e es) (h2:(cg 0 sh,x == ("__name__" : Str))=(true,false)):QE X (.Call (.Name x px) (e :: es) [] pos) (tF K p ds ds1 d (eN g fa)):=by
 simp only [cck,za1] at h h2;exact nL hc h.1 hm hv ha h2.1 (by simpa using h2.2) h.2.1 h.2.2.1 h.2.2.2
def fct {id:String} (hc:CallR X (.type id) (rFn K g d)) (hm:X.mg x=none) (hv:bootBuiltins x=some (.type id)) (ha:QA X (e :: es) (tFA K p ds ds1 sh fa)) (h:cck X x e es) (h2:(cg 0 sh,x == ("__name__" : Str))=(true,false)):QE X (.Call (.Name x px) (e :: es) [] pos) (tF K p ds ds1 d (eN g fa)):=by
 simp only [cck,za1] at h h2;exact r6 hc h.1 hm hv ha h2.1 (by simpa using h2.2) h.2.1 h.2.2.1 h.2.2.2
def fln (hK:X.K=K) (hm:X.mg "len"=none) (ha:QA X (e :: es) (tFA K p ds ds1 sh fa)) (h:cck X "len" e es) (h2:cg 0 sh=true):QE X (.Call (.Name "len" px) (e :: es) [] pos) (tF K p ds ds1 3 (eN aQ fa)):=by
 simp only [cck,za1] at h;exact nL (Ii hK) h.1 hm (by decide +kernel) ha h2 (by decide) h.2.1 h.2.2.1 h.2.2.2
def fte (hK:X.K=K) (hu:X.A.units+64 < cLine) (ha:QE X a (tF K p ds ds1 d1 f1)) (hb:QE X b (tF K p ds1 ds2 d2 f2)):QT X (.Compare a [.Eq] [b] pos) (tFT K p ds ds2 (tV (e2 eqD f1 f2))):=bU (gn hK hu) ha hb (bq _)
def ftn (hK:X.K=K) (hu:X.A.units+64 < cLine) (ha:QE X a (tF K p ds ds1 d1 f1)) (hb:QE X b (tF K p ds1 ds2 d2 f2)):QT X (.Compare a [.NotEq] [b] pos) (tFT K p ds ds2 (tV (e2 neD f1 f2))):=bU (Dk hK hu) ha hb (bq _)
def fxi {n:Int} {j:Nat} {q:Pos} (hK:X.K=K) (ha:QE X a (tF K p ds ds1 d1 f1)):QE X (.Subscript a (.Constant (.int n) j q) pos) (tF K p ds ds1 0 (e2 ixA f1 (eC (.int n)))):=fX (lQ hK) ha ah fun _ _=>rfl
def bo (i:Nat) (ds':List Nat) {pos':Pos} (hN:X.N.Nodup) (he:QE X e (tF K false ds ds1 d f)) (h:(X.N[i]?,X.env.scope.names.lookup x,X.fn x)=(some x,some .local,true)) (h2:(ds1.set i d,decide (i < ds1.length),J.lk.contains i)=(ds',true,false)) (hs:swapsWith e (some (.Name x pos')) pos.line X.env=pure false):QS X (.Assign [.Name x pos'] e pos) (tFS K J ds ds' (aB i f)):=by
 simp only [za1,decide_eq_true_eq] at h h2;exact ft hN h.1 (.inl h.2.1) he h2.1 h2.2.1 (by simpa using h2.2.2) hs (.inl h.2.2)
end
end L2
namespace L2
open PySem PySem.Spec PyProof.Rows PySem.SeqAt PySem.MeetsSeq
section
variable {X:Cx} {K:PySem.W.Frag}
def nc:List D->Option D
 | [.int i]=>grd (i.natAbs.log2 < 1920) (.str (toString i))
 | [.str z]=>some (.str z)
 | _=>none
def sG:CallR X (.type "str") (rFn K nc 3):=by
 intro pins s σ H xs us Q I r ⟨O,as,t,oa,hd,hr,k⟩
 match as,hr with
 | [.int i],hr =>
  obtain ⟨c,rfl⟩:=cJ hr;obtain ⟨v,rfl,o⟩:=oa.one;cases (show v=V.int i from o);obtain ⟨u,rfl,tk,rfl⟩:=bW r;exact PySem.P.str_of_int c ⟨.str _,H,I.tok _,⟨_,rfl⟩,k _ H NoA .refl rfl⟩
 | [.str z],hr =>
  cases hr;obtain ⟨v,rfl,o⟩:=oa.one;cases (show v=V.str z from o);obtain ⟨u,rfl,tk,rfl⟩:=bW r;exact PySem.P.str_of_str ⟨.str _,H,I,⟨_,rfl⟩,k _ H NoA .refl rfl⟩
def figU:List (Str × Int):=[("0",0),("1",1),("2",2),("3",3),("4",4),("5",5),("6",6),("7",7),("8",8),("9",9),("10",10),("11",11),("12",12),("13",13),("14",14),("15",15),("16",16),("17",17),("18",18),("19",19),("20",20),("21",21),("22",22),("23",23),("24",24),("25",25),("26",26),("27",27),("28",28),("29",29),("30",30)]
def ua:List D->Option D
 | [.str z]=>(figU.find? fun p=>decide (p.1=z)).map fun p=>.int p.2
 | _=>none
def wU:∀ p∈figU,∀ t:Tok,Meets (Builtin.«int.__new__» ⟨[.type "int",.str p.1 t],[]⟩) (fun _ R s=>R (.ok (.ret (.int p.2 s.toks))) { s with toks:=s.toks+1 }):=by
 intro p hp t;refine Ke.2 _ t _ ?_ ?_
 ·revert p;decide +kernel
 simp only [figU,zay,zap,or_false] at hp;rcases hp with rfl | rfl | rfl | rfl | rfl | rfl | rfl | rfl | rfl | rfl | rfl | rfl | rfl | rfl | rfl | rfl | rfl | rfl | rfl | rfl | rfl | rfl | rfl | rfl | rfl | rfl | rfl | rfl | rfl | rfl | rfl
 all_goals kernel_rfl
def El:CallR X (.type "int") (rFn K ua 3):=by
 intro pins s σ H xs us Q I r ⟨O,as,t,oa,hd,hr,k⟩
 match as,hr with
 | [.str z],hr =>
  obtain ⟨p,h1,h2⟩:=zab.mp hr;subst h2;obtain ⟨v,rfl,o⟩:=oa.one;obtain ⟨u,rfl,ru⟩:=bW r;cases (show v=V.str z from o);obtain ⟨tk,rfl⟩:=ru;have hz:p.1=z:=by
   have:=List.find?_some h1;simpa using this
  subst hz;refine call_int_1 (wU p (List.mem_of_find?_eq_some h1) tk) ⟨typeIs_int _ _ _,.int p.2,H,I.tok _,⟨_,rfl⟩,k _ H NoA .refl rfl⟩
end
end L2
namespace L2
namespace Pen3
open PySem L2
def sl1000:1000<=sizeLine:=by rw [sizeLine_eq]; decide
def di:MS:=(ak (aB 2 (eC (.int 0)))
 (ak (sIf (tV (e2 gtI (eN aQ (ad (ae 0) ag)) (eC (.int 0)))) (aB 2 (e2 ixA (ae 0) (e2 bF (ae 1) (eN aQ (ad (ae 0) ag))))) aG)
 (ak (sIf (oZ (tV (e2 ltI (ae 1) (eN aQ (ad (ae 0) ag)))) (tV (e2 geI (eN jj (ad (ae 2) ag)) (e2 mx (eC (.int 10)) (eC (.int 18)))))) (aq (bx (ad (eN jj (ad (ae 2) ag)) (ad (eC (.int 0)) (ad (eC (.int 0)) ag))))) aG)
 (aq (bx (ad (eC (.int 0)) (ad (e2 bw (e2 bF (ae 2) (eC (.int 999999937))) (e2 b6 (eC (.int 70001)) (ae 1))) (ad (eC (.int 0)) ag))))))))
def F_law_pen:List D->Option (D × En):=fnF 1 [0,0] di
def kA:MS:=(ak (sIf (tV (e2 gtI (dG 0 (eC (.int 0))) (eC (.int 0)))) (ak (aB 2 (e2 bF (dG 0 (eC (.int 0))) (ae 1)))
 (ak (gk 0 (eC (.int 0)) (e2 dt (dG 0 (eC (.int 0))) (ae 1)))
 (aq (ae 2)))) aG)
 (ak (gk 0 (eC (.int 2)) (e2 bw (dG 0 (eC (.int 2))) (eC (.int 1))))
 (ak (aB 3 (e2 bF (e2 bw (e2 bw (e2 b6 (dG 0 (eC (.int 1))) (eC (.int 48271))) (e2 b6 (dG 0 (eC (.int 2))) (eC (.int 39373)))) (eC (.int 11))) (eC (.int 2147483647))))
 (ak (aB 3 (e2 bF (e2 b6 (ae 3) (e2 bw (e2 bF (ae 3) (eC (.int 65521))) (dG 0 (eC (.int 2))))) (eC (.int 2147483629))))
 (aq (e2 bF (e2 dt (ae 3) (eC (.int 64))) (ae 1)))))))
def F_law_draw:List D->Option (D × En):=fnF 2 [1,0] kA
def eI (a b c:Int):D:=.list [.int a,.int b,.int c]
def IsPen (t:D):Prop:=∃ a b c,t=eI a b c
def draw_ok {p:D} {m:Int} (hp:IsPen p) (h3:0 < m) (h4:m < 1073741824):∃ r p',F_law_draw [p,.int m]=some (.int r,[some p',none])/\0<=r/\r < m/\IsPen p':=by
 obtain ⟨a,b,c,rfl⟩:=hp;have cd:∀ z,gY z m:=fun z=>⟨h3,h4⟩;have md:∀ z,bF (.int z) (.int m)=some (.int (z % m)):=fun z=>if_pos h3;have dv:∀ z,dt (.int z) (.int m)=some (.int (z / m)):=fun z=>if_pos (cd z);by_cases ha:0 < a
 ·refine ⟨a % m,eI (a / m) b c,?_,zba _ (by omega),zbb _ h3,_,_,_,rfl⟩;refine gA (b:=kA) (en:=[some (eI (a / m) b c),some (.int m),some (.int (a % m)),none]) (jI (fF (b:=decide ((0:Int) < a)) rfl (zaB ha) (aY (en1:=[some (eI a b c),some (.int m),some (.int (a % m)),none]) (jH (bp (t1:=.int a) (t2:=.int m) rfl rfl (md a)) rfl) (aY (en1:=[some (eI (a / m) b c),some (.int m),some (.int (a % m)),none]) ?_ rfl))));unfold gk;rw [bp (t1:=.int a) (t2:=.int m) (f1:=dG 0 (eC (.int 0))) (f2:=ae 1) (g:=dt) (en:=[some (eI a b c),some (.int m),some (.int (a % m)),none]) (en1:=[some (eI a b c),some (.int m),some (.int (a % m)),none]) (en2:=[some (eI a b c),some (.int m),some (.int (a % m)),none]) rfl rfl (dv a)];rfl
 ·generalize g1:(b * 48271+(c+1) * 39373+11) % 2147483647=x;have x0:0<=x:=by omega
  have x1:x < 2147483647:=by omega
  generalize g2:x * (x % 65521+(c+1)) % 2147483629=y;refine ⟨y / 64 % m,eI a b (c+1),?_,zba _ (by omega),zbb _ h3,_,_,_,rfl⟩;have c1:b6 (.int b) (.int 48271)=some (.int (b * 48271)):=if_pos (.inr (by decide));have c2:b6 (.int (c+1)) (.int 39373)=some (.int ((c+1) * 39373)):=if_pos (.inr (by decide));have c3:b6 (.int x) (.int (x % 65521+(c+1)))=some (.int (x * (x % 65521+(c+1)))):=if_pos (.inl (by constructor <;> omega));have c80:gY y 64:=⟨by decide,by decide⟩;have c8:dt (.int y) (.int 64)=some (.int (y / 64)):=by
   show (if gY y 64 then some (PyData.int (y / 64)) else none)=_;rw [if_pos c80]
  refine gA (b:=kA) (en:=[some (eI a b (c+1)),some (.int m),none,some (.int y)]) (aY (en1:=[some (eI a b c),some (.int m),none,none]) (k9 (b:=decide ((0:Int) < a)) rfl (zaA ha) rfl)
   (aY (en1:=[some (eI a b (c+1)),some (.int m),none,none]) rfl
   (aY (en1:=[some (eI a b (c+1)),some (.int m),none,some (.int x)]) (jH (bp (t2:=.int 2147483647) (bp (bp (bp (t1:=.int b) (t2:=.int 48271) rfl rfl c1) (bp (t1:=.int (c+1)) (t2:=.int 39373) rfl rfl c2) rfl) rfl rfl) rfl (by rw [<- g1]; rfl)) rfl)
   (aY (en1:=[some (eI a b (c+1)),some (.int m),none,some (.int y)]) (jH (bp (t2:=.int 2147483629) (bp (t1:=.int x) (t2:=.int (x % 65521+(c+1))) rfl (bp (t1:=.int (x % 65521)) (t2:=.int (c+1)) rfl rfl rfl) c3) rfl (by rw [<- g2]; rfl)) rfl)
   (nN (bp (t2:=.int m) (bp (t1:=.int y) (t2:=.int 64) rfl rfl c8) rfl (md _)))))))
def pen_ok {ns:List Int} {k:Int} (h0:0<=k):∃ p,F_law_pen [.list (ns.map .int),.int k]=some (p,[none,none])/\IsPen p:=by
 have len:aQ [.list (ns.map .int)]=some (.int ns.length):=by show some (PyData.int (ns.map PyData.int).length)=_; rw [zad]
 have ln:∀ (y:Option D),(eN aQ (ad (ae 0) ag)) [some (.list (ns.map .int)),some (.int k),y]=some (.int ns.length,[some (.list (ns.map .int)),some (.int k),y]):=fun y=>k7 rfl rfl len;have mk0:CMul 70001 k:=.inl (by decide);have mk:b6 (.int 70001) (.int k)=some (.int (70001 * k)):=by
  show (if CMul 70001 k then some (PyData.int (70001 * k)) else none)=_;rw [if_pos mk0]
 have pw:mx (.int 10) (.int 18)=some (.int 1000000000000000000):=by
  show (if iP 10 18 then some (PyData.int (10 ^ Int.toNat 18)) else none)=_;rw [if_pos (by unfold iP; decide)]; rfl
 obtain ⟨c,st⟩:∃ c:Int,(sIf (tV (e2 gtI (eN aQ (ad (ae 0) ag)) (eC (.int 0)))) (aB 2 (e2 ixA (ae 0) (e2 bF (ae 1) (eN aQ (ad (ae 0) ag))))) aG) [some (.list (ns.map .int)),some (.int k),some (.int 0)]=some (.nx [some (.list (ns.map .int)),some (.int k),some (.int c)]):=by
  by_cases hn:(0:Int) < ns.length
  ·obtain ⟨j,ej⟩:∃ j:Nat,ixN ns.length (k % ns.length)=some j/\j < ns.length:=by
    have q1:0<=k % (ns.length:Int):=zba _ (by omega);have q2:k % (ns.length:Int) < ns.length:=zbb _ (by omega);exact ⟨(k % (ns.length:Int)).toNat,by unfold ixN; rw [if_pos q1,if_pos q2],by omega⟩
   obtain ⟨c,ec⟩:∃ c,ns[j]?=some c:=⟨_,zak ej.2⟩;have at1:ixA (.list (ns.map .int)) (.int (k % ns.length))=some (.int c):=by
    show atI _ _=_;unfold atI;rw [zad,ej.1];show (ns.map PyData.int)[j]?=_;rw [zao,ec];rfl
   have ml:bF (.int k) (.int ns.length)=some (.int (k % ns.length)):=if_pos hn;exact ⟨c,fF (eg (bp (ln _) rfl rfl)) (zaB hn) (jH (bp rfl (bp rfl (ln _) ml) at1) rfl)⟩
  ·exact ⟨0,k9 (eg (bp (ln _) rfl rfl)) (zaA hn) rfl⟩
 obtain ⟨b,ab⟩:∃ b,jj [.int c]=some (.int b):=⟨if c < 0 then -c else c,rfl⟩;have l3:∀ x y z:D,[x,y,z].length<=sizeLine:=fun x y z=>zau (by show 3<=1000; decide) sl1000;have fin:(aq (bx (ad (eC (.int 0)) (ad (e2 bw (e2 bF (ae 2) (eC (.int 999999937))) (e2 b6 (eC (.int 70001)) (ae 1))) (ad (eC (.int 0)) ag))))) [some (.list (ns.map .int)),some (.int k),some (.int c)]=some (.rt (eI 0 (c % 999999937+70001 * k) 0) [some (.list (ns.map .int)),some (.int k),some (.int c)]) :=
  nN (vF (ue rfl (ue (bp (t1:=.int (c % 999999937)) (t2:=.int (70001 * k)) rfl (bp rfl rfl mk) rfl) rfl)) rfl (l3 _ _ _))
 by_cases h1:(k < (ns.length:Int))/\(1000000000000000000<=b)
 ·refine ⟨eI b 0 0,gA (b:=di) (en:=[some (.list (ns.map .int)),some (.int k),some (.int c)]) (aY (en1:=[some (.list (ns.map .int)),some (.int k),some (.int 0)]) rfl (aY st (jI (fF (b:=true) (sO (b:=decide (k < (ns.length:Int))) (eg (bp rfl (ln _) rfl)) (zaB h1.1) (eg (bp (k7 rfl rfl ab) (bp rfl rfl pw) (congrArg (fun q=>some (PyData.bool q)) (zaB h1.2))))) rfl (nN (vF (ue (k7 rfl rfl ab) rfl) rfl (l3 _ _ _))))))),_,_,_,rfl⟩
 ·refine ⟨_,gA (b:=di) (en:=[some (.list (ns.map .int)),some (.int k),some (.int c)]) (aY (en1:=[some (.list (ns.map .int)),some (.int k),some (.int 0)]) rfl (aY st (aY (en1:=[some (.list (ns.map .int)),some (.int k),some (.int c)]) (k9 (b:=false) ?_ rfl rfl) fin))),_,_,_,rfl⟩;by_cases h2:k < (ns.length:Int)
  ·exact sO (b:=decide (k < (ns.length:Int))) (eg (bp rfl (ln _) rfl)) (zaB h2) (eg (bp (k7 rfl rfl ab) (bp rfl rfl pw) (congrArg (fun q=>some (PyData.bool q)) (zaA fun z=>h1 ⟨h2,z⟩))))
  ·exact EG (b:=decide (k < (ns.length:Int))) (eg (bp rfl (ln _) rfl)) (zaA h2)
end Pen3
end L2
namespace L2
open PySem PySem.Spec PyProof.Rows
structure W {α:Type} (x:Option α) (Q:α->Prop):Prop where
 ex:∃ a,x=some a/\Q a
def au {α:Type} (a:α) (Q:α->Prop):W (some a) Q=Q a:=propext ⟨fun ⟨b,e,h⟩=>(zat e) ▸ h,fun h=>⟨a,rfl,h⟩⟩
def bm {α:Type} (Q:α->Prop):W (none:Option α) Q=False:=propext ⟨(fun ⟨b,e,h⟩=>by cases e),(fun h=>h.elim)⟩
def W.use {α:Type} {x:Option α} {P Q:α->Prop} (h:W x P) (k:∀ a,P a->Q a):W x Q :=
 let ⟨a,e,h⟩:=h.ex
 ⟨a,e,k a h⟩
def W.of {α:Type} {x:Option α} {P:α->Prop} {a:α} (e:x=some a) (h:P a):W x P:=⟨a,e,h⟩
def av {α β:Type} (x:Option α) (f:α->Option β) (Q:β->Prop):W (x.bind f) Q=W x (fun a=>W (f a) Q):=by
 cases x with
 | none=>show W none _=_; rw [bm,bm]
 | some a=>show W (f a) Q=_; rw [au]
def bH {α β:Type} (x:Option α) (f:α->β) (Q:β->Prop):W (x.map f) Q=W x (fun a=>Q (f a)):=by
 cases x with
 | none=>show W none _=_; rw [bm,bm]
 | some a=>show W (some (f a)) Q=_; rw [au,au]
def qh {α:Type} (c:Prop) [Decidable c] (a:α) (Q:α->Prop):W (grd c a) Q=(c/\Q a):=by
 unfold grd;by_cases h:c
 ·rw [if_pos h,au]; exact propext ⟨fun z=>⟨h,z⟩,fun z=>z.2⟩
 ·rw [if_neg h,bm]; exact propext ⟨fun z=>z.elim,fun z=>h z.1⟩
def jk {α:Type} (c:Prop) [Decidable c] (a:α) (Q:α->Prop):W (if c then some a else none) Q=(c/\Q a):=qh c a Q
def uo {α:Type} (c:Prop) [Decidable c] (x:Option α) (Q:α->Prop):W (if c then x else none) Q=(c/\W x Q):=by
 by_cases h:c
 ·rw [if_pos h]; exact propext ⟨fun z=>⟨h,z⟩,fun z=>z.2⟩
 ·rw [if_neg h,bm]; exact propext ⟨fun z=>z.elim,fun z=>h z.1⟩
def gv (en:En) (i:Nat):Option D:=(en[i]?).join
def i9 (ts:List D) (n:Int) (t:D):Option (List D):=(ixN ts.length n).map fun k=>ts.set k t
def oC (ts:List D) (n:Int):Option (D × List D):=(seqIndex? n ts.length).bind fun k=>(ts[k]?).map fun t=>(t,ts.eraseIdx k)
def jR (i:Int) (n:Nat):List D:=(List.range n).map fun k=>.int (i+(k:Nat))
section
variable {α β:Type}
def tQ (b:MS) (Q:Fl->Prop):Fl->Prop:=fun fl=>W (match fl with | .nx en1=>b en1 | .rt t en1=>some (.rt t en1) | .ct en1=>some (.ct en1)) Q
def HB (i:Nat) (Q:Fl->Prop):D × En->Prop:=fun r=>Q (.nx (r.2.set i (some r.1)))
def HI (Q:Fl->Prop):D × En->Prop:=fun r=>Q (.nx r.2)
def HC (Q:Fl->Prop):D × En->Prop:=fun r=>Q (.rt r.1 r.2)
def kIf (f g:En->Option β) (Q:β->Prop):Bool × En->Prop:=fun r=>W (if r.1 then f r.2 else g r.2) Q
def HH (g:MG) (b:MS) (Q:Fl->Prop):List D × En->Prop:=fun r=>W (fc g b r.1 r.2) Q
def nw (g:MG) (b:MS) (ts:List D) (Q:Fl->Prop):Fl->Prop:=fun fl=>W (match fl with | .nx en2=>fc g b ts en2 | .ct en2=>fc g b ts en2 | .rt r en2=>some (.rt r en2)) Q
def Dc (g:MG) (b:MS) (ts:List D) (Q:Fl->Prop):En->Prop:=fun en=>W (b en) (nw g b ts Q)
def wL (i:Nat) (en:En) (Q:Fl->Prop):List D->Prop:=fun ts=>Q (.nx (en.set i (some (.list ts))))
def nv (i:Nat) (t:D) (Q:Fl->Prop):D × En->Prop:=fun q=>W (match q.1,(q.2[i]?).join with | .int n,some (.list ts)=>(ixN ts.length n).map fun k=>.nx (q.2.set i (some (.list (ts.set k t)))) | _,_=>none) Q
def tP (i:Nat) (fk:ME) (Q:Fl->Prop):D × En->Prop:=fun r=>W (match (r.2[i]?).join with | some _=>((fk r.2).bind fun q=>(match q.1,(q.2[i]?).join with | .int n,some (.list ts)=>(ixN ts.length n).map fun k=>.nx (q.2.set i (some (.list (ts.set k r.1)))) | _,_=>none)) | none=>none) Q
def vb (i:Nat) (t:D) (fk:ME) (en:En) (Q:Fl->Prop):D->Prop:=fun _x=>W (fk en) (nv i t Q)
def qR (i:Nat) (t:D) (n:Int) (en:En) (Q:Fl->Prop):D->Prop:=fun x=>W (match x with | .list ts=>(ixN ts.length n).map fun k=>.nx (en.set i (some (.list (ts.set k t)))) | _=>none) Q
def fT (en:En) (Q:D × En->Prop):D->Prop:=fun t=>Q (t,en)
def kMv (i:Nat) (en:En) (Q:D × En->Prop):D->Prop:=fun t=>Q (t,en.set i none)
def k1 (g:D->Option D) (Q:D × En->Prop):D × En->Prop:=fun r=>W (g r.1) (fT r.2 Q)
def k2b (g:D->D->Option D) (t:D) (Q:D × En->Prop):D × En->Prop:=fun q=>W (g t q.1) (fT q.2 Q)
def k2 (g:D->D->Option D) (f:ME) (Q:D × En->Prop):D × En->Prop:=fun r=>W (f r.2) (k2b g r.1 Q)
def wP (g:ME) (Q:D × En->Prop):D × En->Prop:=fun r=>W (match r.1 with | .bool true=>g r.2 | .bool false=>some (.bool false,r.2) | _=>none) Q
def kOr (g:ME) (Q:D × En->Prop):D × En->Prop:=fun r=>W (match r.1 with | .bool true=>some (.bool true,r.2) | .bool false=>g r.2 | _=>none) Q
def HE (Q:D × En->Prop):D × En->Prop:=fun r=>W (match r.1 with | .bool b=>some (.bool (!b),r.2) | _=>none) Q
def kTV (Q:Bool × En->Prop):D × En->Prop:=fun r=>W (match r.1 with | .bool b=>some (b,r.2) | _=>none) Q
def tZ (g:MT) (Q:Bool × En->Prop):Bool × En->Prop:=fun r=>W (if r.1 then g r.2 else some (false,r.2)) Q
def wO (g:MT) (Q:Bool × En->Prop):Bool × En->Prop:=fun r=>W (if r.1 then some (true,r.2) else g r.2) Q
def De (Q:Bool × En->Prop):Bool × En->Prop:=fun r=>Q (!r.1,r.2)
def wR (t:D) (Q:List (D ⊕ Nat) × En->Prop):List (D ⊕ Nat) × En->Prop:=fun y=>Q (.inl t :: y.1,y.2)
def kAC (r:MA) (Q:List (D ⊕ Nat) × En->Prop):D × En->Prop:=fun x=>W (r x.2) (wR x.1 Q)
def wQ (i:Nat) (Q:List (D ⊕ Nat) × En->Prop):List (D ⊕ Nat) × En->Prop:=fun y=>Q (.inr i :: y.1,y.2)
def kAS (i:Nat) (r:MA) (en:En) (Q:List (D ⊕ Nat) × En->Prop):D->Prop:=fun _x=>W (r en) (wQ i Q)
def kN2 (g:List D->Option D) (en:En) (Q:D × En->Prop):List D->Prop:=fun ts=>W (g ts) (fT en Q)
def kN (g:List D->Option D) (Q:D × En->Prop):List (D ⊕ Nat) × En->Prop:=fun r=>W (vals r.1) (kN2 g r.2 Q)
def tT (en:En) (Q:D × En->Prop):List D->Prop:=fun ts=>W (if ts.length<=sizeLine then some (.list ts,en) else none) Q
def HF (Q:D × En->Prop):List (D ⊕ Nat) × En->Prop:=fun r=>W (vals r.1) (tT r.2 Q)
def tO (en:En) (Q:D × En->Prop):List D->Prop:=fun ts=>W (if ts.length<=sizeLine then some (.tuple ts,en) else none) Q
def HA (Q:D × En->Prop):List (D ⊕ Nat) × En->Prop:=fun r=>W (vals r.1) (tO r.2 Q)
def qT (as:List (D ⊕ Nat)) (en:En) (Q:D × En->Prop):D × En->Prop:=fun q=>Q (q.1,wb as q.2 en)
def qU (F:List D->Option (D × En)) (as:List (D ⊕ Nat)) (en:En) (Q:D × En->Prop):List D->Prop:=fun ts=>W (F ts) (qT as en Q)
def Dd (F:List D->Option (D × En)) (Q:D × En->Prop):List (D ⊕ Nat) × En->Prop:=fun r=>W (eJ r.1 r.2) (qU F r.1 r.2 Q)
def kFn (dps:List Nat) (Q:D × En->Prop):Fl->Prop:=fun fl=>W (match fl with | .rt t en=>some (t,msk dps en) | .nx en=>some (.none,msk dps en) | .ct _=>none) Q
def tW (q:Bool) (js:List (Option Nat)) (en:En) (Q:D × En->Prop):List D × En->Prop:=fun z=>Q (.list z.1,if q then en else wbB js z.2 en)
def kLC (q:Bool) (g:MG) (c:MT) (f:ME) (js:List (Option Nat)) (Q:D × En->Prop):List D × En->Prop:=fun r=>W (lcF g c f r.1 [] (dI js r.2)) (tW q js r.2 Q)
def kL3 (g:MG) (c:MT) (f:ME) (ts acc:List D) (Q:List D × En->Prop):D × En->Prop:=fun q=>W (if acc.length < sizeLine then lcF g c f ts (acc++[q.1]) q.2 else none) Q
def kL2 (g:MG) (c:MT) (f:ME) (ts acc:List D) (Q:List D × En->Prop):Bool × En->Prop:=fun r=>W (if r.1 then (f r.2).bind fun q=>if acc.length < sizeLine then lcF g c f ts (acc++[q.1]) q.2 else none else lcF g c f ts acc r.2) Q
def kL1 (g:MG) (c:MT) (f:ME) (ts acc:List D) (Q:List D × En->Prop):En->Prop:=fun en=>W (c en) (kL2 g c f ts acc Q)
def t8 (Q:List D × En->Prop):D × En->Prop:=fun r=>W ((CV r.1).map fun ts=>(ts,r.2)) Q
def kR1 (Q:List D × En->Prop):List (D ⊕ Nat) × En->Prop:=fun r=>W (match r.1 with | [.inl (.int j)]=>if -(2 ^ 62)<=j/\j < 2 ^ 62 then some ((List.range j.toNat).map fun k=>.int (0+(k:Nat)),r.2) else none | _=>none) Q
def Da (Q:List D × En->Prop):List (D ⊕ Nat) × En->Prop:=fun r=>W (match r.1 with | [.inl (.tuple ts),.inl (.tuple us)]=>some (eG ts us,r.2) | _=>none) Q
def u4 (n:Int) (en:En) (Q:D × En->Prop):D->Prop:=fun x=>W (match x with | .list ts=>(atI ts n).map fun t=>(t,en) | _=>none) Q
def nu (i:Nat) (Q:D × En->Prop):D × En->Prop:=fun r=>W (match r.1,(r.2[i]?).join with | .int n,some (.list ts)=>(atI ts n).map fun t=>(t,r.2) | _,_=>none) Q
def C8 (i:Nat) (f:ME) (en:En) (Q:D × En->Prop):D->Prop:=fun _x=>W (f en) (nu i Q)
def t7 (i:Nat) (Q:D × En->Prop):D × En->Prop:=fun r=>W (match (r.2[i]?).join with | some (.list ts)=>if ts.length < sizeLine then some (PyData.none,r.2.set i (some (.list (ts++[r.1])))) else none | _=>none) Q
def Dg (i:Nat) (t:D) (en:En) (Q:D × En->Prop):D->Prop:=fun x=>W (match x with | .list ts=>if ts.length < sizeLine then some (PyData.none,en.set i (some (.list (ts++[t])))) else none | _=>none) Q
def HK (i:Nat) (f:ME) (en:En) (Q:D × En->Prop):D->Prop:=fun x=>W (match x with | .list _=>((f en).bind fun r=>(match (r.2[i]?).join with | some (.list ts)=>if ts.length < sizeLine then some (PyData.none,r.2.set i (some (.list (ts++[r.1])))) else none | _=>none)) | _=>none) Q
def tY (g:D->D->Option D) (t:D) (f:ME) (en:En) (Q:D × En->Prop):D->Prop:=fun x=>W (match x with | .bool true=>(f en).bind fun z=>(g t z.1).map fun t=>(t,z.2) | .bool false=>some (.bool false,en) | _=>none) Q
def wN (g g2:D->D->Option D) (f3:ME) (t:D) (Q:D × En->Prop):D × En->Prop:=fun q=>W (g t q.1) (tY g2 q.1 f3 q.2 Q)
def kCh (g g2:D->D->Option D) (f2 f3:ME) (Q:D × En->Prop):D × En->Prop:=fun r=>W (f2 r.2) (wN g g2 f3 r.1 Q)
def kOS (Q:Option Int × En->Prop):D × En->Prop:=fun r=>W (match r.1 with | .int i=>some (some i,r.2) | _=>none) Q
def wJ (g:D->Option Int->Option Int->Option D) (t:D) (lo:Option Int) (Q:D × En->Prop):Option Int × En->Prop:=fun h=>W (g t lo h.1) (fT h.2 Q)
def wK (g:D->Option Int->Option Int->Option D) (t:D) (hi:MO) (Q:D × En->Prop):Option Int × En->Prop:=fun l=>W (hi l.2) (wJ g t l.1 Q)
def kSl (g:D->Option Int->Option Int->Option D) (lo hi:MO) (Q:D × En->Prop):D × En->Prop:=fun r=>W (lo r.2) (wK g r.1 hi Q)
def kM2 (g:Str->List D->Option D) (z:Str) (en:En) (Q:D × En->Prop):List D->Prop:=fun ts=>W (g z ts) (fT en Q)
def kM1 (g:Str->List D->Option D) (z:Str) (Q:D × En->Prop):List (D ⊕ Nat) × En->Prop:=fun q=>W (vals q.1) (kM2 g z q.2 Q)
def kM (g:Str->List D->Option D) (fa:MA) (Q:D × En->Prop):D × En->Prop:=fun r=>W (match r.1 with | .str z=>(fa r.2).bind fun q=>(vals q.1).bind fun ts=>(g z ts).map fun t=>(t,q.2) | _=>none) Q
def tX (i:Nat) (Q:D × En->Prop):D × En->Prop:=fun r=>W (match (r.2[i]?).join with | some (.dict ks)=>(kOf r.1).bind fun _=>(gp ks r.1).map fun t=>(t,r.2) | _=>none) Q
def Kc (q:D) (en:En) (Q:D × En->Prop):D->Prop:=fun x=>W (match x with | .dict ks=>(kOf q).bind fun _=>(gp ks q).map fun t=>(t,en) | _=>none) Q
def kDg (f:ME) (i:Nat) (en:En) (Q:D × En->Prop):D->Prop:=fun _x=>W (f en) (tX i Q)
def kIt (J:En->Prop) (Q:Fl->Prop):Fl->Prop:=fun fl=>match fl with | .nx e=>J e | .ct e=>J e | .rt t e=>Q (.rt t e)
def wM (us:List D) (J:List D->En->Prop):D × En->Prop:=fun r=>J (us++[r.1]) r.2
def tU (f:ME) (us:List D) (J:List D->En->Prop):Bool × En->Prop:=fun r=>if r.1 then W (f r.2) (wM us J) else J us r.2
def HG (c:MT) (f:ME) (us:List D) (J:List D->En->Prop):En->Prop:=fun en=>W (c en) (tU f us J)
def kWh (b:MS) (J:En->Prop) (Q:Fl->Prop):Bool × En->Prop:=fun r=>if r.1 then W (b r.2) (kIt J Q) else Q (.nx r.2)
def kFg (b:MS) (J:En->Prop) (Q:Fl->Prop):En->Prop:=fun en=>W (b en) (kIt J Q)
def Db (i:Nat) (en:En) (Q:D × En->Prop):D × List D->Prop:=fun r=>Q (r.1,en.set i (some (.list r.2)))
def tR (i:Nat) (n:Int) (en:En) (Q:D × En->Prop):D->Prop:=fun x=>W (match x with | .list ts=>(if -(2 ^ 63)<=n/\n < 2 ^ 63 then (seqIndex? n ts.length).bind fun k=>(ts[k]?).map fun t=>(t,en.set i (some (.list (ts.eraseIdx k)))) else none) | _=>none) Q
def tS (i:Nat) (Q:D × En->Prop):D × En->Prop:=fun r=>W (match r.1,(r.2[i]?).join with | .int n,some (.list ts)=>(if -(2 ^ 63)<=n/\n < 2 ^ 63 then (seqIndex? n ts.length).bind fun k=>(ts[k]?).map fun t=>(t,r.2.set i (some (.list (ts.eraseIdx k)))) else none) | _,_=>none) Q
def HD (i:Nat) (f:ME) (en:En) (Q:D × En->Prop):D->Prop:=fun x=>W (match x with | .list _=>(f en).bind (fun r=>match r.1,(r.2[i]?).join with | .int n,some (.list ts)=>(if -(2 ^ 63)<=n/\n < 2 ^ 63 then (seqIndex? n ts.length).bind fun k=>(ts[k]?).map fun t=>(t,r.2.set i (some (.list (ts.eraseIdx k)))) else none) | _,_=>none) | _=>none) Q
def kS1 (Q:D->Prop):Nat->Prop:=fun c=>Q (.str (mk1 c))
def kGs (q:List D->En->Option En) (ts:List D) (Q:En->Prop):En->Prop:=fun en=>W (q ts en) Q
def nz (t:D) (Q:List D->Prop):List D->Prop:=fun ts=>Q (t :: ts)
def HJ (r:List (D ⊕ Nat)) (en:En) (Q:List D->Prop):D->Prop:=fun t=>W (eJ r en) (nz t Q)
def bB {α:Type} (ts:List α) (n:Nat):atI ts (n:Int)=ts[n]?:=by
 unfold atI ixN;rw [if_pos (by omega)];by_cases h:n < ts.length
 ·rw [if_pos (by omega)]; rfl
 ·rw [if_neg (by omega),List.getElem?_eq_none (by omega)]; rfl
def fS {ts:List D} {t:D} (n:Nat) (h:n < ts.length):i9 ts (n:Int) t=some (ts.set n t):=by
 unfold i9 ixN;rw [if_pos (by omega),if_pos (by omega)];rfl
def EK (x:D) (l:List D):du (x :: l) (some 1) none=l:=by
 unfold du;rw [HT.sIx_none,show (some (1:Int))=some ((1:Nat):Int) from rfl,HT.sIx_nat,Nat.min_eq_left (by simp),List.drop_one];exact List.take_of_length_le (by simp)
def JY (x:D) (l:List D):(HT.sIx (x :: l).length 0 (some 1)=0)=False:=by
 rw [show (some (1:Int))=some ((1:Nat):Int) from rfl,HT.sIx_nat,Nat.min_eq_left (by simp)];exact eq_false (by decide)
def sE (a b:Int):(a == b)=decide (a=b):=by
 by_cases h:a=b
 ·rw [h,zaB rfl]; exact beq_self_eq_true b
 ·rw [zaA h]; exact beq_eq_false_iff_ne.mpr h
def EJ (a b:Bool):eqD (.bool a) (.bool b)=some (.bool (a == b)):=by
 show grd _ _=_;unfold grd;rw [if_pos ⟨rfl,rfl,Nat.zero_le _⟩];simp only [peq]
def DQ (a b:Bool):neD (.bool a) (.bool b)=some (.bool (!(a == b))):=by
 show grd _ _=_;unfold grd;rw [if_pos ⟨rfl,rfl,Nat.zero_le _⟩];simp only [peq]
def oz (a b:Str):(a == b)=decide (a=b):=by
 by_cases h:a=b
 ·rw [h,zaB rfl]; exact beq_self_eq_true b
 ·rw [zaA h]; exact beq_eq_false_iff_ne.mpr h
def IR (a b:Str):eqD (.str a) (.str b)=some (.bool (decide (a=b))):=by
 show grd _ _=_;unfold grd;rw [if_pos ⟨rfl,rfl,Nat.zero_le _⟩,<- oz];simp only [peq]
def Hq (a b:Str):neD (.str a) (.str b)=some (.bool (!decide (a=b))):=by
 show grd _ _=_;unfold grd;rw [if_pos ⟨rfl,rfl,Nat.zero_le _⟩,<- oz];simp only [peq]
def IS:eqD (.list []) (.list [])=some (.bool true):=by
 show grd _ _=_;unfold grd;rw [if_pos ⟨rfl,rfl,by decide⟩];rfl
def Hr:neD (.list []) (.list [])=some (.bool false):=by
 show grd _ _=_;unfold grd;rw [if_pos ⟨rfl,rfl,by decide⟩];rfl
variable (en:En) (Qs:Fl->Prop) (Qe:D × En->Prop) (Qb:Bool × En->Prop) (Qa:List (D ⊕ Nat) × En->Prop) (Ql:List D × En->Prop) (Qd:D->Prop) (Qt:List D->Prop) (Qn:En->Prop) (f:ME) (g:MG) (fa:MA) (c:MT) (ts:List D) (i:Nat)
def ws0 (α:Type) (a:α) (Q:α->Prop):W (some a) Q=Q a:=au _ _
def ws1 (α:Type) (Q:α->Prop):W (none:Option α) Q=False:=bm _
def ws2 (α:Type) (c:Prop) (_:Decidable c) (a:α) (Q:α->Prop):W (grd c a) Q=(c/\Q a):=qh c a Q
def ws3 (a:Option D) (l:En):gv (a :: l) 0=a:=rfl
def ws4 (a:Option D) (l:En):gv (a :: l) (i+1)=gv l i:=rfl
def ws5 (a b:Option D) (l:En):List.set (a :: l) 0 b=b :: l:=rfl
def ws6 (a b:Option D) (l:En):List.set (a :: l) (i+1) b=a :: List.set l i b:=rfl
def ws7 (a b:MS):W (ak a b en) Qs=W (a en) (tQ b Qs):=av _ _ _
def ws8 (b:MS):tQ b Qs (.nx en)=W (b en) Qs:=rfl
def ws9 (b:MS) (t:D):tQ b Qs (.rt t en)=Qs (.rt t en):=au _ _
def GJ (b:MS):tQ b Qs (.ct en)=Qs (.ct en):=au _ _
def GI:W (aB i f en) Qs=W (f en) (HB i Qs):=bH _ _ _
def GH (t:D):HB i Qs (t,en)=Qs (.nx (en.set i (some t))):=rfl
def GG:W (iy f en) Qs=W (f en) (HI Qs):=bH _ _ _
def GF (t:D):HI Qs (t,en)=Qs (.nx en):=rfl
def GE:W (aq f en) Qs=W (f en) (HC Qs):=bH _ _ _
def GD (t:D):HC Qs (t,en)=Qs (.rt t en):=rfl
def GC:W (aG en) Qs=Qs (.nx en):=au _ _
def GB:W (dO en) Qs=False:=bm _
def GA (a b:MS):W (sIf c a b en) Qs=W (c en) (kIf a b Qs):=av _ _ _
def Gz (β:Type) (a b:En->Option β) (Q:β->Prop):kIf a b Q (true,en)=W (a en) Q:=rfl
def Gy (β:Type) (a b:En->Option β) (Q:β->Prop):kIf a b Q (false,en)=W (b en) Q:=rfl
def Gx (fi:MI) (b:MS):W (kO fi g b en) Qs=W (fi en) (HH g b Qs):=av _ _ _
def Gw (b:MS):HH g b Qs (ts,en)=W (fc g b ts en) Qs:=rfl
def Gv (b:MS):W (fc g b [] en) Qs=Qs (.nx en):=au _ _
def Gu (b:MS) (t:D):W (fc g b (t :: ts) en) Qs=W (g t en) (Dc g b ts Qs):=(av _ _ _).trans (congrArg _ (funext fun z=>av _ _ _))
def Gs (b:MS):Dc g b ts Qs en=W (b en) (nw g b ts Qs):=rfl
def Gr (b:MS):nw g b ts Qs (.nx en)=W (fc g b ts en) Qs:=rfl
def Gq (b:MS):nw g b ts Qs (.ct en)=W (fc g b ts en) Qs:=rfl
def Gp (b:MS) (t:D):nw g b ts Qs (.rt t en)=Qs (.rt t en):=au _ _
def Go (t:D):W (gN i t en) Qn=Qn (en.set i (some t)):=au _ _
def Gn (g:List D->En->Option En):W (gT g (.tuple ts) en) Qn=W (g ts en) Qn:=rfl
def Gm (q:List D->En->Option En) (t:D):W (gsC g q (t :: ts) en) Qn=W (g t en) (kGs q ts Qn):=av _ _ _
def Gk (q:List D->En->Option En):kGs q ts Qn en=W (q ts en) Qn:=rfl
def Gj:W (gs0 [] en) Qn=Qn en:=au _ _
def Gi (fk fe:ME):W (gk i fk fe en) Qs=W (fe en) (tP i fk Qs):=av _ _ _
def Gh (fk:ME) (t:D):tP i fk Qs (t,en)=W (gv en i) (vb i t fk en Qs):=by unfold tP gv; cases h:(en[i]?).join with | none=>simp only [h,bm] | some x=>simp only [h,au]; exact av _ _ _
def Gg (t:D) (fk:ME) (x:D):vb i t fk en Qs x=W (fk en) (nv i t Qs):=rfl
def Gf (t:D) (n:Int):nv i t Qs (.int n,en)=W (gv en i) (qR i t n en Qs):=by unfold nv gv; cases h:(en[i]?).join with | none=>simp only [h,bm] | some x=>simp only [h,au]; cases x <;> first | rfl | exact (au _ _).symm | (rw [au]; rfl) | (rw [au]; exact bm _)
def Ge (t:D) (n:Int):qR i t n en Qs (.list ts)=W (i9 ts n t) (wL i en Qs):=by unfold qR i9 wL; dsimp only; rw [bH,bH]
def Gd:wL i en Qs ts=Qs (.nx (en.set i (some (.list ts)))):=rfl
def Gc (x0 t:D) (l:List D):i9 (x0 :: l) 0 t=some (t :: l):=fS 0 (by simp only [zac]; omega)
def Gb (x0 x1 t:D) (l:List D):i9 (x0 :: x1 :: l) 1 t=some (x0 :: t :: l):=fS 1 (by simp only [zac]; omega)
def Ga (x0 x1 x2 t:D) (l:List D):i9 (x0 :: x1 :: x2 :: l) 2 t=some (x0 :: x1 :: t :: l):=fS 2 (by simp only [zac]; omega)
def F9 (x0 x1 x2 x3 t:D) (l:List D):i9 (x0 :: x1 :: x2 :: x3 :: l) 3 t=some (x0 :: x1 :: x2 :: t :: l):=fS 3 (by simp only [zac]; omega)
def F8 (x0 x1 x2 x3 x4 t:D) (l:List D):i9 (x0 :: x1 :: x2 :: x3 :: x4 :: l) 4 t=some (x0 :: x1 :: x2 :: x3 :: t :: l):=fS 4 (by simp only [zac]; omega)
def F7 (x0 x1 x2 x3 x4 x5 t:D) (l:List D):i9 (x0 :: x1 :: x2 :: x3 :: x4 :: x5 :: l) 5 t=some (x0 :: x1 :: x2 :: x3 :: x4 :: t :: l):=fS 5 (by simp only [zac]; omega)
def FZ:W (ae i en) Qe=W (gv en i) (fT en Qe):=bH _ _ _
def FY (t:D):fT en Qe t=Qe (t,en):=rfl
def FX:W (eMv i en) Qe=W (gv en i) (kMv i en Qe):=bH _ _ _
def FW (t:D):kMv i en Qe t=Qe (t,en.set i none):=rfl
def FV (t:D):W (eC t en) Qe=Qe (t,en):=au _ _
def FU (g:D->Option D):W (e1 g f en) Qe=W (f en) (k1 g Qe):=(av _ _ _).trans (congrArg _ (funext fun z=>bH _ _ _))
def FT (g:D->Option D) (t:D):k1 g Qe (t,en)=W (g t) (fT en Qe):=rfl
def FS (g:D->D->Option D) (f1 f2:ME):W (e2 g f1 f2 en) Qe=W (f1 en) (k2 g f2 Qe):=(av _ _ _).trans (congrArg _ (funext fun z=>(av _ _ _).trans (congrArg _ (funext fun y=>bH _ _ _))))
def FR (g:D->D->Option D) (f2:ME) (t:D):k2 g f2 Qe (t,en)=W (f2 en) (k2b g t Qe):=rfl
def FQ (g:D->D->Option D) (t u:D):k2b g t Qe (u,en)=W (g t u) (fT en Qe):=rfl
def FP (f g:ME):W (cV f g en) Qe=W (f en) (wP g Qe):=av _ _ _
def FO (g:ME):wP g Qe (.bool true,en)=W (g en) Qe:=rfl
def FN (g:ME):wP g Qe (.bool false,en)=Qe (.bool false,en):=au _ _
def FM (f g:ME):W (eOr f g en) Qe=W (f en) (kOr g Qe):=av _ _ _
def FK (g:ME):kOr g Qe (.bool true,en)=Qe (.bool true,en):=au _ _
def FJ (g:ME):kOr g Qe (.bool false,en)=W (g en) Qe:=rfl
def FI:W (la f en) Qe=W (f en) (HE Qe):=av _ _ _
def FH (x:Bool):HE Qe (.bool x,en)=Qe (.bool (!x),en):=au _ _
def FG (f g:ME):W (eIf c f g en) Qe=W (c en) (kIf f g Qe):=av _ _ _
def FF:W (tV f en) Qb=W (f en) (kTV Qb):=av _ _ _
def FE (x:Bool):kTV Qb (.bool x,en)=Qb (x,en):=au _ _
def FD (f g:MT):W (oZ f g en) Qb=W (f en) (tZ g Qb):=av _ _ _
def FC (g:MT):tZ g Qb (true,en)=W (g en) Qb:=rfl
def FB (g:MT):tZ g Qb (false,en)=Qb (false,en):=au _ _
def FA (f g:MT):W (bOr f g en) Qb=W (f en) (wO g Qb):=av _ _ _
def Fz (g:MT):wO g Qb (true,en)=Qb (true,en):=au _ _
def Fy (g:MT):wO g Qb (false,en)=W (g en) Qb:=rfl
def Fx (f:MT):W (cr f en) Qb=W (f en) (De Qb):=bH _ _ _
def Fw (x:Bool):De Qb (x,en)=Qb (!x,en):=rfl
def Fv:W (cY en) Qb=Qb (true,en):=au _ _
def Fu:W (ag en) Qa=Qa ([],en):=au _ _
def Ft (r:MA):W (ad f r en) Qa=W (f en) (kAC r Qa):=(av _ _ _).trans (congrArg _ (funext fun z=>bH _ _ _))
def Fs (r:MA) (t:D):kAC r Qa (t,en)=W (r en) (wR t Qa):=rfl
def Fq (t:D) (as:List (D ⊕ Nat)):wR t Qa (as,en)=Qa (.inl t :: as,en):=rfl
def Fp (r:MA):W (aD i r en) Qa=W (gv en i) (kAS i r en Qa):=(av _ _ _).trans (congrArg _ (funext fun z=>bH _ _ _))
def Fo (r:MA) (t:D):kAS i r en Qa t=W (r en) (wQ i Qa):=rfl
def Fm (as:List (D ⊕ Nat)):wQ i Qa (as,en)=Qa (.inr i :: as,en):=rfl
def Fk:vals []=some []:=rfl
def Fj (t:D) (r:List (D ⊕ Nat)):W (vals (.inl t :: r)) Qt=W (vals r) (nz t Qt):=bH _ _ _
def Fi (t:D):nz t Qt ts=Qt (t :: ts):=rfl
def Fh:eJ [] en=some []:=rfl
def Fg (t:D) (r:List (D ⊕ Nat)):W (eJ (.inl t :: r) en) Qt=W (eJ r en) (nz t Qt):=bH _ _ _
def Ff (r:List (D ⊕ Nat)):W (eJ (.inr i :: r) en) Qt=W (gv en i) (HJ r en Qt):=(av _ _ _).trans (congrArg _ (funext fun z=>bH _ _ _))
def Fe (t:D) (r:List (D ⊕ Nat)):HJ r en Qt t=W (eJ r en) (nz t Qt):=rfl
def Fd (r:List (D ⊕ Nat)) (o:Option D) (outs:En):wb (.inr i :: r) (o :: outs) en=wb r outs (en.set i o):=rfl
def Fc (t:D) (r:List (D ⊕ Nat)) (o:Option D) (outs:En):wb (.inl t :: r) (o :: outs) en=wb r outs en:=rfl
def Fb (outs:En):wb [] outs en=en:=rfl
def E9 (g:List D->Option D):W (eN g fa en) Qe=W (fa en) (kN g Qe):=(av _ _ _).trans (congrArg _ (funext fun z=>(av _ _ _).trans (congrArg _ (funext fun y=>bH _ _ _))))
def E8 (g:List D->Option D) (as:List (D ⊕ Nat)):kN g Qe (as,en)=W (vals as) (kN2 g en Qe):=rfl
def E7 (g:List D->Option D):kN2 g en Qe ts=W (g ts) (fT en Qe):=rfl
def E6:W (bx fa en) Qe=W (fa en) (HF Qe):=(av _ _ _).trans (congrArg _ (funext fun z=>av _ _ _))
def E5 (as:List (D ⊕ Nat)):HF Qe (as,en)=W (vals as) (tT en Qe):=rfl
def E4:tT en Qe ts=(ts.length<=sizeLine/\Qe (.list ts,en)):=jk _ _ _
def CL:W (bR fa en) Qe=W (fa en) (HA Qe):=(av _ _ _).trans (congrArg _ (funext fun z=>av _ _ _))
def CK (as:List (D ⊕ Nat)):HA Qe (as,en)=W (vals as) (tO en Qe):=rfl
def CJ:tO en Qe ts=(ts.length<=sizeLine/\Qe (.tuple ts,en)):=jk _ _ _
def CI:(([]:List D).length<=sizeLine)=True:=eq_true (zau (by show 0<=100; decide) cf)
def CH (x0:D):(([x0]:List D).length<=sizeLine)=True:=eq_true (zau (by show 1<=100; decide) cf)
def CG (x0 x1:D):(([x0,x1]:List D).length<=sizeLine)=True:=eq_true (zau (by show 2<=100; decide) cf)
def CF (x0 x1 x2:D):(([x0,x1,x2]:List D).length<=sizeLine)=True:=eq_true (zau (by show 3<=100; decide) cf)
def CD (x0 x1 x2 x3:D):(([x0,x1,x2,x3]:List D).length<=sizeLine)=True:=eq_true (zau (by show 4<=100; decide) cf)
def CC (x0 x1 x2 x3 x4:D):(([x0,x1,x2,x3,x4]:List D).length<=sizeLine)=True:=eq_true (zau (by show 5<=100; decide) cf)
def CB (x0 x1 x2 x3 x4 x5:D):(([x0,x1,x2,x3,x4,x5]:List D).length<=sizeLine)=True:=eq_true (zau (by show 6<=100; decide) cf)
def CA (x0 x1 x2 x3 x4 x5 x6:D):(([x0,x1,x2,x3,x4,x5,x6]:List D).length<=sizeLine)=True:=eq_true (zau (by show 7<=100; decide) cf)
def Cz (x0 x1 x2 x3 x4 x5 x6 x7:D):(([x0,x1,x2,x3,x4,x5,x6,x7]:List D).length<=sizeLine)=True:=eq_true (zau (by show 8<=100; decide) cf)
def Cy (x0 x1 x2 x3 x4 x5 x6 x7 x8:D):(([x0,x1,x2,x3,x4,x5,x6,x7,x8]:List D).length<=sizeLine)=True:=eq_true (zau (by show 9<=100; decide) cf)
def Cw (F:List D->Option (D × En)):W (al F fa en) Qe=W (fa en) (Dd F Qe):=(av _ _ _).trans (congrArg _ (funext fun z=>(av _ _ _).trans (congrArg _ (funext fun y=>bH _ _ _))))
def Cv (F:List D->Option (D × En)) (as:List (D ⊕ Nat)):Dd F Qe (as,en)=W (eJ as en) (qU F as en Qe):=rfl
def Cu (F:List D->Option (D × En)) (as:List (D ⊕ Nat)):qU F as en Qe ts=W (F ts) (qT as en Qe):=rfl
def Ct (as:List (D ⊕ Nat)) (t:D) (outs:En):qT as en Qe (t,outs)=Qe (t,wb as outs en):=rfl
def Cs (q:Bool) (fi:MI) (js:List (Option Nat)):W (eLC q fi g c f js en) Qe=W (fi en) (kLC q g c f js Qe):=(av _ _ _).trans (congrArg _ (funext fun z=>bH _ _ _))
def Cr (q:Bool) (js:List (Option Nat)):kLC q g c f js Qe (ts,en)=W (lcF g c f ts [] (dI js en)) (tW q js en Qe):=rfl
def Cq (js:List (Option Nat)) (us:List D) (ex:En):tW true js en Qe (us,ex)=Qe (.list us,en):=rfl
def Cp (js:List (Option Nat)) (us:List D) (ex:En):tW false js en Qe (us,ex)=Qe (.list us,wbB js ex en):=rfl
def Co:dI [] en=[]:=rfl
def Cn (j:Nat) (js:List (Option Nat)):dI (some j :: js) en=gv en j :: dI js en:=rfl
def Cm (js:List (Option Nat)):dI (none :: js) en=none :: dI js en:=rfl
def Cl (j:Nat) (js:List (Option Nat)) (o:Option D) (ex:En):wbB (some j :: js) (o :: ex) en=wbB js ex (en.set j o):=rfl
def Ck (js:List (Option Nat)) (o:Option D) (ex:En):wbB (none :: js) (o :: ex) en=wbB js ex en:=rfl
def Cj (ex:En):wbB [] ex en=en:=rfl
def Ci:W (lcF g c f [] acc en) Ql=Ql (acc,en):=au _ _
def Ch:W (dQ f en) Ql=W (f en) (t8 Ql):=av _ _ _
def Cg:t8 Ql (.list ts,en)=Ql (ts,en):=au _ _
def Cf:t8 Ql (.tuple ts,en)=Ql (ts,en):=au _ _
def Ce (z:Str):t8 Ql (.str z,en)=Ql (eT z,en):=au _ _
def Cd:W (fC fa en) Ql=W (fa en) (kR1 Ql):=av _ _ _
def Cc (j:Int):kR1 Ql ([.inl (.int j)],en)=((-(2 ^ 62)<=j/\j < 2 ^ 62)/\Ql (jR 0 j.toNat,en)):=jk _ _ _
def Cb:W (kX fa en) Ql=W (fa en) (Da Ql):=av _ _ _
def Ca (ts us:List D):Da Ql ([.inl (.tuple ts),.inl (.tuple us)],en)=Ql (eG ts us,en):=by first | rfl | exact au _ _ | exact bm _
def B9:W (dG i f en) Qe=W (gv en i) (C8 i f en Qe):=(av _ _ _).trans (congrArg _ (funext fun z=>av _ _ _))
def B8 (x:D):C8 i f en Qe x=W (f en) (nu i Qe):=rfl
def B7 (n:Int):nu i Qe (.int n,en)=W (gv en i) (u4 n en Qe):=by unfold nu gv; cases h:(en[i]?).join with | none=>simp only [h,bm] | some x=>simp only [h,au]; cases x <;> first | rfl | exact (au _ _).symm | (rw [au]; rfl) | (rw [au]; exact bm _)
def B6 (n:Int):u4 n en Qe (.list ts)=W (atI ts n) (fT en Qe):=bH _ _ _
def B5:W (iH i f en) Qe=W (gv en i) (HK i f en Qe):=by unfold gv iH; cases (en[i]?).join with | none=>rw [bm,bm] | some x=>cases x <;> first | rfl | exact (au _ _).symm | (rw [au]; rfl) | (rw [au]; exact bm _)
def B4:HK i f en Qe (.list ts)=W (f en) (t7 i Qe):=av _ _ _
def B3 (t:D):t7 i Qe (t,en)=W (gv en i) (Dg i t en Qe):=by unfold t7 gv; cases h:(en[i]?).join with | none=>simp only [h,bm] | some x=>simp only [h,au]; cases x <;> first | rfl | exact (au _ _).symm | (rw [au]; rfl) | (rw [au]; exact bm _)
def B2 (t:D):Dg i t en Qe (.list ts)=(ts.length < sizeLine/\Qe (.none,en.set i (some (.list (ts++[t]))))):=jk _ _ _
def B1 (g g2:D->D->Option D) (f1 f2 f3:ME):W (cG g g2 f1 f2 f3 en) Qe=W (f1 en) (kCh g g2 f2 f3 Qe):=(av _ _ _).trans (congrArg _ (funext fun z=>(av _ _ _).trans (congrArg _ (funext fun y=>av _ _ _))))
def B0 (g g2:D->D->Option D) (f2 f3:ME) (t:D):kCh g g2 f2 f3 Qe (t,en)=W (f2 en) (wN g g2 f3 t Qe):=rfl
def BZ (g g2:D->D->Option D) (f3:ME) (t u:D):wN g g2 f3 t Qe (u,en)=W (g t u) (tY g2 u f3 en Qe):=rfl
def BY (g:D->D->Option D) (u:D) (f3:ME):tY g u f3 en Qe (.bool true)=W (f3 en) (k2b g u Qe):=(av _ _ _).trans (congrArg _ (funext fun z=>bH _ _ _))
def BX (g:D->D->Option D) (u:D) (f3:ME):tY g u f3 en Qe (.bool false)=Qe (.bool false,en):=au _ _
def BW (Q:Option Int × En->Prop):W (fB en) Q=Q (none,en):=au _ _
def BV (Q:Option Int × En->Prop):W (eV f en) Q=W (f en) (kOS Q):=av _ _ _
def BU (n:Int) (Q:Option Int × En->Prop):kOS Q (.int n,en)=Q (some n,en):=au _ _
def BT (g:D->Option Int->Option Int->Option D) (lo hi:MO):W (eSl g f lo hi en) Qe=W (f en) (kSl g lo hi Qe):=(av _ _ _).trans (congrArg _ (funext fun z=>(av _ _ _).trans (congrArg _ (funext fun y=>(av _ _ _).trans (congrArg _ (funext fun y=>bH _ _ _))))))
def BS (g:D->Option Int->Option Int->Option D) (lo hi:MO) (t:D):kSl g lo hi Qe (t,en)=W (lo en) (wK g t hi Qe):=rfl
def BR (g:D->Option Int->Option Int->Option D) (hi:MO) (t:D) (a:Option Int):wK g t hi Qe (a,en)=W (hi en) (wJ g t a Qe):=rfl
def BQ (g:D->Option Int->Option Int->Option D) (t:D) (a b:Option Int):wJ g t a Qe (b,en)=W (g t a b) (fT en Qe):=rfl
def BP (g:Str->List D->Option D):W (eM g f fa en) Qe=W (f en) (kM g fa Qe):=av _ _ _
def BO (g:Str->List D->Option D) (z:Str):kM g fa Qe (.str z,en)=W (fa en) (kM1 g z Qe):=(av _ _ _).trans (congrArg _ (funext fun z=>(av _ _ _).trans (congrArg _ (funext fun y=>bH _ _ _))))
def BN (g:Str->List D->Option D) (z:Str) (as:List (D ⊕ Nat)):kM1 g z Qe (as,en)=W (vals as) (kM2 g z en Qe):=rfl
def BM (g:Str->List D->Option D) (z:Str):kM2 g z en Qe ts=W (g z ts) (fT en Qe):=rfl
def BL:W (bY i f en) Qe=W (gv en i) (kDg f i en Qe):=(av _ _ _).trans (congrArg _ (funext fun z=>av _ _ _))
def BK (x:D):kDg f i en Qe x=W (f en) (tX i Qe):=rfl
def BJ (q:D):tX i Qe (q,en)=W (gv en i) (Kc q en Qe):=by unfold tX gv; cases h:(en[i]?).join with | none=>simp only [h,bm] | some x=>simp only [h,au]; cases x <;> first | rfl | exact (au _ _).symm | (rw [au]; rfl) | (rw [au]; exact bm _)
def BI (J:En->Prop):kIt J Qs (.nx en)=J en:=rfl
def BH (J:En->Prop):kIt J Qs (.ct en)=J en:=rfl
def BG (J:En->Prop) (t:D):kIt J Qs (.rt t en)=Qs (.rt t en):=rfl
def BF (b:MS) (J:En->Prop):kFg b J Qs en=W (b en) (kIt J Qs):=rfl
def BE (b:MS) (J:En->Prop):kWh b J Qs (true,en)=W (b en) (kIt J Qs):=rfl
def BD (b:MS) (J:En->Prop):kWh b J Qs (false,en)=Qs (.nx en):=rfl
def BC (us:List D) (J:List D->En->Prop):HG c f us J en=W (c en) (tU f us J):=rfl
def BB (us:List D) (J:List D->En->Prop):tU f us J (true,en)=W (f en) (wM us J):=rfl
def BA (us:List D) (J:List D->En->Prop):tU f us J (false,en)=J us en:=rfl
def Bz (us:List D) (J:List D->En->Prop) (t:D):wM us J (t,en)=J (us++[t]) en:=rfl
def By (n:Nat) (dps:List Nat) (b:MS):W (fnF n dps b ts) Qe=W (b (ts.map some++List.replicate n none)) (kFn dps Qe):=av _ _ _
def Bx (dps:List Nat) (t:D):kFn dps Qe (.rt t en)=Qe (t,msk dps en):=au _ _
def Bw (dps:List Nat):kFn dps Qe (.nx en)=Qe (.none,msk dps en):=au _ _
def Bv (d:Nat) (ds:List Nat) (o:Option D):msk ((d+1) :: ds) (o :: en)=o :: msk ds en:=rfl
def Bu (ds:List Nat) (o:Option D):msk (0 :: ds) (o :: en)=none :: msk ds en:=rfl
def Bt:msk [] en=[]:=rfl
def Bs (t:D):List.map some (t :: ts)=some t :: List.map some ts:=rfl
def Br:List.map (some:D->Option D) []=[]:=rfl
def Bq (a:Option D) (l m:En):(a :: l)++m=a :: (l++m):=rfl
def Bp (m:En):([]:En)++m=m:=rfl
def Bo (a:Option D):List.replicate 0 a=[]:=rfl
def Bn (a:Option D) (n:Nat):List.replicate (n+1) a=a :: List.replicate n a:=rfl
def Bm (a b:Int):bw (.int a) (.int b)=some (.int (a+b)):=rfl
def Bk (a b:Str):W (bw (.str a) (.str b)) Qd=(a.length+b.length<=sizeLine/\Qd (.str (a++b))):=jk _ _ _
def Bj (a b:Int):e9 (.int a) (.int b)=some (.int (a - b)):=rfl
def Bi (a b:Int):W (b6 (.int a) (.int b)) Qd=(CMul a b/\Qd (.int (a * b))):=jk _ _ _
def Bh (a b:Int):W (dt (.int a) (.int b)) Qd=(gY a b/\Qd (.int (a / b))):=jk _ _ _
def Bg (a b:Int):W (bF (.int a) (.int b)) Qd=(0 < b/\Qd (.int (a % b))):=jk _ _ _
def Bf (a b:Int):W (mx (.int a) (.int b)) Qd=(iP a b/\Qd (.int (a ^ b.toNat))):=jk _ _ _
def Be (a b:Int):ltI (.int a) (.int b)=some (.bool (decide (a < b))):=rfl
def Bd (a b:Int):leI (.int a) (.int b)=some (.bool (decide (a<=b))):=rfl
def Bc (a b:Int):gtI (.int a) (.int b)=some (.bool (decide (b < a))):=rfl
def Bb (a b:Int):geI (.int a) (.int b)=some (.bool (decide (b<=a))):=rfl
def Ba (a b:Int):eqD (.int a) (.int b)=some (.bool (decide (a=b))):=(IT a b).trans (congrArg (fun q=>some (PyData.bool q)) (sE a b))
def A9 (a b:Int):neD (.int a) (.int b)=some (.bool (!decide (a=b))):=(Hs a b).trans (congrArg (fun q=>some (PyData.bool (!q))) (sE a b))
def A8:isN .none .none=some (.bool true):=rfl
def A7 (x:Int):isN (.int x) .none=some (.bool false):=rfl
def A6 (x:Bool):isN (.bool x) .none=some (.bool false):=rfl
def A5 (x:Str):isN (.str x) .none=some (.bool false):=rfl
def A4 (x:List D):isN (.list x) .none=some (.bool false):=rfl
def A3 (x:List D):isN (.tuple x) .none=some (.bool false):=rfl
def A2 (x:List (D × D)):isN (.dict x) .none=some (.bool false):=rfl
def A1:ay "int" (.none)=some (.bool false):=(if_neg (fun z=>nomatch z)).trans (congrArg (fun b=>some (PyData.bool b)) (show ax "NoneType" "int"=false by decide))
def A0:ay "bool" (.none)=some (.bool false):=(if_neg (fun z=>nomatch z)).trans (congrArg (fun b=>some (PyData.bool b)) (show ax "NoneType" "bool"=false by decide))
def AZ:ay "str" (.none)=some (.bool false):=(if_neg (fun z=>nomatch z)).trans (congrArg (fun b=>some (PyData.bool b)) (show ax "NoneType" "str"=false by decide))
def AY:ay "list" (.none)=some (.bool false):=(if_neg (fun z=>nomatch z)).trans (congrArg (fun b=>some (PyData.bool b)) (show ax "NoneType" "list"=false by decide))
def AX:ay "tuple" (.none)=some (.bool false):=(if_neg (fun z=>nomatch z)).trans (congrArg (fun b=>some (PyData.bool b)) (show ax "NoneType" "tuple"=false by decide))
def AW:ay "dict" (.none)=some (.bool false):=(if_neg (fun z=>nomatch z)).trans (congrArg (fun b=>some (PyData.bool b)) (show ax "NoneType" "dict"=false by decide))
def AV (x:Int):ay "int" (.int x)=some (.bool true):=(if_neg (fun z=>nomatch z)).trans (congrArg (fun b=>some (PyData.bool b)) (show ax "int" "int"=true by decide))
def AU (x:Int):ay "bool" (.int x)=some (.bool false):=(if_neg (fun z=>nomatch z)).trans (congrArg (fun b=>some (PyData.bool b)) (show ax "int" "bool"=false by decide))
def AT (x:Int):ay "str" (.int x)=some (.bool false):=(if_neg (fun z=>nomatch z)).trans (congrArg (fun b=>some (PyData.bool b)) (show ax "int" "str"=false by decide))
def AR (x:Int):ay "list" (.int x)=some (.bool false):=(if_neg (fun z=>nomatch z)).trans (congrArg (fun b=>some (PyData.bool b)) (show ax "int" "list"=false by decide))
def AQ (x:Int):ay "tuple" (.int x)=some (.bool false):=(if_neg (fun z=>nomatch z)).trans (congrArg (fun b=>some (PyData.bool b)) (show ax "int" "tuple"=false by decide))
def AO (x:Int):ay "dict" (.int x)=some (.bool false):=(if_neg (fun z=>nomatch z)).trans (congrArg (fun b=>some (PyData.bool b)) (show ax "int" "dict"=false by decide))
def AN (x:Bool):ay "int" (.bool x)=some (.bool true):=(if_neg (fun z=>nomatch z)).trans (congrArg (fun b=>some (PyData.bool b)) (show ax "bool" "int"=true by decide))
def AM (x:Bool):ay "bool" (.bool x)=some (.bool true):=(if_neg (fun z=>nomatch z)).trans (congrArg (fun b=>some (PyData.bool b)) (show ax "bool" "bool"=true by decide))
def AL (x:Bool):ay "str" (.bool x)=some (.bool false):=(if_neg (fun z=>nomatch z)).trans (congrArg (fun b=>some (PyData.bool b)) (show ax "bool" "str"=false by decide))
def AK (x:Bool):ay "list" (.bool x)=some (.bool false):=(if_neg (fun z=>nomatch z)).trans (congrArg (fun b=>some (PyData.bool b)) (show ax "bool" "list"=false by decide))
def AJ (x:Bool):ay "tuple" (.bool x)=some (.bool false):=(if_neg (fun z=>nomatch z)).trans (congrArg (fun b=>some (PyData.bool b)) (show ax "bool" "tuple"=false by decide))
def AI (x:Bool):ay "dict" (.bool x)=some (.bool false):=(if_neg (fun z=>nomatch z)).trans (congrArg (fun b=>some (PyData.bool b)) (show ax "bool" "dict"=false by decide))
def AH (x:Str):ay "int" (.str x)=some (.bool false):=(if_neg (fun z=>nomatch z)).trans (congrArg (fun b=>some (PyData.bool b)) (show ax "str" "int"=false by decide))
def AG (x:Str):ay "bool" (.str x)=some (.bool false):=(if_neg (fun z=>nomatch z)).trans (congrArg (fun b=>some (PyData.bool b)) (show ax "str" "bool"=false by decide))
def AF (x:Str):ay "str" (.str x)=some (.bool true):=(if_neg (fun z=>nomatch z)).trans (congrArg (fun b=>some (PyData.bool b)) (show ax "str" "str"=true by decide))
def AE (x:Str):ay "list" (.str x)=some (.bool false):=(if_neg (fun z=>nomatch z)).trans (congrArg (fun b=>some (PyData.bool b)) (show ax "str" "list"=false by decide))
def AD (x:Str):ay "tuple" (.str x)=some (.bool false):=(if_neg (fun z=>nomatch z)).trans (congrArg (fun b=>some (PyData.bool b)) (show ax "str" "tuple"=false by decide))
def AC (x:Str):ay "dict" (.str x)=some (.bool false):=(if_neg (fun z=>nomatch z)).trans (congrArg (fun b=>some (PyData.bool b)) (show ax "str" "dict"=false by decide))
def AB (x:List D):ay "int" (.list x)=some (.bool false):=(if_neg (fun z=>nomatch z)).trans (congrArg (fun b=>some (PyData.bool b)) (show ax "list" "int"=false by decide))
def AA (x:List D):ay "bool" (.list x)=some (.bool false):=(if_neg (fun z=>nomatch z)).trans (congrArg (fun b=>some (PyData.bool b)) (show ax "list" "bool"=false by decide))
def Az (x:List D):ay "str" (.list x)=some (.bool false):=(if_neg (fun z=>nomatch z)).trans (congrArg (fun b=>some (PyData.bool b)) (show ax "list" "str"=false by decide))
def Ay (x:List D):ay "list" (.list x)=some (.bool true):=(if_neg (fun z=>nomatch z)).trans (congrArg (fun b=>some (PyData.bool b)) (show ax "list" "list"=true by decide))
def Ax (x:List D):ay "tuple" (.list x)=some (.bool false):=(if_neg (fun z=>nomatch z)).trans (congrArg (fun b=>some (PyData.bool b)) (show ax "list" "tuple"=false by decide))
def Aw (x:List D):ay "dict" (.list x)=some (.bool false):=(if_neg (fun z=>nomatch z)).trans (congrArg (fun b=>some (PyData.bool b)) (show ax "list" "dict"=false by decide))
def Av (x:List D):ay "int" (.tuple x)=some (.bool false):=(if_neg (fun z=>nomatch z)).trans (congrArg (fun b=>some (PyData.bool b)) (show ax "tuple" "int"=false by decide))
def Au (x:List D):ay "bool" (.tuple x)=some (.bool false):=(if_neg (fun z=>nomatch z)).trans (congrArg (fun b=>some (PyData.bool b)) (show ax "tuple" "bool"=false by decide))
def At (x:List D):ay "str" (.tuple x)=some (.bool false):=(if_neg (fun z=>nomatch z)).trans (congrArg (fun b=>some (PyData.bool b)) (show ax "tuple" "str"=false by decide))
def As (x:List D):ay "list" (.tuple x)=some (.bool false):=(if_neg (fun z=>nomatch z)).trans (congrArg (fun b=>some (PyData.bool b)) (show ax "tuple" "list"=false by decide))
def Ar (x:List D):ay "tuple" (.tuple x)=some (.bool true):=(if_neg (fun z=>nomatch z)).trans (congrArg (fun b=>some (PyData.bool b)) (show ax "tuple" "tuple"=true by decide))
def Aq (x:List D):ay "dict" (.tuple x)=some (.bool false):=(if_neg (fun z=>nomatch z)).trans (congrArg (fun b=>some (PyData.bool b)) (show ax "tuple" "dict"=false by decide))
def Ap:ay "int" (.dict [])=some (.bool false):=(if_neg (fun z=>nomatch z)).trans (congrArg (fun b=>some (PyData.bool b)) (show ax "dict" "int"=false by decide))
def Ao (k:Str) (x:D) (r:List (D × D)):ay "int" (.dict ((.str k,x) :: r))=some (.bool false):=(if_neg (fun z=>nomatch z)).trans (congrArg (fun b=>some (PyData.bool b)) (show ax "dict" "int"=false by decide))
def An (k:Int) (x:D) (r:List (D × D)):ay "int" (.dict ((.int k,x) :: r))=some (.bool false):=(if_neg (fun z=>nomatch z)).trans (congrArg (fun b=>some (PyData.bool b)) (show ax "dict" "int"=false by decide))
def Am (k:List D) (x:D) (r:List (D × D)):ay "int" (.dict ((.tuple k,x) :: r))=some (.bool false):=(if_neg (fun z=>nomatch z)).trans (congrArg (fun b=>some (PyData.bool b)) (show ax "dict" "int"=false by decide))
def Al:ay "bool" (.dict [])=some (.bool false):=(if_neg (fun z=>nomatch z)).trans (congrArg (fun b=>some (PyData.bool b)) (show ax "dict" "bool"=false by decide))
def Ak (k:Str) (x:D) (r:List (D × D)):ay "bool" (.dict ((.str k,x) :: r))=some (.bool false):=(if_neg (fun z=>nomatch z)).trans (congrArg (fun b=>some (PyData.bool b)) (show ax "dict" "bool"=false by decide))
def Aj (k:Int) (x:D) (r:List (D × D)):ay "bool" (.dict ((.int k,x) :: r))=some (.bool false):=(if_neg (fun z=>nomatch z)).trans (congrArg (fun b=>some (PyData.bool b)) (show ax "dict" "bool"=false by decide))
def Ai (k:List D) (x:D) (r:List (D × D)):ay "bool" (.dict ((.tuple k,x) :: r))=some (.bool false):=(if_neg (fun z=>nomatch z)).trans (congrArg (fun b=>some (PyData.bool b)) (show ax "dict" "bool"=false by decide))
def Ah:ay "str" (.dict [])=some (.bool false):=(if_neg (fun z=>nomatch z)).trans (congrArg (fun b=>some (PyData.bool b)) (show ax "dict" "str"=false by decide))
def Ag (k:Str) (x:D) (r:List (D × D)):ay "str" (.dict ((.str k,x) :: r))=some (.bool false):=(if_neg (fun z=>nomatch z)).trans (congrArg (fun b=>some (PyData.bool b)) (show ax "dict" "str"=false by decide))
def Af (k:Int) (x:D) (r:List (D × D)):ay "str" (.dict ((.int k,x) :: r))=some (.bool false):=(if_neg (fun z=>nomatch z)).trans (congrArg (fun b=>some (PyData.bool b)) (show ax "dict" "str"=false by decide))
def Ae (k:List D) (x:D) (r:List (D × D)):ay "str" (.dict ((.tuple k,x) :: r))=some (.bool false):=(if_neg (fun z=>nomatch z)).trans (congrArg (fun b=>some (PyData.bool b)) (show ax "dict" "str"=false by decide))
def Ad:ay "list" (.dict [])=some (.bool false):=(if_neg (fun z=>nomatch z)).trans (congrArg (fun b=>some (PyData.bool b)) (show ax "dict" "list"=false by decide))
def Ac (k:Str) (x:D) (r:List (D × D)):ay "list" (.dict ((.str k,x) :: r))=some (.bool false):=(if_neg (fun z=>nomatch z)).trans (congrArg (fun b=>some (PyData.bool b)) (show ax "dict" "list"=false by decide))
def Ab (k:Int) (x:D) (r:List (D × D)):ay "list" (.dict ((.int k,x) :: r))=some (.bool false):=(if_neg (fun z=>nomatch z)).trans (congrArg (fun b=>some (PyData.bool b)) (show ax "dict" "list"=false by decide))
def Aa (k:List D) (x:D) (r:List (D × D)):ay "list" (.dict ((.tuple k,x) :: r))=some (.bool false):=(if_neg (fun z=>nomatch z)).trans (congrArg (fun b=>some (PyData.bool b)) (show ax "dict" "list"=false by decide))
def zZ:ay "tuple" (.dict [])=some (.bool false):=(if_neg (fun z=>nomatch z)).trans (congrArg (fun b=>some (PyData.bool b)) (show ax "dict" "tuple"=false by decide))
def zY (k:Str) (x:D) (r:List (D × D)):ay "tuple" (.dict ((.str k,x) :: r))=some (.bool false):=(if_neg (fun z=>nomatch z)).trans (congrArg (fun b=>some (PyData.bool b)) (show ax "dict" "tuple"=false by decide))
def zX (k:Int) (x:D) (r:List (D × D)):ay "tuple" (.dict ((.int k,x) :: r))=some (.bool false):=(if_neg (fun z=>nomatch z)).trans (congrArg (fun b=>some (PyData.bool b)) (show ax "dict" "tuple"=false by decide))
def zW (k:List D) (x:D) (r:List (D × D)):ay "tuple" (.dict ((.tuple k,x) :: r))=some (.bool false):=(if_neg (fun z=>nomatch z)).trans (congrArg (fun b=>some (PyData.bool b)) (show ax "dict" "tuple"=false by decide))
def zV:ay "dict" (.dict [])=some (.bool true):=(if_neg (fun z=>nomatch z)).trans (congrArg (fun b=>some (PyData.bool b)) (show ax "dict" "dict"=true by decide))
def zU (k:Str) (x:D) (r:List (D × D)):ay "dict" (.dict ((.str k,x) :: r))=some (.bool true):=(if_neg (fun z=>nomatch z)).trans (congrArg (fun b=>some (PyData.bool b)) (show ax "dict" "dict"=true by decide))
def zT (k:Int) (x:D) (r:List (D × D)):ay "dict" (.dict ((.int k,x) :: r))=some (.bool true):=(if_neg (fun z=>nomatch z)).trans (congrArg (fun b=>some (PyData.bool b)) (show ax "dict" "dict"=true by decide))
def zS (k:List D) (x:D) (r:List (D × D)):ay "dict" (.dict ((.tuple k,x) :: r))=some (.bool true):=(if_neg (fun z=>nomatch z)).trans (congrArg (fun b=>some (PyData.bool b)) (show ax "dict" "dict"=true by decide))
def zR:((([]:List D).length:Nat):Int)=0:=rfl
def zQ (x0:D):((([x0]:List D).length:Nat):Int)=1:=rfl
def zP (x0 x1:D):((([x0,x1]:List D).length:Nat):Int)=2:=rfl
def zO (x0 x1 x2:D):((([x0,x1,x2]:List D).length:Nat):Int)=3:=rfl
def zN (x0 x1 x2 x3:D):((([x0,x1,x2,x3]:List D).length:Nat):Int)=4:=rfl
def zM (x0 x1 x2 x3 x4:D):((([x0,x1,x2,x3,x4]:List D).length:Nat):Int)=5:=rfl
def zK (x0 x1 x2 x3 x4 x5:D):((([x0,x1,x2,x3,x4,x5]:List D).length:Nat):Int)=6:=rfl
def zJ (x0 x1 x2 x3 x4 x5 x6:D):((([x0,x1,x2,x3,x4,x5,x6]:List D).length:Nat):Int)=7:=rfl
def zI (x0 x1 x2 x3 x4 x5 x6 x7:D):((([x0,x1,x2,x3,x4,x5,x6,x7]:List D).length:Nat):Int)=8:=rfl
def zH (x0 x1 x2 x3 x4 x5 x6 x7 x8:D):((([x0,x1,x2,x3,x4,x5,x6,x7,x8]:List D).length:Nat):Int)=9:=rfl
def zG (α β:Type) (f:α->β) (l:List α):(l.map f).length=l.length:=zad f
def zF:aQ [.list ts]=some (.int ts.length):=rfl
def zE:aQ [.tuple ts]=some (.int ts.length):=rfl
def zC (z:Str):W (aQ [.str z]) Qd=(z.length<=sizeLine/\Qd (.int z.length)):=qh _ _ _
def zB (a:Int):jj [.int a]=some (.int (if a < 0 then -a else a)):=rfl
def zA (a b:Int):tK [.int a,.int b]=some (.int (if b > a then b else a)):=rfl
def zz (a b:Int):qa [.int a,.int b]=some (.int (if b < a then b else a)):=rfl
def zy (a:Int):qZ [.int a]=some (.int a):=rfl
def zx:qZ [.bool true]=some (.int 1):=rfl
def zw:qZ [.bool false]=some (.int 0):=rfl
def zv:gm [.list ts]=some (.list ts):=rfl
def zu:jP [.list ts]=some (.tuple ts):=rfl
def zt (n:Int):ixA (.list ts) (.int n)=atI ts n:=rfl
def zr:gm [.tuple ts]=some (.list ts):=rfl
def zq:jP [.tuple ts]=some (.tuple ts):=rfl
def zp (n:Int):ixA (.tuple ts) (.int n)=atI ts n:=rfl
def zo (ts us:List D):W (ga (.list ts) (.list us)) Qd=(ts.length+us.length<=sizeLine/\Qd (.list (ts++us))):=jk _ _ _
def zn (lo hi:Option Int):kb (.list ts) lo hi=some (.list (du ts lo hi)):=rfl
def zh:atI ts 0=ts[0]?:=bB ts _
def zg:atI ts 1=ts[1]?:=bB ts _
def ze:atI ts 2=ts[2]?:=bB ts _
def zd:atI ts 3=ts[3]?:=bB ts _
def zc:atI ts 4=ts[4]?:=bB ts _
def zb:atI ts 5=ts[5]?:=bB ts _
def yZ:atI ts 6=ts[6]?:=bB ts _
def yY:atI ts 7=ts[7]?:=bB ts _
def yX:atI ts 8=ts[8]?:=bB ts _
def yW:atI ts 9=ts[9]?:=bB ts _
def yV:atI ts 10=ts[10]?:=bB ts _
def yU:atI ts 11=ts[11]?:=bB ts _
def yT:atI ts 12=ts[12]?:=bB ts _
def yS:atI ts 13=ts[13]?:=bB ts _
def yR:atI ts 14=ts[14]?:=bB ts _
def yQ:atI ts 15=ts[15]?:=bB ts _
def yP:atI ts 16=ts[16]?:=bB ts _
def yO:atI ts 17=ts[17]?:=bB ts _
def yN:atI ts 18=ts[18]?:=bB ts _
def yM:atI ts 19=ts[19]?:=bB ts _
def yL:atI ts 20=ts[20]?:=bB ts _
def yK (t:D):(t :: ts)[0]?=some t:=rfl
def yJ (t:D):(t :: ts)[i+1]?=ts[i]?:=List.getElem?_cons_succ
def yI:W (dR i f en) Qe=W (gv en i) (HD i f en Qe):=by unfold gv dR; cases (en[i]?).join with | none=>rw [bm,bm] | some x=>cases x <;> first | rfl | exact (au _ _).symm | (rw [au]; rfl) | (rw [au]; exact bm _)
def yH:HD i f en Qe (.list ts)=W (f en) (tS i Qe):=av _ _ _
def yG (n:Int):tS i Qe (.int n,en)=W (gv en i) (tR i n en Qe):=by unfold tS gv; cases h:(en[i]?).join with | none=>simp only [h,bm] | some x=>simp only [h,au]; cases x <;> first | rfl | exact (au _ _).symm | (rw [au]; rfl) | (rw [au]; exact bm _)
def yF (n:Int):tR i n en Qe (.list ts)=((-(2 ^ 63)<=n/\n < 2 ^ 63)/\W (oC ts n) (Db i en Qe)):=by unfold tR oC; dsimp only; rw [uo]; congr 1; rw [av,av]; congr 1; funext k; rw [bH,bH]; rfl
def yE (t:D) (us:List D):Db i en Qe (t,us)=Qe (t,en.set i (some (.list us))):=rfl
def yD (z:Str) (n:Int):W (ixT (.str z) (.int n)) Qd=(z.length<=sizeLine/\W (atI (li z) n) (kS1 Qd)):=by show W (if _ then _ else _) _=_; rw [uo,bH]; rfl
def yC (c:Nat):kS1 Qd c=Qd (.str (mk1 c)):=rfl
def yB (lo hi:Option Int):nQ (.tuple ts) lo hi=some (.tuple (du ts lo hi)):=by first | rfl | exact au _ _ | exact bm _
def yA (z y:Str):lK z [.str y]=some (.bool (Txt.startswith z y)):=rfl
def yz (a b:Str):ub (.str a) (.str b)=some (.bool (iB b a)):=rfl
def yy (z:Str):W (nr (.str z)) Qd=(z.length < 4000/\Qd (.int (cq (dY z) z.length).length)):=qh _ _ _
def yx (a b:Bool):eqD (.bool a) (.bool b)=some (.bool (a == b)):=EJ a b
def yw (a b:Bool):neD (.bool a) (.bool b)=some (.bool (!(a == b))):=DQ a b
def yv (a b:Str):eqD (.str a) (.str b)=some (.bool (decide (a=b))):=IR a b
def yu (a b:Str):neD (.str a) (.str b)=some (.bool (!decide (a=b))):=Hq a b
def yt:neD (.list []) (.list [])=some (.bool false):=Hr
def yr:eqD (.list []) (.list [])=some (.bool true):=IS
def yq (a:Bool):(a == a)=true:=beq_self_eq_true a
def yp:(true == false)=false:=rfl
def yo:(false == true)=false:=rfl
def yn (t:D) (ts acc:List D):W (lcF g c f (t :: ts) acc en) Ql=W (g t en) (kL1 g c f ts acc Ql):=by unfold lcF; rw [av]; congr 1; funext z; rw [av]; rfl
def ym (ts acc:List D):kL1 g c f ts acc Ql en=W (c en) (kL2 g c f ts acc Ql):=rfl
def yk (ts acc:List D):kL2 g c f ts acc Ql (true,en)=W (f en) (kL3 g c f ts acc Ql):=av _ _ _
def yj (ts acc:List D):kL2 g c f ts acc Ql (false,en)=W (lcF g c f ts acc en) Ql:=rfl
def yi (ts acc:List D) (t:D):kL3 g c f ts acc Ql (t,en)=(acc.length < sizeLine/\W (lcF g c f ts (acc++[t]) en) Ql):=uo _ _ _
def yh (m:List D):([]++m:List D)=m:=rfl
def yg (x:D) (l m:List D):((x :: l)++m:List D)=x :: (l++m):=rfl
def yf:(([]:List D).length < sizeLine)=True:=eq_true (zag (by show 0 < 100; decide) cf)
def ye (x0:D):(([x0]:List D).length < sizeLine)=True:=eq_true (zag (by show 1 < 100; decide) cf)
def yd (x0 x1:D):(([x0,x1]:List D).length < sizeLine)=True:=eq_true (zag (by show 2 < 100; decide) cf)
def yc (x0 x1 x2:D):(([x0,x1,x2]:List D).length < sizeLine)=True:=eq_true (zag (by show 3 < 100; decide) cf)
def yb (x0 x1 x2 x3:D):(([x0,x1,x2,x3]:List D).length < sizeLine)=True:=eq_true (zag (by show 4 < 100; decide) cf)
def ya (x0 x1 x2 x3 x4:D):(([x0,x1,x2,x3,x4]:List D).length < sizeLine)=True:=eq_true (zag (by show 5 < 100; decide) cf)
def x9 (x0 x1 x2 x3 x4 x5:D):(([x0,x1,x2,x3,x4,x5]:List D).length < sizeLine)=True:=eq_true (zag (by show 6 < 100; decide) cf)
def xZ (x0 x1 x2 x3 x4 x5 x6:D):(([x0,x1,x2,x3,x4,x5,x6]:List D).length < sizeLine)=True:=eq_true (zag (by show 7 < 100; decide) cf)
def xY (x0 x1 x2 x3 x4 x5 x6 x7:D):(([x0,x1,x2,x3,x4,x5,x6,x7]:List D).length < sizeLine)=True:=eq_true (zag (by show 8 < 100; decide) cf)
def xX (x0 x1 x2 x3 x4 x5 x6 x7 x8:D):(([x0,x1,x2,x3,x4,x5,x6,x7,x8]:List D).length < sizeLine)=True:=eq_true (zag (by show 9 < 100; decide) cf)
def xW:gO [.list []]=some (.bool true):=rfl
def xV (a:Bool):gO [.list [.bool a]]=some (.bool a):=by cases a <;> rfl
def xU (a b:Bool):gO [.list [.bool a,.bool b]]=some (.bool (a && b)):=by cases a <;> cases b <;> rfl
def xT:qo [.list []]=some (.int 0):=rfl
def xS (a:Int):qo [.list [.int a]]=some (.int a):=by show some (PyData.int (a+0))=_; rw [Int.add_zero]
def xR (a b:Int):qo [.list [.int a,.int b]]=some (.int (a+b)):=by show some (PyData.int (a+(b+0)))=_; rw [Int.add_zero]
def xQ (x:D) (l:List D):du (x :: l) (some 1) none=l:=EK x l
def xP (x:D) (l:List D):(HT.sIx (x :: l).length 0 (some 1)=0)=False:=JY x l
def xO (p:Prop):(False/\p)=False:=false_and p
def xN:(¬ False)=True:=not_false_eq_true
def xM:(!true)=false:=rfl
def xL:(!false)=true:=rfl
def xK (p:Prop):(True/\p)=p:=true_and p
def xJ (p:Prop):(p/\True)=p:=and_true p
def xI (_:Decidable True):decide True=true:=zaB trivial
def xH (_:Decidable False):decide False=false:=zaA (fun z=>z)
def xG (α:Sort 1) (a:α):(a=a)=True:=eq_self a
end
def zzI {a b:Prop} (x:a) (y:b):a/\b:=⟨x,y⟩
def E3:=zzI @ws0 (zzI @ws1 (zzI @ws2 (zzI @ws3 (zzI @ws4 (zzI @ws5 (zzI @ws6 (zzI @ws7 (zzI @ws8 (zzI @ws9 (zzI @GJ (zzI @GI (zzI @GH (zzI @GG (zzI @GF (zzI @GE (zzI @GD (zzI @GC (zzI @GB (zzI @GA (zzI @Gz (zzI @Gy (zzI @Gx (zzI @Gw (zzI @Gv (zzI @Gu (zzI @Gs (zzI @Gr (zzI @Gq (zzI @Gp (zzI @Go (zzI @Gn (zzI @Gm (zzI @Gk (zzI @Gj (zzI @Gi (zzI @Gh (zzI @Gg (zzI @Gf @Ge))))))))))))))))))))))))))))))))))))))
def E2:=zzI @Gd (zzI @Gc (zzI @Gb (zzI @Ga (zzI @F9 (zzI @F8 (zzI @F7 (zzI @FZ (zzI @FY (zzI @FX (zzI @FW (zzI @FV (zzI @FU (zzI @FT (zzI @FS (zzI @FR (zzI @FQ (zzI @FP (zzI @FO (zzI @FN (zzI @FM (zzI @FK (zzI @FJ (zzI @FI (zzI @FH (zzI @FG (zzI @FF (zzI @FE (zzI @FD (zzI @FC (zzI @FB (zzI @FA (zzI @Fz (zzI @Fy (zzI @Fx (zzI @Fw (zzI @Fv (zzI @Fu (zzI @Ft @Fs))))))))))))))))))))))))))))))))))))))
def EZ:=zzI @Fq (zzI @Fp (zzI @Fo (zzI @Fm (zzI @Fk (zzI @Fj (zzI @Fi (zzI @Fh (zzI @Fg (zzI @Ff (zzI @Fe (zzI @Fd (zzI @Fc (zzI @Fb (zzI @E9 (zzI @E8 (zzI @E7 (zzI @E6 (zzI @E5 (zzI @E4 (zzI @CL (zzI @CK (zzI @CJ (zzI @CI (zzI @CH (zzI @CG (zzI @CF (zzI @CD (zzI @CC (zzI @CB (zzI @CA (zzI @Cz (zzI @Cy (zzI @Cw (zzI @Cv (zzI @Cu (zzI @Ct (zzI @Cs (zzI @Cr @Cq))))))))))))))))))))))))))))))))))))))
def EY:=zzI @Cp (zzI @Co (zzI @Cn (zzI @Cm (zzI @Cl (zzI @Ck (zzI @Cj (zzI @Ci (zzI @Ch (zzI @Cg (zzI @Cf (zzI @Ce (zzI @Cd (zzI @Cc (zzI @Cb (zzI @Ca (zzI @B9 (zzI @B8 (zzI @B7 (zzI @B6 (zzI @B5 (zzI @B4 (zzI @B3 (zzI @B2 (zzI @B1 (zzI @B0 (zzI @BZ (zzI @BY (zzI @BX (zzI @BW (zzI @BV (zzI @BU (zzI @BT (zzI @BS (zzI @BR (zzI @BQ (zzI @BP (zzI @BO (zzI @BN @BM))))))))))))))))))))))))))))))))))))))
def EX:=zzI @BL (zzI @BK (zzI @BJ (zzI @BI (zzI @BH (zzI @BG (zzI @BF (zzI @BE (zzI @BD (zzI @BC (zzI @BB (zzI @BA (zzI @Bz (zzI @By (zzI @Bx (zzI @Bw (zzI @Bv (zzI @Bu (zzI @Bt (zzI @Bs (zzI @Br (zzI @Bq (zzI @Bp (zzI @Bo (zzI @Bn (zzI @Bm (zzI @Bk (zzI @Bj (zzI @Bi (zzI @Bh (zzI @Bg (zzI @Bf (zzI @Be (zzI @Bd (zzI @Bc (zzI @Bb (zzI @Ba (zzI @A9 (zzI @A8 @A7))))))))))))))))))))))))))))))))))))))
def EW:=zzI @A6 (zzI @A5 (zzI @A4 (zzI @A3 (zzI @A2 (zzI @A1 (zzI @A0 (zzI @AZ (zzI @AY (zzI @AX (zzI @AW (zzI @AV (zzI @AU (zzI @AT (zzI @AR (zzI @AQ (zzI @AO (zzI @AN (zzI @AM (zzI @AL (zzI @AK (zzI @AJ (zzI @AI (zzI @AH (zzI @AG (zzI @AF (zzI @AE (zzI @AD (zzI @AC (zzI @AB (zzI @AA (zzI @Az (zzI @Ay (zzI @Ax (zzI @Aw (zzI @Av (zzI @Au (zzI @At (zzI @As @Ar))))))))))))))))))))))))))))))))))))))
def EV:=zzI @Aq (zzI @Ap (zzI @Ao (zzI @An (zzI @Am (zzI @Al (zzI @Ak (zzI @Aj (zzI @Ai (zzI @Ah (zzI @Ag (zzI @Af (zzI @Ae (zzI @Ad (zzI @Ac (zzI @Ab (zzI @Aa (zzI @zZ (zzI @zY (zzI @zX (zzI @zW (zzI @zV (zzI @zU (zzI @zT (zzI @zS (zzI @zR (zzI @zQ (zzI @zP (zzI @zO (zzI @zN (zzI @zM (zzI @zK (zzI @zJ (zzI @zI (zzI @zH (zzI @zG (zzI @zF (zzI @zE (zzI @zC @zB))))))))))))))))))))))))))))))))))))))
def EU:=zzI @zA (zzI @zz (zzI @zy (zzI @zx (zzI @zw (zzI @zv (zzI @zu (zzI @zt (zzI @zr (zzI @zq (zzI @zp (zzI @zo (zzI @zn (zzI @zh (zzI @zg (zzI @ze (zzI @zd (zzI @zc (zzI @zb (zzI @yZ (zzI @yY (zzI @yX (zzI @yW (zzI @yV (zzI @yU (zzI @yT (zzI @yS (zzI @yR (zzI @yQ (zzI @yP (zzI @yO (zzI @yN (zzI @yM (zzI @yL (zzI @yK (zzI @yJ (zzI @yI (zzI @yH (zzI @yG @yF))))))))))))))))))))))))))))))))))))))
def ET:=zzI @yE (zzI @yD (zzI @yC (zzI @yB (zzI @yA (zzI @yz (zzI @yy (zzI @yx (zzI @yw (zzI @yv (zzI @yu (zzI @yt (zzI @yr (zzI @yq (zzI @yp (zzI @yo (zzI @yn (zzI @ym (zzI @yk (zzI @yj (zzI @yi (zzI @yh (zzI @yg (zzI @yf (zzI @ye (zzI @yd (zzI @yc (zzI @yb (zzI @ya (zzI @x9 (zzI @xZ (zzI @xY (zzI @xX (zzI @xW (zzI @xV (zzI @xU (zzI @xT (zzI @xS (zzI @xR @xQ))))))))))))))))))))))))))))))))))))))
def ES:=zzI @xP (zzI @xO (zzI @xN (zzI @xM (zzI @xL (zzI @xK (zzI @xJ (zzI @xI (zzI @xH @xG))))))))
def ws:=zzI @E3 (zzI @E2 (zzI @EZ (zzI @EY (zzI @EX (zzI @EW (zzI @EV (zzI @EU (zzI @ET @ES))))))))
def JZ {g:MG} {b:MS} {ts:List D} {en:En} {Q:Fl->Prop} (I:Nat->En->Prop) (h0:I 0 en)
  (hs:∀ i t en,ts[i]?=some t->I i en->W (g t en) (kFg b (I (i+1)) Q)) (hq:∀ en,I ts.length en->Q (.nx en)):W (fc g b ts en) Q:=by
 suffices ∀ (us:List D) (i:Nat) (en:En),ts.drop i=us->i<=ts.length->I i en->W (fc g b us en) Q from this ts 0 en rfl (Nat.zero_le _) h0
 intro us
 induction us with
 | nil =>
  intro i en hu hi h
  have:ts.length - i=0:=by rw [<- zaF,hu]; rfl
  simp only [ws];exact hq en (by rw [show ts.length=i by omega]; exact h)
 | cons t us ih =>
  intro i en hu hi h;have ht:ts[i]?=some t:=by
   have:(ts.drop i)[0]?=some t:=by rw [hu]; rfl
   rw [List.getElem?_drop] at this;exact this
  have hl:i < ts.length:=(zah.mp ht).1;have hd:ts.drop (i+1)=us:=by rw [<- List.drop_drop,hu]; rfl
  simp only [ws];refine (hs i t en ht h).use fun en1 h1=>?_;simp only [ws] at h1 ⊢;refine h1.use fun fl h2=>?_;cases fl with
  | nx e=>simp only [ws] at h2 ⊢; exact ih (i+1) e hd hl h2
  | ct e=>simp only [ws] at h2 ⊢; exact ih (i+1) e hd hl h2
  | rt t e=>simp only [ws] at h2 ⊢; exact h2
def pc {g:MG} {c:MT} {f:ME} {ts:List D} {en:En} {Q:List D × En->Prop} (I:Nat->List D->En->Prop) (hz:ts.length<=sizeLine) (h0:I 0 [] en)
  (hs:∀ i t us en,ts[i]?=some t->us.length<=i->I i us en->W (g t en) (HG c f us (I (i+1)))) (hq:∀ us en,us.length<=ts.length->I ts.length us en->Q (us,en)):W (lcF g c f ts [] en) Q:=by
 suffices ∀ (vs:List D) (i:Nat) (us:List D) (en:En),ts.drop i=vs->i<=ts.length->us.length<=i->I i us en->W (lcF g c f vs us en) Q from this ts 0 [] en rfl (Nat.zero_le _) (Nat.zero_le _) h0
 intro vs
 induction vs with
 | nil =>
  intro i us en hu hi hl h
  have:ts.length - i=0:=by rw [<- zaF,hu]; rfl
  simp only [ws];exact hq us en (by omega) (by rw [show ts.length=i by omega]; exact h)
 | cons t vs ih =>
  intro i us en hu hi hl h;have ht:ts[i]?=some t:=by
   have:(ts.drop i)[0]?=some t:=by rw [hu]; rfl
   rw [List.getElem?_drop] at this;exact this
  have hlt:i < ts.length:=(zah.mp ht).1;have hd:ts.drop (i+1)=vs:=by rw [<- List.drop_drop,hu]; rfl
  unfold lcF;rw [av];refine (hs i t us en ht hl h).use fun en1 h1=>?_;simp only [ws] at h1;rw [av];refine h1.use fun r h2=>?_;obtain ⟨x,en2⟩:=r;cases x with
  | true =>
   simp only [ws] at h2;show W ((f en2).bind _) Q;rw [av];refine h2.use fun q h3=>?_;obtain ⟨u,en3⟩:=q;simp only [ws] at h3;show W (if us.length < sizeLine then _ else _) Q;rw [if_pos (by omega)];exact ih (i+1) _ _ hd hlt (by rw [zae]; show _+1<=_; omega) h3
  | false =>
   simp only [ws] at h2;exact ih (i+1) _ _ hd hlt (by omega) h2
def ER {c:MT} {b:MS} {en:En} {Q:Fl->Prop} (I:Nat->En->Prop) (hs:∀ n en,I n en->W (c en) (kWh b (fun e=>∃ m,m < n/\I m e) Q)) {n:Nat} (h0:I n en):W (cQ c b en) Q:=by
 induction n using Nat.strongRecOn generalizing en with
 | _ n ih =>
  obtain ⟨⟨x,en1⟩,e1,h1⟩:=(hs n en h0).ex;cases x with
  | false=>simp only [ws] at h1; exact W.of (rL e1) h1
  | true =>
   simp only [ws] at h1;obtain ⟨fl,e2,h2⟩:=h1.ex;cases fl with
   | nx e =>
    obtain ⟨m,hm,hi⟩:∃ m,m < n/\I m e:=h2;obtain ⟨fl,e3,h3⟩:=(ih m hm hi).ex;exact W.of (rM e1 e2 e3) h3
   | ct e =>
    obtain ⟨m,hm,hi⟩:∃ m,m < n/\I m e:=h2;obtain ⟨fl,e3,h3⟩:=(ih m hm hi).ex;obtain ⟨k,h4⟩:=ja e3;refine W.of (iY (n:=k+1) ?_) h3;unfold whN;rw [e1];show (b en1).bind _=_;rw [e2];exact h4
   | rt t e =>
    refine W.of (iY (n:=1) ?_) (show Q (.rt t e) from h2);unfold whN;rw [e1];show (b en1).bind _=_;rw [e2];rfl
def lh {f:ME} {ts:List D} {o:Option D} {rest:En} {Q:List D × En->Prop} (F:D->D) (hz:ts.length<=sizeLine) (hf:∀ t∈ts,W (f (some t :: rest)) (fun r=>r=(F t,some t :: rest))) (hq:∀ o',Q (ts.map F,o' :: rest)):W (lcF (gN 0) cY f ts [] (o :: rest)) Q:=by
 obtain ⟨o',e⟩:=DS (f:=f) (F:=F) (rest:=rest) ts [] o (fun t ht=>by
  obtain ⟨r,e,h⟩:=(hf t ht).ex;rw [e,h]) (by simpa using hz)
 exact W.of e (hq o')
def kL {α:Type} {ts:List α} {i:Nat} {t:α} (h:ts[i]?=some t):ts.take (i+1)=ts.take i++[t]:=by
 rw [List.take_add_one,h]; rfl
def oB {i:Int} {n k:Nat} {t:D} (h:(jR i n)[k]?=some t):k < n/\t=.int (i+(k:Nat)):=by
 unfold jR at h;rw [zao] at h;obtain ⟨j,hj,rfl⟩:=zab.mp h;obtain ⟨hl,e⟩:=zah.mp hj;rw [List.getElem_range] at e;rw [List.length_range] at hl;exact ⟨hl,by rw [e]⟩
def il (i:Int) (n:Nat):(jR i n).length=n:=by unfold jR; rw [zad,List.length_range]
def sz {n:Nat} (h:n<=1000):n<=sizeLine:=zau h Pen3.sl1000
def szl {n:Nat} (h:n < 1000):n < sizeLine:=zag h Pen3.sl1000
def bS {p:D} {m:Int} (hp:Pen3.IsPen p) (h3:0 < m) (h4:m < 1073741824) {Q:D × En->Prop} (h:∀ r p',0<=r->r < m->Pen3.IsPen p'->Q (.int r,[some p',none])):W (Pen3.F_law_draw [p,.int m]) Q:=by
 obtain ⟨r,p',e,h1,h2,h5⟩:=Pen3.draw_ok hp h3 h4;exact W.of e (h r p' h1 h2 h5)
def um {ns:List Int} {k:Int} (h0:0<=k) {Q:D × En->Prop} (h:∀ p,Pen3.IsPen p->Q (p,[none,none])):W (Pen3.F_law_pen [.list (ns.map .int),.int k]) Q:=by
 obtain ⟨p,e,hp⟩:=Pen3.pen_ok h0;exact W.of e (h p hp)
end L2
set_option maxHeartbeats 1000000
namespace L2
namespace Tg
open PySem L2 Pen3
abbrev s1 (c:Nat):D:=.str (mk1 c)
def ev:Str:=("!\"#$&'()*+,-./0123456789:;<=>?@ABCDEFGHIJKLMNOPQRSTUVWXYZ" : Str)++("[\\]^_`abcdefghijklmnopqrstuvwxyz{|}~" : Str)
def EF:∀ c∈li ev,33<=c/\c<=126/\c≠37:=by decide +kernel
def i5:∀ (l:List Nat) (k:Nat),(l.map s1).eraseIdx k=(l.eraseIdx k).map s1
 | [],_=>rfl
 | a :: l,0=>rfl
 | a :: l,k+1=>by
  show s1 a :: (l.map s1).eraseIdx k=s1 a :: (l.eraseIdx k).map s1;rw [i5 l k]
def kT {z:Str} (h:(li z).length<=1000):gm [.str z]=some (.list ((li z).map s1)):=by
 show grd (z.cps.size<=sizeLine) _=_;unfold grd;rw [if_pos (zau (by rw [<- zaY]; exact h) sl1000)];rfl
def J6 {left:List Nat} {k:Nat} (hk:k < left.length):oC (left.map s1) (k:Int)=some (s1 left[k],(left.eraseIdx k).map s1):=by
 unfold oC;rw [zad,GW (by omega) (by omega),zaL];show Option.map _ _=_;rw [zao,zak hk,i5];rfl
def ui {α:Type} (xs:List α) (n:Nat):du xs (some (n:Int)) none=xs.drop n:=by
 unfold du;rw [HT.sIx_none,HT.sIx_nat,List.take_of_length_le (by rw [zaF]; exact zav _)];by_cases h:n<=xs.length
 ·rw [Nat.min_eq_left h]
 ·rw [Nat.min_eq_right (by omega),List.drop_eq_nil_of_le (zav _),List.drop_eq_nil_of_le (by omega)]
def nR {α:Type} (xs:List α) (n:Nat):du xs none (some (n:Int))=xs.take n:=by
 unfold du;rw [HT.sIx_none,HT.sIx_nat,List.drop_zero,Nat.sub_zero];by_cases h:n<=xs.length
 ·rw [Nat.min_eq_left h]
 ·rw [Nat.min_eq_right (by omega),List.take_of_length_le (zav _),List.take_of_length_le (by omega)]
def jQ:∀ ks:List Str,joinD.strsOf (ks.map .str)=some ks
 | []=>rfl
 | c :: cs=>by
  show (joinD.strsOf (cs.map .str)).map (c :: ·)=_;rw [jQ cs];rfl
def pA {ks:List Str} (h:(br ks).length<=1000) (h2:ks.length<=1000):joinD "" [.tuple (ks.map .str)]=some (.str (ofL (br ks)))/\joinD "" [.list (ks.map .str)]=some (.str (ofL (br ks))):=by
 have e:ofL (br ks)=Txt.join "" ks:=(Hu (IU ks)).symm;constructor
 ·show (joinD.strsOf (ks.map .str)).bind _=_;rw [jQ];show (if _ then _ else _)=_;rw [if_pos ⟨by decide,by rw [rA]; omega⟩,e]
 ·show (joinD.strsOf (ks.map .str)).bind _=_;rw [jQ];show (if _ then _ else _)=_;rw [if_pos ⟨by decide,by rw [rA]; omega⟩,e]
def oO {cs:List Nat} (h:cs.length<=1000):joinD "" [.list (cs.map s1)]=some (.str (ofL cs)):=by
 have e:(cs.map s1)=(cs.map mk1).map PyData.str:=by rw [List.map_map]; rfl
 have h2:=(pA (ks:=cs.map mk1) (by rw [rz]; exact h) (by rw [zad]; exact h)).2;rw [rz] at h2;rw [e];exact h2
structure TOk (ks:List Str):Prop where
 n1:1<=ks.length
 n4:ks.length<=4
 fu:∀ k∈ks,1<=(li k).length/\(li k).length<=6
 nd:(br ks).Nodup
 l12:(br ks).length<=12
 l1:1<=(br ks).length
 mem:∀ c∈br ks,c∈li ev
def tD (ks:List Str):D:=.tuple (ks.map .str)
abbrev sgs (ks:List Str):Str:=ofL (br ks)
def sB {ks:List Str} (T:TOk ks):joinD "" [tD ks]=some (.str (sgs ks)):=(pA (by have:=T.l12; omega) (by have:=T.n4; omega)).1
def im (cs:List Nat):(ofL cs).length=cs.length:=by show cs.toArray.size=_; rw [zai]
def hds:((("long" : Str)=("least" : Str))=False)/\((("long" : Str)=("often" : Str))=False)/\((("long" : Str)=("apart" : Str))=False)/\((("long" : Str)=("without" : Str))=False)/\((("long" : Str)=("begins" : Str))=False)/\((("long" : Str)=("ends" : Str))=False)/\((("long" : Str)=("not" : Str))=False)/\((("long" : Str)=("both" : Str))=False)/\((("long" : Str)=("either" : Str))=False)/\((("least" : Str)=("long" : Str))=False)/\((("least" : Str)=("often" : Str))=False)/\((("least" : Str)=("apart" : Str))=False)/\((("least" : Str)=("without" : Str))=False)/\((("least" : Str)=("begins" : Str))=False)/\((("least" : Str)=("ends" : Str))=False)/\((("least" : Str)=("not" : Str))=False)/\((("least" : Str)=("both" : Str))=False)/\((("least" : Str)=("either" : Str))=False)/\((("often" : Str)=("long" : Str))=False)/\((("often" : Str)=("least" : Str))=False)/\((("often" : Str)=("apart" : Str))=False)/\((("often" : Str)=("without" : Str))=False)/\((("often" : Str)=("begins" : Str))=False)/\((("often" : Str)=("ends" : Str))=False)/\((("often" : Str)=("not" : Str))=False)/\((("often" : Str)=("both" : Str))=False)/\((("often" : Str)=("either" : Str))=False)/\((("apart" : Str)=("long" : Str))=False)/\((("apart" : Str)=("least" : Str))=False)/\((("apart" : Str)=("often" : Str))=False)/\((("apart" : Str)=("without" : Str))=False)/\((("apart" : Str)=("begins" : Str))=False)/\((("apart" : Str)=("ends" : Str))=False)/\((("apart" : Str)=("not" : Str))=False)/\((("apart" : Str)=("both" : Str))=False)/\((("apart" : Str)=("either" : Str))=False)/\((("without" : Str)=("long" : Str))=False)/\((("without" : Str)=("least" : Str))=False)/\((("without" : Str)=("often" : Str))=False)/\((("without" : Str)=("apart" : Str))=False)/\((("without" : Str)=("begins" : Str))=False)/\((("without" : Str)=("ends" : Str))=False)/\((("without" : Str)=("not" : Str))=False)/\((("without" : Str)=("both" : Str))=False)/\((("without" : Str)=("either" : Str))=False)/\((("begins" : Str)=("long" : Str))=False)/\((("begins" : Str)=("least" : Str))=False)/\((("begins" : Str)=("often" : Str))=False)/\((("begins" : Str)=("apart" : Str))=False)/\((("begins" : Str)=("without" : Str))=False)/\((("begins" : Str)=("ends" : Str))=False)/\((("begins" : Str)=("not" : Str))=False)/\((("begins" : Str)=("both" : Str))=False)/\((("begins" : Str)=("either" : Str))=False)/\((("ends" : Str)=("long" : Str))=False)/\((("ends" : Str)=("least" : Str))=False)/\((("ends" : Str)=("often" : Str))=False)/\((("ends" : Str)=("apart" : Str))=False)/\((("ends" : Str)=("without" : Str))=False)/\((("ends" : Str)=("begins" : Str))=False)/\((("ends" : Str)=("not" : Str))=False)/\((("ends" : Str)=("both" : Str))=False)/\((("ends" : Str)=("either" : Str))=False)/\((("not" : Str)=("long" : Str))=False)/\((("not" : Str)=("least" : Str))=False)/\((("not" : Str)=("often" : Str))=False)/\((("not" : Str)=("apart" : Str))=False)/\((("not" : Str)=("without" : Str))=False)/\((("not" : Str)=("begins" : Str))=False)/\((("not" : Str)=("ends" : Str))=False)/\((("not" : Str)=("both" : Str))=False)/\((("not" : Str)=("either" : Str))=False)/\((("both" : Str)=("long" : Str))=False)/\((("both" : Str)=("least" : Str))=False)/\((("both" : Str)=("often" : Str))=False)/\((("both" : Str)=("apart" : Str))=False)/\((("both" : Str)=("without" : Str))=False)/\((("both" : Str)=("begins" : Str))=False)/\((("both" : Str)=("ends" : Str))=False)/\((("both" : Str)=("not" : Str))=False)/\((("both" : Str)=("either" : Str))=False)/\((("either" : Str)=("long" : Str))=False)/\((("either" : Str)=("least" : Str))=False)/\((("either" : Str)=("often" : Str))=False)/\((("either" : Str)=("apart" : Str))=False)/\((("either" : Str)=("without" : Str))=False)/\((("either" : Str)=("begins" : Str))=False)/\((("either" : Str)=("ends" : Str))=False)/\((("either" : Str)=("not" : Str))=False)/\((("either" : Str)=("both" : Str))=False):=by
 refine ⟨?_,?_,?_,?_,?_,?_,?_,?_,?_,?_,?_,?_,?_,?_,?_,?_,?_,?_,?_,?_,?_,?_,?_,?_,?_,?_,?_,?_,?_,?_,?_,?_,?_,?_,?_,?_,?_,?_,?_,?_,?_,?_,?_,?_,?_,?_,?_,?_,?_,?_,?_,?_,?_,?_,?_,?_,?_,?_,?_,?_,?_,?_,?_,?_,?_,?_,?_,?_,?_,?_,?_,?_,?_,?_,?_,?_,?_,?_,?_,?_,?_,?_,?_,?_,?_,?_,?_,?_,?_,?_⟩ <;> exact eq_false (by decide +kernel)
end Tg
end L2
namespace L2
namespace Tg
open PySem L2 Pen3
abbrev rv (z:Str):Str:=⟨z.cps.toList.reverse.toArray⟩
end Tg
end L2
set_option maxHeartbeats 4000000
namespace W56
open PySem L2
def top (i:Nat):Stmt:=PySem.Challenge.pw_wordrules_k56_rule_texts.main.body.getD i (.Pass ⟨0,0,0,0⟩)
structure Bl (mg:Str->Option Value):Prop where
 abs0:mg "abs"=none
 all0:mg "all"=none
 bool0:mg "bool"=none
 int0:mg "int"=none
 isinstance0:mg "isinstance"=none
 len0:mg "len"=none
 list0:mg "list"=none
 max0:mg "max"=none
 min0:mg "min"=none
 ord0:mg "ord"=none
 range0:mg "range"=none
 repr0:mg "repr"=none
 set0:mg "set"=none
 str0:mg "str"=none
 sum0:mg "sum"=none
 tuple0:mg "tuple"=none
 zip0:mg "zip"=none
section
variable {P:Program} {w:World} {K:PySem.W.Frag} {mg:Str->Option Value} {base:Heap} {f:Addr} {fd:FuncData}
abbrev mQ:Stmt:=top 11
abbrev rC:List Str:=["sign", "code"]
def scis_sign:FnScope rC ["sign"] (aj mQ):=⟨rfl,rfl,rfl,by decide +kernel,rfl,by decide +kernel,by decide +kernel⟩
def mY:MS:=(ak (aB 1 (eN tz (ad (ae 0) ag)))
 (aq (cV (cG leI leI (eC (.int 33)) (ae 1) (eC (.int 126))) (e2 neD (ae 1) (eC (.int 37))))))
def iO:List D->Option (D × En):=fnF 1 [0] mY
def uT {k:Nat} (T:Bl mg) {ou:Tok} (pX:mg "LOWEST_CODE"=some (.int 33 ou)) {m8:Tok} (oT:mg "HIGHEST_CODE"=some (.int 126 m8)) {m6:Tok} (oQ:mg "PERCENT_CODE"=some (.int 37 m6))  (F:Fun K "is_sign" "is_sign" mQ f fd):FnOk P w K mg base CX0 (k+1) f fd ["sign"] (spF K [0] 3 iO):=by
 have nd:=scis_sign.nd;refine F.okQ (N:=rC) (b:=mY) (J:=⟨[],[0,0],3,[]⟩) (ds0:=[0,0]) scis_sign rfl rfl rfl rfl fun cdv A outer s H E hr=>?_;exact (af (bo 1 [0,0] nd (fs0 (fcb Ih T.ord0 (by decide +kernel) (aa (fv 0 rfl rfl) ac rfl) rfl rfl)) rfl rfl rfl) (frt (bM (hW cN cN (aW rfl pX rfl) (fv 1 rfl rfl) (aW rfl oT rfl) (by with_unfolding_all rfl)) (bK (bL (Dk (K:=K) rfl hr.units) (fv 1 rfl rfl) (aW rfl oQ rfl) (bq _)))) rfl))
abbrev kf:Stmt:=top 12
abbrev mT:List Str:=["thing"]
def scis_kind:FnScope mT ["thing"] (aj kf):=⟨rfl,rfl,rfl,by decide +kernel,rfl,by decide +kernel,by decide +kernel⟩
def om:ME:=(al iO (ad (ae 0) ag))
def m4:MS:=(ak (sIf (bOr (cr (tV (e1 (ay "str") (ae 0)))) (cr (tV (cG leI leI (eC (.int 1)) (eN aQ (ad (ae 0) ag)) (eC (.int 6)))))) (aq (eC (.bool false))) aG)
 (aq (eN gO (ad (eLC true (dQ (ae 0)) (gN 0) cY om [none]) ag))))
def gj:List D->Option (D × En):=fnF 0 [0] m4
def uV {k:Nat} (T:Bl mg) {iV:Tok} (jg:mg "MOST_SIGNS_OF_A_KIND"=some (.int 6 iV)) (xC:Kn P w K mg base k "is_sign" ["sign"] (spF K [0] 3 iO)) (F:Fun K "is_kind" "is_kind" kf f fd):FnOk P w K mg base CX0 (k+1) f fd ["thing"] (spF K [0] 3 gj):=by
 have nd:=scis_kind.nd;refine F.okQ (N:=mT) (b:=m4) (J:=⟨[],[0],3,[]⟩) (ds0:=[0]) scis_kind rfl rfl rfl rfl fun cdv A outer s H E hr=>?_;exact (af (ao (ds2:=[0]) (qpt (bg (aX (aT (bA (K:=K) (n:="str") rfl rfl T.isinstance0 rfl T.str0 (by decide +kernel) (by decide) (fv 0 rfl rfl) (by decide) rfl rfl rfl rfl) (fun _=>rfl))) (bz (aX (j6 cN cN ah (fln rfl T.len0 (aa (fv 0 rfl rfl) ac rfl) rfl rfl) (aW rfl jg rfl) (by with_unfolding_all rfl)))))) (frt b8 rfl) am) (frt (fcb (iE (K:=K) rfl rfl) T.all0 (by decide +kernel) (aa (fs0 (cU (cd:=3) (d:=3) (dsi:=[0]) (lk:=[]) (BlkOkC.of (ns:=["sign"]) (js:=[none]) (N0:=mT) (sc0:=aj kf) rfl rfl (by decide +kernel)) rfl (b7 (K:=K) rfl (fv 0 rfl rfl)) (fun _ _ _ _ _=>(aP (i:=0) (ds':=[0]) (show (["sign"]:List Str).Nodup by decide +kernel) rfl (.inl rfl) rfl (by decide) (by decide) (.inr rfl))) (fun _ _ _ _ _=>bv) (fun _ _ _ _ _=>(fnn xC hr (aa (fv 0 rfl rfl) ac rfl) rfl rfl)) rfl rfl (by decide) rfl (fun _=>rfl))) ac rfl) rfl rfl) rfl))
abbrev jq:Stmt:=top 13
abbrev mj:List Str:=["signs"]
def scare_unlike:FnScope mj ["signs"] (aj jq):=⟨rfl,rfl,rfl,by decide +kernel,rfl,by decide +kernel,by decide +kernel⟩
def jz:MS:=(aq (e2 eqD (e1 nr (ae 0)) (eN aQ (ad (ae 0) ag))))
def cw:List D->Option (D × En):=fnF 0 [0] jz
def qE {k:Nat} (T:Bl mg)   (F:Fun K "are_unlike" "are_unlike" jq f fd):FnOk P w K mg base CX0 (k+1) f fd ["signs"] (spF K [0] 3 cw):=by
 have nd:=scare_unlike.nd;refine F.okQ (N:=mj) (b:=jz) (J:=⟨[],[0],3,[]⟩) (ds0:=[0]) scare_unlike rfl rfl rfl rfl fun cdv A outer s H E hr=>?_;exact (frt (bL (gn (K:=K) rfl hr.units) (rZ (K:=K) rfl rfl rfl T.len0 rfl T.set0 (by decide +kernel) (by decide +kernel) (fv 0 rfl rfl) rfl) (fln rfl T.len0 (aa (fv 0 rfl rfl) ac rfl) rfl rfl) (bq _)) rfl)
abbrev lm:Stmt:=top 16
abbrev pL:List Str:=["tongue"]
def scsigns_of:FnScope pL ["tongue"] (aj lm):=⟨rfl,rfl,rfl,by decide +kernel,rfl,by decide +kernel,by decide +kernel⟩
def lF:MS:=(aq (eM joinD (eC (.str "")) (ad (ae 0) ag)))
def dh:List D->Option (D × En):=fnF 0 [0] lF
def tH {k:Nat} (T:Bl mg)   (F:Fun K "signs_of" "signs_of" lm f fd):FnOk P w K mg base CX0 (k+1) f fd ["tongue"] (spF K [0] 3 dh):=by
 have nd:=scsigns_of.nd;refine F.okQ (N:=pL) (b:=lF) (J:=⟨[],[0],3,[]⟩) (ds0:=[0]) scsigns_of rfl rfl rfl rfl fun cdv A outer s H E hr=>?_;exact (frt (bE (K:=K) rfl PySem.F.slot_str_join PySem.F.type_str_join (cA rfl) cB ai (aa (fv 0 rfl rfl) ac rfl) rfl rfl rfl rfl rfl rfl) rfl)
abbrev ia:Stmt:=top 14
abbrev kl:List Str:=["thing", "signs"]
def scis_tongue:FnScope kl ["thing"] (aj ia):=⟨rfl,rfl,rfl,by decide +kernel,rfl,by decide +kernel,by decide +kernel⟩
def lC:ME:=(al gj (ad (ae 0) ag))
def kx:MS:=(ak (sIf (bOr (cr (tV (e1 (ay "tuple") (ae 0)))) (cr (tV (cG leI leI (eC (.int 1)) (eN aQ (ad (ae 0) ag)) (eC (.int 4)))))) (aq (eC (.bool false))) aG)
 (ak (sIf (cr (tV (eN gO (ad (eLC true (dQ (ae 0)) (gN 0) cY lC [none]) ag)))) (aq (eC (.bool false))) aG)
 (ak (aB 1 (al dh (ad (ae 0) ag)))
 (aq (cV (e2 leI (eN aQ (ad (ae 1) ag)) (eC (.int 12))) (al cw (ad (ae 1) ag)))))))
def eE:List D->Option (D × En):=fnF 1 [0] kx
def rP {k:Nat} (T:Bl mg) {pQ:Tok} (re:mg "MOST_SIGNS"=some (.int 12 pQ)) {pR:Tok} (rf:mg "MOST_KINDS"=some (.int 4 pR)) (ly:Kn P w K mg base k "signs_of" ["tongue"] (spF K [0] 3 dh)) (jx:Kn P w K mg base k "are_unlike" ["signs"] (spF K [0] 3 cw)) (xE:Kn P w K mg base k "is_kind" ["thing"] (spF K [0] 3 gj)) (F:Fun K "is_tongue" "is_tongue" ia f fd):FnOk P w K mg base CX0 (k+1) f fd ["thing"] (spF K [0] 3 eE):=by
 have nd:=scis_tongue.nd;refine F.okQ (N:=kl) (b:=kx) (J:=⟨[],[0,0],3,[]⟩) (ds0:=[0,0]) scis_tongue rfl rfl rfl rfl fun cdv A outer s H E hr=>?_;exact (af (ao (ds2:=[0,0]) (qpt (bg (aX (aT (bA (K:=K) (n:="tuple") rfl rfl T.isinstance0 rfl T.tuple0 (by decide +kernel) (by decide) (fv 0 rfl rfl) (by decide) rfl rfl rfl rfl) (fun _=>rfl))) (bz (aX (j6 cN cN ah (fln rfl T.len0 (aa (fv 0 rfl rfl) ac rfl) rfl rfl) (aW rfl rf rfl) (by with_unfolding_all rfl)))))) (frt b8 rfl) am) (af (ao (ds2:=[0,0]) (aX (aT (fcb (iE (K:=K) rfl rfl) T.all0 (by decide +kernel) (aa (fs0 (cU (cd:=3) (d:=3) (dsi:=[0]) (lk:=[]) (BlkOkC.of (ns:=["kind"]) (js:=[none]) (N0:=kl) (sc0:=aj ia) rfl rfl (by decide +kernel)) rfl (b7 (K:=K) rfl (fv 0 rfl rfl)) (fun _ _ _ _ _=>(aP (i:=0) (ds':=[0]) (show (["kind"]:List Str).Nodup by decide +kernel) rfl (.inl rfl) rfl (by decide) (by decide) (.inr rfl))) (fun _ _ _ _ _=>bv) (fun _ _ _ _ _=>(fnn xE hr (aa (fv 0 rfl rfl) ac rfl) rfl rfl)) rfl rfl (by decide) rfl (fun _=>rfl))) ac rfl) rfl rfl) (fun _=>rfl))) (frt b8 rfl) am) (af (bo 1 [0,0] nd (fs0 (fnn ly hr (aa (fv 0 rfl rfl) ac rfl) rfl rfl)) rfl rfl rfl) (frt (bM (bL cN (fln rfl T.len0 (aa (fv 1 rfl rfl) ac rfl) rfl rfl) (aW rfl re rfl) (bq _)) (bK (fnn jx hr (aa (fv 1 rfl rfl) ac rfl) rfl rfl))) rfl))))
abbrev kc:Stmt:=top 15
abbrev mR:List Str:=["tongue", "thing", "signs"]
def scis_word:FnScope mR ["tongue", "thing"] (aj kc):=⟨rfl,rfl,rfl,by decide +kernel,rfl,by decide +kernel,by decide +kernel⟩
def oh:ME:=(e2 ub (ae 0) (ae 1))
def mX:MS:=(ak (sIf (bOr (cr (tV (e1 (ay "str") (ae 1)))) (tV (e2 gtI (eN aQ (ad (ae 1) ag)) (eC (.int 60))))) (aq (eC (.bool false))) aG)
 (ak (aB 2 (al dh (ad (ae 0) ag)))
 (aq (eN gO (ad (eLC true (dQ (ae 1)) (gN 0) cY oh [none,some 2]) ag)))))
def dU:List D->Option (D × En):=fnF 1 [0,0] mX
def uS {k:Nat} (T:Bl mg) {iU:Tok} (je:mg "MOST_SIGNS_OF_A_WORD"=some (.int 60 iU)) (ly:Kn P w K mg base k "signs_of" ["tongue"] (spF K [0] 3 dh)) (F:Fun K "is_word" "is_word" kc f fd):FnOk P w K mg base CX0 (k+1) f fd ["tongue", "thing"] (spF K [0,0] 3 dU):=by
 have nd:=scis_word.nd;refine F.okQ (N:=mR) (b:=mX) (J:=⟨[],[0,0,0],3,[]⟩) (ds0:=[0,0,0]) scis_word rfl rfl rfl rfl fun cdv A outer s H E hr=>?_;exact (af (ao (ds2:=[0,0,0]) (qpt (bg (aX (aT (bA (K:=K) (n:="str") rfl rfl T.isinstance0 rfl T.str0 (by decide +kernel) (by decide) (fv 1 rfl rfl) (by decide) rfl rfl rfl rfl) (fun _=>rfl))) (bz (bU nK (fln rfl T.len0 (aa (fv 1 rfl rfl) ac rfl) rfl rfl) (aW rfl je rfl) (bq _))))) (frt b8 rfl) am) (af (ft (i:=2) (d:=0) (ds':=[0,0,0]) nd rfl (.inr rfl) (fs0 (fnn ly hr (aa (fv 0 rfl rfl) ac rfl) rfl rfl)) rfl (by decide) (by decide) rfl (.inl rfl)) (frt (fcb (iE (K:=K) rfl rfl) T.all0 (by decide +kernel) (aa (fs0 (cU (cd:=3) (d:=3) (dsi:=[0,0]) (lk:=[1]) (BlkOkC.of (ns:=["sign", "signs"]) (js:=[none,some 2]) (N0:=mR) (sc0:=aj kc) rfl rfl (by decide +kernel)) rfl (b7 (K:=K) rfl (fv 1 rfl rfl)) (fun _ _ _ _ _=>(aP (i:=0) (ds':=[0,0]) (show (["sign", "signs"]:List Str).Nodup by decide +kernel) rfl (.inl rfl) rfl (by decide) (by decide) (.inr rfl))) (fun _ _ _ _ _=>bv) (fun _ _ _ _ _=>(bL vp (fv 0 rfl rfl) (fvc 1 rfl rfl) (by with_unfolding_all rfl))) rfl rfl (by decide) rfl (fun _=>rfl))) ac rfl) rfl rfl) rfl)))
abbrev lq:Stmt:=top 18
abbrev pM:List Str:=["thing"]
def scis_whole:FnScope pM ["thing"] (aj lq):=⟨rfl,rfl,rfl,by decide +kernel,rfl,by decide +kernel,by decide +kernel⟩
def lG:MS:=(aq (cV (e1 (ay "int") (ae 0)) (la (e1 (ay "bool") (ae 0)))))
def gD:List D->Option (D × En):=fnF 0 [0] lG
def tI {k:Nat} (T:Bl mg)   (F:Fun K "is_whole" "is_whole" lq f fd):FnOk P w K mg base CX0 (k+1) f fd ["thing"] (spF K [0] 3 gD):=by
 have nd:=scis_whole.nd;refine F.okQ (N:=pM) (b:=lG) (J:=⟨[],[0],3,[]⟩) (ds0:=[0]) scis_whole rfl rfl rfl rfl fun cdv A outer s H E hr=>?_;exact (frt (bM (bA (K:=K) (n:="int") rfl rfl T.isinstance0 rfl T.int0 (by decide +kernel) (by decide) (fv 0 rfl rfl) (by decide) rfl rfl rfl rfl) (bK (mK (bA (K:=K) (n:="bool") rfl rfl T.isinstance0 rfl T.bool0 (by decide +kernel) (by decide) (fv 0 rfl rfl) (by decide) rfl rfl rfl rfl)))) rfl)
abbrev ff:Stmt:=top 19
abbrev iK:List Str:=["thing", "low", "high"]
def scis_whole_within:FnScope iK ["thing", "low", "high"] (aj ff):=⟨rfl,rfl,rfl,by decide +kernel,rfl,by decide +kernel,by decide +kernel⟩
def fj:MS:=(aq (cV (al gD (ad (ae 0) ag)) (cG leI leI (ae 1) (ae 0) (ae 2))))
def aV:List D->Option (D × En):=fnF 0 [0,0,0] fj
def lW {k:Nat} (T:Bl mg)  (vT:Kn P w K mg base k "is_whole" ["thing"] (spF K [0] 3 gD)) (F:Fun K "is_whole_within" "is_whole_within" ff f fd):FnOk P w K mg base CX0 (k+1) f fd ["thing", "low", "high"] (spF K [0,0,0] 3 aV):=by
 have nd:=scis_whole_within.nd;refine F.okQ (N:=iK) (b:=fj) (J:=⟨[],[0,0,0],3,[]⟩) (ds0:=[0,0,0]) scis_whole_within rfl rfl rfl rfl fun cdv A outer s H E hr=>?_;exact (frt (bM (fnn vT hr (aa (fv 0 rfl rfl) ac rfl) rfl rfl) (bK (hW cN cN (fv 1 rfl rfl) (fv 0 rfl rfl) (fv 2 rfl rfl) (by with_unfolding_all rfl)))) rfl)
abbrev fI:Stmt:=top 30
abbrev i7:List Str:=["head"]
def schow_many_parts:FnScope i7 ["head"] (aj fI):=⟨rfl,rfl,rfl,by decide +kernel,rfl,by decide +kernel,by decide +kernel⟩
def aA:MS:=(ak (sIf (tV (e2 eqD (ae 0) (eC (.str "not")))) (aq (eC (.int 1))) aG)
 (ak (sIf (bOr (tV (e2 eqD (ae 0) (eC (.str "both")))) (tV (e2 eqD (ae 0) (eC (.str "either"))))) (aq (eC (.int 2))) aG)
 (aq (eC (.int 0)))))
def ap:List D->Option (D × En):=fnF 0 [0] aA
def mG {k:Nat} (T:Bl mg)   (F:Fun K "how_many_parts" "how_many_parts" fI f fd):FnOk P w K mg base CX0 (k+1) f fd ["head"] (spF K [0] 3 ap):=by
 have nd:=schow_many_parts.nd;refine F.okQ (N:=i7) (b:=aA) (J:=⟨[],[0],3,[]⟩) (ds0:=[0]) schow_many_parts rfl rfl rfl rfl fun cdv A outer s H E hr=>?_;exact (af (ao (ds2:=[0]) (fte rfl hr.units (fv 0 rfl rfl) ai) (frt ah rfl) am) (af (ao (ds2:=[0]) (qpt (bg (fte rfl hr.units (fv 0 rfl rfl) ai) (bz (fte rfl hr.units (fv 0 rfl rfl) ai)))) (frt ah rfl) am) (frt ah rfl)))
abbrev fg:Stmt:=top 34
abbrev iL:List Str:=["low", "high"]
def scis_low_and_high:FnScope iL ["low", "high"] (aj fg):=⟨rfl,rfl,rfl,by decide +kernel,rfl,by decide +kernel,by decide +kernel⟩
def dy:MS:=(ak (sIf (cr (tV (al aV (ad (ae 0) (ad (eC (.int 0)) (ad (eC (.int 30)) ag)))))) (aq (eC (.bool false))) aG)
 (aq (eOr (e2 isN (ae 1) (eC .none)) (al aV (ad (ae 1) (ad (ae 0) (ad (eC (.int 30)) ag)))))))
def ca:List D->Option (D × En):=fnF 0 [0,0] dy
def lX {k:Nat} (T:Bl mg) {lU:Tok} (iC:mg "HIGHEST_LENGTH"=some (.int 30 lU)) (b9:Kn P w K mg base k "is_whole_within" ["thing", "low", "high"] (spF K [0,0,0] 3 aV)) (F:Fun K "is_low_and_high" "is_low_and_high" fg f fd):FnOk P w K mg base CX0 (k+1) f fd ["low", "high"] (spF K [0,0] 3 ca):=by
 have nd:=scis_low_and_high.nd;refine F.okQ (N:=iL) (b:=dy) (J:=⟨[],[0,0],3,[]⟩) (ds0:=[0,0]) scis_low_and_high rfl rfl rfl rfl fun cdv A outer s H E hr=>?_;exact (af (ao (ds2:=[0,0]) (aX (aT (fnn b9 hr (aa (fv 0 rfl rfl) (aa (fs0 ah) (aa (fs0 (aW rfl iC rfl)) ac rfl) rfl) rfl) rfl rfl) (fun _=>rfl))) (frt b8 rfl) am) (frt (sJ (bL nJ (fv 1 rfl rfl) fW (bq _)) (bK (fnn b9 hr (aa (fv 1 rfl rfl) (aa (fv 0 rfl rfl) (aa (fs0 (aW rfl iC rfl)) ac rfl) rfl) rfl) rfl rfl))) rfl))
abbrev gR:Stmt:=top 33
abbrev kE:List Str:=["tongue", "thing"]
def scis_told_word:FnScope kE ["tongue", "thing"] (aj gR):=⟨rfl,rfl,rfl,by decide +kernel,rfl,by decide +kernel,by decide +kernel⟩
def hC:MS:=(aq (cV (al dU (ad (ae 0) (ad (ae 1) ag))) (cG leI leI (eC (.int 1)) (eN aQ (ad (ae 1) ag)) (eC (.int 6)))))
def cE:List D->Option (D × En):=fnF 0 [0,0] hC
def oG {k:Nat} (T:Bl mg) {kK:Tok} (l4:mg "MOST_SIGNS_TOLD"=some (.int 6 kK)) (mU:Kn P w K mg base k "is_word" ["tongue", "thing"] (spF K [0,0] 3 dU)) (F:Fun K "is_told_word" "is_told_word" gR f fd):FnOk P w K mg base CX0 (k+1) f fd ["tongue", "thing"] (spF K [0,0] 3 cE):=by
 have nd:=scis_told_word.nd;refine F.okQ (N:=kE) (b:=hC) (J:=⟨[],[0,0],3,[]⟩) (ds0:=[0,0]) scis_told_word rfl rfl rfl rfl fun cdv A outer s H E hr=>?_;exact (frt (bM (fnn mU hr (aa (fv 0 rfl rfl) (aa (fv 1 rfl rfl) ac rfl) rfl) rfl rfl) (bK (hW cN cN ah (fln rfl T.len0 (aa (fv 1 rfl rfl) ac rfl) rfl rfl) (aW rfl l4 rfl) (by with_unfolding_all rfl)))) rfl)
abbrev fH:Stmt:=top 35
abbrev i6:List Str:=["tongue", "thing"]
def scis_often_signs:FnScope i6 ["tongue", "thing"] (aj fH):=⟨rfl,rfl,rfl,by decide +kernel,rfl,by decide +kernel,by decide +kernel⟩
def fO:MS:=(aq (cV (al dU (ad (ae 0) (ad (ae 1) ag))) (cV (cG leI leI (eC (.int 1)) (eN aQ (ad (ae 1) ag)) (eC (.int 4))) (al cw (ad (ae 1) ag)))))
def cI:List D->Option (D × En):=fnF 0 [0,0] fO
def mE {k:Nat} (T:Bl mg) {kH:Tok} (kY:mg "MOST_OFTEN_SIGNS"=some (.int 4 kH)) (mU:Kn P w K mg base k "is_word" ["tongue", "thing"] (spF K [0,0] 3 dU)) (jx:Kn P w K mg base k "are_unlike" ["signs"] (spF K [0] 3 cw)) (F:Fun K "is_often_signs" "is_often_signs" fH f fd):FnOk P w K mg base CX0 (k+1) f fd ["tongue", "thing"] (spF K [0,0] 3 cI):=by
 have nd:=scis_often_signs.nd;refine F.okQ (N:=i6) (b:=fO) (J:=⟨[],[0,0],3,[]⟩) (ds0:=[0,0]) scis_often_signs rfl rfl rfl rfl fun cdv A outer s H E hr=>?_;exact (frt (bM (fnn mU hr (aa (fv 0 rfl rfl) (aa (fv 1 rfl rfl) ac rfl) rfl) rfl rfl) (bM (hW cN cN ah (fln rfl T.len0 (aa (fv 1 rfl rfl) ac rfl) rfl rfl) (aW rfl kY rfl) (by with_unfolding_all rfl)) (bK (fnn jx hr (aa (fv 1 rfl rfl) ac rfl) rfl rfl)))) rfl)
abbrev kd:Stmt:=top 32
abbrev nY:List Str:=["tongue", "thing", "head"]
def scis_simple:FnScope nY ["tongue", "thing"] (aj kd):=⟨rfl,rfl,rfl,by decide +kernel,rfl,by decide +kernel,by decide +kernel⟩
def ce:MS:=(ak (aB 2 (e2 ixA (ae 1) (eC (.int 0))))
 (ak (sIf (tV (e2 eqD (ae 2) (eC (.str "apart")))) (aq (e2 eqD (eN aQ (ad (ae 1) ag)) (eC (.int 1)))) aG)
 (ak (sIf (bOr (tV (e2 eqD (ae 2) (eC (.str "without")))) (bOr (tV (e2 eqD (ae 2) (eC (.str "begins")))) (tV (e2 eqD (ae 2) (eC (.str "ends")))))) (aq (cV (e2 eqD (eN aQ (ad (ae 1) ag)) (eC (.int 2))) (al cE (ad (ae 0) (ad (e2 ixA (ae 1) (eC (.int 1))) ag))))) aG)
 (ak (sIf (tV (e2 neD (eN aQ (ad (ae 1) ag)) (eC (.int 3)))) (aq (eC (.bool false))) aG)
 (ak (sIf (tV (e2 eqD (ae 2) (eC (.str "long")))) (aq (al ca (ad (e2 ixA (ae 1) (eC (.int 1))) (ad (e2 ixA (ae 1) (eC (.int 2))) ag)))) aG)
 (ak (sIf (tV (e2 eqD (ae 2) (eC (.str "least")))) (aq (cV (al aV (ad (e2 ixA (ae 1) (eC (.int 1))) (ad (eC (.int 0)) (ad (e2 e9 (eN aQ (ad (ae 0) ag)) (eC (.int 1))) ag)))) (al aV (ad (e2 ixA (ae 1) (eC (.int 2))) (ad (eC (.int 0)) (ad (eC (.int 9)) ag)))))) aG)
 (ak (sIf (tV (e2 eqD (ae 2) (eC (.str "often")))) (aq (cV (al cI (ad (ae 0) (ad (e2 ixA (ae 1) (eC (.int 1))) ag))) (al aV (ad (e2 ixA (ae 1) (eC (.int 2))) (ad (eC (.int 0)) (ad (eC (.int 3)) ag)))))) aG)
 (aq (eC (.bool false))))))))))
def bC:List D->Option (D × En):=fnF 1 [0,0] ce
def rQ {k:Nat} (T:Bl mg) {mt:Tok} (nG:mg "HIGHEST_LEAST"=some (.int 9 mt)) {ms:Tok} (nF:mg "HIGHEST_OFTEN"=some (.int 3 ms)) (mV:Kn P w K mg base k "is_low_and_high" ["low", "high"] (spF K [0,0] 3 ca)) (p0:Kn P w K mg base k "is_told_word" ["tongue", "thing"] (spF K [0,0] 3 cE)) (b9:Kn P w K mg base k "is_whole_within" ["thing", "low", "high"] (spF K [0,0,0] 3 aV)) (n8:Kn P w K mg base k "is_often_signs" ["tongue", "thing"] (spF K [0,0] 3 cI)) (F:Fun K "is_simple" "is_simple" kd f fd):FnOk P w K mg base CX0 (k+1) f fd ["tongue", "thing"] (spF K [0,0] 3 bC):=by
 have nd:=scis_simple.nd;refine F.okQ (N:=nY) (b:=ce) (J:=⟨[],[0,0,0],3,[]⟩) (ds0:=[0,0,0]) scis_simple rfl rfl rfl rfl fun cdv A outer s H E hr=>?_;exact (af (bo 2 [0,0,0] nd (fxi rfl (fv 1 rfl rfl)) rfl rfl rfl) (af (ao (ds2:=[0,0,0]) (fte rfl hr.units (fv 2 rfl rfl) ai) (frt (bL (gn (K:=K) rfl hr.units) (fln rfl T.len0 (aa (fv 1 rfl rfl) ac rfl) rfl rfl) ah (bq _)) rfl) am) (af (ao (ds2:=[0,0,0]) (qpt (bg (fte rfl hr.units (fv 2 rfl rfl) ai) (bg (fte rfl hr.units (fv 2 rfl rfl) ai) (bz (fte rfl hr.units (fv 2 rfl rfl) ai))))) (frt (bM (bL (gn (K:=K) rfl hr.units) (fln rfl T.len0 (aa (fv 1 rfl rfl) ac rfl) rfl rfl) ah (bq _)) (bK (fnn p0 hr (aa (fv 0 rfl rfl) (aa (fxi rfl (fv 1 rfl rfl)) ac rfl) rfl) rfl rfl))) rfl) am) (af (ao (ds2:=[0,0,0]) (ftn rfl hr.units (fln rfl T.len0 (aa (fv 1 rfl rfl) ac rfl) rfl rfl) ah) (frt b8 rfl) am) (af (ao (ds2:=[0,0,0]) (fte rfl hr.units (fv 2 rfl rfl) ai) (frt (fnn mV hr (aa (fxi rfl (fv 1 rfl rfl)) (aa (fxi rfl (fv 1 rfl rfl)) ac rfl) rfl) rfl rfl) rfl) am) (af (ao (ds2:=[0,0,0]) (fte rfl hr.units (fv 2 rfl rfl) ai) (frt (bM (fnn b9 hr (aa (fxi rfl (fv 1 rfl rfl)) (aa (fs0 ah) (aa (fs0 (ar eP (fln rfl T.len0 (aa (fv 0 rfl rfl) ac rfl) rfl rfl) ah)) ac rfl) rfl) rfl) rfl rfl) (bK (fnn b9 hr (aa (fxi rfl (fv 1 rfl rfl)) (aa (fs0 ah) (aa (fs0 (aW rfl nG rfl)) ac rfl) rfl) rfl) rfl rfl))) rfl) am) (af (ao (ds2:=[0,0,0]) (fte rfl hr.units (fv 2 rfl rfl) ai) (frt (bM (fnn n8 hr (aa (fv 0 rfl rfl) (aa (fxi rfl (fv 1 rfl rfl)) ac rfl) rfl) rfl rfl) (bK (fnn b9 hr (aa (fxi rfl (fv 1 rfl rfl)) (aa (fs0 ah) (aa (fs0 (aW rfl nF rfl)) ac rfl) rfl) rfl) rfl rfl))) rfl) am) (frt b8 rfl))))))))
abbrev ib:Stmt:=top 29
abbrev km:List Str:=["tongue", "thing", "deep", "many"]
def scis_formed:FnScope km ["tongue", "thing", "deep"] (aj ib):=⟨rfl,rfl,rfl,by decide +kernel,rfl,by decide +kernel,by decide +kernel⟩
def fN (self:List D->Option (D × En)):ME:=(al self (ad (ae 1) (ad (ae 0) (ad (e2 e9 (ae 2) (eC (.int 1))) ag))))
def cu (self:List D->Option (D × En)):MS:=(ak (sIf (bOr (tV (e2 eqD (ae 2) (eC (.int 0)))) (bOr (cr (tV (e1 (ay "tuple") (ae 1)))) (bOr (tV (e2 eqD (eN aQ (ad (ae 1) ag)) (eC (.int 0)))) (cr (tV (e1 (ay "str") (e2 ixA (ae 1) (eC (.int 0))))))))) (aq (eC (.bool false))) aG)
 (ak (aB 3 (al ap (ad (e2 ixA (ae 1) (eC (.int 0))) ag)))
 (ak (sIf (tV (e2 eqD (ae 3) (eC (.int 0)))) (aq (al bC (ad (ae 0) (ad (ae 1) ag)))) aG)
 (aq (cV (e2 eqD (eN aQ (ad (ae 1) ag)) (e2 bw (ae 3) (eC (.int 1)))) (eN gO (ad (eLC true (dQ (eSl nQ (ae 1) (eV (eC (.int 1))) fB)) (gN 0) cY (fN self) [none,some 0,some 2]) ag)))))))
def bI:Nat->List D->Option (D × En)
 | 0=>fun _=>none
 | j+1=>fnF 1 [0,0,0] (cu (bI j))
def dB {k:Nat} (T:Bl mg)  {self:List D->Option (D × En)} (cH:Kn P w K mg base k "how_many_parts" ["head"] (spF K [0] 3 ap)) (uv:Kn P w K mg base k "is_simple" ["tongue", "thing"] (spF K [0,0] 3 bC)) (kr:Kn P w K mg base k "is_formed" ["tongue", "thing", "deep"] (spF K [0,0,0] 3 self)) (F:Fun K "is_formed" "is_formed" ib f fd):FnOk P w K mg base CX0 (k+1) f fd ["tongue", "thing", "deep"] (spF K [0,0,0] 3 (fnF 1 [0,0,0] (cu self))):=by
 have nd:=scis_formed.nd;refine F.okQ (N:=km) (b:=cu self) (J:=⟨[],[0,0,0,0],3,[]⟩) (ds0:=[0,0,0,0]) scis_formed rfl rfl rfl rfl fun cdv A outer s H E hr=>?_;exact (af (ao (ds2:=[0,0,0,0]) (qpt (bg (fte rfl hr.units (fvc 2 rfl rfl) ah) (bg (aX (aT (bA (K:=K) (n:="tuple") rfl rfl T.isinstance0 rfl T.tuple0 (by decide +kernel) (by decide) (fv 1 rfl rfl) (by decide) rfl rfl rfl rfl) (fun _=>rfl))) (bg (fte rfl hr.units (fln rfl T.len0 (aa (fv 1 rfl rfl) ac rfl) rfl rfl) ah) (bz (aX (aT (bA (K:=K) (n:="str") rfl rfl T.isinstance0 rfl T.str0 (by decide +kernel) (by decide) (fxi rfl (fv 1 rfl rfl)) (by decide) rfl rfl rfl rfl) (fun _=>rfl)))))))) (frt b8 rfl) am) (af (bo 3 [0,0,0,0] nd (fs0 (fnn cH hr (aa (fxi rfl (fv 1 rfl rfl)) ac rfl) rfl rfl)) rfl rfl rfl) (af (ao (ds2:=[0,0,0,0]) (fte rfl hr.units (fv 3 rfl rfl) ah) (frt (fnn uv hr (aa (fvc 0 rfl rfl) (aa (fv 1 rfl rfl) ac rfl) rfl) rfl rfl) rfl) am) (frt (bM (bL (gn (K:=K) rfl hr.units) (fln rfl T.len0 (aa (fv 1 rfl rfl) ac rfl) rfl rfl) (ar bX (fv 3 rfl rfl) ah) (bq _)) (bK (fcb (iE (K:=K) rfl rfl) T.all0 (by decide +kernel) (aa (fs0 (cU (cd:=3) (d:=3) (dsi:=[0,0,0]) (lk:=[1,2]) (BlkOkC.of (ns:=["part", "tongue", "deep"]) (js:=[none,some 0,some 2]) (N0:=km) (sc0:=aj ib) rfl rfl (by decide +kernel)) rfl (b7 (K:=K) rfl (cF (oU (K:=K) rfl) (fv 1 rfl rfl) (df ah) dg)) (fun _ _ _ _ _=>(aP (i:=0) (ds':=[0,0,0]) (show (["part", "tongue", "deep"]:List Str).Nodup by decide +kernel) rfl (.inl rfl) rfl (by decide) (by decide) (.inr rfl))) (fun _ _ _ _ _=>bv) (fun _ _ _ _ _=>(fnn kr hr (aa (fvc 1 rfl rfl) (aa (fv 0 rfl rfl) (aa (fs0 (ar eP (fvc 2 rfl rfl) ah)) ac rfl) rfl) rfl) rfl rfl)) rfl rfl (by decide) rfl (fun _=>rfl))) ac rfl) rfl rfl))) rfl))))
abbrev eZ:Stmt:=top 31
abbrev gU:List Str:=["sentence"]
def scsentences_in:FnScope gU ["sentence"] (aj eZ):=⟨rfl,rfl,rfl,by decide +kernel,rfl,by decide +kernel,by decide +kernel⟩
def dM (self:List D->Option (D × En)):ME:=(al self (ad (ae 0) ag))
def bV (self:List D->Option (D × En)):MS:=(ak (sIf (tV (e2 eqD (al ap (ad (e2 ixA (ae 0) (eC (.int 0))) ag)) (eC (.int 0)))) (aq (eC (.int 1))) aG)
 (aq (e2 bw (eC (.int 1)) (eN qo (ad (eLC true (dQ (eSl nQ (ae 0) (eV (eC (.int 1))) fB)) (gN 0) cY (dM self) [none]) ag)))))
def bj:Nat->List D->Option (D × En)
 | 0=>fun _=>none
 | j+1=>fnF 0 [0] (bV (bj j))
def cz {k:Nat} (T:Bl mg)  {self:List D->Option (D × En)} (cH:Kn P w K mg base k "how_many_parts" ["head"] (spF K [0] 3 ap)) (gW:Kn P w K mg base k "sentences_in" ["sentence"] (spF K [0] 3 self)) (F:Fun K "sentences_in" "sentences_in" eZ f fd):FnOk P w K mg base CX0 (k+1) f fd ["sentence"] (spF K [0] 3 (fnF 0 [0] (bV self))):=by
 have nd:=scsentences_in.nd;refine F.okQ (N:=gU) (b:=bV self) (J:=⟨[],[0],3,[]⟩) (ds0:=[0]) scsentences_in rfl rfl rfl rfl fun cdv A outer s H E hr=>?_;exact (af (ao (ds2:=[0]) (fte rfl hr.units (fnn cH hr (aa (fxi rfl (fv 0 rfl rfl)) ac rfl) rfl rfl) ah) (frt ah rfl) am) (frt (ar bX ah (fcb (Ie (K:=K) rfl rfl) T.sum0 (by decide +kernel) (aa (fs0 (cU (cd:=3) (d:=3) (dsi:=[0]) (lk:=[]) (BlkOkC.of (ns:=["part"]) (js:=[none]) (N0:=gU) (sc0:=aj eZ) rfl rfl (by decide +kernel)) rfl (b7 (K:=K) rfl (cF (oU (K:=K) rfl) (fv 0 rfl rfl) (df ah) dg)) (fun _ _ _ _ _=>(aP (i:=0) (ds':=[0]) (show (["part"]:List Str).Nodup by decide +kernel) rfl (.inl rfl) rfl (by decide) (by decide) (.inr rfl))) (fun _ _ _ _ _=>bv) (fun _ _ _ _ _=>(fnn gW hr (aa (fv 0 rfl rfl) ac rfl) rfl rfl)) rfl rfl (by decide) rfl (fun _=>rfl))) ac rfl) rfl rfl)) rfl))
abbrev iJ:Stmt:=top 28
abbrev lw:List Str:=["tongue", "thing"]
def scis_sentence:FnScope lw ["tongue", "thing"] (aj iJ):=⟨rfl,rfl,rfl,by decide +kernel,rfl,by decide +kernel,by decide +kernel⟩
def iR:MS:=(aq (cV (al (bI 6) (ad (ae 0) (ad (ae 1) (ad (eC (.int 4)) ag)))) (e2 leI (al (bj 6) (ad (ae 1) ag)) (eC (.int 9)))))
def da:List D->Option (D × En):=fnF 0 [0,0] iR
def pU {k:Nat} (T:Bl mg) {iu:Tok} (jh:mg "MOST_DEEP"=some (.int 4 iu)) {iq:Tok} (iW:mg "MOST_SENTENCES_IN_ONE"=some (.int 9 iq)) (kr:Kn P w K mg base k "is_formed" ["tongue", "thing", "deep"] (spF K [0,0,0] 3 (bI 6))) (gW:Kn P w K mg base k "sentences_in" ["sentence"] (spF K [0] 3 (bj 6))) (F:Fun K "is_sentence" "is_sentence" iJ f fd):FnOk P w K mg base CX0 (k+1) f fd ["tongue", "thing"] (spF K [0,0] 3 da):=by
 have nd:=scis_sentence.nd;refine F.okQ (N:=lw) (b:=iR) (J:=⟨[],[0,0],3,[]⟩) (ds0:=[0,0]) scis_sentence rfl rfl rfl rfl fun cdv A outer s H E hr=>?_;exact (frt (bM (fnn kr hr (aa (fv 0 rfl rfl) (aa (fv 1 rfl rfl) (aa (fs0 (aW rfl jh rfl)) ac rfl) rfl) rfl) rfl rfl) (bK (bL cN (fnn gW hr (aa (fv 1 rfl rfl) ac rfl) rfl rfl) (aW rfl iW rfl) (bq _)))) rfl)
abbrev ke:Stmt:=top 38
abbrev mS:List Str:=["thing"]
def scis_rule:FnScope mS ["thing"] (aj ke):=⟨rfl,rfl,rfl,by decide +kernel,rfl,by decide +kernel,by decide +kernel⟩
def oi:ME:=(al da (ad (e2 ixA (ae 1) (eC (.int 0))) (ad (ae 0) ag)))
def mZ:MS:=(ak (sIf (bOr (cr (tV (e1 (ay "tuple") (ae 0)))) (bOr (tV (e2 neD (eN aQ (ad (ae 0) ag)) (eC (.int 2)))) (cr (tV (al eE (ad (e2 ixA (ae 0) (eC (.int 0))) ag)))))) (aq (eC (.bool false))) aG)
 (ak (sIf (bOr (cr (tV (e1 (ay "tuple") (e2 ixA (ae 0) (eC (.int 1)))))) (tV (e2 gtI (eN aQ (ad (e2 ixA (ae 0) (eC (.int 1))) ag)) (eC (.int 8))))) (aq (eC (.bool false))) aG)
 (aq (eN gO (ad (eLC true (dQ (e2 ixA (ae 0) (eC (.int 1)))) (gN 0) cY oi [none,some 0]) ag)))))
def gi:List D->Option (D × En):=fnF 0 [0] mZ
def uU {k:Nat} (T:Bl mg) {lT:Tok} (mJ:mg "MOST_SENTENCES"=some (.int 8 lT)) (uu:Kn P w K mg base k "is_tongue" ["thing"] (spF K [0] 3 eE)) (rG:Kn P w K mg base k "is_sentence" ["tongue", "thing"] (spF K [0,0] 3 da)) (F:Fun K "is_rule" "is_rule" ke f fd):FnOk P w K mg base CX0 (k+1) f fd ["thing"] (spF K [0] 3 gi):=by
 have nd:=scis_rule.nd;refine F.okQ (N:=mS) (b:=mZ) (J:=⟨[],[0],3,[]⟩) (ds0:=[0]) scis_rule rfl rfl rfl rfl fun cdv A outer s H E hr=>?_;exact (af (ao (ds2:=[0]) (qpt (bg (aX (aT (bA (K:=K) (n:="tuple") rfl rfl T.isinstance0 rfl T.tuple0 (by decide +kernel) (by decide) (fvc 0 rfl rfl) (by decide) rfl rfl rfl rfl) (fun _=>rfl))) (bg (ftn rfl hr.units (fln rfl T.len0 (aa (fvc 0 rfl rfl) ac rfl) rfl rfl) ah) (bz (aX (aT (fnn uu hr (aa (fxi rfl (fvc 0 rfl rfl)) ac rfl) rfl rfl) (fun _=>rfl))))))) (frt b8 rfl) am) (af (ao (ds2:=[0]) (qpt (bg (aX (aT (bA (K:=K) (n:="tuple") rfl rfl T.isinstance0 rfl T.tuple0 (by decide +kernel) (by decide) (fxi rfl (fvc 0 rfl rfl)) (by decide) rfl rfl rfl rfl) (fun _=>rfl))) (bz (bU nK (fln rfl T.len0 (aa (fxi rfl (fvc 0 rfl rfl)) ac rfl) rfl rfl) (aW rfl mJ rfl) (bq _))))) (frt b8 rfl) am) (frt (fcb (iE (K:=K) rfl rfl) T.all0 (by decide +kernel) (aa (fs0 (cU (cd:=3) (d:=3) (dsi:=[0,0]) (lk:=[1]) (BlkOkC.of (ns:=["sentence", "thing"]) (js:=[none,some 0]) (N0:=mS) (sc0:=aj ke) rfl rfl (by decide +kernel)) rfl (b7 (K:=K) rfl (fxi rfl (fvc 0 rfl rfl))) (fun _ _ _ _ _=>(aP (i:=0) (ds':=[0,0]) (show (["sentence", "thing"]:List Str).Nodup by decide +kernel) rfl (.inl rfl) rfl (by decide) (by decide) (.inr rfl))) (fun _ _ _ _ _=>bv) (fun _ _ _ _ _=>(fnn rG hr (aa (fxi rfl (fvc 1 rfl rfl)) (aa (fv 0 rfl rfl) ac rfl) rfl) rfl rfl)) rfl rfl (by decide) rfl (fun _=>rfl))) ac rfl) rfl rfl) rfl)))
abbrev jo:Stmt:=top 44
abbrev mh:List Str:=["field"]
def scshow_field:FnScope mh ["field"] (aj jo):=⟨rfl,rfl,rfl,by decide +kernel,rfl,by decide +kernel,by decide +kernel⟩
def bn (self:List D->Option (D × En)):MS:=(ak (sIf (tV (e2 isN (ae 0) (eC .none))) (aq (eC (.str "-"))) aG)
 (aq (eIf (tV (e1 (ay "tuple") (ae 0))) (al self (ad (ae 0) ag)) (eN nc (ad (ae 0) ag)))))
def aL (self:List D->Option (D × En)):List D->Option (D × En):=fnF 0 [0] (bn self)
def cR {k:Nat} (T:Bl mg)  {self:List D->Option (D × En)} (gh:Kn P w K mg base k "show_sentence" ["sentence"] (spF K [0] 3 self)) (F:Fun K "show_field" "show_field" jo f fd):FnOk P w K mg base CX0 (k+1) f fd ["field"] (spF K [0] 3 (fnF 0 [0] (bn self))):=by
 have nd:=scshow_field.nd;refine F.okQ (N:=mh) (b:=bn self) (J:=⟨[],[0],3,[]⟩) (ds0:=[0]) scshow_field rfl rfl rfl rfl fun cdv A outer s H E hr=>?_;exact (af (ao (ds2:=[0]) (bU nJ (fv 0 rfl rfl) fW (bq _)) (frt ai rfl) am) (frt (Ex (aT (bA (K:=K) (n:="tuple") rfl rfl T.isinstance0 rfl T.tuple0 (by decide +kernel) (by decide) (fv 0 rfl rfl) (by decide) rfl rfl rfl rfl) (fun _=>rfl)) (fnn gh hr (aa (fv 0 rfl rfl) ac rfl) rfl rfl) (fct sG T.str0 (by decide +kernel) (aa (fv 0 rfl rfl) ac rfl) rfl rfl)) rfl))
abbrev eA:Stmt:=top 43
abbrev ge:List Str:=["sentence"]
def scshow_sentence:FnScope ge ["sentence"] (aj eA):=⟨rfl,rfl,rfl,by decide +kernel,rfl,by decide +kernel,by decide +kernel⟩
def aR (self:List D->Option (D × En)):ME:=(al (aL self) (ad (ae 0) ag))
def aK (self:List D->Option (D × En)):MS:=(aq (eM joinD (eC (.str " ")) (ad (eLC true (dQ (ae 0)) (gN 0) cY (aR self) [none]) ag)))
def aC:Nat->List D->Option (D × En)
 | 0=>fun _=>none
 | j+1=>fnF 0 [0] (aK (aC j))
def ci {k:Nat} (T:Bl mg)  {self:List D->Option (D × En)} (r9:Kn P w K mg base k "show_field" ["field"] (spF K [0] 3 (aL self))) (F:Fun K "show_sentence" "show_sentence" eA f fd):FnOk P w K mg base CX0 (k+1) f fd ["sentence"] (spF K [0] 3 (fnF 0 [0] (aK self))):=by
 have nd:=scshow_sentence.nd;refine F.okQ (N:=ge) (b:=aK self) (J:=⟨[],[0],3,[]⟩) (ds0:=[0]) scshow_sentence rfl rfl rfl rfl fun cdv A outer s H E hr=>?_;exact (frt (bE (K:=K) rfl PySem.F.slot_str_join PySem.F.type_str_join (cA rfl) cB ai (aa (fs0 (cU (cd:=3) (d:=3) (dsi:=[0]) (lk:=[]) (BlkOkC.of (ns:=["field"]) (js:=[none]) (N0:=ge) (sc0:=aj eA) rfl rfl (by decide +kernel)) rfl (b7 (K:=K) rfl (fv 0 rfl rfl)) (fun _ _ _ _ _=>(aP (i:=0) (ds':=[0]) (show (["field"]:List Str).Nodup by decide +kernel) rfl (.inl rfl) rfl (by decide) (by decide) (.inr rfl))) (fun _ _ _ _ _=>bv) (fun _ _ _ _ _=>(fnn r9 hr (aa (fv 0 rfl rfl) ac rfl) rfl rfl)) rfl rfl (by decide) rfl (fun _=>rfl))) ac rfl) rfl rfl rfl rfl rfl rfl) rfl)
abbrev h8:Stmt:=top 42
abbrev ki:List Str:=["rule", "lines"]
def scshow_rule:FnScope ki ["rule"] (aj h8):=⟨rfl,rfl,rfl,by decide +kernel,rfl,by decide +kernel,by decide +kernel⟩
def lA:ME:=(al (aC 6) (ad (ae 0) ag))
def ku:MS:=(ak (aB 1 (bx (ad (eM joinD (eC (.str " ")) (ad (e2 ga (bx (ad (eC (.str "signs")) ag)) (eN gm (ad (e2 ixA (ae 0) (eC (.int 0))) ag))) ag)) ag)))
 (aq (eM joinD (eC (.str "\n")) (ad (e2 ga (ae 1) (eLC true (dQ (e2 ixA (ae 0) (eC (.int 1)))) (gN 0) cY lA [none])) ag))))
def eB:List D->Option (D × En):=fnF 1 [0] ku
def rN {k:Nat} (T:Bl mg)  (gh:Kn P w K mg base k "show_sentence" ["sentence"] (spF K [0] 3 (aC 6))) (F:Fun K "show_rule" "show_rule" h8 f fd):FnOk P w K mg base CX0 (k+1) f fd ["rule"] (spF K [0] 3 eB):=by
 have nd:=scshow_rule.nd;refine F.okQ (N:=ki) (b:=ku) (J:=⟨[],[0,0],3,[]⟩) (ds0:=[0,0]) scshow_rule rfl rfl rfl rfl fun cdv A outer s H E hr=>?_;exact (af (bo 1 [0,0] nd (fs0 (aM (d:=3) (c:=3) (aa (bE (K:=K) rfl PySem.F.slot_str_join PySem.F.type_str_join (cA rfl) cB ai (aa (fs0 (ar (dD (K:=K) rfl) (aM (d:=3) (c:=3) (aa ai ac rfl) rfl rfl (by decide)) (fct (jF (K:=K) rfl rfl) T.list0 (by decide +kernel) (aa (fxi rfl (fv 0 rfl rfl)) ac rfl) rfl rfl))) ac rfl) rfl rfl rfl rfl rfl rfl) ac rfl) rfl rfl (by decide))) rfl rfl rfl) (frt (bE (K:=K) rfl PySem.F.slot_str_join PySem.F.type_str_join (cA rfl) cB ai (aa (fs0 (ar (dD (K:=K) rfl) (fv 1 rfl rfl) (cU (cd:=3) (d:=3) (dsi:=[0]) (lk:=[]) (BlkOkC.of (ns:=["sentence"]) (js:=[none]) (N0:=ki) (sc0:=aj h8) rfl rfl (by decide +kernel)) rfl (b7 (K:=K) rfl (fxi rfl (fv 0 rfl rfl))) (fun _ _ _ _ _=>(aP (i:=0) (ds':=[0]) (show (["sentence"]:List Str).Nodup by decide +kernel) rfl (.inl rfl) rfl (by decide) (by decide) (.inr rfl))) (fun _ _ _ _ _=>bv) (fun _ _ _ _ _=>(fnn gh hr (aa (fv 0 rfl rfl) ac rfl) rfl rfl)) rfl rfl (by decide) rfl (fun _=>rfl)))) ac rfl) rfl rfl rfl rfl rfl rfl) rfl))
abbrev jm:Stmt:=top 49
abbrev mf:List Str:=["left"]
def scword_ahead:FnScope mf ["left"] (aj jm):=⟨rfl,rfl,rfl,by decide +kernel,rfl,by decide +kernel,by decide +kernel⟩
def jy:MS:=(ak (sIf (tV (e2 eqD (eN aQ (ad (ae 0) ag)) (eC (.int 0)))) dO aG)
 (aq (dR 0 (eC (.int 0)))))
def bG:List D->Option (D × En):=fnF 0 [1] jy
def qC {k:Nat} (T:Bl mg)   (F:Fun K "word_ahead" "word_ahead" jm f fd):FnOk P w K mg base CX0 (k+1) f fd ["left"] (spF K [1] 0 bG):=by
 have nd:=scword_ahead.nd;refine F.okQ (N:=mf) (b:=jy) (J:=⟨[0],[1],0,[]⟩) (ds0:=[1]) scword_ahead rfl rfl rfl rfl fun cdv A outer s H E hr=>?_;exact (af (ao (ds2:=[1]) (kZ (ds0:=[0]) (fte rfl hr.units (fln rfl T.len0 (aa (fv 0 rfl rfl) ac rfl) rfl rfl) ah) rfl) (bh cK) am) (frt (hV (K:=K) (i:=0) (d:=1) rfl rfl (.inl rfl) rfl ah (by decide) rfl rfl rfl rfl rfl rfl rfl rfl) rfl))
abbrev dL:Stmt:=top 52
abbrev fL:List Str:=["text"]
def scis_number_text:FnScope fL ["text"] (aj dL):=⟨rfl,rfl,rfl,by decide +kernel,rfl,by decide +kernel,by decide +kernel⟩
def hG:ME:=(e2 ub (ae 0) (eC (.str "0123456789")))
def fP:MS:=(ak (sIf (bOr (cr (tV (cG leI leI (eC (.int 1)) (eN aQ (ad (ae 0) ag)) (eC (.int 80))))) (cr (tV (eN gO (ad (eLC true (dQ (ae 0)) (gN 0) cY hG [none]) ag))))) (aq (eC (.bool false))) aG)
 (aq (eOr (e2 eqD (ae 0) (eC (.str "0"))) (la (eM lK (ae 0) (ad (eC (.str "0")) ag))))))
def cm:List D->Option (D × En):=fnF 0 [0] fP
def mF {k:Nat} (T:Bl mg) {m7:Tok} (oR:mg "MOST_FIGURES"=some (.int 80 m7)) {sX:Tok} (vi:mg "FIGURES"=some (.str "0123456789" sX))  (F:Fun K "is_number_text" "is_number_text" dL f fd):FnOk P w K mg base CX0 (k+1) f fd ["text"] (spF K [0] 3 cm):=by
 have nd:=scis_number_text.nd;refine F.okQ (N:=fL) (b:=fP) (J:=⟨[],[0],3,[]⟩) (ds0:=[0]) scis_number_text rfl rfl rfl rfl fun cdv A outer s H E hr=>?_;exact (af (ao (ds2:=[0]) (qpt (bg (aX (j6 cN cN ah (fln rfl T.len0 (aa (fv 0 rfl rfl) ac rfl) rfl rfl) (aW rfl oR rfl) (by with_unfolding_all rfl))) (bz (aX (aT (fcb (iE (K:=K) rfl rfl) T.all0 (by decide +kernel) (aa (fs0 (cU (cd:=3) (d:=3) (dsi:=[0]) (lk:=[]) (BlkOkC.of (ns:=["sign"]) (js:=[none]) (N0:=fL) (sc0:=aj dL) rfl rfl (by decide +kernel)) rfl (b7 (K:=K) rfl (fv 0 rfl rfl)) (fun _ _ _ _ _=>(aP (i:=0) (ds':=[0]) (show (["sign"]:List Str).Nodup by decide +kernel) rfl (.inl rfl) rfl (by decide) (by decide) (.inr rfl))) (fun _ _ _ _ _=>bv) (fun _ _ _ _ _=>(bL vp (fv 0 rfl rfl) (ud rfl vi rfl) (by with_unfolding_all rfl))) rfl rfl (by decide) rfl (fun _=>rfl))) ac rfl) rfl rfl) (fun _=>rfl)))))) (frt b8 rfl) am) (frt (sJ (bL (gn (K:=K) rfl hr.units) (fv 0 rfl rfl) ai (bq _)) (bK (mK (bE (K:=K) rfl PySem.F.slot_str_startswith PySem.F.type_str_startswith uY vt (fv 0 rfl rfl) (aa (fs0 ai) ac rfl) rfl rfl rfl rfl rfl rfl)))) rfl))
abbrev gQ:Stmt:=top 50
abbrev kC:List Str:=["left", "word"]
def scnumber_ahead:FnScope kC ["left"] (aj gQ):=⟨rfl,rfl,rfl,by decide +kernel,rfl,by decide +kernel,by decide +kernel⟩
def gZ:MS:=(ak (aB 1 (al bG (aD 0 ag)))
 (ak (sIf (cr (tV (al cm (ad (ae 1) ag)))) dO aG)
 (aq (eN ua (ad (ae 1) ag)))))
def bt:List D->Option (D × En):=fnF 1 [1] gZ
def oF {k:Nat} (T:Bl mg)  (dE:Kn P w K mg base k "word_ahead" ["left"] (spF K [1] 0 bG)) (n9:Kn P w K mg base k "is_number_text" ["text"] (spF K [0] 3 cm)) (F:Fun K "number_ahead" "number_ahead" gQ f fd):FnOk P w K mg base CX0 (k+1) f fd ["left"] (spF K [1] 3 bt):=by
 have nd:=scnumber_ahead.nd;refine F.okQ (N:=kC) (b:=gZ) (J:=⟨[0],[1,0],3,[]⟩) (ds0:=[1,0]) scnumber_ahead rfl rfl rfl rfl fun cdv A outer s H E hr=>?_;exact (af (bo 1 [1,0] nd (fns dE hr (fsl 0 ac rfl) rfl rfl) rfl rfl rfl) (af (ao (ds2:=[1,0]) (aX (aT (fnn n9 hr (aa (fv 1 rfl rfl) ac rfl) rfl rfl) (fun _=>rfl))) (bh cK) am) (frt (fct El T.int0 (by decide +kernel) (aa (fv 1 rfl rfl) ac rfl) rfl rfl) rfl)))
abbrev jp:Stmt:=top 51
abbrev mi:List Str:=["left"]
def schigh_ahead:FnScope mi ["left"] (aj jp):=⟨rfl,rfl,rfl,by decide +kernel,rfl,by decide +kernel,by decide +kernel⟩
def gw:MS:=(ak (sIf (tV (e2 eqD (eSl kb (ae 0) fB (eV (eC (.int 1)))) (bx (ad (eC (.str "-")) ag)))) (ak (iy (dR 0 (eC (.int 0))))
 (aq (eC .none))) aG)
 (aq (al bt (aD 0 ag))))
def cL:List D->Option (D × En):=fnF 0 [1] gw
def qD {k:Nat} (T:Bl mg)  (cD:Kn P w K mg base k "number_ahead" ["left"] (spF K [1] 3 bt)) (F:Fun K "high_ahead" "high_ahead" jp f fd):FnOk P w K mg base CX0 (k+1) f fd ["left"] (spF K [1] 3 cL):=by
 have nd:=schigh_ahead.nd;refine F.okQ (N:=mi) (b:=gw) (J:=⟨[0],[1],3,[]⟩) (ds0:=[1]) schigh_ahead rfl rfl rfl rfl fun cdv A outer s H E hr=>?_;exact (af (ao (ds2:=[1]) (kZ (ds0:=[0]) (fte rfl hr.units (cF (jG (K:=K) rfl) (fv 0 rfl rfl) dg (df ah)) (aM (d:=3) (c:=3) (aa ai ac rfl) rfl rfl (by decide))) rfl) (af (fw (hV (K:=K) (i:=0) (d:=1) rfl rfl (.inl rfl) rfl ah (by decide) rfl rfl rfl rfl rfl rfl rfl rfl) rfl) (frt fW rfl)) am) (frt (fns cD hr (fsl 0 ac rfl) rfl rfl) rfl))
abbrev gS:Stmt:=top 48
abbrev kF:List Str:=["head", "left"]
def scfields_ahead:FnScope kF ["head", "left"] (aj gS):=⟨rfl,rfl,rfl,by decide +kernel,rfl,by decide +kernel,by decide +kernel⟩
def bJ:MS:=(ak (sIf (tV (e2 eqD (ae 0) (eC (.str "long")))) (aq (bx (ad (al bt (aD 1 ag)) (ad (al cL (aD 1 ag)) ag)))) aG)
 (ak (sIf (tV (e2 eqD (ae 0) (eC (.str "least")))) (aq (bx (ad (al bt (aD 1 ag)) (ad (al bt (aD 1 ag)) ag)))) aG)
 (ak (sIf (tV (e2 eqD (ae 0) (eC (.str "often")))) (aq (bx (ad (al bG (aD 1 ag)) (ad (al bt (aD 1 ag)) ag)))) aG)
 (ak (sIf (bOr (tV (e2 eqD (ae 0) (eC (.str "without")))) (bOr (tV (e2 eqD (ae 0) (eC (.str "begins")))) (tV (e2 eqD (ae 0) (eC (.str "ends")))))) (aq (bx (ad (al bG (aD 1 ag)) ag))) aG)
 (ak (sIf (tV (e2 eqD (ae 0) (eC (.str "apart")))) (aq (bx ag)) aG)
 dO)))))
def bu:List D->Option (D × En):=fnF 0 [0,1] bJ
def oH {k:Nat} (T:Bl mg)  (cD:Kn P w K mg base k "number_ahead" ["left"] (spF K [1] 3 bt)) (sd:Kn P w K mg base k "high_ahead" ["left"] (spF K [1] 3 cL)) (dE:Kn P w K mg base k "word_ahead" ["left"] (spF K [1] 0 bG)) (F:Fun K "fields_ahead" "fields_ahead" gS f fd):FnOk P w K mg base CX0 (k+1) f fd ["head", "left"] (spF K [0,1] 1 bu):=by
 have nd:=scfields_ahead.nd;refine F.okQ (N:=kF) (b:=bJ) (J:=⟨[1],[0,1],1,[]⟩) (ds0:=[0,1]) scfields_ahead rfl rfl rfl rfl fun cdv A outer s H E hr=>?_;exact (af (ao (ds2:=[0,1]) (fte rfl hr.units (fv 0 rfl rfl) ai) (frt (dq (d':=1) (aM (d:=3) (c:=3) (aa (fns cD hr (fsl 1 ac rfl) rfl rfl) (aa (fns sd hr (fsl 1 ac rfl) rfl rfl) ac rfl) rfl) rfl rfl (by decide)) (by decide)) rfl) am) (af (ao (ds2:=[0,1]) (fte rfl hr.units (fv 0 rfl rfl) ai) (frt (dq (d':=1) (aM (d:=3) (c:=3) (aa (fns cD hr (fsl 1 ac rfl) rfl rfl) (aa (fns cD hr (fsl 1 ac rfl) rfl rfl) ac rfl) rfl) rfl rfl (by decide)) (by decide)) rfl) am) (af (ao (ds2:=[0,1]) (fte rfl hr.units (fv 0 rfl rfl) ai) (frt (aM (d:=1) (c:=0) (aa (fns dE hr (fsl 1 ac rfl) rfl rfl) (aa (fns cD hr (fsl 1 ac rfl) rfl rfl) ac rfl) rfl) rfl rfl (by decide)) rfl) am) (af (ao (ds2:=[0,1]) (qpt (bg (fte rfl hr.units (fv 0 rfl rfl) ai) (bg (fte rfl hr.units (fv 0 rfl rfl) ai) (bz (fte rfl hr.units (fv 0 rfl rfl) ai))))) (frt (aM (d:=1) (c:=0) (aa (fns dE hr (fsl 1 ac rfl) rfl rfl) ac rfl) rfl rfl (by decide)) rfl) am) (af (ao (ds2:=[0,1]) (fte rfl hr.units (fv 0 rfl rfl) ai) (frt (dq (d':=1) (aM (d:=3) (c:=3) ac rfl rfl (by decide)) (by decide)) rfl) am) (bh cK))))))
abbrev dJ:Stmt:=top 47
abbrev fK:List Str:=["left", "deep", "head", "many"]
def scsentence_ahead:FnScope fK ["left", "deep"] (aj dJ):=⟨rfl,rfl,rfl,by decide +kernel,rfl,by decide +kernel,by decide +kernel⟩
def cO (self:List D->Option (D × En)):ME:=(al self (aD 1 (ad (e2 e9 (ae 2) (eC (.int 1))) ag)))
def aI (self:List D->Option (D × En)):MS:=(ak (sIf (tV (e2 eqD (ae 1) (eC (.int 0)))) dO aG)
 (ak (aB 2 (al bG (aD 0 ag)))
 (ak (aB 3 (al ap (ad (ae 2) ag)))
 (ak (sIf (tV (e2 eqD (ae 3) (eC (.int 0)))) (aq (eN jP (ad (e2 ga (bx (ad (ae 2) ag)) (al bu (ad (ae 2) (aD 0 ag)))) ag))) aG)
 (aq (eN jP (ad (e2 ga (bx (ad (ae 2) ag)) (eLC false (fC (ad (ae 3) ag)) (gN 0) cY (cO self) [none,some 0,some 1])) ag)))))))
def aU:Nat->List D->Option (D × En)
 | 0=>fun _=>none
 | j+1=>fnF 2 [1,0] (aI (aU j))
def b5 {k:Nat} (T:Bl mg)  {self:List D->Option (D × En)} (dE:Kn P w K mg base k "word_ahead" ["left"] (spF K [1] 0 bG)) (cH:Kn P w K mg base k "how_many_parts" ["head"] (spF K [0] 3 ap)) (p5:Kn P w K mg base k "fields_ahead" ["head", "left"] (spF K [0,1] 1 bu)) (fM:Kn P w K mg base k "sentence_ahead" ["left", "deep"] (spF K [1,0] 0 self)) (F:Fun K "sentence_ahead" "sentence_ahead" dJ f fd):FnOk P w K mg base CX0 (k+1) f fd ["left", "deep"] (spF K [1,0] 0 (fnF 2 [1,0] (aI self))):=by
 have nd:=scsentence_ahead.nd;refine F.okQ (N:=fK) (b:=aI self) (J:=⟨[0],[1,0,0,0],0,[]⟩) (ds0:=[1,0,0,0]) scsentence_ahead rfl rfl rfl rfl fun cdv A outer s H E hr=>?_;exact (af (ao (ds2:=[1,0,0,0]) (fte rfl hr.units (fvc 1 rfl rfl) ah) (bh cK) am) (af (bo 2 [1,0,0,0] nd (fns dE hr (cT 0 ac rfl) rfl rfl) rfl rfl rfl) (af (bo 3 [1,0,0,0] nd (fs0 (fnn cH hr (aa (fv 2 rfl rfl) ac rfl) rfl rfl)) rfl rfl rfl) (af (ao (ds2:=[1,0,0,0]) (fte rfl hr.units (fv 3 rfl rfl) ah) (frt (fct (fV (K:=K) rfl) T.tuple0 (by decide +kernel) (aa (fs0 (ar (dD (K:=K) rfl) (aM (d:=1) (c:=0) (aa (fv 2 rfl rfl) ac rfl) rfl rfl (by decide)) (fns p5 hr (aa (fv 2 rfl rfl) (cT 0 ac rfl) rfl) rfl rfl))) ac rfl) rfl rfl) rfl) am) (frt (fct (fV (K:=K) rfl) T.tuple0 (by decide +kernel) (aa (fs0 (ar (dD (K:=K) rfl) (aM (d:=1) (c:=0) (aa (fv 2 rfl rfl) ac rfl) rfl rfl (by decide)) (mL (cd:=0) (d:=1) (dsi:=[0,1,0]) (lk:=[1,2]) (BlkOkC.of (ns:=["part", "left", "deep"]) (js:=[none,some 0,some 1]) (N0:=fK) (sc0:=aj dJ) rfl rfl (by decide +kernel)) rfl (gB rfl T.range0 (aa (fv 3 rfl rfl) ac rfl) rfl) (fun _ _ _ _ _=>(aP (i:=0) (ds':=[0,1,0]) (show (["part", "left", "deep"]:List Str).Nodup by decide +kernel) rfl (.inl rfl) rfl (by decide) (by decide) (.inr rfl))) (fun _ _ _ _ _=>bv) (fun _ _ _ _ _=>(fns fM hr (cT 1 (aa (fs0 (ar eP (fvc 2 rfl rfl) ah)) ac rfl) rfl) rfl rfl)) rfl rfl (by decide) rfl (fun _=>rfl)))) ac rfl) rfl rfl) rfl)))))
abbrev iI:Stmt:=top 46
abbrev lu:List Str:=["text", "left", "sentence"]
def scsentence_of:FnScope lu ["text"] (aj iI):=⟨rfl,rfl,rfl,by decide +kernel,rfl,by decide +kernel,by decide +kernel⟩
def iQ:MS:=(ak (aB 1 (e2 dA (ae 0) (eC (.str " "))))
 (ak (aB 2 (al (aU 6) (aD 1 (ad (eC (.int 4)) ag))))
 (ak (sIf (tV (e2 gtI (eN aQ (ad (ae 1) ag)) (eC (.int 0)))) dO aG)
 (aq (ae 2)))))
def c9:List D->Option (D × En):=fnF 2 [0] iQ
def pT {k:Nat} (T:Bl mg) {iu:Tok} (jh:mg "MOST_DEEP"=some (.int 4 iu)) (fM:Kn P w K mg base k "sentence_ahead" ["left", "deep"] (spF K [1,0] 0 (aU 6))) (F:Fun K "sentence_of" "sentence_of" iI f fd):FnOk P w K mg base CX0 (k+1) f fd ["text"] (spF K [0] 0 c9):=by
 have nd:=scsentence_of.nd;refine F.okQ (N:=lu) (b:=iQ) (J:=⟨[],[0,0,0],0,[]⟩) (ds0:=[0,0,0]) scsentence_of rfl rfl rfl rfl fun cdv A outer s H E hr=>?_;exact (af (bo 1 [0,1,0] nd (dq (d':=1) (hU (K:=K) rfl (fv 0 rfl rfl) ai rfl rfl rfl rfl rfl) (by decide)) rfl rfl rfl) (af (bo 2 [0,1,0] nd (fns fM hr (fsl 1 (aa (fs0 (aW rfl jh rfl)) ac rfl) rfl) rfl rfl) rfl rfl rfl) (af (ao (ds2:=[0,1,0]) (kZ (ds0:=[0,0,0]) (bU nK (fln rfl T.len0 (aa (fv 1 rfl rfl) ac rfl) rfl rfl) ah (bq _)) rfl) (bh cK) am) (frt (fv 2 rfl rfl) rfl))))
abbrev h9:Stmt:=top 45
abbrev kj:List Str:=["text", "lines", "words", "rule"]
def scread_rule:FnScope kj ["text"] (aj h9):=⟨rfl,rfl,rfl,by decide +kernel,rfl,by decide +kernel,by decide +kernel⟩
def lB:ME:=(al c9 (ad (ae 0) ag))
def kw:MS:=(ak (sIf (cr (tV (e1 (ay "str") (ae 0)))) dO aG)
 (ak (aB 1 (e2 dA (ae 0) (eC (.str "\n"))))
 (ak (aB 2 (e2 dA (e2 ixA (ae 1) (eC (.int 0))) (eC (.str " "))))
 (ak (aB 3 (bR (ad (eN jP (ad (eSl kb (ae 2) (eV (eC (.int 1))) fB) ag)) (ad (eN jP (ad (eLC true (dQ (eSl kb (ae 1) (eV (eC (.int 1))) fB)) (gN 0) cY lB [none]) ag)) ag))))
 (ak (sIf (bOr (tV (e2 neD (e2 ixA (ae 2) (eC (.int 0))) (eC (.str "signs")))) (cr (tV (al gi (ad (ae 3) ag))))) dO aG)
 (aq (ae 3)))))))
def eD:List D->Option (D × En):=fnF 3 [0] kw
def rO {k:Nat} (T:Bl mg)  (xD:Kn P w K mg base k "is_rule" ["thing"] (spF K [0] 3 gi)) (rF:Kn P w K mg base k "sentence_of" ["text"] (spF K [0] 0 c9)) (F:Fun K "read_rule" "read_rule" h9 f fd):FnOk P w K mg base CX0 (k+1) f fd ["text"] (spF K [0] 0 eD):=by
 have nd:=scread_rule.nd;refine F.okQ (N:=kj) (b:=kw) (J:=⟨[],[0,0,0,0],0,[]⟩) (ds0:=[0,0,0,0]) scread_rule rfl rfl rfl rfl fun cdv A outer s H E hr=>?_;exact (af (ao (ds2:=[0,0,0,0]) (aX (aT (bA (K:=K) (n:="str") rfl rfl T.isinstance0 rfl T.str0 (by decide +kernel) (by decide) (fv 0 rfl rfl) (by decide) rfl rfl rfl rfl) (fun _=>rfl))) (bh cK) am) (af (bo 1 [0,0,0,0] nd (fs0 (hU (K:=K) rfl (fv 0 rfl rfl) ai rfl rfl rfl rfl rfl)) rfl rfl rfl) (af (bo 2 [0,0,0,0] nd (fs0 (hU (K:=K) rfl (fxi rfl (fv 1 rfl rfl)) ai rfl rfl rfl rfl rfl)) rfl rfl rfl) (af (bo 3 [0,0,0,0] nd (aS (d:=0) (c:=0) (aa (fct (fV (K:=K) rfl) T.tuple0 (by decide +kernel) (aa (fs0 (cF (jG (K:=K) rfl) (fv 2 rfl rfl) (df ah) dg)) ac rfl) rfl rfl) (aa (fct (fV (K:=K) rfl) T.tuple0 (by decide +kernel) (aa (fs0 (cU (cd:=0) (d:=1) (dsi:=[0]) (lk:=[]) (BlkOkC.of (ns:=["line"]) (js:=[none]) (N0:=kj) (sc0:=aj h9) rfl rfl (by decide +kernel)) rfl (b7 (K:=K) rfl (fs0 (cF (jG (K:=K) rfl) (fv 1 rfl rfl) (df ah) dg))) (fun _ _ _ _ _=>(aP (i:=0) (ds':=[0]) (show (["line"]:List Str).Nodup by decide +kernel) rfl (.inl rfl) rfl (by decide) (by decide) (.inr rfl))) (fun _ _ _ _ _=>bv) (fun _ _ _ _ _=>(fnn rF hr (aa (fv 0 rfl rfl) ac rfl) rfl rfl)) rfl rfl (by decide) rfl (fun _=>rfl))) ac rfl) rfl rfl) ac rfl) rfl) rfl rfl) rfl rfl rfl) (af (ao (ds2:=[0,0,0,0]) (qpt (bg (ftn rfl hr.units (fxi rfl (fv 2 rfl rfl)) ai) (bz (aX (aT (fnn xD hr (aa (fv 3 rfl rfl) ac rfl) rfl rfl) (fun _=>rfl)))))) (bh cK) am) (frt (fv 3 rfl rfl) rfl))))))
abbrev lr:Stmt:=top 54
abbrev pN:List Str:=["_law_script", "_law_first"]
def sc_law_pen:FnScope pN ["_law_script", "_law_first"] (aj lr):=⟨rfl,rfl,rfl,by decide +kernel,rfl,by decide +kernel,by decide +kernel⟩
def di:MS:=(aq (lR [((eC (.str "script")),(ae 0)),((eC (.str "at")),(ae 1)),((eC (.str "left")),(eC (.int 0)))]))
def F_law_pen:List D->Option (D × En):=fnF 0 [0,0] di
def tJ {k:Nat} (T:Bl mg)   (F:Fun K "_law_pen" "_law_pen" lr f fd):FnOk P w K mg base CX0 (k+1) f fd ["_law_script", "_law_first"] (spF K [0,0] 1 F_law_pen):=by
 have nd:=sc_law_pen.nd;refine F.okQ (N:=pN) (b:=di) (J:=⟨[],[0,0],1,[]⟩) (ds0:=[0,0]) sc_law_pen rfl rfl rfl rfl fun cdv A outer s H E hr=>?_;exact (frt (vz (fs:=[((eC (.str "script")),(ae 0)),((eC (.str "at")),(ae 1)),((eC (.str "left")),(eC (.int 0)))]) (k5 ai (fv 0 rfl rfl) (k5 ai (fv 1 rfl rfl) (k5 ai (fs0 ah) w8))) rfl rfl (fun z=>nomatch z) (by decide)) rfl)
abbrev ju:Stmt:=top 55
abbrev mq:List Str:=["_law_cell", "_law_k", "_law_one", "_law_two"]
def sc_law_mixed:FnScope mq ["_law_cell", "_law_k"] (aj ju):=⟨rfl,rfl,rfl,by decide +kernel,rfl,by decide +kernel,by decide +kernel⟩
def eS:MS:=(ak (aB 2 (e2 bF (e2 b6 (e2 bw (e2 bw (e2 bF (ae 0) (eC (.int 2147483629))) (e2 b6 (eC (.int 40503)) (ae 1))) (eC (.int 24691))) (eC (.int 48271))) (eC (.int 2147483647))))
 (ak (aB 3 (e2 bF (e2 bw (e2 bw (e2 b6 (ae 2) (ae 2)) (e2 b6 (eC (.int 69621)) (ae 2))) (ae 1)) (eC (.int 2147483629))))
 (aq (e2 dt (e2 bF (e2 bw (e2 bw (e2 b6 (ae 3) (ae 3)) (e2 b6 (eC (.int 16807)) (ae 3))) (e2 b6 (eC (.int 31)) (ae 1))) (eC (.int 1073741789))) (eC (.int 64))))))
def cx:List D->Option (D × En):=fnF 2 [0,0] eS
def qH {k:Nat} (T:Bl mg)   (F:Fun K "_law_mixed" "_law_mixed" ju f fd):FnOk P w K mg base CX0 (k+1) f fd ["_law_cell", "_law_k"] (spF K [0,0] 3 cx):=by
 have nd:=sc_law_mixed.nd;refine F.okQ (N:=mq) (b:=eS) (J:=⟨[],[0,0,0,0],3,[]⟩) (ds0:=[0,0,0,0]) sc_law_mixed rfl rfl rfl rfl fun cdv A outer s H E hr=>?_;exact (af (bo 2 [0,0,0,0] nd (fs0 (ar iD (ar gz (ar bX (ar bX (ar iD (fv 0 rfl rfl) ah) (ar gz ah (fv 1 rfl rfl))) ah) ah) ah)) rfl rfl rfl) (af (bo 3 [0,0,0,0] nd (fs0 (ar iD (ar bX (ar bX (ar gz (fv 2 rfl rfl) (fv 2 rfl rfl)) (ar gz ah (fv 2 rfl rfl))) (fv 1 rfl rfl)) ah)) rfl rfl rfl) (frt (ar sI (ar iD (ar bX (ar bX (ar gz (fv 3 rfl rfl) (fv 3 rfl rfl)) (ar gz ah (fv 3 rfl rfl))) (ar gz ah (fv 1 rfl rfl))) ah) ah) rfl)))
abbrev kh:Stmt:=top 56
abbrev n6:List Str:=["_law_pen_here", "_law_most", "_law_k", "_law_script", "_law_cell", "_law_got"]
def sc_law_take:FnScope n6 ["_law_pen_here", "_law_most"] (aj kh):=⟨rfl,rfl,rfl,by decide +kernel,rfl,by decide +kernel,by decide +kernel⟩
def ig:MS:=(ak (aB 2 (bY 0 (eC (.str "at"))))
 (ak (aB 3 (bY 0 (eC (.str "script"))))
 (ak (sIf (tV (e2 eqD (bY 0 (eC (.str "left"))) (eC (.int 0)))) (ak (dH 0 (eC (.str "at")) (e2 bw (ae 2) (eC (.int 1))))
 (ak (aB 4 (eC (.int 0)))
 (ak (sIf (tV (e2 gtI (eN aQ (ad (ae 3) ag)) (eC (.int 0)))) (aB 4 (e2 ixA (ae 3) (e2 bF (ae 2) (eN aQ (ad (ae 3) ag))))) aG)
 (ak (sIf (bOr (tV (e2 geI (ae 2) (eN aQ (ad (ae 3) ag)))) (tV (e2 ltI (eN jj (ad (ae 4) ag)) (e2 mx (eC (.int 10)) (eC (.int 18)))))) (aq (e2 bF (al cx (ad (ae 4) (ad (ae 2) ag))) (ae 1))) aG)
 (dH 0 (eC (.str "left")) (eN jj (ad (ae 4) ag))))))) aG)
 (ak (aB 5 (e2 bF (bY 0 (eC (.str "left"))) (ae 1)))
 (ak (dH 0 (eC (.str "left")) (e2 dt (bY 0 (eC (.str "left"))) (ae 1)))
 (aq (ae 5)))))))
def aw:List D->Option (D × En):=fnF 4 [1,0] ig
def rS {k:Nat} (T:Bl mg)  (sg:Kn P w K mg base k "_law_mixed" ["_law_cell", "_law_k"] (spF K [0,0] 3 cx)) (F:Fun K "_law_take" "_law_take" kh f fd):FnOk P w K mg base CX0 (k+1) f fd ["_law_pen_here", "_law_most"] (spF K [1,0] 0 aw):=by
 have nd:=sc_law_take.nd;refine F.okQ (N:=n6) (b:=ig) (J:=⟨[0],[1,0,0,0,0,0],0,[]⟩) (ds0:=[1,0,0,0,0,0]) sc_law_take rfl rfl rfl rfl fun cdv A outer s H E hr=>?_;exact (af (bo 2 [1,0,0,0,0,0] nd (fE (i:=0) (i3 hr) rfl (.inl rfl) rfl ai (fun _ _=>rfl) rfl rfl) rfl rfl rfl) (af (bo 3 [1,0,0,0,0,0] nd (fE (i:=0) (i3 hr) rfl (.inl rfl) rfl ai (fun _ _=>rfl) rfl rfl) rfl rfl rfl) (af (ao (ds2:=[1,0,0,0,0,0]) (fte rfl hr.units (fE (i:=0) (i3 hr) rfl (.inl rfl) rfl ai (fun _ _=>rfl) rfl rfl) ah) (af (j7 (i:=0) (i3 hr) rfl (.inl rfl) (fs0 (ar bX (fv 2 rfl rfl) ah)) ai rfl rfl rfl rfl) (af (bo 4 [1,0,0,0,0,0] nd (fs0 ah) rfl rfl rfl) (af (ao (ds2:=[1,0,0,0,0,0]) (bU nK (fln rfl T.len0 (aa (fv 3 rfl rfl) ac rfl) rfl rfl) ah (bq _)) (bh (bo 4 [1,0,0,0,0,0] nd (fX (lQ (K:=K) rfl) (fv 3 rfl rfl) (ar iD (fv 2 rfl rfl) (fln rfl T.len0 (aa (fv 3 rfl rfl) ac rfl) rfl rfl)) (fun _ _=>rfl)) rfl rfl rfl)) am) (af (ao (ds2:=[1,0,0,0,0,0]) (qpt (bg (bU JE (fv 2 rfl rfl) (fln rfl T.len0 (aa (fv 3 rfl rfl) ac rfl) rfl rfl) (bq _)) (bz (bU JD (fcb vq T.abs0 (by decide +kernel) (aa (fv 4 rfl rfl) ac rfl) rfl rfl) (ar Ig ah ah) (bq _))))) (frt (fs0 (ar iD (fnn sg hr (aa (fv 4 rfl rfl) (aa (fv 2 rfl rfl) ac rfl) rfl) rfl rfl) (fv 1 rfl rfl))) rfl) am) (bh (j7 (i:=0) (i3 hr) rfl (.inl rfl) (fs0 (fcb vq T.abs0 (by decide +kernel) (aa (fv 4 rfl rfl) ac rfl) rfl rfl)) ai rfl rfl rfl rfl)))))) am) (af (bo 5 [1,0,0,0,0,0] nd (fs0 (ar iD (fE (i:=0) (i3 hr) rfl (.inl rfl) rfl ai (fun _ _=>rfl) rfl rfl) (fv 1 rfl rfl))) rfl rfl rfl) (af (j7 (i:=0) (i3 hr) rfl (.inl rfl) (fs0 (ar sI (fE (i:=0) (i3 hr) rfl (.inl rfl) rfl ai (fun _ _=>rfl) rfl rfl) (fv 1 rfl rfl))) ai rfl rfl rfl rfl) (frt (fv 5 rfl rfl) rfl))))))
abbrev fJ:Stmt:=top 57
abbrev iM:List Str:=["_law_pen_here", "_law_many", "_law_signs", "_law_left", "_law_kinds", "_law_size"]
def sc_law_tongue:FnScope iM ["_law_pen_here", "_law_many"] (aj fJ):=⟨rfl,rfl,rfl,by decide +kernel,rfl,by decide +kernel,by decide +kernel⟩
def pd:ME:=(dR 2 (al aw (aD 1 (ad (eN aQ (ad (ae 2) ag)) ag))))
def gg:MS:=(ak (aB 5 (e2 bw (eC (.int 1)) (al aw (aD 0 (ad (eN qa (ad (eC (.int 6)) (ad (eN aQ (ad (ae 3) ag)) ag))) ag)))))
 (ak (aB 5 (eN tK (ad (ae 5) (ad (e2 e9 (eN aQ (ad (ae 3) ag)) (e2 b6 (eC (.int 6)) (e2 e9 (eC (.int 3)) (eN aQ (ad (ae 4) ag))))) ag))))
 (ak (iy (iH 4 (eM joinD (eC (.str "")) (ad (eSl kb (ae 3) fB (eV (ae 5))) ag))))
 (aB 3 (eSl kb (ae 3) (eV (ae 5)) fB)))))
def eo:MT:=(tV (e2 neD (ae 3) (bx ag)))
noncomputable def iS:MS:=(ak (aB 2 (eN gm (ad (eC (.str "!\"#$&'()*+,-./0123456789:;<=>?\x40[\\]^_`{|}~")) ag)))
 (ak (aB 2 (e2 ga (ae 2) (eN gm (ad (eC (.str "ABCDEFGHIJKLMNOPQRSTUVWXYZabcdefghijklmnopqrstuvwxyz")) ag))))
 (ak (aB 3 (eLC false (fC (ad (ae 1) ag)) (gN 0) cY pd [none,some 0,some 2]))
 (ak (aB 4 (bx ag))
 (ak (cQ eo gg)
 (aq (eN jP (ad (ae 4) ag))))))))
noncomputable def db:List D->Option (D × En):=fnF 4 [1,0] iS
def pV {k:Nat} (T:Bl mg)  (aF:Kn P w K mg base k "_law_take" ["_law_pen_here", "_law_most"] (spF K [1,0] 0 aw)) (F:Fun K "_law_tongue" "_law_tongue" fJ f fd):FnOk P w K mg base CX0 (k+1) f fd ["_law_pen_here", "_law_many"] (spF K [1,0] 0 db):=by
 have nd:=sc_law_tongue.nd;refine F.okQ (N:=iM) (b:=iS) (J:=⟨[0],[1,0,0,0,0,0],0,[]⟩) (ds0:=[1,0,0,0,0,0]) sc_law_tongue rfl rfl rfl rfl fun cdv A outer s H E hr=>?_;exact (af (ft (i:=2) (d:=0) (ds':=[1,0,0,0,0,0]) nd rfl (.inr rfl) (fs0 (fct (jF (K:=K) rfl rfl) T.list0 (by decide +kernel) (aa (fs0 ai) ac rfl) rfl rfl)) rfl (by decide) (by decide) rfl (.inl rfl)) (af (ft (i:=2) (d:=1) (ds':=[1,0,1,0,0,0]) nd rfl (.inr rfl) (ar (dD (K:=K) rfl) (fvc 2 rfl rfl) (fct (jF (K:=K) rfl rfl) T.list0 (by decide +kernel) (aa (fs0 ai) ac rfl) rfl rfl)) rfl (by decide) (by decide) rfl (.inl rfl)) (af (pD (ds1:=[1,0,1,0,0,0]) (l8 (i:=3) (ds':=[1,0,1,1,0,0]) (cd:=0) (d:=1) (dsi:=[0,1,1]) (lk:=[1,2]) nd rfl rfl (BlkOkC.of (ns:=["_law_k", "_law_pen_here", "_law_signs"]) (js:=[none,some 0,some 2]) (N0:=iM) (sc0:=aj fJ) rfl rfl (by decide +kernel)) rfl (gB rfl T.range0 (aa (fv 1 rfl rfl) ac rfl) rfl) (fun _ _ _ _ _=>(aP (i:=0) (ds':=[0,1,1]) (show (["_law_k", "_law_pen_here", "_law_signs"]:List Str).Nodup by decide +kernel) rfl (.inl rfl) rfl (by decide) (by decide) (.inr rfl))) (fun _ _ _ _ _=>bv) (fun _ _ _ _ _=>(hV (K:=K) (i:=2) (d:=1) rfl rfl (.inr (.inl rfl)) rfl (fns aF hr (cT 1 (aa (fs0 (j9 (ds0:=[0,1,0]) (fln rfl T.len0 (aa (fvc 2 rfl rfl) ac rfl) rfl rfl) rfl)) ac rfl) rfl) rfl rfl) (by decide) rfl rfl rfl rfl rfl rfl rfl rfl)) rfl rfl rfl (by decide) rfl (by decide) (by decide) rfl (fun _=>rfl)) rfl) (af (bo 4 [1,0,1,0,1,0] nd (dq (d':=1) (aM (d:=3) (c:=3) ac rfl rfl (by decide)) (by decide)) rfl rfl rfl) (af (rY (ds:=[1,0,1,0,1,0]) (ftn rfl hr.units (fv 3 rfl rfl) (aM (d:=3) (c:=3) ac rfl rfl (by decide))) (af (bo 5 [1,0,1,0,1,0] nd (fs0 (ar bX ah (fns aF hr (cT 0 (aa (fs0 (fcb (sH rfl) T.min0 (by decide +kernel) (aa (fs0 ah) (aa (fs0 (fln rfl T.len0 (aa (fv 3 rfl rfl) ac rfl) rfl rfl)) ac rfl) rfl) rfl rfl)) ac rfl) rfl) rfl rfl))) rfl rfl rfl) (af (bo 5 [1,0,1,0,1,0] nd (fs0 (j9 (ds0:=[1,0,1,0,0,0]) (fcb (Ek rfl) T.max0 (by decide +kernel) (aa (fv 5 rfl rfl) (aa (fs0 (ar eP (fln rfl T.len0 (aa (fv 3 rfl rfl) ac rfl) rfl rfl) (ar gz ah (ar eP ah (fln rfl T.len0 (aa (fv 4 rfl rfl) ac rfl) rfl rfl))))) ac rfl) rfl) rfl rfl) rfl)) rfl rfl rfl) (af (fw (iG (K:=K) (i:=4) (d:=1) rfl rfl (.inl rfl) rfl (fs0 (bE (K:=K) rfl PySem.F.slot_str_join PySem.F.type_str_join (cA rfl) cB ai (aa (fs0 (cF (jG (K:=K) rfl) (fv 3 rfl rfl) dg (df (fv 5 rfl rfl)))) ac rfl) rfl rfl rfl rfl rfl rfl)) (by decide) rfl rfl rfl rfl rfl rfl rfl rfl) rfl) (bh (bo 3 [1,0,1,0,1,0] nd (fs0 (cF (jG (K:=K) rfl) (fv 3 rfl rfl) (df (fv 5 rfl rfl)) dg)) rfl rfl rfl))))) PassesOwn.never) (frt (fct (fV (K:=K) rfl) T.tuple0 (by decide +kernel) (aa (sK (ds0:=[1,0,1,0,0,0]) (j8 (p:=false) (i:=4) rfl (.inl rfl) rfl rfl rfl) rfl) ac rfl) rfl rfl) rfl))))))
abbrev fh:Stmt:=top 58
abbrev iN:List Str:=["_law_pen_here", "_law_some"]
def sc_law_any_tongue:FnScope iN ["_law_pen_here"] (aj fh):=⟨rfl,rfl,rfl,by decide +kernel,rfl,by decide +kernel,by decide +kernel⟩
noncomputable def fm:MS:=(ak (aB 1 (bx (ad (bR (ad (eC (.str "-")) ag)) (ad (bR (ad (eC (.str "0")) (ad (eC (.str "1")) (ad (eC (.str "-")) ag)))) (ad (bR (ad (eC (.str "long")) (ad (eC (.str "-01")) ag))) (ad (bR (ad (eC (.str "ends")) (ad (eC (.str "012")) (ad (eC (.str "-")) ag)))) (ad (bR (ad (eC (.str "not")) (ad (eC (.str "hbi")) (ad (eC (.str "0-e")) (ad (eC (.str "|")) ag))))) (ad (bR (ad (eC (.str "1")) ag)) ag))))))))
 (ak (iy (iH 1 (bR (ad (eC (.str "apr")) (ad (eC (.str "t-0123")) (ad (eC (.str "'\"\\")) ag))))))
 (ak (sIf (tV (e2 eqD (al aw (aD 0 (ad (eC (.int 4)) ag))) (eC (.int 0)))) (aq (dG 1 (al aw (aD 0 (ad (eC (.int 7)) ag))))) aG)
 (aq (al db (aD 0 (ad (e2 ixA (bx (ad (eC (.int 2)) (ad (eC (.int 3)) (ad (eC (.int 4)) (ad (eC (.int 1)) (ad (eC (.int 6)) (ad (eC (.int 12)) (ad (eC (.int 5)) (ad (e2 bw (eC (.int 1)) (al aw (aD 0 (ad (eC (.int 12)) ag)))) ag))))))))) (al aw (aD 0 (ad (eC (.int 8)) ag)))) ag)))))))
noncomputable def cb:List D->Option (D × En):=fnF 1 [1] fm
def lY {k:Nat} (T:Bl mg)  (rH:Kn P w K mg base k "_law_tongue" ["_law_pen_here", "_law_many"] (spF K [1,0] 0 db)) (aF:Kn P w K mg base k "_law_take" ["_law_pen_here", "_law_most"] (spF K [1,0] 0 aw)) (F:Fun K "_law_any_tongue" "_law_any_tongue" fh f fd):FnOk P w K mg base CX0 (k+1) f fd ["_law_pen_here"] (spF K [1] 0 cb):=by
 have nd:=sc_law_any_tongue.nd;refine F.okQ (N:=iN) (b:=fm) (J:=⟨[0],[1,0],0,[]⟩) (ds0:=[1,0]) sc_law_any_tongue rfl rfl rfl rfl fun cdv A outer s H E hr=>?_;exact (af (bo 1 [1,1] nd (dq (d':=1) (aM (d:=3) (c:=3) (aa (aS (d:=3) (c:=3) (aa ai ac rfl) rfl rfl) (aa (aS (d:=3) (c:=3) (aa ai (aa ai (aa ai ac rfl) rfl) rfl) rfl rfl) (aa (aS (d:=3) (c:=3) (aa ai (aa ai ac rfl) rfl) rfl rfl) (aa (aS (d:=3) (c:=3) (aa ai (aa ai (aa ai ac rfl) rfl) rfl) rfl rfl) (aa (aS (d:=3) (c:=3) (aa ai (aa ai (aa ai (aa ai ac rfl) rfl) rfl) rfl) rfl rfl) (aa (aS (d:=3) (c:=3) (aa ai ac rfl) rfl rfl) ac rfl) rfl) rfl) rfl) rfl) rfl) rfl rfl (by decide)) (by decide)) rfl rfl rfl) (af (fw (iG (K:=K) (i:=1) (d:=1) rfl rfl (.inl rfl) rfl (fs0 (aS (d:=3) (c:=3) (aa ai (aa ai (aa ai ac rfl) rfl) rfl) rfl rfl)) (by decide) rfl rfl rfl rfl rfl rfl rfl rfl) rfl) (af (ao (ds2:=[1,1]) (fte rfl hr.units (fns aF hr (fsl 0 (aa (fs0 ah) ac rfl) rfl) rfl rfl) ah) (frt (iF (K:=K) (i:=1) rfl rfl (.inl rfl) rfl (fns aF hr (fsl 0 (aa (fs0 ah) ac rfl) rfl) rfl rfl) (fun _ _=>rfl) rfl rfl) rfl) am) (frt (fns rH hr (fsl 0 (aa (fX (lQ (K:=K) rfl) (aM (d:=3) (c:=3) (aa ah (aa ah (aa ah (aa ah (aa ah (aa ah (aa ah (aa (ar bX ah (fns aF hr (fsl 0 (aa (fs0 ah) ac rfl) rfl) rfl rfl)) ac rfl) rfl) rfl) rfl) rfl) rfl) rfl) rfl) rfl rfl (by decide)) (fns aF hr (fsl 0 (aa (fs0 ah) ac rfl) rfl) rfl rfl) (fun _ _=>rfl)) ac rfl) rfl) rfl rfl) rfl))))
abbrev gu:Stmt:=top 59
abbrev jw:List Str:=["_law_pen_here", "_law_letters", "_law_most"]
def sc_law_piece:FnScope jw ["_law_pen_here", "_law_letters", "_law_most"] (aj gu):=⟨rfl,rfl,rfl,by decide +kernel,rfl,by decide +kernel,by decide +kernel⟩
def kG:ME:=(e2 ixT (ae 2) (al aw (aD 1 (ad (eN aQ (ad (ae 2) ag)) ag))))
def jB:MS:=(aq (eM joinD (eC (.str "")) (ad (eLC false (fC (ad (e2 bw (eC (.int 1)) (al aw (aD 0 (ad (ae 2) ag)))) ag)) (gN 0) cY kG [none,some 0,some 1]) ag)))
def dF:List D->Option (D × En):=fnF 0 [1,0,0] jB
def qG {k:Nat} (T:Bl mg)  (aF:Kn P w K mg base k "_law_take" ["_law_pen_here", "_law_most"] (spF K [1,0] 0 aw)) (F:Fun K "_law_piece" "_law_piece" gu f fd):FnOk P w K mg base CX0 (k+1) f fd ["_law_pen_here", "_law_letters", "_law_most"] (spF K [1,0,0] 3 dF):=by
 have nd:=sc_law_piece.nd;refine F.okQ (N:=jw) (b:=jB) (J:=⟨[0],[1,0,0],3,[]⟩) (ds0:=[1,0,0]) sc_law_piece rfl rfl rfl rfl fun cdv A outer s H E hr=>?_;exact (frt (bE (K:=K) rfl PySem.F.slot_str_join PySem.F.type_str_join (cA rfl) cB ai (aa (fs0 (mL (cd:=3) (d:=3) (dsi:=[0,1,0]) (lk:=[1,2]) (BlkOkC.of (ns:=["_law_k", "_law_pen_here", "_law_letters"]) (js:=[none,some 0,some 1]) (N0:=jw) (sc0:=aj gu) rfl rfl (by decide +kernel)) rfl (gB rfl T.range0 (aa (fs0 (ar bX ah (fns aF hr (cT 0 (aa (fv 2 rfl rfl) ac rfl) rfl) rfl rfl))) ac rfl) rfl) (fun _ _ _ _ _=>(aP (i:=0) (ds':=[0,1,0]) (show (["_law_k", "_law_pen_here", "_law_letters"]:List Str).Nodup by decide +kernel) rfl (.inl rfl) rfl (by decide) (by decide) (.inr rfl))) (fun _ _ _ _ _=>bv) (fun _ _ _ _ _=>(fX Ij (fvc 2 rfl rfl) (fns aF hr (cT 1 (aa (fs0 (fln rfl T.len0 (aa (fvc 2 rfl rfl) ac rfl) rfl rfl)) ac rfl) rfl) rfl rfl) (fun _ _=>rfl))) rfl rfl (by decide) rfl (fun _=>rfl))) ac rfl) rfl rfl rfl rfl rfl rfl) rfl)
abbrev gt:Stmt:=top 60
abbrev jv:List Str:=["_law_pen_here", "_law_tongue_here", "_law_letters", "_law_way", "_law_low", "_law_left", "_law_signs"]
def sc_law_plain:FnScope jv ["_law_pen_here", "_law_tongue_here"] (aj gt):=⟨rfl,rfl,rfl,by decide +kernel,rfl,by decide +kernel,by decide +kernel⟩
def p6:ME:=(dR 2 (al aw (aD 1 (ad (eN aQ (ad (ae 2) ag)) ag))))
def jA:MS:=(ak (aB 2 (eM joinD (eC (.str "")) (ad (ae 1) ag)))
 (ak (aB 3 (al aw (aD 0 (ad (eC (.int 7)) ag))))
 (ak (sIf (tV (e2 eqD (ae 3) (eC (.int 0)))) (ak (aB 4 (al aw (aD 0 (ad (eC (.int 31)) ag))))
 (aq (bR (ad (eC (.str "long")) (ad (ae 4) (ad (e2 ixA (bx (ad (e2 bw (ae 4) (al aw (aD 0 (ad (e2 e9 (eC (.int 31)) (ae 4)) ag)))) (ad (eC .none) ag))) (eN qZ (ad (e2 eqD (al aw (aD 0 (ad (eC (.int 3)) ag))) (eC (.int 0))) ag))) ag)))))) aG)
 (ak (sIf (tV (e2 eqD (ae 3) (eC (.int 1)))) (aq (bR (ad (eC (.str "least")) (ad (al aw (aD 0 (ad (eN aQ (ad (ae 1) ag)) ag))) (ad (al aw (aD 0 (ad (eC (.int 10)) ag))) ag))))) aG)
 (ak (sIf (tV (e2 eqD (ae 3) (eC (.int 2)))) (ak (aB 5 (eN gm (ad (ae 2) ag)))
 (ak (aB 6 (eLC false (fC (ad (e2 bw (eC (.int 1)) (al aw (aD 0 (ad (eN qa (ad (eC (.int 4)) (ad (eN aQ (ad (ae 2) ag)) ag))) ag)))) ag)) (gN 0) cY p6 [none,some 0,some 5]))
 (aq (bR (ad (eC (.str "often")) (ad (eM joinD (eC (.str "")) (ad (ae 6) ag)) (ad (al aw (aD 0 (ad (eC (.int 4)) ag))) ag))))))) aG)
 (ak (sIf (tV (e2 eqD (ae 3) (eC (.int 3)))) (aq (bR (ad (eC (.str "apart")) ag))) aG)
 (aq (bR (ad (e2 ixA (bx (ad (eC (.str "without")) (ad (eC (.str "begins")) (ad (eC (.str "ends")) ag)))) (e2 e9 (ae 3) (eC (.int 4)))) (ad (al dF (aD 0 (ad (ae 2) (ad (eC (.int 6)) ag)))) ag))))))))))
def cM:List D->Option (D × En):=fnF 5 [1,0] jA
def qF {k:Nat} (T:Bl mg)  (aF:Kn P w K mg base k "_law_take" ["_law_pen_here", "_law_most"] (spF K [1,0] 0 aw)) (sf:Kn P w K mg base k "_law_piece" ["_law_pen_here", "_law_letters", "_law_most"] (spF K [1,0,0] 3 dF)) (F:Fun K "_law_plain" "_law_plain" gt f fd):FnOk P w K mg base CX0 (k+1) f fd ["_law_pen_here", "_law_tongue_here"] (spF K [1,0] 0 cM):=by
 have nd:=sc_law_plain.nd;refine F.okQ (N:=jv) (b:=jA) (J:=⟨[0],[1,0,0,0,0,0,0],0,[]⟩) (ds0:=[1,0,0,0,0,0,0]) sc_law_plain rfl rfl rfl rfl fun cdv A outer s H E hr=>?_;exact (af (bo 2 [1,0,0,0,0,0,0] nd (fs0 (bE (K:=K) rfl PySem.F.slot_str_join PySem.F.type_str_join (cA rfl) cB ai (aa (fv 1 rfl rfl) ac rfl) rfl rfl rfl rfl rfl rfl)) rfl rfl rfl) (af (bo 3 [1,0,0,0,0,0,0] nd (fns aF hr (cT 0 (aa (fs0 ah) ac rfl) rfl) rfl rfl) rfl rfl rfl) (af (ao (ds2:=[1,0,0,0,0,0,0]) (fte rfl hr.units (fv 3 rfl rfl) ah) (af (bo 4 [1,0,0,0,0,0,0] nd (fns aF hr (cT 0 (aa (fs0 ah) ac rfl) rfl) rfl rfl) rfl rfl rfl) (frt (aS (d:=0) (c:=0) (aa ai (aa (fv 4 rfl rfl) (aa (fX (lQ (K:=K) rfl) (aM (d:=3) (c:=3) (aa (ar bX (fv 4 rfl rfl) (fns aF hr (cT 0 (aa (fs0 (ar eP ah (fv 4 rfl rfl))) ac rfl) rfl) rfl rfl)) (aa fW ac rfl) rfl) rfl rfl (by decide)) (fct Ik T.int0 (by decide +kernel) (aa (fs0 (bL (gn (K:=K) rfl hr.units) (fns aF hr (cT 0 (aa (fs0 ah) ac rfl) rfl) rfl rfl) ah (bq _))) ac rfl) rfl rfl) (fun _ _=>rfl)) ac rfl) rfl) rfl) rfl rfl) rfl)) am) (af (ao (ds2:=[1,0,0,0,0,0,0]) (fte rfl hr.units (fv 3 rfl rfl) ah) (frt (aS (d:=0) (c:=0) (aa ai (aa (fns aF hr (cT 0 (aa (fs0 (fln rfl T.len0 (aa (fv 1 rfl rfl) ac rfl) rfl rfl)) ac rfl) rfl) rfl rfl) (aa (fns aF hr (cT 0 (aa (fs0 ah) ac rfl) rfl) rfl rfl) ac rfl) rfl) rfl) rfl rfl) rfl) am) (af (ao (ds2:=[1,0,0,0,0,0,0]) (fte rfl hr.units (fv 3 rfl rfl) ah) (af (ft (i:=5) (d:=1) (ds':=[1,0,0,0,0,1,0]) nd rfl (.inr rfl) (fct (jF (K:=K) rfl rfl) T.list0 (by decide +kernel) (aa (fv 2 rfl rfl) ac rfl) rfl rfl) rfl (by decide) (by decide) rfl (.inl rfl)) (af (pD (ds1:=[1,0,0,0,0,1,0]) (l8 (i:=6) (ds':=[1,0,0,0,0,1,1]) (cd:=0) (d:=1) (dsi:=[0,1,1]) (lk:=[1,2]) nd rfl rfl (BlkOkC.of (ns:=["_law_k", "_law_pen_here", "_law_left"]) (js:=[none,some 0,some 5]) (N0:=jv) (sc0:=aj gt) rfl rfl (by decide +kernel)) rfl (gB rfl T.range0 (aa (fs0 (ar bX ah (fns aF hr (cT 0 (aa (fs0 (fcb (sH rfl) T.min0 (by decide +kernel) (aa (fs0 ah) (aa (fs0 (fln rfl T.len0 (aa (fv 2 rfl rfl) ac rfl) rfl rfl)) ac rfl) rfl) rfl rfl)) ac rfl) rfl) rfl rfl))) ac rfl) rfl) (fun _ _ _ _ _=>(aP (i:=0) (ds':=[0,1,1]) (show (["_law_k", "_law_pen_here", "_law_left"]:List Str).Nodup by decide +kernel) rfl (.inl rfl) rfl (by decide) (by decide) (.inr rfl))) (fun _ _ _ _ _=>bv) (fun _ _ _ _ _=>(hV (K:=K) (i:=2) (d:=1) rfl rfl (.inr (.inl rfl)) rfl (fns aF hr (cT 1 (aa (fs0 (j9 (ds0:=[0,1,0]) (fln rfl T.len0 (aa (fvc 2 rfl rfl) ac rfl) rfl rfl) rfl)) ac rfl) rfl) rfl rfl) (by decide) rfl rfl rfl rfl rfl rfl rfl rfl)) rfl rfl rfl (by decide) rfl (by decide) (by decide) rfl (fun _=>rfl)) rfl) (frt (aS (d:=0) (c:=0) (aa ai (aa (bE (K:=K) rfl PySem.F.slot_str_join PySem.F.type_str_join (cA rfl) cB ai (aa (fv 6 rfl rfl) ac rfl) rfl rfl rfl rfl rfl rfl) (aa (fns aF hr (cT 0 (aa (fs0 ah) ac rfl) rfl) rfl rfl) ac rfl) rfl) rfl) rfl rfl) rfl))) am) (af (ao (ds2:=[1,0,0,0,0,0,0]) (fte rfl hr.units (fv 3 rfl rfl) ah) (frt (fs0 (aS (d:=3) (c:=3) (aa ai ac rfl) rfl rfl)) rfl) am) (frt (aS (d:=0) (c:=0) (aa (fX (lQ (K:=K) rfl) (aM (d:=3) (c:=3) (aa ai (aa ai (aa ai ac rfl) rfl) rfl) rfl rfl (by decide)) (ar eP (fv 3 rfl rfl) ah) (fun _ _=>rfl)) (aa (fns sf hr (cT 0 (aa (fv 2 rfl rfl) (aa (fs0 ah) ac rfl) rfl) rfl) rfl rfl) ac rfl) rfl) rfl rfl) rfl)))))))
abbrev gb:Stmt:=top 61
abbrev jL:List Str:=["_law_pen_here", "_law_tongue_here", "_law_deep", "_law_room", "_law_way", "_law_one"]
def sc_law_sentence:FnScope jL ["_law_pen_here", "_law_tongue_here", "_law_deep", "_law_room"] (aj gb):=⟨rfl,rfl,rfl,by decide +kernel,rfl,by decide +kernel,by decide +kernel⟩
def de (self:List D->Option (D × En)):MS:=(ak (aB 4 (al aw (aD 0 (ad (eC (.int 5)) ag))))
 (ak (sIf (bOr (tV (e2 eqD (ae 2) (eC (.int 4)))) (bOr (tV (e2 gtI (ae 4) (eC (.int 2)))) (tV (e2 eqD (dG 3 (eC (.int 0))) (eC (.int 0)))))) (aq (al cM (aD 0 (ad (ae 1) ag)))) aG)
 (ak (sIf (bOr (tV (e2 eqD (ae 4) (eC (.int 0)))) (tV (e2 eqD (dG 3 (eC (.int 0))) (eC (.int 1))))) (ak (gk 3 (eC (.int 0)) (e2 e9 (dG 3 (eC (.int 0))) (eC (.int 1))))
 (aq (bR (ad (eC (.str "not")) (ad (al self (aD 0 (ad (ae 1) (ad (e2 bw (ae 2) (eC (.int 1))) (aD 3 ag))))) ag))))) aG)
 (ak (gk 3 (eC (.int 0)) (e2 e9 (dG 3 (eC (.int 0))) (eC (.int 2))))
 (ak (aB 5 (al self (aD 0 (ad (ae 1) (ad (e2 bw (ae 2) (eC (.int 1))) (aD 3 ag))))))
 (aq (bR (ad (e2 ixA (bx (ad (eC (.str "both")) (ad (eC (.str "either")) ag))) (e2 e9 (ae 4) (eC (.int 1)))) (ad (ae 5) (ad (al self (aD 0 (ad (ae 1) (ad (e2 bw (ae 2) (eC (.int 1))) (aD 3 ag))))) ag))))))))))
def bc:Nat->List D->Option (D × En)
 | 0=>fun _=>none
 | j+1=>fnF 2 [1,0,0,1] (de (bc j))
def cj {k:Nat} (T:Bl mg)  {self:List D->Option (D × En)} (aF:Kn P w K mg base k "_law_take" ["_law_pen_here", "_law_most"] (spF K [1,0] 0 aw)) (cZ:Kn P w K mg base k "_law_sentence" ["_law_pen_here", "_law_tongue_here", "_law_deep", "_law_room"] (spF K [1,0,0,1] 0 self)) (se:Kn P w K mg base k "_law_plain" ["_law_pen_here", "_law_tongue_here"] (spF K [1,0] 0 cM)) (F:Fun K "_law_sentence" "_law_sentence" gb f fd):FnOk P w K mg base CX0 (k+1) f fd ["_law_pen_here", "_law_tongue_here", "_law_deep", "_law_room"] (spF K [1,0,0,1] 0 (fnF 2 [1,0,0,1] (de self))):=by
 have nd:=sc_law_sentence.nd;refine F.okQ (N:=jL) (b:=de self) (J:=⟨[0,3],[1,0,0,1,0,0],0,[]⟩) (ds0:=[1,0,0,1,0,0]) sc_law_sentence rfl rfl rfl rfl fun cdv A outer s H E hr=>?_;exact (af (bo 4 [1,0,0,1,0,0] nd (fns aF hr (fsl 0 (aa (fs0 ah) ac rfl) rfl) rfl rfl) rfl rfl rfl) (af (ao (ds2:=[1,0,0,1,0,0]) (qpt (bg (fte rfl hr.units (fv 2 rfl rfl) ah) (bg (bU nK (fv 4 rfl rfl) ah (bq _)) (bz (fte rfl hr.units (iF (K:=K) (i:=3) rfl rfl (.inl rfl) rfl ah (fun _ _=>rfl) rfl rfl) ah))))) (frt (fns se hr (fsl 0 (aa (fv 1 rfl rfl) ac rfl) rfl) rfl rfl) rfl) am) (af (ao (ds2:=[1,0,0,1,0,0]) (qpt (bg (fte rfl hr.units (fv 4 rfl rfl) ah) (bz (fte rfl hr.units (iF (K:=K) (i:=3) rfl rfl (.inl rfl) rfl ah (fun _ _=>rfl) rfl rfl) ah)))) (af (nI (i:=3) (d:=1) (c:=0) rfl (.inl rfl) (fs0 (ar eP (iF (K:=K) (i:=3) rfl rfl (.inl rfl) rfl ah (fun _ _=>rfl) rfl rfl) ah)) ah rfl (by decide) rfl rfl rfl (fun _=>rfl) rfl rfl rfl) (frt (aS (d:=0) (c:=0) (aa ai (aa (fns cZ hr (fsl 0 (aa (fv 1 rfl rfl) (aa (fs0 (ar bX (fv 2 rfl rfl) ah)) (fsl 3 ac rfl) rfl) rfl) rfl) rfl rfl) ac rfl) rfl) rfl rfl) rfl)) am) (af (nI (i:=3) (d:=1) (c:=0) rfl (.inl rfl) (fs0 (ar eP (iF (K:=K) (i:=3) rfl rfl (.inl rfl) rfl ah (fun _ _=>rfl) rfl rfl) ah)) ah rfl (by decide) rfl rfl rfl (fun _=>rfl) rfl rfl rfl) (af (bo 5 [1,0,0,1,0,0] nd (fns cZ hr (fsl 0 (aa (fv 1 rfl rfl) (aa (fs0 (ar bX (fv 2 rfl rfl) ah)) (fsl 3 ac rfl) rfl) rfl) rfl) rfl rfl) rfl rfl rfl) (frt (aS (d:=0) (c:=0) (aa (fX (lQ (K:=K) rfl) (aM (d:=3) (c:=3) (aa ai (aa ai ac rfl) rfl) rfl rfl (by decide)) (ar eP (fv 4 rfl rfl) ah) (fun _ _=>rfl)) (aa (fv 5 rfl rfl) (aa (fns cZ hr (fsl 0 (aa (fv 1 rfl rfl) (aa (fs0 (ar bX (fv 2 rfl rfl) ah)) (fsl 3 ac rfl) rfl) rfl) rfl) rfl rfl) ac rfl) rfl) rfl) rfl rfl) rfl))))))
abbrev ie:Stmt:=top 62
abbrev kq:List Str:=["_law_pen_here", "_law_most", "_law_tongue_here"]
def sc_law_rule:FnScope kq ["_law_pen_here", "_law_most"] (aj ie):=⟨rfl,rfl,rfl,by decide +kernel,rfl,by decide +kernel,by decide +kernel⟩
noncomputable def lE:ME:=(al (bc 6) (aD 1 (ad (ae 2) (ad (eC (.int 1)) (ad (bx (ad (eC (.int 8)) ag)) ag)))))
noncomputable def kz:MS:=(ak (aB 2 (al cb (aD 0 ag)))
 (aq (bR (ad (ae 2) (ad (eN jP (ad (eLC false (fC (ad (al aw (aD 0 (ad (e2 bw (ae 1) (eC (.int 1))) ag))) ag)) (gN 0) cY lE [none,some 0,some 2]) ag)) ag)))))
noncomputable def dw:List D->Option (D × En):=fnF 1 [1,0] kz
def rT {k:Nat} (T:Bl mg)  (mW:Kn P w K mg base k "_law_any_tongue" ["_law_pen_here"] (spF K [1] 0 cb)) (cZ:Kn P w K mg base k "_law_sentence" ["_law_pen_here", "_law_tongue_here", "_law_deep", "_law_room"] (spF K [1,0,0,1] 0 (bc 6))) (aF:Kn P w K mg base k "_law_take" ["_law_pen_here", "_law_most"] (spF K [1,0] 0 aw)) (F:Fun K "_law_rule" "_law_rule" ie f fd):FnOk P w K mg base CX0 (k+1) f fd ["_law_pen_here", "_law_most"] (spF K [1,0] 0 dw):=by
 have nd:=sc_law_rule.nd;refine F.okQ (N:=kq) (b:=kz) (J:=⟨[0],[1,0,0],0,[]⟩) (ds0:=[1,0,0]) sc_law_rule rfl rfl rfl rfl fun cdv A outer s H E hr=>?_;exact (af (ft (i:=2) (d:=0) (ds':=[1,0,0]) nd rfl (.inr rfl) (fns mW hr (cT 0 ac rfl) rfl rfl) rfl (by decide) (by decide) rfl (.inl rfl)) (frt (aS (d:=0) (c:=0) (aa (fvc 2 rfl rfl) (aa (fct (fV (K:=K) rfl) T.tuple0 (by decide +kernel) (aa (fs0 (mL (cd:=0) (d:=1) (dsi:=[0,1,0]) (lk:=[1,2]) (BlkOkC.of (ns:=["_law_k", "_law_pen_here", "_law_tongue_here"]) (js:=[none,some 0,some 2]) (N0:=kq) (sc0:=aj ie) rfl rfl (by decide +kernel)) rfl (gB rfl T.range0 (aa (fns aF hr (cT 0 (aa (fs0 (ar bX (fv 1 rfl rfl) ah)) ac rfl) rfl) rfl rfl) ac rfl) rfl) (fun _ _ _ _ _=>(aP (i:=0) (ds':=[0,1,0]) (show (["_law_k", "_law_pen_here", "_law_tongue_here"]:List Str).Nodup by decide +kernel) rfl (.inl rfl) rfl (by decide) (by decide) (.inr rfl))) (fun _ _ _ _ _=>bv) (fun _ _ _ _ _=>(fns cZ hr (cT 1 (aa (fvc 2 rfl rfl) (aa (fs0 ah) (aa (dq (d':=1) (aM (d:=3) (c:=3) (aa ah ac rfl) rfl rfl (by decide)) (by decide)) ac rfl) rfl) rfl) rfl) rfl rfl)) rfl rfl (by decide) rfl (fun _=>rfl))) ac rfl) rfl rfl) ac rfl) rfl) rfl rfl) rfl))
abbrev jr:Stmt:=top 63
abbrev mn:List Str:=["_law_sentence_here", "_law_words_here", "_law_part"]
def sc_law_words:FnScope mn ["_law_sentence_here"] (aj jr):=⟨rfl,rfl,rfl,by decide +kernel,rfl,by decide +kernel,by decide +kernel⟩
def bi (self:List D->Option (D × En)):MS:=(sIf (tV (e1 (ay "tuple") (ae 2))) (aB 1 (e2 ga (ae 1) (al self (ad (ae 2) ag)))) (sIf (tV (e2 isN (ae 2) (eC .none))) (iy (iH 1 (eC (.str "-")))) (iy (iH 1 (eN nc (ad (ae 2) ag))))))
def bf (self:List D->Option (D × En)):MS:=(ak (aB 1 (bx (ad (e2 ixA (ae 0) (eC (.int 0))) ag)))
 (ak (kO (dQ (eSl nQ (ae 0) (eV (eC (.int 1))) fB)) (gN 2) (bi self))
 (aq (eMv 1))))
def be:Nat->List D->Option (D × En)
 | 0=>fun _=>none
 | j+1=>fnF 2 [0] (bf (be j))
def cS {k:Nat} (T:Bl mg)  {self:List D->Option (D × En)} (eR:Kn P w K mg base k "_law_words" ["_law_sentence_here"] (spF K [0] 1 self)) (F:Fun K "_law_words" "_law_words" jr f fd):FnOk P w K mg base CX0 (k+1) f fd ["_law_sentence_here"] (spF K [0] 1 (fnF 2 [0] (bf self))):=by
 have nd:=sc_law_words.nd;refine F.okQ (N:=mn) (b:=bf self) (J:=⟨[],[0,0,0],1,[]⟩) (ds0:=[0,0,0]) sc_law_words rfl rfl rfl rfl fun cdv A outer s H E hr=>?_;exact (af (bo 1 [0,1,0] nd (aM (d:=1) (c:=0) (aa (fxi rfl (fv 0 rfl rfl)) ac rfl) rfl rfl (by decide)) rfl rfl rfl) (af (k4 (ds1:=[0,1,0]) rfl (b7 (K:=K) rfl (cF (oU (K:=K) rfl) (fv 0 rfl rfl) (df ah) dg)) (aP (i:=2) (ds':=[0,1,0]) nd rfl (.inl rfl) rfl (by decide) (by decide) (.inl rfl)) (bh (ao (ds2:=[0,1,0]) (aT (bA (K:=K) (n:="tuple") rfl rfl T.isinstance0 rfl T.tuple0 (by decide +kernel) (by decide) (fv 2 rfl rfl) (by decide) rfl rfl rfl rfl) (fun _=>rfl)) (bh (bo 1 [0,1,0] nd (ar (dD (K:=K) rfl) (sK (ds0:=[0,0,0]) (j8 (p:=false) (i:=1) rfl (.inl rfl) rfl rfl rfl) rfl) (fnn eR hr (aa (fv 2 rfl rfl) ac rfl) rfl rfl)) rfl rfl rfl)) (bh (ao (ds2:=[0,1,0]) (bU nJ (fv 2 rfl rfl) fW (bq _)) (bh (fw (iG (K:=K) (i:=1) (d:=1) rfl rfl (.inl rfl) rfl (fs0 ai) (by decide) rfl rfl rfl rfl rfl rfl rfl rfl) rfl)) (bh (fw (iG (K:=K) (i:=1) (d:=1) rfl rfl (.inl rfl) rfl (fs0 (fct sG T.str0 (by decide +kernel) (aa (fv 2 rfl rfl) ac rfl) rfl rfl)) (by decide) rfl rfl rfl rfl rfl rfl rfl rfl) rfl)))))) PassesOwn.never (fun _=>rfl)) (frt (Ev (i:=1) (ds':=[0,0,0]) rfl (.inl rfl) rfl rfl rfl rfl) rfl)))
abbrev kg:Stmt:=top 64
abbrev nZ:List Str:=["_law_rule_here", "_law_lines", "_law_sentence_here"]
def sc_law_text:FnScope nZ ["_law_rule_here"] (aj kg):=⟨rfl,rfl,rfl,by decide +kernel,rfl,by decide +kernel,by decide +kernel⟩
def lx:MS:=(iy (iH 1 (eM joinD (eC (.str " ")) (ad (al (be 6) (ad (ae 2) ag)) ag))))
def ky:MS:=(ak (aB 1 (bx (ad (eM joinD (eC (.str " ")) (ad (e2 ga (bx (ad (eC (.str "signs")) ag)) (eN gm (ad (e2 ixA (ae 0) (eC (.int 0))) ag))) ag)) ag)))
 (ak (kO (dQ (e2 ixA (ae 0) (eC (.int 1)))) (gN 2) lx)
 (aq (eM joinD (eC (.str "\n")) (ad (ae 1) ag)))))
def eF:List D->Option (D × En):=fnF 2 [0] ky
def rR {k:Nat} (T:Bl mg)  (eR:Kn P w K mg base k "_law_words" ["_law_sentence_here"] (spF K [0] 1 (be 6))) (F:Fun K "_law_text" "_law_text" kg f fd):FnOk P w K mg base CX0 (k+1) f fd ["_law_rule_here"] (spF K [0] 3 eF):=by
 have nd:=sc_law_text.nd;refine F.okQ (N:=nZ) (b:=ky) (J:=⟨[],[0,0,0],3,[]⟩) (ds0:=[0,0,0]) sc_law_text rfl rfl rfl rfl fun cdv A outer s H E hr=>?_;exact (af (bo 1 [0,1,0] nd (dq (d':=1) (aM (d:=3) (c:=3) (aa (bE (K:=K) rfl PySem.F.slot_str_join PySem.F.type_str_join (cA rfl) cB ai (aa (fs0 (ar (dD (K:=K) rfl) (aM (d:=3) (c:=3) (aa ai ac rfl) rfl rfl (by decide)) (fct (jF (K:=K) rfl rfl) T.list0 (by decide +kernel) (aa (fxi rfl (fv 0 rfl rfl)) ac rfl) rfl rfl))) ac rfl) rfl rfl rfl rfl rfl rfl) ac rfl) rfl rfl (by decide)) (by decide)) rfl rfl rfl) (af (k4 (ds1:=[0,1,0]) rfl (b7 (K:=K) rfl (fxi rfl (fv 0 rfl rfl))) (aP (i:=2) (ds':=[0,1,0]) nd rfl (.inl rfl) rfl (by decide) (by decide) (.inl rfl)) (bh (fw (iG (K:=K) (i:=1) (d:=1) rfl rfl (.inl rfl) rfl (fs0 (bE (K:=K) rfl PySem.F.slot_str_join PySem.F.type_str_join (cA rfl) cB ai (aa (fs0 (fnn eR hr (aa (fv 2 rfl rfl) ac rfl) rfl rfl)) ac rfl) rfl rfl rfl rfl rfl rfl)) (by decide) rfl rfl rfl rfl rfl rfl rfl rfl) rfl)) PassesOwn.never (fun _=>rfl)) (frt (j9 (ds0:=[0,0,0]) (bE (K:=K) rfl PySem.F.slot_str_join PySem.F.type_str_join (cA rfl) cB ai (aa (fv 1 rfl rfl) ac rfl) rfl rfl rfl rfl rfl rfl) rfl) rfl)))
abbrev ic:Stmt:=top 65
abbrev ko:List Str:=["_law_got", "_law_due"]
def sc_law_same:FnScope ko ["_law_got", "_law_due"] (aj ic):=⟨rfl,rfl,rfl,by decide +kernel,rfl,by decide +kernel,by decide +kernel⟩
def lD (self:List D->Option (D × En)):ME:=(al self (ad (ae 0) (ad (ae 1) ag)))
def dz (self:List D->Option (D × En)):MS:=(ak (sIf (tV (e1 (gI ["list", "tuple"]) (ae 1))) (ak (sIf (bOr (cr (tV (e1 (gI ["list", "tuple"]) (ae 0)))) (tV (e2 neD (e1 (ay "list") (ae 0)) (e1 (ay "list") (ae 1))))) (aq (eC (.bool false))) aG)
 (aq (cV (e2 eqD (eN aQ (ad (ae 0) ag)) (eN aQ (ad (ae 1) ag))) (eN gO (ad (eLC true (kX (ad (ae 0) (ad (ae 1) ag))) (gT (gsC (gN 0) (gsC (gN 1) gs0))) cY (lD self) [none,none]) ag))))) aG)
 (ak (sIf (bOr (tV (e2 isN (ae 1) (eC .none))) (tV (e1 (gI ["bool", "str"]) (ae 1)))) (aq (e2 eqD (eN lL (ad (ae 0) ag)) (eN lL (ad (ae 1) ag)))) aG)
 (aq (cV (e1 (ay "int") (ae 0)) (cV (la (e1 (ay "bool") (ae 0))) (e2 eqD (ae 0) (ae 1)))))))
def aE:Nat->List D->Option (D × En)
 | 0=>fun _=>none
 | j+1=>fnF 0 [0,0] (dz (aE j))
def cv {k:Nat} (T:Bl mg)  {self:List D->Option (D × En)} (kt:Kn P w K mg base k "_law_same" ["_law_got", "_law_due"] (spF K [0,0] 3 self)) (F:Fun K "_law_same" "_law_same" ic f fd):FnOk P w K mg base CX0 (k+1) f fd ["_law_got", "_law_due"] (spF K [0,0] 3 (fnF 0 [0,0] (dz self))):=by
 have nd:=sc_law_same.nd;refine F.okQ (N:=ko) (b:=dz self) (J:=⟨[],[0,0],3,[]⟩) (ds0:=[0,0]) sc_law_same rfl rfl rfl rfl fun cdv A outer s H E hr=>?_;exact (af (ao (ds2:=[0,0]) (aT (k6 (K:=K) (n1:="list") (n2:="tuple") rfl rfl T.isinstance0 rfl T.list0 (by decide +kernel) rfl T.tuple0 (by decide +kernel) (by decide) (fv 1 rfl rfl) (by decide) rfl (by decide) rfl rfl) (fun _=>rfl)) (af (ao (ds2:=[0,0]) (qpt (bg (aX (aT (k6 (K:=K) (n1:="list") (n2:="tuple") rfl rfl T.isinstance0 rfl T.list0 (by decide +kernel) rfl T.tuple0 (by decide +kernel) (by decide) (fv 0 rfl rfl) (by decide) rfl (by decide) rfl rfl) (fun _=>rfl))) (bz (ftn rfl hr.units (bA (K:=K) (n:="list") rfl rfl T.isinstance0 rfl T.list0 (by decide +kernel) (by decide) (fv 0 rfl rfl) (by decide) rfl rfl rfl rfl) (bA (K:=K) (n:="list") rfl rfl T.isinstance0 rfl T.list0 (by decide +kernel) (by decide) (fv 1 rfl rfl) (by decide) rfl rfl rfl rfl))))) (frt b8 rfl) am) (frt (bM (bL (gn (K:=K) rfl hr.units) (fln rfl T.len0 (aa (fv 0 rfl rfl) ac rfl) rfl rfl) (fln rfl T.len0 (aa (fv 1 rfl rfl) ac rfl) rfl rfl) (bq _)) (bK (fcb (iE (K:=K) rfl rfl) T.all0 (by decide +kernel) (aa (fs0 (cU (cd:=3) (d:=3) (dsi:=[0,0]) (lk:=[]) (BlkOkC.of (ns:=["_law_one", "_law_other"]) (js:=[none,none]) (N0:=ko) (sc0:=aj ic) rfl rfl (by decide +kernel)) rfl (vv (K:=K) rfl rfl T.zip0 (aa (fv 0 rfl rfl) (aa (fv 1 rfl rfl) ac rfl) rfl) rfl rfl) (fun _ _ _ _ _=>(vx (K:=K) rfl rfl (l9 (aP (i:=0) (ds':=[0,0]) (show (["_law_one", "_law_other"]:List Str).Nodup by decide +kernel) rfl (.inl rfl) rfl (by decide) (by decide) (.inr rfl)) (l9 (aP (i:=1) (ds':=[0,0]) (show (["_law_one", "_law_other"]:List Str).Nodup by decide +kernel) rfl (.inl rfl) rfl (by decide) (by decide) (.inr rfl)) uc rfl) rfl) DZ rfl rfl)) (fun _ _ _ _ _=>bv) (fun _ _ _ _ _=>(fnn kt hr (aa (fv 0 rfl rfl) (aa (fv 1 rfl rfl) ac rfl) rfl) rfl rfl)) rfl rfl (by decide) rfl (fun _=>rfl))) ac rfl) rfl rfl))) rfl)) am) (af (ao (ds2:=[0,0]) (qpt (bg (bU nJ (fv 1 rfl rfl) fW (bq _)) (bz (aT (k6 (K:=K) (n1:="bool") (n2:="str") rfl rfl T.isinstance0 rfl T.bool0 (by decide +kernel) rfl T.str0 (by decide +kernel) (by decide) (fv 1 rfl rfl) (by decide) rfl (by decide) rfl rfl) (fun _=>rfl))))) (frt (bL (gn (K:=K) rfl hr.units) (fcb (rj (K:=K) rfl hr.gd hr.units) T.repr0 (by decide +kernel) (aa (fv 0 rfl rfl) ac rfl) rfl rfl) (fcb (rj (K:=K) rfl hr.gd hr.units) T.repr0 (by decide +kernel) (aa (fv 1 rfl rfl) ac rfl) rfl rfl) (bq _)) rfl) am) (frt (bM (bA (K:=K) (n:="int") rfl rfl T.isinstance0 rfl T.int0 (by decide +kernel) (by decide) (fv 0 rfl rfl) (by decide) rfl rfl rfl rfl) (bM (mK (bA (K:=K) (n:="bool") rfl rfl T.isinstance0 rfl T.bool0 (by decide +kernel) (by decide) (fv 0 rfl rfl) (by decide) rfl rfl rfl rfl)) (bK (bL (gn (K:=K) rfl hr.units) (fv 0 rfl rfl) (fv 1 rfl rfl) (bq _))))) rfl)))
abbrev mP:Stmt:=top 66
abbrev I0:List Str:=["_law_script", "_law_rules", "_law_words_here", "_law_inner", "_law_full", "_law_rule_here", "_law_text_here", "_law_told"]
def sclaw:FnScope I0 ["_law_script"] (aj mP):=⟨rfl,rfl,rfl,by decide +kernel,rfl,by decide +kernel,by decide +kernel⟩
noncomputable def rE:MS:=(ak (aB 6 (al eF (ad (ae 5) ag)))
 (ak (aB 7 (al eB (ad (ae 5) ag)))
 (sIf (bOr (cr (tV (e1 (ay "str") (ae 7)))) (bOr (tV (e2 neD (ae 7) (ae 6))) (cr (tV (al (aE 8) (ad (al eD (ad (ae 6) ag)) (ad (ae 5) ag))))))) (aq (eC (.bool false))) aG)))
noncomputable def xF:MS:=(ak (aB 1 (bx (ad (al dw (ad (al F_law_pen (ad (ae 0) (ad (eC (.int 0)) ag))) (ad (eC (.int 8)) ag))) (ad (al dw (ad (al F_law_pen (ad (ae 0) (ad (eC (.int 31)) ag))) (ad (eC (.int 3)) ag))) ag))))
 (ak (aB 2 (e2 dA (eC (.str "both both both apart apart apart both apart apart")) (eC (.str " "))))
 (ak (aB 3 (bR (ad (eC (.str "both")) (ad (bR (ad (eC (.str "apart")) ag)) (ad (bR (ad (eC (.str "apart")) ag)) ag)))))
 (ak (aB 4 (bR (ad (e2 ixA (e2 ixA (ae 1) (eC (.int 0))) (eC (.int 0))) (ad (bR (ad (bR (ad (eC (.str "both")) (ad (bR (ad (eC (.str "both")) (ad (ae 3) (ad (bR (ad (eC (.str "apart")) ag)) ag)))) (ad (ae 3) ag)))) ag)) ag))))
 (ak (sIf (tV (e2 neD (bx (ad (eM joinD (eC (.str " ")) (ad (ae 2) ag)) ag)) (bx (ad (eM joinD (eC (.str " ")) (ad (al (be 6) (ad (e2 ixA (e2 ixA (ae 4) (eC (.int 1))) (eC (.int 0))) ag)) ag)) ag)))) (aq (eC (.bool false))) aG)
 (ak (kO (dQ (e2 ga (e2 ga (e2 ga (ae 1) (bx (ad (ae 4) ag))) (ae 1)) (bx (ad (ae 4) ag)))) (gN 5) rE)
 (aq (eC (.bool true)))))))))
noncomputable def ux:List D->Option (D × En):=fnF 7 [0] xF
def Jq {k:Nat} (T:Bl mg)  (og:Kn P w K mg base k "_law_rule" ["_law_pen_here", "_law_most"] (spF K [1,0] 0 dw)) (uw:Kn P w K mg base k "_law_text" ["_law_rule_here"] (spF K [0] 3 eF)) (ur:Kn P w K mg base k "show_rule" ["rule"] (spF K [0] 3 eB)) (pO:Kn P w K mg base k "_law_pen" ["_law_script", "_law_first"] (spF K [0,0] 1 F_law_pen)) (eR:Kn P w K mg base k "_law_words" ["_law_sentence_here"] (spF K [0] 1 (be 6))) (kt:Kn P w K mg base k "_law_same" ["_law_got", "_law_due"] (spF K [0,0] 3 (aE 8))) (ut:Kn P w K mg base k "read_rule" ["text"] (spF K [0] 0 eD)) (F:Fun K "law" "law" mP f fd):FnOk P w K mg base CX0 (k+1) f fd ["_law_script"] (spF K [0] 3 ux):=by
 have nd:=sclaw.nd;refine F.okQ (N:=I0) (b:=xF) (J:=⟨[],[0,0,0,0,0,0,0,0],3,[]⟩) (ds0:=[0,0,0,0,0,0,0,0]) sclaw rfl rfl rfl rfl fun cdv A outer s H E hr=>?_;exact (af (bo 1 [0,0,0,0,0,0,0,0] nd (fs0 (aM (d:=1) (c:=0) (aa (fnn og hr (aa (fnn pO hr (aa (fv 0 rfl rfl) (aa (fs0 ah) ac rfl) rfl) rfl rfl) (aa (fs0 ah) ac rfl) rfl) rfl rfl) (aa (fnn og hr (aa (fnn pO hr (aa (fv 0 rfl rfl) (aa (fs0 ah) ac rfl) rfl) rfl rfl) (aa (fs0 ah) ac rfl) rfl) rfl rfl) ac rfl) rfl) rfl rfl (by decide))) rfl rfl rfl) (af (bo 2 [0,0,0,0,0,0,0,0] nd (fs0 (hU (K:=K) rfl ai ai rfl rfl rfl rfl rfl)) rfl rfl rfl) (af (bo 3 [0,0,0,0,0,0,0,0] nd (fs0 (aS (d:=3) (c:=3) (aa ai (aa (aS (d:=3) (c:=3) (aa ai ac rfl) rfl rfl) (aa (aS (d:=3) (c:=3) (aa ai ac rfl) rfl rfl) ac rfl) rfl) rfl) rfl rfl)) rfl rfl rfl) (af (bo 4 [0,0,0,0,0,0,0,0] nd (aS (d:=0) (c:=0) (aa (fxi rfl (fxi rfl (fv 1 rfl rfl))) (aa (aS (d:=0) (c:=0) (aa (aS (d:=0) (c:=0) (aa ai (aa (aS (d:=0) (c:=0) (aa ai (aa (fv 3 rfl rfl) (aa (aS (d:=3) (c:=3) (aa ai ac rfl) rfl rfl) ac rfl) rfl) rfl) rfl rfl) (aa (fv 3 rfl rfl) ac rfl) rfl) rfl) rfl rfl) ac rfl) rfl rfl) ac rfl) rfl) rfl rfl) rfl rfl rfl) (af (ao (ds2:=[0,0,0,0,0,0,0,0]) (ftn rfl hr.units (aM (d:=3) (c:=3) (aa (bE (K:=K) rfl PySem.F.slot_str_join PySem.F.type_str_join (cA rfl) cB ai (aa (fv 2 rfl rfl) ac rfl) rfl rfl rfl rfl rfl rfl) ac rfl) rfl rfl (by decide)) (aM (d:=3) (c:=3) (aa (bE (K:=K) rfl PySem.F.slot_str_join PySem.F.type_str_join (cA rfl) cB ai (aa (fs0 (fnn eR hr (aa (fxi rfl (fxi rfl (fv 4 rfl rfl))) ac rfl) rfl rfl)) ac rfl) rfl rfl rfl rfl rfl rfl) ac rfl) rfl rfl (by decide))) (frt b8 rfl) am) (af (k4 (ds1:=[0,0,0,0,0,0,0,0]) rfl (b7 (K:=K) rfl (fs0 (ar (dD (K:=K) rfl) (ar (dD (K:=K) rfl) (ar (dD (K:=K) rfl) (fv 1 rfl rfl) (aM (d:=1) (c:=0) (aa (fv 4 rfl rfl) ac rfl) rfl rfl (by decide))) (fv 1 rfl rfl)) (aM (d:=1) (c:=0) (aa (fv 4 rfl rfl) ac rfl) rfl rfl (by decide))))) (aP (i:=5) (ds':=[0,0,0,0,0,0,0,0]) nd rfl (.inl rfl) rfl (by decide) (by decide) (.inl rfl)) (af (bo 6 [0,0,0,0,0,0,0,0] nd (fs0 (fnn uw hr (aa (fv 5 rfl rfl) ac rfl) rfl rfl)) rfl rfl rfl) (af (bo 7 [0,0,0,0,0,0,0,0] nd (fs0 (fnn ur hr (aa (fv 5 rfl rfl) ac rfl) rfl rfl)) rfl rfl rfl) (bh (ao (ds2:=[0,0,0,0,0,0,0,0]) (qpt (bg (aX (aT (bA (K:=K) (n:="str") rfl rfl T.isinstance0 rfl T.str0 (by decide +kernel) (by decide) (fv 7 rfl rfl) (by decide) rfl rfl rfl rfl) (fun _=>rfl))) (bg (ftn rfl hr.units (fv 7 rfl rfl) (fv 6 rfl rfl)) (bz (aX (aT (fnn kt hr (aa (fnn ut hr (aa (fv 6 rfl rfl) ac rfl) rfl rfl) (aa (fv 5 rfl rfl) ac rfl) rfl) rfl rfl) (fun _=>rfl))))))) (frt b8 rfl) am)))) PassesOwn.never (fun _=>rfl)) (frt b8 rfl)))))))
end
end W56
set_option maxHeartbeats 1000000
namespace W56
open PySem L2 Tg
def Pn (n:Nat) (t:D):Prop:=∃ ns k l,t=Pen2.penD ns k l/\0<=k/\k<=(n:Int)/\0<=l
def Pn.mono {n m:Nat} {t:D} (h:Pn n t) (e:n<=m):Pn m t:=by
 obtain ⟨ns,k,l,rfl,h1,h2,h3⟩:=h;exact ⟨ns,k,l,rfl,h1,by omega,h3⟩
def bS {p:D} {m:Int} {n:Nat} (hp:Pn n p) (hn:n<=1000000) (h3:0 < m) (h4:m < 1073741824) {Q:D × En->Prop} (h:∀ r p',0<=r->r < m->Pn (n+1) p'->Q (.int r,[some p',none])):W (aw [p,.int m]) Q:=by
 obtain ⟨ns,k,l,rfl,k0,k1,l0⟩:=hp;obtain ⟨r,k',l',e,e1,e2,e3,e4,e5⟩:=Pen2.take_ok (ns:=ns) (k:=k) (l:=l) (m:=m) k0 (by omega) l0 h3 h4;exact W.of (show aw _=_ from e) (h r _ e1 e2 ⟨ns,k',l',rfl,by omega,by omega,e5⟩)
def um {ns:List Int} {k:Nat} {Q:D × En->Prop} (h:∀ p,Pn k p->Q (p,[none,none])):W (F_law_pen [.list (ns.map .int),.int (k:Nat)]) Q :=
 W.of (show F_law_pen [.list (ns.map .int),.int (k:Nat)]=some (Pen2.penD ns (k:Nat) 0,[none,none]) from rfl) (h _ ⟨ns,(k:Nat),0,rfl,by omega,by omega,by omega⟩)
def EO {α:Type} {l:List α} {r:Int} (h0:0<=r) (h1:r < l.length):∃ x,atI l r=some x/\x∈l:=by
 obtain ⟨k,rfl⟩:=zaM h0;have hk:k < l.length:=by omega
 exact ⟨l[k],by rw [bB,zak hk],List.getElem_mem hk⟩
def IX {α:Type} {l:List α} {r:Int} {Q:α->Prop} (h0:0<=r) (h1:r < l.length) (h:∀ x∈l,Q x):W (atI l r) Q:=by
 obtain ⟨x,e,hx⟩:=EO h0 h1;exact W.of e (h x hx)
def pG {α:Type} (f:α->Bool):∀ l:List α,ip (l.map fun a=>.bool (f a))=some (l.map f)
 | []=>rfl
 | a :: l=>by
  show (ip (l.map fun a=>.bool (f a))).map (f a :: ·)=_;rw [pG f l];rfl
def all_map {α:Type} (f:α->Bool) (l:List α):gO [.list (l.map fun a=>.bool (f a))]=some (.bool (l.all f)):=by
 show (ip _).map _=_;rw [pG];show some (PyData.bool ((l.map f).all id))=_;rw [List.all_map];rfl
def ll (z:Str):(li z).length=z.length:=zaY
def sk (ks:List Str):(sgs ks).length=(br ks).length:=im _
def qO (ks:List Str):li (sgs ks)=br ks:=rfl
def IV {z:Str} {k:Nat} (h:k < (li z).length):atI (li z) (k:Int)=some (li z)[k]:=by
 rw [bB,zak h]
def C2:ME:=dR 2 (al aw (aD 1 (ad (eN aQ (ad (ae 2) ag)) ag)))
def sr {n m:Nat} {left:List Nat} {p:D} {Q:List D × En->Prop} (hp:Pn n p) (hn:n<=100000) (h1:m<=left.length) (h2:left.length<=1000)
  (hq:∀ (cs lf:List Nat) o' p',(cs++lf).Perm left->cs.length=m->Pn (n+m) p'->Q (cs.map s1,[o',some p',some (.list (lf.map s1))])):W (lcF (gN 0) cY C2 (jR 0 m) [] [none,some p,some (.list (left.map s1))]) Q:=by
 refine pc (fun i us en=>∃ (cs lf:List Nat) (o:Option D) (p:D),us=cs.map s1/\en=[o,some p,some (.list (lf.map s1))]/\(cs++lf).Perm left/\cs.length=i/\Pn (n+i) p) (by rw [il]; exact sz (by omega)) ⟨[],left,none,p,rfl,rfl,List.Perm.refl _,rfl,hp⟩ ?_ ?_
 ·rintro i t us en ht hu ⟨cs,lf,o,p,rfl,rfl,hpm,hcs,hp⟩;obtain ⟨hi,rfl⟩:=oB ht;have hl:=hpm.length_eq;rw [zae] at hl;simp only [ws,C2];refine bS hp (by omega) (by omega) (by omega) fun r p' r0 r1 hp'=>?_;obtain ⟨k,rfl⟩:=zaM r0;have hk:k < lf.length:=by omega
  simp only [ws,J6 hk];refine ⟨by omega,cs++[lf[k]],lf.eraseIdx k,_,p',by rw [zaC]; rfl,rfl,?_,by rw [zae,hcs]; rfl,hp'⟩;rw [zaD];exact (List.Perm.append_left cs (nO lf k hk)).trans hpm
 ·rintro us en hu ⟨cs,lf,o,p,rfl,rfl,hpm,hcs,hp⟩;rw [il] at hcs hp;exact hq cs lf o p hpm hcs hp
def okc (c:Nat):Prop:=c≠32/\c≠10/\c < 256
instance (c:Nat):Decidable (okc c):=by unfold okc; infer_instance
def pool:List Nat:=li "!\"#$&'()*+,-./0123456789:;<=>?\x40[\\]^_`{|}~"++li "ABCDEFGHIJKLMNOPQRSTUVWXYZabcdefghijklmnopqrstuvwxyz"
def qx:pool.length=93:=by decide +kernel
def DD:pool.Nodup:=by decide +kernel
def DE:∀ c∈pool,c∈li ev:=by decide +kernel
def vE:∀ c∈li ev,okc c:=by decide +kernel
def lb:∀ ys:List Str,fG (ys.map PyData.str)=0
 | []=>rfl
 | y :: ys=>by
  rw [zar];simp only [fG,fY,lb ys];rfl
def lN:∀ ys:List Str,ba (ys.map PyData.str)=true
 | []=>rfl
 | y :: ys=>by
  rw [zar];simp only [ba,az,lN ys];rfl
def jU:∀ xs ys:List Str,dP (xs.map PyData.str) (ys.map PyData.str)=decide (xs=ys)
 | [],[]=>rfl
 | [],_ :: _=>rfl
 | _ :: _,[]=>rfl
 | x :: xs,y :: ys=>by
  simp only [zar,dP,peq,jU xs ys,oz];by_cases h:x=y
  ·by_cases h2:xs=ys <;> simp [h,h2]
  ·simp [h]
def EH (xs ys:List Str):eqD (.list (xs.map .str)) (.list (ys.map .str))=some (.bool (decide (xs=ys))):=by
 show grd _ _=_;unfold grd;rw [if_pos ⟨by simp only [az]; exact lN xs,by simp only [az]; exact lN ys,by simp only [fY,lb]; decide⟩];simp only [peq,jU]
def DP (xs:List Str):neD (.list (xs.map .str)) (.list [])=some (.bool (!decide (xs=[]))):=by
 show grd _ _=_;unfold grd;rw [if_pos ⟨by simp only [az]; exact lN xs,rfl,by simp only [fY,lb]; decide⟩]
 have:=jU xs [];simp only [za0] at this;simp only [peq,this]
def Jv (cs:List Nat):neD (.list (cs.map s1)) (.list [])=some (.bool (!decide (cs=[]))):=by
 have e:(cs.map s1)=(cs.map mk1).map PyData.str:=by rw [List.map_map]; rfl
 have h:=DP (cs.map mk1);rw [e,h];congr 3;rw [decide_eq_decide,List.map_eq_nil_iff]
def wI {n m:Nat} {cs:List Nat} {p:D} {x1 x2 x5:Option D} (hp:Pn n p) (hn:n<=1000) (hm:cs.length=m) (h1:1<=m) (h12:m<=12) (hnd:cs.Nodup) (hc:∀ c∈cs,c∈li ev) {Q:Fl->Prop}
  (h:∀ ks p' o3 o5,TOk ks->Pn (n+12) p'->Q (.nx [some p',x1,x2,o3,some (.list (ks.map .str)),o5])) :
  W (cQ eo gg [some p,x1,x2,some (.list (cs.map s1)),some (.list []),x5]) Q:=by
 refine ER (fun d en=>∃ p' left ks o5,en=[some p',x1,x2,some (.list (left.map s1)),some (.list (ks.map .str)),o5]/\left.length=d/\br ks++left=cs/\left.length+6 * ks.length<=24/\ks.length<=4/\Pn (n+ks.length) p'/\∀ k∈ks,1<=(li k).length/\(li k).length<=6) (fun d en ⟨p',left,ks,o5,e,g1,g2,g3,g4,g5,g6⟩=>?_) (n:=cs.length) ⟨p,cs,[],x5,rfl,rfl,by simp [br],by simp; omega,by simp,hp,by simp⟩;subst e;have e0:=Jv left;have gl:=congrArg List.length g2;rw [zae] at gl;by_cases hl:left=[]
 ·have q:decide (left=[])=true:=zaB hl;simp only [ws,eo,e0,q];subst hl;rw [List.append_nil] at g2;have a1:(br ks).length=m:=by rw [g2,hm]
  refine h ks p' _ _ ⟨?_,g4,g6,by rw [g2]; exact hnd,by omega,by omega,by rw [g2]; exact hc⟩ (g5.mono (by omega));cases ks with
  | nil=>simp [br] at a1; omega
  | cons a b=>rw [zac]; omega
 ·have q:decide (left=[])=false:=zaA hl;have lp:0 < left.length:=List.length_pos_iff.mpr hl;simp only [ws,eo,e0,q,gg];obtain ⟨mo,hmo⟩:∃ mo:Int,(if (left.length:Int) < 6 then (left.length:Int) else 6)=mo:=⟨_,rfl⟩;have hm':1<=mo/\mo<=left.length/\mo<=6:=by rw [<- hmo]; split <;> omega
  rw [hmo];refine bS g5 (by omega) (by omega) (by omega) fun r p1 r0 r1 hp1=>?_;simp only [ws,gt_iff_lt];refine ⟨.inl (by decide),?_⟩;obtain ⟨z,hz⟩:∃ z:Nat,(if 1+r < (left.length:Int) - 6 * (3 - (ks.length:Int)) then (left.length:Int) - 6 * (3 - (ks.length:Int)) else 1+r)=(z:Int)/\1<=z/\z<=left.length/\(left.length:Int) - 6 * (3 - (ks.length:Int))<=z/\z<=6:=by
   split
   ·exact ⟨((left.length:Int) - 6 * (3 - (ks.length:Int))).toNat,by omega,by omega,by omega,by omega,by omega⟩
   ·exact ⟨(1+r).toNat,by omega,by omega,by omega,by omega,by omega⟩
  obtain ⟨hz,z1,zl,z3,z6⟩:=hz;have st:left.take z++left.drop z=left:=List.take_append_drop z left;have tl:(left.take z).length=z:=by rw [zaE]; omega
  have dl:(left.drop z).length=left.length - z:=zaF;simp only [ws,hz,nR,ui,<- List.map_take,<- List.map_drop,oO (cs:=left.take z) (by omega)];refine ⟨szl (by omega),(left.drop z).length,by omega,p1,left.drop z,ks++[ofL (left.take z)],_,by rw [zaC]; rfl,rfl,?_,?_,?_,hp1.mono (by rw [zae]; show _<=n+(_+1); omega),fun k hk=>?_⟩
  ·rw [vS,kU,zaD,st];exact g2
  ·rw [zae,dl];show _+6 * (_+1)<=24;omega
  ·rw [zae];show _+1<=4;omega
  ·rcases zax.mp hk with hk | hk
   ·exact g6 k hk
   ·rw [zaH.mp hk,kU,tl];exact ⟨z1,z6⟩
def uC {p:D} {n m:Nat} (hp:Pn n p) (hn:n<=900) (h1:1<=m) (h12:m<=12):W (db [p,.int (m:Nat)]) (fun r=>∃ ks p',r=(tD ks,[some p',none])/\TOk ks/\Pn (n+24) p'):=by
 have e1:=kT (z:="!\"#$&'()*+,-./0123456789:;<=>?\x40[\\]^_`{|}~") (by decide +kernel);have e2:=kT (z:="ABCDEFGHIJKLMNOPQRSTUVWXYZabcdefghijklmnopqrstuvwxyz") (by decide +kernel);have ep:(li "!\"#$&'()*+,-./0123456789:;<=>?\x40[\\]^_`{|}~").map s1++(li "ABCDEFGHIJKLMNOPQRSTUVWXYZabcdefghijklmnopqrstuvwxyz").map s1=pool.map s1:=by rw [<- zaC]; rfl
 simp only [db,iS,ws,e1,e2,ep,zaL];refine ⟨sz (by decide +kernel),by omega,sr (left:=pool) hp (by omega) (by rw [qx]; omega) (by rw [qx]; decide) fun cs lf o' p' hpm hl hp'=>?_⟩;have nd:=(hpm.nodup_iff.mpr DD);simp only [ws];refine wI hp' (by omega) hl h1 h12 (List.nodup_append.mp nd).1 (fun c hc=>DE c (hpm.mem_iff.mp (List.mem_append_left _ hc))) fun ks p2 o3 o5 hT hp2=>?_;simp only [ws];exact ⟨ks,p2,rfl,hT,hp2.mono (by omega)⟩
def IW {p:D} {n:Nat} (hp:Pn n p) (hn:n<=800):W (cb [p]) (fun r=>∃ ks p',r=(tD ks,[some p'])/\TOk ks/\Pn (n+40) p'):=by
 simp only [cb,fm,ws];refine bS hp (by omega) (by decide) (by decide) fun r p1 r0 r1 hp1=>?_;by_cases hr:r=0
 ·simp only [ws,hr];refine bS hp1 (by omega) (by decide) (by decide) fun q p2 q0 q1 hp2=>?_;simp only [ws];refine IX q0 q1 fun x hx=>?_;simp only [ws];simp only [zay,zap,or_false] at hx;have fin:∀ (ks:List Str),x=tD ks->TOk ks->∃ ks p',(x,[some p2])=(tD ks,[some p'])/\TOk ks/\Pn (n+40) p':=fun ks e hT=>⟨ks,p2,by rw [e],hT,hp2.mono (by omega)⟩;rcases hx with h | h | h | h | h | h | h
  ·exact fin ["-"] h ⟨by decide,by decide,by decide +kernel,by decide +kernel,by decide +kernel,by decide +kernel,by decide +kernel⟩
  ·exact fin ["0", "1", "-"] h ⟨by decide,by decide,by decide +kernel,by decide +kernel,by decide +kernel,by decide +kernel,by decide +kernel⟩
  ·exact fin ["long", "-01"] h ⟨by decide,by decide,by decide +kernel,by decide +kernel,by decide +kernel,by decide +kernel,by decide +kernel⟩
  ·exact fin ["ends", "012", "-"] h ⟨by decide,by decide,by decide +kernel,by decide +kernel,by decide +kernel,by decide +kernel,by decide +kernel⟩
  ·exact fin ["not", "hbi", "0-e", "|"] h ⟨by decide,by decide,by decide +kernel,by decide +kernel,by decide +kernel,by decide +kernel,by decide +kernel⟩
  ·exact fin ["1"] h ⟨by decide,by decide,by decide +kernel,by decide +kernel,by decide +kernel,by decide +kernel,by decide +kernel⟩
  ·exact fin ["apr", "t-0123", "'\"\\"] h ⟨by decide,by decide,by decide +kernel,by decide +kernel,by decide +kernel,by decide +kernel,by decide +kernel⟩
 ·simp only [ws,hr];refine bS hp1 (by omega) (by decide) (by decide) fun q p2 q0 q1 hp2=>?_;simp only [ws];refine bS hp2 (by omega) (by decide) (by decide) fun a p3 a0 a1 hp3=>?_;simp only [ws];refine IX a0 a1 fun x hx=>?_;obtain ⟨m,rfl,m1,m12⟩:∃ m:Nat,x=.int (m:Nat)/\1<=m/\m<=12:=by
   simp only [zay,zap,or_false] at hx;rcases hx with h | h | h | h | h | h | h | h
   ·exact ⟨2,h,by decide,by decide⟩
   ·exact ⟨3,h,by decide,by decide⟩
   ·exact ⟨4,h,by decide,by decide⟩
   ·exact ⟨1,h,by decide,by decide⟩
   ·exact ⟨6,h,by decide,by decide⟩
   ·exact ⟨12,h,by decide,by decide⟩
   ·exact ⟨5,h,by decide,by decide⟩
   ·exact ⟨(1+q).toNat,by rw [h]; congr 1; omega,by omega,by omega⟩
  simp only [ws];refine W.use (uC hp3 (by omega) m1 m12) ?_;rintro _ ⟨ks,p4,rfl,hT,hp4⟩;simp only [ws];exact ⟨ks,p4,rfl,hT,hp4.mono (by omega)⟩
inductive Sn where
 | long (lo:Nat) (hi:Option Nat) | least (k m:Nat) | often (z:Str) (m:Nat) | apart
 | without (z:Str) | begins (z:Str) | ends (z:Str) | no (s:Sn) | both (s t:Sn) | either (s t:Sn)
def oD:Option Nat->D
 | none=>.none
 | some n=>.int n
def sD:Sn->D
 | .long lo hi=>.tuple [.str "long",.int lo,oD hi]
 | .least k m=>.tuple [.str "least",.int k,.int m]
 | .often z m=>.tuple [.str "often",.str z,.int m]
 | .apart=>.tuple [.str "apart"]
 | .without z=>.tuple [.str "without",.str z]
 | .begins z=>.tuple [.str "begins",.str z]
 | .ends z=>.tuple [.str "ends",.str z]
 | .no s=>.tuple [.str "not",sD s]
 | .both s t=>.tuple [.str "both",sD s,sD t]
 | .either s t=>.tuple [.str "either",sD s,sD t]
def plain:Sn->Bool
 | .no _=>false
 | .both _ _=>false
 | .either _ _=>false
 | _=>true
def dep:Sn->Nat
 | .no s=>dep s+1
 | .both s t=>max (dep s) (dep t)+1
 | .either s t=>max (dep s) (dep t)+1
 | _=>1
def cnt:Sn->Nat
 | .no s=>cnt s+1
 | .both s t=>cnt s+cnt t+1
 | .either s t=>cnt s+cnt t+1
 | _=>1
section
variable {ks:List Str} {w:Str}
def io:∀ s:Sn,1<=dep s:=by intro s; cases s <;> simp [dep]
def uG (T:TOk ks):W (dh [tD ks]) (fun r=>r=(.str (sgs ks),[none])):=by
 simp only [dh,lF,ws,sB T]
def oM:(sgs ks).length=(br ks).length:=im _
def nq (f:Nat->Str):∀ n,(∀ i j,i < n->j < n->f i=f j->i=j)->cq f n=(List.range n).map f
 | 0,_=>rfl
 | n+1,h=>by
  rw [iZ,nq f n fun i j hi hj e=>h i j (by omega) (by omega) e,List.range_succ,zaC,if_neg]
  ·rfl
  ·intro q;rw [List.any_map,List.any_eq_true] at q;obtain ⟨i,hi,e⟩:=q;have hi':=List.mem_range.mp hi
   have:=h i n (by omega) (by omega) (eq_of_beq e);omega
def DR {z:Str} (h:(li z).Nodup):(cq (dY z) z.length).length=z.length:=by
 have hl:(li z).length=z.length:=zaY;rw [nq _ _ fun i j hi hj e=>?_,zad,List.length_range];have g:∀ k,k < z.length->∃ c,(li z)[k]?=some c/\dY z k=mk1 c:=fun k hk=>by
  have hk':k < (li z).length:=by rw [hl]; exact hk
  refine ⟨(li z)[k],zak hk',?_⟩;unfold dY;rw [<- Array.getElem?_toList,show z.cps.toList[k]?=some (li z)[k] from zak hk']
 obtain ⟨c,h1,h2⟩:=g i hi;obtain ⟨d,h3,h4⟩:=g j hj;rw [h2,h4] at e;have ecd:c=d:=by
  have:=congrArg li e;have h5:[c]=[d]:=this;injection h5
 subst ecd;exact (List.getElem?_inj (by rw [hl]; exact hi) h).mp (h1.trans h3.symm)
def pi {z:Str} (h:(li z).Nodup) (hz:z.length<=100):W (cw [.str z]) (fun r=>r=(.bool true,[none])):=by
 simp only [cw,jz,ws,DR h];exact ⟨by omega,sz (by omega)⟩
def pC (T:TOk ks) {z:Str} (hz:z.length<=60) (hm:∀ c∈li z,c∈br ks):W (dU [tD ks,.str z]) (fun r=>r=(.bool true,[none,none])):=by
 have h1:¬ (60:Int) < (z.length:Nat):=by omega
 simp only [dU,mX,ws,h1];refine ⟨sz (by omega),?_⟩;refine W.use (uG T) ?_;rintro _ rfl;simp only [ws];have hl:(eT z).length=z.length:=by unfold eT; rw [zad]; exact zaY
 refine lh (fun _=>.bool true) (by rw [hl]; exact sz (by omega)) (fun t ht=>?_) fun o'=>?_
 ·obtain ⟨c,hc,rfl⟩:=zaz.mp ht;have e:iB (sgs ks) (mk1 c)=true:=(StrLaws.found_one (sgs ks) c).trans (zaB (hm c hc));simp only [oh,ws,e]
 ·have e:=all_map (fun _:D=>true) (eT z);simp only [ws,e];simp
def oq (T:TOk ks) {z:Str} (h1:1<=z.length) (h2:z.length<=6) (hm:∀ c∈li z,c∈br ks):W (cE [tD ks,.str z]) (fun r=>r=(.bool true,[none,none])):=by
 simp only [cE,hC,ws];refine W.use (pC T (by omega) hm) ?_;rintro _ rfl;have a:(1:Int)<=(z.length:Nat):=by omega
 have b:((z.length:Nat):Int)<=6:=by omega
 simp only [ws,a,b];exact sz (by omega)
def fQ {n a b:Int} (h1:a<=n) (h2:n<=b):W (aV [.int n,.int a,.int b]) (fun r=>r=(.bool true,[none,none,none])):=by
 simp only [aV,fj,gD,lG,ws,h1,h2]
def SOk (ks:List Str):Sn->Prop
 | .long lo hi=>lo<=30/\∀ h,hi=some h->lo<=h/\h<=30
 | .least k m=>k < ks.length/\m<=9
 | .often z m=>1<=z.length/\z.length<=4/\(li z).Nodup/\(∀ c∈li z,c∈br ks)/\m<=3
 | .without z=>1<=z.length/\z.length<=6/\∀ c∈li z,c∈br ks
 | .begins z=>1<=z.length/\z.length<=6/\∀ c∈li z,c∈br ks
 | .ends z=>1<=z.length/\z.length<=6/\∀ c∈li z,c∈br ks
 | .no s=>SOk ks s
 | .both s t=>SOk ks s/\SOk ks t
 | .either s t=>SOk ks s/\SOk ks t
 | .apart=>True
def rX (T:TOk ks) {s:Sn} (hp:plain s=true) (ho:SOk ks s):W (bC [tD ks,sD s]) (fun r=>r=(.bool true,[none,none])):=by
 have lt:(List.map PyData.str ks).length=ks.length:=zad _;cases s with
 | no s=>cases hp
 | both s t=>cases hp
 | either s t=>cases hp
 | long lo hi =>
  cases hi with
  | none =>
   simp only [bC,ce,sD,oD,ws,hds,ca,dy,Int.reduceEq]
   have:=ho.1;refine W.use (fQ (by omega) (by omega)) ?_;rintro _ rfl;simp only [ws]
  | some m =>
   obtain ⟨h1,h2⟩:=ho;have h3:=h2 m rfl;simp only [bC,ce,sD,oD,ws,hds,ca,dy,Int.reduceEq];refine W.use (fQ (by omega) (by omega)) ?_;rintro _ rfl;simp only [ws];refine W.use (fQ (by omega) (by omega)) ?_;rintro _ rfl;simp only [ws]
 | least k m =>
  obtain ⟨h1,h2⟩:=ho;simp only [bC,ce,sD,ws,hds,tD,Int.reduceEq];refine W.use (fQ (by omega) (by omega)) ?_;rintro _ rfl;simp only [ws];refine W.use (fQ (by omega) (by omega)) ?_;rintro _ rfl;simp only [ws]
 | often z m =>
  obtain ⟨h1,h2,h3,h4,h5⟩:=ho;have a:(1:Int)<=(z.length:Nat):=by omega
  have b:((z.length:Nat):Int)<=4:=by omega
  simp only [bC,ce,sD,ws,hds,cI,fO,Int.reduceEq];refine W.use (pC T (by omega) h4) ?_;rintro _ rfl;simp only [ws,a,b];refine ⟨sz (by omega),?_⟩;refine W.use (pi h3 (by omega)) ?_;rintro _ rfl;simp only [ws];refine W.use (fQ (by omega) (by omega)) ?_;rintro _ rfl;simp only [ws]
 | apart=>simp only [bC,ce,sD,ws,hds,Int.reduceEq]
 | without z =>
  simp only [bC,ce,sD,ws,hds,Int.reduceEq];refine W.use (oq T ho.1 ho.2.1 ho.2.2) ?_;rintro _ rfl;simp only [ws]
 | begins z =>
  simp only [bC,ce,sD,ws,hds,Int.reduceEq];refine W.use (oq T ho.1 ho.2.1 ho.2.2) ?_;rintro _ rfl;simp only [ws]
 | ends z =>
  simp only [bC,ce,sD,ws,hds,Int.reduceEq];refine W.use (oq T ho.1 ho.2.1 ho.2.2) ?_;rintro _ rfl;simp only [ws]
def fy (T:TOk ks):∀ (n:Nat) (s:Sn) (d:Nat),d < n->SOk ks s->W (bI n [tD ks,sD s,.int d]) (fun r=>r=(.bool (decide (dep s<=d)),[none,none,none]))
 | 0,_,_,h,_=>by omega
 | n+1,s,d,h,ho=>by
  show W (fnF 1 [0,0,0] (cu (bI n)) _) _;have dp:=io s;by_cases h0:d=0
  ·subst h0;have e:((0:Nat):Int)=0:=rfl;simp only [cu,ws,e];rw [zaA (by omega)]
  ·have h1:¬ (d:Int)=0:=by omega
   have hd:((d:Int) - 1)=((d - 1:Nat):Int):=by omega
   by_cases hp:plain s=true
   ·have e:=rX T hp ho;have e2:decide (dep s<=d)=true:=zaB (by cases s <;> first | (cases hp; done) | (show 1<=d; omega));rw [e2];cases s with
    | no s=>cases hp
    | both s t=>cases hp
    | either s t=>cases hp
    | _ =>
     simp only [sD] at e ⊢;simp only [cu,ws,h1,Int.reduceEq,ap,aA,hds];refine W.use e ?_;rintro _ rfl;simp only [ws]
   ·cases s with
    | no s =>
     have e:=fy T n s (d - 1) (by omega) ho;simp only [sD,cu,ws,h1,Int.reduceEq,Int.reduceAdd,ap,aA,hds,fN,hd];refine W.use e ?_;rintro _ rfl;simp only [ws];rw [show decide (dep s<=d - 1)=decide (dep (.no s)<=d) from decide_eq_decide.mpr (by simp only [dep]; omega)]
    | both s t =>
     have e:=fy T n s (d - 1) (by omega) ho.1;have e2:=fy T n t (d - 1) (by omega) ho.2;simp only [sD,cu,ws,h1,Int.reduceEq,Int.reduceAdd,ap,aA,hds,fN,hd];refine W.use e ?_;rintro _ rfl;simp only [ws,hd];refine W.use e2 ?_;rintro _ rfl;simp only [ws];rw [<- Bool.decide_and,show decide (dep s<=d - 1/\dep t<=d - 1)=decide (dep (.both s t)<=d) from decide_eq_decide.mpr (by simp only [dep]; omega)]
    | either s t =>
     have e:=fy T n s (d - 1) (by omega) ho.1;have e2:=fy T n t (d - 1) (by omega) ho.2;simp only [sD,cu,ws,h1,Int.reduceEq,Int.reduceAdd,ap,aA,hds,fN,hd];refine W.use e ?_;rintro _ rfl;simp only [ws,hd];refine W.use e2 ?_;rintro _ rfl;simp only [ws];rw [<- Bool.decide_and,show decide (dep s<=d - 1/\dep t<=d - 1)=decide (dep (.either s t)<=d) from decide_eq_decide.mpr (by simp only [dep]; omega)]
    | _=>exact (hp (by rfl)).elim
def jJ:∀ (n:Nat) (s:Sn),dep s<=n->W (bj n [sD s]) (fun r=>r=(.int (cnt s),[none]))
 | 0,s,h=>by have:=io s; omega
 | n+1,s,h=>by
  show W (fnF 0 [0] (bV (bj n)) _) _;cases s with
  | no s =>
   have e:=jJ n s (by simp only [dep] at h; omega);simp only [sD,bV,ws,Int.reduceEq,ap,aA,hds,dM];refine W.use e ?_;rintro _ rfl;simp only [ws,cnt];simp only [za1,PyData.int.injEq,and_true];omega
  | both s t =>
   have e:=jJ n s (by simp only [dep] at h; omega);have e2:=jJ n t (by simp only [dep] at h; omega);simp only [sD,bV,ws,Int.reduceEq,ap,aA,hds,dM];refine W.use e ?_;rintro _ rfl;simp only [ws];refine W.use e2 ?_;rintro _ rfl;simp only [ws,cnt];simp only [za1,PyData.int.injEq,and_true];omega
  | either s t =>
   have e:=jJ n s (by simp only [dep] at h; omega);have e2:=jJ n t (by simp only [dep] at h; omega);simp only [sD,bV,ws,Int.reduceEq,ap,aA,hds,dM];refine W.use e ?_;rintro _ rfl;simp only [ws];refine W.use e2 ?_;rintro _ rfl;simp only [ws,cnt];simp only [za1,PyData.int.injEq,and_true];omega
  | _=>simp only [sD,bV,ws,Int.reduceEq,ap,aA,hds,cnt]; rfl
def isS (s:Sn):Bool:=decide (dep s<=4) && decide (cnt s<=9)
def pW (T:TOk ks) {s:Sn} (ho:SOk ks s):W (da [tD ks,sD s]) (fun r=>r=(.bool (isS s),[none,none])):=by
 have e:=fy T 6 s 4 (by omega) ho;simp only [da,iR,ws];refine W.use e ?_;rintro _ rfl;by_cases h:dep s<=4
 ·rw [zaB h];simp only [ws];refine W.use (jJ 6 s (by omega)) ?_;rintro _ rfl;simp only [ws,isS,zaB h,Bool.true_and];rw [show decide ((cnt s:Int)<=9)=decide (cnt s<=9) from decide_eq_decide.mpr (by omega)]
 ·rw [zaA h];simp only [ws,isS,zaA h,Bool.false_and]
def ve {k:Str} (h1:1<=(li k).length) (h2:(li k).length<=6) (hm:∀ c∈li k,c∈li ev):W (gj [.str k]) (fun r=>r=(.bool true,[none])):=by
 have hl:(li k).length=k.length:=zaY;have a:(1:Int)<=(k.length:Nat):=by omega
 have b:((k.length:Nat):Int)<=6:=by omega
 simp only [gj,m4,ws,a,b];refine ⟨sz (by omega),?_⟩;refine lh (fun _=>.bool true) (by unfold eT; rw [zad]; exact sz (by omega)) (fun t ht=>?_) fun o'=>?_
 ·obtain ⟨c,hc,rfl⟩:=zaz.mp ht;obtain ⟨c1,c2,c3⟩:=EF c (hm c hc);have e:tz [.str (mk1 c)]=some (.int (c:Nat)):=rfl;have d1:(33:Int)<=(c:Nat):=by omega
  have d2:((c:Nat):Int)<=126:=by omega
  have d3:¬ ((c:Nat):Int)=37:=by omega
  simp only [om,iO,mY,ws,e,d1,d2,d3]
 ·have e:=all_map (fun _:D=>true) (eT k);simp only [ws,e];simp
def rW (T:TOk ks):W (eE [tD ks]) (fun r=>r=(.bool true,[none])):=by
 obtain ⟨n1,n4,fu,nd,l12,l1,mem⟩:=T;have T:TOk ks:=⟨n1,n4,fu,nd,l12,l1,mem⟩;have a:(1:Int)<=(ks.length:Nat):=by omega
 have b:((ks.length:Nat):Int)<=4:=by omega
 have c:((sgs ks).length:Int)<=12:=by rw [oM]; omega
 simp only [eE,kx,tD,ws,a,b];refine lh (fun _=>.bool true) (by rw [zad]; exact sz (by omega)) (fun t ht=>?_) fun o'=>?_
 ·obtain ⟨k,hk,rfl⟩:=zaz.mp ht;simp only [lC,ws];refine W.use (ve (fu k hk).1 (fu k hk).2 fun c hc=>mem c ?_) ?_
  ·unfold br;exact List.mem_flatten.mpr ⟨li k,zaz.mpr ⟨k,hk,rfl⟩,hc⟩
  ·rintro _ rfl;simp only [ws]
 ·have e:=all_map (fun _:D=>true) (List.map PyData.str ks);have e2:((List.map PyData.str ks).all fun _=>true)=true:=by simp
  simp only [ws,e,e2];refine W.use (uG T) ?_;rintro _ rfl;simp only [ws,c];refine ⟨sz (by rw [oM]; omega),?_⟩;refine W.use (pi (z:=sgs ks) nd (by rw [oM]; omega)) ?_;rintro _ rfl;simp only [ws]
def rD (ks:List Str) (ss:List Sn):D:=.tuple [tD ks,.tuple (ss.map sD)]
def vd (T:TOk ks) {ss:List Sn} (hl:ss.length<=8) (ho:∀ s∈ss,SOk ks s/\isS s=true):W (gi [rD ks ss]) (fun r=>r=(.bool true,[none])):=by
 have a:¬ (8:Int) < (ss.length:Nat):=by omega
 simp only [gi,mZ,rD,ws,Int.reduceEq];refine W.use (rW T) ?_;rintro _ rfl;simp only [ws,a];refine lh (fun _=>.bool true) (by rw [zad]; exact sz (by omega)) (fun t ht=>?_) fun o'=>?_
 ·obtain ⟨s,hs,rfl⟩:=zaz.mp ht;simp only [oi,ws];refine W.use (pW T (ho s hs).1) ?_;rintro _ rfl;simp only [ws,(ho s hs).2]
 ·have e:=all_map (fun _:D=>true) (List.map sD ss);have e2:((List.map sD ss).all fun _=>true)=true:=by simp
  simp only [ws,e,e2]
end
def jn (c:Nat):List (List Nat)->List Nat
 | []=>[]
 | [y]=>y
 | y :: z :: r=>y++c :: jn c (z :: r)
def HL (c:Nat):∀ (ys zs:List (List Nat)),ys≠[]->zs≠[]->(∀ y∈ys,c ∉ y)->(∀ z∈zs,c ∉ z)->jn c ys=jn c zs->ys=zs:=by
 have key:∀ (a b x y:List Nat),c ∉ a->c ∉ b->a++c :: x=b++c :: y->a=b/\x=y:=by
  intro a
  induction a with
  | nil =>
   intro b x y _ hb e;cases b with
   | nil=>simp at e; exact ⟨rfl,e⟩
   | cons d b=>simp at e; exact absurd e.1.symm (fun z=>hb (by rw [z]; exact zaq))
  | cons d a ih =>
   intro b x y ha hb e;cases b with
   | nil=>simp at e; exact absurd e.1 (fun z=>ha (by rw [z]; exact zaq))
   | cons d' b =>
    simp at e;obtain ⟨e1,e2⟩:=ih b x y (fun z=>ha (zaj _ z)) (fun z=>hb (zaj _ z)) e.2;exact ⟨by rw [e.1,e1],e2⟩
 intro ys
 induction ys with
 | nil=>intro zs h; exact absurd rfl h
 | cons y ys ih =>
  intro zs _ hz hy hz' e;cases zs with
  | nil=>exact absurd rfl hz
  | cons z zs =>
   have hy0:=hy y zaq;have hz0:=hz' z zaq;cases ys with
   | nil =>
    cases zs with
    | nil=>exact congrArg (fun a=>[a]) e
    | cons z2 zs =>
     have e':y=z++c :: jn c (z2 :: zs):=e;exact absurd (by rw [e']; simp) hy0
   | cons y2 ys =>
    cases zs with
    | nil =>
     have e':y++c :: jn c (y2 :: ys)=z:=e;exact absurd (by rw [<- e']; simp) hz0
    | cons z2 zs =>
     obtain ⟨e1,e2⟩:=key y z _ _ hy0 hz0 e;rw [e1,ih (z2 :: zs) (by simp) (by simp) (fun a ha=>hy a (zaj _ ha)) (fun a ha=>hz' a (zaj _ ha)) e2]
def u0 (a b:Str):li (a++b)=li a++li b:=Array.toList_append
def ck (c:Nat):∀ ys:List Str,li (Str.join ⟨#[c]⟩ ys)=jn c (ys.map li)
 | []=>rfl
 | [y]=>by simp [Str.join,jn]
 | y :: z :: r=>by
  have ih:=ck c (z :: r);show li (Str.join ⟨#[c]⟩ (y :: z :: r))=li y++c :: jn c ((z :: r).map li);rw [<- ih];rw [Str.join.eq_3 _ _ _ (by simp),u0,u0,zaD];rfl
def lP {a b:Str} (h:li a=li b):a=b:=by
 obtain ⟨a⟩:=a;obtain ⟨b⟩:=b;congr 1;exact Array.toList_inj.mp h
def wd (x y:Str):Txt.split x y≠[]:=by
 unfold Txt.split;split
 ·simp
 ·split
  ·simp
  ·intro h
   have:=congrArg List.length h;rw [PyProof.Rows.len_partsBetween] at this;simp at this
def s0 {c:Nat} {ys:List Str} (hne:ys≠[]) (hf:∀ y∈ys,c ∉ li y):Txt.split (Str.join ⟨#[c]⟩ ys) ⟨#[c]⟩=ys:=by
 have h1:=StrLaws.join_split (Str.join ⟨#[c]⟩ ys) ⟨#[c]⟩;have h2:=StrLaws.split_free (Str.join ⟨#[c]⟩ ys) c;have h3:=wd (Str.join ⟨#[c]⟩ ys) ⟨#[c]⟩;revert h1 h2 h3;generalize Txt.split (Str.join ⟨#[c]⟩ ys) ⟨#[c]⟩=zs;intro h1 h2 h3;have h4:=congrArg li h1;rw [ck,ck] at h4;have h5:=HL c _ _ (by simpa using h3) (by simpa using hne) (fun z hz=>by
  obtain ⟨w,hw,rfl⟩:=zaz.mp hz;exact h2 w hw) (fun z hz=>by
  obtain ⟨w,hw,rfl⟩:=zaz.mp hz;exact hf w hw) h4
 exact (List.map_inj_right fun a b h=>lP h).mp h5
def nA (c B:Nat):∀ ls:List (List Nat),(∀ y∈ls,y.length<=B)->(jn c ls).length<=(B+1) * ls.length
 | [],_=>Nat.zero_le _
 | [y],h=>by
  have:=h y (by simp);show y.length<=(B+1) * 1;omega
 | y :: z :: r,h=>by
  have h1:=h y (by simp);have h2:=nA c B (z :: r) fun a ha=>h a (zaj _ ha);show (y++c :: jn c (z :: r)).length<=(B+1) * ((z :: r).length+1);rw [zae,zac,Nat.mul_add];omega
def Jx (x:Str) {c:Nat} (hc:c < 256):decide (Builtin.Str.strKind x < Builtin.Str.strKind ⟨#[c]⟩)=false:=by
 have e:Builtin.Str.strKind ⟨#[c]⟩=1:=by
  unfold Builtin.Str.strKind;rw [if_pos (by simp [hc])]
 rw [e];refine zaA fun h=>?_;unfold Builtin.Str.strKind at h;split at h
 ·omega
 ·split at h <;> omega
def iX {c B:Nat} {ys:List Str} {y0:Str} (hc:c < 256) (hne:ys.head?=some y0) (h0:1<=(li y0).length) (hf:∀ y∈ys,c ∉ li y) (hB:∀ y∈ys,(li y).length<=B) (hl:(B+1) * ys.length<=90000) (hl2:ys.length<=1000) :
  dA (.str (Str.join ⟨#[c]⟩ ys)) (.str ⟨#[c]⟩)=some (.list (ys.map .str)):=by
 have hne':ys≠[]:=fun e=>by rw [e] at hne; cases hne
 have hs:=s0 hne' hf;have hx:(Str.join ⟨#[c]⟩ ys).length<=90000:=by
  rw [<- ll,ck]
  have:=nA c B (ys.map li) (fun y hy=>by
   obtain ⟨w,hw,rfl⟩:=zaz.mp hy;exact hB w hw)
  rw [zad] at this;omega
 have h1:1<=(Str.join ⟨#[c]⟩ ys).length:=by
  rw [<- ll,ck];cases ys with
  | nil=>exact absurd rfl hne'
  | cons y ys =>
   cases hne;cases ys with
   | nil=>exact h0
   | cons z zs =>
    show 1<=(li y0++c :: jn c ((z :: zs).map li)).length;rw [zae];omega
 have cond:(decide ((Str.join ⟨#[c]⟩ ys).length < (⟨#[c]⟩:Str).length) || decide (Builtin.Str.strKind (Str.join ⟨#[c]⟩ ys) < Builtin.Str.strKind ⟨#[c]⟩))=false:=by
  rw [Jx _ hc,Bool.or_false];exact zaA (by show ¬ _ < 1; omega)
 have e:jC (Str.join ⟨#[c]⟩ ys) ⟨#[c]⟩=ys:=by
  rw [<- hs]
  conv=>rhs; unfold Txt.split
  rw [hs,if_neg (by rw [cond]; exact Bool.false_ne_true)];rfl
 show grd _ _=_;unfold grd;rw [e,if_pos ⟨cond,rfl,by omega,by omega⟩]
def sj {B:Nat}:∀ {ys:List Str},(∀ y∈ys,(li y).length<=B)->(ys.map (·.length)).sum<=B * ys.length
 | [],_=>Nat.zero_le _
 | y :: ys,h=>by
  have h1:=h y (by simp);have h2:=sj (B:=B) (ys:=ys) fun z hz=>h z (zaj _ hz);rw [ll] at h1;rw [zar,List.sum_cons,zac,Nat.mul_add];omega
def qV {c B:Nat} {ys:List Str} (hB:∀ y∈ys,(li y).length<=B) (hl:(B+1) * ys.length<=90000):joinD ⟨#[c]⟩ [.list (ys.map .str)]=some (.str (Str.join ⟨#[c]⟩ ys)):=by
 have:=sj hB;rw [Nat.add_mul] at hl;show (joinD.strsOf (ys.map .str)).bind _=_;rw [jQ];show (if _ then _ else _)=_;rw [if_pos ⟨by show 1<=16; decide,by omega⟩];show some (PyData.str (Builtin.Str.glued _ _))=_;rw [StrLaws.glued_eq_join]
def num (n:Nat):Str:=toString (n:Int)
def p9 (z:Str):Prop:=1<=(li z).length/\(li z).length<=2/\(∀ c∈li z,c∈li "0123456789")/\(z="0"\/Txt.startswith z "0"=false)
instance (z:Str):Decidable (p9 z):=by unfold p9; infer_instance
def qI:∀ n,n < 31->p9 (num n):=by decide +kernel
def Jr:∀ n,n < 31->∀ c∈li (num n),okc c:=by decide +kernel
def DN:∀ n,n < 31->ua [.str (num n)]=some (.int (n:Nat)):=by
 intro n hn;have key:∀ n,n < 31->(figU.find? fun p=>decide (p.1=num n))=some (num n,(n:Int)):=by decide +kernel
 show ((figU.find? fun p=>decide (p.1=num n)).map fun p=>PyData.int p.2)=_;rw [key n hn];rfl
def dC {n:Nat} (h:n < 31):nc [.int (n:Nat)]=some (.str (num n)):=by
 show grd _ _=_;unfold grd;rw [if_pos]
 ·rfl
 ·have:∀ n:Nat,n < 31->((n:Int)).natAbs.log2 < 1920:=by decide +kernel
  exact this n h
def Hn:∀ n,n < 31->num n≠"-":=by decide +kernel
def wS {z:Str} (h:p9 z):W (cm [.str z]) (fun r=>r=(.bool true,[none])):=by
 obtain ⟨h1,h2,h3,h4⟩:=h;have lz:=ll z;have a:(1:Int)<=(z.length:Nat):=by omega
 have b:((z.length:Nat):Int)<=80:=by omega
 simp only [cm,fP,ws,a,b];refine ⟨sz (by omega),?_⟩;have e0:eT z=(li z).map s1:=rfl;rw [e0];refine lh (fun _=>.bool true) (by rw [zad]; exact sz (by omega)) (fun t ht=>?_) fun o'=>?_
 ·obtain ⟨c,hc,rfl⟩:=zaz.mp ht;have e:iB "0123456789" (mk1 c)=true:=(StrLaws.found_one "0123456789" c).trans (zaB (h3 c hc));simp only [hG,ws,e]
 ·have e:=all_map (fun _:D=>true) ((li z).map s1);have e2:((li z).map s1).all (fun _=>true)=true:=by simp
  simp only [ws,e,e2];rcases h4 with h4 | h4
  ·simp only [ws,h4]
  ·by_cases hz:z="0"
   ·simp only [ws,hz]
   ·simp only [ws,hz,h4]
def p8:(" " : Str)=⟨#[32]⟩:=by decide +kernel
def C6:("\n" : Str)=⟨#[10]⟩:=by decide +kernel
def qW (c:Nat):∀ {ls:List (List Nat)} {x:Nat},x∈jn c ls->x=c\/∃ y∈ls,x∈y
 | [y],x,h=>.inr ⟨y,by simp,h⟩
 | y :: z :: r,x,h=>by
  rcases zax.mp (show x∈y++c :: jn c (z :: r) from h) with h | h
  ·exact .inr ⟨y,by simp,h⟩
  ·rcases zay.mp h with h | h
   ·exact .inl h
   ·rcases qW c h with h | ⟨w,hw,hx⟩
    ·exact .inl h
    ·exact .inr ⟨w,zaj _ hw,hx⟩
def oS:Option Nat->Str
 | none=>"-"
 | some n=>num n
def wdS:Sn->List Str
 | .long lo hi=>["long",num lo,oS hi]
 | .least k m=>["least",num k,num m]
 | .often z m=>["often",z,num m]
 | .apart=>["apart"]
 | .without z=>["without",z]
 | .begins z=>["begins",z]
 | .ends z=>["ends",z]
 | .no s=>"not" :: wdS s
 | .both s t=>"both" :: (wdS s++wdS t)
 | .either s t=>"either" :: (wdS s++wdS t)
def stx (s:Sn):Str:=Str.join ⟨#[32]⟩ (wdS s)
def lH:∀ s,wdS s≠[]:=by intro s; cases s <;> simp [wdS]
def cP:∀ s,(wdS s).length<=3 * cnt s
 | .no s=>by have:=cP s; simp only [wdS,cnt,zac]; omega
 | .both s t=>by have:=cP s; have:=cP t; simp only [wdS,cnt,zac,zae]; omega
 | .either s t=>by have:=cP s; have:=cP t; simp only [wdS,cnt,zac,zae]; omega
 | .long lo hi=>by simp only [wdS,cnt,zac,List.length_nil]; omega
 | .least k m=>by simp only [wdS,cnt,zac,List.length_nil]; omega
 | .often z m=>by simp only [wdS,cnt,zac,List.length_nil]; omega
 | .apart=>by simp only [wdS,cnt,zac,List.length_nil]; omega
 | .without z=>by simp only [wdS,cnt,zac,List.length_nil]; omega
 | .begins z=>by simp only [wdS,cnt,zac,List.length_nil]; omega
 | .ends z=>by simp only [wdS,cnt,zac,List.length_nil]; omega
def WX (w:Str):Prop:=1<=(li w).length/\(li w).length<=7/\∀ c∈li w,okc c
instance (w:Str):Decidable (WX w):=by unfold WX; infer_instance
def kI {n:Nat} (h:n < 31):WX (num n):=⟨(qI n h).1,by have:=(qI n h).2.1; omega,Jr n h⟩
section
variable {ks:List Str}
def m5 (T:TOk ks) {z:Str} (h1:1<=z.length) (h2:z.length<=7) (h3:∀ c∈li z,c∈br ks):WX z:=⟨by rw [ll]; exact h1,by rw [ll]; exact h2,fun c hc=>vE c (T.mem c (h3 c hc))⟩
def dN (T:TOk ks):∀ s,SOk ks s->∀ w∈wdS s,WX w
 | .long lo hi,ho,w,hw=>by
  obtain ⟨h1,h2⟩:=ho;simp only [wdS,zay,zap,or_false] at hw;rcases hw with rfl | rfl | rfl
  ·decide +kernel
  ·exact kI (by omega)
  ·cases hi with
   | none=>decide +kernel
   | some m=>exact kI (by have:=h2 m rfl; omega)
 | .least k m,ho,w,hw=>by
  obtain ⟨h1,h2⟩:=ho
  have:=T.n4;simp only [wdS,zay,zap,or_false] at hw;rcases hw with rfl | rfl | rfl
  ·decide +kernel
  ·exact kI (by omega)
  ·exact kI (by omega)
 | .often z m,ho,w,hw=>by
  obtain ⟨h1,h2,h3,h4,h5⟩:=ho;simp only [wdS,zay,zap,or_false] at hw;rcases hw with rfl | rfl | rfl
  ·decide +kernel
  ·exact m5 T h1 (by omega) h4
  ·exact kI (by omega)
 | .apart,ho,w,hw=>by
  simp only [wdS,zay,zap,or_false] at hw;subst hw;decide +kernel
 | .without z,ho,w,hw=>by
  obtain ⟨h1,h2,h3⟩:=ho;simp only [wdS,zay,zap,or_false] at hw;rcases hw with rfl | rfl
  ·decide +kernel
  ·exact m5 T h1 (by omega) h3
 | .begins z,ho,w,hw=>by
  obtain ⟨h1,h2,h3⟩:=ho;simp only [wdS,zay,zap,or_false] at hw;rcases hw with rfl | rfl
  ·decide +kernel
  ·exact m5 T h1 (by omega) h3
 | .ends z,ho,w,hw=>by
  obtain ⟨h1,h2,h3⟩:=ho;simp only [wdS,zay,zap,or_false] at hw;rcases hw with rfl | rfl
  ·decide +kernel
  ·exact m5 T h1 (by omega) h3
 | .no s,ho,w,hw=>by
  rcases zay.mp hw with rfl | hw
  ·decide +kernel
  ·exact dN T s ho w hw
 | .both s t,ho,w,hw=>by
  rcases zay.mp hw with rfl | hw
  ·decide +kernel
  ·rcases zax.mp hw with hw | hw
   ·exact dN T s ho.1 w hw
   ·exact dN T t ho.2 w hw
 | .either s t,ho,w,hw=>by
  rcases zay.mp hw with rfl | hw
  ·decide +kernel
  ·rcases zax.mp hw with hw | hw
   ·exact dN T s ho.1 w hw
   ·exact dN T t ho.2 w hw
def ii (T:TOk ks) {s:Sn} (ho:SOk ks s) (hc:cnt s<=9):(li (stx s)).length<=216:=by
 have w1:=dN T s ho;have w2:=cP s;unfold stx;rw [ck]
 have:=nA 32 7 ((wdS s).map li) (fun y hy=>by
  obtain ⟨w,hw,rfl⟩:=zaz.mp hy;exact (w1 w hw).2.1)
 rw [zad] at this;omega
def vZ (T:TOk ks) {s:Sn} (ho:SOk ks s):10 ∉ li (stx s):=by
 have w1:=dN T s ho;unfold stx;rw [ck];intro z;rcases qW 32 z with z | ⟨y,hy,z⟩
 ·cases z
 ·obtain ⟨w,hw,rfl⟩:=zaz.mp hy;exact ((w1 w hw).2.2 10 z).2.1 rfl
end
def vc (c:Nat):∀ (a b:List (List Nat)),a≠[]->b≠[]->jn c (a++b)=jn c a++c :: jn c b
 | [],_,h,_=>absurd rfl h
 | [y],b,_,hb=>by
  cases b with
  | nil=>exact absurd rfl hb
  | cons z r=>rfl
 | y :: z :: r,b,_,hb=>by
  show y++c :: jn c (z :: r++b)=(y++c :: jn c (z :: r))++c :: jn c b;rw [vc c (z :: r) b (by simp) hb,zaD];rfl
def fU (c:Nat) (a b:List Str) (ha:a≠[]) (hb:b≠[]):li (Str.join ⟨#[c]⟩ (a++b))=li (Str.join ⟨#[c]⟩ a)++c :: li (Str.join ⟨#[c]⟩ b):=by
 rw [ck,ck,ck,zaC,vc c _ _ (by simpa using ha) (by simpa using hb)]
def mI (c:Nat) (y:Str):Str.join ⟨#[c]⟩ [y]=y:=lP (by rw [ck]; rfl)
def Jy (c:Nat) (h:Str) (a:List Str) (ha:a≠[]):Str.join ⟨#[c]⟩ [h,Str.join ⟨#[c]⟩ a]=Str.join ⟨#[c]⟩ (h :: a):=lP (by
 have e1:=fU c [h] a (by simp) ha;have e2:=fU c [h] [Str.join ⟨#[c]⟩ a] (by simp) (by simp);rw [mI] at e2;exact e2.trans e1.symm)
def Dh (c:Nat) (h:Str) (a b:List Str) (ha:a≠[]) (hb:b≠[]):Str.join ⟨#[c]⟩ [h,Str.join ⟨#[c]⟩ a,Str.join ⟨#[c]⟩ b]=Str.join ⟨#[c]⟩ (h :: (a++b)):=lP (by
 have e1:=fU c [h] (a++b) (by simp) (by simp [ha]);have e2:=fU c [h] [Str.join ⟨#[c]⟩ a,Str.join ⟨#[c]⟩ b] (by simp) (by simp);have e3:=fU c [Str.join ⟨#[c]⟩ a] [Str.join ⟨#[c]⟩ b] (by simp) (by simp);rw [mI,mI,<- fU c a b ha hb] at e3;rw [show [Str.join ⟨#[c]⟩ a]++[Str.join ⟨#[c]⟩ b]=[Str.join ⟨#[c]⟩ a,Str.join ⟨#[c]⟩ b] from rfl] at e3;rw [e3] at e2;exact e2.trans e1.symm)
section
variable {ks:List Str}
def str_str (z:Str):nc [.str z]=some (.str z):=rfl
def jl {ys:List Str} {B:Nat} (hB:∀ y∈ys,(li y).length<=B) (hl:(B+1) * ys.length<=90000):joinD " " [.list (ys.map .str)]=some (.str (Str.join ⟨#[32]⟩ ys)):=by rw [p8]; exact qV hB hl
def jl2 {x y:Str} (h1:(li x).length<=300) (h2:(li y).length<=300):joinD " " [.list [.str x,.str y]]=some (.str (Str.join ⟨#[32]⟩ [x,y])):=jl (ys:=[x,y]) (B:=300) (by simpa only [List.forall_mem_cons,List.forall_mem_nil,and_true] using ⟨h1,h2,fun _ h=>nomatch h⟩) (by show 301 * 2<=90000; decide)
def jl3 {x y z:Str} (h1:(li x).length<=300) (h2:(li y).length<=300) (h3:(li z).length<=300):joinD " " [.list [.str x,.str y,.str z]]=some (.str (Str.join ⟨#[32]⟩ [x,y,z])):=jl (ys:=[x,y,z]) (B:=300) (by simpa only [List.forall_mem_cons,List.forall_mem_nil,and_true] using ⟨h1,h2,h3,fun _ h=>nomatch h⟩) (by show 301 * 3<=90000; decide)
def jl1 {x:Str} (h1:(li x).length<=300):joinD " " [.list [.str x]]=some (.str (Str.join ⟨#[32]⟩ [x])):=jl (ys:=[x]) (B:=300) (by simpa only [List.forall_mem_cons,List.forall_mem_nil,and_true] using ⟨h1,fun _ h=>nomatch h⟩) (by show 301 * 1<=90000; decide)
def ij (T:TOk ks):∀ (n:Nat) (s:Sn),dep s<=n->cnt s<=9->SOk ks s->W (aC n [sD s]) (fun r=>r=(.str (stx s),[none]))
 | 0,s,h,_,_=>by have:=io s; omega
 | n+1,s,h,hc,ho=>by
  have wa:=dN T s ho;have wl:∀ w∈wdS s,(li w).length<=300:=fun w hw=>by have:=(wa w hw).2.1; omega
  show W (fnF 0 [0] (aK (aC n)) _) _;cases s with
  | long lo hi =>
   obtain ⟨h1,h2⟩:=ho;have e1:=dC (n:=lo) (by omega);have ej:=jl3 (wl "long" (by simp [wdS])) (wl (num lo) (by simp [wdS])) (wl (oS hi) (by simp [wdS]));cases hi with
   | none=>simp only [sD,oD,oS,aK,aR,aL,bn,ws,str_str,e1] at ej ⊢; simp only [ws,ej]; rfl
   | some m =>
    have e2:=dC (n:=m) (by have:=h2 m rfl; omega);simp only [sD,oD,oS,aK,aR,aL,bn,ws,str_str,e1,e2] at ej ⊢; simp only [ws,ej]; rfl
  | least k m =>
   obtain ⟨h1,h2⟩:=ho
   have:=T.n4;have e1:=dC (n:=k) (by omega);have e2:=dC (n:=m) (by omega);have ej:=jl3 (wl "least" (by simp [wdS])) (wl (num k) (by simp [wdS])) (wl (num m) (by simp [wdS]));simp only [sD,aK,aR,aL,bn,ws,str_str,e1,e2,ej]; rfl
  | often z m =>
   obtain ⟨h1,h2,h3,h4,h5⟩:=ho;have e2:=dC (n:=m) (by omega);have ej:=jl3 (wl "often" (by simp [wdS])) (wl z (by simp [wdS])) (wl (num m) (by simp [wdS]));simp only [sD,aK,aR,aL,bn,ws,str_str,e2,ej]; rfl
  | apart =>
   have ej:=jl1 (wl "apart" (by simp [wdS]));simp only [sD,aK,aR,aL,bn,ws,str_str,ej]; rfl
  | without z =>
   have ej:=jl2 (wl "without" (by simp [wdS])) (wl z (by simp [wdS]));simp only [sD,aK,aR,aL,bn,ws,str_str,ej]; rfl
  | begins z =>
   have ej:=jl2 (wl "begins" (by simp [wdS])) (wl z (by simp [wdS]));simp only [sD,aK,aR,aL,bn,ws,str_str,ej]; rfl
  | ends z =>
   have ej:=jl2 (wl "ends" (by simp [wdS])) (wl z (by simp [wdS]));simp only [sD,aK,aR,aL,bn,ws,str_str,ej]; rfl
  | no s =>
   have ih:=ij T n s (by simp only [dep] at h; omega) (by simp only [cnt] at hc; omega) ho;have sl:=ii T (s:=s) ho (by simp only [cnt] at hc; omega);have ej:=jl2 (wl "not" (by simp [wdS])) (show (li (stx s)).length<=300 by omega);have ex:∃ ts,sD s=.tuple ts:=by cases s <;> exact ⟨_,rfl⟩
   obtain ⟨ts,es⟩:=ex;rw [es] at ih;simp only [sD,es,aK,aR,aL,bn,ws,str_str];refine W.use ih ?_;rintro _ rfl;simp only [ws,ej];rw [stx,stx,Jy 32 _ _ (lH s)];rfl
  | both s t =>
   simp only [dep] at h;simp only [cnt] at hc;have i1:=ij T n s (by omega) (by omega) ho.1;have i2:=ij T n t (by omega) (by omega) ho.2;have s1:=ii T (s:=s) ho.1 (by omega);have s2:=ii T (s:=t) ho.2 (by omega);have ej:=jl3 (wl "both" (by simp [wdS])) (show (li (stx s)).length<=300 by omega) (show (li (stx t)).length<=300 by omega);obtain ⟨ts,es⟩:∃ ts,sD s=.tuple ts:=by cases s <;> exact ⟨_,rfl⟩
   obtain ⟨us,et⟩:∃ ts,sD t=.tuple ts:=by cases t <;> exact ⟨_,rfl⟩
   rw [es] at i1;rw [et] at i2;simp only [sD,es,et,aK,aR,aL,bn,ws,str_str];refine W.use i1 ?_;rintro _ rfl;simp only [ws];refine W.use i2 ?_;rintro _ rfl;simp only [ws,ej];rw [stx,stx,stx,Dh 32 _ _ _ (lH s) (lH t)];rfl
  | either s t =>
   simp only [dep] at h;simp only [cnt] at hc;have i1:=ij T n s (by omega) (by omega) ho.1;have i2:=ij T n t (by omega) (by omega) ho.2;have s1:=ii T (s:=s) ho.1 (by omega);have s2:=ii T (s:=t) ho.2 (by omega);have ej:=jl3 (wl "either" (by simp [wdS])) (show (li (stx s)).length<=300 by omega) (show (li (stx t)).length<=300 by omega);obtain ⟨ts,es⟩:∃ ts,sD s=.tuple ts:=by cases s <;> exact ⟨_,rfl⟩
   obtain ⟨us,et⟩:∃ ts,sD t=.tuple ts:=by cases t <;> exact ⟨_,rfl⟩
   rw [es] at i1;rw [et] at i2;simp only [sD,es,et,aK,aR,aL,bn,ws,str_str];refine W.use i1 ?_;rintro _ rfl;simp only [ws];refine W.use i2 ?_;rintro _ rfl;simp only [ws,ej];rw [stx,stx,stx,Dh 32 _ _ _ (lH s) (lH t)];rfl
def e7 (T:TOk ks):∀ (n:Nat) (s:Sn),dep s<=n->cnt s<=9->SOk ks s->W (be n [sD s]) (fun r=>r=(.list ((wdS s).map .str),[none]))
 | 0,s,h,_,_=>by have:=io s; omega
 | n+1,s,h,hc,ho=>by
  show W (fnF 2 [0] (bf (be n)) _) _;cases s with
  | long lo hi =>
   obtain ⟨h1,h2⟩:=ho;have e1:=dC (n:=lo) (by omega);cases hi with
   | none=>simp only [sD,oD,oS,bf,bi,ws,str_str,e1]; rfl
   | some m =>
    have e2:=dC (n:=m) (by have:=h2 m rfl; omega);simp only [sD,oD,oS,bf,bi,ws,str_str,e1,e2]; rfl
  | least k m =>
   obtain ⟨h1,h2⟩:=ho
   have:=T.n4;have e1:=dC (n:=k) (by omega);have e2:=dC (n:=m) (by omega);simp only [sD,bf,bi,ws,str_str,e1,e2]; rfl
  | often z m =>
   obtain ⟨h1,h2,h3,h4,h5⟩:=ho;have e2:=dC (n:=m) (by omega);simp only [sD,bf,bi,ws,str_str,e2]; rfl
  | apart=>simp only [sD,bf,bi,ws,str_str]; rfl
  | without z=>simp only [sD,bf,bi,ws,str_str]; rfl
  | begins z=>simp only [sD,bf,bi,ws,str_str]; rfl
  | ends z=>simp only [sD,bf,bi,ws,str_str]; rfl
  | no s =>
   simp only [dep] at h;simp only [cnt] at hc;have ih:=e7 T n s (by omega) (by omega) ho;obtain ⟨ts,es⟩:∃ ts,sD s=.tuple ts:=by cases s <;> exact ⟨_,rfl⟩
   rw [es] at ih;simp only [sD,es,bf,bi,ws];refine W.use ih ?_;rintro _ rfl;have wl:=cP s;simp only [ws,wdS];exact ⟨sz (by show 1+_<=_; omega),rfl⟩
  | both s t =>
   simp only [dep] at h;simp only [cnt] at hc;have i1:=e7 T n s (by omega) (by omega) ho.1;have i2:=e7 T n t (by omega) (by omega) ho.2;obtain ⟨ts,es⟩:∃ ts,sD s=.tuple ts:=by cases s <;> exact ⟨_,rfl⟩
   obtain ⟨us,et⟩:∃ ts,sD t=.tuple ts:=by cases t <;> exact ⟨_,rfl⟩
   rw [es] at i1;rw [et] at i2;simp only [sD,es,et,bf,bi,ws];refine W.use i1 ?_;rintro _ rfl;have wl:=cP s;have wl2:=cP t;simp only [ws,wdS];refine ⟨sz (by show 1+_<=_; omega),W.use i2 ?_⟩;rintro _ rfl;simp only [ws];refine ⟨sz (by rw [zac,zad]; omega),?_⟩;rw [zar,zaC]
  | either s t =>
   simp only [dep] at h;simp only [cnt] at hc;have i1:=e7 T n s (by omega) (by omega) ho.1;have i2:=e7 T n t (by omega) (by omega) ho.2;obtain ⟨ts,es⟩:∃ ts,sD s=.tuple ts:=by cases s <;> exact ⟨_,rfl⟩
   obtain ⟨us,et⟩:∃ ts,sD t=.tuple ts:=by cases t <;> exact ⟨_,rfl⟩
   rw [es] at i1;rw [et] at i2;simp only [sD,es,et,bf,bi,ws];refine W.use i1 ?_;rintro _ rfl;have wl:=cP s;have wl2:=cP t;simp only [ws,wdS];refine ⟨sz (by show 1+_<=_; omega),W.use i2 ?_⟩;rintro _ rfl;simp only [ws];refine ⟨sz (by rw [zac,zad]; omega),?_⟩;rw [zar,zaC]
def GS (ks:List Str) (s:Sn):Prop:=SOk ks s/\dep s<=4/\cnt s<=9
def GS.is {s:Sn} (h:GS ks s):SOk ks s/\isS s=true:=⟨h.1,by rw [isS,zaB h.2.1,zaB h.2.2]; rfl⟩
def hd0 (ks:List Str):Str:=Str.join ⟨#[32]⟩ ("signs" :: ks)
def rtx (ks:List Str) (ss:List Sn):Str:=Str.join ⟨#[10]⟩ (hd0 ks :: ss.map stx)
def C9 (T:TOk ks):∀ k∈ks,WX k:=fun k hk=>⟨(T.fu k hk).1,by have:=(T.fu k hk).2; omega,fun c hc=>vE c (T.mem c (by unfold br; exact List.mem_flatten.mpr ⟨li k,zaz.mpr ⟨k,hk,rfl⟩,hc⟩))⟩
def nE (T:TOk ks):∀ k∈("signs" : Str) :: ks,WX k:=fun k hk=>by
 rcases zay.mp hk with rfl | hk
 ·decide +kernel
 ·exact C9 T k hk
def HM (T:TOk ks):(li (hd0 ks)).length<=40:=by
 have n4:=T.n4;unfold hd0;rw [ck]
 have:=nA 32 7 ((("signs" : Str) :: ks).map li) (fun y hy=>by
  obtain ⟨w,hw,rfl⟩:=zaz.mp hy;exact (nE T w hw).2.1)
 rw [zad,zac] at this;omega
def DY (T:TOk ks):10 ∉ li (hd0 ks):=by
 unfold hd0;rw [ck];intro z;rcases qW 32 z with z | ⟨y,hy,z⟩
 ·cases z
 ·obtain ⟨w,hw,rfl⟩:=zaz.mp hy;exact ((nE T w hw).2.2 10 z).2.1 rfl
def sF (T:TOk ks):joinD " " [.list (.str "signs" :: ks.map .str)]=some (.str (hd0 ks)):=by
 have n4:=T.n4;exact jl (ys:="signs" :: ks) (B:=7) (fun y hy=>(nE T y hy).2.1) (by rw [zac]; omega)
def uL (T:TOk ks) {ss:List Sn} (h:∀ s∈ss,GS ks s):∀ y∈hd0 ks :: ss.map stx,(li y).length<=216:=fun y hy=>by
 rcases zay.mp hy with rfl | hy
 ·have:=HM T; omega
 ·obtain ⟨s,hs,rfl⟩:=zaz.mp hy;exact ii T (h s hs).1 (h s hs).2.2
def uK (T:TOk ks) {ss:List Sn} (h:∀ s∈ss,GS ks s):∀ y∈hd0 ks :: ss.map stx,10 ∉ li y:=fun y hy=>by
 rcases zay.mp hy with rfl | hy
 ·exact DY T
 ·obtain ⟨s,hs,rfl⟩:=zaz.mp hy;exact vZ T (h s hs).1
def CY (T:TOk ks) {ss:List Sn} (hl:ss.length<=8) (h:∀ s∈ss,GS ks s):joinD "\n" [.list (.str (hd0 ks) :: (ss.map stx).map .str)]=some (.str (rtx ks ss)):=by
 rw [C6];exact qV (c:=10) (B:=216) (ys:=hd0 ks :: ss.map stx) (uL T h) (by rw [zac,zad]; omega)
def ltD (ks:List Str):gm [tD ks]=some (.list (ks.map .str)):=rfl
def Dp (T:TOk ks) {ss:List Sn} (hl:ss.length<=8) (h:∀ s∈ss,GS ks s):W (eF [rD ks ss]) (fun r=>r=(.str (rtx ks ss),[none])):=by
 have n4:=T.n4;simp only [eF,ky,rD,ws,ltD,sF T];refine ⟨sz (by show 1+_<=_; omega),JZ (fun i en=>∃ o2,en=[some (rD ks ss),some (.list (.str (hd0 ks) :: ((ss.take i).map stx).map .str)),o2]) ⟨none,rfl⟩ (fun i t en ht ⟨o2,e⟩=>?_) fun en ⟨o2,e⟩=>?_⟩
 ·subst e;rw [zao] at ht;obtain ⟨s,hs,rfl⟩:=zab.mp ht;have g:=h s (zaX hs);have tl:(ss.take i).length<=8:=by rw [zaE]; omega
  have wl:=cP s;have wc:=g.2.2;have ej:=jl (ys:=wdS s) (B:=7) (fun y hy=>(dN T s g.1 y hy).2.1) (by omega);simp only [lx,ws];refine W.use (e7 T 6 s (by have:=g.2.1; omega) wc g.1) ?_;rintro _ rfl;simp only [ws,ej];refine ⟨szl (by rw [zac,zad,zad]; omega),some (sD s),?_⟩;rw [kL hs,zaC,zaC];rfl
 ·subst e;rw [zad,zaQ];simp only [ws,CY T hl h]
def qu (T:TOk ks) {ss:List Sn} (hl:ss.length<=8) (h:∀ s∈ss,GS ks s):W (eB [rD ks ss]) (fun r=>r=(.str (rtx ks ss),[none])):=by
 have n4:=T.n4;simp only [eB,ku,rD,ws,ltD,sF T];refine ⟨sz (by show 1+_<=_; omega),pc (fun i us en=>us=((ss.take i).map stx).map .str/\∃ o,en=[o]) (by rw [zad]; exact sz (by omega)) ⟨rfl,none,rfl⟩ (fun i t us en ht hu ⟨e1,o,e2⟩=>?_) fun us en _ ⟨e1,o,e2⟩=>?_⟩
 ·subst e1 e2;rw [zao] at ht;obtain ⟨s,hs,rfl⟩:=zab.mp ht;have g:=h s (zaX hs);simp only [ws,lA];refine W.use (ij T 6 s (by have:=g.2.1; omega) g.2.2 g.1) ?_;rintro _ rfl;simp only [ws];refine ⟨?_,_,rfl⟩;rw [kL hs,zaC,zaC];rfl
 ·subst e1 e2;have ej:=CY T hl h;rw [zad,zaQ];simp only [ws,ej];exact sz (by show 1+_<=_; omega)
def He (t:D) (ts:List D):oC (t :: ts) 0=some (t,ts):=by
 unfold oC;have e:seqIndex? 0 (t :: ts).length=some 0:=seqIndex_of (by decide) (by rw [zac]; omega);rw [e];rfl
def bN {w:D} {ts:List D}:W (bG [.list (w :: ts)]) (fun r=>r=(w,[some (.list ts)])):=by
 have h:¬ (((w :: ts).length:Nat):Int)=0:=by rw [zac]; omega
 simp only [bG,jy,ws,h,He];exact ⟨by decide,by decide⟩
def gx {n:Nat} {ts:List D} (hn:n < 31):W (bt [.list (.str (num n) :: ts)]) (fun r=>r=(.int (n:Nat),[some (.list ts)])):=by
 simp only [bt,gZ,ws];refine W.use bN ?_;rintro _ rfl;simp only [ws];refine W.use (wS (qI n hn)) ?_;rintro _ rfl;simp only [ws,DN n hn]
def DX {hi:Option Nat} {ts:List D} (h:∀ m,hi=some m->m < 31):W (cL [.list (.str (oS hi) :: ts)]) (fun r=>r=(oD hi,[some (.list ts)])):=by
 have ec:du (PyData.str (oS hi) :: ts) none (some 1)=[.str (oS hi)]:=nR _ 1;have ee:=EH [oS hi] ["-"];simp only [zar,za0] at ee;cases hi with
 | none =>
  have q:decide ([oS none]=[("-" : Str)])=true:=by decide +kernel
  rw [q] at ee;simp only [cL,gw,ws,ec,ee,He,oD];exact ⟨by decide,by decide⟩
 | some m =>
  have q:decide ([oS (some m)]=[("-" : Str)])=false:=zaA (fun z=>Hn m (h m rfl) (by injection z));rw [q] at ee;simp only [cL,gw,ws,ec,ee];refine W.use (gx (h m rfl)) ?_;rintro _ rfl;simp only [ws,oD]
def cC (T:TOk ks):∀ (n:Nat) (s:Sn) (d:Nat) (ts:List D),dep s<=d->d < n->SOk ks s->W (aU n [.list ((wdS s).map .str++ts),.int d]) (fun r=>r=(sD s,[some (.list ts),none]))
 | 0,_,_,_,_,h,_=>by omega
 | n+1,s,d,ts,hd,hn,ho=>by
  have dp:=io s;have h1:¬ (d:Int)=0:=by omega
  have hd':((d:Int) - 1)=((d - 1:Nat):Int):=by omega
  show W (fnF 2 [1,0] (aI (aU n)) _) _;cases s with
  | long lo hi =>
   obtain ⟨o1,o2⟩:=ho;simp only [wdS,sD,zar,za0,zaZ,List.nil_append,aI,ws,h1];refine W.use bN ?_;rintro _ rfl;simp only [ws,ap,aA,hds,bu,bJ,Int.reduceEq];refine W.use (gx (by omega)) ?_;rintro _ rfl;simp only [ws];refine W.use (DX fun m e=>by have:=o2 m e; omega) ?_;rintro _ rfl;simp only [ws];exact sz (by show 1+2<=1000; decide)
  | least k m =>
   obtain ⟨o1,o2⟩:=ho
   have:=T.n4;simp only [wdS,sD,zar,za0,zaZ,List.nil_append,aI,ws,h1];refine W.use bN ?_;rintro _ rfl;simp only [ws,ap,aA,hds,bu,bJ,Int.reduceEq];refine W.use (gx (by omega)) ?_;rintro _ rfl;simp only [ws];refine W.use (gx (by omega)) ?_;rintro _ rfl;simp only [ws];exact sz (by show 1+2<=1000; decide)
  | often z m =>
   obtain ⟨o1,o2,o3,o4,o5⟩:=ho;simp only [wdS,sD,zar,za0,zaZ,List.nil_append,aI,ws,h1];refine W.use bN ?_;rintro _ rfl;simp only [ws,ap,aA,hds,bu,bJ,Int.reduceEq];refine W.use bN ?_;rintro _ rfl;simp only [ws];refine W.use (gx (by omega)) ?_;rintro _ rfl;simp only [ws];exact sz (by show 1+2<=1000; decide)
  | apart =>
   simp only [wdS,sD,zar,za0,zaZ,List.nil_append,aI,ws,h1];refine W.use bN ?_;rintro _ rfl;simp only [ws,ap,aA,hds,bu,bJ,Int.reduceEq];exact sz (by show 1+0<=1000; decide)
  | without z =>
   simp only [wdS,sD,zar,za0,zaZ,List.nil_append,aI,ws,h1];refine W.use bN ?_;rintro _ rfl;simp only [ws,ap,aA,hds,bu,bJ,Int.reduceEq];refine W.use bN ?_;rintro _ rfl;simp only [ws];exact sz (by show 1+1<=1000; decide)
  | begins z =>
   simp only [wdS,sD,zar,za0,zaZ,List.nil_append,aI,ws,h1];refine W.use bN ?_;rintro _ rfl;simp only [ws,ap,aA,hds,bu,bJ,Int.reduceEq];refine W.use bN ?_;rintro _ rfl;simp only [ws];exact sz (by show 1+1<=1000; decide)
  | ends z =>
   simp only [wdS,sD,zar,za0,zaZ,List.nil_append,aI,ws,h1];refine W.use bN ?_;rintro _ rfl;simp only [ws,ap,aA,hds,bu,bJ,Int.reduceEq];refine W.use bN ?_;rintro _ rfl;simp only [ws];exact sz (by show 1+1<=1000; decide)
  | no s =>
   simp only [dep] at hd;have ih:=cC T n s (d - 1) ts (by omega) (by omega) ho;simp only [wdS,sD,zar,zaZ,aI,ws,h1];refine W.use bN ?_;rintro _ rfl;simp only [ws,ap,aA,hds,Int.reduceEq];refine ⟨by decide,?_⟩;rw [show jR 0 (Int.toNat 1)=[.int 0] from rfl];simp only [ws,cO,hd'];refine W.use ih ?_;rintro _ rfl;simp only [ws];exact sz (by show 1+1<=1000; decide)
  | both s t =>
   simp only [dep] at hd;have i1:=cC T n s (d - 1) ((wdS t).map .str++ts) (by omega) (by omega) ho.1;have i2:=cC T n t (d - 1) ts (by omega) (by omega) ho.2;rw [<- zaD,<- zaC] at i1;simp only [wdS,sD,zar,zaZ,aI,ws,h1];refine W.use bN ?_;rintro _ rfl;simp only [ws,ap,aA,hds,Int.reduceEq];refine ⟨by decide,?_⟩;rw [show jR 0 (Int.toNat 2)=[.int 0,.int 1] from rfl];simp only [ws,cO,hd'];refine W.use i1 ?_;rintro _ rfl;simp only [ws,hd'];refine W.use i2 ?_;rintro _ rfl;simp only [ws];exact sz (by show 1+2<=1000; decide)
  | either s t =>
   simp only [dep] at hd;have i1:=cC T n s (d - 1) ((wdS t).map .str++ts) (by omega) (by omega) ho.1;have i2:=cC T n t (d - 1) ts (by omega) (by omega) ho.2;rw [<- zaD,<- zaC] at i1;simp only [wdS,sD,zar,zaZ,aI,ws,h1];refine W.use bN ?_;rintro _ rfl;simp only [ws,ap,aA,hds,Int.reduceEq];refine ⟨by decide,?_⟩;rw [show jR 0 (Int.toNat 2)=[.int 0,.int 1] from rfl];simp only [ws,cO,hd'];refine W.use i1 ?_;rintro _ rfl;simp only [ws,hd'];refine W.use i2 ?_;rintro _ rfl;simp only [ws];exact sz (by show 1+2<=1000; decide)
def oA (T:TOk ks) {s:Sn} (g:GS ks s):W (c9 [.str (stx s)]) (fun r=>r=(sD s,[none])):=by
 have wl:=cP s;have wc:=g.2.2;have wa:=dN T s g.1;obtain ⟨y0,hy0⟩:∃ y0,(wdS s).head?=some y0:=by
  have:=lH s;cases e:wdS s with
  | nil=>exact absurd e this
  | cons a b=>exact ⟨a,rfl⟩
 have es:=iX (c:=32) (B:=7) (ys:=wdS s) (by decide) hy0 (wa y0 (List.mem_of_mem_head? hy0)).1 (fun y hy z=>((wa y hy).2.2 32 z).1 rfl) (fun y hy=>(wa y hy).2.1) (by omega) (by omega);have ih:=cC T 6 s 4 [] (by have:=g.2.1; omega) (by omega) g.1;rw [List.append_nil] at ih;simp only [c9,iQ,p8,ws,stx,es];refine W.use ih ?_;rintro _ rfl;simp only [ws,Int.lt_irrefl]
def Dv (T:TOk ks) {ss:List Sn} (hl:ss.length<=8) (h:∀ s∈ss,GS ks s):W (eD [.str (rtx ks ss)]) (fun r=>r=(rD ks ss,[none])):=by
 have n4:=T.n4;have es:=iX (c:=10) (B:=216) (ys:=hd0 ks :: ss.map stx) (y0:=hd0 ks) (by decide) rfl (by
  unfold hd0;rw [ck];cases ks with
  | nil=>exact absurd T.n1 (by decide)
  | cons k r=>show 1<=(li "signs"++32 :: jn 32 (((k :: r)).map li)).length; rw [zae,zac]; omega) (uK T h) (uL T h) (by rw [zac,zad]; omega) (by rw [zac,zad]; omega)
 have es2:=iX (c:=32) (B:=7) (ys:="signs" :: ks) (y0:="signs") (by decide) rfl (by decide +kernel) (fun y hy z=>((nE T y hy).2.2 32 z).1 rfl) (fun y hy=>(nE T y hy).2.1) (by rw [zac]; omega) (by rw [zac]; omega);simp only [zar] at es es2;have es2':dA (.str (hd0 ks)) (.str ⟨#[32]⟩)=_:=es2;simp only [eD,kw,C6,p8,ws,rtx,es,es2'];refine pc (fun i us en=>us=(ss.take i).map sD/\∃ o,en=[o]) (by rw [zad,zad]; exact sz (by omega)) ⟨rfl,none,rfl⟩ (fun i t us en ht hu ⟨e1,o,e2⟩=>?_) fun us en _ ⟨e1,o,e2⟩=>?_
 ·subst e1 e2;rw [zao,zao] at ht;obtain ⟨z,hz,rfl⟩:=zab.mp ht;obtain ⟨s,hs,rfl⟩:=zab.mp hz;simp only [ws,lB];refine W.use (oA T (h s (zaX hs))) ?_;rintro _ rfl;simp only [ws];refine ⟨?_,_,rfl⟩;rw [kL hs,zaC];rfl
 ·subst e1 e2;rw [zad,zad,zaQ];have ir:=vd T hl (fun s hs=>(h s hs).is);simp only [rD,tD] at ir;simp only [ws];refine W.use ir ?_;rintro _ rfl;simp only [ws];rfl
def wj {n:Nat} {z:Str} (hz:(li z).length<=1000) (hc:∀ c∈li z,c < 256):W (aE (n+1) [.str z,.str z]) (fun r=>r=(.bool true,[none,none])):=by
 have i1:gI ["list", "tuple"] (.str z)=some (.bool false):=congrArg (fun b=>some (PyData.bool b)) (show (ax "str" "list" || (ax "str" "tuple" || false))=false by decide);have i2:gI ["bool", "str"] (.str z)=some (.bool true):=congrArg (fun b=>some (PyData.bool b)) (show (ax "str" "bool" || (ax "str" "str" || false))=true by decide);have c4:(PyData.str z).shown.length<=sizeLine:=by
  have e:(PyData.str z).shown=reprText z:=by simp [PyData.shown]
  rw [e]
  have:=StrLaws.reprText_len z (fun c h=>Nat.lt_trans (hc c h) (by decide));have l:=ll z;have s4:(100000:Nat)<=sizeLine:=by decide
  omega
 have er:lL [.str z]=some (.str (PyData.str z).shown):=if_pos ⟨by rfl,by simp [PyData.showable],by simp [PyData.depth],c4⟩;simp only [aE,dz,ws,i1,i2,er]
def vU (ts:List D) (j:Nat) (u:D) (h:(eG ts ts)[j]?=some u):∃ t,ts[j]?=some t/\u=.tuple [t,t]:=by
 unfold eG at h;rw [List.getElem?_zipWith] at h;cases e:ts[j]? with
 | none=>rw [e] at h; cases h
 | some t=>rw [e] at h; cases h; exact ⟨t,rfl,rfl⟩
def Do (ts:List D):(eG ts ts).length=ts.length:=by unfold eG; simp
def b4 {n:Nat} {ts:List D} (hl:ts.length<=1000) (h:∀ t∈ts,W (aE n [t,t]) (fun r=>r=(.bool true,[none,none]))):W (aE (n+1) [.tuple ts,.tuple ts]) (fun r=>r=(.bool true,[none,none])):=by
 have i1:gI ["list", "tuple"] (.tuple ts)=some (.bool true):=congrArg (fun b=>some (PyData.bool b)) (show (ax "tuple" "list" || (ax "tuple" "tuple" || false))=true by decide);simp only [aE,dz,ws,i1];refine pc (fun i us en=>us=List.replicate i (.bool true)/\∃ a b,en=[a,b]) (by rw [Do]; exact sz hl) ⟨rfl,_,_,rfl⟩ (fun i t us en ht hu ⟨e1,a,b,e2⟩=>?_) fun us en _ ⟨e1,a,b,e2⟩=>?_
 ·subst e1 e2;obtain ⟨x,hx,rfl⟩:=vU ts i t ht;simp only [ws,lD];refine W.use (h x (zaX hx)) ?_;rintro _ rfl;simp only [ws];refine ⟨?_,_,_,rfl⟩;rw [List.replicate_succ']
 ·subst e1 e2;have e:=all_map (fun _:Nat=>true) (List.range (eG ts ts).length);have e2:(List.range (eG ts ts).length).map (fun _=>PyData.bool true)=List.replicate (eG ts ts).length (.bool true):=by
   rw [List.map_const'];simp
  have e3:(List.range (eG ts ts).length).all (fun _=>true)=true:=by simp
  rw [e2,e3] at e;simp only [ws,e]
def ix {n:Nat} {i:Int}:W (aE (n+1) [.int i,.int i]) (fun r=>r=(.bool true,[none,none])):=by
 have i1:gI ["list", "tuple"] (.int i)=some (.bool false):=congrArg (fun b=>some (PyData.bool b)) (show (ax "int" "list" || (ax "int" "tuple" || false))=false by decide);have i2:gI ["bool", "str"] (.int i)=some (.bool false):=congrArg (fun b=>some (PyData.bool b)) (show (ax "int" "bool" || (ax "int" "str" || false))=false by decide);simp only [aE,dz,ws,i1,i2]
def uI {n:Nat}:W (aE (n+1) [.none,.none]) (fun r=>r=(.bool true,[none,none])):=by
 have i1:gI ["list", "tuple"] (.none)=some (.bool false):=congrArg (fun b=>some (PyData.bool b)) (show (ax "NoneType" "list" || (ax "NoneType" "tuple" || false))=false by decide);have er:lL [.none]=some (.str (PyData.none).shown):=by
  show grd _ _=_;unfold grd;exact if_pos ⟨by rfl,by simp [PyData.showable],by simp [PyData.depth],sz (by decide +kernel)⟩
 simp only [aE,dz,ws,i1,er]
def GX {n:Nat} (hi:Option Nat):W (aE (n+1) [oD hi,oD hi]) (fun r=>r=(.bool true,[none,none])):=by
 cases hi with
 | none=>exact uI
 | some m=>exact ix
def bZ {n:Nat} {z:Str} (h:WX z):W (aE (n+1) [.str z,.str z]) (fun r=>r=(.bool true,[none,none])):=wj (by have:=h.2.1; omega) fun c hc=>(h.2.2 c hc).2.2
def ik (T:TOk ks):∀ (n:Nat) (s:Sn),dep s<=n->SOk ks s->W (aE (n+1) [sD s,sD s]) (fun r=>r=(.bool true,[none,none]))
 | 0,s,h,_=>by have:=io s; omega
 | n+1,s,h,ho=>by
  have wa:=dN T s ho;cases s with
  | long lo hi =>
   refine b4 (ts:=[.str "long",.int lo,oD hi]) (by show 3<=1000; decide) fun t ht=>?_;simp only [zay,zap,or_false] at ht;rcases ht with rfl | rfl | rfl
   ·exact bZ (wa _ (by simp [wdS]))
   ·exact ix
   ·exact GX hi
  | least k m =>
   refine b4 (ts:=[.str "least",.int k,.int m]) (by show 3<=1000; decide) fun t ht=>?_;simp only [zay,zap,or_false] at ht;rcases ht with rfl | rfl | rfl
   ·exact bZ (wa _ (by simp [wdS]))
   ·exact ix
   ·exact ix
  | often z m =>
   refine b4 (ts:=[.str "often",.str z,.int m]) (by show 3<=1000; decide) fun t ht=>?_;simp only [zay,zap,or_false] at ht;rcases ht with rfl | rfl | rfl
   ·exact bZ (wa _ (by simp [wdS]))
   ·exact bZ (wa _ (by simp [wdS]))
   ·exact ix
  | apart =>
   refine b4 (ts:=[.str "apart"]) (by show 1<=1000; decide) fun t ht=>?_;simp only [zay,zap,or_false] at ht;subst ht;exact bZ (wa _ (by simp [wdS]))
  | without z =>
   refine b4 (ts:=[.str "without",.str z]) (by show 2<=1000; decide) fun t ht=>?_;simp only [zay,zap,or_false] at ht;rcases ht with rfl | rfl
   ·exact bZ (wa _ (by simp [wdS]))
   ·exact bZ (wa _ (by simp [wdS]))
  | begins z =>
   refine b4 (ts:=[.str "begins",.str z]) (by show 2<=1000; decide) fun t ht=>?_;simp only [zay,zap,or_false] at ht;rcases ht with rfl | rfl
   ·exact bZ (wa _ (by simp [wdS]))
   ·exact bZ (wa _ (by simp [wdS]))
  | ends z =>
   refine b4 (ts:=[.str "ends",.str z]) (by show 2<=1000; decide) fun t ht=>?_;simp only [zay,zap,or_false] at ht;rcases ht with rfl | rfl
   ·exact bZ (wa _ (by simp [wdS]))
   ·exact bZ (wa _ (by simp [wdS]))
  | no s =>
   have ih:=ik T n s (by simp only [dep] at h; omega) ho;refine b4 (ts:=[.str "not",sD s]) (by show 2<=1000; decide) fun t ht=>?_;simp only [zay,zap,or_false] at ht;rcases ht with rfl | rfl
   ·exact bZ (wa _ (by simp [wdS]))
   ·exact ih
  | both s t =>
   have i1:=ik T n s (by simp only [dep] at h; omega) ho.1;have i2:=ik T n t (by simp only [dep] at h; omega) ho.2;refine b4 (ts:=[.str "both",sD s,sD t]) (by show 3<=1000; decide) fun t ht=>?_;simp only [zay,zap,or_false] at ht;rcases ht with rfl | rfl | rfl
   ·exact bZ (wa _ (by simp [wdS]))
   ·exact i1
   ·exact i2
  | either s t =>
   have i1:=ik T n s (by simp only [dep] at h; omega) ho.1;have i2:=ik T n t (by simp only [dep] at h; omega) ho.2;refine b4 (ts:=[.str "either",sD s,sD t]) (by show 3<=1000; decide) fun t ht=>?_;simp only [zay,zap,or_false] at ht;rcases ht with rfl | rfl | rfl
   ·exact bZ (wa _ (by simp [wdS]))
   ·exact i1
   ·exact i2
def Du (T:TOk ks) {ss:List Sn} (hl:ss.length<=8) (h:∀ s∈ss,GS ks s):W (aE 8 [rD ks ss,rD ks ss]) (fun r=>r=(.bool true,[none,none])):=by
 have n4:=T.n4;refine b4 (ts:=[tD ks,.tuple (ss.map sD)]) (by show 2<=1000; decide) fun t ht=>?_;simp only [zay,zap,or_false] at ht;rcases ht with rfl | rfl
 ·refine b4 (by rw [zad]; omega) fun t ht=>?_;obtain ⟨k,hk,rfl⟩:=zaz.mp ht;exact bZ (C9 T k hk)
 ·refine b4 (by rw [zad]; omega) fun t ht=>?_;obtain ⟨s,hs,rfl⟩:=zaz.mp ht;exact ik T 5 s (by have:=(h s hs).2.1; omega) (h s hs).1
def my (T:TOk ks) {p:D} {n:Nat} (hp:Pn n p) (hn:n<=100000):W (dF [p,.str (sgs ks),.int 6]) (fun r=>∃ z p',r=(.str z,[some p',none,none])/\1<=z.length/\z.length<=6/\(∀ c∈li z,c∈br ks)/\Pn (n+7) p'):=by
 have t1:=T.l1;have t12:=T.l12;have sl:=sk ks;simp only [dF,jB,ws];refine bS hp (by omega) (by decide) (by decide) fun r p1 r0 r1 hp1=>?_;obtain ⟨m,rfl⟩:=zaM r0;have em:((1:Int)+(m:Int)).toNat=m+1:=by omega
 simp only [ws,em];refine ⟨by omega,pc (fun i us en=>∃ (cs:List Nat) (o:Option D) (p':D),us=cs.map s1/\en=[o,some p',some (.str (sgs ks))]/\cs.length=i/\(∀ c∈cs,c∈br ks)/\Pn (n+1+i) p') (by rw [il]; exact sz (by omega)) ⟨[],none,p1,rfl,rfl,rfl,by simp,hp1⟩ (fun i t us en ht hu ⟨cs,o,p',e1,e2,h1,h2,h3⟩=>?_) fun us en _ ⟨cs,o,p',e1,e2,h1,h2,h3⟩=>?_⟩
 ·obtain ⟨hi,rfl⟩:=oB ht;subst e1 e2;simp only [ws,kG];refine ⟨sz (by omega),bS h3 (by omega) (by omega) (by omega) fun r p2 r0 r1 hp2=>?_⟩;obtain ⟨k,rfl⟩:=zaM r0;have hk:k < (li (sgs ks)).length:=by rw [qO]; omega
  have ek:=IV hk;simp only [ws,ek];refine ⟨sz (by omega),cs++[(li (sgs ks))[k]],_,p2,by rw [zaC]; rfl,rfl,by rw [zae,h1]; rfl,fun c hc=>?_,hp2⟩;rcases zax.mp hc with hc | hc
  ·exact h2 c hc
  ·rw [zaH.mp hc,<- qO ks];exact List.getElem_mem hk
 ·subst e1 e2;rw [il] at h1 h3;simp only [ws,oO (cs:=cs) (by omega)];exact ⟨ofL cs,p',rfl,by rw [im]; omega,by rw [im]; omega,by rw [kU]; exact h2,h3.mono (by omega)⟩
def wt (T:TOk ks) {p:D} {n:Nat} (hp:Pn n p) (hn:n<=99000):W (cM [p,tD ks]) (fun r=>∃ s p',r=(sD s,[some p',none])/\SOk ks s/\dep s=1/\cnt s=1/\Pn (n+20) p'):=by
 have t1:=T.l1;have t12:=T.l12;have n1:=T.n1;have n4:=T.n4;have sl:=sk ks;simp only [cM,jA,ws,sB T];refine bS hp (by omega) (by decide) (by decide) fun w p1 w0 w1 hp1=>?_;simp only [ws];by_cases q0:w=0
 ·simp only [ws,q0];refine bS hp1 (by omega) (by decide) (by decide) fun lo p2 lo0 lo1 hp2=>?_;simp only [ws];refine bS hp2 (by omega) (by omega) (by omega) fun h p3 h0 h1 hp3=>?_;simp only [ws];refine bS hp3 (by omega) (by decide) (by decide) fun b p4 b0 b1 hp4=>?_;obtain ⟨lo,rfl⟩:=zaM lo0;obtain ⟨h,rfl⟩:=zaM h0;by_cases qb:b=0
  ·simp only [ws,qb];exact ⟨.long lo none,p4,rfl,⟨by omega,fun m e=>nomatch e⟩,rfl,rfl,hp4.mono (by omega)⟩
  ·simp only [ws,qb];exact ⟨.long lo (some (lo+h)),p4,rfl,⟨by omega,fun m e=>by cases e; omega⟩,rfl,rfl,hp4.mono (by omega)⟩
 by_cases q1:w=1
 ·simp only [ws,q1,tD,zad,Int.reduceEq];refine bS hp1 (by omega) (by omega) (by omega) fun k p2 k0 k1 hp2=>?_;simp only [ws];refine bS hp2 (by omega) (by omega) (by omega) fun m p3 m0 m1 hp3=>?_;obtain ⟨k,rfl⟩:=zaM k0;obtain ⟨m,rfl⟩:=zaM m0;simp only [ws];exact ⟨.least k m,p3,rfl,⟨by omega,by omega⟩,rfl,rfl,hp3.mono (by omega)⟩
 by_cases q2:w=2
 ·have e1:=kT (z:=sgs ks) (by rw [qO]; omega);simp only [ws,q2,Int.reduceEq,e1];obtain ⟨mo,hmo⟩:∃ mo:Int,(if ((sgs ks).length:Int) < 4 then ((sgs ks).length:Int) else 4)=mo:=⟨_,rfl⟩;have hm':1<=mo/\mo<=(br ks).length/\mo<=4:=by rw [<- hmo]; split <;> omega
  rw [hmo];refine ⟨sz (by omega),bS hp1 (by omega) (by omega) (by omega) fun m p2 m0 m1 hp2=>?_⟩;obtain ⟨m,rfl⟩:=zaM m0;have em:((1:Int)+(m:Int)).toNat=m+1:=by omega
  simp only [ws,em];refine ⟨by omega,sr (left:=br ks) hp2 (by omega) (by omega) (by omega) fun cs lf o' p3 hpm hl hp3=>?_⟩;have nd:=hpm.nodup_iff.mpr T.nd;simp only [ws,oO (cs:=cs) (by omega)];refine bS hp3 (by omega) (by decide) (by decide) fun a p4 a0 a1 hp4=>?_;obtain ⟨a,rfl⟩:=zaM a0;simp only [ws];exact ⟨.often (ofL cs) a,p4,rfl,⟨by rw [im]; omega,by rw [im]; omega,by rw [kU]; exact (List.nodup_append.mp nd).1,by rw [kU]; exact fun c hc=>hpm.mem_iff.mp (List.mem_append_left _ hc),by omega⟩,rfl,rfl,hp4.mono (by omega)⟩
 by_cases q3:w=3
 ·simp only [ws,q3,Int.reduceEq];exact ⟨.apart,p1,rfl,trivial,rfl,rfl,hp1.mono (by omega)⟩
 ·simp only [ws,q0,q1,q2,q3];have hw:w=4\/w=5\/w=6:=by omega
  rcases hw with rfl | rfl | rfl
  ·simp only [ws,Int.reduceSub];refine W.use (my T hp1 (by omega)) ?_;rintro _ ⟨z,p2,rfl,z1,z6,zm,hp2⟩;simp only [ws];exact ⟨.without z,p2,rfl,⟨z1,z6,zm⟩,rfl,rfl,hp2.mono (by omega)⟩
  ·simp only [ws,Int.reduceSub];refine W.use (my T hp1 (by omega)) ?_;rintro _ ⟨z,p2,rfl,z1,z6,zm,hp2⟩;simp only [ws];exact ⟨.begins z,p2,rfl,⟨z1,z6,zm⟩,rfl,rfl,hp2.mono (by omega)⟩
  ·simp only [ws,Int.reduceSub];refine W.use (my T hp1 (by omega)) ?_;rintro _ ⟨z,p2,rfl,z1,z6,zm,hp2⟩;simp only [ws];exact ⟨.ends z,p2,rfl,⟨z1,z6,zm⟩,rfl,rfl,hp2.mono (by omega)⟩
def eK (T:TOk ks):∀ (j:Nat) {p:D} {n d r:Nat},Pn n p->n+40 * r<=90000->1<=d->d<=4->5<=j+d->W (bc j [p,tD ks,.int (d:Nat),.list [.int (r:Nat)]]) (fun z=>∃ s p' r',z=(sD s,[some p',none,none,some (.list [.int (r':Nat)])])/\SOk ks s/\dep s+d<=5/\cnt s+r'<=r+1/\Pn (n+40 * cnt s) p')
 | 0,p,n,d,r,hp,hn,d1,d4,h5=>by omega
 | j+1,p,n,d,r,hp,hn,d1,d4,h5=>by
  show W (fnF 2 [1,0,0,1] (de (bc j)) _) _;simp only [de,ws];refine bS hp (by omega) (by decide) (by decide) fun w p1 w0 w1 hp1=>?_;have pl:W (cM [p1,tD ks]) (fun z=>∃ s p',z=(sD s,[some p',none])/\SOk ks s/\dep s=1/\cnt s=1/\Pn (n+21) p'):=W.use (wt T hp1 (by omega)) (by
   rintro _ ⟨s,p2,rfl,h1,h2,h3,h4⟩;exact ⟨s,p2,rfl,h1,h2,h3,h4.mono (by omega)⟩)
  have fin:∀ {s:Sn} {p2:D},SOk ks s->dep s=1->cnt s=1->Pn (n+21) p2->∃ s' p' r',((sD s,[some p2,none,none,some (.list [.int (r:Nat)])]):D × En)=(sD s',[some p',none,none,some (.list [.int (r':Nat)])])/\SOk ks s'/\dep s'+d<=5/\cnt s'+r'<=r+1/\Pn (n+40 * cnt s') p':=fun {s p2} h1 h2 h3 h4=>⟨s,p2,r,rfl,h1,by omega,by omega,h4.mono (by omega)⟩;have ed:((d:Int)+1)=((d+1:Nat):Int):=by omega
  by_cases q4:(d:Int)=4
  ·simp only [ws,q4];refine W.use pl ?_;rintro _ ⟨s,p2,rfl,h1,h2,h3,h4⟩;simp only [ws];exact fin h1 h2 h3 h4
  by_cases qw:(2:Int) < w
  ·simp only [ws,q4,qw];refine W.use pl ?_;rintro _ ⟨s,p2,rfl,h1,h2,h3,h4⟩;simp only [ws];exact fin h1 h2 h3 h4
  by_cases qr:(r:Int)=0
  ·simp only [ws,q4,qw,qr];refine W.use pl ?_;rintro _ ⟨s,p2,rfl,h1,h2,h3,h4⟩;simp only [ws];have er:r=0:=by omega
   subst er;exact fin h1 h2 h3 h4
  have dl:d<=3:=by omega
  have er:((r:Int) - 1)=((r - 1:Nat):Int):=by omega
  have i1:=eK T j (p:=p1) (n:=n+1) (d:=d+1) (r:=r - 1) hp1 (by omega) (by omega) (by omega) (by omega);have fn:∀ {s:Sn} {p2:D} {r':Nat},SOk ks s->dep s+(d+1)<=5->cnt s+r'<=r - 1+1->Pn (n+1+40 * cnt s) p2->∃ s' p' r2,((.tuple [.str "not",sD s],[some p2,none,none,some (.list [.int (r':Nat)])]):D × En)=(sD s',[some p',none,none,some (.list [.int (r2:Nat)])])/\SOk ks s'/\dep s'+d<=5/\cnt s'+r2<=r+1/\Pn (n+40 * cnt s') p':=fun {s p2 r'} h1 h2 h3 h4=>⟨.no s,p2,r',rfl,h1,by simp only [dep]; omega,by simp only [cnt]; omega,h4.mono (by simp only [cnt]; omega)⟩;by_cases qz:w=0
  ·simp only [ws,q4,qw,qr,qz,Int.reduceLT,er,ed];refine W.use i1 ?_;rintro _ ⟨s,p2,r',rfl,h1,h2,h3,h4⟩;simp only [ws];exact fn h1 h2 h3 h4
  by_cases q1:(r:Int)=1
  ·have er1:r=1:=by omega
   subst er1;simp only [ws,q4,qw,qr,qz,q1,Int.reduceSub,Int.reduceEq,ed];refine W.use i1 ?_;rintro _ ⟨s,p2,r',rfl,h1,h2,h3,h4⟩;simp only [ws];exact fn h1 h2 h3 h4
  have er2:((r:Int) - 2)=((r - 2:Nat):Int):=by omega
  have i2:=eK T j (p:=p1) (n:=n+1) (d:=d+1) (r:=r - 2) hp1 (by omega) (by omega) (by omega) (by omega);have hw:w=1\/w=2:=by omega
  rcases hw with rfl | rfl
  ·simp only [ws,q4,qw,qr,qz,q1,er2,ed,Int.reduceSub];refine W.use i2 ?_;rintro _ ⟨s,p2,r',rfl,h1,h2,h3,h4⟩;simp only [ws,ed,Int.reduceSub];refine W.use (eK T j (p:=p2) (n:=n+1+40 * cnt s) (d:=d+1) (r:=r') h4 (by omega) (by omega) (by omega) (by omega)) ?_;rintro _ ⟨s',p3,r2,rfl,g1,g2,g3,g4⟩;simp only [ws];exact ⟨.both s s',p3,r2,rfl,⟨h1,g1⟩,by simp only [dep]; omega,by simp only [cnt]; omega,g4.mono (by simp only [cnt]; omega)⟩
  ·simp only [ws,q4,qw,qr,qz,q1,er2,ed,Int.reduceSub];refine W.use i2 ?_;rintro _ ⟨s,p2,r',rfl,h1,h2,h3,h4⟩;simp only [ws,ed,Int.reduceSub];refine W.use (eK T j (p:=p2) (n:=n+1+40 * cnt s) (d:=d+1) (r:=r') h4 (by omega) (by omega) (by omega) (by omega)) ?_;rintro _ ⟨s',p3,r2,rfl,g1,g2,g3,g4⟩;simp only [ws];exact ⟨.either s s',p3,r2,rfl,⟨h1,g1⟩,by simp only [dep]; omega,by simp only [cnt]; omega,g4.mono (by simp only [cnt]; omega)⟩
structure RX (r:List Str × List Sn):Prop where
 t:TOk r.1
 l:r.2.length<=8
 g:∀ s∈r.2,GS r.1 s
def sm {p:D} {n m:Nat} (hp:Pn n p) (hn:n<=100) (hm:m<=8):W (dw [p,.int (m:Nat)]) (fun z=>∃ r p',z=(rD r.1 r.2,[some p',none])/\RX r):=by
 have em:((m:Int)+1)=((m+1:Nat):Int):=by omega
 simp only [dw,kz,ws];refine W.use (IW hp (by omega)) ?_;rintro _ ⟨ks,p1,rfl,T,hp1⟩;simp only [ws];refine bS hp1 (by omega) (by omega) (by omega) fun c p2 c0 c1 hp2=>?_;obtain ⟨c,rfl⟩:=zaM c0;simp only [ws,zaL];refine ⟨by omega,pc (fun i us en=>∃ (ss:List Sn) (o:Option D) (p':D),us=ss.map sD/\en=[o,some p',some (tD ks)]/\ss.length=i/\(∀ s∈ss,GS ks s)/\Pn (n+41+360 * i) p') (by rw [il]; exact sz (by omega)) ⟨[],none,p2,rfl,rfl,rfl,by simp,hp2⟩ (fun i t us en ht hu ⟨ss,o,p',e1,e2,h1,h2,h3⟩=>?_) fun us en _ ⟨ss,o,p',e1,e2,h1,h2,h3⟩=>?_⟩
 ·obtain ⟨hi,rfl⟩:=oB ht;subst e1 e2;simp only [ws,lE];refine W.use (eK T 6 (d:=1) (r:=8) h3 (by omega) (by omega) (by omega) (by omega)) ?_;rintro _ ⟨s,p3,r',rfl,g1,g2,g3,g4⟩;simp only [ws];refine ⟨ss++[s],_,p3,by rw [zaC]; rfl,rfl,by rw [zae,h1]; rfl,fun x hx=>?_,g4.mono (by omega)⟩;rcases zax.mp hx with hx | hx
  ·exact h2 x hx
  ·rw [zaH.mp hx];exact ⟨g1,by omega,by omega⟩
 ·subst e1 e2;rw [il] at h1;simp only [ws];exact ⟨(ks,ss),p',rfl,⟨T,by show ss.length<=8; omega,h2⟩⟩
end
def qv {r:List Str × List Sn} (h:RX r) {x0 x1 x2 x3 x4 x6 x7:Option D} {Q:Fl->Prop} (hQ:∀ o6 o7,Q (.nx [x0,x1,x2,x3,x4,some (rD r.1 r.2),o6,o7])) :
  W (rE [x0,x1,x2,x3,x4,some (rD r.1 r.2),x6,x7]) Q:=by
 simp only [ws,rE];refine W.use (Dp h.t h.l h.g) ?_;rintro _ rfl;simp only [ws];refine W.use (qu h.t h.l h.g) ?_;rintro _ rfl;simp only [ws];refine W.use (Dv h.t h.l h.g) ?_;rintro _ rfl;simp only [ws];refine W.use (Du h.t h.l h.g) ?_;rintro _ rfl;simp only [ws];exact hQ _ _
def inn:Sn:=.both .apart .apart
def full:Sn:=.both (.both inn .apart) inn
def D0 {ks:List Str} (T:TOk ks):RX (ks,[full]):=⟨T,by show 1<=8; decide,fun s hs=>by
 rw [zaH.mp hs];exact ⟨⟨⟨⟨trivial,trivial⟩,trivial⟩,trivial,trivial⟩,by decide,by decide⟩⟩
def wF:Hx ux:=by
 intro ns hl
 suffices W (ux [.list (ns.map .int)]) (fun r=>∃ outs,r=(.bool true,outs)) by
  obtain ⟨r,e,outs,rfl⟩:=this.ex;exact ⟨outs,e⟩
 have k0:(0:Int)=((0:Nat):Int):=rfl;have k31:(31:Int)=((31:Nat):Int):=rfl;have k8:(8:Int)=((8:Nat):Int):=rfl;have k3:(3:Int)=((3:Nat):Int):=rfl;simp only [ws,ux,xF];refine um (k:=0) fun p hp=>?_;simp only [ws];refine W.use (sm (m:=8) hp (by decide) (by decide)) ?_;rintro _ ⟨r1,p1,rfl,h1⟩;simp only [ws];refine um (k:=31) fun p hp=>?_;simp only [ws];refine W.use (sm (m:=3) hp (by decide) (by decide)) ?_;rintro _ ⟨r2,p2,rfl,h2⟩;have es:dA (.str "both both both apart apart apart both apart apart") (.str " ")=some (.list ((wdS full).map .str)):=by
  have:=iX (c:=32) (B:=7) (ys:=wdS full) (y0:="both") (by decide) rfl (by decide +kernel) (by decide +kernel) (by decide +kernel) (by decide +kernel) (by decide +kernel);rw [p8,<- this];congr 2
 have hf:=D0 h1.t;have gf:=hf.g full zaq;have wf:=e7 h1.t 6 full (by decide) gf.2.2 gf.1;have jf:joinD " " [.list ((wdS full).map .str)]=some (.str (stx full)):=jl (ys:=wdS full) (B:=7) (by decide +kernel) (by decide +kernel);have nf:neD (.list [.str (stx full)]) (.list [.str (stx full)])=some (.bool false):=by
  show grd _ _=_;unfold grd
  have:=jU [stx full] [stx full];simp only [zar,za0] at this;rw [if_pos ⟨rfl,rfl,by simp only [fY,fG]; decide⟩];simp only [peq,this];rfl
 simp only [ws,es,jf,rD];refine W.use (show W (be 6 [_]) _ from wf) ?_;rintro _ rfl;simp only [ws,jf,nf];have rw1:=fun {x0 x1 x2 x3 x4 x6 x7:Option D} {Q:Fl->Prop}=>qv h1 (x0:=x0) (x1:=x1) (x2:=x2) (x3:=x3) (x4:=x4) (x6:=x6) (x7:=x7) (Q:=Q);have rw2:=fun {x0 x1 x2 x3 x4 x6 x7:Option D} {Q:Fl->Prop}=>qv h2 (x0:=x0) (x1:=x1) (x2:=x2) (x3:=x3) (x4:=x4) (x6:=x6) (x7:=x7) (Q:=Q);have rw3:=fun {x0 x1 x2 x3 x4 x6 x7:Option D} {Q:Fl->Prop}=>qv hf (x0:=x0) (x1:=x1) (x2:=x2) (x3:=x3) (x4:=x4) (x6:=x6) (x7:=x7) (Q:=Q);refine ⟨sz (by show 2+1<=1000; decide),sz (by show 3+2<=1000; decide),sz (by show 5+1<=1000; decide),rw1 fun o6 o7=>?_⟩;simp only [ws];refine rw2 fun o6 o7=>?_;simp only [ws];refine rw3 fun o6 o7=>?_;simp only [ws];refine rw1 fun o6 o7=>?_;simp only [ws];refine rw2 fun o6 o7=>?_;simp only [ws];refine rw3 fun o6 o7=>?_;simp only [ws];exact ⟨_,rfl⟩
end W56
set_option maxHeartbeats 4000000
namespace W56
open PySem L2
def aZ {α β:Type} {us:List α} {x0:β} (h:us.length=[x0].length):∃ a0,us=[a0]:=by
 cases us with
 | nil=>cases h
 | cons a0 r=>exact ⟨a0,by rw [za7.mp (show r.length=0 from Nat.succ.inj h)]⟩
def bP {α β:Type} {us:List α} {x0 x1:β} (h:us.length=[x0,x1].length):∃ a0 a1,us=[a0,a1]:=by
 cases us with
 | nil=>cases h
 | cons a0 r=>obtain ⟨a1,rfl⟩:=aZ (us:=r) (x0:=x1) (Nat.succ.inj h); exact ⟨a0,a1,rfl⟩
def jd {α β:Type} {us:List α} {x0 x1 x2:β} (h:us.length=[x0,x1,x2].length):∃ a0 a1 a2,us=[a0,a1,a2]:=by
 cases us with
 | nil=>cases h
 | cons a0 r=>obtain ⟨a1,a2,rfl⟩:=bP (us:=r) (x0:=x1) (x1:=x2) (Nat.succ.inj h); exact ⟨a0,a1,a2,rfl⟩
def mH {α β:Type} {us:List α} {x0 x1 x2 x3:β} (h:us.length=[x0,x1,x2,x3].length):∃ a0 a1 a2 a3,us=[a0,a1,a2,a3]:=by
 cases us with
 | nil=>cases h
 | cons a0 r=>obtain ⟨a1,a2,a3,rfl⟩:=jd (us:=r) (x0:=x1) (x1:=x2) (x2:=x3) (Nat.succ.inj h); exact ⟨a0,a1,a2,a3,rfl⟩
def all_mk {l:PySem.W.OpenLaw} {w:World} {K:PySem.W.Frag} {h:Heap} {mg:Str->Option Value} {fa f0 f1 f2 f3 f4 f5 f6 f7 f8 f9 f10 f11 f12 f13 f14 f15 f16 f17 f18 f19 f20 f21 f22 f23 f24 f25 f26 f27 f28 f29 f30 f31 f32 f33 f34 f35 f36 f37 f38 f39 f40:Addr} {tk0:Tok} {tk1:Tok} {tk2:Tok} {tk3:Tok} {tk4:Tok} {tk5:Tok} {tk6:Tok} {tk7:Tok} {tk8:Tok} {tk9:Tok} {tk10:Tok} {tk11:Tok} {tk12:Tok} {tk13:Tok} {tk14:Tok} {tk15:Tok} {tk16:Tok} (X:K.In h) (G:h.Ns mainGlobals mg) (hfa:mg "law"=some (.ref fa))
  (d0:Df K "is_sign" mQ f0)
  (d1:Df K "is_kind" kf f1)
  (d2:Df K "are_unlike" jq f2)
  (d3:Df K "signs_of" lm f3)
  (d4:Df K "is_tongue" ia f4)
  (d5:Df K "is_word" kc f5)
  (d6:Df K "is_whole" lq f6)
  (d7:Df K "is_whole_within" ff f7)
  (d8:Df K "how_many_parts" fI f8)
  (d9:Df K "is_low_and_high" fg f9)
  (d10:Df K "is_told_word" gR f10)
  (d11:Df K "is_often_signs" fH f11)
  (d12:Df K "is_simple" kd f12)
  (d13:Df K "is_formed" ib f13)
  (d14:Df K "sentences_in" eZ f14)
  (d15:Df K "is_sentence" iJ f15)
  (d16:Df K "is_rule" ke f16)
  (d17:Df K "show_field" jo f17)
  (d18:Df K "show_sentence" eA f18)
  (d19:Df K "show_rule" h8 f19)
  (d20:Df K "word_ahead" jm f20)
  (d21:Df K "is_number_text" dL f21)
  (d22:Df K "number_ahead" gQ f22)
  (d23:Df K "high_ahead" jp f23)
  (d24:Df K "fields_ahead" gS f24)
  (d25:Df K "sentence_ahead" dJ f25)
  (d26:Df K "sentence_of" iI f26)
  (d27:Df K "read_rule" h9 f27)
  (d28:Df K "_law_pen" lr f28)
  (d29:Df K "_law_mixed" ju f29)
  (d30:Df K "_law_take" kh f30)
  (d31:Df K "_law_tongue" fJ f31)
  (d32:Df K "_law_any_tongue" fh f32)
  (d33:Df K "_law_piece" gu f33)
  (d34:Df K "_law_plain" gt f34)
  (d35:Df K "_law_sentence" gb f35)
  (d36:Df K "_law_rule" ie f36)
  (d37:Df K "_law_words" jr f37)
  (d38:Df K "_law_text" kg f38)
  (d39:Df K "_law_same" ic f39)
  (d40:Df K "law" mP f40)
  (y0:PySem.W.nsIn K mainGlobals "LOWEST_CODE"=some (some (.int 33 tk0)))
  (y1:PySem.W.nsIn K mainGlobals "HIGHEST_CODE"=some (some (.int 126 tk1)))
  (y2:PySem.W.nsIn K mainGlobals "PERCENT_CODE"=some (some (.int 37 tk2)))
  (y3:PySem.W.nsIn K mainGlobals "MOST_SIGNS_OF_A_KIND"=some (some (.int 6 tk3)))
  (y4:PySem.W.nsIn K mainGlobals "MOST_SIGNS"=some (some (.int 12 tk4)))
  (y5:PySem.W.nsIn K mainGlobals "MOST_KINDS"=some (some (.int 4 tk5)))
  (y6:PySem.W.nsIn K mainGlobals "MOST_SIGNS_OF_A_WORD"=some (some (.int 60 tk6)))
  (y7:PySem.W.nsIn K mainGlobals "HIGHEST_LENGTH"=some (some (.int 30 tk7)))
  (y8:PySem.W.nsIn K mainGlobals "MOST_SIGNS_TOLD"=some (some (.int 6 tk8)))
  (y9:PySem.W.nsIn K mainGlobals "MOST_OFTEN_SIGNS"=some (some (.int 4 tk9)))
  (y10:PySem.W.nsIn K mainGlobals "HIGHEST_LEAST"=some (some (.int 9 tk10)))
  (y11:PySem.W.nsIn K mainGlobals "HIGHEST_OFTEN"=some (some (.int 3 tk11)))
  (y12:PySem.W.nsIn K mainGlobals "MOST_DEEP"=some (some (.int 4 tk12)))
  (y13:PySem.W.nsIn K mainGlobals "MOST_SENTENCES_IN_ONE"=some (some (.int 9 tk13)))
  (y14:PySem.W.nsIn K mainGlobals "MOST_SENTENCES"=some (some (.int 8 tk14)))
  (y15:PySem.W.nsIn K mainGlobals "MOST_FIGURES"=some (some (.int 80 tk15)))
  (y16:PySem.W.nsIn K mainGlobals "FIGURES"=some (some (.str "0123456789" tk16)))
  (z0:PySem.W.nsIn K mainGlobals "abs"=some none)
  (z1:PySem.W.nsIn K mainGlobals "all"=some none)
  (z2:PySem.W.nsIn K mainGlobals "bool"=some none)
  (z3:PySem.W.nsIn K mainGlobals "int"=some none)
  (z4:PySem.W.nsIn K mainGlobals "isinstance"=some none)
  (z5:PySem.W.nsIn K mainGlobals "len"=some none)
  (z6:PySem.W.nsIn K mainGlobals "list"=some none)
  (z7:PySem.W.nsIn K mainGlobals "max"=some none)
  (z8:PySem.W.nsIn K mainGlobals "min"=some none)
  (z9:PySem.W.nsIn K mainGlobals "ord"=some none)
  (z10:PySem.W.nsIn K mainGlobals "range"=some none)
  (z11:PySem.W.nsIn K mainGlobals "repr"=some none)
  (z12:PySem.W.nsIn K mainGlobals "set"=some none)
  (z13:PySem.W.nsIn K mainGlobals "str"=some none)
  (z14:PySem.W.nsIn K mainGlobals "sum"=some none)
  (z15:PySem.W.nsIn K mainGlobals "tuple"=some none)
  (z16:PySem.W.nsIn K mainGlobals "zip"=some none) :
  ∃ fd:FuncData,(∀ (s:Shared) (v:Value),BindsTo s fd ⟨[v],[]⟩ [("_law_script",v)])/\∀ base:Heap,K.In base->base.Ns mainGlobals mg->FnOk l.prog w K mg base CX0 14 fa fd ["_law_script"] (ng K):=by
 have e:=hfa.symm.trans (za9 X G d40.a);cases e;have v0:=za9 X G y0;have v1:=za9 X G y1;have v2:=za9 X G y2;have v3:=za9 X G y3;have v4:=za9 X G y4;have v5:=za9 X G y5;have v6:=za9 X G y6;have v7:=za9 X G y7;have v8:=za9 X G y8;have v9:=za9 X G y9;have v10:=za9 X G y10;have v11:=za9 X G y11;have v12:=za9 X G y12;have v13:=za9 X G y13;have v14:=za9 X G y14;have v15:=za9 X G y15;have v16:=za9 X G y16;have T:Bl mg:=⟨za8 X G z0,za8 X G z1,za8 X G z2,za8 X G z3,za8 X G z4,za8 X G z5,za8 X G z6,za8 X G z7,za8 X G z8,za8 X G z9,za8 X G z10,za8 X G z11,za8 X G z12,za8 X G z13,za8 X G z14,za8 X G z15,za8 X G z16⟩;obtain ⟨oc,od,kV,dc,pm,an,cd,ct,sl,ll,lc⟩:=d40.l;have FL:=rg (st:=mP) ll lc d40.k;refine ⟨PySem.W.fnOf "law" "law" (eh mP) (cW mP) (aj mP) .none kV dc pm an cd ct,fun s v=>.of_eq rfl,fun base _ _=>?_⟩;have g0:Kn l.prog w K mg base 1 "is_sign" ["sign"] (spF K [0] 3 iO):=d0.kn X G (fun _ _ _ _ _ _ us hl=>by obtain ⟨a0,rfl⟩:=aZ hl; rfl) fun _ F=>uT (k:=0) T v0 v1 v2    F;have g1:Kn l.prog w K mg base 2 "is_kind" ["thing"] (spF K [0] 3 gj):=d1.kn X G (fun _ _ _ _ _ _ us hl=>by obtain ⟨a0,rfl⟩:=aZ hl; rfl) fun _ F=>uV (k:=1) T v3 (g0.mono (by decide))   F;have g2:Kn l.prog w K mg base 1 "are_unlike" ["signs"] (spF K [0] 3 cw):=d2.kn X G (fun _ _ _ _ _ _ us hl=>by obtain ⟨a0,rfl⟩:=aZ hl; rfl) fun _ F=>qE (k:=0) T     F;have g3:Kn l.prog w K mg base 1 "signs_of" ["tongue"] (spF K [0] 3 dh):=d3.kn X G (fun _ _ _ _ _ _ us hl=>by obtain ⟨a0,rfl⟩:=aZ hl; rfl) fun _ F=>tH (k:=0) T     F;have g4:Kn l.prog w K mg base 3 "is_tongue" ["thing"] (spF K [0] 3 eE):=d4.kn X G (fun _ _ _ _ _ _ us hl=>by obtain ⟨a0,rfl⟩:=aZ hl; rfl) fun _ F=>rP (k:=2) T v4 v5 (g3.mono (by decide)) (g2.mono (by decide)) (g1.mono (by decide))   F;have g5:Kn l.prog w K mg base 2 "is_word" ["tongue", "thing"] (spF K [0,0] 3 dU):=d5.kn X G (fun _ _ _ _ _ _ us hl=>by obtain ⟨a0,a1,rfl⟩:=bP hl; rfl) fun _ F=>uS (k:=1) T v6 (g3.mono (by decide))   F;have g6:Kn l.prog w K mg base 1 "is_whole" ["thing"] (spF K [0] 3 gD):=d6.kn X G (fun _ _ _ _ _ _ us hl=>by obtain ⟨a0,rfl⟩:=aZ hl; rfl) fun _ F=>tI (k:=0) T     F;have g7:Kn l.prog w K mg base 2 "is_whole_within" ["thing", "low", "high"] (spF K [0,0,0] 3 aV):=d7.kn X G (fun _ _ _ _ _ _ us hl=>by obtain ⟨a0,a1,a2,rfl⟩:=jd hl; rfl) fun _ F=>lW (k:=1) T  (g6.mono (by decide))   F;have g8:Kn l.prog w K mg base 1 "how_many_parts" ["head"] (spF K [0] 3 ap):=d8.kn X G (fun _ _ _ _ _ _ us hl=>by obtain ⟨a0,rfl⟩:=aZ hl; rfl) fun _ F=>mG (k:=0) T     F;have g9:Kn l.prog w K mg base 3 "is_low_and_high" ["low", "high"] (spF K [0,0] 3 ca):=d9.kn X G (fun _ _ _ _ _ _ us hl=>by obtain ⟨a0,a1,rfl⟩:=bP hl; rfl) fun _ F=>lX (k:=2) T v7 (g7.mono (by decide))   F;have g10:Kn l.prog w K mg base 3 "is_told_word" ["tongue", "thing"] (spF K [0,0] 3 cE):=d10.kn X G (fun _ _ _ _ _ _ us hl=>by obtain ⟨a0,a1,rfl⟩:=bP hl; rfl) fun _ F=>oG (k:=2) T v8 (g5.mono (by decide))   F;have g11:Kn l.prog w K mg base 3 "is_often_signs" ["tongue", "thing"] (spF K [0,0] 3 cI):=d11.kn X G (fun _ _ _ _ _ _ us hl=>by obtain ⟨a0,a1,rfl⟩:=bP hl; rfl) fun _ F=>mE (k:=2) T v9 (g5.mono (by decide)) (g2.mono (by decide))   F;have g12:Kn l.prog w K mg base 4 "is_simple" ["tongue", "thing"] (spF K [0,0] 3 bC):=d12.kn X G (fun _ _ _ _ _ _ us hl=>by obtain ⟨a0,a1,rfl⟩:=bP hl; rfl) fun _ F=>rQ (k:=3) T v10 v11 (g9.mono (by decide)) (g10.mono (by decide)) (g7.mono (by decide)) (g11.mono (by decide))   F;have g13r0:Kn l.prog w K mg base 4 "is_formed" ["tongue", "thing", "deep"] (spF K [0,0,0] 3 (bI 0)):=d13.none X G (fun _ _ _ _ _ _ us hl=>by obtain ⟨a0,a1,a2,rfl⟩:=jd hl; rfl);have g13r1:Kn l.prog w K mg base 5 "is_formed" ["tongue", "thing", "deep"] (spF K [0,0,0] 3 (bI 1)):=d13.kn X G (fun _ _ _ _ _ _ us hl=>by obtain ⟨a0,a1,a2,rfl⟩:=jd hl; rfl) fun _ F=>dB (k:=4) T  (g8.mono (by decide)) (g12.mono (by decide)) g13r0 F;have g13r2:Kn l.prog w K mg base 6 "is_formed" ["tongue", "thing", "deep"] (spF K [0,0,0] 3 (bI 2)):=d13.kn X G (fun _ _ _ _ _ _ us hl=>by obtain ⟨a0,a1,a2,rfl⟩:=jd hl; rfl) fun _ F=>dB (k:=5) T  (g8.mono (by decide)) (g12.mono (by decide)) g13r1 F;have g13r3:Kn l.prog w K mg base 7 "is_formed" ["tongue", "thing", "deep"] (spF K [0,0,0] 3 (bI 3)):=d13.kn X G (fun _ _ _ _ _ _ us hl=>by obtain ⟨a0,a1,a2,rfl⟩:=jd hl; rfl) fun _ F=>dB (k:=6) T  (g8.mono (by decide)) (g12.mono (by decide)) g13r2 F;have g13r4:Kn l.prog w K mg base 8 "is_formed" ["tongue", "thing", "deep"] (spF K [0,0,0] 3 (bI 4)):=d13.kn X G (fun _ _ _ _ _ _ us hl=>by obtain ⟨a0,a1,a2,rfl⟩:=jd hl; rfl) fun _ F=>dB (k:=7) T  (g8.mono (by decide)) (g12.mono (by decide)) g13r3 F;have g13r5:Kn l.prog w K mg base 9 "is_formed" ["tongue", "thing", "deep"] (spF K [0,0,0] 3 (bI 5)):=d13.kn X G (fun _ _ _ _ _ _ us hl=>by obtain ⟨a0,a1,a2,rfl⟩:=jd hl; rfl) fun _ F=>dB (k:=8) T  (g8.mono (by decide)) (g12.mono (by decide)) g13r4 F;have g13:Kn l.prog w K mg base 10 "is_formed" ["tongue", "thing", "deep"] (spF K [0,0,0] 3 (bI 6)):=d13.kn X G (fun _ _ _ _ _ _ us hl=>by obtain ⟨a0,a1,a2,rfl⟩:=jd hl; rfl) fun _ F=>dB (k:=9) T  (g8.mono (by decide)) (g12.mono (by decide)) g13r5 F;have g14r0:Kn l.prog w K mg base 1 "sentences_in" ["sentence"] (spF K [0] 3 (bj 0)):=d14.none X G (fun _ _ _ _ _ _ us hl=>by obtain ⟨a0,rfl⟩:=aZ hl; rfl);have g14r1:Kn l.prog w K mg base 2 "sentences_in" ["sentence"] (spF K [0] 3 (bj 1)):=d14.kn X G (fun _ _ _ _ _ _ us hl=>by obtain ⟨a0,rfl⟩:=aZ hl; rfl) fun _ F=>cz (k:=1) T  (g8.mono (by decide)) g14r0 F;have g14r2:Kn l.prog w K mg base 3 "sentences_in" ["sentence"] (spF K [0] 3 (bj 2)):=d14.kn X G (fun _ _ _ _ _ _ us hl=>by obtain ⟨a0,rfl⟩:=aZ hl; rfl) fun _ F=>cz (k:=2) T  (g8.mono (by decide)) g14r1 F;have g14r3:Kn l.prog w K mg base 4 "sentences_in" ["sentence"] (spF K [0] 3 (bj 3)):=d14.kn X G (fun _ _ _ _ _ _ us hl=>by obtain ⟨a0,rfl⟩:=aZ hl; rfl) fun _ F=>cz (k:=3) T  (g8.mono (by decide)) g14r2 F;have g14r4:Kn l.prog w K mg base 5 "sentences_in" ["sentence"] (spF K [0] 3 (bj 4)):=d14.kn X G (fun _ _ _ _ _ _ us hl=>by obtain ⟨a0,rfl⟩:=aZ hl; rfl) fun _ F=>cz (k:=4) T  (g8.mono (by decide)) g14r3 F;have g14r5:Kn l.prog w K mg base 6 "sentences_in" ["sentence"] (spF K [0] 3 (bj 5)):=d14.kn X G (fun _ _ _ _ _ _ us hl=>by obtain ⟨a0,rfl⟩:=aZ hl; rfl) fun _ F=>cz (k:=5) T  (g8.mono (by decide)) g14r4 F;have g14:Kn l.prog w K mg base 7 "sentences_in" ["sentence"] (spF K [0] 3 (bj 6)):=d14.kn X G (fun _ _ _ _ _ _ us hl=>by obtain ⟨a0,rfl⟩:=aZ hl; rfl) fun _ F=>cz (k:=6) T  (g8.mono (by decide)) g14r5 F;have g15:Kn l.prog w K mg base 11 "is_sentence" ["tongue", "thing"] (spF K [0,0] 3 da):=d15.kn X G (fun _ _ _ _ _ _ us hl=>by obtain ⟨a0,a1,rfl⟩:=bP hl; rfl) fun _ F=>pU (k:=10) T v12 v13 (g13.mono (by decide)) (g14.mono (by decide))   F;have g16:Kn l.prog w K mg base 12 "is_rule" ["thing"] (spF K [0] 3 gi):=d16.kn X G (fun _ _ _ _ _ _ us hl=>by obtain ⟨a0,rfl⟩:=aZ hl; rfl) fun _ F=>uU (k:=11) T v14 (g4.mono (by decide)) (g15.mono (by decide))   F;have g18r0:Kn l.prog w K mg base 0 "show_sentence" ["sentence"] (spF K [0] 3 (aC 0)):=d18.none X G (fun _ _ _ _ _ _ us hl=>by obtain ⟨a0,rfl⟩:=aZ hl; rfl);have g17r0:Kn l.prog w K mg base 1 "show_field" ["field"] (spF K [0] 3 (aL (aC 0))):=d17.kn X G (fun _ _ _ _ _ _ us hl=>by obtain ⟨a0,rfl⟩:=aZ hl; rfl) fun _ F=>cR (k:=0) T  g18r0 F;have g18r1:Kn l.prog w K mg base 2 "show_sentence" ["sentence"] (spF K [0] 3 (aC 1)):=d18.kn X G (fun _ _ _ _ _ _ us hl=>by obtain ⟨a0,rfl⟩:=aZ hl; rfl) fun _ F=>ci (k:=1) T  g17r0 F;have g17r1:Kn l.prog w K mg base 3 "show_field" ["field"] (spF K [0] 3 (aL (aC 1))):=d17.kn X G (fun _ _ _ _ _ _ us hl=>by obtain ⟨a0,rfl⟩:=aZ hl; rfl) fun _ F=>cR (k:=2) T  g18r1 F;have g18r2:Kn l.prog w K mg base 4 "show_sentence" ["sentence"] (spF K [0] 3 (aC 2)):=d18.kn X G (fun _ _ _ _ _ _ us hl=>by obtain ⟨a0,rfl⟩:=aZ hl; rfl) fun _ F=>ci (k:=3) T  g17r1 F;have g17r2:Kn l.prog w K mg base 5 "show_field" ["field"] (spF K [0] 3 (aL (aC 2))):=d17.kn X G (fun _ _ _ _ _ _ us hl=>by obtain ⟨a0,rfl⟩:=aZ hl; rfl) fun _ F=>cR (k:=4) T  g18r2 F;have g18r3:Kn l.prog w K mg base 6 "show_sentence" ["sentence"] (spF K [0] 3 (aC 3)):=d18.kn X G (fun _ _ _ _ _ _ us hl=>by obtain ⟨a0,rfl⟩:=aZ hl; rfl) fun _ F=>ci (k:=5) T  g17r2 F;have g17r3:Kn l.prog w K mg base 7 "show_field" ["field"] (spF K [0] 3 (aL (aC 3))):=d17.kn X G (fun _ _ _ _ _ _ us hl=>by obtain ⟨a0,rfl⟩:=aZ hl; rfl) fun _ F=>cR (k:=6) T  g18r3 F;have g18r4:Kn l.prog w K mg base 8 "show_sentence" ["sentence"] (spF K [0] 3 (aC 4)):=d18.kn X G (fun _ _ _ _ _ _ us hl=>by obtain ⟨a0,rfl⟩:=aZ hl; rfl) fun _ F=>ci (k:=7) T  g17r3 F;have g17r4:Kn l.prog w K mg base 9 "show_field" ["field"] (spF K [0] 3 (aL (aC 4))):=d17.kn X G (fun _ _ _ _ _ _ us hl=>by obtain ⟨a0,rfl⟩:=aZ hl; rfl) fun _ F=>cR (k:=8) T  g18r4 F;have g18r5:Kn l.prog w K mg base 10 "show_sentence" ["sentence"] (spF K [0] 3 (aC 5)):=d18.kn X G (fun _ _ _ _ _ _ us hl=>by obtain ⟨a0,rfl⟩:=aZ hl; rfl) fun _ F=>ci (k:=9) T  g17r4 F;have g17r5:Kn l.prog w K mg base 11 "show_field" ["field"] (spF K [0] 3 (aL (aC 5))):=d17.kn X G (fun _ _ _ _ _ _ us hl=>by obtain ⟨a0,rfl⟩:=aZ hl; rfl) fun _ F=>cR (k:=10) T  g18r5 F;have g18:Kn l.prog w K mg base 12 "show_sentence" ["sentence"] (spF K [0] 3 (aC 6)):=d18.kn X G (fun _ _ _ _ _ _ us hl=>by obtain ⟨a0,rfl⟩:=aZ hl; rfl) fun _ F=>ci (k:=11) T  g17r5 F;have g19:Kn l.prog w K mg base 13 "show_rule" ["rule"] (spF K [0] 3 eB):=d19.kn X G (fun _ _ _ _ _ _ us hl=>by obtain ⟨a0,rfl⟩:=aZ hl; rfl) fun _ F=>rN (k:=12) T  (g18.mono (by decide))   F;have g20:Kn l.prog w K mg base 1 "word_ahead" ["left"] (spF K [1] 0 bG):=d20.kn X G (fun _ _ _ _ _ _ us hl=>by obtain ⟨a0,rfl⟩:=aZ hl; rfl) fun _ F=>qC (k:=0) T     F;have g21:Kn l.prog w K mg base 1 "is_number_text" ["text"] (spF K [0] 3 cm):=d21.kn X G (fun _ _ _ _ _ _ us hl=>by obtain ⟨a0,rfl⟩:=aZ hl; rfl) fun _ F=>mF (k:=0) T v15 v16    F;have g22:Kn l.prog w K mg base 2 "number_ahead" ["left"] (spF K [1] 3 bt):=d22.kn X G (fun _ _ _ _ _ _ us hl=>by obtain ⟨a0,rfl⟩:=aZ hl; rfl) fun _ F=>oF (k:=1) T  (g20.mono (by decide)) (g21.mono (by decide))   F;have g23:Kn l.prog w K mg base 3 "high_ahead" ["left"] (spF K [1] 3 cL):=d23.kn X G (fun _ _ _ _ _ _ us hl=>by obtain ⟨a0,rfl⟩:=aZ hl; rfl) fun _ F=>qD (k:=2) T  (g22.mono (by decide))   F;have g24:Kn l.prog w K mg base 4 "fields_ahead" ["head", "left"] (spF K [0,1] 1 bu):=d24.kn X G (fun _ _ _ _ _ _ us hl=>by obtain ⟨a0,a1,rfl⟩:=bP hl; rfl) fun _ F=>oH (k:=3) T  (g22.mono (by decide)) (g23.mono (by decide)) (g20.mono (by decide))   F;have g25r0:Kn l.prog w K mg base 4 "sentence_ahead" ["left", "deep"] (spF K [1,0] 0 (aU 0)):=d25.none X G (fun _ _ _ _ _ _ us hl=>by obtain ⟨a0,a1,rfl⟩:=bP hl; rfl);have g25r1:Kn l.prog w K mg base 5 "sentence_ahead" ["left", "deep"] (spF K [1,0] 0 (aU 1)):=d25.kn X G (fun _ _ _ _ _ _ us hl=>by obtain ⟨a0,a1,rfl⟩:=bP hl; rfl) fun _ F=>b5 (k:=4) T  (g20.mono (by decide)) (g8.mono (by decide)) (g24.mono (by decide)) g25r0 F;have g25r2:Kn l.prog w K mg base 6 "sentence_ahead" ["left", "deep"] (spF K [1,0] 0 (aU 2)):=d25.kn X G (fun _ _ _ _ _ _ us hl=>by obtain ⟨a0,a1,rfl⟩:=bP hl; rfl) fun _ F=>b5 (k:=5) T  (g20.mono (by decide)) (g8.mono (by decide)) (g24.mono (by decide)) g25r1 F;have g25r3:Kn l.prog w K mg base 7 "sentence_ahead" ["left", "deep"] (spF K [1,0] 0 (aU 3)):=d25.kn X G (fun _ _ _ _ _ _ us hl=>by obtain ⟨a0,a1,rfl⟩:=bP hl; rfl) fun _ F=>b5 (k:=6) T  (g20.mono (by decide)) (g8.mono (by decide)) (g24.mono (by decide)) g25r2 F;have g25r4:Kn l.prog w K mg base 8 "sentence_ahead" ["left", "deep"] (spF K [1,0] 0 (aU 4)):=d25.kn X G (fun _ _ _ _ _ _ us hl=>by obtain ⟨a0,a1,rfl⟩:=bP hl; rfl) fun _ F=>b5 (k:=7) T  (g20.mono (by decide)) (g8.mono (by decide)) (g24.mono (by decide)) g25r3 F;have g25r5:Kn l.prog w K mg base 9 "sentence_ahead" ["left", "deep"] (spF K [1,0] 0 (aU 5)):=d25.kn X G (fun _ _ _ _ _ _ us hl=>by obtain ⟨a0,a1,rfl⟩:=bP hl; rfl) fun _ F=>b5 (k:=8) T  (g20.mono (by decide)) (g8.mono (by decide)) (g24.mono (by decide)) g25r4 F;have g25:Kn l.prog w K mg base 10 "sentence_ahead" ["left", "deep"] (spF K [1,0] 0 (aU 6)):=d25.kn X G (fun _ _ _ _ _ _ us hl=>by obtain ⟨a0,a1,rfl⟩:=bP hl; rfl) fun _ F=>b5 (k:=9) T  (g20.mono (by decide)) (g8.mono (by decide)) (g24.mono (by decide)) g25r5 F;have g26:Kn l.prog w K mg base 11 "sentence_of" ["text"] (spF K [0] 0 c9):=d26.kn X G (fun _ _ _ _ _ _ us hl=>by obtain ⟨a0,rfl⟩:=aZ hl; rfl) fun _ F=>pT (k:=10) T v12 (g25.mono (by decide))   F;have g27:Kn l.prog w K mg base 13 "read_rule" ["text"] (spF K [0] 0 eD):=d27.kn X G (fun _ _ _ _ _ _ us hl=>by obtain ⟨a0,rfl⟩:=aZ hl; rfl) fun _ F=>rO (k:=12) T  (g16.mono (by decide)) (g26.mono (by decide))   F;have g28:Kn l.prog w K mg base 1 "_law_pen" ["_law_script", "_law_first"] (spF K [0,0] 1 F_law_pen):=d28.kn X G (fun _ _ _ _ _ _ us hl=>by obtain ⟨a0,a1,rfl⟩:=bP hl; rfl) fun _ F=>tJ (k:=0) T     F;have g29:Kn l.prog w K mg base 1 "_law_mixed" ["_law_cell", "_law_k"] (spF K [0,0] 3 cx):=d29.kn X G (fun _ _ _ _ _ _ us hl=>by obtain ⟨a0,a1,rfl⟩:=bP hl; rfl) fun _ F=>qH (k:=0) T     F;have g30:Kn l.prog w K mg base 2 "_law_take" ["_law_pen_here", "_law_most"] (spF K [1,0] 0 aw):=d30.kn X G (fun _ _ _ _ _ _ us hl=>by obtain ⟨a0,a1,rfl⟩:=bP hl; rfl) fun _ F=>rS (k:=1) T  (g29.mono (by decide))   F;have g31:Kn l.prog w K mg base 3 "_law_tongue" ["_law_pen_here", "_law_many"] (spF K [1,0] 0 db):=d31.kn X G (fun _ _ _ _ _ _ us hl=>by obtain ⟨a0,a1,rfl⟩:=bP hl; rfl) fun _ F=>pV (k:=2) T  (g30.mono (by decide))   F;have g32:Kn l.prog w K mg base 4 "_law_any_tongue" ["_law_pen_here"] (spF K [1] 0 cb):=d32.kn X G (fun _ _ _ _ _ _ us hl=>by obtain ⟨a0,rfl⟩:=aZ hl; rfl) fun _ F=>lY (k:=3) T  (g31.mono (by decide)) (g30.mono (by decide))   F;have g33:Kn l.prog w K mg base 3 "_law_piece" ["_law_pen_here", "_law_letters", "_law_most"] (spF K [1,0,0] 3 dF):=d33.kn X G (fun _ _ _ _ _ _ us hl=>by obtain ⟨a0,a1,a2,rfl⟩:=jd hl; rfl) fun _ F=>qG (k:=2) T  (g30.mono (by decide))   F;have g34:Kn l.prog w K mg base 4 "_law_plain" ["_law_pen_here", "_law_tongue_here"] (spF K [1,0] 0 cM):=d34.kn X G (fun _ _ _ _ _ _ us hl=>by obtain ⟨a0,a1,rfl⟩:=bP hl; rfl) fun _ F=>qF (k:=3) T  (g30.mono (by decide)) (g33.mono (by decide))   F;have g35r0:Kn l.prog w K mg base 4 "_law_sentence" ["_law_pen_here", "_law_tongue_here", "_law_deep", "_law_room"] (spF K [1,0,0,1] 0 (bc 0)):=d35.none X G (fun _ _ _ _ _ _ us hl=>by obtain ⟨a0,a1,a2,a3,rfl⟩:=mH hl; rfl);have g35r1:Kn l.prog w K mg base 5 "_law_sentence" ["_law_pen_here", "_law_tongue_here", "_law_deep", "_law_room"] (spF K [1,0,0,1] 0 (bc 1)):=d35.kn X G (fun _ _ _ _ _ _ us hl=>by obtain ⟨a0,a1,a2,a3,rfl⟩:=mH hl; rfl) fun _ F=>cj (k:=4) T  (g30.mono (by decide)) g35r0 (g34.mono (by decide)) F;have g35r2:Kn l.prog w K mg base 6 "_law_sentence" ["_law_pen_here", "_law_tongue_here", "_law_deep", "_law_room"] (spF K [1,0,0,1] 0 (bc 2)):=d35.kn X G (fun _ _ _ _ _ _ us hl=>by obtain ⟨a0,a1,a2,a3,rfl⟩:=mH hl; rfl) fun _ F=>cj (k:=5) T  (g30.mono (by decide)) g35r1 (g34.mono (by decide)) F;have g35r3:Kn l.prog w K mg base 7 "_law_sentence" ["_law_pen_here", "_law_tongue_here", "_law_deep", "_law_room"] (spF K [1,0,0,1] 0 (bc 3)):=d35.kn X G (fun _ _ _ _ _ _ us hl=>by obtain ⟨a0,a1,a2,a3,rfl⟩:=mH hl; rfl) fun _ F=>cj (k:=6) T  (g30.mono (by decide)) g35r2 (g34.mono (by decide)) F;have g35r4:Kn l.prog w K mg base 8 "_law_sentence" ["_law_pen_here", "_law_tongue_here", "_law_deep", "_law_room"] (spF K [1,0,0,1] 0 (bc 4)):=d35.kn X G (fun _ _ _ _ _ _ us hl=>by obtain ⟨a0,a1,a2,a3,rfl⟩:=mH hl; rfl) fun _ F=>cj (k:=7) T  (g30.mono (by decide)) g35r3 (g34.mono (by decide)) F;have g35r5:Kn l.prog w K mg base 9 "_law_sentence" ["_law_pen_here", "_law_tongue_here", "_law_deep", "_law_room"] (spF K [1,0,0,1] 0 (bc 5)):=d35.kn X G (fun _ _ _ _ _ _ us hl=>by obtain ⟨a0,a1,a2,a3,rfl⟩:=mH hl; rfl) fun _ F=>cj (k:=8) T  (g30.mono (by decide)) g35r4 (g34.mono (by decide)) F;have g35:Kn l.prog w K mg base 10 "_law_sentence" ["_law_pen_here", "_law_tongue_here", "_law_deep", "_law_room"] (spF K [1,0,0,1] 0 (bc 6)):=d35.kn X G (fun _ _ _ _ _ _ us hl=>by obtain ⟨a0,a1,a2,a3,rfl⟩:=mH hl; rfl) fun _ F=>cj (k:=9) T  (g30.mono (by decide)) g35r5 (g34.mono (by decide)) F;have g36:Kn l.prog w K mg base 11 "_law_rule" ["_law_pen_here", "_law_most"] (spF K [1,0] 0 dw):=d36.kn X G (fun _ _ _ _ _ _ us hl=>by obtain ⟨a0,a1,rfl⟩:=bP hl; rfl) fun _ F=>rT (k:=10) T  (g32.mono (by decide)) (g35.mono (by decide)) (g30.mono (by decide))   F;have g37r0:Kn l.prog w K mg base 0 "_law_words" ["_law_sentence_here"] (spF K [0] 1 (be 0)):=d37.none X G (fun _ _ _ _ _ _ us hl=>by obtain ⟨a0,rfl⟩:=aZ hl; rfl);have g37r1:Kn l.prog w K mg base 1 "_law_words" ["_law_sentence_here"] (spF K [0] 1 (be 1)):=d37.kn X G (fun _ _ _ _ _ _ us hl=>by obtain ⟨a0,rfl⟩:=aZ hl; rfl) fun _ F=>cS (k:=0) T  g37r0 F;have g37r2:Kn l.prog w K mg base 2 "_law_words" ["_law_sentence_here"] (spF K [0] 1 (be 2)):=d37.kn X G (fun _ _ _ _ _ _ us hl=>by obtain ⟨a0,rfl⟩:=aZ hl; rfl) fun _ F=>cS (k:=1) T  g37r1 F;have g37r3:Kn l.prog w K mg base 3 "_law_words" ["_law_sentence_here"] (spF K [0] 1 (be 3)):=d37.kn X G (fun _ _ _ _ _ _ us hl=>by obtain ⟨a0,rfl⟩:=aZ hl; rfl) fun _ F=>cS (k:=2) T  g37r2 F;have g37r4:Kn l.prog w K mg base 4 "_law_words" ["_law_sentence_here"] (spF K [0] 1 (be 4)):=d37.kn X G (fun _ _ _ _ _ _ us hl=>by obtain ⟨a0,rfl⟩:=aZ hl; rfl) fun _ F=>cS (k:=3) T  g37r3 F;have g37r5:Kn l.prog w K mg base 5 "_law_words" ["_law_sentence_here"] (spF K [0] 1 (be 5)):=d37.kn X G (fun _ _ _ _ _ _ us hl=>by obtain ⟨a0,rfl⟩:=aZ hl; rfl) fun _ F=>cS (k:=4) T  g37r4 F;have g37:Kn l.prog w K mg base 6 "_law_words" ["_law_sentence_here"] (spF K [0] 1 (be 6)):=d37.kn X G (fun _ _ _ _ _ _ us hl=>by obtain ⟨a0,rfl⟩:=aZ hl; rfl) fun _ F=>cS (k:=5) T  g37r5 F;have g38:Kn l.prog w K mg base 7 "_law_text" ["_law_rule_here"] (spF K [0] 3 eF):=d38.kn X G (fun _ _ _ _ _ _ us hl=>by obtain ⟨a0,rfl⟩:=aZ hl; rfl) fun _ F=>rR (k:=6) T  (g37.mono (by decide))   F;have g39r0:Kn l.prog w K mg base 0 "_law_same" ["_law_got", "_law_due"] (spF K [0,0] 3 (aE 0)):=d39.none X G (fun _ _ _ _ _ _ us hl=>by obtain ⟨a0,a1,rfl⟩:=bP hl; rfl);have g39r1:Kn l.prog w K mg base 1 "_law_same" ["_law_got", "_law_due"] (spF K [0,0] 3 (aE 1)):=d39.kn X G (fun _ _ _ _ _ _ us hl=>by obtain ⟨a0,a1,rfl⟩:=bP hl; rfl) fun _ F=>cv (k:=0) T  g39r0 F;have g39r2:Kn l.prog w K mg base 2 "_law_same" ["_law_got", "_law_due"] (spF K [0,0] 3 (aE 2)):=d39.kn X G (fun _ _ _ _ _ _ us hl=>by obtain ⟨a0,a1,rfl⟩:=bP hl; rfl) fun _ F=>cv (k:=1) T  g39r1 F;have g39r3:Kn l.prog w K mg base 3 "_law_same" ["_law_got", "_law_due"] (spF K [0,0] 3 (aE 3)):=d39.kn X G (fun _ _ _ _ _ _ us hl=>by obtain ⟨a0,a1,rfl⟩:=bP hl; rfl) fun _ F=>cv (k:=2) T  g39r2 F;have g39r4:Kn l.prog w K mg base 4 "_law_same" ["_law_got", "_law_due"] (spF K [0,0] 3 (aE 4)):=d39.kn X G (fun _ _ _ _ _ _ us hl=>by obtain ⟨a0,a1,rfl⟩:=bP hl; rfl) fun _ F=>cv (k:=3) T  g39r3 F;have g39r5:Kn l.prog w K mg base 5 "_law_same" ["_law_got", "_law_due"] (spF K [0,0] 3 (aE 5)):=d39.kn X G (fun _ _ _ _ _ _ us hl=>by obtain ⟨a0,a1,rfl⟩:=bP hl; rfl) fun _ F=>cv (k:=4) T  g39r4 F;have g39r6:Kn l.prog w K mg base 6 "_law_same" ["_law_got", "_law_due"] (spF K [0,0] 3 (aE 6)):=d39.kn X G (fun _ _ _ _ _ _ us hl=>by obtain ⟨a0,a1,rfl⟩:=bP hl; rfl) fun _ F=>cv (k:=5) T  g39r5 F;have g39r7:Kn l.prog w K mg base 7 "_law_same" ["_law_got", "_law_due"] (spF K [0,0] 3 (aE 7)):=d39.kn X G (fun _ _ _ _ _ _ us hl=>by obtain ⟨a0,a1,rfl⟩:=bP hl; rfl) fun _ F=>cv (k:=6) T  g39r6 F;have g39:Kn l.prog w K mg base 8 "_law_same" ["_law_got", "_law_due"] (spF K [0,0] 3 (aE 8)):=d39.kn X G (fun _ _ _ _ _ _ us hl=>by obtain ⟨a0,a1,rfl⟩:=bP hl; rfl) fun _ F=>cv (k:=7) T  g39r7 F;exact (Jq (k:=13) T  (g36.mono (by decide)) (g38.mono (by decide)) (g19.mono (by decide)) (g28.mono (by decide)) (g37.mono (by decide)) (g39.mono (by decide)) (g27.mono (by decide))   FL).imp fun vs H Q E h=>Hw wF h
def walk {l:PySem.W.OpenLaw} {q:Program} {loose:List Str} {XP:(Str->Option Value)->Heap->Prop} {YP:World->Heap->Prop} {d:DefRec} {K:Params->PySem.W.Frag} (hn:l.most=some 63) (hdf:d.params.defaults=[]) (hq:PyProof.Rows.importsNone q=true)
  (hY:∀ (w:World) (h:Heap),YP w h->(K w.params).In h)
  (F:∀ (w:World) (mg:Str->Option Value) (fa:Addr) (h:Heap),(K w.params).In h->h.Ns mainGlobals mg->mg d.name=some (.ref fa) ->
   ∃ fd:FuncData,(∀ (s:Shared) (u:Value),BindsTo s fd ⟨[u],[]⟩ [("_law_script",u)])/\∀ base:Heap,(K w.params).In base->base.Ns mainGlobals mg->FnOk l.prog w (K w.params) mg base CX0 14 fa fd ["_law_script"] (ng (K w.params))) :
  PySem.W.WalkO q loose XP YP l.row.toRowW d [] (fun f vs=>PySem.call f vs) :=
 L2.walk_of (n:=63) (k:=14) (x:="_law_script") (CX:=fun _=>CX0) (sp:=fun w=>ng (K w.params)) hn (by decide) hdf ⟨rfl,by decide,by decide,rfl⟩ hq hY F (fun _ _ a ns hl hO hS=>⟨a,ns,rfl,hS,hO,hl,fun _=>rfl⟩) fun _ _ _ _ _ z=>z
end W56
open PySem PySem.W PyProof.Rows
set_option maxRecDepth 100000 in
set_option maxHeartbeats 0 in
theorem PySem.Challenge.cw_wordrules_k56_rule_texts_holds : PySem.Challenge.rw_wordrules_k56_rule_texts.Holds := by
 w_on; o_law; k_head; (case hw=>w_witness2)
 k_fill
 refine W56.walk (l:=PySem.Challenge.rw_wordrules_k56_rule_texts) rfl rfl rfl (fun w h Y=>PySem.W.kIn_of Y) ?F
 case F =>
  intro w mg fa h KX G hmg;refine' W56.all_mk KX G hmg (.mk' ?_ ?_ ?_ ?_) (.mk' ?_ ?_ ?_ ?_) (.mk' ?_ ?_ ?_ ?_) (.mk' ?_ ?_ ?_ ?_) (.mk' ?_ ?_ ?_ ?_) (.mk' ?_ ?_ ?_ ?_) (.mk' ?_ ?_ ?_ ?_) (.mk' ?_ ?_ ?_ ?_) (.mk' ?_ ?_ ?_ ?_) (.mk' ?_ ?_ ?_ ?_) (.mk' ?_ ?_ ?_ ?_) (.mk' ?_ ?_ ?_ ?_) (.mk' ?_ ?_ ?_ ?_) (.mk' ?_ ?_ ?_ ?_) (.mk' ?_ ?_ ?_ ?_) (.mk' ?_ ?_ ?_ ?_) (.mk' ?_ ?_ ?_ ?_) (.mk' ?_ ?_ ?_ ?_) (.mk' ?_ ?_ ?_ ?_) (.mk' ?_ ?_ ?_ ?_) (.mk' ?_ ?_ ?_ ?_) (.mk' ?_ ?_ ?_ ?_) (.mk' ?_ ?_ ?_ ?_) (.mk' ?_ ?_ ?_ ?_) (.mk' ?_ ?_ ?_ ?_) (.mk' ?_ ?_ ?_ ?_) (.mk' ?_ ?_ ?_ ?_) (.mk' ?_ ?_ ?_ ?_) (.mk' ?_ ?_ ?_ ?_) (.mk' ?_ ?_ ?_ ?_) (.mk' ?_ ?_ ?_ ?_) (.mk' ?_ ?_ ?_ ?_) (.mk' ?_ ?_ ?_ ?_) (.mk' ?_ ?_ ?_ ?_) (.mk' ?_ ?_ ?_ ?_) (.mk' ?_ ?_ ?_ ?_) (.mk' ?_ ?_ ?_ ?_) (.mk' ?_ ?_ ?_ ?_) (.mk' ?_ ?_ ?_ ?_) (.mk' ?_ ?_ ?_ ?_) (.mk' ?_ ?_ ?_ ?_) ?_ ?_ ?_ ?_ ?_ ?_ ?_ ?_ ?_ ?_ ?_ ?_ ?_ ?_ ?_ ?_ ?_ ?_ ?_ ?_ ?_ ?_ ?_ ?_ ?_ ?_ ?_ ?_ ?_ ?_ ?_ ?_ ?_ ?_
  all_goals (try k_is)
