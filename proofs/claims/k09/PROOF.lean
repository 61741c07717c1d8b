import PyProof.Rows.All
import Wide.All
import OpenK.AllK
import Wide.FinOn
import Lean
import PyProof.EqAt
import PyProof.EqKinds
import PyProof.TupleCall
import PyProof.NeKinds
import PyProof.ConsumeWalk
import PyProof.ZipIter
import PyProof.EnumMake
import PyProof.EnumFor
import PyProof.StrWalks
import PyProof.ListStr
import PyProof.SliceStr2
import PyProof.StrBlockI
import PyProof.Rows.StrWeight2
import PyProof.Rows.ZipGen
import PyProof.Rows.StrIndexOr
import PyProof.Draws
import PyProof.RaisesStr
import PyProof.Rows.StrCountLaw
import PyProof.SumWalk
import PyProof.ReprRoads
import PyProof.ReprLen
import PyProof.CallFns
import PyProof.SumAny
import PyProof.SumAnyB
import PySem.Challenge.RW_wordrules_k09_whole_sentences_within_rul
set_option Elab.async false
set_option linter.all false
set_option maxRecDepth 100000
namespace PySem.W.Fast
theorem tw10011694924683220353:True:=⟨⟩
theorem tw10065717565371581919:True:=⟨⟩
theorem tw10240959588305191481:True:=⟨⟩
theorem tw10289249899096968294:True:=⟨⟩
theorem tw10408469999526206762:True:=⟨⟩
theorem tw1045642577978639403:True:=⟨⟩
theorem tw10669963951447865645:True:=⟨⟩
theorem tw10869085683184064290:True:=⟨⟩
theorem tw10994353396003783471:True:=⟨⟩
theorem tw11011247103710395363:True:=⟨⟩
theorem tw11036668940731240702:True:=⟨⟩
theorem tw1109546676572040039:True:=⟨⟩
theorem tw11138109877676894473:True:=⟨⟩
theorem tw11147691935351155129:True:=⟨⟩
theorem tw11190020137184468691:True:=⟨⟩
theorem tw11310352914996351592:True:=⟨⟩
theorem tw11323038886293295116:True:=⟨⟩
theorem tw11366973119119763314:True:=⟨⟩
theorem tw11581789768614894130:True:=⟨⟩
theorem tw11626415222903109181:True:=⟨⟩
theorem tw11636394327105257979:True:=⟨⟩
theorem tw11685299583193072365:True:=⟨⟩
theorem tw11737073607245361853:True:=⟨⟩
theorem tw11764672198742182152:True:=⟨⟩
theorem tw11863188741719373980:True:=⟨⟩
theorem tw11937375785916201688:True:=⟨⟩
theorem tw11948876447787069026:True:=⟨⟩
theorem tw1195679607913739712:True:=⟨⟩
theorem tw11996063916977566783:True:=⟨⟩
theorem tw1206078640144474255:True:=⟨⟩
theorem tw12150872660773625465:True:=⟨⟩
theorem tw1220614026389024566:True:=⟨⟩
theorem tw12281015373882920682:True:=⟨⟩
theorem tw12301827564167689202:True:=⟨⟩
theorem tw12369371649249026519:True:=⟨⟩
theorem tw12532595630599602417:True:=⟨⟩
theorem tw12636358336994609879:True:=⟨⟩
theorem tw12647779855408474919:True:=⟨⟩
theorem tw12701581953973174836:True:=⟨⟩
theorem tw12704256754840902423:True:=⟨⟩
theorem tw12709558019073659769:True:=⟨⟩
theorem tw12850974675406495126:True:=⟨⟩
theorem tw12883394100684570906:True:=⟨⟩
theorem tw12892374081695959100:True:=⟨⟩
theorem tw13017657129730869528:True:=⟨⟩
theorem tw13035274463052087164:True:=⟨⟩
theorem tw13079041325771469843:True:=⟨⟩
theorem tw13277009233137116378:True:=⟨⟩
theorem tw13279270240614664772:True:=⟨⟩
theorem tw13347420733307832111:True:=⟨⟩
theorem tw1335158271627739902:True:=⟨⟩
theorem tw1336668641658737375:True:=⟨⟩
theorem tw1347783796798052966:True:=⟨⟩
theorem tw13548219892275075089:True:=⟨⟩
theorem tw13594038587741525676:True:=⟨⟩
theorem tw13684571975354264862:True:=⟨⟩
theorem tw13819138458541752173:True:=⟨⟩
theorem tw1385282965978983575:True:=⟨⟩
theorem tw13856573583063802462:True:=⟨⟩
theorem tw13998291617291146096:True:=⟨⟩
theorem tw1400667788458475597:True:=⟨⟩
theorem tw14092753652417169129:True:=⟨⟩
theorem tw14203759456262500554:True:=⟨⟩
theorem tw14206522734451572868:True:=⟨⟩
theorem tw14220955017145799822:True:=⟨⟩
theorem tw14313015186468638744:True:=⟨⟩
theorem tw14324007321380252001:True:=⟨⟩
theorem tw14504628822480167045:True:=⟨⟩
theorem tw14536878689420866775:True:=⟨⟩
theorem tw14553186423560988729:True:=⟨⟩
theorem tw14557238100231716062:True:=⟨⟩
theorem tw14573363401156872033:True:=⟨⟩
theorem tw14745188273226463775:True:=⟨⟩
theorem tw14756122798608649744:True:=⟨⟩
theorem tw14922660332249940551:True:=⟨⟩
theorem tw14961847527992024852:True:=⟨⟩
theorem tw14970873379691715211:True:=⟨⟩
theorem tw1497527876465819818:True:=⟨⟩
theorem tw14988157063191040313:True:=⟨⟩
theorem tw15025872299743210372:True:=⟨⟩
theorem tw15102624066656424768:True:=⟨⟩
theorem tw15103357837015339718:True:=⟨⟩
theorem tw15108704502353328461:True:=⟨⟩
theorem tw15124044078463977:True:=⟨⟩
theorem tw15125998732298929849:True:=⟨⟩
theorem tw15203391980655620102:True:=⟨⟩
theorem tw15238897436630406195:True:=⟨⟩
theorem tw15274777282181309317:True:=⟨⟩
theorem tw15424448130639213663:True:=⟨⟩
theorem tw15431325859707761858:True:=⟨⟩
theorem tw15499848771512814093:True:=⟨⟩
theorem tw15513863994236809684:True:=⟨⟩
theorem tw15568135018314334551:True:=⟨⟩
theorem tw15648574646387780703:True:=⟨⟩
theorem tw15687459901469425812:True:=⟨⟩
theorem tw15726293763731311808:True:=⟨⟩
theorem tw15729658152302852312:True:=⟨⟩
theorem tw15754956652086078163:True:=⟨⟩
theorem tw15793429750605941129:True:=⟨⟩
theorem tw15865934166295190494:True:=⟨⟩
theorem tw15958797020376985681:True:=⟨⟩
theorem tw15962319905821481468:True:=⟨⟩
theorem tw16086804559836796702:True:=⟨⟩
theorem tw16282375689314951151:True:=⟨⟩
theorem tw16315539392842116454:True:=⟨⟩
theorem tw16365699881678101341:True:=⟨⟩
theorem tw16573285058680933308:True:=⟨⟩
theorem tw16583184016057893661:True:=⟨⟩
theorem tw16602120303317269926:True:=⟨⟩
theorem tw16663733036960234227:True:=⟨⟩
theorem tw16764856010843804881:True:=⟨⟩
theorem tw16794762024283653991:True:=⟨⟩
theorem tw16810312944831574751:True:=⟨⟩
theorem tw16829137643302219354:True:=⟨⟩
theorem tw1686282640788226809:True:=⟨⟩
theorem tw16955052071375139868:True:=⟨⟩
theorem tw1700870944430609053:True:=⟨⟩
theorem tw17014296613718420914:True:=⟨⟩
theorem tw17092372435983466190:True:=⟨⟩
theorem tw17130592913218304974:True:=⟨⟩
theorem tw17174939831047044301:True:=⟨⟩
theorem tw17197201235995070377:True:=⟨⟩
theorem tw17258868620806453797:True:=⟨⟩
theorem tw17289972218558947882:True:=⟨⟩
theorem tw17324260323013154929:True:=⟨⟩
theorem tw17422883488603752687:True:=⟨⟩
theorem tw17442938704222563793:True:=⟨⟩
theorem tw17554716078274171792:True:=⟨⟩
theorem tw17640099418052923912:True:=⟨⟩
theorem tw17751938169268533526:True:=⟨⟩
theorem tw17842761249413306556:True:=⟨⟩
theorem tw17933490884392683130:True:=⟨⟩
theorem tw17962570091023068822:True:=⟨⟩
theorem tw18037043412543943567:True:=⟨⟩
theorem tw18061569663869807008:True:=⟨⟩
theorem tw18100663752582149856:True:=⟨⟩
theorem tw18153075773112941049:True:=⟨⟩
theorem tw18202207478172313074:True:=⟨⟩
theorem tw18237236533915549689:True:=⟨⟩
theorem tw18237353017352931661:True:=⟨⟩
theorem tw18324670456367969401:True:=⟨⟩
theorem tw18324893488461601508:True:=⟨⟩
theorem tw18347588887492704511:True:=⟨⟩
theorem tw18357411053249350314:True:=⟨⟩
theorem tw18392029877072304399:True:=⟨⟩
theorem tw1981131350480091455:True:=⟨⟩
theorem tw2015256593255632661:True:=⟨⟩
theorem tw213967503574995667:True:=⟨⟩
theorem tw2226338618325952486:True:=⟨⟩
theorem tw2341780021545030414:True:=⟨⟩
theorem tw2343774734184234522:True:=⟨⟩
theorem tw242527537179500784:True:=⟨⟩
theorem tw2468458964882578734:True:=⟨⟩
theorem tw2482700634521279562:True:=⟨⟩
theorem tw2556555139924863156:True:=⟨⟩
theorem tw2596698903320157387:True:=⟨⟩
theorem tw2607512274226366139:True:=⟨⟩
theorem tw2706543563326834928:True:=⟨⟩
theorem tw2720623398099120632:True:=⟨⟩
theorem tw2794447478663437416:True:=⟨⟩
theorem tw2857502054854445191:True:=⟨⟩
theorem tw2857516277479683229:True:=⟨⟩
theorem tw292104798449974314:True:=⟨⟩
theorem tw3182907181947426259:True:=⟨⟩
theorem tw3271323435915287485:True:=⟨⟩
theorem tw3342451943225919993:True:=⟨⟩
theorem tw3371667466471419528:True:=⟨⟩
theorem tw3471151899072558945:True:=⟨⟩
theorem tw3488267865101889374:True:=⟨⟩
theorem tw3502845038146166636:True:=⟨⟩
theorem tw3621624460156524199:True:=⟨⟩
theorem tw3680539605003920308:True:=⟨⟩
theorem tw3691883906701394841:True:=⟨⟩
theorem tw3702683364586293562:True:=⟨⟩
theorem tw3755656478591361612:True:=⟨⟩
theorem tw383336542218795458:True:=⟨⟩
theorem tw3868444300689624592:True:=⟨⟩
theorem tw3986625090099786490:True:=⟨⟩
theorem tw3988880023248813784:True:=⟨⟩
theorem tw4044634530706826620:True:=⟨⟩
theorem tw4081415210175660743:True:=⟨⟩
theorem tw4154841589965633213:True:=⟨⟩
theorem tw4185330367361747444:True:=⟨⟩
theorem tw4190197894548177686:True:=⟨⟩
theorem tw4257102759464558069:True:=⟨⟩
theorem tw4311952744810956103:True:=⟨⟩
theorem tw4419681966204233953:True:=⟨⟩
theorem tw4426293321761223917:True:=⟨⟩
theorem tw4445034079267364174:True:=⟨⟩
theorem tw4545555202785406283:True:=⟨⟩
theorem tw4576989503633756473:True:=⟨⟩
theorem tw480932981244935012:True:=⟨⟩
theorem tw4818734423741492127:True:=⟨⟩
theorem tw4840000111680683805:True:=⟨⟩
theorem tw4917984657073651668:True:=⟨⟩
theorem tw4976125861327969310:True:=⟨⟩
theorem tw5032216076849450899:True:=⟨⟩
theorem tw5048741445979463739:True:=⟨⟩
theorem tw5096899848954365902:True:=⟨⟩
theorem tw5098488116825146405:True:=⟨⟩
theorem tw5282751644467038356:True:=⟨⟩
theorem tw5315617308115011084:True:=⟨⟩
theorem tw531882013991820386:True:=⟨⟩
theorem tw5330715818871485208:True:=⟨⟩
theorem tw5351214644964984487:True:=⟨⟩
theorem tw5381080168159327714:True:=⟨⟩
theorem tw5394008528730269625:True:=⟨⟩
theorem tw540688599714476492:True:=⟨⟩
theorem tw5557229521897262674:True:=⟨⟩
theorem tw5702515267796199043:True:=⟨⟩
theorem tw5737279496614904567:True:=⟨⟩
theorem tw5740335769196341899:True:=⟨⟩
theorem tw5780258813802060663:True:=⟨⟩
theorem tw5861698107514880083:True:=⟨⟩
theorem tw5953063370133468852:True:=⟨⟩
theorem tw5988914432547976345:True:=⟨⟩
theorem tw6036902906669094847:True:=⟨⟩
theorem tw6047098710341160310:True:=⟨⟩
theorem tw6052989817429193854:True:=⟨⟩
theorem tw6063615628158763390:True:=⟨⟩
theorem tw6204126332023631129:True:=⟨⟩
theorem tw6309928924400289266:True:=⟨⟩
theorem tw6314316742051225950:True:=⟨⟩
theorem tw6341544399570973749:True:=⟨⟩
theorem tw6381163958246572159:True:=⟨⟩
theorem tw6451257115553005594:True:=⟨⟩
theorem tw6458238362096331926:True:=⟨⟩
theorem tw6466132517555520860:True:=⟨⟩
theorem tw6471717732935068823:True:=⟨⟩
theorem tw6484271479686740758:True:=⟨⟩
theorem tw6534035731704071103:True:=⟨⟩
theorem tw6545533524164622049:True:=⟨⟩
theorem tw65995991418377511:True:=⟨⟩
theorem tw6611358435737649313:True:=⟨⟩
theorem tw6654832167322697311:True:=⟨⟩
theorem tw6676890179488210782:True:=⟨⟩
theorem tw6678246217983906314:True:=⟨⟩
theorem tw6750692952974135251:True:=⟨⟩
theorem tw6788207324818056253:True:=⟨⟩
theorem tw6794944398315450837:True:=⟨⟩
theorem tw6848778846476450488:True:=⟨⟩
theorem tw6861745839893555687:True:=⟨⟩
theorem tw6907293010935329944:True:=⟨⟩
theorem tw6933518190972099167:True:=⟨⟩
theorem tw6968954176968899577:True:=⟨⟩
theorem tw730255112017841690:True:=⟨⟩
theorem tw7388416022993970477:True:=⟨⟩
theorem tw7423696692978981449:True:=⟨⟩
theorem tw7424467330900437808:True:=⟨⟩
theorem tw7433315866610799155:True:=⟨⟩
theorem tw7528906271867954915:True:=⟨⟩
theorem tw7601290114983165134:True:=⟨⟩
theorem tw7653322721832544777:True:=⟨⟩
theorem tw7680116061537961882:True:=⟨⟩
theorem tw7763429560076803348:True:=⟨⟩
theorem tw7773595029141963666:True:=⟨⟩
theorem tw7820047569298583445:True:=⟨⟩
theorem tw7825259654522223093:True:=⟨⟩
theorem tw7860140320303850404:True:=⟨⟩
theorem tw7865489411426524952:True:=⟨⟩
theorem tw789036554689089185:True:=⟨⟩
theorem tw795184957957118826:True:=⟨⟩
theorem tw8140322114765424660:True:=⟨⟩
theorem tw8154008957536657006:True:=⟨⟩
theorem tw8163782976733529690:True:=⟨⟩
theorem tw818247316228347711:True:=⟨⟩
theorem tw8265023845904929763:True:=⟨⟩
theorem tw8397484951059667952:True:=⟨⟩
theorem tw8404858395088262310:True:=⟨⟩
theorem tw8423540460956637582:True:=⟨⟩
theorem tw8475142459219814463:True:=⟨⟩
theorem tw8477880173865274606:True:=⟨⟩
theorem tw8603980122377724522:True:=⟨⟩
theorem tw8618606737845354527:True:=⟨⟩
theorem tw8701185364616602927:True:=⟨⟩
theorem tw8720223735903899466:True:=⟨⟩
theorem tw8750321969764192776:True:=⟨⟩
theorem tw8822332740759901215:True:=⟨⟩
theorem tw8948158644957188790:True:=⟨⟩
theorem tw9073669484531567414:True:=⟨⟩
theorem tw9179516828170580196:True:=⟨⟩
theorem tw923489345472156727:True:=⟨⟩
theorem tw9262447544750128284:True:=⟨⟩
theorem tw938263584947243557:True:=⟨⟩
theorem tw9391723782804421910:True:=⟨⟩
theorem tw9646561386391646195:True:=⟨⟩
theorem tw9715267833065118586:True:=⟨⟩
theorem tw9771252393717580033:True:=⟨⟩
theorem tw9797227992632711954:True:=⟨⟩
theorem tw9816426963445809163:True:=⟨⟩
end PySem.W.Fast
namespace L2
open PySem PySem.Spec PyProof.Rows
abbrev Key:=Sum Int Str
def kX:Key→Value→Bool
 | .inl k,v=>Value.isInt k v
 | .inr x,v=>Value.isStrOf x v
def Hr (w:World):Key→Int
 | .inl k=>hashInt k
 | .inr x=>hashStr w x
theorem ci:∀ {k:Key} {v:Value},kX k v=true→(∃ i t,k=Sum.inl i∧v=Value.int i t)∨(∃ x t,k=Sum.inr x∧v=Value.str x t)
 | .inl i,v,h=>by
  obtain ⟨t,e⟩:=Value.isInt_shape (k:=i) (v:=v) h
  exact .inl ⟨i,t,rfl,e⟩
 | .inr x,v,h=>by
  obtain ⟨t,e⟩:=Value.isStrOf_shape (x:=x) (v:=v) h
  exact .inr ⟨x,t,rfl,e⟩
theorem tE (i:Int) (t:Tok):kX (.inl i) (.int i t)=true:=by simp [kX,Value.isInt]
theorem tz (x:Str) (t:Tok):kX (.inr x) (.str x t)=true:=by simp [kX,Value.isStrOf]
theorem Fd (a b:Int):decide ((Sum.inl a:Key)=Sum.inl b)=(a == b):=by
 by_cases e:a=b
 ·subst e; simp
 ·have h:¬ (Sum.inl a:Key)=Sum.inl b:=fun q=>e (Sum.inl.inj q)
  rw [decide_eq_false h]
  exact (beq_eq_false_iff_ne.mpr e).symm
theorem E8 (a b:Str):decide ((Sum.inr a:Key)=Sum.inr b)=decide (a=b):=by
 by_cases e:a=b
 ·subst e; simp
 ·have h:¬ (Sum.inr a:Key)=Sum.inr b:=fun q=>e (Sum.inr.inj q)
  rw [decide_eq_false h,decide_eq_false e]
theorem Fc (a:Int) (b:Str):decide ((Sum.inl a:Key)=Sum.inr b)=false:=decide_eq_false (fun q=>nomatch q)
theorem E9 (a:Str) (b:Int):decide ((Sum.inr a:Key)=Sum.inl b)=false:=decide_eq_false (fun q=>nomatch q)
def cH (prog:Program) (w:World):PySem.KeyKind prog w Key where
 is:=kX
 hash:=Hr w
 inj:=fun v a b ha hb=>by
  rcases ci ha with ⟨i,t,rfl,rfl⟩ | ⟨x,t,rfl,rfl⟩
  ·rcases ci hb with ⟨j,u,rfl,e⟩ | ⟨y,u,rfl,e⟩
   ·injection e with e1 _; rw [e1]
   ·exact nomatch e
  ·rcases ci hb with ⟨j,u,rfl,e⟩ | ⟨y,u,rfl,e⟩
   ·exact nomatch e
   ·injection e with e1 _; rw [e1]
 byValue:=fun k v h=>by
  rcases ci h with ⟨i,t,rfl,rfl⟩ | ⟨x,t,rfl,rfl⟩ <;> rfl
 pyHash:=fun hv h=>by
  rcases ci hv with ⟨i,t,rfl,rfl⟩ | ⟨x,t,rfl,rfl⟩
  ·exact wpAny_pyHash_int h
  ·exact wpAny_pyHash_str h
 eqBool:=fun hu hv h=>by
  rcases ci hu with ⟨i,t,rfl,rfl⟩ | ⟨x,t,rfl,rfl⟩
  ·rcases ci hv with ⟨j,u,rfl,rfl⟩ | ⟨y,u,rfl,rfl⟩
   ·rw [Fd] at h; exact wpAny_eqBool_int h
   ·rw [Fc] at h; exact SeqAt.EqAt.int_str i t y u _ _ _ _ h
  ·rcases ci hv with ⟨j,u,rfl,rfl⟩ | ⟨y,u,rfl,rfl⟩
   ·rw [E9] at h; exact SeqAt.EqAt.str_int x t j u _ _ _ _ h
   ·rw [E8] at h; exact wpAny_eqBool_str h
 «strs»:=fun k x t v h=>by
  rcases ci h with ⟨i,u,rfl,e⟩ | ⟨y,u,rfl,e⟩
  ·exact nomatch e
  ·injection e with e1 _
   subst e1
   cases v <;> rfl
theorem qC (prog:Program) (w:World) (i:Int) (t:Tok):(cH prog w).is (.inl i) (.int i t)=true:=tE i t
theorem qB (prog:Program) (w:World) (x:Str) (t:Tok):(cH prog w).is (.inr x) (.str x t)=true:=tz x t
end L2
namespace L2
open PySem PySem.Spec PyProof.Rows
inductive V where
 | non | bl (b:Bool) | int (i:Int) | str (x:Str) | byt (b:Array UInt8) | flt (b:UInt64) | ref (a:Addr) | ty (n:String)
 deriving DecidableEq
def RelV:V→Value→Prop
 | .non,u=>u=Value.none
 | .bl b,u=>u=Value.bool b
 | .int i,u=>∃ t,u=Value.int i t
 | .str x,u=>∃ t,u=Value.str x t
 | .byt b,u=>∃ t,u=Value.bytes b t
 | .flt b,u=>∃ t,u=Value.float b t
 | .ref a,u=>u=Value.ref a
 | .ty n,u=>u=Value.type n
abbrev Vals:List V→List Value→Prop:=Paired RelV
theorem Vals.length {xs:List V} {us:List Value} (r:Vals xs us):xs.length=us.length:=Paired.length r
theorem Vals.get:∀ {xs:List V} {us:List Value} {i:Nat} {x:V},Vals xs us→xs[i]?=some x→∃ u,us[i]?=some u∧RelV x u
 | _,_,_,_,.nil,e=>by simp at e
 | _,_,0,_,.cons r _,e=>by simp at e; subst e; exact ⟨_,rfl,r⟩
 | _,_,i+1,x,.cons _ t,e=>by
  obtain ⟨u,h1,h2⟩:=Vals.get (i:=i) (x:=x) t (by simpa using e)
  exact ⟨u,by simpa using h1,h2⟩
theorem Vals.set {x:V} {u:Value} (r:RelV x u):∀ {xs:List V} {us:List Value} (i:Nat),Vals xs us→Vals (xs.set i x) (us.set i u)
 | _,_,_,.nil=>.nil
 | _,_,0,.cons _ t=>.cons r t
 | _,_,i+1,.cons q t=>.cons q (Vals.set r i t)
theorem Vals.append:∀ {xs ys:List V} {us ws:List Value},Vals xs us→Vals ys ws→Vals (xs++ys) (us++ws)
 | _,_,_,_,.nil,s=>s
 | _,_,_,_,.cons r t,s=>.cons r (Vals.append t s)
theorem Vals.take:∀ {xs:List V} {us:List Value} (n:Nat),Vals xs us→Vals (xs.take n) (us.take n)
 | _,_,0,_=>.nil
 | _,_,_+1,.nil=>.nil
 | _,_,n+1,.cons r t=>.cons r (Vals.take n t)
theorem Vals.drop:∀ {xs:List V} {us:List Value} (n:Nat),Vals xs us→Vals (xs.drop n) (us.drop n)
 | _,_,0,r=>r
 | _,_,_+1,.nil=>.nil
 | _,_,n+1,.cons _ t=>Vals.drop n t
def vy:Option V→Option Value→Prop
 | some v,some u=>RelV v u
 | none,none=>True
 | _,_=>False
def KV {κ:Type}:List (κ × V)→List (κ × Value)→Prop:=Paired fun (p:κ × V) (q:κ × Value)=>p.1=q.1∧RelV p.2 q.2
def kV:Key→V
 | .inl i=>.int i
 | .inr x=>.str x
inductive HO where
 | lst (xs:List V)
 | tup (xs:List V)
 | dK (kvs:List (Key × V)) | dT (kvs:List (List Key × V))
 | set (S:Int→Bool) (n:Nat)
 | ins (C dx:Addr) (fs:List (Str × V))
 | own (x:Addr)
 | xd (fs:List (Str × V))
 | met (f x:Addr)
 | rng (lo hi:Int)
 | frz (o:Obj) (u:HO)
 | tbl (ps:Array Value)
 | ext (φ:Heap→Prop)
abbrev Hp:=Addr→Option HO
def upd (H:Hp) (a:Addr) (o:HO):Hp:=fun b=>if b=a then some o else H b
theorem br {H:Hp} {a:Addr} {o:HO}:upd H a o a=some o:=by unfold upd; rw [if_pos rfl]
theorem bd {H:Hp} {a b:Addr} {o:HO} (h:b≠a):upd H a o b=H b:=by unfold upd; rw [if_neg h]
theorem cg {H:Hp} {a b:Addr} {o:HO} (h:H a=some o) (h':H b=none):a≠b:=by
 intro e; subst e; rw [h] at h'; cases h'
def IsTupN (h:Heap) (a:Addr) (its:Array Value):Prop:=∃ o,h.get? a=some o∧o.cls=.type "tuple"∧∃ n,o.data=.seq its n∧o.dict=none
theorem IsTupN.tup {h:Heap} {a:Addr} {its:Array Value} (x:IsTupN h a its):IsTup h a its:=by
 obtain ⟨o,h1,h2,n,h3,_⟩:=x
 exact ⟨o,h1,h2,n,h3⟩
theorem IsTupN.lt {h:Heap} {a:Addr} {its:Array Value} (x:IsTupN h a its):a < h.objs.size:=Heap.lt_size x.choose_spec.1
theorem IsTupN.new (h:Heap) (its:Array Value):IsTupN (h.push { cls:=.type "tuple",data:=.seq its }) h.objs.size its:=⟨_,Heap.get?_push_size _ rfl,rfl,_,rfl,rfl⟩
section
variable (P:Program) (w:World)
def ObjOk (H:Hp) (h:Heap) (a:Addr):HO→Prop
 | .lst xs=>xs.length≤sizeLine∧∃ (its:List Value) (n:Nat),Vals xs its∧h.get? a=some { cls:=.type "list",data:=.seq its.toArray n }
 | .tup xs=>xs.length≤sizeLine∧∃ its:List Value,Vals xs its∧IsTupN h a its.toArray
 | .dK kvs=>kvs.length≤sizeLine∧(a == sysModules)=false∧∃ vs,KV kvs vs∧h.DictOf (cH P w) a vs
 | .dT kvs=>kvs.length≤sizeLine∧(a == sysModules)=false∧∃ xs:List (List Key × Addr × Value),
   Paired (fun (p:List Key × V) (q:List Key × Addr × Value)=>p.1=q.1∧H q.2.1=some (.tup (p.1.map kV))∧RelV p.2 q.2.2) kvs xs ∧
   ∃ o es ep,h.get? a=some o∧o.ExactDict∧o.data=.dict es ep∧es.toList=xs.map (entryOfKey (tupleKind (cH P w)))∧(xs.map (·.1)).Nodup
 | .set S n=>h.SetOf (intKind P w) a S n
 | .ins C dx fs=>H dx=some (.own a)∧fs.length≤1000∧dx≠a∧h.get? a=some (PySem.W.instObj C dx) ∧
   ∃ mA,h.Ns1 dx mA∧(∀ f,vy (fs.lookup f) (mA f))∧PySem.Within mA (fs.map (·.1))
 | .own _=>∃ o,h.get? a=some o
 | .xd fs=>∃ mA,h.Ns1 a mA∧∀ f,vy (fs.lookup f) (mA f)
 | .rng lo hi=>∃ t u v,h.get? a=some { cls:=.type "range",data:=.fields #[.int lo t,.int hi u,.int 1 v] }
 | .frz o u=>h.get? a=some o∧ObjOk H h a u
 | .tbl ps=>h.get? a=some { cls:=.none,data:=.fields ps }
 | .met f x=>h.get? a=some (PySem.W.methodObj (.ref f) (.ref x))
 | .ext φ=>φ h∧(∃ o,h.get? a=some o)∧∀ h1 h2:Heap,φ h1→(∀ o,h1.get? a=some o→h2.get? a=some o)→φ h2
def HOk (H:Hp) (h:Heap):Prop:=∀ a o,H a=some o→ObjOk P w H h a o
end
section
variable {P:Program} {w:World} {H H':Hp} {h h':Heap} {a:Addr} {o:HO}
theorem ObjOk.lt (x:ObjOk P w H h a o):a < h.objs.size:=by
 cases o with
 | lst xs=>obtain ⟨_,_,_,_,e⟩:=x; exact Heap.lt_size e
 | tup xs=>obtain ⟨_,_,_,p⟩:=x; exact p.lt
 | dK kvs=>obtain ⟨_,_,_,_,o,_,_,e,_⟩:=x; exact Heap.lt_size e
 | dT kvs=>obtain ⟨_,_,_,_,o,_,_,e,_⟩:=x; exact Heap.lt_size e
 | set S n=>obtain ⟨o,_,_,_,e,_⟩:=x; exact Heap.lt_size e
 | ins C dx fs=>obtain ⟨_,_,_,e,_⟩:=x; exact Heap.lt_size e
 | own y=>obtain ⟨_,e⟩:=x; exact Heap.lt_size e
 | xd fs=>obtain ⟨_,⟨_,_,_,e,_⟩,_⟩:=x; exact Heap.lt_size e
 | rng lo hi=>obtain ⟨_,_,_,e⟩:=x; exact Heap.lt_size e
 | frz ob u=>obtain ⟨e,_⟩:=x; exact Heap.lt_size e
 | tbl ps=>exact Heap.lt_size (show h.get? a=some _ from x)
 | met f y=>exact Heap.lt_size (show h.get? a=some _ from x)
 | ext φ=>obtain ⟨_,⟨_,e⟩,_⟩:=x; exact Heap.lt_size e
theorem Paired.mapP {α β:Type} {F G:α→β→Prop}:∀ {l₁:List α} {l₂:List β},Paired F l₁ l₂→(∀ a b,F a b→G a b)→Paired G l₁ l₂
 | _,_,.nil,_=>.nil
 | _,_,.cons r t,f=>.cons (f _ _ r) (Paired.mapP t f)
theorem ObjOk.stay (x:ObjOk P w H h a o) (k:∀ b u,(b=a∨H b=some (.own a))→h.get? b=some u→h'.get? b=some u)
  (ho:∀ b,H b=some (.own a)→H' b=some (.own a)) (ht:∀ b xs,H b=some (.tup xs)→H' b=some (.tup xs)):ObjOk P w H' h' a o:=by
 induction o with
 | lst xs=>obtain ⟨z,its,n,r,e⟩:=x; exact ⟨z,its,n,r,k _ _ (.inl rfl) e⟩
 | tup xs=>obtain ⟨z,its,r,ob,e,c⟩:=x; exact ⟨z,its,r,ob,k _ _ (.inl rfl) e,c⟩
 | dK kvs=>obtain ⟨z,y,vs,r,ob,es,ep,e,c⟩:=x; exact ⟨z,y,vs,r,ob,es,ep,k _ _ (.inl rfl) e,c⟩
 | dT kvs =>
  obtain ⟨z,y,xs,r,ob,es,ep,e,c⟩:=x
  exact ⟨z,y,xs,Paired.mapP r fun p q z=>⟨z.1,ht _ _ z.2.1,z.2.2⟩,ob,es,ep,k _ _ (.inl rfl) e,c⟩
 | set S n=>obtain ⟨ob,es,ep,t,e,c⟩:=x; exact ⟨ob,es,ep,t,k _ _ (.inl rfl) e,c⟩
 | ins C dx fs =>
  obtain ⟨d,z,ne,e,mA,⟨od,es,ep,e2,c⟩,r⟩:=x
  exact ⟨ho _ d,z,ne,k _ _ (.inl rfl) e,mA,⟨od,es,ep,k _ _ (.inr d) e2,c⟩,r⟩
 | own y=>obtain ⟨ob,e⟩:=x; exact ⟨ob,k _ _ (.inl rfl) e⟩
 | xd fs=>obtain ⟨mA,⟨od,es,ep,e,c⟩,r⟩:=x; exact ⟨mA,⟨od,es,ep,k _ _ (.inl rfl) e,c⟩,r⟩
 | rng lo hi=>obtain ⟨t,u,v,e⟩:=x; exact ⟨t,u,v,k _ _ (.inl rfl) e⟩
 | frz ob u ih=>obtain ⟨e,q⟩:=x; exact ⟨k _ _ (.inl rfl) e,ih q⟩
 | tbl ps =>
  have e:h.get? a=some { cls:=.none,data:=.fields ps }:=x
  show h'.get? a=some { cls:=.none,data:=.fields ps }
  exact k a _ (.inl rfl) e
 | met f y =>
  have e:h.get? a=some (PySem.W.methodObj (.ref f) (.ref y)):=x
  show h'.get? a=some (PySem.W.methodObj (.ref f) (.ref y))
  exact k a _ (.inl rfl) e
 | ext φ=>obtain ⟨p,⟨o,e⟩,st⟩:=x; exact ⟨st _ _ p fun o q=>k _ _ (.inl rfl) q,⟨o,k _ _ (.inl rfl) e⟩,st⟩
theorem HOk.lt (x:HOk P w H h) (e:H a=some o):a < h.objs.size:=(x a o e).lt
theorem HOk.fresh (x:HOk P w H h) (e:h.objs.size≤a):H a=none:=by
 cases q:H a with
 | none=>rfl
 | some u=>exact absurd (Nat.lt_of_lt_of_le (x.lt q) e) (Nat.lt_irrefl _)
theorem HOk.kept (x:HOk P w H h) (k:∀ b u,h.get? b=some u→h'.get? b=some u):HOk P w H h':=fun a o e =>
 (x a o e).stay (fun b u _ q=>k b u q) (fun _ q=>q) fun _ _ q=>q
theorem HOk.laid (x:HOk P w H h) (k:∀ b u,h.get? b=some u→h'.get? b=some u) (hp:h.objs.size≤a) (new:ObjOk P w (upd H a o) h' a o):HOk P w (upd H a o) h':=fun b u e=>by
 have hn:=x.fresh hp
 by_cases hb:b=a
 ·subst hb; rw [br] at e; cases e; exact new
 ·rw [bd hb] at e
  exact (x b u e).stay (fun c v _ q=>k c v q) (fun c q=>by rw [bd (cg q hn)]; exact q) fun c xs q=>by rw [bd (cg q hn)]; exact q
end
def Rd (H:Hp) (a:Addr) (u:HO):Prop:=H a=some u∨∃ o,H a=some (.frz o u)
theorem Rd.ok {P:Program} {w:World} {H:Hp} {h:Heap} {a:Addr} {u:HO} (r:Rd H a u) (x:HOk P w H h):ObjOk P w H h a u:=by
 rcases r with r | ⟨o,r⟩
 ·exact x a u r
 ·obtain ⟨_,q⟩:=x a _ r
  exact q
def Mut:Option HO→Prop
 | some (.lst _)=>True
 | some (.dK _)=>True
 | some (.dT _)=>True
 | some (.set _ _)=>True
 | some (.ins _ _ _)=>True
 | some (.ext _)=>True
 | _=>False
section
variable {P:Program} {w:World} {H:Hp} {h h':Heap} {x e:Addr} {o':HO}
theorem HOk.write (ok:HOk P w H h) (mu:Mut (H x)) (he:e=x∨H e=some (.own x)) (k:∀ b u,b≠e→h.get? b=some u→h'.get? b=some u) (heo:∃ u,h'.get? e=some u)
  (new:ObjOk P w (upd H x o') h' x o'):HOk P w (upd H x o') h':=fun b u q=>by
 have nown:∀ c y,H c=some (.own y)→c≠x:=fun c y r z=>by subst z; rw [r] at mu; exact mu
 have ntup:∀ c xs,H c=some (.tup xs)→c≠x:=fun c xs r z=>by subst z; rw [r] at mu; exact mu
 by_cases hb:b=x
 ·subst hb; rw [br] at q; cases q; exact new
 ·rw [bd hb] at q
  by_cases hbe:b=e
  ·have q':H b=some (.own x):=by
    rcases he with z | z
    ·exact absurd (hbe.trans z) hb
    ·rw [hbe]; exact z
   rw [q] at q'; cases q'
   obtain ⟨v,hv⟩:=heo
   exact ⟨v,by rw [hbe]; exact hv⟩
  ·refine (ok b u q).stay (fun c v hc r=>k c v ?_ r) (fun c r=>by rw [bd (nown c b r)]; exact r) fun c xs r=>by rw [bd (ntup c xs r)]; exact r
   rcases hc with rfl | hc
   ·exact hbe
   ·rintro rfl
    rcases he with z | z
    ·exact nown c b hc z
    ·rw [hc] at z; cases z; exact hb rfl
end
structure Un (fs ex:List Addr) (H H':Hp) (h h':Heap):Prop where
 keep:∀ b o,h.get? b=some o→H b=none→b ∉ fs→b ∉ ex→h'.get? b=some o
 slot:∀ b o,h.get? b=some o→H b=none→b∈fs→b ∉ ex→∃ sl,h'.get? b=some { o with slots:=sl }
 free:∀ b o,h.get? b=some o→H b=none→b ∉ ex→H' b=none
 there:∀ b o,h.get? b=some o→b ∉ ex→∃ o',h'.get? b=some o'
 tups:∀ b xs,H b=some (.tup xs)→H' b=some (.tup xs)
 frzs:∀ b o u,H b=some (.frz o u)→H' b=some (.frz o u)
 tbls:∀ b ps,H b=some (.tbl ps)→∃ more,H' b=some (.tbl (ps++more))
section
variable {fs fs' ex ex':List Addr} {H H1 H2:Hp} {h h1 h2 h':Heap} {a x e:Addr} {o:HO}
theorem Un.any (u:Un fs ex H H1 h h1) {b:Addr} {ob:Obj} (q:h.get? b=some ob) (n:H b=none) (hx:b ∉ ex):∃ sl,h1.get? b=some { ob with slots:=sl }:=by
 by_cases hb:b∈fs
 ·exact u.slot b ob q n hb hx
 ·exact ⟨ob.slots,u.keep b ob q n hb hx⟩
theorem Un.trans (a:Un fs ex H H1 h h1) (b:Un fs ex H1 H2 h1 h2):Un fs ex H H2 h h2 where
 keep:=fun c ob q n hc hx=>b.keep c ob (a.keep c ob q n hc hx) (a.free c ob q n hx) hc hx
 slot:=fun c ob q n hc hx=>by
  obtain ⟨sl,e1⟩:=a.slot c ob q n hc hx
  obtain ⟨sl',e2⟩:=b.slot c _ e1 (a.free c ob q n hx) hc hx
  exact ⟨sl',e2⟩
 free:=fun c ob q n hx=>by
  obtain ⟨o',e1⟩:=a.there c ob q hx
  exact b.free c o' e1 (a.free c ob q n hx) hx
 there:=fun c ob q hx=>by
  obtain ⟨o',e1⟩:=a.there c ob q hx
  exact b.there c o' e1 hx
 tups:=fun c xs q=>b.tups c xs (a.tups c xs q)
 frzs:=fun c ob xs q=>b.frzs c ob xs (a.frzs c ob xs q)
 tbls:=fun c ps q=>by
  obtain ⟨m1,e1⟩:=a.tbls c ps q
  obtain ⟨m2,e2⟩:=b.tbls c _ e1
  exact ⟨m1++m2,by rw [e2,Array.append_assoc]⟩
theorem Un.kept (k:∀ b u,h.get? b=some u→h'.get? b=some u):Un fs ex H H h h' :=
 ⟨fun b ob q _ _ _=>k b ob q,fun b ob q _ _ _=>⟨ob.slots,k b ob q⟩,fun _ _ _ n _=>n,fun b ob q _=>⟨ob,k b ob q⟩,fun _ _ q=>q,fun _ _ _ q=>q,fun _ ps q=>⟨#[],by rw [q]; simp⟩⟩
theorem Un.refl:Un fs ex H H h h:=Un.kept fun _ _ q=>q
theorem Un.laid (k:∀ b u,h.get? b=some u→h'.get? b=some u) (hp:h.objs.size≤a) (hn:H a=none):Un fs ex H (upd H a o) h h' where
 keep:=fun b u q _ _ _=>k b u q
 slot:=fun b u q _ _ _=>⟨u.slots,k b u q⟩
 free:=fun b u q n _=>by rw [bd (Nat.ne_of_lt (Nat.lt_of_lt_of_le (Heap.lt_size q) hp))]; exact n
 there:=fun b u q _=>⟨u,k b u q⟩
 tups:=fun b xs q=>by rw [bd (cg q hn)]; exact q
 frzs:=fun b u xs q=>by rw [bd (cg q hn)]; exact q
 tbls:=fun b ps q=>⟨#[],by rw [bd (cg q hn),q]; simp⟩
theorem Un.write (mu:Mut (H x)) (he:e=x∨H e=some (.own x)) (k:∀ b u,b≠e→h.get? b=some u→h'.get? b=some u) (heo:∃ u,h'.get? e=some u):Un fs ex H (upd H x o) h h':=by
 have hx:∀ b,H b=none→b≠x:=fun b n z=>by subst z; rw [n] at mu; exact mu
 have hb:∀ b,H b=none→b≠e:=fun b n z=>by
  subst z
  rcases he with r | r
  ·exact hx b n r
  ·rw [n] at r; cases r
 have hm:∀ b u,H b=some u→¬ Mut (some u)→b≠x:=fun b u q nm z=>by subst z; rw [q] at mu; exact nm mu
 refine ⟨fun b u q n _ _=>k b u (hb b n) q,fun b u q n _ _=>⟨u.slots,k b u (hb b n) q⟩,fun b u q n _=>by rw [bd (hx b n)]; exact n,fun b u q _=>?_,
  fun b xs q=>by rw [bd (hm b _ q fun z=>z)]; exact q,fun b u xs q=>by rw [bd (hm b _ q fun z=>z)]; exact q,fun b ps q=>⟨#[],by rw [bd (hm b _ q fun z=>z),q]; simp⟩⟩
 by_cases hbe:b=e
 ·subst hbe; exact heo
 ·exact ⟨u,k b u hbe q⟩
end
def trk (h:Heap) (H:Hp):List Addr:=(List.range h.objs.size).filter fun a=>(H a).isSome
def jG (h:Heap) (H:Hp):Heap:=PySem.W.hideAll h (trk h H)
theorem tL (h:Heap) (H:Hp):(jG h H).objs.size=h.objs.size:=PySem.W.hideAll_size _ _
theorem u6 {h:Heap} {H:Hp} {b:Addr} {o:Obj} (e:h.get? b=some o) (n:H b=none):(jG h H).get? b=some o :=
 PySem.W.hideAll_get _ e fun hm=>by
  have q:(H b).isSome=true:=(List.mem_filter.mp hm).2
  rw [n] at q; simp at q
theorem BB {h:Heap} {H:Hp} {b:Addr} {o:Obj} (e:(jG h H).get? b=some o):h.get? b=some o∧H b=none:=by
 have e':h.get? b=some o:=PySem.W.of_hideAll (trk h H) e
 refine ⟨e',?_⟩
 cases q:H b with
 | none=>rfl
 | some x =>
  have hm:b∈trk h H:=List.mem_filter.mpr ⟨List.mem_range.mpr (Heap.lt_size e'),by simp [q]⟩
  have z:(jG h H).get? b=none:=PySem.W.hideAll_none (trk h H) hm
  rw [z] at e; cases e
def Cv (g h:Heap) (L:Addr):List (Addr × Obj):=(List.range h.objs.size).filterMap fun a=>if a=L∨(g.get? a).isSome=true then none else (h.get? a).map fun o=>(a,o)
def rest (g h:Heap) (L d:Addr):List (Addr × Obj):=(Cv g h L).filter fun p=>decide (p.1≠d)
end L2
namespace L2
open PySem PySem.Spec PyProof.Rows
structure Mod (K:PySem.W.Frag) (mg:Str→Option Value) (base:Heap):Prop where
 kin:K.In base
 glob:base.Ns mainGlobals mg
 blt:∃ mb,base.Ns builtinsNs mb∧∀ x:Str,x≠"__name__"→mb x=bootBuiltins x
 nolimit:base.NoLimit
 mods:∃ mm,base.Ns sysModules mm
structure Cx where
 prog:Program
 w:World
 K:PySem.W.Frag
 mg:Str→Option Value
 base:Heap
 A:Around
 N:List Str
 s₀:Shared
 H₀:Hp
 env:Env
 outer:List Env
 stack:List Env
 ex:List Addr
 fn:Str→Bool
 calm:Bool
 pn:List (Addr × Obj)
 xe:Value→Shared→Prop
def frs (l:List Env):List Addr:=l.filterMap (·.frame)
abbrev Cx.fs (X:Cx):List Addr:=frs X.outer
def Vis (sc:Scope) (x:Str):Prop:=sc.names.lookup x=some .local∨sc.names.lookup x=some .cell∨sc.names.lookup x=some .free
def Loc (sc:Scope) (x:Str):Prop:=sc.names.lookup x=some .local∨sc.names.lookup x=some .cell
def HG (env:Env) (h:Heap) (m:Str→Option Value) (x:Str) (u:Value):Prop :=
 (env.kindOf x=some .local∧m x=some u)∨((env.kindOf x=some .cell∨env.kindOf x=some .free)∧∃ c,env.cells.lookup x=some c∧h.IsCell c (some u))
structure Cx.Ok (X:Cx):Prop where
 mod:Mod X.K X.mg X.base
 kind:X.env.scope.kind=.function
 glob:X.env.globals=mainGlobals
 blt:X.env.builtins=builtinsNs
 above:X.s₀.heap.objs.size≤X.env.locals
 inj:∀ x y c,X.env.cells.lookup x=some c→X.env.cells.lookup y=some c→x=y
 has:∀ x,(X.env.kindOf x=some .cell∨X.env.kindOf x=some .free)→∃ c,X.env.cells.lookup x=some c
 cab:∀ x c,X.fn x=true→X.env.cells.lookup x=some c→X.s₀.heap.objs.size≤c
 hd:X.calm=true→X.A.handled=none
 frames:X.A.frames=some X.stack
 stk:X.stack=X.outer∨(X.stack=X.env :: X.outer∧X.env.frame=some X.env.locals)
 exf:∀ b∈X.ex,b≠X.env.locals∧∀ x c,X.env.cells.lookup x=some c→c≠b
 bs:∀ b o,X.base.get? b=some o→X.s₀.heap.get? b=some o∧X.H₀ b=none
 bsz:X.base.objs.size≤X.s₀.heap.objs.size
 noex:∀ b o,X.base.get? b=some o→b ∉ X.ex
 exfs:∀ b∈X.ex,b ∉ X.fs
 funs:X.s₀.heap.FunFrames X.base X.outer
 frf:∀ b∈X.fs,X.H₀ b=none
structure Inv (X:Cx) (pins:List (Addr × Obj)) (σ:List (Option V)) (H:Hp) (s:Shared):Prop where
 ok:X.Ok
 os:s.os=X.s₀.os
 bare:AllBare s.gens
 base:Un X.fs X.ex X.H₀ H X.s₀.heap s.heap
 loc:∃ m,s.heap.Ns X.env.locals m∧∀ (i:Nat) (x:Str) (v:V),X.N[i]?=some x→σ[i]?=some (some v)→Vis X.env.scope x→∃ u,RelV v u∧HG X.env s.heap m x u
 cell:∀ x c,X.env.cells.lookup x=some c→∃ v,s.heap.IsCell c v
 free:H X.env.locals=none
 freeC:∀ x c,X.env.cells.lookup x=some c→H c=none
 pin:∀ p∈X.pn++pins,s.heap.get? p.1=some p.2∧H p.1=none∧p.1≠X.env.locals∧p.1 ∉ X.fs∧∀ v,p.2.data≠.cell v
 hok:HOk X.prog X.w H s.heap
 len:σ.length=X.N.length
section
variable {X:Cx} {pins:List (Addr × Obj)} {σ:List (Option V)} {H H':Hp} {s:Shared} {h':Heap}
theorem Cx.Ok.nofr (ok:X.Ok) {b:Addr} {o:Obj} (e:X.base.get? b=some o):b ∉ X.fs:=fun hb=>by
 have:=(ok.funs.mem hb).1
 rw [e] at this; cases this
theorem Inv.bs (I:Inv X pins σ H s):∀ b o,X.base.get? b=some o→s.heap.get? b=some o∧H b=none:=fun b o e =>
 ⟨I.base.keep b o (I.ok.bs b o e).1 (I.ok.bs b o e).2 (I.ok.nofr e) (I.ok.noex b o e),I.base.free b o (I.ok.bs b o e).1 (I.ok.bs b o e).2 (I.ok.noex b o e)⟩
theorem Inv.bk (I:Inv X pins σ H s):∀ b o,X.base.get? b=some o→s.heap.get? b=some o:=fun b o e=>(I.bs b o e).1
theorem Inv.mod (I:Inv X pins σ H s):Mod X.K X.mg X.base:=I.ok.mod
theorem Inv.kIn (I:Inv X pins σ H s):X.K.In s.heap:=I.ok.mod.kin.keeps I.bk
theorem Inv.lt (I:Inv X pins σ H s):X.env.locals < s.heap.objs.size:=let ⟨_,hn,_⟩:=I.loc; hn.lt
theorem Inv.sz (I:Inv X pins σ H s):X.s₀.heap.objs.size≤s.heap.objs.size:=Nat.le_trans I.ok.above (Nat.le_of_lt I.lt)
theorem Inv.nofs (I:Inv X pins σ H s) {a:Addr} (h:s.heap.objs.size≤a):a ∉ X.fs:=fun hb=>by
 obtain ⟨_,o,ho,_⟩:=I.ok.funs.mem hb
 exact absurd (Nat.lt_of_lt_of_le (Heap.lt_size ho) (Nat.le_trans I.sz h)) (Nat.lt_irrefl _)
theorem Inv.cne (I:Inv X pins σ H s):∀ x c,X.env.cells.lookup x=some c→c≠X.env.locals:=fun x c e z=>by
 obtain ⟨v,o,ho,hd⟩:=I.cell x c e
 obtain ⟨m,⟨o',es,ep,ho',hd',_⟩,_⟩:=I.loc
 rw [z,ho'] at ho; cases ho; rw [hd'] at hd; cases hd
theorem Inv.funs (I:Inv X pins σ H s):s.heap.FunFrames X.base X.outer:=by
 have all:∀ (l:List Env),(∀ b∈frs l,b∈X.fs)→X.s₀.heap.FunFrames X.base l→s.heap.FunFrames X.base l:=by
  intro l
  induction l with
  | nil=>intro _ _; trivial
  | cons env r ih =>
   intro hs hl
   obtain ⟨hk,⟨L,o,hf,hn,ho,hd⟩,hr⟩:=hl
   have hL:L∈X.fs:=hs L (by unfold frs; rw [List.filterMap_cons,hf]; exact List.mem_cons_self)
   obtain ⟨sl,e⟩:=I.base.slot L o ho (I.ok.frf L hL) hL fun z=>I.ok.exfs L z hL
   exact ⟨hk,⟨L,_,hf,hn,e,hd⟩,ih (fun b hb=>hs b (by unfold frs; rw [List.filterMap_cons,hf]; exact List.mem_cons_of_mem _ hb)) hr⟩
 exact all X.outer (fun _ hb=>hb) I.ok.funs
theorem Inv.stack (I:Inv X pins σ H s):s.heap.FunFrames X.base X.stack:=by
 rcases I.ok.stk with e | ⟨e,hf⟩
 ·rw [e]; exact I.funs
 ·rw [e]
  obtain ⟨m,hn,_⟩:=I.loc
  refine .cons (by rw [I.ok.kind]; decide) hf hn ?_ I.funs
  exact Heap.get?_none_of_le (Nat.le_trans I.ok.bsz I.ok.above)
theorem Inv.stkSub (I:Inv X pins σ H s):∀ b∈frs X.stack,b∈X.env.locals :: X.fs:=fun b hb=>by
 rcases I.ok.stk with e | ⟨e,hf⟩
 ·rw [e] at hb; exact List.mem_cons_of_mem _ hb
 ·rw [e] at hb
  unfold frs at hb
  rw [List.filterMap_cons,hf] at hb
  exact hb
theorem Inv.stkFree (I:Inv X pins σ H s):∀ b∈frs X.stack,H b=none:=fun b hb=>by
 rcases List.mem_cons.mp (I.stkSub b hb) with e | hb
 ·rw [e]; exact I.free
 ·obtain ⟨_,o,ho,_⟩:=I.ok.funs.mem hb
  exact I.base.free b o ho (I.ok.frf b hb) fun z=>I.ok.exfs b z hb
theorem Inv.step {g':Array GenState} {t':Nat} {d':Drawn} {ch:List Addr} (I:Inv X pins σ H s)
  (hch:∀ b∈ch,(b∈X.ex∨X.s₀.heap.objs.size≤b)∧b≠X.env.locals∧(∀ x c,X.env.cells.lookup x=some c→c≠b)∧∀ p∈X.pn++pins,p.1≠b)
  (keep:∀ b o,b≠X.env.locals→b ∉ X.fs→b ∉ ch→s.heap.get? b=some o→H b=none→h'.get? b=some o)
  (slot:∀ b o,b≠X.env.locals→b∈X.fs→b ∉ ch→s.heap.get? b=some o→H b=none→∃ sl,h'.get? b=some { o with slots:=sl }) (free:∀ b o,b ∉ ch→s.heap.get? b=some o→H b=none→H' b=none)
  (there:∀ b o,b ∉ ch→s.heap.get? b=some o→∃ o',h'.get? b=some o')
  (tups:∀ b xs,H b=some (.tup xs)→H' b=some (.tup xs)) (frzs:∀ b o u,H b=some (.frz o u)→H' b=some (.frz o u)) (tbls:∀ b ps,H b=some (.tbl ps)→∃ more,H' b=some (.tbl (ps++more)))
  (ns:∀ m,s.heap.Ns X.env.locals m→h'.Ns X.env.locals m) (hok:HOk X.prog X.w H' h') (hg:AllBare g') :
  Inv X pins σ H' { s with heap:=h',gens:=g',drawn:=d',toks:=t' }:=by
 have neL:∀ b o,X.s₀.heap.get? b=some o→b≠X.env.locals:=fun b o e=>Nat.ne_of_lt (Nat.lt_of_lt_of_le (Heap.lt_size e) I.ok.above)
 have neC:∀ b o,X.s₀.heap.get? b=some o→b ∉ X.ex→b ∉ ch:=fun b o e hx hb=>by
  rcases (hch b hb).1 with z | z
  ·exact hx z
  ·exact absurd (Nat.lt_of_lt_of_le (Heap.lt_size e) z) (Nat.lt_irrefl _)
 have cellK:∀ x c,X.env.cells.lookup x=some c→∀ v,s.heap.IsCell c v→h'.IsCell c v:=fun x c e v ⟨o,ho,hd⟩=>by
  have nch:c ∉ ch:=fun z=>(hch c z).2.2.1 x c e rfl
  by_cases hc:c∈X.fs
  ·obtain ⟨sl,q⟩:=slot c o (I.cne x c e) hc nch ho (I.freeC x c e)
   exact ⟨_,q,hd⟩
  ·exact ⟨o,keep c o (I.cne x c e) hc nch ho (I.freeC x c e),hd⟩
 refine ⟨I.ok,I.os,hg,⟨fun b o e n hb hx=>?_,fun b o e n hb hx=>?_,fun b o e n hx=>?_,fun b o e hx=>?_,fun b xs e=>tups b xs (I.base.tups b xs e),fun b o xs e=>frzs b o xs (I.base.frzs b o xs e),fun b ps e=>?_⟩,?_,fun x c e=>?_,?_,fun x c e=>?_,fun p hp=>?_,hok,I.len⟩
 ·exact keep b o (neL b o e) hb (neC b o e hx) (I.base.keep b o e n hb hx) (I.base.free b o e n hx)
 ·obtain ⟨sl,e1⟩:=I.base.slot b o e n hb hx
  obtain ⟨sl',e2⟩:=slot b _ (neL b o e) hb (neC b o e hx) e1 (I.base.free b o e n hx)
  exact ⟨sl',e2⟩
 ·obtain ⟨o',e1⟩:=I.base.there b o e hx
  exact free b o' (neC b o e hx) e1 (I.base.free b o e n hx)
 ·obtain ⟨o',e1⟩:=I.base.there b o e hx
  exact there b o' (neC b o e hx) e1
 ·obtain ⟨m1,e1⟩:=I.base.tbls b ps e
  obtain ⟨m2,e2⟩:=tbls b _ e1
  exact ⟨m1++m2,by rw [e2,Array.append_assoc]⟩
 ·obtain ⟨m,hn,hl⟩:=I.loc
  refine ⟨m,ns m hn,fun i x v e1 e2 e3=>?_⟩
  obtain ⟨u,r,l⟩:=hl i x v e1 e2 e3
  refine ⟨u,r,?_⟩
  rcases l with l | ⟨k,c,e,z⟩
  ·exact .inl l
  ·exact .inr ⟨k,c,e,cellK x c e _ z⟩
 ·obtain ⟨v,z⟩:=I.cell x c e
  exact ⟨v,cellK x c e v z⟩
 ·obtain ⟨m,⟨o,_,_,ho,_⟩,_⟩:=I.loc
  exact free _ o (fun z=>(hch _ z).2.1 rfl) ho I.free
 ·obtain ⟨v,o,ho,hd⟩:=I.cell x c e
  exact free c o (fun z=>(hch c z).2.2.1 x c e rfl) ho (I.freeC x c e)
 ·obtain ⟨e,n,ne,nf,d⟩:=I.pin p hp
  have nch:p.1 ∉ ch:=fun z=>(hch p.1 z).2.2.2 p hp rfl
  exact ⟨keep p.1 p.2 ne nf nch e n,free p.1 p.2 nch e n,ne,nf,d⟩
theorem Inv.un {t':Nat} (I:Inv X pins σ H s) (u:Un X.fs [] H H' s.heap h') (hok:HOk X.prog X.w H' h'):Inv X pins σ H' { s with heap:=h',toks:=t' }:=by
 obtain ⟨m,⟨o,es,ep,ho,r⟩,_⟩:=id I.loc
 obtain ⟨sl,hL⟩:=u.any ho I.free (by simp)
 exact I.step (g':=s.gens) (d':=s.drawn) (ch:=[]) (fun _ z=>nomatch z) (fun b o _ hb _ e n=>u.keep b o e n hb (by simp)) (fun b o _ hb _ e n=>u.slot b o e n hb (by simp)) (fun b o _ e n=>u.free b o e n (by simp)) (fun b o _ e=>u.there b o e (by simp)) u.tups u.frzs u.tbls (fun m' hm=>by
  obtain ⟨o',es',ep',ho',r'⟩:=hm
  rw [ho] at ho'; cases ho'
  exact ⟨_,es',ep',hL,r'⟩) hok I.bare
theorem Inv.call {g':Array GenState} {t':Nat} {d':Drawn} {ch:List Addr} (I:Inv X pins σ H s) (u:Un (frs X.stack) ch H H' s.heap h') (hok:HOk X.prog X.w H' h') (hg:AllBare g')
  (hch:∀ b∈ch,(b∈X.ex∨X.s₀.heap.objs.size≤b)∧b≠X.env.locals∧(∀ x c,X.env.cells.lookup x=some c→c≠b)∧∀ p∈X.pn++pins,p.1≠b) :
  Inv X pins σ H' { s with heap:=h',gens:=g',drawn:=d',toks:=t' }:=by
 obtain ⟨m,⟨o,es,ep,ho,r⟩,_⟩:=id I.loc
 obtain ⟨sl,hL⟩:=u.any ho I.free fun z=>(hch _ z).2.1 rfl
 exact I.step (ch:=ch) hch (fun b o hL hb hc e n=>u.keep b o e n (fun z=>(List.mem_cons.mp (I.stkSub b z)).elim hL hb) hc) (fun b o _ _ hc e n=>u.any e n hc) (fun b o hc e n=>u.free b o e n hc) (fun b o hc e=>u.there b o e hc) u.tups u.frzs u.tbls (fun m' hm=>by
  obtain ⟨o',es',ep',ho',r'⟩:=hm
  rw [ho] at ho'; cases ho'
  exact ⟨_,es',ep',hL,r'⟩) hok hg
theorem Inv.turned {t':Nat} {it:Addr} (I:Inv X pins σ H s) (k:∀ b o,b≠it→s.heap.get? b=some o→h'.get? b=some o) (hn:H it=none) (hL:it≠X.env.locals)
  (h1:it∈X.ex∨X.s₀.heap.objs.size≤it) (h2:∀ x c,X.env.cells.lookup x=some c→c≠it) (h3:∀ p∈X.pn++pins,p.1≠it):Inv X pins σ H { s with heap:=h',toks:=t' }:=by
 have nit:∀ b u,H b=some u→b≠it:=fun b u e z=>by rw [z,hn] at e; cases e
 refine I.step (g':=s.gens) (d':=s.drawn) (ch:=[it]) (fun b hb=>?_) (fun b o _ _ hc e _=>k b o (fun z=>hc (by simp [z])) e) (fun b o _ _ hc e _=>⟨o.slots,k b o (fun z=>hc (by simp [z])) e⟩) (fun _ _ _ _ n=>n)
  (fun b o hc e=>⟨o,k b o (fun z=>hc (by simp [z])) e⟩) (fun _ _ e=>e) (fun _ _ _ e=>e) (fun b ps e=>⟨#[],by rw [e]; simp⟩) (fun m hm=>?_) (fun b u e=>?_) I.bare
 ·have e:b=it:=by simpa using hb
  subst e
  exact ⟨h1,hL,h2,h3⟩
 ·obtain ⟨o,es,ep,ho,r⟩:=hm
  exact ⟨o,es,ep,k _ o (Ne.symm hL) ho,r⟩
 ·refine (I.hok b u e).stay (fun c v hc q=>k c v ?_ q) (fun _ q=>q) fun _ _ q=>q
  rcases hc with z | z
  ·rw [z]; exact nit b u e
  ·exact nit c _ z
theorem Inv.tok (I:Inv X pins σ H s) (t:Nat):Inv X pins σ H { s with toks:=t }:=I.un (h':=s.heap) (t':=t) Un.refl I.hok
theorem Inv.kept {t':Nat} (I:Inv X pins σ H s) (k:∀ b u,s.heap.get? b=some u→h'.get? b=some u):Inv X pins σ H { s with heap:=h',toks:=t' }:=I.un (Un.kept k) (I.hok.kept k)
theorem Inv.laid {a:Addr} {o:HO} {t':Nat} (I:Inv X pins σ H s) (k:∀ b u,s.heap.get? b=some u→h'.get? b=some u) (hp:s.heap.objs.size≤a) (new:ObjOk X.prog X.w (upd H a o) h' a o) :
  Inv X pins σ (upd H a o) { s with heap:=h',toks:=t' }:=I.un (Un.laid k hp (I.hok.fresh hp)) (I.hok.laid k hp new)
theorem Inv.write {x e:Addr} {o:HO} {t':Nat} (I:Inv X pins σ H s) (mu:Mut (H x)) (he:e=x∨H e=some (.own x)) (k:∀ b u,b≠e→s.heap.get? b=some u→h'.get? b=some u) (heo:∃ u,h'.get? e=some u)
  (new:ObjOk X.prog X.w (upd H x o) h' x o):Inv X pins σ (upd H x o) { s with heap:=h',toks:=t' }:=I.un (Un.write mu he k heo) (I.hok.write mu he k heo new)
theorem Inv.pins_of {pins':List (Addr × Obj)} (I:Inv X pins σ H s) (h:∀ p∈pins',s.heap.get? p.1=some p.2∧H p.1=none∧p.1≠X.env.locals∧p.1 ∉ X.fs∧∀ v,p.2.data≠.cell v):Inv X pins' σ H s :=
 ⟨I.ok,I.os,I.bare,I.base,I.loc,I.cell,I.free,I.freeC,fun p hp=>(List.mem_append.mp hp).elim (fun z=>I.pin p (List.mem_append_left _ z)) (h p),I.hok,I.len⟩
theorem pH {N:List Str} (hN:N.Nodup) {i j:Nat} {x:Str} (a:N[i]?=some x) (b:N[j]?=some x):i=j:=by
 obtain ⟨h1,e1⟩:=List.getElem?_eq_some_iff.mp a
 obtain ⟨h2,e2⟩:=List.getElem?_eq_some_iff.mp b
 exact (List.getElem_inj hN).mp (e1.trans e2.symm)
theorem n0 {M:Model} {A:Around} {E:Value→Shared→Prop} {i:Nat} {x:Str} {v:V} {u:Value} {Q:Unit→Shared→Prop} (I:Inv X pins σ H s) (hN:X.N.Nodup) (hi:X.N[i]?=some x) (hx:Loc X.env.scope x) (r:RelV v u)
  (h:∀ s',Inv X pins (σ.set i (some v)) H s'→(∃ a,Heap.SameBut a s.heap s'.heap∧(a=X.env.locals∨X.env.cells.lookup x=some a))→Q () s') (hf:X.fn x=true∨X.env.scope.names.lookup x=some .local:=by first | exact .inl rfl | exact .inr rfl | assumption):wpAny M A (storeName X.env x u) Q E s:=by
 obtain ⟨m,hn,hl⟩:=id I.loc
 have hcls:(X.env.scope.kind == .class || (X.env.scope.kind == .module && X.env.locals != X.env.globals))=false:=by rw [I.ok.kind]; rfl
 have hiσ:i < σ.length:=by rw [I.len]; exact (List.getElem?_eq_some_iff.mp hi).1
 have cne:=I.cne
 have tracked:∀ {a:Addr} {h':Heap},(∃ o,s.heap.get? a=some o∧H a=none)→Heap.SameBut a s.heap h'→HOk X.prog X.w H h':=fun {a h'} ha hs b ob e=>by
  obtain ⟨_,_,hfree⟩:=ha
  refine (I.hok b ob e).stay (fun c w' hc q=>(hs.2 c ?_).trans q) (fun _ q=>q) fun _ _ q=>q
  rintro rfl
  rcases hc with rfl | hc
  ·rw [hfree] at e; cases e
  ·rw [hfree] at hc; cases hc
 rcases hx with hk | hk
 ·refine wpAny_storeName_local hk hn (fun h' hn' hs=>?_) hcls
  obtain ⟨oL,_,_,hoL,_⟩:=id hn
  refine h _ ⟨I.ok,I.os,I.bare,⟨fun b o e n hb hx=>?_,fun b o e n hb hx=>?_,I.base.free,fun b o e hx=>?_,I.base.tups,I.base.frzs,I.base.tbls⟩,⟨_,hn',fun j y v' e1 e2 e3=>?_⟩,fun y c e=>?_,I.free,I.freeC,fun p hp=>?_,tracked ⟨oL,hoL,I.free⟩ hs,by simpa using I.len⟩ ⟨_,hs,.inl rfl⟩
  ·exact (hs.2 b (Nat.ne_of_lt (Nat.lt_of_lt_of_le (Heap.lt_size e) I.ok.above))).trans (I.base.keep b o e n hb hx)
  ·obtain ⟨sl,e1⟩:=I.base.slot b o e n hb hx
   exact ⟨sl,(hs.2 b (Nat.ne_of_lt (Nat.lt_of_lt_of_le (Heap.lt_size e) I.ok.above))).trans e1⟩
  ·obtain ⟨o',e1⟩:=I.base.there b o e hx
   exact ⟨o',(hs.2 b (Nat.ne_of_lt (Nat.lt_of_lt_of_le (Heap.lt_size e) I.ok.above))).trans e1⟩
  ·by_cases hj:j=i
   ·subst hj
    rw [hi] at e1; cases e1
    rw [List.getElem?_set_self hiσ] at e2
    cases e2
    exact ⟨u,r,.inl ⟨hk,by simp⟩⟩
   ·rw [List.getElem?_set_ne (Ne.symm hj)] at e2
    obtain ⟨u',r',q⟩:=hl j y v' e1 e2 e3
    refine ⟨u',r',?_⟩
    rcases q with ⟨k,e⟩ | ⟨k,c,e,z⟩
    ·refine .inl ⟨k,?_⟩
     have:y≠x:=fun e=>hj (pH hN e1 (e ▸ hi))
     simp [this,e]
    ·exact .inr ⟨k,c,e,z.sameBut hs (cne y c e)⟩
  ·obtain ⟨w',z⟩:=I.cell y c e
   exact ⟨w',z.sameBut hs (cne y c e)⟩
  ·obtain ⟨e,n,ne,nf,d⟩:=I.pin p hp
   exact ⟨(hs.2 p.1 ne).trans e,n,ne,nf,d⟩
 ·have hfn:X.fn x=true:=by
   rcases hf with z | z
   ·exact z
   ·rw [z] at hk; cases hk
  obtain ⟨c,hc⟩:=I.ok.has x (.inl hk)
  obtain ⟨w',z⟩:=I.cell x c hc
  refine wpAny_storeName_cell I.ok.kind hk hc z (fun h' hc' hs=>?_)
  obtain ⟨oc,hoc,hocd⟩:=id z
  refine h { s with heap:=h' } ⟨I.ok,I.os,I.bare,⟨fun b o e n hb hx=>?_,fun b o e n hb hx=>?_,I.base.free,fun b o e hx=>?_,I.base.tups,I.base.frzs,I.base.tbls⟩,⟨m,hn.sameBut hs (Ne.symm (cne x c hc)),fun j y v' e1 e2 e3=>?_⟩,fun y c' e=>?_,I.free,I.freeC,fun p hp=>?_,tracked ⟨oc,hoc,I.freeC x c hc⟩ hs,by simpa using I.len⟩ ⟨c,hs,.inr hc⟩
  ·exact (hs.2 b (Nat.ne_of_lt (Nat.lt_of_lt_of_le (Heap.lt_size e) (I.ok.cab x c hfn hc)))).trans (I.base.keep b o e n hb hx)
  ·obtain ⟨sl,e1⟩:=I.base.slot b o e n hb hx
   exact ⟨sl,(hs.2 b (Nat.ne_of_lt (Nat.lt_of_lt_of_le (Heap.lt_size e) (I.ok.cab x c hfn hc)))).trans e1⟩
  ·obtain ⟨o',e1⟩:=I.base.there b o e hx
   exact ⟨o',(hs.2 b (Nat.ne_of_lt (Nat.lt_of_lt_of_le (Heap.lt_size e) (I.ok.cab x c hfn hc)))).trans e1⟩
  ·by_cases hj:j=i
   ·subst hj
    rw [hi] at e1; cases e1
    rw [List.getElem?_set_self hiσ] at e2
    cases e2
    exact ⟨u,r,.inr ⟨.inl hk,c,hc,hc'⟩⟩
   ·rw [List.getElem?_set_ne (Ne.symm hj)] at e2
    obtain ⟨u',r',q⟩:=hl j y v' e1 e2 e3
    refine ⟨u',r',?_⟩
    rcases q with q | ⟨k,c',e,z'⟩
    ·exact .inl q
    ·refine .inr ⟨k,c',e,z'.sameBut hs ?_⟩
     rintro rfl
     exact hj (pH hN e1 (I.ok.inj _ _ _ e hc ▸ hi))
  ·by_cases hcc:c'=c
   ·subst hcc; exact ⟨_,hc'⟩
   ·obtain ⟨w2,z2⟩:=I.cell y c' e
    exact ⟨w2,z2.sameBut hs hcc⟩
  ·obtain ⟨e,n,ne,nf,d⟩:=I.pin p hp
   refine ⟨(hs.2 p.1 ?_).trans e,n,ne,nf,d⟩
   intro q
   rw [q,hoc] at e
   have q':oc=p.2:=Option.some.inj e
   exact d w' (by rw [← q']; exact hocd)
theorem pq {M:Model} {A:Around} {E:Value→Shared→Prop} {i:Nat} {x:Str} {v:V} {u:Value} {Q:Unit→Shared→Prop} (I:Inv X pins σ H s) (hN:X.N.Nodup) (hi:X.N[i]?=some x) (hx:Loc X.env.scope x) (r:RelV v u)
  (h:∀ s',Inv X pins (σ.set i (some v)) H s'→Q () s') (hf:X.fn x=true∨X.env.scope.names.lookup x=some .local:=by first | exact .inl rfl | exact .inr rfl | assumption):wpAny M A (storeName X.env x u) Q E s :=
 n0 I hN hi hx r (fun s' I' _=>h s' I') hf
theorem Inv.call' {s':Shared} {ch:List Addr} (I:Inv X pins σ H s) (ho:s'.os=s.os) (u:Un (frs X.stack) ch H H' s.heap s'.heap) (hok:HOk X.prog X.w H' s'.heap) (hg:AllBare s'.gens)
  (hch:∀ b∈ch,(b∈X.ex∨X.s₀.heap.objs.size≤b)∧b≠X.env.locals∧(∀ x c,X.env.cells.lookup x=some c→c≠b)∧∀ p∈X.pn++pins,p.1≠b):Inv X pins σ H' s':=by
 obtain ⟨h',g',d',t',o'⟩:=s'
 have e:o'=s.os:=ho
 subst e
 exact I.call (g':=g') (t':=t') (d':=d') u hok hg hch
end
abbrev XK:=Value→Option Addr→Hp→Prop
abbrev St:=List (Option V)
abbrev VK:=V→Hp→Prop
abbrev TE:=St→Hp→VK→Prop
abbrev TT:=St→Hp→(Bool→Hp→Prop)→Prop
abbrev TA:=St→Hp→(List V→Hp→Prop)→Prop
structure Ends where
 nx:St→Hp→Prop
 rt:VK
 bk:St→Hp→Prop:=fun _ _=>False
 ct:St→Hp→Prop:=fun _ _=>False
abbrev TS:=Ends→St→Hp→Prop
def EP (X:Cx) (pins:List (Addr × Obj)) (σ:St) (Q:VK) (u:Value) (s':Shared):Prop:=∃ v H',Inv X pins σ H' s'∧RelV v u∧Q v H'
def TP (X:Cx) (pins:List (Addr × Obj)) (σ:St) (Q:Bool→Hp→Prop) (b:Bool) (s':Shared):Prop:=∃ H',Inv X pins σ H' s'∧Q b H'
def AP (X:Cx) (pins:List (Addr × Obj)) (σ:St) (Q:List V→Hp→Prop) (us:List Value) (s':Shared):Prop:=∃ vs H',Inv X pins σ H' s'∧Vals vs us∧Q vs H'
def SP (X:Cx) (pins:List (Addr × Obj)) (D:Ends) (f:Flow) (s':Shared):Prop :=
 match f with
 | .next=>∃ σ' H',Inv X pins σ' H' s'∧D.nx σ' H'
 | .brk=>∃ σ' H',Inv X pins σ' H' s'∧D.bk σ' H'
 | .cont=>∃ σ' H',Inv X pins σ' H' s'∧D.ct σ' H'
 | .ret u=>∃ v σ' H',Inv X pins σ' H' s'∧RelV v u∧D.rt v H'
def PE (X:Cx) (e:Expr) (t:TE):Prop :=
 ∀ (pins:List (Addr × Obj)) (s:Shared) (σ:St) (H:Hp) (Q:VK),Inv X pins σ H s→t σ H Q→wpAny (model X.prog X.w) X.A (eval e X.env) (EP X pins σ Q) X.xe s
def PT (X:Cx) (e:Expr) (t:TT):Prop :=
 ∀ (pins:List (Addr × Obj)) (s:Shared) (σ:St) (H:Hp) (Q:Bool→Hp→Prop),Inv X pins σ H s→t σ H Q→wpAny (model X.prog X.w) X.A (isTrue e X.env (eval e X.env)) (TP X pins σ Q) X.xe s
def PW (X:Cx) (e:Expr) (t:TT):Prop :=
 ∀ (whole:Sem Value) (pins:List (Addr × Obj)) (s:Shared) (σ:St) (H:Hp) (Q:Bool→Hp→Prop),Inv X pins σ H s→t σ H Q→wpAny (model X.prog X.w) X.A (isTrue e X.env whole) (TP X pins σ Q) X.xe s
theorem PW.pt {X:Cx} {e:Expr} {t:TT} (h:PW X e t):PT X e t:=h _
def PA (X:Cx) (es:List Expr) (t:TA):Prop :=
 ∀ (pos:Pos) (pins:List (Addr × Obj)) (s:Shared) (σ:St) (H:Hp) (Q:List V→Hp→Prop),Inv X pins σ H s→t σ H Q→wpAny (model X.prog X.w) X.A (spliced (backTo pos (starEach es X.env))) (AP X pins σ Q) X.xe s
def PS (X:Cx) (st:Stmt) (t:TS):Prop :=
 ∀ (pins:List (Addr × Obj)) (s:Shared) (σ:St) (H:Hp) (D:Ends),Inv X pins σ H s→t D σ H→wpAny (model X.prog X.w) X.A (exec st X.env) (SP X pins D) X.xe s
def PSs (X:Cx) (st:List Stmt) (t:TS):Prop :=
 ∀ (pins:List (Addr × Obj)) (s:Shared) (σ:St) (H:Hp) (D:Ends),Inv X pins σ H s→t D σ H→wpAny (model X.prog X.w) X.A (execs st X.env) (SP X pins D) X.xe s
theorem thn {α:Type} {t:Sem α} {Q Q':α→Shared→Prop} {M:Model} {A:Around} {E:Value→Shared→Prop} {s:Shared} (h:wpAny M A t Q E s) (hQ:∀ a s,Q a s→Q' a s):wpAny M A t Q' E s:=wpAny_mono h hQ fun _ _ x=>x
end L2
namespace L2
open PySem PySem.Spec PyProof.Rows
section
variable {X:Cx}
def kg (i:Nat):TE:=fun σ H Q=>∃ v,σ[i]?=some (some v)∧Q v H
def tC (v:V):TE:=fun _ H Q=>Q v H
theorem jd {i:Nat} {x:Str} {pos:Pos} (hN:X.N[i]?=some x) (hv:Vis X.env.scope x) (hd:(x == ("__debug__" : Str))=false:=by decide) (hcd:(x == ("__classdict__" : Str))=false:=by decide):PE X (.Name x pos) (kg i):=by
 intro pins s σ H Q I h
 obtain ⟨v,e,h⟩:=h
 obtain ⟨m,hn,hl⟩:=I.loc
 obtain ⟨u,r,l⟩:=hl i x v hN e hv
 have fin:EP X pins σ Q u s:=⟨v,H,I,r,h⟩
 rcases l with ⟨hk,hm⟩ | ⟨hk,c,hc,hcell⟩
 ·exact wpAny_Name (wpAny_loadName_local I.ok.kind hk hn hm fin) hd
 ·rcases hk with hk | hk
  ·exact wpAny_Name (wpAny_loadName_cell I.ok.kind hk hc hcell fin) hd
  ·exact wpAny_Name (wpAny_loadName_free I.ok.kind hk hc hcell fin hcd) hd
theorem pe_int {i j pos}:PE X (.Constant (.int i) j pos) (tC (.int i)):=fun _ _ _ H _ I h=>wpAny_Constant_int ⟨.int i,H,I.tok _,⟨_,rfl⟩,h⟩
theorem pe_bl {b j pos}:PE X (.Constant (.bool b) j pos) (tC (.bl b)):=fun _ _ _ H _ I h=>Constant_bool ⟨.bl b,H,I,rfl,h⟩
theorem pe_non {j pos}:PE X (.Constant .none j pos) (tC .non):=fun _ _ _ H _ I h=>Constant_none ⟨.non,H,I,rfl,h⟩
theorem pe_str {x j pos}:PE X (.Constant (.str x) j pos) (tC (.str x)):=fun _ _ _ H _ I h=>Calls.Constant_str ⟨.str x,H,I.tok _,⟨_,rfl⟩,h⟩
def Gl (X:Cx) (x:Str):Prop:=X.env.kindOf x=some .globalImplicit
theorem qQ {E:Value→Shared→Prop} {pins:List (Addr × Obj)} {s:Shared} {σ:St} {H:Hp} {x:Str} {u:Value} {pos:Pos} {Q:Value→Shared→Prop} (I:Inv X pins σ H s) (hg:Gl X x) (hm:X.mg x=some u) (h:Q u s)
  (hd:(x == ("__debug__" : Str))=false:=by decide):wpAny (model X.prog X.w) X.A (eval (.Name x pos) X.env) Q E s :=
 Calls.Name_function_global I.ok.kind hg (Calls.loadGlobal_global (by rw [I.ok.glob]; exact I.mod.glob.keeps I.bk) hm h) hd
theorem jh {E:Value→Shared→Prop} {pins:List (Addr × Obj)} {s:Shared} {σ:St} {H:Hp} {x:Str} {u:Value} {pos:Pos} {Q:Value→Shared→Prop} (I:Inv X pins σ H s) (hg:Gl X x) (hm:X.mg x=none) (hv:bootBuiltins x=some u) (h:Q u s)
  (hn:x≠"__name__":=by decide) (hd:(x == ("__debug__" : Str))=false:=by decide):wpAny (model X.prog X.w) X.A (eval (.Name x pos) X.env) Q E s:=by
 obtain ⟨mb,h1,h2⟩:=I.mod.blt
 exact Calls.Name_function_global I.ok.kind hg (Calls.loadGlobal_builtin (by rw [I.ok.glob]; exact I.mod.glob.keeps I.bk) hm (by rw [I.ok.blt]; exact h1.keeps I.bk) ((h2 x hn).trans hv) h) hd
theorem Bw {x:Str} {v:V} {u:Value} {pos:Pos} (hg:Gl X x) (hm:X.mg x=some u) (r:RelV v u) (hd:(x == ("__debug__" : Str))=false:=by decide):PE X (.Name x pos) (tC v) :=
 fun _ _ _ H _ I h=>qQ I hg hm ⟨v,H,I,r,h⟩ hd
theorem Bz {x:Str} {v:V} {u:Value} {pos:Pos} (hg:Gl X x) (hm:X.mg x=none) (hv:bootBuiltins x=some u) (r:RelV v u) (hn:x≠"__name__":=by decide) (hd:(x == ("__debug__" : Str))=false:=by decide):PE X (.Name x pos) (tC v) :=
 fun _ _ _ H _ I h=>jh I hg hm hv ⟨v,H,I,r,h⟩ hn hd
variable {a b:Expr} {ta tb:TE} {pos:Pos}
def PC (X:Cx) (op:CmpOp) (a b:Expr) (t:TE):Prop :=
 ∀ (pins:List (Addr × Obj)) (s:Shared) (σ:St) (H:Hp) (Q:VK),Inv X pins σ H s→t σ H Q →
  wpAny (model X.prog X.w) X.A (eval a X.env) (fun v s₁=>wpAny (model X.prog X.w) X.A (eval b X.env) (fun u s₂=>wpAny (model X.prog X.w) X.A (compareOp op v u) (EP X pins σ Q) X.xe s₂) X.xe s₁) X.xe s
def tB (t:TE):TT:=fun σ H Q=>t σ H fun x H1=>∃ c,x=.bl c∧Q c H1
theorem EE {e:Expr} {t:TE} (h:PE X e t) (he:∀ whole,isTrue e X.env whole=(do let v ← whole; standAt e.pos; holding [v] (truthy v)):=by intro _; rfl):PT X e (tB t):=by
 intro pins s σ H Q I hw
 refine isTrue_plain (thn (h pins s σ H _ I hw) fun v s1 ⟨x,H1,I1,r1,q1⟩=>?_) (he _)
 obtain ⟨d,rfl,q⟩:=q1
 cases r1
 exact wpAny_truthy_bool ⟨H1,I1,q⟩
variable {tA tB':TT} {rest:List Expr}
def Es (t u:TT):TT:=fun σ H Q=>t σ H fun c H1=>if c=true then u σ H1 Q else Q false H1
def tOr (t u:TT):TT:=fun σ H Q=>t σ H fun c H1=>if c=true then Q true H1 else u σ H1 Q
def Em (t:TT):TT:=fun σ H Q=>t σ H fun c H1=>Q (!c) H1
theorem Bm (ha:PT X a tA):PW X (.BoolOp .And [a] pos) tA:=by
 intro wh pins s σ H Q I h
 refine isTrue_and (thn (ha pins s σ H Q I h) fun c s1 e=>?_)
 cases c with
 | true=>exact isTrue_and_nil e
 | false=>exact e
theorem EC (ha:PT X a tA):PW X (.BoolOp .Or [a] pos) tA:=by
 intro wh pins s σ H Q I h
 refine isTrue_or (thn (ha pins s σ H Q I h) fun c s1 e=>?_)
 cases c with
 | false=>exact isTrue_or_nil e
 | true=>exact e
theorem ED (ha:PT X a tA) (hb:PW X (.BoolOp .And (b :: rest) pos) tB'):PW X (.BoolOp .And (a :: b :: rest) pos) (Es tA tB'):=by
 intro wh pins s σ H Q I h
 refine isTrue_and (thn (ha pins s σ H _ I h) fun c s1 ⟨H1,I1,q1⟩=>?_)
 cases c with
 | true=>exact hb wh pins s1 σ H1 Q I1 q1
 | false=>exact ⟨H1,I1,q1⟩
theorem Gy (ha:PT X a tA) (hb:PW X (.BoolOp .Or (b :: rest) pos) tB'):PW X (.BoolOp .Or (a :: b :: rest) pos) (tOr tA tB'):=by
 intro wh pins s σ H Q I h
 refine isTrue_or (thn (ha pins s σ H _ I h) fun c s1 ⟨H1,I1,q1⟩=>?_)
 cases c with
 | true=>exact ⟨H1,I1,q1⟩
 | false=>exact hb wh pins s1 σ H1 Q I1 q1
theorem EF (ha:PT X a tA):PT X (.UnaryOp .Not a pos) (Em tA):=by
 intro pins s σ H Q I h
 exact isTrue_not (ha pins s σ H (fun c H1=>Q (!c) H1) I h)
def AV (ta tb:TE):TE:=fun σ H Q=>ta σ H fun x H1=>∃ c,x=.bl c∧if c=true then tb σ H1 Q else Q (.bl false) H1
def El (ta tb:TE):TE:=fun σ H Q=>ta σ H fun x H1=>∃ c,x=.bl c∧if c=true then Q (.bl true) H1 else tb σ H1 Q
def AR (ta:TE):TE:=fun σ H Q=>ta σ H fun x H1=>∃ c,x=.bl c∧Q (.bl (!c)) H1
theorem EQ {op} {t:TE} (h:PE X a t):PE X (.BoolOp op [a] pos) t:=fun pins s σ H Q I hw=>BoolOp_one (h pins s σ H Q I hw)
theorem ET (ha:PE X a ta) (hb:PE X (.BoolOp .And (b :: rest) pos) tb):PE X (.BoolOp .And (a :: b :: rest) pos) (AV ta tb):=by
 intro pins s σ H Q I h
 refine BoolOp_and (thn (ha pins s σ H _ I h) fun v s1 ⟨x,H1,I1,r1,q1⟩=>?_)
 obtain ⟨c,rfl,q1⟩:=q1
 cases r1
 refine wpAny_truthy_bool ?_
 cases c with
 | true=>exact hb pins s1 σ H1 Q I1 q1
 | false=>exact ⟨.bl false,H1,I1,rfl,q1⟩
theorem GB (ha:PE X a ta) (hb:PE X (.BoolOp .Or (b :: rest) pos) tb):PE X (.BoolOp .Or (a :: b :: rest) pos) (El ta tb):=by
 intro pins s σ H Q I h
 refine BoolOp_or (thn (ha pins s σ H _ I h) fun v s1 ⟨x,H1,I1,r1,q1⟩=>?_)
 obtain ⟨c,rfl,q1⟩:=q1
 cases r1
 refine wpAny_truthy_bool ?_
 cases c with
 | false=>exact hb pins s1 σ H1 Q I1 q1
 | true=>exact ⟨.bl true,H1,I1,rfl,q1⟩
theorem ER (ha:PE X a ta):PE X (.UnaryOp .Not a pos) (AR ta):=by
 intro pins s σ H Q I h
 refine UnaryOp_ (thn (ha pins s σ H _ I h) fun v s1 ⟨x,H1,I1,r1,q1⟩=>?_)
 obtain ⟨c,rfl,q1⟩:=q1
 cases r1
 exact not_of (wpAny_truthy_bool ⟨.bl (!c),H1,I1,rfl,q1⟩)
def tIf (t:TT) (ta tb:TE):TE:=fun σ H Q=>t σ H fun c H1=>if c=true then ta σ H1 Q else tb σ H1 Q
theorem uK {c:Expr} (hc:PT X c tA) (ha:PE X a ta) (hb:PE X b tb):PE X (.IfExp c a b pos) (tIf tA ta tb):=by
 intro pins s σ H Q I h
 refine wpAny_IfExp (thn (hc pins s σ H _ I h) fun d s1 ⟨H1,I1,q1⟩=>?_)
 cases d with
 | true=>exact ha pins s1 σ H1 Q I1 q1
 | false=>exact hb pins s1 σ H1 Q I1 q1
end
end L2
namespace L2
open PySem PySem.Spec PyProof.Rows
def SqL (K:PySem.W.Frag) (H:Hp) (a:Addr) (xs:List V):Prop :=
 Rd H a (.lst xs) ∨
  ∃ (o:Obj) (its:Array Value) (n:Nat),K.lookup a=some o∧o.cls=.type "list"∧o.dict=none∧o.data=.seq its n∧its.size≤sizeLine∧Vals xs its.toList
def SqT (K:PySem.W.Frag) (H:Hp) (a:Addr) (xs:List V):Prop :=
 Rd H a (.tup xs) ∨
  ∃ (o:Obj) (its:Array Value) (n:Nat),K.lookup a=some o∧o.cls=.type "tuple"∧o.data=.seq its n∧its.size≤sizeLine∧Vals xs its.toList
def HC:Value→Option V
 | .none=>some .non
 | .bool b=>some (.bl b)
 | .int i _=>some (.int i)
 | .str x _=>some (.str x)
 | .bytes b _=>some (.byt b)
 | .float b _=>some (.flt b)
 | .ref a=>some (.ref a)
 | .type n=>some (.ty n)
 | _=>none
theorem RelV.abs {x:V} {u:Value} (r:RelV x u):HC u=some x:=by
 cases x with
 | non=>cases r; rfl
 | bl _=>cases r; rfl
 | int _=>obtain ⟨t,rfl⟩:=r; rfl
 | str _=>obtain ⟨t,rfl⟩:=r; rfl
 | byt _=>obtain ⟨t,rfl⟩:=r; rfl
 | flt _=>obtain ⟨t,rfl⟩:=r; rfl
 | ref _=>cases r; rfl
 | ty _=>cases r; rfl
theorem RelV.inj {x y:V} {u:Value} (r:RelV x u) (q:RelV y u):x=y:=Option.some.inj (r.abs.symm.trans q.abs)
theorem Vals.inj:∀ {xs ys:List V} {us:List Value},Vals xs us→Vals ys us→xs=ys
 | _,_,_,.nil,.nil=>rfl
 | _,_,_,.cons r t,.cons r' t'=>by rw [r.inj r',Vals.inj t t']
section
variable {X:Cx} {pins:List (Addr × Obj)} {σ:St} {H:Hp} {s:Shared} {a:Addr} {xs ys:List V}
theorem SqL.of {K:PySem.W.Frag} (h:H a=some (.lst xs)):SqL K H a xs:=.inl (.inl h)
theorem SqT.of {K:PySem.W.Frag} (h:H a=some (.tup xs)):SqT K H a xs:=.inl (.inl h)
theorem Inv.list (I:Inv X pins σ H s) (h:SqL X.K H a xs):∃ its:List Value,Vals xs its∧PlainL s.heap a its.toArray∧xs.length≤sizeLine:=by
 rcases h with h | ⟨o,its,n,hk,hc,hd,hs,hz,r⟩
 ·obtain ⟨z,its,n,r,e⟩:=h.ok I.hok
  exact ⟨its,r,⟨_,n,e,rfl,rfl,rfl⟩,z⟩
 ·refine ⟨its.toList,r,⟨o,n,I.kIn a o hk,hc,hd,by simpa using hs⟩,?_⟩
  have e:=r.length
  simp only [Array.length_toList] at e
  omega
theorem Inv.tuple (I:Inv X pins σ H s) (h:SqT X.K H a xs):∃ its:List Value,Vals xs its∧IsTup s.heap a its.toArray∧xs.length≤sizeLine:=by
 rcases h with h | ⟨o,its,n,hk,hc,hs,hz,r⟩
 ·obtain ⟨z,its,r,p⟩:=h.ok I.hok
  exact ⟨its,r,p.tup,z⟩
 ·refine ⟨its.toList,r,⟨o,I.kIn a o hk,hc,n,by simpa using hs⟩,?_⟩
  have e:=r.length
  simp only [Array.length_toList] at e
  omega
theorem Inv.list_inj (I:Inv X pins σ H s) (h:SqL X.K H a xs) (h':SqL X.K H a ys):xs=ys:=by
 obtain ⟨its,r,⟨o,n,e,_,_,d⟩,_⟩:=I.list h
 obtain ⟨its',r',⟨o',n',e',_,_,d'⟩,_⟩:=I.list h'
 rw [e] at e'; cases e'
 rw [d] at d'
 injection d' with d1 _
 have:its=its':=by simpa using congrArg Array.toList d1
 subst this
 exact r.inj r'
theorem Inv.tuple_inj (I:Inv X pins σ H s) (h:SqT X.K H a xs) (h':SqT X.K H a ys):xs=ys:=by
 obtain ⟨its,r,⟨o,e,_,n,d⟩,_⟩:=I.tuple h
 obtain ⟨its',r',⟨o',e',_,n',d'⟩,_⟩:=I.tuple h'
 rw [e] at e'; cases e'
 rw [d] at d'
 injection d' with d1 _
 have:its=its':=by simpa using congrArg Array.toList d1
 subst this
 exact r.inj r'
end
abbrev Cx.wish (X:Cx) (E:Value→Shared→Prop):Cx:={ X with xe:=E }
abbrev Cx.nox (X:Cx):Cx:=X.wish fun _ _=>False
theorem Cx.Ok.wish {X:Cx} (ok:X.Ok) (E:Value→Shared→Prop):(X.wish E).Ok :=
 ⟨ok.mod,ok.kind,ok.glob,ok.blt,ok.above,ok.inj,ok.has,ok.cab,ok.hd,ok.frames,ok.stk,ok.exf,ok.bs,ok.bsz,ok.noex,ok.exfs,ok.funs,ok.frf⟩
theorem Cx.Ok.unwish {X:Cx} {E:Value→Shared→Prop} (ok:(X.wish E).Ok):X.Ok :=
 ⟨ok.mod,ok.kind,ok.glob,ok.blt,ok.above,ok.inj,ok.has,ok.cab,ok.hd,ok.frames,ok.stk,ok.exf,ok.bs,ok.bsz,ok.noex,ok.exfs,ok.funs,ok.frf⟩
section
variable {X:Cx} {pins:List (Addr × Obj)} {σ:St} {H:Hp} {s:Shared} {E:Value→Shared→Prop}
theorem Inv.wish (I:Inv X pins σ H s) (E:Value→Shared→Prop):Inv (X.wish E) pins σ H s:=⟨I.ok.wish E,I.os,I.bare,I.base,I.loc,I.cell,I.free,I.freeC,I.pin,I.hok,I.len⟩
theorem Inv.unwish (I:Inv (X.wish E) pins σ H s):Inv X pins σ H s:=⟨I.ok.unwish,I.os,I.bare,I.base,I.loc,I.cell,I.free,I.freeC,I.pin,I.hok,I.len⟩
theorem SP.unwish {D:Ends} {f:Flow} {s':Shared} (h:SP (X.wish E) pins D f s'):SP X pins D f s':=by
 cases f with
 | next=>obtain ⟨σ',H',I,q⟩:=h; exact ⟨σ',H',I.unwish,q⟩
 | brk=>obtain ⟨σ',H',I,q⟩:=h; exact ⟨σ',H',I.unwish,q⟩
 | cont=>obtain ⟨σ',H',I,q⟩:=h; exact ⟨σ',H',I.unwish,q⟩
 | ret u=>obtain ⟨v,σ',H',I,r,q⟩:=h; exact ⟨v,σ',H',I.unwish,r,q⟩
theorem PSs.nox {st:List Stmt} {t:TS} (h:PSs X.nox st t):PSs X st t:=fun pins s σ H D I hw =>
 wpAny_mono (h pins s σ H D (I.wish _) hw) (fun _ _ q=>q.unwish) fun _ _ z=>False.elim z
end
section
variable {X:Cx} {st:Stmt} {rest:List Stmt} {t u:TS} {e:Expr} {te:TE} {pos:Pos}
def AT:TS:=fun D σ H=>D.nx σ H
def Ej (t u:TS):TS:=fun D σ H=>t { D with nx:=u D } σ H
theorem pss_nil:PSs X [] AT:=fun _ _ σ H _ I h=>wpAny_execs_nil ⟨σ,H,I,h⟩
theorem uG (h1:PS X st t) (h2:PSs X rest u):PSs X (st :: rest) (Ej t u):=by
 intro pins s σ H D I h
 refine wpAny_execs_cons (thn (h1 pins s σ H { D with nx:=u D } I h) fun f s1 q=>?_)
 cases f with
 | next =>
  obtain ⟨σ',H',I',q⟩:=q
  exact h2 pins s1 σ' H' D I' q
 | ret v=>exact q
 | brk=>exact q
 | cont=>exact q
theorem Bp (h1:PS X st t):PSs X [st] t:=by
 intro pins s σ H D I h
 refine wpAny_execs_cons (thn (h1 pins s σ H D I h) fun f s1 q=>?_)
 cases f with
 | next=>exact wpAny_execs_nil q
 | ret v=>exact q
 | brk=>exact q
 | cont=>exact q
theorem Inv.quiet {pins:List (Addr × Obj)} {σ:St} {H:Hp} {s:Shared} (I:Inv X pins σ H s):interactive X.env=false:=by simp [interactive,I.ok.kind]
def AU (te:TE):TS:=fun D σ H=>te σ H fun _ H1=>D.nx σ H1
theorem Bq (he:PE X e te) (hs:swapsWith e none pos.line X.env=pure false:=by rfl):PS X (.Expr e pos) (AU te):=by
 intro pins s σ H D I h
 exact wpAny_Expr_any (thn (he pins s σ H _ I h) fun v s1 ⟨x,H1,I1,r1,q1⟩=>⟨σ,H1,I1,q1⟩) I.quiet hs
def Ek (te:TE):TS:=fun D σ H=>te σ H D.rt
theorem EH (he:PE X e te):PS X (.Return (some e) pos) (Ek te):=by
 intro pins s σ H D I h
 exact wpAny_Return_some (thn (he pins s σ H _ I h) fun v s1 ⟨x,H1,I1,r1,q1⟩=>⟨x,σ,H1,I1,r1,q1⟩)
def Ep (c:TT) (t u:TS):TS:=fun D σ H=>c σ H fun b H1=>if b=true then t D σ H1 else u D σ H1
theorem Gz {c:Expr} {a b:List Stmt} {tc:TT} (hc:PT X c tc) (ha:PSs X a t) (hb:PSs X b u):PS X (.If c a b pos) (Ep tc t u):=by
 intro pins s σ H D I h
 refine wpAny_If (thn (hc pins s σ H _ I h) fun d s1 ⟨H1,I1,q1⟩=>?_)
 cases d with
 | true=>exact ha pins s1 σ H1 D I1 q1
 | false=>exact hb pins s1 σ H1 D I1 q1
def sI:TS:=fun _ _ _=>False
theorem ps_never:PS X st sI:=fun _ _ _ _ _ _ h=>h.elim
end
abbrev TG:=V→St→Hp→(St→Hp→Prop)→Prop
abbrev TGs:=List V→St→Hp→(St→Hp→Prop)→Prop
def PG (X:Cx) (target:Expr) (t:TG):Prop :=
 ∀ (pins:List (Addr × Obj)) (s:Shared) (σ:St) (H:Hp) (v:V) (u:Value) (Q:St→Hp→Prop),Inv X pins σ H s→RelV v u→t v σ H Q →
  wpAny (model X.prog X.w) X.A (assign target X.env u) (fun _ s'=>∃ σ' H',Inv X pins σ' H' s'∧Q σ' H') X.xe s
def PGs (X:Cx) (ts:List Expr) (t:TGs):Prop :=
 ∀ (pins:List (Addr × Obj)) (s:Shared) (σ:St) (H:Hp) (vs:List V) (us:List Value) (Q:St→Hp→Prop),Inv X pins σ H s→Vals vs us→t vs σ H Q →
  wpAny (model X.prog X.w) X.A (assignInOrder ((assignEach ts X.env).map (·.2)) us) (fun _ s'=>∃ σ' H',Inv X pins σ' H' s'∧Q σ' H') X.xe s
abbrev vx:=V→V→V→Hp→(Hp→Prop)→Prop
def Gk (X:Cx) (t:vx):Prop :=
 ∀ (pins:List (Addr × Obj)) (s:Shared) (σ:St) (H:Hp) (o i v:V) (ov iv u:Value) (Q:Hp→Prop),Inv X pins σ H s→RelV o ov→RelV i iv→RelV v u→t o i v H Q →
  wpAny (model X.prog X.w) X.A (setItem ov iv u) (fun _ s'=>∃ H',Inv X pins σ H' s'∧Q H') X.xe s
section
variable {X:Cx} {pos:Pos}
def mS (i:Nat):TG:=fun v σ H Q=>Q (σ.set i (some v)) H
theorem Bt {i:Nat} {x:Str} (hN:X.N.Nodup) (hi:X.N[i]?=some x) (hx:Loc X.env.scope x) (hf:X.fn x=true∨X.env.scope.names.lookup x=some .local:=by first | exact .inl rfl | exact .inr rfl | assumption):PG X (.Name x pos) (mS i):=by
 intro pins s σ H v u Q I r h
 exact wpAny_assign_Name (pq I hN hi hx r (fun s' I'=>⟨_,H,I',h⟩) hf)
def Fv:TGs:=fun vs σ H Q=>vs=[]∧Q σ H
def Bc (t:TG) (u:TGs):TGs:=fun vs σ H Q=>∃ v r,vs=v :: r∧t v σ H fun σ' H'=>u r σ' H' Q
theorem pgs_nil:PGs X [] Fv:=by
 intro pins s σ H vs us Q I r h
 obtain ⟨e,h⟩:=h
 subst e
 cases r
 exact assignInOrder_nil ⟨σ,H,I,h⟩
theorem uI {e:Expr} {es:List Expr} {t:TG} {u:TGs} (h1:PG X e t) (h2:PGs X es u)
  (hs:(assignEach (e :: es) X.env).map (·.2)=assign e X.env :: (assignEach es X.env).map (·.2):=by rfl):PGs X (e :: es) (Bc t u):=by
 intro pins s σ H vs us Q I r h
 obtain ⟨v,vr,e1,h⟩:=h
 subst e1
 cases r with
 | cons r rr =>
  rw [hs]
  refine assignInOrder_cons (thn (h1 pins s σ H _ _ _ I r h) fun _ s1 ⟨σ1,H1,I1,q1⟩=>?_)
  exact h2 pins s1 σ1 H1 _ _ Q I1 rr q1
def Ft (K:PySem.W.Frag) (n:Nat) (t:TGs):TG:=fun v σ H Q=>∃ a xs,v=.ref a∧SqT K H a xs∧xs.length=n∧t xs σ H Q
theorem EM {es:List Expr} {k:Nat} {t:TGs} {n:Nat} (hc:X.calm=true) (h:PGs X es t)
  (hn:(assignEach es X.env).length=n:=by rfl) (hst:(assignEach es X.env).findIdx? (·.1)=none:=by rfl):PG X (.Tuple es k pos) (Ft X.K n t):=by
 intro pins s σ H v u Q I r hw
 obtain ⟨a,xs,e1,hq,hl,hw⟩:=hw
 subst e1
 cases r
 obtain ⟨its,rv,ht,hz⟩:=I.tuple hq
 refine assign_Tuple_tuple (I.ok.hd hc) ht (by simp [hn,← hl,rv.length]) hst fun h' hx=>?_
 have I1:Inv X pins σ H { s with heap:=h' }:=I.kept (t':=s.toks) fun b o e=>hx b o (Nat.ne_of_lt (Heap.lt_size e)) e
 exact h pins _ σ H xs _ Q I1 (by simpa using rv) hw
def Fu (to ti:TE) (t:vx):TG:=fun v σ H Q=>to σ H fun o H1=>ti σ H1 fun i H2=>t o i v H2 fun H3=>Q σ H3
theorem EN {o i:Expr} {to ti:TE} {t:vx} (ho:PE X o to) (hi:PE X i ti) (hs:Gk X t)
  (ha:∀ v,assign (.Subscript o i pos) X.env v=(do
   let ov ← holding [v] (eval o X.env)
   let iv ← holding [v,ov] (eval i X.env)
   standAt pos
   holding [v,ov,iv] (setItem ov iv v)
   release [v,ov,iv] []):=by intro _; rfl):PG X (.Subscript o i pos) (Fu to ti t):=by
 intro pins s σ H v u Q I r h
 rw [ha]
 refine wpAny_bind (wpAny_holding (thn (ho pins s σ H _ I h) fun ov s1 ⟨x,H1,I1,r1,q1⟩=>?_))
 refine wpAny_bind (wpAny_holding (thn (hi pins s1 σ H1 _ I1 q1) fun iv s2 ⟨y,H2,I2,r2,q2⟩=>?_))
 refine wpAny_bind (wpAny_standAt (wpAny_bind (wpAny_holding (thn (hs pins s2 σ H2 x y v ov iv u _ I2 r1 r2 r q2) fun _ s3 ⟨H3,I3,q3⟩=>?_))))
 exact wpAny_release ⟨σ,H3,I3,q3⟩
def pk (te:TE) (g:TG):TS:=fun D σ H=>te σ H fun x H1=>g x σ H1 D.nx
theorem EK {tg e:Expr} {te:TE} {g:TG} (he:PE X e te) (hg:PG X tg g) (hs:swapsWithSole [tg] e pos.line X.env=pure false:=by rfl) (hw:swappedStores [tg] e X.env=pure none:=by rfl)
  (h1:(assignEach [tg] X.env).map (·.2)=[assign tg X.env]:=by rfl):PS X (.Assign [tg] e pos) (pk te g):=by
 intro pins s σ H D I h
 refine wpAny_Assign_stores (thn (he pins s σ H _ I h) fun v s1 ⟨x,H1,I1,r1,q1⟩=>?_) hs hw
 rw [h1]
 exact thn (hg pins s1 σ H1 x v _ I1 r1 q1) fun _ s2 q=>q
theorem EG {i:Nat} {x:Str} {e:Expr} {te:TE} {pos':Pos} (hN:X.N.Nodup) (hi:X.N[i]?=some x) (hx:Loc X.env.scope x) (he:PE X e te) (hs:swapsWith e (some (.Name x pos')) pos.line X.env=pure false:=by rfl) (hf:X.fn x=true∨X.env.scope.names.lookup x=some .local:=by first | exact .inl rfl | exact .inr rfl | assumption) :
  PS X (.Assign [.Name x pos'] e pos) (pk te (mS i)):=by
 intro pins s σ H D I h
 refine wpAny_Assign_Name (thn (he pins s σ H _ I h) fun v s1 ⟨y,H1,I1,r1,q1⟩=>?_) hs
 exact pq I1 hN hi hx r1 (fun s2 I2=>⟨_,H1,I2,q1⟩) hf
end
section
variable {X:Cx} {pos:Pos}
end
structure It where
 go:Nat→Hp→Prop
 yld:Nat→Hp→V→Hp→Prop
 stop:Nat→Hp→Prop
def gM (X:Cx) (pins:List (Addr × Obj)) (H:Hp) (b:Addr):Prop :=
 H b=none∧b≠X.env.locals∧b ∉ X.fs∧(b∈X.ex∨X.s₀.heap.objs.size≤b)∧(∀ x c,X.env.cells.lookup x=some c→c≠b)∧∀ p∈X.pn++pins,p.1≠b
theorem Inv.fpOk {X:Cx} {pins:List (Addr × Obj)} {σ:St} {H H':Hp} {s:Shared} {b:Addr} (I:Inv X pins σ H s) (hb:s.heap.objs.size≤b) (hn:H' b=none):gM X pins H' b:=by
 refine ⟨hn,Nat.ne_of_gt (Nat.lt_of_lt_of_le I.lt hb),I.nofs hb,.inr (Nat.le_trans I.sz hb),fun x c e z=>?_,fun p hp z=>?_⟩
 ·obtain ⟨v,q⟩:=I.cell x c e
  exact absurd (Nat.lt_of_lt_of_le q.lt (by rw [z]; exact hb)) (Nat.lt_irrefl _)
 ·exact absurd (Nat.lt_of_lt_of_le (Heap.lt_size (I.pin p hp).1) (by rw [z]; exact hb)) (Nat.lt_irrefl _)
structure Turn (P:Program) (w:World) (K:PySem.W.Frag) (tg:Expr) (J:It) (fp:List Addr) (it:Addr) (tn:Nat→Heap→Prop):Prop where
 mem:it∈fp
 obj:∀ i h,tn i h→∀ b∈fp,∃ o,h.get? b=some o∧∀ v,o.data≠.cell v
 keep:∀ i h h',tn i h→(∀ b∈fp,∀ o,h.get? b=some o→h'.get? b=some o)→tn i h'
 item:∀ (X:Cx),X.prog=P→X.w=w→X.K=K→X.calm=true→∀ (i:Nat) (pins:List (Addr × Obj)) (s:Shared) (σ:St) (H:Hp) (E:Value→Shared→Prop),Inv X pins σ H s→(∀ b∈fp,gM X pins H b)→tn i s.heap→J.go i H →
  wpAny (model P w) X.A (pyNext (.ref it)) (fun r s1=>∃ u,r=some u ∧
   wpAny (model P w) X.A (letOwnedTupleGo tg (.ref it) u) (fun _ s2=>∃ x H',Inv X pins σ H' s2∧RelV x u∧J.yld i H x H'∧tn (i+1) s2.heap∧∀ b∈fp,H' b=none) E s1) E s
 done:∀ (X:Cx),X.prog=P→X.w=w→X.K=K→X.calm=true→∀ (i:Nat) (pins:List (Addr × Obj)) (s:Shared) (σ:St) (H:Hp) (E:Value→Shared→Prop),Inv X pins σ H s→(∀ b∈fp,gM X pins H b)→tn i s.heap→J.stop i H →
  wpAny (model P w) X.A (pyNext (.ref it)) (fun r s1=>r=none∧Inv X pins σ H s1) E s
 self:∀ (A:Around) (i:Nat) (s:Shared) (Q:Value→Shared→Prop) (E:Value→Shared→Prop),tn i s.heap→Q (.ref it) s→wpAny (model P w) A (pyIter (.ref it)) Q E s
abbrev TI:=St→Hp→(It→Hp→Prop)→Prop
def PIE (X:Cx) (pins:List (Addr × Obj)) (σ:St) (tg:Expr) (R:It→Hp→Prop) (itv:Value) (s2:Shared):Prop :=
 ∃ (it:Addr) (fp:List Addr) (tn:Nat→Heap→Prop) (J:It) (H':Hp),itv=.ref it∧Inv X pins σ H' s2∧Turn X.prog X.w X.K tg J fp it tn∧tn 0 s2.heap∧(∀ b∈fp,gM X pins H' b)∧R J H'
def PI (X:Cx) (tg iter:Expr) (wi:TI):Prop :=
 ∀ (pins:List (Addr × Obj)) (s:Shared) (σ:St) (H:Hp) (R:It→Hp→Prop),Inv X pins σ H s→wi σ H R →
  wpAny (model X.prog X.w) X.A (eval iter X.env) (fun v s1=>wpAny (model X.prog X.w) X.A (pyIter v) (PIE X pins σ tg R) X.xe s1) X.xe s
theorem pb {M:Model} {A:Around} {E:Value→Shared→Prop} {s:Shared} {tg:Expr} {it:Addr} {u:Value} {o:Obj} {n:String} {vs:Array Value} {Q:Unit→Shared→Prop} (ho:s.heap.get? it=some o) (hc:o.cls=.type n) (hd:o.data=.fields vs)
  (hn:["enumerate", "zip", "dict_itemiterator", "dict_reverseitemiterator", "odict_iterator", "itertools.zip_longest", "itertools.pairwise"].contains n=false) (hQ:Q () s):wpAny M A (letOwnedTupleGo tg (.ref it) u) Q E s:=by
 unfold letOwnedTupleGo
 cases tg <;> first
  | exact wpAny_pure hQ
  | (cases u <;> first
    | exact wpAny_pure hQ
    | (refine wpAny_bind (wpAny_load ho ?_)
       rw [hc,hd]
       show wpAny M A (if (["enumerate", "zip", "dict_itemiterator", "dict_reverseitemiterator", "odict_iterator", "itertools.zip_longest", "itertools.pairwise"].contains n && vs[0]? == some (rawInt _))=true then _ else _) Q E s
       rw [if_neg (by intro h; rw [hn,Bool.false_and] at h; cases h)]
       exact wpAny_pure hQ))
def Itl (K:PySem.W.Frag) (a:Addr):It :=
 ⟨fun i H=>∃ xs x,SqL K H a xs∧xs[i]?=some x,fun i H x H'=>H'=H∧∀ xs,SqL K H a xs→xs[i]?=some x,fun i H=>∃ xs,SqL K H a xs∧xs.length≤i⟩
def Itt (K:PySem.W.Frag) (a:Addr):It :=
 ⟨fun i H=>∃ xs x,SqT K H a xs∧xs[i]?=some x,fun i H x H'=>H'=H∧∀ xs,SqT K H a xs→xs[i]?=some x,fun i H=>∃ xs,SqT K H a xs∧xs.length≤i⟩
def Itr (lo:Int) (n:Nat):It:=⟨fun i _=>i < n,fun i H x H'=>H'=H∧x=.int (lo+i),fun i _=>n≤i⟩
theorem sE {P:Program} {w:World} {K:PySem.W.Frag} {tg:Expr} (a it:Addr):Turn P w K tg (Itl K a) [it] it (fun i h=>h.IsListIter it a i) where
 mem:=by simp
 obj:=fun i h st b hb=>by
  have e:b=it:=by simpa using hb
  subst e
  obtain ⟨o,e,c,d⟩:=st
  exact ⟨o,e,fun v z=>by rw [d] at z; cases z⟩
 keep:=fun i h h' st k=>st.at fun o e=>k it (by simp) o e
 item:=by
  intro X hP hw hK hc i pins s σ H E I hf st hg
  subst hP hw hK
  obtain ⟨xs,x,hq,hx⟩:=hg
  obtain ⟨its,rv,p,hz⟩:=I.list hq
  obtain ⟨u,hu,ru⟩:=rv.get hx
  obtain ⟨f0,f1,f2,f3,f4,f5⟩:=hf it (by simp)
  refine wpAny_pyNext_list_item st p.isList (x:=u) (by simpa using hu) fun h' st' sb=>?_
  have I1:Inv X pins σ H { s with heap:=h' }:=I.turned (t':=s.toks) (fun b o hb e=>(sb.2 b hb).trans e) f0 f1 f3 f4 f5
  obtain ⟨o,e,c,d⟩:=id st'
  exact ⟨u,rfl,pb (s:={ s with heap:=h' }) e c d (by decide) ⟨x,H,I1,ru,⟨rfl,fun ys hy=>by rw [I.list_inj hy hq]; exact hx⟩,st',fun b hb=>(hf b hb).1⟩⟩
 done:=by
  intro X hP hw hK hc i pins s σ H E I hf st hg
  subst hP hw hK
  obtain ⟨xs,hq,hx⟩:=hg
  obtain ⟨its,rv,p,hz⟩:=I.list hq
  obtain ⟨f0,f1,f2,f3,f4,f5⟩:=hf it (by simp)
  have hl:=rv.length
  exact wpAny_pyNext_list_end (I.ok.hd hc) st p.isList (by simp; omega) fun h' eb=>⟨rfl,I.turned (t':=s.toks) (fun b o hb e=>eb b o hb e) f0 f1 f3 f4 f5⟩
 self:=fun _ _ _ _ _ st h=>wpAny_pyIter_listiter st h
theorem rl {P:Program} {w:World} {K:PySem.W.Frag} {tg:Expr} (a it:Addr):Turn P w K tg (Itt K a) [it] it (fun i h=>h.IsTupleIter it a i) where
 mem:=by simp
 obj:=fun i h st b hb=>by
  have e:b=it:=by simpa using hb
  subst e
  obtain ⟨o,e,c,d⟩:=st
  exact ⟨o,e,fun v z=>by rw [d] at z; cases z⟩
 keep:=fun i h h' st k=>st.at fun o e=>k it (by simp) o e
 item:=by
  intro X hP hw hK hc i pins s σ H E I hf st hg
  subst hP hw hK
  obtain ⟨xs,x,hq,hx⟩:=hg
  obtain ⟨its,rv,p,hz⟩:=I.tuple hq
  obtain ⟨u,hu,ru⟩:=rv.get hx
  obtain ⟨f0,f1,f2,f3,f4,f5⟩:=hf it (by simp)
  refine wpAny_pyNext_tuple_item st (show s.heap.IsTuple a its.toArray from p) (x:=u) (by simpa using hu) fun h' st' sb=>?_
  have I1:Inv X pins σ H { s with heap:=h' }:=I.turned (t':=s.toks) (fun b o hb e=>(sb.2 b hb).trans e) f0 f1 f3 f4 f5
  obtain ⟨o,e,c,d⟩:=id st'
  exact ⟨u,rfl,pb (s:={ s with heap:=h' }) e c d (by decide) ⟨x,H,I1,ru,⟨rfl,fun ys hy=>by rw [I.tuple_inj hy hq]; exact hx⟩,st',fun b hb=>(hf b hb).1⟩⟩
 done:=by
  intro X hP hw hK hc i pins s σ H E I hf st hg
  subst hP hw hK
  obtain ⟨xs,hq,hx⟩:=hg
  obtain ⟨its,rv,p,hz⟩:=I.tuple hq
  obtain ⟨f0,f1,f2,f3,f4,f5⟩:=hf it (by simp)
  have hl:=rv.length
  exact wpAny_pyNext_tuple_end (I.ok.hd hc) st (show s.heap.IsTuple a its.toArray from p) (by simp; omega) fun h' eb=>⟨rfl,I.turned (t':=s.toks) (fun b o hb e=>eb b o hb e) f0 f1 f3 f4 f5⟩
 self:=fun _ _ _ _ _ st h=>wpAny_pyIter_tupleiter st h
theorem rm {P:Program} {w:World} {K:PySem.W.Frag} {tg:Expr} (it:Addr) (lo:Int) (n:Nat):Turn P w K tg (Itr lo n) [it] it (fun i h=>IsRangeIter h it (lo+(i:Nat) * 1) ((n:Int) - (i:Nat)) 1) where
 mem:=by simp
 obj:=fun i h st b hb=>by
  have e:b=it:=by simpa using hb
  subst e
  exact ⟨_,st,fun v z=>by
   have z':Data.fields _=Data.cell v:=z
   cases z'⟩
 keep:=fun i h h' st k=>k it (by simp) _ st
 item:=by
  intro X hP hw hK hc i pins s σ H E I hf st hg
  subst hP hw hK
  obtain ⟨f0,f1,f2,f3,f4,f5⟩:=hf it (by simp)
  have W:=Walks.range (prog:=X.prog) (w:=X.w) (I.ok.hd hc) it lo 1 n
  refine W.item i s _ _ hg st fun v h' tk hv st' kk=>?_
  obtain ⟨t,rfl⟩:=hv
  have I1:Inv X pins σ H { s with heap:=h',toks:=tk }:=I.turned (fun b o hb e=>kk b o (by simpa using hb) e) f0 f1 f3 f4 f5
  refine ⟨_,rfl,pb (s:={ s with heap:=h',toks:=tk }) (n:="range_iterator") st' rfl rfl (by decide) ⟨.int (lo+i),H,I1,⟨t,?_⟩,⟨rfl,rfl⟩,st',fun b hb=>(hf b hb).1⟩⟩
  rw [Int.mul_one]
 done:=by
  intro X hP hw hK hc i pins s σ H E I hf st hg
  subst hP hw hK
  obtain ⟨f0,f1,f2,f3,f4,f5⟩:=hf it (by simp)
  exact wpAny_pyNext_range_end (I.ok.hd hc) st (by have:n≤i:=hg; omega) fun h' eb=>⟨rfl,I.turned (t':=s.toks) (fun b o hb e=>eb b o hb e) f0 f1 f3 f4 f5⟩
 self:=fun _ _ _ _ _ st h=>wpAny_pyIter_rangeiter st h
end L2
namespace L2
open PySem PySem.Spec PyProof.Rows
section
variable {X:Cx} {tg:Expr}
theorem uE {pins:List (Addr × Obj)} {σ:St} {H:Hp} {s:Shared} {R:It→Hp→Prop} {E:Value→Shared→Prop} {lo hi:Int} {t u v:Tok} {tk:Nat} (I:Inv X pins σ H s) (h1:-(2 ^ 62)≤lo) (h2:lo < 2 ^ 62) (h3:-(2 ^ 62)≤hi) (h4:hi < 2 ^ 62)
  (q:R (Itr lo (hi - lo).toNat) H):wpAny (model X.prog X.w) X.A (pyIter (.ref s.heap.objs.size)) (PIE X pins σ tg R) E { s with heap:=s.heap.push { cls:=.type "range",data:=.fields #[.int lo t,.int hi u,.int 1 v] },toks:=tk }:=by
 refine wpAny_pyIter_range (IsRange.new ..) (small_one h1 h2 h3 h4) ?_
 have I1:Inv X pins σ H { s with heap:=s.heap.push { cls:=.type "range",data:=.fields #[.int lo t,.int hi u,.int 1 v] },toks:=tk }:=I.kept fun b o e=>Heap.get?_push_of_some _ e
 refine ⟨(s.heap.push { cls:=.type "range",data:=.fields #[.int lo t,.int hi u,.int 1 v] }).objs.size,[(s.heap.push { cls:=.type "range",data:=.fields #[.int lo t,.int hi u,.int 1 v] }).objs.size],_,_,H,rfl,
  I1.kept (t':=tk) fun b o e=>Heap.get?_push_of_some _ e,rm _ lo (hi - lo).toNat,?_,fun b hb=>?_,q⟩
 ·have e1:lo+((0:Nat):Int) * 1=lo:=by simp
  have e2:(((hi - lo).toNat:Nat):Int) - ((0:Nat):Int)=Builtin.Range.rangeSize lo hi 1:=by rw [rangeSize_one]; split <;> omega
  show IsRangeIter _ _ (lo+((0:Nat):Int) * 1) ((((hi - lo).toNat:Nat):Int) - ((0:Nat):Int)) 1
  rw [e1,e2]
  exact Heap.get?_push_size _ rfl
 ·have e:b=(s.heap.push { cls:=.type "range",data:=.fields #[.int lo t,.int hi u,.int 1 v] }).objs.size:=by simpa using hb
  subst e
  exact I1.fpOk (Nat.le_refl _) (I1.hok.fresh (Nat.le_refl _))
def GJ (ta:TA):TI:=fun σ H R=>ta σ H fun vs H1=>∃ j:Int,vs=[.int j]∧-(2 ^ 62)≤j∧j < 2 ^ 62∧R (Itr 0 j.toNat) H1
theorem sR {a:Expr} {ta:TA} {p pos:Pos} (hg:Gl X "range") (hm:X.mg "range"=none) (ha:PA X [a] ta) (hs:starEach [a] X.env=[(false,eval a X.env)]:=by rfl):PI X tg (.Call (.Name "range" p) [a] [] pos) (GJ ta):=by
 intro pins s σ H R I h
 refine Call_ (jh I hg hm boot_range (PyProof.Rows.callWith_type1 (thn (ha pos pins s σ H _ I h) fun us s1 ⟨vs,H1,I1,r1,q1⟩=>?_) hs rfl))
 obtain ⟨j,e,q1,q2,q⟩:=q1
 subst e
 cases r1 with
 | cons r rr =>
  cases rr
  obtain ⟨t,rfl⟩:=r
  exact call_range_1 (uE I1 (by omega) (by omega) q1 q2 (by simpa using q))
def Er (wi:TI) (g:TG) (tb:TS):TS:=fun D σ H=>wi σ H fun J H1=>∃ W:Nat→Nat→St→Hp→Prop,(∃ m,W 0 m σ H1)∧∀ i m σ H,W i m σ H →
 (J.stop i H∧D.nx σ H)∨(J.go i H∧∃ N:St→Hp→Prop,(∀ σ' H',N σ' H'→∃ m',m' < m∧W (i+1) m' σ' H')∧∀ x H',J.yld i H x H'→g x σ H' fun σ2 H2=>tb { D with nx:=N,ct:=N,bk:=D.nx } σ2 H2)
def kj (fp:List Addr) (h:Heap):List (Addr × Obj):=fp.filterMap fun b=>(h.get? b).map fun o=>(b,o)
theorem gR {fp:List Addr} {h:Heap} {b:Addr} {o:Obj} (hb:b∈fp) (e:h.get? b=some o):(b,o)∈kj fp h:=List.mem_filterMap.mpr ⟨b,hb,by rw [e]; rfl⟩
theorem sY {fp:List Addr} {h:Heap} {p:Addr × Obj} (hp:p∈kj fp h):p.1∈fp∧h.get? p.1=some p.2:=by
 obtain ⟨b,hb,e⟩:=List.mem_filterMap.mp hp
 cases q:h.get? b with
 | none=>rw [q] at e; cases e
 | some o =>
  rw [q] at e
  have e':(b,o)=p:=Option.some.inj e
  subst e'
  exact ⟨hb,q⟩
theorem Inv.pinned {pins:List (Addr × Obj)} {σ:St} {H:Hp} {s:Shared} {fp:List Addr} (I:Inv X pins σ H s) (hf:∀ b∈fp,gM X pins H b) (ho:∀ b∈fp,∃ o,s.heap.get? b=some o∧∀ v,o.data≠.cell v):Inv X (pins++kj fp s.heap) σ H s :=
 I.pins_of fun p hp=>(List.mem_append.mp hp).elim (fun z=>I.pin p (List.mem_append_right _ z)) fun z=>by
  obtain ⟨hb,e⟩:=sY z
  obtain ⟨f0,f1,f2,_⟩:=hf p.1 hb
  obtain ⟨o,e',d⟩:=ho p.1 hb
  rw [e] at e'; cases e'
  exact ⟨e,f0,f1,f2,d⟩
theorem Inv.unpinned {pins pl:List (Addr × Obj)} {σ:St} {H:Hp} {s:Shared} (I:Inv X (pins++pl) σ H s):Inv X pins σ H s:=I.pins_of fun p hp=>I.pin p (List.mem_append_right _ (List.mem_append_left _ hp))
theorem EJ {iter:Expr} {body:List Stmt} {wi:TI} {g:TG} {tb:TS} {pos:Pos} (hp:PassesOwn (model X.prog X.w) X.A X.env X.xe) (hc:X.calm=true) (hi:PI X tg iter wi) (hg:PG X tg g) (hb:PSs X body tb)
  (hs:∀ x,foldedSetIterable iter X.env x=pure x:=by intro _; rfl):PS X (.For tg iter body [] pos) (Er wi g tb):=by
 intro pins s σ H D I h
 refine wpAny_For (thn (hi pins s σ H _ I h) fun v s1 h1=>thn h1 fun itv s2 h2=>?_) hs
 obtain ⟨it,fp,tn,J,H2,e,I2,T,st2,f2,W,⟨m0,w0⟩,turn⟩:=h2
 subst e
 have stat:∀ {H':Hp},(∀ b∈fp,H' b=none)→∀ b∈fp,gM X pins H' b:=fun hn b hb=>⟨hn b hb,(f2 b hb).2⟩
 refine codeAny_forLoop_any (fun n s'=>∃ i σ' H',Inv X pins σ' H' s'∧tn i s'.heap∧(∀ b∈fp,H' b=none)∧W i n σ' H') ?_ m0 ⟨0,σ,H2,I2,st2,fun b hb=>(f2 b hb).1,w0⟩
 rintro n s3 ⟨i,σ3,H3,I3,st3,fr3,w3⟩
 rcases turn i n σ3 H3 w3 with ⟨stop,qn⟩ | ⟨go,N,hN,step⟩
 ·refine wpAny_passesOwn hp (thn (T.done X rfl rfl rfl hc i pins s3 σ3 H3 X.xe I3 (stat fr3) st3 stop) fun r s4 ⟨hr,I4⟩=>?_)
  subst hr
  exact wpAny_execs_nil ⟨σ3,H3,I4,qn⟩
 ·refine wpAny_passesOwn hp (thn (T.item X rfl rfl rfl hc i pins s3 σ3 H3 X.xe I3 (stat fr3) st3 go) fun r s4 ⟨u,hr,h4⟩=>?_)
  subst hr
  refine wpAny_passesOwn hp (thn h4 fun _ s5 ⟨x,H5,I5,r5,y5,st5,fr5⟩=>?_)
  have I5':=I5.pinned (stat fr5) (T.obj _ _ st5)
  refine wpAny_passesOwn hp (thn (hg _ s5 σ3 H5 x u _ I5' r5 (step x H5 y5)) fun _ s6 ⟨σ6,H6,I6,q6⟩=>?_)
  refine wpAny_passesOwn hp (thn (hb _ s6 σ6 H6 _ I6 q6) fun f s7 q7=>?_)
  have again:∀ {σ7:St} {H7:Hp},Inv X (pins++kj fp s5.heap) σ7 H7 s7→N σ7 H7→∃ m,m < n∧∃ i σ' H',Inv X pins σ' H' s7∧tn i s7.heap∧(∀ b∈fp,H' b=none)∧W i m σ' H':=fun {σ7 H7} I7 n7=>by
   obtain ⟨m',hm,w7⟩:=hN σ7 H7 n7
   refine ⟨m',hm,i+1,σ7,H7,I7.unpinned,T.keep _ _ _ st5 fun b hb o e=>(I7.pin (b,o) (List.mem_append_right _ (List.mem_append_right _ (gR hb e)))).1,fun b hb=>?_,w7⟩
   obtain ⟨o,e,d⟩:=T.obj _ _ st5 b hb
   exact (I7.pin (b,o) (List.mem_append_right _ (List.mem_append_right _ (gR hb e)))).2.1
  cases f with
  | next=>obtain ⟨σ7,H7,I7,n7⟩:=q7; exact again I7 n7
  | cont=>obtain ⟨σ7,H7,I7,n7⟩:=q7; exact again I7 n7
  | brk=>obtain ⟨σ7,H7,I7,q7⟩:=q7; exact ⟨σ7,H7,I7.unpinned,q7⟩
  | ret v=>obtain ⟨x7,σ7,H7,I7,r7,q7⟩:=q7; exact ⟨x7,σ7,H7,I7.unpinned,r7,q7⟩
end
end L2
namespace L2
open PySem PySem.Spec PyProof.Rows
abbrev R2:=V→V→Hp→VK→Prop
def OpR (X:Cx) (f:Value→Value→Sem Value) (r:R2):Prop :=
 ∀ (pins:List (Addr × Obj)) (s:Shared) (σ:St) (H:Hp) (x y:V) (v u:Value) (Q:VK),Inv X pins σ H s→RelV x v→RelV y u→r x y H Q →
  wpAny (model X.prog X.w) X.A (f v u) (EP X pins σ Q) X.xe s
def UnR (X:Cx) (f:Value→Sem Value) (r:V→Hp→VK→Prop):Prop :=
 ∀ (pins:List (Addr × Obj)) (s:Shared) (σ:St) (H:Hp) (x:V) (v:Value) (Q:VK),Inv X pins σ H s→RelV x v→r x H Q →
  wpAny (model X.prog X.w) X.A (f v) (EP X pins σ Q) X.xe s
def CallR (X:Cx) (f:Value) (r:List V→Hp→VK→Prop):Prop :=
 ∀ (pins:List (Addr × Obj)) (s:Shared) (σ:St) (H:Hp) (xs:List V) (us:List Value) (Q:VK),Inv X pins σ H s→Vals xs us→r xs H Q →
  wpAny (model X.prog X.w) X.A (call f us) (EP X pins σ Q) X.xe s
def HF (X:Cx) (r:V→Hp→(Bool→Hp→Prop)→Prop):Prop :=
 ∀ (pins:List (Addr × Obj)) (s:Shared) (σ:St) (H:Hp) (x:V) (v:Value) (Q:Bool→Hp→Prop),Inv X pins σ H s→RelV x v→r x H Q →
  wpAny (model X.prog X.w) X.A (truthy v) (TP X pins σ Q) X.xe s
def tOp (r:R2) (ta tb:TE):TE:=fun σ H Q=>ta σ H fun x H1=>tb σ H1 fun y H2=>r x y H2 Q
def tUn (r:V→Hp→VK→Prop) (ta:TE):TE:=fun σ H Q=>ta σ H fun x H1=>r x H1 Q
def rI (C:Int→Int→Prop) (g:Int→Int→V):R2:=fun x y H Q=>∃ i j,x=.int i∧y=.int j∧C i j∧Q (g i j) H
def rI0 (g:Int→Int→V):R2:=fun x y H Q=>∃ i j,x=.int i∧y=.int j∧Q (g i j) H
def rU (g:Int→V):V→Hp→VK→Prop:=fun x H Q=>∃ i,x=.int i∧Q (g i) H
section
variable {X:Cx} {a b c:Expr} {ta tb tc:TE} {pos:Pos}
theorem vw (ha:PE X a ta) (hb:PE X b tb) {pins:List (Addr × Obj)} {s:Shared} {σ:St} {H:Hp} {R:V→V→Hp→Prop} (I:Inv X pins σ H s)
  (h:ta σ H fun x H1=>tb σ H1 fun y H2=>R x y H2) {Q:Value→Shared→Prop} {f:Value→Value→Sem Value}
  (hf:∀ v u s2 x y H2,Inv X pins σ H2 s2→RelV x v→RelV y u→R x y H2→wpAny (model X.prog X.w) X.A (f v u) Q X.xe s2) :
  wpAny (model X.prog X.w) X.A (eval a X.env) (fun v s₁=>wpAny (model X.prog X.w) X.A (eval b X.env) (fun u s₂=>wpAny (model X.prog X.w) X.A (f v u) Q X.xe s₂) X.xe s₁) X.xe s:=by
 refine thn (ha pins s σ H _ I h) fun v s1 ⟨x,H1,I1,r1,q1⟩=>?_
 refine thn (hb pins s1 σ H1 _ I1 q1) fun u s2 ⟨y,H2,I2,r2,q2⟩=>?_
 exact hf v u s2 x y H2 I2 r1 r2 q2
theorem GC {op:Operator} {r:R2} (ho:OpR X (binaryOp op) r) (ha:PE X a ta) (hb:PE X b tb):PE X (.BinOp a op b pos) (tOp r ta tb):=by
 intro pins s σ H Q I h
 exact wpAny_BinOp (vw ha hb I h fun v u s2 x y H2 I2 rx ry q=>ho pins s2 σ H2 x y v u Q I2 rx ry q)
theorem GA {op:UnaryOp} {r:V→Hp→VK→Prop} (ho:UnR X (unaryOp op) r) (ha:PE X a ta):PE X (.UnaryOp op a pos) (tUn r ta):=by
 intro pins s σ H Q I h
 exact UnaryOp_ (thn (ha pins s σ H _ I h) fun v s1 ⟨x,H1,I1,r1,q1⟩=>ho pins s1 σ H1 x v Q I1 r1 q1)
theorem opI {f:Value→Value→Sem Value} {C:Int→Int→Prop} {g:Int→Int→Int}
  (rule:∀ (i j:Int) (t u:Tok) (s:Shared) (Q:Value→Shared→Prop) (E:Value→Shared→Prop),C i j→Q (.int (g i j) s.toks) { s with toks:=s.toks+1 }→wpAny (model X.prog X.w) X.A (f (.int i t) (.int j u)) Q E s) :
  OpR X f (rI C fun i j=>.int (g i j)):=by
 intro pins s σ H x y v u Q I rx ry h
 obtain ⟨i,j,rfl,rfl,hc,q⟩:=h
 obtain ⟨t,rfl⟩:=rx
 obtain ⟨t',rfl⟩:=ry
 exact rule i j t t' s _ _ hc ⟨.int (g i j),H,I.tok _,⟨_,rfl⟩,q⟩
theorem EV {f:Value→Value→Sem Value} {g:Int→Int→Int}
  (rule:∀ (i j:Int) (t u:Tok) (s:Shared) (Q:Value→Shared→Prop) (E:Value→Shared→Prop),Q (.int (g i j) s.toks) { s with toks:=s.toks+1 }→wpAny (model X.prog X.w) X.A (f (.int i t) (.int j u)) Q E s) :
  OpR X f (rI0 fun i j=>.int (g i j)):=by
 intro pins s σ H x y v u Q I rx ry h
 obtain ⟨i,j,rfl,rfl,q⟩:=h
 obtain ⟨t,rfl⟩:=rx
 obtain ⟨t',rfl⟩:=ry
 exact rule i j t t' s _ _ ⟨.int (g i j),H,I.tok _,⟨_,rfl⟩,q⟩
theorem rK {f:Value→Value→Sem Value} {g:Int→Int→Bool}
  (rule:∀ (i j:Int) (t u:Tok) (s:Shared) (Q:Value→Shared→Prop) (E:Value→Shared→Prop),Q (.bool (g i j)) s→wpAny (model X.prog X.w) X.A (f (.int i t) (.int j u)) Q E s) :
  OpR X f (rI0 fun i j=>.bl (g i j)):=by
 intro pins s σ H x y v u Q I rx ry h
 obtain ⟨i,j,rfl,rfl,q⟩:=h
 obtain ⟨t,rfl⟩:=rx
 obtain ⟨t',rfl⟩:=ry
 exact rule i j t t' s _ _ ⟨.bl (g i j),H,I,rfl,q⟩
def j4 (i j:Int):Prop:=0 < j∧j < 1073741824
def kO (i j:Int):Prop:=0≤j∧j≤1000000∧i.natAbs < 2 ^ 64
def CMul (i j:Int):Prop:=(-(2 ^ 64) < i∧i < 2 ^ 64)∨(-(2 ^ 64) < j∧j < 2 ^ 64)
theorem CMul.ok {i j:Int} (h:CMul i j):IntMulOk i j:=by
 rcases h with ⟨h1,h2⟩ | ⟨h1,h2⟩
 ·exact .of_left (intBits_le_64 h1 h2)
 ·exact .of_right (intBits_le_64 h1 h2)
theorem op_add:OpR X (binaryOp .Add) (rI0 fun i j=>.int (i+j)):=EV fun _ _ _ _ _ _ _ q=>add_int q
theorem op_sub:OpR X (binaryOp .Sub) (rI0 fun i j=>.int (i - j)):=EV fun _ _ _ _ _ _ _ q=>sub_int q
theorem op_mul:OpR X (binaryOp .Mult) (rI CMul fun i j=>.int (i * j)):=opI fun _ _ _ _ _ _ _ hc q=>mul_int q hc.ok
theorem op_fdiv:OpR X (binaryOp .FloorDiv) (rI j4 fun i j=>.int (i / j)):=opI fun i j _ _ _ _ _ hc q=>by
 have h1:(0:Int) < j:=hc.1
 have h2:j < 1073741824:=hc.2
 exact floordiv_int (by omega) (by rw [Int.fdiv_eq_ediv_of_nonneg i (by omega)]; exact q) (.inl (PyProof.noPylong_small (by omega)))
theorem op_mod:OpR X (binaryOp .Mod) (rI (fun _ j=>0 < j) fun i j=>.int (i % j)):=opI fun i j _ _ _ _ _ hc q=>by
 have h1:(0:Int) < j:=hc
 exact mod_int' (by omega) (by rw [Int.fmod_eq_emod_of_nonneg i (by omega)]; exact q)
theorem op_pow:OpR X (binaryOp .Pow) (rI kO fun i j=>.int (i ^ j.toNat)):=opI fun _ _ _ _ _ _ _ hc q=>pow_int_small hc.1 hc.2.1 hc.2.2 q
theorem unI {f:Value→Sem Value} {g:Int→Int}
  (rule:∀ (i:Int) (t:Tok) (s:Shared) (Q:Value→Shared→Prop) (E:Value→Shared→Prop),Q (.int (g i) s.toks) { s with toks:=s.toks+1 }→wpAny (model X.prog X.w) X.A (f (.int i t)) Q E s) :
  UnR X f (rU fun i=>.int (g i)):=by
 intro pins s σ H x v Q I rx h
 obtain ⟨i,rfl,q⟩:=h
 obtain ⟨t,rfl⟩:=rx
 exact rule i t s _ _ ⟨.int (g i),H,I.tok _,⟨_,rfl⟩,q⟩
theorem un_neg:UnR X (unaryOp .USub) (rU fun i=>.int (-i)):=unI fun _ _ _ _ _ q=>neg_int q
end
section
variable {X:Cx} {a b c:Expr} {ta tb tc:TE} {pos:Pos}
theorem FJ {pins:List (Addr × Obj)} {σ:St} {H:Hp} {s:Shared} {Q:VK} {k k':Bool} (I:Inv X pins σ H s) (q:Q (.bl k) H) (e:k=k'):EP X pins σ Q (.bool k') s:=by
 subst e
 exact ⟨.bl k,H,I,rfl,q⟩
theorem op_lt:OpR X (compareOp .Lt) (rI0 fun i j=>.bl (decide (i < j))):=rK fun _ _ _ _ _ _ _ q=>lt_int q
theorem op_le:OpR X (compareOp .LtE) (rI0 fun i j=>.bl (decide (i≤j))):=rK fun _ _ _ _ _ _ _ q=>le_int q
theorem op_gt:OpR X (compareOp .Gt) (rI0 fun i j=>.bl (decide (j < i))):=rK fun _ _ _ _ _ _ _ q=>gt_int q
theorem op_ge:OpR X (compareOp .GtE) (rI0 fun i j=>.bl (decide (j≤i))):=rK fun _ _ _ _ _ _ _ q=>ge_int q
theorem op_isN:OpR X (compareOp .Is) (fun x y H Q=>y=.non∧Q (.bl (decide (x=.non))) H):=by
 intro pins s σ H x y v u Q I rx ry h
 obtain ⟨rfl,q⟩:=h
 cases ry
 refine is_none_gen (FJ I q ?_)
 cases x <;> first
  | (cases rx; rfl)
  | (obtain ⟨t,rfl⟩:=rx; rfl)
theorem aB (b:Expr) {op:CmpOp} (h:op≠.In:=by decide) (h2:op≠.NotIn:=by decide):behindInMarks op b=false:=by
 have e1:(op == CmpOp.In)=false:=by cases op <;> first | rfl | exact absurd rfl h
 have e2:(op == CmpOp.NotIn)=false:=by cases op <;> first | rfl | exact absurd rfl h2
 cases b <;> simp [behindInMarks,e1,e2]
theorem Bx {op:CmpOp} {r:R2} (ho:OpR X (compareOp op) r) (ha:PE X a ta) (hb:PE X b tb) (hm:behindInMarks op b=false):PE X (.Compare a [op] [b] pos) (tOp r ta tb):=by
 intro pins s σ H Q I h
 exact wpAny_Compare1 (vw ha hb I h fun v u s2 x y H2 I2 rx ry q=>ho pins s2 σ H2 x y v u Q I2 rx ry q) hm
def AQ (t:TE):TT:=fun σ H Q=>t σ H fun x H'=>∃ k,x=.bl k∧Q k H'
theorem Bo {op:CmpOp} {r:R2} (ho:OpR X (compareOp op) r) (ha:PE X a ta) (hb:PE X b tb) (hm:behindInMarks op b=false):PT X (.Compare a [op] [b] pos) (AQ (tOp r ta tb)):=by
 intro pins s σ H Q I h
 refine wpAny_isTrue_Compare1 (thn (ha pins s σ H _ I h) fun v s1 ⟨x,H1,I1,r1,q1⟩=>thn (hb pins s1 σ H1 _ I1 q1) fun u s2 ⟨y,H2,I2,r2,q2⟩ =>
  thn (ho pins s2 σ H2 x y v u _ I2 r1 r2 q2) fun c s3 ⟨z,H3,I3,r3,k,e,q3⟩=>?_) hm
 subst e
 cases r3
 exact wpAny_truthy_bool ⟨H3,I3,q3⟩
def pj (r r':R2) (ta tb tc:TE):TE:=fun σ H Q=>ta σ H fun x H1=>tb σ H1 fun y H2=>r x y H2 fun z H3=>∃ k,z=.bl k ∧
 (if k=true then tc σ H3 fun w' H4=>r' y w' H4 Q else Q (.bl false) H3)
theorem uL {op op':CmpOp} {r r':R2} (ho:OpR X (compareOp op) r) (ho':OpR X (compareOp op') r') (ha:PE X a ta) (hb:PE X b tb) (hc:PE X c tc)
  (hm:lastMarks [op,op'] [b,c]=false:=by with_unfolding_all rfl):PE X (.Compare a [op,op'] [b,c] pos) (pj r r' ta tb tc):=by
 intro pins s σ H Q I h
 refine Compare_chain (thn (ha pins s σ H _ I h) fun v s1 ⟨x,H1,I1,r1,q1⟩=>chain_link (thn (hb pins s1 σ H1 _ I1 q1) fun u s2 ⟨y,H2,I2,r2,q2⟩ =>
  thn (ho pins s2 σ H2 x y v u _ I2 r1 r2 q2) fun d s3 ⟨z,H3,I3,r3,k,e,q3⟩=>?_)) hm
 subst e
 cases r3
 refine wpAny_truthy_bool ?_
 cases k with
 | false=>exact ite_ff ⟨.bl false,H3,I3,rfl,q3⟩
 | true=>exact ite_tt (chain_last (thn (hc pins s3 σ H3 _ I3 q3) fun w' s4 ⟨z',H4,I4,r4,q4⟩=>ho' pins s4 σ H4 y z' u w' Q I4 r2 r4 q4))
theorem uF {op op':CmpOp} {r r':R2} (ho:OpR X (compareOp op) r) (ho':OpR X (compareOp op') r') (ha:PE X a ta) (hb:PE X b tb) (hc:PE X c tc)
  (hm:lastMarks [op,op'] [b,c]=false:=by with_unfolding_all rfl):PT X (.Compare a [op,op'] [b,c] pos) (AQ (pj r r' ta tb tc)):=by
 intro pins s σ H Q I h
 refine isTrue_chain (thn (ha pins s σ H _ I h) fun v s1 ⟨x,H1,I1,r1,q1⟩=>test_link (thn (hb pins s1 σ H1 _ I1 q1) fun u s2 ⟨y,H2,I2,r2,q2⟩ =>
  thn (ho pins s2 σ H2 x y v u _ I2 r1 r2 q2) fun d s3 ⟨z,H3,I3,r3,k,e,q3⟩=>?_)) hm
 subst e
 cases r3
 refine wpAny_truthy_bool ?_
 cases k with
 | false =>
  obtain ⟨k',e',q'⟩:=q3
  cases e'
  exact ite_ff ⟨H3,I3,q'⟩
 | true =>
  refine ite_tt (test_last (thn (hc pins s3 σ H3 _ I3 q3) fun w' s4 ⟨z',H4,I4,r4,q4⟩=>thn (ho' pins s4 σ H4 y z' u w' _ I4 r2 r4 q4) fun d' s5 ⟨z2,H5,I5,r5,k2,e2,q5⟩=>?_))
  subst e2
  cases r5
  exact wpAny_truthy_bool ⟨H5,I5,q5⟩
def HE (K:PySem.W.Frag) (x:V) (H:Hp) (k:Bool):Prop :=
 match x with
 | .non=>k=false
 | .bl b=>k=b
 | .int i=>k=(i != 0)
 | .str y=>y.length≤sizeLine∧k=((y.length:Int) != 0)
 | .byt y=>y.size≤sizeLine∧k=((y.size:Int) != 0)
 | .ref p=>(∃ xs,SqL K H p xs∧k=!xs.isEmpty)∨(∃ xs,SqT K H p xs∧k=!xs.isEmpty)∨∃ kvs,H p=some (.dK kvs)∧k=!kvs.isEmpty
 | _=>False
theorem jf:(sizeLine:Nat) < 2 ^ 63:=by rw [sizeLine_eq]; decide
theorem rJ:OpR X (binaryOp .Add) (fun x y H Q=>∃ i j,x=.str i∧y=.str j∧i.length+j.length≤sizeLine∧Q (.str (i++j)) H):=by
 intro pins s σ H x y v u Q I rx ry h
 obtain ⟨i,j,rfl,rfl,hz,q⟩:=h
 obtain ⟨t,rfl⟩:=rx
 obtain ⟨t',rfl⟩:=ry
 exact add_str (fun t' tk=>⟨.str (i++j),H,I.tok _,⟨_,rfl⟩,q⟩) hz
theorem dB {x:V} {us:List Value} (r:Vals [x] us):∃ u,us=[u]∧RelV x u:=by
 cases r with
 | cons r1 r2=>cases r2; exact ⟨_,rfl,r1⟩
theorem rk {x y:V} {us:List Value} (r:Vals [x,y] us):∃ u w',us=[u,w']∧RelV x u∧RelV y w':=by
 cases r with
 | cons r1 r2 =>
  cases r2 with
  | cons r3 r4=>cases r4; exact ⟨_,_,rfl,r1,r3⟩
theorem call_abs:CallR X (.builtin "abs") (fun xs H Q=>∃ i,xs=[.int i]∧Q (.int (if i < 0 then -i else i)) H):=by
 intro pins s σ H xs us Q I r h
 obtain ⟨i,rfl,q⟩:=h
 obtain ⟨u,rfl,t,rfl⟩:=dB r
 exact call_abs_int fun u tk=>⟨.int (if i < 0 then -i else i),H,I.tok _,⟨_,rfl⟩,q⟩
theorem uj (hc:X.calm=true):CallR X (.builtin "min") (fun xs H Q=>∃ i j,xs=[.int i,.int j]∧Q (.int (if j < i then j else i)) H):=by
 intro pins s σ H xs us Q I r h
 obtain ⟨i,j,rfl,q⟩:=h
 obtain ⟨u,w',rfl,⟨t,rfl⟩,⟨t',rfl⟩⟩:=rk r
 refine min_two_ints (I.ok.hd hc) fun h' tk k=>⟨_,H,I.kept k,?_,q⟩
 by_cases hj:j < i
 ·rw [if_pos hj,if_pos hj]; exact ⟨_,rfl⟩
 ·rw [if_neg hj,if_neg hj]; exact ⟨_,rfl⟩
def Gm (K:PySem.W.Frag) (x:V) (H:Hp) (n:Nat):Prop :=
 match x with
 | .str y=>y.length≤sizeLine∧n=y.length
 | .byt y=>y.size≤sizeLine∧n=y.size
 | .ref p=>(∃ xs,SqL K H p xs∧n=xs.length)∨∃ xs,SqT K H p xs∧n=xs.length
 | _=>False
theorem vp:CallR X (.builtin "len") (fun xs H Q=>∃ x n,xs=[x]∧Gm X.K x H n∧Q (.int n) H):=by
 intro pins s σ H xs us Q I r h
 obtain ⟨x,n,rfl,e,q⟩:=h
 obtain ⟨u,rfl,rx⟩:=dB r
 have hl:=jf
 have hs:sizeLine=16777216:=sizeLine_eq
 cases x with
 | str y =>
  obtain ⟨t,rfl⟩:=rx
  obtain ⟨hy,e'⟩:y.length≤sizeLine∧n=y.length:=e
  subst e'
  exact len_str (by omega) ⟨.int _,H,I.tok _,⟨_,rfl⟩,q⟩
 | byt y =>
  obtain ⟨t,rfl⟩:=rx
  obtain ⟨hy,e'⟩:y.size≤sizeLine∧n=y.size:=e
  subst e'
  exact PySem.W.len_bytes (by omega) ⟨.int _,H,I.tok _,⟨_,rfl⟩,q⟩
 | ref p =>
  cases rx
  have e':(∃ xs,SqL X.K H p xs∧n=xs.length)∨∃ xs,SqT X.K H p xs∧n=xs.length:=e
  rcases e' with ⟨xs,hx,e'⟩ | ⟨xs,hx,e'⟩
  ·subst e'
   obtain ⟨its,r',pl,hz⟩:=I.list hx
   have hlen:=r'.length
   exact Calls.call_len_list pl.isList (by simp only [List.size_toArray]; omega) ⟨.int xs.length,H,I.tok _,⟨_,by simp only [List.size_toArray]; rw [hlen]⟩,q⟩
  ·subst e'
   obtain ⟨its,r',pl,hz⟩:=I.tuple hx
   have hlen:=r'.length
   exact len_tuple pl (by simp only [List.size_toArray]; omega) ⟨.int xs.length,H,I.tok _,⟨_,by simp only [List.size_toArray]; rw [hlen]⟩,q⟩
 | _=>exact (show False from e).elim
end
end L2
namespace L2
open PySem PySem.Spec PyProof.Rows
structure ObjM (h:Heap) (x dx C:Addr) (mA:Str→Option Value):Prop where
 obj:h.get? x=some (PySem.W.instObj C dx)
 ns:h.Ns1 dx mA
 ne:dx≠x
theorem tj {h:Heap} {dx:Addr} {mA:Str→Option Value} (n:h.Ns1 dx mA):∃ od,h.get? dx=some od∧∀ name,PySem.W.lookIn name od=some (mA name):=by
 obtain ⟨o,es,ep,ho,hd,hk,_,hm⟩:=n
 refine ⟨o,ho,fun name=>?_⟩
 have e:=hm name
 unfold nsFind findBy at e
 rw [← Array.find?_toList] at e
 unfold PySem.W.lookIn
 rw [hd]
 dsimp only
 split
 ·rename_i y q
  rw [q] at e
  exact congrArg some e
 ·rename_i q
  rw [q] at e
  have a:es.toList.any (·.refKey)=false:=by
   rw [List.any_eq_false]
   intro y hy
   obtain ⟨z,t,hkey⟩:=hk y (Array.mem_toList_iff.mp hy)
   simp [DictEntry.refKey,hkey]
  have a':¬ es.toList.any (·.refKey)=true:=by rw [a]; exact Bool.false_ne_true
  rw [if_neg a']
  exact congrArg some e
theorem ObjM.look {h:Heap} {x dx C:Addr} {mA:Str→Option Value} (I:ObjM h x dx C mA):∃ od,PySem.W.InstAt h x (PySem.W.instObj C dx) C (some od)∧∀ name,PySem.W.lookIn name od=some (mA name) :=
 let ⟨od,ho,hl⟩:=tj I.ns
 ⟨od,⟨I.obj,rfl,rfl,ho⟩,hl⟩
section
variable {prog:Program} {w:World} {A:Around} {E:Value→Shared→Prop} {s:Shared} {K:PySem.W.Frag} {x dx C f:Addr} {mA:Str→Option Value} {name:Str} {v:Value}
end
section
variable {P:Program} {w:World} {H H':Hp} {h h':Heap} {a C dx:Addr} {fs fs':List (Str × V)}
theorem BK (hok:HOk P w H h) (e:H a=some (.ins C dx fs)):∃ mA,ObjM h a dx C mA∧(∀ f,vy (fs.lookup f) (mA f))∧PySem.Within mA (fs.map (·.1))∧fs.length≤1000∧H dx=some (.own a):=by
 obtain ⟨d,z,ne,ob,mA,n,r,q⟩:=(show ObjOk P w H h a (.ins C dx fs) from hok a _ e)
 exact ⟨mA,⟨ob,n,ne⟩,r,q,z,d⟩
end
structure Cls (K:PySem.W.Frag) (C:Addr):Prop where
 pg:PySem.W.plainGet K C Str.empty=true
 hd:PySem.W.hasDictIn K C=true
 po:PySem.W.plainOver K C=true
 sa:PySem.W.findIn K (.ref C) "__setattr__"=some (some (.builtin "object.__setattr__"))
theorem Cls.get {K:PySem.W.Frag} {C:Addr} (c:Cls K C) (f:Str):PySem.W.plainGet K C f=true:=c.pg
section
variable {X:Cx} {pins:List (Addr × Obj)} {σ:St} {H:Hp} {s:Shared} {a C dx:Addr} {fs:List (Str × V)} {f:Str} {v:V} {A:Around} {E:Value→Shared→Prop}
end
section
variable {X:Cx} {o e value:Expr} {f:Str} {pos pos' tpos:Pos} {ta tv:TE}
end
section
variable {X:Cx} {pins:List (Addr × Obj)} {σ:St} {H:Hp} {s:Shared} {A:Around} {E:Value→Shared→Prop} {Q:Value→Shared→Prop} {c:Value} {b:Bool}
inductive TyOf (K:PySem.W.Frag) (H:Hp):V→Value→Prop where
 | non:TyOf K H .non (.type "NoneType")
 | bl (x:Bool):TyOf K H (.bl x) (.type "bool")
 | int (i:Int):TyOf K H (.int i) (.type "int")
 | str (x:Str):TyOf K H (.str x) (.type "str")
 | flt (x:UInt64):TyOf K H (.flt x) (.type "float")
 | lst {a:Addr} {xs:List V} (e:H a=some (.lst xs)):TyOf K H (.ref a) (.type "list")
 | frz {a:Addr} {o:Obj} {xs:List V} (e:H a=some (.frz o (.lst xs))):TyOf K H (.ref a) (.type "list")
 | tup {a:Addr} {xs:List V} (e:H a=some (.tup xs)):TyOf K H (.ref a) (.type "tuple")
 | dK {a:Addr} {kvs:List (Key × V)} (e:H a=some (.dK kvs)):TyOf K H (.ref a) (.type "dict")
 | dT {a:Addr} {kvs:List (List Key × V)} (e:H a=some (.dT kvs)):TyOf K H (.ref a) (.type "dict")
 | ins {a C dx:Addr} {fs:List (Str × V)} (e:H a=some (.ins C dx fs)) (cl:Cls K C) (ha:PySem.W.findIn K (.ref C) "__class__"=some (some (.builtin "object.__class__")))
   (hn:PySem.W.specialIn K (.builtin "object.__class__") "__get__"=some (some (.builtin "getset_descriptor.__get__"))) (htk:PySem.W.takesIn K (.builtin "object.__class__")=some true)
   (hm:PySem.W.mroIn K C (.type "object")=some true):TyOf K H (.ref a) (.ref C)
theorem tJ {x:V} {u t:Value} (I:Inv X pins σ H s) (rx:RelV x u) (ty:TyOf X.K H x t) (e:PySem.W.kitOne X.K t c=some b) (h:∀ tk,Q (.bool b) { s with toks:=tk }) :
  wpAny (model X.prog X.w) A (call (.builtin "isinstance") [u,c]) Q E s:=by
 cases ty with
 | non=>cases (show u=Value.none from rx); exact PySem.W.kia_one PySem.W.kitx_none I.kIn True.intro e (fun z=>nomatch z) h
 | bl y=>cases (show u=Value.bool y from rx); exact PySem.W.kia_one PySem.W.kitx_bool I.kIn True.intro e (fun z=>nomatch z) h
 | int i=>obtain ⟨t,q⟩:=(show ∃ t,u=Value.int i t from rx); cases q; exact PySem.W.kia_one PySem.W.kitx_int I.kIn True.intro e (fun z=>nomatch z) h
 | str y=>obtain ⟨t,q⟩:=(show ∃ t,u=Value.str y t from rx); cases q; exact PySem.W.kia_one PySem.W.kitx_str I.kIn True.intro e (fun z=>nomatch z) h
 | flt y=>obtain ⟨t,q⟩:=(show ∃ t,u=Value.float y t from rx); cases q; exact PySem.W.kia_one PySem.W.kitx_float I.kIn True.intro e (fun z=>nomatch z) h
 | @lst a xs ea =>
  cases (show u=Value.ref a from rx)
  obtain ⟨_,_,n,_,h1⟩:=(show ObjOk X.prog X.w H s.heap a (.lst xs) from I.hok a _ ea)
  exact PySem.W.kia_one PySem.W.kitx_list I.kIn ⟨_,h1,rfl⟩ e (fun z=>nomatch z) h
 | @frz a ob xs ea =>
  cases (show u=Value.ref a from rx)
  obtain ⟨_,_,_,n,_,h1⟩:=(show ObjOk X.prog X.w H s.heap a (.frz ob (.lst xs)) from I.hok a _ ea)
  exact PySem.W.kia_one PySem.W.kitx_list I.kIn ⟨_,h1,rfl⟩ e (fun z=>nomatch z) h
 | @tup a xs ea =>
  cases (show u=Value.ref a from rx)
  obtain ⟨_,_,_,p⟩:=(show ObjOk X.prog X.w H s.heap a (.tup xs) from I.hok a _ ea)
  obtain ⟨o,h1,h2,_⟩:=p
  exact PySem.W.kia_one PySem.W.kitx_tuple I.kIn ⟨o,h1,h2⟩ e (fun z=>nomatch z) h
 | @dK a kvs ea =>
  cases (show u=Value.ref a from rx)
  obtain ⟨_,_,vs,_,p⟩:=(show ObjOk X.prog X.w H s.heap a (.dK kvs) from I.hok a _ ea)
  obtain ⟨o,es,ep,h1,h2,_⟩:=p
  exact PySem.W.kia_one PySem.W.kitx_dict I.kIn ⟨o,h1,h2.1⟩ e (fun z=>nomatch z) h
 | @dT a kvs ea =>
  cases (show u=Value.ref a from rx)
  obtain ⟨_,_,xs,_,o,es,ep,h1,h2,_⟩:=(show ObjOk X.prog X.w H s.heap a (.dT kvs) from I.hok a _ ea)
  exact PySem.W.kia_one PySem.W.kitx_dict I.kIn ⟨o,h1,h2.1⟩ e (fun z=>nomatch z) h
 | @ins a C dx fs ea cl ha hn htk hm =>
  cases (show u=Value.ref a from rx)
  obtain ⟨mA,O,_⟩:=BK I.hok ea
  obtain ⟨od,J,_⟩:=O.look
  exact PySem.W.kia_one (PySem.W.kitx_own (cl.get _) cl.hd ha hn htk hm) I.kIn J e (fun z=>nomatch z) h
end
end L2
namespace L2
open PySem PySem.Spec PyProof.Rows
structure Room (k:Nat) (A:Around):Prop where
 hd:A.handled=none
 dp:A.depth+3 * k+5 < recursionLimit
 un:A.units+16 * k+200 < cLine
 gd:A.guards=some []
theorem Room.mono {j k:Nat} {A:Around} (r:Room k A) (h:j≤k):Room j A:=⟨r.hd,by have:=r.dp; omega,by have:=r.un; omega,r.gd⟩
theorem Room.deeper {k:Nat} {A:Around} (r:Room (k+1) A) (env:Env):Room k (A.deeper env) :=
 ⟨r.hd,by have:=r.dp; show A.depth+1+3 * k+5 < _; omega,by have:=r.un; show A.units+3+16 * k+200 < _; omega,r.gd⟩
theorem Room.depth {k:Nat} {A:Around} (r:Room k A):A.depth < recursionLimit:=by have:=r.dp; omega
theorem Room.units {k:Nat} {A:Around} (r:Room k A):A.units+64 < cLine:=by have:=r.un; omega
def rq:TA:=fun _ H Q=>Q [] H
def mr (ta:TE) (tr:TA):TA:=fun σ H Q=>ta σ H fun x H1=>tr σ H1 fun xs H2=>Q (x :: xs) H2
section
variable {X:Cx} {e:Expr} {es:List Expr} {te:TE} {t:TA} {pos:Pos}
theorem pa_nil:PA X [] rq:=fun _ _ _ _ H Q I h=>Calls.spliced_nil ⟨[],H,I,.nil,h⟩
theorem ft (ha:PE X e te) (hr:PA X es t) (hs:starEach (e :: es) X.env=(false,eval e X.env) :: starEach es X.env:=by rfl):PA X (e :: es) (mr te t):=by
 intro pos pins s σ H Q I h
 rw [hs]
 show wpAny _ _ (spliced ((false,eval e X.env) :: backTo pos (starEach es X.env))) _ _ s
 refine Calls.spliced_cons (thn (ha pins s σ H _ I h) fun u s1 ⟨x,H1,I1,r1,q1⟩=>?_)
 exact thn (hr pos pins s1 σ H1 _ I1 q1) fun us s2 ⟨xs,H2,I2,r2,q2⟩=>⟨x :: xs,H2,I2,.cons r1 r2,q2⟩
def Ei (t:TA):TE:=fun σ H Q=>t σ H fun xs H1=>xs.length≤sizeLine∧∀ p,H1 p=none→Q (.ref p) (upd H1 p (.tup xs))
def Eo (t:TA):TE:=fun σ H Q=>t σ H fun xs H1=>xs.length≤sizeLine∧∀ p,H1 p=none→Q (.ref p) (upd H1 p (.lst xs))
theorem EO {x1} (h:PA X es t):PE X (.Tuple es x1 pos) (Ei t):=by
 intro pins s σ H Q I hq
 refine wpAny_Tuple_spliced (thn (h pos pins s σ H _ I hq) fun us s1 ⟨xs,H1,I1,r,z,q⟩=>⟨by rw [← r.length]; exact z,?_⟩)
 have hf:H1 s1.heap.objs.size=none:=I1.hok.fresh (Nat.le_refl _)
 refine ⟨.ref s1.heap.objs.size,upd H1 s1.heap.objs.size (.tup xs),I1.laid (t':=s1.toks) (fun b u e=>Heap.get?_push_of_some _ e) (Nat.le_refl _) ?_,rfl,q _ hf⟩
 exact ⟨z,us,r,⟨_,Heap.get?_push_size _ rfl,rfl,_,rfl,rfl⟩⟩
theorem ES (h:PA X es t):PE X (.List es pos) (Eo t):=by
 intro pins s σ H Q I hq
 refine wpAny_List_spliced (thn (h pos pins s σ H _ I hq) fun us s1 ⟨xs,H1,I1,r,z,q⟩=>⟨by rw [← r.length]; exact z,?_⟩)
 have hf:H1 s1.heap.objs.size=none:=I1.hok.fresh (Nat.le_refl _)
 refine ⟨.ref s1.heap.objs.size,upd H1 s1.heap.objs.size (.lst xs),I1.laid (t':=s1.toks) (fun b u e=>Heap.get?_push_of_some _ e) (Nat.le_refl _) ?_,rfl,q _ hf⟩
 exact ⟨z,us,0,r,Heap.get?_push_size _ rfl⟩
end
abbrev Sp:=List V→Hp→VK→XK→Prop
abbrev CXT:=List Env→Hp→Shared→XK→Value→Shared→Prop
structure Env0 (P:Program) (w:World) (K:PySem.W.Frag) (mg:Str→Option Value) (base:Heap) (A:Around) (outer:List Env) (s:Shared) (H:Hp):Prop where
 frames:A.frames=some outer
 mod:Mod K mg base
 bs:∀ b o,base.get? b=some o→s.heap.get? b=some o∧H b=none
 bsz:base.objs.size≤s.heap.objs.size
 funs:s.heap.FunFrames base outer
 frf:∀ b∈frs outer,H b=none
 hok:HOk P w H s.heap
 bare:AllBare s.gens
def CE (outer:List Env) (P:Program) (w:World) (H:Hp) (s:Shared) (Q:VK) (u:Value) (s':Shared):Prop :=
 ∃ v H',s'.os=s.os∧AllBare s'.gens∧Un (frs outer) [] H H' s.heap s'.heap∧HOk P w H' s'.heap∧RelV v u∧Q v H'
def CR (CX:CXT) (outer:List Env) (P:Program) (w:World) (H:Hp) (s:Shared) (Q:VK) (E:XK) (r:Result) (s':Shared):Prop :=
 match r with
 | .ok (.ret u)=>CE outer P w H s Q u s'
 | .ok _=>False
 | .error e=>CX outer H s E e s'
structure FnOk (P:Program) (w:World) (K:PySem.W.Frag) (mg:Str→Option Value) (base:Heap) (CX:CXT) (k:Nat) (f:Addr) (fd:FuncData) (ps:List Str) (sp:Sp):Prop where
 len:∀ vs H Q E,sp vs H Q E→vs.length=ps.length
 run:∀ (A:Around) (outer:List Env) (s:Shared) (H:Hp) (args:Args) (us:List Value) (vs:List V) (Q:VK) (E:XK),Room k A→Env0 P w K mg base A outer s H→BindsTo s fd args (ps.zip us)→Vals vs us→sp vs H Q E →
  codeAny (model P w) A (.call (.ref f) args) (CR CX outer P w H s Q E) s
theorem FnOk.mono {P:Program} {w:World} {K:PySem.W.Frag} {mg:Str→Option Value} {base:Heap} {CX:CXT} {j k:Nat} {f:Addr} {fd:FuncData} {ps:List Str} {sp:Sp} (F:FnOk P w K mg base CX j f fd ps sp) (h:j≤k) :
  FnOk P w K mg base CX k f fd ps sp:=⟨F.len,fun A outer s H args us vs Q E hr=>F.run A outer s H args us vs Q E (hr.mono h)⟩
theorem FnOk.imp {P:Program} {w:World} {K:PySem.W.Frag} {mg:Str→Option Value} {base:Heap} {CX:CXT} {k:Nat} {f:Addr} {fd:FuncData} {ps:List Str} {sp sp':Sp} (F:FnOk P w K mg base CX k f fd ps sp)
  (h:∀ vs H Q E,sp' vs H Q E→sp vs H Q E):FnOk P w K mg base CX k f fd ps sp' :=
 ⟨fun vs H Q E q=>F.len vs H Q E (h _ _ _ _ q),fun A outer s H args us vs Q E hr he hb hv hs=>F.run A outer s H args us vs Q E hr he hb hv (h _ _ _ _ hs)⟩
section
variable {X:Cx} {pins:List (Addr × Obj)} {σ:St} {H:Hp} {s s':Shared}
theorem Inv.env0 (I:Inv X pins σ H s):Env0 X.prog X.w X.K X.mg X.base X.A X.stack s H :=
 ⟨I.ok.frames,I.ok.mod,I.bs,Nat.le_trans I.ok.bsz I.sz,I.stack,I.stkFree,I.hok,I.bare⟩
theorem Inv.after {Q:VK} {u:Value} (I:Inv X pins σ H s) (h:CE X.stack X.prog X.w H s Q u s'):EP X pins σ Q u s':=by
 obtain ⟨v,H',os,bare,un,hok,r,q⟩:=h
 obtain ⟨hh,g,d,t,os'⟩:=s'
 obtain rfl:os'=s.os:=os
 exact ⟨v,H',I.call (h':=hh) (g':=g) (d':=d) (t':=t) (ch:=[]) un hok bare (fun b z=>absurd z (by simp)),r,q⟩
end
def rz (sp:Sp) (dvs:List V) (E:XK) (t:TA):TE:=fun σ H Q=>t σ H fun vs H1=>sp (vs++dvs) H1 Q E
def Binds (K:PySem.W.Frag) (fd:FuncData) (ps:List Str) (ds:List Value):Prop :=
 ∀ (s:Shared) (us:List Value),K.In s.heap→(us++ds).length=ps.length→BindsTo s fd ⟨us,[]⟩ (ps.zip (us++ds))
theorem Binds.all {K:PySem.W.Frag} {fd:FuncData} {ps:List Str} (h:∀ us:List Value,us.length=ps.length→bindArgs fd ⟨us,[]⟩=pure (ps.zip us)):Binds K fd ps []:=fun s us _ hl=>by
 rw [List.append_nil] at hl ⊢
 exact .of_eq (h us hl)
def qf (CX:CXT) (X:Cx) (E:XK):Prop:=∀ (pins:List (Addr × Obj)) (σ:St) (H:Hp) (s:Shared) (e:Value) (s':Shared),Inv X pins σ H s→CX X.stack H s E e s'→X.xe e s'
section
variable {X:Cx} {CX:CXT} {k:Nat} {f C:Addr} {fd:FuncData} {ps:List Str} {sp:Sp} {dvs:List V} {ds:List Value} {E:XK} {x m:Str} {p pos apos:Pos} {e o:Expr} {es:List Expr} {ta:TE} {t:TA}
theorem Ev {pins:List (Addr × Obj)} {σ:St} {H:Hp} {s:Shared} {Q:VK} {us:List Value} {vs:List V} (F:FnOk X.prog X.w X.K X.mg X.base CX k f fd ps sp) (hr:Room k X.A) (hb:Binds X.K fd ps ds) (hd:Vals dvs ds) (hx:qf CX X E)
  (I:Inv X pins σ H s) (r:Vals vs us) (h:sp (vs++dvs) H Q E):wpAny (model X.prog X.w) X.A (call (.ref f) us) (EP X pins σ Q) X.xe s:=by
 have r2:Vals (vs++dvs) (us++ds):=r.append hd
 have hl:(us++ds).length=ps.length:=by rw [← r2.length]; exact F.len _ _ _ _ h
 refine wpAny_call (codeAny_mono (F.run X.A X.stack s H ⟨us,[]⟩ (us++ds) (vs++dvs) Q E hr I.env0 (hb s us I.kIn hl) r2 h) fun r s' hq=>?_)
 cases r with
 | error e=>exact hx pins σ H s e s' I hq
 | ok fl =>
  cases fl with
  | ret u=>exact I.after hq
  | next=>exact False.elim hq
  | brk=>exact False.elim hq
  | cont=>exact False.elim hq
theorem By (F:FnOk X.prog X.w X.K X.mg X.base CX k f fd ps sp) (hr:Room k X.A) (hg:Gl X x) (hm:X.mg x=some (.ref f)) (hk:PySem.W.keepIn X.K (.ref f)=true) (hb:Binds X.K fd ps ds) (hd:Vals dvs ds) (hx:qf CX X E)
  (ha:PA X (e :: es) t) (hdb:(x == ("__debug__" : Str))=false:=by decide) (he:starEach (e :: es) X.env=(false,eval e X.env) :: starEach es X.env:=by rfl) (hpl:(backTo pos (starEach es X.env)).any (·.1)=false:=by rfl) :
  PE X (.Call (.Name x p) (e :: es) [] pos) (rz sp dvs E t):=by
 intro pins s σ H Q I h
 refine wpAny_Call_Name_kw (qQ I hg hm ?_ hdb)
 refine PySem.W.callWith_K (h₀:=X.base) I.ok.mod.kin hk (thn (ha pos pins s σ H _ I h) fun us s1 ⟨vs,H1,I1,r,q⟩=>⟨I1.kIn,?_⟩) he hpl
 exact Ev F hr hb hd hx I1 r q
end
section
variable {X:Cx} {CX:CXT} {k:Nat} {f C:Addr} {fd:FuncData} {ps ks:List Str} {sp:Sp} {E:XK} {x m:Str} {p pos apos kpos:Pos} {e o:Expr} {es:List Expr} {kws:List Keyword} {te ta:TE} {t tk:TA} {nm:Option Str}
variable {g:List Value→List Value→List Value} {gV:List V→List V→List V}
end
structure FnScope (N P:List Str) (sc:Scope):Prop where
 kind:sc.kind=.function
 co:sc.isCoroutine=false
 gen:sc.isGenerator=false
 nd:N.Nodup
 pre:N.take P.length=P
 par:∀ x∈P,sc.names.lookup x=some .local∨sc.names.lookup x=some .cell
 nofree:∀ y∈sc.names,y.2≠.free
theorem oC {kindOf:Str→Option NameKind} {x:Str}:∀ {binds:List (Str × Value)} {m:Str→Option Value},(∀ v,(x,v) ∉ binds)→bindL kindOf binds m x=m x
 | [],_,_=>rfl
 | (n,v) :: r,m,h=>by
  unfold bindL
  rw [oC fun w hw=>h w (List.mem_cons_of_mem _ hw)]
  split
  ·have:x≠n:=by rintro rfl; exact h v List.mem_cons_self
   simp [this]
  ·rfl
theorem oF {kindOf:Str→Option NameKind} {x:Str}:∀ {binds:List (Str × Value)} {m:Str→Option Value},(∀ v,(x,v) ∉ binds)→bindC kindOf binds m x=m x
 | [],_,_=>rfl
 | (n,v) :: r,m,h=>by
  unfold bindC
  rw [oF fun w hw=>h w (List.mem_cons_of_mem _ hw)]
  split
  ·rfl
  ·have:x≠n:=by rintro rfl; exact h v List.mem_cons_self
   simp [this]
theorem oE {kindOf:Str→Option NameKind} {x:Str} {v:Value}:∀ {P:List Str} {vs:List Value} {i:Nat} {m:Str→Option Value},P.Nodup→P[i]?=some x→vs[i]?=some v→kindOf x=some .local →
  bindL kindOf (P.zip vs) m x=some v
 | [],_,_,_,_,h,_,_=>by simp at h
 | _ :: _,[],_,_,_,_,h,_=>by simp at h
 | p :: P,w :: vs,0,m,nd,h1,h2,hk=>by
  simp at h1 h2; subst h1; subst h2
  show bindL kindOf ((p,w) :: P.zip vs) m p=_
  unfold bindL
  rw [oC fun v hv=>(List.nodup_cons.mp nd).1 (List.of_mem_zip hv).1,if_pos hk]
  simp
 | p :: P,w :: vs,i+1,m,nd,h1,h2,hk=>by
  show bindL kindOf ((p,w) :: P.zip vs) m x=_
  unfold bindL
  exact oE (i:=i) (List.nodup_cons.mp nd).2 (by simpa using h1) (by simpa using h2) hk
theorem oG {kindOf:Str→Option NameKind} {x:Str} {v:Value}:∀ {P:List Str} {vs:List Value} {i:Nat} {m:Str→Option Value},P.Nodup→P[i]?=some x→vs[i]?=some v→kindOf x≠some .local →
  bindC kindOf (P.zip vs) m x=some v
 | [],_,_,_,_,h,_,_=>by simp at h
 | _ :: _,[],_,_,_,_,h,_=>by simp at h
 | p :: P,w :: vs,0,m,nd,h1,h2,hk=>by
  simp at h1 h2; subst h1; subst h2
  show bindC kindOf ((p,w) :: P.zip vs) m p=_
  unfold bindC
  rw [oF fun v hv=>(List.nodup_cons.mp nd).1 (List.of_mem_zip hv).1,if_neg hk]
  simp
 | p :: P,w :: vs,i+1,m,nd,h1,h2,hk=>by
  show bindC kindOf ((p,w) :: P.zip vs) m x=_
  unfold bindC
  exact oG (i:=i) (List.nodup_cons.mp nd).2 (by simpa using h1) (by simpa using h2) hk
def ey (N:List Str) (vs:List V):St:=vs.map some++List.replicate (N.length - vs.length) none
def lR (CX:CXT) (P:Program) (w:World) (K:PySem.W.Frag) (mg:Str→Option Value) (base:Heap) (N:List Str) (qual:Str) (scope:Scope) (f:Addr) (cd:Value) (A:Around) (outer:List Env) (s:Shared) (H:Hp) (E:XK):Cx where
 prog:=P
 w:=w
 K:=K
 mg:=mg
 base:=base
 A:=A.deeper (envOfC qual scope s.heap.objs.size f cd)
 N:=N
 s₀:=s
 H₀:=H
 env:=envOfC qual scope s.heap.objs.size f cd
 outer:=outer
 stack:=envOfC qual scope s.heap.objs.size f cd :: outer
 ex:=[]
 calm:=true
 fn:=fun _=>true
 pn:=[]
 xe:=fun e s'=>wpAny (model P w) (A.deeper (envOfC qual scope s.heap.objs.size f cd)) (leaving (envOfC qual scope s.heap.objs.size f cd) e) (fun _ s''=>CX outer H s E e s'') (fun e' s''=>CX outer H s E e' s'') s'
theorem p7 {sc:Scope} {n:Nat} {x:Str} (h:sc.names.lookup x=some .cell):∃ c,(cellsFrom n sc.names []).lookup x=some c:=by
 have q:=PySem.W.cellsFrom_some sc.names n [] (.inl h)
 exact Option.isSome_iff_exists.mp q
theorem tK {CX:CXT} {P:Program} {w:World} {K:PySem.W.Frag} {mg:Str→Option Value} {base:Heap} {N ps:List Str} {qual:Str} {scope:Scope} {f:Addr} {cd:Value} {A:Around} {outer:List Env} {s s1:Shared} {H:Hp} {E:XK} {us:List Value} {vs:List V}
  (S:FnScope N ps scope) (hd:A.handled=none) (e0:Env0 P w K mg base A outer s H) (hl:vs.length=ps.length) (r:Vals vs us)
  (x:InCallC s s.heap.objs.size (bindL (envOfC qual scope s.heap.objs.size f cd).kindOf (ps.zip us) fun _=>none) (cellsFrom (s.heap.objs.size+1) scope.names []) (bindC (envOfC qual scope s.heap.objs.size f cd).kindOf (ps.zip us) fun _=>none) s1) :
  Inv (lR CX P w K mg base N qual scope f cd A outer s H E) [] (ey N vs) H s1:=by
 have hpl:ps.length≤N.length:=by have:=congrArg List.length S.pre; rw [List.length_take] at this; omega
 obtain ⟨h1,tk,rfl,hk⟩:=x.done
 have noA:∀ b:Addr,b ∉ (lR CX P w K mg base N qual scope f cd A outer s H E).ex:=fun b z=>absurd (show b∈([]:List Addr) from z) (by simp)
 refine ⟨⟨e0.mod,S.kind,rfl,rfl,Nat.le_refl _,fun y z c h1 h2=>?_,fun y hy=>?_,fun y c _ h=>?_,fun _=>hd,Around.frames_deeper e0.frames,.inr ⟨rfl,rfl⟩,fun b z=>absurd z (noA b),e0.bs,e0.bsz,fun b _ _=>noA b,fun b z=>absurd z (noA b),e0.funs,e0.frf⟩,
  rfl,e0.bare,Un.kept hk,⟨_,x.toInCall.ns,fun i y v h1 h2 h3=>?_⟩,fun y c h=>⟨_,x.cell y c h⟩,e0.hok.fresh (Nat.le_refl _),fun y c h=>?_,fun p hp=>absurd (show p∈([]:List (Addr × Obj)) from hp) (by simp),e0.hok.kept hk,?_⟩
 ·exact name_of_addr x.apart (PySem.mem_of_lookup h1) (PySem.mem_of_lookup h2)
 ·have hy:scope.names.lookup y=some .cell∨scope.names.lookup y=some .free:=hy
  rcases hy with hy | hy
  ·exact p7 hy
  ·exact absurd rfl (S.nofree _ (PySem.mem_of_lookup hy))
 ·exact Nat.le_of_lt (x.above y c (PySem.mem_of_lookup h))
 ·have hi:i < vs.length:=by
   unfold ey at h2
   by_cases hi:i < vs.length
   ·exact hi
   ·rw [List.getElem?_append_right (by simpa using hi)] at h2
    rw [List.getElem?_replicate] at h2
    split at h2 <;> cases h2
  have ha:vs[i]?=some v:=by
   unfold ey at h2
   rw [List.getElem?_append_left (by simpa using hi),List.getElem?_map] at h2
   cases e:vs[i]? with
   | none=>rw [e] at h2; cases h2
   | some a=>rw [e] at h2; cases h2; rfl
  obtain ⟨u,hu,rv⟩:=r.get ha
  have hp:ps[i]?=some y:=by
   rw [← S.pre,List.getElem?_take_of_lt (by omega)]; exact h1
  have ndP:ps.Nodup:=by rw [← S.pre]; exact S.nd.sublist (List.take_sublist _ _)
  refine ⟨u,rv,?_⟩
  rcases S.par y (List.mem_of_getElem? hp) with k | k
  ·exact .inl ⟨k,oE ndP hp hu k⟩
  ·obtain ⟨c,e⟩:=p7 (n:=s.heap.objs.size+1) k
   refine .inr ⟨.inl k,c,e,?_⟩
   have q:=x.cell y c e
   rw [oG ndP hp hu (by show scope.names.lookup y≠_; rw [k]; decide)] at q
   exact q
 ·exact e0.hok.fresh (Nat.le_of_lt (x.above y c (PySem.mem_of_lookup h)))
 ·unfold ey
  show _=N.length
  rw [List.length_append,List.length_map,List.length_replicate]
  omega
theorem GP {CX:CXT} {P:Program} {w:World} {K:PySem.W.Frag} {mg:Str→Option Value} {base:Heap} {k:Nat} {f:Addr} {name qual:Str} {params:Arguments} {body:List Stmt} {scope:Scope} {dV kV doc pm cdv ct oc:Value} {an od:Option Addr}
  {osl:Array (Option Value)} {N ps:List Str} {sp:Sp} (lk:K.lookup f=some ⟨oc,od,.func (PySem.W.fnOf name qual params body scope dV kV doc pm an cdv ct),osl⟩) (hcd:PySem.W.codeIn K cdv qual=true) (S:FnScope N ps scope)
  (len:∀ vs H Q E,sp vs H Q E→vs.length=ps.length)
  (hbody:∀ (A:Around) (outer:List Env) (s:Shared) (H:Hp) (vs:List V) (Q:VK) (E:XK),Room k (A.deeper (envOfC qual scope s.heap.objs.size f cdv))→sp vs H Q E →
   ∃ t,PSs (lR CX P w K mg base N qual scope f cdv A outer s H E) body t∧t { nx:=fun _ H'=>Q .non H',rt:=Q } (ey N vs) H) :
  FnOk P w K mg base CX (k+1) f (PySem.W.fnOf name qual params body scope dV kV doc pm an cdv ct) ps sp:=by
 refine ⟨len,fun A outer s H args us vs Q E hr e0 hb r hsp=>?_⟩
 have hl:=len _ _ _ _ hsp
 have KX:K.In s.heap:=e0.mod.kin.keeps fun b o e=>(e0.bs b o e).1
 have lim:s.heap.NoLimit:=e0.mod.nolimit.keeps fun b o e=>(e0.bs b o e).1
 have hkind:∀ y∈ps.zip us,scope.names.lookup y.1=some .local∨(scope.names.lookup y.1=some .cell∧((cellsFrom (s.heap.objs.size+1) scope.names []).lookup y.1).isSome=true):=fun ⟨n,v⟩ hy=>by
  rcases S.par n (List.of_mem_zip hy).1 with q | q
  ·exact .inl q
  ·exact .inr ⟨q,PySem.W.cellsFrom_some _ _ _ (.inl q)⟩
 refine codeAny_call_function hr.depth (KX _ _ lk) rfl S.co S.gen rfl (PySem.W.codeRec_of KX hcd) (hb _ _ _ _ ?_)
 refine wpAny_newFunctionEnv_cells S.kind hkind fun env he s1 x=>?_
 subst he
 refine ⟨lim.keeps x.toInCall.keep,codeAny_func ?_⟩
 obtain ⟨t,ht,hq⟩:=hbody A outer s H vs Q E (hr.deeper _) hsp
 have I:Inv (lR CX P w K mg base N qual scope f cdv A outer s H E) [] (ey N vs) H s1:=tK S hr.hd e0 hl r x
 refine wpAny_mono (ht [] s1 (ey N vs) H _ I hq) (fun fl s' hs=>?_) fun e s' hs=>hs
 have fin:∀ {σ':St} {H':Hp} {v:V} {u:Value},Inv (lR CX P w K mg base N qual scope f cdv A outer s H E) [] σ' H' s'→RelV v u→Q v H'→CE outer P w H s Q u s' :=
  fun {σ' H' v u} J rv q=>⟨v,H',J.os,J.bare,J.base,J.hok,rv,q⟩
 cases fl with
 | ret u =>
  obtain ⟨v,σ',H',J,rv,q⟩:=hs
  exact fin J rv q
 | next =>
  obtain ⟨σ',H',J,q⟩:=hs
  exact fin (v:=V.non) (u:=Value.none) J rfl q
 | brk =>
  obtain ⟨_,_,_,q⟩:=hs
  exact False.elim q
 | cont =>
  obtain ⟨_,_,_,q⟩:=hs
  exact False.elim q
end L2
namespace L2
open PySem PySem.Spec PyProof.Rows
section
variable {X:Cx} {x:Str} {p pos:Pos} {e:Expr} {es:List Expr} {t:TA} {id T:String} {r:List V→Hp→VK→Prop}
def tCB (r:List V→Hp→VK→Prop) (t:TA):TE:=fun σ H Q=>t σ H fun vs H1=>r vs H1 Q
theorem lH (hc:CallR X (.builtin id) r) (hg:Gl X x) (hm:X.mg x=none) (hv:bootBuiltins x=some (.builtin id)) (ha:PA X (e :: es) t) (hn:x≠"__name__":=by decide) (hdb:(x == ("__debug__" : Str))=false:=by decide)
  (he:starEach (e :: es) X.env=(false,eval e X.env) :: starEach es X.env:=by rfl) (hpl:(backTo pos (starEach es X.env)).any (·.1)=false:=by rfl):PE X (.Call (.Name x p) (e :: es) [] pos) (tCB r t):=by
 intro pins s σ H Q I h
 refine wpAny_Call_Name_kw (jh I hg hm hv ?_ hn hdb)
 exact PyProof.Rows.callWith_builtin1 (thn (ha pos pins s σ H _ I h) fun us s1 ⟨vs,H1,I1,r1,q1⟩=>hc pins s1 σ H1 vs us Q I1 r1 q1) he hpl
theorem n6 (hc:CallR X (.type T) r) (hg:Gl X x) (hm:X.mg x=none) (hv:bootBuiltins x=some (.type T)) (ha:PA X (e :: es) t) (hn:x≠"__name__":=by decide) (hdb:(x == ("__debug__" : Str))=false:=by decide)
  (he:starEach (e :: es) X.env=(false,eval e X.env) :: starEach es X.env:=by rfl) (hpl:(backTo pos (starEach es X.env)).any (·.1)=false:=by rfl):PE X (.Call (.Name x p) (e :: es) [] pos) (tCB r t):=by
 intro pins s σ H Q I h
 refine wpAny_Call_Name_kw (jh I hg hm hv ?_ hn hdb)
 exact PyProof.Rows.callWith_type1 (thn (ha pos pins s σ H _ I h) fun us s1 ⟨vs,H1,I1,r1,q1⟩=>hc pins s1 σ H1 vs us Q I1 r1 q1) he hpl
end
end L2
namespace HT
open PySem PyProof.Rows
section
open PySem.SeqAt
open PySem.AutoSeq1 (wpAny_loadPart')
open PySem.MeetsSeq PySem.MeetsSeq2 PySem.MeetsSeq3
end
section
variable {prog:Program} {w:World} {A:Around} {E:Value→Shared→Prop} {s:Shared}
def sIx (n d:Nat):Option Int→Nat
 | none=>d
 | some v=>if v < 0 then (v+(n:Int)).toNat else min v.toNat n
theorem sIx_none (n d:Nat):sIx n d none=d:=rfl
theorem sIx_nat (n d k:Nat):sIx n d (some (k:Int))=min k n:=by
 show (if (k:Int) < 0 then ((k:Int)+(n:Int)).toNat else min (k:Int).toNat n)=min k n
 rw [if_neg (by omega),Int.toNat_natCast]
theorem pv (n d:Nat) (hd:d≤n) (o:Option Int):sIx n d o≤n:=by
 cases o with
 | none=>exact hd
 | some v =>
  show (if v < 0 then (v+(n:Int)).toNat else min v.toNat n)≤n
  by_cases hv:v < 0
  ·rw [if_pos hv]; omega
  ·rw [if_neg hv]; exact Nat.min_le_right _ _
theorem rd (v:Int) (n d:Nat):(if v < 0 then max (v+(n:Int)) 0 else min v (n:Int))=((sIx n d (some v):Nat):Int):=by
 show (if v < 0 then max (v+(n:Int)) 0 else min v (n:Int))=(((if v < 0 then (v+(n:Int)).toNat else min v.toNat n):Nat):Int)
 by_cases hv:v < 0
 ·simp only [if_pos hv]; omega
 ·simp only [if_neg hv]; omega
theorem sn (lo hi:Option Int) (n:Nat):Builtin.Slice.sliceAdjust lo hi 1 (n:Int)=(((sIx n 0 lo:Nat):Int),((sIx n n hi:Nat):Int)):=by
 have h1:¬ ((1:Int) < 0):=by omega
 unfold Builtin.Slice.sliceAdjust
 simp only [h1,if_false]
 refine Prod.ext ?_ ?_
 ·cases lo with
  | none=>rfl
  | some v=>exact rd v n 0
 ·cases hi with
  | none=>rfl
  | some v=>exact rd v n n
theorem rF (i j:Nat):Builtin.Slice.slicePlaces (i:Int) (j:Int) 1=j - i:=by
 unfold Builtin.Slice.slicePlaces
 have h1:(1:Int) > 0:=by omega
 simp only [h1,if_true,Int.ediv_one]
 split <;> omega
theorem mz {v:Value} {o:Option Int} {Q:Option Int→Shared→Prop} (p:IsPart v o) (h:Q o s):wpAny (model prog w) A (Builtin.Slice.slicePartIndex v) Q E s:=by
 cases p with
 | none=>exact slicePart_none h
 | int i t=>exact slicePart_int h
theorem lC {sl:Addr} {vl vu:Value} {lo hi:Option Int} {n:Nat} {Q:Int × Int × Nat→Shared→Prop} (hs:s.heap.IsSliceOf sl vl vu .none) (pl:IsPart vl lo) (pu:IsPart vu hi)
  (h:Q (((sIx n 0 lo:Nat):Int),1,sIx n n hi - sIx n 0 lo) s):wpAny (model prog w) A (Builtin.Slice.sliceApplied (.ref sl) (pure (n:Int))) Q E s:=by
 obtain ⟨os,hos,hcs,hds⟩:=id hs
 unfold Builtin.Slice.sliceApplied Builtin.Slice.sliceFields
 refine wpAny_bind (wpAny_bind (wpAny_field hos hds (x:=vl) rfl (wpAny_bind (wpAny_field hos hds (x:=vu) rfl (wpAny_bind (wpAny_field hos hds (x:=.none) rfl (wpAny_pure ?_)))))))
 refine wpAny_bind (slicePart_none ?_)
 show wpAny _ _ (if ((1:Int) == 0)=true then _ else _) _ _ s
 rw [if_neg (by decide)]
 refine wpAny_bind (mz pl (wpAny_bind (mz pu (wpAny_bind (wpAny_pure ?_)))))
 show wpAny _ _ (match Builtin.Slice.sliceAdjust lo hi 1 (n:Int) with | (lo,hi)=>pure (lo,(1:Int),Builtin.Slice.slicePlaces lo hi 1)) _ _ s
 rw [sn lo hi n]
 show wpAny _ _ (pure (((sIx n 0 lo:Nat):Int),(1:Int),Builtin.Slice.slicePlaces ((sIx n 0 lo:Nat):Int) ((sIx n n hi:Nat):Int) 1)) _ _ s
 rw [rF]
 exact wpAny_pure h
theorem uH (xs:Array Value) (i k:Nat):((List.range k).filterMap fun (m:Nat)=>xs[((i:Int)+(m:Int) * 1).toNat]?).toArray=((xs.toList.drop i).take k).toArray:=by
 have e:(fun (m:Nat)=>xs[((i:Int)+(m:Int) * 1).toNat]?)=fun m=>xs[i+m]?:=by
  funext m
  have:((i:Int)+(m:Int) * 1).toNat=i+m:=by omega
  rw [this]
 rw [e]
 have:=pick_run xs i k
 rw [List.filterMap_map] at this
 have e2:((fun x=>xs[x]?) ∘ fun x=>i+x)=fun m=>xs[i+m]?:=rfl
 rw [e2] at this
 rw [this]
theorem getItem_tuple_cut {t sl:Addr} {items:Array Value} {vl vu:Value} {lo hi:Option Int} {Q:Value→Shared→Prop} (ht:IsTup s.heap t items) (hs:s.heap.IsSliceOf sl vl vu .none) (pl:IsPart vl lo) (pu:IsPart vu hi)
  (hw:¬ (sIx items.size 0 lo=0∧sIx items.size items.size hi=items.size))
  (h:Q (.ref s.heap.objs.size) { s with heap:=s.heap.push { cls:=.type "tuple",data:=.seq ((items.toList.drop (sIx items.size 0 lo)).take (sIx items.size items.size hi - sIx items.size 0 lo)).toArray } })
  (hsz:items.size≤sizeLine):wpAny (model prog w) A (getItem (.ref t) (.ref sl)) Q E s:=by
 have htake:sizeOk (.seq ((items.toList.drop (sIx items.size 0 lo)).take (sIx items.size items.size hi - sIx items.size 0 lo)).toArray):=by
  show ((items.toList.drop (sIx items.size 0 lo)).take (sIx items.size items.size hi - sIx items.size 0 lo)).toArray.size≤sizeLine
  rw [List.size_toArray,List.length_take,List.length_drop,Array.length_toList]
  omega
 have hj:sIx items.size items.size hi≤items.size:=pv _ _ (Nat.le_refl _) hi
 obtain ⟨os,hos,hcs,hds⟩:=id hs
 have hTs:s.TypeIs (.ref sl) "slice":=⟨os,hos,hcs⟩
 unfold getItem
 try with_reducible refine wpAny_holding ?_
 first | refine wpAny_bind (wpAny_pure ?_) | skip
 refine wpAny_bind (wpAny_sequenceKey ht.typeIs (by decide) ?_)
 refine wpAny_bind (wpAny_callSpecial?_slot (name:=Str.ofString "__getitem__") ht.typeIs PyProof.Rows.slot_tuple_getitem
  (wpAny_call_entry PyProof.Rows.slot_tuple_getitem ht.typeIs entry_tuple_getitem ?_ (args_tuple_getitem _ _)))
 show wpAny _ _ (Builtin.Tuple.tupleItemsOf (.ref t) >>= _) _ _ s
 refine wpAny_bind (tupleItemsOf_ ht ?_)
 refine wpAny_bind (wpAny_typeOf hTs ?_)
 rw [if_pos (by decide)]
 refine wpAny_bind (lC hs pl pu ?_)
 have hno:¬ ((((sIx items.size 0 lo:Nat):Int) == 0 && (1:Int) == 1 && (sIx items.size items.size hi - sIx items.size 0 lo) == items.size)=true):=by
  intro q
  rw [Bool.and_eq_true,Bool.and_eq_true] at q
  have q1:((sIx items.size 0 lo:Nat):Int)=0:=eq_of_beq q.1.1
  have q2:sIx items.size items.size hi - sIx items.size 0 lo=items.size:=eq_of_beq q.2
  exact hw ⟨by omega,by omega⟩
 show wpAny _ _ (if (((sIx items.size 0 lo:Nat):Int) == 0 && (1:Int) == 1 && (sIx items.size items.size hi - sIx items.size 0 lo) == items.size)=true then _ else _) _ _ s
 rw [if_neg hno,uH]
 first
  | exact wpAny_bind (m:=Builtin.Tuple.tupleExact _) (wpAny_newObj_type (wpAny_pure ⟨_,rfl,wpAny_pure h⟩) htake)
  | exact wpAny_bind (m:=Builtin.Tuple.tupleExact _) (wpAny_newObj_type (wpAny_bind (wpAny_pure (wpAny_pure ⟨_,rfl,wpAny_pure h⟩))) htake)
  | exact wpAny_bind (wpAny_bind (m:=Builtin.Tuple.tupleExact _) (wpAny_newObj_type (wpAny_pure (wpAny_pure ⟨_,rfl,wpAny_pure h⟩)) htake))
  | exact wpAny_bind (wpAny_bind (m:=Builtin.Tuple.tupleExact _) (wpAny_newObj_type (wpAny_pure ⟨_,rfl,wpAny_pure h⟩) htake))
end
end HT
namespace L2
open PySem PySem.Spec PyProof.Rows
abbrev TO:=St→Hp→(Option Int→Hp→Prop)→Prop
def PO (X:Cx) (e:Option Expr) (t:TO):Prop :=
 ∀ (pins:List (Addr × Obj)) (s:Shared) (σ:St) (H:Hp) (Q:Option Int→Hp→Prop),Inv X pins σ H s→t σ H Q →
  wpAny (model X.prog X.w) X.A (evalPart e X.env) (fun u s'=>∃ o H',Inv X pins σ H' s'∧IsPart u o∧Q o H') X.xe s
def Bf:TO:=fun _ H Q=>Q none H
def Gq (t:TE):TO:=fun σ H Q=>t σ H fun x H1=>∃ i,x=.int i∧Q (some i) H1
section
variable {X:Cx} {e:Expr} {te:TE} {lo hi:Option Expr} {tl th:TO} {pos p2:Pos}
theorem po_none:PO X none Bf:=by
 intro pins s σ H Q I h
 rw [evalPart_none]
 exact wpAny_pure ⟨none,H,I,.none,h⟩
theorem Br (h:PE X e te):PO X (some e) (Gq te):=by
 intro pins s σ H Q I hw
 rw [evalPart_some]
 refine thn (h pins s σ H _ I hw) fun u s1 ⟨x,H1,I1,r1,q1⟩=>?_
 obtain ⟨i,rfl,q⟩:=q1
 obtain ⟨t,rfl⟩:=r1
 exact ⟨some i,H1,I1,.int i t,q⟩
def SlR (X:Cx) (r:V→Option Int→Option Int→Hp→VK→Prop):Prop :=
 ∀ (pins:List (Addr × Obj)) (s:Shared) (σ:St) (H:Hp) (x:V) (v vl vu:Value) (lo hi:Option Int) (sl:Addr) (Q:VK),Inv X pins σ H s→RelV x v→s.heap.IsSliceOf sl vl vu .none→IsPart vl lo→IsPart vu hi→r x lo hi H Q →
  ∃ T id,typeLookup (.type T) "__getitem__"=pure (some (.builtin id))∧s.TypeIs v T∧wpAny (model X.prog X.w) X.A (getItem v (.ref sl)) (EP X pins σ Q) X.xe s
def tSl (r:V→Option Int→Option Int→Hp→VK→Prop) (te:TE) (tl th:TO):TE:=fun σ H Q=>te σ H fun x H1=>tl σ H1 fun l H2=>th σ H2 fun u H3=>r x l u H3 Q
theorem uJ {r:V→Option Int→Option Int→Hp→VK→Prop} (hr:SlR X r) (he:PE X e te) (hl:PO X lo tl) (hu:PO X hi th):PE X (.Subscript e (.Slice lo hi none p2) pos) (tSl r te tl th):=by
 intro pins s σ H Q I h
 refine Subscript_ (thn (he pins s σ H _ I h) fun v s1 ⟨x,H1,I1,r1,q1⟩=>?_)
 refine wpAny_Slice (thn (hl pins s1 σ H1 _ I1 q1) fun vl s2 ⟨l,H2,I2,pl,q2⟩=>thn (hu pins s2 σ H2 _ I2 q2) fun vu s3 ⟨u,H3,I3,pu,q3⟩=>?_)
 rw [evalPart_none]
 refine wpAny_pure ?_
 have I4:Inv X pins σ H3 { s3 with heap:=s3.heap.push { cls:=.type "slice",data:=.fields #[vl,vu,.none] } }:=I3.kept (t':=s3.toks) fun b ob q=>Heap.get?_push_of_some _ q
 obtain ⟨T,id,hT,ht,hg⟩:=hr pins { s3 with heap:=s3.heap.push { cls:=.type "slice",data:=.fields #[vl,vu,.none] } } σ H3 x v vl vu l u s3.heap.objs.size Q I4 r1 (Heap.IsSliceOf.new ..) pl pu q3
 show wpAny (model X.prog X.w) X.A (subscriptTail e (.Slice lo hi none p2) v (.ref s3.heap.objs.size)) (EP X pins σ Q) X.xe { s3 with heap:=s3.heap.push { cls:=.type "slice",data:=.fields #[vl,vu,.none] } }
 exact tail_any (ops:=[.ref s3.heap.objs.size,v]) ht hT hg (by with_unfolding_all rfl)
def i3 (xs:List V) (lo hi:Option Int):List V:=(xs.drop (HT.sIx xs.length 0 lo)).take (HT.sIx xs.length xs.length hi - HT.sIx xs.length 0 lo)
theorem lr (xs:List V) (lo hi:Option Int):(i3 xs lo hi).length≤xs.length:=by
 unfold i3
 rw [List.length_take,List.length_drop]
 omega
def Ex (K:PySem.W.Frag):V→Option Int→Option Int→Hp→VK→Prop:=fun x lo hi H Q=>∃ a xs,x=.ref a∧SqT K H a xs ∧
 ¬ (HT.sIx xs.length 0 lo=0∧HT.sIx xs.length xs.length hi=xs.length)∧∀ p,H p=none→Q (.ref p) (upd H p (.tup (i3 xs lo hi)))
theorem Et:SlR X (Ex X.K):=by
 intro pins s σ H x v vl vu lo hi sl Q I rx hs pl pu h
 obtain ⟨a,xs,rfl,hx,hw,q⟩:=h
 cases rx
 obtain ⟨its,r,ht,hz⟩:=I.tuple hx
 have hlen:its.toArray.size=xs.length:=by rw [List.size_toArray]; exact r.length.symm
 refine ⟨"tuple",_,PyProof.Rows.slot_tuple_getitem.lookup,ht.typeIs,?_⟩
 refine HT.getItem_tuple_cut ht hs pl pu (by rw [hlen]; exact hw) ?_ (by rw [hlen]; exact hz)
 rw [hlen]
 refine ⟨.ref s.heap.objs.size,_,I.laid (t':=s.toks) (o:=.tup (i3 xs lo hi)) (fun b ob q=>Heap.get?_push_of_some _ q) (Nat.le_refl _) ?_,rfl,q _ (I.hok.fresh (Nat.le_refl _))⟩
 exact ⟨Nat.le_trans (lr xs lo hi) hz,_,(r.drop (HT.sIx xs.length 0 lo)).take (HT.sIx xs.length xs.length hi - HT.sIx xs.length 0 lo),IsTupN.new _ _⟩
end
end L2
namespace L2
open PySem PySem.Spec PyProof.Rows
def ixN (n:Nat) (i:Int):Option Nat:=if 0≤i then (if i < n then some i.toNat else none) else if -(n:Int)≤i then some (i+n).toNat else none
def atI {α:Type} (xs:List α) (i:Int):Option α:=(ixN xs.length i).bind fun j=>xs[j]?
theorem qT {n:Nat} {i:Int} {j:Nat} (h:ixN n i=some j):seqIndex? i n=some j∧j < n∧-(n:Int)≤i∧i < n:=by
 unfold ixN at h
 by_cases h0:0≤i
 ·rw [if_pos h0] at h
  by_cases h1:i < n
  ·rw [if_pos h1] at h
   have e:i.toNat=j:=Option.some.inj h
   exact ⟨by rw [seqIndex_of h0 h1,e],by omega,by omega,h1⟩
  ·rw [if_neg h1] at h; cases h
 ·rw [if_neg h0] at h
  by_cases h1:-(n:Int)≤i
  ·rw [if_pos h1] at h
   have e:(i+n).toNat=j:=Option.some.inj h
   exact ⟨by rw [seqIndex_neg (by omega) h1,e],by omega,h1,by omega⟩
  ·rw [if_neg h1] at h; cases h
theorem nP {α:Type} {xs:List α} {i:Int} {v:α} (h:atI xs i=some v):∃ j,seqIndex? i xs.length=some j∧xs[j]?=some v∧j < xs.length∧-(xs.length:Int)≤i∧i < xs.length:=by
 unfold atI at h
 cases e:ixN xs.length i with
 | none=>rw [e] at h; cases h
 | some j =>
  rw [e] at h
  obtain ⟨h1,h2,h3,h4⟩:=qT e
  exact ⟨j,h1,h,h2,h3,h4⟩
def jm (b:Expr):Prop:=∀ o i,subscripted b false o i=operate [o,i] (getItem o i)
def IxR (X:Cx) (r:R2):Prop :=
 ∀ (value slice:Expr) (pins:List (Addr × Obj)) (s:Shared) (σ:St) (H:Hp) (x y:V) (v u:Value) (Q:VK),Inv X pins σ H s→RelV x v→RelV y u→r x y H Q →
  subscripted slice false v u=operate [v,u] (getItem v u)→wpAny (model X.prog X.w) X.A (subscriptTail value slice v u) (EP X pins σ Q) X.xe s
def MtR (X:Cx) (id:String) (r:V→List V→Hp→VK→Prop):Prop :=
 ∀ (pins:List (Addr × Obj)) (s:Shared) (σ:St) (H:Hp) (x:V) (xs:List V) (v:Value) (us:List Value) (Q:VK),Inv X pins σ H s→RelV x v→Vals xs us→r x xs H Q →
  wpAny (model X.prog X.w) X.A (call (.builtin id) (v :: us)) (EP X pins σ Q) X.xe s
section
variable {X:Cx} {a b:Expr} {ta tb:TE} {pos:Pos}
theorem IxR.or {r r':R2} (h:IxR X r) (h':IxR X r'):IxR X (fun x y H Q=>r x y H Q∨r' x y H Q):=by
 intro value slice pins s σ H x y v u Q I rx ry q hs
 rcases q with q | q
 ·exact h value slice pins s σ H x y v u Q I rx ry q hs
 ·exact h' value slice pins s σ H x y v u Q I rx ry q hs
theorem A1 {r:R2} (hr:IxR X r) (ha:PE X a ta) (hb:PE X b tb) (hs:jm b):PE X (.Subscript a b pos) (tOp r ta tb):=by
 intro pins s σ H Q I h
 exact Subscript_ (vw ha hb I h fun v u s2 x y H2 I2 rx ry q=>hr a b pins s2 σ H2 x y v u Q I2 rx ry q (hs _ _))
def rC (K:PySem.W.Frag):R2:=fun x y H Q=>∃ p xs i v,x=.ref p∧y=.int i∧SqL K H p xs∧atI xs i=some v∧Q v H
def Ez (K:PySem.W.Frag):R2:=fun x y H Q=>∃ p xs i v,x=.ref p∧y=.int i∧SqT K H p xs∧atI xs i=some v∧Q v H
def EA:R2:=fun x y H Q=>∃ z i c,x=.str z∧y=.int i∧z.length≤sizeLine∧atI z.cps.toList i=some c∧Q (.str ⟨#[c]⟩) H
theorem ix_list:IxR X (rC X.K):=by
 intro value slice pins s σ H x y v u Q I rx ry h hs
 obtain ⟨p,xs,i,z,rfl,rfl,hq,he,q⟩:=h
 cases rx
 obtain ⟨t,rfl⟩:=ry
 obtain ⟨its,r,pl,hz⟩:=I.list hq
 obtain ⟨j,h1,h2,h3,h4,h5⟩:=nP he
 obtain ⟨w,ew,rw'⟩:=r.get h2
 have hl:=r.length
 have hn:=jf
 have fin:EP X pins σ Q w s:=⟨z,H,I,rw',q⟩
 by_cases h0:0≤i
 ·have hj:i.toNat=j:=by
   rw [seqIndex_of h0 h5] at h1
   exact Option.some.inj h1
  exact item_listR pl.isList h0 (by omega) (by rw [hj]; simpa using ew) fin hs
 ·have hj:(i+(its.toArray.size:Int)).toNat=j:=by
   rw [seqIndex_neg (by omega) h4] at h1
   rw [List.size_toArray,← hl]
   exact Option.some.inj h1
  exact subscriptTail_builtinR (x:=w) pl.isList.typeIs slot_list_getitem.lookup
   (wpAny_getItem_list_neg (Q:=fun r s'=>r=w∧EP X pins σ Q r s') pl.isList (by omega) (by rw [List.size_toArray] <;> omega) (by omega) (by rw [hj]; simpa using ew) ⟨rfl,fin⟩) hs
theorem ix_tup:IxR X (Ez X.K):=by
 intro value slice pins s σ H x y v u Q I rx ry h hs
 obtain ⟨p,xs,i,z,rfl,rfl,hq,he,q⟩:=h
 cases rx
 obtain ⟨t,rfl⟩:=ry
 obtain ⟨its,r,pl,hz⟩:=I.tuple hq
 obtain ⟨j,h1,h2,h3,h4,h5⟩:=nP he
 obtain ⟨w,ew,rw'⟩:=r.get h2
 have hl:=r.length
 have hn:=jf
 have fin:EP X pins σ Q w s:=⟨z,H,I,rw',q⟩
 exact subscriptTail_builtinR (x:=w) pl.typeIs slot_tuple_getitem.lookup
  (getItem_tuple (j:=j) (Q:=fun r s'=>r=w∧EP X pins σ Q r s') pl (by omega) (by omega) (by rw [List.size_toArray,← hl]; exact h1) (by simpa using ew) ⟨rfl,fin⟩) hs
theorem ix_str:IxR X EA:=by
 intro value slice pins s σ H x y v u Q I rx ry h hs
 obtain ⟨z,i,c,rfl,rfl,hz,he,q⟩:=h
 obtain ⟨t,rfl⟩:=rx
 obtain ⟨t',rfl⟩:=ry
 obtain ⟨j,h1,h2,h3,h4,h5⟩:=nP he
 have hl:z.cps.toList.length=z.length:=by simp [Str.length]
 rw [hl] at h1 h4 h5
 have hn:=jf
 exact tail_any (typeIs_str s z t) slot_str_getitem.lookup (getItem_str (c:=c) (by
  have e1:decide (i < -(2 ^ 63:Int))=false:=decide_eq_false (by omega)
  have e2:decide (i ≥ 2 ^ 63)=false:=decide_eq_false (by omega)
  rw [e1,e2,Bool.or_false]) (by rw [h1]; simpa using h2) ⟨.str ⟨#[c]⟩,H,I.tok _,⟨_,rfl⟩,q⟩) hs
def rIx (K:PySem.W.Frag):R2:=fun x y H Q=>rC K x y H Q∨Ez K x y H Q∨EA x y H Q
theorem ix_seq:IxR X (rIx X.K):=ix_list.or (ix_tup.or ix_str)
theorem rO (its:List Value) (n j:Nat) (u:Value):Obj.mapSeq (·.setIfInBounds j u) { cls:=.type "list",data:=.seq its.toArray n }={ cls:=.type "list",data:=.seq (its.set j u).toArray n }:=by
 simp [Obj.mapSeq]
theorem Inv.lst {pins:List (Addr × Obj)} {σ:St} {H:Hp} {s:Shared} {p:Addr} {xs:List V} (I:Inv X pins σ H s) (h:H p=some (.lst xs)) :
  ∃ (its:List Value) (n:Nat),Vals xs its∧s.heap.get? p=some { cls:=.type "list",data:=.seq its.toArray n }∧xs.length≤sizeLine:=by
 obtain ⟨z,its,n,r,e⟩:=I.hok p _ h
 exact ⟨its,n,r,e,z⟩
theorem Inv.lstUpd {pins:List (Addr × Obj)} {σ:St} {H:Hp} {s:Shared} {p:Addr} {xs ys:List V} {its its':List Value} {n n':Nat} {f:Obj→Obj} (I:Inv X pins σ H s) (h:H p=some (.lst xs))
  (ho:s.heap.get? p=some { cls:=.type "list",data:=.seq its.toArray n }) (hf:f { cls:=.type "list",data:=.seq its.toArray n }={ cls:=.type "list",data:=.seq its'.toArray n' }) (r:Vals ys its') (hz:ys.length≤sizeLine) (t:Nat) :
  Inv X pins σ (upd H p (.lst ys)) { s with heap:=s.heap.update p f,toks:=t }:=by
 have e:(s.heap.update p f).get? p=some { cls:=.type "list",data:=.seq its'.toArray n' }:=by
  rw [Heap.get?_update_self f ho (by rw [hf] <;> rfl),hf]
 refine I.write (x:=p) (e:=p) (by rw [h]; trivial) (.inl rfl) (fun b u hb q=>(Heap.get?_update_other _ _ (Ne.symm hb)).trans q) ⟨_,e⟩ ?_
 exact ⟨hz,its',n',r,e⟩
def AY:V→V→V→Hp→(Hp→Prop)→Prop:=fun o i v H Q=>∃ p xs k j,o=.ref p∧i=.int k∧H p=some (.lst xs)∧ixN xs.length k=some j∧Q (upd H p (.lst (xs.set j v)))
theorem uD:Gk X AY:=by
 intro pins s σ H o i v ov iv u Q I ro ri rv h
 obtain ⟨p,xs,k,j,rfl,rfl,hp,hj,q⟩:=h
 cases ro
 obtain ⟨t,rfl⟩:=ri
 obtain ⟨its,n,r,ho,hz⟩:=I.lst hp
 obtain ⟨h1,h2,h3,h4⟩:=qT hj
 have hl:=r.length
 have hn:=jf
 have I':Inv X pins σ (upd H p (.lst (xs.set j v))) { s with heap:=s.heap.update p (Obj.mapSeq (·.setIfInBounds j u)) } :=
  I.lstUpd hp ho (rO its n j u) (r.set rv j) (by rw [List.length_set]; exact hz) s.toks
 by_cases h0:0≤k
 ·have hk:k.toNat=j:=by
   rw [seqIndex_of h0 h4] at h1
   exact Option.some.inj h1
  exact PySem.W.ki_setAt ho h0 (by omega) (by rw [List.size_toArray,← hl]; exact h4) (by rw [hk]; exact ⟨_,I',q⟩)
 ·have hk:(k+(its.toArray.size:Int)).toNat=j:=by
   rw [seqIndex_neg (by omega) h3] at h1
   rw [List.size_toArray,← hl]
   exact Option.some.inj h1
  exact PySem.W.ki_setBack ho (by omega) (by rw [List.size_toArray,← hl]; exact h3) (by omega) (by rw [hk]; exact ⟨_,I',q⟩)
theorem kh (lo hi:Option Int) (n:Nat):(sliceBounds lo hi none n).1=((HT.sIx n 0 lo:Nat):Int)∧(sliceBounds lo hi none n).2.1=((HT.sIx n n hi:Nat):Int)∧(sliceBounds lo hi none n).2.2=1:=by
 refine ⟨?_,?_,rfl⟩
 ·cases lo with
  | none=>simp [sliceBounds,HT.sIx]
  | some i =>
   simp only [sliceBounds,HT.sIx,Option.getD_none,show (1:Int) > 0 by decide,if_true]
   by_cases h:i < 0
   ·simp only [h,if_true] <;> omega
   ·simp only [h,if_false] <;> omega
 ·cases hi with
  | none=>simp [sliceBounds,HT.sIx]
  | some i =>
   simp only [sliceBounds,HT.sIx,Option.getD_none,show (1:Int) > 0 by decide,if_true]
   by_cases h:i < 0
   ·simp only [h,if_true] <;> omega
   ·simp only [h,if_false] <;> omega
theorem oQ (its:List Value) (lo hi:Option Int):slicePick its.toArray lo hi none=((its.drop (HT.sIx its.length 0 lo)).take (HT.sIx its.length its.length hi - HT.sIx its.length 0 lo)).toArray:=by
 obtain ⟨h1,h2,h3⟩:=kh lo hi its.toArray.size
 unfold slicePick
 rw [h1,h2,h3]
 simp only [sliceRange_one,pick_run,List.size_toArray] <;> rfl
def Ey (K:PySem.W.Frag):V→Option Int→Option Int→Hp→VK→Prop:=fun x lo hi H Q=>∃ a xs,x=.ref a∧SqL K H a xs∧∀ p,H p=none→Q (.ref p) (upd H p (.lst (i3 xs lo hi)))
theorem Bj:SlR X (Ey X.K):=by
 intro pins s σ H x v vl vu lo hi sl Q I rx hs pl pu h
 obtain ⟨a,xs,rfl,hx,q⟩:=h
 cases rx
 obtain ⟨its,r,ht,hz⟩:=I.list hx
 have hlen:=r.length
 refine ⟨"list",_,slot_list_getitem.lookup,ht.isList.typeIs,?_⟩
 refine wpAny_getItem_list_slice ht.isList hs pl pu .none (by simp) ?_ (by rw [List.size_toArray] <;> omega)
 rw [oQ,← hlen]
 refine ⟨.ref s.heap.objs.size,_,I.laid (t':=s.toks) (o:=.lst (i3 xs lo hi)) (fun b ob q=>Heap.get?_push_of_some _ q) (Nat.le_refl _) ?_,rfl,q _ (I.hok.fresh (Nat.le_refl _))⟩
 exact ⟨Nat.le_trans (lr xs lo hi) hz,_,0,(r.drop (HT.sIx xs.length 0 lo)).take (HT.sIx xs.length xs.length hi - HT.sIx xs.length 0 lo),Heap.get?_push_size _ rfl⟩
theorem p9:CallR X (.type "list") (fun xs H Q=>∃ p ys,xs=[.ref p]∧(SqL X.K H p ys∨SqT X.K H p ys)∧∀ l,H l=none→Q (.ref l) (upd H l (.lst ys))):=by
 intro pins s σ H xs us Q I r h
 obtain ⟨p,ys,rfl,hq,q⟩:=h
 obtain ⟨u,rfl,rx⟩:=dB r
 cases rx
 have fin:∀ (its:List Value),Vals ys its→ys.length≤sizeLine→∀ (h':Heap) (c':Nat),(∀ b o',s.heap.get? b=some o'→h'.get? b=some o') →
   h'.get? s.heap.objs.size=some { cls:=.type "list",dict:=none,data:=.seq its.toArray c',slots:=#[] }→EP X pins σ Q (.ref s.heap.objs.size) { s with heap:=h' }:=fun its r' hz h' c' kp e =>
  ⟨.ref s.heap.objs.size,_,I.laid (t':=s.toks) kp (Nat.le_refl _) (show ObjOk X.prog X.w _ h' _ (.lst ys) from ⟨hz,its,c',r',e⟩),rfl,q _ (I.hok.fresh (Nat.le_refl _))⟩
 rcases hq with hq | hq
 ·obtain ⟨its,r',pl,hz⟩:=I.list hq
  have hlen:=r'.length
  obtain ⟨o,ho,hc,n,hd⟩:=pl.isList
  exact call_list_seq p (.inl rfl) ho hc hd (fun h' c' kp e=>fin its r' hz h' c' kp e) (by simp only [List.size_toArray] <;> omega)
 ·obtain ⟨its,r',pl,hz⟩:=I.tuple hq
  have hlen:=r'.length
  obtain ⟨o,ho,hc,n,hd⟩:=pl
  exact call_list_seq p (.inr rfl) ho hc hd (fun h' c' kp e=>fin its r' hz h' c' kp e) (by simp only [List.size_toArray] <;> omega)
theorem oW:CallR X (.type "tuple") (fun xs H Q=>∃ p ys,xs=[.ref p]∧((SqL X.K H p ys∧∀ l,H l=none→Q (.ref l) (upd H l (.tup ys)))∨(SqT X.K H p ys∧Q (.ref p) H))):=by
 intro pins s σ H xs us Q I r h
 obtain ⟨p,ys,rfl,h⟩:=h
 obtain ⟨u,rfl,rx⟩:=dB r
 cases rx
 rcases h with ⟨hq,q⟩ | ⟨hq,q⟩
 ·obtain ⟨its,r',pl,hz⟩:=I.list hq
  have hlen:=r'.length
  refine call_tuple_list pl.isList (fun h' kp=>?_) (by simp only [List.size_toArray] <;> omega)
  have I1:Inv X pins σ H { s with heap:=h' }:=I.kept (t':=s.toks) kp
  have I2:Inv X pins σ (upd H h'.objs.size (.tup ys)) { s with heap:=h'.push { cls:=.type "tuple",data:=.seq its.toArray } } :=
   I1.laid (t':=s.toks) (fun b o e=>Heap.get?_push_of_some _ e) (Nat.le_refl _) (show ObjOk X.prog X.w _ _ _ (.tup ys) from ⟨hz,its,r',IsTupN.new _ _⟩)
  exact ⟨.ref h'.objs.size,_,I2,rfl,q _ (I1.hok.fresh (Nat.le_refl _))⟩
 ·obtain ⟨its,r',pl,hz⟩:=I.tuple hq
  exact call_tuple_same pl ⟨.ref p,H,I,rfl,q⟩
def tyV (K:PySem.W.Frag) (T:String) (x:V) (H:Hp):Prop:=match x with
 | .str _=>T="str"
 | .int _=>T="int"
 | .ref p=>(T="list"∧∃ xs,SqL K H p xs)∨(T="tuple"∧∃ o,K.lookup p=some o∧o.cls=.type "tuple"∧o.dict=none) ∨
   (T="dict"∧((∃ kvs,H p=some (.dK kvs))∨∃ kvs,H p=some (.dT kvs)))∨(T="set"∧∃ S n,H p=some (.set S n))
 | _=>False
theorem Eg {pins:List (Addr × Obj)} {σ:St} {H:Hp} {s:Shared} {T:String} {x:V} {v:Value} (I:Inv X pins σ H s) (r:RelV x v) (ty:tyV X.K T x H) :
  s.TypeIs v T∧∀ a,v=.ref a→∃ ob,s.heap.get? a=some ob∧ob.dict=none:=by
 cases x with
 | str z =>
  obtain ⟨t,rfl⟩:=r
  cases (show T="str" from ty)
  exact ⟨typeIs_str s z t,fun _ e=>nomatch e⟩
 | int i =>
  obtain ⟨t,rfl⟩:=r
  cases (show T="int" from ty)
  exact ⟨typeIs_int s i t,fun _ e=>nomatch e⟩
 | ref p =>
  cases r
  rcases ty with ⟨rfl,xs,hq⟩ | ⟨rfl,o,hk,hc,hd⟩ | ⟨rfl,hk⟩ | ⟨rfl,S,n,hk⟩
  ·obtain ⟨its,_,pl,_⟩:=I.list hq
   refine ⟨pl.isList.typeIs,fun a e=>?_⟩
   cases e
   obtain ⟨o,n,e,c,hd,_⟩:=pl
   exact ⟨o,e,hd⟩
  ·refine ⟨⟨o,I.kIn p o hk,hc⟩,fun a e=>?_⟩
   cases e
   exact ⟨o,I.kIn _ o hk,hd⟩
  ·have z:∃ o,s.heap.get? p=some o∧o.ExactDict:=by
    rcases hk with ⟨kvs,hk⟩ | ⟨kvs,hk⟩
    ·obtain ⟨_,_,_,_,o,_,_,e,ex,_⟩:=I.hok p _ hk
     exact ⟨o,e,ex⟩
    ·obtain ⟨_,_,_,_,o,_,_,e,ex,_⟩:=I.hok p _ hk
     exact ⟨o,e,ex⟩
   obtain ⟨o,e,ex⟩:=z
   refine ⟨⟨o,e,ex.1⟩,fun a e2=>?_⟩
   cases e2
   exact ⟨o,e,ex.2.1⟩
  ·obtain ⟨o,_,_,_,e,ex,_⟩:=I.hok p _ hk
   refine ⟨⟨o,e,ex.1⟩,fun a e2=>?_⟩
   cases e2
   exact ⟨o,e,ex.2.1⟩
 | _=>exact False.elim ty
def tBM (K:PySem.W.Frag) (T:String) (r:V→List V→Hp→VK→Prop) (to:TE) (t:TA):TE:=fun σ H Q=>to σ H fun x H1=>tyV K T x H1∧t σ H1 fun xs H2=>r x xs H2 Q
variable {o e:Expr} {es:List Expr} {to:TE} {t:TA} {name:Str} {apos cpos:Pos} {T id:String} {r:V→List V→Hp→VK→Prop}
theorem rG (pa:PlainAttrs T) (slot:Slot T name id) (hty:typeOf (.builtin id)=pure (.type "method_descriptor")) (hm:MtR X id r) (ho:PE X o to) (ha:PA X (e :: es) t)
  (hbase:attributeBase o name X.env (eval o X.env)=eval o X.env:=by rfl)
  (hfew:((backTo cpos (starEach (e :: es) X.env)).all (fun x=>!x.1) && (backToKw cpos (keywordEach [] X.env)).all (fun x=>x.1.isSome)
   && decide ((e :: es).length+([]:List Keyword).length+(if ([]:List Keyword).isEmpty then 0 else 1) < 30))=true:=by rfl)
  (hline:(apos.endLine == cpos.line)=true:=by rfl) (hs:starEach (e :: es) X.env=(false,eval e X.env) :: starEach es X.env:=by rfl) (hplain:(backTo cpos (starEach es X.env)).any (·.1)=false:=by rfl) :
  PE X (.Call (.Attribute o name apos) (e :: es) [] cpos) (tBM X.K T r to t):=by
 intro pins s σ H Q I h
 refine wpAny_Call_method_late hbase hfew hline rfl (thn (ho pins s σ H _ I h) fun v s1 ⟨x,H1,I1,r1,ty,q1⟩=>?_)
 obtain ⟨h1,h2⟩:=Eg I1 r1 ty
 refine ⟨T,id,pa,slot,hty,h1,h2,?_⟩
 have hA:=ha cpos pins s1 σ H1 _ I1 q1
 rw [hs] at hA ⊢
 refine Calls.callWith_builtin (by show (false || (backTo cpos (starEach es X.env)).any (·.1))=false; rw [hplain] <;> rfl) (Calls.evalArgs_plain ?_)
 exact thn hA fun us s2 ⟨vs,H2,I2,r2,q2⟩=>hm pins s2 σ H2 x vs v us Q I2 r1 r2 q2
end
end L2
namespace L2
open PySem PySem.Spec PyProof.Rows
def MtM (X:Cx) (id:String) (r:V→List V→Hp→VK→Prop):Prop :=
 ∀ (pins:List (Addr × Obj)) (s:Shared) (σ:St) (H:Hp) (x:V) (xs:List V) (v:Value) (us:List Value) (Q:VK),Inv X pins σ H s→RelV x v→Vals xs us→r x xs H Q →
  wpAny (model X.prog X.w) X.A (call (.builtin id) (v :: us)) (EP X pins σ Q) X.xe s
theorem Vals.one:∀ {x:V} {us:List Value},Vals [x] us→∃ u,us=[u]∧RelV x u
 | _,_,.cons r .nil=>⟨_,rfl,r⟩
theorem Vals.two {x y:V} {us:List Value} (h:Vals [x,y] us):∃ u v,us=[u,v]∧RelV x u∧RelV y v:=by
 cases h with
 | cons r t =>
  cases t with
  | cons q n =>
   cases n
   exact ⟨_,_,rfl,r,q⟩
theorem Vals.eraseIdx:∀ {xs:List V} {us:List Value} (i:Nat),Vals xs us→Vals (xs.eraseIdx i) (us.eraseIdx i)
 | _,_,_,.nil=>.nil
 | _,_,0,.cons _ t=>t
 | _,_,i+1,.cons r t=>.cons r (Vals.eraseIdx i t)
theorem oh {α:Type}:∀ (l:List α) (i:Nat),(l.eraseIdx i).length≤l.length
 | [],_=>Nat.le_refl _
 | _ :: _,0=>Nat.le_succ _
 | _ :: r,i+1=>Nat.succ_le_succ (oh r i)
section
variable {X:Cx} {pins:List (Addr × Obj)} {σ:St} {H:Hp} {s:Shared} {l b:Addr} {xs ys zs:List V}
theorem Inv.lset {its its':List Value} {n:Nat} {f:Array Value→Array Value} {t':Nat} (I:Inv X pins σ H s) (hH:H l=some (.lst xs))
  (e:s.heap.get? l=some { cls:=.type "list",data:=.seq its.toArray n }) (hf:f its.toArray=its'.toArray) (hv:Vals ys its') (hz:ys.length≤sizeLine) :
  Inv X pins σ (upd H l (.lst ys)) { s with heap:=s.heap.update l (Obj.mapSeq f),toks:=t' }:=by
 have q:=PySem.IsL.update e f
 rw [hf] at q
 refine I.write (x:=l) (e:=l) (by rw [hH]; exact trivial) (.inl rfl) (fun b' u hb hu=>(Heap.get?_update_other s.heap (Obj.mapSeq f) (Ne.symm hb)).trans hu) ⟨_,q⟩ ?_
 exact ⟨hz,its',_,hv,q⟩
theorem Inv.lnew {its:List Value} {t':Nat} (I:Inv X pins σ H s) (hv:Vals ys its) (hz:ys.length≤sizeLine) :
  Inv X pins σ (upd H s.heap.objs.size (.lst ys)) { s with heap:=s.heap.push { cls:=.type "list",data:=.seq its.toArray },toks:=t' } :=
 I.laid (fun _ _ q=>Heap.get?_push_of_some _ q) (Nat.le_refl _) ⟨hz,its,0,hv,Heap.get?_push_size _ rfl⟩
theorem Inv.fresh (I:Inv X pins σ H s):H s.heap.objs.size=none:=I.hok.fresh (Nat.le_refl _)
theorem Inv.lstM (I:Inv X pins σ H s) (hH:H l=some (.lst xs)):xs.length≤sizeLine∧∃ (its:List Value) (n:Nat),Vals xs its∧xs.length=its.length∧s.heap.get? l=some { cls:=.type "list",data:=.seq its.toArray n }:=by
 obtain ⟨z,its,n,r,e⟩:=I.hok l _ hH
 exact ⟨z,its,n,r,r.length,e⟩
end
section
variable {X:Cx}
def qM:V→List V→Hp→VK→Prop:=fun x vs H Q=>∃ l xs y,x=.ref l∧vs=[y]∧H l=some (.lst xs)∧xs.length < sizeLine∧Q .non (upd H l (.lst (xs++[y])))
theorem n9:MtM X "list.append" qM:=by
 intro pins s σ H x vs v us Q I rx rv h
 obtain ⟨l,xs,y,rfl,rfl,hH,hz,q⟩:=h
 cases rx
 obtain ⟨u,rfl,ru⟩:=rv.one
 obtain ⟨z,its,n,r,hl,e⟩:=I.lstM hH
 refine call_meets F.slot_list_append ⟨_,e,rfl⟩ F.entry_list_append (F.args_list_append_2 _ _) (PySem.list_append l its.toArray n u (by rw [List.size_toArray]; omega)) ⟨e,?_⟩
 refine ⟨.non,_,I.lset (its':=its++[u]) hH e (by simp) (r.append (.cons ru .nil)) ?_,rfl,q⟩
 rw [List.length_append,List.length_singleton]
 omega
def sN:V→List V→Hp→VK→Prop:=fun x vs H Q=>∃ l xs i k y,x=.ref l∧vs=[.int i]∧H l=some (.lst xs)∧-(2 ^ 63)≤i∧i < 2 ^ 63∧seqIndex? i xs.length=some k∧xs[k]?=some y∧Q y (upd H l (.lst (xs.eraseIdx k)))
theorem uP:MtM X "list.pop" sN:=by
 intro pins s σ H x vs v us Q I rx rv h
 obtain ⟨l,xs,i,k,y,rfl,rfl,hH,h1,h2,hk,hy,q⟩:=h
 cases rx
 obtain ⟨u,rfl,ru⟩:=rv.one
 obtain ⟨t,rfl⟩:=ru
 obtain ⟨z,its,n,r,hl,e⟩:=I.lstM hH
 obtain ⟨w,hw,rw'⟩:=r.get hy
 refine call_meets F.slot_list_pop ⟨_,e,rfl⟩ F.entry_list_pop (F.args_list_pop_2 _ _)
  (MeetsSeq.list_pop_at l its.toArray n i t k w (fitsIndex_both h1 h2) (by rw [List.size_toArray,← hl]; exact hk) (by rw [← Array.getElem?_toList]; exact hw) (by rw [List.size_toArray]; omega)) ⟨e,?_⟩
 refine ⟨y,_,I.lset (its':=its.eraseIdx k) hH e ?_ (r.eraseIdx k) ?_,rw',q⟩
 ·show its.toArray.eraseIdxIfInBounds k=(its.eraseIdx k).toArray
  rw [List.eraseIdxIfInBounds_toArray]
 ·have:=oh xs k
  omega
end
section
variable {prog:Program} {w:World} {A:Around} {E:Value→Shared→Prop} {s:Shared}
end
section
variable {X:Cx}
end
end L2
namespace Att
open PySem PySem.W PySem.Calls PyProof.Rows
theorem mO {P:Params} {h:Heap}:∀ (ns:List Int) (vs:List Value),WellAll P h vs (ns.map WData.int)→IntsAre vs ns:=by
 intro ns
 induction ns with
 | nil =>
  intro vs w
  rw [List.map_nil] at w
  cases w
  exact .nil
 | cons n ns ih =>
  intro vs w
  rw [List.map_cons] at w
  cases w with
  | cons a b =>
   cases a
   exact .cons _ _ (ih _ b)
theorem sM {l:OpenLaw} {n:Nat} (hn:l.most=some n) {P:Params} {h:Heap} {args:List WData} {vals:List Value}
  (hpre:l.row.toRowW.claim.pre args=true) (hwl:WellAll P h vals args) :
  ∃ a vs ns,vals=[Value.ref a]∧args=[WData.list (ns.map WData.int)]∧h.get? a=some { cls:=.type "list",data:=.seq vs.toArray }∧IntsAre vs ns∧ns.length≤n:=by
 have hsh:WShape.hasAll [] args [.list .int]=true:=(pre_splitW hpre).1
 have hc:l.pre.holds [] { args:=args }=true:=(pre_splitW hpre).2
 obtain ⟨d,r,rfl,h1,h2⟩:=hasAllW_cons hsh
 obtain rfl:=hasAllW_nil h2
 obtain ⟨xs,rfl,h3⟩:=hasW_list h1
 obtain ⟨ns,rfl⟩:=items_int h3
 have hlen:ns.length≤n:=by
  unfold OpenLaw.pre at hc
  have h4:(WTm.not (.lt (.lit (.int (n:Int))) (.len (.arg 0)))).holds [] { args:=[.list (ns.map .int)] }=true:=by
   have h4:=(holds_andW hc).1
   rw [hn] at h4
   exact h4
  have h5:=condW_of h4 (w_not (w_lt w_lit (w_len_list (w_arg rfl))))
  rw [List.length_map] at h5
  refine Nat.le_of_not_lt fun q=>?_
  have q':(n:Int) < ((ns.length:Nat):Int):=by omega
  first
   | (rw [decide_eq_true q'] at h5; exact absurd h5 (by decide))
   | (simp at h5; omega)
 cases hwl with
 | cons w1 w2 =>
  cases w2
  cases w1 with
  | list ho hall=>exact ⟨_,_,ns,rfl,rfl,ho,mO ns _ hall,hlen⟩
theorem sP (l:OpenLaw) (args:List WData):l.row.toRowW.claim.post args (.bool true) args=true :=
 postW_of (r:=l.row.toRowW) (X:=(true == true))
  (show WShape.has [] (.bool true) .bool=true by first | rfl | decide | simp [WShape.has,WShape.arms,WShape.armsAll])
  (show (WTm.eq .res (.lit (.bool true))).value [] { args:=args,res:=some (.bool true),after:=args }=some (.bool (true == true)) from w_eq_bool (w_res rfl) w_lit) rfl
theorem attach_call {l:OpenLaw} {n:Nat} {q:Program} {loose:List Str} {XP:(Str→Option Value)→Heap→Prop} {YP:World→Heap→Prop} {d:DefRec}
  (hn:l.most=some n) (hdf:d.params.defaults=[])
  (call:∀ (w:World) (s₀ s₁:Shared) (mg mb:Str→Option Value) (fa:Addr) (o:Obj) (pm cd doc:Value) (a:Addr) (vs:List Value) (ns:List Int),
   Ground q loose [] XP w s₀ mg mb s₁.heap→YP w s₁.heap →
   s₁.heap.get? fa=some o→o.data=.func (docDef d.name d.params d.body d.scope pm cd doc)→s₁.heap.CodeRec cd d.name→mg d.name=some (.ref fa) →
   s₁.heap.get? a=some { cls:=.type "list",data:=.seq vs.toArray }→IntsAre vs ns→ns.length≤n→s₁.gens=#[] →
   codeAny (model l.prog w) callerA (.call (.ref fa) ⟨[.ref a],[]⟩) (fun r s'=>r=.ok (.ret (.bool true))∧OldK s₁.heap s'.heap∧s'.os=s₁.os∧AllBare s'.gens) s₁) :
  WalkO q loose XP YP l.row.toRowW d [] (fun f vs=>PySem.call f vs):=by
 intro w s₀ s₁ mg mb G Y fa o pm cd doc dV kV ho hd hcd hD hmg hg args vals as hpre hlay hrd hwl hlo
 obtain rfl:dV=.none:=Dflts.none hD hdf
 obtain rfl:kV=.none:=Dflts.noKw hD
 obtain ⟨a,vs,ns,rfl,rfl,hobj,hints,hlen⟩:=sM hn hpre hwl
 refine enter_call (codeAny_mono (call w s₀ s₁ mg mb fa o pm cd doc a vs ns G Y ho (fd_plain hd) hcd hmg hobj hints hlen hg) fun r s' hq=>?_)
 obtain ⟨rfl,h2,h3,h4⟩:=hq
 exact ⟨.inl ⟨.bool true,.bool true,[],rfl,fun _=>rfl,.bool true,sP l _,fun _=>⟨List.Pairwise.nil,fun _ hm=>(nomatch hm)⟩⟩,h2,h3,h4⟩
section
variable {prog:Program} {w:World} {A:Around} {E:Value→Shared→Prop} {s:Shared} {K:Frag}
end
end Att
namespace L2
open PySem PySem.Spec PyProof.Rows
theorem nX:∀ {vs:List Value} {ns:List Int},IntsAre vs ns→Vals (ns.map V.int) vs
 | _,_,.nil=>.nil
 | _,_,.cons n t h=>.cons ⟨t,rfl⟩ (nX h)
def vz (H:Hp):Prop:=∀ b,H b=none∨∃ o xs,H b=some (.frz o (.lst xs))
theorem uT {P:Program} {w:World} {K:PySem.W.Frag} {mg mb:Str→Option Value} {CX:CXT} {k:Nat} {fa a:Addr} {fd:FuncData} {x:Str} {sp:Sp} {s₁:Shared} {vs:List Value} {ns:List Int}
  (KX:K.In s₁.heap) (hns:s₁.heap.Ns mainGlobals mg) (hb:s₁.heap.Ns builtinsNs mb) (hbb:∀ x:Str,x≠"__name__"→mb x=bootBuiltins x) (hlim:s₁.heap.NoLimit) (hmods:∃ mm,s₁.heap.Ns sysModules mm) (hg:s₁.gens=#[])
  (ha:s₁.heap.get? a=some { cls:=.type "list",data:=.seq vs.toArray }) (hi:IntsAre vs ns) (hl:ns.length≤sizeLine) (hr:Room k callerA)
  (F:∀ base:Heap,K.In base→base.Ns mainGlobals mg→FnOk P w K mg base CX k fa fd [x] sp) (hbind:∀ (s:Shared) (u:Value),BindsTo s fd ⟨[u],[]⟩ [(x,u)])
  (hsp:∀ H:Hp,vz H→SqL K H a (ns.map V.int)→sp [.ref a] H (fun v _=>v=.bl true) fun _ _ _=>False)
  (hCX:∀ H e s',CX [] H s₁ (fun _ _ _=>False) e s'→False) :
  codeAny (model P w) callerA (.call (.ref fa) ⟨[.ref a],[]⟩) (fun r s'=>r=.ok (.ret (.bool true))∧OldK s₁.heap s'.heap∧s'.os=s₁.os∧AllBare s'.gens) s₁:=by
 have rv:=nX hi
 have lenV:=hi.length
 have core:∀ H:Hp,vz H→SqL K H a (ns.map V.int)→HOk P w H s₁.heap→(∀ b,H b≠none→b=a)→(H a≠none→K.lookup a=none) →
   codeAny (model P w) callerA (.call (.ref fa) ⟨[.ref a],[]⟩) (fun r s'=>r=.ok (.ret (.bool true))∧OldK s₁.heap s'.heap∧s'.os=s₁.os∧AllBare s'.gens) s₁:=by
  intro H hO hS hok hA hK
  have base_of:∀ {b:Addr} {o:Obj},s₁.heap.get? b=some o→H b=none→(jG s₁.heap H).get? b=some o:=fun e n=>u6 e n
  have noA:∀ {b:Addr} {o:Obj} {es:Array DictEntry} {ep:Nat},s₁.heap.get? b=some o→o.data=.dict es ep→H b=none:=fun {b o es ep} e d=>by
   cases q:H b with
   | none=>rfl
   | some u =>
    have e':b=a:=hA b (by rw [q]; simp)
    subst e'
    rw [ha] at e; cases e
    have d':Data.seq vs.toArray _=Data.dict es ep:=d
    cases d'
  have nsK:∀ {b:Addr} {m:Str→Option Value},s₁.heap.Ns b m→(jG s₁.heap H).Ns b m:=fun {b m} ⟨o,es,ep,e,d,r⟩=>⟨o,es,ep,base_of e (noA e d),d,r⟩
  have hKb:K.In (jG s₁.heap H):=fun b o e=>base_of (KX b o e) (by
   cases q:H b with
   | none=>rfl
   | some u =>
    have e':b=a:=hA b (by rw [q]; simp)
    subst e'
    rw [hK (by rw [q]; simp)] at e; cases e)
  have hM:Mod K mg (jG s₁.heap H):=⟨hKb,nsK hns,⟨mb,nsK hb,hbb⟩,let ⟨mc,h1,h2⟩:=hlim; ⟨mc,nsK h1,h2⟩,let ⟨mm,h1⟩:=hmods; ⟨mm,nsK h1⟩⟩
  have e0:Env0 P w K mg (jG s₁.heap H) callerA [] s₁ H:=⟨rfl,hM,fun b o e=>BB e,Nat.le_of_eq (tL _ _),trivial,fun b hb=>absurd (show b∈([]:List Addr) from hb) (by simp),hok,.of_eq hg⟩
  refine codeAny_mono ((F _ hKb (nsK hns)).run callerA [] s₁ H ⟨[.ref a],[]⟩ [.ref a] [.ref a] _ _ hr e0 (hbind s₁ (.ref a)) (.cons rfl .nil) (hsp H hO hS)) fun r s' h=>?_
  cases r with
  | error e=>exact (hCX H e s' h).elim
  | ok fl =>
   cases fl with
   | next=>exact False.elim h
   | brk=>exact False.elim h
   | cont=>exact False.elim h
   | ret u =>
    obtain ⟨v,H',os,bare,un,hok',r',q⟩:=h
    have q':v=.bl true:=q
    subst q'
    obtain rfl:u=Value.bool true:=r'
    refine ⟨rfl,OldK.of_keep fun b o e=>?_,os,bare⟩
    cases q:H b with
    | none=>exact un.keep b o e q (by intro z; exact absurd (show b∈([]:List Addr) from z) (by simp)) (by simp)
    | some u =>
     rcases hO b with z | ⟨ob,xs,z⟩
     ·rw [q] at z; cases z
     ·have z2:=un.frzs b ob _ z
      obtain ⟨e1,_⟩:=hok b _ z
      obtain ⟨e2,_⟩:=hok' b _ z2
      rw [e] at e1; cases e1
      exact e2
 cases hk:K.lookup a with
 | some o =>
  have e:=KX a o hk
  rw [ha] at e
  cases e
  refine core (fun _=>none) (fun _=>.inl rfl) (.inr ⟨_,vs.toArray,_,hk,rfl,rfl,rfl,by rw [List.size_toArray,lenV]; exact hl,by simpa using rv⟩) (fun b u z=>by have z':(none:Option HO)=some u:=z; cases z') (fun b z=>absurd rfl z) fun z=>absurd rfl z
 | none =>
  refine core (fun b=>if b=a then some (.frz { cls:=.type "list",data:=.seq vs.toArray } (.lst (ns.map V.int))) else none) (fun b=>?_) (.inl (.inr ⟨{ cls:=.type "list",data:=.seq vs.toArray },if_pos rfl⟩)) (fun b u z=>?_) (fun b z=>?_) fun _=>hk
  ·by_cases hb:b=a
   ·exact .inr ⟨_,_,if_pos hb⟩
   ·exact .inl (if_neg hb)
  ·by_cases hb:b=a
   ·have z':=(if_pos hb).symm.trans z
    cases z'
    subst hb
    exact ⟨ha,by rw [List.length_map]; exact hl,vs,_,rv,ha⟩
   ·have z':=(if_neg hb).symm.trans z
    cases z'
  ·by_cases hb:b=a
   ·exact hb
   ·exact absurd (if_neg hb) z
end L2
namespace L2
open PySem PySem.Spec PyProof.Rows
theorem walk_of {l:PySem.W.OpenLaw} {n k:Nat} {q:Program} {loose:List Str} {XP:(Str→Option Value)→Heap→Prop} {YP:World→Heap→Prop} {d:DefRec} {K:Params→PySem.W.Frag} {CX:World→CXT} {sp:World→Sp} {x:Str}
  (hn:l.most=some n) (hn2:n≤sizeLine) (hdf:d.params.defaults=[]) (hr:Room k callerA)
  (hq:importsNone q=true) (hY:∀ (w:World) (h:Heap),YP w h→(K w.params).In h)
  (F:∀ (w:World) (mg:Str→Option Value) (fa:Addr) (h:Heap),(K w.params).In h→h.Ns mainGlobals mg→mg d.name=some (.ref fa) →
   ∃ fd:FuncData,(∀ (s:Shared) (u:Value),BindsTo s fd ⟨[u],[]⟩ [(x,u)]) ∧
    ∀ base:Heap,(K w.params).In base→base.Ns mainGlobals mg→FnOk l.prog w (K w.params) mg base (CX w) k fa fd [x] (sp w))
  (hsp:∀ (w:World) (H:Hp) (a:Addr) (ns:List Int),ns.length≤n→vz H→SqL (K w.params) H a (ns.map V.int)→sp w [.ref a] H (fun v _=>v=.bl true) fun _ _ _=>False)
  (hCX:∀ (w:World) (H:Hp) (s:Shared) (e:Value) (s':Shared),CX w [] H s (fun _ _ _=>False) e s'→False) :
  PySem.W.WalkO q loose XP YP l.row.toRowW d [] (fun f vs=>PySem.call f vs):=by
 refine Att.attach_call hn hdf fun w s₀ s₁ mg mb fa o pm cd doc a vs ns G Y ho hd hcd hmg hobj hints hlen hg=>?_
 have KX:=hY w _ Y
 obtain ⟨fd,hb,hF⟩:=F w mg fa _ KX G.T.g hmg
 exact uT KX G.T.g G.T.b G.T.builtins G.T.nolimit (let ⟨mm,hm,_⟩:=(G.T.seer hq).mods; ⟨mm,hm⟩) hg hobj hints (Nat.le_trans hlen hn2) hr hF hb (fun H hO hS=>hsp w H a ns hlen hO hS) fun H e s'=>hCX w H s₁ e s'
end L2
namespace L2
open PySem PySem.Spec PyProof.Rows
def eH (s:Stmt):Arguments:=match s with
 | .FunctionDef _ a _ _ _ _ _ _ _ _=>a
 | _=>{ posonlyargs:=[],args:=[],vararg:=none,kwonlyargs:=[],kw_defaults:=[],kwarg:=none,defaults:=[] }
def dm (s:Stmt):List Stmt:=match s with
 | .FunctionDef _ _ b _ _ _ _ _ _ _=>b
 | _=>[]
def ar (s:Stmt):Scope:=match s with
 | .FunctionDef _ _ _ _ _ _ sc _ _ _=>sc
 | _=>{ kind:=.function,names:=[],isGenerator:=false,isCoroutine:=false }
abbrev CX0:CXT:=fun _ _ _ _ _ _=>False
abbrev E0:XK:=fun _ _ _=>False
theorem GD {X:Cx}:qf CX0 X E0:=fun _ _ _ _ _ _ _ h=>h.elim
structure Fun (K:PySem.W.Frag) (x qual:Str) (st:Stmt) (f:Addr) (fd:FuncData):Prop where
 ex:∃ (oc:Value) (od:Option Addr) (kV doc pm:Value) (an:Option Addr) (cdv ct:Value) (osl:Array (Option Value)),
  fd=PySem.W.fnOf x qual (eH st) (dm st) (ar st) .none kV doc pm an cdv ct∧K.lookup f=some ⟨oc,od,.func fd,osl⟩∧PySem.W.codeIn K cdv qual=true
 kp:PySem.W.keepIn K (.ref f)=true
section
variable {P:Program} {w:World} {K:PySem.W.Frag} {mg:Str→Option Value} {base:Heap}
theorem Fun.ok {x qual:Str} {st:Stmt} {f:Addr} {fd:FuncData} {N ps:List Str} {k:Nat} {sp:Sp} (F:Fun K x qual st f fd) (S:FnScope N ps (ar st)) (len:∀ vs H Q E,sp vs H Q E→vs.length=ps.length)
  (hbody:∀ (cdv:Value) (A:Around) (outer:List Env) (s:Shared) (H:Hp) (vs:List V) (Q:VK) (E:XK),Room k (A.deeper (envOfC qual (ar st) s.heap.objs.size f cdv))→sp vs H Q E →
   ∃ t,PSs (lR CX0 P w K mg base N qual (ar st) f cdv A outer s H E).nox (dm st) t∧t { nx:=fun _ H'=>Q .non H',rt:=Q } (ey N vs) H):FnOk P w K mg base CX0 (k+1) f fd ps sp:=by
 obtain ⟨oc,od,kV,doc,pm,an,cdv,ct,osl,rfl,lk,hcd⟩:=F.ex
 refine GP lk hcd S len fun A outer s H vs Q E hr hsp=>?_
 obtain ⟨t,h,q⟩:=hbody cdv A outer s H vs Q E hr hsp
 exact ⟨t,h.nox,q⟩
theorem Fun.binds {x qual:Str} {st:Stmt} {f:Addr} {fd:FuncData} {ps:List Str} (F:Fun K x qual st f fd)
  (h:∀ (kV doc pm:Value) (an:Option Addr) (cdv ct:Value) (us:List Value),us.length=ps.length→bindArgs (PySem.W.fnOf x qual (eH st) (dm st) (ar st) .none kV doc pm an cdv ct) ⟨us,[]⟩=pure (ps.zip us)):Binds K fd ps []:=by
 obtain ⟨oc,od,kV,doc,pm,an,cdv,ct,osl,rfl,lk,hcd⟩:=F.ex
 exact .all (h kV doc pm an cdv ct)
theorem pS {x qual:Str} {st:Stmt} {f:Addr} {oc:Value} {od an:Option Addr} {osl:Array (Option Value)} {kV doc pm cdv ct:Value} (l:K.lookup f=some ⟨oc,od,.func (PySem.W.fnOf x qual (eH st) (dm st) (ar st) .none kV doc pm an cdv ct),osl⟩)
  (c:PySem.W.codeIn K cdv qual=true) (k:PySem.W.keepIn K (.ref f)=true):Fun K x qual st f (PySem.W.fnOf x qual (eH st) (dm st) (ar st) .none kV doc pm an cdv ct):=⟨⟨oc,od,kV,doc,pm,an,cdv,ct,osl,rfl,l,c⟩,k⟩
end
section
variable {X:Cx}
end
end L2
namespace L2
open PySem PySem.Spec PyProof.Rows
section
variable {κ:Type} [DecidableEq κ]
end
theorem GG {P:Program} {w:World} {k:Key} {u:Value} (r:RelV (kV k) u):(cH P w).is k u=true:=by
 cases k with
 | inl i=>obtain ⟨t,e⟩:=(show ∃ t,u=Value.int i t from r); subst e; exact qC P w i t
 | inr x=>obtain ⟨t,e⟩:=(show ∃ t,u=Value.str x t from r); subst e; exact qB P w x t
theorem om {P:Program} {w:World}:∀ {ks:List Key} {us:List Value},Vals (ks.map kV) us→ItemsAre (cH P w) ks us
 | [],_,r=>by rw [List.map_nil] at r; cases r; exact .nil
 | k :: ks,_,r=>by
  rw [List.map_cons] at r
  cases r with
  | cons h t=>exact .cons (GG h) (om t)
abbrev KT (H:Hp):List (List Key × V)→List (List Key × Addr × Value)→Prop:=Paired fun p q=>p.1=q.1∧H q.2.1=some (.tup (p.1.map kV))∧RelV p.2 q.2.2
section
variable {P:Program} {w:World} {H:Hp} {h:Heap} {a:Addr}
theorem AX {u:HO} (ok:HOk P w H h) (e:Rd H a u):ObjOk P w H h a u:=e.ok ok
theorem Hf {kvs:List (Key × V)} (ok:HOk P w H h) (e:Rd H a (.dK kvs)):kvs.length≤sizeLine∧(a == sysModules)=false∧∃ vs,KV kvs vs∧h.DictOf (cH P w) a vs :=
 show ObjOk P w H h a (.dK kvs) from AX ok e
theorem Hg {kvs:List (Key × V)} (ok:HOk P w H h) (e:H a=some (.dK kvs)):kvs.length≤sizeLine∧(a == sysModules)=false∧∃ vs,KV kvs vs∧h.DictOf (cH P w) a vs:=Hf ok (.inl e)
theorem Fb {ks:List Key} (ok:HOk P w H h) (e:H a=some (.tup (ks.map kV))):(tupleKind (cH P w)).is h ks a:=by
 obtain ⟨_,its,r,o,h1,h2,n,h3⟩:=(show ObjOk P w H h a (.tup (ks.map kV)) from ok a _ e)
 exact ⟨o,its.toArray,n,h1,h2,h3.1,by simpa using om r⟩
theorem Hd {kvs:List (List Key × V)} (ok:HOk P w H h) (e:Rd H a (.dT kvs)):kvs.length≤sizeLine∧(a == sysModules)=false ∧
  ∃ xs,KT H kvs xs∧h.DictOfH (tupleKind (cH P w)) a xs:=by
 obtain ⟨z,y,xs,r,o,es,ep,h1,h2,h3,h4,h5⟩:=(show ObjOk P w H h a (.dT kvs) from AX ok e)
 refine ⟨z,y,xs,r,o,es,ep,h1,h2,h3,h4,fun x hx=>?_,h5⟩
 have all:∀ {l:List (List Key × V)} {m:List (List Key × Addr × Value)},KT H l m→∀ x∈m,(tupleKind (cH P w)).is h x.1 x.2.1:=by
  intro l m q
  induction q with
  | nil=>intro x hx; exact nomatch hx
  | @cons p q ps qs hq t ih =>
   intro x hx
   rcases List.mem_cons.mp hx with e | hx
   ·subst e
    exact Fb ok (by rw [← hq.1]; exact hq.2.1)
   ·exact ih x hx
 exact all r x hx
theorem He {kvs:List (List Key × V)} (ok:HOk P w H h) (e:H a=some (.dT kvs)):kvs.length≤sizeLine∧(a == sysModules)=false ∧
  ∃ xs,KT H kvs xs∧h.DictOfH (tupleKind (cH P w)) a xs:=Hd ok (.inl e)
end
section
variable {X:Cx} {pins:List (Addr × Obj)} {σ:St} {H:Hp} {s:Shared} {a:Addr} {y v:V} {u r:Value} {o:Option V} {A:Around} {E:Value→Shared→Prop}
end
section
variable {X:Cx} {pins:List (Addr × Obj)} {σ:St} {H:Hp} {s:Shared} {a:Addr} {kvs:List (Key × V)} {k:Key} {u:Value} {A:Around} {E:Value→Shared→Prop}
end
section
variable {X:Cx} {o i e value:Expr} {pos pos' tpos:Pos} {td ty tv:TE}
end
section
variable {X:Cx} {pos:Pos}
end
section
variable {X:Cx} {pins:List (Addr × Obj)} {σ:St} {H:Hp} {s:Shared} {a:Addr} {y d:V} {u r:Value} {o:Option V} {A:Around} {E:Value→Shared→Prop}
end
section
variable {X:Cx} {o e f:Expr} {apos cpos:Pos} {td ty tx:TE}
end
section
variable {X:Cx} {pins:List (Addr × Obj)} {σ:St} {H:Hp} {s:Shared} {a:Addr} {kvs:List (Key × V)} {A:Around} {E:Value→Shared→Prop}
end
section
variable {X:Cx} {pins:List (Addr × Obj)} {σ:St} {H:Hp} {s:Shared} {a:Addr} {y:V} {u:Value} {A:Around} {E:Value→Shared→Prop}
end
end L2
namespace L2
open PySem PySem.Spec PyProof.Rows
section
variable {X:Cx}
end
section
variable {κ:Type} [DecidableEq κ]
end
end L2
set_option maxHeartbeats 4000000
namespace L2
open PySem PySem.Spec PyProof.Rows
theorem B1 {α β:Type} {l:List α} {f:α→β→Sem (ForInStep β)} {g:β→α→β} (h:∀ x∈l,∀ c,f x c=pure (.yield (g c x))):∀ c,forIn l c f=pure (l.foldl g c):=by
 induction l with
 | nil=>intro c; rfl
 | cons x l ih =>
  intro c
  rw [List.forIn_cons,h x List.mem_cons_self,pure_bind]
  exact ih (fun y hy=>h y (List.mem_cons_of_mem _ hy)) (g c x)
def eX (env:Env) (acc:List (Str × Addr)) (x:Str × NameKind):List (Str × Addr) :=
 if x.2 == NameKind.free then (x.1,(env.cells.lookup x.1).getD 0) :: acc else acc
def ek (env:Env) (names:List (Str × NameKind)):List (Str × Addr):=names.foldl (eX env) []
theorem m6 {scope:Scope} {env:Env} (h:∀ y∈scope.names,y.2=.free→∃ c,env.cells.lookup y.1=some c):closureFor scope env=pure (ek env scope.names):=by
 simp only [closureFor]
 rw [B1 (g:=eX env) (fun x hx c=>by
  obtain ⟨n,kind⟩:=x
  by_cases hk:kind=.free
  ·obtain ⟨a,e⟩:=h _ hx hk
   subst hk
   have e':env.cells.lookup n=some a:=e
   simp [cellOf,eX,e']
  ·have hb:(kind == NameKind.free)=false:=by simpa using hk
   simp [eX,hb])]
 rfl
theorem m7 {env:Env}:∀ (names:List (Str × NameKind)) (acc:List (Str × Addr)) (p:Str × Addr),
  p∈names.foldl (eX env) acc→p∈acc∨((p.1,NameKind.free)∈names∧p.2=(env.cells.lookup p.1).getD 0)
 | [],_,_,h=>.inl h
 | (n,k) :: r,acc,p,h=>by
  rw [List.foldl_cons] at h
  rcases m7 r _ p h with q | ⟨q,e⟩
  ·unfold eX at q
   by_cases hk:(k == NameKind.free)=true
   ·rw [if_pos hk] at q
    rcases List.mem_cons.mp q with z | z
    ·subst z
     have hk':k=NameKind.free:=by simpa using hk
     subst hk'
     exact .inr ⟨List.mem_cons_self,rfl⟩
    ·exact .inl z
   ·rw [if_neg hk] at q
    exact .inl q
  ·exact .inr ⟨List.mem_cons_of_mem _ q,e⟩
theorem ls {env:Env}:∀ (names:List (Str × NameKind)) (acc:List (Str × Addr)) (p:Str × Addr),p∈acc→p∈names.foldl (eX env) acc
 | [],_,_,h=>h
 | x :: r,acc,p,h=>by
  rw [List.foldl_cons]
  refine ls r _ p ?_
  unfold eX
  split
  ·exact List.mem_cons_of_mem _ h
  ·exact h
theorem m8 {env:Env} {n:Str}:∀ (names:List (Str × NameKind)) (acc:List (Str × Addr)),(n,NameKind.free)∈names→∃ c,(n,c)∈names.foldl (eX env) acc
 | (m,k) :: r,acc,h=>by
  rw [List.foldl_cons]
  rcases List.mem_cons.mp h with e | e
  ·cases e
   exact ⟨(env.cells.lookup n).getD 0,ls r _ _ (by unfold eX; rw [if_pos (show (((n,NameKind.free):Str × NameKind).2 == NameKind.free)=true from rfl)]; exact List.mem_cons_self)⟩
  ·exact m8 r _ e
theorem gB {α:Type}:∀ {l:List (Str × α)} {n:Str} {c:α},(n,c)∈l→∃ c',l.lookup n=some c'
 | (m,d) :: r,n,c,h=>by
  rw [List.lookup_cons]
  cases hb:n == m with
  | true=>exact ⟨d,rfl⟩
  | false =>
   rcases List.mem_cons.mp h with e | e
   ·cases e
    simp at hb
   ·exact gB e
theorem pZ {env:Env} {names:List (Str × NameKind)} {n:Str} (h:(n,NameKind.free)∈names):∃ c,(ek env names).lookup n=some c :=
 let ⟨_,e⟩:=m8 (env:=env) names [] h
 gB e
theorem oA {env:Env} {names:List (Str × NameKind)} {n:Str} {c:Addr} (h:∀ y∈names,y.2=.free→∃ c,env.cells.lookup y.1=some c) (e:(ek env names).lookup n=some c):env.cells.lookup n=some c:=by
 rcases m7 names [] (n,c) (PySem.mem_of_lookup e) with q | ⟨q,z⟩
 ·simp at q
 ·obtain ⟨a,ea⟩:=h _ q rfl
  have z':c=(env.cells.lookup n).getD 0:=z
  have ea':env.cells.lookup n=some a:=ea
  rw [ea'] at z'
  rw [ea',z']
  rfl
theorem jz {env:Env}:∀ {names:List (Str × NameKind)} {x:Str} {k:NameKind},
  (names.map fun (n,k)=>if (k == NameKind.free && env.scope.kind == .function && env.kindOf n == some .cell) then (n,NameKind.cell) else (n,k)).lookup x=some k →
  names.lookup x=some k∨(names.lookup x=some .free∧k=.cell)
 | [],_,_,h=>by simp at h
 | (n,k0) :: r,x,k,h=>by
  rw [List.map_cons] at h
  cases hx:x == n with
  | true =>
   rcases Bool.eq_false_or_eq_true (k0 == NameKind.free && env.scope.kind == .function && env.kindOf n == some .cell) with hc | hc
   ·simp only [hc,if_true,List.lookup_cons,hx] at h
    have hk:k0=.free:=by
     simp only [Bool.and_eq_true,beq_iff_eq] at hc
     exact hc.1.1
    refine .inr ⟨?_,?_⟩
    ·simp only [List.lookup_cons,hx,hk]
    ·exact (Option.some.inj h).symm
   ·simp only [hc,Bool.false_eq_true,if_false,List.lookup_cons,hx] at h
    refine .inl ?_
    simp only [List.lookup_cons,hx]
    exact h
  | false =>
   have h':(r.map fun (n,k)=>if (k == NameKind.free && env.scope.kind == .function && env.kindOf n == some .cell) then (n,NameKind.cell) else (n,k)).lookup x=some k:=by
    rcases Bool.eq_false_or_eq_true (k0 == NameKind.free && env.scope.kind == .function && env.kindOf n == some .cell) with hc | hc
    ·simp only [hc,if_true,List.lookup_cons,hx] at h
     exact h
    ·simp only [hc,Bool.false_eq_true,if_false,List.lookup_cons,hx] at h
     exact h
   simp only [List.lookup_cons,hx]
   exact jz h'
theorem mB {env:Env}:∀ {names:List (Str × NameKind)} {x:Str},names.lookup x=some .free →
  (names.map fun (n,k)=>if (k == NameKind.free && env.scope.kind == .function && env.kindOf n == some .cell) then (n,NameKind.cell) else (n,k)).lookup x=some .cell ∨
  (names.map fun (n,k)=>if (k == NameKind.free && env.scope.kind == .function && env.kindOf n == some .cell) then (n,NameKind.cell) else (n,k)).lookup x=some .free
 | [],_,h=>by simp at h
 | (n,k0) :: r,x,h=>by
  rw [List.map_cons]
  cases hx:x == n with
  | true =>
   simp only [List.lookup_cons,hx] at h
   rcases Bool.eq_false_or_eq_true (k0 == NameKind.free && env.scope.kind == .function && env.kindOf n == some .cell) with hc | hc
   ·refine .inl ?_
    simp only [hc,if_true,List.lookup_cons,hx]
   ·refine .inr ?_
    simp only [hc,Bool.false_eq_true,if_false,List.lookup_cons,hx]
    exact h
  | false =>
   simp only [List.lookup_cons,hx] at h
   have ih:=mB (env:=env) h
   rcases Bool.eq_false_or_eq_true (k0 == NameKind.free && env.scope.kind == .function && env.kindOf n == some .cell) with hc | hc
   ·simp only [hc,if_true,List.lookup_cons,hx]
    exact ih
   ·simp only [hc,Bool.false_eq_true,if_false,List.lookup_cons,hx]
    exact ih
def e7 (js:List (Option Nat)) (σ:St):St:=js.map fun j=>match j with
 | some j=>(σ[j]?).join
 | none=>none
end L2
namespace L2
open PySem PySem.Spec PyProof.Rows
def PTs (X:Cx) (ifs:List Expr) (tt:TT):Prop :=
 ∀ (pins:List (Addr × Obj)) (s:Shared) (σ:St) (H:Hp) (Q:Bool→Hp→Prop),Inv X pins σ H s→tt σ H Q →
  wpAny (model X.prog X.w) X.A (forIn ifs true fun c r=>if r=true then do let ok ← isTrue c X.env (eval c X.env); pure (ForInStep.yield ok) else pure (ForInStep.yield r)) (TP X pins σ Q) X.xe s
def Hk:TT:=fun _ H Q=>Q true H
theorem pts_nil {X:Cx}:PTs X [] Hk:=fun _ _ _ H _ I h=>wpAny_tests_nil ⟨H,I,h⟩
theorem Bn {X:Cx} {c:Expr} {tc:TT} (hc:PT X c tc):PTs X [c] tc:=fun pins s σ H Q I h=>wpAny_tests_one (hc pins s σ H Q I h)
def E5 (g:TG) (tt:TT) (te:TE) (D:Addr) (x:V) (τ:St) (H:Hp) (N:St→Hp→Prop):Prop :=
 g x τ H fun τ4 H4=>tt τ4 H4 fun b H5=>if b=true then te τ4 H5 fun v H6=>∃ xs,H6 D=some (.lst xs)∧xs.length < sizeLine∧N τ4 (upd H6 D (.lst (xs++[v]))) else N τ4 H5
def A4 (J:It) (g:TG) (tt:TT) (te:TE) (σ0:St) (H1:Hp) (D:Addr) (Q:VK):Prop :=
 ∃ W:Nat→Nat→St→Hp→Prop,(∃ m,W 0 m σ0 (upd H1 D (.lst []))) ∧
  ∀ i m τ H2,W i m τ H2→(J.stop i H2∧Q (.ref D) H2)∨(J.go i H2∧∃ N:St→Hp→Prop,(∀ τ' H',N τ' H'→∃ m',m' < m∧W (i+1) m' τ' H')∧∀ x H3,J.yld i H2 x H3→E5 g tt te D x τ H3 N)
def tLC (wi:TI) (g:TG) (tt:TT) (te:TE) (js:List (Option Nat)):TE:=fun σ H Q =>
 wi σ H fun J H1=>∀ D,H1 D=none→A4 J g tt te (e7 js σ) H1 D Q
theorem thF {α:Type} {t:Sem α} {Q Q':α→Shared→Prop} {M:Model} {A:Around} {E:Value→Shared→Prop} {s:Shared} (h:wpAny M A t Q (fun _ _=>False) s) (hQ:∀ a s,Q a s→Q' a s):wpAny M A t Q' E s :=
 wpAny_mono h hQ fun _ _ x=>x.elim
section
variable {X:Cx} {elt tg iter:Expr} {ifs:List Expr} {scope:Scope} {pos:Pos} {ns:List Str} {js:List (Option Nat)} {wi:TI} {g:TG} {tt:TT} {te:TE}
end
end L2
namespace L2
open PySem PySem.Spec PyProof.Rows
section
variable {X:Cx}
theorem sm:∀ (bs:List Bool),(List.range bs.length).all (fun i=>bs.getD i true)=bs.all id:=fun bs=>by
 rw [Bool.eq_iff_iff,List.all_eq_true,List.all_eq_true]
 constructor
 ·intro h b hb
  obtain ⟨i,hi,e⟩:=List.mem_iff_getElem.mp hb
  have q:=h i (List.mem_range.mpr hi)
  rw [List.getD_eq_getElem?_getD,List.getElem?_eq_getElem hi,e] at q
  exact q
 ·intro h i hi
  have hi':=List.mem_range.mp hi
  rw [List.getD_eq_getElem?_getD,List.getElem?_eq_getElem hi']
  exact h _ (List.getElem_mem hi')
theorem vt (hc:X.calm=true):CallR X (.builtin "all") (fun xs H Q=>∃ (p:Addr) (bs:List Bool),xs=[.ref p]∧SqL X.K H p (bs.map V.bl)∧Q (.bl (bs.all id)) H):=by
 intro pins s σ H xs us Q I r h
 obtain ⟨p,bs,rfl,hp,q⟩:=h
 obtain ⟨u,rfl,ru⟩:=dB r
 cases ru
 obtain ⟨its,rv,pl,hz⟩:=I.list hp
 have hl:its.length=bs.length:=by rw [← rv.length,List.length_map]
 have hlt:p < s.heap.objs.size:=by
  obtain ⟨o,n,e,_⟩:=id pl
  exact Heap.lt_size e
 refine call_all_walk (wpAny_pyIter_list pl.isList ?_)
 refine ⟨s.heap.objs.size,[s.heap.objs.size,p],[s.heap.objs.size],its.toArray.size,fun i v=>its.toArray[i]?=some v,_,fun i=>bs.getD i true,rfl,Walks.list (A:=X.A.in1) (show X.A.in1.handled=none from I.ok.hd hc) s.heap.objs.size p (Nat.ne_of_lt hlt) its.toArray,?_,?_,?_⟩
 ·exact ⟨⟨_,Heap.get?_push_size _ rfl,rfl,rfl⟩,pl.isList.push _⟩
 ·intro i v s' Q' E' hv hq
  have hv':its[i]?=some v:=by simpa using hv
  have hi:i < bs.length:=by
   rw [← hl]
   exact (List.getElem?_eq_some_iff.mp hv').1
  obtain ⟨u,hu,ru⟩:=rv.get (i:=i) (x:=V.bl bs[i]) (by rw [List.getElem?_map,List.getElem?_eq_getElem hi]; rfl)
  rw [hu] at hv'
  cases hv'
  cases ru
  have e:bs.getD i true=bs[i]:=by rw [List.getD_eq_getElem?_getD,List.getElem?_eq_getElem hi]; rfl
  have hq':Q' (bs.getD i true) s':=hq
  rw [e] at hq'
  exact wpAny_truthy_bool hq'
 ·intro h' tk hk
  have e:(List.range its.toArray.size).all (fun i=>bs.getD i true)=bs.all id:=by
   rw [← sm bs,List.size_toArray,hl]
  rw [e]
  refine ⟨.bl (bs.all id),H,I.kept (t':=tk) fun b o z=>hk b o ?_ (Heap.get?_push_of_some _ z),rfl,q⟩
  intro z'
  have z'':b=s.heap.objs.size:=by simpa using z'
  exact Nat.ne_of_lt (Heap.lt_size z) z''
theorem vq:CallR X (.builtin "isinstance") (fun xs H Q=>∃ x t n b,xs=[x,.ty n]∧TyOf X.K H x t∧PySem.W.kitOne X.K t (.type n)=some b∧Q (.bl b) H):=by
 intro pins s σ H xs us Q I r h
 obtain ⟨x,t,n,b,rfl,ty,e,q⟩:=h
 obtain ⟨u,w',rfl,r1,r2⟩:=rk r
 cases r2
 exact tJ I r1 ty e fun tk=>⟨.bl b,H,I.tok _,rfl,q⟩
end
section
open PySem.SeqAt
variable {X:Cx} {pins:List (Addr × Obj)} {σ:St} {H:Hp} {s:Shared}
end
section
variable {X:Cx}
theorem Inv.turnedLaid {pins:List (Addr × Obj)} {σ:St} {H:Hp} {s:Shared} {h':Heap} {t':Nat} {fp:List Addr} {p:Addr} {o:HO} (I:Inv X pins σ H s) (f:∀ b∈fp,gM X pins H b) (hp:s.heap.objs.size≤p)
  (k:∀ b ob,b ∉ fp→s.heap.get? b=some ob→h'.get? b=some ob) (th:∀ b∈fp,∃ ob,h'.get? b=some ob) (new:ObjOk X.prog X.w (upd H p o) h' p o):Inv X pins σ (upd H p o) { s with heap:=h',toks:=t' }:=by
 have hn:H p=none:=I.hok.fresh hp
 have ne:∀ b ob,s.heap.get? b=some ob→b≠p:=fun b ob e=>Nat.ne_of_lt (Nat.lt_of_lt_of_le (Heap.lt_size e) hp)
 have nf:∀ b u,H b=some u→b ∉ fp:=fun b u e z=>by rw [(f b z).1] at e; cases e
 refine I.step (g':=s.gens) (d':=s.drawn) (ch:=fp) (fun b hb=>⟨(f b hb).2.2.2.1,(f b hb).2.1,(f b hb).2.2.2.2.1,(f b hb).2.2.2.2.2⟩) (fun b ob _ _ hc e _=>k b ob hc e) (fun b ob _ _ hc e _=>⟨ob.slots,k b ob hc e⟩)
  (fun b ob _ e n=>by rw [bd (ne b ob e)]; exact n) (fun b ob hc e=>⟨ob,k b ob hc e⟩) (fun b xs e=>by rw [bd (cg e hn)]; exact e) (fun b ob u e=>by rw [bd (cg e hn)]; exact e)
  (fun b ps e=>⟨#[],by rw [bd (cg e hn),e]; simp⟩) (fun m hm=>?_) (fun b u e=>?_) I.bare
 ·obtain ⟨ob,es,ep,ho,r⟩:=hm
  exact ⟨ob,es,ep,k _ ob (fun z=>(f _ z).2.1 rfl) ho,r⟩
 ·by_cases hb:b=p
  ·subst hb
   rw [br] at e
   cases e
   exact new
  ·rw [bd hb] at e
   refine (I.hok b u e).stay (fun c v hc q=>k c v ?_ q) (fun c q=>by rw [bd (cg q hn)]; exact q) fun c xs q=>by rw [bd (cg q hn)]; exact q
   rcases hc with z | z
   ·rw [z]; exact nf b u e
   ·exact nf c _ z
def Ite (K:PySem.W.Frag) (a:Addr):It :=
 ⟨fun i H=>∃ xs x,SqL K H a xs∧xs[i]?=some x,
  fun i H y H'=>∃ p x,y=.ref p∧H p=none∧H'=upd H p (.tup [.int i,x])∧∀ xs,SqL K H a xs→xs[i]?=some x,
  fun i H=>∃ xs,SqL K H a xs∧xs.length≤i⟩
theorem sF {P:Program} {w:World} {K:PySem.W.Frag} {elts:List Expr} {k:Nat} {tp:Pos} (a e it:Addr) (hei:e≠it) :
  Turn P w K (.Tuple elts k tp) (Ite K a) [e,it] e (fun i h=>(∃ old,IsEnum h e it i old)∧h.IsListIter it a i) where
 mem:=by simp
 obj:=fun i h st b hb=>by
  obtain ⟨⟨old,he⟩,o,ho,hc,hd⟩:=st
  have hb':b=e∨b=it:=by simpa using hb
  rcases hb' with rfl | rfl
  ·exact ⟨_,he,fun v z=>by
    have z':Data.fields _=Data.cell v:=z
    cases z'⟩
  ·exact ⟨o,ho,fun v z=>by rw [hd] at z; cases z⟩
 keep:=fun i h h' st kp=>⟨let ⟨old,he⟩:=st.1; ⟨old,kp e (by simp) _ he⟩,st.2.at fun o q=>kp it (by simp) o q⟩
 item:=by
  intro X hP hw hK hc i pins s σ H E I hf st hg
  subst hP hw hK
  obtain ⟨xs,x,hq,hx⟩:=hg
  obtain ⟨its,rv,p,hz⟩:=I.list hq
  obtain ⟨u,hu,ru⟩:=rv.get hx
  obtain ⟨⟨old,he⟩,hit⟩:=st
  refine wpAny_pyNext_enum_item he hit p.isList (x:=u) (by simpa using hu) hei fun h1 ho1 hit1 ht1 hz1 hk1=>?_
  refine ⟨_,rfl,wpAny_letOwnedTupleGo_enum ho1 fun h2 he2 hs2=>?_⟩
  have eL:e < s.heap.objs.size:=Heap.lt_size he
  have ht2:h2.get? s.heap.objs.size=some { cls:=.type "tuple",data:=.seq #[.int i s.toks,u] }:=(hs2.2 _ (Nat.ne_of_gt eL)).trans ht1
  have hit2:h2.IsListIter it a (i+1):=hit1.extBut hs2.extBut hei.symm
  have I2:Inv X pins σ (upd H s.heap.objs.size (.tup [.int i,x])) { s with heap:=h2,toks:=s.toks+1 }:=by
   refine I.turnedLaid (fp:=[e,it]) hf (Nat.le_refl _) (fun b ob hb q=>?_) (fun b hb=>?_) ?_
   ·have h1:b≠e:=fun z=>hb (by simp [z])
    have h2':b≠it:=fun z=>hb (by simp [z])
    exact (hs2.2 b h1).trans (hk1 b ob h1 h2' q)
   ·have hb':b=e∨b=it:=by simpa using hb
    rcases hb' with rfl | rfl
    ·exact ⟨_,he2⟩
    ·obtain ⟨o,ho,_⟩:=hit2
     exact ⟨o,ho⟩
   ·refine ⟨(by show 2≤sizeLine; decide),[.int i s.toks,u],.cons ⟨_,rfl⟩ (.cons ru .nil),?_⟩
    exact ⟨_,ht2,rfl,_,rfl,rfl⟩
  have fr:∀ b∈[e,it],upd H s.heap.objs.size (.tup [.int i,x]) b=none:=fun b hb=>by
   have hlt:b < s.heap.objs.size:=by
    have hb':b=e∨b=it:=by simpa using hb
    rcases hb' with rfl | rfl
    ·exact eL
    ·obtain ⟨o,ho,_⟩:=hit
     exact Heap.lt_size ho
   rw [bd (Nat.ne_of_lt hlt)]
   exact (hf b hb).1
  exact ⟨.ref s.heap.objs.size,_,I2,rfl,⟨_,x,rfl,I.fresh,rfl,fun ys hy=>by rw [I.list_inj hy hq]; exact hx⟩,⟨⟨_,he2⟩,hit2⟩,fr⟩
 done:=by
  intro X hP hw hK hc i pins s σ H E I hf st hg
  subst hP hw hK
  obtain ⟨xs,hq,hx⟩:=hg
  obtain ⟨its,rv,p,hz⟩:=I.list hq
  obtain ⟨⟨old,he⟩,hit⟩:=st
  obtain ⟨f0,f1,f2,f3,f4,f5⟩:=hf it (by simp)
  have hl:=rv.length
  exact wpAny_pyNext_enum_end (I.ok.hd hc) he hit p.isList (by simp; omega) fun h' eb=>⟨rfl,I.turned (t':=s.toks) (fun b o hb q=>eb b o hb q) f0 f1 f3 f4 f5⟩
 self:=fun _ _ _ _ _ st h=>let ⟨⟨_,he⟩,_⟩:=st; wpAny_pyIter_enum he h
def Gp (K:PySem.W.Frag) (te tk:TE):TE:=fun σ H Q=>te σ H fun x H1=>tk σ H1 fun y H2=>∃ a xs,x=.ref a∧y=.int (-1)∧SqL K H2 a xs∧∀ p,H2 p=none→Q (.ref p) (upd H2 p (.lst xs.reverse))
theorem ke:∀ {xs:List V} {us:List Value},Vals xs us→Vals xs.reverse us.reverse
 | _,_,.nil=>.nil
 | _,_,.cons r t=>by
  rw [List.reverse_cons,List.reverse_cons]
  exact (ke t).append (.cons r .nil)
theorem Bv {e k:Expr} {te tk:TE} {p2 pos:Pos} (he:PE X e te) (hk:PE X k tk):PE X (.Subscript e (.Slice none none (some k) p2) pos) (Gp X.K te tk):=by
 intro pins s σ H Q I h
 refine Subscript_ (thn (he pins s σ H _ I h) fun v s1 ⟨x,H1,I1,r1,q1⟩=>?_)
 refine wpAny_Slice ?_
 rw [evalPart_none]
 refine wpAny_pure (wpAny_pure ?_)
 rw [evalPart_some]
 refine thn (hk pins s1 σ H1 _ I1 q1) fun vk s3 ⟨y,H3,I3,r3,q3⟩=>?_
 obtain ⟨a,xs,rfl,rfl,hx,q⟩:=q3
 obtain ⟨t,rfl⟩:=r3
 cases r1
 have I4:Inv X pins σ H3 { s3 with heap:=s3.heap.push { cls:=.type "slice",data:=.fields #[.none,.none,.int (-1) t] } }:=I3.kept (t':=s3.toks) fun b ob q=>Heap.get?_push_of_some _ q
 obtain ⟨its,r,ht,hz⟩:=I4.list hx
 show wpAny (model X.prog X.w) X.A (subscriptTail e (.Slice none none (some k) p2) (.ref a) (.ref s3.heap.objs.size)) (EP X pins σ Q) X.xe { s3 with heap:=s3.heap.push { cls:=.type "slice",data:=.fields #[.none,.none,.int (-1) t] } }
 refine tail_any (ops:=[.ref a,.ref s3.heap.objs.size]) ht.isList.typeIs slot_list_getitem.lookup ?_ (by with_unfolding_all rfl)
 have hlen:=r.length
 refine wpAny_getItem_list_slice ht.isList (Heap.IsSliceOf.new ..) .none .none (.int (-1) t) (by simp) ?_ (by rw [List.size_toArray] <;> omega)
 rw [PySem.W.krv_pick]
 refine ⟨.ref _,_,I4.laid (t':=s3.toks) (o:=.lst xs.reverse) (fun b ob q=>Heap.get?_push_of_some _ q) (Nat.le_refl _) ?_,rfl,q _ (I4.hok.fresh (Nat.le_refl _))⟩
 exact ⟨by rw [List.length_reverse]; exact hz,its.reverse,0,ke r,Heap.get?_push_size _ rfl⟩
end
end L2
namespace L2
open PySem PySem.Spec PyProof.Rows
def Kn (P:Program) (w:World) (K:PySem.W.Frag) (mg:Str→Option Value) (base:Heap) (k:Nat) (x:Str) (ps:List Str) (sp:Sp):Prop :=
 ∃ f fd,FnOk P w K mg base CX0 k f fd ps sp∧mg x=some (.ref f)∧PySem.W.keepIn K (.ref f)=true∧Binds K fd ps []
theorem Kn.mono {P:Program} {w:World} {K:PySem.W.Frag} {mg:Str→Option Value} {base:Heap} {j k:Nat} {x:Str} {ps:List Str} {sp:Sp} (G:Kn P w K mg base j x ps sp) (h:j≤k):Kn P w K mg base k x ps sp :=
 let ⟨f,fd,a,b,c,d⟩:=G
 ⟨f,fd,a.mono h,b,c,d⟩
section
variable {X:Cx} {k:Nat} {x:Str} {ps:List Str} {sp:Sp} {p pos:Pos} {e:Expr} {es:List Expr} {t:TA}
theorem A2 (G:Kn X.prog X.w X.K X.mg X.base k x ps sp) (hr:Room k X.A) (hg:Gl X x) (ha:PA X (e :: es) t) (hdb:(x == ("__debug__" : Str))=false:=by decide)
  (he:starEach (e :: es) X.env=(false,eval e X.env) :: starEach es X.env:=by rfl) (hpl:(backTo pos (starEach es X.env)).any (·.1)=false:=by rfl) :
  PE X (.Call (.Name x p) (e :: es) [] pos) (rz sp [] E0 t):=by
 obtain ⟨f,fd,F,hm,hk,hb⟩:=G
 exact By F hr hg hm hk hb .nil GD ha hdb he hpl
end
def Hm (K:PySem.W.Frag):List V→Hp→VK→Prop:=fun xs H Q=>∃ x n,xs=[x]∧Gm K x H n∧Q (.int n) H
def Bk (K:PySem.W.Frag):List V→Hp→VK→Prop:=fun xs H Q=>∃ p ys,xs=[.ref p]∧(SqL K H p ys∨SqT K H p ys)∧∀ l,H l=none→Q (.ref l) (upd H l (.lst ys))
def Ew (K:PySem.W.Frag):List V→Hp→VK→Prop:=fun xs H Q=>∃ p ys,xs=[.ref p]∧((SqL K H p ys∧∀ l,H l=none→Q (.ref l) (upd H l (.tup ys)))∨(SqT K H p ys∧Q (.ref p) H))
def Hn (K:PySem.W.Frag):List V→Hp→VK→Prop:=fun xs H Q=>∃ (p:Addr) (bs:List Bool),xs=[.ref p]∧SqL K H p (bs.map V.bl)∧Q (.bl (bs.all id)) H
section
variable {X:Cx} {K:PySem.W.Frag}
theorem Hu (hK:X.K=K):CallR X (.builtin "len") (Hm K):=by subst hK; exact vp
theorem BJ (hK:X.K=K):CallR X (.type "list") (Bk K):=by subst hK; exact p9
theorem Fe (hK:X.K=K):CallR X (.type "tuple") (Ew K):=by subst hK; exact oW
theorem Hw (hK:X.K=K) (hc:X.calm=true):CallR X (.builtin "all") (Hn K):=by subst hK; exact vt hc
theorem Hv (hK:X.K=K):IxR X (rC K):=by subst hK; exact ix_list
theorem Ht (hK:X.K=K):SlR X (Ey K):=by subst hK; exact Bj
theorem Hs (hK:X.K=K):SlR X (Ex K):=by subst hK; exact Et
variable {tg l:Expr} {tl:TE} {es:List Expr} {t:TGs} {n k:Nat} {pos p p2 cpos apos:Pos}
end
end L2
namespace L2
open PySem PySem.Spec PyProof.Rows
def sgn (c:Nat):V:=.str ⟨#[c]⟩
def Its (z:Str):It:=⟨fun i _=>i < z.cps.size,fun i H x H'=>H'=H∧∃ c,z.cps[i]?=some c∧x=sgn c,fun i _=>z.cps.size≤i⟩
theorem uA {P:Program} {w:World} {K:PySem.W.Frag} {tg:Expr} (it:Addr) (z:Str) (t:Tok) (ty:String) (hty:ty="str_ascii_iterator"∨ty="str_iterator") :
  Turn P w K tg (Its z) [it] it (fun i h=>h.IsStrIter it ty z t i) where
 mem:=by simp
 obj:=fun i h st b hb=>by
  have e:b=it:=by simpa using hb
  subst e
  obtain ⟨o,e,c,d⟩:=st
  exact ⟨o,e,fun v q=>by rw [d] at q; cases q⟩
 keep:=fun i h h' st k=>let ⟨o,e,r⟩:=st; ⟨o,k it (by simp) o e,r⟩
 item:=by
  intro X hP hw hK hc i pins s σ H E I hf st hg
  subst hP hw hK
  obtain ⟨f0,f1,f2,f3,f4,f5⟩:=hf it (by simp)
  have W:Walks X.prog X.w X.A it [it] [it] z.cps.size (SignAt z) (fun i h=>h.IsStrIter it ty z t i):=by
   rcases hty with rfl | rfl
   ·exact Walks.strAscii (I.ok.hd hc) it z t
   ·exact Walks.strWide (I.ok.hd hc) it z t
  refine W.item i s _ _ hg st fun v h' tk hv st' kk=>?_
  obtain ⟨c,u,hcv,rfl⟩:=hv
  have I1:Inv X pins σ H { s with heap:=h',toks:=tk }:=I.turned (fun b o hb e=>kk b o (by simpa using hb) e) f0 f1 f3 f4 f5
  obtain ⟨o,e,ec,ed⟩:=id st'
  refine ⟨_,rfl,pb (s:={ s with heap:=h',toks:=tk }) (n:=ty) e ec ed (by rcases hty with rfl | rfl <;> decide) ⟨sgn c,H,I1,⟨u,rfl⟩,⟨rfl,c,hcv,rfl⟩,st',fun b hb=>(hf b hb).1⟩⟩
 done:=by
  intro X hP hw hK hc i pins s σ H E I hf st hg
  subst hP hw hK
  obtain ⟨f0,f1,f2,f3,f4,f5⟩:=hf it (by simp)
  have hle:z.cps.size≤i:=hg
  rcases hty with rfl | rfl
  ·exact wpAny_pyNext_ascii_end (I.ok.hd hc) st (by simpa using hle) fun h' he=>⟨rfl,I.turned (t':=s.toks) (fun b o hb e=>he b o hb e) f0 f1 f3 f4 f5⟩
  ·exact wpAny_pyNext_wide_end (I.ok.hd hc) st (by simpa using hle) fun h' he=>⟨rfl,I.turned (t':=s.toks) (fun b o hb e=>he b o hb e) f0 f1 f3 f4 f5⟩
 self:=fun A i s Q E st h=>by
  rcases hty with rfl | rfl
  ·exact wpAny_pyIter_striter_ascii st h
  ·exact wpAny_pyIter_striter_wide st h
section
variable {X:Cx} {tg:Expr} {K:PySem.W.Frag}
def eA (z:Str):List V:=z.cps.toList.map sgn
theorem lh:∀ {xs:List V} {us:List Value},xs.length=us.length→(∀ (i:Nat) x u,xs[i]?=some x→us[i]?=some u→RelV x u)→Vals xs us
 | [],[],_,_=>.nil
 | [],_ :: _,h,_=>by cases h
 | _ :: _,[],h,_=>by cases h
 | x :: xs,u :: us,h,f=>.cons (f 0 x u rfl rfl) (lh (Nat.succ.inj h) fun i y v a b=>f (i+1) y v (by simpa using a) (by simpa using b))
theorem nO (hc:X.calm=true):CallR X (.type "list") (fun xs H Q=>∃ z,xs=[.str z]∧z.cps.size≤sizeLine∧∀ l,H l=none→Q (.ref l) (upd H l (.lst (eA z)))):=by
 intro pins s σ H xs us Q I r h
 obtain ⟨z,rfl,hz,q⟩:=h
 obtain ⟨u,rfl,t,rfl⟩:=dB r
 refine call_list_str (I.ok.hd hc) z t (fun h' tk acc c' hk ho hi=>?_) hz
 have hl:(eA z).length=acc.toList.length:=by
  unfold eA
  rw [List.length_map,Array.length_toList,Array.length_toList,hi.1]
 have rv:Vals (eA z) acc.toList:=lh hl fun i x v a b=>by
  obtain ⟨c,tk',hcv,rfl⟩:=hi.2 i v (by simpa using b)
  unfold eA at a
  rw [List.getElem?_map] at a
  have e:z.cps.toList[i]?=some c:=by simpa using hcv
  rw [e] at a
  cases a
  exact ⟨_,rfl⟩
 refine ⟨.ref s.heap.objs.size,_,I.laid (t':=tk) (o:=.lst (eA z)) hk (Nat.le_refl _) ⟨?_,acc.toList,c',rv,by simpa using ho⟩,rfl,q _ I.fresh⟩
 unfold eA
 rw [List.length_map,Array.length_toList]
 exact hz
theorem mx {ys:List Str}:∀ {us:List Value},Vals (ys.map V.str) us→StrsAre us ys:=by
 induction ys with
 | nil=>intro us r; cases r; exact .nil
 | cons y ys ih =>
  intro us r
  cases r with
  | cons r1 r2 =>
   obtain ⟨t,e⟩:=r1
   subst e
   exact .cons y t (ih r2)
def AZ (K:PySem.W.Frag):V→List V→Hp→VK→Prop:=fun x xs H Q=>∃ sep ys p,x=.str sep∧xs=[.ref p]∧(SqL K H p (ys.map V.str)∨SqT K H p (ys.map V.str))∧sep.length≤16∧(ys.map (·.length)).sum+ys.length≤1048576∧Q (.str (Txt.join sep ys)) H
theorem hR (hK:X.K=K):MtR X "str.join" (AZ K):=by
 subst hK
 intro pins s σ H x xs v us Q I rx rs h
 obtain ⟨sep,ys,p,rfl,rfl,hp,hs,hw,q⟩:=h
 obtain ⟨t,rfl⟩:=rx
 obtain ⟨u,rfl,ru⟩:=dB rs
 cases ru
 rcases hp with hp | hp
 ·obtain ⟨its,rv,pl,_⟩:=I.list hp
  exact join_listW pl.isList (by simpa using mx rv) hs hw fun t' k=>⟨.str _,H,I.tok k,⟨_,rfl⟩,q⟩
 ·obtain ⟨its,rv,pl,_⟩:=I.tuple hp
  exact join_tupleW pl (by simpa using mx rv) hs hw fun t' k=>⟨.str _,H,I.tok k,⟨_,rfl⟩,q⟩
def cQ (xs:List Nat) (lo hi:Option Int):List Nat:=(xs.drop (HT.sIx xs.length 0 lo)).take (HT.sIx xs.length xs.length hi - HT.sIx xs.length 0 lo)
theorem pv (n d:Nat) (v:Option Int) (h:d≤n):HT.sIx n d v≤n:=by
 cases v with
 | none=>exact h
 | some i =>
  unfold HT.sIx
  dsimp only
  split <;> omega
theorem uB (lo hi:Option Int) (n:Nat):Builtin.Str.strSliceIndices lo hi 1 n=(List.range (HT.sIx n n hi - HT.sIx n 0 lo)).map (HT.sIx n 0 lo+·):=by
 obtain ⟨h1,h2,h3⟩:=kh lo hi n
 have e:Builtin.Str.strSliceIndices lo hi 1 n=sliceRange (sliceBounds lo hi none n).1 (sliceBounds lo hi none n).2.1 (sliceBounds lo hi none n).2.2:=by
  cases lo <;> cases hi <;> rfl
 rw [e,h1,h2,h3,sliceRange_one]
theorem rA (x:Str) (lo hi:Option Int):Txt.slice x lo hi=⟨(cQ x.cps.toList lo hi).toArray⟩:=by
 unfold Txt.slice
 have hl:x.length=x.cps.toList.length:=by simp [Str.length]
 rw [uB]
 have e:(((List.range (HT.sIx x.length x.length hi - HT.sIx x.length 0 lo)).map (HT.sIx x.length 0 lo+·)).filterMap (x.cps[·]?))=cQ x.cps.toList lo hi:=by
  rw [pick_run,hl]
  rfl
 rw [e]
 split
 ·rename_i hc
  have hc':HT.sIx x.length x.length hi - HT.sIx x.length 0 lo=x.length:=by simpa using hc
  have h1:=pv x.length x.length hi (Nat.le_refl _)
  have ha:HT.sIx x.length 0 lo=0∨x.length=0:=by omega
  have:cQ x.cps.toList lo hi=x.cps.toList:=by
   unfold cQ
   rw [← hl,hc']
   rcases ha with z | z
   ·rw [z,List.drop_zero,hl,List.take_length]
   ·rw [z,List.take_zero]
    rw [hl] at z
    exact (List.eq_nil_of_length_eq_zero z).symm
  rw [this]
 ·rfl
def Hl:V→Option Int→Option Int→Hp→VK→Prop:=fun x lo hi H Q=>∃ z,x=.str z∧z.length≤sizeLine∧Q (.str ⟨(cQ z.cps.toList lo hi).toArray⟩) H
theorem sl_str:SlR X Hl:=by
 intro pins s σ H x v vl vu lo hi sl Q I rx hs pl pu h
 obtain ⟨z,rfl,hz,q⟩:=h
 obtain ⟨t,rfl⟩:=rx
 rw [← rA] at q
 have go:∀ (l u:Option (Int × Tok)),s.heap.IsSlice sl l u none→l.map (·.1)=lo→u.map (·.1)=hi→wpAny (model X.prog X.w) X.A (getItem (.str z t) (.ref sl)) (EP X pins σ Q) X.xe s:=fun l u hsl e1 e2=>by
  subst e1 e2
  exact wpAny_getItem_str_slice (st:=none) hsl rfl (post_val_or_str ⟨Nat.le_trans (Txt.slice_le z _ _) hz,fun t' k=>⟨.str _,H,I.tok k,⟨_,rfl⟩,q⟩⟩)
 refine ⟨"str",_,F.slot_str_getitem.lookup,typeIs_str _ _ _,?_⟩
 cases pl with
 | none =>
  cases pu with
  | none=>exact go none none hs rfl rfl
  | int j u=>exact go none (some (j,u)) hs rfl rfl
 | int i t =>
  cases pu with
  | none=>exact go (some (i,t)) none hs rfl rfl
  | int j u=>exact go (some (i,t)) (some (j,u)) hs rfl rfl
end
end L2
namespace L2
open PySem PySem.Spec PyProof.Rows
section
variable {l l':List Addr} {H H':Hp} {a b:Addr} {o:HO}
end
section
variable {K:PySem.W.Frag}
end
end L2
namespace L2
open PySem PySem.Spec PyProof.Rows
section
variable {X:Cx} {tg:Expr} {K:PySem.W.Frag}
theorem Inv.turnedMany {pins:List (Addr × Obj)} {σ:St} {H:Hp} {s:Shared} {h':Heap} {t':Nat} {fp:List Addr} (I:Inv X pins σ H s) (f:∀ b∈fp,gM X pins H b)
  (k:∀ b ob,b ∉ fp→s.heap.get? b=some ob→h'.get? b=some ob):Inv X pins σ H { s with heap:=h',toks:=t' }:=by
 have nf:∀ b u,H b=some u→b ∉ fp:=fun b u e z=>by rw [(f b z).1] at e; cases e
 refine I.step (g':=s.gens) (d':=s.drawn) (ch:=fp) (fun b hb=>⟨(f b hb).2.2.2.1,(f b hb).2.1,(f b hb).2.2.2.2.1,(f b hb).2.2.2.2.2⟩) (fun b ob _ _ hc e _=>k b ob hc e) (fun b ob _ _ hc e _=>⟨ob.slots,k b ob hc e⟩)
  (fun _ _ _ _ n=>n) (fun b ob hc e=>⟨ob,k b ob hc e⟩) (fun _ _ e=>e) (fun _ _ _ e=>e) (fun b ps e=>⟨#[],by rw [e]; simp⟩) (fun m hm=>?_) (fun b u e=>?_) I.bare
 ·obtain ⟨ob,es,ep,ho,r⟩:=hm
  exact ⟨ob,es,ep,k _ ob (fun z=>(f _ z).2.1 rfl) ho,r⟩
 ·refine (I.hok b u e).stay (fun c v hc q=>k c v ?_ q) (fun _ q=>q) fun _ _ q=>q
  rcases hc with z | z
  ·rw [z]; exact nf b u e
  ·exact nf c _ z
def Go (te tk:TE):TE:=fun σ H Q=>te σ H fun x H1=>tk σ H1 fun y H2=>∃ z,x=.str z∧y=.int (-1)∧z.length≤sizeLine∧Q (.str ⟨z.cps.toList.reverse.toArray⟩) H2
theorem Bu {e k:Expr} {te tk:TE} {p2 pos:Pos} (he:PE X e te) (hk:PE X k tk):PE X (.Subscript e (.Slice none none (some k) p2) pos) (Go te tk):=by
 intro pins s σ H Q I h
 refine Subscript_ (thn (he pins s σ H _ I h) fun v s1 ⟨x,H1,I1,r1,q1⟩=>?_)
 refine wpAny_Slice ?_
 rw [evalPart_none]
 refine wpAny_pure (wpAny_pure ?_)
 rw [evalPart_some]
 refine thn (hk pins s1 σ H1 _ I1 q1) fun vk s3 ⟨y,H3,I3,r3,q3⟩=>?_
 obtain ⟨z,rfl,rfl,hz,q⟩:=q3
 obtain ⟨t,rfl⟩:=r3
 obtain ⟨t1,rfl⟩:=r1
 have I4:Inv X pins σ H3 { s3 with heap:=s3.heap.push { cls:=.type "slice",data:=.fields #[.none,.none,.int (-1) t] } }:=I3.kept (t':=s3.toks) fun b ob q=>Heap.get?_push_of_some _ q
 show wpAny (model X.prog X.w) X.A (subscriptTail e (.Slice none none (some k) p2) (.str z t1) (.ref s3.heap.objs.size)) (EP X pins σ Q) X.xe { s3 with heap:=s3.heap.push { cls:=.type "slice",data:=.fields #[.none,.none,.int (-1) t] } }
 refine tail_any (ops:=[.str z t1,.ref s3.heap.objs.size]) (typeIs_str _ _ _) F.slot_str_getitem.lookup ?_ (by with_unfolding_all rfl)
 refine wpAny_getItem_str_slice (l:=none) (u:=none) (st:=some (-1,t)) ⟨_,Heap.get?_push_size _ rfl,rfl,rfl⟩ rfl ?_
 have e:sliceMade z t1 none none (some (-1,t))=.str ⟨z.cps.toList.reverse.toArray⟩:=by
  unfold sliceMade
  rw [if_neg (by
   intro q
   have q':((-1:Int) == 1 && (slicePicked z none none (some (-1,t))).length == z.length)=true:=q
   rw [show ((-1:Int) == 1)=false by decide,Bool.false_and] at q'
   cases q')]
  show Made.str ⟨((sliceRange ((z.cps.size:Int) - 1) (-1) (-1)).filterMap (z.cps[·]?)).toArray⟩=_
  rw [PySem.W.krv_sliceRange,PySem.W.krv_range,List.filterMap_reverse,PySem.W.krv_all]
 rw [e]
 refine ⟨?_,⟨.str _,H3,I4.tok _,⟨_,rfl⟩,q⟩⟩
 show z.cps.toList.reverse.toArray.size≤sizeLine
 rw [List.size_toArray,List.length_reverse,Array.length_toList]
 exact hz
end
section
variable {prog:Program} {w:World} {A:Around} {E:Value→Shared→Prop} {s:Shared}
end
section
variable {X:Cx} {tg:Expr} {K:PySem.W.Frag}
end
end L2
namespace L2
open PySem PySem.Spec PyProof.Rows
abbrev li (z:Str):List Nat:=z.cps.toList
def mk1 (c:Nat):Str:=⟨#[c]⟩
def ofL (l:List Nat):Str:=⟨l.toArray⟩
theorem ib (l:List Nat):li (ofL l)=l:=rfl
theorem sZ (z:Str):ofL (li z)=z:=rfl
theorem E3 {a b:Str} (h:li a=li b):a=b:=by rw [← sZ a,← sZ b,h]
theorem len_li (z:Str):z.length=(li z).length:=rfl
theorem tm (a b:Str):li (a++b)=li a++li b:=by
 show (a.cps++b.cps).toList=_
 rw [Array.toList_append]
def emp:Str:=""
def cat (ks:List Str):Str:=Txt.join emp ks
def bz (ks:List Str):List Nat:=(ks.map li).flatten
theorem Gi (ks:List Str):li (cat ks)=bz ks:=by
 unfold cat Txt.join bz
 rw [StrLaws.glued_eq_join]
 induction ks with
 | nil=>rfl
 | cons x r ih =>
  cases r with
  | nil =>
   show li x=_
   simp
  | cons y r =>
   show li (x++emp++Str.join emp (y :: r))=_
   rw [tm,tm,ih]
   show li x++[]++_=li x++((y :: r).map li).flatten
   rw [List.append_nil]
theorem qa (cs:List Nat):bz (cs.map mk1)=cs:=by
 unfold bz
 rw [List.map_map]
 induction cs with
 | nil=>rfl
 | cons c r ih =>
  rw [List.map_cons,List.flatten_cons,ih]
  rfl
theorem oH (ks:List Str) (x:Str):bz (ks++[x])=bz ks++li x:=by
 unfold bz
 rw [List.map_append,List.flatten_append]
 simp
theorem qb (ks:List Str):(ks.map (·.length)).sum=(bz ks).length:=by
 unfold bz
 rw [List.length_flatten,List.map_map]
 rfl
def Sub (x z:List Nat):Prop:=∀ c∈x,c∈z
theorem jM (l:List Nat) (lo hi:Option Int):(cQ l lo hi).length≤l.length:=by
 unfold cQ
 rw [List.length_take,List.length_drop]
 omega
theorem iH {α β:Type} (f:α→β):∀ (ys:List α) (k:Nat),(ys.map f).eraseIdx k=(ys.eraseIdx k).map f
 | [],_=>rfl
 | _ :: _,0=>rfl
 | y :: ys,k+1=>by
  show f y :: (ys.map f).eraseIdx k=f y :: (ys.eraseIdx k).map f
  rw [iH f ys k]
theorem Eu {n:Nat} {i:Int} (h0:0≤i) (h1:i < (n:Int)):seqIndex? i n=some i.toNat:=PySem.seqIndex_of h0 h1
theorem mZ:∀ (us:List Nat) (d:Nat) (h:d < us.length),([us[d]]++us.eraseIdx d).Perm us
 | [],_,h=>absurd h (Nat.not_lt_zero _)
 | a :: r,0,_=>List.Perm.refl _
 | a :: r,d+1,h=>by
  have h':d < r.length:=Nat.lt_of_succ_lt_succ h
  show (r[d] :: a :: r.eraseIdx d).Perm (a :: r)
  exact (List.Perm.swap _ _ _).trans (List.Perm.cons a (mZ r d h'))
end L2
namespace L2
open PySem PySem.Spec PyProof.Rows
def ck (x:Str):String:=if x.cps.all (· < 128) then "str_ascii_iterator" else "str_iterator"
section
variable {prog:Program} {w:World} {A:Around} {E:Value→Shared→Prop} {s:Shared}
theorem lj {x:Str} {t:Tok} {Q:Value→Shared→Prop} (hQ:Q (.ref s.heap.objs.size) { s with heap:=s.heap.push { cls:=.type (ck x),data:=.fields #[.str x t,.int 0 0] } }) :
  wpAny (model prog w) A (pyIter (.str x t)) Q E s:=by
 unfold ck at hQ
 cases ha:x.cps.all (· < 128)
 ·rw [ha] at hQ
  exact wpAny_pyIter_wide ha hQ
 ·rw [ha] at hQ
  exact wpAny_pyIter_ascii ha hQ
theorem fC (hh:A.handled=none) (it:Addr) (x:Str) (t:Tok) :
  Draws prog w A it [it] x.cps.size (fun i v=>∃ c u,x.cps[i]?=some c∧v=.str ⟨#[c]⟩ u) (fun i h=>h.IsStrIter it (ck x) x t i):=by
 unfold ck
 split
 ·exact Draws.strAscii hh it x t
 ·exact Draws.strWide hh it x t
structure ZApart (z TI TO i1 i2:Addr):Prop where
 TIz:TI≠z
 TOz:TO≠z
 i1z:i1≠z
 i2z:i2≠z
 TITO:TI≠TO
 TIi1:TI≠i1
 TIi2:TI≠i2
 TOi1:TO≠i1
 TOi2:TO≠i2
 i12:i1≠i2
theorem ca {h h':Heap} {a b:Addr} {ty:String} {x:Str} {t:Tok} {i:Nat} (st:h.IsStrIter a ty x t i) (s:Heap.SameBut b h h') (ne:a≠b):h'.IsStrIter a ty x t i :=
 let ⟨o,ho,r⟩:=st; ⟨o,s.extBut _ _ ne ho,r⟩
theorem nr {z TI TO i1 i2:Addr} {k1 k2:Nat} {x1 x2:Str} {t1 t2:Tok} {a b:Value} {Q:Value→Shared→Prop} (hh:A.handled=none) (D:ZApart z TI TO i1 i2)
  (hz:IsZip s.heap z TI TO .none) (hTI:IsPair s.heap TI (.ref i1) (.ref i2)) (hTO:IsPair s.heap TO a b)
  (h1:s.heap.IsStrIter i1 (ck x1) x1 t1 k1) (h2:s.heap.IsStrIter i2 (ck x2) x2 t2 k2) (hk1:k1 < x1.cps.size) (hk2:k2 < x2.cps.size)
  (hQ:∀ h' tk c d u v,x1.cps[k1]?=some c→x2.cps[k2]?=some d→IsZip h' z TI TO (rawInt s.heap.objs.size)→IsPair h' TO (.str ⟨#[c]⟩ u) (.str ⟨#[d]⟩ v)→h'.IsStrIter i1 (ck x1) x1 t1 (k1+1)→h'.IsStrIter i2 (ck x2) x2 t2 (k2+1) →
   IsPair h' s.heap.objs.size (.str ⟨#[c]⟩ u) (.str ⟨#[d]⟩ v)→h'.objs.size=s.heap.objs.size+1 →
   (∀ c o,c≠z→c≠TO→c≠i1→c≠i2→s.heap.get? c=some o→h'.get? c=some o)→Q (.ref s.heap.objs.size) { s with heap:=h',toks:=tk }) :
  wpAny (model prog w) A (Builtin.«zip.__next__» ⟨[.ref z],[]⟩) (fun fin s'=>∃ v,fin=.done (.ret v)∧Q v s') E s:=by
 show wpAny _ _ (field (.ref z) 2 >>= _) _ _ _
 refine wpAny_bind (wpAny_field hz rfl (x:=.bool false) rfl ?_)
 show wpAny _ _ (field (.ref z) 3 >>= _) _ _ _
 refine wpAny_bind (wpAny_field hz rfl (x:=.ref TI) rfl ?_)
 refine wpAny_bind (wpAny_seqItems hTI rfl ?_)
 show wpAny _ _ (Builtin.SmallTypes.ownedTupleIsFree (.ref z) >>= _) _ _ _
 refine wpAny_bind ?_
 unfold Builtin.SmallTypes.ownedTupleIsFree
 refine wpAny_bind (wpAny_field hz rfl (x:=.none) rfl (wpAny_pure ?_))
 simp only [if_true]
 refine wpAny_bind (wpAny_rule ?_)
 refine wpAny_bind (wpAny_field hz rfl (x:=.ref TO) rfl ?_)
 refine wpAny_bind (wpAny_setField_rec hz (by simp) fun h₁ hz₁ hs₁=>?_)
 replace hz₁:IsZip h₁ z TI TO .ellipsis:=hz₁
 refine wpAny_bind ?_
 simp only [List.zipIdx_cons,List.zipIdx_nil,List.forIn_cons,List.forIn_nil]
 refine wpAny_bind (wpAny_bind (wpAny_onRaise ?_))
 show wpAny _ _ (Builtin.SmallTypes.nextOf (.ref i1) >>= _) _ _ _
 refine wpAny_bind ((fC hh i1 x1 t1).item k1 _ _ _ hk1 (ca h1 hs₁ D.i1z) fun v1 h₂ tk2 hp1 h1₂ hs₂=>wpAny_pure ?_)
 obtain ⟨c,u,hc,rfl⟩:=hp1
 have hTO₂:IsPair h₂ TO a b:=hs₂.extBut _ _ D.TOi1 (hs₁.extBut _ _ D.TOz hTO)
 refine wpAny_bind (wpAny_seqItems hTO₂ rfl ?_)
 refine wpAny_bind (wpAny_updateSeq_pair hTO₂ fun h₃ hTO₃ hs₃=>?_)
 replace hTO₃:IsPair h₃ TO (.str ⟨#[c]⟩ u) b:=hTO₃
 refine wpAny_bind (wpAny_letGo (wpAny_pure ?_))
 refine wpAny_bind (wpAny_bind (wpAny_onRaise ?_))
 show wpAny _ _ (Builtin.SmallTypes.nextOf (.ref i2) >>= _) _ _ _
 refine wpAny_bind ((fC hh i2 x2 t2).item k2 _ _ _ hk2 (ca (ca (ca h2 hs₁ D.i2z) hs₂ D.i12.symm) hs₃ D.TOi2.symm) fun v2 h₄ tk4 hp2 h2₄ hs₄=>wpAny_pure ?_)
 obtain ⟨d,v,hd,rfl⟩:=hp2
 have hTO₄:IsPair h₄ TO (.str ⟨#[c]⟩ u) b:=hs₄.extBut _ _ D.TOi2 hTO₃
 refine wpAny_bind (wpAny_seqItems hTO₄ rfl ?_)
 refine wpAny_bind (wpAny_updateSeq_pair hTO₄ fun h₅ hTO₅ hs₅=>?_)
 replace hTO₅:IsPair h₅ TO (.str ⟨#[c]⟩ u) (.str ⟨#[d]⟩ v):=hTO₅
 refine wpAny_bind (wpAny_letGo (wpAny_pure (wpAny_pure ?_)))
 refine wpAny_bind (wpAny_seqItems hTO₅ rfl ?_)
 refine wpAny_bind (wpAny_newTuple ?_)
 have hsz:h₅.objs.size=s.heap.objs.size:=by rw [hs₅.1,hs₄.1,hs₃.1,hs₂.1,hs₁.1]
 have hz₅:IsZip h₅ z TI TO .ellipsis:=hs₅.extBut _ _ D.TOz.symm (hs₄.extBut _ _ D.i2z.symm (hs₃.extBut _ _ D.TOz.symm (hs₂.extBut _ _ D.i1z.symm hz₁)))
 have hk₅:∀ c o,c≠z→c≠TO→c≠i1→c≠i2→s.heap.get? c=some o→h₅.get? c=some o:=fun c o c1 c2 c3 c4 e =>
  hs₅.extBut _ _ c2 (hs₄.extBut _ _ c4 (hs₃.extBut _ _ c2 (hs₂.extBut _ _ c3 (hs₁.extBut _ _ c1 e))))
 have h1₅:h₅.IsStrIter i1 (ck x1) x1 t1 (k1+1):=ca (ca (ca h1₂ hs₃ D.TOi1.symm) hs₄ D.i12) hs₅ D.TOi1.symm
 have h2₅:h₅.IsStrIter i2 (ck x2) x2 t2 (k2+1):=ca h2₄ hs₅ D.TOi2.symm
 have hzlt:z < h₅.objs.size:=Heap.lt_size hz₅
 show wpAny _ _ (Builtin.SmallTypes.ownedTupleHandOut (.ref z) (.ref h₅.objs.size) >>= _) _ _ _
 refine wpAny_bind ?_
 unfold Builtin.SmallTypes.ownedTupleHandOut
 have hz₆:IsZip (h₅.push { cls:=.type "tuple",data:=.seq #[.str ⟨#[c]⟩ u,.str ⟨#[d]⟩ v] }) z TI TO .ellipsis:=Heap.get?_push_of_some _ hz₅
 refine wpAny_bind (wpAny_setField_rec hz₆ (by simp) fun h₇ hz₇ hs₇=>?_)
 replace hz₇:IsZip h₇ z TI TO (rawInt h₅.objs.size):=hz₇
 refine wpAny_setField_rec hz₇ (by simp) fun h₈ hz₈ hs₈=>?_
 replace hz₈:IsZip h₈ z TI TO (rawInt h₅.objs.size):=hz₈
 have up:∀ c o,c≠z→h₅.get? c=some o→h₈.get? c=some o:=fun c o c1 e=>hs₈.extBut _ _ c1 (hs₇.extBut _ _ c1 (Heap.get?_push_of_some _ e))
 have hT₈:IsPair h₈ h₅.objs.size (.str ⟨#[c]⟩ u) (.str ⟨#[d]⟩ v):=hs₈.extBut _ _ (Nat.ne_of_gt hzlt) (hs₇.extBut _ _ (Nat.ne_of_gt hzlt) (Heap.get?_push_size _ rfl))
 have hz8:h₈.objs.size=h₅.objs.size+1:=by rw [hs₈.1,hs₇.1,Heap.size_push]
 rw [hsz] at hz₈ hT₈ hz8
 refine wpAny_pure ⟨_,rfl,?_⟩
 show Q (.ref h₅.objs.size) _
 rw [hsz]
 exact hQ h₈ _ c d u v hc hd hz₈ (up _ _ D.TOz hTO₅) (let ⟨o,ho,r⟩:=h1₅; ⟨o,up _ _ D.i1z ho,r⟩) (let ⟨o,ho,r⟩:=h2₅; ⟨o,up _ _ D.i2z ho,r⟩) hT₈ hz8 fun c o c1 c2 c3 c4 e=>up c o c1 (hk₅ c o c1 c2 c3 c4 e)
theorem oM {z TI TO i1 i2:Addr} {k1 k2:Nat} {x1 x2:Str} {t1 t2:Tok} {a b:Value} {Q:Fin→Shared→Prop} (hh:A.handled=none) (D:ZApart z TI TO i1 i2)
  (hz:IsZip s.heap z TI TO .none) (hTI:IsPair s.heap TI (.ref i1) (.ref i2)) (hTO:IsPair s.heap TO a b)
  (h1:s.heap.IsStrIter i1 (ck x1) x1 t1 k1) (h2:s.heap.IsStrIter i2 (ck x2) x2 t2 k2) (hend:k1=x1.cps.size∨(k1 < x1.cps.size∧k2=x2.cps.size))
  (hE:∀ h' e tk,(∀ c o,c≠z→c≠TO→c≠i1→c≠i2→s.heap.get? c=some o→h'.get? c=some o)→(∃ o,h'.get? e=some o∧o.cls=.type "StopIteration")→E (.ref e) { s with heap:=h',toks:=tk }) :
  wpAny (model prog w) A (Builtin.«zip.__next__» ⟨[.ref z],[]⟩) Q E s:=by
 show wpAny _ _ (field (.ref z) 2 >>= _) _ _ _
 refine wpAny_bind (wpAny_field hz rfl (x:=.bool false) rfl ?_)
 show wpAny _ _ (field (.ref z) 3 >>= _) _ _ _
 refine wpAny_bind (wpAny_field hz rfl (x:=.ref TI) rfl ?_)
 refine wpAny_bind (wpAny_seqItems hTI rfl ?_)
 show wpAny _ _ (Builtin.SmallTypes.ownedTupleIsFree (.ref z) >>= _) _ _ _
 refine wpAny_bind ?_
 unfold Builtin.SmallTypes.ownedTupleIsFree
 refine wpAny_bind (wpAny_field hz rfl (x:=.none) rfl (wpAny_pure ?_))
 simp only [if_true]
 refine wpAny_bind (wpAny_rule ?_)
 refine wpAny_bind (wpAny_field hz rfl (x:=.ref TO) rfl ?_)
 refine wpAny_bind (wpAny_setField_rec hz (by simp) fun h₁ hz₁ hs₁=>?_)
 replace hz₁:IsZip h₁ z TI TO .ellipsis:=hz₁
 refine wpAny_bind ?_
 simp only [List.zipIdx_cons,List.zipIdx_nil,List.forIn_cons,List.forIn_nil]
 refine wpAny_bind (wpAny_bind (wpAny_onRaise ?_))
 show wpAny _ _ (Builtin.SmallTypes.nextOf (.ref i1) >>= _) _ _ _
 rcases hend with rfl | ⟨hk1,rfl⟩
 ·refine wpAny_bind ((fC hh i1 x1 t1).done _ _ _ (ca h1 hs₁ D.i1z) fun h₂ e hs₂ he=>?_)
  obtain ⟨oe,hoe,hce⟩:=he
  have hz₂:IsZip h₂ z TI TO .ellipsis:=hs₂ _ _ D.i1z.symm hz₁
  have hez:e≠z:=fun x=>by subst x; rw [hz₂] at hoe; cases hoe; simp at hce
  refine wpAny_setField_rec hz₂ (by simp) fun h₃ _ hs₃=>hE h₃ e _ (fun c o c1 _ c3 _ x=>hs₃.extBut _ _ c1 (hs₂ _ _ c3 (hs₁.extBut _ _ c1 x))) ⟨oe,hs₃.extBut _ _ hez hoe,hce⟩
 ·refine wpAny_bind ((fC hh i1 x1 t1).item k1 _ _ _ hk1 (ca h1 hs₁ D.i1z) fun v1 h₂ tk2 hp1 h1₂ hs₂=>wpAny_pure ?_)
  have hTO₂:IsPair h₂ TO a b:=hs₂.extBut _ _ D.TOi1 (hs₁.extBut _ _ D.TOz hTO)
  refine wpAny_bind (wpAny_seqItems hTO₂ rfl ?_)
  refine wpAny_bind (wpAny_updateSeq_pair hTO₂ fun h₃ hTO₃ hs₃=>?_)
  refine wpAny_bind (wpAny_letGo (wpAny_pure ?_))
  refine wpAny_bind (wpAny_bind (wpAny_onRaise ?_))
  show wpAny _ _ (Builtin.SmallTypes.nextOf (.ref i2) >>= _) _ _ _
  refine wpAny_bind ((fC hh i2 x2 t2).done _ _ _ (ca (ca (ca h2 hs₁ D.i2z) hs₂ D.i12.symm) hs₃ D.TOi2.symm) fun h₄ e hs₄ he=>?_)
  obtain ⟨oe,hoe,hce⟩:=he
  have hz₄:IsZip h₄ z TI TO .ellipsis:=hs₄ _ _ D.i2z.symm (hs₃.extBut _ _ D.TOz.symm (hs₂.extBut _ _ D.i1z.symm hz₁))
  have hez:e≠z:=fun x=>by subst x; rw [hz₄] at hoe; cases hoe; simp at hce
  refine wpAny_setField_rec hz₄ (by simp) fun h₅ _ hs₅=>hE h₅ e _ (fun c o c1 c2 c3 c4 x=>hs₅.extBut _ _ c1 (hs₄ _ _ c4 (hs₃.extBut _ _ c2 (hs₂.extBut _ _ c3 (hs₁.extBut _ _ c1 x))))) ⟨oe,hs₅.extBut _ _ hez hoe,hce⟩
theorem lD {z TI TO i1 i2:Addr} {k1 k2:Nat} {x1 x2:Str} {t1 t2:Tok} {a b:Value} {Q:Option Value→Shared→Prop} (hh:A.handled=none) (D:ZApart z TI TO i1 i2)
  (hz:IsZip s.heap z TI TO .none) (hTI:IsPair s.heap TI (.ref i1) (.ref i2)) (hTO:IsPair s.heap TO a b)
  (h1:s.heap.IsStrIter i1 (ck x1) x1 t1 k1) (h2:s.heap.IsStrIter i2 (ck x2) x2 t2 k2) (hk1:k1 < x1.cps.size) (hk2:k2 < x2.cps.size)
  (hQ:∀ h' tk c d u v,x1.cps[k1]?=some c→x2.cps[k2]?=some d→IsZip h' z TI TO (rawInt s.heap.objs.size)→IsPair h' TO (.str ⟨#[c]⟩ u) (.str ⟨#[d]⟩ v)→h'.IsStrIter i1 (ck x1) x1 t1 (k1+1)→h'.IsStrIter i2 (ck x2) x2 t2 (k2+1) →
   IsPair h' s.heap.objs.size (.str ⟨#[c]⟩ u) (.str ⟨#[d]⟩ v)→h'.objs.size=s.heap.objs.size+1 →
   (∀ c o,c≠z→c≠TO→c≠i1→c≠i2→s.heap.get? c=some o→h'.get? c=some o)→Q (some (.ref s.heap.objs.size)) { s with heap:=h',toks:=tk }) :
  wpAny (model prog w) A (pyNext (.ref z)) Q E s:=by
 have hT:s.TypeIs (.ref z) "zip":=⟨_,hz,rfl⟩
 unfold pyNext
 exact wpAny_bind (wpAny_attempt (wpAny_callSpecial?_slot (name:=Str.ofString "__next__") hT F.slot_zip_next
  (wpAny_call_entry F.slot_zip_next hT F.entry_zip_next
   (nr hh D hz hTI hTO h1 h2 hk1 hk2 fun h' tk c d u v a1 a2 a3 a4 a5 a6 a7 a8 a9=>wpAny_pure (hQ h' tk c d u v a1 a2 a3 a4 a5 a6 a7 a8 a9)) (F.args_zip_next_1 _))))
theorem mC {z TI TO i1 i2:Addr} {k1 k2:Nat} {x1 x2:Str} {t1 t2:Tok} {a b:Value} {Q:Option Value→Shared→Prop} (hh:A.handled=none) (D:ZApart z TI TO i1 i2)
  (hz:IsZip s.heap z TI TO .none) (hTI:IsPair s.heap TI (.ref i1) (.ref i2)) (hTO:IsPair s.heap TO a b)
  (h1:s.heap.IsStrIter i1 (ck x1) x1 t1 k1) (h2:s.heap.IsStrIter i2 (ck x2) x2 t2 k2) (hend:k1=x1.cps.size∨(k1 < x1.cps.size∧k2=x2.cps.size))
  (hQ:∀ h' tk,(∀ c o,c≠z→c≠TO→c≠i1→c≠i2→s.heap.get? c=some o→h'.get? c=some o)→Q none { s with heap:=h',toks:=tk }):wpAny (model prog w) A (pyNext (.ref z)) Q E s:=by
 have hT:s.TypeIs (.ref z) "zip":=⟨_,hz,rfl⟩
 unfold pyNext
 refine wpAny_bind (wpAny_attempt (wpAny_callSpecial?_slot (name:=Str.ofString "__next__") hT F.slot_zip_next
  (wpAny_call_entry F.slot_zip_next hT F.entry_zip_next (oM hh D hz hTI hTO h1 h2 hend fun h' e tk hk he=>?_) (F.args_zip_next_1 _))))
 obtain ⟨o,ho,hc⟩:=he
 refine wpAny_bind (wpAny_isInstance (T:="StopIteration") (b:=true) ⟨o,ho,hc⟩ isSubtype_stop ?_)
 exact wpAny_pure (hQ _ tk hk)
end
abbrev zS1 (h:Heap) (x:Str) (t:Tok):Heap:=h.push { cls:=.type (ck x),data:=.fields #[.str x t,.int 0 0] }
abbrev zS2 (h:Heap) (x y:Str) (t u:Tok):Heap:=(zS1 h x t).push { cls:=.type (ck y),data:=.fields #[.str y u,.int 0 0] }
abbrev zS3 (h:Heap) (x y:Str) (t u:Tok):Heap:=(zS2 h x y t u).push { cls:=.type "tuple",data:=.seq #[.ref h.objs.size,.ref (zS1 h x t).objs.size] }
abbrev zS4 (h:Heap) (x y:Str) (t u:Tok):Heap:=(zS3 h x y t u).push { cls:=.type "tuple",data:=.seq #[.none,.none] }
abbrev zS5 (h:Heap) (x y:Str) (t u:Tok):Heap:=(zS4 h x y t u).push { cls:=.type "zip",data:=.fields #[.none,.bool false,.bool false,.ref (zS2 h x y t u).objs.size,.ref (zS3 h x y t u).objs.size] }
theorem nF (x y:Str) (t u:Tok) :
  Meets (Builtin.«zip.__new__» ⟨[.type "zip",.str x t,.str y u],[]⟩) (fun _ R s=>R (.ok (.ret (.ref (zS4 s.heap x y t u).objs.size))) { s with heap:=zS5 s.heap x y t u }) :=
 .of_wp fun prog w A R s h=>by
  obtain ⟨hp,g,d,tk,os⟩:=s
  have hsub:isSubtype (.type "zip") (.type "zip")=pure true:=by rw [isSubtype_type]; kernel_rfl
  wp_walk using lj (x:=x) (t:=t),lj (x:=y) (t:=u)
  exact ⟨_,rfl,h⟩
section
variable {prog:Program} {w:World} {A:Around} {E:Value→Shared→Prop} {s:Shared}
theorem ug {x y:Str} {t u:Tok} {Q:Value→Shared→Prop}
  (h:∀ h',IsZip h' (s.heap.objs.size+4) (s.heap.objs.size+2) (s.heap.objs.size+3) .none→IsPair h' (s.heap.objs.size+2) (.ref s.heap.objs.size) (.ref (s.heap.objs.size+1)) →
   IsPair h' (s.heap.objs.size+3) .none .none→h'.IsStrIter s.heap.objs.size (ck x) x t 0→h'.IsStrIter (s.heap.objs.size+1) (ck y) y u 0→h'.objs.size=s.heap.objs.size+5 →
   (∀ c o,s.heap.get? c=some o→h'.get? c=some o)→Q (.ref (s.heap.objs.size+4)) { s with heap:=h' }) :
  wpAny (model prog w) A (call (.type "zip") [.str x t,.str y u]) Q E s:=by
 refine callType_new F.called_zip (by decide) (F.typeCall_zip_2 _ _) (F.newCall_zip_2 _ _) (fun obj=>F.args_object_init_3 obj _ _) F.entry_zip_new
  (nF x y t u) ?_
 have z1:(zS1 s.heap x t).objs.size=s.heap.objs.size+1:=Heap.size_push ..
 have z2:(zS2 s.heap x y t u).objs.size=s.heap.objs.size+2:=by rw [Heap.size_push,z1]
 have z3:(zS3 s.heap x y t u).objs.size=s.heap.objs.size+3:=by rw [Heap.size_push,z2]
 have z4:(zS4 s.heap x y t u).objs.size=s.heap.objs.size+4:=by rw [Heap.size_push,z3]
 have z5:(zS5 s.heap x y t u).objs.size=s.heap.objs.size+5:=by rw [Heap.size_push,z4]
 have g5:(zS5 s.heap x y t u).get? (zS4 s.heap x y t u).objs.size=some _:=Heap.get?_push_size _ rfl
 have g4:(zS5 s.heap x y t u).get? (zS3 s.heap x y t u).objs.size=some _:=Heap.get?_push_of_some _ (Heap.get?_push_size _ rfl)
 have g3:(zS5 s.heap x y t u).get? (zS2 s.heap x y t u).objs.size=some _:=Heap.get?_push_of_some _ (Heap.get?_push_of_some _ (Heap.get?_push_size _ rfl))
 have g2:(zS5 s.heap x y t u).get? (zS1 s.heap x t).objs.size=some _:=Heap.get?_push_of_some _ (Heap.get?_push_of_some _ (Heap.get?_push_of_some _ (Heap.get?_push_size _ rfl)))
 have g1:(zS5 s.heap x y t u).get? s.heap.objs.size=some _:=Heap.get?_push_of_some _ (Heap.get?_push_of_some _ (Heap.get?_push_of_some _ (Heap.get?_push_of_some _ (Heap.get?_push_size _ rfl))))
 show _∧_
 rw [z2,z3,z4] at g5
 rw [z1,z2] at g3
 rw [z3] at g4
 rw [z1] at g2
 rw [z4]
 exact ⟨⟨_,g5,rfl⟩,h _ g5 g3 g4 ⟨_,g1,rfl,rfl⟩ ⟨_,g2,rfl,rfl⟩ z5 fun c o x =>
  Heap.get?_push_of_some _ (Heap.get?_push_of_some _ (Heap.get?_push_of_some _ (Heap.get?_push_of_some _ (Heap.get?_push_of_some _ x))))⟩
end
theorem rg (n:Nat):ZApart (n+4) (n+2) (n+3) n (n+1):=⟨(by show (n+2:Nat)≠(n+4:Nat); omega),(by show (n+3:Nat)≠(n+4:Nat); omega),(by show (n:Nat)≠(n+4:Nat); omega),(by show (n+1:Nat)≠(n+4:Nat); omega),(by show (n+2:Nat)≠(n+3:Nat); omega),(by show (n+2:Nat)≠(n:Nat); omega),(by show (n+2:Nat)≠(n+1:Nat); omega),(by show (n+3:Nat)≠(n:Nat); omega),(by show (n+3:Nat)≠(n+1:Nat); omega),(by show (n:Nat)≠(n+1:Nat); omega)⟩
def vB (x y:Str):It:=⟨fun i _=>i < x.cps.size∧i < y.cps.size,fun i H v H'=>∃ p c d,v=.ref p∧H p=none∧H'=upd H p (.tup [sgn c,sgn d])∧x.cps[i]?=some c∧y.cps[i]?=some d,fun i _=>i=x.cps.size∨(i < x.cps.size∧i=y.cps.size)⟩
theorem sC {P:Program} {w:World} {K:PySem.W.Frag} {elts:List Expr} {k:Nat} {tp:Pos} (z TI TO i1 i2:Addr) (x y:Str) (t1 t2:Tok) (D:ZApart z TI TO i1 i2) :
  Turn P w K (.Tuple elts k tp) (vB x y) [z,TI,TO,i1,i2] z (fun i h=>IsZip h z TI TO .none∧IsPair h TI (.ref i1) (.ref i2)∧(∃ u v,IsPair h TO u v)∧h.IsStrIter i1 (ck x) x t1 i∧h.IsStrIter i2 (ck y) y t2 i) where
 mem:=by simp
 obj:=fun i h st c hc=>by
  obtain ⟨h1,h2,⟨u,v,h3⟩,⟨o4,g4,_,d4⟩,⟨o5,g5,_,d5⟩⟩:=st
  have hc':c=z∨c=TI∨c=TO∨c=i1∨c=i2:=by simpa using hc
  rcases hc' with rfl | rfl | rfl | rfl | rfl
  ·exact ⟨_,h1,fun v q=>by
    have q':Data.fields _=Data.cell v:=q
    cases q'⟩
  ·exact ⟨_,h2,fun v q=>by
    have q':Data.seq _ _=Data.cell v:=q
    cases q'⟩
  ·exact ⟨_,h3,fun v q=>by
    have q':Data.seq _ _=Data.cell v:=q
    cases q'⟩
  ·exact ⟨o4,g4,fun v q=>by rw [d4] at q; cases q⟩
  ·exact ⟨o5,g5,fun v q=>by rw [d5] at q; cases q⟩
 keep:=fun i h h' st kp=>⟨kp z (by simp) _ st.1,kp TI (by simp) _ st.2.1,let ⟨u,v,e⟩:=st.2.2.1; ⟨u,v,kp TO (by simp) _ e⟩,let ⟨o,ho,r⟩:=st.2.2.2.1; ⟨o,kp i1 (by simp) o ho,r⟩,let ⟨o,ho,r⟩:=st.2.2.2.2; ⟨o,kp i2 (by simp) o ho,r⟩⟩
 item:=by
  intro X hP hw hK hc i pins s σ H E I hf st hg
  subst hP hw hK
  obtain ⟨hk1,hk2⟩:=hg
  obtain ⟨hZ,hTI,⟨c1,c2,hTO⟩,hi1,hi2⟩:=st
  refine lD (I.ok.hd hc) D hZ hTI hTO hi1 hi2 hk1 hk2 fun h1 tk c d u v hcx hdx a1 a2 a3 a4 a5 a6 a7=>?_
  refine ⟨_,rfl,wpAny_letOwnedTupleGo_zip a1 fun h2 hz2' hs2=>?_⟩
  have zL:z < s.heap.objs.size:=Heap.lt_size hZ
  have ht2:IsPair h2 s.heap.objs.size (.str ⟨#[c]⟩ u) (.str ⟨#[d]⟩ v):=(hs2.2 _ (Nat.ne_of_gt zL)).trans a5
  have hTI2:IsPair h2 TI (.ref i1) (.ref i2):=(hs2.2 _ D.TIz).trans (a7 _ _ D.TIz D.TITO D.TIi1 D.TIi2 hTI)
  have hTO2:IsPair h2 TO (.str ⟨#[c]⟩ u) (.str ⟨#[d]⟩ v):=(hs2.2 _ D.TOz).trans a2
  have hi1':h2.IsStrIter i1 (ck x) x t1 (i+1):=ca a3 hs2 D.i1z
  have hi2':h2.IsStrIter i2 (ck y) y t2 (i+1):=ca a4 hs2 D.i2z
  have I2:Inv X pins σ (upd H s.heap.objs.size (.tup [sgn c,sgn d])) { s with heap:=h2,toks:=tk }:=by
   refine I.turnedLaid (fp:=[z,TI,TO,i1,i2]) hf (Nat.le_refl _) (fun c ob hb q=>?_) (fun c hb=>?_) ?_
   ·have n1:c≠z:=fun e=>hb (by simp [e])
    have n3:c≠TO:=fun e=>hb (by simp [e])
    have n4:c≠i1:=fun e=>hb (by simp [e])
    have n5:c≠i2:=fun e=>hb (by simp [e])
    exact (hs2.2 c n1).trans (a7 c ob n1 n3 n4 n5 q)
   ·have hb':c=z∨c=TI∨c=TO∨c=i1∨c=i2:=by simpa using hb
    rcases hb' with rfl | rfl | rfl | rfl | rfl
    ·exact ⟨_,hz2'⟩
    ·exact ⟨_,hTI2⟩
    ·exact ⟨_,hTO2⟩
    ·obtain ⟨o,ho,_⟩:=hi1'
     exact ⟨o,ho⟩
    ·obtain ⟨o,ho,_⟩:=hi2'
     exact ⟨o,ho⟩
   ·refine ⟨(by show 2≤sizeLine; decide),[.str ⟨#[c]⟩ u,.str ⟨#[d]⟩ v],.cons ⟨_,rfl⟩ (.cons ⟨_,rfl⟩ .nil),?_⟩
    exact ⟨_,ht2,rfl,_,rfl,rfl⟩
  have fr:∀ b∈[z,TI,TO,i1,i2],upd H s.heap.objs.size (.tup [sgn c,sgn d]) b=none:=fun b hb=>by
   have hlt:b < s.heap.objs.size:=by
    have hb':b=z∨b=TI∨b=TO∨b=i1∨b=i2:=by simpa using hb
    rcases hb' with rfl | rfl | rfl | rfl | rfl
    ·exact zL
    ·exact Heap.lt_size hTI
    ·exact Heap.lt_size hTO
    ·obtain ⟨o,ho,_⟩:=hi1
     exact Heap.lt_size ho
    ·obtain ⟨o,ho,_⟩:=hi2
     exact Heap.lt_size ho
   rw [bd (Nat.ne_of_lt hlt)]
   exact (hf b hb).1
  exact ⟨.ref s.heap.objs.size,_,I2,rfl,⟨_,c,d,rfl,I.fresh,rfl,hcx,hdx⟩,⟨hz2',hTI2,⟨_,_,hTO2⟩,hi1',hi2'⟩,fr⟩
 done:=by
  intro X hP hw hK hc i pins s σ H E I hf st hg
  subst hP hw hK
  obtain ⟨hZ,hTI,⟨c1,c2,hTO⟩,hi1,hi2⟩:=st
  exact mC (I.ok.hd hc) D hZ hTI hTO hi1 hi2 hg fun h' tk eb=>⟨rfl,I.turnedMany (t':=tk) hf fun c o hb q=>eb c o (fun e=>hb (by simp [e])) (fun e=>hb (by simp [e])) (fun e=>hb (by simp [e])) (fun e=>hb (by simp [e])) q⟩
 self:=fun _ _ _ _ _ st h=>wpAny_pyIter_zip st.1 h
section
variable {X:Cx} {K:PySem.W.Frag}
def GI (ta:TA):TI:=fun σ H R=>ta σ H fun vs H1=>∃ x y,vs=[.str x,.str y]∧R (vB x y) H1
theorem Bs {l m:Expr} {ta:TA} {p pos:Pos} {elts:List Expr} {k:Nat} {tp:Pos} (hg:Gl X "zip") (hm:X.mg "zip"=none) (ha:PA X [l,m] ta) (hs:starEach [l,m] X.env=(false,eval l X.env) :: starEach [m] X.env:=by rfl) (hpl:(backTo pos (starEach [m] X.env)).any (·.1)=false:=by rfl) :
  PI X (.Tuple elts k tp) (.Call (.Name "zip" p) [l,m] [] pos) (GI ta):=by
 intro pins s σ H R I h
 refine Call_ (jh I hg hm boot_zip (PyProof.Rows.callWith_type1 (thn (ha pos pins s σ H _ I h) fun us s1 ⟨vs,H1,I1,r1,q1⟩=>?_) hs hpl))
 obtain ⟨x,y,e,q⟩:=q1
 subst e
 obtain ⟨u,v,rfl,ru,rv⟩:=rk r1
 obtain ⟨t,rfl⟩:=ru
 obtain ⟨t',rfl⟩:=rv
 refine ug fun h' hZ hTI hTO hi1 hi2 hsz hk=>?_
 refine wpAny_pyIter_zip hZ ?_
 have I2:Inv X pins σ H1 { s1 with heap:=h' }:=I1.kept (t':=s1.toks) hk
 refine ⟨s1.heap.objs.size+4,[s1.heap.objs.size+4,s1.heap.objs.size+2,s1.heap.objs.size+3,s1.heap.objs.size,s1.heap.objs.size+1],_,_,H1,rfl,I2,sC _ _ _ _ _ x y t t' (rg _),⟨hZ,hTI,⟨_,_,hTO⟩,hi1,hi2⟩,fun c hb=>?_,q⟩
 have hb':s1.heap.objs.size≤c:=by
  have hb':c=s1.heap.objs.size+4∨c=s1.heap.objs.size+2∨c=s1.heap.objs.size+3∨c=s1.heap.objs.size∨c=s1.heap.objs.size+1:=by simpa using hb
  rcases hb' with rfl | rfl | rfl | rfl | rfl <;> omega
 exact I1.fpOk hb' (I1.hok.fresh hb')
def qL:V→List V→Hp→VK→Prop:=fun x xs H Q=>∃ z c,x=.str z∧xs=[sgn c]∧Q (.int ((li z).count c:Nat)) H
def qK:V→List V→Hp→VK→Prop:=fun x xs H Q=>∃ z y,x=.str z∧xs=[.str y]∧Q (.bl (Txt.startswith z y)) H
def A0:V→List V→Hp→VK→Prop:=fun x xs H Q=>∃ z y,x=.str z∧xs=[.str y]∧Q (.bl (Txt.endswith z y)) H
theorem uf (z:Str) (c:Nat):Txt.count z ⟨#[c]⟩=(((li z).count c:Nat):Int):=by
 rw [PyProof.Rows.count_is]
 show PyProof.Rows.cnt c (li z)=_
 generalize li z=l
 induction l with
 | nil=>rfl
 | cons n r ih =>
  rw [PyProof.Rows.cnt_cons,ih,List.count_cons]
  by_cases e:n=c
  ·rw [if_pos e,if_pos (by simpa using e)]
   omega
  ·rw [if_neg e,if_neg (by simpa using e)]
   omega
theorem tf:MtR X "str.count" qL:=by
 intro pins s σ H x xs v us Q I rx rs h
 obtain ⟨z,c,rfl,rfl,q⟩:=h
 obtain ⟨t,rfl⟩:=rx
 obtain ⟨u,rfl,ru⟩:=dB rs
 obtain ⟨t2,rfl⟩:=ru
 refine SC.count ?_
 rw [uf]
 exact ⟨.int _,H,I.tok _,⟨_,rfl⟩,q⟩
theorem s0:MtR X "str.startswith" qK:=by
 intro pins s σ H x xs v us Q I rx rs h
 obtain ⟨z,y,rfl,rfl,q⟩:=h
 obtain ⟨t,rfl⟩:=rx
 obtain ⟨u,rfl,ru⟩:=dB rs
 obtain ⟨t2,rfl⟩:=ru
 exact SC.startswith ⟨.bl _,H,I,rfl,q⟩
theorem BD:MtR X "str.endswith" A0:=by
 intro pins s σ H x xs v us Q I rx rs h
 obtain ⟨z,y,rfl,rfl,q⟩:=h
 obtain ⟨t,rfl⟩:=rx
 obtain ⟨u,rfl,ru⟩:=dB rs
 obtain ⟨t2,rfl⟩:=ru
 exact SC.endswith ⟨.bl _,H,I,rfl,q⟩
def cm (z y:Str):Bool:=!(Builtin.Str.occurrences z y 0 z.length 1).isEmpty
def EB (neg:Bool):R2:=fun x y H Q=>∃ a b,x=.str a∧y=.str b∧Q (.bl (if neg then !cm b a else cm b a)) H
theorem op_inS:OpR X (compareOp .In) (EB false):=by
 intro pins s σ H x y v u Q I rx ry h
 obtain ⟨a,b,rfl,rfl,q⟩:=h
 obtain ⟨t,rfl⟩:=rx
 obtain ⟨t2,rfl⟩:=ry
 exact PySem.P.in_str ⟨.bl _,H,I,rfl,q⟩
theorem op_notInS:OpR X (compareOp .NotIn) (EB true):=by
 intro pins s σ H x y v u Q I rx ry h
 obtain ⟨a,b,rfl,rfl,q⟩:=h
 obtain ⟨t,rfl⟩:=rx
 obtain ⟨t2,rfl⟩:=ry
 exact PySem.P.notIn_str ⟨.bl _,H,I,rfl,q⟩
end
section
open PySem.SeqAt
end
end L2
namespace L2
open PySem PySem.Spec PyProof.Rows
theorem eZ:∀ (names:List (Str × NameKind)) (n:Nat) (acc:List (Str × Addr)),cellsFrom n names acc=cellsFrom n names []++acc
 | [],_,_=>rfl
 | (x,k) :: r,n,acc=>by
  unfold cellsFrom
  split
  ·rw [eZ r (n+1) ((x,n) :: acc),eZ r (n+1) [(x,n)],List.append_assoc]
   rfl
  ·exact eZ r n acc
theorem gC:∀ (names:List (Str × NameKind)) (n:Nat) (acc:List (Str × Addr)) {x:Str} {c:Addr},(x,c)∈cellsFrom n names acc→(x,c)∈acc∨(x,NameKind.cell)∈names
 | [],_,_,_,_,h=>.inl h
 | (y,k) :: r,n,acc,x,c,h=>by
  unfold cellsFrom at h
  split at h
  ·rename_i hk
   rcases gC r _ _ h with h | h
   ·rcases List.mem_cons.mp h with e | e
    ·have hk':k=.cell:=by simpa using hk
     have e':=(Prod.mk.inj e).1
     rw [e',← hk']
     exact .inr List.mem_cons_self
    ·exact .inl e
   ·exact .inr (List.mem_cons_of_mem _ h)
  ·rcases gC r _ _ h with h | h
   ·exact .inl h
   ·exact .inr (List.mem_cons_of_mem _ h)
theorem fW:∀ (names:List (Str × NameKind)) (n:Nat) (acc:List (Str × Addr)) {p:Str × Addr},p∈acc→p∈cellsFrom n names acc
 | [],_,_,_,h=>h
 | (y,k) :: r,n,acc,p,h=>by
  unfold cellsFrom
  split
  ·exact fW r _ _ (List.mem_cons_of_mem _ h)
  ·exact fW r _ _ h
theorem gD:∀ (names:List (Str × NameKind)) (n:Nat) (acc:List (Str × Addr)) {x:Str},(x,NameKind.cell)∈names→∃ c,(x,c)∈cellsFrom n names acc
 | [],_,_,_,h=>by simp at h
 | (y,k) :: r,n,acc,x,h=>by
  unfold cellsFrom
  rcases List.mem_cons.mp h with e | e
  ·cases e
   rw [if_pos (by rfl)]
   exact ⟨n,fW r _ _ List.mem_cons_self⟩
  ·split
   ·exact gD r _ _ e
   ·exact gD r _ _ e
theorem pI {α:Type}:∀ {a b:List (Str × α)} {x:Str} {c:α},(a++b).lookup x=some c→a.lookup x=some c∨(a.lookup x=none∧b.lookup x=some c)
 | [],_,_,_,h=>.inr ⟨rfl,h⟩
 | (n,v) :: r,b,x,c,h=>by
  rw [List.cons_append,List.lookup_cons] at h
  rw [List.lookup_cons]
  cases e:x == n with
  | true=>rw [e] at h; exact .inl h
  | false=>rw [e] at h; exact pI h
theorem kr {α:Type}:∀ {a b:List (Str × α)} {x:Str} {c:α},a.lookup x=some c→(a++b).lookup x=some c
 | [],_,_,_,h=>by simp at h
 | (n,v) :: r,b,x,c,h=>by
  rw [List.cons_append,List.lookup_cons]
  rw [List.lookup_cons] at h
  cases e:x == n with
  | true=>rw [e] at h; exact h
  | false=>rw [e] at h; exact kr h
theorem jD {α:Type}:∀ {a b:List (Str × α)} {x:Str} {c:α},a.lookup x=none→b.lookup x=some c→(a++b).lookup x=some c
 | [],_,_,_,_,h=>h
 | (n,v) :: r,b,x,c,hn,h=>by
  rw [List.cons_append,List.lookup_cons]
  rw [List.lookup_cons] at hn
  cases e:x == n with
  | true=>rw [e] at hn; cases hn
  | false=>rw [e] at hn; exact jD hn h
abbrev aZ (X:Cx) (scope:Scope) (ns:List Str) (C:Addr) (cl:List (Str × Addr)) (s₀:Shared) (H₀:Hp) (fp:List Addr):Cx :=
 { X with N:=ns,s₀:=s₀,H₀:=H₀,env:=compEnvC scope cl C X.env,outer:=X.stack,ex:=fp,fn:=fun x=>scope.names.lookup x == some NameKind.cell,pn:=[],xe:=fun _ _=>False }
structure BlkOkC (X:Cx) (scope:Scope) (ns:List Str) (js:List (Option Nat)):Prop where
 kind:scope.kind=.function
 uniq:∀ y∈scope.names,y.2=.cell→scope.names.lookup y.1=some .cell
 names:∀ y∈scope.names,y.2=.local→scope.names.lookup y.1=some .local
 free:∀ y∈scope.names,y.2=.free→X.env.kindOf y.1=some .cell∨X.env.kindOf y.1=some .free
 nd:ns.Nodup
 len:js.length=ns.length
 out:∀ (i:Nat) (x:Str) (j:Nat),ns[i]?=some x→js[i]?=some (some j)→X.N[j]?=some x∧scope.names.lookup x=some .free
def re (N:List Str) (sc scope:Scope) (ns:List Str) (js:List (Option Nat)):Bool :=
 decide (scope.kind=.function) && scope.names.all (fun y=>decide (y.2=.cell→scope.names.lookup y.1=some .cell)) && scope.names.all (fun y=>decide (y.2=.local→scope.names.lookup y.1=some .local)) &&
 scope.names.all (fun y=>decide (y.2=.free→sc.names.lookup y.1=some .cell∨sc.names.lookup y.1=some .free)) && decide ns.Nodup && decide (js.length=ns.length) &&
 (List.range ns.length).all (fun i=>match js[i]?,ns[i]? with
  | some (some j),some x=>decide (N[j]?=some x) && decide (scope.names.lookup x=some .free)
  | _,_=>true)
theorem Cs {N:List Str} {scope:Scope} {ns:List Str} {js:List (Option Nat)} (h7:∀ i < ns.length,(match js[i]?,ns[i]? with
  | some (some j),some x=>decide (N[j]?=some x) && decide (scope.names.lookup x=some .free)
  | _,_=>true)=true) {i:Nat} {x:Str} {j:Nat} (e1:ns[i]?=some x) (e2:js[i]?=some (some j)):N[j]?=some x∧scope.names.lookup x=some .free:=by
 have q:=h7 i (List.getElem?_eq_some_iff.mp e1).1
 rw [e1,e2] at q
 simpa using q
theorem BlkOkC.of {X:Cx} {scope:Scope} {ns:List Str} {js:List (Option Nat)} {N0:List Str} {sc0:Scope} (hN:X.N=N0) (hS:X.env.scope=sc0) (h:re N0 sc0 scope ns js=true):BlkOkC X scope ns js:=by
 unfold re at h
 simp only [Bool.and_eq_true,List.all_eq_true,decide_eq_true_eq,List.mem_range] at h
 obtain ⟨⟨⟨⟨⟨⟨h1,h2⟩,h3⟩,h4⟩,h5⟩,h6⟩,h7⟩:=h
 refine ⟨h1,fun y hy=>h2 y hy,fun y hy=>h3 y hy,fun y hy hk=>?_,h5,h6,fun i x j e1 e2=>?_⟩
 ·have q:=h4 y hy hk
  rw [← hS] at q
  exact q
 ·rw [hN]
  exact Cs h7 e1 e2
section
variable {M:Model} {A:Around} {E:Value→Shared→Prop} {s:Shared}
theorem iz {scope:Scope} {globals:Addr} {closure:List (Str × Addr)} {qual:Str} {outer:Env} {builtins:Addr} {Q:Env→Shared→Prop}
  (hQ:Q (newEnv scope s.heap.objs.size globals (cellsFrom (s.heap.objs.size+1) scope.names closure) qual none .none (some outer) builtins) { s with heap:=pushCells (s.heap.push { cls:=.type "dict",data:=.dict #[] }) scope.names }) :
  wpAny M A (newFunctionEnv scope globals closure [] qual none .none (some outer) builtins) Q E s:=by
 simp only [newFunctionEnv,Option.isSome_some,if_true]
 refine wpAny_bind (wpAny_alloc ?_)
 refine wpAny_bind (wpAny_layCells _ (fun name kind cells=>by cases hkc:kind == NameKind.cell <;> simp [hkc]) _ _ _ _ ?_)
 rw [show ({ s with heap:=s.heap.push { cls:=.type "dict",data:=.dict #[] } }:Shared).heap.objs.size=s.heap.objs.size+1 from Heap.size_push ..]
 rw [List.forIn_nil]
 exact wpAny_bind (wpAny_pure (wpAny_pure hQ))
end
section
variable {X:Cx} {elt tg iter:Expr} {ifs:List Expr} {scope:Scope} {pos:Pos} {ns:List Str} {js:List (Option Nat)} {wi:TI} {g:TG} {tt:TT} {te:TE}
theorem vv {pins:List (Addr × Obj)} {s3:Shared} {σ:St} {H3:Hp} {fp:List Addr} {h₁:Heap} {tk:Nat} (B:BlkOkC X scope ns js) (I3:Inv X pins σ H3 s3)
  (f3:∀ b∈fp,gM X pins H3 b) (lt3:∀ b∈fp,b < s3.heap.objs.size) (hns:h₁.Ns s3.heap.objs.size (fun _=>none)) (old:∀ b u,s3.heap.get? b=some u→h₁.get? b=some u)
  (cok:CellsOk h₁ (s3.heap.objs.size+1) (cellsFrom (s3.heap.objs.size+1) scope.names [])) :
  Inv (aZ X scope ns s3.heap.objs.size (cellsFrom (s3.heap.objs.size+1) scope.names (ek X.env scope.names)) s3 H3 fp) [] (e7 js σ) H3 { s3 with heap:=h₁,toks:=tk }:=by
 rw [eZ]
 have hmem:∀ {x:Str} {c:Addr},(x,c)∈cellsFrom (s3.heap.objs.size+1) scope.names []→scope.names.lookup x=some .cell:=fun {x c} h=>by
  rcases gC _ _ _ h with h | h
  ·simp at h
  ·exact B.uniq _ h rfl
 have hhas:∀ {x:Str},scope.names.lookup x=some .cell→∃ c,(cellsFrom (s3.heap.objs.size+1) scope.names []).lookup x=some c:=fun {x} h=>by
  obtain ⟨c,hc⟩:=gD scope.names (s3.heap.objs.size+1) [] (PySem.mem_of_lookup h)
  exact gB hc
 generalize cellsFrom (s3.heap.objs.size+1) scope.names []=CS at cok hmem hhas
 have has:∀ y∈scope.names,y.2=.free→∃ c,X.env.cells.lookup y.1=some c:=fun y hy hk=>I3.ok.has y.1 (B.free y hy hk)
 have look:∀ {n:Str} {c:Addr},(CS++ek X.env scope.names).lookup n=some c→(CS.lookup n=some c∧h₁.IsCell c none∧s3.heap.objs.size+1≤c)∨(CS.lookup n=none∧X.env.cells.lookup n=some c∧c < s3.heap.objs.size):=fun {n c} e=>by
  rcases pI e with e | ⟨e1,e2⟩
  ·exact .inl ⟨e,cok.empty n c (PySem.mem_of_lookup e)⟩
  ·have e3:=oA has e2
   obtain ⟨v,hv⟩:=I3.cell n c e3
   exact .inr ⟨e1,e3,hv.lt⟩
 refine ⟨⟨I3.ok.mod,B.kind,I3.ok.glob,I3.ok.blt,Nat.le_refl _,fun y z c h1 h2=>?_,fun y hy=>?_,fun y c hf h=>?_,I3.ok.hd,I3.ok.frames,.inl rfl,fun b hb=>?_,I3.bs,Nat.le_trans I3.ok.bsz I3.sz,
   fun b o e hb=>?_,fun b hb z=>?_,I3.stack,I3.stkFree⟩,
  rfl,I3.bare,Un.kept old,⟨_,hns,fun i x v h1 h2 h3=>?_⟩,fun y c h=>?_,I3.fresh,fun y c h=>?_,fun p hp=>absurd (show p∈([]:List (Addr × Obj)) from hp) (by simp),I3.hok.kept old,?_⟩
 ·rcases look h1 with ⟨a1,_,a3⟩ | ⟨_,a2,a3⟩ <;> rcases look h2 with ⟨b1,_,b3⟩ | ⟨_,b2,b3⟩
  ·exact name_of_addr cok.apart (PySem.mem_of_lookup a1) (PySem.mem_of_lookup b1)
  ·exact absurd (Nat.lt_of_lt_of_le (Nat.lt_of_lt_of_le b3 (Nat.le_succ _)) a3) (Nat.lt_irrefl _)
  ·exact absurd (Nat.lt_of_lt_of_le (Nat.lt_of_lt_of_le a3 (Nat.le_succ _)) b3) (Nat.lt_irrefl _)
  ·exact I3.ok.inj y z c a2 b2
 ·have hf:scope.names.lookup y=some .cell∨scope.names.lookup y=some .free:=by
   rcases hy with hy | hy
   ·rcases jz (env:=X.env) hy with q | q
    ·exact .inl q
    ·exact .inr q.1
   ·rcases jz (env:=X.env) hy with q | q
    ·exact .inr q
    ·exact .inr q.1
  show ∃ c,(CS++ek X.env scope.names).lookup y=some c
  rcases hf with hf | hf
  ·obtain ⟨c,hc⟩:=hhas hf
   exact ⟨c,kr hc⟩
  ·obtain ⟨c,hc⟩:=pZ (env:=X.env) (PySem.mem_of_lookup hf)
   cases e:CS.lookup y with
   | none=>exact ⟨c,jD e hc⟩
   | some d=>exact ⟨d,kr e⟩
 ·rcases look h with ⟨_,_,a3⟩ | ⟨a1,_,_⟩
  ·show s3.heap.objs.size≤c
   omega
  ·have hf':(scope.names.lookup y == some NameKind.cell)=true:=hf
   obtain ⟨d,hd⟩:=hhas (by simpa using hf')
   rw [a1] at hd
   cases hd
 ·refine ⟨Nat.ne_of_lt (lt3 b hb),fun x c e=>?_⟩
  rcases look e with ⟨_,_,a3⟩ | ⟨_,a2,_⟩
  ·have:=lt3 b hb
   intro z
   subst z
   exact Nat.lt_irrefl _ (Nat.lt_of_lt_of_le (Nat.lt_of_lt_of_le this (Nat.le_succ _)) a3)
  ·exact (f3 b hb).2.2.2.2.1 x c a2
 ·rcases (f3 b hb).2.2.2.1 with z | z
  ·exact I3.ok.noex b o e z
  ·exact absurd (Nat.lt_of_lt_of_le (Nat.lt_of_lt_of_le (Heap.lt_size e) I3.ok.bsz) z) (Nat.lt_irrefl _)
 ·rcases List.mem_cons.mp (I3.stkSub b z) with q | q
  ·exact (f3 b hb).2.1 q
  ·exact (f3 b hb).2.2.1 q
 ·have h2':(js.map fun j=>match j with | some j=>(σ[j]?).join | none=>none)[i]?=some (some v):=h2
  rw [List.getElem?_map] at h2'
  obtain ⟨j,hj,hσ⟩:∃ j,js[i]?=some (some j)∧σ[j]?=some (some v):=by
   cases e:js[i]? with
   | none=>rw [e] at h2'; simp at h2'
   | some oj =>
    rw [e] at h2'
    cases oj with
    | none=>simp at h2'
    | some j =>
     refine ⟨j,rfl,?_⟩
     have q:(σ[j]?).join=some v:=by simpa using h2'
     cases e2:σ[j]? with
     | none=>rw [e2] at q; simp at q
     | some ov =>
      rw [e2] at q
      simp at q
      rw [q]
  obtain ⟨hN,hfr⟩:=B.out i x j h1 hj
  have hf:=B.free (x,.free) (PySem.mem_of_lookup hfr) rfl
  have hf':X.env.kindOf x=some .cell∨X.env.kindOf x=some .free:=hf
  obtain ⟨m,hn,hl⟩:=I3.loc
  obtain ⟨u,r,l⟩:=hl j x v hN hσ (by
   rcases hf' with z | z
   ·exact .inr (.inl z)
   ·exact .inr (.inr z))
  refine ⟨u,r,?_⟩
  rcases l with ⟨hk,_⟩ | ⟨hk,c,hc,hcell⟩
  ·rcases hf' with z | z
   ·rw [z] at hk; cases hk
   ·rw [z] at hk; cases hk
  ·obtain ⟨c',hc'⟩:=pZ (env:=X.env) (PySem.mem_of_lookup hfr)
   have e':=oA has hc'
   rw [hc] at e'
   cases e'
   obtain ⟨o,ho,hd⟩:=hcell
   have hno:CS.lookup x=none:=by
    cases e:CS.lookup x with
    | none=>rfl
    | some d =>
     have q:=hmem (PySem.mem_of_lookup e)
     rw [hfr] at q
     cases q
   exact .inr ⟨mB (env:=X.env) hfr,c,jD hno hc',⟨o,old c o ho,hd⟩⟩
 ·rcases look h with ⟨_,a2,_⟩ | ⟨_,a2,_⟩
  ·exact ⟨_,a2⟩
  ·obtain ⟨v,o,ho,hd⟩:=I3.cell y c a2
   exact ⟨v,o,old c o ho,hd⟩
 ·rcases look h with ⟨_,_,a3⟩ | ⟨_,a2,_⟩
  ·exact I3.hok.fresh (by omega)
  ·exact I3.freeC y c a2
 ·show (js.map _).length=ns.length
  rw [List.length_map]
  exact B.len
theorem pK {pins:List (Addr × Obj)} {s2:Shared} {σ:St} {H2:Hp} {Qv:VK} {J:It} {fp:List Addr} {it:Addr} {tn:Nat→Heap→Prop} {RR:Value→Addr→Result→Shared→Prop}
  (B:BlkOkC X scope ns js) (hc:X.calm=true) (I2:Inv X pins σ H2 s2) (T:Turn X.prog X.w X.K tg J fp it tn) (st2:tn 0 s2.heap) (f2:∀ b∈fp,gM X pins H2 b)
  (hg:∀ C cl s₀ H₀ fp,PG (aZ X scope ns C cl s₀ H₀ fp) tg g) (ht:∀ C cl s₀ H₀ fp,PTs (aZ X scope ns C cl s₀ H₀ fp) ifs tt) (he:∀ C cl s₀ H₀ fp,PE (aZ X scope ns C cl s₀ H₀ fp) elt te)
  (hw:∀ D,H2 D=none→A4 J g tt te (e7 js σ) H2 D Qv)
  (hRR:∀ D C s' H',Inv X pins σ H' s'→Qv (.ref D) H'→(∃ m,s'.heap.Ns C m)→H' C=none→C≠X.env.locals→X.s₀.heap.objs.size≤C→(∀ x c,X.env.cells.lookup x=some c→c≠C)→(∀ p∈X.pn++pins,p.1≠C)→RR (.ref D) C (.ok .next) s') :
  wpAny (model X.prog X.w) X.A (newList []) (fun acc s₃=>wpAny (model X.prog X.w) X.A (newFunctionEnv scope X.env.globals (ek X.env scope.names) [] X.env.qual none .none (some X.env)) (fun cenv s₄ =>
   codeAny (model X.prog X.w) X.A (.compStart (.ListComp elt [⟨tg,iter,ifs,0⟩] scope pos) 0 (.ref it) acc { cenv with scope:=relabel scope X.env }) (RR acc cenv.locals) s₄) X.xe s₃) X.xe s2:=by
 refine wpAny_newObj_type (iz ?_)
 dsimp only
 have I3:Inv X pins σ (upd H2 s2.heap.objs.size (.lst [])) { s2 with heap:=s2.heap.push { cls:=.type "list",data:=.seq ([]:List Value).toArray },toks:=s2.toks }:=I2.lnew .nil (Nat.zero_le _)
 generalize hs3:({ s2 with heap:=s2.heap.push { cls:=.type "list",data:=.seq ([]:List Value).toArray },toks:=s2.toks }:Shared)=s3 at I3
 have e3:s3.heap=s2.heap.push { cls:=.type "list",data:=.seq ([]:List Value).toArray }:=by rw [← hs3]
 have k3:∀ b u,s2.heap.get? b=some u→s3.heap.get? b=some u:=fun b u e=>by rw [e3]; exact Heap.get?_push_of_some _ e
 have sz3:s3.heap.objs.size=s2.heap.objs.size+1:=by rw [e3,Heap.size_push]
 have hD:H2 s2.heap.objs.size=none:=I2.fresh
 obtain ⟨h₁,hh₁⟩:∃ h₁,h₁=pushCells (s3.heap.push { cls:=.type "dict",data:=.dict #[] }) scope.names:=⟨_,rfl⟩
 have old:∀ b u,s3.heap.get? b=some u→h₁.get? b=some u:=fun b u e=>by
  rw [hh₁]
  exact pushCells_keeps _ _ b u (Heap.get?_push_of_some _ e)
 have hns:h₁.Ns s3.heap.objs.size (fun _=>none):=by
  rw [hh₁]
  exact (Heap.Ns.new s3.heap (.type "dict")).keeps (pushCells_keeps _ _)
 have cok:CellsOk h₁ (s3.heap.objs.size+1) (cellsFrom (s3.heap.objs.size+1) scope.names []):=by
  have q:=cellsFrom_ok scope.names (s3.heap.push { cls:=.type "dict",data:=.dict #[] }) (s3.heap.objs.size+1) [] ⟨fun _ _ hm=>(nomatch hm),List.Pairwise.nil⟩ (by rw [Heap.size_push]; exact Nat.le_refl _)
  rw [Heap.size_push,← hh₁] at q
  exact q
 have obj2:∀ b∈fp,b < s2.heap.objs.size:=fun b hb=>let ⟨o,e,_⟩:=T.obj 0 _ st2 b hb; Heap.lt_size e
 have f3:∀ b∈fp,gM X pins (upd H2 s2.heap.objs.size (.lst [])) b:=fun b hb=>⟨by rw [bd (Nat.ne_of_lt (obj2 b hb))]; exact (f2 b hb).1,(f2 b hb).2⟩
 have lt3:∀ b∈fp,b < s3.heap.objs.size:=fun b hb=>by rw [sz3]; exact Nat.lt_succ_of_lt (obj2 b hb)
 obtain ⟨W,⟨m0,w0⟩,turn⟩:=hw _ hD
 have J0:=fun tk=>vv (tk:=tk) B I3 f3 lt3 hns old cok
 have has:∀ y∈scope.names,y.2=.free→∃ c,X.env.cells.lookup y.1=some c:=fun y hy hk=>I2.ok.has y.1 (B.free y hy hk)
 have stat:∀ {H':Hp},(∀ b∈fp,H' b=none)→∀ b∈fp,gM (aZ X scope ns s3.heap.objs.size (cellsFrom (s3.heap.objs.size+1) scope.names (ek X.env scope.names)) s3 (upd H2 s2.heap.objs.size (.lst [])) fp) [] H' b:=fun hn b hb =>
  ⟨hn b hb,Nat.ne_of_lt (lt3 b hb),(J0 0).ok.exfs b hb,.inl hb,fun x c e=>(J0 0).ok.exf b hb |>.2 x c e,fun p hp=>absurd (show p∈([]:List (Addr × Obj)) from hp) (by simp)⟩
 have fin:∀ {τ:St} {H':Hp} {s':Shared},Inv (aZ X scope ns s3.heap.objs.size (cellsFrom (s3.heap.objs.size+1) scope.names (ek X.env scope.names)) s3 (upd H2 s2.heap.objs.size (.lst [])) fp) [] τ H' s'→Qv (.ref s2.heap.objs.size) H'→RR (.ref s2.heap.objs.size) s3.heap.objs.size (.ok .next) s':=fun {τ H' s'} I6 q=>by
  have u1:Un (frs X.stack) fp H2 (upd H2 s2.heap.objs.size (.lst [])) s2.heap s3.heap:=Un.laid k3 (Nat.le_refl _) hD
  have os3:s3.os=s2.os:=by rw [← hs3]
  have I7:Inv X pins σ H' s':=I2.call' (ch:=fp) (I6.os.trans os3) (u1.trans I6.base) I6.hok I6.bare fun b hb=>⟨(f2 b hb).2.2.2.1,(f2 b hb).2.1,(f2 b hb).2.2.2.2.1,(f2 b hb).2.2.2.2.2⟩
  have le2:s2.heap.objs.size≤s3.heap.objs.size:=by rw [sz3]; exact Nat.le_succ _
  refine hRR _ _ s' H' I7 q ?_ I6.free (Nat.ne_of_gt (Nat.lt_of_lt_of_le I2.lt le2)) (Nat.le_trans I2.sz le2) (fun x c e z=>?_) fun p hp z=>?_
  ·obtain ⟨m,hn,_⟩:=I6.loc
   exact ⟨m,hn⟩
  ·obtain ⟨v,hv⟩:=I2.cell x c e
   exact absurd (Nat.lt_of_lt_of_le hv.lt (by rw [z]; exact le2)) (Nat.lt_irrefl _)
  ·exact absurd (Nat.lt_of_lt_of_le (Heap.lt_size (I2.pin p hp).1) (by rw [z]; exact le2)) (Nat.lt_irrefl _)
 rw [← e3,← hh₁]
 have loop:∀ tk,codeAny (model X.prog X.w) X.A (.compLoop (.ListComp elt [⟨tg,iter,ifs,0⟩] scope pos) 0 (.ref it) (.ref s2.heap.objs.size) (compEnvC scope (cellsFrom (s3.heap.objs.size+1) scope.names (ek X.env scope.names)) s3.heap.objs.size X.env))
   (RR (.ref s2.heap.objs.size) s3.heap.objs.size) { s3 with heap:=h₁,toks:=tk }:=fun tk=>by
  refine codeAny_loop rfl (fun n s'=>∃ i τ H',Inv (aZ X scope ns s3.heap.objs.size (cellsFrom (s3.heap.objs.size+1) scope.names (ek X.env scope.names)) s3 (upd H2 s2.heap.objs.size (.lst [])) fp) [] τ H' s'∧tn i s'.heap∧(∀ b∈fp,H' b=none)∧W i n τ H') (fun n s5 hI=>?_) m0
   ⟨0,_,_,J0 tk,T.keep _ _ _ st2 fun b _ o e=>old b o (k3 b o e),fun b hb=>(f3 b hb).1,w0⟩
  obtain ⟨i,τ,H5,I5,st5,fr5,w5⟩:=hI
  show wpAny _ X.A ((compTurn (.ListComp elt [⟨tg,iter,ifs,0⟩] scope pos) 0 (.ref it) (.ref s2.heap.objs.size) (compEnvC scope (cellsFrom (s3.heap.objs.size+1) scope.names (ek X.env scope.names)) s3.heap.objs.size X.env)).onRaise (fun x=>do noteFrame x (compEnvC scope (cellsFrom (s3.heap.objs.size+1) scope.names (ek X.env scope.names)) s3.heap.objs.size X.env); theTreesLotGoes x)) _ _ s5
  refine wpAny_noted ?_
  rw [compTurn_list]
  refine wpAny_bind (wpAny_standAt (wpAny_bind ?_))
  rcases turn i n τ H5 w5 with ⟨stop,qn⟩ | ⟨go,N,hN,step⟩
  ·refine thn (T.done (aZ X scope ns s3.heap.objs.size (cellsFrom (s3.heap.objs.size+1) scope.names (ek X.env scope.names)) s3 (upd H2 s2.heap.objs.size (.lst [])) fp) rfl rfl rfl hc i [] s5 τ H5 _ I5 (stat fr5) st5 stop) fun r s6 ⟨hr,I6⟩=>?_
   subst hr
   exact wpAny_pure (fin I6 qn)
  ·refine thn (T.item (aZ X scope ns s3.heap.objs.size (cellsFrom (s3.heap.objs.size+1) scope.names (ek X.env scope.names)) s3 (upd H2 s2.heap.objs.size (.lst [])) fp) rfl rfl rfl hc i [] s5 τ H5 _ I5 (stat fr5) st5 go) fun r s6 ⟨u,hr,h6⟩=>?_
   subst hr
   dsimp only
   refine wpAny_bind (thn h6 fun _ s7 ⟨x,H7,I7,r7,y7,st7,fr7⟩=>?_)
   have I7':=I7.pinned (stat fr7) (T.obj _ _ st7)
   have back:∀ {τ9:St} {H9:Hp} {s9:Shared},Inv (aZ X scope ns s3.heap.objs.size (cellsFrom (s3.heap.objs.size+1) scope.names (ek X.env scope.names)) s3 (upd H2 s2.heap.objs.size (.lst [])) fp) ([]++kj fp s7.heap) τ9 H9 s9 →
     Inv (aZ X scope ns s3.heap.objs.size (cellsFrom (s3.heap.objs.size+1) scope.names (ek X.env scope.names)) s3 (upd H2 s2.heap.objs.size (.lst [])) fp) [] τ9 H9 s9∧tn (i+1) s9.heap∧∀ b∈fp,H9 b=none:=fun {τ9 H9 s9} I9=>by
    refine ⟨I9.unpinned,T.keep _ _ _ st7 fun b hb o e=>(I9.pin (b,o) (List.mem_append_right _ (List.mem_append_right _ (gR hb e)))).1,fun b hb=>?_⟩
    obtain ⟨o,e,d⟩:=T.obj _ _ st7 b hb
    exact (I9.pin (b,o) (List.mem_append_right _ (List.mem_append_right _ (gR hb e)))).2.1
   refine wpAny_bind (thF (hg _ _ _ _ _ _ s7 τ H7 x u _ I7' r7 (step x H7 y7)) fun _ s8 ⟨τ8,H8,I8,q8⟩=>?_)
   refine wpAny_bind (thF (ht _ _ _ _ _ _ s8 τ8 H8 _ I8 q8) fun b s9 ⟨H9,I9,q9⟩=>?_)
   cases b with
   | false =>
    rw [if_neg Bool.false_ne_true] at q9
    obtain ⟨m',hm,w9⟩:=hN _ _ q9
    obtain ⟨a1,a2,a3⟩:=back I9
    exact wpAny_pure ⟨rfl,m',hm,i+1,τ8,H9,a1,a2,a3,w9⟩
   | true =>
    rw [if_pos rfl] at q9
    refine wpAny_bind (wpAny_bind (thF (he _ _ _ _ _ _ s9 τ8 H9 _ I9 q9) fun v s10 ⟨y,H10,I10,r10,q10⟩=>?_))
    obtain ⟨xs,hx,hz,n10⟩:=q10
    obtain ⟨m',hm,w10⟩:=hN _ _ n10
    refine wpAny_bind (thF (n9 _ s10 τ8 H10 (.ref s2.heap.objs.size) [y] (.ref s2.heap.objs.size) [v] (fun _ H11=>W (i+1) m' τ8 H11) I10 rfl (.cons r10 .nil) ⟨_,xs,y,rfl,rfl,hx,hz,w10⟩) fun _ s11 ⟨_,H11,I11,_,q11⟩=>?_)
    obtain ⟨a1,a2,a3⟩:=back I11
    exact wpAny_pure (wpAny_pure ⟨rfl,m',hm,i+1,τ8,H11,a1,a2,a3,q11⟩)
 have hst1:tn 0 h₁:=T.keep _ _ _ st2 fun b _ o e=>old b o (k3 b o e)
 subst hs3
 exact codeAny_compStart_list (loop _) (T.self _ 0 _ _ _ hst1 (loop _))
theorem sS (B:BlkOkC X scope ns js) (hc:X.calm=true) (hi:PI X tg iter wi)
  (hg:∀ C cl s₀ H₀ fp,PG (aZ X scope ns C cl s₀ H₀ fp) tg g) (ht:∀ C cl s₀ H₀ fp,PTs (aZ X scope ns C cl s₀ H₀ fp) ifs tt) (he:∀ C cl s₀ H₀ fp,PE (aZ X scope ns C cl s₀ H₀ fp) elt te)
  (hs:∀ x,foldedSetIterable iter X.env x=pure x:=by intro _; rfl):PE X (.ListComp elt [⟨tg,iter,ifs,0⟩] scope pos) (tLC wi g tt te js):=by
 intro pins s σ H Q I h
 rw [eval_ListComp]
 have hclos:=m6 (scope:=scope) (env:=X.env) (fun y hy hk=>I.ok.has y.1 (B.free y hy hk))
 refine wpAny_comprehension_free (use:=none) rfl hs hclos B.kind B.names (thn (hi pins s σ H _ I h) fun v s1 h1=>thn h1 fun itv s2 h2=>?_)
 obtain ⟨it,fp,tn,J,H2,e,I2,T,st2,f2,hw⟩:=h2
 subst e
 refine pK (RR:=fun acc C=>compPost (model X.prog X.w) X.A X.xe none (EP X pins σ Q) acc C) B hc I2 T st2 f2 hg ht he hw ?_
 intro D C s' H' I' q hm c0 c1 c2 c3 c4
 obtain ⟨m,hn⟩:=hm
 exact ⟨m,hn,fun h' hs'=>⟨.ref D,H',I'.turned (t':=s'.toks) (fun b o hb e=>(hs'.2 b hb).trans e) c0 c1 (.inr c2) c3 c4,rfl,q⟩⟩
theorem sO {i:Nat} {x:Str} {spos pos':Pos} (hN:X.N.Nodup) (hi':X.N[i]?=some x) (hx:X.env.scope.names.lookup x=some .local) (B:BlkOkC X scope ns js) (hc:X.calm=true) (hi:PI X tg iter wi)
  (hg:∀ C cl s₀ H₀ fp,PG (aZ X scope ns C cl s₀ H₀ fp) tg g) (ht:∀ C cl s₀ H₀ fp,PTs (aZ X scope ns C cl s₀ H₀ fp) ifs tt) (he:∀ C cl s₀ H₀ fp,PE (aZ X scope ns C cl s₀ H₀ fp) elt te)
  (hsw:swapsWith (.ListComp elt [⟨tg,iter,ifs,0⟩] scope pos) (some (.Name x pos')) spos.line X.env=pure true:=by rfl)
  (hs:∀ x,foldedSetIterable iter X.env x=pure x:=by intro _; rfl):PS X (.Assign [.Name x pos'] (.ListComp elt [⟨tg,iter,ifs,0⟩] scope pos) spos) (pk (tLC wi g tt te js) (mS i)):=by
 intro pins s σ H D I h
 rw [exec_Assign_Name_used _ _ _ _ hsw]
 have hclos:=m6 (scope:=scope) (env:=X.env) (fun y hy hk=>I.ok.has y.1 (B.free y hy hk))
 refine wpAny_bind (wpAny_standAt (wpAny_bind ?_))
 show wpAny _ X.A (do let _ ← comprehension (.ListComp elt [⟨tg,iter,ifs,0⟩] scope pos) scope X.env _ (newList []) false (eval iter X.env) (some (assign (.Name x pos') X.env))) _ _ s
 refine wpAny_bind (wpAny_mono (wpAny_comprehension_free (use:=some (assign (.Name x pos') X.env)) (Q:=fun _ s'=>SP X pins D .next s') rfl hs hclos B.kind B.names
  (thn (hi pins s σ H _ I h) fun v s1 h1=>thn h1 fun itv s2 h2=>?_)) (fun _ s' hq=>wpAny_pure (wpAny_pure hq)) fun _ _ e=>e)
 obtain ⟨it,fp,tn,J,H2,e,I2,T,st2,f2,hw⟩:=h2
 subst e
 refine pK (RR:=fun acc C=>compPost (model X.prog X.w) X.A X.xe (some (assign (.Name x pos') X.env)) (fun _ s'=>SP X pins D .next s') acc C) B hc I2 T st2 f2 hg ht he hw ?_
 intro D' C s' H' I' q hm c0 c1 c2 c3 c4
 obtain ⟨m,hn⟩:=hm
 show wpAny _ X.A (assign (.Name x pos') X.env (.ref D')) _ _ _
 refine wpAny_assign_Name (n0 (v:=.ref D') I' hN hi' (.inl hx) rfl (fun s4 I4 ⟨a,hsb,ha⟩=>?_) (.inr hx))
 have ne:C≠a:=by
  rcases ha with z | z
  ·rw [z]; exact c1
  ·exact (c3 x a z).symm
 exact ⟨m,hn.sameBut hsb ne,fun h' hs'=>⟨_,H',I4.turned (t':=s4.toks) (fun b o hb e=>(hs'.2 b hb).trans e) c0 c1 (.inr c2) c3 c4,q⟩⟩
end
end L2
namespace L2
open PySem PySem.Spec PyProof.Rows
section
variable {X:Cx} {K:PySem.W.Frag}
def Gu:R2:=fun x y H Q=>∃ z n,x=.str z∧y=.int n∧z.length≤4000∧-(2 ^ 63)≤n∧n≤4000∧Q (.str (Txt.mul z n)) H
theorem op_mulS:OpR X (binaryOp .Mult) Gu:=by
 intro pins s σ H x y v u Q I rx ry h
 obtain ⟨z,n,rfl,rfl,hz,h0,h1,q⟩:=h
 obtain ⟨t,rfl⟩:=rx
 obtain ⟨t2,rfl⟩:=ry
 exact SB.mul (mulOk_of 4000 4000 hz h1 h0 (by decide) (by decide)) fun t' k=>⟨.str _,H,I.tok _,⟨_,rfl⟩,q⟩
theorem lm (ns:List Int):∀ k,k≤ns.length→preSum (fun i=>ns.getD i 0) k=(ns.take k).sum
 | 0,_=>rfl
 | k+1,h=>by
  show preSum (fun i=>ns.getD i 0) k+ns.getD k 0=_
  rw [lm ns k (by omega),PyProof.Rows.take_sum_succ ns k (by omega)]
end
end L2
namespace L2
open PySem PySem.Spec PyProof.Rows
mutual
def DV (H:Hp):V→PyData→Prop
 | v,.none=>v=.non
 | v,.bool b=>v=.bl b
 | v,.int i=>v=.int i
 | v,.str x=>v=.str x
 | v,.list ds=>∃ a xs,v=.ref a∧H a=some (.lst xs)∧DVs H xs ds
 | v,.tuple ds=>∃ a xs,v=.ref a∧H a=some (.tup xs)∧DVs H xs ds
 | _,.dict _=>False
def DVs (H:Hp):List V→List PyData→Prop
 | vs,[]=>vs=[]
 | vs,d :: ds=>∃ v r,vs=v :: r∧DV H v d∧DVs H r ds
end
section
variable {X:Cx} {pins:List (Addr × Obj)} {σ:St} {H:Hp} {s:Shared}
end
section
variable {X:Cx}
end
end L2
namespace L2
open PySem PySem.Spec PyProof.Rows
section
variable {prog:Program} {w:World} {A:Around} {E:Value→Shared→Prop} {s:Shared}
theorem rp {jt tu:Addr} {n:Nat} {vals:Array Value} {y:Value} {R:Value→Shared→Prop} (a1:s.heap.IsTupleIter jt tu n) (a2:s.heap.IsTuple tu vals) (a3:vals[n]?=some y)
  (q:∀ g,g.IsTupleIter jt tu (n+1)→Heap.SameBut jt s.heap g→R y { s with heap:=g }):wpAny (model prog w) A (Builtin.SmallTypes.nextOf (.ref jt)) R E s:=by
 obtain ⟨ob,b1,b2,b3⟩:=id a1
 obtain ⟨ot,c1,_,m,c2⟩:=a2
 unfold Builtin.SmallTypes.nextOf
 refine wpAny_bind (wpAny_callSpecial?_slot (name:=Str.ofString "__next__") a1.typeIs F.slot_tuple_iterator_next (wpAny_call_entry F.slot_tuple_iterator_next a1.typeIs F.entry_tuple_iterator_next ?_ (F.args_tuple_iterator_next_1 _)))
 show wpAny _ _ (field (.ref jt) 0 >>= _) _ _ s
 refine wpAny_bind (wpAny_field b1 b3 (x:=.ref tu) rfl ?_)
 show wpAny _ _ (if (Value.ref tu == Value.none)=true then _ else _) _ _ s
 rw [if_neg (show ¬ ((Value.ref tu == Value.none)=true) from Bool.false_ne_true)]
 show wpAny _ _ (field (.ref jt) 1 >>= _) _ _ s
 refine wpAny_bind (wpAny_field b1 b3 (x:=.int n 0) rfl ?_)
 show wpAny _ _ (seqItems? (.ref tu) >>= _) _ _ s
 refine wpAny_bind (wpAny_seqItems c1 c2 ?_)
 simp only [Int.toNat_natCast,a3]
 refine wpAny_bind (wpAny_setField b1 b3 (by simp) (wpAny_pure ⟨y,rfl,wpAny_pure (q _ ?_ (Heap.SameBut.update ..))⟩))
 refine ⟨_,Heap.get?_update_self _ b1 (Obj.isFreed_of_fields (Obj.data_mapFields b3 _)),(Obj.cls_mapFields ..).trans b2,?_⟩
 rw [Obj.data_mapFields b3]
 simp [rawInt]
theorem nZ {jt tu:Addr} {n:Nat} {vals:Array Value} {R:Value→Shared→Prop} (hh:A.handled=none) (a1:s.heap.IsTupleIter jt tu n) (a2:s.heap.IsTuple tu vals) (a3:vals[n]?=none)
  (q:∀ g e,Heap.ExtBut jt s.heap g→(∃ o,g.get? e=some o∧o.cls=.type "StopIteration")→E (.ref e) { s with heap:=g }):wpAny (model prog w) A (Builtin.SmallTypes.nextOf (.ref jt)) R E s:=by
 obtain ⟨ob,b1,b2,b3⟩:=id a1
 obtain ⟨ot,c1,_,m,c2⟩:=a2
 unfold Builtin.SmallTypes.nextOf
 refine wpAny_bind (wpAny_callSpecial?_slot (name:=Str.ofString "__next__") a1.typeIs F.slot_tuple_iterator_next (wpAny_call_entry F.slot_tuple_iterator_next a1.typeIs F.entry_tuple_iterator_next ?_ (F.args_tuple_iterator_next_1 _)))
 show wpAny _ _ (field (.ref jt) 0 >>= _) _ _ s
 refine wpAny_bind (wpAny_field b1 b3 (x:=.ref tu) rfl ?_)
 show wpAny _ _ (if (Value.ref tu == Value.none)=true then _ else _) _ _ s
 rw [if_neg (show ¬ ((Value.ref tu == Value.none)=true) from Bool.false_ne_true)]
 show wpAny _ _ (field (.ref jt) 1 >>= _) _ _ s
 refine wpAny_bind (wpAny_field b1 b3 (x:=.int n 0) rfl ?_)
 show wpAny _ _ (seqItems? (.ref tu) >>= _) _ _ s
 refine wpAny_bind (wpAny_seqItems c1 c2 ?_)
 simp only [Int.toNat_natCast,a3]
 refine wpAny_bind (wpAny_rule (wpAny_bind (wpAny_setField b1 b3 (by simp) ?_)))
 show wpAny _ _ (newExc (.type "StopIteration") [] >>= _) _ _ _
 refine wpAny_bind ?_
 simp only [newExc,newTuple]
 refine wpAny_bind (wpAny_newObj_type ?_ (by show (0:Nat)≤_; exact Nat.zero_le _))
 refine wpAny_bind (m:=firstArgMember _ _) (wpAny_of_eq (a:=Value.none) (by first | rfl | (simp only [firstArgMember]; rfl)) ?_)
 refine wpAny_newObj_type ?_
 simp only [raiseNew]
 refine wpAny_bind (wpAny_handled ?_)
 first | rw [show A.in1.handled=none from hh] | rw [hh]
 refine wpAny_bind (wpAny_pure (wpAny_throw ?_))
 exact q _ _ (((Heap.SameBut.update ..).extBut.push _).push _) ⟨_,Heap.get?_push_size _ rfl,rfl⟩
theorem ue (hh:A.handled=none) (jt tu:Addr) (hne:tu≠jt) (vals:Array Value):Draws prog w A jt [jt,tu] vals.size (fun i v=>vals[i]?=some v) (fun i h=>h.IsTupleIter jt tu i∧h.IsTuple tu vals) where
 live:=fun _ _ st=>let ⟨o,ho,_⟩:=st.1; ⟨o,ho⟩
 frame:=fun _ _ _ st hk=>⟨st.1.at fun o e=>hk jt (by simp) o e,let ⟨o,ho,r⟩:=st.2; ⟨o,hk tu (by simp) o ho,r⟩⟩
 item:=fun i s Q E hi st hQ=>by
  refine rp st.1 st.2 (y:=vals[i]) (by simp [hi]) fun g st' sb=>?_
  exact hQ _ g s.toks (by simp [hi]) ⟨st',let ⟨o,ho,r⟩:=st.2; ⟨o,sb.extBut _ _ hne ho,r⟩⟩ sb
 done:=fun s Q E st hE=>nZ hh st.1 st.2 (by simp) hE
end
theorem nG (tu:Addr) (vals:Array Value) (n:Nat) (dct:Option Addr) (sl:Array (Option Value)) :
  Meets (Builtin.«enumerate.__new__» ⟨[.type "enumerate",.ref tu],[]⟩) (fun _ R s=>s.heap.get? tu=some { cls:=.type "tuple",dict:=dct,data:=.seq vals n,slots:=sl } ∧
   R (.ok (.ret (.ref (s.heap.push { cls:=.type "tuple_iterator",data:=.fields #[.ref tu,.int 0 0] }).objs.size)))
    { s with heap:=(s.heap.push { cls:=.type "tuple_iterator",data:=.fields #[.ref tu,.int 0 0] }).push { cls:=.type "enumerate",data:=.fields #[.none,.bool false,.ref s.heap.objs.size,rawInt 0,.none,.none] } }) :=
 .of_wp fun prog w A R s h=>by
  obtain ⟨hp,g,d,tk,os⟩:=s
  obtain ⟨ht,h⟩:=h
  have hsub:=sub_enumerate
  have hT:Heap.IsTuple (Shared.heap ⟨hp,g,d,tk,os⟩) tu vals:=⟨_,ht,rfl,n,rfl⟩
  wp_walk using AutoSeq1.wpAny_loadPart' ht
  refine wpAny_stack_any fun st=>wpAny_pure ?_
  split
  ·rename_i c _ _ _ _ _
   cases (c == Value.type "enumerate")
   ·wp_walk using AutoSeq1.wpAny_loadPart' ht,wpAny_pyIter_tuple hT
    exact ⟨_,rfl,h⟩
   ·wp_walk using AutoSeq1.wpAny_loadPart' ht,wpAny_pyIter_tuple hT
    exact ⟨_,rfl,h⟩
  ·wp_walk using AutoSeq1.wpAny_loadPart' ht,wpAny_pyIter_tuple hT
   exact ⟨_,rfl,h⟩
end L2
namespace L2
open PySem PySem.Spec PyProof.Rows
section
variable {prog:Program} {w:World} {A:Around} {E:Value→Shared→Prop} {s:Shared}
theorem oY {tu:Addr} {vals:Array Value} {Q:Value→Shared→Prop} (hT:s.heap.IsTuple tu vals)
  (h:∀ g,IsEnum g (s.heap.objs.size+1) s.heap.objs.size 0 .none→g.IsTupleIter s.heap.objs.size tu 0→g.objs.size=s.heap.objs.size+2 →
   (∀ b o,s.heap.get? b=some o→g.get? b=some o)→Q (.ref (s.heap.objs.size+1)) { s with heap:=g }) :
  wpAny (model prog w) A (call (.type "enumerate") [.ref tu]) Q E s:=by
 obtain ⟨⟨c,dct,dt,sl⟩,hl,hc,n,hd⟩:=hT
 have hc':c=.type "tuple":=hc
 have hd':dt=.seq vals n:=hd
 subst hc' hd'
 refine callType_new F.called_enumerate (by decide) (F.typeCall_enumerate_1 _) (F.newCall_enumerate_1 _) (fun ob=>F.args_object_init_2 ob _) F.entry_enumerate_new (nG tu vals n dct sl) ⟨hl,?_⟩
 have sz1:(s.heap.push { cls:=.type "tuple_iterator",data:=.fields #[.ref tu,.int 0 0] }).objs.size=s.heap.objs.size+1:=Heap.size_push ..
 show _∧_
 rw [sz1]
 have g2:=Heap.get?_push_size (s.heap.push { cls:=.type "tuple_iterator",data:=.fields #[.ref tu,.int 0 0] }) (o:={ cls:=.type "enumerate",data:=.fields #[.none,.bool false,.ref s.heap.objs.size,rawInt 0,.none,.none] }) rfl
 rw [sz1] at g2
 refine ⟨⟨_,g2,rfl⟩,h _ g2 ⟨_,Heap.get?_push_of_some _ (Heap.get?_push_size _ rfl),rfl,rfl⟩ (by rw [Heap.size_push,sz1]) fun b o x=>Heap.get?_push_of_some _ (Heap.get?_push_of_some _ x)⟩
theorem ud {e it tu:Addr} {i:Int} {n:Nat} {vals:Array Value} {old:Value} {Q:Option Value→Shared→Prop} (hh:A.handled=none) (he:IsEnum s.heap e it i old) (a1:s.heap.IsTupleIter it tu n) (a2:s.heap.IsTuple tu vals) (a3:vals[n]?=none)
  (q:∀ g,Heap.ExtBut it s.heap g→Q none { s with heap:=g }):wpAny (model prog w) A (pyNext (.ref e)) Q E s:=by
 have ty:s.TypeIs (.ref e) "enumerate":=⟨_,he,rfl⟩
 unfold pyNext
 refine wpAny_bind (wpAny_attempt (wpAny_callSpecial?_slot (name:=Str.ofString "__next__") ty F.slot_enumerate_next (wpAny_call_entry F.slot_enumerate_next ty F.entry_enumerate_next ?_ (F.args_enumerate_next_1 _))))
 show wpAny _ _ (field (.ref e) 2 >>= _) _ _ _
 refine wpAny_bind (wpAny_field he rfl (x:=.ref it) rfl ?_)
 refine wpAny_bind (nZ hh a1 a2 a3 fun g x k hx=>?_)
 obtain ⟨o,ho,hc⟩:=hx
 exact wpAny_bind (wpAny_isInstance (T:="StopIteration") (b:=true) ⟨o,ho,hc⟩ isSubtype_stop (wpAny_pure (q _ k)))
end
def ItT (K:PySem.W.Frag) (a:Addr):It :=
 ⟨fun i H=>∃ xs x,SqT K H a xs∧xs[i]?=some x,
  fun i H y H'=>∃ p x,y=.ref p∧H p=none∧H'=upd H p (.tup [.int i,x])∧∀ xs,SqT K H a xs→xs[i]?=some x,
  fun i H=>∃ xs,SqT K H a xs∧xs.length≤i⟩
theorem rn {P:Program} {w:World} {K:PySem.W.Frag} {elts:List Expr} {k:Nat} {tp:Pos} (a e it:Addr) (hei:e≠it) (hai:a≠it) :
  Turn P w K (.Tuple elts k tp) (ItT K a) [e,it] e (fun i h=>(∃ old,IsEnum h e it i old)∧h.IsTupleIter it a i) where
 mem:=by simp
 obj:=fun i h st b hb=>by
  obtain ⟨⟨old,he⟩,o,ho,hc,hd⟩:=st
  have hb':b=e∨b=it:=by simpa using hb
  rcases hb' with rfl | rfl
  ·exact ⟨_,he,fun v z=>by
    have z':Data.fields _=Data.cell v:=z
    cases z'⟩
  ·exact ⟨o,ho,fun v z=>by rw [hd] at z; cases z⟩
 keep:=fun i h h' st kp=>⟨let ⟨old,he⟩:=st.1; ⟨old,kp e (by simp) _ he⟩,st.2.at fun o q=>kp it (by simp) o q⟩
 item:=by
  intro X hP hw hK hc i pins s σ H E I hf st hg
  subst hP hw hK
  obtain ⟨xs,x,hq,hx⟩:=hg
  obtain ⟨its,rv,pt,hz⟩:=I.tuple hq
  obtain ⟨u,hu,ru⟩:=rv.get hx
  obtain ⟨⟨old,he⟩,hit⟩:=st
  have hT:s.heap.IsTuple a its.toArray:=pt
  have hea:e≠a:=fun z=>by
   subst z
   obtain ⟨o,e1,e2,_⟩:=id hT
   have he':s.heap.get? e=some _:=he
   rw [e1] at he'
   cases he'
   simp at e2
  have hu':its.toArray[i]?=some u:=by simpa using hu
  have hlt:i < its.toArray.size:=(Array.getElem?_eq_some_iff.mp hu').1
  refine wpAny_pyNext_enum_itemD (ue (A:=X.A.in1) (show X.A.in1.handled=none from I.ok.hd hc) it a hai its.toArray) he ⟨hit,hT⟩ hlt hei (by simp [hei,hea]) fun y h1 tk hy ho1 st1 ht1 hz1 hk1=>?_
  rw [hu'] at hy
  cases hy
  refine ⟨_,rfl,wpAny_letOwnedTupleGo_enum ho1 fun h2 he2 hs2=>?_⟩
  have eL:e < s.heap.objs.size:=Heap.lt_size he
  have ht2:h2.get? s.heap.objs.size=some { cls:=.type "tuple",data:=.seq #[.int i tk,u] }:=(hs2.2 _ (Nat.ne_of_gt eL)).trans ht1
  have hit2:h2.IsTupleIter it a (i+1):=st1.1.at fun o q=>hs2.extBut _ _ hei.symm q
  have I2:Inv X pins σ (upd H s.heap.objs.size (.tup [.int i,x])) { s with heap:=h2,toks:=tk+1 }:=by
   refine I.turnedLaid (fp:=[e,it]) hf (Nat.le_refl _) (fun b ob hb q=>?_) (fun b hb=>?_) ?_
   ·have h1:b≠e:=fun z=>hb (by simp [z])
    have h2':b≠it:=fun z=>hb (by simp [z])
    exact (hs2.2 b h1).trans (hk1 b ob h1 h2' q)
   ·have hb':b=e∨b=it:=by simpa using hb
    rcases hb' with rfl | rfl
    ·exact ⟨_,he2⟩
    ·obtain ⟨o,ho,_⟩:=hit2
     exact ⟨o,ho⟩
   ·refine ⟨(by show 2≤sizeLine; decide),[.int i tk,u],.cons ⟨_,rfl⟩ (.cons ru .nil),?_⟩
    exact ⟨_,ht2,rfl,_,rfl,rfl⟩
  have fr:∀ b∈[e,it],upd H s.heap.objs.size (.tup [.int i,x]) b=none:=fun b hb=>by
   have hlt:b < s.heap.objs.size:=by
    have hb':b=e∨b=it:=by simpa using hb
    rcases hb' with rfl | rfl
    ·exact eL
    ·obtain ⟨o,ho,_⟩:=hit
     exact Heap.lt_size ho
   rw [bd (Nat.ne_of_lt hlt)]
   exact (hf b hb).1
  exact ⟨.ref s.heap.objs.size,_,I2,rfl,⟨_,x,rfl,I.fresh,rfl,fun ys hy=>by rw [I.tuple_inj hy hq]; exact hx⟩,⟨⟨_,he2⟩,hit2⟩,fr⟩
 done:=by
  intro X hP hw hK hc i pins s σ H E I hf st hg
  subst hP hw hK
  obtain ⟨xs,hq,hx⟩:=hg
  obtain ⟨its,rv,pt,hz⟩:=I.tuple hq
  obtain ⟨⟨old,he⟩,hit⟩:=st
  obtain ⟨f0,f1,f2,f3,f4,f5⟩:=hf it (by simp)
  have hl:=rv.length
  have hT:s.heap.IsTuple a its.toArray:=pt
  exact ud (I.ok.hd hc) he hit hT (by simp; omega) fun h' eb=>⟨rfl,I.turned (t':=s.toks) (fun b o hb q=>eb b o hb q) f0 f1 f3 f4 f5⟩
 self:=fun _ _ _ _ _ st h=>let ⟨⟨_,he⟩,_⟩:=st; wpAny_pyIter_enum he h
section
variable {X:Cx} {K:PySem.W.Frag}
end
end L2
namespace L2
open PySem PySem.Spec PyProof.Rows
section
open PySem.SeqAt
end
end L2
namespace L2
open PySem PySem.Spec PyProof.Rows
def Rp (H:Hp) (v:V) (txt:Str):Prop:=(∃ d,DV H v d∧d.showable=true∧d.depth≤60∧d.shown.length≤sizeLine∧txt=d.shown)∨∃ a,v=.ref a∧H a=some (.dK [])∧txt=("{}" : Str)
section
variable {X:Cx}
end
end L2
namespace L2
open PySem PySem.Spec PyProof.Rows
abbrev D:=PyData
abbrev En:=List (Option D)
abbrev AS:=Addr→Prop
def dn:Nat→Nat
 | 0=>0
 | 1=>0
 | 2=>1
 | n+3=>n+3
theorem nM:∀ {a b:Nat},a≤b→dn a≤dn b
 | 0,_,_=>Nat.zero_le _
 | 1,_,_=>Nat.zero_le _
 | 2,2,_=>Nat.le_refl _
 | 2,b+3,_=>by show 1≤b+3; omega
 | a+3,b+3,h=>h
 | a+3,0,h=>by omega
 | a+3,1,h=>by omega
 | a+3,2,h=>by omega
 | 2,0,h=>by omega
 | 2,1,h=>by omega
def kD:Key→D
 | .inl i=>.int i
 | .inr x=>.str x
def FzL (K:PySem.W.Frag) (O:AS) (H:Hp) (a:Addr) (vs:List V):Prop:=(Rd H a (.lst vs)∧¬ O a)∨∀ H',SqL K H' a vs
def FzT (K:PySem.W.Frag) (O:AS) (H:Hp) (a:Addr) (vs:List V):Prop:=H a=some (.tup vs)∧¬ O a
theorem FzL.sq {K:PySem.W.Frag} {O:AS} {H:Hp} {a:Addr} {vs:List V} (h:FzL K O H a vs):SqL K H a vs:=h.elim (fun h=>.inl h.1) fun h=>h H
theorem FzT.sq {K:PySem.W.Frag} {O:AS} {H:Hp} {a:Addr} {vs:List V} (h:FzT K O H a vs):SqT K H a vs:=SqT.of h.1
def HD (H:Hp) (O:AS) (ks:List (D × D)) (a:Addr):Prop:=∃ (kk:List Key) (b:Bool),ks=[(.tuple (kk.map kD),.bool b)]∧H a=some (.dT [(kk,.bl b)])∧¬ O a
mutual
def Ow (K:PySem.W.Frag) (O:AS) (H:Hp):D→Nat→V→AS→Prop
 | .none,_,v,_=>v=.non
 | .bool b,_,v,_=>v=.bl b
 | .int i,_,v,_=>v=.int i
 | .str x,_,v,_=>v=.str x
 | .tuple ts,d,v,F=>∃ a vs,v=.ref a∧((d=0∧FzT K O H a vs∧Ows K O H ts 0 vs F)∨(d≠0∧H a=some (.tup vs)∧F a∧∃ F':AS,(∀ b,F' b→F b∧b≠a)∧Ows K O H ts (dn d) vs F'))
 | .list ts,d,v,F=>∃ a vs,v=.ref a∧((d=0∧FzL K O H a vs∧Ows K O H ts 0 vs F)∨(d≠0∧H a=some (.lst vs)∧F a∧∃ F':AS,(∀ b,F' b→F b∧b≠a)∧Ows K O H ts (dn d) vs F'))
 | .dict ks,d,v,F=>∃ a vs,v=.ref a∧((d=0∧H a=some (.dK vs)∧¬ O a∧Owd K O H ks 0 vs F)∨(d≠0∧H a=some (.dK vs)∧F a∧∃ F':AS,(∀ b,F' b→F b∧b≠a)∧Owd K O H ks (dn d) vs F')∨(d=0∧HD H O ks a))
def Ows (K:PySem.W.Frag) (O:AS) (H:Hp):List D→Nat→List V→AS→Prop
 | [],_,vs,_=>vs=[]
 | t :: ts,d,vs,F=>∃ v r,∃ F1 F2:AS,vs=v :: r∧(∀ b,F1 b→F b)∧(∀ b,F2 b→F b)∧(∀ b,F1 b→¬ F2 b)∧Ow K O H t d v F1∧Ows K O H ts d r F2
def Owd (K:PySem.W.Frag) (O:AS) (H:Hp):List (D × D)→Nat→List (Key × V)→AS→Prop
 | [],_,vs,_=>vs=[]
 | (k,t) :: ts,d,vs,F=>∃ q v r,∃ F1 F2:AS,vs=(q,v) :: r∧k=kD q∧(∀ b,F1 b→F b)∧(∀ b,F2 b→F b)∧(∀ b,F1 b→¬ F2 b)∧Ow K O H t d v F1∧Owd K O H ts d r F2
end
section
variable {K:PySem.W.Frag} {O O':AS} {H H':Hp}
theorem Rd.mv {a:Addr} {u:HO} (hk:∀ o,H a=some o→H' a=some o) (h:Rd H a u):Rd H' a u:=by
 rcases h with h | ⟨o,h⟩
 ·exact .inl (hk _ h)
 ·exact .inr ⟨o,hk _ h⟩
theorem Rd.there {a:Addr} {u:HO} (h:Rd H a u):H a≠none:=by
 rcases h with h | ⟨o,h⟩ <;> rw [h] <;> exact fun z=>nomatch z
structure Mv (O O':AS) (G:AS) (H H':Hp):Prop where
 k:∀ a o,H a=some o→(¬ O a∨G a)→H' a=some o
 o:∀ a,O' a→O a∨H a=none
theorem FzL.mv {G:AS} {a:Addr} {vs:List V} (m:Mv O O' G H H') (h:FzL K O H a vs):FzL K O' H' a vs:=by
 rcases h with ⟨h,n⟩ | h
 ·refine .inl ⟨h.mv fun o e=>m.k _ _ e (.inl n),fun z=>?_⟩
  rcases m.o _ z with z | z
  ·exact n z
  ·exact h.there z
 ·exact .inr h
theorem FzT.mv {G:AS} {a:Addr} {vs:List V} (m:Mv O O' G H H') (h:FzT K O H a vs):FzT K O' H' a vs:=by
 obtain ⟨h,n⟩:=h
 refine ⟨m.k _ _ h (.inl n),fun z=>?_⟩
 rcases m.o _ z with z | z
 ·exact n z
 ·rw [h] at z; cases z
mutual
theorem Ow.mv {G:AS} (m:Mv O O' G H H'):∀ (t:D) {d:Nat} {v:V} {F:AS},(∀ b,F b→G b)→Ow K O H t d v F→Ow K O' H' t d v F
 | .none,_,_,_,_,h=>h
 | .bool _,_,_,_,_,h=>h
 | .int _,_,_,_,_,h=>h
 | .str _,_,_,_,_,h=>h
 | .tuple ts,_,_,_,g,h=>by
  obtain ⟨a,vs,e,⟨h0,h1,h2⟩ | ⟨h0,h1,h2,F',hf,h3⟩⟩:=h
  ·exact ⟨a,vs,e,.inl ⟨h0,h1.mv m,Ows.mv m ts g h2⟩⟩
  ·exact ⟨a,vs,e,.inr ⟨h0,m.k _ _ h1 (.inr (g _ h2)),h2,F',hf,Ows.mv m ts (fun b hb=>g _ (hf b hb).1) h3⟩⟩
 | .list ts,_,_,_,g,h=>by
  obtain ⟨a,vs,e,⟨h0,h1,h2⟩ | ⟨h0,h1,h2,F',hf,h3⟩⟩:=h
  ·exact ⟨a,vs,e,.inl ⟨h0,h1.mv m,Ows.mv m ts g h2⟩⟩
  ·exact ⟨a,vs,e,.inr ⟨h0,m.k _ _ h1 (.inr (g _ h2)),h2,F',hf,Ows.mv m ts (fun b hb=>g _ (hf b hb).1) h3⟩⟩
 | .dict ks,_,_,_,g,h=>by
  obtain ⟨a,vs,e,⟨h0,h1,hn,h2⟩ | ⟨h0,h1,h2,F',hf,h3⟩ | ⟨h0,kk,b,h1,h2,hn⟩⟩:=h
  ·refine ⟨a,vs,e,.inl ⟨h0,m.k _ _ h1 (.inl hn),fun z=>?_,Owd.mv m ks g h2⟩⟩
   rcases m.o _ z with z | z
   ·exact hn z
   ·rw [h1] at z; cases z
  ·exact ⟨a,vs,e,.inr (.inl ⟨h0,m.k _ _ h1 (.inr (g _ h2)),h2,F',hf,Owd.mv m ks (fun b hb=>g _ (hf b hb).1) h3⟩)⟩
  ·refine ⟨a,vs,e,.inr (.inr ⟨h0,kk,b,h1,m.k _ _ h2 (.inl hn),fun z=>?_⟩)⟩
   rcases m.o _ z with z | z
   ·exact hn z
   ·rw [h2] at z; cases z
theorem Ows.mv {G:AS} (m:Mv O O' G H H'):∀ (ts:List D) {d:Nat} {vs:List V} {F:AS},(∀ b,F b→G b)→Ows K O H ts d vs F→Ows K O' H' ts d vs F
 | [],_,_,_,_,h=>h
 | t :: ts,_,_,_,g,h=>by
  obtain ⟨v,r,F1,F2,e,h1,h2,h3,h4,h5⟩:=h
  exact ⟨v,r,F1,F2,e,h1,h2,h3,Ow.mv m t (fun b hb=>g _ (h1 b hb)) h4,Ows.mv m ts (fun b hb=>g _ (h2 b hb)) h5⟩
theorem Owd.mv {G:AS} (m:Mv O O' G H H'):∀ (ts:List (D × D)) {d:Nat} {vs:List (Key × V)} {F:AS},(∀ b,F b→G b)→Owd K O H ts d vs F→Owd K O' H' ts d vs F
 | [],_,_,_,_,h=>h
 | (k,t) :: ts,_,_,_,g,h=>by
  obtain ⟨q,v,r,F1,F2,e,e2,h1,h2,h3,h4,h5⟩:=h
  exact ⟨q,v,r,F1,F2,e,e2,h1,h2,h3,Ow.mv m t (fun b hb=>g _ (h1 b hb)) h4,Owd.mv m ts (fun b hb=>g _ (h2 b hb)) h5⟩
end
theorem FzL.sub {a:Addr} {vs:List V} (ho:∀ a,O' a→O a) (h:FzL K O H a vs):FzL K O' H a vs:=h.imp (fun h=>⟨h.1,fun z=>h.2 (ho _ z)⟩) id
theorem FzT.sub {a:Addr} {vs:List V} (ho:∀ a,O' a→O a) (h:FzT K O H a vs):FzT K O' H a vs:=⟨h.1,fun z=>h.2 (ho _ z)⟩
mutual
theorem Ow.cut:∀ (t:D) {d d':Nat} {v:V} {F:AS},d'≤d→Ow K O H t d v F→∃ F':AS,(∀ b,F' b→F b)∧∀ O':AS,(∀ a,O' a→O a)→(∀ a,F a→O' a→F' a)→Ow K O' H t d' v F'
 | .none,_,_,_,F,_,h=>⟨F,fun _ z=>z,fun _ _ _=>h⟩
 | .bool _,_,_,_,F,_,h=>⟨F,fun _ z=>z,fun _ _ _=>h⟩
 | .int _,_,_,_,F,_,h=>⟨F,fun _ z=>z,fun _ _ _=>h⟩
 | .str _,_,_,_,F,_,h=>⟨F,fun _ z=>z,fun _ _ _=>h⟩
 | .tuple ts,d,d',_,F,hd,h=>by
  obtain ⟨a,vs,e,⟨h0,h1,h2⟩ | ⟨h0,h1,h2,G,hg,h3⟩⟩:=h
  ·subst h0
   have e0:d'=0:=by omega
   subst e0
   obtain ⟨F',s1,s2⟩:=Ows.cut ts (Nat.le_refl _) h2
   exact ⟨F',s1,fun O' ho hx=>⟨a,vs,e,.inl ⟨rfl,h1.sub ho,s2 O' ho hx⟩⟩⟩
  ·by_cases e0:d'=0
   ·subst e0
    obtain ⟨F',s1,s2⟩:=Ows.cut ts (Nat.zero_le _) h3
    refine ⟨F',fun b hb=>(hg _ (s1 b hb)).1,fun O' ho hx=>⟨a,vs,e,.inl ⟨rfl,⟨h1,fun z=>(hg _ (s1 _ (hx _ h2 z))).2 rfl⟩,s2 O' ho fun b hb=>hx b (hg b hb).1⟩⟩⟩
   ·obtain ⟨F',s1,s2⟩:=Ows.cut ts (nM hd) h3
    refine ⟨fun b=>b=a∨F' b,fun b hb=>hb.elim (fun z=>z ▸ h2) fun z=>(hg _ (s1 b z)).1,fun O' ho hx=>⟨a,vs,e,.inr ⟨e0,h1,.inl rfl,F',fun b hb=>⟨.inr hb,(hg _ (s1 b hb)).2⟩,s2 O' ho fun b hb hz=>?_⟩⟩⟩
    exact (hx b (hg b hb).1 hz).elim (fun z=>absurd z (hg b hb).2) id
 | .list ts,d,d',_,F,hd,h=>by
  obtain ⟨a,vs,e,⟨h0,h1,h2⟩ | ⟨h0,h1,h2,G,hg,h3⟩⟩:=h
  ·subst h0
   have e0:d'=0:=by omega
   subst e0
   obtain ⟨F',s1,s2⟩:=Ows.cut ts (Nat.le_refl _) h2
   exact ⟨F',s1,fun O' ho hx=>⟨a,vs,e,.inl ⟨rfl,h1.sub ho,s2 O' ho hx⟩⟩⟩
  ·by_cases e0:d'=0
   ·subst e0
    obtain ⟨F',s1,s2⟩:=Ows.cut ts (Nat.zero_le _) h3
    refine ⟨F',fun b hb=>(hg _ (s1 b hb)).1,fun O' ho hx=>⟨a,vs,e,.inl ⟨rfl,.inl ⟨.inl h1,fun z=>(hg _ (s1 _ (hx _ h2 z))).2 rfl⟩,s2 O' ho fun b hb=>hx b (hg b hb).1⟩⟩⟩
   ·obtain ⟨F',s1,s2⟩:=Ows.cut ts (nM hd) h3
    refine ⟨fun b=>b=a∨F' b,fun b hb=>hb.elim (fun z=>z ▸ h2) fun z=>(hg _ (s1 b z)).1,fun O' ho hx=>⟨a,vs,e,.inr ⟨e0,h1,.inl rfl,F',fun b hb=>⟨.inr hb,(hg _ (s1 b hb)).2⟩,s2 O' ho fun b hb hz=>?_⟩⟩⟩
    exact (hx b (hg b hb).1 hz).elim (fun z=>absurd z (hg b hb).2) id
 | .dict ts,d,d',_,F,hd,h=>by
  obtain ⟨a,vs,e,⟨h0,h1,hn,h2⟩ | ⟨h0,h1,h2,G,hg,h3⟩ | ⟨h0,kk,b,h1,h2,hn⟩⟩:=h
  ·subst h0
   have e0:d'=0:=by omega
   subst e0
   obtain ⟨F',s1,s2⟩:=Owd.cut ts (Nat.le_refl _) h2
   exact ⟨F',s1,fun O' ho hx=>⟨a,vs,e,.inl ⟨rfl,h1,fun z=>hn (ho _ z),s2 O' ho hx⟩⟩⟩
  ·by_cases e0:d'=0
   ·subst e0
    obtain ⟨F',s1,s2⟩:=Owd.cut ts (Nat.zero_le _) h3
    refine ⟨F',fun b hb=>(hg _ (s1 b hb)).1,fun O' ho hx=>⟨a,vs,e,.inl ⟨rfl,h1,fun z=>(hg _ (s1 _ (hx _ h2 z))).2 rfl,s2 O' ho fun b hb=>hx b (hg b hb).1⟩⟩⟩
   ·obtain ⟨F',s1,s2⟩:=Owd.cut ts (nM hd) h3
    refine ⟨fun b=>b=a∨F' b,fun b hb=>hb.elim (fun z=>z ▸ h2) fun z=>(hg _ (s1 b z)).1,fun O' ho hx=>⟨a,vs,e,.inr (.inl ⟨e0,h1,.inl rfl,F',fun b hb=>⟨.inr hb,(hg _ (s1 b hb)).2⟩,s2 O' ho fun b hb hz=>?_⟩)⟩⟩
    exact (hx b (hg b hb).1 hz).elim (fun z=>absurd z (hg b hb).2) id
  ·subst h0
   have e0:d'=0:=by omega
   subst e0
   exact ⟨F,fun _ z=>z,fun O' ho hx=>⟨a,vs,e,.inr (.inr ⟨rfl,kk,b,h1,h2,fun z=>hn (ho _ z)⟩)⟩⟩
theorem Ows.cut:∀ (ts:List D) {d d':Nat} {vs:List V} {F:AS},d'≤d→Ows K O H ts d vs F→∃ F':AS,(∀ b,F' b→F b)∧∀ O':AS,(∀ a,O' a→O a)→(∀ a,F a→O' a→F' a)→Ows K O' H ts d' vs F'
 | [],_,_,_,F,_,h=>⟨F,fun _ z=>z,fun _ _ _=>h⟩
 | t :: ts,_,_,_,F,hd,h=>by
  obtain ⟨v,r,F1,F2,e,h1,h2,h3,h4,h5⟩:=h
  obtain ⟨G1,a1,a2⟩:=Ow.cut t hd h4
  obtain ⟨G2,b1,b2⟩:=Ows.cut ts hd h5
  refine ⟨fun b=>G1 b∨G2 b,fun b hb=>hb.elim (fun z=>h1 _ (a1 _ z)) fun z=>h2 _ (b1 _ z),fun O' ho hx=>⟨v,r,G1,G2,e,fun b=>.inl,fun b=>.inr,fun b z1 z2=>h3 b (a1 b z1) (b1 b z2),a2 O' ho fun b hb hz=>?_,b2 O' ho fun b hb hz=>?_⟩⟩
  ·exact (hx b (h1 b hb) hz).elim id fun z=>absurd (b1 b z) (h3 b hb)
  ·exact (hx b (h2 b hb) hz).elim (fun z=>absurd hb (h3 b (a1 b z))) id
theorem Owd.cut:∀ (ts:List (D × D)) {d d':Nat} {vs:List (Key × V)} {F:AS},d'≤d→Owd K O H ts d vs F→∃ F':AS,(∀ b,F' b→F b)∧∀ O':AS,(∀ a,O' a→O a)→(∀ a,F a→O' a→F' a)→Owd K O' H ts d' vs F'
 | [],_,_,_,F,_,h=>⟨F,fun _ z=>z,fun _ _ _=>h⟩
 | (k,t) :: ts,_,_,_,F,hd,h=>by
  obtain ⟨q,v,r,F1,F2,e,e2,h1,h2,h3,h4,h5⟩:=h
  obtain ⟨G1,a1,a2⟩:=Ow.cut t hd h4
  obtain ⟨G2,b1,b2⟩:=Owd.cut ts hd h5
  refine ⟨fun b=>G1 b∨G2 b,fun b hb=>hb.elim (fun z=>h1 _ (a1 _ z)) fun z=>h2 _ (b1 _ z),fun O' ho hx=>⟨q,v,r,G1,G2,e,e2,fun b=>.inl,fun b=>.inr,fun b z1 z2=>h3 b (a1 b z1) (b1 b z2),a2 O' ho fun b hb hz=>?_,b2 O' ho fun b hb hz=>?_⟩⟩
  ·exact (hx b (h1 b hb) hz).elim id fun z=>absurd (b1 b z) (h3 b hb)
  ·exact (hx b (h2 b hb) hz).elim (fun z=>absurd hb (h3 b (a1 b z))) id
end
mutual
theorem Ow.grow (ho:∀ a,O' a→O a):∀ (t:D) {d:Nat} {v:V} {F F':AS},(∀ b,F b→F' b)→Ow K O H t d v F→Ow K O' H t d v F'
 | .none,_,_,_,_,_,h=>h
 | .bool _,_,_,_,_,_,h=>h
 | .int _,_,_,_,_,_,h=>h
 | .str _,_,_,_,_,_,h=>h
 | .tuple ts,_,_,_,_,hf,h=>by
  obtain ⟨a,vs,e,⟨h0,h1,h2⟩ | ⟨h0,h1,h2,G,hg,h3⟩⟩:=h
  ·exact ⟨a,vs,e,.inl ⟨h0,h1.sub ho,Ows.grow ho ts hf h2⟩⟩
  ·exact ⟨a,vs,e,.inr ⟨h0,h1,hf _ h2,G,fun b hb=>⟨hf _ (hg b hb).1,(hg b hb).2⟩,Ows.grow ho ts (fun _ z=>z) h3⟩⟩
 | .list ts,_,_,_,_,hf,h=>by
  obtain ⟨a,vs,e,⟨h0,h1,h2⟩ | ⟨h0,h1,h2,G,hg,h3⟩⟩:=h
  ·exact ⟨a,vs,e,.inl ⟨h0,h1.sub ho,Ows.grow ho ts hf h2⟩⟩
  ·exact ⟨a,vs,e,.inr ⟨h0,h1,hf _ h2,G,fun b hb=>⟨hf _ (hg b hb).1,(hg b hb).2⟩,Ows.grow ho ts (fun _ z=>z) h3⟩⟩
 | .dict ts,_,_,_,_,hf,h=>by
  obtain ⟨a,vs,e,⟨h0,h1,hn,h2⟩ | ⟨h0,h1,h2,G,hg,h3⟩ | ⟨h0,kk,b,h1,h2,hn⟩⟩:=h
  ·exact ⟨a,vs,e,.inl ⟨h0,h1,fun z=>hn (ho _ z),Owd.grow ho ts hf h2⟩⟩
  ·exact ⟨a,vs,e,.inr (.inl ⟨h0,h1,hf _ h2,G,fun b hb=>⟨hf _ (hg b hb).1,(hg b hb).2⟩,Owd.grow ho ts (fun _ z=>z) h3⟩)⟩
  ·exact ⟨a,vs,e,.inr (.inr ⟨h0,kk,b,h1,h2,fun z=>hn (ho _ z)⟩)⟩
theorem Ows.grow (ho:∀ a,O' a→O a):∀ (ts:List D) {d:Nat} {vs:List V} {F F':AS},(∀ b,F b→F' b)→Ows K O H ts d vs F→Ows K O' H ts d vs F'
 | [],_,_,_,_,_,h=>h
 | t :: ts,_,_,_,_,hf,h=>by
  obtain ⟨v,r,F1,F2,e,h1,h2,h3,h4,h5⟩:=h
  exact ⟨v,r,F1,F2,e,fun b z=>hf _ (h1 b z),fun b z=>hf _ (h2 b z),h3,Ow.grow ho t (fun _ z=>z) h4,Ows.grow ho ts (fun _ z=>z) h5⟩
theorem Owd.grow (ho:∀ a,O' a→O a):∀ (ts:List (D × D)) {d:Nat} {vs:List (Key × V)} {F F':AS},(∀ b,F b→F' b)→Owd K O H ts d vs F→Owd K O' H ts d vs F'
 | [],_,_,_,_,_,h=>h
 | (k,t) :: ts,_,_,_,_,hf,h=>by
  obtain ⟨q,v,r,F1,F2,e,e2,h1,h2,h3,h4,h5⟩:=h
  exact ⟨q,v,r,F1,F2,e,e2,fun b z=>hf _ (h1 b z),fun b z=>hf _ (h2 b z),h3,Ow.grow ho t (fun _ z=>z) h4,Owd.grow ho ts (fun _ z=>z) h5⟩
end
mutual
theorem Ow.full:∀ (t:D) {d:Nat} {v:V} {F:AS},Ow K O H t (d+3) v F→Ow K O' H t (d+3) v F
 | .none,_,_,_,h=>h
 | .bool _,_,_,_,h=>h
 | .int _,_,_,_,h=>h
 | .str _,_,_,_,h=>h
 | .tuple ts,_,_,_,h=>by
  obtain ⟨a,vs,e,⟨h0,h1,h2⟩ | ⟨h0,h1,h2,G,hg,h3⟩⟩:=h
  ·cases h0
  ·exact ⟨a,vs,e,.inr ⟨h0,h1,h2,G,hg,Ows.full ts h3⟩⟩
 | .list ts,_,_,_,h=>by
  obtain ⟨a,vs,e,⟨h0,h1,h2⟩ | ⟨h0,h1,h2,G,hg,h3⟩⟩:=h
  ·cases h0
  ·exact ⟨a,vs,e,.inr ⟨h0,h1,h2,G,hg,Ows.full ts h3⟩⟩
 | .dict ts,_,_,_,h=>by
  obtain ⟨a,vs,e,⟨h0,h1,hn,h2⟩ | ⟨h0,h1,h2,G,hg,h3⟩ | ⟨h0,_⟩⟩:=h
  ·cases h0
  ·exact ⟨a,vs,e,.inr (.inl ⟨h0,h1,h2,G,hg,Owd.full ts h3⟩)⟩
  ·cases h0
theorem Ows.full:∀ (ts:List D) {d:Nat} {vs:List V} {F:AS},Ows K O H ts (d+3) vs F→Ows K O' H ts (d+3) vs F
 | [],_,_,_,h=>h
 | t :: ts,_,_,_,h=>by
  obtain ⟨v,r,F1,F2,e,h1,h2,h3,h4,h5⟩:=h
  exact ⟨v,r,F1,F2,e,h1,h2,h3,Ow.full t h4,Ows.full ts h5⟩
theorem Owd.full:∀ (ts:List (D × D)) {d:Nat} {vs:List (Key × V)} {F:AS},Owd K O H ts (d+3) vs F→Owd K O' H ts (d+3) vs F
 | [],_,_,_,h=>h
 | (k,t) :: ts,_,_,_,h=>by
  obtain ⟨q,v,r,F1,F2,e,e2,h1,h2,h3,h4,h5⟩:=h
  exact ⟨q,v,r,F1,F2,e,e2,h1,h2,h3,Ow.full t h4,Owd.full ts h5⟩
end
mutual
theorem Ow.any0:∀ (t:D) {v:V} {F F':AS},Ow K O H t 0 v F→Ow K O H t 0 v F'
 | .none,_,_,_,h=>h
 | .bool _,_,_,_,h=>h
 | .int _,_,_,_,h=>h
 | .str _,_,_,_,h=>h
 | .tuple ts,_,_,_,h=>by
  obtain ⟨a,vs,e,⟨h0,h1,h2⟩ | ⟨h0,_⟩⟩:=h
  ·exact ⟨a,vs,e,.inl ⟨rfl,h1,Ows.any0 ts h2⟩⟩
  ·exact absurd rfl h0
 | .list ts,_,_,_,h=>by
  obtain ⟨a,vs,e,⟨h0,h1,h2⟩ | ⟨h0,_⟩⟩:=h
  ·exact ⟨a,vs,e,.inl ⟨rfl,h1,Ows.any0 ts h2⟩⟩
  ·exact absurd rfl h0
 | .dict ts,_,_,_,h=>by
  obtain ⟨a,vs,e,⟨h0,h1,hn,h2⟩ | ⟨h0,_⟩ | ⟨_,kk,b,h1,h2,hn⟩⟩:=h
  ·exact ⟨a,vs,e,.inl ⟨rfl,h1,hn,Owd.any0 ts h2⟩⟩
  ·exact absurd rfl h0
  ·exact ⟨a,vs,e,.inr (.inr ⟨rfl,kk,b,h1,h2,hn⟩)⟩
theorem Ows.any0:∀ (ts:List D) {vs:List V} {F F':AS},Ows K O H ts 0 vs F→Ows K O H ts 0 vs F'
 | [],_,_,_,h=>h
 | t :: ts,_,_,_,h=>by
  obtain ⟨v,r,F1,F2,e,_,_,_,h4,h5⟩:=h
  exact ⟨v,r,fun _=>False,fun _=>False,e,fun _ z=>z.elim,fun _ z=>z.elim,fun _ z=>z.elim,Ow.any0 t h4,Ows.any0 ts h5⟩
theorem Owd.any0:∀ (ts:List (D × D)) {vs:List (Key × V)} {F F':AS},Owd K O H ts 0 vs F→Owd K O H ts 0 vs F'
 | [],_,_,_,h=>h
 | (k,t) :: ts,_,_,_,h=>by
  obtain ⟨q,v,r,F1,F2,e,e2,_,_,_,h4,h5⟩:=h
  exact ⟨q,v,r,fun _=>False,fun _=>False,e,e2,fun _ z=>z.elim,fun _ z=>z.elim,fun _ z=>z.elim,Ow.any0 t h4,Owd.any0 ts h5⟩
end
theorem Ow.fz {t:D} {d:Nat} {v:V} {F F2:AS} (ho:∀ a,O' a→O a) (hn:∀ a,F a→¬ O' a) (h:Ow K O H t d v F):Ow K O' H t 0 v F2:=by
 obtain ⟨F',s1,s2⟩:=Ow.cut t (Nat.zero_le d) h
 exact Ow.any0 t (s2 O' ho fun a z1 z2=>absurd z2 (hn a z1))
end
def U (A B:AS):AS:=fun a=>A a∨B a
def Own (R:Nat→AS) (Ox:AS):AS:=fun a=>(∃ i,R i a)∨Ox a
theorem gX {A B:AS} (h:∀ a,A a↔B a):A=B:=funext fun a=>propext (h a)
structure EnvOk (K:PySem.W.Frag) (ds:List Nat) (Ox:AS) (H:Hp) (σ:St) (en:En) (R:Nat→AS):Prop where
 at_:∀ (i:Nat) (t:D),en[i]?=some (some t)→∃ v d,σ[i]?=some (some v)∧ds[i]?=some d∧Ow K (Own R Ox) H t d v (R i)
 dj:∀ i j a,R i a→R j a→i=j
 dx:∀ i a,R i a→¬ Ox a
 dom:∀ a,Own R Ox a→∃ o,H a=some o
 l1:en.length=σ.length
 l2:ds.length=σ.length
structure Post (K:PySem.W.Frag) (p:Bool) (ds':List Nat) (Ox:AS) (σ:St) (H:Hp) (en:En) (R:Nat→AS) (en':En) (H':Hp) (R':Nat→AS) (F:AS):Prop where
 env:EnvOk K ds' (U F Ox) H' σ en' R'
 fx:∀ a,F a→¬ Ox a
 keep:∀ a o,H a=some o→(∀ i,¬ R i a)→H' a=some o
 own:∀ a,(F a∨∃ i,R' i a)→(∃ i,R i a)∨H a=none
 dom:∀ a o,H a=some o→∃ o',H' a=some o'
 pure:p=true→en'=en∧R'=R∧∀ a o,H a=some o→H' a=some o
section
variable {K:PySem.W.Frag} {p p1 p2:Bool} {ds ds1 ds2 ds':List Nat} {Ox Ox':AS} {H H':Hp} {σ:St} {en en' en1 en2:En} {R R':Nat→AS} {d d1 d2:Nat} {t1 t2:D}
theorem EnvOk.grow (e:EnvOk K ds Ox H σ en R) (hk:∀ a o,H a=some o→H' a=some o) {F:AS} (hf:∀ a,F a→H a=none∧∃ o,H' a=some o):EnvOk K ds (U F Ox) H' σ en R:=by
 have fo:∀ a,F a→¬ Own R Ox a:=fun a z z2=>by
  obtain ⟨o,q⟩:=e.dom a z2
  rw [(hf a z).1] at q
  cases q
 refine ⟨fun i t h=>?_,e.dj,fun i a h z=>?_,fun a h=>?_,e.l1,e.l2⟩
 ·obtain ⟨v,d,h1,h2,h3⟩:=e.at_ i t h
  refine ⟨v,d,h1,h2,Ow.mv (G:=R i) ⟨fun a o q _=>hk a o q,fun a z=>?_⟩ t (fun _ z=>z) h3⟩
  rcases z with z | z | z
  ·exact .inl (.inl z)
  ·exact .inr (hf a z).1
  ·exact .inl (.inr z)
 ·rcases z with z | z
  ·exact fo a z (.inl ⟨i,h⟩)
  ·exact e.dx i a h z
 ·rcases h with h | h | h
  ·obtain ⟨o,q⟩:=e.dom a (.inl h)
   exact ⟨o,hk a o q⟩
  ·exact (hf a h).2
  ·obtain ⟨o,q⟩:=e.dom a (.inr h)
   exact ⟨o,hk a o q⟩
theorem EnvOk.fewer (e:EnvOk K ds Ox H σ en R) (h:∀ a,Ox' a→Ox a):EnvOk K ds Ox' H σ en R:=by
 refine ⟨fun i t q=>?_,e.dj,fun i a z1 z2=>e.dx i a z1 (h a z2),fun a z=>e.dom a (z.imp id (h a)),e.l1,e.l2⟩
 obtain ⟨v,d,h1,h2,h3⟩:=e.at_ i t q
 exact ⟨v,d,h1,h2,Ow.grow (fun a z=>z.imp id (h a)) t (fun _ z=>z) h3⟩
def tF (K:PySem.W.Frag) (p:Bool) (ds ds':List Nat) (d:Nat) (f:En→Option (D × En)):TE:=fun σ H Q =>
 ∃ Ox en R t en',EnvOk K ds Ox H σ en R∧f en=some (t,en')∧∀ v H' R' F,Post K p ds' Ox σ H en R en' H' R' F→Ow K (Own R' (U F Ox)) H' t d v F→Q v H'
theorem Post.refl (e:EnvOk K ds Ox H σ en R):Post K p ds Ox σ H en R en H R (fun _=>False):=by
 have eq:U (fun _=>False) Ox=Ox:=gX fun a=>⟨fun z=>z.elim (fun z=>z.elim) id,.inr⟩
 exact ⟨eq.symm ▸ e,fun _ z=>z.elim,fun _ _ q _=>q,fun a z=>z.elim (fun z=>z.elim) .inl,fun a o q=>⟨o,q⟩,fun _=>⟨rfl,rfl,fun _ _ q=>q⟩⟩
theorem Post.new (e:EnvOk K ds Ox H σ en R) (hk:∀ a o,H a=some o→H' a=some o) {F:AS} (hf:∀ a,F a→H a=none∧∃ o,H' a=some o):Post K p ds Ox σ H en R en H' R F:=by
 refine ⟨e.grow hk hf,fun a z z2=>?_,fun a o q _=>hk a o q,fun a z=>z.elim (fun z=>.inr (hf a z).1) .inl,fun a o q=>⟨o,hk a o q⟩,fun _=>⟨rfl,rfl,hk⟩⟩
 obtain ⟨o,q⟩:=e.dom a (.inr z2)
 rw [(hf a z).1] at q
 cases q
theorem Post.trans {H1 H2:Hp} {R1 R2:Nat→AS} {F1 F2:AS} (P1:Post K p1 ds1 Ox σ H en R en1 H1 R1 F1) (P2:Post K p2 ds2 (U F1 Ox) σ H1 en1 R1 en2 H2 R2 F2) :
  Post K (p1 && p2) ds2 Ox σ H en R en2 H2 R2 (U F1 F2):=by
 have eq:U F2 (U F1 Ox)=U (U F1 F2) Ox:=gX fun a=>by unfold U; exact ⟨fun z=>by rcases z with z | z | z; exact .inl (.inr z); exact .inl (.inl z); exact .inr z,fun z=>by rcases z with (z | z) | z; exact .inr (.inl z); exact .inl z; exact .inr (.inr z)⟩
 have n1:∀ a,H1 a=none→H a=none:=fun a z=>by
  cases q:H a with
  | none=>rfl
  | some o =>
   obtain ⟨o',q'⟩:=P1.dom a o q
   rw [z] at q'
   cases q'
 refine ⟨eq ▸ P2.env,fun a z z2=>?_,fun a o q n=>?_,fun a z=>?_,fun a o q=>?_,fun hp=>?_⟩
 ·rcases z with z | z
  ·exact P1.fx a z z2
  ·exact P2.fx a z (.inr z2)
 ·refine P2.keep a o (P1.keep a o q n) fun i z=>?_
  rcases P1.own a (.inr ⟨i,z⟩) with ⟨j,z⟩ | z
  ·exact n j z
  ·rw [q] at z; cases z
 ·rcases z with (z | z) | z
  ·exact P1.own a (.inl z)
  ·rcases P2.own a (.inl z) with z | z
   ·exact P1.own a (.inr z)
   ·exact .inr (n1 a z)
  ·rcases P2.own a (.inr z) with z | z
   ·exact P1.own a (.inr z)
   ·exact .inr (n1 a z)
 ·obtain ⟨o',q'⟩:=P1.dom a o q
  exact P2.dom a o' q'
 ·have h1:p1=true:=by cases p1 <;> simp_all
  have h2:p2=true:=by cases p2 <;> simp_all
  obtain ⟨a1,a2,a3⟩:=P1.pure h1
  obtain ⟨b1,b2,b3⟩:=P2.pure h2
  exact ⟨b1.trans a1,b2.trans a2,fun a o q=>b3 a o (a3 a o q)⟩
theorem Ow.over {H1 H2:Hp} {R1 R2:Nat→AS} {F1 F2:AS} {t:D} {v:V} (P1:EnvOk K ds1 (U F1 Ox) H1 σ en1 R1) (P2:Post K p2 ds2 (U F1 Ox) σ H1 en1 R1 en2 H2 R2 F2) (h:Ow K (Own R1 (U F1 Ox)) H1 t d v F1) :
  Ow K (Own R2 (U (U F1 F2) Ox)) H2 t d v F1:=by
 refine Ow.mv (G:=F1) ⟨fun a o q z=>P2.keep a o q fun i zi=>?_,fun a z=>?_⟩ t (fun _ z=>z) h
 ·rcases z with z | z
  ·exact z (.inl ⟨i,zi⟩)
  ·exact P1.dx i a zi (.inl z)
 ·rcases z with z | (z | z) | z
  ·rcases P2.own a (.inr z) with z | z
   ·exact .inl (.inl z)
   ·exact .inr z
  ·exact .inl (.inr (.inl z))
  ·rcases P2.own a (.inl z) with z | z
   ·exact .inl (.inl z)
   ·exact .inr z
  ·exact .inl (.inr (.inr z))
theorem m9 {F1 F2:AS}:U F2 (U F1 Ox)=U (U F1 F2) Ox:=gX fun a=>by unfold U; exact ⟨fun z=>by rcases z with z | z | z; exact .inl (.inr z); exact .inl (.inl z); exact .inr z,fun z=>by rcases z with (z | z) | z; exact .inr (.inl z); exact .inl z; exact .inr (.inr z)⟩
theorem two {f g:En→Option (D × En)} {Q:V→V→Hp→Prop} (e:EnvOk K ds Ox H σ en R) (h1:f en=some (t1,en1)) (h2:g en1=some (t2,en2))
  (k:∀ x y H2 R2 F1 F2,Post K (p1 && p2) ds2 Ox σ H en R en2 H2 R2 (U F1 F2)→Ow K (Own R2 (U (U F1 F2) Ox)) H2 t1 d1 x F1→Ow K (Own R2 (U (U F1 F2) Ox)) H2 t2 d2 y F2→Q x y H2) :
  tF K p1 ds ds1 d1 f σ H fun x H1=>tF K p2 ds1 ds2 d2 g σ H1 fun y H2=>Q x y H2:=by
 refine ⟨Ox,en,R,t1,en1,e,h1,fun x H1 R1 F1 P1 o1=>?_⟩
 refine ⟨U F1 Ox,en1,R1,t2,en2,P1.env,h2,fun y H2 R2 F2 P2 o2=>?_⟩
 exact k x y H2 R2 F1 F2 (P1.trans P2) (Ow.over P1.env P2 o1) (m9 ▸ o2)
end
end L2
namespace L2
open PySem PySem.Spec PyProof.Rows
abbrev ME:=En→Option (D × En)
abbrev MT:=En→Option (Bool × En)
abbrev MA:=En→Option (List (D ⊕ Nat) × En)
def af (i:Nat):ME:=fun en=>(en[i]?).join.map fun t=>(t,en)
def eMv (i:Nat):ME:=fun en=>(en[i]?).join.map fun t=>(t,en.set i none)
def eC (t:D):ME:=fun en=>some (t,en)
def e1 (g:D→Option D) (f:ME):ME:=fun en=>(f en).bind fun r=>(g r.1).map fun t=>(t,r.2)
def e2 (g:D→D→Option D) (f1 f2:ME):ME:=fun en=>(f1 en).bind fun r=>(f2 r.2).bind fun q=>(g r.1 q.1).map fun t=>(t,q.2)
def cB (f g:ME):ME:=fun en=>(f en).bind fun r=>match r.1 with
 | .bool true=>g r.2
 | .bool false=>some (.bool false,r.2)
 | _=>none
def eOr (f g:ME):ME:=fun en=>(f en).bind fun r=>match r.1 with
 | .bool true=>some (.bool true,r.2)
 | .bool false=>g r.2
 | _=>none
def iY (f:ME):ME:=fun en=>(f en).bind fun r=>match r.1 with
 | .bool b=>some (.bool (!b),r.2)
 | _=>none
def eIf (c:MT) (f g:ME):ME:=fun en=>(c en).bind fun r=>if r.1 then f r.2 else g r.2
def tV (f:ME):MT:=fun en=>(f en).bind fun r=>match r.1 with
 | .bool b=>some (b,r.2)
 | _=>none
def eR (f g:MT):MT:=fun en=>(f en).bind fun r=>if r.1 then g r.2 else some (false,r.2)
def bOr (f g:MT):MT:=fun en=>(f en).bind fun r=>if r.1 then some (true,r.2) else g r.2
def cb (f:MT):MT:=fun en=>(f en).map fun r=>(!r.1,r.2)
def ai:MA:=fun en=>some ([],en)
def ad (f:ME) (r:MA):MA:=fun en=>(f en).bind fun x=>(r x.2).map fun y=>(.inl x.1 :: y.1,y.2)
def bh (i:Nat) (r:MA):MA:=fun en=>(en[i]?).join.bind fun _=>(r en).map fun y=>(.inr i :: y.1,y.2)
def vals:List (D ⊕ Nat)→Option (List D)
 | []=>some []
 | .inl t :: r=>(vals r).map (t :: ·)
 | .inr _ :: _=>none
def eN (g:List D→Option D) (fa:MA):ME:=fun en=>(fa en).bind fun r=>(vals r.1).bind fun ts=>(g ts).map fun t=>(t,r.2)
def NewTo (H H':Hp) (F:AS):Prop:=(∀ a o,H a=some o→H' a=some o)∧∀ a,F a→H a=none∧∃ o,H' a=some o
def NoA:AS:=fun _=>False
theorem ij {A:AS}:U NoA A=A:=gX fun a=>⟨fun z=>z.elim (fun z=>z.elim) id,.inr⟩
def rF1 (K:PySem.W.Frag) (g:D→Option D) (d:Nat):V→Hp→VK→Prop:=fun x H Q=>∃ (O:AS) (a t:D),Ow K O H a 0 x NoA∧(∀ a,O a→∃ o,H a=some o)∧g a=some t∧∀ v H' F,NewTo H H' F→Ow K (U F O) H' t d v F→Q v H'
def rF2 (K:PySem.W.Frag) (g:D→D→Option D) (d:Nat):R2:=fun x y H Q=>∃ (O:AS) (a b t:D),Ow K O H a 0 x NoA∧Ow K O H b 0 y NoA∧(∀ a,O a→∃ o,H a=some o)∧g a b=some t∧∀ v H' F,NewTo H H' F→Ow K (U F O) H' t d v F→Q v H'
def rFn (K:PySem.W.Frag) (g:List D→Option D) (d:Nat):List V→Hp→VK→Prop:=fun xs H Q=>∃ (O:AS) (ts:List D) (t:D),Ows K O H ts 0 xs NoA∧(∀ a,O a→∃ o,H a=some o)∧g ts=some t∧∀ v H' F,NewTo H H' F→Ow K (U F O) H' t d v F→Q v H'
section
variable {K:PySem.W.Frag} {p p1 p2:Bool} {ds ds0 ds1 ds2 ds':List Nat} {Ox Ox':AS} {H H':Hp} {σ:St} {en en' en1 en2:En} {R R':Nat→AS} {d d' d1 d2:Nat} {t t1 t2:D} {Q:VK} {f f1 f2 fa fb:ME}
theorem nb {F:AS}:U F (Own R Ox)=Own R (U F Ox):=gX fun a=>by
 unfold U Own
 exact ⟨fun z=>by rcases z with z | z | z; exact .inr (.inl z); exact .inl z; exact .inr (.inr z),fun z=>by rcases z with z | z | z; exact .inr (.inl z); exact .inl z; exact .inr (.inr z)⟩
theorem Post.fin {H1:Hp} {F0 F:AS} (P:Post K p ds' Ox σ H en R en' H1 R' F0) (n:NewTo H1 H' F):Post K p ds' Ox σ H en R en' H' R' F:=by
 have e:=P.env.fewer (Ox':=Ox) fun a z=>.inr z
 have n1:∀ a,H1 a=none→H a=none:=fun a z=>by
  cases q:H a with
  | none=>rfl
  | some o =>
   obtain ⟨o',q'⟩:=P.dom a o q
   rw [z] at q'
   cases q'
 refine ⟨e.grow n.1 n.2,fun a z z2=>?_,fun a o q nn=>n.1 a o (P.keep a o q nn),fun a z=>?_,fun a o q=>?_,fun hp=>?_⟩
 ·obtain ⟨o,q⟩:=e.dom a (.inr z2)
  rw [(n.2 a z).1] at q
  cases q
 ·rcases z with z | z
  ·exact .inr (n1 a (n.2 a z).1)
  ·exact P.own a (.inr z)
 ·obtain ⟨o',q'⟩:=P.dom a o q
  exact ⟨o',n.1 a o' q'⟩
 ·obtain ⟨a1,a2,a3⟩:=P.pure hp
  exact ⟨a1,a2,fun a o q=>n.1 a o (a3 a o q)⟩
theorem Post.less {F F':AS} (P:Post K p ds' Ox σ H en R en' H' R' F) (h:∀ a,F' a→F a):Post K p ds' Ox σ H en R en' H' R' F' :=
 ⟨P.env.fewer fun a z=>z.imp (h a) id,fun a z=>P.fx a (h a z),P.keep,fun a z=>P.own a (z.imp (h a) id),P.dom,P.pure⟩
theorem Ow.letgo {F F0:AS} {v:V} (P:Post K p ds' Ox σ H en R en' H' R' F0) (hf:∀ a,F a→F0 a) (h:Ow K (Own R' (U F0 Ox)) H' t d v F):Ow K (Own R' Ox) H' t 0 v NoA:=by
 refine Ow.fz (fun a z=>z.imp id .inr) (fun a z z2=>?_) h
 rcases z2 with ⟨i,z2⟩ | z2
 ·exact P.env.dx i a z2 (.inl (hf a z))
 ·exact P.fx a (hf a z) z2
theorem Post.doms {F0:AS} (P:Post K p ds' Ox σ H en R en' H' R' F0):∀ a,Own R' Ox a→∃ o,H' a=some o:=fun a z=>P.env.dom a (z.imp id .inr)
theorem GZ (hd:ds[i]?=some 0) (h:tF K true ds ds 0 (af i) σ H Q):kg i σ H Q:=by
 obtain ⟨Ox,en,R,t,en',e,hf,k⟩:=h
 unfold af at hf
 cases q:en[i]? with
 | none=>rw [q] at hf; cases hf
 | some o =>
  rw [q] at hf
  cases o with
  | none=>cases hf
  | some t' =>
   cases hf
   obtain ⟨v,d,h1,h2,h3⟩:=e.at_ i t q
   rw [hd] at h2
   cases h2
   exact ⟨v,h1,k v H R NoA (Post.refl e) (by rw [ij]; exact Ow.any0 t h3)⟩
theorem f_c {v:V} (hv:∀ K O H F,Ow K O H t 3 v F) (h:tF K true ds ds 3 (eC t) σ H Q):tC v σ H Q:=by
 obtain ⟨Ox,en,R,t',en',e,hf,k⟩:=h
 cases hf
 exact k v H R NoA (Post.refl e) (hv _ _ _ _)
theorem G3 (hd:d'≤d) (h:tF K p ds ds' d' f σ H Q):tF K p ds ds' d f σ H Q:=by
 obtain ⟨Ox,en,R,t,en',e,hf,k⟩:=h
 refine ⟨Ox,en,R,t,en',e,hf,fun v H' R' F P o=>?_⟩
 obtain ⟨F',s1,s2⟩:=Ow.cut t hd o
 refine k v H' R' F' (P.less s1) (s2 _ (fun a z=>z.imp id fun z=>z.imp (s1 a) id) fun a z z2=>?_)
 rcases z2 with ⟨i,z2⟩ | z2 | z2
 ·exact absurd (.inl z) (P.env.dx i a z2)
 ·exact z2
 ·exact absurd z2 (P.fx a z)
theorem jJ (hp:p'=true→p=true) (h:tF K p' ds ds' d f σ H Q):tF K p ds ds' d f σ H Q:=by
 obtain ⟨Ox,en,R,t,en',e,hf,k⟩:=h
 exact ⟨Ox,en,R,t,en',e,hf,fun v H' R' F P o=>k v H' R' F ⟨P.env,P.fx,P.keep,P.own,P.dom,fun z=>P.pure (hp z)⟩ o⟩
theorem EnvOk.cut (e:EnvOk K ds Ox H σ en R) (hl:ds0.length=ds.length) (hd:∀ (i:Nat) a b,ds0[i]?=some a→ds[i]?=some b→a≤b):∃ R',(∀ i a,R' i a→R i a)∧EnvOk K ds0 Ox H σ en R':=by
 have ch:∀ i,∃ F':AS,(∀ b,F' b→R i b)∧∀ t v d0,en[i]?=some (some t)→σ[i]?=some (some v)→ds0[i]?=some d0→∀ O':AS,(∀ a,O' a→Own R Ox a)→(∀ a,R i a→O' a→F' a)→Ow K O' H t d0 v F':=fun i=>by
  by_cases h:∃ t,en[i]?=some (some t)
  ·obtain ⟨t,ht⟩:=h
   obtain ⟨v,d,h1,h2,h3⟩:=e.at_ i t ht
   cases q:ds0[i]? with
   | none=>exact ⟨NoA,fun _ z=>z.elim,fun _ _ _ _ _ z=>nomatch z⟩
   | some d0 =>
    obtain ⟨F',s1,s2⟩:=Ow.cut t (hd i d0 d q h2) h3
    refine ⟨F',s1,fun t' v' d0' h1' h2' h3' O'=>?_⟩
    rw [ht] at h1'; cases h1'
    rw [h1] at h2'; cases h2'
    cases h3'
    exact s2 O'
  ·exact ⟨NoA,fun _ z=>z.elim,fun t _ _ ht=>absurd ⟨t,ht⟩ h⟩
 refine ⟨fun i=>(ch i).choose,fun i=>(ch i).choose_spec.1,fun i t ht=>?_,fun i j a z1 z2=>e.dj i j a ((ch i).choose_spec.1 a z1) ((ch j).choose_spec.1 a z2),fun i a z=>e.dx i a ((ch i).choose_spec.1 a z),fun a z=>e.dom a (z.imp (fun ⟨i,z⟩=>⟨i,(ch i).choose_spec.1 a z⟩) id),e.l1,hl.trans e.l2⟩
 obtain ⟨v,d,h1,h2,h3⟩:=e.at_ i t ht
 have hi:i < ds0.length:=by rw [hl]; exact (List.getElem?_eq_some_iff.mp h2).1
 refine ⟨v,ds0[i],h1,List.getElem?_eq_getElem hi,(ch i).choose_spec.2 t v _ ht h1 (List.getElem?_eq_getElem hi) _ (fun a z=>z.imp (fun ⟨j,z⟩=>⟨j,(ch j).choose_spec.1 a z⟩) id) fun a z z2=>?_⟩
 rcases z2 with ⟨j,z2⟩ | z2
 ·have:=e.dj i j a z ((ch j).choose_spec.1 a z2)
  subst this
  exact z2
 ·exact absurd z2 (e.dx i a z)
def leD:List Nat→List Nat→Bool
 | [],[]=>true
 | a :: r,b :: s=>decide (a≤b) && leD r s
 | _,_=>false
theorem fS:∀ {a b:List Nat},leD a b=true→a.length=b.length∧∀ (i:Nat) x y,a[i]?=some x→b[i]?=some y→x≤y
 | [],[],_=>⟨rfl,fun i x y h=>by simp at h⟩
 | a :: r,b :: s,h=>by
  unfold leD at h
  rw [Bool.and_eq_true] at h
  obtain ⟨h1,h2⟩:=h
  obtain ⟨h3,h4⟩:=fS h2
  refine ⟨by rw [List.length_cons,List.length_cons,h3],fun i x y e1 e2=>?_⟩
  cases i with
  | zero=>cases e1; cases e2; exact of_decide_eq_true h1
  | succ i=>exact h4 i x y e1 e2
 | [],_ :: _,h=>nomatch h
 | _ :: _,[],h=>nomatch h
theorem HA (hd:leD ds0 ds=true) (h:tF K false ds ds' d f σ H Q):tF K p ds0 ds' d f σ H Q:=by
 obtain ⟨Ox,en,R,t,en',e,hf,k⟩:=h
 obtain ⟨R1,s1,e1⟩:=e.cut (fS hd).1 (fS hd).2
 refine ⟨Ox,en,R1,t,en',e1,hf,fun v H' R' F P o=>k v H' R' F ⟨P.env,P.fx,fun a o q n=>P.keep a o q fun i z=>n i (s1 i a z),fun a z=>(P.own a z).imp (fun ⟨i,z⟩=>⟨i,s1 i a z⟩) id,P.dom,fun z=>nomatch z⟩ o⟩
theorem G8 (hd:leD ds0 ds=true) (h:tF K true ds ds 3 f σ H Q):tF K true ds0 ds0 3 f σ H Q:=by
 obtain ⟨Ox,en,R,t,en',e,hf,k⟩:=h
 obtain ⟨R1,s1,e1⟩:=e.cut (fS hd).1 (fS hd).2
 refine ⟨Ox,en,R1,t,en',e1,hf,fun v H' R' F P o=>?_⟩
 obtain ⟨a1,a2,a3⟩:=P.pure rfl
 subst a1 a2
 have nf:∀ a,F a→H a=none:=fun a z=>by
  rcases P.own a (.inl z) with ⟨i,z2⟩ | z2
  ·exact absurd (.inl z) (P.env.dx i a z2)
  ·exact z2
 have nt:NewTo H H' F:=⟨a3,fun a z=>⟨nf a z,P.env.dom a (.inr (.inl z))⟩⟩
 exact k v H' R F (Post.new e nt.1 nt.2) (Ow.full t o)
theorem G4 {g:D→Option D} (h:tF K p ds ds1 d (e1 g f) σ H Q):tUn (rF1 K g d) (tF K p ds ds1 d1 f) σ H Q:=by
 obtain ⟨Ox,en,R,t,en',e,hf,k⟩:=h
 unfold e1 at hf
 obtain ⟨⟨t1,en1⟩,h1,hf⟩:=Option.bind_eq_some_iff.mp hf
 obtain ⟨t',h3,hf⟩:=Option.map_eq_some_iff.mp hf
 cases hf
 refine ⟨Ox,en,R,t1,en1,e,h1,fun v H' R' F P o=>?_⟩
 refine ⟨Own R' Ox,t1,t,Ow.letgo P (fun _ z=>z) o,P.doms,h3,fun v2 H2 F2 n o2=>k v2 H2 R' F2 (P.fin n) (nb ▸ o2)⟩
theorem k4 {g:D→D→Option D} (h:tF K (p1 && p2) ds ds2 d (e2 g f1 f2) σ H Q):tOp (rF2 K g d) (tF K p1 ds ds1 d1 f1) (tF K p2 ds1 ds2 d2 f2) σ H Q:=by
 obtain ⟨Ox,en,R,t,en',e,hf,k⟩:=h
 unfold e2 at hf
 obtain ⟨⟨t1,en1⟩,h1,hf⟩:=Option.bind_eq_some_iff.mp hf
 obtain ⟨⟨t2,en2⟩,h2,hf⟩:=Option.bind_eq_some_iff.mp hf
 obtain ⟨t',h3,hf⟩:=Option.map_eq_some_iff.mp hf
 cases hf
 refine two e h1 h2 fun x y H2 R2 F1 F2 P o1 o2=>?_
 exact ⟨Own R2 Ox,t1,t2,t,Ow.letgo P (fun _=>.inl) o1,Ow.letgo P (fun _=>.inr) o2,P.doms,h3,fun v2 H3 F3 n o3=>k v2 H3 R2 F3 (P.fin n) (nb ▸ o3)⟩
theorem Post.after {H1:Hp} {R1 R2:Nat→AS} {F1 F:AS} (P1:Post K p1 ds1 Ox σ H en R en1 H1 R1 F1) (P2:Post K p2 ds2 Ox σ H1 en1 R1 en2 H' R2 F):Post K (p1 && p2) ds2 Ox σ H en R en2 H' R2 F:=by
 have P1':=P1.less (F':=NoA) fun _ z=>z.elim
 have P2':Post K p2 ds2 (U NoA Ox) σ H1 en1 R1 en2 H' R2 F:=by rw [ij]; exact P2
 have:=P1'.trans P2'
 rw [ij] at this
 exact this
theorem Post.env0 {F:AS} (P:Post K p ds' Ox σ H en R en' H' R' F):EnvOk K ds' Ox H' σ en' R':=P.env.fewer fun a z=>.inr z
theorem Ha (h:tF K (p1 && p2) ds ds1 d (cB f1 f2) σ H Q):AV (tF K p1 ds ds1 d1 f1) (tF K p2 ds1 ds1 d f2) σ H Q:=by
 obtain ⟨Ox,en,R,t,en',e,hf,k⟩:=h
 unfold cB at hf
 obtain ⟨⟨t1,en1⟩,h1,hf⟩:=Option.bind_eq_some_iff.mp hf
 refine ⟨Ox,en,R,t1,en1,e,h1,fun v H1 R1 F1 P1 o1=>?_⟩
 cases t1 with
 | bool b =>
  have ev:v=.bl b:=o1
  refine ⟨b,ev,?_⟩
  cases b with
  | true =>
   rw [if_pos rfl]
   exact ⟨Ox,en1,R1,t,en',P1.env0,hf,fun v2 H2 R2 F2 P2 o2=>k v2 H2 R2 F2 (P1.after P2) o2⟩
  | false =>
   cases hf
   rw [if_neg Bool.false_ne_true]
   refine k _ H1 R1 NoA ?_ rfl
   have:=(P1.less (F':=NoA) fun _ z=>z.elim)
   exact ⟨this.env,this.fx,this.keep,this.own,this.dom,fun hp=>this.pure (by cases p1 <;> simp_all)⟩
 | _=>cases hf
theorem Hy (h:tF K (p1 && p2) ds ds1 d (eOr f1 f2) σ H Q):El (tF K p1 ds ds1 d1 f1) (tF K p2 ds1 ds1 d f2) σ H Q:=by
 obtain ⟨Ox,en,R,t,en',e,hf,k⟩:=h
 unfold eOr at hf
 obtain ⟨⟨t1,en1⟩,h1,hf⟩:=Option.bind_eq_some_iff.mp hf
 refine ⟨Ox,en,R,t1,en1,e,h1,fun v H1 R1 F1 P1 o1=>?_⟩
 cases t1 with
 | bool b =>
  have ev:v=.bl b:=o1
  refine ⟨b,ev,?_⟩
  cases b with
  | false =>
   rw [if_neg Bool.false_ne_true]
   exact ⟨Ox,en1,R1,t,en',P1.env0,hf,fun v2 H2 R2 F2 P2 o2=>k v2 H2 R2 F2 (P1.after P2) o2⟩
  | true =>
   cases hf
   rw [if_pos rfl]
   refine k _ H1 R1 NoA ?_ rfl
   have:=(P1.less (F':=NoA) fun _ z=>z.elim)
   exact ⟨this.env,this.fx,this.keep,this.own,this.dom,fun hp=>this.pure (by cases p1 <;> simp_all)⟩
 | _=>cases hf
theorem G5 (h:tF K p ds ds1 3 (iY f) σ H Q):AR (tF K p ds ds1 d1 f) σ H Q:=by
 obtain ⟨Ox,en,R,t,en',e,hf,k⟩:=h
 unfold iY at hf
 obtain ⟨⟨t1,en1⟩,h1,hf⟩:=Option.bind_eq_some_iff.mp hf
 refine ⟨Ox,en,R,t1,en1,e,h1,fun v H1 R1 F1 P1 o1=>?_⟩
 cases t1 with
 | bool b =>
  cases hf
  exact ⟨b,o1,k _ H1 R1 NoA (P1.less fun _ z=>z.elim) rfl⟩
 | _=>cases hf
def tFT (K:PySem.W.Frag) (p:Bool) (ds ds':List Nat) (f:MT):TT:=fun σ H Q =>
 ∃ Ox en R b en',EnvOk K ds Ox H σ en R∧f en=some (b,en')∧∀ H' R',Post K p ds' Ox σ H en R en' H' R' NoA→Q b H'
variable {c c1 c2:MT} {QT:Bool→Hp→Prop}
theorem pT (h:tFT K p ds ds' (tV f) σ H QT):tB (tF K p ds ds' d f) σ H QT:=by
 obtain ⟨Ox,en,R,b,en',e,hf,k⟩:=h
 unfold tV at hf
 obtain ⟨⟨t1,en1⟩,h1,hf⟩:=Option.bind_eq_some_iff.mp hf
 refine ⟨Ox,en,R,t1,en1,e,h1,fun v H1 R1 F1 P1 o1=>?_⟩
 cases t1 with
 | bool b =>
  cases hf
  exact ⟨_,o1,k H1 R1 (P1.less fun _ z=>z.elim)⟩
 | _=>cases hf
theorem Fz (h:tFT K (p1 && p2) ds ds1 (eR c1 c2) σ H QT):Es (tFT K p1 ds ds1 c1) (tFT K p2 ds1 ds1 c2) σ H QT:=by
 obtain ⟨Ox,en,R,b,en',e,hf,k⟩:=h
 unfold eR at hf
 obtain ⟨⟨b1,en1⟩,h1,hf⟩:=Option.bind_eq_some_iff.mp hf
 refine ⟨Ox,en,R,b1,en1,e,h1,fun H1 R1 P1=>?_⟩
 cases b1 with
 | true =>
  rw [if_pos rfl]
  exact ⟨Ox,en1,R1,b,en',P1.env0,hf,fun H2 R2 P2=>k H2 R2 (P1.after P2)⟩
 | false =>
  cases hf
  rw [if_neg Bool.false_ne_true]
  exact k H1 R1 ⟨P1.env,P1.fx,P1.keep,P1.own,P1.dom,fun hp=>P1.pure (by cases p1 <;> simp_all)⟩
theorem GL (h:tFT K (p1 && p2) ds ds1 (bOr c1 c2) σ H QT):tOr (tFT K p1 ds ds1 c1) (tFT K p2 ds1 ds1 c2) σ H QT:=by
 obtain ⟨Ox,en,R,b,en',e,hf,k⟩:=h
 unfold bOr at hf
 obtain ⟨⟨b1,en1⟩,h1,hf⟩:=Option.bind_eq_some_iff.mp hf
 refine ⟨Ox,en,R,b1,en1,e,h1,fun H1 R1 P1=>?_⟩
 cases b1 with
 | false =>
  rw [if_neg Bool.false_ne_true]
  exact ⟨Ox,en1,R1,b,en',P1.env0,hf,fun H2 R2 P2=>k H2 R2 (P1.after P2)⟩
 | true =>
  cases hf
  rw [if_pos rfl]
  exact k H1 R1 ⟨P1.env,P1.fx,P1.keep,P1.own,P1.dom,fun hp=>P1.pure (by cases p1 <;> simp_all)⟩
theorem Fy (h:tFT K p ds ds1 (cb c) σ H QT):Em (tFT K p ds ds1 c) σ H QT:=by
 obtain ⟨Ox,en,R,b,en',e,hf,k⟩:=h
 unfold cb at hf
 obtain ⟨⟨b1,en1⟩,h1,hf⟩:=Option.map_eq_some_iff.mp hf
 cases hf
 exact ⟨Ox,en,R,b1,_,e,h1,fun H1 R1 P1=>k H1 R1 P1⟩
theorem Hz (h:tF K (p && (p1 && p2)) ds ds2 d (eIf c f1 f2) σ H Q):tIf (tFT K p ds ds1 c) (tF K p1 ds1 ds2 d f1) (tF K p2 ds1 ds2 d f2) σ H Q:=by
 obtain ⟨Ox,en,R,t,en',e,hf,k⟩:=h
 unfold eIf at hf
 obtain ⟨⟨b1,en1⟩,h1,hf⟩:=Option.bind_eq_some_iff.mp hf
 refine ⟨Ox,en,R,b1,en1,e,h1,fun H1 R1 P1=>?_⟩
 cases b1 with
 | true =>
  rw [if_pos rfl]
  refine ⟨Ox,en1,R1,t,en',P1.env0,hf,fun v H2 R2 F2 P2 o2=>k v H2 R2 F2 ?_ o2⟩
  have:=P1.after P2
  exact ⟨this.env,this.fx,this.keep,this.own,this.dom,fun hp=>this.pure (by cases p <;> cases p1 <;> simp_all)⟩
 | false =>
  rw [if_neg Bool.false_ne_true]
  refine ⟨Ox,en1,R1,t,en',P1.env0,hf,fun v H2 R2 F2 P2 o2=>k v H2 R2 F2 ?_ o2⟩
  have:=P1.after P2
  exact ⟨this.env,this.fx,this.keep,this.own,this.dom,fun hp=>this.pure (by cases p <;> cases p1 <;> simp_all)⟩
end
end L2
namespace L2
open PySem PySem.Spec PyProof.Rows
abbrev Sh:=List (Nat ⊕ Nat)
def OwA (K:PySem.W.Frag) (O:AS) (H:Hp) (σ:St):List (D ⊕ Nat)→Sh→List V→AS→Prop
 | [],ds,vs,_=>ds=[]∧vs=[]
 | .inl t :: as,ds,vs,F=>∃ v r d dr,∃ F1 F2:AS,vs=v :: r∧ds=.inl d :: dr∧(∀ b,F1 b→F b)∧(∀ b,F2 b→F b)∧(∀ b,F1 b→¬ F2 b)∧Ow K O H t d v F1∧OwA K O H σ as dr r F2
 | .inr i :: as,ds,vs,F=>∃ v r dr,vs=v :: r∧ds=.inr i :: dr∧σ[i]?=some (some v)∧OwA K O H σ as dr r F
def tFA (K:PySem.W.Frag) (p:Bool) (ds ds':List Nat) (sh:Sh) (f:MA):TA:=fun σ H Q =>
 ∃ Ox en R as en',EnvOk K ds Ox H σ en R∧f en=some (as,en')∧∀ vs H' R' F,Post K p ds' Ox σ H en R en' H' R' F→OwA K (Own R' (U F Ox)) H' σ as sh vs F→Q vs H'
def cp (fa:MA):ME:=fun en=>(fa en).bind fun r=>(vals r.1).bind fun ts=>if ts.length≤sizeLine then some (.list ts,r.2) else none
def aP (fa:MA):ME:=fun en=>(fa en).bind fun r=>(vals r.1).bind fun ts=>if ts.length≤sizeLine then some (.tuple ts,r.2) else none
section
variable {K:PySem.W.Frag} {p p1 p2:Bool} {ds ds0 ds1 ds2 ds':List Nat} {Ox Ox' O O':AS} {H H':Hp} {σ:St} {en en' en1 en2:En} {R R':Nat→AS} {d d' d1 d2:Nat} {t t1 t2:D} {Q:VK} {f f1 f2:ME} {fa:MA} {sh:Sh} {QA:List V→Hp→Prop} {i:Nat}
theorem Gc (h:tFA K true ds ds [] ai σ H QA):rq σ H QA:=by
 obtain ⟨Ox,en,R,as,en',e,hf,k⟩:=h
 cases hf
 exact k [] H R NoA (Post.refl e) ⟨rfl,rfl⟩
theorem Cj (h:tFA K (p1 && p2) ds ds2 (.inl d :: sh) (ad f fa) σ H QA):mr (tF K p1 ds ds1 d f) (tFA K p2 ds1 ds2 sh fa) σ H QA:=by
 obtain ⟨Ox,en,R,as,en',e,hf,k⟩:=h
 unfold ad at hf
 obtain ⟨⟨t1,en1⟩,h1,hf⟩:=Option.bind_eq_some_iff.mp hf
 obtain ⟨⟨as2,en2⟩,h2,hf⟩:=Option.map_eq_some_iff.mp hf
 cases hf
 refine ⟨Ox,en,R,t1,en1,e,h1,fun x H1 R1 F1 P1 o1=>?_⟩
 refine ⟨U F1 Ox,en1,R1,as2,en2,P1.env,h2,fun vs H2 R2 F2 P2 o2=>?_⟩
 refine k (x :: vs) H2 R2 (U F1 F2) (P1.trans P2) ⟨x,vs,d,sh,F1,F2,rfl,rfl,fun _=>.inl,fun _=>.inr,fun b z1 z2=>P2.fx b z2 (.inl z1),Ow.over P1.env P2 o1,?_⟩
 rw [← m9]
 exact o2
theorem Ch (h:tFA K p ds ds2 (.inr i :: sh) (bh i fa) σ H QA):mr (kg i) (tFA K p ds ds2 sh fa) σ H QA:=by
 obtain ⟨Ox,en,R,as,en',e,hf,k⟩:=h
 unfold bh at hf
 obtain ⟨t0,h0,hf⟩:=Option.bind_eq_some_iff.mp hf
 obtain ⟨⟨as2,en2⟩,h2,hf⟩:=Option.map_eq_some_iff.mp hf
 cases hf
 have q:en[i]?=some (some t0):=by
  cases q:en[i]? with
  | none=>rw [q] at h0; cases h0
  | some o=>rw [q] at h0; exact congrArg some h0
 obtain ⟨v,d,h1,_⟩:=e.at_ i t0 q
 exact ⟨v,h1,Ox,en,R,as2,en2,e,h2,fun vs H2 R2 F2 P2 o2=>k (v :: vs) H2 R2 F2 P2 ⟨v,vs,sh,rfl,rfl,h1,o2⟩⟩
def cV (c:Nat):Sh→Bool
 | []=>true
 | .inl d :: r=>decide (c≤d) && cV c r
 | .inr _ :: _=>false
theorem OwA.ows:∀ {as:List (D ⊕ Nat)} {sh:Sh} {vs:List V} {F:AS} {ts:List D} {c:Nat},cV c sh=true→vals as=some ts→OwA K O H σ as sh vs F →
  ∃ F':AS,(∀ b,F' b→F b)∧∀ O':AS,(∀ a,O' a→O a)→(∀ a,F a→O' a→F' a)→Ows K O' H ts c vs F'
 | [],_,_,F,ts,c,_,hv,h=>by
  cases hv
  exact ⟨F,fun _ z=>z,fun _ _ _=>h.2⟩
 | .inl t :: as,_,_,F,ts,c,hs,hv,h=>by
  obtain ⟨v,r,d,dr,F1,F2,e1,e2,s1,s2,s3,h1,h2⟩:=h
  subst e1 e2
  unfold vals at hv
  obtain ⟨ts',hv',e⟩:=Option.map_eq_some_iff.mp hv
  subst e
  unfold cV at hs
  rw [Bool.and_eq_true] at hs
  obtain ⟨G1,a1,a2⟩:=Ow.cut t (of_decide_eq_true hs.1) h1
  obtain ⟨G2,b1,b2⟩:=OwA.ows hs.2 hv' h2
  refine ⟨fun b=>G1 b∨G2 b,fun b hb=>hb.elim (fun z=>s1 _ (a1 _ z)) fun z=>s2 _ (b1 _ z),fun O' ho hx=>⟨v,r,G1,G2,rfl,fun b=>.inl,fun b=>.inr,fun b z1 z2=>s3 b (a1 b z1) (b1 b z2),a2 O' ho fun b hb hz=>?_,b2 O' ho fun b hb hz=>?_⟩⟩
  ·exact (hx b (s1 b hb) hz).elim id fun z=>absurd (b1 b z) (s3 b hb)
  ·exact (hx b (s2 b hb) hz).elim (fun z=>absurd hb (s3 b (a1 b z))) id
 | .inr i :: as,_,_,F,ts,c,_,hv,_=>by cases hv
theorem OwA.len:∀ {as:List (D ⊕ Nat)} {sh:Sh} {vs:List V} {F:AS},OwA K O H σ as sh vs F→vs.length=as.length
 | [],_,_,_,h=>by rw [h.2]; rfl
 | .inl t :: as,_,_,_,h=>by
  obtain ⟨v,r,d,dr,F1,F2,e1,e2,s1,s2,s3,h1,h2⟩:=h
  rw [e1,List.length_cons,List.length_cons,h2.len]
 | .inr i :: as,_,_,_,h=>by
  obtain ⟨v,r,dr,e1,e2,e3,h2⟩:=h
  rw [e1,List.length_cons,List.length_cons,h2.len]
theorem lx:∀ {as:List (D ⊕ Nat)} {ts:List D},vals as=some ts→ts.length=as.length
 | [],_,h=>by cases h; rfl
 | .inl t :: as,_,h=>by
  unfold vals at h
  obtain ⟨ts',hv',e⟩:=Option.map_eq_some_iff.mp h
  subst e
  rw [List.length_cons,List.length_cons,lx hv']
 | .inr _ :: _,_,h=>by cases h
theorem t9 {g:List D→Option D} (hs:cV 0 sh=true) (h:tF K p ds ds1 d (eN g fa) σ H Q):tCB (rFn K g d) (tFA K p ds ds1 sh fa) σ H Q:=by
 obtain ⟨Ox,en,R,t,en',e,hf,k⟩:=h
 unfold eN at hf
 obtain ⟨⟨as,en1⟩,h1,hf⟩:=Option.bind_eq_some_iff.mp hf
 obtain ⟨ts,h2,hf⟩:=Option.bind_eq_some_iff.mp hf
 obtain ⟨t',h3,hf⟩:=Option.map_eq_some_iff.mp hf
 cases hf
 refine ⟨Ox,en,R,as,en1,e,h1,fun vs H1 R1 F P o=>?_⟩
 obtain ⟨F',s1,s2⟩:=OwA.ows hs h2 o
 have o2:Ows K (Own R1 Ox) H1 ts 0 vs F':=s2 _ (fun a z=>z.imp id .inr) fun a z z2=>by
  rcases z2 with ⟨i,z2⟩ | z2
  ·exact absurd (.inl z) (P.env.dx i a z2)
  ·exact absurd z2 (P.fx a z)
 exact ⟨Own R1 Ox,ts,t,Ows.any0 ts o2,P.doms,h3,fun v2 H2 F2 n o2=>k v2 H2 R1 F2 (P.fin n) (nb ▸ o2)⟩
theorem Post.add {H1:Hp} {F G:AS} (P:Post K p ds' Ox σ H en R en' H1 R' F) (n:NewTo H1 H' G):Post K p ds' Ox σ H en R en' H' R' (U F G):=by
 have P2:Post K true ds' (U F Ox) σ H1 en' R' en' H' R' G:=Post.new P.env n.1 n.2
 have:=P.trans P2
 rw [Bool.and_true] at this
 exact this
theorem cr {l:Addr} {o:HO} (hl:H l=none):NewTo H (upd H l o) (fun b=>b=l):=by
 refine ⟨fun a u q=>?_,fun a z=>?_⟩
 ·rw [bd]
  ·exact q
  ·intro z
   subst z
   rw [hl] at q
   cases q
 ·subst z
  exact ⟨hl,_,br⟩
theorem G6 {c:Nat} (hs:cV c sh=true) (hd:dn d=c) (hz:d≠0) (h:tF K p ds ds1 d (cp fa) σ H Q):Eo (tFA K p ds ds1 sh fa) σ H Q:=by
 obtain ⟨Ox,en,R,t,en',e,hf,k⟩:=h
 unfold cp at hf
 obtain ⟨⟨as,en1⟩,h1,hf⟩:=Option.bind_eq_some_iff.mp hf
 obtain ⟨ts,h2,hf⟩:=Option.bind_eq_some_iff.mp hf
 by_cases hlen:ts.length≤sizeLine
 case neg=>rw [if_neg hlen] at hf; cases hf
 rw [if_pos hlen] at hf
 cases hf
 refine ⟨Ox,en,R,as,en1,e,h1,fun vs H1 R1 F P o=>⟨?_,fun l hl=>?_⟩⟩
 ·rw [o.len,← lx h2]; exact hlen
 obtain ⟨F',s1,s2⟩:=OwA.ows hs h2 o
 have o2:=s2 (Own R1 (U F' Ox)) (fun a z=>z.imp id fun z=>z.imp (s1 a) id) fun a z z2=>by
  rcases z2 with ⟨i,z2⟩ | z2 | z2
  ·exact absurd (.inl z) (P.env.dx i a z2)
  ·exact z2
  ·exact absurd z2 (P.fx a z)
 have P':=(P.less s1).add (cr (o:=.lst vs) hl)
 have nl:∀ a,F' a→a≠l:=fun a z z2=>by
  subst z2
  obtain ⟨o',q⟩:=P.env.dom a (.inr (.inl (s1 a z)))
  rw [hl] at q
  cases q
 refine k (.ref l) (upd H1 l (.lst vs)) R1 _ P' ⟨l,vs,rfl,.inr ⟨hz,br,.inr rfl,F',fun b z=>⟨.inl z,nl b z⟩,?_⟩⟩
 rw [hd]
 refine Ows.mv (G:=F') ⟨fun a o q _=>(cr (o:=.lst vs) hl).1 a o q,fun a z=>?_⟩ ts (fun _ z=>z) o2
 rcases z with z | (z | z) | z
 ·exact .inl (.inl z)
 ·exact .inl (.inr (.inl z))
 ·exact .inr (by rw [show a=l from z]; exact hl)
 ·exact .inl (.inr (.inr z))
theorem G0 {c:Nat} (hs:cV c sh=true) (hd:dn d=c) (h:tF K p ds ds1 d (aP fa) σ H Q):Ei (tFA K p ds ds1 sh fa) σ H Q:=by
 obtain ⟨Ox,en,R,t,en',e,hf,k⟩:=h
 unfold aP at hf
 obtain ⟨⟨as,en1⟩,h1,hf⟩:=Option.bind_eq_some_iff.mp hf
 obtain ⟨ts,h2,hf⟩:=Option.bind_eq_some_iff.mp hf
 by_cases hlen:ts.length≤sizeLine
 case neg=>rw [if_neg hlen] at hf; cases hf
 rw [if_pos hlen] at hf
 cases hf
 refine ⟨Ox,en,R,as,en1,e,h1,fun vs H1 R1 F P o=>⟨?_,fun l hl=>?_⟩⟩
 ·rw [o.len,← lx h2]; exact hlen
 obtain ⟨F',s1,s2⟩:=OwA.ows hs h2 o
 have o2:=s2 (Own R1 (U F' Ox)) (fun a z=>z.imp id fun z=>z.imp (s1 a) id) fun a z z2=>by
  rcases z2 with ⟨i,z2⟩ | z2 | z2
  ·exact absurd (.inl z) (P.env.dx i a z2)
  ·exact z2
  ·exact absurd z2 (P.fx a z)
 have nl:∀ a,Own R1 (U F' Ox) a→a≠l:=fun a z z2=>by
  subst z2
  obtain ⟨o',q⟩:=P.env.dom a (z.imp id fun z=>z.imp (s1 a) id)
  rw [hl] at q
  cases q
 by_cases hz:d=0
 ·subst hz
  have P':=(P.less s1).add (G:=NoA) (H':=upd H1 l (.tup vs)) ⟨(cr (o:=.tup vs) hl).1,fun _ z=>z.elim⟩
  have eq:U F' NoA=F':=gX fun a=>⟨fun z=>z.elim id fun z=>z.elim,.inl⟩
  rw [eq] at P'
  refine k (.ref l) (upd H1 l (.tup vs)) R1 _ P' ⟨l,vs,rfl,.inl ⟨rfl,⟨br,fun z=>nl l z rfl⟩,?_⟩⟩
  have hc:c=0:=hd.symm
  subst hc
  exact Ows.mv (G:=F') ⟨fun a o q _=>(cr (o:=.tup vs) hl).1 a o q,fun a z=>.inl z⟩ ts (fun _ z=>z) o2
 ·have P':=(P.less s1).add (cr (o:=.tup vs) hl)
  refine k (.ref l) (upd H1 l (.tup vs)) R1 _ P' ⟨l,vs,rfl,.inr ⟨hz,br,.inr rfl,F',fun b z=>⟨.inl z,nl b (.inr (.inl z))⟩,?_⟩⟩
  rw [hd]
  refine Ows.mv (G:=F') ⟨fun a o q _=>(cr (o:=.tup vs) hl).1 a o q,fun a z=>?_⟩ ts (fun _ z=>z) o2
  rcases z with z | (z | z) | z
  ·exact .inl (.inl z)
  ·exact .inl (.inr (.inl z))
  ·exact .inr (by rw [show a=l from z]; exact hl)
  ·exact .inl (.inr (.inr z))
end
def spF (K:PySem.W.Frag) (dps:List Nat) (dr:Nat) (F:List D→Option (D × En)):Sp:=fun vs H Q _ =>
 ∃ Ox ts R r outs,EnvOk K dps Ox H (vs.map some) (ts.map some) R∧F ts=some (r,outs) ∧
  ∀ v H' R' Fr,Post K false dps Ox (vs.map some) H (ts.map some) R outs H' R' Fr→Ow K (Own R' (U Fr Ox)) H' r dr v Fr→Q v H'
def fF:List (D ⊕ Nat)→En→Option (List D)
 | [],_=>some []
 | .inl t :: r,en=>(fF r en).map (t :: ·)
 | .inr i :: r,en=>(en[i]?).join.bind fun t=>(fF r en).map (t :: ·)
def wb:List (D ⊕ Nat)→En→En→En
 | .inr i :: r,o :: outs,en=>wb r outs (en.set i o)
 | .inl _ :: r,_ :: outs,en=>wb r outs en
 | _,_,en=>en
def aq (F:List D→Option (D × En)) (fa:MA):ME:=fun en=>(fa en).bind fun r=>(fF r.1 r.2).bind fun ts=>(F ts).map fun q=>(q.1,wb r.1 q.2 r.2)
def jc:Sh→List Nat
 | []=>[]
 | .inl _ :: r=>jc r
 | .inr i :: r=>i :: jc r
def gm (ds:List Nat):Sh→List Nat→Bool
 | [],[]=>true
 | .inl d :: r,q :: s=>decide (d=q) && gm ds r s
 | .inr i :: r,q :: s=>decide (ds[i]?=some q) && (decide (i ∉ jc r) && gm ds r s)
 | _,_=>false
def je:Sh→Bool
 | []=>true
 | .inl _ :: r=>je r
 | .inr _ :: _=>false
section
variable {K:PySem.W.Frag} {p p1 p2:Bool} {ds ds0 ds1 ds2 ds' dps:List Nat} {Ox Ox' O O':AS} {H H':Hp} {σ:St} {en en' en1 en2:En} {R R':Nat→AS} {d d' d1 d2 dr:Nat} {t t1 t2:D} {Q:VK} {f f1 f2:ME} {fa:MA} {sh:Sh} {QA:List V→Hp→Prop} {i:Nat}
theorem OwA.parts:∀ {as:List (D ⊕ Nat)} {sh:Sh} {vs:List V} {F:AS},OwA K O H σ as sh vs F →
  ∃ Rp:Nat→AS,(∀ (j:Nat) t,as[j]?=some (.inl t)→∃ v d,vs[j]?=some v∧sh[j]?=some (.inl d)∧Ow K O H t d v (Rp j))∧(∀ (j i:Nat),as[j]?=some (.inr i)→∃ v,vs[j]?=some v∧sh[j]?=some (.inr i)∧σ[i]?=some (some v)) ∧
   (∀ j a,Rp j a→F a)∧(∀ j j' a,Rp j a→Rp j' a→j=j')
 | [],sh,vs,F,h=>⟨fun _=>NoA,fun j t z=>by simp at z,fun j i z=>by simp at z,fun _ _ z=>z.elim,fun _ _ _ z=>z.elim⟩
 | .inl t :: as,sh,vs,F,h=>by
  obtain ⟨v,r,d,dr,F1,F2,e1,e2,s1,s2,s3,h1,h2⟩:=h
  subst e1 e2
  obtain ⟨Rp,a1,a2,a3,a4⟩:=h2.parts
  refine ⟨fun j=>match j with | 0=>F1 | j+1=>Rp j,fun j u hj=>?_,fun j i hj=>?_,fun j a z=>?_,fun j j' a z z'=>?_⟩
  ·cases j with
   | zero =>
    have:t=u:=by simpa using hj
    subst this
    exact ⟨v,d,rfl,rfl,h1⟩
   | succ j=>exact a1 j u (by simpa using hj)
  ·cases j with
   | zero=>simp at hj
   | succ j=>exact a2 j i (by simpa using hj)
  ·cases j with
   | zero=>exact s1 a z
   | succ j=>exact s2 a (a3 j a z)
  ·cases j with
   | zero =>
    cases j' with
    | zero=>rfl
    | succ j'=>exact absurd (a3 j' a z') (s3 a z)
   | succ j =>
    cases j' with
    | zero=>exact absurd (a3 j a z) (s3 a z')
    | succ j'=>rw [a4 j j' a z z']
 | .inr i :: as,sh,vs,F,h=>by
  obtain ⟨v,r,dr,e1,e2,e3,h2⟩:=h
  subst e1 e2
  obtain ⟨Rp,a1,a2,a3,a4⟩:=h2.parts
  refine ⟨fun j=>match j with | 0=>NoA | j+1=>Rp j,fun j u hj=>?_,fun j i' hj=>?_,fun j a z=>?_,fun j j' a z z'=>?_⟩
  ·cases j with
   | zero=>simp at hj
   | succ j=>exact a1 j u (by simpa using hj)
  ·cases j with
   | zero =>
    have:i=i':=by simpa using hj
    subst this
    exact ⟨v,rfl,rfl,e3⟩
   | succ j=>exact a2 j i' (by simpa using hj)
  ·cases j with
   | zero=>exact z.elim
   | succ j=>exact a3 j a z
  ·cases j with
   | zero=>exact z.elim
   | succ j =>
    cases j' with
    | zero=>exact z'.elim
    | succ j'=>rw [a4 j j' a z z']
theorem lV:∀ {as:List (D ⊕ Nat)} {en:En} {ts:List D},fF as en=some ts→ts.length=as.length∧∀ (j:Nat) t,ts[j]?=some t→as[j]?=some (.inl t)∨∃ i,as[j]?=some (.inr i)∧en[i]?=some (some t)
 | [],_,_,h=>by cases h; exact ⟨rfl,fun j t z=>by simp at z⟩
 | .inl t :: as,en,_,h=>by
  unfold fF at h
  obtain ⟨ts',h',e⟩:=Option.map_eq_some_iff.mp h
  subst e
  obtain ⟨l,g⟩:=lV h'
  refine ⟨by rw [List.length_cons,List.length_cons,l],fun j u z=>?_⟩
  cases j with
  | zero=>simp at z; subst z; exact .inl rfl
  | succ j=>exact g j u (by simpa using z)
 | .inr i :: as,en,_,h=>by
  unfold fF at h
  obtain ⟨t,ht,h⟩:=Option.bind_eq_some_iff.mp h
  obtain ⟨ts',h',e⟩:=Option.map_eq_some_iff.mp h
  subst e
  obtain ⟨l,g⟩:=lV h'
  refine ⟨by rw [List.length_cons,List.length_cons,l],fun j u z=>?_⟩
  cases j with
  | zero =>
   simp at z
   subst z
   refine .inr ⟨i,rfl,?_⟩
   cases q:en[i]? with
   | none=>rw [q] at ht; cases ht
   | some o=>rw [q] at ht; exact congrArg some ht
  | succ j=>exact g j u (by simpa using z)
theorem kB:∀ {sh:Sh} {dps:List Nat},gm ds sh dps=true→sh.length=dps.length∧(∀ (j d:Nat),sh[j]?=some (.inl d)→dps[j]?=some d)∧(∀ (j i:Nat),sh[j]?=some (.inr i)→∃ q,dps[j]?=some q∧ds[i]?=some q) ∧
   (∀ (j j' i:Nat),sh[j]?=some (.inr i)→sh[j']?=some (.inr i)→j=j')
 | [],[],_=>⟨rfl,fun j d z=>by simp at z,fun j d z=>by simp at z,fun j j' d z=>by simp at z⟩
 | .inl d :: r,q :: s,h=>by
  unfold gm at h
  rw [Bool.and_eq_true] at h
  obtain ⟨h1,h2⟩:=h
  have h1':=of_decide_eq_true h1
  subst h1'
  obtain ⟨l,a,b,c⟩:=kB h2
  refine ⟨by rw [List.length_cons,List.length_cons,l],fun j u z=>?_,fun j i z=>?_,fun j j' i z z'=>?_⟩
  ·cases j with
   | zero=>simp at z; subst z; rfl
   | succ j=>exact a j u (by simpa using z)
  ·cases j with
   | zero=>simp at z
   | succ j=>exact b j i (by simpa using z)
  ·cases j with
   | zero=>simp at z
   | succ j =>
    cases j' with
    | zero=>simp at z'
    | succ j'=>rw [c j j' i (by simpa using z) (by simpa using z')]
 | .inr i0 :: r,q :: s,h=>by
  unfold gm at h
  rw [Bool.and_eq_true,Bool.and_eq_true] at h
  obtain ⟨h1,h2,h3⟩:=h
  have h1':=of_decide_eq_true h1
  have h2':=of_decide_eq_true h2
  obtain ⟨l,a,b,c⟩:=kB h3
  have mem:∀ {r:Sh} {j i:Nat},r[j]?=some (.inr i)→i∈jc r:=fun {r}=>by
   induction r with
   | nil=>intro j i z; simp at z
   | cons x r ih =>
    intro j i z
    cases j with
    | zero =>
     simp at z
     subst z
     unfold jc
     exact List.mem_cons_self
    | succ j =>
     have:=ih (j:=j) (i:=i) (by simpa using z)
     cases x with
     | inl _=>exact this
     | inr _=>exact List.mem_cons_of_mem _ this
  refine ⟨by rw [List.length_cons,List.length_cons,l],fun j u z=>?_,fun j i z=>?_,fun j j' i z z'=>?_⟩
  ·cases j with
   | zero=>simp at z
   | succ j=>exact a j u (by simpa using z)
  ·cases j with
   | zero=>simp at z; subst z; exact ⟨q,rfl,h1'⟩
   | succ j=>exact b j i (by simpa using z)
  ·cases j with
   | zero =>
    simp at z
    subst z
    cases j' with
    | zero=>rfl
    | succ j'=>exact absurd (mem (by simpa using z')) h2'
   | succ j =>
    cases j' with
    | zero =>
     simp at z'
     subst z'
     exact absurd (mem (by simpa using z)) h2'
    | succ j'=>rw [c j j' i (by simpa using z) (by simpa using z')]
 | [],_ :: _,h=>nomatch h
 | .inl _ :: _,[],h=>nomatch h
 | .inr _ :: _,[],h=>nomatch h
theorem pf:∀ (as:List (D ⊕ Nat)) (outs en:En),(wb as outs en).length=en.length
 | [],_,_=>by unfold wb; rfl
 | .inl _ :: as,[],_=>by unfold wb; rfl
 | .inr _ :: as,[],_=>by unfold wb; rfl
 | .inl _ :: as,o :: outs,en=>by unfold wb; exact pf as outs en
 | .inr i :: as,o :: outs,en=>by unfold wb; rw [pf as outs _,List.length_set]
theorem kd:∀ (as:List (D ⊕ Nat)) (outs en:En) (i:Nat),(∀ j:Nat,as[j]?≠some (.inr i))→(wb as outs en)[i]?=en[i]?
 | [],_,_,_,_=>by unfold wb; rfl
 | .inl _ :: as,[],_,_,_=>by unfold wb; rfl
 | .inr _ :: as,[],_,_,_=>by unfold wb; rfl
 | .inl _ :: as,o :: outs,en,i,h=>by unfold wb; exact kd as outs en i fun j=>h (j+1)
 | .inr k :: as,o :: outs,en,i,h=>by
  unfold wb
  rw [kd as outs _ i fun j=>h (j+1),List.getElem?_set_ne]
  intro e
  subst e
  exact h 0 rfl
theorem rh:∀ (as:List (D ⊕ Nat)) (outs en:En) (i j:Nat),as[j]?=some (.inr i)→(∀ j':Nat,as[j']?=some (.inr i)→j'=j)→outs.length=as.length→i < en.length→(wb as outs en)[i]?=outs[j]?
 | [],_,_,_,_,h,_,_,_=>by simp at h
 | .inl _ :: as,[],_,_,_,_,_,h,_=>by simp at h
 | .inr _ :: as,[],_,_,_,_,_,h,_=>by simp at h
 | .inl _ :: as,o :: outs,en,i,j,h,u,l,b=>by
  unfold wb
  cases j with
  | zero=>simp at h
  | succ j=>exact rh as outs en i j (by simpa using h) (fun j' z=>by have:=u (j'+1) (by simpa using z); omega) (by simpa using l) b
 | .inr k :: as,o :: outs,en,i,j,h,u,l,b=>by
  unfold wb
  cases j with
  | zero =>
   have e:k=i:=by simpa using h
   subst e
   rw [kd as outs _ k fun j' z=>by have:=u (j'+1) (by simpa using z); omega]
   rw [List.getElem?_set_self b]
   rfl
  | succ j=>exact rh as outs _ i j (by simpa using h) (fun j' z=>by have:=u (j'+1) (by simpa using z); omega) (by simpa using l) (by rw [List.length_set]; exact b)
end
end L2
namespace L2
open PySem PySem.Spec PyProof.Rows
section
variable {K:PySem.W.Frag} {p p1 p2:Bool} {ds ds0 ds1 ds2 ds' dps:List Nat} {Ox Ox' O O':AS} {H H':Hp} {σ:St} {en en' en1 en2:En} {R R':Nat→AS} {d d' d1 d2 dr:Nat} {t t1 t2:D} {Q:VK} {f f1 f2:ME} {fa:MA} {sh:Sh} {QA:List V→Hp→Prop} {i:Nat}
theorem OwA.shl:∀ {as:List (D ⊕ Nat)} {sh:Sh} {vs:List V} {F:AS},OwA K O H σ as sh vs F→sh.length=as.length
 | [],_,_,_,h=>by rw [h.1]; rfl
 | .inl t :: as,_,_,_,h=>by
  obtain ⟨v,r,d,dr,F1,F2,e1,e2,s1,s2,s3,h1,h2⟩:=h
  rw [e2,List.length_cons,List.length_cons,h2.shl]
 | .inr i :: as,_,_,_,h=>by
  obtain ⟨v,r,dr,e1,e2,e3,h2⟩:=h
  rw [e2,List.length_cons,List.length_cons,h2.shl]
theorem mF:∀ {sh:Sh},je sh=true→∀ (j i:Nat),sh[j]?≠some (.inr i)
 | [],_,j,i,z=>by simp at z
 | .inl _ :: r,h,j,i,z=>by
  cases j with
  | zero=>simp at z
  | succ j=>exact mF (sh:=r) h j i (by simpa using z)
 | .inr _ :: r,h,_,_,_=>nomatch h
theorem Ge {E:XK} {F:List D→Option (D × En)} (hc:gm ds1 sh dps=true) (h:tF K (p && je sh) ds ds1 dr (aq F fa) σ H Q):rz (spF K dps dr F) [] E (tFA K p ds ds1 sh fa) σ H Q:=by
 obtain ⟨Ox,en,R,t,en',e,hf,k⟩:=h
 unfold aq at hf
 obtain ⟨⟨as,en1⟩,h1,hf⟩:=Option.bind_eq_some_iff.mp hf
 obtain ⟨ts,h2,hf⟩:=Option.bind_eq_some_iff.mp hf
 obtain ⟨⟨r,outs⟩,h3,hf⟩:=Option.map_eq_some_iff.mp hf
 cases hf
 refine ⟨Ox,en,R,as,en1,e,h1,fun vs H1 R1 F0 P o=>?_⟩
 obtain ⟨cl,c1,c2,c3⟩:=kB hc
 obtain ⟨Rp,a1,a2,a3,a4⟩:=o.parts
 obtain ⟨tl,tg⟩:=lV h2
 have ol:=o.len
 have asl:∀ (j i:Nat),as[j]?=some (.inr i)→sh[j]?=some (.inr i):=fun j i z=>(a2 j i z).choose_spec.2.1
 have asr:∀ (j i:Nat),sh[j]?=some (.inr i)→as[j]?=some (.inr i):=fun j i z=>by
  cases q:as[j]? with
  | none =>
   have e1:as.length≤j:=List.getElem?_eq_none_iff.mp q
   have e2:j < sh.length:=(List.getElem?_eq_some_iff.mp z).1
   have:=o.shl
   omega
  | some x =>
   cases x with
   | inl t =>
    obtain ⟨_,_,_,e2,_⟩:=a1 j t q
    rw [z] at e2; cases e2
   | inr i' =>
    have:=asl j i' q
    rw [z] at this
    cases this
    rfl
 let Rq:Nat→AS:=fun j=>match sh[j]? with | some (.inr i)=>R1 i | _=>Rp j
 have rq1:∀ j i:Nat,sh[j]?=some (.inr i)→Rq j=R1 i:=fun j i z=>by show (match sh[j]? with | some (.inr i)=>R1 i | _=>Rp j)=R1 i; rw [z]
 have rq2:∀ j:Nat,(∀ i:Nat,sh[j]?≠some (.inr i))→Rq j=Rp j:=fun j z=>by
  show (match sh[j]? with | some (.inr i)=>R1 i | _=>Rp j)=Rp j
  split
  ·next i q=>exact absurd q (z i)
  ·rfl
 have rqc:∀ (j:Nat) a,Rq j a→(∃ i,sh[j]?=some (.inr i)∧R1 i a)∨Rp j a:=fun j a z=>by
  by_cases q:∃ i,sh[j]?=some (.inr i)
  ·obtain ⟨i,q⟩:=q
   rw [rq1 j i q] at z
   exact .inl ⟨i,q,z⟩
  ·rw [rq2 j fun i z=>q ⟨i,z⟩] at z
   exact .inr z
 let Oxp:AS:=fun a=>Ox a∨∃ i,R1 i a∧∀ j:Nat,sh[j]?≠some (.inr i)
 have sub:∀ a,Own Rq Oxp a→Own R1 (U F0 Ox) a:=fun a z=>by
  rcases z with ⟨j,z⟩ | z | ⟨i,z,_⟩
  ·rcases rqc j a z with ⟨i,_,z⟩ | z
   ·exact .inl ⟨i,z⟩
   ·exact .inr (.inl (a3 j a z))
  ·exact .inr (.inr z)
  ·exact .inl ⟨i,z⟩
 have ec:EnvOk K dps Oxp H1 (vs.map some) (ts.map some) Rq:=by
  refine ⟨fun j u hu=>?_,fun j j' a z z'=>?_,fun j a z z2=>?_,fun a z=>P.env.dom a (sub a z),by rw [List.length_map,List.length_map,tl,ol],?_⟩
  ·rw [List.getElem?_map] at hu
   obtain ⟨u',hu,eu⟩:=Option.map_eq_some_iff.mp hu
   cases eu
   rcases tg j u hu with q | ⟨i,q,qe⟩
   ·obtain ⟨v,d,b1,b2,b3⟩:=a1 j u q
    refine ⟨v,d,by rw [List.getElem?_map,b1]; rfl,c1 j d b2,?_⟩
    rw [rq2 j fun i z=>by rw [b2] at z; cases z]
    exact Ow.grow sub u (fun _ z=>z) b3
   ·obtain ⟨v,b1,b2,b3⟩:=a2 j i q
    obtain ⟨v',d,g1,g2,g3⟩:=P.env.at_ i u qe
    rw [b3] at g1
    cases g1
    obtain ⟨qd,q1,q2⟩:=c2 j i b2
    rw [g2] at q2
    cases q2
    refine ⟨v,d,by rw [List.getElem?_map,b1]; rfl,q1,?_⟩
    rw [rq1 j i b2]
    exact Ow.grow sub u (fun _ z=>z) g3
  ·rcases rqc j a z with ⟨i,q,z⟩ | z <;> rcases rqc j' a z' with ⟨i',q',z'⟩ | z'
   ·have:=P.env.dj i i' a z z'
    subst this
    exact c3 j j' i q q'
   ·exact absurd (.inl (a3 j' a z')) (P.env.dx i a z)
   ·exact absurd (.inl (a3 j a z)) (P.env.dx i' a z')
   ·exact a4 j j' a z z'
  ·rcases rqc j a z with ⟨i,q,z⟩ | z
   ·rcases z2 with z2 | ⟨i',z2,n⟩
    ·exact P.env.dx i a z (.inr z2)
    ·have:=P.env.dj i i' a z z2
     subst this
     exact n j q
   ·rcases z2 with z2 | ⟨i',z2,n⟩
    ·exact P.fx a (a3 j a z) z2
    ·exact P.env.dx i' a z2 (.inl (a3 j a z))
  ·have:=o.shl
   rw [List.length_map]
   omega
 rw [List.append_nil]
 refine ⟨Oxp,ts,Rq,r,outs,ec,h3,fun v H2 R2 Fr Pc oc=>?_⟩
 have outl:outs.length=as.length:=by rw [Pc.env.l1,List.length_map]; exact ol
 classical
 let R3:Nat→AS:=fun i=>if q:∃ j:Nat,sh[j]?=some (.inr i) then R2 q.choose else R1 i
 have r31:∀ (i j:Nat),sh[j]?=some (.inr i)→R3 i=R2 j:=fun i j z=>by
  have q:∃ j:Nat,sh[j]?=some (.inr i):=⟨j,z⟩
  have:q.choose=j:=c3 _ _ i q.choose_spec z
  show (if q:∃ j:Nat,sh[j]?=some (.inr i) then R2 q.choose else R1 i)=R2 j
  rw [dif_pos q,this]
 have r32:∀ i:Nat,(∀ j:Nat,sh[j]?≠some (.inr i))→R3 i=R1 i:=fun i z=>by
  show (if q:∃ j:Nat,sh[j]?=some (.inr i) then R2 q.choose else R1 i)=R1 i
  rw [dif_neg fun ⟨j,q⟩=>z j q]
 have r3c:∀ (i:Nat) a,R3 i a→(∃ j:Nat,sh[j]?=some (.inr i)∧R2 j a)∨((∀ j:Nat,sh[j]?≠some (.inr i))∧R1 i a):=fun i a z=>by
  by_cases q:∃ j:Nat,sh[j]?=some (.inr i)
  ·obtain ⟨j,q⟩:=q
   rw [r31 i j q] at z
   exact .inl ⟨j,q,z⟩
  ·rw [r32 i fun j z=>q ⟨j,z⟩] at z
   exact .inr ⟨fun j z=>q ⟨j,z⟩,z⟩
 have sub3:∀ a,Own R3 (U Fr Ox) a→Own R2 (U Fr Oxp) a:=fun a z=>by
  rcases z with ⟨i,z⟩ | z | z
  ·rcases r3c i a z with ⟨j,_,z⟩ | ⟨n,z⟩
   ·exact .inl ⟨j,z⟩
   ·exact .inr (.inr (.inr ⟨i,z,n⟩))
  ·exact .inr (.inl z)
  ·exact .inr (.inr (.inl z))
 have back:∀ a,(Fr a∨∃ j,R2 j a)→Own R1 (U F0 Ox) a∨H1 a=none:=fun a z=>by
  rcases Pc.own a z with ⟨j,z⟩ | z
  ·exact .inl (sub a (.inl ⟨j,z⟩))
  ·exact .inr z
 have back2:∀ a,(Fr a∨∃ j,R2 j a)→(F0 a∨∃ i,R1 i a)∨H1 a=none:=fun a z=>by
  rcases Pc.own a z with ⟨j,z⟩ | z
  ·rcases rqc j a z with ⟨i,_,z⟩ | z
   ·exact .inl (.inr ⟨i,z⟩)
   ·exact .inl (.inl (a3 j a z))
  ·exact .inr z
 have n1:∀ a,H1 a=none→H a=none:=fun a z=>by
  cases q:H a with
  | none=>rfl
  | some o =>
   obtain ⟨o',q'⟩:=P.dom a o q
   rw [z] at q'
   cases q'
 have rqsub:∀ j a,Rq j a→Own R1 (U F0 Ox) a:=fun j a z=>sub a (.inl ⟨j,z⟩)
 have env3:EnvOk K ds1 (U Fr Ox) H2 σ (wb as outs en1) R3:=by
  refine ⟨fun i u hu=>?_,fun i i' a z z'=>?_,fun i a z z2=>?_,fun a z=>Pc.env.dom a (sub3 a z),by rw [pf]; exact P.env.l1,P.env.l2⟩
  ·by_cases q:∃ j:Nat,as[j]?=some (.inr i)
   ·obtain ⟨j,q⟩:=q
    obtain ⟨v,b1,b2,b3⟩:=a2 j i q
    have hil:i < en1.length:=by rw [P.env.l1]; exact (List.getElem?_eq_some_iff.mp b3).1
    rw [rh as outs en1 i j q (fun j' z=>c3 j' j i (asl j' i z) b2) outl hil] at hu
    obtain ⟨v',d,g1,g2,g3⟩:=Pc.env.at_ j u hu
    rw [List.getElem?_map,b1] at g1
    cases g1
    obtain ⟨qd,q1,q2⟩:=c2 j i b2
    rw [g2] at q1
    cases q1
    refine ⟨v,d,b3,q2,?_⟩
    rw [r31 i j b2]
    exact Ow.grow sub3 u (fun _ z=>z) g3
   ·rw [kd as outs en1 i fun j z=>q ⟨j,z⟩] at hu
    have ns:∀ j:Nat,sh[j]?≠some (.inr i):=fun j z=>q ⟨j,asr j i z⟩
    obtain ⟨v,d,g1,g2,g3⟩:=P.env.at_ i u hu
    refine ⟨v,d,g1,g2,?_⟩
    rw [r32 i ns]
    refine Ow.mv (G:=R1 i) ⟨fun a o q z=>Pc.keep a o q fun j zj=>?_,fun a z=>?_⟩ u (fun _ z=>z) g3
    ·rcases z with z | z
     ·exact z (rqsub j a zj)
     ·rcases rqc j a zj with ⟨i',q',z'⟩ | z'
      ·have:=P.env.dj i i' a z z'
       subst this
       exact ns j q'
      ·exact P.env.dx i a z (.inl (a3 j a z'))
    ·rcases z with ⟨i',z⟩ | z | z
     ·rcases r3c i' a z with ⟨j,_,z⟩ | ⟨n,z⟩
      ·exact back a (.inr ⟨j,z⟩)
      ·exact .inl (.inl ⟨i',z⟩)
     ·exact back a (.inl z)
     ·exact .inl (.inr (.inr z))
  ·rcases r3c i a z with ⟨j,q,z⟩ | ⟨n,z⟩ <;> rcases r3c i' a z' with ⟨j',q',z'⟩ | ⟨n',z'⟩
   ·have:=Pc.env.dj j j' a z z'
    subst this
    rw [q] at q'
    cases q'
    rfl
   ·exact absurd (.inr (.inr ⟨i',z',n'⟩)) (Pc.env.dx j a z)
   ·exact absurd (.inr (.inr ⟨i,z,n⟩)) (Pc.env.dx j' a z')
   ·exact P.env.dj i i' a z z'
  ·rcases r3c i a z with ⟨j,q,z⟩ | ⟨n,z⟩
   ·exact Pc.env.dx j a z (z2.imp id .inl)
   ·rcases z2 with z2 | z2
    ·exact Pc.fx a z2 (.inr ⟨i,z,n⟩)
    ·exact P.env.dx i a z (.inr z2)
 refine k v H2 R3 Fr ⟨env3,fun a z z2=>Pc.fx a z (.inl z2),fun a o q n=>?_,fun a z=>?_,fun a o q=>?_,fun hp=>?_⟩ (Ow.grow sub3 r (fun _ z=>z) oc)
 ·refine Pc.keep a o (P.keep a o q n) fun j z=>?_
  have nn:∀ i,¬ R1 i a:=fun i z=>by
   rcases P.own a (.inr ⟨i,z⟩) with ⟨i',z⟩ | z
   ·exact n i' z
   ·rw [q] at z; cases z
  rcases rqc j a z with ⟨i,_,z⟩ | z
  ·exact nn i z
  ·rcases P.own a (.inl (a3 j a z)) with ⟨i',z⟩ | z
   ·exact n i' z
   ·rw [q] at z; cases z
 ·have:(F0 a∨∃ i,R1 i a)∨H1 a=none:=by
   rcases z with z | ⟨i,z⟩
   ·exact back2 a (.inl z)
   ·rcases r3c i a z with ⟨j,_,z⟩ | ⟨n,z⟩
    ·exact back2 a (.inr ⟨j,z⟩)
    ·exact .inl (.inr ⟨i,z⟩)
  rcases this with z | z
  ·exact P.own a z
  ·exact .inr (n1 a z)
 ·obtain ⟨o',q'⟩:=P.dom a o q
  exact Pc.dom a o' q'
 ·obtain ⟨hp1,hp2⟩:=(Bool.and_eq_true _ _ ▸ hp:p=true∧je sh=true)
  obtain ⟨b1,b2,b3⟩:=P.pure hp1
  have ns:=mF hp2
  refine ⟨?_,?_,fun a o q=>?_⟩
  ·show wb as outs en1=en
   rw [← b1]
   refine List.ext_getElem? fun i=>?_
   exact kd as outs en1 i fun j z=>ns j i (asl j i z)
  ·rw [← b2]
   funext i
   exact r32 i fun j=>ns j i
  ·refine Pc.keep a o (b3 a o q) fun j z=>?_
   rcases rqc j a z with ⟨i,z,_⟩ | z
   ·exact ns j i z
   ·have zf:=a3 j a z
    rcases P.own a (.inl zf) with ⟨i,z2⟩ | z2
    ·rw [← b2] at z2
     exact P.env.dx i a z2 (.inl zf)
    ·rw [q] at z2; cases z2
end
end L2
namespace L2
open PySem PySem.Spec PyProof.Rows
inductive Fl where
 | nx (en:En) | rt (t:D) (en:En) | ct (en:En)
abbrev MS:=En→Option Fl
structure Jd where
 lk:List Nat
 dsr:List Nat
 dr:Nat
 dsl:List Nat
structure PostS (K:PySem.W.Frag) (lk:List Nat) (ds':List Nat) (Ox:AS) (σ:St) (H:Hp) (R:Nat→AS) (σ':St) (en':En) (H':Hp) (R':Nat→AS) (F:AS):Prop where
 env:EnvOk K ds' (U F Ox) H' σ' en' R'
 fx:∀ a,F a→¬ Ox a
 keep:∀ a o,H a=some o→(∀ i,¬ R i a)→H' a=some o
 own:∀ a,(F a∨∃ i,R' i a)→(∃ i,R i a)∨H a=none
 dom:∀ a o,H a=some o→∃ o',H' a=some o'
 lk:∀ j∈lk,σ'[j]?=σ[j]?
def tFS (K:PySem.W.Frag) (J:Jd) (ds ds':List Nat) (f:MS):TS:=fun D σ H =>
 ∃ Ox en R fl,EnvOk K ds Ox H σ en R∧f en=some fl∧match fl with
  | .nx en'=>∀ σ' H' R',PostS K J.lk ds' Ox σ H R σ' en' H' R' NoA→D.nx σ' H'
  | .ct en'=>∀ σ' H' R',PostS K J.lk J.dsl Ox σ H R σ' en' H' R' NoA→D.ct σ' H'
  | .rt t en'=>∀ v σ' H' R' F,PostS K J.lk J.dsr Ox σ H R σ' en' H' R' F→Ow K (Own R' (U F Ox)) H' t J.dr v F→D.rt v H'
def ap (f g:MS):MS:=fun en=>(f en).bind fun fl=>match fl with
 | .nx en1=>g en1
 | .rt t en1=>some (.rt t en1)
 | .ct en1=>some (.ct en1)
def aH (i:Nat) (f:ME):MS:=fun en=>(f en).map fun r=>.nx (r.2.set i (some r.1))
def ki (f:ME):MS:=fun en=>(f en).map fun r=>.nx r.2
def aC (f:ME):MS:=fun en=>(f en).map fun r=>.rt r.1 r.2
def HN:MS:=fun en=>some (.rt .none en)
def aM:MS:=fun en=>some (.nx en)
def HP:MS:=fun en=>some (.ct en)
def ia:MS:=fun _=>none
def sIf (c:MT) (f g:MS):MS:=fun en=>(c en).bind fun r=>if r.1 then f r.2 else g r.2
section
variable {K:PySem.W.Frag} {p p1 p2:Bool} {J:Jd} {lk:List Nat} {ds ds0 ds1 ds2 ds':List Nat} {Ox Ox' O O':AS} {H H':Hp} {σ σ':St} {en en' en1 en2:En} {R R':Nat→AS} {d d' d1 d2 dr:Nat} {t t1 t2:D} {f f1 f2:ME} {c:MT} {m m1 m2:MS} {i:Nat} {D:Ends}
theorem PostS.refl (e:EnvOk K ds Ox H σ en R):PostS K lk ds Ox σ H R σ en H R NoA :=
 ⟨by rw [ij]; exact e,fun _ z=>z.elim,fun _ _ q _=>q,fun a z=>z.elim (fun z=>z.elim) .inl,fun a o q=>⟨o,q⟩,fun _ _=>rfl⟩
theorem PostS.env0 {F:AS} (P:PostS K lk ds' Ox σ H R σ' en' H' R' F):EnvOk K ds' Ox H' σ' en' R':=P.env.fewer fun a z=>.inr z
theorem PostS.less {F F':AS} (P:PostS K lk ds' Ox σ H R σ' en' H' R' F) (h:∀ a,F' a→F a):PostS K lk ds' Ox σ H R σ' en' H' R' F' :=
 ⟨P.env.fewer fun a z=>z.imp (h a) id,fun a z=>P.fx a (h a z),P.keep,fun a z=>P.own a (z.imp (h a) id),P.dom,P.lk⟩
theorem PostS.after {σ1 σ2:St} {H1:Hp} {R1 R2:Nat→AS} {F:AS} (P1:PostS K lk ds1 Ox σ H R σ1 en1 H1 R1 NoA) (P2:PostS K lk ds2 Ox σ1 H1 R1 σ2 en2 H' R2 F):PostS K lk ds2 Ox σ H R σ2 en2 H' R2 F:=by
 have n1:∀ a,H1 a=none→H a=none:=fun a z=>by
  cases q:H a with
  | none=>rfl
  | some o =>
   obtain ⟨o',q'⟩:=P1.dom a o q
   rw [z] at q'
   cases q'
 refine ⟨P2.env,P2.fx,fun a o q n=>?_,fun a z=>?_,fun a o q=>?_,fun j hj=>(P2.lk j hj).trans (P1.lk j hj)⟩
 ·refine P2.keep a o (P1.keep a o q n) fun i z=>?_
  rcases P1.own a (.inr ⟨i,z⟩) with ⟨j,z⟩ | z
  ·exact n j z
  ·rw [q] at z; cases z
 ·rcases P2.own a z with z | z
  ·exact P1.own a (.inr z)
  ·exact .inr (n1 a z)
 ·obtain ⟨o',q'⟩:=P1.dom a o q
  exact P2.dom a o' q'
theorem Post.s {F:AS} (P:Post K p ds' Ox σ H en R en' H' R' F):PostS K lk ds' Ox σ H R σ en' H' R' F:=⟨P.env,P.fx,P.keep,P.own,P.dom,fun _ _=>rfl⟩
theorem PostS.cut {F:AS} (P:PostS K lk ds1 Ox σ H R σ' en' H' R' F) (hd:leD ds2 ds1=true):∃ R2,(∀ i a,R2 i a→R' i a)∧PostS K lk ds2 Ox σ H R σ' en' H' R2 F:=by
 obtain ⟨R2,s1,e2⟩:=P.env.cut (fS hd).1 (fS hd).2
 exact ⟨R2,s1,e2,P.fx,P.keep,fun a z=>P.own a (z.imp id fun ⟨i,z⟩=>⟨i,s1 i a z⟩),P.dom,P.lk⟩
theorem FC (h:tFS K J ds ds aM D σ H):AT D σ H:=by
 obtain ⟨Ox,en,R,fl,e,hf,k⟩:=h
 cases hf
 exact k σ H R (PostS.refl e)
theorem FA (h:tFS K J ds ds2 (ap m1 m2) D σ H):Ej (tFS K J ds ds1 m1) (tFS K J ds1 ds2 m2) D σ H:=by
 obtain ⟨Ox,en,R,fl,e,hf,k⟩:=h
 unfold ap at hf
 obtain ⟨fl1,h1,hf⟩:=Option.bind_eq_some_iff.mp hf
 refine ⟨Ox,en,R,fl1,e,h1,?_⟩
 cases fl1 with
 | nx en1 =>
  intro σ1 H1 R1 P1
  refine ⟨Ox,en1,R1,fl,P1.env0,hf,?_⟩
  cases fl with
  | nx en2=>exact fun σ2 H2 R2 P2=>k σ2 H2 R2 (P1.after P2)
  | ct en2=>exact fun σ2 H2 R2 P2=>k σ2 H2 R2 (P1.after P2)
  | rt t en2=>exact fun v σ2 H2 R2 F P2 o=>k v σ2 H2 R2 F (P1.after P2) o
 | ct en1=>cases hf; exact k
 | rt t en1=>cases hf; exact k
theorem tM (hd:leD ds1 ds2=true) (h:tFS K J ds ds1 m D σ H):tFS K J ds ds2 m D σ H:=by
 obtain ⟨Ox,en,R,fl,e,hf,k⟩:=h
 refine ⟨Ox,en,R,fl,e,hf,?_⟩
 cases fl with
 | nx en2 =>
  intro σ2 H2 R2 P2
  obtain ⟨R3,_,P3⟩:=P2.cut hd
  exact k σ2 H2 R3 P3
 | ct en2=>exact k
 | rt t en2=>exact k
theorem FE (h:tFS K J ds ds1 (ki f) D σ H):AU (tF K p ds ds1 d f) D σ H:=by
 obtain ⟨Ox,en,R,fl,e,hf,k⟩:=h
 unfold ki at hf
 obtain ⟨⟨t,en1⟩,h1,hf⟩:=Option.map_eq_some_iff.mp hf
 cases hf
 exact ⟨Ox,en,R,t,en1,e,h1,fun v H1 R1 F P o=>k σ H1 R1 (P.s.less fun _ z=>z.elim)⟩
theorem FB (hd:leD J.dsr ds1=true) (h:tFS K J ds ds' (aC f) D σ H):Ek (tF K p ds ds1 J.dr f) D σ H:=by
 obtain ⟨Ox,en,R,fl,e,hf,k⟩:=h
 unfold aC at hf
 obtain ⟨⟨t,en1⟩,h1,hf⟩:=Option.map_eq_some_iff.mp hf
 cases hf
 refine ⟨Ox,en,R,t,en1,e,h1,fun v H1 R1 F P o=>?_⟩
 obtain ⟨R2,s1,P2⟩:=(P.s (lk:=J.lk)).cut hd
 exact k v σ H1 R2 F P2 (Ow.grow (fun a z=>z.imp (fun ⟨i,z⟩=>⟨i,s1 i a z⟩) id) t (fun _ z=>z) o)
theorem u9 (h:tFS K J ds ds' ia D σ H):sI D σ H:=by
 obtain ⟨Ox,en,R,fl,e,hf,k⟩:=h
 cases hf
theorem GM (h:tFS K J ds ds2 (sIf c m1 m2) D σ H):Ep (tFT K p ds ds1 c) (tFS K J ds1 ds2 m1) (tFS K J ds1 ds2 m2) D σ H:=by
 obtain ⟨Ox,en,R,fl,e,hf,k⟩:=h
 unfold sIf at hf
 obtain ⟨⟨b,en1⟩,h1,hf⟩:=Option.bind_eq_some_iff.mp hf
 refine ⟨Ox,en,R,b,en1,e,h1,fun H1 R1 P1=>?_⟩
 have fin:∀ m,m en1=some fl→tFS K J ds1 ds2 m D σ H1:=fun m hm=>by
  refine ⟨Ox,en1,R1,fl,P1.env0,hm,?_⟩
  cases fl with
  | nx en2=>exact fun σ2 H2 R2 P2=>k σ2 H2 R2 (P1.s.after P2)
  | ct en2=>exact fun σ2 H2 R2 P2=>k σ2 H2 R2 (P1.s.after P2)
  | rt t en2=>exact fun v σ2 H2 R2 F P2 o=>k v σ2 H2 R2 F (P1.s.after P2) o
 cases b with
 | true=>exact fin m1 hf
 | false=>exact fin m2 hf
theorem PostS.store {F:AS} {v:V} (P:Post K p ds1 Ox σ H en R en1 H' R' F) (o:Ow K (Own R' (U F Ox)) H' t d v F) (hi:i < ds1.length) (hl:i ∉ lk) :
  PostS K lk (ds1.set i d) Ox σ H R (σ.set i (some v)) (en1.set i (some t)) H' (fun j=>if j=i then F else R' j) NoA:=by
 have l1:=P.env.l1
 have l2:=P.env.l2
 have sub:∀ a,Own (fun j=>if j=i then F else R' j) Ox a→Own R' (U F Ox) a:=fun a z=>by
  rcases z with ⟨j,z⟩ | z
  ·by_cases hj:j=i
   ·rw [if_pos hj] at z; exact .inr (.inl z)
   ·rw [if_neg hj] at z; exact .inl ⟨j,z⟩
  ·exact .inr (.inr z)
 refine ⟨?_,fun _ z=>z.elim,P.keep,fun a z=>?_,P.dom,fun j hj=>?_⟩
 ·rw [ij]
  refine ⟨fun j u hu=>?_,fun j j' a z z'=>?_,fun j a z z2=>?_,fun a z=>P.env.dom a (sub a z),by rw [List.length_set,List.length_set]; exact l1,by rw [List.length_set,List.length_set]; exact l2⟩
  ·by_cases hj:j=i
   ·subst hj
    rw [List.getElem?_set_self (by omega)] at hu
    cases hu
    refine ⟨v,d,List.getElem?_set_self (by omega),List.getElem?_set_self hi,?_⟩
    rw [if_pos rfl]
    exact Ow.grow sub t (fun _ z=>z) o
   ·rw [List.getElem?_set_ne (Ne.symm hj)] at hu
    obtain ⟨v',d',g1,g2,g3⟩:=P.env.at_ j u hu
    refine ⟨v',d',by rw [List.getElem?_set_ne (Ne.symm hj)]; exact g1,by rw [List.getElem?_set_ne (Ne.symm hj)]; exact g2,?_⟩
    rw [if_neg hj]
    exact Ow.grow sub u (fun _ z=>z) g3
  ·by_cases hj:j=i <;> by_cases hj':j'=i
   ·rw [hj,hj']
   ·rw [if_pos hj] at z; rw [if_neg hj'] at z'
    exact absurd (.inl z) (P.env.dx j' a z')
   ·rw [if_neg hj] at z; rw [if_pos hj'] at z'
    exact absurd (.inl z') (P.env.dx j a z)
   ·rw [if_neg hj] at z; rw [if_neg hj'] at z'
    exact P.env.dj j j' a z z'
  ·by_cases hj:j=i
   ·rw [if_pos hj] at z
    exact P.fx a z z2
   ·rw [if_neg hj] at z
    exact P.env.dx j a z (.inr z2)
 ·rcases z with z | ⟨j,z⟩
  ·exact z.elim
  ·by_cases hj:j=i
   ·rw [if_pos hj] at z; exact P.own a (.inl z)
   ·rw [if_neg hj] at z; exact P.own a (.inr ⟨j,z⟩)
 ·rw [List.getElem?_set_ne]
  intro z
  subst z
  exact hl hj
theorem tN (hi:i < ds1.length) (hl:i ∉ J.lk) (h:tFS K J ds (ds1.set i d) (aH i f) D σ H):pk (tF K p ds ds1 d f) (mS i) D σ H:=by
 obtain ⟨Ox,en,R,fl,e,hf,k⟩:=h
 unfold aH at hf
 obtain ⟨⟨t,en1⟩,h1,hf⟩:=Option.map_eq_some_iff.mp hf
 cases hf
 exact ⟨Ox,en,R,t,en1,e,h1,fun v H1 R1 F P o=>k _ H1 _ (PostS.store P o hi hl)⟩
abbrev MG:=PyData→En→Option En
def tFG (K:PySem.W.Frag) (lk:List Nat) (ds ds':List Nat) (g:MG):TG:=fun v σ H Q =>
 ∃ Ox en R t en',EnvOk K ds Ox H σ en R∧Ow K (Own R Ox) H t 0 v NoA∧g t en=some en'∧∀ σ' R',PostS K lk ds' Ox σ H R σ' en' H R' NoA→(∀ j∈lk,R' j=R j)→Q σ' H
def gA (K:PySem.W.Frag) (lk:List Nat) (ds ds':List Nat) (g:List PyData→En→Option En):TGs:=fun vs σ H Q =>
 ∃ Ox en R ts en',EnvOk K ds Ox H σ en R∧Ows K (Own R Ox) H ts 0 vs NoA∧g ts en=some en'∧∀ σ' R',PostS K lk ds' Ox σ H R σ' en' H R' NoA→(∀ j∈lk,R' j=R j)→Q σ' H
def gN (i:Nat):MG:=fun t en=>some (en.set i (some t))
def gs0:List PyData→En→Option En:=fun ts en=>match ts with
 | []=>some en
 | _=>none
def gsC (g:MG) (r:List PyData→En→Option En):List PyData→En→Option En:=fun ts en=>match ts with
 | t :: ts=>(g t en).bind fun en1=>r ts en1
 | []=>none
def gT (g:List PyData→En→Option En):MG:=fun t en=>match t with
 | .tuple ts=>g ts en
 | _=>none
variable {g g1:MG} {gs:List PyData→En→Option En} {v:V} {vs:List V} {QS:St→Hp→Prop}
theorem Cc (hi:i < ds.length) (hl:i ∉ lk) (h:tFG K lk ds (ds.set i 0) (gN i) v σ H QS):mS i v σ H QS:=by
 obtain ⟨Ox,en,R,t,en',e,o,hf,k⟩:=h
 cases hf
 exact k _ _ (PostS.store (p:=true) (Post.refl e) (by rw [show (fun _=>False:AS)=NoA from rfl,ij]; exact o) hi hl) fun j hj=>if_neg (fun (z:j=i)=>hl (by rw [← z]; exact hj))
theorem Ca (h:gA K lk ds ds gs0 vs σ H QS):Fv vs σ H QS:=by
 obtain ⟨Ox,en,R,ts,en',e,o,hf,k⟩:=h
 cases ts with
 | nil=>cases hf; exact ⟨o,k σ R (PostS.refl e) fun _ _=>rfl⟩
 | cons t ts=>cases hf
theorem vd (h:gA K lk ds ds2 (gsC g gs) vs σ H QS):Bc (tFG K lk ds ds1 g) (gA K lk ds1 ds2 gs) vs σ H QS:=by
 obtain ⟨Ox,en,R,ts,en',e,o,hf,k⟩:=h
 cases ts with
 | nil=>cases hf
 | cons t ts =>
  obtain ⟨en1,h1,h2⟩:=Option.bind_eq_some_iff.mp hf
  obtain ⟨v,r,F1,F2,e1,s1,s2,s3,o1,o2⟩:=o
  refine ⟨v,r,e1,Ox,en,R,t,en1,e,Ow.any0 t o1,h1,fun σ1 R1 P1 r1=>?_⟩
  refine ⟨Ox,en1,R1,ts,en',P1.env0,Ows.any0 ts (Ows.mv (G:=NoA) ⟨fun a o q _=>q,fun a z=>?_⟩ ts (F:=NoA) (fun _ z=>z) (Ows.any0 ts o2)),h2,fun σ2 R2 P2 r2=>k σ2 R2 (P1.after P2) fun j hj=>(r2 j hj).trans (r1 j hj)⟩
  rcases z with z | z
  ·exact (P1.own a (.inr z)).imp .inl id
  ·exact .inl (.inr z)
theorem FN {n:Nat} (hn:∀ ts en,(∃ en',gs ts en=some en')→ts.length=n) (h:tFG K lk ds ds1 (gT gs) v σ H QS):Ft K n (gA K lk ds ds1 gs) v σ H QS:=by
 obtain ⟨Ox,en,R,t,en',e,o,hf,k⟩:=h
 cases t with
 | tuple ts =>
  have hf':gs ts en=some en':=hf
  obtain ⟨a,vs,e1,⟨_,h1,h2⟩ | ⟨z,_⟩⟩:=o
  ·refine ⟨a,vs,e1,h1.sq,?_,Ox,en,R,ts,en',e,h2,hf',k⟩
   rw [← hn ts en ⟨en',hf'⟩]
   have:∀ {ts:List PyData} {vs:List V} {F:AS},Ows K (Own R Ox) H ts 0 vs F→vs.length=ts.length:=fun {ts}=>by
    induction ts with
    | nil=>intro vs F h; rw [show vs=[] from h]; rfl
    | cons t ts ih =>
     intro vs F h
     obtain ⟨v,r,F1,F2,e,h1,h2,h3,h4,h5⟩:=h
     rw [e,List.length_cons,List.length_cons,ih h5]
   exact this h2
  ·exact absurd rfl z
 | _=>cases hf
abbrev MI:=En→Option (List PyData × En)
def kC (K:PySem.W.Frag) (O:AS) (H0:Hp) (J:It) (ts:List PyData):Prop :=
 ∀ (i:Nat) (H:Hp) (O1:AS),(∀ a o,H0 a=some o→¬ O a→H a=some o)→(∀ a,O1 a→O a∨H0 a=none)→(∀ a,O1 a→∃ o,H a=some o) →
  (∀ t,ts[i]?=some t→J.go i H∧∀ x H1,J.yld i H x H1→(∀ a o,H a=some o→H1 a=some o)∧Ow K O1 H1 t 0 x NoA)∧(ts.length=i→J.stop i H)
def tFI (K:PySem.W.Frag) (p:Bool) (ds ds':List Nat) (f:MI):TI:=fun σ H RJ =>
 ∃ Ox en R ts en',EnvOk K ds Ox H σ en R∧f en=some (ts,en')∧∀ J H' R',Post K p ds' Ox σ H en R en' H' R' NoA→kC K (Own R' Ox) H' J ts→RJ J H'
def eh (g:MG) (b:MS):List PyData→En→Option Fl
 | [],en=>some (.nx en)
 | t :: ts,en=>(g t en).bind fun en1=>(b en1).bind fun fl=>match fl with
  | .nx en2=>eh g b ts en2
  | .ct en2=>eh g b ts en2
  | .rt r en2=>some (.rt r en2)
def eg (fi:MI) (g:MG) (b:MS):MS:=fun en=>(fi en).bind fun r=>eh g b r.1 r.2
theorem FD {fi:MI} (h:tFS K J ds ds1 (eg fi g m) D σ H):Er (tFI K p ds ds1 fi) (tFG K J.lk ds1 ds2 g) (tFS K { J with dsl:=ds1 } ds2 ds1 m) D σ H:=by
 obtain ⟨Ox,en,R,fl,e,hf,k⟩:=h
 unfold eg at hf
 obtain ⟨⟨ts,en1⟩,h1,hf⟩:=Option.bind_eq_some_iff.mp hf
 refine ⟨Ox,en,R,ts,en1,e,h1,fun Jt H1 R1 P1 wk=>?_⟩
 refine ⟨fun i n σ' H'=>∃ en' R',n=ts.length - i∧i≤ts.length∧PostS K J.lk ds1 Ox σ H1 R1 σ' en' H' R' NoA∧eh g m (ts.drop i) en'=some fl,⟨_,en1,R1,rfl,Nat.zero_le _,PostS.refl P1.env0,hf⟩,?_⟩
 rintro i n σ2 H2 ⟨en2,R2,rfl,hi,P2,hr⟩
 obtain ⟨w1,w2⟩:=wk i H2 (Own R2 Ox) (fun a o q z=>P2.keep a o q fun j zj=>z (.inl ⟨j,zj⟩)) (fun a z=>by
  rcases z with z | z
  ·exact (P2.own a (.inr z)).imp .inl id
  ·exact .inl (.inr z)) fun a z=>P2.env0.dom a z
 by_cases hlt:i < ts.length
 ·obtain ⟨go,yl⟩:=w1 ts[i] (List.getElem?_eq_getElem hlt)
  have hd:ts.drop i=ts[i] :: ts.drop (i+1):=List.drop_eq_getElem_cons hlt
  rw [hd] at hr
  obtain ⟨en3,h3,hr⟩:=Option.bind_eq_some_iff.mp hr
  obtain ⟨fl2,h4,hr⟩:=Option.bind_eq_some_iff.mp hr
  refine .inr ⟨go,fun σ' H'=>∃ en' R',PostS K J.lk ds1 Ox σ H1 R1 σ' en' H' R' NoA∧eh g m (ts.drop (i+1)) en'=some fl,fun σ' H' ⟨en',R',P',h'⟩=>⟨ts.length - (i+1),by omega,en',R',rfl,hlt,P',h'⟩,fun x H3 y=>?_⟩
  obtain ⟨gr,ox⟩:=yl x H3 y
  have P3:Post K true ds1 Ox σ2 H2 en2 R2 en2 H3 R2 NoA:=Post.new P2.env0 gr fun _ z=>z.elim
  refine ⟨Ox,en2,R2,ts[i],en3,P3.env0,ox,h3,fun σ4 R4 P4 _=>?_⟩
  have P4':=(P2.after P3.s).after P4
  refine ⟨Ox,en3,R4,fl2,P4.env0,h4,?_⟩
  cases fl2 with
  | nx en5=>exact fun σ5 H5 R5 P5=>⟨en5,R5,P4'.after P5,hr⟩
  | ct en5=>exact fun σ5 H5 R5 P5=>⟨en5,R5,P4'.after P5,hr⟩
  | rt t en5 =>
   cases hr
   exact fun v σ5 H5 R5 F P5 o=>k v σ5 H5 R5 F (P1.s.after (P4'.after P5)) o
 ·have e2:i=ts.length:=by omega
  subst e2
  rw [List.drop_length] at hr
  cases hr
  exact .inl ⟨w2 rfl,k σ2 H2 R2 (P1.s.after P2)⟩
end
end L2
namespace L2
open PySem PySem.Spec PyProof.Rows
def lcF (g:MG) (c:MT) (f:ME):List D→List D→En→Option (List D × En)
 | [],acc,en=>some (acc,en)
 | t :: ts,acc,en=>(g t en).bind fun en1=>(c en1).bind fun r=>if r.1 then (f r.2).bind fun q=>if acc.length < sizeLine then lcF g c f ts (acc++[q.1]) q.2 else none else lcF g c f ts acc r.2
def ee (js:List (Option Nat)) (en:En):En:=js.map fun j=>match j with
 | some j=>(en[j]?).join
 | none=>none
def wbB:List (Option Nat)→En→En→En
 | some j :: js,o :: r,en=>wbB js r (en.set j o)
 | none :: js,_ :: r,en=>wbB js r en
 | _,_,en=>en
def eLC (q:Bool) (fi:MI) (g:MG) (c:MT) (f:ME) (js:List (Option Nat)):ME:=fun en=>(fi en).bind fun r=>(lcF g c f r.1 [] (ee js r.2)).map fun z=>(.list z.1,if q then r.2 else wbB js z.2 r.2)
def gH (ds:List Nat):List (Option Nat)→List Nat→Bool
 | [],[]=>true
 | some j :: js,d :: r=>decide (ds[j]?=some d) && (decide (some j ∉ js) && gH ds js r)
 | none :: js,_ :: r=>gH ds js r
 | _,_=>false
section
variable {K:PySem.W.Frag} {p p1 p2 q:Bool} {lk:List Nat} {ds ds0 ds1 ds2 ds' dsi:List Nat} {Ox Ox' O O':AS} {H H':Hp} {σ σ':St} {en en' en1 en2:En} {R R':Nat→AS} {d d' d1 d2 dr:Nat} {t t1 t2:D} {Q:VK} {f f1 f2:ME} {c:MT} {g:MG} {fi:MI} {i:Nat} {js:List (Option Nat)}
theorem lU:∀ {js:List (Option Nat)} {dsi:List Nat},gH ds js dsi=true→dsi.length=js.length∧(∀ (k j:Nat),js[k]?=some (some j)→∃ d,dsi[k]?=some d∧ds[j]?=some d)∧(∀ (k k' j:Nat),js[k]?=some (some j)→js[k']?=some (some j)→k=k')
 | [],[],_=>⟨rfl,fun k j z=>by simp at z,fun k k' j z=>by simp at z⟩
 | some j0 :: js,d :: r,h=>by
  unfold gH at h
  rw [Bool.and_eq_true,Bool.and_eq_true] at h
  obtain ⟨h1,h2,h3⟩:=h
  obtain ⟨a,b,c⟩:=lU h3
  have n:=of_decide_eq_true h2
  refine ⟨by rw [List.length_cons,List.length_cons,a],fun k j z=>?_,fun k k' j z z'=>?_⟩
  ·cases k with
   | zero=>simp at z; subst z; exact ⟨d,rfl,of_decide_eq_true h1⟩
   | succ k=>exact b k j (by simpa using z)
  ·cases k with
   | zero =>
    simp at z
    subst z
    cases k' with
    | zero=>rfl
    | succ k'=>exact absurd (List.mem_of_getElem? (by simpa using z':js[k']?=some (some j0))) n
   | succ k =>
    cases k' with
    | zero =>
     simp at z'
     subst z'
     exact absurd (List.mem_of_getElem? (by simpa using z:js[k]?=some (some j0))) n
    | succ k'=>rw [c k k' j (by simpa using z) (by simpa using z')]
 | none :: js,d :: r,h=>by
  unfold gH at h
  obtain ⟨a,b,c⟩:=lU h
  refine ⟨by rw [List.length_cons,List.length_cons,a],fun k j z=>?_,fun k k' j z z'=>?_⟩
  ·cases k with
   | zero=>simp at z
   | succ k=>exact b k j (by simpa using z)
  ·cases k with
   | zero=>simp at z
   | succ k =>
    cases k' with
    | zero=>simp at z'
    | succ k'=>rw [c k k' j (by simpa using z) (by simpa using z')]
 | [],_ :: _,h=>nomatch h
 | some _ :: _,[],h=>nomatch h
 | none :: _,[],h=>nomatch h
theorem nu:∀ (js:List (Option Nat)) (r en:En),(wbB js r en).length=en.length
 | [],_,_=>by unfold wbB; rfl
 | some _ :: _,[],_=>by unfold wbB; rfl
 | none :: _,[],_=>by unfold wbB; rfl
 | some j :: js,o :: r,en=>by unfold wbB; rw [nu js r _,List.length_set]
 | none :: js,o :: r,en=>by unfold wbB; exact nu js r _
theorem kR:∀ (js:List (Option Nat)) (r en:En) (i:Nat),(∀ k:Nat,js[k]?≠some (some i))→(wbB js r en)[i]?=en[i]?
 | [],_,_,_,_=>by unfold wbB; rfl
 | some _ :: _,[],_,_,_=>by unfold wbB; rfl
 | none :: _,[],_,_,_=>by unfold wbB; rfl
 | none :: js,o :: r,en,i,h=>by unfold wbB; exact kR js r en i fun j=>h (j+1)
 | some k :: js,o :: r,en,i,h=>by
  unfold wbB
  rw [kR js r _ i fun j=>h (j+1),List.getElem?_set_ne]
  intro e
  subst e
  exact h 0 rfl
theorem ph:∀ (js:List (Option Nat)) (r en:En) (i k:Nat),js[k]?=some (some i)→(∀ k':Nat,js[k']?=some (some i)→k'=k)→r.length=js.length→i < en.length→(wbB js r en)[i]?=r[k]?
 | [],_,_,_,_,h,_,_,_=>by simp at h
 | some _ :: js,[],_,_,_,_,_,h,_=>by simp at h
 | none :: js,[],_,_,_,_,_,h,_=>by simp at h
 | none :: js,o :: r,en,i,k,h,u,l,b=>by
  unfold wbB
  cases k with
  | zero=>simp at h
  | succ k=>exact ph js r en i k (by simpa using h) (fun j' z=>by have:=u (j'+1) (by simpa using z); omega) (by simpa using l) b
 | some j :: js,o :: r,en,i,k,h,u,l,b=>by
  unfold wbB
  cases k with
  | zero =>
   have e:j=i:=by simpa using h
   subst e
   rw [kR js r _ j fun j' z=>by have:=u (j'+1) (by simpa using z); omega]
   rw [List.getElem?_set_self b]
   rfl
  | succ k=>exact ph js r _ i k (by simpa using h) (fun j' z=>by have:=u (j'+1) (by simpa using z); omega) (by simpa using l) (by rw [List.length_set]; exact b)
theorem Ows.snoc:∀ {ts:List D} {vs:List V} {F1 F2:AS} {v:V},Ows K O H ts d vs F1→Ow K O H t d v F2→(∀ b,F1 b→¬ F2 b)→Ows K O H (ts++[t]) d (vs++[v]) (U F1 F2)
 | [],vs,F1,F2,v,h,h2,_=>by
  have e:vs=[]:=h
  subst e
  exact ⟨v,[],F2,NoA,rfl,fun _ z=>.inr z,fun _ z=>z.elim,fun _ _ z=>z.elim,h2,rfl⟩
 | u :: ts,vs,F1,F2,v,h,h2,hd=>by
  obtain ⟨w,r,G1,G2,e,s1,s2,s3,h4,h5⟩:=h
  subst e
  refine ⟨w,r++[v],G1,U G2 F2,rfl,fun b z=>.inl (s1 b z),fun b z=>z.imp (s2 b) id,fun b z z2=>?_,h4,Ows.snoc h5 h2 fun b z=>hd b (s2 b z)⟩
  rcases z2 with z2 | z2
  ·exact s3 b z z2
  ·exact hd b (s1 b z) z2
theorem Ows.len:∀ {ts:List D} {vs:List V} {F:AS},Ows K O H ts d vs F→vs.length=ts.length
 | [],_,_,h=>by rw [show _=[] from h]; rfl
 | t :: ts,_,_,h=>by
  obtain ⟨v,r,F1,F2,e,h1,h2,h3,h4,h5⟩:=h
  rw [e,List.length_cons,List.length_cons,h5.len]
def gE:List (Option Nat)→Nat→List Nat
 | [],_=>[]
 | some _ :: r,n=>n :: gE r (n+1)
 | none :: r,n=>gE r (n+1)
theorem jC:∀ {js:List (Option Nat)} {n k j:Nat},js[k]?=some (some j)→n+k∈gE js n
 | [],n,k,j,h=>by simp at h
 | some x :: r,n,k,j,h=>by
  unfold gE
  cases k with
  | zero=>exact List.mem_cons_self
  | succ k =>
   refine List.mem_cons_of_mem _ ?_
   have:=jC (n:=n+1) (k:=k) (j:=j) (by simpa using h)
   rw [show n+(k+1)=n+1+k by omega]
   exact this
 | none :: r,n,k,j,h=>by
  unfold gE
  cases k with
  | zero=>simp at h
  | succ k =>
   have:=jC (n:=n+1) (k:=k) (j:=j) (by simpa using h)
   rw [show n+(k+1)=n+1+k by omega]
   exact this
def p8 (js:List (Option Nat)) (R1:Nat→AS):Nat→AS:=fun k=>match js[k]? with
 | some (some j)=>R1 j
 | _=>NoA
theorem Cu {R1:Nat→AS} {k j:Nat} (h:js[k]?=some (some j)):p8 js R1 k=R1 j:=by unfold p8; rw [h]
theorem Ct {R1:Nat→AS} {k:Nat} {a:Addr} (h:p8 js R1 k a):∃ j,js[k]?=some (some j)∧R1 j a:=by
 unfold p8 at h
 cases q:js[k]? with
 | none=>rw [q] at h; exact h.elim
 | some o =>
  rw [q] at h
  cases o with
  | none=>exact h.elim
  | some j=>exact ⟨j,rfl,h⟩
theorem vo {cd:Nat} (hc:gH ds1 js dsi=true) (hd:dn d=cd) (hz:d≠0) (hl:lk=gE js 0) (h:tF K (p && q) ds ds1 d (eLC q fi g c f js) σ H Q) :
  tLC (tFI K p ds ds1 fi) (tFG K lk dsi dsi g) (tFT K q dsi dsi c) (tF K q dsi dsi cd f) js σ H Q:=by
 obtain ⟨Ox,en,R,t,en',e,hf,k⟩:=h
 unfold eLC at hf
 obtain ⟨⟨ts,en1⟩,h1,hf⟩:=Option.bind_eq_some_iff.mp hf
 obtain ⟨⟨fin,enf⟩,h2,hf⟩:=Option.map_eq_some_iff.mp hf
 cases hf
 obtain ⟨cl,c1,c2⟩:=lU hc
 refine ⟨Ox,en,R,ts,en1,e,h1,fun J H1 R1 P1 wk D hD=>?_⟩
 have E1:=P1.env0
 generalize hRI:p8 js R1=RI
 have ri1:∀ k j:Nat,js[k]?=some (some j)→RI k=R1 j:=fun k j z=>by rw [← hRI]; exact Cu z
 have ric:∀ (k:Nat) a,RI k a→∃ j,js[k]?=some (some j)∧R1 j a:=fun k a z=>by rw [← hRI] at z; exact Ct z
 let OxI:AS:=fun a=>Ox a∨a=D∨∃ i,R1 i a∧∀ k:Nat,js[k]?≠some (some i)
 have nD:∀ a,Own R1 Ox a→a≠D:=fun a z z2=>by
  subst z2
  obtain ⟨o,q⟩:=E1.dom a z
  rw [hD] at q
  cases q
 have lI:(ee js en1).length=js.length:=by unfold ee; rw [List.length_map]
 have lS:(e7 js σ).length=js.length:=by unfold e7; rw [List.length_map]
 have getE:∀ (k:Nat) t,(ee js en1)[k]?=some (some t)→∃ j,js[k]?=some (some j)∧en1[j]?=some (some t):=fun k t z=>by
  unfold ee at z
  rw [List.getElem?_map] at z
  obtain ⟨oj,h1,h2⟩:=Option.map_eq_some_iff.mp z
  cases oj with
  | none=>cases h2
  | some j =>
   refine ⟨j,h1,?_⟩
   have h2':(en1[j]?).join=some t:=h2
   cases q:en1[j]? with
   | none=>rw [q] at h2'; cases h2'
   | some o=>rw [q] at h2'; exact congrArg some h2'
 have getS:∀ (k j:Nat) v,js[k]?=some (some j)→σ[j]?=some (some v)→(e7 js σ)[k]?=some (some v):=fun k j v z1 z2=>by
  unfold e7
  rw [List.getElem?_map,z1]
  show some ((σ[j]?).join)=_
  rw [z2]
  rfl
 have u2:∀ a o,H1 a=some o→upd H1 D (.lst []) a=some o:=fun a o q=>(cr (o:=.lst []) hD).1 a o q
 have EI:EnvOk K dsi OxI (upd H1 D (.lst [])) (e7 js σ) (ee js en1) RI:=by
  refine ⟨fun k t hk=>?_,fun k k' a z z'=>?_,fun k a z z2=>?_,fun a z=>?_,by rw [lI,lS],by rw [cl,lS]⟩
  ·obtain ⟨j,hj,ht⟩:=getE k t hk
   obtain ⟨v,d,g1,g2,g3⟩:=E1.at_ j t ht
   obtain ⟨d',q1,q2⟩:=c1 k j hj
   rw [g2] at q2
   cases q2
   refine ⟨v,d,getS k j v hj g1,q1,?_⟩
   rw [ri1 k j hj]
   refine Ow.mv (G:=R1 j) ⟨fun a o q _=>u2 a o q,fun a z=>?_⟩ t (fun _ z=>z) g3
   rcases z with ⟨k',z⟩ | z | z | ⟨i,z,_⟩
   ·obtain ⟨j',_,z⟩:=ric k' a z
    exact .inl (.inl ⟨j',z⟩)
   ·exact .inl (.inr z)
   ·exact .inr (z ▸ hD)
   ·exact .inl (.inl ⟨i,z⟩)
  ·obtain ⟨j,hj,z⟩:=ric k a z
   obtain ⟨j',hj',z'⟩:=ric k' a z'
   have:=E1.dj j j' a z z'
   subst this
   exact c2 k k' j hj hj'
  ·obtain ⟨j,hj,z⟩:=ric k a z
   rcases z2 with z2 | z2 | ⟨i,z2,n⟩
   ·exact E1.dx j a z z2
   ·exact nD a (.inl ⟨j,z⟩) z2
   ·have:=E1.dj j i a z z2
    subst this
    exact n k hj
  ·rcases z with ⟨k,z⟩ | z | z | ⟨i,z,_⟩
   ·obtain ⟨j,hj,z⟩:=ric k a z
    obtain ⟨o,q⟩:=E1.dom a (.inl ⟨j,z⟩)
    exact ⟨o,u2 a o q⟩
   ·obtain ⟨o,q⟩:=E1.dom a (.inr z)
    exact ⟨o,u2 a o q⟩
   ·subst z
    exact ⟨_,br⟩
   ·obtain ⟨o,q⟩:=E1.dom a (.inl ⟨i,z⟩)
    exact ⟨o,u2 a o q⟩
 refine ⟨fun i n τ H'=>∃ eni RI' acc vs Fa,n=ts.length - i∧i≤ts.length∧PostS K lk dsi OxI (e7 js σ) H1 RI τ eni H' RI' Fa∧H' D=some (.lst vs)∧Ows K (Own RI' (U Fa OxI)) H' acc cd vs Fa∧lcF g c f (ts.drop i) acc eni=some (fin,enf) ∧
   (q=true→(∀ k j:Nat,js[k]?=some (some j)→RI' k=RI k)∧(∀ a o,H1 a=some o→H' a=some o)),
  ⟨_,ee js en1,RI,[],[],NoA,rfl,Nat.zero_le _,⟨by rw [ij]; exact EI,fun _ z=>z.elim,fun a o q _=>u2 a o q,fun a z=>z.elim (fun z=>z.elim) .inl,fun a o q=>⟨o,u2 a o q⟩,fun _ _=>rfl⟩,br,rfl,h2,fun _=>⟨fun _ _ _=>rfl,u2⟩⟩,?_⟩
 rintro i n τ H2 ⟨eni,RI2,acc,vs,Fa,rfl,hi,P2,hDl,oacc,hr,pu⟩
 have h8:∀ a,Own RI2 (U Fa OxI) a→Own R1 Ox a∨H1 a=none:=fun a z=>by
  rcases z with z | z | z | z | ⟨i,z,_⟩
  ·rcases P2.own a (.inr z) with ⟨k,z⟩ | z
   ·obtain ⟨j,_,z⟩:=ric k a z
    exact .inl (.inl ⟨j,z⟩)
   ·exact .inr z
  ·rcases P2.own a (.inl z) with ⟨k,z⟩ | z
   ·obtain ⟨j,_,z⟩:=ric k a z
    exact .inl (.inl ⟨j,z⟩)
   ·exact .inr z
  ·exact .inl (.inr z)
  ·exact .inr (z ▸ hD)
  ·exact .inl (.inl ⟨i,z⟩)
 obtain ⟨w1,w2⟩:=wk i H2 (Own RI2 (U Fa OxI)) (fun a o q z=>P2.keep a o q fun k zk=>by
  obtain ⟨j,_,zj⟩:=ric k a zk
  exact z (.inl ⟨j,zj⟩)) h8 fun a z=>P2.env.dom a z
 have DO:OxI D:=.inr (.inl rfl)
 by_cases hlt:i < ts.length
 ·obtain ⟨go,yl⟩:=w1 ts[i] (List.getElem?_eq_getElem hlt)
  rw [List.drop_eq_getElem_cons hlt] at hr
  obtain ⟨en3,h3,hr⟩:=Option.bind_eq_some_iff.mp hr
  obtain ⟨⟨b,en4⟩,h4,hr⟩:=Option.bind_eq_some_iff.mp hr
  refine .inr ⟨go,fun τ' H'=>∃ eni RI' acc vs Fa,PostS K lk dsi OxI (e7 js σ) H1 RI τ' eni H' RI' Fa∧H' D=some (.lst vs)∧Ows K (Own RI' (U Fa OxI)) H' acc cd vs Fa∧lcF g c f (ts.drop (i+1)) acc eni=some (fin,enf)∧(q=true→(∀ k j:Nat,js[k]?=some (some j)→RI' k=RI k)∧(∀ a o,H1 a=some o→H' a=some o)),
   fun τ' H' ⟨eni,RI',acc,vs,Fa,P',x1,x2,x3,x4⟩=>⟨_,by omega,eni,RI',acc,vs,Fa,rfl,hlt,P',x1,x2,x3,x4⟩,fun x H3 y=>?_⟩
  obtain ⟨gr,ox⟩:=yl x H3 y
  have P3:Post K true dsi (U Fa OxI) τ H2 eni RI2 eni H3 RI2 NoA:=Post.new P2.env gr fun _ z=>z.elim
  have chain:∀ {τ5 en5 H5 RI5 F5},PostS K lk dsi (U Fa OxI) τ H2 RI2 τ5 en5 H5 RI5 F5→PostS K lk dsi OxI (e7 js σ) H1 RI τ5 en5 H5 RI5 (U Fa F5):=fun {τ5 en5 H5 RI5 F5} P5=>by
   have n1:∀ a,H2 a=none→H1 a=none:=fun a z=>by
    cases q:H1 a with
    | none=>rfl
    | some o =>
     obtain ⟨o',q'⟩:=P2.dom a o q
     rw [z] at q'
     cases q'
   refine ⟨m9 ▸ P5.env,fun a z z2=>?_,fun a o q n=>?_,fun a z=>?_,fun a o q=>?_,fun j hj=>(P5.lk j hj).trans (P2.lk j hj)⟩
   ·rcases z with z | z
    ·exact P2.fx a z z2
    ·exact P5.fx a z (.inr z2)
   ·refine P5.keep a o (P2.keep a o q n) fun i z=>?_
    rcases P2.own a (.inr ⟨i,z⟩) with ⟨j,z⟩ | z
    ·exact n j z
    ·rw [q] at z; cases z
   ·rcases z with (z | z) | z
    ·exact P2.own a (.inl z)
    ·rcases P5.own a (.inl z) with z | z
     ·exact P2.own a (.inr z)
     ·exact .inr (n1 a z)
    ·rcases P5.own a (.inr z) with z | z
     ·exact P2.own a (.inr z)
     ·exact .inr (n1 a z)
   ·obtain ⟨o',q'⟩:=P2.dom a o q
    exact P5.dom a o' q'
  have carry:∀ {τ5 en5 H5 RI5 F5},PostS K lk dsi (U Fa OxI) τ H2 RI2 τ5 en5 H5 RI5 F5→Ows K (Own RI5 (U (U Fa F5) OxI)) H5 acc cd vs Fa:=fun {τ5 en5 H5 RI5 F5} P5=>by
   refine Ows.mv (G:=Fa) ⟨fun a o q z=>P5.keep a o q fun i zi=>?_,fun a z=>?_⟩ acc (fun _ z=>z) oacc
   ·rcases z with z | z
    ·exact z (.inl ⟨i,zi⟩)
    ·exact P2.env.dx i a zi (.inl z)
   ·rcases z with z | (z | z) | z
    ·exact (P5.own a (.inr z)).imp .inl id
    ·exact .inl (.inr (.inl z))
    ·exact (P5.own a (.inl z)).imp .inl id
    ·exact .inl (.inr (.inr z))
  have UFN:U Fa NoA=Fa:=gX fun a=>⟨fun z=>z.elim id fun z=>z.elim,.inl⟩
  refine ⟨U Fa OxI,eni,RI2,ts[i],en3,P3.env0,ox,h3,fun τ4 R4 P4 r4=>?_⟩
  have P4':=(P3.s (lk:=lk)).after P4
  refine ⟨U Fa OxI,en3,R4,b,en4,P4.env0,h4,fun H5 R5 P5=>?_⟩
  have P5':=P4'.after (P5.s (lk:=lk))
  have pu5:q=true→(∀ k j:Nat,js[k]?=some (some j)→R5 k=RI k)∧(∀ a o,H1 a=some o→H5 a=some o):=fun hq=>by
   obtain ⟨_,b2,b3⟩:=P5.pure hq
   obtain ⟨e1,e2⟩:=pu hq
   refine ⟨fun k j z=>?_,fun a o qq=>b3 a o (gr a o (e2 a o qq))⟩
   rw [b2,r4 k (by rw [hl]; have:=jC (n:=0) z; rw [Nat.zero_add] at this; exact this)]
   exact e1 k j z
  cases b with
  | false =>
   dsimp only
   rw [if_neg Bool.false_ne_true]
   have c5:=chain P5'
   have o5:=carry P5'
   rw [UFN] at c5 o5
   exact ⟨en4,R5,acc,vs,Fa,c5,P5'.keep D _ hDl fun k z=>P2.env.dx k D z (.inr DO),o5,hr,pu5⟩
  | true =>
   dsimp only
   rw [if_pos rfl]
   obtain ⟨⟨t6,en6⟩,h6,hr⟩:=Option.bind_eq_some_iff.mp (show ((f en4).bind fun q=>if acc.length < sizeLine then lcF g c f (ts.drop (i+1)) (acc++[q.1]) q.2 else none)=some (fin,enf) from hr)
   refine ⟨U Fa OxI,en4,R5,t6,en6,P5.env0,h6,fun v H6 R6 F6 P6 o6=>?_⟩
   have P6':=P5'.after (P6.s (lk:=lk))
   by_cases hlen:acc.length < sizeLine
   case neg=>rw [if_neg hlen] at hr; cases hr
   rw [if_pos hlen] at hr
   have hD6:=P6'.keep D _ hDl fun k z=>P2.env.dx k D z (.inr DO)
   refine ⟨vs,hD6,by rw [oacc.len]; exact hlen,en6,R6,acc++[t6],vs++[v],U Fa F6,?_,br,?_,hr,?_⟩
   ·have c6:=chain P6'
    have keepD:∀ a o,H6 a=some o→a≠D→upd H6 D (.lst (vs++[v])) a=some o:=fun a o q n=>by rw [bd n]; exact q
    refine ⟨⟨fun k t hk=>?_,c6.env.dj,c6.env.dx,fun a z=>?_,c6.env.l1,c6.env.l2⟩,c6.fx,fun a o q n=>?_,c6.own,fun a o q=>?_,c6.lk⟩
    ·obtain ⟨v',d',g1,g2,g3⟩:=c6.env.at_ k t hk
     refine ⟨v',d',g1,g2,Ow.mv (G:=R6 k) ⟨fun a o q z=>keepD a o q fun zD=>?_,fun a z=>.inl z⟩ t (fun _ z=>z) g3⟩
     subst zD
     rcases z with z | z
     ·exact z (.inr (.inr DO))
     ·exact c6.env.dx k a z (.inr DO)
    ·by_cases ha:a=D
     ·subst ha; exact ⟨_,br⟩
     ·obtain ⟨o,q⟩:=c6.env.dom a z
      exact ⟨o,keepD a o q ha⟩
    ·refine keepD a o (c6.keep a o q n) fun zD=>?_
     subst zD
     rw [hD] at q
     cases q
    ·obtain ⟨o',q'⟩:=c6.dom a o q
     by_cases ha:a=D
     ·subst ha; exact ⟨_,br⟩
     ·exact ⟨o',keepD a o' q' ha⟩
   ·have o1:=carry P6'
    have o2:Ow K (Own R6 (U (U Fa F6) OxI)) H6 t6 cd v F6:=m9 ▸ o6
    have:=Ows.snoc o1 o2 fun b z1 z2=>P6.fx b z2 (.inl z1)
    refine Ows.mv (G:=U Fa F6) ⟨fun a o q z=>?_,fun a z=>.inl z⟩ _ (fun _ z=>z) this
    rw [bd]
    ·exact q
    ·intro zD
     subst zD
     rcases z with z | z | z
     ·exact z (.inr (.inr DO))
     ·exact P2.fx a z DO
     ·exact P6.fx a z (.inr DO)
   ·intro hq
    obtain ⟨_,b2,b3⟩:=P6.pure hq
    obtain ⟨e1,e2⟩:=pu5 hq
    refine ⟨fun k j z=>by rw [b2]; exact e1 k j z,fun a o qq=>?_⟩
    rw [bd]
    ·exact b3 a o (e2 a o qq)
    ·intro zD
     subst zD
     rw [hD] at qq
     cases qq
 ·have e2:i=ts.length:=by omega
  subst e2
  rw [List.drop_length] at hr
  obtain ⟨e3,e4⟩:acc=fin∧eni=enf:=by cases hr; exact ⟨rfl,rfl⟩
  subst e3 e4
  refine .inl ⟨w2 rfl,?_⟩
  have fD:∀ a,Fa a→a≠D:=fun a z z2=>by
   subst z2
   exact P2.fx a z DO
  cases hq:q with
  | true =>
   obtain ⟨e1,e2⟩:=pu hq
   subst hq
   have fn:∀ a,Fa a→H1 a=none:=fun a z=>by
    rcases P2.own a (.inl z) with ⟨k,z2⟩ | z2
    ·obtain ⟨j,hj,z3⟩:=ric k a z2
     rw [← e1 k j hj] at z2
     exact absurd (.inl z) (P2.env.dx k a z2)
    ·exact z2
   have nt:NewTo H1 H2 (fun a=>a=D∨Fa a):=⟨e2,fun a z=>by
    rcases z with z | z
    ·subst z
     exact ⟨hD,_,hDl⟩
    ·exact ⟨fn a z,P2.env.dom a (.inr (.inl z))⟩⟩
   have PF:=P1.fin nt
   rw [Bool.and_true] at k
   refine k (.ref D) H2 R1 _ PF ⟨D,vs,rfl,.inr ⟨hz,hDl,.inl rfl,Fa,fun b z=>⟨.inr z,fD b z⟩,?_⟩⟩
   rw [hd]
   refine Ows.grow (fun a z=>?_) _ (fun _ z=>z) oacc
   rcases z with ⟨i,z⟩ | (z | z) | z
   ·by_cases hc2:∃ kk:Nat,js[kk]?=some (some i)
    ·obtain ⟨kk,hk⟩:=hc2
     refine .inl ⟨kk,?_⟩
     rw [e1 kk i hk,ri1 kk i hk]
     exact z
    ·exact .inr (.inr (.inr (.inr ⟨i,z,fun kk hk=>hc2 ⟨kk,hk⟩⟩)))
   ·exact .inr (.inr (z ▸ DO))
   ·exact .inr (.inl z)
   ·exact .inr (.inr (.inl z))
  | false =>
   subst hq
   rw [Bool.and_false] at k
   classical
   let R3:Nat→AS:=fun i=>if hh:∃ kk:Nat,js[kk]?=some (some i) then RI2 hh.choose else R1 i
   have r31:∀ (i kk:Nat),js[kk]?=some (some i)→R3 i=RI2 kk:=fun i kk z=>by
    have hh:∃ kk:Nat,js[kk]?=some (some i):=⟨kk,z⟩
    have:hh.choose=kk:=c2 _ _ i hh.choose_spec z
    show (if hh:∃ kk:Nat,js[kk]?=some (some i) then RI2 hh.choose else R1 i)=RI2 kk
    rw [dif_pos hh,this]
   have r32:∀ i:Nat,(∀ kk:Nat,js[kk]?≠some (some i))→R3 i=R1 i:=fun i z=>by
    show (if hh:∃ kk:Nat,js[kk]?=some (some i) then RI2 hh.choose else R1 i)=R1 i
    rw [dif_neg fun ⟨j,q⟩=>z j q]
   have r3c:∀ (i:Nat) a,R3 i a→(∃ kk:Nat,js[kk]?=some (some i)∧RI2 kk a)∨((∀ kk:Nat,js[kk]?≠some (some i))∧R1 i a):=fun i a z=>by
    by_cases hh:∃ kk:Nat,js[kk]?=some (some i)
    ·obtain ⟨kk,hk⟩:=hh
     rw [r31 i kk hk] at z
     exact .inl ⟨kk,hk,z⟩
    ·rw [r32 i fun j z=>hh ⟨j,z⟩] at z
     exact .inr ⟨fun j z=>hh ⟨j,z⟩,z⟩
   have sub3:∀ a,Own R3 (U (fun a=>a=D∨Fa a) Ox) a→Own RI2 (U Fa OxI) a:=fun a z=>by
    rcases z with ⟨i,z⟩ | (z | z) | z
    ·rcases r3c i a z with ⟨j,_,z⟩ | ⟨n,z⟩
     ·exact .inl ⟨j,z⟩
     ·exact .inr (.inr (.inr (.inr ⟨i,z,n⟩)))
    ·exact .inr (.inr (z ▸ DO))
    ·exact .inr (.inl z)
    ·exact .inr (.inr (.inl z))
   have el:eni.length=js.length:=by rw [P2.env.l1,← P2.env.l2]; exact cl
   have riO:∀ (kk:Nat) a,RI kk a→Own R1 Ox a:=fun kk a z=>by
    obtain ⟨j,_,z⟩:=ric kk a z
    exact .inl ⟨j,z⟩
   have env3:EnvOk K ds1 (U (fun a=>a=D∨Fa a) Ox) H2 σ (wbB js eni en1) R3:=by
    refine ⟨fun i u hu=>?_,fun i i' a z z'=>?_,fun i a z z2=>?_,fun a z=>P2.env.dom a (sub3 a z),by rw [nu]; exact E1.l1,E1.l2⟩
    ·by_cases hh:∃ kk:Nat,js[kk]?=some (some i)
     ·obtain ⟨kk,hk⟩:=hh
      obtain ⟨dd,q1,q2⟩:=c1 kk i hk
      have hil:i < en1.length:=by rw [E1.l1,← E1.l2]; exact (List.getElem?_eq_some_iff.mp q2).1
      rw [ph js eni en1 i kk hk (fun k' z=>c2 k' kk i z hk) el hil] at hu
      obtain ⟨v,d',g1,g2,g3⟩:=P2.env.at_ kk u hu
      rw [q1] at g2
      cases g2
      have hlk:=P2.lk kk (by rw [hl]; have:=jC (n:=0) hk; rw [Nat.zero_add] at this; exact this)
      rw [hlk] at g1
      refine ⟨v,dd,?_,q2,?_⟩
      ·unfold e7 at g1
       rw [List.getElem?_map,hk] at g1
       have g1':(σ[i]?).join=some v:=Option.some.inj g1
       cases q3:σ[i]? with
       | none=>rw [q3] at g1'; cases g1'
       | some o=>rw [q3] at g1'; exact congrArg some g1'
      ·rw [r31 i kk hk]
       exact Ow.grow sub3 u (fun _ z=>z) g3
     ·rw [kR js eni en1 i fun j z=>hh ⟨j,z⟩] at hu
      have ns:∀ j:Nat,js[j]?≠some (some i):=fun j z=>hh ⟨j,z⟩
      obtain ⟨v,d',g1,g2,g3⟩:=E1.at_ i u hu
      refine ⟨v,d',g1,g2,?_⟩
      rw [r32 i ns]
      refine Ow.mv (G:=R1 i) ⟨fun a o q z=>P2.keep a o q fun j zj=>?_,fun a z=>h8 a (sub3 a z)⟩ u (fun _ z=>z) g3
      obtain ⟨j',hj',zj⟩:=ric j a zj
      rcases z with z | z
      ·exact z (.inl ⟨j',zj⟩)
      ·have:=E1.dj i j' a z zj
       subst this
       exact ns j hj'
    ·rcases r3c i a z with ⟨j,q,z⟩ | ⟨n,z⟩ <;> rcases r3c i' a z' with ⟨j',q',z'⟩ | ⟨n',z'⟩
     ·have:=P2.env.dj j j' a z z'
      subst this
      rw [q] at q'
      cases q'
      rfl
     ·exact absurd (.inr (.inr (.inr ⟨i',z',n'⟩))) (P2.env.dx j a z)
     ·exact absurd (.inr (.inr (.inr ⟨i,z,n⟩))) (P2.env.dx j' a z')
     ·exact E1.dj i i' a z z'
    ·rcases r3c i a z with ⟨j,q,z⟩ | ⟨n,z⟩
     ·refine P2.env.dx j a z ?_
      rcases z2 with (z2 | z2) | z2
      ·exact .inr (z2 ▸ DO)
      ·exact .inl z2
      ·exact .inr (.inl z2)
     ·rcases z2 with (z2 | z2) | z2
      ·exact nD a (.inl ⟨i,z⟩) z2
      ·exact P2.fx a z2 (.inr (.inr ⟨i,z,n⟩))
      ·exact E1.dx i a z z2
   have n1:∀ a,H1 a=none→H a=none:=fun a z=>by
    cases q:H a with
    | none=>rfl
    | some o =>
     obtain ⟨o',q'⟩:=P1.dom a o q
     rw [z] at q'
     cases q'
   refine k (.ref D) H2 R3 (fun a=>a=D∨Fa a) ⟨env3,fun a z z2=>?_,fun a o q n=>?_,fun a z=>?_,fun a o q=>?_,fun z=>nomatch z⟩ ⟨D,vs,rfl,.inr ⟨hz,hDl,.inl rfl,Fa,fun b z=>⟨.inr z,fD b z⟩,?_⟩⟩
   ·rcases z with z | z
    ·exact nD a (.inr z2) z
    ·exact P2.fx a z (.inl z2)
   ·refine P2.keep a o (P1.keep a o q n) fun kk z=>?_
    obtain ⟨j,_,z⟩:=ric kk a z
    rcases P1.own a (.inr ⟨j,z⟩) with ⟨i',z⟩ | z
    ·exact n i' z
    ·rw [q] at z; cases z
   ·have h3:(∃ i,R1 i a)∨H1 a=none:=by
     have h4:(Fa a∨∃ kk,RI2 kk a)→(∃ i,R1 i a)∨H1 a=none:=fun z=>by
      rcases P2.own a z with ⟨kk,z⟩ | z
      ·obtain ⟨j,_,z⟩:=ric kk a z
       exact .inl ⟨j,z⟩
      ·exact .inr z
     rcases z with (z | z) | ⟨i,z⟩
     ·exact .inr (z ▸ hD)
     ·exact h4 (.inl z)
     ·rcases r3c i a z with ⟨j,_,z⟩ | ⟨n,z⟩
      ·exact h4 (.inr ⟨j,z⟩)
      ·exact .inl ⟨i,z⟩
    rcases h3 with h3 | h3
    ·exact P1.own a (.inr h3)
    ·exact .inr (n1 a h3)
   ·obtain ⟨o',q'⟩:=P1.dom a o q
    exact P2.dom a o' q'
   ·rw [hd]
    exact Ows.grow sub3 _ (fun _ z=>z) oacc
end
end L2
namespace L2
open PySem PySem.Spec PyProof.Rows
def msk:List Nat→En→En
 | d :: ds,o :: en=>(if d=0 then none else o) :: msk ds en
 | _,_=>[]
def fnF (n:Nat) (dps:List Nat) (b:MS):List PyData→Option (PyData × En):=fun ts=>(b (ts.map some++List.replicate n none)).bind fun fl=>match fl with
 | .rt t en=>some (t,msk dps en)
 | .nx en=>some (.none,msk dps en)
 | .ct _=>none
def pJ (dps:List Nat):List Nat:=(List.range dps.length).filter fun j=>dps[j]? != some 0
section
variable {K:PySem.W.Frag} {p p1 p2 q:Bool} {J:Jd} {lk:List Nat} {ds ds0 ds1 ds2 ds' dps:List Nat} {Ox Ox' O O':AS} {H H' H1:Hp} {σ σ':St} {en en' en1 en2:En} {R R' R1:Nat→AS} {d d' d1 d2 dr:Nat} {t t1 t2:PyData} {Q:VK} {f f1 f2:ME} {i:Nat} {v:V} {D:Ends}
theorem qP:∀ {dps:List Nat} {en:En} {j:Nat} {u:PyData},(msk dps en)[j]?=some (some u)→∃ d,dps[j]?=some d∧d≠0∧en[j]?=some (some u)
 | [],en,j,u,h=>by unfold msk at h; simp at h
 | d :: ds,[],j,u,h=>by unfold msk at h; simp at h
 | d :: ds,o :: en,j,u,h=>by
  unfold msk at h
  cases j with
  | zero =>
   by_cases hd:d=0
   ·simp [hd] at h
   ·refine ⟨d,rfl,hd,?_⟩
    simpa [hd] using h
  | succ j =>
   have:=qP (dps:=ds) (en:=en) (j:=j) (u:=u) (by simpa using h)
   simpa using this
theorem qO:∀ {dps:List Nat} {en:En},dps.length≤en.length→(msk dps en).length=dps.length
 | [],en,_=>by unfold msk; rfl
 | d :: ds,[],h=>by simp at h
 | d :: ds,o :: en,h=>by
  unfold msk
  rw [List.length_cons,List.length_cons,qO (by simpa using h)]
theorem B5 {N:List Str} {vs:List V} {E:XK} {n:Nat} {b:MS} (hn:N.length - dps.length=n) (h:spF K dps dr (fnF n dps b) vs H Q E) :
  tFS K ⟨pJ dps,dps++List.replicate n 0,dr,[]⟩ (dps++List.replicate n 0) (dps++List.replicate n 0) b { nx:=fun _ H'=>Q .non H',rt:=Q } (ey N vs) H:=by
 obtain ⟨Ox,ts,R,r,outs,e,hf,k⟩:=h
 have lv:dps.length=vs.length:=by have:=e.l2; rw [List.length_map] at this; exact this
 have lt:ts.length=vs.length:=by have:=e.l1; rw [List.length_map,List.length_map] at this; exact this
 have hs:ey N vs=vs.map some++List.replicate n none:=by unfold ey; rw [← lv,hn]
 unfold fnF at hf
 obtain ⟨fl,h1,hf⟩:=Option.bind_eq_some_iff.mp hf
 have get0:∀ {α:Type} (xs:List α) (i:Nat) (u:α),(xs.map some++List.replicate n none)[i]?=some (some u)→(xs.map some)[i]?=some (some u)∧i < xs.length:=fun xs i u z=>by
  by_cases hi:i < xs.length
  ·rw [List.getElem?_append_left (by rw [List.length_map]; exact hi)] at z
   exact ⟨z,hi⟩
  ·rw [List.getElem?_append_right (by rw [List.length_map]; omega),List.getElem?_replicate] at z
   split at z
   ·cases z
   ·cases z
 have e0:EnvOk K (dps++List.replicate n 0) Ox H (ey N vs) (ts.map some++List.replicate n none) R:=by
  rw [hs]
  refine ⟨fun i u hu=>?_,e.dj,e.dx,e.dom,by simp [lt],by simp [lv]⟩
  obtain ⟨hu',hi⟩:=get0 ts i u hu
  obtain ⟨v,d,g1,g2,g3⟩:=e.at_ i u hu'
  refine ⟨v,d,?_,?_,g3⟩
  ·rw [List.getElem?_append_left (by rw [List.length_map]; omega)]; exact g1
  ·rw [List.getElem?_append_left (by omega)]; exact g2
 have back:∀ {σ' en' H' R' F},PostS K (pJ dps) (dps++List.replicate n 0) Ox (ey N vs) H R σ' en' H' R' F→Post K false dps Ox (vs.map some) H (ts.map some) R (msk dps en') H' R' F:=fun {σ' en' H' R' F} P=>by
  have l1:=P.env.l1
  have l2:=P.env.l2
  rw [List.length_append,List.length_replicate] at l2
  refine ⟨⟨fun j u hu=>?_,P.env.dj,P.env.dx,P.env.dom,by rw [qO (by omega),List.length_map]; exact lv,by rw [List.length_map]; exact lv⟩,P.fx,P.keep,P.own,P.dom,fun z=>nomatch z⟩
  obtain ⟨d,a1,a2,a3⟩:=qP hu
  obtain ⟨v,d',g1,g2,g3⟩:=P.env.at_ j u a3
  have hj:j < dps.length:=(List.getElem?_eq_some_iff.mp a1).1
  have hlk:j∈pJ dps:=by
   unfold pJ
   rw [List.mem_filter,List.mem_range]
   refine ⟨hj,?_⟩
   rw [a1]
   simpa using a2
  rw [P.lk j hlk,hs,List.getElem?_append_left (by rw [List.length_map]; omega)] at g1
  rw [List.getElem?_append_left hj] at g2
  exact ⟨v,d',g1,g2,g3⟩
 refine ⟨Ox,_,R,fl,e0,h1,?_⟩
 cases fl with
 | nx en2 =>
  cases hf
  exact fun σ2 H2 R2 P2=>k .non H2 R2 NoA (back P2) rfl
 | ct en2=>cases hf
 | rt t en2 =>
  cases hf
  exact fun v σ2 H2 R2 F P2 o=>k v H2 R2 F (back P2) o
theorem Post.slot {F G F':AS} {l:Addr} {o2:HO} (P:Post K p ds1 Ox σ H en R en1 H1 R1 F) (hl:R1 i l) (hi:i < en1.length) (hv:σ[i]?=some (some v)) (hd:ds1[i]?=some d)
  (hg:∀ a,G a→R1 i a∨F a) (hf:∀ a,F' a→R1 i a∨F a) (hx:∀ a,G a→¬ F' a)
  (ho:Ow K (Own (fun j=>if j=i then G else R1 j) (U F' Ox)) (upd H1 l o2) t d v G) :
  Post K false ds1 Ox σ H en R (en1.set i (some t)) (upd H1 l o2) (fun j=>if j=i then G else R1 j) F':=by
 have rc:∀ (j:Nat) a,(if j=i then G else R1 j) a→R1 j a∨(j=i∧F a):=fun j a z=>by
  by_cases hj:j=i
  ·rw [if_pos hj] at z
   rcases hg a z with z | z
   ·exact .inl (hj ▸ z)
   ·exact .inr ⟨hj,z⟩
  ·rw [if_neg hj] at z; exact .inl z
 have sub:∀ a,Own (fun j=>if j=i then G else R1 j) (U F' Ox) a→Own R1 (U F Ox) a:=fun a z=>by
  rcases z with ⟨j,z⟩ | z | z
  ·rcases rc j a z with z | ⟨_,z⟩
   ·exact .inl ⟨j,z⟩
   ·exact .inr (.inl z)
  ·rcases hf a z with z | z
   ·exact .inl ⟨i,z⟩
   ·exact .inr (.inl z)
  ·exact .inr (.inr z)
 have dom2:∀ a o,H1 a=some o→∃ o',upd H1 l o2 a=some o':=fun a o q=>by
  by_cases ha:a=l
  ·subst ha; exact ⟨_,br⟩
  ·exact ⟨o,by rw [bd ha]; exact q⟩
 have nl:∀ a o,H1 a=some o→a≠l→upd H1 l o2 a=some o:=fun a o q n=>by rw [bd n]; exact q
 refine ⟨⟨fun j u hu=>?_,fun j j' a z z'=>?_,fun j a z z2=>?_,fun a z=>?_,by rw [List.length_set]; exact P.env.l1,P.env.l2⟩,fun a z z2=>?_,fun a o q n=>?_,fun a z=>?_,fun a o q=>?_,fun z=>nomatch z⟩
 ·by_cases hj:j=i
  ·subst hj
   rw [List.getElem?_set_self hi] at hu
   cases hu
   refine ⟨v,d,hv,hd,?_⟩
   rw [if_pos rfl]
   exact ho
  ·rw [List.getElem?_set_ne (Ne.symm hj)] at hu
   obtain ⟨v',d',g1,g2,g3⟩:=P.env.at_ j u hu
   refine ⟨v',d',g1,g2,?_⟩
   rw [if_neg hj]
   refine Ow.mv (G:=R1 j) ⟨fun a o q z=>nl a o q fun za=>?_,fun a z=>.inl (sub a z)⟩ u (fun _ z=>z) g3
   subst za
   rcases z with z | z
   ·exact z (.inl ⟨i,hl⟩)
   ·exact hj (P.env.dj j i a z hl)
 ·have z0:=z
  have z0':=z'
  by_cases hj:j=i <;> by_cases hj':j'=i
  ·rw [hj,hj']
  ·rw [if_pos hj] at z0; rw [if_neg hj'] at z0'
   rcases hg a z0 with z1 | z1
   ·exact absurd (P.env.dj i j' a z1 z0') (fun e=>hj' e.symm)
   ·exact absurd (.inl z1) (P.env.dx j' a z0')
  ·rw [if_neg hj] at z0; rw [if_pos hj'] at z0'
   rcases hg a z0' with z1 | z1
   ·exact absurd (P.env.dj j i a z0 z1) hj
   ·exact absurd (.inl z1) (P.env.dx j a z0)
  ·rw [if_neg hj] at z0; rw [if_neg hj'] at z0'
   exact P.env.dj j j' a z0 z0'
 ·have z0:=z
  by_cases hj:j=i
  ·rw [if_pos hj] at z0
   rcases z2 with z2 | z2
   ·exact hx a z0 z2
   ·rcases hg a z0 with z1 | z1
    ·exact P.env.dx i a z1 (.inr z2)
    ·exact P.fx a z1 z2
  ·rw [if_neg hj] at z0
   rcases z2 with z2 | z2
   ·rcases hf a z2 with z1 | z1
    ·exact hj (P.env.dj j i a z0 z1)
    ·exact P.env.dx j a z0 (.inl z1)
   ·exact P.env.dx j a z0 (.inr z2)
 ·obtain ⟨o,q⟩:=P.env.dom a (sub a z)
  exact dom2 a o q
 ·rcases hf a z with z1 | z1
  ·exact P.env.dx i a z1 (.inr z2)
  ·exact P.fx a z1 z2
 ·refine nl a o (P.keep a o q n) fun za=>?_
  subst za
  rcases P.own a (.inr ⟨i,hl⟩) with ⟨j,z⟩ | z
  ·exact n j z
  ·rw [q] at z; cases z
 ·have:F a∨∃ j,R1 j a:=by
   rcases z with z | ⟨j,z⟩
   ·rcases hf a z with z | z
    ·exact .inr ⟨i,z⟩
    ·exact .inl z
   ·rcases rc j a z with z | ⟨_,z⟩
    ·exact .inr ⟨j,z⟩
    ·exact .inl z
  exact P.own a this
 ·obtain ⟨o',q'⟩:=P.dom a o q
  exact dom2 a o' q'
theorem qg {G F' F:AS} (hg:∀ a,G a→R1 i a∨F a) (hf:∀ a,F' a→R1 i a∨F a):∀ a,Own (fun j=>if j=i then G else R1 j) (U F' Ox) a→Own R1 (U F Ox) a:=fun a z=>by
 rcases z with ⟨j,z⟩ | z | z
 ·by_cases hj:j=i
  ·rw [if_pos hj] at z
   rcases hg a z with z | z
   ·exact .inl ⟨i,z⟩
   ·exact .inr (.inl z)
  ·rw [if_neg hj] at z; exact .inl ⟨j,z⟩
 ·rcases hf a z with z | z
  ·exact .inl ⟨i,z⟩
  ·exact .inr (.inl z)
 ·exact .inr (.inr z)
theorem cL {α:Type} {en:List (Option α)} {i:Nat} {t:α} (h:(en[i]?).join=some t):en[i]?=some (some t):=by
 cases q:en[i]? with
 | none=>rw [q] at h; cases h
 | some o=>rw [q] at h; exact congrArg some h
theorem Ow.sqL {ts:List PyData} {F:AS} (h:Ow K O H (.list ts) d v F):∃ a vs,v=.ref a∧SqL K H a vs:=by
 obtain ⟨a,vs,e,⟨_,h1,_⟩ | ⟨_,h1,_⟩⟩:=h
 ·exact ⟨a,vs,e,h1.sq⟩
 ·exact ⟨a,vs,e,SqL.of h1⟩
theorem Ow.ownL {ts:List PyData} {F:AS} (hd:d≠0) (h:Ow K O H (.list ts) d v F):∃ a vs,v=.ref a∧H a=some (.lst vs)∧F a∧∃ F':AS,(∀ b,F' b→F b∧b≠a)∧Ows K O H ts (dn d) vs F':=by
 obtain ⟨a,vs,e,⟨h0,_⟩ | ⟨_,h1,h2,h3⟩⟩:=h
 ·exact absurd h0 hd
 ·exact ⟨a,vs,e,h1,h2,h3⟩
theorem Ows.past {ts:List PyData} {vs:List V} {F:AS} {l:Addr} {o:HO} (ho:∀ a,O' a→O a) (hl:O l) (hf:∀ b,F b→b≠l) (h:Ows K O H ts d vs F):Ows K O' (upd H l o) ts d vs F :=
 Ows.mv (G:=F) ⟨fun a u q z=>by
  rw [bd]
  ·exact q
  ·intro za
   subst za
   rcases z with z | z
   ·exact z hl
   ·exact hf a z rfl,fun a z=>.inl (ho a z)⟩ ts (fun _ z=>z) h
theorem Ow.past {F:AS} {l:Addr} {o:HO} (ho:∀ a,O' a→O a) (hl:O l) (hf:∀ b,F b→b≠l) (h:Ow K O H t d v F):Ow K O' (upd H l o) t d v F :=
 Ow.mv (G:=F) ⟨fun a u q z=>by
  rw [bd]
  ·exact q
  ·intro za
   subst za
   rcases z with z | z
   ·exact z hl
   ·exact hf a z rfl,fun a z=>.inl (ho a z)⟩ t (fun _ z=>z) h
def jL (i:Nat) (f:ME):ME:=fun en=>match (en[i]?).join with
 | some (.list _)=>(f en).bind fun r=>match (r.2[i]?).join with
  | some (.list ts)=>if ts.length < sizeLine then some (.none,r.2.set i (some (.list (ts++[r.1])))) else none
  | _=>none
 | _=>none
theorem G9 {c:Nat} (hd:ds1[i]?=some d) (hz:d≠0) (hc:dn d=c) (h:tF K false ds ds1 3 (jL i f) σ H Q):tBM K "list" qM (kg i) (mr (tF K p ds ds1 c f) rq) σ H Q:=by
 obtain ⟨Ox,en,R,t,en',e,hf,k⟩:=h
 unfold jL at hf
 split at hf
 case h_2=>cases hf
 next ts0 h0 =>
 obtain ⟨⟨t1,en1⟩,h1,hf⟩:=Option.bind_eq_some_iff.mp hf
 dsimp only at hf
 split at hf
 case h_2=>cases hf
 next ts h2 =>
 by_cases hlen:ts.length < sizeLine
 case neg=>rw [if_neg hlen] at hf; cases hf
 rw [if_pos hlen] at hf
 cases hf
 obtain ⟨v,d0,a1,_,a3⟩:=e.at_ i _ (cL h0)
 obtain ⟨l0,vs0,e0,sq⟩:=a3.sqL
 refine ⟨v,a1,?_,Ox,en,R,t1,en1,e,h1,fun x H1 R1 F P o=>?_⟩
 ·rw [e0]; exact .inl ⟨rfl,vs0,sq⟩
 obtain ⟨v',d',b1,b2,b3⟩:=P.env.at_ i _ (cL h2)
 rw [a1] at b1
 cases b1
 rw [hd] at b2
 cases b2
 obtain ⟨l,vs,el,hl,hr,F',hf',ow⟩:=b3.ownL hz
 refine ⟨l,vs,x,el,rfl,hl,by rw [ow.len]; exact hlen,?_⟩
 have hi:i < en1.length:=(List.getElem?_eq_some_iff.mp (cL h2)).1
 have Fn:∀ a,F a→a≠l:=fun a z z2=>by
  subst z2
  exact P.env.dx i a hr (.inl z)
 have sub:=qg (i:=i) (R1:=R1) (Ox:=Ox) (G:=fun a=>R1 i a∨F a) (F':=NoA) (F:=F) (fun _ z=>z) (fun _ z=>z.elim)
 have Ol:Own R1 (U F Ox) l:=.inl ⟨i,hr⟩
 refine k .non (upd H1 l (.lst (vs++[x]))) _ NoA (P.slot (G:=fun a=>R1 i a∨F a) hr hi a1 hd (fun _ z=>z) (fun _ z=>z.elim) (fun _ _ z=>z) ?_) rfl
 refine ⟨l,vs++[x],el,.inr ⟨hz,br,.inl hr,U F' F,fun b z=>?_,?_⟩⟩
 ·rcases z with z | z
  ·exact ⟨.inl (hf' b z).1,(hf' b z).2⟩
  ·exact ⟨.inr z,Fn b z⟩
 ·refine Ows.snoc (Ows.past sub Ol (fun b z=>(hf' b z).2) ow) ?_ fun b z1 z2=>P.env.dx i b (hf' b z1).1 (.inl z2)
  rw [hc]
  exact Ow.past sub Ol Fn o
theorem Ows.out:∀ {ts:List PyData} {vs:List V} {F:AS} {k:Nat} {t:PyData},Ows K O H ts d vs F→ts[k]?=some t →
  ∃ v,∃ F1 F2:AS,vs[k]?=some v∧(∀ b,F1 b→F b)∧(∀ b,F2 b→F b)∧(∀ b,F1 b→¬ F2 b)∧Ow K O H t d v F1∧Ows K O H (ts.eraseIdx k) d (vs.eraseIdx k) F2
 | [],_,_,k,t,_,h=>by simp at h
 | u :: ts,_,F,k,t,h,hk=>by
  obtain ⟨v,r,F1,F2,e,s1,s2,s3,h4,h5⟩:=h
  subst e
  cases k with
  | zero =>
   have:u=t:=by simpa using hk
   subst this
   exact ⟨v,F1,F2,rfl,s1,s2,s3,h4,h5⟩
  | succ k =>
   obtain ⟨w,G1,G2,g1,g2,g3,g4,g5,g6⟩:=Ows.out (k:=k) h5 (by simpa using hk)
   refine ⟨w,G1,U F1 G2,by simpa using g1,fun b z=>s2 b (g2 b z),fun b z=>z.elim (s1 b) fun z=>s2 b (g3 b z),fun b z z2=>?_,g5,v,r.eraseIdx k,F1,G2,rfl,fun b=>.inl,fun b=>.inr,fun b z1 z2=>s3 b z1 (g3 b z2),h4,g6⟩
   rcases z2 with z2 | z2
   ·exact s3 b z2 (g2 b z)
   ·exact g4 b z z2
def fB (i:Nat) (f:ME):ME:=fun en=>match (en[i]?).join with
 | some (.list _)=>(f en).bind fun r=>match r.1,(r.2[i]?).join with
  | .int n,some (.list ts)=>if -(2 ^ 63)≤n∧n < 2 ^ 63 then (seqIndex? n ts.length).bind fun k=>(ts[k]?).map fun t=>(t,r.2.set i (some (.list (ts.eraseIdx k)))) else none
  | _,_=>none
 | _=>none
theorem Ck {c:Nat} (hd:ds1[i]?=some d) (hz:d≠0) (hc:dn d=c) (h:tF K false ds ds1 c (fB i f) σ H Q):tBM K "list" sN (kg i) (mr (tF K p ds ds1 d1 f) rq) σ H Q:=by
 obtain ⟨Ox,en,R,t,en',e,hf,k⟩:=h
 unfold fB at hf
 split at hf
 case h_2=>cases hf
 next ts0 h0 =>
 obtain ⟨⟨t1,en1⟩,h1,hf⟩:=Option.bind_eq_some_iff.mp hf
 dsimp only at hf
 split at hf
 case h_2=>cases hf
 next n ts h2 =>
 by_cases hn:-(2 ^ 63)≤n∧n < 2 ^ 63
 case neg=>rw [if_neg hn] at hf; cases hf
 rw [if_pos hn] at hf
 obtain ⟨kk,h3,hf⟩:=Option.bind_eq_some_iff.mp hf
 obtain ⟨t',h4,hf⟩:=Option.map_eq_some_iff.mp hf
 cases hf
 obtain ⟨v,d0,a1,_,a3⟩:=e.at_ i _ (cL h0)
 obtain ⟨l0,vs0,e0,sq⟩:=a3.sqL
 refine ⟨v,a1,?_,Ox,en,R,.int n,en1,e,h1,fun x H1 R1 F P o=>?_⟩
 ·rw [e0]; exact .inl ⟨rfl,vs0,sq⟩
 obtain ⟨v',d',b1,b2,b3⟩:=P.env.at_ i _ (cL h2)
 rw [a1] at b1
 cases b1
 rw [hd] at b2
 cases b2
 obtain ⟨l,vs,el,hl,hr,F',hf',ow⟩:=b3.ownL hz
 have len:=ow.len
 obtain ⟨w,F1,F2,g1,g2,g3,g4,g5,g6⟩:=ow.out h4
 have ex:x=.int n:=o
 refine ⟨l,vs,n,kk,w,el,by rw [ex],hl,hn.1,hn.2,by rw [len]; exact h3,g1,?_⟩
 have hi:i < en1.length:=(List.getElem?_eq_some_iff.mp (cL h2)).1
 have gG:∀ a,(fun a=>R1 i a∧¬ F1 a) a→R1 i a∨F a:=fun a z=>.inl z.1
 have gF:∀ a,F1 a→R1 i a∨F a:=fun a z=>.inl (hf' a (g2 a z)).1
 have sub:∀ a,Own (fun j=>if j=i then (fun a=>R1 i a∧¬ F1 a) else R1 j) (U F1 Ox) a→Own R1 (U F Ox) a:=fun a z=>qg gG gF a z
 have Ol:Own R1 (U F Ox) l:=.inl ⟨i,hr⟩
 have F1l:¬ F1 l:=fun z=>(hf' l (g2 l z)).2 rfl
 rw [hc] at g5
 refine k w (upd H1 l (.lst (vs.eraseIdx kk))) _ F1 (P.slot (G:=fun a=>R1 i a∧¬ F1 a) hr hi a1 hd gG gF (fun a z z2=>z.2 z2) ?_) (Ow.past sub Ol (fun b z=>(hf' b (g2 b z)).2) g5)
 exact ⟨l,vs.eraseIdx kk,el,.inr ⟨hz,br,⟨hr,F1l⟩,F2,fun b z=>⟨⟨(hf' b (g3 b z)).1,fun z1=>g4 b z1 z⟩,(hf' b (g3 b z)).2⟩,Ows.past sub Ol (fun b z=>(hf' b (g3 b z)).2) g6⟩⟩
theorem Ows.rev:∀ {ts:List PyData} {vs:List V} {F:AS},Ows K O H ts d vs F→Ows K O H ts.reverse d vs.reverse F
 | [],_,_,h=>by rw [show _=[] from h]; rfl
 | t :: ts,_,F,h=>by
  obtain ⟨v,r,F1,F2,e,s1,s2,s3,h4,h5⟩:=h
  subst e
  rw [List.reverse_cons,List.reverse_cons]
  exact Ows.grow (fun _ z=>z) _ (fun b z=>z.elim (s2 b) (s1 b)) (Ows.snoc h5.rev h4 fun b z1 z2=>s3 b z2 z1)
theorem Ows.setAt:∀ {ts:List PyData} {vs:List V} {F F2:AS} {k:Nat} {t:PyData} {v:V},Ows K O H ts d vs F→Ow K O H t d v F2→(∀ b,F b→¬ F2 b)→Ows K O H (ts.set k t) d (vs.set k v) (U F F2)
 | [],_,_,_,_,_,_,h,_,_=>by rw [show _=[] from h]; rfl
 | u :: ts,_,F,F2,k,t,v,h,h2,hd=>by
  obtain ⟨w,r,G1,G2,e,s1,s2,s3,h4,h5⟩:=h
  subst e
  cases k with
  | zero=>exact ⟨v,r,F2,G2,rfl,fun _ z=>.inr z,fun b z=>.inl (s2 b z),fun b z z2=>hd b (s2 b z2) z,h2,h5⟩
  | succ k =>
   refine ⟨w,r.set k v,G1,U G2 F2,rfl,fun b z=>.inl (s1 b z),fun b z=>z.imp (s2 b) id,fun b z z2=>?_,h4,Ows.setAt h5 h2 fun b z=>hd b (s2 b z)⟩
   rcases z2 with z2 | z2
   ·exact s3 b z z2
   ·exact hd b (s1 b z) z2
def gk (i:Nat) (fk fe:ME):MS:=fun en=>(fe en).bind fun r=>match (r.2[i]?).join with
 | some _=>(fk r.2).bind fun q=>match q.1,(q.2[i]?).join with
  | .int n,some (.list ts)=>(ixN ts.length n).map fun k=>.nx (q.2.set i (some (.list (ts.set k r.1))))
  | _,_=>none
 | none=>none
theorem BV {c:Nat} {fk fe:ME} (hd:ds2[i]?=some d) (hz:d≠0) (hc:dn d=c) (h:tFS K J ds ds2 (gk i fk fe) D σ H) :
  pk (tF K p1 ds ds1 c fe) (Fu (kg i) (tF K p2 ds1 ds2 d2 fk) AY) D σ H:=by
 obtain ⟨Ox,en,R,fl,e,hf,k⟩:=h
 unfold gk at hf
 obtain ⟨⟨t1,en1⟩,h1,hf⟩:=Option.bind_eq_some_iff.mp hf
 dsimp only at hf
 split at hf
 case h_2=>cases hf
 next tt h0 =>
 obtain ⟨⟨t2,en2⟩,h2,hf⟩:=Option.bind_eq_some_iff.mp hf
 dsimp only at hf
 split at hf
 case h_2=>cases hf
 next n ts h3 =>
 obtain ⟨kk,h4,hf⟩:=Option.map_eq_some_iff.mp hf
 cases hf
 refine ⟨Ox,en,R,t1,en1,e,h1,fun x H1 R1 F1 P1 o1=>?_⟩
 obtain ⟨v0,d0,a1,_,_⟩:=P1.env.at_ i tt (cL h0)
 refine ⟨v0,a1,?_⟩
 refine ⟨U F1 Ox,en1,R1,.int n,en2,P1.env,h2,fun y H2 R2 F2 P2 o2=>?_⟩
 have P:=P1.trans P2
 have o1':=Ow.over P1.env P2 o1
 obtain ⟨v',d',b1,b2,b3⟩:=P.env.at_ i _ (cL h3)
 rw [a1] at b1
 cases b1
 rw [hd] at b2
 cases b2
 obtain ⟨l,vs,el,hl,hr,F',hf',ow⟩:=b3.ownL hz
 refine ⟨l,vs,n,kk,el,o2,hl,by rw [ow.len]; exact h4,?_⟩
 have hi:i < en2.length:=(List.getElem?_eq_some_iff.mp (cL h3)).1
 have Fn:∀ a,F1 a→a≠l:=fun a z z2=>by
  subst z2
  exact P.env.dx i a hr (.inl (.inl z))
 have gG:∀ a,(fun a=>R2 i a∨F1 a) a→R2 i a∨U F1 F2 a:=fun a z=>z.imp id .inl
 have sub:=qg (i:=i) (R1:=R2) (Ox:=Ox) (G:=fun a=>R2 i a∨F1 a) (F':=NoA) (F:=U F1 F2) gG (fun _ z=>z.elim)
 have Ol:Own R2 (U (U F1 F2) Ox) l:=.inl ⟨i,hr⟩
 have PS:=P.slot (G:=fun a=>R2 i a∨F1 a) (F':=NoA) (o2:=.lst (vs.set kk x)) (t:=.list (ts.set kk t1)) hr hi a1 hd gG (fun _ z=>z.elim) (fun _ _ z=>z) ?_
 ·exact k σ _ _ PS.s
 refine ⟨l,vs.set kk x,el,.inr ⟨hz,br,.inl hr,U F' F1,fun b z=>?_,?_⟩⟩
 ·rcases z with z | z
  ·exact ⟨.inl (hf' b z).1,(hf' b z).2⟩
  ·exact ⟨.inr z,Fn b z⟩
 ·refine Ows.setAt (Ows.past sub Ol (fun b z=>(hf' b z).2) ow) ?_ fun b z1 z2=>P.env.dx i b (hf' b z1).1 (.inl (.inl z2))
  rw [hc]
  exact Ow.past sub Ol Fn o1'
theorem Ows.get:∀ {ts:List PyData} {vs:List V} {F:AS} {k:Nat} {t:PyData},Ows K O H ts d vs F→ts[k]?=some t→∃ v,vs[k]?=some v∧Ow K O H t d v F
 | [],_,_,k,t,_,h=>by simp at h
 | u :: ts,_,F,k,t,h,hk=>by
  obtain ⟨v,r,F1,F2,e,s1,s2,s3,h4,h5⟩:=h
  subst e
  cases k with
  | zero =>
   have:u=t:=by simpa using hk
   subst this
   exact ⟨v,rfl,Ow.grow (fun _ z=>z) u s1 h4⟩
  | succ k =>
   obtain ⟨w,g1,g2⟩:=Ows.get (k:=k) h5 (by simpa using hk)
   exact ⟨w,by simpa using g1,Ow.grow (fun _ z=>z) t s2 g2⟩
theorem Ows.atI {ts:List PyData} {vs:List V} {F:AS} {n:Int} {t:PyData} (h:Ows K O H ts d vs F) (ht:L2.atI ts n=some t):∃ v,L2.atI vs n=some v∧Ow K O H t d v F:=by
 unfold L2.atI at ht ⊢
 rw [h.len]
 obtain ⟨k,h1,h2⟩:=Option.bind_eq_some_iff.mp ht
 obtain ⟨v,g1,g2⟩:=h.get h2
 exact ⟨v,by rw [h1]; exact g1,g2⟩
def di (i:Nat) (f:ME):ME:=fun en=>(en[i]?).join.bind fun _=>(f en).bind fun r=>match r.1,(r.2[i]?).join with
 | .int n,some (.list ts)=>(atI ts n).map fun t=>(t,r.2)
 | _,_=>none
theorem G7 (hd:ds1[i]?=some 1) (h:tF K p ds ds1 0 (di i f) σ H Q):tOp (rC K) (kg i) (tF K p ds ds1 d1 f) σ H Q:=by
 obtain ⟨Ox,en,R,t,en',e,hf,k⟩:=h
 unfold di at hf
 obtain ⟨t0,h0,hf⟩:=Option.bind_eq_some_iff.mp hf
 obtain ⟨⟨t1,en1⟩,h1,hf⟩:=Option.bind_eq_some_iff.mp hf
 dsimp only at hf
 split at hf
 case h_2=>cases hf
 next n ts h2 =>
 obtain ⟨t',h3,hf⟩:=Option.map_eq_some_iff.mp hf
 cases hf
 obtain ⟨v,d0,a1,_,a3⟩:=e.at_ i _ (cL h0)
 refine ⟨v,a1,Ox,en,R,.int n,_,e,h1,fun x H1 R1 F P o=>?_⟩
 obtain ⟨v',d',b1,b2,b3⟩:=P.env.at_ i _ (cL h2)
 rw [a1] at b1
 cases b1
 rw [hd] at b2
 cases b2
 obtain ⟨l,vs,el,hl,hr,F',hf',ow⟩:=b3.ownL (by decide)
 obtain ⟨w,g1,g2⟩:=ow.atI h3
 refine ⟨l,vs,n,w,el,o,SqL.of hl,g1,k w H1 R1 NoA (P.less fun _ z=>z.elim) ?_⟩
 exact Ow.any0 _ (Ow.grow (fun a z=>z.imp id fun z=>z.elim (fun z=>False.elim z) Or.inr) _ (fun _ z=>z) g2)
end
end L2
namespace L2
open PySem PySem.Spec PyProof.Rows
theorem PE.imp {X:Cx} {e:Expr} {t t':TE} (h:PE X e t) (hi:∀ σ H Q,t' σ H Q→t σ H Q):PE X e t':=fun pins s σ H Q I hw=>h pins s σ H Q I (hi _ _ _ hw)
theorem PT.imp {X:Cx} {e:Expr} {t t':TT} (h:PT X e t) (hi:∀ σ H Q,t' σ H Q→t σ H Q):PT X e t':=fun pins s σ H Q I hw=>h pins s σ H Q I (hi _ _ _ hw)
theorem PW.imp {X:Cx} {e:Expr} {t t':TT} (h:PW X e t) (hi:∀ σ H Q,t' σ H Q→t σ H Q):PW X e t':=fun wh pins s σ H Q I hw=>h wh pins s σ H Q I (hi _ _ _ hw)
theorem PA.imp {X:Cx} {e:List Expr} {t t':TA} (h:PA X e t) (hi:∀ σ H Q,t' σ H Q→t σ H Q):PA X e t':=fun pos pins s σ H Q I hw=>h pos pins s σ H Q I (hi _ _ _ hw)
theorem PS.imp {X:Cx} {e:Stmt} {t t':TS} (h:PS X e t) (hi:∀ D σ H,t' D σ H→t D σ H):PS X e t':=fun pins s σ H D I hw=>h pins s σ H D I (hi _ _ _ hw)
theorem PSs.imp {X:Cx} {e:List Stmt} {t t':TS} (h:PSs X e t) (hi:∀ D σ H,t' D σ H→t D σ H):PSs X e t':=fun pins s σ H D I hw=>h pins s σ H D I (hi _ _ _ hw)
theorem PG.imp {X:Cx} {e:Expr} {t t':TG} (h:PG X e t) (hi:∀ v σ H Q,t' v σ H Q→t v σ H Q):PG X e t':=fun pins s σ H v u Q I r hw=>h pins s σ H v u Q I r (hi _ _ _ _ hw)
theorem PGs.imp {X:Cx} {e:List Expr} {t t':TGs} (h:PGs X e t) (hi:∀ v σ H Q,t' v σ H Q→t v σ H Q):PGs X e t':=fun pins s σ H v u Q I r hw=>h pins s σ H v u Q I r (hi _ _ _ _ hw)
theorem PI.imp {X:Cx} {tg e:Expr} {t t':TI} (h:PI X tg e t) (hi:∀ σ H R,t' σ H R→t σ H R):PI X tg e t':=fun pins s σ H R I hw=>h pins s σ H R I (hi _ _ _ hw)
theorem PTs.imp {X:Cx} {e:List Expr} {t t':TT} (h:PTs X e t) (hi:∀ σ H Q,t' σ H Q→t σ H Q):PTs X e t':=fun pins s σ H Q I hw=>h pins s σ H Q I (hi _ _ _ hw)
def be:Expr→Bool
 | .Starred _ _=>false
 | _=>true
theorem bR {e:Expr} {es:List Expr} {env:Env} (h:be e=true):starEach (e :: es) env=(false,eval e env) :: starEach es env:=by
 cases e <;> first | rfl | cases h
theorem h9 {pos:Pos} {env:Env}:∀ {es:List Expr},es.all be=true→(backTo pos (starEach es env)).any (·.1)=false
 | [],_=>rfl
 | e :: es,h=>by
  rw [List.all_cons,Bool.and_eq_true] at h
  rw [bR h.1]
  show (false || (backTo pos (starEach es env)).any (·.1))=false
  rw [h9 h.2]
  rfl
section
variable {X:Cx} {K:PySem.W.Frag} {p p1 p2 q:Bool} {ds ds0 ds1 ds2 ds' dsi:List Nat} {d d' d1 d2:Nat} {a b c e:Expr} {es:List Expr} {f f1 f2:ME} {m c1 c2:MT} {fa:MA} {sh:Sh} {pos:Pos} {i:Nat} {x:Str}
theorem FO {x:Str} (hN:X.N[i]?=some x) (hv:Vis X.env.scope x) (h0:ds[i]?=some 0) (hd:(x == ("__debug__" : Str))=false) (hcd:(x == ("__classdict__" : Str))=false):PE X (.Name x pos) (tF K p ds ds 0 (af i)) :=
 (jd hN hv hd hcd).imp fun _ _ _ h=>GZ h0 (jJ (fun _=>rfl) h)
theorem FZ {n:Int} {j}:PE X (.Constant (.int n) j pos) (tF K p ds ds 3 (eC (.int n))):=pe_int.imp fun _ _ _ h=>f_c (t:=.int n) (fun _ _ _ _=>rfl) (jJ (fun _=>rfl) h)
theorem GY {n:Bool} {j}:PE X (.Constant (.bool n) j pos) (tF K p ds ds 3 (eC (.bool n))):=pe_bl.imp fun _ _ _ h=>f_c (t:=.bool n) (fun _ _ _ _=>rfl) (jJ (fun _=>rfl) h)
theorem FU {j}:PE X (.Constant .none j pos) (tF K p ds ds 3 (eC .none)):=pe_non.imp fun _ _ _ h=>f_c (t:=.none) (fun _ _ _ _=>rfl) (jJ (fun _=>rfl) h)
theorem FR {n:Str} {j}:PE X (.Constant (.str n) j pos) (tF K p ds ds 3 (eC (.str n))):=pe_str.imp fun _ _ _ h=>f_c (t:=.str n) (fun _ _ _ _=>rfl) (jJ (fun _=>rfl) h)
theorem vh {x:Str} {n:Int} {t:Tok} (hg:Gl X x) (hm:X.mg x=some (.int n t)) (hd:(x == ("__debug__" : Str))=false):PE X (.Name x pos) (tF K p ds ds 3 (eC (.int n))) :=
 (Bw (v:=.int n) hg hm ⟨t,rfl⟩ hd).imp fun _ _ _ h=>f_c (t:=.int n) (fun _ _ _ _=>rfl) (jJ (fun _=>rfl) h)
theorem FQ (h:PE X e (tF K p ds ds' d f)) (hd:d'≤d):PE X e (tF K p ds ds' d' f):=h.imp fun _ _ _=>G3 hd
theorem GW (h:PE X e (tF K p ds0 ds' d f)) (hd:leD ds0 ds=true):PE X e (tF K false ds ds' d f):=h.imp fun _ _ _=>HA hd
theorem F9 (h:PE X e (tF K true ds0 ds0 3 f)) (hd:leD ds0 ds=true):PE X e (tF K p ds ds 3 f):=h.imp fun _ _ _ h=>G8 hd (jJ (fun _=>rfl) h)
theorem GS {op:Operator} {g:D→D→Option D} (ho:OpR X (binaryOp op) (rF2 K g d)) (ha:PE X a (tF K p ds ds1 d1 f1)) (hb:PE X b (tF K p ds1 ds2 d2 f2)):PE X (.BinOp a op b pos) (tF K p ds ds2 d (e2 g f1 f2)) :=
 (GC ho ha hb).imp fun _ _ _ h=>k4 (by rw [Bool.and_self]; exact h)
theorem GQ {op:UnaryOp} {g:D→Option D} (ho:UnR X (unaryOp op) (rF1 K g d)) (ha:PE X a (tF K p ds ds1 d1 f1)):PE X (.UnaryOp op a pos) (tF K p ds ds1 d (e1 g f1)) :=
 (GA ho ha).imp fun _ _ _=>G4
theorem F8 {op:CmpOp} {g:D→D→Option D} (ho:OpR X (compareOp op) (rF2 K g d)) (ha:PE X a (tF K p ds ds1 d1 f1)) (hb:PE X b (tF K p ds1 ds2 d2 f2)) (hm:behindInMarks op b=false):PE X (.Compare a [op] [b] pos) (tF K p ds ds2 d (e2 g f1 f2)) :=
 (Bx ho ha hb hm).imp fun _ _ _ h=>k4 (by rw [Bool.and_self]; exact h)
theorem BR {op:CmpOp} {g:D→D→Option D} (ho:OpR X (compareOp op) (rF2 K g d)) (ha:PE X a (tF K p ds ds1 d1 f1)) (hb:PE X b (tF K p ds1 ds2 d2 f2)) (hm:behindInMarks op b=false):PT X (.Compare a [op] [b] pos) (tFT K p ds ds2 (tV (e2 g f1 f2))) :=
 (Bo ho ha hb hm).imp fun σ H Q h=>by
  obtain ⟨Ox,en,R,t,en',e,hf,k⟩:=pT (d:=d) h
  exact k4 (by rw [Bool.and_self]; exact ⟨Ox,en,R,t,en',e,hf,k⟩)
theorem BP (h:PE X e (tF K p ds ds' d f)) (he:∀ whole,isTrue e X.env whole=(do let v ← whole; standAt e.pos; holding [v] (truthy v))):PT X e (tFT K p ds ds' (tV f)):=(EE h he).imp fun _ _ _=>pT
theorem BM (ha:PT X a (tFT K p ds ds1 c1)):PW X (.BoolOp .And [a] pos) (tFT K p ds ds1 c1):=Bm ha
theorem Fw (ha:PT X a (tFT K p ds ds1 c1)):PW X (.BoolOp .Or [a] pos) (tFT K p ds ds1 c1):=EC ha
theorem Fx {rest:List Expr} (ha:PT X a (tFT K p ds ds1 c1)) (hb:PW X (.BoolOp .And (b :: rest) pos) (tFT K p ds1 ds1 c2)):PW X (.BoolOp .And (a :: b :: rest) pos) (tFT K p ds ds1 (eR c1 c2)):=(ED ha hb).imp fun _ _ _ h=>Fz (by rw [Bool.and_self]; exact h)
theorem GK {rest:List Expr} (ha:PT X a (tFT K p ds ds1 c1)) (hb:PW X (.BoolOp .Or (b :: rest) pos) (tFT K p ds1 ds1 c2)):PW X (.BoolOp .Or (a :: b :: rest) pos) (tFT K p ds ds1 (bOr c1 c2)):=(Gy ha hb).imp fun _ _ _ h=>GL (by rw [Bool.and_self]; exact h)
theorem BQ (ha:PT X a (tFT K p ds ds1 c1)):PT X (.UnaryOp .Not a pos) (tFT K p ds ds1 (cb c1)):=(EF ha).imp fun _ _ _=>Fy
theorem FS {op} (h:PE X a (tF K p ds ds1 d f)):PE X (.BoolOp op [a] pos) (tF K p ds ds1 d f):=EQ h
theorem Gb {rest:List Expr} (ha:PE X a (tF K p ds ds1 d1 f1)) (hb:PE X (.BoolOp .And (b :: rest) pos) (tF K p ds1 ds1 d f2)):PE X (.BoolOp .And (a :: b :: rest) pos) (tF K p ds ds1 d (cB f1 f2)):=(ET ha hb).imp fun _ _ _ h=>Ha (by rw [Bool.and_self]; exact h)
theorem GR {rest:List Expr} (ha:PE X a (tF K p ds ds1 d1 f1)) (hb:PE X (.BoolOp .Or (b :: rest) pos) (tF K p ds1 ds1 d f2)):PE X (.BoolOp .Or (a :: b :: rest) pos) (tF K p ds ds1 d (eOr f1 f2)):=(GB ha hb).imp fun _ _ _ h=>Hy (by rw [Bool.and_self]; exact h)
theorem FT (ha:PE X a (tF K p ds ds1 d1 f)):PE X (.UnaryOp .Not a pos) (tF K p ds ds1 3 (iY f)):=(ER ha).imp fun _ _ _=>G5
theorem GV (hc:PT X c (tFT K p ds ds1 c1)) (ha:PE X a (tF K p ds1 ds2 d f1)) (hb:PE X b (tF K p ds1 ds2 d f2)):PE X (.IfExp c a b pos) (tF K p ds ds2 d (eIf c1 f1 f2)):=(uK hc ha hb).imp fun _ _ _ h=>Hz (by rw [Bool.and_self,Bool.and_self]; exact h)
theorem Ci:PA X [] (tFA K p ds ds [] ai):=pa_nil.imp fun _ _ _ ⟨Ox,en,R,t,en',e,hf,k⟩=>Gc ⟨Ox,en,R,t,en',e,hf,fun vs H' R' F P=>k vs H' R' F ⟨P.env,P.fx,P.keep,P.own,P.dom,fun _=>P.pure rfl⟩⟩
theorem vn (ha:PE X e (tF K p ds ds1 d f)) (hr:PA X es (tFA K p ds1 ds2 sh fa)) (hs:be e=true):PA X (e :: es) (tFA K p ds ds2 (.inl d :: sh) (ad f fa)):=(ft ha hr (bR hs)).imp fun _ _ _ h=>Cj (by rw [Bool.and_self]; exact h)
theorem vm {x:Str} (hN:X.N[i]?=some x) (hv:Vis X.env.scope x) (hr:PA X es (tFA K p ds ds2 sh fa)) (hd:(x == ("__debug__" : Str))=false) (hcd:(x == ("__classdict__" : Str))=false) :
  PA X (.Name x pos :: es) (tFA K p ds ds2 (.inr i :: sh) (bh i fa)):=(ft (jd hN hv hd hcd) hr (bR rfl)).imp fun _ _ _=>Ch
theorem FV {c:Nat} (h:PA X es (tFA K p ds ds1 sh fa)) (hs:cV c sh=true) (hd:dn d=c) (hz:d≠0):PE X (.List es pos) (tF K p ds ds1 d (cp fa)):=(ES h).imp fun _ _ _=>G6 hs hd hz
theorem FP {c:Nat} {x1} (h:PA X es (tFA K p ds ds1 sh fa)) (hs:cV c sh=true) (hd:dn d=c):PE X (.Tuple es x1 pos) (tF K p ds ds1 d (aP fa)):=(EO h).imp fun _ _ _=>G0 hs hd
theorem vj {id:String} {x:Str} {px:Pos} {g:List D→Option D} (hc:CallR X (.builtin id) (rFn K g d)) (hg:Gl X x) (hm:X.mg x=none) (hv:bootBuiltins x=some (.builtin id)) (ha:PA X (e :: es) (tFA K p ds ds1 sh fa)) (hsh:cV 0 sh=true) (hn:x≠"__name__") (hdb:(x == ("__debug__" : Str))=false)
  (he:be e=true) (hpl:es.all be=true):PE X (.Call (.Name x px) (e :: es) [] pos) (tF K p ds ds1 d (eN g fa)) :=
 (lH hc hg hm hv ha hn hdb (bR he) (h9 hpl)).imp fun _ _ _=>t9 hsh
theorem t8 {T:String} {x:Str} {px:Pos} {g:List D→Option D} (hc:CallR X (.type T) (rFn K g d)) (hg:Gl X x) (hm:X.mg x=none) (hv:bootBuiltins x=some (.type T)) (ha:PA X (e :: es) (tFA K p ds ds1 sh fa)) (hsh:cV 0 sh=true) (hn:x≠"__name__") (hdb:(x == ("__debug__" : Str))=false)
  (he:be e=true) (hpl:es.all be=true):PE X (.Call (.Name x px) (e :: es) [] pos) (tF K p ds ds1 d (eN g fa)) :=
 (n6 hc hg hm hv ha hn hdb (bR he) (h9 hpl)).imp fun _ _ _=>t9 hsh
theorem GX {k:Nat} {x:Str} {ps:List Str} {px:Pos} {dps:List Nat} {dr:Nat} {F:List D→Option (D × En)} (G:Kn X.prog X.w X.K X.mg X.base k x ps (spF K dps dr F)) (hr:Room k X.A) (hg:Gl X x) (ha:PA X (e :: es) (tFA K p ds ds1 sh fa)) (hns:je sh=true) (hcd:gm ds1 sh dps=true) (hdb:(x == ("__debug__" : Str))=false)
  (he:be e=true) (hpl:es.all be=true) :
  PE X (.Call (.Name x px) (e :: es) [] pos) (tF K p ds ds1 dr (aq F fa)):=(A2 G hr hg ha hdb (bR he) (h9 hpl)).imp fun _ _ _ h=>Ge hcd (by rw [hns,Bool.and_true]; exact h)
theorem F7 {k:Nat} {x:Str} {ps:List Str} {px:Pos} {dps:List Nat} {dr:Nat} {F:List D→Option (D × En)} (G:Kn X.prog X.w X.K X.mg X.base k x ps (spF K dps dr F)) (hr:Room k X.A) (hg:Gl X x) (ha:PA X (e :: es) (tFA K false ds ds1 sh fa)) (hcd:gm ds1 sh dps=true) (hdb:(x == ("__debug__" : Str))=false)
  (he:be e=true) (hpl:es.all be=true) :
  PE X (.Call (.Name x px) (e :: es) [] pos) (tF K false ds ds1 dr (aq F fa)):=(A2 G hr hg ha hdb (bR he) (h9 hpl)).imp fun _ _ _ h=>Ge hcd h
theorem GU {g:D→D→Option D} (ho:IxR X (rF2 K g d)) (ha:PE X a (tF K p ds ds1 d1 f1)) (hb:PE X b (tF K p ds1 ds2 d2 f2)) (hs:jm b):PE X (.Subscript a b pos) (tF K p ds ds2 d (e2 g f1 f2)) :=
 (A1 ho ha hb hs).imp fun _ _ _ h=>k4 (by rw [Bool.and_self]; exact h)
theorem FX {x:Str} {px:Pos} (hK:X.K=K) (hN:X.N[i]?=some x) (hv:Vis X.env.scope x) (h1:ds1[i]?=some 1) (hb:PE X b (tF K p ds ds1 d1 f)) (hs:jm b) (hd:(x == ("__debug__" : Str))=false) (hcd:(x == ("__classdict__" : Str))=false) :
  PE X (.Subscript (.Name x px) b pos) (tF K p ds ds1 0 (di i f)):=(A1 (Hv hK) (jd hN hv hd hcd) hb hs).imp fun _ _ _=>G7 h1
theorem Ga {c:Nat} {x:Str} {px apos cpos:Pos} (hK:X.K=K) (hN:X.N[i]?=some x) (hv:Vis X.env.scope x) (h1:ds1[i]?=some d) (he:PE X e (tF K false ds ds1 c f)) (hz:d≠0) (hc:dn d=c)
  (hd:(x == ("__debug__" : Str))=false) (hcd:(x == ("__classdict__" : Str))=false)
  (hbase:attributeBase (.Name x px) "append" X.env (eval (.Name x px) X.env)=eval (.Name x px) X.env)
  (hfew:((backTo cpos (starEach [e] X.env)).all (fun x=>!x.1) && (backToKw cpos (keywordEach [] X.env)).all (fun x=>x.1.isSome) && decide (([e]:List Expr).length+([]:List Keyword).length+(if ([]:List Keyword).isEmpty then 0 else 1) < 30))=true)
  (hline:(apos.endLine == cpos.line)=true) (hs:starEach [e] X.env=[(false,eval e X.env)]) (hplain:(backTo cpos (starEach [] X.env)).any (·.1)=false) :
  PE X (.Call (.Attribute (.Name x px) "append" apos) [e] [] cpos) (tF K false ds ds1 3 (jL i f)):=by
 subst hK
 exact (rG PySem.F.plainAttrs_list PySem.F.slot_list_append PySem.F.type_list_append n9 (jd hN hv hd hcd) (ft he pa_nil hs) hbase hfew hline hs hplain).imp fun _ _ _=>G9 h1 hz hc
theorem vg {c:Nat} {x:Str} {px apos cpos:Pos} (hK:X.K=K) (hN:X.N[i]?=some x) (hv:Vis X.env.scope x) (h1:ds1[i]?=some d) (he:PE X e (tF K false ds ds1 d1 f)) (hz:d≠0) (hc:dn d=c)
  (hd:(x == ("__debug__" : Str))=false) (hcd:(x == ("__classdict__" : Str))=false)
  (hbase:attributeBase (.Name x px) "pop" X.env (eval (.Name x px) X.env)=eval (.Name x px) X.env)
  (hfew:((backTo cpos (starEach [e] X.env)).all (fun x=>!x.1) && (backToKw cpos (keywordEach [] X.env)).all (fun x=>x.1.isSome) && decide (([e]:List Expr).length+([]:List Keyword).length+(if ([]:List Keyword).isEmpty then 0 else 1) < 30))=true)
  (hline:(apos.endLine == cpos.line)=true) (hs:starEach [e] X.env=[(false,eval e X.env)]) (hplain:(backTo cpos (starEach [] X.env)).any (·.1)=false) :
  PE X (.Call (.Attribute (.Name x px) "pop" apos) [e] [] cpos) (tF K false ds ds1 c (fB i f)):=by
 subst hK
 exact (rG PySem.F.plainAttrs_list PySem.F.slot_list_pop PySem.F.type_list_pop uP (jd hN hv hd hcd) (ft he pa_nil hs) hbase hfew hline hs hplain).imp fun _ _ _=>Ck h1 hz hc
def cY:MT:=fun en=>some (true,en)
theorem BO:PTs X [] (tFT K p ds ds cY):=pts_nil.imp fun σ H Q ⟨Ox,en,R,b,en',e,hf,k⟩=>by
 cases hf
 exact k H R (Post.refl e)
theorem BN (hc:PT X c (tFT K p ds ds1 c1)):PTs X [c] (tFT K p ds ds1 c1):=Bn hc
theorem GT {elt tg iter:Expr} {ifs:List Expr} {scope:Scope} {ns:List Str} {js:List (Option Nat)} {fi:MI} {g:MG} {lk:List Nat} {cd:Nat} (B:BlkOkC X scope ns js) (hc:X.calm=true) (hi:PI X tg iter (tFI K p ds ds1 fi))
  (hg:∀ C cl s₀ H₀ fp,PG (aZ X scope ns C cl s₀ H₀ fp) tg (tFG K lk dsi dsi g)) (ht:∀ C cl s₀ H₀ fp,PTs (aZ X scope ns C cl s₀ H₀ fp) ifs (tFT K true dsi dsi c1)) (he:∀ C cl s₀ H₀ fp,PE (aZ X scope ns C cl s₀ H₀ fp) elt (tF K true dsi dsi cd f))
  (hcap:gH ds1 js dsi=true) (hd:dn d=cd) (hz:d≠0) (hlk:lk=gE js 0)
  (hs:∀ x,foldedSetIterable iter X.env x=pure x):PE X (.ListComp elt [⟨tg,iter,ifs,0⟩] scope pos) (tF K p ds ds1 d (eLC true fi g c1 f js)) :=
 (sS B hc hi hg ht he hs).imp fun _ _ _ h=>vo hcap hd hz hlk (by rw [Bool.and_true]; exact h)
theorem FW {elt tg iter:Expr} {ifs:List Expr} {scope:Scope} {ns:List Str} {js:List (Option Nat)} {fi:MI} {g:MG} {lk:List Nat} {cd:Nat} (B:BlkOkC X scope ns js) (hc:X.calm=true) (hi:PI X tg iter (tFI K false ds ds1 fi))
  (hg:∀ C cl s₀ H₀ fp,PG (aZ X scope ns C cl s₀ H₀ fp) tg (tFG K lk dsi dsi g)) (ht:∀ C cl s₀ H₀ fp,PTs (aZ X scope ns C cl s₀ H₀ fp) ifs (tFT K false dsi dsi c1)) (he:∀ C cl s₀ H₀ fp,PE (aZ X scope ns C cl s₀ H₀ fp) elt (tF K false dsi dsi cd f))
  (hcap:gH ds1 js dsi=true) (hd:dn d=cd) (hz:d≠0) (hlk:lk=gE js 0)
  (hs:∀ x,foldedSetIterable iter X.env x=pure x):PE X (.ListComp elt [⟨tg,iter,ifs,0⟩] scope pos) (tF K false ds ds1 d (eLC false fi g c1 f js)) :=
 (sS B hc hi hg ht he hs).imp fun _ _ _ h=>vo hcap hd hz hlk h
end
end L2
namespace L2
open PySem PySem.Spec PyProof.Rows
def HX (f:ME) (g:MG):MS:=fun en=>(f en).bind fun r=>(g r.1 r.2).map .nx
section
variable {K:PySem.W.Frag} {p p1 p2 q:Bool} {J:Jd} {ds ds0 ds1 ds2 ds' dsi dps:List Nat} {d d' d1 d2 dr:Nat} {f f1 f2 fk fe:ME} {c1 c2:MT} {fa:MA} {sh:Sh} {i:Nat} {m m1 m2:MS} {g:MG} {lk:List Nat} {σ:St} {H:Hp} {Dn:Ends}
end
section
variable {X:Cx} {K:PySem.W.Frag} {p p1 p2 q:Bool} {J:Jd} {ds ds0 ds1 ds2 ds' dsi dps:List Nat} {d d' d1 d2 dr:Nat} {a b c e tg iter:Expr} {es:List Expr} {st:Stmt} {rest body bodyB:List Stmt} {f f1 f2 fk fe:ME} {c1 c2:MT} {fa:MA} {sh:Sh} {pos px:Pos} {i:Nat} {x:Str} {m m1 m2:MS} {g:MG} {gs:List D→En→Option En} {fi:MI} {lk:List Nat}
theorem BU:PSs X [] (tFS K J ds ds aM):=pss_nil.imp fun _ _ _=>FC
theorem u8 (h1:PS X st (tFS K J ds ds1 m1)) (h2:PSs X rest (tFS K J ds1 ds2 m2)):PSs X (st :: rest) (tFS K J ds ds2 (ap m1 m2)):=(uG h1 h2).imp fun _ _ _=>FA
theorem BT (h1:PS X st (tFS K J ds ds1 m1)):PSs X [st] (tFS K J ds ds1 m1):=Bp h1
theorem BS (h:PSs X rest (tFS K J ds ds2 m)) (hd:leD ds1 ds2=true):PSs X rest (tFS K J ds ds1 m):=h.imp fun _ _ _=>tM hd
theorem B0 (he:PE X e (tF K false ds ds1 d f)) (hs:swapsWith e none pos.line X.env=pure false):PS X (.Expr e pos) (tFS K J ds ds1 (ki f)):=(Bq he hs).imp fun _ _ _=>FE
theorem BY (he:PE X e (tF K false ds ds1 J.dr f)) (hd:leD J.dsr ds1=true):PS X (.Return (some e) pos) (tFS K J ds ds' (aC f)):=(EH he).imp fun _ _ _=>FB hd
theorem tP:PS X st (tFS K J ds ds' ia):=ps_never.imp fun _ _ _=>u9
theorem FF (hc:PT X c (tFT K false ds ds1 c1)) (ha:PSs X body (tFS K J ds1 ds2 m1)) (hb:PSs X bodyB (tFS K J ds1 ds2 m2)):PS X (.If c body bodyB pos) (tFS K J ds ds2 (sIf c1 m1 m2)):=(Gz hc ha hb).imp fun _ _ _=>GM
theorem BX {x:Str} {pos':Pos} (hN:X.N.Nodup) (hi:X.N[i]?=some x) (hx:Loc X.env.scope x) (he:PE X e (tF K false ds ds1 d f)) (hds:ds1.set i d=ds') (hl:i < ds1.length) (hk:i ∉ J.lk)
  (hs:swapsWith e (some (.Name x pos')) pos.line X.env=pure false) (hf:X.fn x=true∨X.env.scope.names.lookup x=some .local) :
  PS X (.Assign [.Name x pos'] e pos) (tFS K J ds ds' (aH i f)):=by
 subst hds
 exact (EG hN hi hx he hs hf).imp fun _ _ _=>tN hl hk
theorem tO {x:Str} {spos pos':Pos} {elt:Expr} {ifs:List Expr} {scope:Scope} {ns:List Str} {js:List (Option Nat)} {cd:Nat} (hN:X.N.Nodup) (hi':X.N[i]?=some x) (hx:X.env.scope.names.lookup x=some .local) (B:BlkOkC X scope ns js) (hc:X.calm=true) (hi:PI X tg iter (tFI K false ds ds1 fi))
  (hg:∀ C cl s₀ H₀ fp,PG (aZ X scope ns C cl s₀ H₀ fp) tg (tFG K lk dsi dsi g)) (ht:∀ C cl s₀ H₀ fp,PTs (aZ X scope ns C cl s₀ H₀ fp) ifs (tFT K q dsi dsi c1)) (he:∀ C cl s₀ H₀ fp,PE (aZ X scope ns C cl s₀ H₀ fp) elt (tF K q dsi dsi cd f))
  (hds:ds1.set i d=ds') (hcap:gH ds1 js dsi=true) (hd:dn d=cd) (hz:d≠0) (hlk:lk=gE js 0) (hl:i < ds1.length) (hk:i ∉ J.lk)
  (hsw:swapsWith (.ListComp elt [⟨tg,iter,ifs,0⟩] scope pos) (some (.Name x pos')) spos.line X.env=pure true)
  (hs:∀ x,foldedSetIterable iter X.env x=pure x):PS X (.Assign [.Name x pos'] (.ListComp elt [⟨tg,iter,ifs,0⟩] scope pos) spos) (tFS K J ds ds' (aH i (eLC q fi g c1 f js))):=by
 subst hds
 exact (sO hN hi' hx B hc hi hg ht he hsw hs).imp fun D σ H h=>vo (p:=false) hcap hd hz hlk (tN (p:=false && q) hl hk h)
theorem va {c:Nat} {x:Str} {spos:Pos} {k:Expr} (hN:X.N[i]?=some x) (hv:Vis X.env.scope x) (he:PE X e (tF K false ds ds1 c fe)) (hk:PE X k (tF K false ds1 ds2 d2 fk)) (h1:ds2[i]?=some d) (hz:d≠0) (hc:dn d=c)
  (hdb:(x == ("__debug__" : Str))=false) (hcd:(x == ("__classdict__" : Str))=false)
  (ha:∀ v,assign (.Subscript (.Name x px) k spos) X.env v=(do
   let ov ← holding [v] (eval (.Name x px) X.env)
   let iv ← holding [v,ov] (eval k X.env)
   standAt spos
   holding [v,ov,iv] (setItem ov iv v)
   release [v,ov,iv] []))
  (hs:swapsWithSole [.Subscript (.Name x px) k spos] e pos.line X.env=pure false) (hw:swappedStores [.Subscript (.Name x px) k spos] e X.env=pure none)
  (h2:(assignEach [.Subscript (.Name x px) k spos] X.env).map (·.2)=[assign (.Subscript (.Name x px) k spos) X.env]) :
  PS X (.Assign [.Subscript (.Name x px) k spos] e pos) (tFS K J ds ds2 (gk i fk fe)) :=
 (EK he (EN (jd hN hv hdb hcd) hk uD ha) hs hw h2).imp fun _ _ _=>BV h1 hz hc
theorem ve {x:Str} (hN:X.N.Nodup) (hi:X.N[i]?=some x) (hx:Loc X.env.scope x) (hds:ds.set i 0=ds') (hl:i < ds.length) (hk:i ∉ lk) (hf:X.fn x=true∨X.env.scope.names.lookup x=some .local) :
  PG X (.Name x pos) (tFG K lk ds ds' (gN i)):=by
 subst hds
 exact (Bt hN hi hx hf).imp fun _ _ _ _=>Cc hl hk
theorem vc:PGs X [] (gA K lk ds ds gs0):=pgs_nil.imp fun _ _ _ _=>Ca
theorem tZ (h1:PG X e (tFG K lk ds ds1 g)) (h2:PGs X es (gA K lk ds1 ds2 gs)) (hs:(assignEach (e :: es) X.env).map (·.2)=assign e X.env :: (assignEach es X.env).map (·.2)):PGs X (e :: es) (gA K lk ds ds2 (gsC g gs)):=(uI h1 h2 hs).imp fun _ _ _ _=>vd
theorem kY {g1 g2:MG}:∀ ts en,(∃ en',gsC g1 (gsC g2 gs0) ts en=some en')→ts.length=2:=fun ts en ⟨en',h⟩=>by
 match ts,h with
 | [],h=>cases h
 | [_],h =>
  obtain ⟨_,_,h⟩:=Option.bind_eq_some_iff.mp h
  cases h
 | [_,_],_=>rfl
 | a :: b :: c :: r,h =>
  obtain ⟨_,_,h⟩:=Option.bind_eq_some_iff.mp h
  obtain ⟨_,_,h⟩:=Option.bind_eq_some_iff.mp h
  cases h
theorem Cb {k n:Nat} (hK:X.K=K) (hc:X.calm=true) (h:PGs X es (gA K lk ds ds1 gs)) (hl:∀ ts en,(∃ en',gs ts en=some en')→ts.length=n) (hn:(assignEach es X.env).length=n) (hst:(assignEach es X.env).findIdx? (·.1)=none) :
  PG X (.Tuple es k pos) (tFG K lk ds ds1 (gT gs)):=by
 subst hK
 exact (EM hc h hn hst).imp fun _ _ _ _=>FN hl
theorem BZ (hc:X.calm=true) (hi:PI X tg iter (tFI K false ds ds1 fi)) (hg:PG X tg (tFG K J.lk ds1 ds2 g)) (hb:PSs X body (tFS K { J with dsl:=ds1 } ds2 ds1 m)) (hp:PassesOwn (model X.prog X.w) X.A X.env X.xe)
  (hs:∀ x,foldedSetIterable iter X.env x=pure x):PS X (.For tg iter body [] pos) (tFS K J ds ds1 (eg fi g m)):=(EJ hp hc hi hg hb hs).imp fun _ _ _=>FD
end
def AW:D→Option (List D)
 | .list ts=>some ts
 | .tuple ts=>some ts
 | .str z=>some ((li z).map fun c=>.str (mk1 c))
 | _=>none
def bX (f:ME):MI:=fun en=>(f en).bind fun r=>(AW r.1).map fun ts=>(ts,r.2)
section
variable {K:PySem.W.Frag} {O O1:AS} {H0 H:Hp} {ts:List D} {vs:List V} {a:Addr} {F:AS}
theorem fq {O O1:AS} (h1:∀ a o,H0 a=some o→¬ O a→H a=some o) (h2:∀ a,O1 a→O a∨H0 a=none):Mv O O1 NoA H0 H:=⟨fun a o q z=>z.elim (h1 a o q) fun z=>z.elim,h2⟩
theorem sA (h:FzL K O H0 a vs) (ho:Ows K O H0 ts 0 vs NoA):kC K O H0 (Itl K a) ts:=fun i H O1 h1 h2 h3=>by
 have sq:=(h.mv (fq h1 h2)).sq
 refine ⟨fun t ht=>?_,fun hl=>⟨vs,sq,by rw [ho.len]; omega⟩⟩
 obtain ⟨v,hv,ov⟩:=ho.get ht
 refine ⟨⟨vs,v,sq,hv⟩,fun x H1 ⟨e,y⟩=>?_⟩
 subst e
 have e2:=y vs sq
 rw [hv] at e2
 cases e2
 exact ⟨fun _ _ q=>q,Ow.mv (fq h1 h2) t (fun _ z=>z) ov⟩
theorem ux (h:FzT K O H0 a vs) (ho:Ows K O H0 ts 0 vs NoA):kC K O H0 (Itt K a) ts:=fun i H O1 h1 h2 h3=>by
 have sq:=(h.mv (fq h1 h2)).sq
 refine ⟨fun t ht=>?_,fun hl=>⟨vs,sq,by rw [ho.len]; omega⟩⟩
 obtain ⟨v,hv,ov⟩:=ho.get ht
 refine ⟨⟨vs,v,sq,hv⟩,fun x H1 ⟨e,y⟩=>?_⟩
 subst e
 have e2:=y vs sq
 rw [hv] at e2
 cases e2
 exact ⟨fun _ _ q=>q,Ow.mv (fq h1 h2) t (fun _ z=>z) ov⟩
theorem uy {z:Str}:kC K O H0 (Its z) ((li z).map fun c=>.str (mk1 c)):=fun i H O1 h1 h2 h3=>by
 refine ⟨fun t ht=>?_,fun hl=>?_⟩
 ·rw [List.getElem?_map] at ht
  obtain ⟨c,hc,e⟩:=Option.map_eq_some_iff.mp ht
  have hi:i < z.cps.size:=by
   have:=(List.getElem?_eq_some_iff.mp hc).1
   simpa [li] using this
  have hc':z.cps[i]?=some c:=by
   have:z.cps.toList[i]?=some c:=hc
   simpa using this
  refine ⟨hi,fun x H1 ⟨e1,c',e2,e3⟩=>?_⟩
  subst e1 e e3
  rw [hc'] at e2
  cases e2
  exact ⟨fun _ _ q=>q,rfl⟩
 ·have:z.cps.size=i:=by
   rw [List.length_map] at hl
   simpa [li] using hl
  show z.cps.size≤i
  omega
theorem uz {lo:Int} {n:Nat}:kC K O H0 (Itr lo n) ((List.range n).map fun k=>.int (lo+(k:Nat))):=fun i H O1 h1 h2 h3=>by
 refine ⟨fun t ht=>?_,fun hl=>?_⟩
 ·rw [List.getElem?_map] at ht
  obtain ⟨c,hc,e⟩:=Option.map_eq_some_iff.mp ht
  have hi:=(List.getElem?_eq_some_iff.mp hc).1
  rw [List.length_range] at hi
  rw [List.getElem?_range hi] at hc
  cases hc
  refine ⟨hi,fun x H1 ⟨e1,e2⟩=>?_⟩
  subst e1 e e2
  exact ⟨fun _ _ q=>q,rfl⟩
 ·rw [List.length_map,List.length_range] at hl
  show n≤i
  omega
theorem qN {t:D} {v:V} {i:Nat} {p:Addr} (hp:H p=none) (h3:∀ a,O1 a→∃ o,H a=some o) (ov:Ow K O1 H t 0 v NoA):(∀ a o,H a=some o→upd H p (.tup [.int i,v]) a=some o)∧Ow K O1 (upd H p (.tup [.int (i:Nat),v])) (.tuple [.int i,t]) 0 (.ref p) NoA:=by
 have g:=(cr (o:=.tup [.int i,v]) hp).1
 refine ⟨g,p,[.int i,v],rfl,.inl ⟨rfl,⟨br,fun z=>?_⟩,.int i,[v],NoA,NoA,rfl,fun _ z=>z,fun _ z=>z,fun _ z=>z.elim,rfl,v,[],NoA,NoA,rfl,fun _ z=>z,fun _ z=>z,fun _ z=>z.elim,?_,rfl⟩⟩
 ·obtain ⟨o,q⟩:=h3 p z
  rw [hp] at q
  cases q
 ·exact Ow.mv (G:=NoA) ⟨fun a o q _=>g a o q,fun a z=>.inl z⟩ t (fun _ z=>z) ov
def eF (ts:List D):List D:=ts.zipIdx.map fun p=>.tuple [.int (p.2:Nat),p.1]
theorem oz {i:Nat} {u:D} (h:(eF ts)[i]?=some u):∃ t,ts[i]?=some t∧u=.tuple [.int (i:Nat),t]:=by
 unfold eF at h
 rw [List.getElem?_map] at h
 obtain ⟨⟨t,k⟩,h1,h2⟩:=Option.map_eq_some_iff.mp h
 rw [List.getElem?_zipIdx] at h1
 obtain ⟨t',h3,h4⟩:=Option.map_eq_some_iff.mp h1
 cases h4
 refine ⟨t,h3,?_⟩
 rw [← h2,Nat.zero_add]
theorem ou:(eF ts).length=ts.length:=by unfold eF; rw [List.length_map,List.length_zipIdx]
theorem sB (h:FzL K O H0 a vs) (ho:Ows K O H0 ts 0 vs NoA):kC K O H0 (Ite K a) (eF ts):=fun i H O1 h1 h2 h3=>by
 have sq:=(h.mv (fq h1 h2)).sq
 refine ⟨fun u hu=>?_,fun hl=>⟨vs,sq,by rw [ou] at hl; rw [ho.len]; omega⟩⟩
 obtain ⟨t,ht,rfl⟩:=oz hu
 obtain ⟨v,hv,ov⟩:=ho.get ht
 refine ⟨⟨vs,v,sq,hv⟩,fun x H1 ⟨p,v',e1,hp,e2,y⟩=>?_⟩
 have e3:=y vs sq
 rw [hv] at e3
 cases e3
 subst e1 e2
 exact qN hp h3 (Ow.mv (fq h1 h2) t (fun _ z=>z) ov)
theorem rj (h:FzT K O H0 a vs) (ho:Ows K O H0 ts 0 vs NoA):kC K O H0 (ItT K a) (eF ts):=fun i H O1 h1 h2 h3=>by
 have sq:=(h.mv (fq h1 h2)).sq
 refine ⟨fun u hu=>?_,fun hl=>⟨vs,sq,by rw [ou] at hl; rw [ho.len]; omega⟩⟩
 obtain ⟨t,ht,rfl⟩:=oz hu
 obtain ⟨v,hv,ov⟩:=ho.get ht
 refine ⟨⟨vs,v,sq,hv⟩,fun x H1 ⟨p,v',e1,hp,e2,y⟩=>?_⟩
 have e3:=y vs sq
 rw [hv] at e3
 cases e3
 subst e1 e2
 exact qN hp h3 (Ow.mv (fq h1 h2) t (fun _ z=>z) ov)
end
def dI (fa:MA):MI:=fun en=>(fa en).bind fun r=>match r.1 with
 | [.inl (.int j)]=>if -(2 ^ 62)≤j∧j < 2 ^ 62 then some ((List.range j.toNat).map fun k=>.int (0+(k:Nat)),r.2) else none
 | _=>none
def HK (fa:MA):MI:=fun en=>(fa en).bind fun r=>match r.1 with
 | [.inl (.int i),.inl (.int j)]=>if -(2 ^ 62)≤i∧i < 2 ^ 62∧-(2 ^ 62)≤j∧j < 2 ^ 62 then some ((List.range (j - i).toNat).map fun k=>.int (i+(k:Nat)),r.2) else none
 | _=>none
def kw (fa:MA):MI:=fun en=>(fa en).bind fun r=>match r.1 with
 | [.inl (.list ts)]=>some (eF ts,r.2)
 | [.inl (.tuple ts)]=>some (eF ts,r.2)
 | _=>none
section
variable {X:Cx} {K:PySem.W.Frag} {p:Bool} {ds ds1:List Nat} {d:Nat} {e tg l:Expr} {f:ME} {fa:MA} {sh:Sh}
theorem FM (hK:X.K=K) (hl:PE X l (tF K p ds ds1 d f)):PI X tg l (tFI K p ds ds1 (bX f)):=by
 subst hK
 intro pins s σ H R I h
 obtain ⟨Ox,en,Rg,ts,en',e,hf,k⟩:=h
 unfold bX at hf
 obtain ⟨⟨t,en1⟩,h1,hf⟩:=Option.bind_eq_some_iff.mp hf
 obtain ⟨ts',h2,hf⟩:=Option.map_eq_some_iff.mp hf
 cases hf
 refine thn (hl pins s σ H (fun v H1=>∃ R1,Post X.K p ds1 Ox σ H en Rg en1 H1 R1 NoA∧Ow X.K (Own R1 Ox) H1 t 0 v NoA) I ⟨Ox,en,Rg,t,en1,e,h1,fun v H1 R1 F P o=>⟨R1,P.less fun _ z=>z.elim,Ow.letgo P (fun _ z=>z) o⟩⟩) fun v s1 ⟨x,H1,I1,r1,R1,P,o⟩=>?_
 cases t with
 | list ts0 =>
  cases h2
  obtain ⟨a,vs,e1,⟨_,fz,ow⟩ | ⟨z,_⟩⟩:=o
  ·subst e1
   cases r1
   obtain ⟨its,rv,pl,hz⟩:=I1.list fz.sq
   refine wpAny_pyIter_list pl.isList ?_
   refine ⟨s1.heap.objs.size,[s1.heap.objs.size],_,_,H1,rfl,I1.kept (t':=s1.toks) fun b o e=>Heap.get?_push_of_some _ e,sE a _,⟨_,Heap.get?_push_size _ rfl,rfl,rfl⟩,fun b hb=>?_,k _ H1 R1 P (sA fz ow)⟩
   have e:b=s1.heap.objs.size:=by simpa using hb
   subst e
   exact I1.fpOk (Nat.le_refl _) (I1.hok.fresh (Nat.le_refl _))
  ·exact absurd rfl z
 | tuple ts0 =>
  cases h2
  obtain ⟨a,vs,e1,⟨_,fz,ow⟩ | ⟨z,_⟩⟩:=o
  ·subst e1
   cases r1
   obtain ⟨its,rv,pl,hz⟩:=I1.tuple fz.sq
   refine wpAny_pyIter_tuple (show s1.heap.IsTuple a its.toArray from pl) ?_
   refine ⟨s1.heap.objs.size,[s1.heap.objs.size],_,_,H1,rfl,I1.kept (t':=s1.toks) fun b o e=>Heap.get?_push_of_some _ e,rl a _,⟨_,Heap.get?_push_size _ rfl,rfl,rfl⟩,fun b hb=>?_,k _ H1 R1 P (ux fz ow)⟩
   have e:b=s1.heap.objs.size:=by simpa using hb
   subst e
   exact I1.fpOk (Nat.le_refl _) (I1.hok.fresh (Nat.le_refl _))
  ·exact absurd rfl z
 | str z =>
  cases h2
  have e1:x=.str z:=o
  subst e1
  obtain ⟨t,rfl⟩:=r1
  have fin:∀ (ty:String) (o:Obj),(ty="str_ascii_iterator"∨ty="str_iterator")→(s1.heap.push o).IsStrIter s1.heap.objs.size ty z t 0→PIE X pins σ tg R (.ref s1.heap.objs.size) { s1 with heap:=s1.heap.push o }:=fun ty o hty st=>by
   refine ⟨s1.heap.objs.size,[s1.heap.objs.size],_,_,H1,rfl,I1.kept (t':=s1.toks) fun b o e=>Heap.get?_push_of_some _ e,uA _ z t ty hty,st,fun b hb=>?_,k _ H1 R1 P uy⟩
   have e:b=s1.heap.objs.size:=by simpa using hb
   subst e
   exact I1.fpOk (Nat.le_refl _) (I1.hok.fresh (Nat.le_refl _))
  cases ha:z.cps.all (· < 128)
  ·exact wpAny_pyIter_wide ha (fin _ _ (.inr rfl) ⟨_,Heap.get?_push_size _ rfl,rfl,rfl⟩)
  ·exact wpAny_pyIter_ascii ha (fin _ _ (.inl rfl) ⟨_,Heap.get?_push_size _ rfl,rfl,rfl⟩)
 | _=>cases h2
theorem B8 {a:Expr} {px pos:Pos} (hg:Gl X "range") (hm:X.mg "range"=none) (ha:PA X [a] (tFA K p ds ds1 sh fa)) (hs:be a=true):PI X tg (.Call (.Name "range" px) [a] [] pos) (tFI K p ds ds1 (dI fa)) :=
 (sR hg hm ha (bR hs)).imp fun σ H R ⟨Ox,en,Rg,ts,en',e,hf,k⟩=>by
  unfold dI at hf
  obtain ⟨⟨as,en1⟩,h1,hf⟩:=Option.bind_eq_some_iff.mp hf
  refine ⟨Ox,en,Rg,as,en1,e,h1,fun vs H1 R1 F P o=>?_⟩
  dsimp only at hf
  split at hf
  case h_2=>cases hf
  next j =>
  by_cases hj:-(2 ^ 62)≤j∧j < 2 ^ 62
  case neg=>rw [if_neg hj] at hf; cases hf
  rw [if_pos hj] at hf
  cases hf
  obtain ⟨v,r,d,dr,F1,F2,e1,e2,_,_,_,o1,o2⟩:=o
  obtain ⟨_,o2⟩:=o2
  subst e1 o2
  have ev:v=.int j:=o1
  subst ev
  exact ⟨j,rfl,hj.1,hj.2,k _ H1 R1 (P.less fun _ z=>z.elim) uz⟩
theorem B9 {px pos:Pos} {elts:List Expr} {k:Nat} {tp:Pos} (hK:X.K=K) (hg:Gl X "enumerate") (hm:X.mg "enumerate"=none) (ha:PA X [l] (tFA K p ds ds1 sh fa)) (hs:starEach [l] X.env=[(false,eval l X.env)]) :
  PI X (.Tuple elts k tp) (.Call (.Name "enumerate" px) [l] [] pos) (tFI K p ds ds1 (kw fa)):=by
 subst hK
 intro pins s σ H R I h
 obtain ⟨Ox,en,Rg,ts,en',e,hf,k⟩:=h
 unfold kw at hf
 obtain ⟨⟨as,en1⟩,h1,hf⟩:=Option.bind_eq_some_iff.mp hf
 refine Call_ (jh I hg hm boot_enumerate (PyProof.Rows.callWith_type1 (thn (ha pos pins s σ H (fun vs H1=>∃ R1 t v,as=[.inl t]∧vs=[v]∧Post X.K p ds1 Ox σ H en Rg en1 H1 R1 NoA∧Ow X.K (Own R1 Ox) H1 t 0 v NoA) I ⟨Ox,en,Rg,as,en1,e,h1,fun vs H1 R1 F P o=>?_⟩) fun us s1 ⟨vs,H1,I1,r1,R1,t,v,ea,ev,P,o⟩=>?_) hs rfl))
 ·have one:∃ t,as=[.inl t]:=by
   dsimp only at hf
   split at hf
   ·exact ⟨_,rfl⟩
   ·exact ⟨_,rfl⟩
   ·cases hf
  obtain ⟨t,rfl⟩:=one
  obtain ⟨v,r,d,dr,F1,F2,e1,e2,s1,_,_,o1,o2⟩:=o
  obtain ⟨_,o2⟩:=o2
  subst o2
  exact ⟨R1,t,v,rfl,e1,P.less fun _ z=>z.elim,Ow.letgo P s1 o1⟩
 subst ea ev
 obtain ⟨u,rfl,ru⟩:=dB r1
 cases t with
 | list ts0 =>
  cases hf
  obtain ⟨a,vs,e1,⟨_,fz,ow⟩ | ⟨z,_⟩⟩:=o
  ·subst e1
   cases ru
   obtain ⟨its,rv,pl,hz⟩:=I1.list fz.sq
   refine call_enumerate_list pl.isList fun h' hE hI hsz hk=>?_
   refine wpAny_pyIter_enum hE ?_
   have I2:Inv X pins σ H1 { s1 with heap:=h' }:=I1.kept (t':=s1.toks) hk
   refine ⟨s1.heap.objs.size+1,[s1.heap.objs.size+1,s1.heap.objs.size],_,_,H1,rfl,I2,sF a _ _ (Nat.succ_ne_self _),⟨⟨_,hE⟩,hI⟩,fun b hb=>?_,k _ H1 R1 P (sB fz ow)⟩
   have hb':b=s1.heap.objs.size+1∨b=s1.heap.objs.size:=by simpa using hb
   rcases hb' with rfl | rfl
   ·exact I1.fpOk (Nat.le_succ _) (I1.hok.fresh (Nat.le_succ _))
   ·exact I1.fpOk (Nat.le_refl _) (I1.hok.fresh (Nat.le_refl _))
  ·exact absurd rfl z
 | tuple ts0 =>
  cases hf
  obtain ⟨a,vs,e1,⟨_,fz,ow⟩ | ⟨z,_⟩⟩:=o
  ·subst e1
   cases ru
   obtain ⟨its,rv,pt,hz⟩:=I1.tuple fz.sq
   have hT:s1.heap.IsTuple a its.toArray:=pt
   have hlt:a < s1.heap.objs.size:=by
    obtain ⟨o,e1,_⟩:=id hT
    exact Heap.lt_size e1
   refine oY hT fun h' hE hI hsz hk=>?_
   refine wpAny_pyIter_enum hE ?_
   have I2:Inv X pins σ H1 { s1 with heap:=h' }:=I1.kept (t':=s1.toks) hk
   refine ⟨s1.heap.objs.size+1,[s1.heap.objs.size+1,s1.heap.objs.size],_,_,H1,rfl,I2,rn a _ _ (Nat.succ_ne_self _) (Nat.ne_of_lt hlt),⟨⟨_,hE⟩,hI⟩,fun b hb=>?_,k _ H1 R1 P (rj fz ow)⟩
   have hb':b=s1.heap.objs.size+1∨b=s1.heap.objs.size:=by simpa using hb
   rcases hb' with rfl | rfl
   ·exact I1.fpOk (Nat.le_succ _) (I1.hok.fresh (Nat.le_succ _))
   ·exact I1.fpOk (Nat.le_refl _) (I1.hok.fresh (Nat.le_refl _))
  ·exact absurd rfl z
 | _=>cases hf
end
end L2
namespace L2
open PySem PySem.Spec PyProof.Rows
theorem NewTo.refl {H:Hp}:NewTo H H NoA:=⟨fun _ _ q=>q,fun _ z=>z.elim⟩
theorem OpR.imp {X:Cx} {fn:Value→Value→Sem Value} {r r':R2} (h:OpR X fn r) (hi:∀ x y H Q,r' x y H Q→r x y H Q):OpR X fn r':=fun pins s σ H x y v u Q I rx ry q=>h pins s σ H x y v u Q I rx ry (hi _ _ _ _ q)
theorem OpR.or' {X:Cx} {fn:Value→Value→Sem Value} {r r':R2} (h:OpR X fn r) (h':OpR X fn r'):OpR X fn (fun x y H Q=>r x y H Q∨r' x y H Q):=fun pins s σ H x y v u Q I rx ry q=>q.elim (h pins s σ H x y v u Q I rx ry) (h' pins s σ H x y v u Q I rx ry)
theorem UnR.imp {X:Cx} {fn:Value→Sem Value} {r r':V→Hp→VK→Prop} (h:UnR X fn r) (hi:∀ x H Q,r' x H Q→r x H Q):UnR X fn r':=fun pins s σ H x v Q I rx q=>h pins s σ H x v Q I rx (hi _ _ _ q)
theorem CallR.imp {X:Cx} {fn:Value} {r r':List V→Hp→VK→Prop} (h:CallR X fn r) (hi:∀ x H Q,r' x H Q→r x H Q):CallR X fn r':=fun pins s σ H x v Q I rx q=>h pins s σ H x v Q I rx (hi _ _ _ q)
theorem CallR.or' {X:Cx} {fn:Value} {r r':List V→Hp→VK→Prop} (h:CallR X fn r) (h':CallR X fn r'):CallR X fn (fun x H Q=>r x H Q∨r' x H Q):=fun pins s σ H x v Q I rx q=>q.elim (h pins s σ H x v Q I rx) (h' pins s σ H x v Q I rx)
theorem IxR.imp {X:Cx} {r r':R2} (h:IxR X r) (hi:∀ x y H Q,r' x y H Q→r x y H Q):IxR X r':=fun value slice pins s σ H x y v u Q I rx ry q=>h value slice pins s σ H x y v u Q I rx ry (hi _ _ _ _ q)
section
variable {X:Cx} {K:PySem.W.Frag} {O:AS} {H:Hp} {ts us:List D} {vs ws:List V} {x y:V} {d:Nat} {Q:VK}
theorem df {l:Addr} (hl:H l=none) (hd:∀ a,O a→∃ o,H a=some o) (h:Ows K O H ts 0 vs NoA):NewTo H (upd H l (.lst vs)) (fun b=>b=l)∧Ow K (U (fun b=>b=l) O) (upd H l (.lst vs)) (.list ts) 1 (.ref l) (fun b=>b=l):=by
 refine ⟨cr hl,l,vs,rfl,.inr ⟨by decide,br,rfl,NoA,fun _ z=>z.elim,?_⟩⟩
 refine Ows.mv (G:=NoA) ⟨fun a o q _=>(cr (o:=.lst vs) hl).1 a o q,fun a z=>?_⟩ ts (fun _ z=>z) h
 rcases z with z | z
 ·exact .inr (by rw [show a=l from z]; exact hl)
 ·exact .inl z
theorem kW {l:Addr} (hl:H l=none) (hd:∀ a,O a→∃ o,H a=some o) (h:Ows K O H ts 0 vs NoA):NewTo H (upd H l (.tup vs)) NoA∧Ow K (U NoA O) (upd H l (.tup vs)) (.tuple ts) 0 (.ref l) NoA:=by
 refine ⟨⟨(cr hl).1,fun _ z=>z.elim⟩,l,vs,rfl,.inl ⟨rfl,⟨br,fun z=>?_⟩,?_⟩⟩
 ·rcases z with z | z
  ·exact z
  ·obtain ⟨o,q⟩:=hd l z
   rw [hl] at q
   cases q
 ·refine Ows.mv (G:=NoA) ⟨fun a o q _=>(cr (o:=.tup vs) hl).1 a o q,fun a z=>?_⟩ ts (fun _ z=>z) h
  rcases z with z | z
  ·exact z.elim
  ·exact .inl z
theorem Ows.app:∀ {ts:List D} {vs:List V},Ows K O H ts 0 vs NoA→Ows K O H us 0 ws NoA→Ows K O H (ts++us) 0 (vs++ws) NoA
 | [],_,h,h2=>by rw [show _=[] from h]; exact h2
 | t :: ts,_,h,h2=>by
  obtain ⟨v,r,F1,F2,e,_,_,_,h4,h5⟩:=h
  subst e
  exact ⟨v,r++ws,NoA,NoA,rfl,fun _ z=>z,fun _ z=>z,fun _ z=>z.elim,Ow.any0 t h4,Ows.app (Ows.any0 ts h5) h2⟩
theorem Ows.drop:∀ {ts:List D} {vs:List V} (n:Nat),Ows K O H ts 0 vs NoA→Ows K O H (ts.drop n) 0 (vs.drop n) NoA
 | ts,vs,0,h=>h
 | [],_,n+1,h=>by rw [show _=[] from h]; rfl
 | t :: ts,_,n+1,h=>by
  obtain ⟨v,r,F1,F2,e,_,_,_,h4,h5⟩:=h
  subst e
  exact Ows.drop n (Ows.any0 ts h5)
theorem Ows.take:∀ {ts:List D} {vs:List V} (n:Nat),Ows K O H ts 0 vs NoA→Ows K O H (ts.take n) 0 (vs.take n) NoA
 | ts,vs,0,h=>rfl
 | [],_,n+1,h=>by rw [show _=[] from h]; rfl
 | t :: ts,_,n+1,h=>by
  obtain ⟨v,r,F1,F2,e,_,_,_,h4,h5⟩:=h
  subst e
  exact ⟨v,r.take n,NoA,NoA,rfl,fun _ z=>z,fun _ z=>z,fun _ z=>z.elim,Ow.any0 t h4,Ows.take n (Ows.any0 ts h5)⟩
theorem Ow.lst0 {v:V} (h:Ow K O H (.list ts) 0 v NoA):∃ a vs,v=.ref a∧FzL K O H a vs∧Ows K O H ts 0 vs NoA:=by
 obtain ⟨a,vs,e,⟨_,h1,h2⟩ | ⟨z,_⟩⟩:=h
 ·exact ⟨a,vs,e,h1,h2⟩
 ·exact absurd rfl z
theorem Ow.tup0 {v:V} (h:Ow K O H (.tuple ts) 0 v NoA):∃ a vs,v=.ref a∧FzT K O H a vs∧Ows K O H ts 0 vs NoA:=by
 obtain ⟨a,vs,e,⟨_,h1,h2⟩ | ⟨z,_⟩⟩:=h
 ·exact ⟨a,vs,e,h1,h2⟩
 ·exact absurd rfl z
theorem Ows.one {t:D} (h:Ows K O H [t] 0 vs NoA):∃ v,vs=[v]∧Ow K O H t 0 v NoA:=by
 obtain ⟨v,r,F1,F2,e,_,_,_,h4,h5⟩:=h
 rw [show r=[] from h5] at e
 exact ⟨v,e,Ow.any0 t h4⟩
theorem Ows.two {t t2:D} (h:Ows K O H [t,t2] 0 vs NoA):∃ v w,vs=[v,w]∧Ow K O H t 0 v NoA∧Ow K O H t2 0 w NoA:=by
 obtain ⟨v,r,F1,F2,e,_,_,_,h4,h5⟩:=h
 obtain ⟨w,e2,h6⟩:=Ows.one (Ows.any0 [t2] h5)
 subst e2
 exact ⟨v,w,e,Ow.any0 t h4,h6⟩
def bA:D→D→Option D
 | .int a,.int b=>some (.int (a+b))
 | .str a,.str b=>if a.length+b.length≤sizeLine then some (.str (a++b)) else none
 | _,_=>none
theorem bm:OpR X (binaryOp .Add) (rF2 K bA 3):=(op_add.or' rJ).imp fun x y H Q ⟨O,a,b,t,oa,ob,hd,hg,k⟩=>by
 cases a with
 | int i=>cases b with
  | int j=>cases hg; exact .inl ⟨i,j,oa,ob,k _ H NoA .refl rfl⟩
  | _=>cases hg
 | str i=>cases b with
  | str j =>
   dsimp only [bA] at hg
   by_cases hl:i.length+j.length≤sizeLine
   ·rw [if_pos hl] at hg; cases hg; exact .inr ⟨i,j,oa,ob,hl,k _ H NoA .refl rfl⟩
   ·rw [if_neg hl] at hg; cases hg
  | _=>cases hg
 | _=>cases hg
def iU (g:Int→Int→Option D):D→D→Option D
 | .int a,.int b=>g a b
 | _,_=>none
theorem dC {g:Int→Int→Option D} {a b t:D} (h:iU g a b=some t):∃ i j,a=.int i∧b=.int j∧g i j=some t:=by
 cases a with
 | int i=>cases b with
  | int j=>exact ⟨i,j,rfl,rfl,h⟩
  | _=>cases h
 | _=>cases h
def h8:D→D→Option D:=iU fun a b=>some (.int (a - b))
theorem ji:OpR X (binaryOp .Sub) (rF2 K h8 3):=op_sub.imp fun x y H Q ⟨O,a,b,t,oa,ob,hd,hg,k⟩=>by
 obtain ⟨i,j,rfl,rfl,h⟩:=dC hg
 cases h
 exact ⟨i,j,oa,ob,k _ H NoA .refl rfl⟩
instance (i j:Int):Decidable (CMul i j):=by unfold CMul; exact inferInstance
instance (i j:Int):Decidable (j4 i j):=by unfold j4; exact inferInstance
instance (i j:Int):Decidable (kO i j):=by unfold kO; exact inferInstance
def dg:D→D→Option D:=iU fun a b=>if CMul a b then some (.int (a * b)) else none
theorem fA:OpR X (binaryOp .Mult) (rF2 K dg 3):=op_mul.imp fun x y H Q ⟨O,a,b,t,oa,ob,hd,hg,k⟩=>by
 obtain ⟨i,j,rfl,rfl,h⟩:=dC hg
 by_cases hc:CMul i j
 ·rw [if_pos hc] at h; cases h; exact ⟨i,j,oa,ob,hc,k _ H NoA .refl rfl⟩
 ·rw [if_neg hc] at h; cases h
def gl:D→D→Option D:=iU fun a b=>if j4 a b then some (.int (a / b)) else none
theorem nL:OpR X (binaryOp .FloorDiv) (rF2 K gl 3):=op_fdiv.imp fun x y H Q ⟨O,a,b,t,oa,ob,hd,hg,k⟩=>by
 obtain ⟨i,j,rfl,rfl,h⟩:=dC hg
 by_cases hc:j4 i j
 ·rw [if_pos hc] at h; cases h; exact ⟨i,j,oa,ob,hc,k _ H NoA .refl rfl⟩
 ·rw [if_neg hc] at h; cases h
def dh:D→D→Option D:=iU fun a b=>if 0 < b then some (.int (a % b)) else none
theorem ii:OpR X (binaryOp .Mod) (rF2 K dh 3):=op_mod.imp fun x y H Q ⟨O,a,b,t,oa,ob,hd,hg,k⟩=>by
 obtain ⟨i,j,rfl,rfl,h⟩:=dC hg
 by_cases hc:0 < j
 ·rw [if_pos hc] at h; cases h; exact ⟨i,j,oa,ob,hc,k _ H NoA .refl rfl⟩
 ·rw [if_neg hc] at h; cases h
def pB:D→D→Option D:=iU fun a b=>if kO a b then some (.int (a ^ b.toNat)) else none
theorem FH:OpR X (binaryOp .Pow) (rF2 K pB 3):=op_pow.imp fun x y H Q ⟨O,a,b,t,oa,ob,hd,hg,k⟩=>by
 obtain ⟨i,j,rfl,rfl,h⟩:=dC hg
 by_cases hc:kO i j
 ·rw [if_pos hc] at h; cases h; exact ⟨i,j,oa,ob,hc,k _ H NoA .refl rfl⟩
 ·rw [if_neg hc] at h; cases h
def ltI:D→D→Option D:=iU fun a b=>some (.bool (decide (a < b)))
def leI:D→D→Option D:=iU fun a b=>some (.bool (decide (a≤b)))
def gtI:D→D→Option D:=iU fun a b=>some (.bool (decide (b < a)))
def geI:D→D→Option D:=iU fun a b=>some (.bool (decide (b≤a)))
theorem GN:OpR X (compareOp .Lt) (rF2 K ltI 3):=op_lt.imp fun x y H Q ⟨O,a,b,t,oa,ob,hd,hg,k⟩=>by
 obtain ⟨i,j,rfl,rfl,h⟩:=dC hg
 cases h
 exact ⟨i,j,oa,ob,k _ H NoA .refl rfl⟩
theorem cW:OpR X (compareOp .LtE) (rF2 K leI 3):=op_le.imp fun x y H Q ⟨O,a,b,t,oa,ob,hd,hg,k⟩=>by
 obtain ⟨i,j,rfl,rfl,h⟩:=dC hg
 cases h
 exact ⟨i,j,oa,ob,k _ H NoA .refl rfl⟩
theorem mV:OpR X (compareOp .Gt) (rF2 K gtI 3):=op_gt.imp fun x y H Q ⟨O,a,b,t,oa,ob,hd,hg,k⟩=>by
 obtain ⟨i,j,rfl,rfl,h⟩:=dC hg
 cases h
 exact ⟨i,j,oa,ob,k _ H NoA .refl rfl⟩
theorem Bd:OpR X (compareOp .GtE) (rF2 K geI 3):=op_ge.imp fun x y H Q ⟨O,a,b,t,oa,ob,hd,hg,k⟩=>by
 obtain ⟨i,j,rfl,rfl,h⟩:=dC hg
 cases h
 exact ⟨i,j,oa,ob,k _ H NoA .refl rfl⟩
def nI:D→Bool
 | .none=>true
 | _=>false
theorem u5 {a:D} {F:AS} (h:Ow K O H a d x F):decide (x=.non)=nI a:=by
 cases a with
 | none=>rw [show x=.non from h]; rfl
 | bool b=>rw [show x=.bl b from h]; rfl
 | int b=>rw [show x=.int b from h]; rfl
 | str b=>rw [show x=.str b from h]; rfl
 | list ts=>obtain ⟨a,vs,e,_⟩:=h; rw [e]; rfl
 | tuple ts=>obtain ⟨a,vs,e,_⟩:=h; rw [e]; rfl
 | dict ts=>obtain ⟨a,vs,e,_⟩:=h; rw [e]; rfl
def isN:D→D→Option D
 | a,.none=>some (.bool (nI a))
 | _,_=>none
def HY:D→D→Option D
 | a,.none=>some (.bool (!nI a))
 | _,_=>none
theorem pU:OpR X (compareOp .Is) (rF2 K isN 3):=op_isN.imp fun x y H Q ⟨O,a,b,t,oa,ob,hd,hg,k⟩=>by
 cases b with
 | none=>cases hg; exact ⟨ob,by rw [u5 oa]; exact k _ H NoA .refl rfl⟩
 | _=>cases hg
def se:D→D→Option D
 | .str a,.str b=>some (.bool (cm b a))
 | _,_=>none
def nB:D→D→Option D
 | .str a,.str b=>some (.bool (!cm b a))
 | _,_=>none
theorem tS:OpR X (compareOp .In) (rF2 K se 3):=op_inS.imp fun x y H Q ⟨O,a,b,t,oa,ob,hd,hg,k⟩=>by
 cases a with
 | str i=>cases b with
  | str j=>cases hg; exact ⟨i,j,oa,ob,k _ H NoA .refl rfl⟩
  | _=>cases hg
 | _=>cases hg
theorem tQ:OpR X (compareOp .NotIn) (rF2 K nB 3):=op_notInS.imp fun x y H Q ⟨O,a,b,t,oa,ob,hd,hg,k⟩=>by
 cases a with
 | str i=>cases b with
  | str j=>cases hg; exact ⟨i,j,oa,ob,k _ H NoA .refl rfl⟩
  | _=>cases hg
 | _=>cases hg
def ixA:D→D→Option D
 | .list ts,.int n=>atI ts n
 | .tuple ts,.int n=>atI ts n
 | .str z,.int n=>if z.length≤sizeLine then (atI z.cps.toList n).map fun c=>.str (mk1 c) else none
 | _,_=>none
theorem aF (hK:X.K=K):IxR X (rF2 K ixA 0):=by
 subst hK
 refine ix_seq.imp fun x y H Q ⟨O,a,b,t,oa,ob,hd,hg,k⟩=>?_
 cases b with
 | int n =>
  cases a with
  | list ts =>
   obtain ⟨a,vs,e,fz,ow⟩:=oa.lst0
   obtain ⟨v,h1,h2⟩:=ow.atI hg
   exact .inl ⟨a,vs,n,v,e,ob,fz.sq,h1,k v H NoA .refl (by rw [ij]; exact h2)⟩
  | tuple ts =>
   obtain ⟨a,vs,e,fz,ow⟩:=oa.tup0
   obtain ⟨v,h1,h2⟩:=ow.atI hg
   exact .inr (.inl ⟨a,vs,n,v,e,ob,fz.sq,h1,k v H NoA .refl (by rw [ij]; exact h2)⟩)
  | str z =>
   dsimp only [ixA] at hg
   by_cases hl:z.length≤sizeLine
   ·rw [if_pos hl] at hg
    obtain ⟨c,h1,h2⟩:=Option.map_eq_some_iff.mp hg
    cases h2
    exact .inr (.inr ⟨z,n,c,oa,ob,hl,h1,k _ H NoA .refl rfl⟩)
   ·rw [if_neg hl] at hg; cases hg
  | _=>cases hg
 | _=>cases a <;> cases hg
def ixT:D→D→Option D
 | .str z,.int n=>if z.length≤sizeLine then (atI z.cps.toList n).map fun c=>.str (mk1 c) else none
 | _,_=>none
theorem tR:IxR X (rF2 K ixT 3):=by
 refine ix_str.imp fun x y H Q ⟨O,a,b,t,oa,ob,hd,hg,k⟩=>?_
 cases a with
 | str z=>cases b with
  | int n =>
   dsimp only [ixT] at hg
   by_cases hl:z.length≤sizeLine
   ·rw [if_pos hl] at hg
    obtain ⟨c,h1,h2⟩:=Option.map_eq_some_iff.mp hg
    cases h2
    exact ⟨z,n,c,oa,ob,hl,h1,k _ H NoA .refl rfl⟩
   ·rw [if_neg hl] at hg; cases hg
  | _=>cases hg
 | _=>cases hg
def jN:D→D→Option D
 | .list a,.list b=>if a.length+b.length≤sizeLine then some (.list (a++b)) else none
 | _,_=>none
def Ih:D→D→Option D
 | .tuple a,.tuple b=>if a.length+b.length≤sizeLine then some (.tuple (a++b)) else none
 | _,_=>none
end
end L2
namespace L2
open PySem PySem.Spec PyProof.Rows
def grd {α:Type} (c:Prop) [Decidable c] (t:α):Option α:=if c then some t else none
theorem cK {α:Type} {c:Prop} [Decidable c] {t u:α} (h:grd c t=some u):c∧t=u:=by
 unfold grd at h
 by_cases hc:c
 ·rw [if_pos hc] at h; exact ⟨hc,Option.some.inj h⟩
 ·rw [if_neg hc] at h; cases h
section
variable {X:Cx} {K:PySem.W.Frag} {O:AS} {H:Hp} {ts us:List D} {vs ws:List V} {x y:V} {d:Nat} {Q:VK}
def Gx (K:PySem.W.Frag):R2:=fun x y H Q=>∃ l b xs zs,x=.ref l∧y=.ref b∧SqL K H l xs∧SqL K H b zs∧xs.length+zs.length≤sizeLine∧∀ p,H p=none→Q (.ref p) (upd H p (.lst (xs++zs)))
theorem op_catL:OpR X (binaryOp .Add) (Gx X.K):=by
 intro pins s σ H x y v u Q I rx ry h
 obtain ⟨l,b,xs,zs,rfl,rfl,hH,hB,hz,q⟩:=h
 cases rx
 cases ry
 obtain ⟨its,r,⟨⟨c1,dd,da1,sl⟩,n,ho,hc,hdd,hda⟩,_⟩:=I.list hH
 obtain ⟨its2,r2,⟨⟨c2,dd2,da2,sl2⟩,n2,ho2,hc2,hdd2,hda2⟩,_⟩:=I.list hB
 have hl:=r.length
 have hl2:=r2.length
 simp only at hc hda hc2 hda2
 subst hc hda hc2 hda2
 refine concat_meets ⟨_,ho,rfl⟩ ⟨_,ho2,rfl⟩ noFill_list_add seq_list_add PySem.F.slot_list_add PySem.F.entry_list_add (PySem.F.args_list_add_2 _ _) (list_addW l b its.toArray its2.toArray n n2 dd dd2 sl sl2 (by simp only [List.size_toArray]; omega)) ⟨ho,ho2,?_⟩
 have ea:its.toArray++its2.toArray=(its++its2).toArray:=by simp
 rw [ea]
 exact ⟨.ref _,_,I.lnew (t':=s.toks) (r.append r2) (by rw [List.length_append]; omega),rfl,q _ I.fresh⟩
theorem hU (hK:X.K=K):OpR X (binaryOp .Add) (rF2 K jN 1):=by
 subst hK
 refine op_catL.imp fun x y H Q ⟨O,a,b,t,oa,ob,hd,hg,k⟩=>?_
 cases a with
 | list ts=>cases b with
  | list us =>
   dsimp only [jN] at hg
   by_cases hl:ts.length+us.length≤sizeLine
   case neg=>rw [if_neg hl] at hg; cases hg
   rw [if_pos hl] at hg
   cases hg
   obtain ⟨a,vs,e1,f1,w1⟩:=oa.lst0
   obtain ⟨b,ws,e2,f2,w2⟩:=ob.lst0
   refine ⟨a,b,vs,ws,e1,e2,f1.sq,f2.sq,by rw [w1.len,w2.len]; exact hl,fun p hp=>?_⟩
   obtain ⟨n1,n2⟩:=df hp hd (w1.app w2)
   exact k _ _ _ n1 n2
  | _=>cases hg
 | _=>cases hg
def Ia:D→D→Option D
 | .list ts,.int k=>grd (-(2 ^ 63)≤k∧k < 2 ^ 63∧ts.length * k.toNat≤sizeLine) (.list (List.replicate k.toNat ts).flatten)
 | _,_=>none
def uO:D→D→Option D
 | .str z,.int k=>grd (z.length≤4000∧-(2 ^ 63)≤k∧k≤4000) (.str (Txt.mul z k))
 | _,_=>none
theorem B4:OpR X (binaryOp .Mult) (rF2 K uO 3):=op_mulS.imp fun x y H Q ⟨O,a,b,t,oa,ob,hd,hg,k⟩=>by
 cases a with
 | str z=>cases b with
  | int n =>
   obtain ⟨⟨c1,c2,c3⟩,rfl⟩:=cK hg
   exact ⟨z,n,oa,ob,c1,c2,c3,k _ H NoA .refl rfl⟩
  | _=>cases hg
 | _=>cases hg
def jB:D→Option D
 | .int i=>some (.int (-i))
 | _=>none
theorem ig:UnR X (unaryOp .USub) (rF1 K jB 3):=un_neg.imp fun x H Q ⟨O,a,t,oa,hd,hg,k⟩=>by
 cases a with
 | int i=>cases hg; exact ⟨i,oa,k _ H NoA .refl rfl⟩
 | _=>cases hg
def ba:List D→Option D
 | [.list ts]=>some (.int ts.length)
 | [.tuple ts]=>some (.int ts.length)
 | [.str z]=>grd (z.length≤sizeLine) (.int z.length)
 | _=>none
theorem aT (hK:X.K=K):CallR X (.builtin "len") (rFn K ba 3):=(Hu hK).imp fun xs H Q ⟨O,as,t,oa,hd,hg,k⟩=>by
 match as,hg with
 | [.list ts],hg =>
  cases hg
  obtain ⟨v,rfl,o⟩:=oa.one
  obtain ⟨a,vs,rfl,fz,w⟩:=o.lst0
  exact ⟨_,_,rfl,.inl ⟨vs,fz.sq,rfl⟩,by rw [w.len]; exact k _ H NoA .refl rfl⟩
 | [.tuple ts],hg =>
  cases hg
  obtain ⟨v,rfl,o⟩:=oa.one
  obtain ⟨a,vs,rfl,fz,w⟩:=o.tup0
  exact ⟨_,_,rfl,.inr ⟨vs,fz.sq,rfl⟩,by rw [w.len]; exact k _ H NoA .refl rfl⟩
 | [.str z],hg =>
  obtain ⟨c,rfl⟩:=cK hg
  obtain ⟨v,rfl,o⟩:=oa.one
  exact ⟨_,_,rfl,by rw [show v=.str z from o]; exact ⟨c,rfl⟩,k _ H NoA .refl rfl⟩
def lW:List D→Option D
 | [.int i]=>some (.int (if i < 0 then -i else i))
 | _=>none
theorem tT:CallR X (.builtin "abs") (rFn K lW 3):=call_abs.imp fun xs H Q ⟨O,as,t,oa,hd,hg,k⟩=>by
 match as,hg with
 | [.int i],hg =>
  cases hg
  obtain ⟨v,rfl,o⟩:=oa.one
  exact ⟨i,by rw [show v=.int i from o],k _ H NoA .refl rfl⟩
def HS:List D→Option D
 | [.int i,.int j]=>some (.int (if j > i then j else i))
 | _=>none
def o9:List D→Option D
 | [.int i,.int j]=>some (.int (if j < i then j else i))
 | _=>none
theorem qW (hc:X.calm=true):CallR X (.builtin "min") (rFn K o9 3):=(uj hc).imp fun xs H Q ⟨O,as,t,oa,hd,hg,k⟩=>by
 match as,hg with
 | [.int i,.int j],hg =>
  cases hg
  obtain ⟨v,w,rfl,o,o2⟩:=oa.two
  exact ⟨i,j,by rw [show v=.int i from o,show w=.int j from o2],k _ H NoA .refl rfl⟩
def Ib:List D→Option D
 | [.int i]=>some (.int i)
 | [.bool b]=>some (.int (if b then 1 else 0))
 | _=>none
def bv (z:Str):List D:=(li z).map fun c=>.str (mk1 c)
theorem pC {z:Str}:Ows K O H (bv z) 0 (eA z) NoA:=by
 unfold bv eA
 show Ows K O H ((li z).map fun c=>.str (mk1 c)) 0 ((li z).map sgn) NoA
 generalize li z=l
 induction l with
 | nil=>rfl
 | cons c r ih=>exact ⟨sgn c,r.map sgn,NoA,NoA,rfl,fun _ z=>z,fun _ z=>z,fun _ z=>z.elim,rfl,ih⟩
def jE:List D→Option D
 | [.list ts]=>some (.list ts)
 | [.tuple ts]=>some (.list ts)
 | [.str z]=>grd (z.cps.size≤sizeLine) (.list (bv z))
 | _=>none
theorem qX (hK:X.K=K) (hc:X.calm=true):CallR X (.type "list") (rFn K jE 1):=((BJ hK).or' (nO hc)).imp fun xs H Q ⟨O,as,t,oa,hd,hg,k⟩=>by
 match as,hg with
 | [.list ts],hg =>
  cases hg
  obtain ⟨v,rfl,o⟩:=oa.one
  obtain ⟨a,vs,rfl,fz,w⟩:=o.lst0
  exact .inl ⟨a,vs,rfl,.inl fz.sq,fun l hl=>k _ _ _ (df hl hd w).1 (df hl hd w).2⟩
 | [.tuple ts],hg =>
  cases hg
  obtain ⟨v,rfl,o⟩:=oa.one
  obtain ⟨a,vs,rfl,fz,w⟩:=o.tup0
  exact .inl ⟨a,vs,rfl,.inr fz.sq,fun l hl=>k _ _ _ (df hl hd w).1 (df hl hd w).2⟩
 | [.str z],hg =>
  obtain ⟨c,rfl⟩:=cK hg
  obtain ⟨v,rfl,o⟩:=oa.one
  exact .inr ⟨z,by rw [show v=.str z from o],c,fun l hl=>k _ _ _ (df (K:=K) hl hd pC).1 (df hl hd pC).2⟩
def ly:List D→Option D
 | [.list ts]=>some (.tuple ts)
 | [.tuple ts]=>some (.tuple ts)
 | _=>none
theorem jH (hK:X.K=K):CallR X (.type "tuple") (rFn K ly 0):=(Fe hK).imp fun xs H Q ⟨O,as,t,oa,hd,hg,k⟩=>by
 match as,hg with
 | [.list ts],hg =>
  cases hg
  obtain ⟨v,rfl,o⟩:=oa.one
  obtain ⟨a,vs,rfl,fz,w⟩:=o.lst0
  exact ⟨a,vs,rfl,.inl ⟨fz.sq,fun l hl=>k _ _ _ (kW hl hd w).1 (kW hl hd w).2⟩⟩
 | [.tuple ts],hg =>
  cases hg
  obtain ⟨v,rfl,o⟩:=oa.one
  obtain ⟨a,vs,rfl,fz,w⟩:=o.tup0
  exact ⟨a,vs,rfl,.inr ⟨fz.sq,k _ H NoA .refl (by rw [ij]; exact o)⟩⟩
def hW:List D→Option (List Bool)
 | []=>some []
 | .bool b :: r=>(hW r).map (b :: ·)
 | _ :: _=>none
theorem n8:∀ {ts:List D} {vs:List V} {bs:List Bool},Ows K O H ts 0 vs NoA→hW ts=some bs→vs=bs.map V.bl
 | [],_,_,h,hb=>by cases hb; exact h
 | .bool b :: r,_,_,h,hb=>by
  obtain ⟨v,w,F1,F2,e,_,_,_,h4,h5⟩:=h
  obtain ⟨bs',h6,h7⟩:=Option.map_eq_some_iff.mp hb
  subst e h7
  rw [show v=.bl b from h4,n8 (Ows.any0 r h5) h6]
  rfl
 | .none :: _,_,_,_,hb=>by cases hb
 | .int _ :: _,_,_,_,hb=>by cases hb
 | .str _ :: _,_,_,_,hb=>by cases hb
 | .list _ :: _,_,_,_,hb=>by cases hb
 | .tuple _ :: _,_,_,_,hb=>by cases hb
 | .dict _ :: _,_,_,_,hb=>by cases hb
def dE:List D→Option D
 | [.list ts]=>(hW ts).map fun bs=>.bool (bs.all id)
 | _=>none
theorem dJ (hK:X.K=K) (hc:X.calm=true):CallR X (.builtin "all") (rFn K dE 3):=(Hw hK hc).imp fun xs H Q ⟨O,as,t,oa,hd,hg,k⟩=>by
 match as,hg with
 | [.list ts],hg =>
  obtain ⟨bs,h1,rfl⟩:=Option.map_eq_some_iff.mp hg
  obtain ⟨v,rfl,o⟩:=oa.one
  obtain ⟨a,vs,rfl,fz,w⟩:=o.lst0
  have e:=n8 w h1
  subst e
  exact ⟨a,bs,rfl,fz.sq,k _ H NoA .refl rfl⟩
def tyN:D→String
 | .none=>"NoneType" | .bool _=>"bool" | .int _=>"int" | .str _=>"str" | .list _=>"list" | .tuple _=>"tuple" | .dict _=>"dict"
def bj (n T:String):Bool:=n == T || (n == "bool" && T == "int")
theorem qR {T:String} (hT:T∈["int", "bool", "str", "list", "tuple", "dict"]) (a:D):PySem.W.kitOne K (.type (tyN a)) (.type T)=some (bj (tyN a) T):=by
 simp only [List.mem_cons,List.not_mem_nil,or_false] at hT
 rcases hT with rfl | rfl | rfl | rfl | rfl | rfl <;> cases a <;> rfl
def Gw (K:PySem.W.Frag):List V→Hp→VK→Prop:=fun xs H Q=>∃ x T,∃ (O:AS) (a:D),xs=[x,.ty T]∧Ow K O H a 0 x NoA∧T∈["int", "bool", "str", "list", "tuple", "dict"]∧Q (.bl (bj (tyN a) T)) H
theorem ul:CallR X (.builtin "isinstance") (Gw X.K):=by
 intro pins s σ H xs us Q I r h
 obtain ⟨x,T,O,a,rfl,oa,hT,q⟩:=h
 have base:∀ ty,TyOf X.K H x (.type ty)→tyN a=ty→wpAny (model X.prog X.w) X.A (call (.builtin "isinstance") us) (EP X pins σ Q) X.xe s:=fun ty h1 h2=>by
  refine vq pins s σ H _ us Q I r ⟨x,.type ty,T,bj (tyN a) T,rfl,h1,?_,q⟩
  rw [← h2]
  exact qR hT a
 cases a with
 | none=>exact base _ (by rw [show x=.non from oa]; exact .non) rfl
 | bool b=>exact base _ (by rw [show x=.bl b from oa]; exact .bl b) rfl
 | int b=>exact base _ (by rw [show x=.int b from oa]; exact .int b) rfl
 | str b=>exact base _ (by rw [show x=.str b from oa]; exact .str b) rfl
 | tuple ts =>
  obtain ⟨p,vs,rfl,fz,w⟩:=oa.tup0
  exact base _ (.tup fz.1) rfl
 | dict ts =>
  obtain ⟨p,vs,rfl,⟨_,h1,_⟩ | ⟨_,h1,_⟩ | ⟨_,kk,b,_,h1,_⟩⟩:=oa
  ·exact base _ (.dK h1) rfl
  ·exact base _ (.dK h1) rfl
  ·exact base _ (.dT h1) rfl
 | list ts =>
  obtain ⟨p,vs,rfl,fz,w⟩:=oa.lst0
  obtain ⟨u,u2,rfl,r1,r2⟩:=r.two
  cases r1
  cases r2
  obtain ⟨its,rv,pl,_⟩:=I.list fz.sq
  have e:=qR (K:=X.K) hT (.list ts)
  obtain ⟨o,n,h1,h2,_⟩:=pl
  exact PySem.W.kia_one PySem.W.kitx_list I.kIn ⟨o,h1,h2⟩ e (fun z=>nomatch z) fun tk=>⟨.bl _,H,I.tok tk,rfl,q⟩
end
def aW (T:String):D→Option D:=fun a=>some (.bool (bj (tyN a) T))
section
variable {X:Cx} {K:PySem.W.Frag} {p:Bool} {ds ds1:List Nat} {d1:Nat} {e:Expr} {f:ME}
theorem FY {T:Str} {n:String} {px pt pos:Pos} (hK:X.K=K) (hg:Gl X "isinstance") (hm:X.mg "isinstance"=none) (hgT:Gl X T) (hmT:X.mg T=none) (hbT:bootBuiltins T=some (.type n)) (hT:n∈["int", "bool", "str", "list", "tuple", "dict"]) (he:PE X e (tF K p ds ds1 d1 f))
  (hnT:T≠"__name__") (hdT:(T == ("__debug__" : Str))=false)
  (hs1:starEach [e,.Name T pt] X.env=(false,eval e X.env) :: starEach [.Name T pt] X.env) (hs2:starEach [.Name T pt] X.env=(false,eval (.Name T pt) X.env) :: starEach [] X.env) (hpl:(backTo pos (starEach [.Name T pt] X.env)).any (·.1)=false) :
  PE X (.Call (.Name "isinstance" px) [e,.Name T pt] [] pos) (tF K p ds ds1 3 (e1 (aW n) f)):=by
 subst hK
 refine (lH ul hg hm boot_isinstance (ft he (ft (Bz (v:=.ty n) hgT hmT hbT rfl hnT hdT) pa_nil hs2) hs1) (by decide) (by decide) hs1 hpl).imp fun σ H Q h=>?_
 obtain ⟨Ox,en,R,t,en',e,hf,k⟩:=h
 unfold e1 at hf
 obtain ⟨⟨t1,en1⟩,h1,hf⟩:=Option.bind_eq_some_iff.mp hf
 obtain ⟨t',h3,hf⟩:=Option.map_eq_some_iff.mp hf
 cases hf
 cases h3
 refine ⟨Ox,en,R,t1,en1,e,h1,fun v H' R' F P o=>?_⟩
 exact ⟨v,n,Own R' Ox,t1,rfl,Ow.letgo P (fun _ z=>z) o,hT,k _ H' R' NoA (P.less fun _ z=>z.elim) rfl⟩
end
end L2
namespace L2
open PySem PySem.Spec PyProof.Rows
mutual
def peq:D→D→Bool
 | .none,.none=>true
 | .bool a,.bool b=>a == b
 | .bool a,.int b=>(if a then (1:Int) else 0) == b
 | .int a,.bool b=>a == (if b then (1:Int) else 0)
 | .int a,.int b=>a == b
 | .str a,.str b=>a == b
 | .list a,.list b=>e9 a b
 | .tuple a,.tuple b=>e9 a b
 | _,_=>false
def e9:List D→List D→Bool
 | [],[]=>true
 | a :: r,b :: s=>peq a b && e9 r s
 | _,_=>false
end
mutual
def aL:D→Bool
 | .dict _=>false
 | .list ts=>bf ts
 | .tuple ts=>bf ts
 | _=>true
def bf:List D→Bool
 | []=>true
 | t :: r=>aL t && bf r
end
mutual
theorem lG:∀ a:D,aL a=true→peq a a=true
 | .none,_=>rfl
 | .bool b,_=>by cases b <;> rfl
 | .int i,_=>by simp [peq]
 | .str i,_=>by simp [peq]
 | .list ts,h=>by simp only [peq]; exact kl ts (by simpa [aL] using h)
 | .tuple ts,h=>by simp only [peq]; exact kl ts (by simpa [aL] using h)
 | .dict _,h=>by simp [aL] at h
theorem kl:∀ a:List D,bf a=true→e9 a a=true
 | [],_=>rfl
 | t :: r,h=>by
  have h':aL t=true∧bf r=true:=by simpa [bf] using h
  simp only [e9,lG t h'.1,kl r h'.2,Bool.and_self]
end
mutual
def iZ:D→Nat
 | .list ts=>eG ts+1
 | .tuple ts=>eG ts+1
 | _=>0
def eG:List D→Nat
 | []=>0
 | t :: r=>max (iZ t) (eG r)
end
theorem kA:∀ {ts:List D} {i:Nat} {t:D},ts[i]?=some t→iZ t≤eG ts
 | [],_,_,h=>by simp at h
 | u :: r,i,t,h=>by
  simp only [eG]
  cases i with
  | zero=>simp at h; subst h; exact Nat.le_max_left _ _
  | succ i=>exact Nat.le_trans (kA (by simpa using h)) (Nat.le_max_right _ _)
theorem eV:∀ {ts:List D} {i:Nat} {t:D},bf ts=true→ts[i]?=some t→aL t=true
 | [],_,_,_,h=>by simp at h
 | u :: r,i,t,hn,h=>by
  have h':aL u=true∧bf r=true:=by simpa [bf] using hn
  cases i with
  | zero=>simp at h; subst h; exact h'.1
  | succ i=>exact eV h'.2 (by simpa using h)
theorem lE:∀ {a b:List D},a.length≠b.length→e9 a b=false
 | [],[],h=>absurd rfl h
 | [],_ :: _,_=>rfl
 | _ :: _,[],_=>rfl
 | a :: r,b :: s,h=>by
  simp only [e9,lE (a:=r) (b:=s) (fun z=>h (by rw [List.length_cons,List.length_cons,z])),Bool.and_false]
def eAt (a b:List D) (j:Nat):Bool:=match a[j]?,b[j]? with
 | some x,some y=>peq x y
 | _,_=>true
theorem nR (n:Nat) (f:Nat→Bool):(List.range (n+1)).all f=(f 0 && (List.range n).all fun j=>f (j+1)):=by
 rw [List.range_succ_eq_map,List.all_cons,List.all_map]
 rfl
theorem lF:∀ {a b:List D},a.length=b.length→(List.range a.length).all (eAt a b)=e9 a b
 | [],[],_=>rfl
 | a :: r,b :: s,h=>by
  rw [List.length_cons,nR]
  have e:(List.range r.length).all (fun j=>eAt (a :: r) (b :: s) (j+1))=(List.range r.length).all (eAt r s):=by
   congr 1
  rw [e,lF (by simpa using h)]
  rfl
 | [],_ :: _,h=>by simp at h
 | _ :: _,[],h=>by simp at h
section
open PySem.SeqAt
variable {X:Cx} {pins:List (Addr × Obj)} {σ:St} {H:Hp} {s:Shared} {O:AS}
theorem A3 {p:Addr} {vs ws:List V} (I:Inv X pins σ H s) (h:SqL X.K H p vs) (g:SqT X.K H p ws):False:=by
 obtain ⟨its,_,p1,_⟩:=I.list h
 obtain ⟨its2,_,p2,_⟩:=I.tuple g
 exact ne_of_list_tuple p1.isList (show s.heap.IsTuple p its2.toArray from p2) rfl
theorem EW {p:Addr} {vs:List V} {ks:List (List Key × V)} (I:Inv X pins σ H s) (h:SqL X.K H p vs) (g:H p=some (.dT ks)):False:=by
 obtain ⟨its,_,⟨o,n,e1,e2,_⟩,_⟩:=I.list h
 obtain ⟨_,_,_,_,o',_,_,g1,g2,_⟩:=He I.hok g
 rw [e1] at g1
 cases g1
 rw [g2.1] at e2
 simp at e2
theorem GF {p:Addr} {vs:List V} {ks:List (Key × V)} (I:Inv X pins σ H s) (h:SqL X.K H p vs) (g:H p=some (.dK ks)):False:=by
 obtain ⟨its,_,⟨o,n,e1,e2,_⟩,_⟩:=I.list h
 obtain ⟨_,_,_,_,o',_,_,g1,g2,_⟩:=Hg I.hok g
 rw [e1] at g1
 cases g1
 rw [g2.1] at e2
 simp at e2
mutual
theorem Ow.inj (I:Inv X pins σ H s):∀ (a b:D) {x:V},Ow X.K O H a 0 x NoA→Ow X.K O H b 0 x NoA→aL a=true→a=b
 | .none,b,_,h,g,_=>by
  cases (show _=_ from h)
  cases b with
  | none=>rfl
  | list ts=>obtain ⟨_,_,z,_⟩:=g; cases z
  | tuple ts=>obtain ⟨_,_,z,_⟩:=g; cases z
  | dict ts=>obtain ⟨_,_,z,_⟩:=g; cases z
  | bool c=>cases (show V.non=V.bl c from g)
  | int c=>cases (show V.non=V.int c from g)
  | str c=>cases (show V.non=V.str c from g)
 | .bool c,b,_,h,g,_=>by
  cases (show _=_ from h)
  cases b with
  | none=>cases (show V.bl c=V.non from g)
  | list ts=>obtain ⟨_,_,z,_⟩:=g; cases z
  | tuple ts=>obtain ⟨_,_,z,_⟩:=g; cases z
  | dict ts=>obtain ⟨_,_,z,_⟩:=g; cases z
  | bool c'=>cases (show V.bl c=V.bl c' from g); rfl
  | int c'=>cases (show V.bl c=V.int c' from g)
  | str c'=>cases (show V.bl c=V.str c' from g)
 | .int c,b,_,h,g,_=>by
  cases (show _=_ from h)
  cases b with
  | none=>cases (show V.int c=V.non from g)
  | list ts=>obtain ⟨_,_,z,_⟩:=g; cases z
  | tuple ts=>obtain ⟨_,_,z,_⟩:=g; cases z
  | dict ts=>obtain ⟨_,_,z,_⟩:=g; cases z
  | bool c'=>cases (show V.int c=V.bl c' from g)
  | int c'=>cases (show V.int c=V.int c' from g); rfl
  | str c'=>cases (show V.int c=V.str c' from g)
 | .str c,b,_,h,g,_=>by
  cases (show _=_ from h)
  cases b with
  | none=>cases (show V.str c=V.non from g)
  | list ts=>obtain ⟨_,_,z,_⟩:=g; cases z
  | tuple ts=>obtain ⟨_,_,z,_⟩:=g; cases z
  | dict ts=>obtain ⟨_,_,z,_⟩:=g; cases z
  | bool c'=>cases (show V.str c=V.bl c' from g)
  | int c'=>cases (show V.str c=V.int c' from g)
  | str c'=>cases (show V.str c=V.str c' from g); rfl
 | .list ts,b,_,h,g,hn=>by
  obtain ⟨p,vs,rfl,fz,w⟩:=h.lst0
  cases b with
  | none=>cases (show V.ref p=V.non from g)
  | bool c'=>cases (show V.ref p=V.bl c' from g)
  | int c'=>cases (show V.ref p=V.int c' from g)
  | str c'=>cases (show V.ref p=V.str c' from g)
  | list us =>
   obtain ⟨p',vs',e,fz',w'⟩:=g.lst0
   cases e
   have:=I.list_inj fz.sq fz'.sq
   subst this
   rw [Ows.inj I ts us w w' (by simpa [aL] using hn)]
  | tuple us =>
   obtain ⟨p',vs',e,fz',w'⟩:=g.tup0
   cases e
   exact (A3 I fz.sq fz'.sq).elim
  | dict us =>
   obtain ⟨p',vs',e,⟨_,g1,_⟩ | ⟨z,_⟩ | ⟨_,_,_,_,g1,_⟩⟩:=g
   ·cases e
    exact (GF I fz.sq g1).elim
   ·exact absurd rfl z
   ·cases e
    exact (EW I fz.sq g1).elim
 | .tuple ts,b,_,h,g,hn=>by
  obtain ⟨p,vs,rfl,fz,w⟩:=h.tup0
  cases b with
  | none=>cases (show V.ref p=V.non from g)
  | bool c'=>cases (show V.ref p=V.bl c' from g)
  | int c'=>cases (show V.ref p=V.int c' from g)
  | str c'=>cases (show V.ref p=V.str c' from g)
  | tuple us =>
   obtain ⟨p',vs',e,fz',w'⟩:=g.tup0
   cases e
   have:=fz.1.symm.trans fz'.1
   cases this
   rw [Ows.inj I ts us w w' (by simpa [aL] using hn)]
  | list us =>
   obtain ⟨p',vs',e,fz',w'⟩:=g.lst0
   cases e
   exact (A3 I fz'.sq fz.sq).elim
  | dict us =>
   obtain ⟨p',vs',e,⟨_,g1,_⟩ | ⟨z,_⟩ | ⟨_,_,_,_,g1,_⟩⟩:=g
   ·cases e
    rw [fz.1] at g1
    cases g1
   ·exact absurd rfl z
   ·cases e
    rw [fz.1] at g1
    cases g1
 | .dict _,_,_,_,_,hn=>by simp [aL] at hn
theorem Ows.inj (I:Inv X pins σ H s):∀ (a b:List D) {x:List V},Ows X.K O H a 0 x NoA→Ows X.K O H b 0 x NoA→bf a=true→a=b
 | [],b,_,h,g,_=>by
  cases (show _=_ from h)
  cases b with
  | nil=>rfl
  | cons u us=>obtain ⟨_,_,_,_,e,_⟩:=g; cases e
 | t :: ts,b,_,h,g,hn=>by
  obtain ⟨v,r,F1,F2,e,_,_,_,h4,h5⟩:=h
  subst e
  have hn':aL t=true∧bf ts=true:=by simpa [bf] using hn
  cases b with
  | nil=>cases (show v :: r=[] from g)
  | cons u us =>
   obtain ⟨v',r',G1,G2,e,_,_,_,g4,g5⟩:=g
   cases e
   rw [Ow.inj I t u (Ow.any0 t h4) (Ow.any0 u g4) hn'.1,Ows.inj I ts us (Ows.any0 ts h5) (Ows.any0 us g5) hn'.2]
end
theorem pO {A:Around} {ts us:List D} {vs ws:List V} {its its2:List Value} (w:Ows X.K O H ts 0 vs NoA) (w2:Ows X.K O H us 0 ws NoA) (rv:Vals vs its) (rv2:Vals ws its2)
  (ih:∀ (j:Nat) a b x y v u,ts[j]?=some a→us[j]?=some b→Ow X.K O H a 0 x NoA→Ow X.K O H b 0 y NoA→RelV x v→RelV y u→EqAt A s v u (peq a b)) :
  ∀ j (h1:j < its.toArray.size) (h2:j < its2.toArray.size),EqAt A s its.toArray[j] its2.toArray[j] (eAt ts us j):=fun j h1 h2=>by
 have h1':j < its.length:=by simpa using h1
 have h2':j < its2.length:=by simpa using h2
 have l1:=rv.length
 have l2:=rv2.length
 have m1:=w.len
 have m2:=w2.len
 have e1:ts[j]?=some ts[j]:=List.getElem?_eq_getElem (by omega)
 have e2:us[j]?=some us[j]:=List.getElem?_eq_getElem (by omega)
 obtain ⟨x,g1,o1⟩:=w.get e1
 obtain ⟨y,g2,o2⟩:=w2.get e2
 obtain ⟨u1,f1,q1⟩:=rv.get g1
 obtain ⟨u2,f2,q2⟩:=rv2.get g2
 have z:=ih j _ _ x y u1 u2 e1 e2 o1 o2 q1 q2
 rw [List.getElem?_eq_getElem h1'] at f1
 rw [List.getElem?_eq_getElem h2'] at f2
 have i1:its.toArray[j]=u1:=by simpa using Option.some.inj f1
 have i2:its2.toArray[j]=u2:=by simpa using Option.some.inj f2
 rw [i1,i2]
 unfold eAt
 rw [e1,e2]
 exact z
theorem sj (I:Inv X pins σ H s):∀ (n:Nat) (a b:D) (A:Around) (x y:V) (v u:Value),iZ a≤n→aL a=true→aL b=true→Ow X.K O H a 0 x NoA→Ow X.K O H b 0 y NoA→RelV x v→RelV y u→A.units+n+1 < cLine →
  EqAt A s v u (peq a b)∧RcAt A s v u (peq a b)∧RcNeAt A s v u (!peq a b):=by
 intro n
 induction n with
 | zero =>
  intro a b A x y v u hdp hna hnb o1 o2 r1 r2 hun
  have hu:A.units < cLine:=by omega
  cases a with
  | none =>
   cases b with
   | none =>
    cases (show x=V.non from o1)
    cases r1
    cases (show y=V.non from o2)
    cases r2
    exact ⟨EqAt.same _,RcAt.none_none,RcNeAt.none_none⟩
   | bool c2 =>
    cases (show x=V.non from o1)
    cases r1
    cases (show y=V.bl c2 from o2)
    cases r2
    exact ⟨EqAt.none_bool _,RcAt.none_bool _,RcNeAt.none_bool _⟩
   | int c2 =>
    cases (show x=V.non from o1)
    cases r1
    cases (show y=V.int c2 from o2)
    obtain ⟨tk2,rfl⟩:=r2
    exact ⟨EqAt.none_int _ _,RcAt.none_int _ _,RcNeAt.none_int _ _⟩
   | str c2 =>
    cases (show x=V.non from o1)
    cases r1
    cases (show y=V.str c2 from o2)
    obtain ⟨tk2,rfl⟩:=r2
    exact ⟨EqAt.none_str _ _,RcAt.none_str _ _,RcNeAt.none_str _ _⟩
   | list c2 =>
    cases (show x=V.non from o1)
    cases r1
    obtain ⟨p2,vs2,rfl,fz2,w2⟩:=o2.lst0
    cases r2
    obtain ⟨its2,rv2,pl2,_⟩:=I.list fz2.sq
    have hl2:=pl2.isList
    exact ⟨EqAt.none_list  hl2 hu,RcAt.none_list  hl2 hu,RcNeAt.none_list  hl2 hu⟩
   | tuple c2 =>
    cases (show x=V.non from o1)
    cases r1
    obtain ⟨p2,vs2,rfl,fz2,w2⟩:=o2.tup0
    cases r2
    obtain ⟨its2,rv2,pl2,_⟩:=I.tuple fz2.sq
    have hl2:s.heap.IsTuple p2 its2.toArray:=pl2
    exact ⟨EqAt.none_tuple  hl2 hu,RcAt.none_tuple  hl2 hu,RcNeAt.none_tuple  hl2 hu⟩
   | dict c2=>simp [aL] at hnb
  | bool c1 =>
   cases b with
   | none =>
    cases (show x=V.bl c1 from o1)
    cases r1
    cases (show y=V.non from o2)
    cases r2
    exact ⟨EqAt.bool_none _,RcAt.bool_none _,RcNeAt.bool_none _⟩
   | bool c2 =>
    cases (show x=V.bl c1 from o1)
    cases r1
    cases (show y=V.bl c2 from o2)
    cases r2
    exact ⟨EqAt.bool_bool _ _,RcAt.bool_bool _ _,RcNeAt.bool_bool _ _⟩
   | int c2 =>
    cases (show x=V.bl c1 from o1)
    cases r1
    cases (show y=V.int c2 from o2)
    obtain ⟨tk2,rfl⟩:=r2
    exact ⟨EqAt.bool_int _ _ _,RcAt.bool_int _ _ _,RcNeAt.bool_int _ _ _⟩
   | str c2 =>
    cases (show x=V.bl c1 from o1)
    cases r1
    cases (show y=V.str c2 from o2)
    obtain ⟨tk2,rfl⟩:=r2
    exact ⟨EqAt.bool_str _ _ _,RcAt.bool_str _ _ _,RcNeAt.bool_str _ _ _⟩
   | list c2 =>
    cases (show x=V.bl c1 from o1)
    cases r1
    obtain ⟨p2,vs2,rfl,fz2,w2⟩:=o2.lst0
    cases r2
    obtain ⟨its2,rv2,pl2,_⟩:=I.list fz2.sq
    have hl2:=pl2.isList
    exact ⟨EqAt.bool_list _ hl2 hu,RcAt.bool_list _ hl2 hu,RcNeAt.bool_list _ hl2 hu⟩
   | tuple c2 =>
    cases (show x=V.bl c1 from o1)
    cases r1
    obtain ⟨p2,vs2,rfl,fz2,w2⟩:=o2.tup0
    cases r2
    obtain ⟨its2,rv2,pl2,_⟩:=I.tuple fz2.sq
    have hl2:s.heap.IsTuple p2 its2.toArray:=pl2
    exact ⟨EqAt.bool_tuple _ hl2 hu,RcAt.bool_tuple _ hl2 hu,RcNeAt.bool_tuple _ hl2 hu⟩
   | dict c2=>simp [aL] at hnb
  | int c1 =>
   cases b with
   | none =>
    cases (show x=V.int c1 from o1)
    obtain ⟨tk1,rfl⟩:=r1
    cases (show y=V.non from o2)
    cases r2
    exact ⟨EqAt.int_none _ _,RcAt.int_none _ _,RcNeAt.int_none _ _⟩
   | bool c2 =>
    cases (show x=V.int c1 from o1)
    obtain ⟨tk1,rfl⟩:=r1
    cases (show y=V.bl c2 from o2)
    cases r2
    exact ⟨EqAt.int_bool _ _ _,RcAt.int_bool _ _ _,RcNeAt.int_bool _ _ _⟩
   | int c2 =>
    cases (show x=V.int c1 from o1)
    obtain ⟨tk1,rfl⟩:=r1
    cases (show y=V.int c2 from o2)
    obtain ⟨tk2,rfl⟩:=r2
    exact ⟨EqAt.int_int _ _ _ _,RcAt.int_int _ _ _ _,RcNeAt.int_int _ _ _ _⟩
   | str c2 =>
    cases (show x=V.int c1 from o1)
    obtain ⟨tk1,rfl⟩:=r1
    cases (show y=V.str c2 from o2)
    obtain ⟨tk2,rfl⟩:=r2
    exact ⟨EqAt.int_str _ _ _ _,RcAt.int_str _ _ _ _,RcNeAt.int_str _ _ _ _⟩
   | list c2 =>
    cases (show x=V.int c1 from o1)
    obtain ⟨tk1,rfl⟩:=r1
    obtain ⟨p2,vs2,rfl,fz2,w2⟩:=o2.lst0
    cases r2
    obtain ⟨its2,rv2,pl2,_⟩:=I.list fz2.sq
    have hl2:=pl2.isList
    exact ⟨EqAt.int_list _ _ hl2 hu,RcAt.int_list _ _ hl2 hu,RcNeAt.int_list _ _ hl2 hu⟩
   | tuple c2 =>
    cases (show x=V.int c1 from o1)
    obtain ⟨tk1,rfl⟩:=r1
    obtain ⟨p2,vs2,rfl,fz2,w2⟩:=o2.tup0
    cases r2
    obtain ⟨its2,rv2,pl2,_⟩:=I.tuple fz2.sq
    have hl2:s.heap.IsTuple p2 its2.toArray:=pl2
    exact ⟨EqAt.int_tuple _ _ hl2 hu,RcAt.int_tuple _ _ hl2 hu,RcNeAt.int_tuple _ _ hl2 hu⟩
   | dict c2=>simp [aL] at hnb
  | str c1 =>
   cases b with
   | none =>
    cases (show x=V.str c1 from o1)
    obtain ⟨tk1,rfl⟩:=r1
    cases (show y=V.non from o2)
    cases r2
    exact ⟨EqAt.str_none _ _,RcAt.str_none _ _,RcNeAt.str_none _ _⟩
   | bool c2 =>
    cases (show x=V.str c1 from o1)
    obtain ⟨tk1,rfl⟩:=r1
    cases (show y=V.bl c2 from o2)
    cases r2
    exact ⟨EqAt.str_bool _ _ _,RcAt.str_bool _ _ _,RcNeAt.str_bool _ _ _⟩
   | int c2 =>
    cases (show x=V.str c1 from o1)
    obtain ⟨tk1,rfl⟩:=r1
    cases (show y=V.int c2 from o2)
    obtain ⟨tk2,rfl⟩:=r2
    exact ⟨EqAt.str_int _ _ _ _,RcAt.str_int _ _ _ _,RcNeAt.str_int _ _ _ _⟩
   | str c2 =>
    cases (show x=V.str c1 from o1)
    obtain ⟨tk1,rfl⟩:=r1
    cases (show y=V.str c2 from o2)
    obtain ⟨tk2,rfl⟩:=r2
    exact ⟨EqAt.str_str _ _ _ _,RcAt.str_str _ _ _ _,RcNeAt.str_str _ _ _ _⟩
   | list c2 =>
    cases (show x=V.str c1 from o1)
    obtain ⟨tk1,rfl⟩:=r1
    obtain ⟨p2,vs2,rfl,fz2,w2⟩:=o2.lst0
    cases r2
    obtain ⟨its2,rv2,pl2,_⟩:=I.list fz2.sq
    have hl2:=pl2.isList
    exact ⟨EqAt.str_list _ _ hl2 hu,RcAt.str_list _ _ hl2 hu,RcNeAt.str_list _ _ hl2 hu⟩
   | tuple c2 =>
    cases (show x=V.str c1 from o1)
    obtain ⟨tk1,rfl⟩:=r1
    obtain ⟨p2,vs2,rfl,fz2,w2⟩:=o2.tup0
    cases r2
    obtain ⟨its2,rv2,pl2,_⟩:=I.tuple fz2.sq
    have hl2:s.heap.IsTuple p2 its2.toArray:=pl2
    exact ⟨EqAt.str_tuple _ _ hl2 hu,RcAt.str_tuple _ _ hl2 hu,RcNeAt.str_tuple _ _ hl2 hu⟩
   | dict c2=>simp [aL] at hnb
  | list c1 =>
   simp only [iZ] at hdp
   omega
  | tuple c1 =>
   simp only [iZ] at hdp
   omega
  | dict c1=>simp [aL] at hna
 | succ n ih =>
  intro a b A x y v u hdp hna hnb o1 o2 r1 r2 hun
  have hu:A.units < cLine:=by omega
  have hu1:A.in1.units+n+1 < cLine:=by
   show A.units+1+n+1 < cLine
   omega
  cases a with
  | none =>
   cases b with
   | none =>
    cases (show x=V.non from o1)
    cases r1
    cases (show y=V.non from o2)
    cases r2
    exact ⟨EqAt.same _,RcAt.none_none,RcNeAt.none_none⟩
   | bool c2 =>
    cases (show x=V.non from o1)
    cases r1
    cases (show y=V.bl c2 from o2)
    cases r2
    exact ⟨EqAt.none_bool _,RcAt.none_bool _,RcNeAt.none_bool _⟩
   | int c2 =>
    cases (show x=V.non from o1)
    cases r1
    cases (show y=V.int c2 from o2)
    obtain ⟨tk2,rfl⟩:=r2
    exact ⟨EqAt.none_int _ _,RcAt.none_int _ _,RcNeAt.none_int _ _⟩
   | str c2 =>
    cases (show x=V.non from o1)
    cases r1
    cases (show y=V.str c2 from o2)
    obtain ⟨tk2,rfl⟩:=r2
    exact ⟨EqAt.none_str _ _,RcAt.none_str _ _,RcNeAt.none_str _ _⟩
   | list c2 =>
    cases (show x=V.non from o1)
    cases r1
    obtain ⟨p2,vs2,rfl,fz2,w2⟩:=o2.lst0
    cases r2
    obtain ⟨its2,rv2,pl2,_⟩:=I.list fz2.sq
    have hl2:=pl2.isList
    exact ⟨EqAt.none_list  hl2 hu,RcAt.none_list  hl2 hu,RcNeAt.none_list  hl2 hu⟩
   | tuple c2 =>
    cases (show x=V.non from o1)
    cases r1
    obtain ⟨p2,vs2,rfl,fz2,w2⟩:=o2.tup0
    cases r2
    obtain ⟨its2,rv2,pl2,_⟩:=I.tuple fz2.sq
    have hl2:s.heap.IsTuple p2 its2.toArray:=pl2
    exact ⟨EqAt.none_tuple  hl2 hu,RcAt.none_tuple  hl2 hu,RcNeAt.none_tuple  hl2 hu⟩
   | dict c2=>simp [aL] at hnb
  | bool c1 =>
   cases b with
   | none =>
    cases (show x=V.bl c1 from o1)
    cases r1
    cases (show y=V.non from o2)
    cases r2
    exact ⟨EqAt.bool_none _,RcAt.bool_none _,RcNeAt.bool_none _⟩
   | bool c2 =>
    cases (show x=V.bl c1 from o1)
    cases r1
    cases (show y=V.bl c2 from o2)
    cases r2
    exact ⟨EqAt.bool_bool _ _,RcAt.bool_bool _ _,RcNeAt.bool_bool _ _⟩
   | int c2 =>
    cases (show x=V.bl c1 from o1)
    cases r1
    cases (show y=V.int c2 from o2)
    obtain ⟨tk2,rfl⟩:=r2
    exact ⟨EqAt.bool_int _ _ _,RcAt.bool_int _ _ _,RcNeAt.bool_int _ _ _⟩
   | str c2 =>
    cases (show x=V.bl c1 from o1)
    cases r1
    cases (show y=V.str c2 from o2)
    obtain ⟨tk2,rfl⟩:=r2
    exact ⟨EqAt.bool_str _ _ _,RcAt.bool_str _ _ _,RcNeAt.bool_str _ _ _⟩
   | list c2 =>
    cases (show x=V.bl c1 from o1)
    cases r1
    obtain ⟨p2,vs2,rfl,fz2,w2⟩:=o2.lst0
    cases r2
    obtain ⟨its2,rv2,pl2,_⟩:=I.list fz2.sq
    have hl2:=pl2.isList
    exact ⟨EqAt.bool_list _ hl2 hu,RcAt.bool_list _ hl2 hu,RcNeAt.bool_list _ hl2 hu⟩
   | tuple c2 =>
    cases (show x=V.bl c1 from o1)
    cases r1
    obtain ⟨p2,vs2,rfl,fz2,w2⟩:=o2.tup0
    cases r2
    obtain ⟨its2,rv2,pl2,_⟩:=I.tuple fz2.sq
    have hl2:s.heap.IsTuple p2 its2.toArray:=pl2
    exact ⟨EqAt.bool_tuple _ hl2 hu,RcAt.bool_tuple _ hl2 hu,RcNeAt.bool_tuple _ hl2 hu⟩
   | dict c2=>simp [aL] at hnb
  | int c1 =>
   cases b with
   | none =>
    cases (show x=V.int c1 from o1)
    obtain ⟨tk1,rfl⟩:=r1
    cases (show y=V.non from o2)
    cases r2
    exact ⟨EqAt.int_none _ _,RcAt.int_none _ _,RcNeAt.int_none _ _⟩
   | bool c2 =>
    cases (show x=V.int c1 from o1)
    obtain ⟨tk1,rfl⟩:=r1
    cases (show y=V.bl c2 from o2)
    cases r2
    exact ⟨EqAt.int_bool _ _ _,RcAt.int_bool _ _ _,RcNeAt.int_bool _ _ _⟩
   | int c2 =>
    cases (show x=V.int c1 from o1)
    obtain ⟨tk1,rfl⟩:=r1
    cases (show y=V.int c2 from o2)
    obtain ⟨tk2,rfl⟩:=r2
    exact ⟨EqAt.int_int _ _ _ _,RcAt.int_int _ _ _ _,RcNeAt.int_int _ _ _ _⟩
   | str c2 =>
    cases (show x=V.int c1 from o1)
    obtain ⟨tk1,rfl⟩:=r1
    cases (show y=V.str c2 from o2)
    obtain ⟨tk2,rfl⟩:=r2
    exact ⟨EqAt.int_str _ _ _ _,RcAt.int_str _ _ _ _,RcNeAt.int_str _ _ _ _⟩
   | list c2 =>
    cases (show x=V.int c1 from o1)
    obtain ⟨tk1,rfl⟩:=r1
    obtain ⟨p2,vs2,rfl,fz2,w2⟩:=o2.lst0
    cases r2
    obtain ⟨its2,rv2,pl2,_⟩:=I.list fz2.sq
    have hl2:=pl2.isList
    exact ⟨EqAt.int_list _ _ hl2 hu,RcAt.int_list _ _ hl2 hu,RcNeAt.int_list _ _ hl2 hu⟩
   | tuple c2 =>
    cases (show x=V.int c1 from o1)
    obtain ⟨tk1,rfl⟩:=r1
    obtain ⟨p2,vs2,rfl,fz2,w2⟩:=o2.tup0
    cases r2
    obtain ⟨its2,rv2,pl2,_⟩:=I.tuple fz2.sq
    have hl2:s.heap.IsTuple p2 its2.toArray:=pl2
    exact ⟨EqAt.int_tuple _ _ hl2 hu,RcAt.int_tuple _ _ hl2 hu,RcNeAt.int_tuple _ _ hl2 hu⟩
   | dict c2=>simp [aL] at hnb
  | str c1 =>
   cases b with
   | none =>
    cases (show x=V.str c1 from o1)
    obtain ⟨tk1,rfl⟩:=r1
    cases (show y=V.non from o2)
    cases r2
    exact ⟨EqAt.str_none _ _,RcAt.str_none _ _,RcNeAt.str_none _ _⟩
   | bool c2 =>
    cases (show x=V.str c1 from o1)
    obtain ⟨tk1,rfl⟩:=r1
    cases (show y=V.bl c2 from o2)
    cases r2
    exact ⟨EqAt.str_bool _ _ _,RcAt.str_bool _ _ _,RcNeAt.str_bool _ _ _⟩
   | int c2 =>
    cases (show x=V.str c1 from o1)
    obtain ⟨tk1,rfl⟩:=r1
    cases (show y=V.int c2 from o2)
    obtain ⟨tk2,rfl⟩:=r2
    exact ⟨EqAt.str_int _ _ _ _,RcAt.str_int _ _ _ _,RcNeAt.str_int _ _ _ _⟩
   | str c2 =>
    cases (show x=V.str c1 from o1)
    obtain ⟨tk1,rfl⟩:=r1
    cases (show y=V.str c2 from o2)
    obtain ⟨tk2,rfl⟩:=r2
    exact ⟨EqAt.str_str _ _ _ _,RcAt.str_str _ _ _ _,RcNeAt.str_str _ _ _ _⟩
   | list c2 =>
    cases (show x=V.str c1 from o1)
    obtain ⟨tk1,rfl⟩:=r1
    obtain ⟨p2,vs2,rfl,fz2,w2⟩:=o2.lst0
    cases r2
    obtain ⟨its2,rv2,pl2,_⟩:=I.list fz2.sq
    have hl2:=pl2.isList
    exact ⟨EqAt.str_list _ _ hl2 hu,RcAt.str_list _ _ hl2 hu,RcNeAt.str_list _ _ hl2 hu⟩
   | tuple c2 =>
    cases (show x=V.str c1 from o1)
    obtain ⟨tk1,rfl⟩:=r1
    obtain ⟨p2,vs2,rfl,fz2,w2⟩:=o2.tup0
    cases r2
    obtain ⟨its2,rv2,pl2,_⟩:=I.tuple fz2.sq
    have hl2:s.heap.IsTuple p2 its2.toArray:=pl2
    exact ⟨EqAt.str_tuple _ _ hl2 hu,RcAt.str_tuple _ _ hl2 hu,RcNeAt.str_tuple _ _ hl2 hu⟩
   | dict c2=>simp [aL] at hnb
  | list c1 =>
   cases b with
   | none =>
    obtain ⟨p1,vs1,rfl,fz1,w1⟩:=o1.lst0
    cases r1
    obtain ⟨its1,rv1,pl1,_⟩:=I.list fz1.sq
    have hl1:=pl1.isList
    cases (show y=V.non from o2)
    cases r2
    exact ⟨EqAt.list_none  hl1 hu,RcAt.list_none  hl1 hu,RcNeAt.list_none  hl1 hu⟩
   | bool c2 =>
    obtain ⟨p1,vs1,rfl,fz1,w1⟩:=o1.lst0
    cases r1
    obtain ⟨its1,rv1,pl1,_⟩:=I.list fz1.sq
    have hl1:=pl1.isList
    cases (show y=V.bl c2 from o2)
    cases r2
    exact ⟨EqAt.list_bool _ hl1 hu,RcAt.list_bool _ hl1 hu,RcNeAt.list_bool _ hl1 hu⟩
   | int c2 =>
    obtain ⟨p1,vs1,rfl,fz1,w1⟩:=o1.lst0
    cases r1
    obtain ⟨its1,rv1,pl1,_⟩:=I.list fz1.sq
    have hl1:=pl1.isList
    cases (show y=V.int c2 from o2)
    obtain ⟨tk2,rfl⟩:=r2
    exact ⟨EqAt.list_int _ _ hl1 hu,RcAt.list_int _ _ hl1 hu,RcNeAt.list_int _ _ hl1 hu⟩
   | str c2 =>
    obtain ⟨p1,vs1,rfl,fz1,w1⟩:=o1.lst0
    cases r1
    obtain ⟨its1,rv1,pl1,_⟩:=I.list fz1.sq
    have hl1:=pl1.isList
    cases (show y=V.str c2 from o2)
    obtain ⟨tk2,rfl⟩:=r2
    exact ⟨EqAt.list_str _ _ hl1 hu,RcAt.list_str _ _ hl1 hu,RcNeAt.list_str _ _ hl1 hu⟩
   | list c2 =>
    obtain ⟨p1,vs1,rfl,fz1,w1⟩:=o1.lst0
    cases r1
    obtain ⟨its1,rv1,pl1,_⟩:=I.list fz1.sq
    have hl1:=pl1.isList
    obtain ⟨p2,vs2,rfl,fz2,w2⟩:=o2.lst0
    cases r2
    obtain ⟨its2,rv2,pl2,_⟩:=I.list fz2.sq
    have hl2:=pl2.isList
    have dl:eG c1≤n:=by simp only [iZ] at hdp; omega
    have nd1:bf c1=true:=by simpa [aL] using hna
    have nd2:bf c2=true:=by simpa [aL] using hnb
    have el:=pO (A:=A.in1) w1 w2 rv1 rv2 fun j a b x y v u e1 e2 q1 q2 q3 q4=>(ih a b A.in1 x y v u (Nat.le_trans (kA e1) dl) (eV nd1 e1) (eV nd2 e2) q1 q2 q3 q4 hu1).1
    have l1:=rv1.length
    have l2:=rv2.length
    have m1:=w1.len
    have m2:=w2.len
    have rc:RcAt A s (.ref p1) (.ref p2) (e9 c1 c2)∧RcNeAt A s (.ref p1) (.ref p2) (!e9 c1 c2):=by
     by_cases hz:c1.length=c2.length
     ·have hs1:its1.toArray.size=its2.toArray.size:=by rw [List.size_toArray,List.size_toArray]; omega
      have hs2:its1.toArray.size=c1.length:=by rw [List.size_toArray]; omega
      have z1:=RcAt.lists hl1 hl2 hs1 hu el
      have z2:=RcNeAt.lists hl1 hl2 hs1 hu el
      rw [hs2,lF hz] at z1 z2
      exact ⟨z1,z2⟩
     ·have hs1:(its1.toArray.size != its2.toArray.size)=true:=by rw [List.size_toArray,List.size_toArray,bne_iff_ne]; omega
      rw [lE hz]
      exact ⟨RcAt.lists_lengths hl1 hl2 hs1 hu,RcNeAt.lists_lengths hl1 hl2 hs1 hu⟩
    have pe:peq (.list c1) (.list c2)=e9 c1 c2:=by simp only [peq]
    refine ⟨?_,by rw [pe]; exact rc.1,by rw [pe]; exact rc.2⟩
    by_cases hp:p1=p2
    ·subst hp
     have:=Ow.inj I _ _ o1 o2 hna
     cases this
     rw [lG _ hna]
     exact EqAt.same _
    ·rw [pe]
     exact EqAt.of_refs hp rc.1
   | tuple c2 =>
    obtain ⟨p1,vs1,rfl,fz1,w1⟩:=o1.lst0
    cases r1
    obtain ⟨its1,rv1,pl1,_⟩:=I.list fz1.sq
    have hl1:=pl1.isList
    obtain ⟨p2,vs2,rfl,fz2,w2⟩:=o2.tup0
    cases r2
    obtain ⟨its2,rv2,pl2,_⟩:=I.tuple fz2.sq
    have hl2:s.heap.IsTuple p2 its2.toArray:=pl2
    exact ⟨EqAt.list_tuple hl1 hl2 hu,RcAt.list_tuple hl1 hl2 hu,RcNeAt.list_tuple hl1 hl2 hu⟩
   | dict c2=>simp [aL] at hnb
  | tuple c1 =>
   cases b with
   | none =>
    obtain ⟨p1,vs1,rfl,fz1,w1⟩:=o1.tup0
    cases r1
    obtain ⟨its1,rv1,pl1,_⟩:=I.tuple fz1.sq
    have hl1:s.heap.IsTuple p1 its1.toArray:=pl1
    cases (show y=V.non from o2)
    cases r2
    exact ⟨EqAt.tuple_none  hl1 hu,RcAt.tuple_none  hl1 hu,RcNeAt.tuple_none  hl1 hu⟩
   | bool c2 =>
    obtain ⟨p1,vs1,rfl,fz1,w1⟩:=o1.tup0
    cases r1
    obtain ⟨its1,rv1,pl1,_⟩:=I.tuple fz1.sq
    have hl1:s.heap.IsTuple p1 its1.toArray:=pl1
    cases (show y=V.bl c2 from o2)
    cases r2
    exact ⟨EqAt.tuple_bool _ hl1 hu,RcAt.tuple_bool _ hl1 hu,RcNeAt.tuple_bool _ hl1 hu⟩
   | int c2 =>
    obtain ⟨p1,vs1,rfl,fz1,w1⟩:=o1.tup0
    cases r1
    obtain ⟨its1,rv1,pl1,_⟩:=I.tuple fz1.sq
    have hl1:s.heap.IsTuple p1 its1.toArray:=pl1
    cases (show y=V.int c2 from o2)
    obtain ⟨tk2,rfl⟩:=r2
    exact ⟨EqAt.tuple_int _ _ hl1 hu,RcAt.tuple_int _ _ hl1 hu,RcNeAt.tuple_int _ _ hl1 hu⟩
   | str c2 =>
    obtain ⟨p1,vs1,rfl,fz1,w1⟩:=o1.tup0
    cases r1
    obtain ⟨its1,rv1,pl1,_⟩:=I.tuple fz1.sq
    have hl1:s.heap.IsTuple p1 its1.toArray:=pl1
    cases (show y=V.str c2 from o2)
    obtain ⟨tk2,rfl⟩:=r2
    exact ⟨EqAt.tuple_str _ _ hl1 hu,RcAt.tuple_str _ _ hl1 hu,RcNeAt.tuple_str _ _ hl1 hu⟩
   | list c2 =>
    obtain ⟨p1,vs1,rfl,fz1,w1⟩:=o1.tup0
    cases r1
    obtain ⟨its1,rv1,pl1,_⟩:=I.tuple fz1.sq
    have hl1:s.heap.IsTuple p1 its1.toArray:=pl1
    obtain ⟨p2,vs2,rfl,fz2,w2⟩:=o2.lst0
    cases r2
    obtain ⟨its2,rv2,pl2,_⟩:=I.list fz2.sq
    have hl2:=pl2.isList
    exact ⟨EqAt.tuple_list hl1 hl2 hu,RcAt.tuple_list hl1 hl2 hu,RcNeAt.tuple_list hl1 hl2 hu⟩
   | tuple c2 =>
    obtain ⟨p1,vs1,rfl,fz1,w1⟩:=o1.tup0
    cases r1
    obtain ⟨its1,rv1,pl1,_⟩:=I.tuple fz1.sq
    have hl1:s.heap.IsTuple p1 its1.toArray:=pl1
    obtain ⟨p2,vs2,rfl,fz2,w2⟩:=o2.tup0
    cases r2
    obtain ⟨its2,rv2,pl2,_⟩:=I.tuple fz2.sq
    have hl2:s.heap.IsTuple p2 its2.toArray:=pl2
    have dl:eG c1≤n:=by simp only [iZ] at hdp; omega
    have nd1:bf c1=true:=by simpa [aL] using hna
    have nd2:bf c2=true:=by simpa [aL] using hnb
    have el:=pO (A:=A.in1) w1 w2 rv1 rv2 fun j a b x y v u e1 e2 q1 q2 q3 q4=>(ih a b A.in1 x y v u (Nat.le_trans (kA e1) dl) (eV nd1 e1) (eV nd2 e2) q1 q2 q3 q4 hu1).1
    have l1:=rv1.length
    have l2:=rv2.length
    have m1:=w1.len
    have m2:=w2.len
    have rc:RcAt A s (.ref p1) (.ref p2) (e9 c1 c2)∧RcNeAt A s (.ref p1) (.ref p2) (!e9 c1 c2):=by
     have z1:=RcAt.tuples hl1 hl2 hu el
     have z2:=RcNeAt.tuples hl1 hl2 hu el
     have ez:((List.range (min its1.toArray.size its2.toArray.size)).all (eAt c1 c2) && its1.toArray.size == its2.toArray.size)=e9 c1 c2:=by
      rw [List.size_toArray,List.size_toArray]
      by_cases hz:c1.length=c2.length
      ·have h3:its1.length=its2.length:=by omega
       have h4:min its1.length its2.length=c1.length:=by omega
       rw [h4,lF hz,h3,beq_self_eq_true,Bool.and_true]
      ·have h3:(its1.length == its2.length)=false:=by rw [beq_eq_false_iff_ne]; omega
       rw [h3,Bool.and_false,lE hz]
     rw [ez] at z1 z2
     exact ⟨z1,z2⟩
    have pe:peq (.tuple c1) (.tuple c2)=e9 c1 c2:=by simp only [peq]
    refine ⟨?_,by rw [pe]; exact rc.1,by rw [pe]; exact rc.2⟩
    by_cases hp:p1=p2
    ·subst hp
     have:=Ow.inj I _ _ o1 o2 hna
     cases this
     rw [lG _ hna]
     exact EqAt.same _
    ·rw [pe]
     exact EqAt.of_refs hp rc.1
   | dict c2=>simp [aL] at hnb
  | dict c1=>simp [aL] at hna
end
def eqD (a b:D):Option D:=grd (aL a=true∧aL b=true∧iZ a≤60) (.bool (peq a b))
def neD (a b:D):Option D:=grd (aL a=true∧aL b=true∧iZ a≤60) (.bool (!peq a b))
section
variable {X:Cx} {K:PySem.W.Frag}
theorem aV (hK:X.K=K) (hu:X.A.units+64 < cLine):OpR X (compareOp .Eq) (rF2 K eqD 3):=by
 subst hK
 intro pins s σ H x y v u Q I rx ry ⟨O,a,b,t,oa,ob,hd,hg,k⟩
 obtain ⟨⟨c1,c2,c3⟩,rfl⟩:=cK hg
 exact (sj I 60 a b X.A x y v u c3 c1 c2 oa ob rx ry (by omega)).2.1 X.prog X.w _ _ ⟨.bl _,H,I,rfl,k _ H NoA .refl rfl⟩
theorem dZ (hK:X.K=K) (hu:X.A.units+64 < cLine):OpR X (compareOp .NotEq) (rF2 K neD 3):=by
 subst hK
 intro pins s σ H x y v u Q I rx ry ⟨O,a,b,t,oa,ob,hd,hg,k⟩
 obtain ⟨⟨c1,c2,c3⟩,rfl⟩:=cK hg
 exact (sj I 60 a b X.A x y v u c3 c1 c2 oa ob rx ry (by omega)).2.2 X.prog X.w _ _ ⟨.bl _,H,I,rfl,k _ H NoA .refl rfl⟩
end
end L2
namespace L2
open PySem PySem.Spec PyProof.Rows
theorem Bi {K:PySem.W.Frag} {dps:List Nat} {dr n:Nat} {F:List D→Option (D × En)} {vs:List V} {H:Hp} {Q:VK} {E:XK} (hn:dps.length=n) (h:spF K dps dr F vs H Q E):vs.length=n:=by
 obtain ⟨Ox,ts,R,r,outs,e,_⟩:=h
 have:=e.l2
 rw [List.length_map] at this
 omega
section
variable {X:Cx} {K:PySem.W.Frag} {p:Bool} {J:Jd} {ds ds0 ds1 ds2 ds3 ds':List Nat} {d d' d1 d2 d3:Nat} {a b c e:Expr} {st:Stmt} {f f1 f2 f3:ME} {m:MS} {pos p2:Pos}
theorem BW (h:PS X st (tFS K J ds ds2 m)) (hd:leD ds1 ds2=true):PS X st (tFS K J ds ds1 m):=h.imp fun _ _ _=>tM hd
def dk (g g':D→D→Option D) (f1 f2 f3:ME):ME:=fun en=>(f1 en).bind fun r=>(f2 r.2).bind fun q=>(g r.1 q.1).bind fun t=>match t with
 | .bool true=>(f3 q.2).bind fun z=>(g' q.1 z.1).map fun t=>(t,z.2)
 | .bool false=>some (.bool false,q.2)
 | _=>none
theorem qZ {g g':D→D→Option D} {σ:St} {H:Hp} {Q:VK} (h:tF K p ds ds1 3 (dk g g' f1 f2 f3) σ H Q) :
  pj (rF2 K g 3) (rF2 K g' 3) (tF K p ds ds0 d1 f1) (tF K p ds0 ds1 d2 f2) (tF K p ds1 ds1 d3 f3) σ H Q:=by
 obtain ⟨Ox,en,R,t,en',e,hf,k⟩:=h
 unfold dk at hf
 obtain ⟨⟨t1,en1⟩,h1,hf⟩:=Option.bind_eq_some_iff.mp hf
 obtain ⟨⟨t2,en2⟩,h2,hf⟩:=Option.bind_eq_some_iff.mp hf
 obtain ⟨tb,h3,hf⟩:=Option.bind_eq_some_iff.mp hf
 refine two (p1:=p) (p2:=p) e h1 h2 fun x y H2 R2 F1 F2 P o1 o2=>?_
 rw [Bool.and_self] at P
 have oy:=Ow.letgo P (fun _=>.inr) o2
 refine ⟨Own R2 Ox,t1,t2,tb,Ow.letgo P (fun _=>.inl) o1,oy,P.doms,h3,fun v3 H3 F3 n3 o3=>?_⟩
 have P3:=P.fin n3
 cases tb with
 | bool bb =>
  refine ⟨bb,o3,?_⟩
  cases bb with
  | false =>
   cases hf
   exact k _ H3 R2 NoA (P3.less fun _ z=>z.elim) rfl
  | true =>
   obtain ⟨⟨t4,en4⟩,h4,hf⟩:=Option.bind_eq_some_iff.mp hf
   obtain ⟨t5,h5,hf⟩:=Option.map_eq_some_iff.mp hf
   cases hf
   have P30:=P3.less (F':=NoA) fun _ z=>z.elim
   refine ⟨Ox,en2,R2,t4,en4,P30.env0,h4,fun v4 H4 R4 F4 P4 o4=>?_⟩
   have P34:=P30.after P4
   rw [Bool.and_self] at P34
   have oy3:Ow K (Own R2 Ox) H3 t2 0 y NoA:=Ow.mv (G:=NoA) ⟨fun a o q _=>n3.1 a o q,fun a z=>.inl z⟩ t2 (fun _ z=>z) oy
   have oy4:Ow K (Own R4 Ox) H4 t2 0 y NoA:=by
    refine Ow.mv (G:=NoA) ⟨fun a o q z=>P4.keep a o q fun i zi=>?_,fun a z=>?_⟩ t2 (fun _ z=>z) oy3
    ·rcases z with z | z
     ·exact z (.inl ⟨i,zi⟩)
     ·exact z
    ·rcases z with z | z
     ·exact (P4.own a (.inr z)).imp .inl id
     ·exact .inl (.inr z)
   exact ⟨Own R4 Ox,t2,t4,_,oy4,Ow.letgo P4 (fun _ z=>z) o4,P4.doms,h5,fun v5 H5 F5 n5 o5=>k v5 H5 R4 F5 (P34.fin n5) (nb ▸ o5)⟩
 | _=>cases hf
theorem vi {op op':CmpOp} {g g':D→D→Option D} (ho:OpR X (compareOp op) (rF2 K g 3)) (ho':OpR X (compareOp op') (rF2 K g' 3)) (ha:PE X a (tF K p ds ds0 d1 f1)) (hb:PE X b (tF K p ds0 ds1 d2 f2)) (hc:PE X c (tF K p ds1 ds1 d3 f3))
  (hm:lastMarks [op,op'] [b,c]=false):PE X (.Compare a [op,op'] [b,c] pos) (tF K p ds ds1 3 (dk g g' f1 f2 f3)):=(uL ho ho' ha hb hc hm).imp fun _ _ _=>qZ
theorem u7 {op op':CmpOp} {g g':D→D→Option D} (ho:OpR X (compareOp op) (rF2 K g 3)) (ho':OpR X (compareOp op') (rF2 K g' 3)) (ha:PE X a (tF K p ds ds0 d1 f1)) (hb:PE X b (tF K p ds0 ds1 d2 f2)) (hc:PE X c (tF K p ds1 ds1 d3 f3))
  (hm:lastMarks [op,op'] [b,c]=false):PT X (.Compare a [op,op'] [b,c] pos) (tFT K p ds ds1 (tV (dk g g' f1 f2 f3))) :=
 (uF ho ho' ha hb hc hm).imp fun σ H Q h=>by
  obtain ⟨Ox,en,R,t,en',e,hf,k⟩:=pT (d:=3) h
  exact qZ ⟨Ox,en,R,t,en',e,hf,k⟩
abbrev MO:=En→Option (Option Int × En)
def tFO (K:PySem.W.Frag) (p:Bool) (ds ds':List Nat) (f:MO):TO:=fun σ H Q=>∃ Ox en R o en',EnvOk K ds Ox H σ en R∧f en=some (o,en')∧∀ H' R',Post K p ds' Ox σ H en R en' H' R' NoA→Q o H'
def cz:MO:=fun en=>some (none,en)
def cq (f:ME):MO:=fun en=>(f en).bind fun r=>match r.1 with
 | .int i=>some (some i,r.2)
 | _=>none
theorem PO.imp {X:Cx} {e:Option Expr} {t t':TO} (h:PO X e t) (hi:∀ σ H Q,t' σ H Q→t σ H Q):PO X e t':=fun pins s σ H Q I hw=>h pins s σ H Q I (hi _ _ _ hw)
theorem B3:PO X none (tFO K p ds ds cz):=po_none.imp fun σ H Q ⟨Ox,en,R,o,en',e,hf,k⟩=>by
 cases hf
 exact k H R (Post.refl e)
theorem B2 (h:PE X e (tF K p ds ds1 d f)):PO X (some e) (tFO K p ds ds1 (cq f)):=(Br h).imp fun σ H Q ⟨Ox,en,R,o,en',e,hf,k⟩=>by
 unfold cq at hf
 obtain ⟨⟨t1,en1⟩,h1,hf⟩:=Option.bind_eq_some_iff.mp hf
 refine ⟨Ox,en,R,t1,en1,e,h1,fun v H' R' F P o=>?_⟩
 cases t1 with
 | int i=>cases hf; exact ⟨i,o,k H' R' (P.less fun _ z=>z.elim)⟩
 | _=>cases hf
def rFs (K:PySem.W.Frag) (g:D→Option Int→Option Int→Option D) (d:Nat):V→Option Int→Option Int→Hp→VK→Prop:=fun x lo hi H Q=>∃ (O:AS) (a t:D),Ow K O H a 0 x NoA∧(∀ a,O a→∃ o,H a=some o)∧g a lo hi=some t∧∀ v H' F,NewTo H H' F→Ow K (U F O) H' t d v F→Q v H'
def eSl (g:D→Option Int→Option Int→Option D) (f:ME) (lo hi:MO):ME:=fun en=>(f en).bind fun r=>(lo r.2).bind fun l=>(hi l.2).bind fun h=>(g r.1 l.1 h.1).map fun t=>(t,h.2)
variable {lo hi:MO}
theorem Ow.past0 {H1 H2:Hp} {R1 R2:Nat→AS} {Ox:AS} {σ:St} {en1 en2:En} {F2:AS} {t:D} {v:V} (P2:Post K p ds2 Ox σ H1 en1 R1 en2 H2 R2 F2) (h:Ow K (Own R1 Ox) H1 t 0 v NoA):Ow K (Own R2 Ox) H2 t 0 v NoA:=by
 refine Ow.mv (G:=NoA) ⟨fun a o q z=>P2.keep a o q fun i zi=>?_,fun a z=>?_⟩ t (fun _ z=>z) h
 ·rcases z with z | z
  ·exact z (.inl ⟨i,zi⟩)
  ·exact z
 ·rcases z with z | z
  ·exact (P2.own a (.inr z)).imp .inl id
  ·exact .inl (.inr z)
theorem Hx {g:D→Option Int→Option Int→Option D} {σ:St} {H:Hp} {Q:VK} (h:tF K p ds ds3 d (eSl g f lo hi) σ H Q):tSl (rFs K g d) (tF K p ds ds1 d1 f) (tFO K p ds1 ds2 lo) (tFO K p ds2 ds3 hi) σ H Q:=by
 obtain ⟨Ox,en,R,t,en',e,hf,k⟩:=h
 unfold eSl at hf
 obtain ⟨⟨t1,en1⟩,h1,hf⟩:=Option.bind_eq_some_iff.mp hf
 obtain ⟨⟨l,en2⟩,h2,hf⟩:=Option.bind_eq_some_iff.mp hf
 obtain ⟨⟨u,en3⟩,h3,hf⟩:=Option.bind_eq_some_iff.mp hf
 obtain ⟨t',h4,hf⟩:=Option.map_eq_some_iff.mp hf
 cases hf
 refine ⟨Ox,en,R,t1,en1,e,h1,fun v H1 R1 F1 P1 o1=>?_⟩
 have o0:=Ow.letgo P1 (fun _ z=>z) o1
 refine ⟨Ox,en1,R1,l,en2,P1.env0,h2,fun H2 R2 P2=>?_⟩
 refine ⟨Ox,en2,R2,u,en3,P2.env0,h3,fun H3 R3 P3=>?_⟩
 have P:=(P1.after P2).after P3
 rw [Bool.and_self,Bool.and_self] at P
 exact ⟨Own R3 Ox,t1,t,(o0.past0 P2).past0 P3,P3.doms,h4,fun v4 H4 F4 n4 o4=>k v4 H4 R3 F4 (P.fin n4) (nb ▸ o4)⟩
theorem SlR.imp {r r':V→Option Int→Option Int→Hp→VK→Prop} (h:SlR X r) (hi:∀ x lo hi H Q,r' x lo hi H Q→r x lo hi H Q):SlR X r':=fun pins s σ H x v vl vu lo hi' sl Q I rx hs pl pu q=>h pins s σ H x v vl vu lo hi' sl Q I rx hs pl pu (hi _ _ _ _ _ q)
theorem vf {g:D→Option Int→Option Int→Option D} {elo ehi:Option Expr} (hr:SlR X (rFs K g d)) (he:PE X e (tF K p ds ds1 d1 f)) (hl:PO X elo (tFO K p ds1 ds2 lo)) (hu:PO X ehi (tFO K p ds2 ds3 hi)):PE X (.Subscript e (.Slice elo ehi none p2) pos) (tF K p ds ds3 d (eSl g f lo hi)) :=
 (uJ hr he hl hu).imp fun _ _ _=>Hx
def b9 {α:Type} (xs:List α) (lo hi:Option Int):List α:=(xs.drop (HT.sIx xs.length 0 lo)).take (HT.sIx xs.length xs.length hi - HT.sIx xs.length 0 lo)
def fE:D→Option Int→Option Int→Option D
 | .list ts,lo,hi=>some (.list (b9 ts lo hi))
 | _,_,_=>none
theorem eE (hK:X.K=K):SlR X (rFs K fE 1):=(Ht hK).imp fun x lo hi H Q ⟨O,a,t,oa,hd,hg,k⟩=>by
 cases a with
 | list ts =>
  cases hg
  obtain ⟨a,vs,e1,f1,w1⟩:=oa.lst0
  refine ⟨a,vs,e1,f1.sq,fun p hp=>?_⟩
  have w2:Ows K O H (b9 ts lo hi) 0 (i3 vs lo hi) NoA:=by
   unfold b9 i3
   rw [w1.len]
   exact (w1.drop _).take _
  exact k _ _ _ (df hp hd w2).1 (df hp hd w2).2
 | _=>cases hg
def lT:D→Option Int→Option Int→Option D
 | .str z,lo,hi=>grd (z.length≤sizeLine) (.str ⟨(cQ z.cps.toList lo hi).toArray⟩)
 | _,_,_=>none
theorem kz:SlR X (rFs K lT 3):=sl_str.imp fun x lo hi H Q ⟨O,a,t,oa,hd,hg,k⟩=>by
 cases a with
 | str z =>
  obtain ⟨c,rfl⟩:=cK hg
  exact ⟨z,oa,c,k _ H NoA .refl rfl⟩
 | _=>cases hg
end
end L2
namespace L2
open PySem PySem.Spec PyProof.Rows
def kEq:D→D→Bool
 | .int a,.int b=>a == b
 | .str a,.str b=>a == b
 | _,_=>false
def kOf:D→Option Key
 | .int i=>some (.inl i)
 | .str x=>some (.inr x)
 | _=>none
def Be (ks:List (D × D)) (q:D):Option D:=(ks.find? fun kv=>kEq kv.1 q).map (·.2)
def HB (ks:List (D × D)) (q t:D):List (D × D):=if ks.any (fun kv=>kEq kv.1 q) then ks.map (fun kv=>if kEq kv.1 q then (kv.1,t) else kv) else ks++[(q,t)]
section
variable {K:PySem.W.Frag} {O:AS} {H:Hp} {d:Nat}
end
def Ig:D→D→Option D
 | .dict ks,q=>(kOf q).bind fun _=>Be ks q
 | _,_=>none
section
variable {X:Cx} {K:PySem.W.Frag} {p:Bool} {J:Jd} {ds ds0 ds1 ds2 ds':List Nat} {d d' d1 d2:Nat} {a b c e o k:Expr} {f f1 f2 fk fe:ME} {pos px spos:Pos} {i:Nat} {σ:St} {H:Hp} {Q:VK} {Dn:Ends}
def HL (i:Nat) (f:ME):ME:=fun en=>(en[i]?).join.bind fun _=>(f en).bind fun r=>match (r.2[i]?).join with
 | some (.dict ks)=>(kOf r.1).bind fun _=>(Be ks r.1).map fun t=>(t,r.2)
 | _=>none
end
end L2
namespace L2
open PySem PySem.Spec PyProof.Rows
def evP:List (ME × ME)→En→Option (List (D × D) × En)
 | [],en=>some ([],en)
 | (fk,fv) :: r,en=>(fk en).bind fun x=>(fv x.2).bind fun y=>(evP r y.2).bind fun z=>(kOf x.1).map fun _=>((x.1,y.1) :: z.1,z.2)
def E2 (ks:List (D × D)):List (D × D):=ks.foldl (fun acc kv=>HB acc kv.1 kv.2) []
def Hc (fs:List (ME × ME)):ME:=fun en=>(evP fs en).bind fun r=>if r.1.length≤15 then some (.dict (E2 r.1),r.2) else none
section
variable {X:Cx} {K:PySem.W.Frag} {p:Bool} {J:Jd} {ds ds0 ds1 ds2 ds':List Nat} {d d' d1 d2:Nat} {a b c e o k:Expr} {es:List Expr} {f f1 f2 fk fe:ME} {fa:MA} {sh:Sh} {pos px spos:Pos} {i j:Nat} {σ:St} {H:Hp} {Q:VK} {Dn:Ends}
def HW (i j:Nat) (fa:MA):MS:=fun en=>(fa en).bind fun r=>match r.1 with
 | [.inl a,.inl b]=>some (.nx ((r.2.set i (some a)).set j (some b)))
 | _=>none
end
section
variable {X:Cx} {K:PySem.W.Frag}
end
end L2
namespace L2
open PySem PySem.Spec PyProof.Rows
section
variable {X:Cx} {K:PySem.W.Frag} {O:AS} {H:Hp} {ts us:List D} {vs ws:List V} {x y:V} {d:Nat} {Q:VK}
def Gr (K:PySem.W.Frag):List V→Hp→VK→Prop:=fun xs H Q=>∃ (p:Addr) (ns:List Int),xs=[.ref p]∧SqL K H p (ns.map V.int)∧Q (.int ns.sum) H
theorem uh (hc:X.calm=true):CallR X (.builtin "sum") (Gr X.K):=by
 intro pins s σ H xs us Q I r h
 obtain ⟨p,ns,rfl,hp,q⟩:=h
 obtain ⟨u,rfl,ru⟩:=dB r
 cases ru
 obtain ⟨its,rv,pl,hz⟩:=I.list hp
 have hl:its.length=ns.length:=by rw [← rv.length,List.length_map]
 have hlt:p < s.heap.objs.size:=by
  obtain ⟨o,n,e,_⟩:=id pl
  exact Heap.lt_size e
 have hsz:its.toArray.size=ns.length:=by rw [List.size_toArray,hl]
 refine call_sum_walkAnyS (wpAny_pyIter_list pl.isList ?_)
 refine ⟨s.heap.objs.size,[s.heap.objs.size,p],[s.heap.objs.size],_,its.toArray.size,fun i v=>its.toArray[i]?=some v,_,fun i=>ns.getD i 0,rfl,(Walks.list (A:=X.A.in1) (show X.A.in1.handled=none from I.ok.hd hc) s.heap.objs.size p (Nat.ne_of_lt hlt) its.toArray).toS,?_,?_,?_,?_⟩
 ·exact ⟨⟨_,Heap.get?_push_size _ rfl,rfl,rfl⟩,pl.isList.push _⟩
 ·intro b hb
  show b < (s.heap.push _).objs.size
  rw [Heap.size_push]
  have hb':b=s.heap.objs.size∨b=p:=by simpa using hb
  rcases hb' with rfl | rfl
  ·exact Nat.lt_succ_self _
  ·exact Nat.lt_succ_of_lt hlt
 ·intro i v hv
  have hv':its[i]?=some v:=by simpa using hv
  have hi:i < ns.length:=by
   rw [← hl]
   exact (List.getElem?_eq_some_iff.mp hv').1
  obtain ⟨u,hu,ru⟩:=rv.get (i:=i) (x:=V.int ns[i]) (by rw [List.getElem?_map,List.getElem?_eq_getElem hi]; rfl)
  rw [hu] at hv'
  cases hv'
  obtain ⟨t,rfl⟩:=ru
  refine ⟨t,?_⟩
  show Value.int ns[i] t=Value.int (ns.getD i 0) t
  rw [List.getD_eq_getElem?_getD,List.getElem?_eq_getElem hi]
  rfl
 ·intro s' t' hm
  have e:preSum (fun i=>ns.getD i 0) its.toArray.size=ns.sum:=by
   rw [hsz,lm ns ns.length (Nat.le_refl _),List.take_length]
  rw [e]
  obtain ⟨hh,g,dr,tk,os'⟩:=s'
  have e1:dr=s.drawn:=hm.drawn
  have e2:os'=s.os:=hm.os
  have e3:g=s.gens:=hm.gens
  subst e1 e2 e3
  refine ⟨.int ns.sum,H,I.kept (t':=tk) fun b o z=>hm.heap b o ?_ (Heap.get?_push_of_some _ z),⟨_,rfl⟩,q⟩
  intro z'
  have z'':b=s.heap.objs.size:=by simpa using z'
  exact Nat.ne_of_lt (Heap.lt_size z) z''
def pP:List D→Option (List Int)
 | []=>some []
 | .int i :: r=>(pP r).map (i :: ·)
 | _ :: _=>none
theorem pD:∀ {ts:List D} {vs:List V} {bs:List Int},Ows K O H ts 0 vs NoA→pP ts=some bs→vs=bs.map V.int
 | [],_,_,h,hb=>by cases hb; exact h
 | .int b :: r,_,_,h,hb=>by
  obtain ⟨v,w,F1,F2,e,_,_,_,h4,h5⟩:=h
  obtain ⟨bs',h6,h7⟩:=Option.map_eq_some_iff.mp hb
  subst e h7
  rw [show v=.int b from h4,pD (Ows.any0 r h5) h6]
  rfl
 | .none :: _,_,_,_,hb=>by cases hb
 | .bool _ :: _,_,_,_,hb=>by cases hb
 | .str _ :: _,_,_,_,hb=>by cases hb
 | .list _ :: _,_,_,_,hb=>by cases hb
 | .tuple _ :: _,_,_,_,hb=>by cases hb
 | .dict _ :: _,_,_,_,hb=>by cases hb
def pp:List D→Option D
 | [.list ts]=>(pP ts).map fun ns=>.int ns.sum
 | _=>none
theorem FG (hK:X.K=K) (hc:X.calm=true):CallR X (.builtin "sum") (rFn K pp 3):=by
 subst hK
 refine (uh hc).imp fun xs H Q ⟨O,as,t,oa,hd,hg,k⟩=>?_
 match as,hg with
 | [.list ts],hg =>
  obtain ⟨ns,h1,rfl⟩:=Option.map_eq_some_iff.mp hg
  obtain ⟨v,rfl,o⟩:=oa.one
  obtain ⟨a,vs,rfl,fz,w⟩:=o.lst0
  have e:=pD w h1
  subst e
  exact ⟨a,ns,rfl,fz.sq,k _ H NoA .refl rfl⟩
end
end L2
namespace L2
open PySem PySem.Spec PyProof.Rows
section
variable {X:Cx} {K:PySem.W.Frag} {p:Bool} {ds ds1:List Nat} {O:AS} {H:Hp} {σ:St} {d:Nat} {f:ME} {i:Nat} {e:Expr} {Q:VK}
end
end L2
namespace L2
open PySem PySem.Spec PyProof.Rows
section
variable {X:Cx} {K:PySem.W.Frag} {p:Bool} {ds ds1:List Nat} {d:Nat} {fa:MA} {sh:Sh} {O O1:AS} {H0 H:Hp} {ts us:List D} {vs ws:List V} {a b:Addr}
def iS (ts us:List D):List D:=List.zipWith (fun x y=>.tuple [x,y]) ts us
theorem EU {t u:D} {v w:V} {q:Addr} (hp:H q=none) (h3:∀ a,O1 a→∃ o,H a=some o) (ov:Ow K O1 H t 0 v NoA) (ow:Ow K O1 H u 0 w NoA):(∀ a o,H a=some o→upd H q (.tup [v,w]) a=some o)∧Ow K O1 (upd H q (.tup [v,w])) (.tuple [t,u]) 0 (.ref q) NoA:=by
 have g:=(cr (o:=.tup [v,w]) hp).1
 refine ⟨g,q,[v,w],rfl,.inl ⟨rfl,⟨br,fun z=>?_⟩,v,[w],NoA,NoA,rfl,fun _ z=>z,fun _ z=>z,fun _ z=>z.elim,?_,w,[],NoA,NoA,rfl,fun _ z=>z,fun _ z=>z,fun _ z=>z.elim,?_,rfl⟩⟩
 ·obtain ⟨o,e⟩:=h3 q z
  rw [hp] at e
  cases e
 ·exact Ow.mv (G:=NoA) ⟨fun a o e _=>g a o e,fun a z=>.inl z⟩ t (fun _ z=>z) ov
 ·exact Ow.mv (G:=NoA) ⟨fun a o e _=>g a o e,fun a z=>.inl z⟩ u (fun _ z=>z) ow
def HU (fa:MA):MI:=fun en=>(fa en).bind fun r=>match r.1 with
 | [.inl (.list ts),.inl (.list us)]=>some (iS ts us,r.2)
 | _=>none
end
end L2
namespace L2
open PySem PySem.Spec PyProof.Rows
section
variable {X:Cx} {K:PySem.W.Frag} {p:Bool} {ds ds1:List Nat} {d1:Nat} {e:Expr} {f:ME}
end
end L2
namespace L2
open PySem PySem.Spec PyProof.Rows
section
variable {X:Cx} {K:PySem.W.Frag} {p p1 p2:Bool} {ds ds1 ds2:List Nat} {d d1:Nat} {e:Expr} {f:ME} {fa:MA} {sh:Sh} {σ:St} {H:Hp} {Q:VK}
def eM (g:Str→List D→Option D) (f:ME) (fa:MA):ME:=fun en=>(f en).bind fun r=>match r.1 with
 | .str z=>(fa r.2).bind fun q=>(vals q.1).bind fun ts=>(g z ts).map fun t=>(t,q.2)
 | _=>none
structure MtF (K:PySem.W.Frag) (r:V→List V→Hp→VK→Prop) (g:Str→List D→Option D):Prop where
 h:∀ {O:AS} {H:Hp} {z:Str} {ts:List D} {xs:List V} {t:D} {Q:VK},Ows K O H ts 0 xs NoA→g z ts=some t→(∀ v,Ow K O H t 3 v NoA→Q v H)→r (.str z) xs H Q
theorem Gd {r:V→List V→Hp→VK→Prop} {g:Str→List D→Option D} (hr:MtF K r g) (hs:cV 0 sh=true) (h:tF K (p1 && p2) ds ds2 3 (eM g f fa) σ H Q):tBM K "str" r (tF K p1 ds ds1 d1 f) (tFA K p2 ds1 ds2 sh fa) σ H Q:=by
 obtain ⟨Ox,en,R,t,en',e,hf,k⟩:=h
 unfold eM at hf
 obtain ⟨⟨t1,en1⟩,h1,hf⟩:=Option.bind_eq_some_iff.mp hf
 dsimp only at hf
 split at hf
 case h_2=>cases hf
 next z =>
 obtain ⟨⟨as,en2⟩,h2,hf⟩:=Option.bind_eq_some_iff.mp hf
 obtain ⟨ts,h3,hf⟩:=Option.bind_eq_some_iff.mp hf
 obtain ⟨t',h4,hf⟩:=Option.map_eq_some_iff.mp hf
 cases hf
 refine ⟨Ox,en,R,.str z,en1,e,h1,fun x H1 R1 F1 P1 o1=>?_⟩
 have ex:x=.str z:=o1
 subst ex
 refine ⟨rfl,Ox,en1,R1,as,en2,P1.env0,h2,fun vs H2 R2 F P2 o=>?_⟩
 have P:=P1.after P2
 obtain ⟨F',s1,s2⟩:=OwA.ows hs h3 o
 have o2:Ows K (Own R2 Ox) H2 ts 0 vs F':=s2 _ (fun a z=>z.imp id .inr) fun a z z2=>by
  rcases z2 with ⟨i,z2⟩ | z2
  ·exact absurd (.inl z) (P.env.dx i a z2)
  ·exact absurd z2 (P.fx a z)
 refine hr.h (Ows.any0 ts o2) h4 fun v ov=>k v H2 R2 NoA (P.less fun _ z=>z.elim) ?_
 rw [ij]
 exact ov
def joinD:Str→List D→Option D
 | sep,[.list ts]=>(strsOf ts).bind fun ys=>if sep.length≤16∧(ys.map (·.length)).sum+ys.length≤1048576 then some (.str (Txt.join sep ys)) else none
 | sep,[.tuple ts]=>(strsOf ts).bind fun ys=>if sep.length≤16∧(ys.map (·.length)).sum+ys.length≤1048576 then some (.str (Txt.join sep ys)) else none
 | _,_=>none
where strsOf:List D→Option (List Str)
 | []=>some []
 | .str z :: r=>(strsOf r).map (z :: ·)
 | _ :: _=>none
theorem lJ {O:AS}:∀ {ts:List D} {ys:List Str} {xs:List V},joinD.strsOf ts=some ys→Ows K O H ts 0 xs NoA→xs=ys.map V.str
 | [],ys,xs,h,o=>by
  cases h
  exact o
 | t :: ts,ys,xs,h,o=>by
  obtain ⟨v,r,F1,F2,e,_,_,_,h4,h5⟩:=o
  cases t with
  | str z =>
   obtain ⟨ys',h6,rfl⟩:=Option.map_eq_some_iff.mp h
   have e4:v=.str z:=h4
   rw [e,e4,lJ h6 (Ows.any0 ts h5)]
   rfl
  | _=>cases h
theorem hV:MtF K (AZ K) joinD where
 h:=fun {O H z ts xs t Q} o hg q=>by
  unfold joinD at hg
  split at hg
  ·next us =>
   obtain ⟨ys,h1,h2⟩:=Option.bind_eq_some_iff.mp hg
   by_cases hc:z.length≤16∧(ys.map (·.length)).sum+ys.length≤1048576
   case neg=>rw [if_neg hc] at h2; cases h2
   rw [if_pos hc] at h2
   cases h2
   obtain ⟨v,r,F1,F2,e,_,_,_,h4,h5⟩:=o
   have e5:r=[]:=h5
   subst e5 e
   obtain ⟨a,vs,rfl,fz,w⟩:=(Ow.any0 _ h4).lst0
   have e6:=lJ h1 w
   subst e6
   exact ⟨z,ys,a,rfl,rfl,.inl fz.sq,hc.1,hc.2,q _ rfl⟩
  ·next us =>
   obtain ⟨ys,h1,h2⟩:=Option.bind_eq_some_iff.mp hg
   by_cases hc:z.length≤16∧(ys.map (·.length)).sum+ys.length≤1048576
   case neg=>rw [if_neg hc] at h2; cases h2
   rw [if_pos hc] at h2
   cases h2
   obtain ⟨v,r,F1,F2,e,_,_,_,h4,h5⟩:=o
   have e5:r=[]:=h5
   subst e5 e
   obtain ⟨a,vs,rfl,fz,w⟩:=(Ow.any0 _ h4).tup0
   have e6:=lJ h1 w
   subst e6
   exact ⟨z,ys,a,rfl,rfl,.inr fz.sq,hc.1,hc.2,q _ rfl⟩
  ·cases hg
def kS:Str→List D→Option D
 | z,[.str y]=>some (.bool (Txt.startswith z y))
 | _,_=>none
def pd:Str→List D→Option D
 | z,[.str y]=>some (.bool (Txt.endswith z y))
 | _,_=>none
theorem lK {O:AS} {y:Str} {xs:List V} (o:Ows K O H [.str y] 0 xs NoA):xs=[.str y]:=by
 obtain ⟨v,r,F1,F2,e,_,_,_,h4,h5⟩:=o
 have e4:v=.str y:=h4
 have e5:r=[]:=h5
 rw [e,e4,e5]
theorem tU:MtF K qK kS where
 h:=fun {O H z ts xs t Q} o hg q=>by
  unfold kS at hg
  split at hg
  ·next y =>
   cases hg
   exact ⟨z,y,rfl,lK o,q _ rfl⟩
  ·cases hg
theorem B6:MtF K A0 pd where
 h:=fun {O H z ts xs t Q} o hg q=>by
  unfold pd at hg
  split at hg
  ·next y =>
   cases hg
   exact ⟨z,y,rfl,lK o,q _ rfl⟩
  ·cases hg
def m5:Str→List D→Option D
 | z,[.str y]=>match y.cps.toList with
  | [c]=>some (.int ((li z).count c:Nat))
  | _=>none
 | _,_=>none
theorem vb:MtF K qL m5 where
 h:=fun {O H z ts xs t Q} o hg q=>by
  unfold m5 at hg
  split at hg
  ·next y =>
   split at hg
   ·next c he =>
    cases hg
    refine ⟨z,c,rfl,?_,q _ rfl⟩
    rw [lK o]
    obtain ⟨a⟩:=y
    have e:a=#[c]:=Array.toList_inj.mp he
    subst e
    rfl
   ·cases hg
  ·cases hg
theorem Cd {o:Expr} {es:List Expr} {name:Str} {id:String} {apos cpos:Pos} {r:V→List V→Hp→VK→Prop} {g:Str→List D→Option D} (hK:X.K=K) (slot:Slot "str" name id) (hty:typeOf (.builtin id)=pure (.type "method_descriptor")) (hm:MtR X id r) (hr:MtF K r g) (ho:PE X o (tF K p ds ds1 d1 f)) (ha:PA X (e :: es) (tFA K p ds1 ds2 sh fa))
  (hsh:cV 0 sh=true) (hbase:attributeBase o name X.env (eval o X.env)=eval o X.env)
  (hfew:((backTo cpos (starEach (e :: es) X.env)).all (fun x=>!x.1) && (backToKw cpos (keywordEach [] X.env)).all (fun x=>x.1.isSome)
   && decide ((e :: es).length+([]:List Keyword).length+(if ([]:List Keyword).isEmpty then 0 else 1) < 30))=true)
  (hline:(apos.endLine == cpos.line)=true) (hs:starEach (e :: es) X.env=(false,eval e X.env) :: starEach es X.env) (hplain:(backTo cpos (starEach es X.env)).any (·.1)=false) :
  PE X (.Call (.Attribute o name apos) (e :: es) [] cpos) (tF K p ds ds2 3 (eM g f fa)):=by
 subst hK
 exact (rG PySem.F.plainAttrs_str slot hty hm ho ha hbase hfew hline hs hplain).imp fun _ _ _ h=>Gd hr hsh (by rw [Bool.and_self]; exact h)
end
end L2
namespace L2
open PySem PySem.Spec PyProof.Rows
section
variable {X:Cx} {K:PySem.W.Frag} {pins:List (Addr × Obj)} {σ:St} {H:Hp} {s:Shared} {O:AS}
mutual
theorem Ow.reads (I:Inv X pins σ H s):∀ (t:D) {v:V} {u:Value},aL t=true→Ow X.K O H t 0 v NoA→RelV v u→∃ as,Reads s.heap u t as
 | .none,_,_,_,h,r=>by
  cases (show _=V.non from h)
  cases r
  exact ⟨_,.none⟩
 | .bool b,_,_,_,h,r=>by
  cases (show _=V.bl b from h)
  cases r
  exact ⟨_,.bool _⟩
 | .int i,_,_,_,h,r=>by
  cases (show _=V.int i from h)
  obtain ⟨t,rfl⟩:=r
  exact ⟨_,.int _ _⟩
 | .str x,_,_,_,h,r=>by
  cases (show _=V.str x from h)
  obtain ⟨t,rfl⟩:=r
  exact ⟨_,.str _ _⟩
 | .list ts,_,_,hn,h,r=>by
  obtain ⟨p,vs,rfl,fz,w⟩:=h.lst0
  cases r
  obtain ⟨its,rv,⟨o,n,e1,e2,_,e3⟩,_⟩:=I.list fz.sq
  obtain ⟨as,ra⟩:=Ows.reads I ts (by simpa [aL] using hn) w rv
  exact ⟨_,.list e1 e2 e3 (by simpa using ra)⟩
 | .tuple ts,_,_,hn,h,r=>by
  obtain ⟨p,vs,rfl,fz,w⟩:=h.tup0
  cases r
  obtain ⟨its,rv,⟨o,e1,e2,n,e3⟩,_⟩:=I.tuple fz.sq
  obtain ⟨as,ra⟩:=Ows.reads I ts (by simpa [aL] using hn) w rv
  exact ⟨_,.tuple e1 e2 e3 (by simpa using ra)⟩
 | .dict _,_,_,hn,_,_=>by simp [aL] at hn
theorem Ows.reads (I:Inv X pins σ H s):∀ (ts:List D) {vs:List V} {us:List Value},bf ts=true→Ows X.K O H ts 0 vs NoA→Vals vs us→∃ as,ReadsAll s.heap us ts as
 | [],_,_,_,h,r=>by
  cases (show _=[] from h)
  cases r
  exact ⟨_,.nil⟩
 | t :: ts,_,_,hn,h,r=>by
  obtain ⟨v,q,F1,F2,e,_,_,_,h4,h5⟩:=h
  subst e
  have hn':aL t=true∧bf ts=true:=by simpa [bf] using hn
  cases r with
  | cons ru rr =>
   obtain ⟨as,a1⟩:=Ow.reads I t hn'.1 (Ow.any0 t h4) ru
   obtain ⟨bs,a2⟩:=Ows.reads I ts hn'.2 (Ows.any0 ts h5) rr
   exact ⟨_,.cons a1 a2⟩
end
end
section
open PySem.SeqAt Classical
variable {X:Cx} {K:PySem.W.Frag} {pins:List (Addr × Obj)} {σ:St} {H:Hp} {s:Shared} {O:AS}
noncomputable def eqF (X:Cx) (O:AS) (H:Hp) (a:D) (u:Value):Bool:=decide (∃ d v,RelV v u∧aL d=true∧Ow X.K O H d 0 v NoA∧peq d a=true)
theorem uc (I:Inv X pins σ H s) {a d:D} {v:V} {u:Value} (r:RelV v u) (hn:aL d=true) (o:Ow X.K O H d 0 v NoA):eqF X O H a u=peq d a:=by
 unfold eqF
 cases h:peq d a with
 | true=>exact decide_eq_true ⟨d,v,r,hn,o,h⟩
 | false =>
  refine decide_eq_false fun ⟨d',v',r',hn',o',h'⟩=>?_
  have e:=r.inj r'
  subst e
  have:=Ow.inj I d d' o o' hn
  subst this
  rw [h] at h'
  cases h'
theorem nQ (I:Inv X pins σ H s) {a:D}:∀ {ts:List D} {vs:List V} {us:List Value},bf ts=true→Ows X.K O H ts 0 vs NoA→Vals vs us→us.any (eqF X O H a)=ts.any fun t=>peq t a
 | [],_,_,_,h,r=>by
  cases (show _=[] from h)
  cases r
  rfl
 | t :: ts,_,_,hn,h,r=>by
  obtain ⟨v,q,F1,F2,e,_,_,_,h4,h5⟩:=h
  subst e
  have hn':aL t=true∧bf ts=true:=by simpa [bf] using hn
  cases r with
  | cons ru rr=>rw [List.any_cons,List.any_cons,uc I ru hn'.1 (Ow.any0 t h4),nQ I hn'.2 (Ows.any0 ts h5) rr]
theorem nE (I:Inv X pins σ H s) {A:Around} {a:D} {x:V} {v:Value} (hna:aL a=true) (oa:Ow X.K O H a 0 x NoA) (ra:RelV x v) (hu:A.units+60+1 < cLine):∀ {ts:List D} {vs:List V} {us:List Value},bf ts=true→eG ts≤60→Ows X.K O H ts 0 vs NoA→Vals vs us→∀ u∈us,EqAt A s u v (eqF X O H a u)
 | [],_,_,_,_,h,r=>by
  cases (show _=[] from h)
  cases r
  exact fun u hu=>by cases hu
 | t :: ts,_,_,hn,hdp,h,r=>by
  obtain ⟨w,q,F1,F2,e,_,_,_,h4,h5⟩:=h
  subst e
  have hn':aL t=true∧bf ts=true:=by simpa [bf] using hn
  have hd':iZ t≤60∧eG ts≤60:=by simp only [eG] at hdp; omega
  cases r with
  | cons ru rr =>
   intro u' hu'
   rcases List.mem_cons.mp hu' with rfl | hu'
   ·rw [uc I ru hn'.1 (Ow.any0 t h4)]
    exact (sj I 60 t a A w x _ v hd'.1 hn'.1 hna (Ow.any0 t h4) oa ru ra hu).1
   ·exact nE I hna oa ra hu hn'.2 hd'.2 (Ows.any0 ts h5) rr u' hu'
def inL:D→D→Option D
 | x,.list ts=>grd (aL x=true∧bf ts=true∧eG ts≤60) (.bool (ts.any fun t=>peq t x))
 | x,.tuple ts=>grd (aL x=true∧bf ts=true∧eG ts≤60) (.bool (ts.any fun t=>peq t x))
 | _,_=>none
theorem GO (hK:X.K=K) (hu:X.A.units+64 < cLine):OpR X (compareOp .In) (rF2 K inL 3):=by
 subst hK
 intro pins s σ H x y v u Q I rx ry ⟨O,a,b,t,oa,ob,hd,hg,k⟩
 have hu1:X.A.in1.units+60+1 < cLine:=by show X.A.units+1+60+1 < cLine; omega
 cases b with
 | list ts =>
  obtain ⟨⟨c1,c2,c3⟩,rfl⟩:=cK hg
  obtain ⟨p,vs,rfl,fz,w⟩:=ob.lst0
  cases ry
  obtain ⟨its,r,pl,hz⟩:=I.list fz.sq
  refine SeqAt.in_listAt (eqF X O H a) pl.isList (fun z hz=>nE I c1 oa rx hu1 c2 c3 w r z (by simpa using hz)) ⟨.bl _,H,I,rfl,?_⟩
  rw [show its.toArray.any (eqF X O H a)=its.any (eqF X O H a) by simp,nQ I c2 w r]
  exact k _ H NoA .refl rfl
 | tuple ts =>
  obtain ⟨⟨c1,c2,c3⟩,rfl⟩:=cK hg
  obtain ⟨p,vs,rfl,fz,w⟩:=ob.tup0
  cases ry
  obtain ⟨its,r,pl,hz⟩:=I.tuple fz.sq
  refine SeqAt.in_tupleAt (eqF X O H a) pl (fun z hz=>nE I c1 oa rx hu1 c2 c3 w r z (by simpa using hz)) ⟨.bl _,H,I,rfl,?_⟩
  rw [show its.toArray.any (eqF X O H a)=its.any (eqF X O H a) by simp,nQ I c2 w r]
  exact k _ H NoA .refl rfl
 | _=>cases hg
end
end L2
namespace L2
open PySem PySem.Spec PyProof.Rows
section
variable {K:PySem.W.Frag} {O:AS} {H:Hp}
end
abbrev MP:=En→Option (List Nat × En)
section
variable {X:Cx} {K:PySem.W.Frag} {p p1 p2:Bool} {J:Jd} {ds ds1 ds2:List Nat} {H:Hp} {σ:St} {d d1 d2 i m:Nat} {f fk fe:ME} {mp:MP} {e b o:Expr} {Q:VK}
end
end L2
namespace L2
open PySem PySem.Spec PyProof.Rows
theorem BH {P:Program} {w:World} {K:PySem.W.Frag} {mg:Str→Option Value} {base:Heap} {k dr:Nat} {x:Str} {ps:List Str} {dps:List Nat} {f:Addr} {fd:FuncData} (m:mg x=some (.ref f)) (hk:PySem.W.keepIn K (.ref f)=true) (b:Binds K fd ps []):Kn P w K mg base k x ps (spF K dps dr fun _=>none) :=
 ⟨f,fd,⟨fun vs H Q E ⟨_,_,_,_,_,_,z,_⟩=>(nomatch z),fun A outer s H args us vs Q E _ _ _ _ ⟨_,_,_,_,_,_,z,_⟩=>(nomatch z)⟩,m,hk,b⟩
end L2
namespace L2
open PySem PySem.Spec PyProof.Rows
def cv (f:Nat→Str):Nat→List Str
 | 0=>[]
 | i+1=>if (cv f i).any (· == f i)=true then cv f i else cv f i++[f i]
theorem iF (f:Nat→Str) (i:Nat):cv f (i+1)=if (cv f i).any (· == f i)=true then cv f i else cv f i++[f i]:=rfl
theorem nC (f:Nat→Str):∀ i,(cv f i).length≤i
 | 0=>Nat.le_refl _
 | i+1=>by
  have h:=nC f i
  rw [iF]
  by_cases q:(cv f i).any (· == f i)=true
  ·rw [if_pos q]; omega
  ·rw [if_neg q,List.length_append]; show _+1≤_; omega
theorem uR (f:Nat→Str) (i:Nat) (x:Str):(cv f (i+1)).any (· == x)=((cv f i).any (· == x) || decide (x=f i)):=by
 rw [iF]
 by_cases q:(cv f i).any (· == f i)=true
 ·rw [if_pos q]
  by_cases e:x=f i
  ·rw [e,q,decide_eq_true rfl]; rfl
  ·rw [decide_eq_false e,Bool.or_false]
 ·rw [if_neg q,List.any_append]
  congr 1
  by_cases e:x=f i
  ·rw [e,decide_eq_true rfl]; simp
  ·rw [decide_eq_false e]
   simp only [List.any_cons,List.any_nil,Bool.or_false,beq_eq_false_iff_ne]
   exact fun z=>e z.symm
theorem uQ (f:Nat→Str) (i:Nat):(cv f (i+1)).length=if (cv f i).any (· == f i) then (cv f i).length else (cv f i).length+1:=by
 rw [iF]
 by_cases q:(cv f i).any (· == f i)=true
 ·rw [if_pos q,if_pos q]
 ·rw [if_neg q,if_neg q,List.length_append]; rfl
abbrev SetS (P:Program) (w:World) (h:Heap) (a:Addr) (f:Nat→Str) (n:Nat):Prop:=h.SetOf (strKind P w) a (fun k=>(cv f n).any (· == k)) (cv f n).length
section
variable {P:Program} {w:World} {A:Around} {R:Result→Shared→Prop} {I:Addr} {fp wr:List Addr} {G:Array GenState→Array GenState→Prop} {n:Nat} {Pi:Nat→Value→Prop} {St:Nat→Shared→Prop}
theorem SetS.mv {h h':Heap} {a:Addr} {f:Nat→Str} {n:Nat} (x:SetS P w h a f n) (k:∀ o,h.get? a=some o→h'.get? a=some o):SetS P w h' a f n:=by
 obtain ⟨o,es,ep,t,e,r⟩:=x
 exact ⟨o,es,ep,t,k o e,r⟩
theorem uC (W:WalksS P w A.in1 I fp wr G n Pi St) (a:Addr) (ha:a ∉ fp) (f:Nat→Str) (hf:∀ i v,Pi i v→∃ t,v=.str (f i) t) (hb:n+1 < scanBound) :
  ∀ (k i:Nat) (s:Shared),n - i=k→i≤n→St i s→SetS P w s.heap a f i →
   (∀ s',Moved (a :: wr) G s s'→SetS P w s'.heap a f n→R (.ok (.ret .none)) s')→codeAny (model P w) A (.builtin "set.update.loop" ⟨[.ref a,.ref I],[]⟩) R s:=by
 have hw:a ∉ wr:=fun h=>ha (W.sub _ h)
 intro k
 induction k with
 | zero =>
  intro i s hk hi st hS q
  obtain rfl:i=n:=by omega
  refine codeAny_builtin PyProof.Rows.F.entry_set_update_loop ?_
  rw [Around.under_plainId PyProof.Rows.F.plain_set_update_loop _]
  show wpAny _ _ (pyNext (.ref I) >>= _) _ _ s
  exact wpAny_bind (W.done s _ _ st fun s1 m=>wpAny_pure (q s1 (m.mono fun b h=>List.mem_cons_of_mem _ h) (hS.mv fun o e=>m.heap a o hw e)))
 | succ k ih =>
  intro i s hk hi st hS q
  have lt:i < n:=by omega
  refine codeAny_builtin PyProof.Rows.F.entry_set_update_loop ?_
  rw [Around.under_plainId PyProof.Rows.F.plain_set_update_loop _]
  show wpAny _ _ (pyNext (.ref I) >>= _) _ _ s
  refine wpAny_bind (W.item i s _ _ lt st fun v s1 hv st1 m=>?_)
  obtain ⟨t,rfl⟩:=hf i v hv
  have h1:SetS P w s1.heap a f i:=hS.mv fun o e=>m.heap a o hw e
  show wpAny _ _ (holding [Value.str (f i) t] (setAdd a (.str (f i) t)) >>= _) _ _ s1
  refine wpAny_bind (wpAny_holding ?_)
  unfold setAdd
  refine wpAny_holding (wpAny_bind ((strKind P w).pyHash (k:=f i) (strKind_is P w (f i) t) ?_))
  have le:=nC f i
  refine wpAny_setAddHashed_of (knd:=strKind P w) (s:={ s1 with toks:=s1.toks+1 }) (strKind_is P w (f i) t) rfl h1 (by omega) fun h2 sb h3=>?_
  have h4:SetS P w h2 a f (i+1):=SetOf_congr h3 (fun x=>(uR f i x).symm) (uQ f i).symm
  refine wpAny_pure ⟨plainId_quiet PyProof.Rows.F.plain_set_update_loop _,ih (i+1) _ (by omega) lt (W.frame _ s1 _ _ st1 (Nat.le_succ _) fun b hb o e=>?_) h4 fun s3 m3 h5=>?_⟩
  ·rw [sb.2 b fun z=>ha (z ▸ hb)]; exact e
  ·refine q s3 (Moved.trans W.gtrans ((m.mono fun b h=>List.mem_cons_of_mem _ h).then_heap (Nat.le_succ _) fun b o hb e=>?_) m3) h5
   rw [sb.2 b fun z=>hb (z ▸ List.mem_cons_self)]; exact e
end
section
variable {P:Program} {w:World} {A:Around} {E:Value→Shared→Prop} {s:Shared}
theorem qu:isSubtype (.type "str") (.type "set")=pure false:=by rw [isSubtype_type]; kernel_rfl
theorem k7:isSubtype (.type "str") (.type "frozenset")=pure false:=by rw [isSubtype_type]; kernel_rfl
def eB (z:Str) (i:Nat):Str:=match z.cps[i]? with
 | some c=>mk1 c
 | none=>""
abbrev mG (led:Bool):Obj:={ cls:=.type "set",dict:=none,data:=.set #[] 0 (.fresh 0 0 led) }
theorem oX {z:Str} {t:Tok} {Q:Value→Shared→Prop} (hh:A.handled=none) (hb:z.length+1 < scanBound)
  (h:∀ (h':Heap) (tk:Nat),SetS P w h' s.heap.objs.size (eB z) z.length→(∀ b o,b < s.heap.objs.size→s.heap.get? b=some o→h'.get? b=some o)→Q (.ref s.heap.objs.size) { s with heap:=h',toks:=tk }) :
  wpAny (model P w) A (call (.type "set") [.str z t]) Q E s:=by
 obtain ⟨c,tl,e0⟩:=PySem.F.called_set.mro
 have e1:=PySem.F.called_set.made
 have e2:=PySem.F.called_set.sub
 refine wpAny_call (codeAny_of_tree ?_)
 show wpAny _ _ (callAny (.type "set") ⟨[.str z t],[]⟩) _ _ _
 refine wpAny_pure ⟨Code.quiet_builtin _ (by decide +kernel),codeAny_builtin PySem.F.entry_type_call ?_⟩
 rw [Around.under_plain (weight_type_call_type "set" [.str z t] []) rfl]
 have e3:=PySem.F.called_set.notType
 have e4:=PySem.F.called_set.canCreate
 have e5:=PySem.F.typeCall_set_1 (.str z t)
 repeat (any_goals (first | assumption | wp_step))
 refine codeAny_mono (code_set_new_1 (.str z t) (E:=E) (Q₁:=fun obj s1=>∃ led:Bool,obj=.ref s.heap.objs.size∧s1={ s with heap:=s.heap.push (mG led) }) fun led=>⟨led,rfl,rfl⟩) fun r s1 hr=>?_
 cases r with
 | error e=>exact hr
 | ok fl =>
  cases fl with
  | ret obj =>
   obtain ⟨led,rfl,rfl⟩:=hr
   have g0:(s.heap.push (mG led)).get? s.heap.objs.size=some (mG led):=Heap.get?_push_size _ rfl
   have hT:Shared.TypeIs { s with heap:=s.heap.push (mG led) } (.ref s.heap.objs.size) "set":=⟨_,g0,rfl⟩
   have i1:=PySem.F.called_set.init.lookup
   have i2:=PySem.F.called_set.init.bind (.ref s.heap.objs.size)
   repeat (any_goals (first | assumption | wp_step))
   refine codeAny_mono (codeAny_call_builtin (R:=wants (fun r s2=>r=.none∧∃ h' tk,s2={ s with heap:=h',toks:=tk }∧SetS P w h' s.heap.objs.size (eB z) z.length ∧
     ∀ b o,b < s.heap.objs.size→s.heap.get? b=some o→h'.get? b=some o) E) PySem.F.called_set.init.plain PySem.F.entry_set_init (check_set_init_1 hT ?_)) fun r2 s2 hr2=>?_
   ·have j1:=qu
    have j2:=k7
    have j3:(Value.type "str" == Value.type "dict")=false:=by decide
    unfold Builtin.«set.__init__» noKeywords Builtin.Frozenset.updateFrom
    generalize hPI:pyIter=PI
    wp_walk
    subst hPI
    refine wpAny_pyIter_str fun o St W w0=>?_
    refine wpAny_bind (wpAny_runValue ?_)
    have hne:s.heap.objs.size ∉ [(s.heap.push (mG led)).objs.size]:=by rw [Heap.size_push]; simp
    refine uC ((W _ (by simp [hh])).toS) s.heap.objs.size hne (eB z) (fun i v ⟨c,u,ec,ev⟩=>⟨u,by rw [ev]; unfold eB; rw [ec]; rfl⟩) hb (z.length - 0) 0 _ rfl (Nat.zero_le _) w0 ?_ ?_
    ·exact SetOf_congr ((setObjOf_fresh (knd:=strKind P w) led).setOf (Heap.get?_push_of_some _ g0) (by unfold scanBound; omega)) (fun _=>rfl) rfl
    ·intro s3 m h3
     obtain ⟨h',g',d',tk,os'⟩:=s3
     obtain rfl:g'=s.gens:=m.gens
     obtain rfl:d'=s.drawn:=m.drawn
     obtain rfl:os'=s.os:=m.os
     refine wpAny_pure (wpAny_pure ⟨rfl,h',tk,rfl,h3,fun b o hb e=>?_⟩)
     refine m.heap b o ?_ (Heap.get?_push_of_some _ (Heap.get?_push_of_some _ e))
     simp only [List.mem_cons,List.not_mem_nil,or_false,not_or]
     exact ⟨Nat.ne_of_lt hb,Nat.ne_of_lt (Nat.lt_of_lt_of_le hb (by rw [Heap.size_push]; omega))⟩
   ·cases r2 with
    | error e=>exact hr2
    | ok fl2 =>
     cases fl2 with
     | ret r =>
      obtain ⟨rfl,h',tk,rfl,h3,hk⟩:=hr2
      repeat (any_goals (first | assumption | wp_step))
      exact h _ _ h3 hk
     | _=>exact hr2.elim
  | _=>exact hr.elim
end
end L2
namespace L2
open PySem PySem.Spec PyProof.Rows
section
variable {X:Cx} {K:PySem.W.Frag} {p p1 p2:Bool} {ds ds1 ds2:List Nat} {d d1 d2:Nat} {e k:Expr} {f f1 f2:ME} {fa:MA} {sh:Sh} {σ:St} {H:Hp} {Q Q':VK} {pos pos2 px py:Pos}
theorem mq (h:∀ v H,Q v H→Q' v H):tF K p ds ds1 d f σ H Q→tF K p ds ds1 d f σ H Q'
 | ⟨Ox,en,R,t,en',e,hf,k⟩=>⟨Ox,en,R,t,en',e,hf,fun v H' R' F P o=>h _ _ (k v H' R' F P o)⟩
def rB (P:Program) (w:World) (a:Addr) (z:Str):HO:=.ext fun h=>SetS P w h a (eB z) z.length
def Gs (P:Program) (w:World):List V→Hp→VK→Prop:=fun xs H Q=>∃ z,xs=[.str z]∧z.length+1 < scanBound∧∀ a,H a=none→Q (.ref a) (upd H a (rB P w a z))
theorem ui (hc:X.calm=true):CallR X (.type "set") (Gs X.prog X.w):=by
 intro pins s σ H xs us Q I r ⟨z,e,hb,q⟩
 subst e
 obtain ⟨u,rfl,ru⟩:=dB r
 obtain ⟨t,rfl⟩:=ru
 refine oX (I.ok.hd hc) hb fun h' tk hS hk=>⟨.ref _,_,I.laid (a:=s.heap.objs.size) (o:=rB X.prog X.w s.heap.objs.size z) (t':=tk) (fun b o e=>hk b o (Heap.lt_size e) e) (Nat.le_refl _) ?_,rfl,q _ (I.hok.fresh (Nat.le_refl _))⟩
 have h2:=hS
 obtain ⟨o,_,_,_,e,_⟩:=h2
 exact ⟨hS,⟨o,e⟩,fun h1 h2 a k=>a.mv k⟩
def Gv (P:Program) (w:World):List V→Hp→VK→Prop:=fun xs H Q=>∃ a z,xs=[.ref a]∧H a=some (rB P w a z)∧z.length < 4096∧Q (.int (cv (eB z) z.length).length) H
theorem uk:CallR X (.builtin "len") (Gv X.prog X.w):=by
 intro pins s σ H xs us Q I r ⟨a,z,e,ha,hz,q⟩
 subst e
 obtain ⟨u,rfl,ru⟩:=dB r
 cases ru
 obtain ⟨⟨o,es,ep,t,g1,g2,g3,_,_,_,g5,g6⟩,_⟩:=I.hok a _ ha
 have le:=nC (eB z) z.length
 have e:(es.size:Int)=((cv (eB z) z.length).length:Nat):=by rw [g6]
 refine call_len_set g1 g2 g3 g5 (by omega) ⟨.int es.size,H,(I.tok _).tok _,⟨_,rfl⟩,?_⟩
 rw [e]
 exact q
def mI:D→Option D
 | .str z=>grd (z.length < 4000) (.int (cv (eB z) z.length).length)
 | _=>none
theorem t7 (hK:X.K=K) (hc:X.calm=true) (hg:Gl X "len") (hm:X.mg "len"=none) (hg2:Gl X "set") (hm2:X.mg "set"=none) (hb:bootBuiltins "len"=some (.builtin "len")) (hb2:bootBuiltins "set"=some (.type "set")) (he:PE X e (tF K p ds ds1 d1 f)) (hs:be e=true) :
  PE X (.Call (.Name "len" px) [.Call (.Name "set" py) [e] [] pos2] [] pos) (tF K p ds ds1 3 (e1 mI f)):=by
 subst hK
 refine (lH uk hg hm hb (ft (n6 (ui hc) hg2 hm2 hb2 (ft he pa_nil (bR hs)) (by decide) (by decide) (bR hs) rfl) pa_nil (bR rfl)) (by decide) (by decide) (bR rfl) rfl).imp fun σ H Q h=>?_
 obtain ⟨Ox,en,R,t,en',e,hf,k⟩:=h
 unfold e1 at hf
 obtain ⟨⟨t1,en1⟩,h1,hf⟩:=Option.bind_eq_some_iff.mp hf
 obtain ⟨t',h3,hf⟩:=Option.map_eq_some_iff.mp hf
 cases hf
 cases t1 with
 | str z =>
  obtain ⟨c,rfl⟩:=cK h3
  refine ⟨Ox,en,R,.str z,en1,e,h1,fun v H' R' F P o=>?_⟩
  refine ⟨z,by rw [show v=.str z from o],by unfold scanBound; omega,fun a ha=>?_⟩
  refine ⟨a,z,rfl,br,by omega,?_⟩
  have n:NewTo H' (upd H' a (rB X.prog X.w a z)) NoA:=⟨(cr ha).1,fun _ z=>z.elim⟩
  exact k _ _ R' NoA (P.fin n) rfl
 | _=>cases h3
def pA:D→D→Option D
 | .list ts,.int (-1)=>some (.list ts.reverse)
 | _,_=>none
def HQ:D→D→Option D
 | .tuple ts,.int (-1)=>some (.tuple ts.reverse)
 | _,_=>none
def kU:D→D→Option D
 | .str z,.int (-1)=>grd (z.length≤sizeLine) (.str ⟨z.cps.toList.reverse.toArray⟩)
 | _,_=>none
theorem Cf (hK:X.K=K) (he:PE X e (tF K p ds ds1 d1 f1)) (hk:PE X k (tF K p ds1 ds2 d2 f2)):PE X (.Subscript e (.Slice none none (some k) pos2) pos) (tF K p ds ds2 1 (e2 pA f1 f2)):=by
 subst hK
 refine (Bv he hk).imp fun σ H Q h=>?_
 refine mq (fun x H1 h1=>mq (fun y H2 h2=>?_) h1) (k4 (by rw [Bool.and_self]; exact h))
 obtain ⟨O,a,b,t,oa,ob,hd,hg,q⟩:=h2
 unfold pA at hg
 split at hg
 ·cases hg
  obtain ⟨a,vs,rfl,fz,w⟩:=oa.lst0
  exact ⟨a,vs,rfl,ob,fz.sq,fun l hl=>q _ _ _ (df hl hd w.rev).1 (df hl hd w.rev).2⟩
 ·cases hg
theorem Ce (he:PE X e (tF K p ds ds1 d1 f1)) (hk:PE X k (tF K p ds1 ds2 d2 f2)):PE X (.Subscript e (.Slice none none (some k) pos2) pos) (tF K p ds ds2 3 (e2 kU f1 f2)):=by
 refine (Bu he hk).imp fun σ H Q h=>?_
 refine mq (fun x H1 h1=>mq (fun y H2 h2=>?_) h1) (k4 (by rw [Bool.and_self]; exact h))
 obtain ⟨O,a,b,t,oa,ob,hd,hg,q⟩:=h2
 unfold kU at hg
 split at hg
 ·obtain ⟨c,rfl⟩:=cK hg
  exact ⟨_,oa,ob,c,q _ _ NoA .refl rfl⟩
 ·cases hg
def ku (fa:MA):MI:=fun en=>(fa en).bind fun r=>match r.1 with
 | [.inl (.str x),.inl (.str y)]=>some (iS (bv x) (bv y),r.2)
 | _=>none
theorem sy {O:AS} {x y:Str}:kC K O H (vB x y) (iS (bv x) (bv y)):=fun i H1 O1 h1 h2 h3=>by
 refine ⟨fun u hu=>?_,fun hl=>?_⟩
 ·unfold iS at hu
  rw [List.getElem?_zipWith] at hu
  split at hu
  case h_2=>cases hu
  next t t' ht ht' =>
  cases hu
  unfold bv at ht ht'
  rw [List.getElem?_map] at ht ht'
  obtain ⟨c,hc,rfl⟩:=Option.map_eq_some_iff.mp ht
  obtain ⟨c',hc',rfl⟩:=Option.map_eq_some_iff.mp ht'
  have gc:x.cps[i]?=some c:=by rw [← Array.getElem?_toList]; exact hc
  have gc':y.cps[i]?=some c':=by rw [← Array.getElem?_toList]; exact hc'
  have lc:i < x.cps.size:=(Array.getElem?_eq_some_iff.mp gc).1
  have lc':i < y.cps.size:=(Array.getElem?_eq_some_iff.mp gc').1
  refine ⟨⟨lc,lc'⟩,fun v H2 ⟨q,c1,c2,e1,hp,e2,y1,y2⟩=>?_⟩
  rw [gc] at y1
  rw [gc'] at y2
  cases y1
  cases y2
  subst e1 e2
  exact EU hp h3 rfl rfl
 ·unfold iS bv at hl
  rw [List.length_zipWith,List.length_map,List.length_map] at hl
  have a1:(li x).length=x.cps.size:=Array.length_toList
  have a2:(li y).length=y.cps.size:=Array.length_toList
  show i=x.cps.size∨(i < x.cps.size∧i=y.cps.size)
  omega
theorem B7 {l m:Expr} {elts:List Expr} {k:Nat} {tp:Pos} (hg:Gl X "zip") (hm:X.mg "zip"=none) (ha:PA X [l,m] (tFA K p ds ds1 sh fa)) (hs:be l=true) (hs2:be m=true) :
  PI X (.Tuple elts k tp) (.Call (.Name "zip" px) [l,m] [] pos) (tFI K p ds ds1 (ku fa)) :=
 (Bs hg hm ha (by rw [bR hs]) (by rw [bR hs2]; rfl)).imp fun σ H R ⟨Ox,en,Rg,ts,en',e,hf,k⟩=>by
  unfold ku at hf
  obtain ⟨⟨as,en1⟩,h1,hf⟩:=Option.bind_eq_some_iff.mp hf
  refine ⟨Ox,en,Rg,as,en1,e,h1,fun vs H1 R1 F P o=>?_⟩
  dsimp only at hf
  split at hf
  case h_2=>cases hf
  next x y =>
  cases hf
  obtain ⟨v,r,d,dr,F1,F2,e1,e2,s1,s2,_,o1,v2,r2,d2,dr2,G1,G2,e3,e4,s3,_,_,o2,o3⟩:=o
  obtain ⟨_,o3⟩:=o3
  subst e1 e3 o3
  have q1:v=.str x:=o1
  have q2:v2=.str y:=o2
  subst q1 q2
  exact ⟨x,y,rfl,k _ H1 R1 (P.less fun _ z=>z.elim) sy⟩
def isB:D→D→Option D
 | .bool a,.bool b=>some (.bool (a == b))
 | _,_=>none
end
end L2
namespace L2
open PySem PySem.Spec PyProof.Rows
section
variable {X:Cx} {K:PySem.W.Frag} {pins:List (Addr × Obj)} {σ:St} {H:Hp} {s:Shared} {O:AS}
end
end L2
namespace L2
open PySem PySem.Spec PyProof.Rows
section
variable {X:Cx} {K:PySem.W.Frag} {p p1 p2:Bool} {ds ds1 ds2:List Nat} {d d1 d2:Nat} {a b:Expr} {f f1 f2:ME} {σ:St} {H:Hp} {Q Q':VK} {pos:Pos} {ta tb:TE} {rest:List Expr}
def rH:List D→Option D
 | [.str z]=>match z.cps.toList with
  | [c]=>some (.int (c:Nat))
  | _=>none
 | _=>none
theorem FI:CallR X (.builtin "ord") (rFn K rH 3):=by
 intro pins s σ H xs us Q I r ⟨O,as,t,oa,hd,hr,k⟩
 unfold rH at hr
 split at hr
 ·next z =>
  split at hr
  ·next c hc =>
   cases hr
   obtain ⟨v,rfl,o⟩:=oa.one
   obtain ⟨u,rfl,ru⟩:=dB r
   cases (show v=V.str z from o)
   obtain ⟨t,rfl⟩:=ru
   have e:z=⟨#[c]⟩:=by
    obtain ⟨w⟩:=z
    have e:w=#[c]:=Array.toList_inj.mp hc
    rw [e]
   subst e
   exact P.ord_of_char ⟨.int (c:Nat),H,I.tok _,⟨_,rfl⟩,k _ H NoA .refl rfl⟩
  ·cases hr
 ·cases hr
def sk:D→Option Int→Option Int→Option D
 | .tuple ts,lo,hi=>grd (¬ (HT.sIx ts.length 0 lo=0∧HT.sIx ts.length ts.length hi=ts.length)) (.tuple (b9 ts lo hi))
 | _,_,_=>none
theorem tW (hK:X.K=K):SlR X (rFs K sk 0):=(Hs hK).imp fun x lo hi H Q ⟨O,a,t,oa,hd,hg,k⟩=>by
 cases a with
 | tuple ts =>
  obtain ⟨c,rfl⟩:=cK hg
  obtain ⟨a,vs,e1,f1,w1⟩:=oa.tup0
  refine ⟨a,vs,e1,f1.sq,by rw [w1.len]; exact c,fun p hp=>?_⟩
  have w2:Ows K O H (b9 ts lo hi) 0 (i3 vs lo hi) NoA:=by
   unfold b9 i3
   rw [w1.len]
   exact (w1.drop _).take _
  exact k _ _ _ (kW hp hd w2).1 (kW hp hd w2).2
 | _=>cases hg
def Hj:D→Option Bool
 | .none=>some false
 | .bool b=>some b
 | .list ts=>some (!ts.isEmpty)
 | .tuple ts=>some (!ts.isEmpty)
 | _=>none
def Ie (f g:ME):ME:=fun en=>(f en).bind fun r=>(Hj r.1).bind fun c=>if c then some r else g r.2
end
end L2
namespace L2
open PySem PySem.Spec PyProof.Rows
section
variable {X:Cx} {K:PySem.W.Frag} {p p1 p2:Bool} {ds ds1 ds2:List Nat} {d d1 d2:Nat} {a b:Expr} {f f1 f2:ME} {σ:St} {H:Hp} {Q Q':VK} {pos:Pos}
end
end L2
namespace L2
open PySem PySem.Spec PyProof.Rows PySem.SeqAt PySem.MeetsSeq
section
variable {A:Around} {s:Shared}
end
section
variable {X:Cx} {pins:List (Addr × Obj)} {σ:St} {H:Hp} {s:Shared} {O:AS}
end
section
variable {X:Cx} {K:PySem.W.Frag}
end
end L2
namespace L2
open PySem PySem.Spec PyProof.Rows PySem.SeqAt PySem.MeetsSeq
def HZ:D→D→Option D
 | .tuple ts,.int k=>grd (1≤k∧k≤1000∧ts.length≤1000) (.tuple (List.replicate k.toNat ts).flatten)
 | _,_=>none
section
variable {X:Cx} {K:PySem.W.Frag}
def HR:D→D→Option D
 | .int k,.str z=>grd (z.length≤4000∧1≤k∧k≤4000) (.str (Txt.mul z k))
 | _,_=>none
end
section
variable {X:Cx} {K:PySem.W.Frag}
end
section
variable {X:Cx} {K:PySem.W.Frag}
end
section
variable {X:Cx} {K:PySem.W.Frag} {p p1 p2:Bool} {ds ds1 ds2:List Nat} {d d1 d2:Nat} {e:Expr} {f f1 f2:ME} {σ:St} {H:Hp} {Q Q':VK}
end
def HM:D→D→Option D
 | .tuple ts,b=>grd (aL b=true∧bf ts=true∧eG ts≤60) (.int (ts.countP fun t=>peq t b:Nat))
 | _,_=>none
section
variable {X:Cx} {K:PySem.W.Frag} {p:Bool} {ds ds1 ds2:List Nat} {d d1 d2:Nat} {e:Expr} {f f1 f2:ME} {σ:St} {H:Hp} {Q Q':VK}
end
end L2
namespace L2
open PySem PySem.Spec PyProof.Rows HT
section
variable {prog:Program} {w:World} {A:Around} {E:Value→Shared→Prop} {s:Shared}
end
def HV:D→Option Int→Option Int→Option D
 | .tuple ts,lo,hi=>some (.tuple (b9 ts lo hi))
 | _,_,_=>none
section
variable {X:Cx} {K:PySem.W.Frag}
end
end L2
namespace L2
open PySem PySem.Spec PyProof.Rows
section
variable {P:Program} {w:World} {A:Around} {E:Value→Shared→Prop} {s:Shared}
end
section
variable {X:Cx} {K:PySem.W.Frag} {p p1 p2:Bool} {ds ds1 ds2:List Nat} {d d1 d2:Nat} {e k:Expr} {f f1 f2:ME} {fa:MA} {sh:Sh} {σ:St} {H:Hp} {Q Q':VK} {pos pos2 px py:Pos}
end
end L2
namespace L2
open PySem PySem.Spec PyProof.Rows PySem.SeqAt PySem.MeetsSeq
section
variable {X:Cx} {K:PySem.W.Frag}
end
section
variable {X:Cx} {K:PySem.W.Frag}
end
end L2
namespace L2
open PySem PySem.Spec PyProof.Rows PySem.SeqAt PySem.MeetsSeq
section
variable {X:Cx} {K:PySem.W.Frag} {p p1 p2:Bool} {ds ds1 ds2:List Nat} {d d1 d2:Nat} {e:Expr} {f f1 f2:ME} {σ:St} {H:Hp} {Q Q':VK} {i:Nat}
end
section
variable {X:Cx} {K:PySem.W.Frag} {p p1 p2 q:Bool} {J:Jd} {ds ds0 ds1 ds2 ds' dsi dps:List Nat} {d d' d1 d2 dr:Nat} {a b c e tg iter:Expr} {es:List Expr} {st:Stmt} {rest body bodyB:List Stmt} {f f1 f2 fk fe:ME} {c1 c2:MT} {fa:MA} {sh:Sh} {pos px:Pos} {i:Nat} {x:Str} {m m1 m2:MS} {g:MG} {gs:List D→En→Option En} {fi:MI} {lk:List Nat}
end
end L2
namespace L2
open PySem PySem.Spec PyProof.Rows
section
variable {prog:Program} {w:World} {A:Around} {E:Value→Shared→Prop} {s:Shared}
end
section
variable {prog:Program} {w:World} {A:Around} {E:Value→Shared→Prop} {s:Shared}
end
section
variable {X:Cx} {tg:Expr} {K:PySem.W.Frag}
end
section
variable {X:Cx} {K:PySem.W.Frag} {p:Bool} {ds ds1:List Nat} {d:Nat} {fa:MA} {sh:Sh} {O O1:AS} {H0 H:Hp} {ts us:List D} {vs ws:List V} {a b:Addr}
def HJ (fa:MA):MI:=fun en=>(fa en).bind fun r=>match r.1 with
 | [.inl (.tuple ts),.inl (.tuple us)]=>some (iS ts us,r.2)
 | _=>none
end
end L2
namespace L2
open PySem PySem.Spec PyProof.Rows
section
variable {K:PySem.W.Frag} {p p1 p2 q:Bool} {J:Jd} {lk ds ds0 ds1 ds2 ds':List Nat} {d d' d1 d2:Nat} {f:ME} {i j:Nat} {g:MG} {gs:List D→En→Option En} {σ:St} {H:Hp} {Dn:Ends} {v:V} {vs:List V} {QS:St→Hp→Prop}
end
section
variable {X:Cx} {K:PySem.W.Frag} {J:Jd} {lk ds ds0 ds1 ds2 ds':List Nat} {e tg:Expr} {es:List Expr} {f:ME} {pos px:Pos} {i:Nat} {g:MG} {gs:List D→En→Option En}
end
end L2
namespace L2
open PySem PySem.Spec PyProof.Rows
section
variable {X:Cx} {K:PySem.W.Frag} {p:Bool} {ds:List Nat} {k v:Expr} {fk fv:ME} {pos:Pos} {σ:St} {H:Hp} {Q:VK} {O:AS}
end
end L2
namespace L2
open PySem PySem.Spec PyProof.Rows
structure QE (X:Cx) (e:Expr) (t:TE):Prop where
 h:PE X e t
structure QT (X:Cx) (e:Expr) (t:TT):Prop where
 h:PT X e t
structure QW (X:Cx) (e:Expr) (t:TT):Prop where
 h:PW X e t
structure QA (X:Cx) (e:List Expr) (t:TA):Prop where
 h:PA X e t
structure QS (X:Cx) (e:Stmt) (t:TS):Prop where
 h:PS X e t
structure QSs (X:Cx) (e:List Stmt) (t:TS):Prop where
 h:PSs X e t
structure QG (X:Cx) (e:Expr) (t:TG):Prop where
 h:PG X e t
structure QGs (X:Cx) (e:List Expr) (t:TGs):Prop where
 h:PGs X e t
structure QI (X:Cx) (tg e:Expr) (t:TI):Prop where
 h:PI X tg e t
structure QTs (X:Cx) (e:List Expr) (t:TT):Prop where
 h:PTs X e t
structure QO (X:Cx) (e:Option Expr) (t:TO):Prop where
 h:PO X e t
theorem qpt {X:Cx} {e:Expr} {t:TT} (h:QW X e t):QT X e t:=⟨h.h.pt⟩
section
variable {X:Cx} {K:PySem.W.Frag} {p p1 p2 q:Bool} {ds ds0 ds1 ds2 ds' dsi:List Nat} {d d' d1 d2:Nat} {a b c e:Expr} {es:List Expr} {f f1 f2:ME} {m c1 c2:MT} {fa:MA} {sh:Sh} {pos:Pos} {i:Nat} {x:Str}
theorem ac {x:Str} (hN:X.N[i]?=some x) (hv:Vis X.env.scope x) (h0:ds[i]?=some 0) (hd:(x == ("__debug__" : Str))=false) (hcd:(x == ("__classdict__" : Str))=false):QE X (.Name x pos) (tF K p ds ds 0 (af i)):=⟨FO hN hv h0 hd hcd⟩
theorem ag {n:Int} {j}:QE X (.Constant (.int n) j pos) (tF K p ds ds 3 (eC (.int n))):=⟨FZ⟩
theorem aX {n:Bool} {j}:QE X (.Constant (.bool n) j pos) (tF K p ds ds 3 (eC (.bool n))):=⟨GY⟩
theorem fV {j}:QE X (.Constant .none j pos) (tF K p ds ds 3 (eC .none)):=⟨FU⟩
theorem ao {n:Str} {j}:QE X (.Constant (.str n) j pos) (tF K p ds ds 3 (eC (.str n))):=⟨FR⟩
theorem bp {x:Str} {n:Int} {t:Tok} (hg:Gl X x) (hm:X.mg x=some (.int n t)) (hd:(x == ("__debug__" : Str))=false):QE X (.Name x pos) (tF K p ds ds 3 (eC (.int n))):=⟨vh hg hm hd⟩
theorem ak (h:QE X e (tF K p ds ds' d f)) (hd:d'≤d):QE X e (tF K p ds ds' d' f):=⟨FQ h.h hd⟩
theorem qY (h:QE X e (tF K p ds0 ds' d f)) (hd:leD ds0 ds=true):QE X e (tF K false ds ds' d f):=⟨GW h.h hd⟩
theorem lO (h:QE X e (tF K true ds0 ds0 3 f)) (hd:leD ds0 ds=true):QE X e (tF K p ds ds 3 f):=⟨F9 h.h hd⟩
theorem aD {op:Operator} {g:D→D→Option D} (ho:OpR X (binaryOp op) (rF2 K g d)) (ha:QE X a (tF K p ds ds1 d1 f1)) (hb:QE X b (tF K p ds1 ds2 d2 f2)):QE X (.BinOp a op b pos) (tF K p ds ds2 d (e2 g f1 f2)):=⟨GS ho ha.h hb.h⟩
theorem fU {op:UnaryOp} {g:D→Option D} (ho:UnR X (unaryOp op) (rF1 K g d)) (ha:QE X a (tF K p ds ds1 d1 f1)):QE X (.UnaryOp op a pos) (tF K p ds ds1 d (e1 g f1)):=⟨GQ ho ha.h⟩
theorem bL {op:CmpOp} {g:D→D→Option D} (ho:OpR X (compareOp op) (rF2 K g d)) (ha:QE X a (tF K p ds ds1 d1 f1)) (hb:QE X b (tF K p ds1 ds2 d2 f2)) (hm:behindInMarks op b=false):QE X (.Compare a [op] [b] pos) (tF K p ds ds2 d (e2 g f1 f2)):=⟨F8 ho ha.h hb.h hm⟩
theorem az {op:CmpOp} {g:D→D→Option D} (ho:OpR X (compareOp op) (rF2 K g d)) (ha:QE X a (tF K p ds ds1 d1 f1)) (hb:QE X b (tF K p ds1 ds2 d2 f2)) (hm:behindInMarks op b=false):QT X (.Compare a [op] [b] pos) (tFT K p ds ds2 (tV (e2 g f1 f2))):=⟨BR ho ha.h hb.h hm⟩
theorem aS (h:QE X e (tF K p ds ds' d f)) (he:∀ whole,isTrue e X.env whole=(do let v ← whole; standAt e.pos; holding [v] (truthy v))):QT X e (tFT K p ds ds' (tV f)):=⟨BP h.h he⟩
theorem gp (ha:QT X a (tFT K p ds ds1 c1)):QW X (.BoolOp .And [a] pos) (tFT K p ds ds1 c1):=⟨BM ha.h⟩
theorem cw (ha:QT X a (tFT K p ds ds1 c1)):QW X (.BoolOp .Or [a] pos) (tFT K p ds ds1 c1):=⟨Fw ha.h⟩
theorem ie {rest:List Expr} (ha:QT X a (tFT K p ds ds1 c1)) (hb:QW X (.BoolOp .And (b :: rest) pos) (tFT K p ds1 ds1 c2)):QW X (.BoolOp .And (a :: b :: rest) pos) (tFT K p ds ds1 (eR c1 c2)):=⟨Fx ha.h hb.h⟩
theorem bY {rest:List Expr} (ha:QT X a (tFT K p ds ds1 c1)) (hb:QW X (.BoolOp .Or (b :: rest) pos) (tFT K p ds1 ds1 c2)):QW X (.BoolOp .Or (a :: b :: rest) pos) (tFT K p ds ds1 (bOr c1 c2)):=⟨GK ha.h hb.h⟩
theorem bc (ha:QT X a (tFT K p ds ds1 c1)):QT X (.UnaryOp .Not a pos) (tFT K p ds ds1 (cb c1)):=⟨BQ ha.h⟩
theorem bu {op} (h:QE X a (tF K p ds ds1 d f)):QE X (.BoolOp op [a] pos) (tF K p ds ds1 d f):=⟨FS h.h⟩
theorem bM {rest:List Expr} (ha:QE X a (tF K p ds ds1 d1 f1)) (hb:QE X (.BoolOp .And (b :: rest) pos) (tF K p ds1 ds1 d f2)):QE X (.BoolOp .And (a :: b :: rest) pos) (tF K p ds ds1 d (cB f1 f2)):=⟨Gb ha.h hb.h⟩
theorem kZ {rest:List Expr} (ha:QE X a (tF K p ds ds1 d1 f1)) (hb:QE X (.BoolOp .Or (b :: rest) pos) (tF K p ds1 ds1 d f2)):QE X (.BoolOp .Or (a :: b :: rest) pos) (tF K p ds ds1 d (eOr f1 f2)):=⟨GR ha.h hb.h⟩
theorem jI (ha:QE X a (tF K p ds ds1 d1 f)):QE X (.UnaryOp .Not a pos) (tF K p ds ds1 3 (iY f)):=⟨FT ha.h⟩
theorem Cg (hc:QT X c (tFT K p ds ds1 c1)) (ha:QE X a (tF K p ds1 ds2 d f1)) (hb:QE X b (tF K p ds1 ds2 d f2)):QE X (.IfExp c a b pos) (tF K p ds ds2 d (eIf c1 f1 f2)):=⟨GV hc.h ha.h hb.h⟩
theorem ae  : QA X [] (tFA K p ds ds [] ai):=⟨Ci⟩
theorem aa (ha:QE X e (tF K p ds ds1 d f)) (hr:QA X es (tFA K p ds1 ds2 sh fa)) (hs:be e=true):QA X (e :: es) (tFA K p ds ds2 (.inl d :: sh) (ad f fa)):=⟨vn ha.h hr.h hs⟩
theorem aK {x:Str} (hN:X.N[i]?=some x) (hv:Vis X.env.scope x) (hr:QA X es (tFA K p ds ds2 sh fa)) (hd:(x == ("__debug__" : Str))=false) (hcd:(x == ("__classdict__" : Str))=false):QA X (.Name x pos :: es) (tFA K p ds ds2 (.inr i :: sh) (bh i fa)):=⟨vm hN hv hr.h hd hcd⟩
theorem bQ {c:Nat} (h:QA X es (tFA K p ds ds1 sh fa)) (hs:cV c sh=true) (hd:dn d=c) (hz:d≠0):QE X (.List es pos) (tF K p ds ds1 d (cp fa)):=⟨FV h.h hs hd hz⟩
theorem aE {c:Nat} {x1} (h:QA X es (tFA K p ds ds1 sh fa)) (hs:cV c sh=true) (hd:dn d=c):QE X (.Tuple es x1 pos) (tF K p ds ds1 d (aP fa)):=⟨FP h.h hs hd⟩
theorem aw {id:String} {x:Str} {px:Pos} {g:List D→Option D} (hc:CallR X (.builtin id) (rFn K g d)) (hg:Gl X x) (hm:X.mg x=none) (hv:bootBuiltins x=some (.builtin id)) (ha:QA X (e :: es) (tFA K p ds ds1 sh fa)) (hsh:cV 0 sh=true) (hn:x≠"__name__") (hdb:(x == ("__debug__" : Str))=false) (he:be e=true) (hpl:es.all be=true):QE X (.Call (.Name x px) (e :: es) [] pos) (tF K p ds ds1 d (eN g fa)):=⟨vj hc hg hm hv ha.h hsh hn hdb he hpl⟩
theorem dN {T:String} {x:Str} {px:Pos} {g:List D→Option D} (hc:CallR X (.type T) (rFn K g d)) (hg:Gl X x) (hm:X.mg x=none) (hv:bootBuiltins x=some (.type T)) (ha:QA X (e :: es) (tFA K p ds ds1 sh fa)) (hsh:cV 0 sh=true) (hn:x≠"__name__") (hdb:(x == ("__debug__" : Str))=false) (he:be e=true) (hpl:es.all be=true):QE X (.Call (.Name x px) (e :: es) [] pos) (tF K p ds ds1 d (eN g fa)):=⟨t8 hc hg hm hv ha.h hsh hn hdb he hpl⟩
theorem av {k:Nat} {x:Str} {ps:List Str} {px:Pos} {dps:List Nat} {dr:Nat} {F:List D→Option (D × En)} (G:Kn X.prog X.w X.K X.mg X.base k x ps (spF K dps dr F)) (hr:Room k X.A) (hg:Gl X x) (ha:QA X (e :: es) (tFA K p ds ds1 sh fa)) (hns:je sh=true) (hcd:gm ds1 sh dps=true) (hdb:(x == ("__debug__" : Str))=false) (he:be e=true) (hpl:es.all be=true):QE X (.Call (.Name x px) (e :: es) [] pos) (tF K p ds ds1 dr (aq F fa)):=⟨GX G hr hg ha.h hns hcd hdb he hpl⟩
theorem aO {k:Nat} {x:Str} {ps:List Str} {px:Pos} {dps:List Nat} {dr:Nat} {F:List D→Option (D × En)} (G:Kn X.prog X.w X.K X.mg X.base k x ps (spF K dps dr F)) (hr:Room k X.A) (hg:Gl X x) (ha:QA X (e :: es) (tFA K false ds ds1 sh fa)) (hcd:gm ds1 sh dps=true) (hdb:(x == ("__debug__" : Str))=false) (he:be e=true) (hpl:es.all be=true):QE X (.Call (.Name x px) (e :: es) [] pos) (tF K false ds ds1 dr (aq F fa)):=⟨F7 G hr hg ha.h hcd hdb he hpl⟩
theorem ay {g:D→D→Option D} (ho:IxR X (rF2 K g d)) (ha:QE X a (tF K p ds ds1 d1 f1)) (hb:QE X b (tF K p ds1 ds2 d2 f2)) (hs:jm b):QE X (.Subscript a b pos) (tF K p ds ds2 d (e2 g f1 f2)):=⟨GU ho ha.h hb.h hs⟩
theorem ff {x:Str} {px:Pos} (hK:X.K=K) (hN:X.N[i]?=some x) (hv:Vis X.env.scope x) (h1:ds1[i]?=some 1) (hb:QE X b (tF K p ds ds1 d1 f)) (hs:jm b) (hd:(x == ("__debug__" : Str))=false) (hcd:(x == ("__classdict__" : Str))=false):QE X (.Subscript (.Name x px) b pos) (tF K p ds ds1 0 (di i f)):=⟨FX hK hN hv h1 hb.h hs hd hcd⟩
theorem lP {c:Nat} {x:Str} {px apos cpos:Pos} (hK:X.K=K) (hN:X.N[i]?=some x) (hv:Vis X.env.scope x) (h1:ds1[i]?=some d) (he:QE X e (tF K false ds ds1 c f)) (hz:d≠0) (hc:dn d=c) (hd:(x == ("__debug__" : Str))=false) (hcd:(x == ("__classdict__" : Str))=false) (hbase:attributeBase (.Name x px) "append" X.env (eval (.Name x px) X.env)=eval (.Name x px) X.env) (hfew:((backTo cpos (starEach [e] X.env)).all (fun x=>!x.1) && (backToKw cpos (keywordEach [] X.env)).all (fun x=>x.1.isSome) && decide (([e]:List Expr).length+([]:List Keyword).length+(if ([]:List Keyword).isEmpty then 0 else 1) < 30))=true) (hline:(apos.endLine == cpos.line)=true) (hs:starEach [e] X.env=[(false,eval e X.env)]) (hplain:(backTo cpos (starEach [] X.env)).any (·.1)=false):QE X (.Call (.Attribute (.Name x px) "append" apos) [e] [] cpos) (tF K false ds ds1 3 (jL i f)):=⟨Ga hK hN hv h1 he.h hz hc hd hcd hbase hfew hline hs hplain⟩
theorem mX {c:Nat} {x:Str} {px apos cpos:Pos} (hK:X.K=K) (hN:X.N[i]?=some x) (hv:Vis X.env.scope x) (h1:ds1[i]?=some d) (he:QE X e (tF K false ds ds1 d1 f)) (hz:d≠0) (hc:dn d=c) (hd:(x == ("__debug__" : Str))=false) (hcd:(x == ("__classdict__" : Str))=false) (hbase:attributeBase (.Name x px) "pop" X.env (eval (.Name x px) X.env)=eval (.Name x px) X.env) (hfew:((backTo cpos (starEach [e] X.env)).all (fun x=>!x.1) && (backToKw cpos (keywordEach [] X.env)).all (fun x=>x.1.isSome) && decide (([e]:List Expr).length+([]:List Keyword).length+(if ([]:List Keyword).isEmpty then 0 else 1) < 30))=true) (hline:(apos.endLine == cpos.line)=true) (hs:starEach [e] X.env=[(false,eval e X.env)]) (hplain:(backTo cpos (starEach [] X.env)).any (·.1)=false):QE X (.Call (.Attribute (.Name x px) "pop" apos) [e] [] cpos) (tF K false ds ds1 c (fB i f)):=⟨vg hK hN hv h1 he.h hz hc hd hcd hbase hfew hline hs hplain⟩
theorem bI  : QTs X [] (tFT K p ds ds cY):=⟨BO⟩
theorem gq (hc:QT X c (tFT K p ds ds1 c1)):QTs X [c] (tFT K p ds ds1 c1):=⟨BN hc.h⟩
theorem cu {elt tg iter:Expr} {ifs:List Expr} {scope:Scope} {ns:List Str} {js:List (Option Nat)} {fi:MI} {g:MG} {lk:List Nat} {cd:Nat} (B:BlkOkC X scope ns js) (hc:X.calm=true) (hi:QI X tg iter (tFI K p ds ds1 fi)) (hg:∀ C cl s₀ H₀ fp,QG (aZ X scope ns C cl s₀ H₀ fp) tg (tFG K lk dsi dsi g)) (ht:∀ C cl s₀ H₀ fp,QTs (aZ X scope ns C cl s₀ H₀ fp) ifs (tFT K true dsi dsi c1)) (he:∀ C cl s₀ H₀ fp,QE (aZ X scope ns C cl s₀ H₀ fp) elt (tF K true dsi dsi cd f)) (hcap:gH ds1 js dsi=true) (hd:dn d=cd) (hz:d≠0) (hlk:lk=gE js 0) (hs:∀ x,foldedSetIterable iter X.env x=pure x):QE X (.ListComp elt [⟨tg,iter,ifs,0⟩] scope pos) (tF K p ds ds1 d (eLC true fi g c1 f js)):=⟨GT B hc hi.h (fun C cl s₀ H₀ fp=>(hg C cl s₀ H₀ fp).h) (fun C cl s₀ H₀ fp=>(ht C cl s₀ H₀ fp).h) (fun C cl s₀ H₀ fp=>(he C cl s₀ H₀ fp).h) hcap hd hz hlk hs⟩
theorem pV {elt tg iter:Expr} {ifs:List Expr} {scope:Scope} {ns:List Str} {js:List (Option Nat)} {fi:MI} {g:MG} {lk:List Nat} {cd:Nat} (B:BlkOkC X scope ns js) (hc:X.calm=true) (hi:QI X tg iter (tFI K false ds ds1 fi)) (hg:∀ C cl s₀ H₀ fp,QG (aZ X scope ns C cl s₀ H₀ fp) tg (tFG K lk dsi dsi g)) (ht:∀ C cl s₀ H₀ fp,QTs (aZ X scope ns C cl s₀ H₀ fp) ifs (tFT K false dsi dsi c1)) (he:∀ C cl s₀ H₀ fp,QE (aZ X scope ns C cl s₀ H₀ fp) elt (tF K false dsi dsi cd f)) (hcap:gH ds1 js dsi=true) (hd:dn d=cd) (hz:d≠0) (hlk:lk=gE js 0) (hs:∀ x,foldedSetIterable iter X.env x=pure x):QE X (.ListComp elt [⟨tg,iter,ifs,0⟩] scope pos) (tF K false ds ds1 d (eLC false fi g c1 f js)):=⟨FW B hc hi.h (fun C cl s₀ H₀ fp=>(hg C cl s₀ H₀ fp).h) (fun C cl s₀ H₀ fp=>(ht C cl s₀ H₀ fp).h) (fun C cl s₀ H₀ fp=>(he C cl s₀ H₀ fp).h) hcap hd hz hlk hs⟩
end
section
variable {X:Cx} {K:PySem.W.Frag} {p p1 p2 q:Bool} {J:Jd} {ds ds0 ds1 ds2 ds' dsi dps:List Nat} {d d' d1 d2 dr:Nat} {a b c e tg iter:Expr} {es:List Expr} {st:Stmt} {rest body bodyB:List Stmt} {f f1 f2 fk fe:ME} {c1 c2:MT} {fa:MA} {sh:Sh} {pos px:Pos} {i:Nat} {x:Str} {m m1 m2:MS} {g:MG} {gs:List D→En→Option En} {fi:MI} {lk:List Nat}
theorem ax  : QSs X [] (tFS K J ds ds aM):=⟨BU⟩
theorem ah (h1:QS X st (tFS K J ds ds1 m1)) (h2:QSs X rest (tFS K J ds1 ds2 m2)):QSs X (st :: rest) (tFS K J ds ds2 (ap m1 m2)):=⟨u8 h1.h h2.h⟩
theorem aj (h1:QS X st (tFS K J ds ds1 m1)):QSs X [st] (tFS K J ds ds1 m1):=⟨BT h1.h⟩
theorem oo (h:QSs X rest (tFS K J ds ds2 m)) (hd:leD ds1 ds2=true):QSs X rest (tFS K J ds ds1 m):=⟨BS h.h hd⟩
theorem ky (he:QE X e (tF K false ds ds1 d f)) (hs:swapsWith e none pos.line X.env=pure false):QS X (.Expr e pos) (tFS K J ds ds1 (ki f)):=⟨B0 he.h hs⟩
theorem am (he:QE X e (tF K false ds ds1 J.dr f)) (hd:leD J.dsr ds1=true):QS X (.Return (some e) pos) (tFS K J ds ds' (aC f)):=⟨BY he.h hd⟩
theorem iX  : QS X st (tFS K J ds ds' ia):=⟨tP⟩
theorem aA (hc:QT X c (tFT K false ds ds1 c1)) (ha:QSs X body (tFS K J ds1 ds2 m1)) (hb:QSs X bodyB (tFS K J ds1 ds2 m2)):QS X (.If c body bodyB pos) (tFS K J ds ds2 (sIf c1 m1 m2)):=⟨FF hc.h ha.h hb.h⟩
theorem au {x:Str} {pos':Pos} (hN:X.N.Nodup) (hi:X.N[i]?=some x) (hx:Loc X.env.scope x) (he:QE X e (tF K false ds ds1 d f)) (hds:ds1.set i d=ds') (hl:i < ds1.length) (hk:i ∉ J.lk) (hs:swapsWith e (some (.Name x pos')) pos.line X.env=pure false) (hf:X.fn x=true∨X.env.scope.names.lookup x=some .local):QS X (.Assign [.Name x pos'] e pos) (tFS K J ds ds' (aH i f)):=⟨BX hN hi hx he.h hds hl hk hs hf⟩
theorem eW {x:Str} {spos pos':Pos} {elt:Expr} {ifs:List Expr} {scope:Scope} {ns:List Str} {js:List (Option Nat)} {cd:Nat} (hN:X.N.Nodup) (hi':X.N[i]?=some x) (hx:X.env.scope.names.lookup x=some .local) (B:BlkOkC X scope ns js) (hc:X.calm=true) (hi:QI X tg iter (tFI K false ds ds1 fi)) (hg:∀ C cl s₀ H₀ fp,QG (aZ X scope ns C cl s₀ H₀ fp) tg (tFG K lk dsi dsi g)) (ht:∀ C cl s₀ H₀ fp,QTs (aZ X scope ns C cl s₀ H₀ fp) ifs (tFT K q dsi dsi c1)) (he:∀ C cl s₀ H₀ fp,QE (aZ X scope ns C cl s₀ H₀ fp) elt (tF K q dsi dsi cd f)) (hds:ds1.set i d=ds') (hcap:gH ds1 js dsi=true) (hd:dn d=cd) (hz:d≠0) (hlk:lk=gE js 0) (hl:i < ds1.length) (hk:i ∉ J.lk) (hsw:swapsWith (.ListComp elt [⟨tg,iter,ifs,0⟩] scope pos) (some (.Name x pos')) spos.line X.env=pure true) (hs:∀ x,foldedSetIterable iter X.env x=pure x):QS X (.Assign [.Name x pos'] (.ListComp elt [⟨tg,iter,ifs,0⟩] scope pos) spos) (tFS K J ds ds' (aH i (eLC q fi g c1 f js))):=⟨tO hN hi' hx B hc hi.h (fun C cl s₀ H₀ fp=>(hg C cl s₀ H₀ fp).h) (fun C cl s₀ H₀ fp=>(ht C cl s₀ H₀ fp).h) (fun C cl s₀ H₀ fp=>(he C cl s₀ H₀ fp).h) hds hcap hd hz hlk hl hk hsw hs⟩
theorem mU {c:Nat} {x:Str} {spos:Pos} {k:Expr} (hN:X.N[i]?=some x) (hv:Vis X.env.scope x) (he:QE X e (tF K false ds ds1 c fe)) (hk:QE X k (tF K false ds1 ds2 d2 fk)) (h1:ds2[i]?=some d) (hz:d≠0) (hc:dn d=c) (hdb:(x == ("__debug__" : Str))=false) (hcd:(x == ("__classdict__" : Str))=false) (ha:∀ v,assign (.Subscript (.Name x px) k spos) X.env v=(do
   let ov ← holding [v] (eval (.Name x px) X.env)
   let iv ← holding [v,ov] (eval k X.env)
   standAt spos
   holding [v,ov,iv] (setItem ov iv v)
   release [v,ov,iv] [])) (hs:swapsWithSole [.Subscript (.Name x px) k spos] e pos.line X.env=pure false) (hw:swappedStores [.Subscript (.Name x px) k spos] e X.env=pure none) (h2:(assignEach [.Subscript (.Name x px) k spos] X.env).map (·.2)=[assign (.Subscript (.Name x px) k spos) X.env]):QS X (.Assign [.Subscript (.Name x px) k spos] e pos) (tFS K J ds ds2 (gk i fk fe)):=⟨va hN hv he.h hk.h h1 hz hc hdb hcd ha hs hw h2⟩
theorem aG {x:Str} (hN:X.N.Nodup) (hi:X.N[i]?=some x) (hx:Loc X.env.scope x) (hds:ds.set i 0=ds') (hl:i < ds.length) (hk:i ∉ lk) (hf:X.fn x=true∨X.env.scope.names.lookup x=some .local):QG X (.Name x pos) (tFG K lk ds ds' (gN i)):=⟨ve hN hi hx hds hl hk hf⟩
theorem gU  : QGs X [] (gA K lk ds ds gs0):=⟨vc⟩
theorem cD (h1:QG X e (tFG K lk ds ds1 g)) (h2:QGs X es (gA K lk ds1 ds2 gs)) (hs:(assignEach (e :: es) X.env).map (·.2)=assign e X.env :: (assignEach es X.env).map (·.2)):QGs X (e :: es) (gA K lk ds ds2 (gsC g gs)):=⟨tZ h1.h h2.h hs⟩
theorem iG {k n:Nat} (hK:X.K=K) (hc:X.calm=true) (h:QGs X es (gA K lk ds ds1 gs)) (hl:∀ ts en,(∃ en',gs ts en=some en')→ts.length=n) (hn:(assignEach es X.env).length=n) (hst:(assignEach es X.env).findIdx? (·.1)=none):QG X (.Tuple es k pos) (tFG K lk ds ds1 (gT gs)):=⟨Cb hK hc h.h hl hn hst⟩
theorem cn (hc:X.calm=true) (hi:QI X tg iter (tFI K false ds ds1 fi)) (hg:QG X tg (tFG K J.lk ds1 ds2 g)) (hb:QSs X body (tFS K { J with dsl:=ds1 } ds2 ds1 m)) (hp:PassesOwn (model X.prog X.w) X.A X.env X.xe) (hs:∀ x,foldedSetIterable iter X.env x=pure x):QS X (.For tg iter body [] pos) (tFS K J ds ds1 (eg fi g m)):=⟨BZ hc hi.h hg.h hb.h hp hs⟩
end
section
variable {X:Cx} {K:PySem.W.Frag} {p:Bool} {ds ds1:List Nat} {d:Nat} {e tg l:Expr} {f:ME} {fa:MA} {sh:Sh}
theorem bn (hK:X.K=K) (hl:QE X l (tF K p ds ds1 d f)):QI X tg l (tFI K p ds ds1 (bX f)):=⟨FM hK hl.h⟩
theorem dz {a:Expr} {px pos:Pos} (hg:Gl X "range") (hm:X.mg "range"=none) (ha:QA X [a] (tFA K p ds ds1 sh fa)) (hs:be a=true):QI X tg (.Call (.Name "range" px) [a] [] pos) (tFI K p ds ds1 (dI fa)):=⟨B8 hg hm ha.h hs⟩
theorem tY {px pos:Pos} {elts:List Expr} {k:Nat} {tp:Pos} (hK:X.K=K) (hg:Gl X "enumerate") (hm:X.mg "enumerate"=none) (ha:QA X [l] (tFA K p ds ds1 sh fa)) (hs:starEach [l] X.env=[(false,eval l X.env)]):QI X (.Tuple elts k tp) (.Call (.Name "enumerate" px) [l] [] pos) (tFI K p ds ds1 (kw fa)):=⟨B9 hK hg hm ha.h hs⟩
end
section
variable {X:Cx} {K:PySem.W.Frag} {p:Bool} {ds ds1:List Nat} {d1:Nat} {e:Expr} {f:ME}
theorem cM {T:Str} {n:String} {px pt pos:Pos} (hK:X.K=K) (hg:Gl X "isinstance") (hm:X.mg "isinstance"=none) (hgT:Gl X T) (hmT:X.mg T=none) (hbT:bootBuiltins T=some (.type n)) (hT:n∈["int", "bool", "str", "list", "tuple", "dict"]) (he:QE X e (tF K p ds ds1 d1 f)) (hnT:T≠"__name__") (hdT:(T == ("__debug__" : Str))=false) (hs1:starEach [e,.Name T pt] X.env=(false,eval e X.env) :: starEach [.Name T pt] X.env) (hs2:starEach [.Name T pt] X.env=(false,eval (.Name T pt) X.env) :: starEach [] X.env) (hpl:(backTo pos (starEach [.Name T pt] X.env)).any (·.1)=false):QE X (.Call (.Name "isinstance" px) [e,.Name T pt] [] pos) (tF K p ds ds1 3 (e1 (aW n) f)):=⟨FY hK hg hm hgT hmT hbT hT he.h hnT hdT hs1 hs2 hpl⟩
end
section
variable {X:Cx} {K:PySem.W.Frag} {p:Bool} {J:Jd} {ds ds0 ds1 ds2 ds3 ds':List Nat} {d d' d1 d2 d3:Nat} {a b c e:Expr} {st:Stmt} {f f1 f2 f3:ME} {m:MS} {pos p2:Pos}
theorem gu (h:QS X st (tFS K J ds ds2 m)) (hd:leD ds1 ds2=true):QS X st (tFS K J ds ds1 m):=⟨BW h.h hd⟩
theorem gW {op op':CmpOp} {g g':D→D→Option D} (ho:OpR X (compareOp op) (rF2 K g 3)) (ho':OpR X (compareOp op') (rF2 K g' 3)) (ha:QE X a (tF K p ds ds0 d1 f1)) (hb:QE X b (tF K p ds0 ds1 d2 f2)) (hc:QE X c (tF K p ds1 ds1 d3 f3)) (hm:lastMarks [op,op'] [b,c]=false):QE X (.Compare a [op,op'] [b,c] pos) (tF K p ds ds1 3 (dk g g' f1 f2 f3)):=⟨vi ho ho' ha.h hb.h hc.h hm⟩
theorem mT {op op':CmpOp} {g g':D→D→Option D} (ho:OpR X (compareOp op) (rF2 K g 3)) (ho':OpR X (compareOp op') (rF2 K g' 3)) (ha:QE X a (tF K p ds ds0 d1 f1)) (hb:QE X b (tF K p ds0 ds1 d2 f2)) (hc:QE X c (tF K p ds1 ds1 d3 f3)) (hm:lastMarks [op,op'] [b,c]=false):QT X (.Compare a [op,op'] [b,c] pos) (tFT K p ds ds1 (tV (dk g g' f1 f2 f3))):=⟨u7 ho ho' ha.h hb.h hc.h hm⟩
theorem bK  : QO X none (tFO K p ds ds cz):=⟨B3⟩
theorem bJ (h:QE X e (tF K p ds ds1 d f)):QO X (some e) (tFO K p ds ds1 (cq f)):=⟨B2 h.h⟩
variable {lo hi:MO}
theorem bw {g:D→Option Int→Option Int→Option D} {elo ehi:Option Expr} (hr:SlR X (rFs K g d)) (he:QE X e (tF K p ds ds1 d1 f)) (hl:QO X elo (tFO K p ds1 ds2 lo)) (hu:QO X ehi (tFO K p ds2 ds3 hi)):QE X (.Subscript e (.Slice elo ehi none p2) pos) (tF K p ds ds3 d (eSl g f lo hi)):=⟨vf hr he.h hl.h hu.h⟩
end
section
variable {X:Cx} {K:PySem.W.Frag} {p:Bool} {J:Jd} {ds ds0 ds1 ds2 ds':List Nat} {d d' d1 d2:Nat} {a b c e o k:Expr} {f f1 f2 fk fe:ME} {pos px spos:Pos} {i:Nat} {σ:St} {H:Hp} {Q:VK} {Dn:Ends}
end
section
variable {X:Cx} {K:PySem.W.Frag} {p:Bool} {J:Jd} {ds ds0 ds1 ds2 ds':List Nat} {d d' d1 d2:Nat} {a b c e o k:Expr} {es:List Expr} {f f1 f2 fk fe:ME} {fa:MA} {sh:Sh} {pos px spos:Pos} {i j:Nat} {σ:St} {H:Hp} {Q:VK} {Dn:Ends}
end
section
variable {X:Cx} {K:PySem.W.Frag} {p:Bool} {ds ds1:List Nat} {O:AS} {H:Hp} {σ:St} {d:Nat} {f:ME} {i:Nat} {e:Expr} {Q:VK}
end
section
variable {X:Cx} {K:PySem.W.Frag} {p:Bool} {ds ds1:List Nat} {d:Nat} {fa:MA} {sh:Sh} {O O1:AS} {H0 H:Hp} {ts us:List D} {vs ws:List V} {a b:Addr}
end
section
variable {X:Cx} {K:PySem.W.Frag} {p:Bool} {ds ds1:List Nat} {d1:Nat} {e:Expr} {f:ME}
end
section
variable {X:Cx} {K:PySem.W.Frag} {p p1 p2:Bool} {ds ds1 ds2:List Nat} {d d1:Nat} {e:Expr} {f:ME} {fa:MA} {sh:Sh} {σ:St} {H:Hp} {Q:VK}
theorem cX {o:Expr} {es:List Expr} {name:Str} {id:String} {apos cpos:Pos} {r:V→List V→Hp→VK→Prop} {g:Str→List D→Option D} (hK:X.K=K) (slot:Slot "str" name id) (hty:typeOf (.builtin id)=pure (.type "method_descriptor")) (hm:MtR X id r) (hr:MtF K r g) (ho:QE X o (tF K p ds ds1 d1 f)) (ha:QA X (e :: es) (tFA K p ds1 ds2 sh fa)) (hsh:cV 0 sh=true) (hbase:attributeBase o name X.env (eval o X.env)=eval o X.env) (hfew:((backTo cpos (starEach (e :: es) X.env)).all (fun x=>!x.1) && (backToKw cpos (keywordEach [] X.env)).all (fun x=>x.1.isSome)
   && decide ((e :: es).length+([]:List Keyword).length+(if ([]:List Keyword).isEmpty then 0 else 1) < 30))=true) (hline:(apos.endLine == cpos.line)=true) (hs:starEach (e :: es) X.env=(false,eval e X.env) :: starEach es X.env) (hplain:(backTo cpos (starEach es X.env)).any (·.1)=false):QE X (.Call (.Attribute o name apos) (e :: es) [] cpos) (tF K p ds ds2 3 (eM g f fa)):=⟨Cd hK slot hty hm hr ho.h ha.h hsh hbase hfew hline hs hplain⟩
end
section
variable {X:Cx} {K:PySem.W.Frag} {p p1 p2:Bool} {J:Jd} {ds ds1 ds2:List Nat} {H:Hp} {σ:St} {d d1 d2 i m:Nat} {f fk fe:ME} {mp:MP} {e b o:Expr} {Q:VK}
end
section
variable {X:Cx} {K:PySem.W.Frag} {p p1 p2:Bool} {ds ds1 ds2:List Nat} {d d1 d2:Nat} {e k:Expr} {f f1 f2:ME} {fa:MA} {sh:Sh} {σ:St} {H:Hp} {Q Q':VK} {pos pos2 px py:Pos}
theorem qG (hK:X.K=K) (hc:X.calm=true) (hg:Gl X "len") (hm:X.mg "len"=none) (hg2:Gl X "set") (hm2:X.mg "set"=none) (hb:bootBuiltins "len"=some (.builtin "len")) (hb2:bootBuiltins "set"=some (.type "set")) (he:QE X e (tF K p ds ds1 d1 f)) (hs:be e=true):QE X (.Call (.Name "len" px) [.Call (.Name "set" py) [e] [] pos2] [] pos) (tF K p ds ds1 3 (e1 mI f)):=⟨t7 hK hc hg hm hg2 hm2 hb hb2 he.h hs⟩
theorem t3 (hK:X.K=K) (he:QE X e (tF K p ds ds1 d1 f1)) (hk:QE X k (tF K p ds1 ds2 d2 f2)):QE X (.Subscript e (.Slice none none (some k) pos2) pos) (tF K p ds ds2 1 (e2 pA f1 f2)):=⟨Cf hK he.h hk.h⟩
theorem oq (he:QE X e (tF K p ds ds1 d1 f1)) (hk:QE X k (tF K p ds1 ds2 d2 f2)):QE X (.Subscript e (.Slice none none (some k) pos2) pos) (tF K p ds ds2 3 (e2 kU f1 f2)):=⟨Ce he.h hk.h⟩
theorem tX {l m:Expr} {elts:List Expr} {k:Nat} {tp:Pos} (hg:Gl X "zip") (hm:X.mg "zip"=none) (ha:QA X [l,m] (tFA K p ds ds1 sh fa)) (hs:be l=true) (hs2:be m=true):QI X (.Tuple elts k tp) (.Call (.Name "zip" px) [l,m] [] pos) (tFI K p ds ds1 (ku fa)):=⟨B7 hg hm ha.h hs hs2⟩
end
section
variable {X:Cx} {K:PySem.W.Frag} {p p1 p2:Bool} {ds ds1 ds2:List Nat} {d d1 d2:Nat} {a b:Expr} {f f1 f2:ME} {σ:St} {H:Hp} {Q Q':VK} {pos:Pos} {ta tb:TE} {rest:List Expr}
end
section
variable {X:Cx} {K:PySem.W.Frag} {p p1 p2:Bool} {ds ds1 ds2:List Nat} {d d1 d2:Nat} {a b:Expr} {f f1 f2:ME} {σ:St} {H:Hp} {Q Q':VK} {pos:Pos}
end
section
variable {X:Cx} {K:PySem.W.Frag} {p p1 p2:Bool} {ds ds1 ds2:List Nat} {d d1 d2:Nat} {e:Expr} {f f1 f2:ME} {σ:St} {H:Hp} {Q Q':VK}
end
section
variable {X:Cx} {K:PySem.W.Frag} {p:Bool} {ds ds1 ds2:List Nat} {d d1 d2:Nat} {e:Expr} {f f1 f2:ME} {σ:St} {H:Hp} {Q Q':VK}
end
section
variable {X:Cx} {K:PySem.W.Frag} {p p1 p2:Bool} {ds ds1 ds2:List Nat} {d d1 d2:Nat} {e k:Expr} {f f1 f2:ME} {fa:MA} {sh:Sh} {σ:St} {H:Hp} {Q Q':VK} {pos pos2 px py:Pos}
end
section
variable {X:Cx} {K:PySem.W.Frag} {p p1 p2:Bool} {ds ds1 ds2:List Nat} {d d1 d2:Nat} {e:Expr} {f f1 f2:ME} {σ:St} {H:Hp} {Q Q':VK} {i:Nat}
end
section
variable {X:Cx} {K:PySem.W.Frag} {p p1 p2 q:Bool} {J:Jd} {ds ds0 ds1 ds2 ds' dsi dps:List Nat} {d d' d1 d2 dr:Nat} {a b c e tg iter:Expr} {es:List Expr} {st:Stmt} {rest body bodyB:List Stmt} {f f1 f2 fk fe:ME} {c1 c2:MT} {fa:MA} {sh:Sh} {pos px:Pos} {i:Nat} {x:Str} {m m1 m2:MS} {g:MG} {gs:List D→En→Option En} {fi:MI} {lk:List Nat}
end
section
variable {X:Cx} {K:PySem.W.Frag} {p:Bool} {ds ds1:List Nat} {d:Nat} {fa:MA} {sh:Sh} {O O1:AS} {H0 H:Hp} {ts us:List D} {vs ws:List V} {a b:Addr}
end
section
variable {X:Cx} {K:PySem.W.Frag} {J:Jd} {lk ds ds0 ds1 ds2 ds':List Nat} {e tg:Expr} {es:List Expr} {f:ME} {pos px:Pos} {i:Nat} {g:MG} {gs:List D→En→Option En}
end
section
variable {X:Cx} {K:PySem.W.Frag} {p:Bool} {ds:List Nat} {k v:Expr} {fk fv:ME} {pos:Pos} {σ:St} {H:Hp} {Q:VK} {O:AS}
end
end L2
namespace L2
open PySem PySem.Spec PyProof.Rows
theorem Fun.okQ {P:Program} {w:World} {K:PySem.W.Frag} {mg:Str→Option Value} {base:Heap} {x qual:Str} {st:Stmt} {f:Addr} {fd:FuncData} {N ps:List Str} {k n dr:Nat} {dps ds0:List Nat} {J:Jd} {b:MS}
  (F:Fun K x qual st f fd) (S:FnScope N ps (ar st)) (hl:dps.length=ps.length) (hn:N.length - dps.length=n) (hJ:J=⟨pJ dps,dps++List.replicate n 0,dr,[]⟩) (hd:ds0=dps++List.replicate n 0)
  (hb:∀ (cdv:Value) (A:Around) (outer:List Env) (s:Shared) (H:Hp) (E:XK),Room k (A.deeper (envOfC qual (ar st) s.heap.objs.size f cdv)) →
   QSs (lR CX0 P w K mg base N qual (ar st) f cdv A outer s H E).nox (dm st) (tFS K J ds0 ds0 b)):FnOk P w K mg base CX0 (k+1) f fd ps (spF K dps dr (fnF n dps b)):=by
 subst hJ hd
 exact F.ok S (fun vs H Q E h=>Bi hl h) fun cdv A outer s H vs Q E hr h=>⟨_,(hb cdv A outer s H E hr).h,B5 hn h⟩
def E7 (F:List D→Option (D × En)):Prop:=∀ ns:List Int,ns.length≤63→∃ outs,F [.list (ns.map .int)]=some (.bool true,outs)
def my (K:PySem.W.Frag):Sp:=fun vs H Q _=>∃ (a:Addr) (ns:List Int),vs=[.ref a]∧SqL K H a (ns.map V.int)∧(∀ b,H b=none∨∃ o xs,H b=some (.frz o (.lst xs)))∧ns.length≤63∧∀ H':Hp,Q (.bl true) H'
theorem lp {K:PySem.W.Frag} {O:AS} {H:Hp}:∀ ns:List Int,Ows K O H (ns.map .int) 0 (ns.map V.int) NoA
 | []=>rfl
 | n :: r=>⟨.int n,r.map V.int,NoA,NoA,rfl,fun _ z=>z,fun _ z=>z,fun _ z=>z.elim,rfl,lp r⟩
theorem E6 {K:PySem.W.Frag} {dr:Nat} {F:List D→Option (D × En)} (h:E7 F) {vs:List V} {H:Hp} {Q:VK} {E:XK} (q:my K vs H Q E):spF K [0] dr F vs H Q E:=by
 obtain ⟨a,ns,rfl,hs,_,hl,q⟩:=q
 obtain ⟨outs,e⟩:=h ns hl
 have fz:FzL K (fun _=>False) H a (ns.map V.int):=by
  rcases hs with hs | hs
  ·exact .inl ⟨hs,fun z=>z⟩
  ·exact .inr fun H'=>.inr hs
 have eO:Own (fun _=>NoA) NoA=(fun _=>False):=gX fun b=>⟨fun z=>z.elim (fun ⟨_,z⟩=>z) fun z=>z,fun z=>z.elim⟩
 refine ⟨NoA,[.list (ns.map .int)],fun _=>NoA,.bool true,outs,⟨fun i t hi=>?_,fun _ _ _ z=>z.elim,fun _ _ z=>z.elim,fun b z=>?_,rfl,rfl⟩,e,fun v H' R' Fr _ o=>?_⟩
 ·cases i with
  | zero =>
   have:t=.list (ns.map .int):=by
    have h2:some (some (PyData.list (ns.map .int)))=some (some t):=hi
    injection h2 with h3
    injection h3 with h4
    exact h4.symm
   subst this
   refine ⟨.ref a,0,rfl,rfl,?_⟩
   rw [eO]
   exact ⟨a,ns.map V.int,rfl,.inl ⟨rfl,fz,lp ns⟩⟩
  | succ i=>simp at hi
 ·rw [eO] at z
  exact z.elim
 ·rw [show v=.bl true from o]
  exact q H'
end L2
namespace L2
open PySem PySem.Spec PyProof.Rows
section
variable {c:MT} {b:MS} {en en1 en2:En} {fl:Fl} {t:D}
theorem gS {c:MT} {f:ME} {p:D→Bool} {F:D→D} {rest:En}:∀ (ts acc:List D) (o:Option D),(∀ t∈ts,c (some t :: rest)=some (p t,some t :: rest))→(∀ t∈ts,p t=true→f (some t :: rest)=some (F t,some t :: rest))→acc.length+ts.length≤sizeLine →
  ∃ o',lcF (gN 0) c f ts acc (o :: rest)=some (acc++(ts.filter p).map F,o' :: rest)
 | [],acc,o,_,_,_=>⟨o,by simp [lcF]⟩
 | t :: ts,acc,o,hc,hf,hl=>by
  have hl':acc.length+(ts.length+1)≤sizeLine:=hl
  cases hp:p t with
  | true =>
   obtain ⟨o',h⟩:=gS (c:=c) (f:=f) (p:=p) (F:=F) ts (acc++[F t]) (some t) (fun x hx=>hc x (List.mem_cons_of_mem _ hx)) (fun x hx=>hf x (List.mem_cons_of_mem _ hx)) (by rw [List.length_append]; show acc.length+1+_≤_; omega)
   refine ⟨o',?_⟩
   unfold lcF
   show ((c (some t :: rest)).bind _)=_
   rw [hc t List.mem_cons_self,hp]
   show ((f (some t :: rest)).bind _)=_
   rw [hf t List.mem_cons_self hp]
   show (if acc.length < sizeLine then _ else _)=_
   rw [if_pos (by omega)]
   dsimp only
   rw [h,List.filter_cons_of_pos hp]
   simp
  | false =>
   obtain ⟨o',h⟩:=gS (c:=c) (f:=f) (p:=p) (F:=F) ts acc (some t) (fun x hx=>hc x (List.mem_cons_of_mem _ hx)) (fun x hx=>hf x (List.mem_cons_of_mem _ hx)) (by omega)
   refine ⟨o',?_⟩
   unfold lcF
   show ((c (some t :: rest)).bind _)=_
   rw [hc t List.mem_cons_self,hp]
   show lcF (gN 0) c f ts acc (some t :: rest)=_
   rw [h,List.filter_cons_of_neg (by rw [hp]; decide)]
theorem BG {f:ME} {F:D→D} {rest:En} (ts acc:List D) (o:Option D) (hf:∀ t∈ts,f (some t :: rest)=some (F t,some t :: rest)) (hl:acc.length+ts.length≤sizeLine) :
  ∃ o',lcF (gN 0) cY f ts acc (o :: rest)=some (acc++ts.map F,o' :: rest):=by
 obtain ⟨o',h⟩:=gS (c:=cY) (f:=f) (p:=fun _=>true) (F:=F) ts acc o (fun _ _=>rfl) (fun t ht _=>hf t ht) hl
 rw [List.filter_eq_self.mpr (fun _ _=>rfl)] at h
 exact ⟨o',h⟩
end
section
variable {c c1 c2:MT} {m1 m2 b:MS} {en en1 en2:En} {fl:Fl} {t t1 t2 u:D} {f f1 f2:ME} {g:D→D→Option D} {fa:MA} {i n:Nat} {x y:Bool} {F:List D→Option (D × En)} {as:List (D ⊕ Nat)} {ts:List D} {outs:En} {dps:List Nat}
theorem ei (h1:m1 en=some (.nx en1)) (h2:m2 en1=some fl):ap m1 m2 en=some fl:=by unfold ap; rw [h1]; exact h2
theorem ua (h1:m1 en=some (.rt t en1)):ap m1 m2 en=some (.rt t en1):=by unfold ap; rw [h1]; rfl
theorem pX {b:Bool} (h1:c en=some (b,en1)) (hb:b=true) (h2:m1 en1=some fl):sIf c m1 m2 en=some fl:=by unfold sIf; rw [h1,hb]; exact h2
theorem pY {b:Bool} (h1:c en=some (b,en1)) (hb:b=false) (h2:m2 en1=some fl):sIf c m1 m2 en=some fl:=by unfold sIf; rw [h1,hb]; exact h2
theorem mY (h:f en=some (t,en1)) (he:en1.set i (some t)=en2):aH i f en=some (.nx en2):=by unfold aH; rw [h,← he]; rfl
theorem sf (h:f en=some (t,en1)):aC f en=some (.rt t en1):=by unfold aC; rw [h]; rfl
theorem cx (h1:f1 en=some (t1,en1)) (h2:f2 en1=some (t2,en2)) (h:g t1 t2=some u):e2 g f1 f2 en=some (u,en2):=by
 unfold e2
 rw [h1]
 show (f2 en1).bind _=_
 rw [h2]
 show (g t1 t2).map _=_
 rw [h]
 rfl
theorem rb {b:Bool} {r:Bool × En} (h1:c1 en=some (b,en1)) (hb:b=true) (h2:c2 en1=some r):eR c1 c2 en=some r:=by unfold eR; rw [h1,hb]; exact h2
theorem Cn {b:Bool} (h1:c1 en=some (b,en1)) (hb:b=false):eR c1 c2 en=some (false,en1):=by unfold eR; rw [h1,hb]; rfl
theorem jK {b:Bool} (h:f en=some (.bool b,en1)):tV f en=some (b,en1):=by unfold tV; rw [h]; rfl
theorem sg {g:List D→Option D} (h1:fa en=some (as,en1)) (h2:vals as=some ts) (h:g ts=some t):eN g fa en=some (t,en1):=by
 unfold eN
 rw [h1]
 show (vals as).bind _=_
 rw [h2]
 show (g ts).map _=_
 rw [h]
 rfl
theorem si {r:MA} (h1:f en=some (t,en1)) (h2:r en1=some (as,en2)):ad f r en=some (.inl t :: as,en2):=by
 unfold ad
 rw [h1]
 show (r en1).map _=_
 rw [h2]
 rfl
theorem ub (h1:fa en=some (as,en1)) (h2:vals as=some ts) (h:ts.length≤sizeLine):cp fa en=some (.list ts,en1):=by
 unfold cp
 rw [h1]
 show (vals as).bind _=_
 rw [h2]
 exact if_pos h
theorem db:100≤sizeLine:=by rw [sizeLine_eq]; decide
theorem mW (h:b (ts.map some++List.replicate n none)=some (.rt t en)):fnF n dps b ts=some (t,msk dps en):=by
 unfold fnF
 rw [h]
 rfl
end
namespace Pen2
def dA:MS:=(aC (Hc [((eC (.str "script")),(af 0)),((eC (.str "at")),(af 1)),((eC (.str "left")),(eC (.int 0)))]))
def F_law_pen:List D→Option (D × En):=fnF 0 [0,0] dA
end Pen2
end L2
namespace L2
open PySem PySem.Spec PyProof.Rows
theorem Gh (a b:Int):eqD (.int a) (.int b)=some (.bool (a == b)):=by
 show grd _ _=_
 unfold grd
 rw [if_pos ⟨rfl,rfl,Nat.zero_le _⟩]
 simp only [peq]
theorem EZ (a b:Int):neD (.int a) (.int b)=some (.bool (!(a == b))):=by
 show grd _ _=_
 unfold grd
 rw [if_pos ⟨rfl,rfl,Nat.zero_le _⟩]
 simp only [peq]
end L2
namespace L2
open PySem PySem.Spec PyProof.Rows
structure Df (K:PySem.W.Frag) (x:Str) (st:Stmt) (f:Addr):Prop where
 a:PySem.W.nsIn K mainGlobals x=some (some (.ref f))
 l:∃ oc od kV dc pm an cd ct sl,K.lookup f=some ⟨oc,od,.func (PySem.W.fnOf x x (eH st) (dm st) (ar st) .none kV dc pm an cd ct),sl⟩∧PySem.W.codeIn K cd x=true
 k:PySem.W.keepIn K (.ref f)=true
section
variable {P:Program} {w:World} {K:PySem.W.Frag} {mg:Str→Option Value} {base h:Heap} {k dr:Nat} {x:Str} {ps:List Str} {dps:List Nat} {f:Addr} {st:Stmt} {sp:Sp}
theorem Df.mk' {oc:Value} {od an:Option Addr} {sl:Array (Option Value)} {kV dc pm cd ct:Value} (a:PySem.W.nsIn K mainGlobals x=some (some (.ref f))) (l:K.lookup f=some ⟨oc,od,.func (PySem.W.fnOf x x (eH st) (dm st) (ar st) .none kV dc pm an cd ct),sl⟩) (c:PySem.W.codeIn K cd x=true) (k:PySem.W.keepIn K (.ref f)=true):Df K x st f :=
 ⟨a,⟨oc,od,kV,dc,pm,an,cd,ct,sl,l,c⟩,k⟩
theorem Df.kn (d:Df K x st f) (X:K.In h) (G:h.Ns mainGlobals mg) (b:∀ (kV doc pm:Value) (an:Option Addr) (cdv ct:Value) (us:List Value),us.length=ps.length→bindArgs (PySem.W.fnOf x x (eH st) (dm st) (ar st) .none kV doc pm an cdv ct) ⟨us,[]⟩=pure (ps.zip us))
  (ok:∀ fd,Fun K x x st f fd→FnOk P w K mg base CX0 k f fd ps sp):Kn P w K mg base k x ps sp:=by
 obtain ⟨_,_,_,_,_,_,_,_,_,l,c⟩:=d.l
 have F:=pS (st:=st) l c d.k
 exact ⟨_,_,ok _ F,PySem.W.mg_of X G d.a,d.k,F.binds b⟩
theorem Df.none (d:Df K x st f) (X:K.In h) (G:h.Ns mainGlobals mg) (b:∀ (kV doc pm:Value) (an:Option Addr) (cdv ct:Value) (us:List Value),us.length=ps.length→bindArgs (PySem.W.fnOf x x (eH st) (dm st) (ar st) .none kV doc pm an cdv ct) ⟨us,[]⟩=pure (ps.zip us)) :
  Kn P w K mg base k x ps (spF K dps dr fun _=>Option.none):=by
 obtain ⟨_,_,_,_,_,_,_,_,_,l,c⟩:=d.l
 have F:=pS (st:=st) l c d.k
 exact BH (PySem.W.mg_of X G d.a) d.k (F.binds b)
end
end L2
namespace L2
namespace Pen3
open PySem L2
theorem sl1000:1000≤sizeLine:=by rw [sizeLine_eq]; decide
def dA:MS:=(ap (aH 2 (eC (.int 0)))
 (ap (sIf (tV (e2 gtI (eN ba (ad (af 0) ai)) (eC (.int 0)))) (aH 2 (e2 ixA (af 0) (e2 dh (af 1) (eN ba (ad (af 0) ai))))) aM)
 (ap (sIf (eR (tV (e2 ltI (af 1) (eN ba (ad (af 0) ai)))) (tV (e2 geI (eN lW (ad (af 2) ai)) (e2 pB (eC (.int 10)) (eC (.int 18)))))) (aC (cp (ad (eN lW (ad (af 2) ai)) (ad (eC (.int 0)) (ad (eC (.int 0)) ai))))) aM)
 (aC (cp (ad (eC (.int 0)) (ad (e2 bA (e2 dh (af 2) (eC (.int 999999937))) (e2 dg (eC (.int 70001)) (af 1))) (ad (eC (.int 0)) ai))))))))
def F_law_pen:List D→Option (D × En):=fnF 1 [0,0] dA
def eK:MS:=(ap (sIf (tV (e2 gtI (di 0 (eC (.int 0))) (eC (.int 0)))) (ap (aH 2 (e2 dh (di 0 (eC (.int 0))) (af 1)))
 (ap (gk 0 (eC (.int 0)) (e2 gl (di 0 (eC (.int 0))) (af 1)))
 (aC (af 2)))) aM)
 (ap (gk 0 (eC (.int 2)) (e2 bA (di 0 (eC (.int 2))) (eC (.int 1))))
 (ap (aH 3 (e2 dh (e2 bA (e2 bA (e2 dg (di 0 (eC (.int 1))) (eC (.int 48271))) (e2 dg (di 0 (eC (.int 2))) (eC (.int 39373)))) (eC (.int 11))) (eC (.int 2147483647))))
 (ap (aH 3 (e2 dh (e2 dg (af 3) (e2 bA (e2 dh (af 3) (eC (.int 65521))) (di 0 (eC (.int 2))))) (eC (.int 2147483629))))
 (aC (e2 dh (e2 gl (af 3) (eC (.int 64))) (af 1)))))))
def F_law_draw:List D→Option (D × En):=fnF 2 [1,0] eK
def eQ (a b c:Int):D:=.list [.int a,.int b,.int c]
def IsPen (t:D):Prop:=∃ a b c,t=eQ a b c
theorem draw_ok {p:D} {m:Int} (hp:IsPen p) (h3:0 < m) (h4:m < 1073741824):∃ r p',F_law_draw [p,.int m]=some (.int r,[some p',none])∧0≤r∧r < m∧IsPen p':=by
 obtain ⟨a,b,c,rfl⟩:=hp
 have cd:∀ z,j4 z m:=fun z=>⟨h3,h4⟩
 have md:∀ z,dh (.int z) (.int m)=some (.int (z % m)):=fun z=>if_pos h3
 have dv:∀ z,gl (.int z) (.int m)=some (.int (z / m)):=fun z=>if_pos (cd z)
 by_cases ha:0 < a
 ·refine ⟨a % m,eQ (a / m) b c,?_,Int.emod_nonneg _ (by omega),Int.emod_lt_of_pos _ h3,_,_,_,rfl⟩
  refine mW (b:=eK) (en:=[some (eQ (a / m) b c),some (.int m),some (.int (a % m)),none]) (ua (pX (b:=decide ((0:Int) < a)) rfl (decide_eq_true ha) (ei (en1:=[some (eQ a b c),some (.int m),some (.int (a % m)),none]) (mY (cx (t1:=.int a) (t2:=.int m) rfl rfl (md a)) rfl) (ei (en1:=[some (eQ (a / m) b c),some (.int m),some (.int (a % m)),none]) ?_ rfl))))
  unfold gk
  rw [cx (t1:=.int a) (t2:=.int m) (f1:=di 0 (eC (.int 0))) (f2:=af 1) (g:=gl) (en:=[some (eQ a b c),some (.int m),some (.int (a % m)),none]) (en1:=[some (eQ a b c),some (.int m),some (.int (a % m)),none]) (en2:=[some (eQ a b c),some (.int m),some (.int (a % m)),none]) rfl rfl (dv a)]
  rfl
 ·generalize g1:(b * 48271+(c+1) * 39373+11) % 2147483647=x
  have x0:0≤x:=by omega
  have x1:x < 2147483647:=by omega
  generalize g2:x * (x % 65521+(c+1)) % 2147483629=y
  refine ⟨y / 64 % m,eQ a b (c+1),?_,Int.emod_nonneg _ (by omega),Int.emod_lt_of_pos _ h3,_,_,_,rfl⟩
  have c1:dg (.int b) (.int 48271)=some (.int (b * 48271)):=if_pos (.inr (by decide))
  have c2:dg (.int (c+1)) (.int 39373)=some (.int ((c+1) * 39373)):=if_pos (.inr (by decide))
  have c3:dg (.int x) (.int (x % 65521+(c+1)))=some (.int (x * (x % 65521+(c+1)))):=if_pos (.inl (by constructor <;> omega))
  have c80:j4 y 64:=⟨by decide,by decide⟩
  have c8:gl (.int y) (.int 64)=some (.int (y / 64)):=by
   show (if j4 y 64 then some (PyData.int (y / 64)) else none)=_
   rw [if_pos c80]
  refine mW (b:=eK) (en:=[some (eQ a b (c+1)),some (.int m),none,some (.int y)]) (ei (en1:=[some (eQ a b c),some (.int m),none,none]) (pY (b:=decide ((0:Int) < a)) rfl (decide_eq_false ha) rfl)
   (ei (en1:=[some (eQ a b (c+1)),some (.int m),none,none]) rfl
   (ei (en1:=[some (eQ a b (c+1)),some (.int m),none,some (.int x)]) (mY (cx (t2:=.int 2147483647) (cx (cx (cx (t1:=.int b) (t2:=.int 48271) rfl rfl c1) (cx (t1:=.int (c+1)) (t2:=.int 39373) rfl rfl c2) rfl) rfl rfl) rfl (by rw [← g1]; rfl)) rfl)
   (ei (en1:=[some (eQ a b (c+1)),some (.int m),none,some (.int y)]) (mY (cx (t2:=.int 2147483629) (cx (t1:=.int x) (t2:=.int (x % 65521+(c+1))) rfl (cx (t1:=.int (x % 65521)) (t2:=.int (c+1)) rfl rfl rfl) c3) rfl (by rw [← g2]; rfl)) rfl)
   (sf (cx (t2:=.int m) (cx (t1:=.int y) (t2:=.int 64) rfl rfl c8) rfl (md _)))))))
theorem pen_ok {ns:List Int} {k:Int} (h0:0≤k):∃ p,F_law_pen [.list (ns.map .int),.int k]=some (p,[none,none])∧IsPen p:=by
 have len:ba [.list (ns.map .int)]=some (.int ns.length):=by show some (PyData.int (ns.map PyData.int).length)=_; rw [List.length_map]
 have ln:∀ (y:Option D),(eN ba (ad (af 0) ai)) [some (.list (ns.map .int)),some (.int k),y]=some (.int ns.length,[some (.list (ns.map .int)),some (.int k),y]):=fun y=>sg rfl rfl len
 have mk0:CMul 70001 k:=.inl (by decide)
 have mk:dg (.int 70001) (.int k)=some (.int (70001 * k)):=by
  show (if CMul 70001 k then some (PyData.int (70001 * k)) else none)=_
  rw [if_pos mk0]
 have pw:pB (.int 10) (.int 18)=some (.int 1000000000000000000):=by
  show (if kO 10 18 then some (PyData.int (10 ^ Int.toNat 18)) else none)=_
  rw [if_pos (by unfold kO; decide)]; rfl
 obtain ⟨c,st⟩:∃ c:Int,(sIf (tV (e2 gtI (eN ba (ad (af 0) ai)) (eC (.int 0)))) (aH 2 (e2 ixA (af 0) (e2 dh (af 1) (eN ba (ad (af 0) ai))))) aM) [some (.list (ns.map .int)),some (.int k),some (.int 0)]=some (.nx [some (.list (ns.map .int)),some (.int k),some (.int c)]):=by
  by_cases hn:(0:Int) < ns.length
  ·obtain ⟨j,ej⟩:∃ j:Nat,ixN ns.length (k % ns.length)=some j∧j < ns.length:=by
    have q1:0≤k % (ns.length:Int):=Int.emod_nonneg _ (by omega)
    have q2:k % (ns.length:Int) < ns.length:=Int.emod_lt_of_pos _ (by omega)
    exact ⟨(k % (ns.length:Int)).toNat,by unfold ixN; rw [if_pos q1,if_pos q2],by omega⟩
   obtain ⟨c,ec⟩:∃ c,ns[j]?=some c:=⟨_,List.getElem?_eq_getElem ej.2⟩
   have at1:ixA (.list (ns.map .int)) (.int (k % ns.length))=some (.int c):=by
    show atI _ _=_
    unfold atI
    rw [List.length_map,ej.1]
    show (ns.map PyData.int)[j]?=_
    rw [List.getElem?_map,ec]
    rfl
   have ml:dh (.int k) (.int ns.length)=some (.int (k % ns.length)):=if_pos hn
   exact ⟨c,pX (jK (cx (ln _) rfl rfl)) (decide_eq_true hn) (mY (cx rfl (cx rfl (ln _) ml) at1) rfl)⟩
  ·exact ⟨0,pY (jK (cx (ln _) rfl rfl)) (decide_eq_false hn) rfl⟩
 obtain ⟨b,ab⟩:∃ b,lW [.int c]=some (.int b):=⟨if c < 0 then -c else c,rfl⟩
 have l3:∀ x y z:D,[x,y,z].length≤sizeLine:=fun x y z=>Nat.le_trans (by show 3≤1000; decide) sl1000
 have fin:(aC (cp (ad (eC (.int 0)) (ad (e2 bA (e2 dh (af 2) (eC (.int 999999937))) (e2 dg (eC (.int 70001)) (af 1))) (ad (eC (.int 0)) ai))))) [some (.list (ns.map .int)),some (.int k),some (.int c)]=some (.rt (eQ 0 (c % 999999937+70001 * k) 0) [some (.list (ns.map .int)),some (.int k),some (.int c)]) :=
  sf (ub (si rfl (si (cx (t1:=.int (c % 999999937)) (t2:=.int (70001 * k)) rfl (cx rfl rfl mk) rfl) rfl)) rfl (l3 _ _ _))
 by_cases h1:(k < (ns.length:Int))∧(1000000000000000000≤b)
 ·refine ⟨eQ b 0 0,mW (b:=dA) (en:=[some (.list (ns.map .int)),some (.int k),some (.int c)]) (ei (en1:=[some (.list (ns.map .int)),some (.int k),some (.int 0)]) rfl (ei st (ua (pX (b:=true) (rb (b:=decide (k < (ns.length:Int))) (jK (cx rfl (ln _) rfl)) (decide_eq_true h1.1) (jK (cx (sg rfl rfl ab) (cx rfl rfl pw) (congrArg (fun q=>some (PyData.bool q)) (decide_eq_true h1.2))))) rfl (sf (ub (si (sg rfl rfl ab) rfl) rfl (l3 _ _ _))))))),_,_,_,rfl⟩
 ·refine ⟨_,mW (b:=dA) (en:=[some (.list (ns.map .int)),some (.int k),some (.int c)]) (ei (en1:=[some (.list (ns.map .int)),some (.int k),some (.int 0)]) rfl (ei st (ei (en1:=[some (.list (ns.map .int)),some (.int k),some (.int c)]) (pY (b:=false) ?_ rfl rfl) fin))),_,_,_,rfl⟩
  by_cases h2:k < (ns.length:Int)
  ·exact rb (b:=decide (k < (ns.length:Int))) (jK (cx rfl (ln _) rfl)) (decide_eq_true h2) (jK (cx (sg rfl rfl ab) (cx rfl rfl pw) (congrArg (fun q=>some (PyData.bool q)) (decide_eq_false fun z=>h1 ⟨h2,z⟩))))
  ·exact Cn (b:=decide (k < (ns.length:Int))) (jK (cx rfl (ln _) rfl)) (decide_eq_false h2)
end Pen3
end L2
namespace L2
open PySem PySem.Spec PyProof.Rows
structure W {α:Type} (x:Option α) (Q:α→Prop):Prop where
 ex:∃ a,x=some a∧Q a
theorem aJ {α:Type} (a:α) (Q:α→Prop):W (some a) Q=Q a:=propext ⟨fun ⟨b,e,h⟩=>(Option.some.inj e) ▸ h,fun h=>⟨a,rfl,h⟩⟩
theorem bN {α:Type} (Q:α→Prop):W (none:Option α) Q=False:=propext ⟨(fun ⟨b,e,h⟩=>by cases e),(fun h=>h.elim)⟩
theorem W.use {α:Type} {x:Option α} {P Q:α→Prop} (h:W x P) (k:∀ a,P a→Q a):W x Q :=
 let ⟨a,e,h⟩:=h.ex
 ⟨a,e,k a h⟩
theorem W.of {α:Type} {x:Option α} {P:α→Prop} {a:α} (e:x=some a) (h:P a):W x P:=⟨a,e,h⟩
theorem aI {α β:Type} (x:Option α) (f:α→Option β) (Q:β→Prop):W (x.bind f) Q=W x (fun a=>W (f a) Q):=by
 cases x with
 | none=>show W none _=_; rw [bN,bN]
 | some a=>show W (f a) Q=_; rw [aJ]
theorem bW {α β:Type} (x:Option α) (f:α→β) (Q:β→Prop):W (x.map f) Q=W x (fun a=>Q (f a)):=by
 cases x with
 | none=>show W none _=_; rw [bN,bN]
 | some a=>show W (some (f a)) Q=_; rw [aJ,aJ]
theorem iI {α:Type} (c:Prop) [Decidable c] (a:α) (Q:α→Prop):W (grd c a) Q=(c∧Q a):=by
 unfold grd
 by_cases h:c
 ·rw [if_pos h,aJ]; exact propext ⟨fun z=>⟨h,z⟩,fun z=>z.2⟩
 ·rw [if_neg h,bN]; exact propext ⟨fun z=>z.elim,fun z=>h z.1⟩
theorem i4 {α:Type} (c:Prop) [Decidable c] (a:α) (Q:α→Prop):W (if c then some a else none) Q=(c∧Q a):=iI c a Q
theorem sr {α:Type} (c:Prop) [Decidable c] (x:Option α) (Q:α→Prop):W (if c then x else none) Q=(c∧W x Q):=by
 by_cases h:c
 ·rw [if_pos h]; exact propext ⟨fun z=>⟨h,z⟩,fun z=>z.2⟩
 ·rw [if_neg h,bN]; exact propext ⟨fun z=>z.elim,fun z=>h z.1⟩
def gv (en:En) (i:Nat):Option D:=(en[i]?).join
def iT (ts:List D) (n:Int) (t:D):Option (List D):=(ixN ts.length n).map fun k=>ts.set k t
def rE (ts:List D) (n:Int):Option (D × List D):=(seqIndex? n ts.length).bind fun k=>(ts[k]?).map fun t=>(t,ts.eraseIdx k)
def pz (i:Int) (n:Nat):List D:=(List.range n).map fun k=>.int (i+(k:Nat))
section
variable {α β:Type}
def rR (b:MS) (Q:Fl→Prop):Fl→Prop:=fun fl=>W (match fl with | .nx en1=>b en1 | .rt t en1=>some (.rt t en1) | .ct en1=>some (.ct en1)) Q
def Fg (i:Nat) (Q:Fl→Prop):D × En→Prop:=fun r=>Q (.nx (r.2.set i (some r.1)))
def Fp (Q:Fl→Prop):D × En→Prop:=fun r=>Q (.nx r.2)
def Fh (Q:Fl→Prop):D × En→Prop:=fun r=>Q (.rt r.1 r.2)
def kIf (f g:En→Option β) (Q:β→Prop):Bool × En→Prop:=fun r=>W (if r.1 then f r.2 else g r.2) Q
def Fo (g:MG) (b:MS) (Q:Fl→Prop):List D × En→Prop:=fun r=>W (eh g b r.1 r.2) Q
def mL (g:MG) (b:MS) (ts:List D) (Q:Fl→Prop):Fl→Prop:=fun fl=>W (match fl with | .nx en2=>eh g b ts en2 | .ct en2=>eh g b ts en2 | .rt r en2=>some (.rt r en2)) Q
def A8 (g:MG) (b:MS) (ts:List D) (Q:Fl→Prop):En→Prop:=fun en=>W (b en) (mL g b ts Q)
def uW (i:Nat) (en:En) (Q:Fl→Prop):List D→Prop:=fun ts=>Q (.nx (en.set i (some (.list ts))))
def mK (i:Nat) (t:D) (Q:Fl→Prop):D × En→Prop:=fun q=>W (match q.1,(q.2[i]?).join with | .int n,some (.list ts)=>(ixN ts.length n).map fun k=>.nx (q.2.set i (some (.list (ts.set k t)))) | _,_=>none) Q
def rQ (i:Nat) (fk:ME) (Q:Fl→Prop):D × En→Prop:=fun r=>W (match (r.2[i]?).join with | some _=>((fk r.2).bind fun q=>(match q.1,(q.2[i]?).join with | .int n,some (.list ts)=>(ixN ts.length n).map fun k=>.nx (q.2.set i (some (.list (ts.set k r.1)))) | _,_=>none)) | none=>none) Q
def tG (i:Nat) (t:D) (fk:ME) (en:En) (Q:Fl→Prop):D→Prop:=fun _x=>W (fk en) (mK i t Q)
def pL (i:Nat) (t:D) (n:Int) (en:En) (Q:Fl→Prop):D→Prop:=fun x=>W (match x with | .list ts=>(ixN ts.length n).map fun k=>.nx (en.set i (some (.list (ts.set k t)))) | _=>none) Q
def fT (en:En) (Q:D × En→Prop):D→Prop:=fun t=>Q (t,en)
def k1 (g:D→Option D) (Q:D × En→Prop):D × En→Prop:=fun r=>W (g r.1) (fT r.2 Q)
def k2b (g:D→D→Option D) (t:D) (Q:D × En→Prop):D × En→Prop:=fun q=>W (g t q.1) (fT q.2 Q)
def k2 (g:D→D→Option D) (f:ME) (Q:D × En→Prop):D × En→Prop:=fun r=>W (f r.2) (k2b g r.1 Q)
def u0 (g:ME) (Q:D × En→Prop):D × En→Prop:=fun r=>W (match r.1 with | .bool true=>g r.2 | .bool false=>some (.bool false,r.2) | _=>none) Q
def kOr (g:ME) (Q:D × En→Prop):D × En→Prop:=fun r=>W (match r.1 with | .bool true=>some (.bool true,r.2) | .bool false=>g r.2 | _=>none) Q
def Fj (Q:D × En→Prop):D × En→Prop:=fun r=>W (match r.1 with | .bool b=>some (.bool (!b),r.2) | _=>none) Q
def kTV (Q:Bool × En→Prop):D × En→Prop:=fun r=>W (match r.1 with | .bool b=>some (b,r.2) | _=>none) Q
def rZ (g:MT) (Q:Bool × En→Prop):Bool × En→Prop:=fun r=>W (if r.1 then g r.2 else some (false,r.2)) Q
def uZ (g:MT) (Q:Bool × En→Prop):Bool × En→Prop:=fun r=>W (if r.1 then some (true,r.2) else g r.2) Q
def Ba (Q:Bool × En→Prop):Bool × En→Prop:=fun r=>Q (!r.1,r.2)
def u4 (t:D) (Q:List (D ⊕ Nat) × En→Prop):List (D ⊕ Nat) × En→Prop:=fun y=>Q (.inl t :: y.1,y.2)
def kAC (r:MA) (Q:List (D ⊕ Nat) × En→Prop):D × En→Prop:=fun x=>W (r x.2) (u4 x.1 Q)
def u3 (i:Nat) (Q:List (D ⊕ Nat) × En→Prop):List (D ⊕ Nat) × En→Prop:=fun y=>Q (.inr i :: y.1,y.2)
def kAS (i:Nat) (r:MA) (en:En) (Q:List (D ⊕ Nat) × En→Prop):D→Prop:=fun _x=>W (r en) (u3 i Q)
def kN2 (g:List D→Option D) (en:En) (Q:D × En→Prop):List D→Prop:=fun ts=>W (g ts) (fT en Q)
def kN (g:List D→Option D) (Q:D × En→Prop):List (D ⊕ Nat) × En→Prop:=fun r=>W (vals r.1) (kN2 g r.2 Q)
def rV (en:En) (Q:D × En→Prop):List D→Prop:=fun ts=>W (if ts.length≤sizeLine then some (.list ts,en) else none) Q
def Fk (Q:D × En→Prop):List (D ⊕ Nat) × En→Prop:=fun r=>W (vals r.1) (rV r.2 Q)
def rP (en:En) (Q:D × En→Prop):List D→Prop:=fun ts=>W (if ts.length≤sizeLine then some (.tuple ts,en) else none) Q
def Ff (Q:D × En→Prop):List (D ⊕ Nat) × En→Prop:=fun r=>W (vals r.1) (rP r.2 Q)
def pM (as:List (D ⊕ Nat)) (en:En) (Q:D × En→Prop):D × En→Prop:=fun q=>Q (q.1,wb as q.2 en)
def pN (F:List D→Option (D × En)) (as:List (D ⊕ Nat)) (en:En) (Q:D × En→Prop):List D→Prop:=fun ts=>W (F ts) (pM as en Q)
def A9 (F:List D→Option (D × En)) (Q:D × En→Prop):List (D ⊕ Nat) × En→Prop:=fun r=>W (fF r.1 r.2) (pN F r.1 r.2 Q)
def kFn (dps:List Nat) (Q:D × En→Prop):Fl→Prop:=fun fl=>W (match fl with | .rt t en=>some (t,msk dps en) | .nx en=>some (.none,msk dps en) | .ct _=>none) Q
def rX (q:Bool) (js:List (Option Nat)) (en:En) (Q:D × En→Prop):List D × En→Prop:=fun z=>Q (.list z.1,if q then en else wbB js z.2 en)
def kLC (q:Bool) (g:MG) (c:MT) (f:ME) (js:List (Option Nat)) (Q:D × En→Prop):List D × En→Prop:=fun r=>W (lcF g c f r.1 [] (ee js r.2)) (rX q js r.2 Q)
def kL3 (g:MG) (c:MT) (f:ME) (ts acc:List D) (Q:List D × En→Prop):D × En→Prop:=fun q=>W (if acc.length < sizeLine then lcF g c f ts (acc++[q.1]) q.2 else none) Q
def kL2 (g:MG) (c:MT) (f:ME) (ts acc:List D) (Q:List D × En→Prop):Bool × En→Prop:=fun r=>W (if r.1 then (f r.2).bind fun q=>if acc.length < sizeLine then lcF g c f ts (acc++[q.1]) q.2 else none else lcF g c f ts acc r.2) Q
def kL1 (g:MG) (c:MT) (f:ME) (ts acc:List D) (Q:List D × En→Prop):En→Prop:=fun en=>W (c en) (kL2 g c f ts acc Q)
def r9 (Q:List D × En→Prop):D × En→Prop:=fun r=>W ((AW r.1).map fun ts=>(ts,r.2)) Q
def kR1 (Q:List D × En→Prop):List (D ⊕ Nat) × En→Prop:=fun r=>W (match r.1 with | [.inl (.int j)]=>if -(2 ^ 62)≤j∧j < 2 ^ 62 then some ((List.range j.toNat).map fun k=>.int (0+(k:Nat)),r.2) else none | _=>none) Q
def kEn (Q:List D × En→Prop):List (D ⊕ Nat) × En→Prop:=fun r=>W (match r.1 with | [.inl (.list ts)]=>some (eF ts,r.2) | [.inl (.tuple ts)]=>some (eF ts,r.2) | _=>none) Q
def tq (n:Int) (en:En) (Q:D × En→Prop):D→Prop:=fun x=>W (match x with | .list ts=>(atI ts n).map fun t=>(t,en) | _=>none) Q
def mJ (i:Nat) (Q:D × En→Prop):D × En→Prop:=fun r=>W (match r.1,(r.2[i]?).join with | .int n,some (.list ts)=>(atI ts n).map fun t=>(t,r.2) | _,_=>none) Q
def A5 (i:Nat) (f:ME) (en:En) (Q:D × En→Prop):D→Prop:=fun _x=>W (f en) (mJ i Q)
def r8 (i:Nat) (Q:D × En→Prop):D × En→Prop:=fun r=>W (match (r.2[i]?).join with | some (.list ts)=>if ts.length < sizeLine then some (PyData.none,r.2.set i (some (.list (ts++[r.1])))) else none | _=>none) Q
def Bb (i:Nat) (t:D) (en:En) (Q:D × En→Prop):D→Prop:=fun x=>W (match x with | .list ts=>if ts.length < sizeLine then some (PyData.none,en.set i (some (.list (ts++[t])))) else none | _=>none) Q
def Fs (i:Nat) (f:ME) (en:En) (Q:D × En→Prop):D→Prop:=fun x=>W (match x with | .list _=>((f en).bind fun r=>(match (r.2[i]?).join with | some (.list ts)=>if ts.length < sizeLine then some (PyData.none,r.2.set i (some (.list (ts++[r.1])))) else none | _=>none)) | _=>none) Q
def rY (g:D→D→Option D) (t:D) (f:ME) (en:En) (Q:D × En→Prop):D→Prop:=fun x=>W (match x with | .bool true=>(f en).bind fun z=>(g t z.1).map fun t=>(t,z.2) | .bool false=>some (.bool false,en) | _=>none) Q
def uY (g g2:D→D→Option D) (f3:ME) (t:D) (Q:D × En→Prop):D × En→Prop:=fun q=>W (g t q.1) (rY g2 q.1 f3 q.2 Q)
def kCh (g g2:D→D→Option D) (f2 f3:ME) (Q:D × En→Prop):D × En→Prop:=fun r=>W (f2 r.2) (uY g g2 f3 r.1 Q)
def kOS (Q:Option Int × En→Prop):D × En→Prop:=fun r=>W (match r.1 with | .int i=>some (some i,r.2) | _=>none) Q
def uU (g:D→Option Int→Option Int→Option D) (t:D) (lo:Option Int) (Q:D × En→Prop):Option Int × En→Prop:=fun h=>W (g t lo h.1) (fT h.2 Q)
def uV (g:D→Option Int→Option Int→Option D) (t:D) (hi:MO) (Q:D × En→Prop):Option Int × En→Prop:=fun l=>W (hi l.2) (uU g t l.1 Q)
def kSl (g:D→Option Int→Option Int→Option D) (lo hi:MO) (Q:D × En→Prop):D × En→Prop:=fun r=>W (lo r.2) (uV g r.1 hi Q)
def kM2 (g:Str→List D→Option D) (z:Str) (en:En) (Q:D × En→Prop):List D→Prop:=fun ts=>W (g z ts) (fT en Q)
def kM1 (g:Str→List D→Option D) (z:Str) (Q:D × En→Prop):List (D ⊕ Nat) × En→Prop:=fun q=>W (vals q.1) (kM2 g z q.2 Q)
def kM (g:Str→List D→Option D) (fa:MA) (Q:D × En→Prop):D × En→Prop:=fun r=>W (match r.1 with | .str z=>(fa r.2).bind fun q=>(vals q.1).bind fun ts=>(g z ts).map fun t=>(t,q.2) | _=>none) Q
def kIt (J:En→Prop) (Q:Fl→Prop):Fl→Prop:=fun fl=>match fl with | .nx e=>J e | .ct e=>J e | .rt t e=>Q (.rt t e)
def uX (us:List D) (J:List D→En→Prop):D × En→Prop:=fun r=>J (us++[r.1]) r.2
def rW (f:ME) (us:List D) (J:List D→En→Prop):Bool × En→Prop:=fun r=>if r.1 then W (f r.2) (uX us J) else J us r.2
def Fm (c:MT) (f:ME) (us:List D) (J:List D→En→Prop):En→Prop:=fun en=>W (c en) (rW f us J)
def kWh (b:MS) (J:En→Prop) (Q:Fl→Prop):Bool × En→Prop:=fun r=>if r.1 then W (b r.2) (kIt J Q) else Q (.nx r.2)
def kFg (b:MS) (J:En→Prop) (Q:Fl→Prop):En→Prop:=fun en=>W (b en) (kIt J Q)
def A7 (i:Nat) (en:En) (Q:D × En→Prop):D × List D→Prop:=fun r=>Q (r.1,en.set i (some (.list r.2)))
def rS (i:Nat) (n:Int) (en:En) (Q:D × En→Prop):D→Prop:=fun x=>W (match x with | .list ts=>(if -(2 ^ 63)≤n∧n < 2 ^ 63 then (seqIndex? n ts.length).bind fun k=>(ts[k]?).map fun t=>(t,en.set i (some (.list (ts.eraseIdx k)))) else none) | _=>none) Q
def rT (i:Nat) (Q:D × En→Prop):D × En→Prop:=fun r=>W (match r.1,(r.2[i]?).join with | .int n,some (.list ts)=>(if -(2 ^ 63)≤n∧n < 2 ^ 63 then (seqIndex? n ts.length).bind fun k=>(ts[k]?).map fun t=>(t,r.2.set i (some (.list (ts.eraseIdx k)))) else none) | _,_=>none) Q
def Fi (i:Nat) (f:ME) (en:En) (Q:D × En→Prop):D→Prop:=fun x=>W (match x with | .list _=>(f en).bind (fun r=>match r.1,(r.2[i]?).join with | .int n,some (.list ts)=>(if -(2 ^ 63)≤n∧n < 2 ^ 63 then (seqIndex? n ts.length).bind fun k=>(ts[k]?).map fun t=>(t,r.2.set i (some (.list (ts.eraseIdx k)))) else none) | _,_=>none) | _=>none) Q
def kS1 (Q:D→Prop):Nat→Prop:=fun c=>Q (.str (mk1 c))
def A6 (Q:List D × En→Prop):List (D ⊕ Nat) × En→Prop:=fun r=>W (match r.1 with | [.inl (.str x),.inl (.str y)]=>some (iS (bv x) (bv y),r.2) | _=>none) Q
def kGs (q:List D→En→Option En) (ts:List D) (Q:En→Prop):En→Prop:=fun en=>W (q ts en) Q
def mM (t:D) (Q:List D→Prop):List D→Prop:=fun ts=>Q (t :: ts)
def Fq (r:List (D ⊕ Nat)) (en:En) (Q:List D→Prop):D→Prop:=fun t=>W (fF r en) (mM t Q)
theorem bD {α:Type} (ts:List α) (n:Nat):atI ts (n:Int)=ts[n]?:=by
 unfold atI ixN
 rw [if_pos (by omega)]
 by_cases h:n < ts.length
 ·rw [if_pos (by omega)]; rfl
 ·rw [if_neg (by omega),List.getElem?_eq_none (by omega)]; rfl
theorem fQ {ts:List D} {t:D} (n:Nat) (h:n < ts.length):iT ts (n:Int) t=some (ts.set n t):=by
 unfold iT ixN
 rw [if_pos (by omega),if_pos (by omega)]
 rfl
theorem Cr (x:D) (l:List D):b9 (x :: l) (some 1) none=l:=by
 unfold b9
 rw [HT.sIx_none,show (some (1:Int))=some ((1:Nat):Int) from rfl,HT.sIx_nat,Nat.min_eq_left (by simp),List.drop_one]
 exact List.take_of_length_le (by simp)
theorem Hh (x:D) (l:List D):(HT.sIx (x :: l).length 0 (some 1)=0)=False:=by
 rw [show (some (1:Int))=some ((1:Nat):Int) from rfl,HT.sIx_nat,Nat.min_eq_left (by simp)]
 exact eq_false (by decide)
theorem qU (a b:Int):(a == b)=decide (a=b):=by
 by_cases h:a=b
 ·rw [h,decide_eq_true rfl]; exact beq_self_eq_true b
 ·rw [decide_eq_false h]; exact beq_eq_false_iff_ne.mpr h
theorem Co (a b:Bool):eqD (.bool a) (.bool b)=some (.bool (a == b)):=by
 show grd _ _=_
 unfold grd
 rw [if_pos ⟨rfl,rfl,Nat.zero_le _⟩]
 simp only [peq]
theorem BC (a b:Bool):neD (.bool a) (.bool b)=some (.bool (!(a == b))):=by
 show grd _ _=_
 unfold grd
 rw [if_pos ⟨rfl,rfl,Nat.zero_le _⟩]
 simp only [peq]
theorem qI (a b:Str):(a == b)=decide (a=b):=by
 by_cases h:a=b
 ·rw [h,decide_eq_true rfl]; exact beq_self_eq_true b
 ·rw [decide_eq_false h]; exact beq_eq_false_iff_ne.mpr h
theorem Gf (a b:Str):eqD (.str a) (.str b)=some (.bool (decide (a=b))):=by
 show grd _ _=_
 unfold grd
 rw [if_pos ⟨rfl,rfl,Nat.zero_le _⟩,← qI]
 simp only [peq]
theorem EX (a b:Str):neD (.str a) (.str b)=some (.bool (!decide (a=b))):=by
 show grd _ _=_
 unfold grd
 rw [if_pos ⟨rfl,rfl,Nat.zero_le _⟩,← qI]
 simp only [peq]
theorem Gg:eqD (.list []) (.list [])=some (.bool true):=by
 show grd _ _=_
 unfold grd
 rw [if_pos ⟨rfl,rfl,by decide⟩]
 rfl
theorem EY:neD (.list []) (.list [])=some (.bool false):=by
 show grd _ _=_
 unfold grd
 rw [if_pos ⟨rfl,rfl,by decide⟩]
 rfl
variable (en:En) (Qs:Fl→Prop) (Qe:D × En→Prop) (Qb:Bool × En→Prop) (Qa:List (D ⊕ Nat) × En→Prop) (Ql:List D × En→Prop) (Qd:D→Prop) (Qt:List D→Prop) (Qn:En→Prop) (f:ME) (g:MG) (fa:MA) (c:MT) (ts:List D) (i:Nat)
theorem ws0 (α:Type) (a:α) (Q:α→Prop):W (some a) Q=Q a:=aJ _ _
theorem ws1 (α:Type) (Q:α→Prop):W (none:Option α) Q=False:=bN _
theorem ws2 (α:Type) (c:Prop) (_:Decidable c) (a:α) (Q:α→Prop):W (grd c a) Q=(c∧Q a):=iI c a Q
theorem ws3 (a:Option D) (l:En):gv (a :: l) 0=a:=rfl
theorem ws4 (a:Option D) (l:En):gv (a :: l) (i+1)=gv l i:=rfl
theorem ws5 (a b:Option D) (l:En):List.set (a :: l) 0 b=b :: l:=rfl
theorem ws6 (a b:Option D) (l:En):List.set (a :: l) (i+1) b=a :: List.set l i b:=rfl
theorem ws7 (a b:MS):W (ap a b en) Qs=W (a en) (rR b Qs):=aI _ _ _
theorem ws8 (b:MS):rR b Qs (.nx en)=W (b en) Qs:=rfl
theorem ws9 (b:MS) (t:D):rR b Qs (.rt t en)=Qs (.rt t en):=aJ _ _
theorem Ef (b:MS):rR b Qs (.ct en)=Qs (.ct en):=aJ _ _
theorem Ee:W (aH i f en) Qs=W (f en) (Fg i Qs):=bW _ _ _
theorem Ed (t:D):Fg i Qs (t,en)=Qs (.nx (en.set i (some t))):=rfl
theorem Ec:W (ki f en) Qs=W (f en) (Fp Qs):=bW _ _ _
theorem Eb (t:D):Fp Qs (t,en)=Qs (.nx en):=rfl
theorem Ea:W (aC f en) Qs=W (f en) (Fh Qs):=bW _ _ _
theorem D9 (t:D):Fh Qs (t,en)=Qs (.rt t en):=rfl
theorem D8:W (aM en) Qs=Qs (.nx en):=aJ _ _
theorem D7:W (ia en) Qs=False:=bN _
theorem D6 (a b:MS):W (sIf c a b en) Qs=W (c en) (kIf a b Qs):=aI _ _ _
theorem D5 (β:Type) (a b:En→Option β) (Q:β→Prop):kIf a b Q (true,en)=W (a en) Q:=rfl
theorem D4 (β:Type) (a b:En→Option β) (Q:β→Prop):kIf a b Q (false,en)=W (b en) Q:=rfl
theorem D3 (fi:MI) (b:MS):W (eg fi g b en) Qs=W (fi en) (Fo g b Qs):=aI _ _ _
theorem D2 (b:MS):Fo g b Qs (ts,en)=W (eh g b ts en) Qs:=rfl
theorem D1 (b:MS):W (eh g b [] en) Qs=Qs (.nx en):=aJ _ _
theorem D0 (b:MS) (t:D):W (eh g b (t :: ts) en) Qs=W (g t en) (A8 g b ts Qs):=(aI _ _ _).trans (congrArg _ (funext fun z=>aI _ _ _))
theorem DZ (b:MS):A8 g b ts Qs en=W (b en) (mL g b ts Qs):=rfl
theorem DY (b:MS):mL g b ts Qs (.nx en)=W (eh g b ts en) Qs:=rfl
theorem DX (b:MS):mL g b ts Qs (.ct en)=W (eh g b ts en) Qs:=rfl
theorem DW (b:MS) (t:D):mL g b ts Qs (.rt t en)=Qs (.rt t en):=aJ _ _
theorem DU (t:D):W (gN i t en) Qn=Qn (en.set i (some t)):=aJ _ _
theorem DT (g:List D→En→Option En):W (gT g (.tuple ts) en) Qn=W (g ts en) Qn:=rfl
theorem DS (q:List D→En→Option En) (t:D):W (gsC g q (t :: ts) en) Qn=W (g t en) (kGs q ts Qn):=aI _ _ _
theorem DR (q:List D→En→Option En):kGs q ts Qn en=W (q ts en) Qn:=rfl
theorem DQ:W (gs0 [] en) Qn=Qn en:=aJ _ _
theorem DP (fk fe:ME):W (gk i fk fe en) Qs=W (fe en) (rQ i fk Qs):=aI _ _ _
theorem DN (fk:ME) (t:D):rQ i fk Qs (t,en)=W (gv en i) (tG i t fk en Qs):=by unfold rQ gv; cases h:(en[i]?).join with | none=>simp only [h,bN] | some x=>simp only [h,aJ]; exact aI _ _ _
theorem DM (t:D) (fk:ME) (x:D):tG i t fk en Qs x=W (fk en) (mK i t Qs):=rfl
theorem DL (t:D) (n:Int):mK i t Qs (.int n,en)=W (gv en i) (pL i t n en Qs):=by unfold mK gv; cases h:(en[i]?).join with | none=>simp only [h,bN] | some x=>simp only [h,aJ]; cases x <;> first | rfl | exact (aJ _ _).symm | (rw [aJ]; rfl) | (rw [aJ]; exact bN _)
theorem DK (t:D) (n:Int):pL i t n en Qs (.list ts)=W (iT ts n t) (uW i en Qs):=by unfold pL iT uW; dsimp only; rw [bW,bW]
theorem DJ:uW i en Qs ts=Qs (.nx (en.set i (some (.list ts)))):=rfl
theorem DI (x0 t:D) (l:List D):iT (x0 :: l) 0 t=some (t :: l):=fQ 0 (by simp only [List.length_cons]; omega)
theorem DH (x0 x1 t:D) (l:List D):iT (x0 :: x1 :: l) 1 t=some (x0 :: t :: l):=fQ 1 (by simp only [List.length_cons]; omega)
theorem DG (x0 x1 x2 t:D) (l:List D):iT (x0 :: x1 :: x2 :: l) 2 t=some (x0 :: x1 :: t :: l):=fQ 2 (by simp only [List.length_cons]; omega)
theorem DF (x0 x1 x2 x3 t:D) (l:List D):iT (x0 :: x1 :: x2 :: x3 :: l) 3 t=some (x0 :: x1 :: x2 :: t :: l):=fQ 3 (by simp only [List.length_cons]; omega)
theorem DE (x0 x1 x2 x3 x4 t:D) (l:List D):iT (x0 :: x1 :: x2 :: x3 :: x4 :: l) 4 t=some (x0 :: x1 :: x2 :: x3 :: t :: l):=fQ 4 (by simp only [List.length_cons]; omega)
theorem DD (x0 x1 x2 x3 x4 x5 t:D) (l:List D):iT (x0 :: x1 :: x2 :: x3 :: x4 :: x5 :: l) 5 t=some (x0 :: x1 :: x2 :: x3 :: x4 :: t :: l):=fQ 5 (by simp only [List.length_cons]; omega)
theorem DC:W (af i en) Qe=W (gv en i) (fT en Qe):=bW _ _ _
theorem DB (t:D):fT en Qe t=Qe (t,en):=rfl
theorem DA (t:D):W (eC t en) Qe=Qe (t,en):=aJ _ _
theorem Dz (g:D→Option D):W (e1 g f en) Qe=W (f en) (k1 g Qe):=(aI _ _ _).trans (congrArg _ (funext fun z=>bW _ _ _))
theorem Dy (g:D→Option D) (t:D):k1 g Qe (t,en)=W (g t) (fT en Qe):=rfl
theorem Dx (g:D→D→Option D) (f1 f2:ME):W (e2 g f1 f2 en) Qe=W (f1 en) (k2 g f2 Qe):=(aI _ _ _).trans (congrArg _ (funext fun z=>(aI _ _ _).trans (congrArg _ (funext fun y=>bW _ _ _))))
theorem Dw (g:D→D→Option D) (f2:ME) (t:D):k2 g f2 Qe (t,en)=W (f2 en) (k2b g t Qe):=rfl
theorem Dv (g:D→D→Option D) (t u:D):k2b g t Qe (u,en)=W (g t u) (fT en Qe):=rfl
theorem Du (f g:ME):W (cB f g en) Qe=W (f en) (u0 g Qe):=aI _ _ _
theorem Dt (g:ME):u0 g Qe (.bool true,en)=W (g en) Qe:=rfl
theorem Ds (g:ME):u0 g Qe (.bool false,en)=Qe (.bool false,en):=aJ _ _
theorem Dr (f g:ME):W (eOr f g en) Qe=W (f en) (kOr g Qe):=aI _ _ _
theorem Dq (g:ME):kOr g Qe (.bool true,en)=Qe (.bool true,en):=aJ _ _
theorem Dp (g:ME):kOr g Qe (.bool false,en)=W (g en) Qe:=rfl
theorem Do:W (iY f en) Qe=W (f en) (Fj Qe):=aI _ _ _
theorem Dm (x:Bool):Fj Qe (.bool x,en)=Qe (.bool (!x),en):=aJ _ _
theorem Dl (f g:ME):W (eIf c f g en) Qe=W (c en) (kIf f g Qe):=aI _ _ _
theorem Dk:W (tV f en) Qb=W (f en) (kTV Qb):=aI _ _ _
theorem Dj (x:Bool):kTV Qb (.bool x,en)=Qb (x,en):=aJ _ _
theorem Di (f g:MT):W (eR f g en) Qb=W (f en) (rZ g Qb):=aI _ _ _
theorem Dh (g:MT):rZ g Qb (true,en)=W (g en) Qb:=rfl
theorem Dg (g:MT):rZ g Qb (false,en)=Qb (false,en):=aJ _ _
theorem De (f g:MT):W (bOr f g en) Qb=W (f en) (uZ g Qb):=aI _ _ _
theorem Dd (g:MT):uZ g Qb (true,en)=Qb (true,en):=aJ _ _
theorem Dc (g:MT):uZ g Qb (false,en)=W (g en) Qb:=rfl
theorem Db (f:MT):W (cb f en) Qb=W (f en) (Ba Qb):=bW _ _ _
theorem Da (x:Bool):Ba Qb (x,en)=Qb (!x,en):=rfl
theorem C9:W (cY en) Qb=Qb (true,en):=aJ _ _
theorem C8:W (ai en) Qa=Qa ([],en):=aJ _ _
theorem C7 (r:MA):W (ad f r en) Qa=W (f en) (kAC r Qa):=(aI _ _ _).trans (congrArg _ (funext fun z=>bW _ _ _))
theorem C6 (r:MA) (t:D):kAC r Qa (t,en)=W (r en) (u4 t Qa):=rfl
theorem C5 (t:D) (as:List (D ⊕ Nat)):u4 t Qa (as,en)=Qa (.inl t :: as,en):=rfl
theorem C4 (r:MA):W (bh i r en) Qa=W (gv en i) (kAS i r en Qa):=(aI _ _ _).trans (congrArg _ (funext fun z=>bW _ _ _))
theorem C3 (r:MA) (t:D):kAS i r en Qa t=W (r en) (u3 i Qa):=rfl
theorem C2 (as:List (D ⊕ Nat)):u3 i Qa (as,en)=Qa (.inr i :: as,en):=rfl
theorem C1:vals []=some []:=rfl
theorem C0 (t:D) (r:List (D ⊕ Nat)):W (vals (.inl t :: r)) Qt=W (vals r) (mM t Qt):=bW _ _ _
theorem CZ (t:D):mM t Qt ts=Qt (t :: ts):=rfl
theorem CY:fF [] en=some []:=rfl
theorem CW (t:D) (r:List (D ⊕ Nat)):W (fF (.inl t :: r) en) Qt=W (fF r en) (mM t Qt):=bW _ _ _
theorem CV (r:List (D ⊕ Nat)):W (fF (.inr i :: r) en) Qt=W (gv en i) (Fq r en Qt):=(aI _ _ _).trans (congrArg _ (funext fun z=>bW _ _ _))
theorem CU (t:D) (r:List (D ⊕ Nat)):Fq r en Qt t=W (fF r en) (mM t Qt):=rfl
theorem CT (r:List (D ⊕ Nat)) (o:Option D) (outs:En):wb (.inr i :: r) (o :: outs) en=wb r outs (en.set i o):=rfl
theorem CQ (t:D) (r:List (D ⊕ Nat)) (o:Option D) (outs:En):wb (.inl t :: r) (o :: outs) en=wb r outs en:=rfl
theorem CP (outs:En):wb [] outs en=en:=rfl
theorem CO (g:List D→Option D):W (eN g fa en) Qe=W (fa en) (kN g Qe):=(aI _ _ _).trans (congrArg _ (funext fun z=>(aI _ _ _).trans (congrArg _ (funext fun y=>bW _ _ _))))
theorem CN (g:List D→Option D) (as:List (D ⊕ Nat)):kN g Qe (as,en)=W (vals as) (kN2 g en Qe):=rfl
theorem CM (g:List D→Option D):kN2 g en Qe ts=W (g ts) (fT en Qe):=rfl
theorem CL:W (cp fa en) Qe=W (fa en) (Fk Qe):=(aI _ _ _).trans (congrArg _ (funext fun z=>aI _ _ _))
theorem CK (as:List (D ⊕ Nat)):Fk Qe (as,en)=W (vals as) (rV en Qe):=rfl
theorem CJ:rV en Qe ts=(ts.length≤sizeLine∧Qe (.list ts,en)):=i4 _ _ _
theorem CI:W (aP fa en) Qe=W (fa en) (Ff Qe):=(aI _ _ _).trans (congrArg _ (funext fun z=>aI _ _ _))
theorem CH (as:List (D ⊕ Nat)):Ff Qe (as,en)=W (vals as) (rP en Qe):=rfl
theorem AO:rP en Qe ts=(ts.length≤sizeLine∧Qe (.tuple ts,en)):=i4 _ _ _
theorem AN:(([]:List D).length≤sizeLine)=True:=eq_true (Nat.le_trans (by show 0≤100; decide) db)
theorem AM (x0:D):(([x0]:List D).length≤sizeLine)=True:=eq_true (Nat.le_trans (by show 1≤100; decide) db)
theorem AL (x0 x1:D):(([x0,x1]:List D).length≤sizeLine)=True:=eq_true (Nat.le_trans (by show 2≤100; decide) db)
theorem AK (x0 x1 x2:D):(([x0,x1,x2]:List D).length≤sizeLine)=True:=eq_true (Nat.le_trans (by show 3≤100; decide) db)
theorem AJ (x0 x1 x2 x3:D):(([x0,x1,x2,x3]:List D).length≤sizeLine)=True:=eq_true (Nat.le_trans (by show 4≤100; decide) db)
theorem AI (x0 x1 x2 x3 x4:D):(([x0,x1,x2,x3,x4]:List D).length≤sizeLine)=True:=eq_true (Nat.le_trans (by show 5≤100; decide) db)
theorem AH (x0 x1 x2 x3 x4 x5:D):(([x0,x1,x2,x3,x4,x5]:List D).length≤sizeLine)=True:=eq_true (Nat.le_trans (by show 6≤100; decide) db)
theorem AG (x0 x1 x2 x3 x4 x5 x6:D):(([x0,x1,x2,x3,x4,x5,x6]:List D).length≤sizeLine)=True:=eq_true (Nat.le_trans (by show 7≤100; decide) db)
theorem AF (F:List D→Option (D × En)):W (aq F fa en) Qe=W (fa en) (A9 F Qe):=(aI _ _ _).trans (congrArg _ (funext fun z=>(aI _ _ _).trans (congrArg _ (funext fun y=>bW _ _ _))))
theorem AE (F:List D→Option (D × En)) (as:List (D ⊕ Nat)):A9 F Qe (as,en)=W (fF as en) (pN F as en Qe):=rfl
theorem AD (F:List D→Option (D × En)) (as:List (D ⊕ Nat)):pN F as en Qe ts=W (F ts) (pM as en Qe):=rfl
theorem AC (as:List (D ⊕ Nat)) (t:D) (outs:En):pM as en Qe (t,outs)=Qe (t,wb as outs en):=rfl
theorem AB (q:Bool) (fi:MI) (js:List (Option Nat)):W (eLC q fi g c f js en) Qe=W (fi en) (kLC q g c f js Qe):=(aI _ _ _).trans (congrArg _ (funext fun z=>bW _ _ _))
theorem AA (q:Bool) (js:List (Option Nat)):kLC q g c f js Qe (ts,en)=W (lcF g c f ts [] (ee js en)) (rX q js en Qe):=rfl
theorem Az (js:List (Option Nat)) (us:List D) (ex:En):rX true js en Qe (us,ex)=Qe (.list us,en):=rfl
theorem Ay (js:List (Option Nat)) (us:List D) (ex:En):rX false js en Qe (us,ex)=Qe (.list us,wbB js ex en):=rfl
theorem Ax:ee [] en=[]:=rfl
theorem Aw (j:Nat) (js:List (Option Nat)):ee (some j :: js) en=gv en j :: ee js en:=rfl
theorem Av (js:List (Option Nat)):ee (none :: js) en=none :: ee js en:=rfl
theorem Au (j:Nat) (js:List (Option Nat)) (o:Option D) (ex:En):wbB (some j :: js) (o :: ex) en=wbB js ex (en.set j o):=rfl
theorem At (js:List (Option Nat)) (o:Option D) (ex:En):wbB (none :: js) (o :: ex) en=wbB js ex en:=rfl
theorem As (ex:En):wbB [] ex en=en:=rfl
theorem Ar:W (lcF g c f [] acc en) Ql=Ql (acc,en):=aJ _ _
theorem Aq:W (bX f en) Ql=W (f en) (r9 Ql):=aI _ _ _
theorem Ap:r9 Ql (.list ts,en)=Ql (ts,en):=aJ _ _
theorem Ao:r9 Ql (.tuple ts,en)=Ql (ts,en):=aJ _ _
theorem An (z:Str):r9 Ql (.str z,en)=Ql (bv z,en):=aJ _ _
theorem Am:W (dI fa en) Ql=W (fa en) (kR1 Ql):=aI _ _ _
theorem Al (j:Int):kR1 Ql ([.inl (.int j)],en)=((-(2 ^ 62)≤j∧j < 2 ^ 62)∧Ql (pz 0 j.toNat,en)):=i4 _ _ _
theorem Ak:W (kw fa en) Ql=W (fa en) (kEn Ql):=aI _ _ _
theorem Aj:kEn Ql ([.inl (.list ts)],en)=Ql (eF ts,en):=aJ _ _
theorem Ai:kEn Ql ([.inl (.tuple ts)],en)=Ql (eF ts,en):=aJ _ _
theorem Ah:W (di i f en) Qe=W (gv en i) (A5 i f en Qe):=(aI _ _ _).trans (congrArg _ (funext fun z=>aI _ _ _))
theorem Ag (x:D):A5 i f en Qe x=W (f en) (mJ i Qe):=rfl
theorem Af (n:Int):mJ i Qe (.int n,en)=W (gv en i) (tq n en Qe):=by unfold mJ gv; cases h:(en[i]?).join with | none=>simp only [h,bN] | some x=>simp only [h,aJ]; cases x <;> first | rfl | exact (aJ _ _).symm | (rw [aJ]; rfl) | (rw [aJ]; exact bN _)
theorem Ae (n:Int):tq n en Qe (.list ts)=W (atI ts n) (fT en Qe):=bW _ _ _
theorem Ad:W (jL i f en) Qe=W (gv en i) (Fs i f en Qe):=by unfold gv jL; cases (en[i]?).join with | none=>rw [bN,bN] | some x=>cases x <;> first | rfl | exact (aJ _ _).symm | (rw [aJ]; rfl) | (rw [aJ]; exact bN _)
theorem Ac:Fs i f en Qe (.list ts)=W (f en) (r8 i Qe):=aI _ _ _
theorem Ab (t:D):r8 i Qe (t,en)=W (gv en i) (Bb i t en Qe):=by unfold r8 gv; cases h:(en[i]?).join with | none=>simp only [h,bN] | some x=>simp only [h,aJ]; cases x <;> first | rfl | exact (aJ _ _).symm | (rw [aJ]; rfl) | (rw [aJ]; exact bN _)
theorem Aa (t:D):Bb i t en Qe (.list ts)=(ts.length < sizeLine∧Qe (.none,en.set i (some (.list (ts++[t]))))):=i4 _ _ _
theorem zZ (g g2:D→D→Option D) (f1 f2 f3:ME):W (dk g g2 f1 f2 f3 en) Qe=W (f1 en) (kCh g g2 f2 f3 Qe):=(aI _ _ _).trans (congrArg _ (funext fun z=>(aI _ _ _).trans (congrArg _ (funext fun y=>aI _ _ _))))
theorem zY (g g2:D→D→Option D) (f2 f3:ME) (t:D):kCh g g2 f2 f3 Qe (t,en)=W (f2 en) (uY g g2 f3 t Qe):=rfl
theorem zX (g g2:D→D→Option D) (f3:ME) (t u:D):uY g g2 f3 t Qe (u,en)=W (g t u) (rY g2 u f3 en Qe):=rfl
theorem zW (g:D→D→Option D) (u:D) (f3:ME):rY g u f3 en Qe (.bool true)=W (f3 en) (k2b g u Qe):=(aI _ _ _).trans (congrArg _ (funext fun z=>bW _ _ _))
theorem zV (g:D→D→Option D) (u:D) (f3:ME):rY g u f3 en Qe (.bool false)=Qe (.bool false,en):=aJ _ _
theorem zU (Q:Option Int × En→Prop):W (cz en) Q=Q (none,en):=aJ _ _
theorem zT (Q:Option Int × En→Prop):W (cq f en) Q=W (f en) (kOS Q):=aI _ _ _
theorem zS (n:Int) (Q:Option Int × En→Prop):kOS Q (.int n,en)=Q (some n,en):=aJ _ _
theorem zR (g:D→Option Int→Option Int→Option D) (lo hi:MO):W (eSl g f lo hi en) Qe=W (f en) (kSl g lo hi Qe):=(aI _ _ _).trans (congrArg _ (funext fun z=>(aI _ _ _).trans (congrArg _ (funext fun y=>(aI _ _ _).trans (congrArg _ (funext fun y=>bW _ _ _))))))
theorem zQ (g:D→Option Int→Option Int→Option D) (lo hi:MO) (t:D):kSl g lo hi Qe (t,en)=W (lo en) (uV g t hi Qe):=rfl
theorem zP (g:D→Option Int→Option Int→Option D) (hi:MO) (t:D) (a:Option Int):uV g t hi Qe (a,en)=W (hi en) (uU g t a Qe):=rfl
theorem zO (g:D→Option Int→Option Int→Option D) (t:D) (a b:Option Int):uU g t a Qe (b,en)=W (g t a b) (fT en Qe):=rfl
theorem zN (g:Str→List D→Option D):W (eM g f fa en) Qe=W (f en) (kM g fa Qe):=aI _ _ _
theorem zM (g:Str→List D→Option D) (z:Str):kM g fa Qe (.str z,en)=W (fa en) (kM1 g z Qe):=(aI _ _ _).trans (congrArg _ (funext fun z=>(aI _ _ _).trans (congrArg _ (funext fun y=>bW _ _ _))))
theorem zK (g:Str→List D→Option D) (z:Str) (as:List (D ⊕ Nat)):kM1 g z Qe (as,en)=W (vals as) (kM2 g z en Qe):=rfl
theorem zJ (g:Str→List D→Option D) (z:Str):kM2 g z en Qe ts=W (g z ts) (fT en Qe):=rfl
theorem zI (J:En→Prop):kIt J Qs (.nx en)=J en:=rfl
theorem zH (J:En→Prop):kIt J Qs (.ct en)=J en:=rfl
theorem zG (J:En→Prop) (t:D):kIt J Qs (.rt t en)=Qs (.rt t en):=rfl
theorem zF (b:MS) (J:En→Prop):kFg b J Qs en=W (b en) (kIt J Qs):=rfl
theorem zE (b:MS) (J:En→Prop):kWh b J Qs (true,en)=W (b en) (kIt J Qs):=rfl
theorem zC (b:MS) (J:En→Prop):kWh b J Qs (false,en)=Qs (.nx en):=rfl
theorem zB (us:List D) (J:List D→En→Prop):Fm c f us J en=W (c en) (rW f us J):=rfl
theorem zA (us:List D) (J:List D→En→Prop):rW f us J (true,en)=W (f en) (uX us J):=rfl
theorem zy (us:List D) (J:List D→En→Prop):rW f us J (false,en)=J us en:=rfl
theorem zx (us:List D) (J:List D→En→Prop) (t:D):uX us J (t,en)=J (us++[t]) en:=rfl
theorem zv (n:Nat) (dps:List Nat) (b:MS):W (fnF n dps b ts) Qe=W (b (ts.map some++List.replicate n none)) (kFn dps Qe):=aI _ _ _
theorem zu (dps:List Nat) (t:D):kFn dps Qe (.rt t en)=Qe (t,msk dps en):=aJ _ _
theorem zt (dps:List Nat):kFn dps Qe (.nx en)=Qe (.none,msk dps en):=aJ _ _
theorem zr (d:Nat) (ds:List Nat) (o:Option D):msk ((d+1) :: ds) (o :: en)=o :: msk ds en:=rfl
theorem zq (ds:List Nat) (o:Option D):msk (0 :: ds) (o :: en)=none :: msk ds en:=rfl
theorem zp:msk [] en=[]:=rfl
theorem zo (t:D):List.map some (t :: ts)=some t :: List.map some ts:=rfl
theorem zh:List.map (some:D→Option D) []=[]:=rfl
theorem zg (a:Option D) (l m:En):(a :: l)++m=a :: (l++m):=rfl
theorem ze (m:En):([]:En)++m=m:=rfl
theorem zd (a:Option D):List.replicate 0 a=[]:=rfl
theorem zc (a:Option D) (n:Nat):List.replicate (n+1) a=a :: List.replicate n a:=rfl
theorem zb (a b:Int):bA (.int a) (.int b)=some (.int (a+b)):=rfl
theorem yZ (a b:Str):W (bA (.str a) (.str b)) Qd=(a.length+b.length≤sizeLine∧Qd (.str (a++b))):=i4 _ _ _
theorem yY (a b:Int):h8 (.int a) (.int b)=some (.int (a - b)):=rfl
theorem yX (a b:Int):W (dg (.int a) (.int b)) Qd=(CMul a b∧Qd (.int (a * b))):=i4 _ _ _
theorem yW (a b:Int):W (gl (.int a) (.int b)) Qd=(j4 a b∧Qd (.int (a / b))):=i4 _ _ _
theorem yV (a b:Int):W (dh (.int a) (.int b)) Qd=(0 < b∧Qd (.int (a % b))):=i4 _ _ _
theorem yU (a b:Int):W (pB (.int a) (.int b)) Qd=(kO a b∧Qd (.int (a ^ b.toNat))):=i4 _ _ _
theorem yT (a b:Int):ltI (.int a) (.int b)=some (.bool (decide (a < b))):=rfl
theorem yS (a b:Int):leI (.int a) (.int b)=some (.bool (decide (a≤b))):=rfl
theorem yR (a b:Int):gtI (.int a) (.int b)=some (.bool (decide (b < a))):=rfl
theorem yQ (a b:Int):geI (.int a) (.int b)=some (.bool (decide (b≤a))):=rfl
theorem yP (a b:Int):eqD (.int a) (.int b)=some (.bool (decide (a=b))):=(Gh a b).trans (congrArg (fun q=>some (PyData.bool q)) (qU a b))
theorem yO (a b:Int):neD (.int a) (.int b)=some (.bool (!decide (a=b))):=(EZ a b).trans (congrArg (fun q=>some (PyData.bool (!q))) (qU a b))
theorem yN:isN .none .none=some (.bool true):=rfl
theorem yM (x:Int):isN (.int x) .none=some (.bool false):=rfl
theorem yL (x:Bool):isN (.bool x) .none=some (.bool false):=rfl
theorem yK (x:Str):isN (.str x) .none=some (.bool false):=rfl
theorem yJ (x:List D):isN (.list x) .none=some (.bool false):=rfl
theorem yI (x:List D):isN (.tuple x) .none=some (.bool false):=rfl
theorem yH (x:List (D × D)):isN (.dict x) .none=some (.bool false):=rfl
theorem yG:aW "int" (.none)=some (.bool false):=congrArg (fun b=>some (PyData.bool b)) (show bj "NoneType" "int"=false by decide)
theorem yF:aW "bool" (.none)=some (.bool false):=congrArg (fun b=>some (PyData.bool b)) (show bj "NoneType" "bool"=false by decide)
theorem yE:aW "str" (.none)=some (.bool false):=congrArg (fun b=>some (PyData.bool b)) (show bj "NoneType" "str"=false by decide)
theorem yD:aW "list" (.none)=some (.bool false):=congrArg (fun b=>some (PyData.bool b)) (show bj "NoneType" "list"=false by decide)
theorem yC:aW "tuple" (.none)=some (.bool false):=congrArg (fun b=>some (PyData.bool b)) (show bj "NoneType" "tuple"=false by decide)
theorem yB:aW "dict" (.none)=some (.bool false):=congrArg (fun b=>some (PyData.bool b)) (show bj "NoneType" "dict"=false by decide)
theorem yA (x:Int):aW "int" (.int x)=some (.bool true):=congrArg (fun b=>some (PyData.bool b)) (show bj "int" "int"=true by decide)
theorem yz (x:Int):aW "bool" (.int x)=some (.bool false):=congrArg (fun b=>some (PyData.bool b)) (show bj "int" "bool"=false by decide)
theorem yy (x:Int):aW "str" (.int x)=some (.bool false):=congrArg (fun b=>some (PyData.bool b)) (show bj "int" "str"=false by decide)
theorem yx (x:Int):aW "list" (.int x)=some (.bool false):=congrArg (fun b=>some (PyData.bool b)) (show bj "int" "list"=false by decide)
theorem yw (x:Int):aW "tuple" (.int x)=some (.bool false):=congrArg (fun b=>some (PyData.bool b)) (show bj "int" "tuple"=false by decide)
theorem yv (x:Int):aW "dict" (.int x)=some (.bool false):=congrArg (fun b=>some (PyData.bool b)) (show bj "int" "dict"=false by decide)
theorem yu (x:Bool):aW "int" (.bool x)=some (.bool true):=congrArg (fun b=>some (PyData.bool b)) (show bj "bool" "int"=true by decide)
theorem yt (x:Bool):aW "bool" (.bool x)=some (.bool true):=congrArg (fun b=>some (PyData.bool b)) (show bj "bool" "bool"=true by decide)
theorem yr (x:Bool):aW "str" (.bool x)=some (.bool false):=congrArg (fun b=>some (PyData.bool b)) (show bj "bool" "str"=false by decide)
theorem yq (x:Bool):aW "list" (.bool x)=some (.bool false):=congrArg (fun b=>some (PyData.bool b)) (show bj "bool" "list"=false by decide)
theorem yp (x:Bool):aW "tuple" (.bool x)=some (.bool false):=congrArg (fun b=>some (PyData.bool b)) (show bj "bool" "tuple"=false by decide)
theorem yo (x:Bool):aW "dict" (.bool x)=some (.bool false):=congrArg (fun b=>some (PyData.bool b)) (show bj "bool" "dict"=false by decide)
theorem yn (x:Str):aW "int" (.str x)=some (.bool false):=congrArg (fun b=>some (PyData.bool b)) (show bj "str" "int"=false by decide)
theorem ym (x:Str):aW "bool" (.str x)=some (.bool false):=congrArg (fun b=>some (PyData.bool b)) (show bj "str" "bool"=false by decide)
theorem yk (x:Str):aW "str" (.str x)=some (.bool true):=congrArg (fun b=>some (PyData.bool b)) (show bj "str" "str"=true by decide)
theorem yj (x:Str):aW "list" (.str x)=some (.bool false):=congrArg (fun b=>some (PyData.bool b)) (show bj "str" "list"=false by decide)
theorem yi (x:Str):aW "tuple" (.str x)=some (.bool false):=congrArg (fun b=>some (PyData.bool b)) (show bj "str" "tuple"=false by decide)
theorem yh (x:Str):aW "dict" (.str x)=some (.bool false):=congrArg (fun b=>some (PyData.bool b)) (show bj "str" "dict"=false by decide)
theorem yg (x:List D):aW "int" (.list x)=some (.bool false):=congrArg (fun b=>some (PyData.bool b)) (show bj "list" "int"=false by decide)
theorem yf (x:List D):aW "bool" (.list x)=some (.bool false):=congrArg (fun b=>some (PyData.bool b)) (show bj "list" "bool"=false by decide)
theorem ye (x:List D):aW "str" (.list x)=some (.bool false):=congrArg (fun b=>some (PyData.bool b)) (show bj "list" "str"=false by decide)
theorem yd (x:List D):aW "list" (.list x)=some (.bool true):=congrArg (fun b=>some (PyData.bool b)) (show bj "list" "list"=true by decide)
theorem yc (x:List D):aW "tuple" (.list x)=some (.bool false):=congrArg (fun b=>some (PyData.bool b)) (show bj "list" "tuple"=false by decide)
theorem yb (x:List D):aW "dict" (.list x)=some (.bool false):=congrArg (fun b=>some (PyData.bool b)) (show bj "list" "dict"=false by decide)
theorem ya (x:List D):aW "int" (.tuple x)=some (.bool false):=congrArg (fun b=>some (PyData.bool b)) (show bj "tuple" "int"=false by decide)
theorem x9 (x:List D):aW "bool" (.tuple x)=some (.bool false):=congrArg (fun b=>some (PyData.bool b)) (show bj "tuple" "bool"=false by decide)
theorem x8 (x:List D):aW "str" (.tuple x)=some (.bool false):=congrArg (fun b=>some (PyData.bool b)) (show bj "tuple" "str"=false by decide)
theorem xZ (x:List D):aW "list" (.tuple x)=some (.bool false):=congrArg (fun b=>some (PyData.bool b)) (show bj "tuple" "list"=false by decide)
theorem xY (x:List D):aW "tuple" (.tuple x)=some (.bool true):=congrArg (fun b=>some (PyData.bool b)) (show bj "tuple" "tuple"=true by decide)
theorem xX (x:List D):aW "dict" (.tuple x)=some (.bool false):=congrArg (fun b=>some (PyData.bool b)) (show bj "tuple" "dict"=false by decide)
theorem xW (x:List (D × D)):aW "int" (.dict x)=some (.bool false):=congrArg (fun b=>some (PyData.bool b)) (show bj "dict" "int"=false by decide)
theorem xV (x:List (D × D)):aW "bool" (.dict x)=some (.bool false):=congrArg (fun b=>some (PyData.bool b)) (show bj "dict" "bool"=false by decide)
theorem xU (x:List (D × D)):aW "str" (.dict x)=some (.bool false):=congrArg (fun b=>some (PyData.bool b)) (show bj "dict" "str"=false by decide)
theorem xT (x:List (D × D)):aW "list" (.dict x)=some (.bool false):=congrArg (fun b=>some (PyData.bool b)) (show bj "dict" "list"=false by decide)
theorem xS (x:List (D × D)):aW "tuple" (.dict x)=some (.bool false):=congrArg (fun b=>some (PyData.bool b)) (show bj "dict" "tuple"=false by decide)
theorem xR (x:List (D × D)):aW "dict" (.dict x)=some (.bool true):=congrArg (fun b=>some (PyData.bool b)) (show bj "dict" "dict"=true by decide)
theorem xQ:((([]:List D).length:Nat):Int)=0:=rfl
theorem xP (x0:D):((([x0]:List D).length:Nat):Int)=1:=rfl
theorem xO (x0 x1:D):((([x0,x1]:List D).length:Nat):Int)=2:=rfl
theorem xN (x0 x1 x2:D):((([x0,x1,x2]:List D).length:Nat):Int)=3:=rfl
theorem xM (x0 x1 x2 x3:D):((([x0,x1,x2,x3]:List D).length:Nat):Int)=4:=rfl
theorem xL (x0 x1 x2 x3 x4:D):((([x0,x1,x2,x3,x4]:List D).length:Nat):Int)=5:=rfl
theorem xK (x0 x1 x2 x3 x4 x5:D):((([x0,x1,x2,x3,x4,x5]:List D).length:Nat):Int)=6:=rfl
theorem xJ (x0 x1 x2 x3 x4 x5 x6:D):((([x0,x1,x2,x3,x4,x5,x6]:List D).length:Nat):Int)=7:=rfl
theorem xI (α β:Type) (f:α→β) (l:List α):(l.map f).length=l.length:=List.length_map f
theorem xH:ba [.list ts]=some (.int ts.length):=rfl
theorem xG:ba [.tuple ts]=some (.int ts.length):=rfl
theorem xF (z:Str):W (ba [.str z]) Qd=(z.length≤sizeLine∧Qd (.int z.length)):=iI _ _ _
theorem xE (a:Int):lW [.int a]=some (.int (if a < 0 then -a else a)):=rfl
theorem xD (a b:Int):o9 [.int a,.int b]=some (.int (if b < a then b else a)):=rfl
theorem xC (a:Int):jB (.int a)=some (.int (-a)):=rfl
theorem xB:jE [.list ts]=some (.list ts):=rfl
theorem xA:ly [.list ts]=some (.tuple ts):=rfl
theorem xz (n:Int):ixA (.list ts) (.int n)=atI ts n:=rfl
theorem xy:jE [.tuple ts]=some (.list ts):=rfl
theorem xx:ly [.tuple ts]=some (.tuple ts):=rfl
theorem xw (n:Int):ixA (.tuple ts) (.int n)=atI ts n:=rfl
theorem xv (ts us:List D):W (jN (.list ts) (.list us)) Qd=(ts.length+us.length≤sizeLine∧Qd (.list (ts++us))):=i4 _ _ _
theorem xu (lo hi:Option Int):fE (.list ts) lo hi=some (.list (b9 ts lo hi)):=rfl
theorem xt:atI ts 0=ts[0]?:=bD ts _
theorem xr:atI ts 1=ts[1]?:=bD ts _
theorem xq:atI ts 2=ts[2]?:=bD ts _
theorem xp:atI ts 3=ts[3]?:=bD ts _
theorem xo:atI ts 4=ts[4]?:=bD ts _
theorem xn:atI ts 5=ts[5]?:=bD ts _
theorem xm:atI ts 6=ts[6]?:=bD ts _
theorem xl:atI ts 7=ts[7]?:=bD ts _
theorem xk:atI ts 8=ts[8]?:=bD ts _
theorem xj:atI ts 9=ts[9]?:=bD ts _
theorem xi:atI ts 10=ts[10]?:=bD ts _
theorem xh:atI ts 11=ts[11]?:=bD ts _
theorem xg:atI ts 12=ts[12]?:=bD ts _
theorem xf:atI ts 13=ts[13]?:=bD ts _
theorem xc:atI ts 14=ts[14]?:=bD ts _
theorem xb:atI ts 15=ts[15]?:=bD ts _
theorem xa:atI ts 16=ts[16]?:=bD ts _
theorem w8:atI ts 17=ts[17]?:=bD ts _
theorem w6:atI ts 18=ts[18]?:=bD ts _
theorem w4:atI ts 19=ts[19]?:=bD ts _
theorem wZ:atI ts 20=ts[20]?:=bD ts _
theorem wY (t:D):(t :: ts)[0]?=some t:=rfl
theorem wX (t:D):(t :: ts)[i+1]?=ts[i]?:=List.getElem?_cons_succ
theorem wW:W (fB i f en) Qe=W (gv en i) (Fi i f en Qe):=by unfold gv fB; cases (en[i]?).join with | none=>rw [bN,bN] | some x=>cases x <;> first | rfl | exact (aJ _ _).symm | (rw [aJ]; rfl) | (rw [aJ]; exact bN _)
theorem wV:Fi i f en Qe (.list ts)=W (f en) (rT i Qe):=aI _ _ _
theorem wU (n:Int):rT i Qe (.int n,en)=W (gv en i) (rS i n en Qe):=by unfold rT gv; cases h:(en[i]?).join with | none=>simp only [h,bN] | some x=>simp only [h,aJ]; cases x <;> first | rfl | exact (aJ _ _).symm | (rw [aJ]; rfl) | (rw [aJ]; exact bN _)
theorem wT (n:Int):rS i n en Qe (.list ts)=((-(2 ^ 63)≤n∧n < 2 ^ 63)∧W (rE ts n) (A7 i en Qe)):=by unfold rS rE; dsimp only; rw [sr]; congr 1; rw [aI,aI]; congr 1; funext k; rw [bW,bW]; rfl
theorem wS (t:D) (us:List D):A7 i en Qe (t,us)=Qe (t,en.set i (some (.list us))):=rfl
theorem wR (z:Str) (n:Int):W (ixT (.str z) (.int n)) Qd=(z.length≤sizeLine∧W (atI (li z) n) (kS1 Qd)):=by show W (if _ then _ else _) _=_; rw [sr,bW]; rfl
theorem wQ (c:Nat):kS1 Qd c=Qd (.str (mk1 c)):=rfl
theorem wP (z:Str) (n:Int):W (uO (.str z) (.int n)) Qd=((z.length≤4000∧-(2 ^ 63)≤n∧n≤4000)∧Qd (.str (Txt.mul z n))):=iI _ _ _
theorem wO (z:Str) (lo hi:Option Int):W (lT (.str z) lo hi) Qd=(z.length≤sizeLine∧Qd (.str ⟨(cQ z.cps.toList lo hi).toArray⟩)):=iI _ _ _
theorem wN (lo hi:Option Int):W (sk (.tuple ts) lo hi) Qd=(¬ (HT.sIx ts.length 0 lo=0∧HT.sIx ts.length ts.length hi=ts.length)∧Qd (.tuple (b9 ts lo hi))):=iI _ _ _
theorem wM (z y:Str):kS z [.str y]=some (.bool (Txt.startswith z y)):=rfl
theorem wL (z y:Str):pd z [.str y]=some (.bool (Txt.endswith z y)):=rfl
theorem wK (a b:Str):se (.str a) (.str b)=some (.bool (cm b a)):=rfl
theorem wJ (a b:Str):nB (.str a) (.str b)=some (.bool (!cm b a)):=rfl
theorem wI (z:Str):W (mI (.str z)) Qd=(z.length < 4000∧Qd (.int (cv (eB z) z.length).length)):=iI _ _ _
theorem wH:pA (.list ts) (.int (-1))=some (.list ts.reverse):=rfl
theorem wG (z:Str):W (kU (.str z) (.int (-1))) Qd=(z.length≤sizeLine∧Qd (.str ⟨z.cps.toList.reverse.toArray⟩)):=iI _ _ _
theorem wF (a b:Bool):eqD (.bool a) (.bool b)=some (.bool (a == b)):=Co a b
theorem wE (a b:Bool):neD (.bool a) (.bool b)=some (.bool (!(a == b))):=BC a b
theorem wD (a b:Str):eqD (.str a) (.str b)=some (.bool (decide (a=b))):=Gf a b
theorem wC (a b:Str):neD (.str a) (.str b)=some (.bool (!decide (a=b))):=EX a b
theorem wB:neD (.list []) (.list [])=some (.bool false):=EY
theorem wA:eqD (.list []) (.list [])=some (.bool true):=Gg
theorem wz:W (ku fa en) Ql=W (fa en) (A6 Ql):=aI _ _ _
theorem wy (x y:Str):A6 Ql ([.inl (.str x),.inl (.str y)],en)=Ql (iS (bv x) (bv y),en):=aJ _ _
theorem wx (a:Bool):(a == a)=true:=beq_self_eq_true a
theorem ww:(true == false)=false:=rfl
theorem wv:(false == true)=false:=rfl
theorem wu (t:D) (ts acc:List D):W (lcF g c f (t :: ts) acc en) Ql=W (g t en) (kL1 g c f ts acc Ql):=by unfold lcF; rw [aI]; congr 1; funext z; rw [aI]; rfl
theorem wq (ts acc:List D):kL1 g c f ts acc Ql en=W (c en) (kL2 g c f ts acc Ql):=rfl
theorem wp (ts acc:List D):kL2 g c f ts acc Ql (true,en)=W (f en) (kL3 g c f ts acc Ql):=aI _ _ _
theorem wn (ts acc:List D):kL2 g c f ts acc Ql (false,en)=W (lcF g c f ts acc en) Ql:=rfl
theorem wm (ts acc:List D) (t:D):kL3 g c f ts acc Ql (t,en)=(acc.length < sizeLine∧W (lcF g c f ts (acc++[t]) en) Ql):=sr _ _ _
theorem wj (m:List D):([]++m:List D)=m:=rfl
theorem wg (x:D) (l m:List D):((x :: l)++m:List D)=x :: (l++m):=rfl
theorem wf:(([]:List D).length < sizeLine)=True:=eq_true (Nat.lt_of_lt_of_le (by show 0 < 100; decide) db)
theorem we (x0:D):(([x0]:List D).length < sizeLine)=True:=eq_true (Nat.lt_of_lt_of_le (by show 1 < 100; decide) db)
theorem wd (x0 x1:D):(([x0,x1]:List D).length < sizeLine)=True:=eq_true (Nat.lt_of_lt_of_le (by show 2 < 100; decide) db)
theorem wc (x0 x1 x2:D):(([x0,x1,x2]:List D).length < sizeLine)=True:=eq_true (Nat.lt_of_lt_of_le (by show 3 < 100; decide) db)
theorem wa (x0 x1 x2 x3:D):(([x0,x1,x2,x3]:List D).length < sizeLine)=True:=eq_true (Nat.lt_of_lt_of_le (by show 4 < 100; decide) db)
theorem vZ (x0 x1 x2 x3 x4:D):(([x0,x1,x2,x3,x4]:List D).length < sizeLine)=True:=eq_true (Nat.lt_of_lt_of_le (by show 5 < 100; decide) db)
theorem vY (x0 x1 x2 x3 x4 x5:D):(([x0,x1,x2,x3,x4,x5]:List D).length < sizeLine)=True:=eq_true (Nat.lt_of_lt_of_le (by show 6 < 100; decide) db)
theorem vX (x0 x1 x2 x3 x4 x5 x6:D):(([x0,x1,x2,x3,x4,x5,x6]:List D).length < sizeLine)=True:=eq_true (Nat.lt_of_lt_of_le (by show 7 < 100; decide) db)
theorem vW:dE [.list []]=some (.bool true):=rfl
theorem vV (a:Bool):dE [.list [.bool a]]=some (.bool a):=by cases a <;> rfl
theorem vU (a b:Bool):dE [.list [.bool a,.bool b]]=some (.bool (a && b)):=by cases a <;> cases b <;> rfl
theorem vT:pp [.list []]=some (.int 0):=rfl
theorem vS (a:Int):pp [.list [.int a]]=some (.int a):=by show some (PyData.int (a+0))=_; rw [Int.add_zero]
theorem vR (a b:Int):pp [.list [.int a,.int b]]=some (.int (a+b)):=by show some (PyData.int (a+(b+0)))=_; rw [Int.add_zero]
theorem vQ (x:D) (l:List D):b9 (x :: l) (some 1) none=l:=Cr x l
theorem vP (x:D) (l:List D):(HT.sIx (x :: l).length 0 (some 1)=0)=False:=Hh x l
theorem vO (p:Prop):(False∧p)=False:=false_and p
theorem vN:(¬ False)=True:=not_false_eq_true
theorem vM:(!true)=false:=rfl
theorem vL:(!false)=true:=rfl
theorem vK (p:Prop):(True∧p)=p:=true_and p
theorem vJ (p:Prop):(p∧True)=p:=and_true p
theorem vI (_:Decidable True):decide True=true:=decide_eq_true trivial
theorem vH (_:Decidable False):decide False=false:=decide_eq_false (fun z=>z)
theorem vG (α:Sort 1) (a:α):(a=a)=True:=eq_self a
end
theorem CG:type_of% ws0∧type_of% ws1∧type_of% ws2∧type_of% ws3∧type_of% ws4∧type_of% ws5∧type_of% ws6∧type_of% ws7∧type_of% ws8∧type_of% ws9∧type_of% Ef∧type_of% Ee∧type_of% Ed∧type_of% Ec∧type_of% Eb∧type_of% Ea∧type_of% D9∧type_of% D8∧type_of% D7∧type_of% D6∧type_of% D5∧type_of% D4∧type_of% D3∧type_of% D2∧type_of% D1∧type_of% D0∧type_of% DZ∧type_of% DY∧type_of% DX∧type_of% DW∧type_of% DU∧type_of% DT∧type_of% DS∧type_of% DR∧type_of% DQ∧type_of% DP∧type_of% DN∧type_of% DM∧type_of% DL∧type_of% DK:=⟨ws0,ws1,ws2,ws3,ws4,ws5,ws6,ws7,ws8,ws9,Ef,Ee,Ed,Ec,Eb,Ea,D9,D8,D7,D6,D5,D4,D3,D2,D1,D0,DZ,DY,DX,DW,DU,DT,DS,DR,DQ,DP,DN,DM,DL,DK⟩
theorem CF:type_of% DJ∧type_of% DI∧type_of% DH∧type_of% DG∧type_of% DF∧type_of% DE∧type_of% DD∧type_of% DC∧type_of% DB∧type_of% DA∧type_of% Dz∧type_of% Dy∧type_of% Dx∧type_of% Dw∧type_of% Dv∧type_of% Du∧type_of% Dt∧type_of% Ds∧type_of% Dr∧type_of% Dq∧type_of% Dp∧type_of% Do∧type_of% Dm∧type_of% Dl∧type_of% Dk∧type_of% Dj∧type_of% Di∧type_of% Dh∧type_of% Dg∧type_of% De∧type_of% Dd∧type_of% Dc∧type_of% Db∧type_of% Da∧type_of% C9∧type_of% C8∧type_of% C7∧type_of% C6∧type_of% C5∧type_of% C4:=⟨DJ,DI,DH,DG,DF,DE,DD,DC,DB,DA,Dz,Dy,Dx,Dw,Dv,Du,Dt,Ds,Dr,Dq,Dp,Do,Dm,Dl,Dk,Dj,Di,Dh,Dg,De,Dd,Dc,Db,Da,C9,C8,C7,C6,C5,C4⟩
theorem CD:type_of% C3∧type_of% C2∧type_of% C1∧type_of% C0∧type_of% CZ∧type_of% CY∧type_of% CW∧type_of% CV∧type_of% CU∧type_of% CT∧type_of% CQ∧type_of% CP∧type_of% CO∧type_of% CN∧type_of% CM∧type_of% CL∧type_of% CK∧type_of% CJ∧type_of% CI∧type_of% CH∧type_of% AO∧type_of% AN∧type_of% AM∧type_of% AL∧type_of% AK∧type_of% AJ∧type_of% AI∧type_of% AH∧type_of% AG∧type_of% AF∧type_of% AE∧type_of% AD∧type_of% AC∧type_of% AB∧type_of% AA∧type_of% Az∧type_of% Ay∧type_of% Ax∧type_of% Aw∧type_of% Av:=⟨C3,C2,C1,C0,CZ,CY,CW,CV,CU,CT,CQ,CP,CO,CN,CM,CL,CK,CJ,CI,CH,AO,AN,AM,AL,AK,AJ,AI,AH,AG,AF,AE,AD,AC,AB,AA,Az,Ay,Ax,Aw,Av⟩
theorem CC:type_of% Au∧type_of% At∧type_of% As∧type_of% Ar∧type_of% Aq∧type_of% Ap∧type_of% Ao∧type_of% An∧type_of% Am∧type_of% Al∧type_of% Ak∧type_of% Aj∧type_of% Ai∧type_of% Ah∧type_of% Ag∧type_of% Af∧type_of% Ae∧type_of% Ad∧type_of% Ac∧type_of% Ab∧type_of% Aa∧type_of% zZ∧type_of% zY∧type_of% zX∧type_of% zW∧type_of% zV∧type_of% zU∧type_of% zT∧type_of% zS∧type_of% zR∧type_of% zQ∧type_of% zP∧type_of% zO∧type_of% zN∧type_of% zM∧type_of% zK∧type_of% zJ∧type_of% zI∧type_of% zH∧type_of% zG:=⟨Au,At,As,Ar,Aq,Ap,Ao,An,Am,Al,Ak,Aj,Ai,Ah,Ag,Af,Ae,Ad,Ac,Ab,Aa,zZ,zY,zX,zW,zV,zU,zT,zS,zR,zQ,zP,zO,zN,zM,zK,zJ,zI,zH,zG⟩
theorem CB:type_of% zF∧type_of% zE∧type_of% zC∧type_of% zB∧type_of% zA∧type_of% zy∧type_of% zx∧type_of% zv∧type_of% zu∧type_of% zt∧type_of% zr∧type_of% zq∧type_of% zp∧type_of% zo∧type_of% zh∧type_of% zg∧type_of% ze∧type_of% zd∧type_of% zc∧type_of% zb∧type_of% yZ∧type_of% yY∧type_of% yX∧type_of% yW∧type_of% yV∧type_of% yU∧type_of% yT∧type_of% yS∧type_of% yR∧type_of% yQ∧type_of% yP∧type_of% yO∧type_of% yN∧type_of% yM∧type_of% yL∧type_of% yK∧type_of% yJ∧type_of% yI∧type_of% yH∧type_of% yG:=⟨zF,zE,zC,zB,zA,zy,zx,zv,zu,zt,zr,zq,zp,zo,zh,zg,ze,zd,zc,zb,yZ,yY,yX,yW,yV,yU,yT,yS,yR,yQ,yP,yO,yN,yM,yL,yK,yJ,yI,yH,yG⟩
theorem CA:type_of% yF∧type_of% yE∧type_of% yD∧type_of% yC∧type_of% yB∧type_of% yA∧type_of% yz∧type_of% yy∧type_of% yx∧type_of% yw∧type_of% yv∧type_of% yu∧type_of% yt∧type_of% yr∧type_of% yq∧type_of% yp∧type_of% yo∧type_of% yn∧type_of% ym∧type_of% yk∧type_of% yj∧type_of% yi∧type_of% yh∧type_of% yg∧type_of% yf∧type_of% ye∧type_of% yd∧type_of% yc∧type_of% yb∧type_of% ya∧type_of% x9∧type_of% x8∧type_of% xZ∧type_of% xY∧type_of% xX∧type_of% xW∧type_of% xV∧type_of% xU∧type_of% xT∧type_of% xS:=⟨yF,yE,yD,yC,yB,yA,yz,yy,yx,yw,yv,yu,yt,yr,yq,yp,yo,yn,ym,yk,yj,yi,yh,yg,yf,ye,yd,yc,yb,ya,x9,x8,xZ,xY,xX,xW,xV,xU,xT,xS⟩
theorem Cz:type_of% xR∧type_of% xQ∧type_of% xP∧type_of% xO∧type_of% xN∧type_of% xM∧type_of% xL∧type_of% xK∧type_of% xJ∧type_of% xI∧type_of% xH∧type_of% xG∧type_of% xF∧type_of% xE∧type_of% xD∧type_of% xC∧type_of% xB∧type_of% xA∧type_of% xz∧type_of% xy∧type_of% xx∧type_of% xw∧type_of% xv∧type_of% xu∧type_of% xt∧type_of% xr∧type_of% xq∧type_of% xp∧type_of% xo∧type_of% xn∧type_of% xm∧type_of% xl∧type_of% xk∧type_of% xj∧type_of% xi∧type_of% xh∧type_of% xg∧type_of% xf∧type_of% xc∧type_of% xb:=⟨xR,xQ,xP,xO,xN,xM,xL,xK,xJ,xI,xH,xG,xF,xE,xD,xC,xB,xA,xz,xy,xx,xw,xv,xu,xt,xr,xq,xp,xo,xn,xm,xl,xk,xj,xi,xh,xg,xf,xc,xb⟩
theorem Cy:type_of% xa∧type_of% w8∧type_of% w6∧type_of% w4∧type_of% wZ∧type_of% wY∧type_of% wX∧type_of% wW∧type_of% wV∧type_of% wU∧type_of% wT∧type_of% wS∧type_of% wR∧type_of% wQ∧type_of% wP∧type_of% wO∧type_of% wN∧type_of% wM∧type_of% wL∧type_of% wK∧type_of% wJ∧type_of% wI∧type_of% wH∧type_of% wG∧type_of% wF∧type_of% wE∧type_of% wD∧type_of% wC∧type_of% wB∧type_of% wA∧type_of% wz∧type_of% wy∧type_of% wx∧type_of% ww∧type_of% wv∧type_of% wu∧type_of% wq∧type_of% wp∧type_of% wn∧type_of% wm:=⟨xa,w8,w6,w4,wZ,wY,wX,wW,wV,wU,wT,wS,wR,wQ,wP,wO,wN,wM,wL,wK,wJ,wI,wH,wG,wF,wE,wD,wC,wB,wA,wz,wy,wx,ww,wv,wu,wq,wp,wn,wm⟩
theorem Cw:type_of% wj∧type_of% wg∧type_of% wf∧type_of% we∧type_of% wd∧type_of% wc∧type_of% wa∧type_of% vZ∧type_of% vY∧type_of% vX∧type_of% vW∧type_of% vV∧type_of% vU∧type_of% vT∧type_of% vS∧type_of% vR∧type_of% vQ∧type_of% vP∧type_of% vO∧type_of% vN∧type_of% vM∧type_of% vL∧type_of% vK∧type_of% vJ∧type_of% vI∧type_of% vH∧type_of% vG:=⟨wj,wg,wf,we,wd,wc,wa,vZ,vY,vX,vW,vV,vU,vT,vS,vR,vQ,vP,vO,vN,vM,vL,vK,vJ,vI,vH,vG⟩
theorem ws:type_of% CG∧type_of% CF∧type_of% CD∧type_of% CC∧type_of% CB∧type_of% CA∧type_of% Cz∧type_of% Cy∧type_of% Cw:=⟨CG,CF,CD,CC,CB,CA,Cz,Cy,Cw⟩
end L2
namespace L2
open PySem PySem.Spec PyProof.Rows
theorem iJ {g:MG} {b:MS} {ts:List D} {en:En} {Q:Fl→Prop} (I:Nat→En→Prop) (h0:I 0 en)
  (hs:∀ i t en,ts[i]?=some t→I i en→W (g t en) (kFg b (I (i+1)) Q)) (hq:∀ en,I ts.length en→Q (.nx en)):W (eh g b ts en) Q:=by
 suffices ∀ (us:List D) (i:Nat) (en:En),ts.drop i=us→i≤ts.length→I i en→W (eh g b us en) Q from this ts 0 en rfl (Nat.zero_le _) h0
 intro us
 induction us with
 | nil =>
  intro i en hu hi h
  have:ts.length - i=0:=by rw [← List.length_drop,hu]; rfl
  simp only [ws]
  exact hq en (by rw [show ts.length=i by omega]; exact h)
 | cons t us ih =>
  intro i en hu hi h
  have ht:ts[i]?=some t:=by
   have:(ts.drop i)[0]?=some t:=by rw [hu]; rfl
   rw [List.getElem?_drop] at this
   exact this
  have hl:i < ts.length:=(List.getElem?_eq_some_iff.mp ht).1
  have hd:ts.drop (i+1)=us:=by rw [← List.drop_drop,hu]; rfl
  simp only [ws]
  refine (hs i t en ht h).use fun en1 h1=>?_
  simp only [ws] at h1 ⊢
  refine h1.use fun fl h2=>?_
  cases fl with
  | nx e=>simp only [ws] at h2 ⊢; exact ih (i+1) e hd hl h2
  | ct e=>simp only [ws] at h2 ⊢; exact ih (i+1) e hd hl h2
  | rt t e=>simp only [ws] at h2 ⊢; exact h2
theorem nS {g:MG} {c:MT} {f:ME} {ts:List D} {en:En} {Q:List D × En→Prop} (I:Nat→List D→En→Prop) (hz:ts.length≤sizeLine) (h0:I 0 [] en)
  (hs:∀ i t us en,ts[i]?=some t→us.length≤i→I i us en→W (g t en) (Fm c f us (I (i+1)))) (hq:∀ us en,us.length≤ts.length→I ts.length us en→Q (us,en)):W (lcF g c f ts [] en) Q:=by
 suffices ∀ (vs:List D) (i:Nat) (us:List D) (en:En),ts.drop i=vs→i≤ts.length→us.length≤i→I i us en→W (lcF g c f vs us en) Q from this ts 0 [] en rfl (Nat.zero_le _) (Nat.zero_le _) h0
 intro vs
 induction vs with
 | nil =>
  intro i us en hu hi hl h
  have:ts.length - i=0:=by rw [← List.length_drop,hu]; rfl
  simp only [ws]
  exact hq us en (by omega) (by rw [show ts.length=i by omega]; exact h)
 | cons t vs ih =>
  intro i us en hu hi hl h
  have ht:ts[i]?=some t:=by
   have:(ts.drop i)[0]?=some t:=by rw [hu]; rfl
   rw [List.getElem?_drop] at this
   exact this
  have hlt:i < ts.length:=(List.getElem?_eq_some_iff.mp ht).1
  have hd:ts.drop (i+1)=vs:=by rw [← List.drop_drop,hu]; rfl
  unfold lcF
  rw [aI]
  refine (hs i t us en ht hl h).use fun en1 h1=>?_
  simp only [ws] at h1
  rw [aI]
  refine h1.use fun r h2=>?_
  obtain ⟨x,en2⟩:=r
  cases x with
  | true =>
   simp only [ws] at h2
   show W ((f en2).bind _) Q
   rw [aI]
   refine h2.use fun q h3=>?_
   obtain ⟨u,en3⟩:=q
   simp only [ws] at h3
   show W (if us.length < sizeLine then _ else _) Q
   rw [if_pos (by omega)]
   exact ih (i+1) _ _ hd hlt (by rw [List.length_append]; show _+1≤_; omega) h3
  | false =>
   simp only [ws] at h2
   exact ih (i+1) _ _ hd hlt (by omega) h2
theorem jk {f:ME} {ts:List D} {o:Option D} {rest:En} {Q:List D × En→Prop} (F:D→D) (hz:ts.length≤sizeLine) (hf:∀ t∈ts,W (f (some t :: rest)) (fun r=>r=(F t,some t :: rest))) (hq:∀ o',Q (ts.map F,o' :: rest)):W (lcF (gN 0) cY f ts [] (o :: rest)) Q:=by
 obtain ⟨o',e⟩:=BG (f:=f) (F:=F) (rest:=rest) ts [] o (fun t ht=>by
  obtain ⟨r,e,h⟩:=(hf t ht).ex
  rw [e,h]) (by simpa using hz)
 exact W.of e (hq o')
theorem iK {c:MT} {f:ME} {ts:List D} {o:Option D} {rest:En} {Q:List D × En→Prop} (p:D→Bool) (F:D→D) (hz:ts.length≤sizeLine) (hc:∀ t∈ts,W (c (some t :: rest)) (fun r=>r=(p t,some t :: rest))) (hf:∀ t∈ts,p t=true→W (f (some t :: rest)) (fun r=>r=(F t,some t :: rest))) (hq:∀ o',Q ((ts.filter p).map F,o' :: rest)):W (lcF (gN 0) c f ts [] (o :: rest)) Q:=by
 obtain ⟨o',e⟩:=gS (c:=c) (f:=f) (p:=p) (F:=F) (rest:=rest) ts [] o (fun t ht=>by
  obtain ⟨r,e,h⟩:=(hc t ht).ex
  rw [e,h]) (fun t ht hp=>by
  obtain ⟨r,e,h⟩:=(hf t ht hp).ex
  rw [e,h]) (by simpa using hz)
 exact W.of e (hq o')
theorem iD {α:Type} {ts:List α} {i:Nat} {t:α} (h:ts[i]?=some t):ts.take (i+1)=ts.take i++[t]:=by
 rw [List.take_add_one,h]; rfl
theorem Gj {g:MG} {f:ME} {ts:List D} {en:En} {Q:List D × En→Prop} (J:En→Prop) (F:D→D) (hz:ts.length≤sizeLine) (h0:J en) (hs:∀ t∈ts,∀ en,J en→W (g t en) (fun en1=>W (f en1) (fun r=>r.1=F t∧J r.2))) (hq:∀ en,J en→Q (ts.map F,en)):W (lcF g cY f ts [] en) Q:=by
 refine nS (fun i us en=>us=(ts.take i).map F∧J en) hz ⟨rfl,h0⟩ (fun i t us en ht _ ⟨e,hj⟩=>?_) fun us en _ ⟨e,hj⟩=>?_
 ·refine (hs t (List.mem_of_getElem? ht) en hj).use fun en1 h1=>?_
  simp only [ws]
  refine h1.use fun r h2=>?_
  obtain ⟨u,en2⟩:=r
  simp only [ws]
  refine ⟨?_,h2.2⟩
  rw [iD ht,List.map_append,e]
  show _++[u]=_++[F t]
  rw [show u=F t from h2.1]
 ·rw [e,List.take_length]
  exact hq en hj
theorem uo {g:MG} {b:MS} {ts:List D} {en:En} {Q:Fl→Prop} (J:En→Prop) (h0:J en) (hs:∀ t∈ts,∀ en,J en→W (g t en) (kFg b J Q)) (hq:∀ en,J en→Q (.nx en)):W (eh g b ts en) Q :=
 iJ (fun _=>J) h0 (fun _ t en ht hj=>hs t (List.mem_of_getElem? ht) en hj) hq
theorem kT {i:Int} {n k:Nat} {t:D} (h:(pz i n)[k]?=some t):k < n∧t=.int (i+(k:Nat)):=by
 unfold pz at h
 rw [List.getElem?_map] at h
 obtain ⟨j,hj,rfl⟩:=Option.map_eq_some_iff.mp h
 obtain ⟨hl,e⟩:=List.getElem?_eq_some_iff.mp hj
 rw [List.getElem_range] at e
 rw [List.length_range] at hl
 exact ⟨hl,by rw [e]⟩
theorem eD (i:Int) (n:Nat):(pz i n).length=n:=by unfold pz; rw [List.length_map,List.length_range]
theorem sz {n:Nat} (h:n≤1000):n≤sizeLine:=Nat.le_trans h Pen3.sl1000
theorem szl {n:Nat} (h:n < 1000):n < sizeLine:=Nat.lt_of_lt_of_le h Pen3.sl1000
theorem bT {p:D} {m:Int} (hp:Pen3.IsPen p) (h3:0 < m) (h4:m < 1073741824) {Q:D × En→Prop} (h:∀ r p',0≤r→r < m→Pen3.IsPen p'→Q (.int r,[some p',none])):W (Pen3.F_law_draw [p,.int m]) Q:=by
 obtain ⟨r,p',e,h1,h2,h5⟩:=Pen3.draw_ok hp h3 h4
 exact W.of e (h r p' h1 h2 h5)
theorem Hi {ns:List Int} {k:Int} (h0:0≤k) {Q:D × En→Prop} (h:∀ p,Pen3.IsPen p→Q (p,[none,none])):W (Pen3.F_law_pen [.list (ns.map .int),.int k]) Q:=by
 obtain ⟨p,e,hp⟩:=Pen3.pen_ok h0
 exact W.of e (h p hp)
end L2
set_option maxHeartbeats 1000000
namespace L2
namespace Tg
open PySem L2 Pen3
abbrev s1 (c:Nat):D:=.str (mk1 c)
def ev:Str:=("!\"#$&'()*+,-./0123456789:;<=>?@ABCDEFGHIJKLMNOPQRSTUVWXYZ" : Str)++("[\\]^_`abcdefghijklmnopqrstuvwxyz{|}~" : Str)
theorem pW:(li ev).length=93:=by decide +kernel
theorem Hb:(li ev).Nodup:=by decide +kernel
theorem Cm:∀ c∈li ev,33≤c∧c≤126∧c≠37:=by decide +kernel
theorem Cl:("!\"#$&'()*+,-./0123456789:;<=>?@ABCDEFGHIJKLMNOPQRSTUVWXYZ" : Str).length+("[\\]^_`abcdefghijklmnopqrstuvwxyz{|}~" : Str).length≤sizeLine:=sz (by decide +kernel)
theorem iH:∀ (l:List Nat) (k:Nat),(l.map s1).eraseIdx k=(l.eraseIdx k).map s1
 | [],_=>rfl
 | a :: l,0=>rfl
 | a :: l,k+1=>by
  show s1 a :: (l.map s1).eraseIdx k=s1 a :: (l.eraseIdx k).map s1
  rw [iH l k]
theorem og {z:Str} (h:(li z).length≤1000):jE [.str z]=some (.list ((li z).map s1)):=by
 show grd (z.cps.size≤sizeLine) _=_
 unfold grd
 rw [if_pos (Nat.le_trans (by rw [← Array.length_toList]; exact h) sl1000)]
 rfl
theorem Ho {left:List Nat} {k:Nat} (hk:k < left.length):rE (left.map s1) (k:Int)=some (s1 left[k],(left.eraseIdx k).map s1):=by
 unfold rE
 rw [List.length_map,Eu (by omega) (by omega),Int.toNat_natCast]
 show Option.map _ _=_
 rw [List.getElem?_map,List.getElem?_eq_getElem hk,iH]
 rfl
def EL:ME:=fB 2 (aq F_law_draw (bh 1 (ad (eN ba (ad (af 2) ai)) ai)))
theorem um {ts:List D} {left:List Nat} {p:D} {o:Option D} {Q:List D × En→Prop} (hp:IsPen p) (h1:ts.length≤left.length) (h2:left.length≤1000)
  (hq:∀ (cs left':List Nat) o' p',(cs++left').Perm left→cs.length=ts.length→IsPen p'→Q (cs.map s1,[o',some p',some (.list (left'.map s1))])):W (lcF (gN 0) cY EL ts [] [o,some p,some (.list (left.map s1))]) Q:=by
 refine nS (fun i us en=>∃ (cs left':List Nat) (o:Option D) (p:D),us=cs.map s1∧en=[o,some p,some (.list (left'.map s1))]∧(cs++left').Perm left∧cs.length=i∧IsPen p) (sz (by omega)) ⟨[],left,o,p,rfl,rfl,List.Perm.refl _,rfl,hp⟩ ?_ ?_
 ·rintro i t us en ht hu ⟨cs,lf,o,p,rfl,rfl,hpm,hcs,hp⟩
  have hi:i < ts.length:=(List.getElem?_eq_some_iff.mp ht).1
  have hl:=hpm.length_eq
  rw [List.length_append] at hl
  simp only [ws,EL]
  refine bT hp (by omega) (by omega) fun r p' r0 r1 hp'=>?_
  obtain ⟨k,rfl⟩:∃ k:Nat,r=k:=⟨r.toNat,(Int.toNat_of_nonneg r0).symm⟩
  have hk:k < lf.length:=by omega
  simp only [ws,Ho hk]
  refine ⟨by omega,cs++[lf[k]],lf.eraseIdx k,some t,p',by rw [List.map_append]; rfl,rfl,?_,by rw [List.length_append,hcs]; rfl,hp'⟩
  rw [List.append_assoc]
  exact (List.Perm.append_left cs (mZ lf k hk)).trans hpm
 ·rintro us en hu ⟨cs,lf,o,p,rfl,rfl,hpm,hcs,hp⟩
  exact hq cs lf o p hpm hcs hp
theorem m4 {α:Type} (xs:List α) (n:Nat):b9 xs (some (n:Int)) none=xs.drop n:=by
 unfold b9
 rw [HT.sIx_none,HT.sIx_nat,List.take_of_length_le (by rw [List.length_drop]; exact Nat.le_refl _)]
 by_cases h:n≤xs.length
 ·rw [Nat.min_eq_left h]
 ·rw [Nat.min_eq_right (by omega),List.drop_eq_nil_of_le (Nat.le_refl _),List.drop_eq_nil_of_le (by omega)]
theorem dD {α:Type} (xs:List α) (n:Nat):b9 xs none (some (n:Int))=xs.take n:=by
 unfold b9
 rw [HT.sIx_none,HT.sIx_nat,List.drop_zero,Nat.sub_zero]
 by_cases h:n≤xs.length
 ·rw [Nat.min_eq_left h]
 ·rw [Nat.min_eq_right (by omega),List.take_of_length_le (Nat.le_refl _),List.take_of_length_le (by omega)]
theorem lB:∀ ks:List Str,joinD.strsOf (ks.map .str)=some ks
 | []=>rfl
 | c :: cs=>by
  show (joinD.strsOf (cs.map .str)).map (c :: ·)=_
  rw [lB cs]
  rfl
theorem oi {ks:List Str} (h:(bz ks).length≤1000) (h2:ks.length≤1000):joinD "" [.tuple (ks.map .str)]=some (.str (ofL (bz ks)))∧joinD "" [.list (ks.map .str)]=some (.str (ofL (bz ks))):=by
 have e:ofL (bz ks)=Txt.join "" ks:=(E3 (Gi ks)).symm
 constructor
 ·show (joinD.strsOf (ks.map .str)).bind _=_
  rw [lB]
  show (if _ then _ else _)=_
  rw [if_pos ⟨by decide,by rw [qb]; omega⟩,e]
 ·show (joinD.strsOf (ks.map .str)).bind _=_
  rw [lB]
  show (if _ then _ else _)=_
  rw [if_pos ⟨by decide,by rw [qb]; omega⟩,e]
theorem nH {cs:List Nat} (h:cs.length≤1000):joinD "" [.list (cs.map s1)]=some (.str (ofL cs)):=by
 have e:(cs.map s1)=(cs.map mk1).map PyData.str:=by rw [List.map_map]; rfl
 have h2:=(oi (ks:=cs.map mk1) (by rw [qa]; exact h) (by rw [List.length_map]; exact h)).2
 rw [qa] at h2
 rw [e]
 exact h2
structure TOk (ks:List Str):Prop where
 n1:1≤ks.length
 n4:ks.length≤4
 fu:∀ k∈ks,1≤(li k).length∧(li k).length≤6
 nd:(bz ks).Nodup
 l12:(bz ks).length≤12
 l1:1≤(bz ks).length
 mem:∀ c∈bz ks,c∈li ev
def tD (ks:List Str):D:=.tuple (ks.map .str)
abbrev sgs (ks:List Str):Str:=ofL (bz ks)
theorem qS {ks:List Str} (T:TOk ks):joinD "" [tD ks]=some (.str (sgs ks)):=(oi (by have:=T.l12; omega) (by have:=T.n4; omega)).1
theorem BF (cs:List Nat):(ofL cs).length=cs.length:=by show cs.toArray.size=_; rw [List.size_toArray]
theorem hds:((("long" : Str)=("least" : Str))=False)∧((("long" : Str)=("often" : Str))=False)∧((("long" : Str)=("apart" : Str))=False)∧((("long" : Str)=("without" : Str))=False)∧((("long" : Str)=("begins" : Str))=False)∧((("long" : Str)=("ends" : Str))=False)∧((("long" : Str)=("not" : Str))=False)∧((("long" : Str)=("both" : Str))=False)∧((("long" : Str)=("either" : Str))=False)∧((("least" : Str)=("long" : Str))=False)∧((("least" : Str)=("often" : Str))=False)∧((("least" : Str)=("apart" : Str))=False)∧((("least" : Str)=("without" : Str))=False)∧((("least" : Str)=("begins" : Str))=False)∧((("least" : Str)=("ends" : Str))=False)∧((("least" : Str)=("not" : Str))=False)∧((("least" : Str)=("both" : Str))=False)∧((("least" : Str)=("either" : Str))=False)∧((("often" : Str)=("long" : Str))=False)∧((("often" : Str)=("least" : Str))=False)∧((("often" : Str)=("apart" : Str))=False)∧((("often" : Str)=("without" : Str))=False)∧((("often" : Str)=("begins" : Str))=False)∧((("often" : Str)=("ends" : Str))=False)∧((("often" : Str)=("not" : Str))=False)∧((("often" : Str)=("both" : Str))=False)∧((("often" : Str)=("either" : Str))=False)∧((("apart" : Str)=("long" : Str))=False)∧((("apart" : Str)=("least" : Str))=False)∧((("apart" : Str)=("often" : Str))=False)∧((("apart" : Str)=("without" : Str))=False)∧((("apart" : Str)=("begins" : Str))=False)∧((("apart" : Str)=("ends" : Str))=False)∧((("apart" : Str)=("not" : Str))=False)∧((("apart" : Str)=("both" : Str))=False)∧((("apart" : Str)=("either" : Str))=False)∧((("without" : Str)=("long" : Str))=False)∧((("without" : Str)=("least" : Str))=False)∧((("without" : Str)=("often" : Str))=False)∧((("without" : Str)=("apart" : Str))=False)∧((("without" : Str)=("begins" : Str))=False)∧((("without" : Str)=("ends" : Str))=False)∧((("without" : Str)=("not" : Str))=False)∧((("without" : Str)=("both" : Str))=False)∧((("without" : Str)=("either" : Str))=False)∧((("begins" : Str)=("long" : Str))=False)∧((("begins" : Str)=("least" : Str))=False)∧((("begins" : Str)=("often" : Str))=False)∧((("begins" : Str)=("apart" : Str))=False)∧((("begins" : Str)=("without" : Str))=False)∧((("begins" : Str)=("ends" : Str))=False)∧((("begins" : Str)=("not" : Str))=False)∧((("begins" : Str)=("both" : Str))=False)∧((("begins" : Str)=("either" : Str))=False)∧((("ends" : Str)=("long" : Str))=False)∧((("ends" : Str)=("least" : Str))=False)∧((("ends" : Str)=("often" : Str))=False)∧((("ends" : Str)=("apart" : Str))=False)∧((("ends" : Str)=("without" : Str))=False)∧((("ends" : Str)=("begins" : Str))=False)∧((("ends" : Str)=("not" : Str))=False)∧((("ends" : Str)=("both" : Str))=False)∧((("ends" : Str)=("either" : Str))=False)∧((("not" : Str)=("long" : Str))=False)∧((("not" : Str)=("least" : Str))=False)∧((("not" : Str)=("often" : Str))=False)∧((("not" : Str)=("apart" : Str))=False)∧((("not" : Str)=("without" : Str))=False)∧((("not" : Str)=("begins" : Str))=False)∧((("not" : Str)=("ends" : Str))=False)∧((("not" : Str)=("both" : Str))=False)∧((("not" : Str)=("either" : Str))=False)∧((("both" : Str)=("long" : Str))=False)∧((("both" : Str)=("least" : Str))=False)∧((("both" : Str)=("often" : Str))=False)∧((("both" : Str)=("apart" : Str))=False)∧((("both" : Str)=("without" : Str))=False)∧((("both" : Str)=("begins" : Str))=False)∧((("both" : Str)=("ends" : Str))=False)∧((("both" : Str)=("not" : Str))=False)∧((("both" : Str)=("either" : Str))=False)∧((("either" : Str)=("long" : Str))=False)∧((("either" : Str)=("least" : Str))=False)∧((("either" : Str)=("often" : Str))=False)∧((("either" : Str)=("apart" : Str))=False)∧((("either" : Str)=("without" : Str))=False)∧((("either" : Str)=("begins" : Str))=False)∧((("either" : Str)=("ends" : Str))=False)∧((("either" : Str)=("not" : Str))=False)∧((("either" : Str)=("both" : Str))=False):=by
 refine ⟨?_,?_,?_,?_,?_,?_,?_,?_,?_,?_,?_,?_,?_,?_,?_,?_,?_,?_,?_,?_,?_,?_,?_,?_,?_,?_,?_,?_,?_,?_,?_,?_,?_,?_,?_,?_,?_,?_,?_,?_,?_,?_,?_,?_,?_,?_,?_,?_,?_,?_,?_,?_,?_,?_,?_,?_,?_,?_,?_,?_,?_,?_,?_,?_,?_,?_,?_,?_,?_,?_,?_,?_,?_,?_,?_,?_,?_,?_,?_,?_,?_,?_,?_,?_,?_,?_,?_,?_,?_,?_⟩ <;> exact eq_false (by decide +kernel)
end Tg
end L2
namespace L2
namespace Tg
open PySem L2 Pen3
theorem mw (z y:Str) (i:Nat):Builtin.Str.subAt z y i=((((li z).drop i).take (li y).length) == li y):=StrLaws.subAt_eq z y i
theorem len_li (z:Str):(li z).length=z.length:=Array.length_toList
theorem jx (z y:Str):Txt.startswith z y=true↔li y <+: li z:=by
 show (decide (0+y.length≤z.length) && Builtin.Str.subAt z y 0)=true↔_
 rw [mw,Bool.and_eq_true,decide_eq_true_eq,beq_iff_eq,List.drop_zero]
 have a:=len_li z
 have b:=len_li y
 constructor
 ·rintro ⟨_,h⟩
  exact List.prefix_iff_eq_take.mpr h.symm
 ·intro h
  exact ⟨by have:=h.length_le; omega,(List.prefix_iff_eq_take.mp h).symm⟩
theorem lQ (z y:Str):Txt.endswith z y=true↔li y <:+ li z:=by
 show (decide (0+y.length≤z.length) && Builtin.Str.subAt z y (z.length - y.length))=true↔_
 rw [mw,Bool.and_eq_true,decide_eq_true_eq,beq_iff_eq]
 have a:=len_li z
 have b:=len_li y
 have t:∀ h:y.length≤z.length,((li z).drop (z.length - y.length)).take (li y).length=(li z).drop ((li z).length - (li y).length):=fun h=>by
  rw [a,b]
  exact List.take_of_length_le (by rw [List.length_drop]; omega)
 constructor
 ·rintro ⟨h1,h⟩
  rw [t (by omega)] at h
  exact List.suffix_iff_eq_drop.mpr h.symm
 ·intro h
  have hl:y.length≤z.length:=by have:=h.length_le; omega
  exact ⟨by omega,by rw [t hl]; exact (List.suffix_iff_eq_drop.mp h).symm⟩
theorem mP (z y:Str):cm z y=true↔li y <:+: li z:=by
 have a:=len_li z
 have b:=len_li y
 unfold cm
 rw [StrLaws.found_iff]
 constructor
 ·rintro ⟨i,h1,h2⟩
  rw [mw,beq_iff_eq] at h2
  refine ⟨(li z).take i,((li z).drop i).drop (li y).length,?_⟩
  rw [List.append_assoc]
  conv=>rhs; rw [← List.take_append_drop i (li z)]
  congr 1
  conv=>rhs; rw [← List.take_append_drop (li y).length ((li z).drop i)]
  rw [h2]
 ·rintro ⟨s,t,h⟩
  refine ⟨s.length,?_,?_⟩
  ·have:=congrArg List.length h
   rw [List.length_append,List.length_append] at this
   omega
  ·rw [mw,beq_iff_eq,← h,List.append_assoc,List.drop_left,List.take_left]
abbrev rv (z:Str):Str:=⟨z.cps.toList.reverse.toArray⟩
theorem jF (z:Str):li (rv z)=(li z).reverse:=rfl
theorem sJ (z y:Str):Txt.endswith (rv z) (rv y)=Txt.startswith z y:=by
 rw [Bool.eq_iff_iff,lQ,jx,jF,jF]
 exact List.reverse_suffix
theorem Cp (z y:Str):Txt.startswith (rv z) (rv y)=Txt.endswith z y:=by
 rw [Bool.eq_iff_iff,lQ,jx,jF,jF]
 exact List.reverse_prefix
theorem GH (z y:Str):cm (rv z) (rv y)=cm z y:=by
 rw [Bool.eq_iff_iff,mP,mP,jF,jF]
 exact List.reverse_infix
theorem sK {z y:Str} (h:Txt.startswith z y=true):cm z y=true:=(mP z y).mpr ((jx z y).mp h).isInfix
theorem Cq {z y:Str} (h:Txt.endswith z y=true):cm z y=true:=(mP z y).mpr ((lQ z y).mp h).isInfix
end Tg
end L2
set_option maxHeartbeats 4000000
namespace W09
open PySem L2
def top (i:Nat):Stmt:=PySem.Challenge.pw_wordrules_k09_whole_sentences_within_rul.main.body.getD i (.Pass ⟨0,0,0,0⟩)
structure Bl (mg:Str→Option Value):Prop where
 abs0:mg "abs"=none
 all0:mg "all"=none
 bool0:mg "bool"=none
 enumerate0:mg "enumerate"=none
 int0:mg "int"=none
 isinstance0:mg "isinstance"=none
 len0:mg "len"=none
 list0:mg "list"=none
 min0:mg "min"=none
 ord0:mg "ord"=none
 range0:mg "range"=none
 set0:mg "set"=none
 str0:mg "str"=none
 sum0:mg "sum"=none
 tuple0:mg "tuple"=none
 zip0:mg "zip"=none
section
variable {P:Program} {w:World} {K:PySem.W.Frag} {mg:Str→Option Value} {base:Heap} {f:Addr} {fd:FuncData}
abbrev lY:Stmt:=top 13
abbrev qj:List Str:=["sign", "code"]
theorem scis_sign:FnScope qj ["sign"] (ar lY):=⟨rfl,rfl,rfl,by decide +kernel,rfl,by decide +kernel,by decide +kernel⟩
def mf:MS:=(ap (aH 1 (eN rH (ad (af 0) ai)))
 (aC (cB (dk leI leI (eC (.int 33)) (af 1) (eC (.int 126))) (e2 neD (af 1) (eC (.int 37))))))
def ir:List D→Option (D × En):=fnF 1 [0] mf
theorem sV {k:Nat} (T:Bl mg) {nw:Tok} (oV:mg "LOWEST_CODE"=some (.int 33 nw)) {mn:Tok} (nK:mg "HIGHEST_CODE"=some (.int 126 mn)) {mj:Tok} (nJ:mg "PERCENT_CODE"=some (.int 37 mj))  (F:Fun K "is_sign" "is_sign" lY f fd):FnOk P w K mg base CX0 (k+1) f fd ["sign"] (spF K [0] 3 ir):=by
 have nd:=scis_sign.nd
 refine F.okQ (N:=qj) (b:=mf) (J:=⟨[],[0,0],3,[]⟩) (ds0:=[0,0]) scis_sign rfl rfl rfl rfl fun cdv A outer s H E hr=>?_
 exact (ah (au (i:=1) (d:=0) (ds':=[0,0]) nd rfl (.inl rfl) (ak (d':=0) (aw FI rfl T.ord0 (by decide +kernel) (aa (ac (i:=0) rfl (.inl rfl) rfl rfl rfl) ae rfl) rfl (by decide) rfl rfl rfl) (by decide)) rfl (by decide) (by decide) rfl (.inl rfl))
  (aj (am (bM (gW cW cW (bp rfl oV rfl) (ac (i:=1) rfl (.inl rfl) rfl rfl rfl) (bp rfl nK rfl) (by with_unfolding_all rfl)) (bu (bL (dZ (K:=K) rfl hr.units) (ac (i:=1) rfl (.inl rfl) rfl rfl rfl) (bp rfl nJ rfl) (aB _)))) rfl)))
abbrev jR:Stmt:=top 14
abbrev l5:List Str:=["thing"]
theorem scis_kind:FnScope l5 ["thing"] (ar jR):=⟨rfl,rfl,rfl,by decide +kernel,rfl,by decide +kernel,by decide +kernel⟩
def nq:ME:=(aq ir (ad (af 0) ai))
def mi:MS:=(ap (sIf (bOr (cb (tV (e1 (aW "str") (af 0)))) (cb (tV (dk leI leI (eC (.int 1)) (eN ba (ad (af 0) ai)) (eC (.int 6)))))) (aC (eC (.bool false))) aM)
 (aC (eN dE (ad (eLC true (bX (af 0)) (gN 0) cY nq [none]) ai))))
def gi:List D→Option (D × En):=fnF 0 [0] mi
theorem sX {k:Nat} (T:Bl mg) {iB:Tok} (iW:mg "MOST_SIGNS_OF_A_KIND"=some (.int 6 iB)) (vC:Kn P w K mg base k "is_sign" ["sign"] (spF K [0] 3 ir)) (F:Fun K "is_kind" "is_kind" jR f fd):FnOk P w K mg base CX0 (k+1) f fd ["thing"] (spF K [0] 3 gi):=by
 have nd:=scis_kind.nd
 refine F.okQ (N:=l5) (b:=mi) (J:=⟨[],[0],3,[]⟩) (ds0:=[0]) scis_kind rfl rfl rfl rfl fun cdv A outer s H E hr=>?_
 exact (ah (aA (ds2:=[0]) (qpt (bY (bc (aS (cM (K:=K) (n:="str") rfl rfl T.isinstance0 rfl T.str0 (by decide +kernel) (by decide) (ac (i:=0) rfl (.inl rfl) rfl rfl rfl) (by decide) rfl rfl rfl rfl) (fun _=>rfl))) (cw (bc (mT cW cW ag (aw (aT (K:=K) rfl) rfl T.len0 (by decide +kernel) (aa (ac (i:=0) rfl (.inl rfl) rfl rfl rfl) ae rfl) rfl (by decide) rfl rfl rfl) (bp rfl iW rfl) (by with_unfolding_all rfl)))))) (aj (am aX rfl)) ax)
  (aj (am (aw (dJ (K:=K) rfl rfl) rfl T.all0 (by decide +kernel) (aa (ak (d':=0) (cu (cd:=3) (d:=3) (dsi:=[0]) (lk:=[]) (BlkOkC.of (ns:=["sign"]) (js:=[none]) (N0:=l5) (sc0:=ar jR) rfl rfl (by decide +kernel)) rfl (bn (K:=K) rfl (ac (i:=0) rfl (.inl rfl) rfl rfl rfl)) (fun _ _ _ _ _=>(aG (i:=0) (ds':=[0]) (show (["sign"]:List Str).Nodup by decide +kernel) rfl (.inl rfl) rfl (by decide) (by decide) (.inr rfl))) (fun _ _ _ _ _=>bI) (fun _ _ _ _ _=>(av vC hr rfl (aa (ac (i:=0) rfl (.inl rfl) rfl rfl rfl) ae rfl) rfl rfl rfl rfl rfl)) rfl rfl (by decide) rfl (fun _=>rfl)) (by decide)) ae rfl) rfl (by decide) rfl rfl rfl) rfl)))
abbrev i5:Stmt:=top 15
abbrev lu:List Str:=["signs"]
theorem scare_unlike:FnScope lu ["signs"] (ar i5):=⟨rfl,rfl,rfl,by decide +kernel,rfl,by decide +kernel,by decide +kernel⟩
def i9:MS:=(aC (e2 eqD (e1 mI (af 0)) (eN ba (ad (af 0) ai))))
def cF:List D→Option (D × En):=fnF 0 [0] i9
theorem pE {k:Nat} (T:Bl mg)   (F:Fun K "are_unlike" "are_unlike" i5 f fd):FnOk P w K mg base CX0 (k+1) f fd ["signs"] (spF K [0] 3 cF):=by
 have nd:=scare_unlike.nd
 refine F.okQ (N:=lu) (b:=i9) (J:=⟨[],[0],3,[]⟩) (ds0:=[0]) scare_unlike rfl rfl rfl rfl fun cdv A outer s H E hr=>?_
 exact (aj (am (bL (aV (K:=K) rfl hr.units) (qG (K:=K) rfl rfl rfl T.len0 rfl T.set0 (by decide +kernel) (by decide +kernel) (ac (i:=0) rfl (.inl rfl) rfl rfl rfl) rfl) (aw (aT (K:=K) rfl) rfl T.len0 (by decide +kernel) (aa (ac (i:=0) rfl (.inl rfl) rfl rfl rfl) ae rfl) rfl (by decide) rfl rfl rfl) (aB _)) rfl))
abbrev kE:Stmt:=top 18
abbrev oI:List Str:=["tongue"]
theorem scsigns_of:FnScope oI ["tongue"] (ar kE):=⟨rfl,rfl,rfl,by decide +kernel,rfl,by decide +kernel,by decide +kernel⟩
def kP:MS:=(aC (eM joinD (eC (.str "")) (ad (af 0) ai)))
def cE:List D→Option (D × En):=fnF 0 [0] kP
theorem rL {k:Nat} (T:Bl mg)   (F:Fun K "signs_of" "signs_of" kE f fd):FnOk P w K mg base CX0 (k+1) f fd ["tongue"] (spF K [0] 3 cE):=by
 have nd:=scsigns_of.nd
 refine F.okQ (N:=oI) (b:=kP) (J:=⟨[],[0],3,[]⟩) (ds0:=[0]) scsigns_of rfl rfl rfl rfl fun cdv A outer s H E hr=>?_
 exact (aj (am (cX (K:=K) rfl PySem.F.slot_str_join PySem.F.type_str_join (hR rfl) hV ao (aa (ac (i:=0) rfl (.inl rfl) rfl rfl rfl) ae rfl) rfl rfl rfl rfl rfl rfl) rfl))
abbrev gY:Stmt:=top 16
abbrev jT:List Str:=["thing", "signs"]
theorem scis_tongue:FnScope jT ["thing"] (ar gY):=⟨rfl,rfl,rfl,by decide +kernel,rfl,by decide +kernel,by decide +kernel⟩
def kK:ME:=(aq gi (ad (af 0) ai))
def j5:MS:=(ap (sIf (bOr (cb (tV (e1 (aW "tuple") (af 0)))) (cb (tV (dk leI leI (eC (.int 1)) (eN ba (ad (af 0) ai)) (eC (.int 4)))))) (aC (eC (.bool false))) aM)
 (ap (sIf (cb (tV (eN dE (ad (eLC true (bX (af 0)) (gN 0) cY kK [none]) ai)))) (aC (eC (.bool false))) aM)
 (ap (aH 1 (aq cE (ad (af 0) ai)))
 (aC (cB (e2 leI (eN ba (ad (af 1) ai)) (eC (.int 12))) (aq cF (ad (af 1) ai)))))))
def cZ:List D→Option (D × En):=fnF 1 [0] j5
theorem qx {k:Nat} (T:Bl mg) {oO:Tok} (pQ:mg "MOST_SIGNS"=some (.int 12 oO)) {oP:Tok} (pR:mg "MOST_KINDS"=some (.int 4 oP)) (gx:Kn P w K mg base k "signs_of" ["tongue"] (spF K [0] 3 cE)) (i8:Kn P w K mg base k "are_unlike" ["signs"] (spF K [0] 3 cF)) (vE:Kn P w K mg base k "is_kind" ["thing"] (spF K [0] 3 gi)) (F:Fun K "is_tongue" "is_tongue" gY f fd):FnOk P w K mg base CX0 (k+1) f fd ["thing"] (spF K [0] 3 cZ):=by
 have nd:=scis_tongue.nd
 refine F.okQ (N:=jT) (b:=j5) (J:=⟨[],[0,0],3,[]⟩) (ds0:=[0,0]) scis_tongue rfl rfl rfl rfl fun cdv A outer s H E hr=>?_
 exact (ah (aA (ds2:=[0,0]) (qpt (bY (bc (aS (cM (K:=K) (n:="tuple") rfl rfl T.isinstance0 rfl T.tuple0 (by decide +kernel) (by decide) (ac (i:=0) rfl (.inl rfl) rfl rfl rfl) (by decide) rfl rfl rfl rfl) (fun _=>rfl))) (cw (bc (mT cW cW ag (aw (aT (K:=K) rfl) rfl T.len0 (by decide +kernel) (aa (ac (i:=0) rfl (.inl rfl) rfl rfl rfl) ae rfl) rfl (by decide) rfl rfl rfl) (bp rfl pR rfl) (by with_unfolding_all rfl)))))) (aj (am aX rfl)) ax)
  (ah (aA (ds2:=[0,0]) (bc (aS (aw (dJ (K:=K) rfl rfl) rfl T.all0 (by decide +kernel) (aa (ak (d':=0) (cu (cd:=3) (d:=3) (dsi:=[0]) (lk:=[]) (BlkOkC.of (ns:=["kind"]) (js:=[none]) (N0:=jT) (sc0:=ar gY) rfl rfl (by decide +kernel)) rfl (bn (K:=K) rfl (ac (i:=0) rfl (.inl rfl) rfl rfl rfl)) (fun _ _ _ _ _=>(aG (i:=0) (ds':=[0]) (show (["kind"]:List Str).Nodup by decide +kernel) rfl (.inl rfl) rfl (by decide) (by decide) (.inr rfl))) (fun _ _ _ _ _=>bI) (fun _ _ _ _ _=>(av vE hr rfl (aa (ac (i:=0) rfl (.inl rfl) rfl rfl rfl) ae rfl) rfl rfl rfl rfl rfl)) rfl rfl (by decide) rfl (fun _=>rfl)) (by decide)) ae rfl) rfl (by decide) rfl rfl rfl) (fun _=>rfl))) (aj (am aX rfl)) ax)
  (ah (au (i:=1) (d:=0) (ds':=[0,0]) nd rfl (.inl rfl) (ak (d':=0) (av gx hr rfl (aa (ac (i:=0) rfl (.inl rfl) rfl rfl rfl) ae rfl) rfl rfl rfl rfl rfl) (by decide)) rfl (by decide) (by decide) rfl (.inl rfl))
  (aj (am (bM (bL cW (aw (aT (K:=K) rfl) rfl T.len0 (by decide +kernel) (aa (ac (i:=1) rfl (.inl rfl) rfl rfl rfl) ae rfl) rfl (by decide) rfl rfl rfl) (bp rfl pQ rfl) (aB _)) (bu (av i8 hr rfl (aa (ac (i:=1) rfl (.inl rfl) rfl rfl rfl) ae rfl) rfl rfl rfl rfl rfl))) rfl)))))
abbrev jO:Stmt:=top 17
abbrev lZ:List Str:=["tongue", "thing", "signs"]
theorem scis_word:FnScope lZ ["tongue", "thing"] (ar jO):=⟨rfl,rfl,rfl,by decide +kernel,rfl,by decide +kernel,by decide +kernel⟩
def nk:ME:=(e2 se (af 0) (af 1))
def me:MS:=(ap (sIf (bOr (cb (tV (e1 (aW "str") (af 1)))) (tV (e2 gtI (eN ba (ad (af 1) ai)) (eC (.int 60))))) (aC (eC (.bool false))) aM)
 (ap (aH 2 (aq cE (ad (af 0) ai)))
 (aC (eN dE (ad (eLC true (bX (af 1)) (gN 0) cY nk [none,some 2]) ai)))))
def et:List D→Option (D × En):=fnF 1 [0,0] me
theorem sU {k:Nat} (T:Bl mg) {iA:Tok} (iV:mg "MOST_SIGNS_OF_A_WORD"=some (.int 60 iA)) (gx:Kn P w K mg base k "signs_of" ["tongue"] (spF K [0] 3 cE)) (F:Fun K "is_word" "is_word" jO f fd):FnOk P w K mg base CX0 (k+1) f fd ["tongue", "thing"] (spF K [0,0] 3 et):=by
 have nd:=scis_word.nd
 refine F.okQ (N:=lZ) (b:=me) (J:=⟨[],[0,0,0],3,[]⟩) (ds0:=[0,0,0]) scis_word rfl rfl rfl rfl fun cdv A outer s H E hr=>?_
 exact (ah (aA (ds2:=[0,0,0]) (qpt (bY (bc (aS (cM (K:=K) (n:="str") rfl rfl T.isinstance0 rfl T.str0 (by decide +kernel) (by decide) (ac (i:=1) rfl (.inl rfl) rfl rfl rfl) (by decide) rfl rfl rfl rfl) (fun _=>rfl))) (cw (az mV (aw (aT (K:=K) rfl) rfl T.len0 (by decide +kernel) (aa (ac (i:=1) rfl (.inl rfl) rfl rfl rfl) ae rfl) rfl (by decide) rfl rfl rfl) (bp rfl iV rfl) (aB _))))) (aj (am aX rfl)) ax)
  (ah (au (i:=2) (d:=0) (ds':=[0,0,0]) nd rfl (.inr rfl) (ak (d':=0) (av gx hr rfl (aa (ac (i:=0) rfl (.inl rfl) rfl rfl rfl) ae rfl) rfl rfl rfl rfl rfl) (by decide)) rfl (by decide) (by decide) rfl (.inl rfl))
  (aj (am (aw (dJ (K:=K) rfl rfl) rfl T.all0 (by decide +kernel) (aa (ak (d':=0) (cu (cd:=3) (d:=3) (dsi:=[0,0]) (lk:=[1]) (BlkOkC.of (ns:=["sign", "signs"]) (js:=[none,some 2]) (N0:=lZ) (sc0:=ar jO) rfl rfl (by decide +kernel)) rfl (bn (K:=K) rfl (ac (i:=1) rfl (.inl rfl) rfl rfl rfl)) (fun _ _ _ _ _=>(aG (i:=0) (ds':=[0,0]) (show (["sign", "signs"]:List Str).Nodup by decide +kernel) rfl (.inl rfl) rfl (by decide) (by decide) (.inr rfl))) (fun _ _ _ _ _=>bI) (fun _ _ _ _ _=>(bL tS (ac (i:=0) rfl (.inl rfl) rfl rfl rfl) (ac (i:=1) rfl (.inr (.inl rfl)) rfl rfl rfl) (by with_unfolding_all rfl))) rfl rfl (by decide) rfl (fun _=>rfl)) (by decide)) ae rfl) rfl (by decide) rfl rfl rfl) rfl))))
abbrev kG:Stmt:=top 20
abbrev oJ:List Str:=["thing"]
theorem scis_whole:FnScope oJ ["thing"] (ar kG):=⟨rfl,rfl,rfl,by decide +kernel,rfl,by decide +kernel,by decide +kernel⟩
def kQ:MS:=(aC (cB (e1 (aW "int") (af 0)) (iY (e1 (aW "bool") (af 0)))))
def gy:List D→Option (D × En):=fnF 0 [0] kQ
theorem rM {k:Nat} (T:Bl mg)   (F:Fun K "is_whole" "is_whole" kG f fd):FnOk P w K mg base CX0 (k+1) f fd ["thing"] (spF K [0] 3 gy):=by
 have nd:=scis_whole.nd
 refine F.okQ (N:=oJ) (b:=kQ) (J:=⟨[],[0],3,[]⟩) (ds0:=[0]) scis_whole rfl rfl rfl rfl fun cdv A outer s H E hr=>?_
 exact (aj (am (bM (cM (K:=K) (n:="int") rfl rfl T.isinstance0 rfl T.int0 (by decide +kernel) (by decide) (ac (i:=0) rfl (.inl rfl) rfl rfl rfl) (by decide) rfl rfl rfl rfl) (bu (jI (cM (K:=K) (n:="bool") rfl rfl T.isinstance0 rfl T.bool0 (by decide +kernel) (by decide) (ac (i:=0) rfl (.inl rfl) rfl rfl rfl) (by decide) rfl rfl rfl rfl)))) rfl))
abbrev fg:Stmt:=top 21
abbrev io:List Str:=["thing", "low", "high"]
theorem scis_whole_within:FnScope io ["thing", "low", "high"] (ar fg):=⟨rfl,rfl,rfl,by decide +kernel,rfl,by decide +kernel,by decide +kernel⟩
def fj:MS:=(aC (cB (aq gy (ad (af 0) ai)) (dk leI leI (af 1) (af 0) (af 2))))
def bi:List D→Option (D × En):=fnF 0 [0,0,0] fj
theorem k8 {k:Nat} (T:Bl mg)  (ut:Kn P w K mg base k "is_whole" ["thing"] (spF K [0] 3 gy)) (F:Fun K "is_whole_within" "is_whole_within" fg f fd):FnOk P w K mg base CX0 (k+1) f fd ["thing", "low", "high"] (spF K [0,0,0] 3 bi):=by
 have nd:=scis_whole_within.nd
 refine F.okQ (N:=io) (b:=fj) (J:=⟨[],[0,0,0],3,[]⟩) (ds0:=[0,0,0]) scis_whole_within rfl rfl rfl rfl fun cdv A outer s H E hr=>?_
 exact (aj (am (bM (av ut hr rfl (aa (ac (i:=0) rfl (.inl rfl) rfl rfl rfl) ae rfl) rfl rfl rfl rfl rfl) (bu (gW cW cW (ac (i:=1) rfl (.inl rfl) rfl rfl rfl) (ac (i:=0) rfl (.inl rfl) rfl rfl rfl) (ac (i:=2) rfl (.inl rfl) rfl rfl rfl) (by with_unfolding_all rfl)))) rfl))
abbrev fH:Stmt:=top 32
abbrev iN:List Str:=["head"]
theorem schow_many_parts:FnScope iN ["head"] (ar fH):=⟨rfl,rfl,rfl,by decide +kernel,rfl,by decide +kernel,by decide +kernel⟩
def bq:MS:=(ap (sIf (tV (e2 eqD (af 0) (eC (.str "not")))) (aC (eC (.int 1))) aM)
 (ap (sIf (bOr (tV (e2 eqD (af 0) (eC (.str "both")))) (tV (e2 eqD (af 0) (eC (.str "either"))))) (aC (eC (.int 2))) aM)
 (aC (eC (.int 0)))))
def aR:List D→Option (D × En):=fnF 0 [0] bq
theorem lM {k:Nat} (T:Bl mg)   (F:Fun K "how_many_parts" "how_many_parts" fH f fd):FnOk P w K mg base CX0 (k+1) f fd ["head"] (spF K [0] 3 aR):=by
 have nd:=schow_many_parts.nd
 refine F.okQ (N:=iN) (b:=bq) (J:=⟨[],[0],3,[]⟩) (ds0:=[0]) schow_many_parts rfl rfl rfl rfl fun cdv A outer s H E hr=>?_
 exact (ah (aA (ds2:=[0]) (az (aV (K:=K) rfl hr.units) (ac (i:=0) rfl (.inl rfl) rfl rfl rfl) ao (aB _)) (aj (am ag rfl)) ax)
  (ah (aA (ds2:=[0]) (qpt (bY (az (aV (K:=K) rfl hr.units) (ac (i:=0) rfl (.inl rfl) rfl rfl rfl) ao (aB _)) (cw (az (aV (K:=K) rfl hr.units) (ac (i:=0) rfl (.inl rfl) rfl rfl rfl) ao (aB _))))) (aj (am ag rfl)) ax)
  (aj (am ag rfl))))
abbrev fh:Stmt:=top 36
abbrev ip:List Str:=["low", "high"]
theorem scis_low_and_high:FnScope ip ["low", "high"] (ar fh):=⟨rfl,rfl,rfl,by decide +kernel,rfl,by decide +kernel,by decide +kernel⟩
def dH:MS:=(ap (sIf (cb (tV (aq bi (ad (af 0) (ad (eC (.int 0)) (ad (eC (.int 30)) ai)))))) (aC (eC (.bool false))) aM)
 (aC (eOr (e2 isN (af 1) (eC .none)) (aq bi (ad (af 1) (ad (af 0) (ad (eC (.int 30)) ai)))))))
def ce:List D→Option (D × En):=fnF 0 [0,0] dH
theorem k9 {k:Nat} (T:Bl mg) {k6:Tok} (ic:mg "HIGHEST_LENGTH"=some (.int 30 k6)) (cc:Kn P w K mg base k "is_whole_within" ["thing", "low", "high"] (spF K [0,0,0] 3 bi)) (F:Fun K "is_low_and_high" "is_low_and_high" fh f fd):FnOk P w K mg base CX0 (k+1) f fd ["low", "high"] (spF K [0,0] 3 ce):=by
 have nd:=scis_low_and_high.nd
 refine F.okQ (N:=ip) (b:=dH) (J:=⟨[],[0,0],3,[]⟩) (ds0:=[0,0]) scis_low_and_high rfl rfl rfl rfl fun cdv A outer s H E hr=>?_
 exact (ah (aA (ds2:=[0,0]) (bc (aS (av cc hr rfl (aa (ac (i:=0) rfl (.inl rfl) rfl rfl rfl) (aa (ak (d':=0) ag (by decide)) (aa (ak (d':=0) (bp rfl ic rfl) (by decide)) ae rfl) rfl) rfl) rfl rfl rfl rfl rfl) (fun _=>rfl))) (aj (am aX rfl)) ax)
  (aj (am (kZ (bL pU (ac (i:=1) rfl (.inl rfl) rfl rfl rfl) fV (aB _)) (bu (av cc hr rfl (aa (ac (i:=1) rfl (.inl rfl) rfl rfl rfl) (aa (ac (i:=0) rfl (.inl rfl) rfl rfl rfl) (aa (ak (d':=0) (bp rfl ic rfl) (by decide)) ae rfl) rfl) rfl) rfl rfl rfl rfl rfl))) rfl)))
abbrev gJ:Stmt:=top 35
abbrev j8:List Str:=["tongue", "thing"]
theorem scis_told_word:FnScope j8 ["tongue", "thing"] (ar gJ):=⟨rfl,rfl,rfl,by decide +kernel,rfl,by decide +kernel,by decide +kernel⟩
def gP:MS:=(aC (cB (aq et (ad (af 0) (ad (af 1) ai))) (dk leI leI (eC (.int 1)) (eN ba (ad (af 1) ai)) (eC (.int 6)))))
def cT:List D→Option (D × En):=fnF 0 [0,0] gP
theorem nz {k:Nat} (T:Bl mg) {kf:Tok} (lb:mg "MOST_SIGNS_TOLD"=some (.int 6 kf)) (l6:Kn P w K mg base k "is_word" ["tongue", "thing"] (spF K [0,0] 3 et)) (F:Fun K "is_told_word" "is_told_word" gJ f fd):FnOk P w K mg base CX0 (k+1) f fd ["tongue", "thing"] (spF K [0,0] 3 cT):=by
 have nd:=scis_told_word.nd
 refine F.okQ (N:=j8) (b:=gP) (J:=⟨[],[0,0],3,[]⟩) (ds0:=[0,0]) scis_told_word rfl rfl rfl rfl fun cdv A outer s H E hr=>?_
 exact (aj (am (bM (av l6 hr rfl (aa (ac (i:=0) rfl (.inl rfl) rfl rfl rfl) (aa (ac (i:=1) rfl (.inl rfl) rfl rfl rfl) ae rfl) rfl) rfl rfl rfl rfl rfl) (bu (gW cW cW ag (aw (aT (K:=K) rfl) rfl T.len0 (by decide +kernel) (aa (ac (i:=1) rfl (.inl rfl) rfl rfl rfl) ae rfl) rfl (by decide) rfl rfl rfl) (bp rfl lb rfl) (by with_unfolding_all rfl)))) rfl))
abbrev fG:Stmt:=top 37
abbrev iM:List Str:=["tongue", "thing"]
theorem scis_often_signs:FnScope iM ["tongue", "thing"] (ar fG):=⟨rfl,rfl,rfl,by decide +kernel,rfl,by decide +kernel,by decide +kernel⟩
def fM:MS:=(aC (cB (aq et (ad (af 0) (ad (af 1) ai))) (cB (dk leI leI (eC (.int 1)) (eN ba (ad (af 1) ai)) (eC (.int 4))) (aq cF (ad (af 1) ai)))))
def c7:List D→Option (D × En):=fnF 0 [0,0] fM
theorem lL {k:Nat} (T:Bl mg) {kb:Tok} (kx:mg "MOST_OFTEN_SIGNS"=some (.int 4 kb)) (l6:Kn P w K mg base k "is_word" ["tongue", "thing"] (spF K [0,0] 3 et)) (i8:Kn P w K mg base k "are_unlike" ["signs"] (spF K [0] 3 cF)) (F:Fun K "is_often_signs" "is_often_signs" fG f fd):FnOk P w K mg base CX0 (k+1) f fd ["tongue", "thing"] (spF K [0,0] 3 c7):=by
 have nd:=scis_often_signs.nd
 refine F.okQ (N:=iM) (b:=fM) (J:=⟨[],[0,0],3,[]⟩) (ds0:=[0,0]) scis_often_signs rfl rfl rfl rfl fun cdv A outer s H E hr=>?_
 exact (aj (am (bM (av l6 hr rfl (aa (ac (i:=0) rfl (.inl rfl) rfl rfl rfl) (aa (ac (i:=1) rfl (.inl rfl) rfl rfl rfl) ae rfl) rfl) rfl rfl rfl rfl rfl) (bM (gW cW cW ag (aw (aT (K:=K) rfl) rfl T.len0 (by decide +kernel) (aa (ac (i:=1) rfl (.inl rfl) rfl rfl rfl) ae rfl) rfl (by decide) rfl rfl rfl) (bp rfl kx rfl) (by with_unfolding_all rfl)) (bu (av i8 hr rfl (aa (ac (i:=1) rfl (.inl rfl) rfl rfl rfl) ae rfl) rfl rfl rfl rfl rfl)))) rfl))
abbrev jP:Stmt:=top 34
abbrev nc:List Str:=["tongue", "thing", "head"]
theorem scis_simple:FnScope nc ["tongue", "thing"] (ar jP):=⟨rfl,rfl,rfl,by decide +kernel,rfl,by decide +kernel,by decide +kernel⟩
def cj:MS:=(ap (aH 2 (e2 ixA (af 1) (eC (.int 0))))
 (ap (sIf (tV (e2 eqD (af 2) (eC (.str "apart")))) (aC (e2 eqD (eN ba (ad (af 1) ai)) (eC (.int 1)))) aM)
 (ap (sIf (bOr (tV (e2 eqD (af 2) (eC (.str "without")))) (bOr (tV (e2 eqD (af 2) (eC (.str "begins")))) (tV (e2 eqD (af 2) (eC (.str "ends")))))) (aC (cB (e2 eqD (eN ba (ad (af 1) ai)) (eC (.int 2))) (aq cT (ad (af 0) (ad (e2 ixA (af 1) (eC (.int 1))) ai))))) aM)
 (ap (sIf (tV (e2 neD (eN ba (ad (af 1) ai)) (eC (.int 3)))) (aC (eC (.bool false))) aM)
 (ap (sIf (tV (e2 eqD (af 2) (eC (.str "long")))) (aC (aq ce (ad (e2 ixA (af 1) (eC (.int 1))) (ad (e2 ixA (af 1) (eC (.int 2))) ai)))) aM)
 (ap (sIf (tV (e2 eqD (af 2) (eC (.str "least")))) (aC (cB (aq bi (ad (e2 ixA (af 1) (eC (.int 1))) (ad (eC (.int 0)) (ad (e2 h8 (eN ba (ad (af 0) ai)) (eC (.int 1))) ai)))) (aq bi (ad (e2 ixA (af 1) (eC (.int 2))) (ad (eC (.int 0)) (ad (eC (.int 9)) ai)))))) aM)
 (ap (sIf (tV (e2 eqD (af 2) (eC (.str "often")))) (aC (cB (aq c7 (ad (af 0) (ad (e2 ixA (af 1) (eC (.int 1))) ai))) (aq bi (ad (e2 ixA (af 1) (eC (.int 2))) (ad (eC (.int 0)) (ad (eC (.int 3)) ai)))))) aM)
 (aC (eC (.bool false))))))))))
def bP:List D→Option (D × En):=fnF 1 [0,0] cj
theorem qy {k:Nat} (T:Bl mg) {lA:Tok} (mR:mg "HIGHEST_LEAST"=some (.int 9 lA)) {lz:Tok} (mQ:mg "HIGHEST_OFTEN"=some (.int 3 lz)) (l7:Kn P w K mg base k "is_low_and_high" ["low", "high"] (spF K [0,0] 3 ce)) (o7:Kn P w K mg base k "is_told_word" ["tongue", "thing"] (spF K [0,0] 3 cT)) (cc:Kn P w K mg base k "is_whole_within" ["thing", "low", "high"] (spF K [0,0,0] 3 bi)) (nj:Kn P w K mg base k "is_often_signs" ["tongue", "thing"] (spF K [0,0] 3 c7)) (F:Fun K "is_simple" "is_simple" jP f fd):FnOk P w K mg base CX0 (k+1) f fd ["tongue", "thing"] (spF K [0,0] 3 bP):=by
 have nd:=scis_simple.nd
 refine F.okQ (N:=nc) (b:=cj) (J:=⟨[],[0,0,0],3,[]⟩) (ds0:=[0,0,0]) scis_simple rfl rfl rfl rfl fun cdv A outer s H E hr=>?_
 exact (ah (au (i:=2) (d:=0) (ds':=[0,0,0]) nd rfl (.inl rfl) (ay (aF (K:=K) rfl) (ac (i:=1) rfl (.inl rfl) rfl rfl rfl) ag (fun _ _=>rfl)) rfl (by decide) (by decide) rfl (.inl rfl))
  (ah (aA (ds2:=[0,0,0]) (az (aV (K:=K) rfl hr.units) (ac (i:=2) rfl (.inl rfl) rfl rfl rfl) ao (aB _)) (aj (am (bL (aV (K:=K) rfl hr.units) (aw (aT (K:=K) rfl) rfl T.len0 (by decide +kernel) (aa (ac (i:=1) rfl (.inl rfl) rfl rfl rfl) ae rfl) rfl (by decide) rfl rfl rfl) ag (aB _)) rfl)) ax)
  (ah (aA (ds2:=[0,0,0]) (qpt (bY (az (aV (K:=K) rfl hr.units) (ac (i:=2) rfl (.inl rfl) rfl rfl rfl) ao (aB _)) (bY (az (aV (K:=K) rfl hr.units) (ac (i:=2) rfl (.inl rfl) rfl rfl rfl) ao (aB _)) (cw (az (aV (K:=K) rfl hr.units) (ac (i:=2) rfl (.inl rfl) rfl rfl rfl) ao (aB _)))))) (aj (am (bM (bL (aV (K:=K) rfl hr.units) (aw (aT (K:=K) rfl) rfl T.len0 (by decide +kernel) (aa (ac (i:=1) rfl (.inl rfl) rfl rfl rfl) ae rfl) rfl (by decide) rfl rfl rfl) ag (aB _)) (bu (av o7 hr rfl (aa (ac (i:=0) rfl (.inl rfl) rfl rfl rfl) (aa (ay (aF (K:=K) rfl) (ac (i:=1) rfl (.inl rfl) rfl rfl rfl) ag (fun _ _=>rfl)) ae rfl) rfl) rfl rfl rfl rfl rfl))) rfl)) ax)
  (ah (aA (ds2:=[0,0,0]) (az (dZ (K:=K) rfl hr.units) (aw (aT (K:=K) rfl) rfl T.len0 (by decide +kernel) (aa (ac (i:=1) rfl (.inl rfl) rfl rfl rfl) ae rfl) rfl (by decide) rfl rfl rfl) ag (aB _)) (aj (am aX rfl)) ax)
  (ah (aA (ds2:=[0,0,0]) (az (aV (K:=K) rfl hr.units) (ac (i:=2) rfl (.inl rfl) rfl rfl rfl) ao (aB _)) (aj (am (av l7 hr rfl (aa (ay (aF (K:=K) rfl) (ac (i:=1) rfl (.inl rfl) rfl rfl rfl) ag (fun _ _=>rfl)) (aa (ay (aF (K:=K) rfl) (ac (i:=1) rfl (.inl rfl) rfl rfl rfl) ag (fun _ _=>rfl)) ae rfl) rfl) rfl rfl rfl rfl rfl) rfl)) ax)
  (ah (aA (ds2:=[0,0,0]) (az (aV (K:=K) rfl hr.units) (ac (i:=2) rfl (.inl rfl) rfl rfl rfl) ao (aB _)) (aj (am (bM (av cc hr rfl (aa (ay (aF (K:=K) rfl) (ac (i:=1) rfl (.inl rfl) rfl rfl rfl) ag (fun _ _=>rfl)) (aa (ak (d':=0) ag (by decide)) (aa (ak (d':=0) (aD ji (aw (aT (K:=K) rfl) rfl T.len0 (by decide +kernel) (aa (ac (i:=0) rfl (.inl rfl) rfl rfl rfl) ae rfl) rfl (by decide) rfl rfl rfl) ag) (by decide)) ae rfl) rfl) rfl) rfl rfl rfl rfl rfl) (bu (av cc hr rfl (aa (ay (aF (K:=K) rfl) (ac (i:=1) rfl (.inl rfl) rfl rfl rfl) ag (fun _ _=>rfl)) (aa (ak (d':=0) ag (by decide)) (aa (ak (d':=0) (bp rfl mR rfl) (by decide)) ae rfl) rfl) rfl) rfl rfl rfl rfl rfl))) rfl)) ax)
  (ah (aA (ds2:=[0,0,0]) (az (aV (K:=K) rfl hr.units) (ac (i:=2) rfl (.inl rfl) rfl rfl rfl) ao (aB _)) (aj (am (bM (av nj hr rfl (aa (ac (i:=0) rfl (.inl rfl) rfl rfl rfl) (aa (ay (aF (K:=K) rfl) (ac (i:=1) rfl (.inl rfl) rfl rfl rfl) ag (fun _ _=>rfl)) ae rfl) rfl) rfl rfl rfl rfl rfl) (bu (av cc hr rfl (aa (ay (aF (K:=K) rfl) (ac (i:=1) rfl (.inl rfl) rfl rfl rfl) ag (fun _ _=>rfl)) (aa (ak (d':=0) ag (by decide)) (aa (ak (d':=0) (bp rfl mQ rfl) (by decide)) ae rfl) rfl) rfl) rfl rfl rfl rfl rfl))) rfl)) ax)
  (aj (am aX rfl)))))))))
abbrev gZ:Stmt:=top 31
abbrev jU:List Str:=["tongue", "thing", "deep", "many"]
theorem scis_formed:FnScope jU ["tongue", "thing", "deep"] (ar gZ):=⟨rfl,rfl,rfl,by decide +kernel,rfl,by decide +kernel,by decide +kernel⟩
def fL (self:List D→Option (D × En)):ME:=(aq self (ad (af 1) (ad (af 0) (ad (e2 h8 (af 2) (eC (.int 1))) ai))))
def cC (self:List D→Option (D × En)):MS:=(ap (sIf (bOr (tV (e2 eqD (af 2) (eC (.int 0)))) (bOr (cb (tV (e1 (aW "tuple") (af 1)))) (bOr (tV (e2 eqD (eN ba (ad (af 1) ai)) (eC (.int 0)))) (cb (tV (e1 (aW "str") (e2 ixA (af 1) (eC (.int 0))))))))) (aC (eC (.bool false))) aM)
 (ap (aH 3 (aq aR (ad (e2 ixA (af 1) (eC (.int 0))) ai)))
 (ap (sIf (tV (e2 eqD (af 3) (eC (.int 0)))) (aC (aq bP (ad (af 0) (ad (af 1) ai)))) aM)
 (aC (cB (e2 eqD (eN ba (ad (af 1) ai)) (e2 bA (af 3) (eC (.int 1)))) (eN dE (ad (eLC true (bX (eSl sk (af 1) (cq (eC (.int 1))) cz)) (gN 0) cY (fL self) [none,some 0,some 2]) ai)))))))
def bV:Nat→List D→Option (D × En)
 | 0=>fun _=>none
 | j+1=>fnF 1 [0,0,0] (cC (bV j))
theorem dM {k:Nat} (T:Bl mg)  {self:List D→Option (D × En)} (fJ:Kn P w K mg base k "how_many_parts" ["head"] (spF K [0] 3 aR)) (su:Kn P w K mg base k "is_simple" ["tongue", "thing"] (spF K [0,0] 3 bP)) (jY:Kn P w K mg base k "is_formed" ["tongue", "thing", "deep"] (spF K [0,0,0] 3 self)) (F:Fun K "is_formed" "is_formed" gZ f fd):FnOk P w K mg base CX0 (k+1) f fd ["tongue", "thing", "deep"] (spF K [0,0,0] 3 (fnF 1 [0,0,0] (cC self))):=by
 have nd:=scis_formed.nd
 refine F.okQ (N:=jU) (b:=cC self) (J:=⟨[],[0,0,0,0],3,[]⟩) (ds0:=[0,0,0,0]) scis_formed rfl rfl rfl rfl fun cdv A outer s H E hr=>?_
 exact (ah (aA (ds2:=[0,0,0,0]) (qpt (bY (az (aV (K:=K) rfl hr.units) (ac (i:=2) rfl (.inr (.inl rfl)) rfl rfl rfl) ag (aB _)) (bY (bc (aS (cM (K:=K) (n:="tuple") rfl rfl T.isinstance0 rfl T.tuple0 (by decide +kernel) (by decide) (ac (i:=1) rfl (.inl rfl) rfl rfl rfl) (by decide) rfl rfl rfl rfl) (fun _=>rfl))) (bY (az (aV (K:=K) rfl hr.units) (aw (aT (K:=K) rfl) rfl T.len0 (by decide +kernel) (aa (ac (i:=1) rfl (.inl rfl) rfl rfl rfl) ae rfl) rfl (by decide) rfl rfl rfl) ag (aB _)) (cw (bc (aS (cM (K:=K) (n:="str") rfl rfl T.isinstance0 rfl T.str0 (by decide +kernel) (by decide) (ay (aF (K:=K) rfl) (ac (i:=1) rfl (.inl rfl) rfl rfl rfl) ag (fun _ _=>rfl)) (by decide) rfl rfl rfl rfl) (fun _=>rfl)))))))) (aj (am aX rfl)) ax)
  (ah (au (i:=3) (d:=0) (ds':=[0,0,0,0]) nd rfl (.inl rfl) (ak (d':=0) (av fJ hr rfl (aa (ay (aF (K:=K) rfl) (ac (i:=1) rfl (.inl rfl) rfl rfl rfl) ag (fun _ _=>rfl)) ae rfl) rfl rfl rfl rfl rfl) (by decide)) rfl (by decide) (by decide) rfl (.inl rfl))
  (ah (aA (ds2:=[0,0,0,0]) (az (aV (K:=K) rfl hr.units) (ac (i:=3) rfl (.inl rfl) rfl rfl rfl) ag (aB _)) (aj (am (av su hr rfl (aa (ac (i:=0) rfl (.inr (.inl rfl)) rfl rfl rfl) (aa (ac (i:=1) rfl (.inl rfl) rfl rfl rfl) ae rfl) rfl) rfl rfl rfl rfl rfl) rfl)) ax)
  (aj (am (bM (bL (aV (K:=K) rfl hr.units) (aw (aT (K:=K) rfl) rfl T.len0 (by decide +kernel) (aa (ac (i:=1) rfl (.inl rfl) rfl rfl rfl) ae rfl) rfl (by decide) rfl rfl rfl) (aD bm (ac (i:=3) rfl (.inl rfl) rfl rfl rfl) ag) (aB _)) (bu (aw (dJ (K:=K) rfl rfl) rfl T.all0 (by decide +kernel) (aa (ak (d':=0) (cu (cd:=3) (d:=3) (dsi:=[0,0,0]) (lk:=[1,2]) (BlkOkC.of (ns:=["part", "tongue", "deep"]) (js:=[none,some 0,some 2]) (N0:=jU) (sc0:=ar gZ) rfl rfl (by decide +kernel)) rfl (bn (K:=K) rfl (bw (tW (K:=K) rfl) (ac (i:=1) rfl (.inl rfl) rfl rfl rfl) (bJ ag) bK)) (fun _ _ _ _ _=>(aG (i:=0) (ds':=[0,0,0]) (show (["part", "tongue", "deep"]:List Str).Nodup by decide +kernel) rfl (.inl rfl) rfl (by decide) (by decide) (.inr rfl))) (fun _ _ _ _ _=>bI) (fun _ _ _ _ _=>(av jY hr rfl (aa (ac (i:=1) rfl (.inr (.inl rfl)) rfl rfl rfl) (aa (ac (i:=0) rfl (.inl rfl) rfl rfl rfl) (aa (ak (d':=0) (aD ji (ac (i:=2) rfl (.inr (.inl rfl)) rfl rfl rfl) ag) (by decide)) ae rfl) rfl) rfl) rfl rfl rfl rfl rfl)) rfl rfl (by decide) rfl (fun _=>rfl)) (by decide)) ae rfl) rfl (by decide) rfl rfl rfl))) rfl)))))
abbrev e8:Stmt:=top 33
abbrev gK:List Str:=["sentence"]
theorem scsentences_in:FnScope gK ["sentence"] (ar e8):=⟨rfl,rfl,rfl,by decide +kernel,rfl,by decide +kernel,by decide +kernel⟩
def ef (self:List D→Option (D × En)):ME:=(aq self (ad (af 0) ai))
def b8 (self:List D→Option (D × En)):MS:=(ap (sIf (tV (e2 eqD (aq aR (ad (e2 ixA (af 0) (eC (.int 0))) ai)) (eC (.int 0)))) (aC (eC (.int 1))) aM)
 (aC (e2 bA (eC (.int 1)) (eN pp (ad (eLC true (bX (eSl sk (af 0) (cq (eC (.int 1))) cz)) (gN 0) cY (ef self) [none]) ai)))))
def bx:Nat→List D→Option (D × En)
 | 0=>fun _=>none
 | j+1=>fnF 0 [0] (b8 (bx j))
theorem cG {k:Nat} (T:Bl mg)  {self:List D→Option (D × En)} (fJ:Kn P w K mg base k "how_many_parts" ["head"] (spF K [0] 3 aR)) (gL:Kn P w K mg base k "sentences_in" ["sentence"] (spF K [0] 3 self)) (F:Fun K "sentences_in" "sentences_in" e8 f fd):FnOk P w K mg base CX0 (k+1) f fd ["sentence"] (spF K [0] 3 (fnF 0 [0] (b8 self))):=by
 have nd:=scsentences_in.nd
 refine F.okQ (N:=gK) (b:=b8 self) (J:=⟨[],[0],3,[]⟩) (ds0:=[0]) scsentences_in rfl rfl rfl rfl fun cdv A outer s H E hr=>?_
 exact (ah (aA (ds2:=[0]) (az (aV (K:=K) rfl hr.units) (av fJ hr rfl (aa (ay (aF (K:=K) rfl) (ac (i:=0) rfl (.inl rfl) rfl rfl rfl) ag (fun _ _=>rfl)) ae rfl) rfl rfl rfl rfl rfl) ag (aB _)) (aj (am ag rfl)) ax)
  (aj (am (aD bm ag (aw (FG (K:=K) rfl rfl) rfl T.sum0 (by decide +kernel) (aa (ak (d':=0) (cu (cd:=3) (d:=3) (dsi:=[0]) (lk:=[]) (BlkOkC.of (ns:=["part"]) (js:=[none]) (N0:=gK) (sc0:=ar e8) rfl rfl (by decide +kernel)) rfl (bn (K:=K) rfl (bw (tW (K:=K) rfl) (ac (i:=0) rfl (.inl rfl) rfl rfl rfl) (bJ ag) bK)) (fun _ _ _ _ _=>(aG (i:=0) (ds':=[0]) (show (["part"]:List Str).Nodup by decide +kernel) rfl (.inl rfl) rfl (by decide) (by decide) (.inr rfl))) (fun _ _ _ _ _=>bI) (fun _ _ _ _ _=>(av gL hr rfl (aa (ac (i:=0) rfl (.inl rfl) rfl rfl rfl) ae rfl) rfl rfl rfl rfl rfl)) rfl rfl (by decide) rfl (fun _=>rfl)) (by decide)) ae rfl) rfl (by decide) rfl rfl rfl)) rfl)))
abbrev il:Stmt:=top 30
abbrev kJ:List Str:=["tongue", "thing"]
theorem scis_sentence:FnScope kJ ["tongue", "thing"] (ar il):=⟨rfl,rfl,rfl,by decide +kernel,rfl,by decide +kernel,by decide +kernel⟩
def iw:MS:=(aC (cB (aq (bV 6) (ad (af 0) (ad (af 1) (ad (eC (.int 4)) ai)))) (e2 leI (aq (bx 6) (ad (af 1) ai)) (eC (.int 9)))))
def bG:List D→Option (D × En):=fnF 0 [0,0] iw
theorem oS {k:Nat} (T:Bl mg) {pi:Tok} (qF:mg "MOST_DEEP"=some (.int 4 pi)) {hX:Tok} (iC:mg "MOST_SENTENCES_IN_ONE"=some (.int 9 hX)) (jY:Kn P w K mg base k "is_formed" ["tongue", "thing", "deep"] (spF K [0,0,0] 3 (bV 6))) (gL:Kn P w K mg base k "sentences_in" ["sentence"] (spF K [0] 3 (bx 6))) (F:Fun K "is_sentence" "is_sentence" il f fd):FnOk P w K mg base CX0 (k+1) f fd ["tongue", "thing"] (spF K [0,0] 3 bG):=by
 have nd:=scis_sentence.nd
 refine F.okQ (N:=kJ) (b:=iw) (J:=⟨[],[0,0],3,[]⟩) (ds0:=[0,0]) scis_sentence rfl rfl rfl rfl fun cdv A outer s H E hr=>?_
 exact (aj (am (bM (av jY hr rfl (aa (ac (i:=0) rfl (.inl rfl) rfl rfl rfl) (aa (ac (i:=1) rfl (.inl rfl) rfl rfl rfl) (aa (ak (d':=0) (bp rfl qF rfl) (by decide)) ae rfl) rfl) rfl) rfl rfl rfl rfl rfl) (bu (bL cW (av gL hr rfl (aa (ac (i:=1) rfl (.inl rfl) rfl rfl rfl) ae rfl) rfl rfl rfl rfl rfl) (bp rfl iC rfl) (aB _)))) rfl))
abbrev cR:Stmt:=top 39
abbrev dL:List Str:=["tongue", "sentence", "word", "head", "kind"]
theorem scholds_simple:FnScope dL ["tongue", "sentence", "word"] (ar cR):=⟨rfl,rfl,rfl,by decide +kernel,rfl,by decide +kernel,by decide +kernel⟩
def iL:MT:=(tV (e2 se (af 0) (af 1)))
def iR:ME:=(af 0)
def iQ:ME:=(e2 leI (eM m5 (af 2) (ad (af 0) ai)) (e2 ixA (af 1) (eC (.int 2))))
def iP:ME:=(e2 neD (af 0) (af 1))
def bO:MS:=(ap (aH 3 (e2 ixA (af 1) (eC (.int 0))))
 (ap (sIf (tV (e2 eqD (af 3) (eC (.str "long")))) (aC (cB (e2 leI (e2 ixA (af 1) (eC (.int 1))) (eN ba (ad (af 2) ai))) (eOr (e2 isN (e2 ixA (af 1) (eC (.int 2))) (eC .none)) (e2 leI (eN ba (ad (af 2) ai)) (e2 ixA (af 1) (eC (.int 2))))))) aM)
 (ap (sIf (tV (e2 eqD (af 3) (eC (.str "least")))) (ap (aH 4 (e2 ixA (af 0) (e2 ixA (af 1) (eC (.int 1)))))
 (aC (e2 geI (eN ba (ad (eLC true (bX (af 2)) (gN 0) iL iR [none,some 4]) ai)) (e2 ixA (af 1) (eC (.int 2)))))) aM)
 (ap (sIf (tV (e2 eqD (af 3) (eC (.str "often")))) (aC (eN dE (ad (eLC true (bX (e2 ixA (af 1) (eC (.int 1)))) (gN 0) cY iQ [none,some 1,some 2]) ai))) aM)
 (ap (sIf (tV (e2 eqD (af 3) (eC (.str "apart")))) (aC (eN dE (ad (eLC true (ku (ad (af 2) (ad (eSl lT (af 2) (cq (eC (.int 1))) cz) ai))) (gT (gsC (gN 0) (gsC (gN 1) gs0))) cY iP [none,none]) ai))) aM)
 (ap (sIf (tV (e2 eqD (af 3) (eC (.str "without")))) (aC (e2 nB (e2 ixA (af 1) (eC (.int 1))) (af 2))) aM)
 (ap (sIf (tV (e2 eqD (af 3) (eC (.str "begins")))) (aC (eM kS (af 2) (ad (e2 ixA (af 1) (eC (.int 1))) ai))) aM)
 (aC (eM pd (af 2) (ad (e2 ixA (af 1) (eC (.int 1))) ai))))))))))
def bo:List D→Option (D × En):=fnF 2 [0,0,0] bO
theorem nA {k:Nat} (T:Bl mg)   (F:Fun K "holds_simple" "holds_simple" cR f fd):FnOk P w K mg base CX0 (k+1) f fd ["tongue", "sentence", "word"] (spF K [0,0,0] 3 bo):=by
 have nd:=scholds_simple.nd
 refine F.okQ (N:=dL) (b:=bO) (J:=⟨[],[0,0,0,0,0],3,[]⟩) (ds0:=[0,0,0,0,0]) scholds_simple rfl rfl rfl rfl fun cdv A outer s H E hr=>?_
 exact (ah (au (i:=3) (d:=0) (ds':=[0,0,0,0,0]) nd rfl (.inl rfl) (ay (aF (K:=K) rfl) (ac (i:=1) rfl (.inr (.inl rfl)) rfl rfl rfl) ag (fun _ _=>rfl)) rfl (by decide) (by decide) rfl (.inl rfl))
  (ah (aA (ds2:=[0,0,0,0,0]) (az (aV (K:=K) rfl hr.units) (ac (i:=3) rfl (.inl rfl) rfl rfl rfl) ao (aB _)) (aj (am (bM (bL cW (ay (aF (K:=K) rfl) (ac (i:=1) rfl (.inr (.inl rfl)) rfl rfl rfl) ag (fun _ _=>rfl)) (aw (aT (K:=K) rfl) rfl T.len0 (by decide +kernel) (aa (ac (i:=2) rfl (.inr (.inl rfl)) rfl rfl rfl) ae rfl) rfl (by decide) rfl rfl rfl) (aB _)) (bu (kZ (bL pU (ay (aF (K:=K) rfl) (ac (i:=1) rfl (.inr (.inl rfl)) rfl rfl rfl) ag (fun _ _=>rfl)) fV (aB _)) (bu (bL cW (aw (aT (K:=K) rfl) rfl T.len0 (by decide +kernel) (aa (ac (i:=2) rfl (.inr (.inl rfl)) rfl rfl rfl) ae rfl) rfl (by decide) rfl rfl rfl) (ay (aF (K:=K) rfl) (ac (i:=1) rfl (.inr (.inl rfl)) rfl rfl rfl) ag (fun _ _=>rfl)) (aB _)))))) rfl)) ax)
  (ah (aA (ds2:=[0,0,0,0,0]) (az (aV (K:=K) rfl hr.units) (ac (i:=3) rfl (.inl rfl) rfl rfl rfl) ao (aB _)) (ah (au (i:=4) (d:=0) (ds':=[0,0,0,0,0]) nd rfl (.inr rfl) (ay (aF (K:=K) rfl) (ac (i:=0) rfl (.inl rfl) rfl rfl rfl) (ay (aF (K:=K) rfl) (ac (i:=1) rfl (.inr (.inl rfl)) rfl rfl rfl) ag (fun _ _=>rfl)) (fun _ _=>rfl)) rfl (by decide) (by decide) rfl (.inl rfl))
  (aj (am (bL Bd (aw (aT (K:=K) rfl) rfl T.len0 (by decide +kernel) (aa (ak (d':=0) (cu (cd:=0) (d:=1) (dsi:=[0,0]) (lk:=[1]) (BlkOkC.of (ns:=["sign", "kind"]) (js:=[none,some 4]) (N0:=dL) (sc0:=ar cR) rfl rfl (by decide +kernel)) rfl (bn (K:=K) rfl (ac (i:=2) rfl (.inr (.inl rfl)) rfl rfl rfl)) (fun _ _ _ _ _=>(aG (i:=0) (ds':=[0,0]) (show (["sign", "kind"]:List Str).Nodup by decide +kernel) rfl (.inl rfl) rfl (by decide) (by decide) (.inr rfl))) (fun _ _ _ _ _=>(gq (az tS (ac (i:=0) rfl (.inl rfl) rfl rfl rfl) (ac (i:=1) rfl (.inr (.inl rfl)) rfl rfl rfl) (by with_unfolding_all rfl)))) (fun _ _ _ _ _=>(ac (i:=0) rfl (.inl rfl) rfl rfl rfl)) rfl rfl (by decide) rfl (fun _=>rfl)) (by decide)) ae rfl) rfl (by decide) rfl rfl rfl) (ay (aF (K:=K) rfl) (ac (i:=1) rfl (.inr (.inl rfl)) rfl rfl rfl) ag (fun _ _=>rfl)) (aB _)) rfl))) ax)
  (ah (aA (ds2:=[0,0,0,0,0]) (az (aV (K:=K) rfl hr.units) (ac (i:=3) rfl (.inl rfl) rfl rfl rfl) ao (aB _)) (aj (am (aw (dJ (K:=K) rfl rfl) rfl T.all0 (by decide +kernel) (aa (ak (d':=0) (cu (cd:=3) (d:=3) (dsi:=[0,0,0]) (lk:=[1,2]) (BlkOkC.of (ns:=["sign", "sentence", "word"]) (js:=[none,some 1,some 2]) (N0:=dL) (sc0:=ar cR) rfl rfl (by decide +kernel)) rfl (bn (K:=K) rfl (ay (aF (K:=K) rfl) (ac (i:=1) rfl (.inr (.inl rfl)) rfl rfl rfl) ag (fun _ _=>rfl))) (fun _ _ _ _ _=>(aG (i:=0) (ds':=[0,0,0]) (show (["sign", "sentence", "word"]:List Str).Nodup by decide +kernel) rfl (.inl rfl) rfl (by decide) (by decide) (.inr rfl))) (fun _ _ _ _ _=>bI) (fun _ _ _ _ _=>(bL cW (cX (K:=K) rfl PySem.F.slot_str_count PySem.F.type_str_count tf vb (ac (i:=2) rfl (.inr (.inl rfl)) rfl rfl rfl) (aa (ac (i:=0) rfl (.inl rfl) rfl rfl rfl) ae rfl) rfl rfl rfl rfl rfl rfl) (ay (aF (K:=K) rfl) (ac (i:=1) rfl (.inr (.inl rfl)) rfl rfl rfl) ag (fun _ _=>rfl)) (aB _))) rfl rfl (by decide) rfl (fun _=>rfl)) (by decide)) ae rfl) rfl (by decide) rfl rfl rfl) rfl)) ax)
  (ah (aA (ds2:=[0,0,0,0,0]) (az (aV (K:=K) rfl hr.units) (ac (i:=3) rfl (.inl rfl) rfl rfl rfl) ao (aB _)) (aj (am (aw (dJ (K:=K) rfl rfl) rfl T.all0 (by decide +kernel) (aa (ak (d':=0) (cu (cd:=3) (d:=3) (dsi:=[0,0]) (lk:=[]) (BlkOkC.of (ns:=["one", "other"]) (js:=[none,none]) (N0:=dL) (sc0:=ar cR) rfl rfl (by decide +kernel)) rfl (tX rfl T.zip0 (aa (ac (i:=2) rfl (.inr (.inl rfl)) rfl rfl rfl) (aa (ak (d':=0) (bw kz (ac (i:=2) rfl (.inr (.inl rfl)) rfl rfl rfl) (bJ ag) bK) (by decide)) ae rfl) rfl) rfl rfl) (fun _ _ _ _ _=>(iG (K:=K) rfl rfl (cD (aG (i:=0) (ds':=[0,0]) (show (["one", "other"]:List Str).Nodup by decide +kernel) rfl (.inl rfl) rfl (by decide) (by decide) (.inr rfl)) (cD (aG (i:=1) (ds':=[0,0]) (show (["one", "other"]:List Str).Nodup by decide +kernel) rfl (.inl rfl) rfl (by decide) (by decide) (.inr rfl)) gU rfl) rfl) kY rfl rfl)) (fun _ _ _ _ _=>bI) (fun _ _ _ _ _=>(bL (dZ (K:=K) rfl hr.units) (ac (i:=0) rfl (.inl rfl) rfl rfl rfl) (ac (i:=1) rfl (.inl rfl) rfl rfl rfl) (aB _))) rfl rfl (by decide) rfl (fun _=>rfl)) (by decide)) ae rfl) rfl (by decide) rfl rfl rfl) rfl)) ax)
  (ah (aA (ds2:=[0,0,0,0,0]) (az (aV (K:=K) rfl hr.units) (ac (i:=3) rfl (.inl rfl) rfl rfl rfl) ao (aB _)) (aj (am (bL tQ (ay (aF (K:=K) rfl) (ac (i:=1) rfl (.inr (.inl rfl)) rfl rfl rfl) ag (fun _ _=>rfl)) (ac (i:=2) rfl (.inr (.inl rfl)) rfl rfl rfl) (by with_unfolding_all rfl)) rfl)) ax)
  (ah (aA (ds2:=[0,0,0,0,0]) (az (aV (K:=K) rfl hr.units) (ac (i:=3) rfl (.inl rfl) rfl rfl rfl) ao (aB _)) (aj (am (cX (K:=K) rfl PySem.F.slot_str_startswith PySem.F.type_str_startswith s0 tU (ac (i:=2) rfl (.inr (.inl rfl)) rfl rfl rfl) (aa (ay (aF (K:=K) rfl) (ac (i:=1) rfl (.inr (.inl rfl)) rfl rfl rfl) ag (fun _ _=>rfl)) ae rfl) rfl rfl rfl rfl rfl rfl) rfl)) ax)
  (aj (am (cX (K:=K) rfl PySem.F.slot_str_endswith PySem.F.type_str_endswith BD B6 (ac (i:=2) rfl (.inr (.inl rfl)) rfl rfl rfl) (aa (ay (aF (K:=K) rfl) (ac (i:=1) rfl (.inr (.inl rfl)) rfl rfl rfl) ag (fun _ _=>rfl)) ae rfl) rfl rfl rfl rfl rfl rfl) rfl)))))))))
abbrev qc:Stmt:=top 38
abbrev uq:List Str:=["tongue", "sentence", "word", "head"]
theorem scholds:FnScope uq ["tongue", "sentence", "word"] (ar qc):=⟨rfl,rfl,rfl,by decide +kernel,rfl,by decide +kernel,by decide +kernel⟩
def fN (self:List D→Option (D × En)):MS:=(ap (aH 3 (e2 ixA (af 1) (eC (.int 0))))
 (ap (sIf (tV (e2 eqD (af 3) (eC (.str "not")))) (aC (iY (aq self (ad (af 0) (ad (e2 ixA (af 1) (eC (.int 1))) (ad (af 2) ai)))))) aM)
 (ap (sIf (tV (e2 eqD (af 3) (eC (.str "both")))) (aC (cB (aq self (ad (af 0) (ad (e2 ixA (af 1) (eC (.int 1))) (ad (af 2) ai)))) (aq self (ad (af 0) (ad (e2 ixA (af 1) (eC (.int 2))) (ad (af 2) ai)))))) aM)
 (ap (sIf (tV (e2 eqD (af 3) (eC (.str "either")))) (aC (eOr (aq self (ad (af 0) (ad (e2 ixA (af 1) (eC (.int 1))) (ad (af 2) ai)))) (aq self (ad (af 0) (ad (e2 ixA (af 1) (eC (.int 2))) (ad (af 2) ai)))))) aM)
 (aC (aq bo (ad (af 0) (ad (af 1) (ad (af 2) ai)))))))))
def aU:Nat→List D→Option (D × En)
 | 0=>fun _=>none
 | j+1=>fnF 1 [0,0,0] (fN (aU j))
theorem hG {k:Nat} (T:Bl mg)  {self:List D→Option (D × En)} (o8:Kn P w K mg base k "holds_simple" ["tongue", "sentence", "word"] (spF K [0,0,0] 3 bo)) (bB:Kn P w K mg base k "holds" ["tongue", "sentence", "word"] (spF K [0,0,0] 3 self)) (F:Fun K "holds" "holds" qc f fd):FnOk P w K mg base CX0 (k+1) f fd ["tongue", "sentence", "word"] (spF K [0,0,0] 3 (fnF 1 [0,0,0] (fN self))):=by
 have nd:=scholds.nd
 refine F.okQ (N:=uq) (b:=fN self) (J:=⟨[],[0,0,0,0],3,[]⟩) (ds0:=[0,0,0,0]) scholds rfl rfl rfl rfl fun cdv A outer s H E hr=>?_
 exact (ah (au (i:=3) (d:=0) (ds':=[0,0,0,0]) nd rfl (.inl rfl) (ay (aF (K:=K) rfl) (ac (i:=1) rfl (.inl rfl) rfl rfl rfl) ag (fun _ _=>rfl)) rfl (by decide) (by decide) rfl (.inl rfl))
  (ah (aA (ds2:=[0,0,0,0]) (az (aV (K:=K) rfl hr.units) (ac (i:=3) rfl (.inl rfl) rfl rfl rfl) ao (aB _)) (aj (am (jI (av bB hr rfl (aa (ac (i:=0) rfl (.inl rfl) rfl rfl rfl) (aa (ay (aF (K:=K) rfl) (ac (i:=1) rfl (.inl rfl) rfl rfl rfl) ag (fun _ _=>rfl)) (aa (ac (i:=2) rfl (.inl rfl) rfl rfl rfl) ae rfl) rfl) rfl) rfl rfl rfl rfl rfl)) rfl)) ax)
  (ah (aA (ds2:=[0,0,0,0]) (az (aV (K:=K) rfl hr.units) (ac (i:=3) rfl (.inl rfl) rfl rfl rfl) ao (aB _)) (aj (am (bM (av bB hr rfl (aa (ac (i:=0) rfl (.inl rfl) rfl rfl rfl) (aa (ay (aF (K:=K) rfl) (ac (i:=1) rfl (.inl rfl) rfl rfl rfl) ag (fun _ _=>rfl)) (aa (ac (i:=2) rfl (.inl rfl) rfl rfl rfl) ae rfl) rfl) rfl) rfl rfl rfl rfl rfl) (bu (av bB hr rfl (aa (ac (i:=0) rfl (.inl rfl) rfl rfl rfl) (aa (ay (aF (K:=K) rfl) (ac (i:=1) rfl (.inl rfl) rfl rfl rfl) ag (fun _ _=>rfl)) (aa (ac (i:=2) rfl (.inl rfl) rfl rfl rfl) ae rfl) rfl) rfl) rfl rfl rfl rfl rfl))) rfl)) ax)
  (ah (aA (ds2:=[0,0,0,0]) (az (aV (K:=K) rfl hr.units) (ac (i:=3) rfl (.inl rfl) rfl rfl rfl) ao (aB _)) (aj (am (kZ (av bB hr rfl (aa (ac (i:=0) rfl (.inl rfl) rfl rfl rfl) (aa (ay (aF (K:=K) rfl) (ac (i:=1) rfl (.inl rfl) rfl rfl rfl) ag (fun _ _=>rfl)) (aa (ac (i:=2) rfl (.inl rfl) rfl rfl rfl) ae rfl) rfl) rfl) rfl rfl rfl rfl rfl) (bu (av bB hr rfl (aa (ac (i:=0) rfl (.inl rfl) rfl rfl rfl) (aa (ay (aF (K:=K) rfl) (ac (i:=1) rfl (.inl rfl) rfl rfl rfl) ag (fun _ _=>rfl)) (aa (ac (i:=2) rfl (.inl rfl) rfl rfl rfl) ae rfl) rfl) rfl) rfl rfl rfl rfl rfl))) rfl)) ax)
  (aj (am (av o8 hr rfl (aa (ac (i:=0) rfl (.inl rfl) rfl rfl rfl) (aa (ac (i:=1) rfl (.inl rfl) rfl rfl rfl) (aa (ac (i:=2) rfl (.inl rfl) rfl rfl rfl) ae rfl) rfl) rfl) rfl rfl rfl rfl rfl) rfl))))))
abbrev gI:Stmt:=top 42
abbrev j7:List Str:=["signs", "most", "product", "sign"]
theorem scoften_weight:FnScope j7 ["signs", "most"] (ar gI):=⟨rfl,rfl,rfl,by decide +kernel,rfl,by decide +kernel,by decide +kernel⟩
def iO:MS:=(aH 2 (e2 dg (af 2) (e2 bA (af 1) (eC (.int 1)))))
def gO:MS:=(ap (aH 2 (eC (.int 1)))
 (ap (eg (bX (af 0)) (gN 3) iO)
 (aC (e2 bA (af 2) (eC (.int 1))))))
def cS:List D→Option (D × En):=fnF 2 [0,0] gO
theorem ny {k:Nat} (T:Bl mg)   (F:Fun K "often_weight" "often_weight" gI f fd):FnOk P w K mg base CX0 (k+1) f fd ["signs", "most"] (spF K [0,0] 3 cS):=by
 have nd:=scoften_weight.nd
 refine F.okQ (N:=j7) (b:=gO) (J:=⟨[],[0,0,0,0],3,[]⟩) (ds0:=[0,0,0,0]) scoften_weight rfl rfl rfl rfl fun cdv A outer s H E hr=>?_
 exact (ah (au (i:=2) (d:=0) (ds':=[0,0,0,0]) nd rfl (.inl rfl) (ak (d':=0) ag (by decide)) rfl (by decide) (by decide) rfl (.inl rfl))
  (ah (cn (ds1:=[0,0,0,0]) rfl (bn (K:=K) rfl (ac (i:=0) rfl (.inl rfl) rfl rfl rfl)) (aG (i:=3) (ds':=[0,0,0,0]) nd rfl (.inl rfl) rfl (by decide) (by decide) (.inl rfl)) (aj (au (i:=2) (d:=0) (ds':=[0,0,0,0]) nd rfl (.inl rfl) (ak (d':=0) (aD fA (ac (i:=2) rfl (.inl rfl) rfl rfl rfl) (aD bm (ac (i:=1) rfl (.inl rfl) rfl rfl rfl) ag)) (by decide)) rfl (by decide) (by decide) rfl (.inl rfl))) PassesOwn.never (fun _=>rfl))
  (aj (am (aD bm (ac (i:=2) rfl (.inl rfl) rfl rfl rfl) ag) rfl))))
abbrev fZ:Stmt:=top 41
abbrev jn:List Str:=["tongue", "sentence", "head"]
theorem sc_simple_weight:FnScope jn ["tongue", "sentence"] (ar fZ):=⟨rfl,rfl,rfl,by decide +kernel,rfl,by decide +kernel,by decide +kernel⟩
def bH:MS:=(ap (aH 2 (e2 ixA (af 1) (eC (.int 0))))
 (ap (sIf (tV (e2 eqD (af 2) (eC (.str "long")))) (aC (eIf (tV (e2 isN (e2 ixA (af 1) (eC (.int 2))) (eC .none))) (e2 bA (e2 ixA (af 1) (eC (.int 1))) (eC (.int 1))) (e2 bA (e2 ixA (af 1) (eC (.int 2))) (eC (.int 2))))) aM)
 (ap (sIf (tV (e2 eqD (af 2) (eC (.str "least")))) (aC (e2 bA (e2 ixA (af 1) (eC (.int 2))) (eC (.int 1)))) aM)
 (ap (sIf (tV (e2 eqD (af 2) (eC (.str "often")))) (aC (aq cS (ad (e2 ixA (af 1) (eC (.int 1))) (ad (e2 ixA (af 1) (eC (.int 2))) ai)))) aM)
 (ap (sIf (tV (e2 eqD (af 2) (eC (.str "apart")))) (aC (e2 bA (eN ba (ad (aq cE (ad (af 0) ai)) ai)) (eC (.int 2)))) aM)
 (ap (sIf (tV (e2 eqD (af 2) (eC (.str "begins")))) (aC (e2 bA (eN ba (ad (e2 ixA (af 1) (eC (.int 1))) ai)) (eC (.int 2)))) aM)
 (aC (e2 bA (eN ba (ad (e2 ixA (af 1) (eC (.int 1))) ai)) (eC (.int 1))))))))))
def bg:List D→Option (D × En):=fnF 1 [0,0] bH
theorem mD {k:Nat} (T:Bl mg)  (oZ:Kn P w K mg base k "often_weight" ["signs", "most"] (spF K [0,0] 3 cS)) (gx:Kn P w K mg base k "signs_of" ["tongue"] (spF K [0] 3 cE)) (F:Fun K "simple_weight" "simple_weight" fZ f fd):FnOk P w K mg base CX0 (k+1) f fd ["tongue", "sentence"] (spF K [0,0] 3 bg):=by
 have nd:=sc_simple_weight.nd
 refine F.okQ (N:=jn) (b:=bH) (J:=⟨[],[0,0,0],3,[]⟩) (ds0:=[0,0,0]) sc_simple_weight rfl rfl rfl rfl fun cdv A outer s H E hr=>?_
 exact (ah (au (i:=2) (d:=0) (ds':=[0,0,0]) nd rfl (.inl rfl) (ay (aF (K:=K) rfl) (ac (i:=1) rfl (.inl rfl) rfl rfl rfl) ag (fun _ _=>rfl)) rfl (by decide) (by decide) rfl (.inl rfl))
  (ah (aA (ds2:=[0,0,0]) (az (aV (K:=K) rfl hr.units) (ac (i:=2) rfl (.inl rfl) rfl rfl rfl) ao (aB _)) (aj (am (Cg (az pU (ay (aF (K:=K) rfl) (ac (i:=1) rfl (.inl rfl) rfl rfl rfl) ag (fun _ _=>rfl)) fV (aB _)) (aD bm (ay (aF (K:=K) rfl) (ac (i:=1) rfl (.inl rfl) rfl rfl rfl) ag (fun _ _=>rfl)) ag) (aD bm (ay (aF (K:=K) rfl) (ac (i:=1) rfl (.inl rfl) rfl rfl rfl) ag (fun _ _=>rfl)) ag)) rfl)) ax)
  (ah (aA (ds2:=[0,0,0]) (az (aV (K:=K) rfl hr.units) (ac (i:=2) rfl (.inl rfl) rfl rfl rfl) ao (aB _)) (aj (am (aD bm (ay (aF (K:=K) rfl) (ac (i:=1) rfl (.inl rfl) rfl rfl rfl) ag (fun _ _=>rfl)) ag) rfl)) ax)
  (ah (aA (ds2:=[0,0,0]) (az (aV (K:=K) rfl hr.units) (ac (i:=2) rfl (.inl rfl) rfl rfl rfl) ao (aB _)) (aj (am (av oZ hr rfl (aa (ay (aF (K:=K) rfl) (ac (i:=1) rfl (.inl rfl) rfl rfl rfl) ag (fun _ _=>rfl)) (aa (ay (aF (K:=K) rfl) (ac (i:=1) rfl (.inl rfl) rfl rfl rfl) ag (fun _ _=>rfl)) ae rfl) rfl) rfl rfl rfl rfl rfl) rfl)) ax)
  (ah (aA (ds2:=[0,0,0]) (az (aV (K:=K) rfl hr.units) (ac (i:=2) rfl (.inl rfl) rfl rfl rfl) ao (aB _)) (aj (am (aD bm (aw (aT (K:=K) rfl) rfl T.len0 (by decide +kernel) (aa (ak (d':=0) (av gx hr rfl (aa (ac (i:=0) rfl (.inl rfl) rfl rfl rfl) ae rfl) rfl rfl rfl rfl rfl) (by decide)) ae rfl) rfl (by decide) rfl rfl rfl) ag) rfl)) ax)
  (ah (aA (ds2:=[0,0,0]) (az (aV (K:=K) rfl hr.units) (ac (i:=2) rfl (.inl rfl) rfl rfl rfl) ao (aB _)) (aj (am (aD bm (aw (aT (K:=K) rfl) rfl T.len0 (by decide +kernel) (aa (ay (aF (K:=K) rfl) (ac (i:=1) rfl (.inl rfl) rfl rfl rfl) ag (fun _ _=>rfl)) ae rfl) rfl (by decide) rfl rfl rfl) ag) rfl)) ax)
  (aj (am (aD bm (aw (aT (K:=K) rfl) rfl T.len0 (by decide +kernel) (aa (ay (aF (K:=K) rfl) (ac (i:=1) rfl (.inl rfl) rfl rfl rfl) ag (fun _ _=>rfl)) ae rfl) rfl (by decide) rfl rfl rfl) ag) rfl))))))))
abbrev nT:Stmt:=top 40
abbrev rf:List Str:=["tongue", "sentence", "head"]
theorem scweight:FnScope rf ["tongue", "sentence"] (ar nT):=⟨rfl,rfl,rfl,by decide +kernel,rfl,by decide +kernel,by decide +kernel⟩
def eJ (self:List D→Option (D × En)):MS:=(ap (aH 2 (e2 ixA (af 1) (eC (.int 0))))
 (ap (sIf (tV (e2 eqD (af 2) (eC (.str "not")))) (aC (aq self (ad (af 0) (ad (e2 ixA (af 1) (eC (.int 1))) ai)))) aM)
 (ap (sIf (bOr (tV (e2 eqD (af 2) (eC (.str "both")))) (tV (e2 eqD (af 2) (eC (.str "either"))))) (aC (e2 dg (aq self (ad (af 0) (ad (e2 ixA (af 1) (eC (.int 1))) ai))) (aq self (ad (af 0) (ad (e2 ixA (af 1) (eC (.int 2))) ai))))) aM)
 (aC (aq bg (ad (af 0) (ad (af 1) ai)))))))
def bE:Nat→List D→Option (D × En)
 | 0=>fun _=>none
 | j+1=>fnF 1 [0,0] (eJ (bE j))
theorem fR {k:Nat} (T:Bl mg)  {self:List D→Option (D × En)} (nU:Kn P w K mg base k "simple_weight" ["tongue", "sentence"] (spF K [0,0] 3 bg)) (cI:Kn P w K mg base k "weight" ["tongue", "sentence"] (spF K [0,0] 3 self)) (F:Fun K "weight" "weight" nT f fd):FnOk P w K mg base CX0 (k+1) f fd ["tongue", "sentence"] (spF K [0,0] 3 (fnF 1 [0,0] (eJ self))):=by
 have nd:=scweight.nd
 refine F.okQ (N:=rf) (b:=eJ self) (J:=⟨[],[0,0,0],3,[]⟩) (ds0:=[0,0,0]) scweight rfl rfl rfl rfl fun cdv A outer s H E hr=>?_
 exact (ah (au (i:=2) (d:=0) (ds':=[0,0,0]) nd rfl (.inl rfl) (ay (aF (K:=K) rfl) (ac (i:=1) rfl (.inl rfl) rfl rfl rfl) ag (fun _ _=>rfl)) rfl (by decide) (by decide) rfl (.inl rfl))
  (ah (aA (ds2:=[0,0,0]) (az (aV (K:=K) rfl hr.units) (ac (i:=2) rfl (.inl rfl) rfl rfl rfl) ao (aB _)) (aj (am (av cI hr rfl (aa (ac (i:=0) rfl (.inl rfl) rfl rfl rfl) (aa (ay (aF (K:=K) rfl) (ac (i:=1) rfl (.inl rfl) rfl rfl rfl) ag (fun _ _=>rfl)) ae rfl) rfl) rfl rfl rfl rfl rfl) rfl)) ax)
  (ah (aA (ds2:=[0,0,0]) (qpt (bY (az (aV (K:=K) rfl hr.units) (ac (i:=2) rfl (.inl rfl) rfl rfl rfl) ao (aB _)) (cw (az (aV (K:=K) rfl hr.units) (ac (i:=2) rfl (.inl rfl) rfl rfl rfl) ao (aB _))))) (aj (am (aD fA (av cI hr rfl (aa (ac (i:=0) rfl (.inl rfl) rfl rfl rfl) (aa (ay (aF (K:=K) rfl) (ac (i:=1) rfl (.inl rfl) rfl rfl rfl) ag (fun _ _=>rfl)) ae rfl) rfl) rfl rfl rfl rfl rfl) (av cI hr rfl (aa (ac (i:=0) rfl (.inl rfl) rfl rfl rfl) (aa (ay (aF (K:=K) rfl) (ac (i:=1) rfl (.inl rfl) rfl rfl rfl) ag (fun _ _=>rfl)) ae rfl) rfl) rfl rfl rfl rfl rfl)) rfl)) ax)
  (aj (am (av nU hr rfl (aa (ac (i:=0) rfl (.inl rfl) rfl rfl rfl) (aa (ac (i:=1) rfl (.inl rfl) rfl rfl rfl) ae rfl) rfl) rfl rfl rfl rfl rfl) rfl)))))
abbrev lX:Stmt:=top 45
abbrev qh:List Str:=["tongue", "sentences", "number", "sentence"]
theorem scrule_of:FnScope qh ["tongue", "sentences"] (ar lX):=⟨rfl,rfl,rfl,by decide +kernel,rfl,by decide +kernel,by decide +kernel⟩
def nh:MS:=(sIf (cb (tV (aq bG (ad (af 0) (ad (af 3) ai))))) ia aM)
def ma:MS:=(ap (sIf (cb (tV (aq cZ (ad (af 0) ai)))) ia aM)
 (ap (sIf (bOr (cb (tV (e1 (aW "list") (af 1)))) (tV (e2 gtI (eN ba (ad (af 1) ai)) (eC (.int 8))))) ia aM)
 (ap (eg (kw (ad (af 1) ai)) (gT (gsC (gN 2) (gsC (gN 3) gs0))) nh)
 (aC (aP (ad (af 0) (ad (eN ly (ad (af 1) ai)) ai)))))))
def dG:List D→Option (D × En):=fnF 2 [0,0] ma
theorem sT {k:Nat} (T:Bl mg) {eP:Tok} (fc:mg "MOST_SENTENCES"=some (.int 8 eP)) (jX:Kn P w K mg base k "is_tongue" ["thing"] (spF K [0] 3 cZ)) (cO:Kn P w K mg base k "is_sentence" ["tongue", "thing"] (spF K [0,0] 3 bG)) (F:Fun K "rule_of" "rule_of" lX f fd):FnOk P w K mg base CX0 (k+1) f fd ["tongue", "sentences"] (spF K [0,0] 0 dG):=by
 have nd:=scrule_of.nd
 refine F.okQ (N:=qh) (b:=ma) (J:=⟨[],[0,0,0,0],0,[]⟩) (ds0:=[0,0,0,0]) scrule_of rfl rfl rfl rfl fun cdv A outer s H E hr=>?_
 exact (ah (aA (ds2:=[0,0,0,0]) (bc (aS (av jX hr rfl (aa (ac (i:=0) rfl (.inl rfl) rfl rfl rfl) ae rfl) rfl rfl rfl rfl rfl) (fun _=>rfl))) (aj iX) ax)
  (ah (aA (ds2:=[0,0,0,0]) (qpt (bY (bc (aS (cM (K:=K) (n:="list") rfl rfl T.isinstance0 rfl T.list0 (by decide +kernel) (by decide) (ac (i:=1) rfl (.inl rfl) rfl rfl rfl) (by decide) rfl rfl rfl rfl) (fun _=>rfl))) (cw (az mV (aw (aT (K:=K) rfl) rfl T.len0 (by decide +kernel) (aa (ac (i:=1) rfl (.inl rfl) rfl rfl rfl) ae rfl) rfl (by decide) rfl rfl rfl) (bp rfl fc rfl) (aB _))))) (aj iX) ax)
  (ah (cn (ds1:=[0,0,0,0]) rfl (tY (K:=K) rfl rfl T.enumerate0 (aa (ac (i:=1) rfl (.inl rfl) rfl rfl rfl) ae rfl) rfl) (iG (K:=K) rfl rfl (cD (aG (i:=2) (ds':=[0,0,0,0]) nd rfl (.inl rfl) rfl (by decide) (by decide) (.inl rfl)) (cD (aG (i:=3) (ds':=[0,0,0,0]) nd rfl (.inl rfl) rfl (by decide) (by decide) (.inl rfl)) gU rfl) rfl) kY rfl rfl) (aj (aA (ds2:=[0,0,0,0]) (bc (aS (av cO hr rfl (aa (ac (i:=0) rfl (.inl rfl) rfl rfl rfl) (aa (ac (i:=3) rfl (.inl rfl) rfl rfl rfl) ae rfl) rfl) rfl rfl rfl rfl rfl) (fun _=>rfl))) (aj iX) ax)) PassesOwn.never (fun _=>rfl))
  (aj (am (aE (d:=0) (c:=0) (aa (ac (i:=0) rfl (.inl rfl) rfl rfl rfl) (aa (dN (jH (K:=K) rfl) rfl T.tuple0 (by decide +kernel) (aa (ac (i:=1) rfl (.inl rfl) rfl rfl rfl) ae rfl) rfl (by decide) rfl rfl rfl) ae rfl) rfl) rfl rfl) rfl)))))
abbrev jQ:Stmt:=top 46
abbrev l4:List Str:=["thing"]
theorem scis_rule:FnScope l4 ["thing"] (ar jQ):=⟨rfl,rfl,rfl,by decide +kernel,rfl,by decide +kernel,by decide +kernel⟩
def np:ME:=(aq bG (ad (e2 ixA (af 1) (eC (.int 0))) (ad (af 0) ai)))
def mh:MS:=(ap (sIf (bOr (cb (tV (e1 (aW "tuple") (af 0)))) (bOr (tV (e2 neD (eN ba (ad (af 0) ai)) (eC (.int 2)))) (cb (tV (aq cZ (ad (e2 ixA (af 0) (eC (.int 0))) ai)))))) (aC (eC (.bool false))) aM)
 (ap (sIf (bOr (cb (tV (e1 (aW "tuple") (e2 ixA (af 0) (eC (.int 1)))))) (tV (e2 gtI (eN ba (ad (e2 ixA (af 0) (eC (.int 1))) ai)) (eC (.int 8))))) (aC (eC (.bool false))) aM)
 (aC (eN dE (ad (eLC true (bX (e2 ixA (af 0) (eC (.int 1)))) (gN 0) cY np [none,some 0]) ai)))))
def gg:List D→Option (D × En):=fnF 0 [0] mh
theorem sW {k:Nat} (T:Bl mg) {eP:Tok} (fc:mg "MOST_SENTENCES"=some (.int 8 eP)) (jX:Kn P w K mg base k "is_tongue" ["thing"] (spF K [0] 3 cZ)) (cO:Kn P w K mg base k "is_sentence" ["tongue", "thing"] (spF K [0,0] 3 bG)) (F:Fun K "is_rule" "is_rule" jQ f fd):FnOk P w K mg base CX0 (k+1) f fd ["thing"] (spF K [0] 3 gg):=by
 have nd:=scis_rule.nd
 refine F.okQ (N:=l4) (b:=mh) (J:=⟨[],[0],3,[]⟩) (ds0:=[0]) scis_rule rfl rfl rfl rfl fun cdv A outer s H E hr=>?_
 exact (ah (aA (ds2:=[0]) (qpt (bY (bc (aS (cM (K:=K) (n:="tuple") rfl rfl T.isinstance0 rfl T.tuple0 (by decide +kernel) (by decide) (ac (i:=0) rfl (.inr (.inl rfl)) rfl rfl rfl) (by decide) rfl rfl rfl rfl) (fun _=>rfl))) (bY (az (dZ (K:=K) rfl hr.units) (aw (aT (K:=K) rfl) rfl T.len0 (by decide +kernel) (aa (ac (i:=0) rfl (.inr (.inl rfl)) rfl rfl rfl) ae rfl) rfl (by decide) rfl rfl rfl) ag (aB _)) (cw (bc (aS (av jX hr rfl (aa (ay (aF (K:=K) rfl) (ac (i:=0) rfl (.inr (.inl rfl)) rfl rfl rfl) ag (fun _ _=>rfl)) ae rfl) rfl rfl rfl rfl rfl) (fun _=>rfl))))))) (aj (am aX rfl)) ax)
  (ah (aA (ds2:=[0]) (qpt (bY (bc (aS (cM (K:=K) (n:="tuple") rfl rfl T.isinstance0 rfl T.tuple0 (by decide +kernel) (by decide) (ay (aF (K:=K) rfl) (ac (i:=0) rfl (.inr (.inl rfl)) rfl rfl rfl) ag (fun _ _=>rfl)) (by decide) rfl rfl rfl rfl) (fun _=>rfl))) (cw (az mV (aw (aT (K:=K) rfl) rfl T.len0 (by decide +kernel) (aa (ay (aF (K:=K) rfl) (ac (i:=0) rfl (.inr (.inl rfl)) rfl rfl rfl) ag (fun _ _=>rfl)) ae rfl) rfl (by decide) rfl rfl rfl) (bp rfl fc rfl) (aB _))))) (aj (am aX rfl)) ax)
  (aj (am (aw (dJ (K:=K) rfl rfl) rfl T.all0 (by decide +kernel) (aa (ak (d':=0) (cu (cd:=3) (d:=3) (dsi:=[0,0]) (lk:=[1]) (BlkOkC.of (ns:=["sentence", "thing"]) (js:=[none,some 0]) (N0:=l4) (sc0:=ar jQ) rfl rfl (by decide +kernel)) rfl (bn (K:=K) rfl (ay (aF (K:=K) rfl) (ac (i:=0) rfl (.inr (.inl rfl)) rfl rfl rfl) ag (fun _ _=>rfl))) (fun _ _ _ _ _=>(aG (i:=0) (ds':=[0,0]) (show (["sentence", "thing"]:List Str).Nodup by decide +kernel) rfl (.inl rfl) rfl (by decide) (by decide) (.inr rfl))) (fun _ _ _ _ _=>bI) (fun _ _ _ _ _=>(av cO hr rfl (aa (ay (aF (K:=K) rfl) (ac (i:=1) rfl (.inr (.inl rfl)) rfl rfl rfl) ag (fun _ _=>rfl)) (aa (ac (i:=0) rfl (.inl rfl) rfl rfl rfl) ae rfl) rfl) rfl rfl rfl rfl rfl)) rfl rfl (by decide) rfl (fun _=>rfl)) (by decide)) ae rfl) rfl (by decide) rfl rfl rfl) rfl))))
abbrev na:Stmt:=top 47
abbrev qi:List Str:=["rule", "word"]
theorem sckeeps:FnScope qi ["rule", "word"] (ar na):=⟨rfl,rfl,rfl,by decide +kernel,rfl,by decide +kernel,by decide +kernel⟩
def l9:ME:=(aq (aU 6) (ad (e2 ixA (af 1) (eC (.int 0))) (ad (af 0) (ad (af 2) ai))))
def qr:MS:=(aC (eN dE (ad (eLC true (bX (e2 ixA (af 0) (eC (.int 1)))) (gN 0) cY l9 [none,some 0,some 1]) ai)))
def fK:List D→Option (D × En):=fnF 0 [0,0] qr
theorem BA {k:Nat} (T:Bl mg)  (bB:Kn P w K mg base k "holds" ["tongue", "sentence", "word"] (spF K [0,0,0] 3 (aU 6))) (F:Fun K "keeps" "keeps" na f fd):FnOk P w K mg base CX0 (k+1) f fd ["rule", "word"] (spF K [0,0] 3 fK):=by
 have nd:=sckeeps.nd
 refine F.okQ (N:=qi) (b:=qr) (J:=⟨[],[0,0],3,[]⟩) (ds0:=[0,0]) sckeeps rfl rfl rfl rfl fun cdv A outer s H E hr=>?_
 exact (aj (am (aw (dJ (K:=K) rfl rfl) rfl T.all0 (by decide +kernel) (aa (ak (d':=0) (cu (cd:=3) (d:=3) (dsi:=[0,0,0]) (lk:=[1,2]) (BlkOkC.of (ns:=["sentence", "rule", "word"]) (js:=[none,some 0,some 1]) (N0:=qi) (sc0:=ar na) rfl rfl (by decide +kernel)) rfl (bn (K:=K) rfl (ay (aF (K:=K) rfl) (ac (i:=0) rfl (.inr (.inl rfl)) rfl rfl rfl) ag (fun _ _=>rfl))) (fun _ _ _ _ _=>(aG (i:=0) (ds':=[0,0,0]) (show (["sentence", "rule", "word"]:List Str).Nodup by decide +kernel) rfl (.inl rfl) rfl (by decide) (by decide) (.inr rfl))) (fun _ _ _ _ _=>bI) (fun _ _ _ _ _=>(av bB hr rfl (aa (ay (aF (K:=K) rfl) (ac (i:=1) rfl (.inr (.inl rfl)) rfl rfl rfl) ag (fun _ _=>rfl)) (aa (ac (i:=0) rfl (.inl rfl) rfl rfl rfl) (aa (ac (i:=2) rfl (.inr (.inl rfl)) rfl rfl rfl) ae rfl) rfl) rfl) rfl rfl rfl rfl rfl)) rfl rfl (by decide) rfl (fun _=>rfl)) (by decide)) ae rfl) rfl (by decide) rfl rfl rfl) rfl))
abbrev ik:Stmt:=top 48
abbrev kI:List Str:=["rule", "product", "sentence"]
theorem scrule_weight:FnScope kI ["rule"] (ar ik):=⟨rfl,rfl,rfl,by decide +kernel,rfl,by decide +kernel,by decide +kernel⟩
def jq:MS:=(aH 1 (e2 dg (af 1) (aq (bE 6) (ad (e2 ixA (af 0) (eC (.int 0))) (ad (af 2) ai)))))
def iu:MS:=(ap (aH 1 (eC (.int 1)))
 (ap (eg (bX (e2 ixA (af 0) (eC (.int 1)))) (gN 2) jq)
 (aC (af 1))))
def du:List D→Option (D × En):=fnF 2 [0] iu
theorem oR {k:Nat} (T:Bl mg)  (cI:Kn P w K mg base k "weight" ["tongue", "sentence"] (spF K [0,0] 3 (bE 6))) (F:Fun K "rule_weight" "rule_weight" ik f fd):FnOk P w K mg base CX0 (k+1) f fd ["rule"] (spF K [0] 0 du):=by
 have nd:=scrule_weight.nd
 refine F.okQ (N:=kI) (b:=iu) (J:=⟨[],[0,0,0],0,[]⟩) (ds0:=[0,0,0]) scrule_weight rfl rfl rfl rfl fun cdv A outer s H E hr=>?_
 exact (ah (au (i:=1) (d:=0) (ds':=[0,0,0]) nd rfl (.inl rfl) (ak (d':=0) ag (by decide)) rfl (by decide) (by decide) rfl (.inl rfl))
  (ah (cn (ds1:=[0,0,0]) rfl (bn (K:=K) rfl (ay (aF (K:=K) rfl) (ac (i:=0) rfl (.inl rfl) rfl rfl rfl) ag (fun _ _=>rfl))) (aG (i:=2) (ds':=[0,0,0]) nd rfl (.inl rfl) rfl (by decide) (by decide) (.inl rfl)) (aj (au (i:=1) (d:=0) (ds':=[0,0,0]) nd rfl (.inl rfl) (ak (d':=0) (aD fA (ac (i:=1) rfl (.inl rfl) rfl rfl rfl) (av cI hr rfl (aa (ay (aF (K:=K) rfl) (ac (i:=0) rfl (.inl rfl) rfl rfl rfl) ag (fun _ _=>rfl)) (aa (ac (i:=2) rfl (.inl rfl) rfl rfl rfl) ae rfl) rfl) rfl rfl rfl rfl rfl)) (by decide)) rfl (by decide) (by decide) rfl (.inl rfl))) PassesOwn.never (fun _=>rfl))
  (aj (am (ac (i:=1) rfl (.inl rfl) rfl rfl rfl) rfl))))
abbrev kH:Stmt:=top 50
abbrev oK:List Str:=["_law_script", "_law_k", "_law_cell"]
theorem sc_law_pen:FnScope oK ["_law_script", "_law_k"] (ar kH):=⟨rfl,rfl,rfl,by decide +kernel,rfl,by decide +kernel,by decide +kernel⟩
def dA:MS:=(ap (aH 2 (eC (.int 0)))
 (ap (sIf (tV (e2 gtI (eN ba (ad (af 0) ai)) (eC (.int 0)))) (aH 2 (e2 ixA (af 0) (e2 dh (af 1) (eN ba (ad (af 0) ai))))) aM)
 (ap (sIf (eR (tV (e2 ltI (af 1) (eN ba (ad (af 0) ai)))) (tV (e2 geI (eN lW (ad (af 2) ai)) (e2 pB (eC (.int 10)) (eC (.int 18)))))) (aC (cp (ad (eN lW (ad (af 2) ai)) (ad (eC (.int 0)) (ad (eC (.int 0)) ai))))) aM)
 (aC (cp (ad (eC (.int 0)) (ad (e2 bA (e2 dh (af 2) (eC (.int 999999937))) (e2 dg (eC (.int 70001)) (af 1))) (ad (eC (.int 0)) ai))))))))
def F_law_pen:List D→Option (D × En):=fnF 1 [0,0] dA
theorem rN {k:Nat} (T:Bl mg)   (F:Fun K "_law_pen" "_law_pen" kH f fd):FnOk P w K mg base CX0 (k+1) f fd ["_law_script", "_law_k"] (spF K [0,0] 3 F_law_pen):=by
 have nd:=sc_law_pen.nd
 refine F.okQ (N:=oK) (b:=dA) (J:=⟨[],[0,0,0],3,[]⟩) (ds0:=[0,0,0]) sc_law_pen rfl rfl rfl rfl fun cdv A outer s H E hr=>?_
 exact (ah (au (i:=2) (d:=0) (ds':=[0,0,0]) nd rfl (.inl rfl) (ak (d':=0) ag (by decide)) rfl (by decide) (by decide) rfl (.inl rfl))
  (ah (aA (ds2:=[0,0,0]) (az mV (aw (aT (K:=K) rfl) rfl T.len0 (by decide +kernel) (aa (ac (i:=0) rfl (.inl rfl) rfl rfl rfl) ae rfl) rfl (by decide) rfl rfl rfl) ag (aB _)) (aj (au (i:=2) (d:=0) (ds':=[0,0,0]) nd rfl (.inl rfl) (ay (aF (K:=K) rfl) (ac (i:=0) rfl (.inl rfl) rfl rfl rfl) (aD ii (ac (i:=1) rfl (.inl rfl) rfl rfl rfl) (aw (aT (K:=K) rfl) rfl T.len0 (by decide +kernel) (aa (ac (i:=0) rfl (.inl rfl) rfl rfl rfl) ae rfl) rfl (by decide) rfl rfl rfl)) (fun _ _=>rfl)) rfl (by decide) (by decide) rfl (.inl rfl))) ax)
  (ah (aA (ds2:=[0,0,0]) (qpt (ie (az GN (ac (i:=1) rfl (.inl rfl) rfl rfl rfl) (aw (aT (K:=K) rfl) rfl T.len0 (by decide +kernel) (aa (ac (i:=0) rfl (.inl rfl) rfl rfl rfl) ae rfl) rfl (by decide) rfl rfl rfl) (aB _)) (gp (az Bd (aw tT rfl T.abs0 (by decide +kernel) (aa (ac (i:=2) rfl (.inl rfl) rfl rfl rfl) ae rfl) rfl (by decide) rfl rfl rfl) (aD FH ag ag) (aB _))))) (aj (am (bQ (d:=3) (c:=3) (aa (aw tT rfl T.abs0 (by decide +kernel) (aa (ac (i:=2) rfl (.inl rfl) rfl rfl rfl) ae rfl) rfl (by decide) rfl rfl rfl) (aa ag (aa ag ae rfl) rfl) rfl) rfl rfl (by decide)) rfl)) ax)
  (aj (am (bQ (d:=3) (c:=3) (aa ag (aa (aD bm (aD ii (ac (i:=2) rfl (.inl rfl) rfl rfl rfl) ag) (aD fA ag (ac (i:=1) rfl (.inl rfl) rfl rfl rfl))) (aa ag ae rfl) rfl) rfl) rfl rfl (by decide)) rfl)))))
abbrev jS:Stmt:=top 51
abbrev ng:List Str:=["_law_pen_here", "_law_many", "_law_digit", "_law_number"]
theorem sc_law_draw:FnScope ng ["_law_pen_here", "_law_many"] (ar jS):=⟨rfl,rfl,rfl,by decide +kernel,rfl,by decide +kernel,by decide +kernel⟩
def eK:MS:=(ap (sIf (tV (e2 gtI (di 0 (eC (.int 0))) (eC (.int 0)))) (ap (aH 2 (e2 dh (di 0 (eC (.int 0))) (af 1)))
 (ap (gk 0 (eC (.int 0)) (e2 gl (di 0 (eC (.int 0))) (af 1)))
 (aC (af 2)))) aM)
 (ap (gk 0 (eC (.int 2)) (e2 bA (di 0 (eC (.int 2))) (eC (.int 1))))
 (ap (aH 3 (e2 dh (e2 bA (e2 bA (e2 dg (di 0 (eC (.int 1))) (eC (.int 48271))) (e2 dg (di 0 (eC (.int 2))) (eC (.int 39373)))) (eC (.int 11))) (eC (.int 2147483647))))
 (ap (aH 3 (e2 dh (e2 dg (af 3) (e2 bA (e2 dh (af 3) (eC (.int 65521))) (di 0 (eC (.int 2))))) (eC (.int 2147483629))))
 (aC (e2 dh (e2 gl (af 3) (eC (.int 64))) (af 1)))))))
def F_law_draw:List D→Option (D × En):=fnF 2 [1,0] eK
theorem qA {k:Nat} (T:Bl mg)   (F:Fun K "_law_draw" "_law_draw" jS f fd):FnOk P w K mg base CX0 (k+1) f fd ["_law_pen_here", "_law_many"] (spF K [1,0] 0 F_law_draw):=by
 have nd:=sc_law_draw.nd
 refine F.okQ (N:=ng) (b:=eK) (J:=⟨[0],[1,0,0,0],0,[]⟩) (ds0:=[1,0,0,0]) sc_law_draw rfl rfl rfl rfl fun cdv A outer s H E hr=>?_
 exact (ah (aA (ds2:=[1,0,0,0]) (az mV (ff (K:=K) (i:=0) rfl rfl (.inl rfl) rfl ag (fun _ _=>rfl) rfl rfl) ag (aB _)) (ah (au (i:=2) (d:=0) (ds':=[1,0,0,0]) nd rfl (.inl rfl) (ak (d':=0) (aD ii (ff (K:=K) (i:=0) rfl rfl (.inl rfl) rfl ag (fun _ _=>rfl) rfl rfl) (ac (i:=1) rfl (.inl rfl) rfl rfl rfl)) (by decide)) rfl (by decide) (by decide) rfl (.inl rfl))
  (ah (mU (i:=0) (d:=1) (c:=0) rfl (.inl rfl) (ak (d':=0) (aD nL (ff (K:=K) (i:=0) rfl rfl (.inl rfl) rfl ag (fun _ _=>rfl) rfl rfl) (ac (i:=1) rfl (.inl rfl) rfl rfl rfl)) (by decide)) ag rfl (by decide) rfl rfl rfl (fun _=>rfl) rfl rfl rfl)
  (aj (am (ac (i:=2) rfl (.inl rfl) rfl rfl rfl) rfl)))) ax)
  (ah (mU (i:=0) (d:=1) (c:=0) rfl (.inl rfl) (ak (d':=0) (aD bm (ff (K:=K) (i:=0) rfl rfl (.inl rfl) rfl ag (fun _ _=>rfl) rfl rfl) ag) (by decide)) ag rfl (by decide) rfl rfl rfl (fun _=>rfl) rfl rfl rfl)
  (ah (au (i:=3) (d:=0) (ds':=[1,0,0,0]) nd rfl (.inl rfl) (ak (d':=0) (aD ii (aD bm (aD bm (aD fA (ff (K:=K) (i:=0) rfl rfl (.inl rfl) rfl ag (fun _ _=>rfl) rfl rfl) ag) (aD fA (ff (K:=K) (i:=0) rfl rfl (.inl rfl) rfl ag (fun _ _=>rfl) rfl rfl) ag)) ag) ag) (by decide)) rfl (by decide) (by decide) rfl (.inl rfl))
  (ah (au (i:=3) (d:=0) (ds':=[1,0,0,0]) nd rfl (.inl rfl) (ak (d':=0) (aD ii (aD fA (ac (i:=3) rfl (.inl rfl) rfl rfl rfl) (aD bm (aD ii (ac (i:=3) rfl (.inl rfl) rfl rfl rfl) ag) (ff (K:=K) (i:=0) rfl rfl (.inl rfl) rfl ag (fun _ _=>rfl) rfl rfl))) ag) (by decide)) rfl (by decide) (by decide) rfl (.inl rfl))
  (aj (am (ak (d':=0) (aD ii (aD nL (ac (i:=3) rfl (.inl rfl) rfl rfl rfl) ag) (ac (i:=1) rfl (.inl rfl) rfl rfl rfl)) (by decide)) rfl))))))
abbrev fI:Stmt:=top 52
abbrev iq:List Str:=["_law_pen_here", "_law_text", "_law_left", "_law_many", "_law_signs", "_law_kinds", "_law_k", "_law_size"]
theorem sc_law_tongue:FnScope iq ["_law_pen_here"] (ar fI):=⟨rfl,rfl,rfl,by decide +kernel,rfl,by decide +kernel,by decide +kernel⟩
def nW:ME:=(fB 2 (aq F_law_draw (bh 1 (ad (eN ba (ad (af 2) ai)) ai))))
def jr:MS:=(ap (aH 7 (e2 bA (eC (.int 1)) (aq F_law_draw (bh 0 (ad (eN o9 (ad (eC (.int 6)) (ad (e2 h8 (eN ba (ad (af 4) ai)) (e2 h8 (e2 h8 (af 3) (eC (.int 1))) (af 6))) ai))) ai)))))
 (ap (ki (jL 5 (eM joinD (eC (.str "")) (ad (eSl fE (af 4) cz (cq (af 7))) ai))))
 (aH 4 (eSl fE (af 4) (cq (af 7)) cz))))
def ix:MS:=(ap (aH 1 (eC (.str "!\"#$&'()*+,-./0123456789:;<=>?@ABCDEFGHIJKLMNOPQRSTUVWXYZ")))
 (ap (aH 2 (eN jE (ad (e2 bA (af 1) (eC (.str "[\\]^_`abcdefghijklmnopqrstuvwxyz{|}~"))) ai)))
 (ap (aH 3 (e2 bA (eC (.int 1)) (aq F_law_draw (bh 0 (ad (eC (.int 4)) ai)))))
 (ap (aH 4 (eLC false (dI (ad (eC (.int 12)) ai)) (gN 0) cY nW [none,some 0,some 2]))
 (ap (aH 5 (cp ai))
 (ap (eg (dI (ad (af 3) ai)) (gN 6) jr)
 (aC (eN ly (ad (af 5) ai)))))))))
def dw:List D→Option (D × En):=fnF 7 [1] ix
theorem oT {k:Nat} (T:Bl mg)  (aN:Kn P w K mg base k "_law_draw" ["_law_pen_here", "_law_many"] (spF K [1,0] 0 F_law_draw)) (F:Fun K "_law_tongue" "_law_tongue" fI f fd):FnOk P w K mg base CX0 (k+1) f fd ["_law_pen_here"] (spF K [1] 0 dw):=by
 have nd:=sc_law_tongue.nd
 refine F.okQ (N:=iq) (b:=ix) (J:=⟨[0],[1,0,0,0,0,0,0,0],0,[]⟩) (ds0:=[1,0,0,0,0,0,0,0]) sc_law_tongue rfl rfl rfl rfl fun cdv A outer s H E hr=>?_
 exact (ah (au (i:=1) (d:=0) (ds':=[1,0,0,0,0,0,0,0]) nd rfl (.inl rfl) (ak (d':=0) ao (by decide)) rfl (by decide) (by decide) rfl (.inl rfl))
  (ah (au (i:=2) (d:=1) (ds':=[1,0,1,0,0,0,0,0]) nd rfl (.inr rfl) (dN (qX (K:=K) rfl rfl) rfl T.list0 (by decide +kernel) (aa (ak (d':=0) (aD bm (ac (i:=1) rfl (.inl rfl) rfl rfl rfl) ao) (by decide)) ae rfl) rfl (by decide) rfl rfl rfl) rfl (by decide) (by decide) rfl (.inl rfl))
  (ah (au (i:=3) (d:=0) (ds':=[1,0,1,0,0,0,0,0]) nd rfl (.inl rfl) (ak (d':=0) (aD bm ag (aO aN hr rfl (aK (i:=0) rfl (.inr (.inl rfl)) (aa (ak (d':=0) ag (by decide)) ae rfl) rfl rfl) rfl rfl rfl rfl)) (by decide)) rfl (by decide) (by decide) rfl (.inl rfl))
  (ah (gu (ds1:=[1,0,1,0,0,0,0,0]) (eW (i:=4) (ds':=[1,0,1,0,1,0,0,0]) (cd:=0) (d:=1) (dsi:=[0,1,1]) (lk:=[1,2]) nd rfl rfl (BlkOkC.of (ns:=["_law_k", "_law_pen_here", "_law_left"]) (js:=[none,some 0,some 2]) (N0:=iq) (sc0:=ar fI) rfl rfl (by decide +kernel)) rfl (dz rfl T.range0 (aa (ak (d':=0) ag (by decide)) ae rfl) rfl) (fun _ _ _ _ _=>(aG (i:=0) (ds':=[0,1,1]) (show (["_law_k", "_law_pen_here", "_law_left"]:List Str).Nodup by decide +kernel) rfl (.inl rfl) rfl (by decide) (by decide) (.inr rfl))) (fun _ _ _ _ _=>bI) (fun _ _ _ _ _=>(mX (K:=K) (i:=2) (d:=1) rfl rfl (.inr (.inl rfl)) rfl (aO aN hr rfl (aK (i:=1) rfl (.inr (.inl rfl)) (aa (ak (d':=0) (lO (ds0:=[0,1,0]) (aw (aT (K:=K) rfl) rfl T.len0 (by decide +kernel) (aa (ac (i:=2) rfl (.inr (.inl rfl)) rfl rfl rfl) ae rfl) rfl (by decide) rfl rfl rfl) rfl) (by decide)) ae rfl) rfl rfl) rfl rfl rfl rfl) (by decide) rfl rfl rfl rfl rfl rfl rfl rfl)) rfl rfl rfl (by decide) rfl (by decide) (by decide) rfl (fun _=>rfl)) rfl)
  (ah (au (i:=5) (d:=1) (ds':=[1,0,1,0,0,1,0,0]) nd rfl (.inl rfl) (ak (d':=1) (bQ (d:=3) (c:=3) ae rfl rfl (by decide)) (by decide)) rfl (by decide) (by decide) rfl (.inl rfl))
  (ah (cn (ds1:=[1,0,1,0,0,1,0,0]) rfl (dz rfl T.range0 (aa (ac (i:=3) rfl (.inl rfl) rfl rfl rfl) ae rfl) rfl) (aG (i:=6) (ds':=[1,0,1,0,0,1,0,0]) nd rfl (.inl rfl) rfl (by decide) (by decide) (.inl rfl)) (ah (au (i:=7) (d:=0) (ds':=[1,0,1,0,0,1,0,0]) nd rfl (.inl rfl) (ak (d':=0) (aD bm ag (aO aN hr rfl (aK (i:=0) rfl (.inr (.inl rfl)) (aa (ak (d':=0) (aw (qW rfl) rfl T.min0 (by decide +kernel) (aa (ak (d':=0) ag (by decide)) (aa (ak (d':=0) (aD ji (aw (aT (K:=K) rfl) rfl T.len0 (by decide +kernel) (aa (ac (i:=4) rfl (.inl rfl) rfl rfl rfl) ae rfl) rfl (by decide) rfl rfl rfl) (aD ji (aD ji (ac (i:=3) rfl (.inl rfl) rfl rfl rfl) ag) (ac (i:=6) rfl (.inl rfl) rfl rfl rfl))) (by decide)) ae rfl) rfl) rfl (by decide) rfl rfl rfl) (by decide)) ae rfl) rfl rfl) rfl rfl rfl rfl)) (by decide)) rfl (by decide) (by decide) rfl (.inl rfl))
  (ah (ky (lP (K:=K) (i:=5) (d:=1) rfl rfl (.inl rfl) rfl (ak (d':=0) (cX (K:=K) rfl PySem.F.slot_str_join PySem.F.type_str_join (hR rfl) hV ao (aa (ak (d':=0) (bw (eE (K:=K) rfl) (ac (i:=4) rfl (.inl rfl) rfl rfl rfl) bK (bJ (ac (i:=7) rfl (.inl rfl) rfl rfl rfl))) (by decide)) ae rfl) rfl rfl rfl rfl rfl rfl) (by decide)) (by decide) rfl rfl rfl rfl rfl rfl rfl rfl) rfl)
  (aj (au (i:=4) (d:=0) (ds':=[1,0,1,0,0,1,0,0]) nd rfl (.inl rfl) (ak (d':=0) (bw (eE (K:=K) rfl) (ac (i:=4) rfl (.inl rfl) rfl rfl rfl) (bJ (ac (i:=7) rfl (.inl rfl) rfl rfl rfl)) bK) (by decide)) rfl (by decide) (by decide) rfl (.inl rfl))))) PassesOwn.never (fun _=>rfl))
  (aj (am (dN (jH (K:=K) rfl) rfl T.tuple0 (by decide +kernel) (aa (qY (ds0:=[1,0,1,0,0,0,0,0]) (ac (p:=false) (i:=5) rfl (.inl rfl) rfl rfl rfl) rfl) ae rfl) rfl (by decide) rfl rfl rfl) rfl))))))))
abbrev gn:Stmt:=top 53
abbrev i7:List Str:=["_law_pen_here", "_law_signs", "_law_many"]
theorem sc_law_sized:FnScope i7 ["_law_pen_here", "_law_signs", "_law_many"] (ar gn):=⟨rfl,rfl,rfl,by decide +kernel,rfl,by decide +kernel,by decide +kernel⟩
def ka:ME:=(e2 ixT (af 2) (aq F_law_draw (bh 1 (ad (eN ba (ad (af 2) ai)) ai))))
def jb:MS:=(aC (eM joinD (eC (.str "")) (ad (eLC false (dI (ad (af 2) ai)) (gN 0) cY ka [none,some 0,some 1]) ai)))
def bU:List D→Option (D × En):=fnF 0 [1,0,0] jb
theorem pG {k:Nat} (T:Bl mg)  (aN:Kn P w K mg base k "_law_draw" ["_law_pen_here", "_law_many"] (spF K [1,0] 0 F_law_draw)) (F:Fun K "_law_sized" "_law_sized" gn f fd):FnOk P w K mg base CX0 (k+1) f fd ["_law_pen_here", "_law_signs", "_law_many"] (spF K [1,0,0] 3 bU):=by
 have nd:=sc_law_sized.nd
 refine F.okQ (N:=i7) (b:=jb) (J:=⟨[0],[1,0,0],3,[]⟩) (ds0:=[1,0,0]) sc_law_sized rfl rfl rfl rfl fun cdv A outer s H E hr=>?_
 exact (aj (am (cX (K:=K) rfl PySem.F.slot_str_join PySem.F.type_str_join (hR rfl) hV ao (aa (ak (d':=0) (pV (cd:=3) (d:=3) (dsi:=[0,1,0]) (lk:=[1,2]) (BlkOkC.of (ns:=["_law_k", "_law_pen_here", "_law_signs"]) (js:=[none,some 0,some 1]) (N0:=i7) (sc0:=ar gn) rfl rfl (by decide +kernel)) rfl (dz rfl T.range0 (aa (ac (i:=2) rfl (.inl rfl) rfl rfl rfl) ae rfl) rfl) (fun _ _ _ _ _=>(aG (i:=0) (ds':=[0,1,0]) (show (["_law_k", "_law_pen_here", "_law_signs"]:List Str).Nodup by decide +kernel) rfl (.inl rfl) rfl (by decide) (by decide) (.inr rfl))) (fun _ _ _ _ _=>bI) (fun _ _ _ _ _=>(ay tR (ac (i:=2) rfl (.inr (.inl rfl)) rfl rfl rfl) (aO aN hr rfl (aK (i:=1) rfl (.inr (.inl rfl)) (aa (ak (d':=0) (aw (aT (K:=K) rfl) rfl T.len0 (by decide +kernel) (aa (ac (i:=2) rfl (.inr (.inl rfl)) rfl rfl rfl) ae rfl) rfl (by decide) rfl rfl rfl) (by decide)) ae rfl) rfl rfl) rfl rfl rfl rfl) (fun _ _=>rfl))) rfl rfl (by decide) rfl (fun _=>rfl)) (by decide)) ae rfl) rfl rfl rfl rfl rfl rfl) rfl))
abbrev hC:Stmt:=top 54
abbrev jV:List Str:=["_law_pen_here", "_law_signs", "_law_most", "_law_left", "_law_many"]
theorem sc_law_some:FnScope jV ["_law_pen_here", "_law_signs", "_law_most"] (ar hC):=⟨rfl,rfl,rfl,by decide +kernel,rfl,by decide +kernel,by decide +kernel⟩
def qp:ME:=(fB 2 (aq F_law_draw (bh 1 (ad (eN ba (ad (af 2) ai)) ai))))
def j6:MS:=(ap (aH 3 (eN jE (ad (af 1) ai)))
 (ap (aH 4 (e2 bA (eC (.int 1)) (aq F_law_draw (bh 0 (ad (eN o9 (ad (af 2) (ad (eN ba (ad (af 3) ai)) ai))) ai)))))
 (aC (eM joinD (eC (.str "")) (ad (eLC false (dI (ad (af 4) ai)) (gN 0) cY qp [none,some 0,some 3]) ai)))))
def c9:List D→Option (D × En):=fnF 2 [1,0,0] j6
theorem qz {k:Nat} (T:Bl mg)  (aN:Kn P w K mg base k "_law_draw" ["_law_pen_here", "_law_many"] (spF K [1,0] 0 F_law_draw)) (F:Fun K "_law_some" "_law_some" hC f fd):FnOk P w K mg base CX0 (k+1) f fd ["_law_pen_here", "_law_signs", "_law_most"] (spF K [1,0,0] 3 c9):=by
 have nd:=sc_law_some.nd
 refine F.okQ (N:=jV) (b:=j6) (J:=⟨[0],[1,0,0,0,0],3,[]⟩) (ds0:=[1,0,0,0,0]) sc_law_some rfl rfl rfl rfl fun cdv A outer s H E hr=>?_
 exact (ah (au (i:=3) (d:=1) (ds':=[1,0,0,1,0]) nd rfl (.inr rfl) (dN (qX (K:=K) rfl rfl) rfl T.list0 (by decide +kernel) (aa (ac (i:=1) rfl (.inl rfl) rfl rfl rfl) ae rfl) rfl (by decide) rfl rfl rfl) rfl (by decide) (by decide) rfl (.inl rfl))
  (ah (au (i:=4) (d:=0) (ds':=[1,0,0,1,0]) nd rfl (.inl rfl) (ak (d':=0) (aD bm ag (aO aN hr rfl (aK (i:=0) rfl (.inr (.inl rfl)) (aa (ak (d':=0) (lO (ds0:=[1,0,0,0,0]) (aw (qW rfl) rfl T.min0 (by decide +kernel) (aa (ac (i:=2) rfl (.inl rfl) rfl rfl rfl) (aa (ak (d':=0) (aw (aT (K:=K) rfl) rfl T.len0 (by decide +kernel) (aa (ac (i:=3) rfl (.inr (.inl rfl)) rfl rfl rfl) ae rfl) rfl (by decide) rfl rfl rfl) (by decide)) ae rfl) rfl) rfl (by decide) rfl rfl rfl) rfl) (by decide)) ae rfl) rfl rfl) rfl rfl rfl rfl)) (by decide)) rfl (by decide) (by decide) rfl (.inl rfl))
  (aj (am (cX (K:=K) rfl PySem.F.slot_str_join PySem.F.type_str_join (hR rfl) hV ao (aa (ak (d':=0) (pV (cd:=0) (d:=1) (dsi:=[0,1,1]) (lk:=[1,2]) (BlkOkC.of (ns:=["_law_k", "_law_pen_here", "_law_left"]) (js:=[none,some 0,some 3]) (N0:=jV) (sc0:=ar hC) rfl rfl (by decide +kernel)) rfl (dz rfl T.range0 (aa (ac (i:=4) rfl (.inl rfl) rfl rfl rfl) ae rfl) rfl) (fun _ _ _ _ _=>(aG (i:=0) (ds':=[0,1,1]) (show (["_law_k", "_law_pen_here", "_law_left"]:List Str).Nodup by decide +kernel) rfl (.inl rfl) rfl (by decide) (by decide) (.inr rfl))) (fun _ _ _ _ _=>bI) (fun _ _ _ _ _=>(mX (K:=K) (i:=2) (d:=1) rfl rfl (.inr (.inl rfl)) rfl (aO aN hr rfl (aK (i:=1) rfl (.inr (.inl rfl)) (aa (ak (d':=0) (lO (ds0:=[0,1,0]) (aw (aT (K:=K) rfl) rfl T.len0 (by decide +kernel) (aa (ac (i:=2) rfl (.inr (.inl rfl)) rfl rfl rfl) ae rfl) rfl (by decide) rfl rfl rfl) rfl) (by decide)) ae rfl) rfl rfl) rfl rfl rfl rfl) (by decide) rfl rfl rfl rfl rfl rfl rfl rfl)) rfl rfl (by decide) rfl (fun _=>rfl)) (by decide)) ae rfl) rfl rfl rfl rfl rfl rfl) rfl))))
abbrev gf:Stmt:=top 55
abbrev jp:List Str:=["_law_pen_here", "_law_tongue_here", "_law_signs", "_law_way", "_law_low"]
theorem sc_law_sentence:FnScope jp ["_law_pen_here", "_law_tongue_here", "_law_signs"] (ar gf):=⟨rfl,rfl,rfl,by decide +kernel,rfl,by decide +kernel,by decide +kernel⟩
def gj:MS:=(ap (aH 3 (aq F_law_draw (bh 0 (ad (eC (.int 8)) ai))))
 (ap (aH 4 (aq F_law_draw (bh 0 (ad (eC (.int 4)) ai))))
 (ap (sIf (tV (e2 eqD (af 3) (eC (.int 0)))) (aC (aP (ad (eC (.str "long")) (ad (af 4) (ad (e2 ixA (cp (ad (eC .none) (ad (e2 bA (af 4) (aq F_law_draw (bh 0 (ad (eC (.int 6)) ai)))) ai))) (aq F_law_draw (bh 0 (ad (eC (.int 2)) ai)))) ai))))) aM)
 (ap (sIf (tV (e2 eqD (af 3) (eC (.int 1)))) (aC (aP (ad (eC (.str "least")) (ad (aq F_law_draw (bh 0 (ad (eN ba (ad (af 1) ai)) ai))) (ad (af 4) ai))))) aM)
 (ap (sIf (tV (e2 eqD (af 3) (eC (.int 2)))) (aC (aP (ad (eC (.str "often")) (ad (aq c9 (bh 0 (ad (af 2) (ad (eC (.int 3)) ai)))) (ad (af 4) ai))))) aM)
 (ap (sIf (tV (e2 eqD (af 3) (eC (.int 3)))) (aC (aP (ad (eC (.str "apart")) ai))) aM)
 (ap (sIf (tV (e2 eqD (af 3) (eC (.int 7)))) (aC (aP (ad (eC (.str "not")) (ad (aP (ad (e2 ixA (cp (ad (eC (.str "begins")) (ad (eC (.str "ends")) (ad (eC (.str "without")) ai)))) (aq F_law_draw (bh 0 (ad (eC (.int 3)) ai)))) (ad (aq bU (bh 0 (ad (af 2) (ad (eC (.int 1)) ai)))) ai))) ai)))) aM)
 (aC (aP (ad (e2 ixA (cp (ad (eC (.str "without")) (ad (eC (.str "begins")) (ad (eC (.str "ends")) ai)))) (e2 h8 (af 3) (eC (.int 4)))) (ad (aq bU (bh 0 (ad (af 2) (ad (e2 bA (eC (.int 1)) (aq F_law_draw (bh 0 (ad (eC (.int 2)) ai)))) ai)))) ai)))))))))))
def cJ:List D→Option (D × En):=fnF 2 [1,0,0] gj
theorem mE {k:Nat} (T:Bl mg)  (aN:Kn P w K mg base k "_law_draw" ["_law_pen_here", "_law_many"] (spF K [1,0] 0 F_law_draw)) (dO:Kn P w K mg base k "_law_sized" ["_law_pen_here", "_law_signs", "_law_many"] (spF K [1,0,0] 3 bU)) (jZ:Kn P w K mg base k "_law_some" ["_law_pen_here", "_law_signs", "_law_most"] (spF K [1,0,0] 3 c9)) (F:Fun K "_law_sentence" "_law_sentence" gf f fd):FnOk P w K mg base CX0 (k+1) f fd ["_law_pen_here", "_law_tongue_here", "_law_signs"] (spF K [1,0,0] 0 cJ):=by
 have nd:=sc_law_sentence.nd
 refine F.okQ (N:=jp) (b:=gj) (J:=⟨[0],[1,0,0,0,0],0,[]⟩) (ds0:=[1,0,0,0,0]) sc_law_sentence rfl rfl rfl rfl fun cdv A outer s H E hr=>?_
 exact (ah (au (i:=3) (d:=0) (ds':=[1,0,0,0,0]) nd rfl (.inl rfl) (aO aN hr rfl (aK (i:=0) rfl (.inl rfl) (aa (ak (d':=0) ag (by decide)) ae rfl) rfl rfl) rfl rfl rfl rfl) rfl (by decide) (by decide) rfl (.inl rfl))
  (ah (au (i:=4) (d:=0) (ds':=[1,0,0,0,0]) nd rfl (.inl rfl) (aO aN hr rfl (aK (i:=0) rfl (.inl rfl) (aa (ak (d':=0) ag (by decide)) ae rfl) rfl rfl) rfl rfl rfl rfl) rfl (by decide) (by decide) rfl (.inl rfl))
  (ah (aA (ds2:=[1,0,0,0,0]) (az (aV (K:=K) rfl hr.units) (ac (i:=3) rfl (.inl rfl) rfl rfl rfl) ag (aB _)) (aj (am (aE (d:=0) (c:=0) (aa ao (aa (ac (i:=4) rfl (.inl rfl) rfl rfl rfl) (aa (ay (aF (K:=K) rfl) (bQ (d:=3) (c:=3) (aa fV (aa (aD bm (ac (i:=4) rfl (.inl rfl) rfl rfl rfl) (aO aN hr rfl (aK (i:=0) rfl (.inl rfl) (aa (ak (d':=0) ag (by decide)) ae rfl) rfl rfl) rfl rfl rfl rfl)) ae rfl) rfl) rfl rfl (by decide)) (aO aN hr rfl (aK (i:=0) rfl (.inl rfl) (aa (ak (d':=0) ag (by decide)) ae rfl) rfl rfl) rfl rfl rfl rfl) (fun _ _=>rfl)) ae rfl) rfl) rfl) rfl rfl) rfl)) ax)
  (ah (aA (ds2:=[1,0,0,0,0]) (az (aV (K:=K) rfl hr.units) (ac (i:=3) rfl (.inl rfl) rfl rfl rfl) ag (aB _)) (aj (am (aE (d:=0) (c:=0) (aa ao (aa (aO aN hr rfl (aK (i:=0) rfl (.inl rfl) (aa (ak (d':=0) (aw (aT (K:=K) rfl) rfl T.len0 (by decide +kernel) (aa (ac (i:=1) rfl (.inl rfl) rfl rfl rfl) ae rfl) rfl (by decide) rfl rfl rfl) (by decide)) ae rfl) rfl rfl) rfl rfl rfl rfl) (aa (ac (i:=4) rfl (.inl rfl) rfl rfl rfl) ae rfl) rfl) rfl) rfl rfl) rfl)) ax)
  (ah (aA (ds2:=[1,0,0,0,0]) (az (aV (K:=K) rfl hr.units) (ac (i:=3) rfl (.inl rfl) rfl rfl rfl) ag (aB _)) (aj (am (aE (d:=0) (c:=0) (aa ao (aa (aO jZ hr rfl (aK (i:=0) rfl (.inl rfl) (aa (ac (i:=2) rfl (.inl rfl) rfl rfl rfl) (aa (ak (d':=0) ag (by decide)) ae rfl) rfl) rfl rfl) rfl rfl rfl rfl) (aa (ac (i:=4) rfl (.inl rfl) rfl rfl rfl) ae rfl) rfl) rfl) rfl rfl) rfl)) ax)
  (ah (aA (ds2:=[1,0,0,0,0]) (az (aV (K:=K) rfl hr.units) (ac (i:=3) rfl (.inl rfl) rfl rfl rfl) ag (aB _)) (aj (am (ak (d':=0) (aE (d:=3) (c:=3) (aa ao ae rfl) rfl rfl) (by decide)) rfl)) ax)
  (ah (aA (ds2:=[1,0,0,0,0]) (az (aV (K:=K) rfl hr.units) (ac (i:=3) rfl (.inl rfl) rfl rfl rfl) ag (aB _)) (aj (am (aE (d:=0) (c:=0) (aa ao (aa (aE (d:=0) (c:=0) (aa (ay (aF (K:=K) rfl) (bQ (d:=3) (c:=3) (aa ao (aa ao (aa ao ae rfl) rfl) rfl) rfl rfl (by decide)) (aO aN hr rfl (aK (i:=0) rfl (.inl rfl) (aa (ak (d':=0) ag (by decide)) ae rfl) rfl rfl) rfl rfl rfl rfl) (fun _ _=>rfl)) (aa (aO dO hr rfl (aK (i:=0) rfl (.inl rfl) (aa (ac (i:=2) rfl (.inl rfl) rfl rfl rfl) (aa (ak (d':=0) ag (by decide)) ae rfl) rfl) rfl rfl) rfl rfl rfl rfl) ae rfl) rfl) rfl rfl) ae rfl) rfl) rfl rfl) rfl)) ax)
  (aj (am (aE (d:=0) (c:=0) (aa (ay (aF (K:=K) rfl) (bQ (d:=3) (c:=3) (aa ao (aa ao (aa ao ae rfl) rfl) rfl) rfl rfl (by decide)) (aD ji (ac (i:=3) rfl (.inl rfl) rfl rfl rfl) ag) (fun _ _=>rfl)) (aa (aO dO hr rfl (aK (i:=0) rfl (.inl rfl) (aa (ac (i:=2) rfl (.inl rfl) rfl rfl rfl) (aa (ak (d':=0) (aD bm ag (aO aN hr rfl (aK (i:=0) rfl (.inl rfl) (aa (ak (d':=0) ag (by decide)) ae rfl) rfl rfl) rfl rfl rfl rfl)) (by decide)) ae rfl) rfl) rfl rfl) rfl rfl rfl rfl) ae rfl) rfl) rfl rfl) rfl)))))))))
abbrev dq:Stmt:=top 56
abbrev er:List Str:=["_law_sentences", "_law_some_here"]
theorem sc_law_pieces:FnScope er ["_law_sentences"] (ar dq):=⟨rfl,rfl,rfl,by decide +kernel,rfl,by decide +kernel,by decide +kernel⟩
def fY:MT:=(tV (e2 eqD (eN ba (ad (af 0) ai)) (eC (.int 2))))
def jw:ME:=(af 0)
def jl:MT:=(tV (e1 (aW "str") (e2 ixA (af 0) (eC (.int 1)))))
def jv:ME:=(e2 ixA (af 0) (eC (.int 1)))
def fX:MT:=(tV (e2 eqD (e2 ixA (af 0) (eC (.int 0))) (eC (.str "not"))))
def ju:ME:=(e2 ixA (e2 ixA (af 0) (eC (.int 1))) (eC (.int 1)))
def iy:MS:=(ap (aH 1 (eLC true (bX (af 0)) (gN 0) fY jw [none]))
 (aC (e2 jN (eLC true (bX (af 1)) (gN 0) jl jv [none]) (eLC true (bX (af 1)) (gN 0) fX ju [none]))))
def dy:List D→Option (D × En):=fnF 1 [0] iy
theorem oU {k:Nat} (T:Bl mg)   (F:Fun K "_law_pieces" "_law_pieces" dq f fd):FnOk P w K mg base CX0 (k+1) f fd ["_law_sentences"] (spF K [0] 1 dy):=by
 have nd:=sc_law_pieces.nd
 refine F.okQ (N:=er) (b:=iy) (J:=⟨[],[0,0],1,[]⟩) (ds0:=[0,0]) sc_law_pieces rfl rfl rfl rfl fun cdv A outer s H E hr=>?_
 exact (ah (gu (ds1:=[0,0]) (eW (i:=1) (ds':=[0,1]) (cd:=0) (d:=1) (dsi:=[0]) (lk:=[]) nd rfl rfl (BlkOkC.of (ns:=["_law_one"]) (js:=[none]) (N0:=er) (sc0:=ar dq) rfl rfl (by decide +kernel)) rfl (bn (K:=K) rfl (ac (i:=0) rfl (.inl rfl) rfl rfl rfl)) (fun _ _ _ _ _=>(aG (i:=0) (ds':=[0]) (show (["_law_one"]:List Str).Nodup by decide +kernel) rfl (.inl rfl) rfl (by decide) (by decide) (.inr rfl))) (fun _ _ _ _ _=>(gq (az (aV (K:=K) rfl hr.units) (aw (aT (K:=K) rfl) rfl T.len0 (by decide +kernel) (aa (ac (i:=0) rfl (.inl rfl) rfl rfl rfl) ae rfl) rfl (by decide) rfl rfl rfl) ag (aB _)))) (fun _ _ _ _ _=>(ac (i:=0) rfl (.inl rfl) rfl rfl rfl)) rfl rfl rfl (by decide) rfl (by decide) (by decide) rfl (fun _=>rfl)) rfl)
  (aj (am (aD (hU (K:=K) rfl) (cu (cd:=0) (d:=1) (dsi:=[0]) (lk:=[]) (BlkOkC.of (ns:=["_law_one"]) (js:=[none]) (N0:=er) (sc0:=ar dq) rfl rfl (by decide +kernel)) rfl (bn (K:=K) rfl (ac (i:=1) rfl (.inl rfl) rfl rfl rfl)) (fun _ _ _ _ _=>(aG (i:=0) (ds':=[0]) (show (["_law_one"]:List Str).Nodup by decide +kernel) rfl (.inl rfl) rfl (by decide) (by decide) (.inr rfl))) (fun _ _ _ _ _=>(gq (aS (cM (K:=K) (n:="str") rfl rfl T.isinstance0 rfl T.str0 (by decide +kernel) (by decide) (ay (aF (K:=K) rfl) (ac (i:=0) rfl (.inl rfl) rfl rfl rfl) ag (fun _ _=>rfl)) (by decide) rfl rfl rfl rfl) (fun _=>rfl)))) (fun _ _ _ _ _=>(ay (aF (K:=K) rfl) (ac (i:=0) rfl (.inl rfl) rfl rfl rfl) ag (fun _ _=>rfl))) rfl rfl (by decide) rfl (fun _=>rfl)) (cu (cd:=0) (d:=1) (dsi:=[0]) (lk:=[]) (BlkOkC.of (ns:=["_law_one"]) (js:=[none]) (N0:=er) (sc0:=ar dq) rfl rfl (by decide +kernel)) rfl (bn (K:=K) rfl (ac (i:=1) rfl (.inl rfl) rfl rfl rfl)) (fun _ _ _ _ _=>(aG (i:=0) (ds':=[0]) (show (["_law_one"]:List Str).Nodup by decide +kernel) rfl (.inl rfl) rfl (by decide) (by decide) (.inr rfl))) (fun _ _ _ _ _=>(gq (az (aV (K:=K) rfl hr.units) (ay (aF (K:=K) rfl) (ac (i:=0) rfl (.inl rfl) rfl rfl rfl) ag (fun _ _=>rfl)) ao (aB _)))) (fun _ _ _ _ _=>(ay (aF (K:=K) rfl) (ay (aF (K:=K) rfl) (ac (i:=0) rfl (.inl rfl) rfl rfl rfl) ag (fun _ _=>rfl)) ag (fun _ _=>rfl))) rfl rfl (by decide) rfl (fun _=>rfl))) rfl)))
abbrev i6:Stmt:=top 57
abbrev lw:List Str:=["_law_pen_here", "_law_signs", "_law_sentences", "_law_pieces_here", "_law_words_here", "_law_k", "_law_one", "_law_other", "_law_between"]
theorem sc_law_words:FnScope lw ["_law_pen_here", "_law_signs", "_law_sentences"] (ar i6):=⟨rfl,rfl,rfl,by decide +kernel,rfl,by decide +kernel,by decide +kernel⟩
def j9:MS:=(ap (aH 6 (e2 ixA (af 3) (aq F_law_draw (bh 0 (ad (eN ba (ad (af 3) ai)) ai)))))
 (ap (aH 7 (e2 ixA (af 3) (aq F_law_draw (bh 0 (ad (eN ba (ad (af 3) ai)) ai)))))
 (ap (aH 8 (aq bU (bh 0 (ad (af 1) (ad (aq F_law_draw (bh 0 (ad (eC (.int 6)) ai))) ai)))))
 (ap (aH 4 (e2 jN (af 4) (cp (ad (af 6) (ad (af 8) (ad (e2 bA (af 6) (af 8)) (ad (e2 bA (af 8) (af 6)) (ad (e2 bA (e2 bA (af 6) (af 8)) (af 7)) ai))))))))
 (ki (jL 4 (e2 bA (af 8) (eSl lT (af 8) (cq (e1 jB (eC (.int 1)))) cz))))))))
def ja:MS:=(ap (aH 3 (e2 jN (aq dy (ad (af 2) ai)) (cp (ad (eSl lT (af 1) cz (cq (eC (.int 1)))) (ad (eSl lT (af 1) (cq (e1 jB (eC (.int 1)))) cz) ai)))))
 (ap (aH 4 (cp (ad (eC (.str "")) (ad (af 1) (ad (e2 uO (e2 ixT (af 1) (eC (.int 0))) (eC (.int 4))) ai)))))
 (ap (eg (dI (ad (eC (.int 8)) ai)) (gN 5) j9)
 (aC (af 4)))))
def dP:List D→Option (D × En):=fnF 6 [1,0,0] ja
theorem pF {k:Nat} (T:Bl mg)  (qo:Kn P w K mg base k "_law_pieces" ["_law_sentences"] (spF K [0] 1 dy)) (dO:Kn P w K mg base k "_law_sized" ["_law_pen_here", "_law_signs", "_law_many"] (spF K [1,0,0] 3 bU)) (aN:Kn P w K mg base k "_law_draw" ["_law_pen_here", "_law_many"] (spF K [1,0] 0 F_law_draw)) (F:Fun K "_law_words" "_law_words" i6 f fd):FnOk P w K mg base CX0 (k+1) f fd ["_law_pen_here", "_law_signs", "_law_sentences"] (spF K [1,0,0] 0 dP):=by
 have nd:=sc_law_words.nd
 refine F.okQ (N:=lw) (b:=ja) (J:=⟨[0],[1,0,0,0,0,0,0,0,0],0,[]⟩) (ds0:=[1,0,0,0,0,0,0,0,0]) sc_law_words rfl rfl rfl rfl fun cdv A outer s H E hr=>?_
 exact (ah (au (i:=3) (d:=0) (ds':=[1,0,0,0,0,0,0,0,0]) nd rfl (.inl rfl) (ak (d':=0) (aD (hU (K:=K) rfl) (av qo hr rfl (aa (ac (i:=2) rfl (.inl rfl) rfl rfl rfl) ae rfl) rfl rfl rfl rfl rfl) (bQ (d:=3) (c:=3) (aa (bw kz (ac (i:=1) rfl (.inl rfl) rfl rfl rfl) bK (bJ ag)) (aa (bw kz (ac (i:=1) rfl (.inl rfl) rfl rfl rfl) (bJ (fU ig ag)) bK) ae rfl) rfl) rfl rfl (by decide))) (by decide)) rfl (by decide) (by decide) rfl (.inl rfl))
  (ah (au (i:=4) (d:=0) (ds':=[1,0,0,0,0,0,0,0,0]) nd rfl (.inl rfl) (ak (d':=0) (bQ (d:=1) (c:=0) (aa ao (aa (ac (i:=1) rfl (.inl rfl) rfl rfl rfl) (aa (aD B4 (ay tR (ac (i:=1) rfl (.inl rfl) rfl rfl rfl) ag (fun _ _=>rfl)) ag) ae rfl) rfl) rfl) rfl rfl (by decide)) (by decide)) rfl (by decide) (by decide) rfl (.inl rfl))
  (ah (cn (ds1:=[1,0,0,0,0,0,0,0,0]) rfl (dz rfl T.range0 (aa (ak (d':=0) ag (by decide)) ae rfl) rfl) (aG (i:=5) (ds':=[1,0,0,0,0,0,0,0,0]) nd rfl (.inl rfl) rfl (by decide) (by decide) (.inl rfl)) (oo (ds2:=[1,0,0,0,1,0,0,0,0]) (ah (au (i:=6) (d:=0) (ds':=[1,0,0,0,0,0,0,0,0]) nd rfl (.inl rfl) (ay (aF (K:=K) rfl) (ac (i:=3) rfl (.inl rfl) rfl rfl rfl) (aO aN hr rfl (aK (i:=0) rfl (.inl rfl) (aa (ak (d':=0) (aw (aT (K:=K) rfl) rfl T.len0 (by decide +kernel) (aa (ac (i:=3) rfl (.inl rfl) rfl rfl rfl) ae rfl) rfl (by decide) rfl rfl rfl) (by decide)) ae rfl) rfl rfl) rfl rfl rfl rfl) (fun _ _=>rfl)) rfl (by decide) (by decide) rfl (.inl rfl))
  (ah (au (i:=7) (d:=0) (ds':=[1,0,0,0,0,0,0,0,0]) nd rfl (.inl rfl) (ay (aF (K:=K) rfl) (ac (i:=3) rfl (.inl rfl) rfl rfl rfl) (aO aN hr rfl (aK (i:=0) rfl (.inl rfl) (aa (ak (d':=0) (aw (aT (K:=K) rfl) rfl T.len0 (by decide +kernel) (aa (ac (i:=3) rfl (.inl rfl) rfl rfl rfl) ae rfl) rfl (by decide) rfl rfl rfl) (by decide)) ae rfl) rfl rfl) rfl rfl rfl rfl) (fun _ _=>rfl)) rfl (by decide) (by decide) rfl (.inl rfl))
  (ah (au (i:=8) (d:=0) (ds':=[1,0,0,0,0,0,0,0,0]) nd rfl (.inl rfl) (ak (d':=0) (aO dO hr rfl (aK (i:=0) rfl (.inl rfl) (aa (ac (i:=1) rfl (.inl rfl) rfl rfl rfl) (aa (aO aN hr rfl (aK (i:=0) rfl (.inl rfl) (aa (ak (d':=0) ag (by decide)) ae rfl) rfl rfl) rfl rfl rfl rfl) ae rfl) rfl) rfl rfl) rfl rfl rfl rfl) (by decide)) rfl (by decide) (by decide) rfl (.inl rfl))
  (ah (au (i:=4) (d:=1) (ds':=[1,0,0,0,1,0,0,0,0]) nd rfl (.inl rfl) (aD (hU (K:=K) rfl) (ac (i:=4) rfl (.inl rfl) rfl rfl rfl) (bQ (d:=1) (c:=0) (aa (ac (i:=6) rfl (.inl rfl) rfl rfl rfl) (aa (ac (i:=8) rfl (.inl rfl) rfl rfl rfl) (aa (aD bm (ac (i:=6) rfl (.inl rfl) rfl rfl rfl) (ac (i:=8) rfl (.inl rfl) rfl rfl rfl)) (aa (aD bm (ac (i:=8) rfl (.inl rfl) rfl rfl rfl) (ac (i:=6) rfl (.inl rfl) rfl rfl rfl)) (aa (aD bm (aD bm (ac (i:=6) rfl (.inl rfl) rfl rfl rfl) (ac (i:=8) rfl (.inl rfl) rfl rfl rfl)) (ac (i:=7) rfl (.inl rfl) rfl rfl rfl)) ae rfl) rfl) rfl) rfl) rfl) rfl rfl (by decide))) rfl (by decide) (by decide) rfl (.inl rfl))
  (aj (ky (lP (K:=K) (i:=4) (d:=1) rfl rfl (.inl rfl) rfl (ak (d':=0) (aD bm (ac (i:=8) rfl (.inl rfl) rfl rfl rfl) (bw kz (ac (i:=8) rfl (.inl rfl) rfl rfl rfl) (bJ (fU ig ag)) bK)) (by decide)) (by decide) rfl rfl rfl rfl rfl rfl rfl rfl) rfl)))))) rfl) PassesOwn.never (fun _=>rfl))
  (aj (am (ac (i:=4) rfl (.inl rfl) rfl rfl rfl) rfl)))))
abbrev cN:Stmt:=top 58
abbrev dF:List Str:=["_law_tongue_here", "_law_sentences", "_law_word", "_law_truths", "_law_rules", "_law_k", "_law_fewer", "_law_kept"]
theorem sc_law_kept_right:FnScope dF ["_law_tongue_here", "_law_sentences", "_law_word"] (ar cN):=⟨rfl,rfl,rfl,by decide +kernel,rfl,by decide +kernel,by decide +kernel⟩
def gz:ME:=(aq (aU 6) (ad (af 1) (ad (af 0) (ad (af 2) ai))))
def em:MT:=(bOr (tV (e2 neD (aq fK (ad (af 0) (ad (af 1) ai))) (eN dE (ad (af 2) ai)))) (cb (tV (aq gg (ad (af 0) ai)))))
def kL:ME:=(af 0)
def gw:MS:=(ap (aH 6 (aq dG (ad (af 0) (ad (eSl fE (af 1) cz (cq (af 5))) ai))))
 (ap (aH 7 (aq fK (ad (af 6) (ad (af 2) ai))))
 (sIf (bOr (tV (e2 neD (af 7) (eN dE (ad (eSl fE (af 3) cz (cq (af 5))) ai)))) (eR (tV (eN dE (ad (af 3) ai))) (cb (tV (af 7))))) (aC (eC (.bool false))) aM)))
def fm:MS:=(ap (aH 3 (eLC true (bX (af 1)) (gN 0) cY gz [none,some 0,some 2]))
 (ap (aH 4 (cp (ad (aq dG (ad (af 0) (ad (af 1) ai))) (ad (aq dG (ad (af 0) (ad (e2 pA (af 1) (e1 jB (eC (.int 1)))) ai))) (ad (aq dG (ad (af 0) (ad (e2 jN (af 1) (eSl fE (af 1) cz (cq (eC (.int 1))))) ai))) ai)))))
 (ap (sIf (tV (e2 neD (eLC true (bX (af 4)) (gN 0) em kL [none,some 2,some 3]) (cp ai))) (aC (eC (.bool false))) aM)
 (ap (eg (dI (ad (eN ba (ad (af 1) ai)) ai)) (gN 5) gw)
 (aC (eC (.bool true)))))))
def cf:List D→Option (D × En):=fnF 5 [0,0,0] fm
theorem la {k:Nat} (T:Bl mg)  (bB:Kn P w K mg base k "holds" ["tongue", "sentence", "word"] (spF K [0,0,0] 3 (aU 6))) (jW:Kn P w K mg base k "rule_of" ["tongue", "sentences"] (spF K [0,0] 0 dG)) (ni:Kn P w K mg base k "keeps" ["rule", "word"] (spF K [0,0] 3 fK)) (vD:Kn P w K mg base k "is_rule" ["thing"] (spF K [0] 3 gg)) (F:Fun K "_law_kept_right" "_law_kept_right" cN f fd):FnOk P w K mg base CX0 (k+1) f fd ["_law_tongue_here", "_law_sentences", "_law_word"] (spF K [0,0,0] 3 cf):=by
 have nd:=sc_law_kept_right.nd
 refine F.okQ (N:=dF) (b:=fm) (J:=⟨[],[0,0,0,0,0,0,0,0],3,[]⟩) (ds0:=[0,0,0,0,0,0,0,0]) sc_law_kept_right rfl rfl rfl rfl fun cdv A outer s H E hr=>?_
 exact (ah (au (i:=3) (d:=0) (ds':=[0,0,0,0,0,0,0,0]) nd rfl (.inr rfl) (ak (d':=0) (cu (cd:=3) (d:=3) (dsi:=[0,0,0]) (lk:=[1,2]) (BlkOkC.of (ns:=["_law_one", "_law_tongue_here", "_law_word"]) (js:=[none,some 0,some 2]) (N0:=dF) (sc0:=ar cN) rfl rfl (by decide +kernel)) rfl (bn (K:=K) rfl (ac (i:=1) rfl (.inl rfl) rfl rfl rfl)) (fun _ _ _ _ _=>(aG (i:=0) (ds':=[0,0,0]) (show (["_law_one", "_law_tongue_here", "_law_word"]:List Str).Nodup by decide +kernel) rfl (.inl rfl) rfl (by decide) (by decide) (.inr rfl))) (fun _ _ _ _ _=>bI) (fun _ _ _ _ _=>(av bB hr rfl (aa (ac (i:=1) rfl (.inr (.inl rfl)) rfl rfl rfl) (aa (ac (i:=0) rfl (.inl rfl) rfl rfl rfl) (aa (ac (i:=2) rfl (.inr (.inl rfl)) rfl rfl rfl) ae rfl) rfl) rfl) rfl rfl rfl rfl rfl)) rfl rfl (by decide) rfl (fun _=>rfl)) (by decide)) rfl (by decide) (by decide) rfl (.inl rfl))
  (ah (au (i:=4) (d:=0) (ds':=[0,0,0,0,0,0,0,0]) nd rfl (.inl rfl) (ak (d':=0) (bQ (d:=1) (c:=0) (aa (av jW hr rfl (aa (ac (i:=0) rfl (.inr (.inl rfl)) rfl rfl rfl) (aa (ac (i:=1) rfl (.inl rfl) rfl rfl rfl) ae rfl) rfl) rfl rfl rfl rfl rfl) (aa (av jW hr rfl (aa (ac (i:=0) rfl (.inr (.inl rfl)) rfl rfl rfl) (aa (ak (d':=0) (t3 (K:=K) rfl (ac (i:=1) rfl (.inl rfl) rfl rfl rfl) (fU ig ag)) (by decide)) ae rfl) rfl) rfl rfl rfl rfl rfl) (aa (av jW hr rfl (aa (ac (i:=0) rfl (.inr (.inl rfl)) rfl rfl rfl) (aa (ak (d':=0) (aD (hU (K:=K) rfl) (ac (i:=1) rfl (.inl rfl) rfl rfl rfl) (bw (eE (K:=K) rfl) (ac (i:=1) rfl (.inl rfl) rfl rfl rfl) bK (bJ ag))) (by decide)) ae rfl) rfl) rfl rfl rfl rfl rfl) ae rfl) rfl) rfl) rfl rfl (by decide)) (by decide)) rfl (by decide) (by decide) rfl (.inl rfl))
  (ah (aA (ds2:=[0,0,0,0,0,0,0,0]) (az (dZ (K:=K) rfl hr.units) (cu (cd:=0) (d:=1) (dsi:=[0,0,0]) (lk:=[1,2]) (BlkOkC.of (ns:=["_law_one", "_law_word", "_law_truths"]) (js:=[none,some 2,some 3]) (N0:=dF) (sc0:=ar cN) rfl rfl (by decide +kernel)) rfl (bn (K:=K) rfl (ac (i:=4) rfl (.inl rfl) rfl rfl rfl)) (fun _ _ _ _ _=>(aG (i:=0) (ds':=[0,0,0]) (show (["_law_one", "_law_word", "_law_truths"]:List Str).Nodup by decide +kernel) rfl (.inl rfl) rfl (by decide) (by decide) (.inr rfl))) (fun _ _ _ _ _=>(gq (qpt (bY (az (dZ (K:=K) rfl hr.units) (av ni hr rfl (aa (ac (i:=0) rfl (.inl rfl) rfl rfl rfl) (aa (ac (i:=1) rfl (.inr (.inl rfl)) rfl rfl rfl) ae rfl) rfl) rfl rfl rfl rfl rfl) (aw (dJ (K:=K) rfl rfl) rfl T.all0 (by decide +kernel) (aa (ac (i:=2) rfl (.inr (.inl rfl)) rfl rfl rfl) ae rfl) rfl (by decide) rfl rfl rfl) (aB _)) (cw (bc (aS (av vD hr rfl (aa (ac (i:=0) rfl (.inl rfl) rfl rfl rfl) ae rfl) rfl rfl rfl rfl rfl) (fun _=>rfl)))))))) (fun _ _ _ _ _=>(ac (i:=0) rfl (.inl rfl) rfl rfl rfl)) rfl rfl (by decide) rfl (fun _=>rfl)) (bQ (d:=3) (c:=3) ae rfl rfl (by decide)) (aB _)) (aj (am aX rfl)) ax)
  (ah (cn (ds1:=[0,0,0,0,0,0,0,0]) rfl (dz rfl T.range0 (aa (ak (d':=0) (aw (aT (K:=K) rfl) rfl T.len0 (by decide +kernel) (aa (ac (i:=1) rfl (.inl rfl) rfl rfl rfl) ae rfl) rfl (by decide) rfl rfl rfl) (by decide)) ae rfl) rfl) (aG (i:=5) (ds':=[0,0,0,0,0,0,0,0]) nd rfl (.inl rfl) rfl (by decide) (by decide) (.inl rfl)) (ah (au (i:=6) (d:=0) (ds':=[0,0,0,0,0,0,0,0]) nd rfl (.inl rfl) (av jW hr rfl (aa (ac (i:=0) rfl (.inr (.inl rfl)) rfl rfl rfl) (aa (ak (d':=0) (bw (eE (K:=K) rfl) (ac (i:=1) rfl (.inl rfl) rfl rfl rfl) bK (bJ (ac (i:=5) rfl (.inl rfl) rfl rfl rfl))) (by decide)) ae rfl) rfl) rfl rfl rfl rfl rfl) rfl (by decide) (by decide) rfl (.inl rfl))
  (ah (au (i:=7) (d:=0) (ds':=[0,0,0,0,0,0,0,0]) nd rfl (.inl rfl) (ak (d':=0) (av ni hr rfl (aa (ac (i:=6) rfl (.inl rfl) rfl rfl rfl) (aa (ac (i:=2) rfl (.inr (.inl rfl)) rfl rfl rfl) ae rfl) rfl) rfl rfl rfl rfl rfl) (by decide)) rfl (by decide) (by decide) rfl (.inl rfl))
  (aj (aA (ds2:=[0,0,0,0,0,0,0,0]) (qpt (bY (az (dZ (K:=K) rfl hr.units) (ac (i:=7) rfl (.inl rfl) rfl rfl rfl) (aw (dJ (K:=K) rfl rfl) rfl T.all0 (by decide +kernel) (aa (ak (d':=0) (bw (eE (K:=K) rfl) (ac (i:=3) rfl (.inr (.inl rfl)) rfl rfl rfl) bK (bJ (ac (i:=5) rfl (.inl rfl) rfl rfl rfl))) (by decide)) ae rfl) rfl (by decide) rfl rfl rfl) (aB _)) (cw (qpt (ie (aS (aw (dJ (K:=K) rfl rfl) rfl T.all0 (by decide +kernel) (aa (ac (i:=3) rfl (.inr (.inl rfl)) rfl rfl rfl) ae rfl) rfl (by decide) rfl rfl rfl) (fun _=>rfl)) (gp (bc (aS (ac (i:=7) rfl (.inl rfl) rfl rfl rfl) (fun _=>rfl))))))))) (aj (am aX rfl)) ax)))) PassesOwn.never (fun _=>rfl))
  (aj (am aX rfl))))))
abbrev eS:Stmt:=top 59
abbrev gQ:List Str:=["_law_tongue_here", "_law_one", "_law_other", "_law_word", "_law_truths", "_law_twice", "_law_pairs", "_law_sentence_here", "_law_due"]
theorem sc_law_parts_right:FnScope gQ ["_law_tongue_here", "_law_one", "_law_other", "_law_word"] (ar eS):=⟨rfl,rfl,rfl,by decide +kernel,rfl,by decide +kernel,by decide +kernel⟩
def dR:MS:=(sIf (tV (e2 neD (aq (aU 6) (ad (af 0) (ad (af 7) (ad (af 3) ai)))) (af 8))) (aC (eC (.bool false))) aM)
def eT:MS:=(ap (aH 4 (cp (ad (aq (aU 6) (ad (af 0) (ad (af 1) (ad (af 3) ai)))) (ad (aq (aU 6) (ad (af 0) (ad (af 2) (ad (af 3) ai)))) ai))))
 (ap (aH 5 (aP (ad (eC (.str "not")) (ad (aP (ad (eC (.str "either")) (ad (aP (ad (eC (.str "not")) (ad (af 1) ai))) (ad (aP (ad (eC (.str "not")) (ad (af 2) ai))) ai)))) ai))))
 (ap (aH 6 (cp (ad (aP (ad (aP (ad (eC (.str "not")) (ad (af 1) ai))) (ad (iY (e2 ixA (af 4) (eC (.int 0)))) ai))) (ad (aP (ad (aP (ad (eC (.str "both")) (ad (af 1) (ad (af 2) ai)))) (ad (cB (e2 ixA (af 4) (eC (.int 0))) (e2 ixA (af 4) (eC (.int 1)))) ai))) ai))))
 (ap (aH 6 (e2 jN (af 6) (cp (ad (aP (ad (aP (ad (eC (.str "either")) (ad (af 1) (ad (af 2) ai)))) (ad (eOr (e2 ixA (af 4) (eC (.int 0))) (e2 ixA (af 4) (eC (.int 1)))) ai))) (ad (aP (ad (aP (ad (eC (.str "both")) (ad (af 2) (ad (af 1) ai)))) (ad (cB (e2 ixA (af 4) (eC (.int 0))) (e2 ixA (af 4) (eC (.int 1)))) ai))) ai)))))
 (ap (aH 6 (e2 jN (af 6) (cp (ad (aP (ad (aP (ad (eC (.str "either")) (ad (af 1) (ad (aP (ad (eC (.str "not")) (ad (af 1) ai))) ai)))) (ad (eC (.bool true)) ai))) (ad (aP (ad (aP (ad (eC (.str "both")) (ad (af 1) (ad (aP (ad (eC (.str "not")) (ad (af 1) ai))) ai)))) (ad (eC (.bool false)) ai))) ai)))))
 (ap (sIf (tV (aq bG (ad (af 0) (ad (af 5) ai)))) (ki (jL 6 (aP (ad (af 5) (ad (cB (e2 ixA (af 4) (eC (.int 0))) (e2 ixA (af 4) (eC (.int 1)))) ai))))) aM)
 (ap (eg (bX (af 6)) (gT (gsC (gN 7) (gsC (gN 8) gs0))) dR)
 (aC (eC (.bool true))))))))))
def bZ:List D→Option (D × En):=fnF 5 [0,0,0,0] eT
theorem ko {k:Nat} (T:Bl mg)  (cO:Kn P w K mg base k "is_sentence" ["tongue", "thing"] (spF K [0,0] 3 bG)) (bB:Kn P w K mg base k "holds" ["tongue", "sentence", "word"] (spF K [0,0,0] 3 (aU 6))) (F:Fun K "_law_parts_right" "_law_parts_right" eS f fd):FnOk P w K mg base CX0 (k+1) f fd ["_law_tongue_here", "_law_one", "_law_other", "_law_word"] (spF K [0,0,0,0] 3 bZ):=by
 have nd:=sc_law_parts_right.nd
 refine F.okQ (N:=gQ) (b:=eT) (J:=⟨[],[0,0,0,0,0,0,0,0,0],3,[]⟩) (ds0:=[0,0,0,0,0,0,0,0,0]) sc_law_parts_right rfl rfl rfl rfl fun cdv A outer s H E hr=>?_
 exact (ah (au (i:=4) (d:=0) (ds':=[0,0,0,0,0,0,0,0,0]) nd rfl (.inl rfl) (ak (d':=0) (bQ (d:=3) (c:=3) (aa (av bB hr rfl (aa (ac (i:=0) rfl (.inl rfl) rfl rfl rfl) (aa (ac (i:=1) rfl (.inl rfl) rfl rfl rfl) (aa (ac (i:=3) rfl (.inl rfl) rfl rfl rfl) ae rfl) rfl) rfl) rfl rfl rfl rfl rfl) (aa (av bB hr rfl (aa (ac (i:=0) rfl (.inl rfl) rfl rfl rfl) (aa (ac (i:=2) rfl (.inl rfl) rfl rfl rfl) (aa (ac (i:=3) rfl (.inl rfl) rfl rfl rfl) ae rfl) rfl) rfl) rfl rfl rfl rfl rfl) ae rfl) rfl) rfl rfl (by decide)) (by decide)) rfl (by decide) (by decide) rfl (.inl rfl))
  (ah (au (i:=5) (d:=0) (ds':=[0,0,0,0,0,0,0,0,0]) nd rfl (.inl rfl) (aE (d:=0) (c:=0) (aa ao (aa (aE (d:=0) (c:=0) (aa ao (aa (aE (d:=0) (c:=0) (aa ao (aa (ac (i:=1) rfl (.inl rfl) rfl rfl rfl) ae rfl) rfl) rfl rfl) (aa (aE (d:=0) (c:=0) (aa ao (aa (ac (i:=2) rfl (.inl rfl) rfl rfl rfl) ae rfl) rfl) rfl rfl) ae rfl) rfl) rfl) rfl rfl) ae rfl) rfl) rfl rfl) rfl (by decide) (by decide) rfl (.inl rfl))
  (ah (au (i:=6) (d:=0) (ds':=[0,0,0,0,0,0,0,0,0]) nd rfl (.inl rfl) (ak (d':=0) (bQ (d:=1) (c:=0) (aa (aE (d:=0) (c:=0) (aa (aE (d:=0) (c:=0) (aa ao (aa (ac (i:=1) rfl (.inl rfl) rfl rfl rfl) ae rfl) rfl) rfl rfl) (aa (jI (ay (aF (K:=K) rfl) (ac (i:=4) rfl (.inl rfl) rfl rfl rfl) ag (fun _ _=>rfl))) ae rfl) rfl) rfl rfl) (aa (aE (d:=0) (c:=0) (aa (aE (d:=0) (c:=0) (aa ao (aa (ac (i:=1) rfl (.inl rfl) rfl rfl rfl) (aa (ac (i:=2) rfl (.inl rfl) rfl rfl rfl) ae rfl) rfl) rfl) rfl rfl) (aa (bM (ay (aF (K:=K) rfl) (ac (i:=4) rfl (.inl rfl) rfl rfl rfl) ag (fun _ _=>rfl)) (bu (ay (aF (K:=K) rfl) (ac (i:=4) rfl (.inl rfl) rfl rfl rfl) ag (fun _ _=>rfl)))) ae rfl) rfl) rfl rfl) ae rfl) rfl) rfl rfl (by decide)) (by decide)) rfl (by decide) (by decide) rfl (.inl rfl))
  (ah (au (i:=6) (d:=0) (ds':=[0,0,0,0,0,0,0,0,0]) nd rfl (.inl rfl) (ak (d':=0) (aD (hU (K:=K) rfl) (ac (i:=6) rfl (.inl rfl) rfl rfl rfl) (bQ (d:=1) (c:=0) (aa (aE (d:=0) (c:=0) (aa (aE (d:=0) (c:=0) (aa ao (aa (ac (i:=1) rfl (.inl rfl) rfl rfl rfl) (aa (ac (i:=2) rfl (.inl rfl) rfl rfl rfl) ae rfl) rfl) rfl) rfl rfl) (aa (kZ (ay (aF (K:=K) rfl) (ac (i:=4) rfl (.inl rfl) rfl rfl rfl) ag (fun _ _=>rfl)) (bu (ay (aF (K:=K) rfl) (ac (i:=4) rfl (.inl rfl) rfl rfl rfl) ag (fun _ _=>rfl)))) ae rfl) rfl) rfl rfl) (aa (aE (d:=0) (c:=0) (aa (aE (d:=0) (c:=0) (aa ao (aa (ac (i:=2) rfl (.inl rfl) rfl rfl rfl) (aa (ac (i:=1) rfl (.inl rfl) rfl rfl rfl) ae rfl) rfl) rfl) rfl rfl) (aa (bM (ay (aF (K:=K) rfl) (ac (i:=4) rfl (.inl rfl) rfl rfl rfl) ag (fun _ _=>rfl)) (bu (ay (aF (K:=K) rfl) (ac (i:=4) rfl (.inl rfl) rfl rfl rfl) ag (fun _ _=>rfl)))) ae rfl) rfl) rfl rfl) ae rfl) rfl) rfl rfl (by decide))) (by decide)) rfl (by decide) (by decide) rfl (.inl rfl))
  (ah (au (i:=6) (d:=1) (ds':=[0,0,0,0,0,0,1,0,0]) nd rfl (.inl rfl) (aD (hU (K:=K) rfl) (ac (i:=6) rfl (.inl rfl) rfl rfl rfl) (bQ (d:=1) (c:=0) (aa (aE (d:=0) (c:=0) (aa (aE (d:=0) (c:=0) (aa ao (aa (ac (i:=1) rfl (.inl rfl) rfl rfl rfl) (aa (aE (d:=0) (c:=0) (aa ao (aa (ac (i:=1) rfl (.inl rfl) rfl rfl rfl) ae rfl) rfl) rfl rfl) ae rfl) rfl) rfl) rfl rfl) (aa aX ae rfl) rfl) rfl rfl) (aa (aE (d:=0) (c:=0) (aa (aE (d:=0) (c:=0) (aa ao (aa (ac (i:=1) rfl (.inl rfl) rfl rfl rfl) (aa (aE (d:=0) (c:=0) (aa ao (aa (ac (i:=1) rfl (.inl rfl) rfl rfl rfl) ae rfl) rfl) rfl rfl) ae rfl) rfl) rfl) rfl rfl) (aa aX ae rfl) rfl) rfl rfl) ae rfl) rfl) rfl rfl (by decide))) rfl (by decide) (by decide) rfl (.inl rfl))
  (ah (aA (ds2:=[0,0,0,0,0,0,1,0,0]) (aS (av cO hr rfl (aa (ac (i:=0) rfl (.inl rfl) rfl rfl rfl) (aa (ac (i:=5) rfl (.inl rfl) rfl rfl rfl) ae rfl) rfl) rfl rfl rfl rfl rfl) (fun _=>rfl)) (aj (ky (lP (K:=K) (i:=6) (d:=1) rfl rfl (.inl rfl) rfl (aE (d:=0) (c:=0) (aa (ac (i:=5) rfl (.inl rfl) rfl rfl rfl) (aa (bM (ay (aF (K:=K) rfl) (ac (i:=4) rfl (.inl rfl) rfl rfl rfl) ag (fun _ _=>rfl)) (bu (ay (aF (K:=K) rfl) (ac (i:=4) rfl (.inl rfl) rfl rfl rfl) ag (fun _ _=>rfl)))) ae rfl) rfl) rfl rfl) (by decide) rfl rfl rfl rfl rfl rfl rfl rfl) rfl)) ax)
  (ah (cn (ds1:=[0,0,0,0,0,0,0,0,0]) rfl (bn (K:=K) rfl (qY (ds0:=[0,0,0,0,0,0,0,0,0]) (ac (p:=false) (i:=6) rfl (.inl rfl) rfl rfl rfl) rfl)) (iG (K:=K) rfl rfl (cD (aG (i:=7) (ds':=[0,0,0,0,0,0,0,0,0]) nd rfl (.inl rfl) rfl (by decide) (by decide) (.inl rfl)) (cD (aG (i:=8) (ds':=[0,0,0,0,0,0,0,0,0]) nd rfl (.inl rfl) rfl (by decide) (by decide) (.inl rfl)) gU rfl) rfl) kY rfl rfl) (aj (aA (ds2:=[0,0,0,0,0,0,0,0,0]) (az (dZ (K:=K) rfl hr.units) (av bB hr rfl (aa (ac (i:=0) rfl (.inl rfl) rfl rfl rfl) (aa (ac (i:=7) rfl (.inl rfl) rfl rfl rfl) (aa (ac (i:=3) rfl (.inl rfl) rfl rfl rfl) ae rfl) rfl) rfl) rfl rfl rfl rfl rfl) (ac (i:=8) rfl (.inl rfl) rfl rfl rfl) (aB _)) (aj (am aX rfl)) ax)) PassesOwn.never (fun _=>rfl))
  (aj (am aX rfl)))))))))
abbrev cy:Stmt:=top 60
abbrev de:List Str:=["_law_pen_here", "_law_tongue_here", "_law_signs", "_law_word", "_law_at", "_law_many", "_law_own", "_law_most", "_law_piece", "_law_alone", "_law_one", "_law_other", "_law_here", "_law_without", "_law_ends", "_law_at_least", "_law_longer"]
theorem sc_law_kinds_right:FnScope de ["_law_pen_here", "_law_tongue_here", "_law_signs", "_law_word"] (ar cy):=⟨rfl,rfl,rfl,by decide +kernel,rfl,by decide +kernel,by decide +kernel⟩
def dW:ME:=(aq (aU 6) (ad (af 1) (ad (aP (ad (eC (.str "often")) (ad (af 0) (ad (af 3) ai)))) (ad (af 2) ai))))
def dS:MS:=(ap (aH 12 (aq (aU 6) (ad (af 1) (ad (aP (ad (af 10) (ad (af 8) ai))) (ad (af 3) ai)))))
 (sIf (tV (e2 neD (aq (aU 6) (ad (af 1) (ad (aP (ad (af 11) (ad (e2 kU (af 8) (e1 jB (eC (.int 1)))) ai))) (ad (e2 kU (af 3) (e1 jB (eC (.int 1)))) ai)))) (af 12))) (aC (eC (.bool false))) aM))
def dU:ME:=(aq (aU 6) (ad (af 1) (ad (aP (ad (af 0) (ad (af 3) ai))) (ad (af 2) ai))))
def eU:MS:=(ap (aH 4 (aq F_law_draw (bh 0 (ad (eN ba (ad (af 1) ai)) ai))))
 (ap (aH 5 (aq F_law_draw (bh 0 (ad (eC (.int 9)) ai))))
 (ap (aH 6 (aq c9 (bh 0 (ad (af 2) (ad (eC (.int 4)) ai)))))
 (ap (aH 7 (aq F_law_draw (bh 0 (ad (eC (.int 4)) ai))))
 (ap (aH 8 (aq bU (bh 0 (ad (af 2) (ad (e2 bA (eC (.int 1)) (aq F_law_draw (bh 0 (ad (eC (.int 6)) ai)))) ai)))))
 (ap (sIf (eR (tV (aq (aU 6) (ad (af 1) (ad (aP (ad (eC (.str "least")) (ad (af 4) (ad (e2 bA (af 5) (eC (.int 1))) ai)))) (ad (af 3) ai))))) (cb (tV (aq (aU 6) (ad (af 1) (ad (aP (ad (eC (.str "least")) (ad (af 4) (ad (af 5) ai)))) (ad (af 3) ai))))))) (aC (eC (.bool false))) aM)
 (ap (aH 9 (eLC true (bX (af 6)) (gN 0) cY dW [none,some 1,some 3,some 7]))
 (ap (sIf (tV (e2 neD (aq (aU 6) (ad (af 1) (ad (aP (ad (eC (.str "often")) (ad (af 6) (ad (af 7) ai)))) (ad (af 3) ai)))) (eN dE (ad (af 9) ai)))) (aC (eC (.bool false))) aM)
 (ap (eg (bX (aP (ad (aP (ad (eC (.str "begins")) (ad (eC (.str "ends")) ai))) (ad (aP (ad (eC (.str "ends")) (ad (eC (.str "begins")) ai))) (ad (aP (ad (eC (.str "without")) (ad (eC (.str "without")) ai))) ai))))) (gT (gsC (gN 10) (gsC (gN 11) gs0))) dS)
 (ap (aH 13 (aq (aU 6) (ad (af 1) (ad (aP (ad (eC (.str "without")) (ad (af 8) ai))) (ad (af 3) ai)))))
 (ap (aH 14 (eLC true (bX (aP (ad (eC (.str "begins")) (ad (eC (.str "ends")) ai)))) (gN 0) cY dU [none,some 1,some 3,some 8]))
 (ap (sIf (eR (tV (af 13)) (tV (e2 inL (eC (.bool true)) (af 14)))) (aC (eC (.bool false))) aM)
 (ap (aH 15 (aq (aU 6) (ad (af 1) (ad (aP (ad (eC (.str "long")) (ad (af 5) (ad (eC .none) ai)))) (ad (af 3) ai)))))
 (ap (aH 16 (aq (aU 6) (ad (af 1) (ad (aP (ad (eC (.str "long")) (ad (e2 bA (af 5) (eC (.int 1))) (ad (eC .none) ai)))) (ad (af 3) ai)))))
 (aC (e2 eqD (aq (aU 6) (ad (af 1) (ad (aP (ad (eC (.str "long")) (ad (af 5) (ad (af 5) ai)))) (ad (af 3) ai)))) (cB (af 15) (iY (af 16)))))))))))))))))))
def b7:List D→Option (D × En):=fnF 13 [1,0,0,0] eU
theorem kq {k:Nat} (T:Bl mg)  (aN:Kn P w K mg base k "_law_draw" ["_law_pen_here", "_law_many"] (spF K [1,0] 0 F_law_draw)) (jZ:Kn P w K mg base k "_law_some" ["_law_pen_here", "_law_signs", "_law_most"] (spF K [1,0,0] 3 c9)) (dO:Kn P w K mg base k "_law_sized" ["_law_pen_here", "_law_signs", "_law_many"] (spF K [1,0,0] 3 bU)) (bB:Kn P w K mg base k "holds" ["tongue", "sentence", "word"] (spF K [0,0,0] 3 (aU 6))) (F:Fun K "_law_kinds_right" "_law_kinds_right" cy f fd):FnOk P w K mg base CX0 (k+1) f fd ["_law_pen_here", "_law_tongue_here", "_law_signs", "_law_word"] (spF K [1,0,0,0] 3 b7):=by
 have nd:=sc_law_kinds_right.nd
 refine F.okQ (N:=de) (b:=eU) (J:=⟨[0],[1,0,0,0,0,0,0,0,0,0,0,0,0,0,0,0,0],3,[]⟩) (ds0:=[1,0,0,0,0,0,0,0,0,0,0,0,0,0,0,0,0]) sc_law_kinds_right rfl rfl rfl rfl fun cdv A outer s H E hr=>?_
 exact (ah (au (i:=4) (d:=0) (ds':=[1,0,0,0,0,0,0,0,0,0,0,0,0,0,0,0,0]) nd rfl (.inl rfl) (aO aN hr rfl (aK (i:=0) rfl (.inl rfl) (aa (ak (d':=0) (aw (aT (K:=K) rfl) rfl T.len0 (by decide +kernel) (aa (ac (i:=1) rfl (.inr (.inl rfl)) rfl rfl rfl) ae rfl) rfl (by decide) rfl rfl rfl) (by decide)) ae rfl) rfl rfl) rfl rfl rfl rfl) rfl (by decide) (by decide) rfl (.inl rfl))
  (ah (au (i:=5) (d:=0) (ds':=[1,0,0,0,0,0,0,0,0,0,0,0,0,0,0,0,0]) nd rfl (.inl rfl) (aO aN hr rfl (aK (i:=0) rfl (.inl rfl) (aa (ak (d':=0) ag (by decide)) ae rfl) rfl rfl) rfl rfl rfl rfl) rfl (by decide) (by decide) rfl (.inl rfl))
  (ah (au (i:=6) (d:=0) (ds':=[1,0,0,0,0,0,0,0,0,0,0,0,0,0,0,0,0]) nd rfl (.inl rfl) (ak (d':=0) (aO jZ hr rfl (aK (i:=0) rfl (.inl rfl) (aa (ac (i:=2) rfl (.inl rfl) rfl rfl rfl) (aa (ak (d':=0) ag (by decide)) ae rfl) rfl) rfl rfl) rfl rfl rfl rfl) (by decide)) rfl (by decide) (by decide) rfl (.inl rfl))
  (ah (au (i:=7) (d:=0) (ds':=[1,0,0,0,0,0,0,0,0,0,0,0,0,0,0,0,0]) nd rfl (.inr rfl) (aO aN hr rfl (aK (i:=0) rfl (.inl rfl) (aa (ak (d':=0) ag (by decide)) ae rfl) rfl rfl) rfl rfl rfl rfl) rfl (by decide) (by decide) rfl (.inl rfl))
  (ah (au (i:=8) (d:=0) (ds':=[1,0,0,0,0,0,0,0,0,0,0,0,0,0,0,0,0]) nd rfl (.inr rfl) (ak (d':=0) (aO dO hr rfl (aK (i:=0) rfl (.inl rfl) (aa (ac (i:=2) rfl (.inl rfl) rfl rfl rfl) (aa (ak (d':=0) (aD bm ag (aO aN hr rfl (aK (i:=0) rfl (.inl rfl) (aa (ak (d':=0) ag (by decide)) ae rfl) rfl rfl) rfl rfl rfl rfl)) (by decide)) ae rfl) rfl) rfl rfl) rfl rfl rfl rfl) (by decide)) rfl (by decide) (by decide) rfl (.inl rfl))
  (ah (aA (ds2:=[1,0,0,0,0,0,0,0,0,0,0,0,0,0,0,0,0]) (qpt (ie (aS (av bB hr rfl (aa (ac (i:=1) rfl (.inr (.inl rfl)) rfl rfl rfl) (aa (aE (d:=0) (c:=0) (aa ao (aa (ac (i:=4) rfl (.inl rfl) rfl rfl rfl) (aa (aD bm (ac (i:=5) rfl (.inl rfl) rfl rfl rfl) ag) ae rfl) rfl) rfl) rfl rfl) (aa (ac (i:=3) rfl (.inr (.inl rfl)) rfl rfl rfl) ae rfl) rfl) rfl) rfl rfl rfl rfl rfl) (fun _=>rfl)) (gp (bc (aS (av bB hr rfl (aa (ac (i:=1) rfl (.inr (.inl rfl)) rfl rfl rfl) (aa (aE (d:=0) (c:=0) (aa ao (aa (ac (i:=4) rfl (.inl rfl) rfl rfl rfl) (aa (ac (i:=5) rfl (.inl rfl) rfl rfl rfl) ae rfl) rfl) rfl) rfl rfl) (aa (ac (i:=3) rfl (.inr (.inl rfl)) rfl rfl rfl) ae rfl) rfl) rfl) rfl rfl rfl rfl rfl) (fun _=>rfl)))))) (aj (am aX rfl)) ax)
  (ah (gu (ds1:=[1,0,0,0,0,0,0,0,0,0,0,0,0,0,0,0,0]) (eW (i:=9) (ds':=[1,0,0,0,0,0,0,0,0,3,0,0,0,0,0,0,0]) (cd:=3) (d:=3) (dsi:=[0,0,0,0]) (lk:=[1,2,3]) nd rfl rfl (BlkOkC.of (ns:=["_law_sign", "_law_tongue_here", "_law_word", "_law_most"]) (js:=[none,some 1,some 3,some 7]) (N0:=de) (sc0:=ar cy) rfl rfl (by decide +kernel)) rfl (bn (K:=K) rfl (ac (i:=6) rfl (.inl rfl) rfl rfl rfl)) (fun _ _ _ _ _=>(aG (i:=0) (ds':=[0,0,0,0]) (show (["_law_sign", "_law_tongue_here", "_law_word", "_law_most"]:List Str).Nodup by decide +kernel) rfl (.inl rfl) rfl (by decide) (by decide) (.inr rfl))) (fun _ _ _ _ _=>bI) (fun _ _ _ _ _=>(av bB hr rfl (aa (ac (i:=1) rfl (.inr (.inl rfl)) rfl rfl rfl) (aa (aE (d:=0) (c:=0) (aa ao (aa (ac (i:=0) rfl (.inl rfl) rfl rfl rfl) (aa (ac (i:=3) rfl (.inr (.inl rfl)) rfl rfl rfl) ae rfl) rfl) rfl) rfl rfl) (aa (ac (i:=2) rfl (.inr (.inl rfl)) rfl rfl rfl) ae rfl) rfl) rfl) rfl rfl rfl rfl rfl)) rfl rfl rfl (by decide) rfl (by decide) (by decide) rfl (fun _=>rfl)) rfl)
  (ah (aA (ds2:=[1,0,0,0,0,0,0,0,0,0,0,0,0,0,0,0,0]) (az (dZ (K:=K) rfl hr.units) (av bB hr rfl (aa (ac (i:=1) rfl (.inr (.inl rfl)) rfl rfl rfl) (aa (aE (d:=0) (c:=0) (aa ao (aa (ac (i:=6) rfl (.inl rfl) rfl rfl rfl) (aa (ac (i:=7) rfl (.inr (.inl rfl)) rfl rfl rfl) ae rfl) rfl) rfl) rfl rfl) (aa (ac (i:=3) rfl (.inr (.inl rfl)) rfl rfl rfl) ae rfl) rfl) rfl) rfl rfl rfl rfl rfl) (aw (dJ (K:=K) rfl rfl) rfl T.all0 (by decide +kernel) (aa (ac (i:=9) rfl (.inl rfl) rfl rfl rfl) ae rfl) rfl (by decide) rfl rfl rfl) (aB _)) (aj (am aX rfl)) ax)
  (ah (cn (ds1:=[1,0,0,0,0,0,0,0,0,0,0,0,0,0,0,0,0]) rfl (bn (K:=K) rfl (ak (d':=0) (aE (d:=3) (c:=3) (aa (aE (d:=3) (c:=3) (aa ao (aa ao ae rfl) rfl) rfl rfl) (aa (aE (d:=3) (c:=3) (aa ao (aa ao ae rfl) rfl) rfl rfl) (aa (aE (d:=3) (c:=3) (aa ao (aa ao ae rfl) rfl) rfl rfl) ae rfl) rfl) rfl) rfl rfl) (by decide))) (iG (K:=K) rfl rfl (cD (aG (i:=10) (ds':=[1,0,0,0,0,0,0,0,0,0,0,0,0,0,0,0,0]) nd rfl (.inl rfl) rfl (by decide) (by decide) (.inl rfl)) (cD (aG (i:=11) (ds':=[1,0,0,0,0,0,0,0,0,0,0,0,0,0,0,0,0]) nd rfl (.inl rfl) rfl (by decide) (by decide) (.inl rfl)) gU rfl) rfl) kY rfl rfl) (ah (au (i:=12) (d:=0) (ds':=[1,0,0,0,0,0,0,0,0,0,0,0,0,0,0,0,0]) nd rfl (.inl rfl) (ak (d':=0) (av bB hr rfl (aa (ac (i:=1) rfl (.inr (.inl rfl)) rfl rfl rfl) (aa (aE (d:=0) (c:=0) (aa (ac (i:=10) rfl (.inl rfl) rfl rfl rfl) (aa (ac (i:=8) rfl (.inr (.inl rfl)) rfl rfl rfl) ae rfl) rfl) rfl rfl) (aa (ac (i:=3) rfl (.inr (.inl rfl)) rfl rfl rfl) ae rfl) rfl) rfl) rfl rfl rfl rfl rfl) (by decide)) rfl (by decide) (by decide) rfl (.inl rfl))
  (aj (aA (ds2:=[1,0,0,0,0,0,0,0,0,0,0,0,0,0,0,0,0]) (az (dZ (K:=K) rfl hr.units) (av bB hr rfl (aa (ac (i:=1) rfl (.inr (.inl rfl)) rfl rfl rfl) (aa (aE (d:=0) (c:=0) (aa (ac (i:=11) rfl (.inl rfl) rfl rfl rfl) (aa (oq (ac (i:=8) rfl (.inr (.inl rfl)) rfl rfl rfl) (fU ig ag)) ae rfl) rfl) rfl rfl) (aa (ak (d':=0) (oq (ac (i:=3) rfl (.inr (.inl rfl)) rfl rfl rfl) (fU ig ag)) (by decide)) ae rfl) rfl) rfl) rfl rfl rfl rfl rfl) (ac (i:=12) rfl (.inl rfl) rfl rfl rfl) (aB _)) (aj (am aX rfl)) ax))) PassesOwn.never (fun _=>rfl))
  (ah (au (i:=13) (d:=0) (ds':=[1,0,0,0,0,0,0,0,0,0,0,0,0,0,0,0,0]) nd rfl (.inl rfl) (ak (d':=0) (av bB hr rfl (aa (ac (i:=1) rfl (.inr (.inl rfl)) rfl rfl rfl) (aa (aE (d:=0) (c:=0) (aa ao (aa (ac (i:=8) rfl (.inr (.inl rfl)) rfl rfl rfl) ae rfl) rfl) rfl rfl) (aa (ac (i:=3) rfl (.inr (.inl rfl)) rfl rfl rfl) ae rfl) rfl) rfl) rfl rfl rfl rfl rfl) (by decide)) rfl (by decide) (by decide) rfl (.inl rfl))
  (ah (gu (ds1:=[1,0,0,0,0,0,0,0,0,0,0,0,0,0,0,0,0]) (eW (i:=14) (ds':=[1,0,0,0,0,0,0,0,0,0,0,0,0,0,3,0,0]) (cd:=3) (d:=3) (dsi:=[0,0,0,0]) (lk:=[1,2,3]) nd rfl rfl (BlkOkC.of (ns:=["_law_kind", "_law_tongue_here", "_law_word", "_law_piece"]) (js:=[none,some 1,some 3,some 8]) (N0:=de) (sc0:=ar cy) rfl rfl (by decide +kernel)) rfl (bn (K:=K) rfl (ak (d':=0) (aE (d:=3) (c:=3) (aa ao (aa ao ae rfl) rfl) rfl rfl) (by decide))) (fun _ _ _ _ _=>(aG (i:=0) (ds':=[0,0,0,0]) (show (["_law_kind", "_law_tongue_here", "_law_word", "_law_piece"]:List Str).Nodup by decide +kernel) rfl (.inl rfl) rfl (by decide) (by decide) (.inr rfl))) (fun _ _ _ _ _=>bI) (fun _ _ _ _ _=>(av bB hr rfl (aa (ac (i:=1) rfl (.inr (.inl rfl)) rfl rfl rfl) (aa (aE (d:=0) (c:=0) (aa (ac (i:=0) rfl (.inl rfl) rfl rfl rfl) (aa (ac (i:=3) rfl (.inr (.inl rfl)) rfl rfl rfl) ae rfl) rfl) rfl rfl) (aa (ac (i:=2) rfl (.inr (.inl rfl)) rfl rfl rfl) ae rfl) rfl) rfl) rfl rfl rfl rfl rfl)) rfl rfl rfl (by decide) rfl (by decide) (by decide) rfl (fun _=>rfl)) rfl)
  (ah (aA (ds2:=[1,0,0,0,0,0,0,0,0,0,0,0,0,0,0,0,0]) (qpt (ie (aS (ac (i:=13) rfl (.inl rfl) rfl rfl rfl) (fun _=>rfl)) (gp (az (GO (K:=K) rfl hr.units) aX (ac (i:=14) rfl (.inl rfl) rfl rfl rfl) (by with_unfolding_all rfl))))) (aj (am aX rfl)) ax)
  (ah (au (i:=15) (d:=0) (ds':=[1,0,0,0,0,0,0,0,0,0,0,0,0,0,0,0,0]) nd rfl (.inl rfl) (ak (d':=0) (av bB hr rfl (aa (ac (i:=1) rfl (.inr (.inl rfl)) rfl rfl rfl) (aa (aE (d:=0) (c:=0) (aa ao (aa (ac (i:=5) rfl (.inl rfl) rfl rfl rfl) (aa fV ae rfl) rfl) rfl) rfl rfl) (aa (ac (i:=3) rfl (.inr (.inl rfl)) rfl rfl rfl) ae rfl) rfl) rfl) rfl rfl rfl rfl rfl) (by decide)) rfl (by decide) (by decide) rfl (.inl rfl))
  (ah (au (i:=16) (d:=0) (ds':=[1,0,0,0,0,0,0,0,0,0,0,0,0,0,0,0,0]) nd rfl (.inl rfl) (ak (d':=0) (av bB hr rfl (aa (ac (i:=1) rfl (.inr (.inl rfl)) rfl rfl rfl) (aa (ak (d':=0) (aE (d:=3) (c:=3) (aa ao (aa (aD bm (ac (i:=5) rfl (.inl rfl) rfl rfl rfl) ag) (aa fV ae rfl) rfl) rfl) rfl rfl) (by decide)) (aa (ac (i:=3) rfl (.inr (.inl rfl)) rfl rfl rfl) ae rfl) rfl) rfl) rfl rfl rfl rfl rfl) (by decide)) rfl (by decide) (by decide) rfl (.inl rfl))
  (aj (am (bL (aV (K:=K) rfl hr.units) (av bB hr rfl (aa (ac (i:=1) rfl (.inr (.inl rfl)) rfl rfl rfl) (aa (aE (d:=0) (c:=0) (aa ao (aa (ac (i:=5) rfl (.inl rfl) rfl rfl rfl) (aa (ac (i:=5) rfl (.inl rfl) rfl rfl rfl) ae rfl) rfl) rfl) rfl rfl) (aa (ac (i:=3) rfl (.inr (.inl rfl)) rfl rfl rfl) ae rfl) rfl) rfl) rfl rfl rfl rfl rfl) (bM (ac (i:=15) rfl (.inl rfl) rfl rfl rfl) (bu (jI (ac (i:=16) rfl (.inl rfl) rfl rfl rfl)))) (aB _)) rfl))))))))))))))))
abbrev dQ:Stmt:=top 61
abbrev fO:List Str:=["_law_tongue_here", "_law_sentences", "_law_due", "_law_one", "_law_other", "_law_product"]
theorem sc_law_weights_right:FnScope fO ["_law_tongue_here", "_law_sentences"] (ar dQ):=⟨rfl,rfl,rfl,by decide +kernel,rfl,by decide +kernel,by decide +kernel⟩
def fy:MS:=(aH 2 (e2 dg (af 2) (aq (bE 6) (ad (af 0) (ad (af 3) ai)))))
def dX:MS:=(ap (aH 2 (eC (.int 1)))
 (ap (eg (bX (af 1)) (gN 3) fy)
 (ap (sIf (tV (e2 neD (aq du (ad (aP (ad (af 0) (ad (eN ly (ad (af 1) ai)) ai))) ai)) (af 2))) (aC (eC (.bool false))) aM)
 (ap (aH 3 (e2 ixA (af 1) (eC (.int 0))))
 (ap (aH 4 (e2 ixA (af 1) (e1 jB (eC (.int 1)))))
 (ap (aH 5 (e2 dg (aq (bE 6) (ad (af 0) (ad (af 3) ai))) (aq (bE 6) (ad (af 0) (ad (af 4) ai)))))
 (ap (sIf (tV (e2 neD (aq (bE 6) (ad (af 0) (ad (aP (ad (eC (.str "both")) (ad (af 3) (ad (af 4) ai)))) ai))) (af 5))) (aC (eC (.bool false))) aM)
 (ap (sIf (tV (e2 neD (aq (bE 6) (ad (af 0) (ad (aP (ad (eC (.str "either")) (ad (af 3) (ad (aP (ad (eC (.str "not")) (ad (af 4) ai))) ai)))) ai))) (af 5))) (aC (eC (.bool false))) aM)
 (aC (e2 eqD (aq (bE 6) (ad (af 0) (ad (aP (ad (eC (.str "not")) (ad (af 3) ai))) ai))) (aq (bE 6) (ad (af 0) (ad (af 3) ai)))))))))))))
def bS:List D→Option (D × En):=fnF 4 [0,0] dX
theorem jA {k:Nat} (T:Bl mg)  (ql:Kn P w K mg base k "rule_weight" ["rule"] (spF K [0] 0 du)) (cI:Kn P w K mg base k "weight" ["tongue", "sentence"] (spF K [0,0] 3 (bE 6))) (F:Fun K "_law_weights_right" "_law_weights_right" dQ f fd):FnOk P w K mg base CX0 (k+1) f fd ["_law_tongue_here", "_law_sentences"] (spF K [0,0] 3 bS):=by
 have nd:=sc_law_weights_right.nd
 refine F.okQ (N:=fO) (b:=dX) (J:=⟨[],[0,0,0,0,0,0],3,[]⟩) (ds0:=[0,0,0,0,0,0]) sc_law_weights_right rfl rfl rfl rfl fun cdv A outer s H E hr=>?_
 exact (ah (au (i:=2) (d:=0) (ds':=[0,0,0,0,0,0]) nd rfl (.inl rfl) (ak (d':=0) ag (by decide)) rfl (by decide) (by decide) rfl (.inl rfl))
  (ah (cn (ds1:=[0,0,0,0,0,0]) rfl (bn (K:=K) rfl (ac (i:=1) rfl (.inl rfl) rfl rfl rfl)) (aG (i:=3) (ds':=[0,0,0,0,0,0]) nd rfl (.inl rfl) rfl (by decide) (by decide) (.inl rfl)) (aj (au (i:=2) (d:=0) (ds':=[0,0,0,0,0,0]) nd rfl (.inl rfl) (ak (d':=0) (aD fA (ac (i:=2) rfl (.inl rfl) rfl rfl rfl) (av cI hr rfl (aa (ac (i:=0) rfl (.inl rfl) rfl rfl rfl) (aa (ac (i:=3) rfl (.inl rfl) rfl rfl rfl) ae rfl) rfl) rfl rfl rfl rfl rfl)) (by decide)) rfl (by decide) (by decide) rfl (.inl rfl))) PassesOwn.never (fun _=>rfl))
  (ah (aA (ds2:=[0,0,0,0,0,0]) (az (dZ (K:=K) rfl hr.units) (av ql hr rfl (aa (aE (d:=0) (c:=0) (aa (ac (i:=0) rfl (.inl rfl) rfl rfl rfl) (aa (dN (jH (K:=K) rfl) rfl T.tuple0 (by decide +kernel) (aa (ac (i:=1) rfl (.inl rfl) rfl rfl rfl) ae rfl) rfl (by decide) rfl rfl rfl) ae rfl) rfl) rfl rfl) ae rfl) rfl rfl rfl rfl rfl) (ac (i:=2) rfl (.inl rfl) rfl rfl rfl) (aB _)) (aj (am aX rfl)) ax)
  (ah (au (i:=3) (d:=0) (ds':=[0,0,0,0,0,0]) nd rfl (.inl rfl) (ay (aF (K:=K) rfl) (ac (i:=1) rfl (.inl rfl) rfl rfl rfl) ag (fun _ _=>rfl)) rfl (by decide) (by decide) rfl (.inl rfl))
  (ah (au (i:=4) (d:=0) (ds':=[0,0,0,0,0,0]) nd rfl (.inl rfl) (ay (aF (K:=K) rfl) (ac (i:=1) rfl (.inl rfl) rfl rfl rfl) (fU ig ag) (fun _ _=>rfl)) rfl (by decide) (by decide) rfl (.inl rfl))
  (ah (au (i:=5) (d:=0) (ds':=[0,0,0,0,0,0]) nd rfl (.inl rfl) (ak (d':=0) (aD fA (av cI hr rfl (aa (ac (i:=0) rfl (.inl rfl) rfl rfl rfl) (aa (ac (i:=3) rfl (.inl rfl) rfl rfl rfl) ae rfl) rfl) rfl rfl rfl rfl rfl) (av cI hr rfl (aa (ac (i:=0) rfl (.inl rfl) rfl rfl rfl) (aa (ac (i:=4) rfl (.inl rfl) rfl rfl rfl) ae rfl) rfl) rfl rfl rfl rfl rfl)) (by decide)) rfl (by decide) (by decide) rfl (.inl rfl))
  (ah (aA (ds2:=[0,0,0,0,0,0]) (az (dZ (K:=K) rfl hr.units) (av cI hr rfl (aa (ac (i:=0) rfl (.inl rfl) rfl rfl rfl) (aa (aE (d:=0) (c:=0) (aa ao (aa (ac (i:=3) rfl (.inl rfl) rfl rfl rfl) (aa (ac (i:=4) rfl (.inl rfl) rfl rfl rfl) ae rfl) rfl) rfl) rfl rfl) ae rfl) rfl) rfl rfl rfl rfl rfl) (ac (i:=5) rfl (.inl rfl) rfl rfl rfl) (aB _)) (aj (am aX rfl)) ax)
  (ah (aA (ds2:=[0,0,0,0,0,0]) (az (dZ (K:=K) rfl hr.units) (av cI hr rfl (aa (ac (i:=0) rfl (.inl rfl) rfl rfl rfl) (aa (aE (d:=0) (c:=0) (aa ao (aa (ac (i:=3) rfl (.inl rfl) rfl rfl rfl) (aa (aE (d:=0) (c:=0) (aa ao (aa (ac (i:=4) rfl (.inl rfl) rfl rfl rfl) ae rfl) rfl) rfl rfl) ae rfl) rfl) rfl) rfl rfl) ae rfl) rfl) rfl rfl rfl rfl rfl) (ac (i:=5) rfl (.inl rfl) rfl rfl rfl) (aB _)) (aj (am aX rfl)) ax)
  (aj (am (bL (aV (K:=K) rfl hr.units) (av cI hr rfl (aa (ac (i:=0) rfl (.inl rfl) rfl rfl rfl) (aa (aE (d:=0) (c:=0) (aa ao (aa (ac (i:=3) rfl (.inl rfl) rfl rfl rfl) ae rfl) rfl) rfl rfl) ae rfl) rfl) rfl rfl rfl rfl rfl) (av cI hr rfl (aa (ac (i:=0) rfl (.inl rfl) rfl rfl rfl) (aa (ac (i:=3) rfl (.inl rfl) rfl rfl rfl) ae rfl) rfl) rfl rfl rfl rfl rfl) (aB _)) rfl))))))))))
abbrev ge:Stmt:=top 62
abbrev jo:List Str:=["_law_sentences", "_law_some_here", "_law_half", "_law_first"]
theorem sc_law_together:FnScope jo ["_law_sentences"] (ar ge):=⟨rfl,rfl,rfl,by decide +kernel,rfl,by decide +kernel,by decide +kernel⟩
def bC (self:List D→Option (D × En)):MS:=(ap (aH 1 (eSl fE (af 0) cz (cq (eC (.int 4)))))
 (ap (sIf (tV (e2 eqD (eN ba (ad (af 1) ai)) (eC (.int 1)))) (aC (e2 ixA (af 1) (eC (.int 0)))) aM)
 (ap (aH 2 (e2 gl (eN ba (ad (af 1) ai)) (eC (.int 2))))
 (ap (aH 3 (aq self (ad (eSl fE (af 1) cz (cq (af 2))) ai)))
 (aC (aP (ad (eC (.str "both")) (ad (af 3) (ad (aq self (ad (eSl fE (af 1) (cq (af 2)) cz) ai)) ai)))))))))
def aY:Nat→List D→Option (D × En)
 | 0=>fun _=>none
 | j+1=>fnF 3 [0] (bC (aY j))
theorem dY {k:Nat} (T:Bl mg)  {self:List D→Option (D × En)} (eI:Kn P w K mg base k "_law_together" ["_law_sentences"] (spF K [0] 0 self)) (F:Fun K "_law_together" "_law_together" ge f fd):FnOk P w K mg base CX0 (k+1) f fd ["_law_sentences"] (spF K [0] 0 (fnF 3 [0] (bC self))):=by
 have nd:=sc_law_together.nd
 refine F.okQ (N:=jo) (b:=bC self) (J:=⟨[],[0,0,0,0],0,[]⟩) (ds0:=[0,0,0,0]) sc_law_together rfl rfl rfl rfl fun cdv A outer s H E hr=>?_
 exact (ah (au (i:=1) (d:=0) (ds':=[0,0,0,0]) nd rfl (.inl rfl) (ak (d':=0) (bw (eE (K:=K) rfl) (ac (i:=0) rfl (.inl rfl) rfl rfl rfl) bK (bJ ag)) (by decide)) rfl (by decide) (by decide) rfl (.inl rfl))
  (ah (aA (ds2:=[0,0,0,0]) (az (aV (K:=K) rfl hr.units) (aw (aT (K:=K) rfl) rfl T.len0 (by decide +kernel) (aa (ac (i:=1) rfl (.inl rfl) rfl rfl rfl) ae rfl) rfl (by decide) rfl rfl rfl) ag (aB _)) (aj (am (ay (aF (K:=K) rfl) (ac (i:=1) rfl (.inl rfl) rfl rfl rfl) ag (fun _ _=>rfl)) rfl)) ax)
  (ah (au (i:=2) (d:=0) (ds':=[0,0,0,0]) nd rfl (.inl rfl) (ak (d':=0) (aD nL (aw (aT (K:=K) rfl) rfl T.len0 (by decide +kernel) (aa (ac (i:=1) rfl (.inl rfl) rfl rfl rfl) ae rfl) rfl (by decide) rfl rfl rfl) ag) (by decide)) rfl (by decide) (by decide) rfl (.inl rfl))
  (ah (au (i:=3) (d:=0) (ds':=[0,0,0,0]) nd rfl (.inl rfl) (av eI hr rfl (aa (ak (d':=0) (bw (eE (K:=K) rfl) (ac (i:=1) rfl (.inl rfl) rfl rfl rfl) bK (bJ (ac (i:=2) rfl (.inl rfl) rfl rfl rfl))) (by decide)) ae rfl) rfl rfl rfl rfl rfl) rfl (by decide) (by decide) rfl (.inl rfl))
  (aj (am (aE (d:=0) (c:=0) (aa ao (aa (ac (i:=3) rfl (.inl rfl) rfl rfl rfl) (aa (av eI hr rfl (aa (ak (d':=0) (bw (eE (K:=K) rfl) (ac (i:=1) rfl (.inl rfl) rfl rfl rfl) (bJ (ac (i:=2) rfl (.inl rfl) rfl rfl rfl)) bK) (by decide)) ae rfl) rfl rfl rfl rfl rfl) ae rfl) rfl) rfl) rfl rfl) rfl))))))
abbrev kF:Stmt:=top 63
abbrev vA:List Str:=["_law_script", "_law_turn", "_law_pen_here", "_law_tongue_here", "_law_signs", "_law_sentences", "_law_whole", "_law_word", "_law_kept"]
theorem sclaw:FnScope vA ["_law_script"] (ar kF):=⟨rfl,rfl,rfl,by decide +kernel,rfl,by decide +kernel,by decide +kernel⟩
def uv:ME:=(aq cJ (bh 1 (ad (af 2) (ad (af 3) ai))))
def qk:MS:=(ap (sIf (cb (tV (aq cf (ad (af 3) (ad (af 5) (ad (af 7) ai)))))) (aC (eC (.bool false))) aM)
 (ap (sIf (cb (tV (aq bZ (ad (af 3) (ad (e2 ixA (af 5) (eC (.int 0))) (ad (e2 ixA (af 5) (e1 jB (eC (.int 1)))) (ad (af 7) ai))))))) (aC (eC (.bool false))) aM)
 (ap (sIf (cb (tV (aq b7 (bh 2 (ad (af 3) (ad (af 4) (ad (af 7) ai))))))) (aC (eC (.bool false))) aM)
 (ap (aH 8 (aq fK (ad (aP (ad (af 3) (ad (eN ly (ad (eSl fE (af 5) cz (cq (eC (.int 4)))) ai)) ai))) (ad (af 7) ai))))
 (sIf (eR (tV (aq bG (ad (af 3) (ad (af 6) ai)))) (tV (e2 neD (aq (aU 6) (ad (af 3) (ad (af 6) (ad (af 7) ai)))) (af 8)))) (aC (eC (.bool false))) aM)))))
def ur:MS:=(ap (aH 2 (aq F_law_pen (ad (af 0) (ad (af 1) ai))))
 (ap (aH 3 (aq dw (bh 2 ai)))
 (ap (aH 4 (e2 ixA (cp (ad (eM joinD (eC (.str "")) (ad (af 3) ai)) (ad (eSl lT (eM joinD (eC (.str "")) (ad (af 3) ai)) cz (cq (eC (.int 2)))) ai))) (aq F_law_draw (bh 2 (ad (eC (.int 2)) ai)))))
 (ap (aH 5 (eLC false (dI (ad (e2 bA (eC (.int 1)) (aq F_law_draw (bh 2 (ad (eC (.int 7)) ai)))) ai)) (gN 0) cY uv [none,some 2,some 3,some 4]))
 (ap (aH 6 (aq (aY 4) (ad (af 5) ai)))
 (ap (sIf (cb (tV (aq bS (ad (af 3) (ad (af 5) ai))))) (aC (eC (.bool false))) aM)
 (eg (bX (aq dP (bh 2 (ad (af 4) (ad (af 5) ai))))) (gN 7) qk)))))))
def vF:MS:=(ap (eg (dI (ad (eC (.int 2)) ai)) (gN 1) ur)
 (aC (eC (.bool true))))
def sv:List D→Option (D × En):=fnF 8 [0] vF
theorem GE {k:Nat} (T:Bl mg)  (uu:Kn P w K mg base k "_law_pen" ["_law_script", "_law_k"] (spF K [0,0] 3 F_law_pen)) (qm:Kn P w K mg base k "_law_tongue" ["_law_pen_here"] (spF K [1] 0 dw)) (eI:Kn P w K mg base k "_law_together" ["_law_sentences"] (spF K [0] 0 (aY 4))) (qH:Kn P w K mg base k "_law_words" ["_law_pen_here", "_law_signs", "_law_sentences"] (spF K [1,0,0] 0 dP)) (aN:Kn P w K mg base k "_law_draw" ["_law_pen_here", "_law_many"] (spF K [1,0] 0 F_law_draw)) (nV:Kn P w K mg base k "_law_sentence" ["_law_pen_here", "_law_tongue_here", "_law_signs"] (spF K [1,0,0] 0 cJ)) (kc:Kn P w K mg base k "_law_weights_right" ["_law_tongue_here", "_law_sentences"] (spF K [0,0] 3 bS)) (ni:Kn P w K mg base k "keeps" ["rule", "word"] (spF K [0,0] 3 fK)) (l8:Kn P w K mg base k "_law_kept_right" ["_law_tongue_here", "_law_sentences", "_law_word"] (spF K [0,0,0] 3 cf)) (ld:Kn P w K mg base k "_law_parts_right" ["_law_tongue_here", "_law_one", "_law_other", "_law_word"] (spF K [0,0,0,0] 3 bZ)) (lg:Kn P w K mg base k "_law_kinds_right" ["_law_pen_here", "_law_tongue_here", "_law_signs", "_law_word"] (spF K [1,0,0,0] 3 b7)) (cO:Kn P w K mg base k "is_sentence" ["tongue", "thing"] (spF K [0,0] 3 bG)) (bB:Kn P w K mg base k "holds" ["tongue", "sentence", "word"] (spF K [0,0,0] 3 (aU 6))) (F:Fun K "law" "law" kF f fd):FnOk P w K mg base CX0 (k+1) f fd ["_law_script"] (spF K [0] 3 sv):=by
 have nd:=sclaw.nd
 refine F.okQ (N:=vA) (b:=vF) (J:=⟨[],[0,0,0,0,0,0,0,0,0],3,[]⟩) (ds0:=[0,0,0,0,0,0,0,0,0]) sclaw rfl rfl rfl rfl fun cdv A outer s H E hr=>?_
 exact (ah (cn (ds1:=[0,0,0,0,0,0,0,0,0]) rfl (dz rfl T.range0 (aa (ak (d':=0) ag (by decide)) ae rfl) rfl) (aG (i:=1) (ds':=[0,0,0,0,0,0,0,0,0]) nd rfl (.inl rfl) rfl (by decide) (by decide) (.inl rfl)) (oo (ds2:=[0,0,1,0,0,0,0,0,0]) (ah (au (i:=2) (d:=1) (ds':=[0,0,1,0,0,0,0,0,0]) nd rfl (.inr rfl) (ak (d':=1) (av uu hr rfl (aa (ac (i:=0) rfl (.inl rfl) rfl rfl rfl) (aa (ac (i:=1) rfl (.inl rfl) rfl rfl rfl) ae rfl) rfl) rfl rfl rfl rfl rfl) (by decide)) rfl (by decide) (by decide) rfl (.inl rfl))
  (ah (au (i:=3) (d:=0) (ds':=[0,0,1,0,0,0,0,0,0]) nd rfl (.inr rfl) (aO qm hr rfl (aK (i:=2) rfl (.inr (.inl rfl)) ae rfl rfl) rfl rfl rfl rfl) rfl (by decide) (by decide) rfl (.inl rfl))
  (ah (au (i:=4) (d:=0) (ds':=[0,0,1,0,0,0,0,0,0]) nd rfl (.inr rfl) (ay (aF (K:=K) rfl) (bQ (d:=3) (c:=3) (aa (cX (K:=K) rfl PySem.F.slot_str_join PySem.F.type_str_join (hR rfl) hV ao (aa (ac (i:=3) rfl (.inr (.inl rfl)) rfl rfl rfl) ae rfl) rfl rfl rfl rfl rfl rfl) (aa (bw kz (cX (K:=K) rfl PySem.F.slot_str_join PySem.F.type_str_join (hR rfl) hV ao (aa (ac (i:=3) rfl (.inr (.inl rfl)) rfl rfl rfl) ae rfl) rfl rfl rfl rfl rfl rfl) bK (bJ ag)) ae rfl) rfl) rfl rfl (by decide)) (aO aN hr rfl (aK (i:=2) rfl (.inr (.inl rfl)) (aa (ak (d':=0) ag (by decide)) ae rfl) rfl rfl) rfl rfl rfl rfl) (fun _ _=>rfl)) rfl (by decide) (by decide) rfl (.inl rfl))
  (ah (gu (ds1:=[0,0,1,0,0,0,0,0,0]) (eW (i:=5) (ds':=[0,0,1,0,0,1,0,0,0]) (cd:=0) (d:=1) (dsi:=[0,1,0,0]) (lk:=[1,2,3]) nd rfl rfl (BlkOkC.of (ns:=["_law_k", "_law_pen_here", "_law_tongue_here", "_law_signs"]) (js:=[none,some 2,some 3,some 4]) (N0:=vA) (sc0:=ar kF) rfl rfl (by decide +kernel)) rfl (dz rfl T.range0 (aa (ak (d':=0) (aD bm ag (aO aN hr rfl (aK (i:=2) rfl (.inr (.inl rfl)) (aa (ak (d':=0) ag (by decide)) ae rfl) rfl rfl) rfl rfl rfl rfl)) (by decide)) ae rfl) rfl) (fun _ _ _ _ _=>(aG (i:=0) (ds':=[0,1,0,0]) (show (["_law_k", "_law_pen_here", "_law_tongue_here", "_law_signs"]:List Str).Nodup by decide +kernel) rfl (.inl rfl) rfl (by decide) (by decide) (.inr rfl))) (fun _ _ _ _ _=>bI) (fun _ _ _ _ _=>(aO nV hr rfl (aK (i:=1) rfl (.inr (.inl rfl)) (aa (ac (i:=2) rfl (.inr (.inl rfl)) rfl rfl rfl) (aa (ac (i:=3) rfl (.inr (.inl rfl)) rfl rfl rfl) ae rfl) rfl) rfl rfl) rfl rfl rfl rfl)) rfl rfl rfl (by decide) rfl (by decide) (by decide) rfl (fun _=>rfl)) rfl)
  (ah (au (i:=6) (d:=0) (ds':=[0,0,1,0,0,0,0,0,0]) nd rfl (.inl rfl) (av eI hr rfl (aa (ac (i:=5) rfl (.inl rfl) rfl rfl rfl) ae rfl) rfl rfl rfl rfl rfl) rfl (by decide) (by decide) rfl (.inl rfl))
  (ah (aA (ds2:=[0,0,1,0,0,0,0,0,0]) (bc (aS (av kc hr rfl (aa (ac (i:=3) rfl (.inr (.inl rfl)) rfl rfl rfl) (aa (ac (i:=5) rfl (.inl rfl) rfl rfl rfl) ae rfl) rfl) rfl rfl rfl rfl rfl) (fun _=>rfl))) (aj (am aX rfl)) ax)
  (aj (cn (ds1:=[0,0,1,0,0,0,0,0,0]) rfl (bn (K:=K) rfl (aO qH hr rfl (aK (i:=2) rfl (.inr (.inl rfl)) (aa (ac (i:=4) rfl (.inr (.inl rfl)) rfl rfl rfl) (aa (ac (i:=5) rfl (.inl rfl) rfl rfl rfl) ae rfl) rfl) rfl rfl) rfl rfl rfl rfl)) (aG (i:=7) (ds':=[0,0,1,0,0,0,0,0,0]) nd rfl (.inl rfl) rfl (by decide) (by decide) (.inl rfl)) (ah (aA (ds2:=[0,0,1,0,0,0,0,0,0]) (bc (aS (av l8 hr rfl (aa (ac (i:=3) rfl (.inr (.inl rfl)) rfl rfl rfl) (aa (ac (i:=5) rfl (.inl rfl) rfl rfl rfl) (aa (ac (i:=7) rfl (.inl rfl) rfl rfl rfl) ae rfl) rfl) rfl) rfl rfl rfl rfl rfl) (fun _=>rfl))) (aj (am aX rfl)) ax)
  (ah (aA (ds2:=[0,0,1,0,0,0,0,0,0]) (bc (aS (av ld hr rfl (aa (ac (i:=3) rfl (.inr (.inl rfl)) rfl rfl rfl) (aa (ay (aF (K:=K) rfl) (ac (i:=5) rfl (.inl rfl) rfl rfl rfl) ag (fun _ _=>rfl)) (aa (ay (aF (K:=K) rfl) (ac (i:=5) rfl (.inl rfl) rfl rfl rfl) (fU ig ag) (fun _ _=>rfl)) (aa (ac (i:=7) rfl (.inl rfl) rfl rfl rfl) ae rfl) rfl) rfl) rfl) rfl rfl rfl rfl rfl) (fun _=>rfl))) (aj (am aX rfl)) ax)
  (ah (aA (ds2:=[0,0,1,0,0,0,0,0,0]) (bc (aS (aO lg hr rfl (aK (i:=2) rfl (.inr (.inl rfl)) (aa (ac (i:=3) rfl (.inr (.inl rfl)) rfl rfl rfl) (aa (ac (i:=4) rfl (.inr (.inl rfl)) rfl rfl rfl) (aa (ac (i:=7) rfl (.inl rfl) rfl rfl rfl) ae rfl) rfl) rfl) rfl rfl) rfl rfl rfl rfl) (fun _=>rfl))) (aj (am aX rfl)) ax)
  (ah (au (i:=8) (d:=0) (ds':=[0,0,1,0,0,0,0,0,0]) nd rfl (.inl rfl) (ak (d':=0) (av ni hr rfl (aa (aE (d:=0) (c:=0) (aa (ac (i:=3) rfl (.inr (.inl rfl)) rfl rfl rfl) (aa (dN (jH (K:=K) rfl) rfl T.tuple0 (by decide +kernel) (aa (ak (d':=0) (bw (eE (K:=K) rfl) (ac (i:=5) rfl (.inl rfl) rfl rfl rfl) bK (bJ ag)) (by decide)) ae rfl) rfl (by decide) rfl rfl rfl) ae rfl) rfl) rfl rfl) (aa (ac (i:=7) rfl (.inl rfl) rfl rfl rfl) ae rfl) rfl) rfl rfl rfl rfl rfl) (by decide)) rfl (by decide) (by decide) rfl (.inl rfl))
  (aj (aA (ds2:=[0,0,1,0,0,0,0,0,0]) (qpt (ie (aS (av cO hr rfl (aa (ac (i:=3) rfl (.inr (.inl rfl)) rfl rfl rfl) (aa (ac (i:=6) rfl (.inl rfl) rfl rfl rfl) ae rfl) rfl) rfl rfl rfl rfl rfl) (fun _=>rfl)) (gp (az (dZ (K:=K) rfl hr.units) (av bB hr rfl (aa (ac (i:=3) rfl (.inr (.inl rfl)) rfl rfl rfl) (aa (ac (i:=6) rfl (.inl rfl) rfl rfl rfl) (aa (ac (i:=7) rfl (.inl rfl) rfl rfl rfl) ae rfl) rfl) rfl) rfl rfl rfl rfl rfl) (ac (i:=8) rfl (.inl rfl) rfl rfl rfl) (aB _))))) (aj (am aX rfl)) ax)))))) PassesOwn.never (fun _=>rfl))))))))) rfl) PassesOwn.never (fun _=>rfl))
  (aj (am aX rfl)))
end
end W09
set_option maxHeartbeats 1000000
namespace W09
open PySem L2 Tg
inductive Sn where
 | long (lo:Nat) (hi:Option Nat) | least (k m:Nat) | often (z:Str) (m:Nat) | apart
 | without (z:Str) | begins (z:Str) | ends (z:Str) | no (s:Sn) | both (s t:Sn) | either (s t:Sn)
def oD:Option Nat→D
 | none=>.none
 | some n=>.int n
def sD:Sn→D
 | .long lo hi=>.tuple [.str "long",.int lo,oD hi]
 | .least k m=>.tuple [.str "least",.int k,.int m]
 | .often z m=>.tuple [.str "often",.str z,.int m]
 | .apart=>.tuple [.str "apart"]
 | .without z=>.tuple [.str "without",.str z]
 | .begins z=>.tuple [.str "begins",.str z]
 | .ends z=>.tuple [.str "ends",.str z]
 | .no s=>.tuple [.str "not",sD s]
 | .both s t=>.tuple [.str "both",sD s,sD t]
 | .either s t=>.tuple [.str "either",sD s,sD t]
def plain:Sn→Bool
 | .no _=>false
 | .both _ _=>false
 | .either _ _=>false
 | _=>true
def dep:Sn→Nat
 | .no s=>dep s+1
 | .both s t=>max (dep s) (dep t)+1
 | .either s t=>max (dep s) (dep t)+1
 | _=>1
def cnt:Sn→Nat
 | .no s=>cnt s+1
 | .both s t=>cnt s+cnt t+1
 | .either s t=>cnt s+cnt t+1
 | _=>1
def aQ (ks:List Str):Sn→Str→Bool
 | .long lo hi,w=>decide ((lo:Int)≤(w.length:Nat)) && (match hi with
  | none=>true
  | some h=>decide (((w.length:Nat):Int)≤(h:Nat)))
 | .least k m,w=>decide ((m:Int)≤(((li w).filter fun c=>decide (c∈li (ks.getD k ""))).length:Nat))
 | .often z m,w=>(li z).all fun c=>decide ((((li w).count c:Nat):Int)≤(m:Nat))
 | .apart,w=>(List.zipWith (fun a b=>!decide (mk1 a=mk1 b)) (li w) (li w).tail).all id
 | .without z,w=>!cm w z
 | .begins z,w=>Txt.startswith w z
 | .ends z,w=>Txt.endswith w z
 | .no s,w=>!aQ ks s w
 | .both s t,w=>aQ ks s w && aQ ks t w
 | .either s t,w=>aQ ks s w || aQ ks t w
def HOk (ks:List Str):Sn→Prop
 | .least k _=>k < ks.length
 | .often z _=>(li z).length≤1000
 | .no s=>HOk ks s
 | .both s t=>HOk ks s∧HOk ks t
 | .either s t=>HOk ks s∧HOk ks t
 | _=>True
theorem oB {α:Type} (f:α→Bool):∀ l:List α,hW (l.map fun a=>.bool (f a))=some (l.map f)
 | []=>rfl
 | a :: l=>by
  show (hW (l.map fun a=>.bool (f a))).map (f a :: ·)=_
  rw [oB f l]
  rfl
theorem all_map {α:Type} (f:α→Bool) (l:List α):dE [.list (l.map fun a=>.bool (f a))]=some (.bool (l.all f)):=by
 show (hW _).map _=_
 rw [oB]
 show some (PyData.bool ((l.map f).all id))=_
 rw [List.all_map]
 rfl
section
variable {ks:List Str} {w:Str}
theorem sL (T:TOk ks) (hw:w.length≤1000) {s:Sn} (hp:plain s=true) (ho:HOk ks s):W (bo [tD ks,sD s,.str w]) (fun r=>r=(.bool (aQ ks s w),[none,none,none])):=by
 have zw:=sz hw
 have hl:(li w).length=w.length:=Array.length_toList
 cases s with
 | no s=>cases hp
 | both s t=>cases hp
 | either s t=>cases hp
 | long lo hi =>
  cases hi with
  | none =>
   simp only [bo,bO,sD,oD,ws,hds,zw,aQ]
   by_cases h:(lo:Int)≤(w.length:Nat)
   ·simp only [ws,h,Bool.true_and]
   ·simp only [ws,h,Bool.false_and]
  | some m =>
   simp only [bo,bO,sD,oD,ws,hds,zw,aQ]
   by_cases h:(lo:Int)≤(w.length:Nat)
   ·simp only [ws,h,Bool.true_and,zw]
   ·simp only [ws,h,Bool.false_and]
 | least k m =>
  simp only [bo,bO,sD,ws,hds,aQ]
  have hk:k < ks.length:=ho
  have e:atI (ks.map PyData.str) (k:Int)=some (.str (ks.getD k "")):=by
   rw [bD,List.getElem?_map,List.getElem?_eq_getElem hk,List.getD_eq_getElem?_getD,List.getElem?_eq_getElem hk]
   rfl
  simp only [tD,ws,e]
  refine iK (fun t=>match t with | .str z=>cm (ks.getD k "") z | _=>false) id (by unfold bv; rw [List.length_map,hl]; exact zw) (fun t ht=>?_) (fun t ht _=>?_) fun o'=>?_
  ·obtain ⟨c,hc,rfl⟩:=List.mem_map.mp ht
   simp only [iL,ws]
  ·simp only [iR,ws]; rfl
  ·have e2:∀ l:List Nat,(((l.map s1).filter fun t=>match t with | .str z=>cm (ks.getD k "") z | _=>false).map id).length=(l.filter fun c=>decide (c∈li (ks.getD k ""))).length:=by
    intro l
    rw [List.map_id,List.filter_map,List.length_map]
    congr 1
    refine List.filter_congr fun c _=>?_
    exact StrLaws.found_one _ c
   simp only [ws,bv,e2]
 | often z m =>
  simp only [bo,bO,sD,ws,hds,aQ]
  have hz:(bv z).length≤sizeLine:=by unfold bv; rw [List.length_map]; exact sz (ho:(li z).length≤1000)
  refine jk (fun t=>match t with | .str y=>.bool (decide ((((li w).count ((li y).getD 0 0):Nat):Int)≤(m:Nat))) | _=>.none) hz (fun t ht=>?_) fun o'=>?_
  ·obtain ⟨c,hc,rfl⟩:=List.mem_map.mp ht
   have ec:m5 w [.str (mk1 c)]=some (.int (((li w).count c:Nat):Int)):=rfl
   simp only [iQ,ws,ec]
   rfl
  ·have e:=all_map (fun c=>decide ((((li w).count c:Nat):Int)≤(m:Nat))) (li z)
   simp only [ws,bv,List.map_map,Function.comp_def]
   rw [show (fun x=>(match (PyData.str (mk1 x)) with | .str y=>PyData.bool (decide ((((li w).count ((li y).getD 0 0):Nat):Int)≤(m:Nat))) | _=>.none))=fun c=>PyData.bool (decide ((((li w).count c:Nat):Int)≤(m:Nat))) from rfl]
   simp only [ws,e]
 | apart =>
  simp only [bo,bO,sD,ws,hds,aQ,zw]
  have e1:bv ⟨(cQ w.cps.toList (some 1) none).toArray⟩=((li w).tail).map s1:=by
   unfold bv
   show List.map _ (b9 (li w) (some ((1:Nat):Int)) none)=_
   rw [m4,List.drop_one]
  rw [e1,show bv w=(li w).map s1 from rfl]
  have e3:∀ l m:List Nat,iS (l.map s1) (m.map s1)=(List.zip l m).map fun p=>.tuple [s1 p.1,s1 p.2]:=by
   intro l m
   unfold iS
   rw [List.zipWith_map,List.zip,List.map_zipWith]
  rw [e3]
  refine Gj (fun en=>∃ a b,en=[a,b]) (fun t=>match t with | .tuple [.str a,.str b]=>.bool (!decide (a=b)) | _=>.none) (by rw [List.length_map,List.length_zip,hl]; exact Nat.le_trans (Nat.min_le_left _ _) zw) ⟨none,none,rfl⟩ ?_ ?_
  ·rintro t ht en ⟨a,b,rfl⟩
   obtain ⟨c,hc,rfl⟩:=List.mem_map.mp ht
   simp only [iP,ws]
   exact ⟨_,_,rfl⟩
  ·rintro en ⟨a,b,rfl⟩
   have e:=all_map (fun p:Nat × Nat=>!decide (mk1 p.1=mk1 p.2)) (List.zip (li w) (li w).tail)
   simp only [ws,List.map_map,Function.comp_def,e]
   rw [show List.zipWith (fun a b=>!decide (mk1 a=mk1 b)) (li w) (li w).tail=(List.zip (li w) (li w).tail).map fun p=>!decide (mk1 p.1=mk1 p.2) by rw [List.zip,List.map_zipWith],List.all_map]
   rfl
 | without z=>simp only [bo,bO,sD,ws,hds,aQ]
 | begins z=>simp only [bo,bO,sD,ws,hds,aQ]
 | ends z=>simp only [bo,bO,sD,ws,hds,aQ]
end
end W09
namespace W09
open PySem L2 Tg
section
variable {ks:List Str} {w:Str}
theorem k5:∀ s:Sn,1≤dep s:=by intro s; cases s <;> simp [dep]
theorem bF (T:TOk ks) (hw:w.length≤1000):∀ (n:Nat) (s:Sn),dep s≤n→HOk ks s→W (aU n [tD ks,sD s,.str w]) (fun r=>r=(.bool (aQ ks s w),[none,none,none]))
 | 0,s,h,_=>by have:=k5 s; omega
 | n+1,s,h,ho=>by
  by_cases hp:plain s=true
  ·have e:=sL (w:=w) T hw hp ho
   show W (fnF 1 [0,0,0] (fN (aU n)) _) _
   cases s with
   | no s=>cases hp
   | both s t=>cases hp
   | either s t=>cases hp
   | _ =>
    simp only [sD] at e ⊢
    simp only [fN,ws,hds]
    refine e.use ?_
    rintro _ rfl
    simp only [ws]
  ·show W (fnF 1 [0,0,0] (fN (aU n)) _) _
   cases s with
   | no s =>
    have e:=bF T hw n s (by simp only [dep] at h; omega) ho
    simp only [sD,fN,ws,hds]
    refine e.use ?_
    rintro _ rfl
    simp only [ws,aQ]
   | both s t =>
    have e:=bF T hw n s (by simp only [dep] at h; omega) ho.1
    have e2:=bF T hw n t (by simp only [dep] at h; omega) ho.2
    simp only [sD,fN,ws,hds]
    refine e.use ?_
    rintro _ rfl
    cases hs:aQ ks s w with
    | false=>simp only [ws,aQ,hs,Bool.false_and]
    | true =>
     simp only [ws]
     refine e2.use ?_
     rintro _ rfl
     simp only [ws,aQ,hs,Bool.true_and]
   | either s t =>
    have e:=bF T hw n s (by simp only [dep] at h; omega) ho.1
    have e2:=bF T hw n t (by simp only [dep] at h; omega) ho.2
    simp only [sD,fN,ws,hds]
    refine e.use ?_
    rintro _ rfl
    cases hs:aQ ks s w with
    | true=>simp only [ws,aQ,hs,Bool.true_or]
    | false =>
     simp only [ws]
     refine e2.use ?_
     rintro _ rfl
     simp only [ws,aQ,hs,Bool.false_or]
   | _=>exact (hp (by rfl)).elim
def wt (ks:List Str):Sn→Nat
 | .long lo none=>lo+1
 | .long _ (some h)=>h+2
 | .least _ m=>m+1
 | .often z m=>(m+1) ^ (li z).length+1
 | .apart=>(bz ks).length+2
 | .without z=>(li z).length+1
 | .begins z=>(li z).length+2
 | .ends z=>(li z).length+1
 | .no s=>wt ks s
 | .both s t=>wt ks s * wt ks t
 | .either s t=>wt ks s * wt ks t
def WOk (ks:List Str):Sn→Prop
 | .often z m=>m≤100∧(li z).length≤100
 | .without z=>(li z).length≤100
 | .begins z=>(li z).length≤100
 | .ends z=>(li z).length≤100
 | .no s=>WOk ks s
 | .both s t=>WOk ks s∧WOk ks t∧wt ks t≤1000000
 | .either s t=>WOk ks s∧WOk ks t∧wt ks t≤1000000
 | _=>True
theorem nN {a b:Int} (h0:0≤b) (h1:b≤1000000):CMul a b:=.inr ⟨by omega,Int.lt_of_le_of_lt h1 (by decide)⟩
theorem uM {z:Str} {m:Nat} (hm:m≤100) (hz:(li z).length≤100):W (cS [.str z,.int m]) (fun r=>r=(.int (((m+1) ^ (li z).length+1:Nat):Int),[none,none])):=by
 simp only [cS,gO,ws]
 refine iJ (fun i en=>∃ o,en=[some (.str z),some (.int m),some (.int (((m+1) ^ i:Nat):Int)),o]) ⟨none,rfl⟩ ?_ ?_
 ·rintro i t en ht ⟨o,rfl⟩
  simp only [ws,iO]
  refine ⟨nN (by omega) (by omega),some t,?_⟩
  rw [Nat.pow_succ]
  simp
 ·rintro en ⟨o,rfl⟩
  have e:(bv z).length=(li z).length:=by unfold bv; rw [List.length_map]
  simp only [ws,e]
  rfl
theorem pr (T:TOk ks):W (cE [tD ks]) (fun r=>r=(.str (sgs ks),[none])):=by
 simp only [cE,kP,ws,qS T]
theorem jg:(sgs ks).length=(bz ks).length:=BF _
theorem sw (T:TOk ks) {s:Sn} (hp:plain s=true) (ho:WOk ks s):W (bg [tD ks,sD s]) (fun r=>r=(.int (wt ks s),[none,none])):=by
 cases s with
 | no s=>cases hp
 | both s t=>cases hp
 | either s t=>cases hp
 | long lo hi =>
  cases hi with
  | none=>simp only [bg,bH,sD,oD,ws,hds,wt]; rfl
  | some m=>simp only [bg,bH,sD,oD,ws,hds,wt]; rfl
 | least k m=>simp only [bg,bH,sD,ws,hds,wt]; rfl
 | often z m =>
  simp only [bg,bH,sD,ws,hds,wt]
  refine (uM ho.1 ho.2).use ?_
  rintro _ rfl
  simp only [ws]
 | apart =>
  simp only [bg,bH,sD,ws,hds,wt]
  refine (pr T).use ?_
  rintro _ rfl
  have:=T.l12
  simp only [ws,jg]
  exact ⟨sz (by omega),rfl⟩
 | without z=>simp only [bg,bH,sD,ws,hds,wt]; exact ⟨sz (Nat.le_trans (Nat.le_of_eq (Array.length_toList).symm) (Nat.le_trans ho (by decide))),by rw [show z.length=(li z).length from Array.length_toList.symm]; rfl⟩
 | begins z=>simp only [bg,bH,sD,ws,hds,wt]; exact ⟨sz (Nat.le_trans (Nat.le_of_eq (Array.length_toList).symm) (Nat.le_trans ho (by decide))),by rw [show z.length=(li z).length from Array.length_toList.symm]; rfl⟩
 | ends z=>simp only [bg,bH,sD,ws,hds,wt]; exact ⟨sz (Nat.le_trans (Nat.le_of_eq (Array.length_toList).symm) (Nat.le_trans ho (by decide))),by rw [show z.length=(li z).length from Array.length_toList.symm]; rfl⟩
theorem cU (T:TOk ks):∀ (n:Nat) (s:Sn),dep s≤n→WOk ks s→W (bE n [tD ks,sD s]) (fun r=>r=(.int (wt ks s),[none,none]))
 | 0,s,h,_=>by have:=k5 s; omega
 | n+1,s,h,ho=>by
  by_cases hp:plain s=true
  ·have e:=sw T hp ho
   show W (fnF 1 [0,0] (eJ (bE n)) _) _
   cases s with
   | no s=>cases hp
   | both s t=>cases hp
   | either s t=>cases hp
   | _ =>
    simp only [sD] at e ⊢
    simp only [eJ,ws,hds]
    refine e.use ?_
    rintro _ rfl
    simp only [ws]
  ·show W (fnF 1 [0,0] (eJ (bE n)) _) _
   cases s with
   | no s =>
    have e:=cU T n s (by simp only [dep] at h; omega) ho
    simp only [sD,eJ,ws,hds]
    refine e.use ?_
    rintro _ rfl
    simp only [ws,wt]
   | both s t =>
    have e:=cU T n s (by simp only [dep] at h; omega) ho.1
    have e2:=cU T n t (by simp only [dep] at h; omega) ho.2.1
    simp only [sD,eJ,ws,hds]
    refine e.use ?_
    rintro _ rfl
    simp only [ws]
    refine e2.use ?_
    rintro _ rfl
    have:=ho.2.2
    simp only [ws,wt]
    exact ⟨nN (by omega) (by omega),by simp⟩
   | either s t =>
    have e:=cU T n s (by simp only [dep] at h; omega) ho.1
    have e2:=cU T n t (by simp only [dep] at h; omega) ho.2.1
    simp only [sD,eJ,ws,hds]
    refine e.use ?_
    rintro _ rfl
    simp only [ws]
    refine e2.use ?_
    rintro _ rfl
    have:=ho.2.2
    simp only [ws,wt]
    exact ⟨nN (by omega) (by omega),by simp⟩
   | _=>exact (hp (by rfl)).elim
end
end W09
namespace W09
open PySem L2 Tg
section
variable {ks:List Str} {w:Str}
theorem mH (f:Nat→Str):∀ n,(∀ i j,i < n→j < n→f i=f j→i=j)→cv f n=(List.range n).map f
 | 0,_=>rfl
 | n+1,h=>by
  rw [iF,mH f n fun i j hi hj e=>h i j (by omega) (by omega) e,List.range_succ,List.map_append,if_neg]
  ·rfl
  ·intro q
   rw [List.any_map,List.any_eq_true] at q
   obtain ⟨i,hi,e⟩:=q
   have hi':=List.mem_range.mp hi
   have:=h i n (by omega) (by omega) (eq_of_beq e)
   omega
theorem BE {z:Str} (h:(li z).Nodup):(cv (eB z) z.length).length=z.length:=by
 have hl:(li z).length=z.length:=Array.length_toList
 rw [mH _ _ fun i j hi hj e=>?_,List.length_map,List.length_range]
 have g:∀ k,k < z.length→∃ c,(li z)[k]?=some c∧eB z k=mk1 c:=fun k hk=>by
  have hk':k < (li z).length:=by rw [hl]; exact hk
  refine ⟨(li z)[k],List.getElem?_eq_getElem hk',?_⟩
  unfold eB
  rw [← Array.getElem?_toList,show z.cps.toList[k]?=some (li z)[k] from List.getElem?_eq_getElem hk']
 obtain ⟨c,h1,h2⟩:=g i hi
 obtain ⟨d,h3,h4⟩:=g j hj
 rw [h2,h4] at e
 have ecd:c=d:=by
  have:=congrArg li e
  have h5:[c]=[d]:=this
  injection h5
 subst ecd
 exact (List.getElem?_inj (by rw [hl]; exact hi) h).mp (h1.trans h3.symm)
theorem nY {z:Str} (h:(li z).Nodup) (hz:z.length≤100):W (cF [.str z]) (fun r=>r=(.bool true,[none])):=by
 simp only [cF,i9,ws,BE h]
 exact ⟨by omega,sz (by omega)⟩
theorem on (T:TOk ks) {z:Str} (hz:z.length≤60) (hm:∀ c∈li z,c∈bz ks):W (et [tD ks,.str z]) (fun r=>r=(.bool true,[none,none])):=by
 have h1:¬ (60:Int) < (z.length:Nat):=by omega
 simp only [et,me,ws,h1]
 refine ⟨sz (by omega),?_⟩
 refine W.use (pr T) ?_
 rintro _ rfl
 simp only [ws]
 have hl:(bv z).length=z.length:=by unfold bv; rw [List.length_map]; exact Array.length_toList
 refine jk (fun _=>.bool true) (by rw [hl]; exact sz (by omega)) (fun t ht=>?_) fun o'=>?_
 ·obtain ⟨c,hc,rfl⟩:=List.mem_map.mp ht
  have e:cm (sgs ks) (mk1 c)=true:=(StrLaws.found_one (sgs ks) c).trans (decide_eq_true (hm c hc))
  simp only [nk,ws,e]
 ·have e:=all_map (fun _:D=>true) (bv z)
  simp only [ws,e]
  simp
theorem nv (T:TOk ks) {z:Str} (h1:1≤z.length) (h2:z.length≤6) (hm:∀ c∈li z,c∈bz ks):W (cT [tD ks,.str z]) (fun r=>r=(.bool true,[none,none])):=by
 simp only [cT,gP,ws]
 refine W.use (on T (by omega) hm) ?_
 rintro _ rfl
 have a:(1:Int)≤(z.length:Nat):=by omega
 have b:((z.length:Nat):Int)≤6:=by omega
 simp only [ws,a,b]
 exact sz (by omega)
theorem fP {n a b:Int} (h1:a≤n) (h2:n≤b):W (bi [.int n,.int a,.int b]) (fun r=>r=(.bool true,[none,none,none])):=by
 simp only [bi,fj,gy,kQ,ws,h1,h2]
def SOk (ks:List Str):Sn→Prop
 | .long lo hi=>lo≤30∧∀ h,hi=some h→lo≤h∧h≤30
 | .least k m=>k < ks.length∧m≤9
 | .often z m=>1≤z.length∧z.length≤4∧(li z).Nodup∧(∀ c∈li z,c∈bz ks)∧m≤3
 | .without z=>1≤z.length∧z.length≤6∧∀ c∈li z,c∈bz ks
 | .begins z=>1≤z.length∧z.length≤6∧∀ c∈li z,c∈bz ks
 | .ends z=>1≤z.length∧z.length≤6∧∀ c∈li z,c∈bz ks
 | .no s=>SOk ks s
 | .both s t=>SOk ks s∧SOk ks t
 | .either s t=>SOk ks s∧SOk ks t
 | .apart=>True
theorem qE (T:TOk ks) {s:Sn} (hp:plain s=true) (ho:SOk ks s):W (bP [tD ks,sD s]) (fun r=>r=(.bool true,[none,none])):=by
 have lt:(List.map PyData.str ks).length=ks.length:=List.length_map _
 cases s with
 | no s=>cases hp
 | both s t=>cases hp
 | either s t=>cases hp
 | long lo hi =>
  cases hi with
  | none =>
   simp only [bP,cj,sD,oD,ws,hds,ce,dH,Int.reduceEq]
   have:=ho.1
   refine W.use (fP (by omega) (by omega)) ?_
   rintro _ rfl
   simp only [ws]
  | some m =>
   obtain ⟨h1,h2⟩:=ho
   have h3:=h2 m rfl
   simp only [bP,cj,sD,oD,ws,hds,ce,dH,Int.reduceEq]
   refine W.use (fP (by omega) (by omega)) ?_
   rintro _ rfl
   simp only [ws]
   refine W.use (fP (by omega) (by omega)) ?_
   rintro _ rfl
   simp only [ws]
 | least k m =>
  obtain ⟨h1,h2⟩:=ho
  simp only [bP,cj,sD,ws,hds,tD,Int.reduceEq]
  refine W.use (fP (by omega) (by omega)) ?_
  rintro _ rfl
  simp only [ws]
  refine W.use (fP (by omega) (by omega)) ?_
  rintro _ rfl
  simp only [ws]
 | often z m =>
  obtain ⟨h1,h2,h3,h4,h5⟩:=ho
  have a:(1:Int)≤(z.length:Nat):=by omega
  have b:((z.length:Nat):Int)≤4:=by omega
  simp only [bP,cj,sD,ws,hds,c7,fM,Int.reduceEq]
  refine W.use (on T (by omega) h4) ?_
  rintro _ rfl
  simp only [ws,a,b]
  refine ⟨sz (by omega),?_⟩
  refine W.use (nY h3 (by omega)) ?_
  rintro _ rfl
  simp only [ws]
  refine W.use (fP (by omega) (by omega)) ?_
  rintro _ rfl
  simp only [ws]
 | apart=>simp only [bP,cj,sD,ws,hds,Int.reduceEq]
 | without z =>
  simp only [bP,cj,sD,ws,hds,Int.reduceEq]
  refine W.use (nv T ho.1 ho.2.1 ho.2.2) ?_
  rintro _ rfl
  simp only [ws]
 | begins z =>
  simp only [bP,cj,sD,ws,hds,Int.reduceEq]
  refine W.use (nv T ho.1 ho.2.1 ho.2.2) ?_
  rintro _ rfl
  simp only [ws]
 | ends z =>
  simp only [bP,cj,sD,ws,hds,Int.reduceEq]
  refine W.use (nv T ho.1 ho.2.1 ho.2.2) ?_
  rintro _ rfl
  simp only [ws]
end
end W09
namespace W09
open PySem L2 Tg
section
variable {ks:List Str} {w:Str}
theorem fw (T:TOk ks):∀ (n:Nat) (s:Sn) (d:Nat),d < n→SOk ks s→W (bV n [tD ks,sD s,.int d]) (fun r=>r=(.bool (decide (dep s≤d)),[none,none,none]))
 | 0,_,_,h,_=>by omega
 | n+1,s,d,h,ho=>by
  show W (fnF 1 [0,0,0] (cC (bV n)) _) _
  have dp:=k5 s
  by_cases h0:d=0
  ·subst h0
   have e:((0:Nat):Int)=0:=rfl
   simp only [cC,ws,e]
   rw [decide_eq_false (by omega)]
  ·have h1:¬ (d:Int)=0:=by omega
   have hd:((d:Int) - 1)=((d - 1:Nat):Int):=by omega
   by_cases hp:plain s=true
   ·have e:=qE T hp ho
    have e2:decide (dep s≤d)=true:=decide_eq_true (by cases s <;> first | (cases hp; done) | (show 1≤d; omega))
    rw [e2]
    cases s with
    | no s=>cases hp
    | both s t=>cases hp
    | either s t=>cases hp
    | _ =>
     simp only [sD] at e ⊢
     simp only [cC,ws,h1,Int.reduceEq,aR,bq,hds]
     refine W.use e ?_
     rintro _ rfl
     simp only [ws]
   ·cases s with
    | no s =>
     have e:=fw T n s (d - 1) (by omega) ho
     simp only [sD,cC,ws,h1,Int.reduceEq,Int.reduceAdd,aR,bq,hds,fL,hd]
     refine W.use e ?_
     rintro _ rfl
     simp only [ws]
     rw [show decide (dep s≤d - 1)=decide (dep (.no s)≤d) from decide_eq_decide.mpr (by simp only [dep]; omega)]
    | both s t =>
     have e:=fw T n s (d - 1) (by omega) ho.1
     have e2:=fw T n t (d - 1) (by omega) ho.2
     simp only [sD,cC,ws,h1,Int.reduceEq,Int.reduceAdd,aR,bq,hds,fL,hd]
     refine W.use e ?_
     rintro _ rfl
     simp only [ws,hd]
     refine W.use e2 ?_
     rintro _ rfl
     simp only [ws]
     rw [← Bool.decide_and,show decide (dep s≤d - 1∧dep t≤d - 1)=decide (dep (.both s t)≤d) from decide_eq_decide.mpr (by simp only [dep]; omega)]
    | either s t =>
     have e:=fw T n s (d - 1) (by omega) ho.1
     have e2:=fw T n t (d - 1) (by omega) ho.2
     simp only [sD,cC,ws,h1,Int.reduceEq,Int.reduceAdd,aR,bq,hds,fL,hd]
     refine W.use e ?_
     rintro _ rfl
     simp only [ws,hd]
     refine W.use e2 ?_
     rintro _ rfl
     simp only [ws]
     rw [← Bool.decide_and,show decide (dep s≤d - 1∧dep t≤d - 1)=decide (dep (.either s t)≤d) from decide_eq_decide.mpr (by simp only [dep]; omega)]
    | _=>exact (hp (by rfl)).elim
theorem jj:∀ (n:Nat) (s:Sn),dep s≤n→W (bx n [sD s]) (fun r=>r=(.int (cnt s),[none]))
 | 0,s,h=>by have:=k5 s; omega
 | n+1,s,h=>by
  show W (fnF 0 [0] (b8 (bx n)) _) _
  cases s with
  | no s =>
   have e:=jj n s (by simp only [dep] at h; omega)
   simp only [sD,b8,ws,Int.reduceEq,aR,bq,hds,ef]
   refine W.use e ?_
   rintro _ rfl
   simp only [ws,cnt]
   simp only [Prod.mk.injEq,PyData.int.injEq,and_true]
   omega
  | both s t =>
   have e:=jj n s (by simp only [dep] at h; omega)
   have e2:=jj n t (by simp only [dep] at h; omega)
   simp only [sD,b8,ws,Int.reduceEq,aR,bq,hds,ef]
   refine W.use e ?_
   rintro _ rfl
   simp only [ws]
   refine W.use e2 ?_
   rintro _ rfl
   simp only [ws,cnt]
   simp only [Prod.mk.injEq,PyData.int.injEq,and_true]
   omega
  | either s t =>
   have e:=jj n s (by simp only [dep] at h; omega)
   have e2:=jj n t (by simp only [dep] at h; omega)
   simp only [sD,b8,ws,Int.reduceEq,aR,bq,hds,ef]
   refine W.use e ?_
   rintro _ rfl
   simp only [ws]
   refine W.use e2 ?_
   rintro _ rfl
   simp only [ws,cnt]
   simp only [Prod.mk.injEq,PyData.int.injEq,and_true]
   omega
  | _=>simp only [sD,b8,ws,Int.reduceEq,aR,bq,hds,cnt]; rfl
def isS (s:Sn):Bool:=decide (dep s≤4) && decide (cnt s≤9)
theorem eY (T:TOk ks) {s:Sn} (ho:SOk ks s):W (bG [tD ks,sD s]) (fun r=>r=(.bool (isS s),[none,none])):=by
 have e:=fw T 6 s 4 (by omega) ho
 simp only [bG,iw,ws]
 refine W.use e ?_
 rintro _ rfl
 by_cases h:dep s≤4
 ·rw [decide_eq_true h]
  simp only [ws]
  refine W.use (jj 6 s (by omega)) ?_
  rintro _ rfl
  simp only [ws,isS,decide_eq_true h,Bool.true_and]
  rw [show decide ((cnt s:Int)≤9)=decide (cnt s≤9) from decide_eq_decide.mpr (by omega)]
 ·rw [decide_eq_false h]
  simp only [ws,isS,decide_eq_false h,Bool.false_and]
theorem tI {k:Str} (h1:1≤(li k).length) (h2:(li k).length≤6) (hm:∀ c∈li k,c∈li ev):W (gi [.str k]) (fun r=>r=(.bool true,[none])):=by
 have hl:(li k).length=k.length:=Array.length_toList
 have a:(1:Int)≤(k.length:Nat):=by omega
 have b:((k.length:Nat):Int)≤6:=by omega
 simp only [gi,mi,ws,a,b]
 refine ⟨sz (by omega),?_⟩
 refine jk (fun _=>.bool true) (by unfold bv; rw [List.length_map]; exact sz (by omega)) (fun t ht=>?_) fun o'=>?_
 ·obtain ⟨c,hc,rfl⟩:=List.mem_map.mp ht
  obtain ⟨c1,c2,c3⟩:=Cm c (hm c hc)
  have e:rH [.str (mk1 c)]=some (.int (c:Nat)):=rfl
  have d1:(33:Int)≤(c:Nat):=by omega
  have d2:((c:Nat):Int)≤126:=by omega
  have d3:¬ ((c:Nat):Int)=37:=by omega
  simp only [nq,ir,mf,ws,e,d1,d2,d3]
 ·have e:=all_map (fun _:D=>true) (bv k)
  simp only [ws,e]
  simp
theorem lq (T:TOk ks):W (cZ [tD ks]) (fun r=>r=(.bool true,[none])):=by
 obtain ⟨n1,n4,fu,nd,l12,l1,mem⟩:=T
 have T:TOk ks:=⟨n1,n4,fu,nd,l12,l1,mem⟩
 have a:(1:Int)≤(ks.length:Nat):=by omega
 have b:((ks.length:Nat):Int)≤4:=by omega
 have c:((sgs ks).length:Int)≤12:=by rw [jg]; omega
 simp only [cZ,j5,tD,ws,a,b]
 refine jk (fun _=>.bool true) (by rw [List.length_map]; exact sz (by omega)) (fun t ht=>?_) fun o'=>?_
 ·obtain ⟨k,hk,rfl⟩:=List.mem_map.mp ht
  simp only [kK,ws]
  refine W.use (tI (fu k hk).1 (fu k hk).2 fun c hc=>mem c ?_) ?_
  ·unfold bz
   exact List.mem_flatten.mpr ⟨li k,List.mem_map.mpr ⟨k,hk,rfl⟩,hc⟩
  ·rintro _ rfl
   simp only [ws]
 ·have e:=all_map (fun _:D=>true) (List.map PyData.str ks)
  have e2:((List.map PyData.str ks).all fun _=>true)=true:=by simp
  simp only [ws,e,e2]
  refine W.use (pr T) ?_
  rintro _ rfl
  simp only [ws,c]
  refine ⟨sz (by rw [jg]; omega),?_⟩
  refine W.use (nY (z:=sgs ks) nd (by rw [jg]; omega)) ?_
  rintro _ rfl
  simp only [ws]
def rD (ks:List Str) (ss:List Sn):D:=.tuple [tD ks,.tuple (ss.map sD)]
theorem iE (T:TOk ks) {ss:List Sn} (hl:ss.length≤8) (ho:∀ s∈ss,SOk ks s∧isS s=true):W (dG [tD ks,.list (ss.map sD)]) (fun r=>r=(rD ks ss,[none,none])):=by
 have a:¬ (8:Int) < (ss.length:Nat):=by omega
 simp only [dG,ma,ws]
 refine W.use (lq T) ?_
 rintro _ rfl
 simp only [ws,a]
 refine uo (fun en=>∃ x y,en=[some (tD ks),some (.list (ss.map sD)),x,y]) ⟨none,none,rfl⟩ ?_ ?_
 ·rintro t ht en ⟨x,y,rfl⟩
  unfold eF at ht
  obtain ⟨⟨u,i⟩,hu,rfl⟩:=List.mem_map.mp ht
  obtain ⟨s,hs,rfl⟩:=List.mem_map.mp (List.fst_mem_of_mem_zipIdx hu)
  simp only [ws,nh]
  refine W.use (eY T (ho s hs).1) ?_
  rintro _ rfl
  simp only [ws,(ho s hs).2]
  exact ⟨_,_,rfl⟩
 ·rintro en ⟨x,y,rfl⟩
  simp only [ws,rD]
theorem tH (T:TOk ks) {ss:List Sn} (hl:ss.length≤8) (ho:∀ s∈ss,SOk ks s∧isS s=true):W (gg [rD ks ss]) (fun r=>r=(.bool true,[none])):=by
 have a:¬ (8:Int) < (ss.length:Nat):=by omega
 simp only [gg,mh,rD,ws,Int.reduceEq]
 refine W.use (lq T) ?_
 rintro _ rfl
 simp only [ws,a]
 refine jk (fun _=>.bool true) (by rw [List.length_map]; exact sz (by omega)) (fun t ht=>?_) fun o'=>?_
 ·obtain ⟨s,hs,rfl⟩:=List.mem_map.mp ht
  simp only [np,ws]
  refine W.use (eY T (ho s hs).1) ?_
  rintro _ rfl
  simp only [ws,(ho s hs).2]
 ·have e:=all_map (fun _:D=>true) (List.map sD ss)
  have e2:((List.map sD ss).all fun _=>true)=true:=by simp
  simp only [ws,e,e2]
theorem lN (T:TOk ks) (hw:w.length≤1000) {ss:List Sn} (hl:ss.length≤1000) (ho:∀ s∈ss,HOk ks s∧dep s≤6):W (fK [rD ks ss,.str w]) (fun r=>r=(.bool (ss.all fun s=>aQ ks s w),[none,none])):=by
 simp only [fK,qr,rD,ws]
 have h:W (lcF (gN 0) cY l9 (ss.map sD) [] [none,some (.tuple [tD ks,.tuple (ss.map sD)]),some (.str w)]) (fun r=>r.1=ss.map fun s=>.bool (aQ ks s w)):=by
  refine nS (fun i us en=>us=(ss.take i).map (fun s=>.bool (aQ ks s w))∧∃ o,en=[o,some (.tuple [tD ks,.tuple (ss.map sD)]),some (.str w)]) (by rw [List.length_map]; exact sz hl) ⟨rfl,none,rfl⟩ ?_ ?_
  ·rintro i t us en ht _ ⟨rfl,o,rfl⟩
   rw [List.getElem?_map] at ht
   obtain ⟨s,hs,rfl⟩:=Option.map_eq_some_iff.mp ht
   have hm:=List.mem_of_getElem? hs
   simp only [ws,l9]
   refine W.use (bF T hw 6 s (ho s hm).2 (ho s hm).1) ?_
   rintro _ rfl
   simp only [ws]
   exact ⟨by rw [iD hs,List.map_append]; rfl,_,rfl⟩
  ·rintro us en _ ⟨rfl,o,rfl⟩
   rw [List.length_map,List.take_length]
 refine W.use h ?_
 rintro ⟨us,en⟩ rfl
 simp only [ws,all_map]
end
end W09
namespace W09
open PySem L2 Tg Pen3
theorem sH {p:D} (hp:IsPen p):W (dw [p]) (fun r=>∃ ks p',r=(tD ks,[some p'])∧TOk ks∧IsPen p'):=by
 have e0:jE [.str (("!\"#$&'()*+,-./0123456789:;<=>?@ABCDEFGHIJKLMNOPQRSTUVWXYZ" : Str)++("[\\]^_`abcdefghijklmnopqrstuvwxyz{|}~" : Str))]=some (.list ((li ev).map s1)):=og (z:=ev) (by rw [pW]; decide)
 simp only [dw,ix,ws,e0]
 refine ⟨Cl,bT hp (by decide) (by decide) fun r p1 r0 r1 hp1=>?_⟩
 obtain ⟨N,hN⟩:∃ N:Nat,(1+r)=(N:Int):=⟨(1+r).toNat,by omega⟩
 simp only [ws,hN]
 refine ⟨by decide,um hp1 (by rw [eD,pW]; decide) (by rw [pW]; decide) fun cs lf o' p2 pm cl hp2=>?_⟩
 rw [eD] at cl
 have cl:cs.length=12:=cl
 have nd:=(pm.nodup_iff.mpr Hb)
 have nd1:=(List.nodup_append.mp nd).1
 have mem:∀ c∈cs,c∈li ev:=fun c hc=>pm.mem_iff.mp (List.mem_append_left _ hc)
 simp only [ws]
 refine ⟨by omega,iJ (fun i en=>∃ p left ks a b,en=[some p,some (.str "!\"#$&'()*+,-./0123456789:;<=>?@ABCDEFGHIJKLMNOPQRSTUVWXYZ"),some (.list (lf.map s1)),some (.int N),some (.list (left.map s1)),some (.list (ks.map .str)),a,b]∧IsPen p∧ks.length=i∧(bz ks++left).Nodup∧(∀ c∈bz ks++left,c∈li ev)∧(bz ks).length+left.length=12∧N≤left.length+i∧(∀ k∈ks,1≤(li k).length∧(li k).length≤6)) ⟨p2,cs,[],none,none,rfl,hp2,rfl,nd1,mem,by show 0+cs.length=12; omega,by omega,fun _ z=>by cases z⟩ ?_ ?_⟩
 ·rintro i t en ht ⟨p,left,ks,a,b,rfl,g1,g2,g3,g4,g5,g6,g7⟩
  obtain ⟨hi,rfl⟩:=kT ht
  have hi':i < N:=by simpa using hi
  simp only [ws,jr,gt_iff_lt]
  obtain ⟨mo,hmo⟩:∃ mo:Int,(if (left.length:Int) - ((N:Int) - 1 - (0+(i:Int))) < 6 then (left.length:Int) - ((N:Int) - 1 - (0+(i:Int))) else 6)=mo:=⟨_,rfl⟩
  have hm:1≤mo∧mo≤left.length∧mo≤(left.length:Int) - ((N:Int) - 1 - (i:Int))∧mo≤6:=by rw [← hmo]; split <;> omega
  rw [hmo]
  refine bT g1 (by omega) (by omega) fun r p1 r0 r1 hp1=>?_
  obtain ⟨z,hz⟩:∃ z:Nat,(1+r)=(z:Int):=⟨(1+r).toNat,by omega⟩
  have z1:1≤z:=by omega
  have zl:z≤left.length:=by omega
  have st:left.take z++left.drop z=left:=List.take_append_drop z left
  have tl:(left.take z).length=z:=by rw [List.length_take]; omega
  have dl:(left.drop z).length=left.length - z:=List.length_drop
  have al:bz (ks++[ofL (left.take z)])++left.drop z=bz ks++left:=by rw [oH,ib,List.append_assoc,st]
  simp only [ws,hz,dD,m4,← List.map_take,← List.map_drop,nH (cs:=left.take z) (by omega)]
  refine ⟨szl (by omega),p1,left.drop z,ks++[ofL (left.take z)],_,_,by rw [List.map_append]; rfl,hp1,by rw [List.length_append,g2]; rfl,by rw [al]; exact g3,by rw [al]; exact g4,?_,by rw [dl]; omega,fun k hk=>?_⟩
  ·rw [oH,ib,List.length_append,tl,dl]
   omega
  ·rcases List.mem_append.mp hk with hk | hk
   ·exact g7 k hk
   ·rw [List.mem_singleton.mp hk,ib,tl]
    omega
 ·rintro en ⟨p,left,ks,a,b,rfl,g1,g2,g3,g4,g5,g6,g7⟩
  rw [eD] at g2 g6
  have g2:ks.length=N:=by simpa using g2
  simp only [ws]
  refine ⟨ks,p,rfl,⟨by omega,by omega,g7,(List.nodup_append.mp g3).1,by omega,?_,fun c hc=>g4 c (List.mem_append_left _ hc)⟩,g1⟩
  obtain ⟨k,kt,rfl⟩:∃ k kt,ks=k :: kt:=by
   cases ks with
   | nil=>simp at g2; omega
   | cons k kt=>exact ⟨k,kt,rfl⟩
  have:=(g7 k List.mem_cons_self).1
  show 1≤(li k++bz kt).length
  rw [List.length_append]
  omega
theorem jy {p:D} {z:Str} {n:Nat} (hp:IsPen p) (h1:1≤(li z).length) (h2:(li z).length≤1000) (hn:n≤1000):W (bU [p,.str z,.int n]) (fun r=>∃ y p',r=(.str y,[some p',none,none])∧(li y).length=n∧(∀ c∈li y,c∈li z)∧IsPen p'):=by
 have hl:=Tg.len_li z
 simp only [bU,jb,ws]
 refine ⟨by omega,nS (fun i us en=>∃ (cs:List Nat) (o:Option D) (p:D),us=cs.map s1∧en=[o,some p,some (.str z)]∧cs.length=i∧(∀ c∈cs,c∈li z)∧IsPen p) (by rw [eD]; exact sz (by omega)) ⟨[],none,p,rfl,rfl,rfl,fun _ h=>(by cases h),hp⟩ ?_ ?_⟩
 ·rintro i t us en ht _ ⟨cs,o,p,rfl,rfl,h3,h4,hp⟩
  simp only [ws,ka]
  refine ⟨sz (by omega),bT hp (by omega) (by omega) fun r p' r0 r1 hp'=>?_⟩
  obtain ⟨k,rfl⟩:∃ k:Nat,r=k:=⟨r.toNat,(Int.toNat_of_nonneg r0).symm⟩
  have hk:k < (li z).length:=by omega
  have e:atI (li z) (k:Int)=some (li z)[k]:=by rw [bD]; exact List.getElem?_eq_getElem hk
  simp only [ws,e]
  refine ⟨sz (by omega),cs++[(li z)[k]],some t,p',by rw [List.map_append]; rfl,rfl,by rw [List.length_append,h3]; rfl,fun c hc=>?_,hp'⟩
  rcases List.mem_append.mp hc with hc | hc
  ·exact h4 c hc
  ·rw [List.mem_singleton.mp hc]
   exact List.getElem_mem hk
 ·rintro us en _ ⟨cs,o,p,rfl,rfl,h3,h4,hp⟩
  rw [eD,Int.toNat_natCast] at h3
  simp only [ws,nH (cs:=cs) (by omega)]
  exact ⟨ofL cs,p,rfl,h3,h4,hp⟩
theorem qJ {p:D} {z:Str} {m:Nat} (hp:IsPen p) (h1:1≤(li z).length) (h2:(li z).length≤1000) (hn:(li z).Nodup) (hm:1≤m) (hm2:m≤1000):W (c9 [p,.str z,.int m]) (fun r=>∃ y p',r=(.str y,[some p',none,none])∧1≤(li y).length∧(li y).length≤m∧(li y).Nodup∧(∀ c∈li y,c∈li z)∧IsPen p'):=by
 simp only [c9,j6,ws,og h2,gt_iff_lt]
 obtain ⟨mo,hmo⟩:∃ mo:Int,(if ((li z).length:Int) < (m:Int) then ((li z).length:Int) else (m:Int))=mo:=⟨_,rfl⟩
 have hq:1≤mo∧mo≤(li z).length∧mo≤m:=by rw [← hmo]; split <;> omega
 rw [hmo]
 refine bT hp (by omega) (by omega) fun r p1 r0 r1 hp1=>?_
 obtain ⟨N,hN⟩:∃ N:Nat,(1+r)=(N:Int):=⟨(1+r).toNat,by omega⟩
 simp only [ws,hN]
 refine ⟨by omega,um hp1 (by rw [eD]; omega) h2 fun cs lf o' p2 pm cl hp2=>?_⟩
 rw [eD,Int.toNat_natCast] at cl
 simp only [ws,nH (cs:=cs) (by omega)]
 refine ⟨ofL cs,p2,rfl,by rw [ib]; omega,by rw [ib]; omega,?_,fun c hc=>pm.mem_iff.mp (List.mem_append_left _ hc),hp2⟩
 exact (List.nodup_append.mp (pm.nodup_iff.mpr hn)).1
end W09
namespace W09
open PySem L2 Tg Pen3
structure Gn (ks:List Str) (s:Sn):Prop where
 so:SOk ks s
 ho:HOk ks s
 wo:WOk ks s
 dp:dep s≤2
 ct:cnt s≤2
 wl:wt ks s≤100
 pc:(∃ z,(li z).length≤6∧(s=.without z∨s=.begins z∨s=.ends z∨s=.no (.without z)∨s=.no (.begins z)∨s=.no (.ends z)))∨(∃ lo hi,s=.long lo hi)∨(∃ k m,s=.least k m)∨(∃ z m,s=.often z m)∨s=.apart
section
variable {ks:List Str} {w:Str}
theorem qV {z:Str} (h1:1≤(li z).length) (h2:(li z).length≤2) (hm:∀ c∈li z,c∈bz ks) (b:Bool):Gn ks (.without z)∧Gn ks (.begins z)∧Gn ks (.ends z)∧Gn ks (.no (.without z))∧Gn ks (.no (.begins z))∧Gn ks (.no (.ends z)):=by
 have hl:=Tg.len_li z
 have so:1≤z.length∧z.length≤6∧∀ c∈li z,c∈bz ks:=⟨by omega,by omega,hm⟩
 have wo:(li z).length≤100:=by omega
 refine ⟨⟨so,trivial,wo,?_,?_,?_,.inl ⟨z,by omega,?_⟩⟩,⟨so,trivial,wo,?_,?_,?_,.inl ⟨z,by omega,?_⟩⟩,⟨so,trivial,wo,?_,?_,?_,.inl ⟨z,by omega,?_⟩⟩,⟨so,trivial,wo,?_,?_,?_,.inl ⟨z,by omega,?_⟩⟩,⟨so,trivial,wo,?_,?_,?_,.inl ⟨z,by omega,?_⟩⟩,⟨so,trivial,wo,?_,?_,?_,.inl ⟨z,by omega,?_⟩⟩⟩
 all_goals first | (simp only [dep]; omega) | (simp only [cnt]; omega) | (simp only [wt]; omega) | simp
theorem qv (T:TOk ks) {p:D} {z:Str} (hp:IsPen p) (h1:1≤(li z).length) (h2:(li z).length≤12) (hn:(li z).Nodup) (hm:∀ c∈li z,c∈bz ks):W (cJ [p,tD ks,.str z]) (fun r=>∃ s p',r=(sD s,[some p',none,none])∧Gn ks s∧IsPen p'):=by
 have n1:=T.n1
 have n4:=T.n4
 have l12:=T.l12
 simp only [cJ,gj,tD,ws]
 refine bT hp (by decide) (by decide) fun way p1 a0 a1 hp1=>?_
 simp only [ws]
 refine bT hp1 (by decide) (by decide) fun low p2 b0 b1 hp2=>?_
 obtain ⟨lo,rfl⟩:∃ k:Nat,low=k:=⟨low.toNat,(Int.toNat_of_nonneg b0).symm⟩
 simp only [ws]
 by_cases w0:way=0
 ·subst w0
  simp only [ws]
  refine bT hp2 (by decide) (by decide) fun r p3 c0 c1 hp3=>?_
  simp only [ws]
  refine bT hp3 (by decide) (by decide) fun q p4 d0 d1 hp4=>?_
  obtain ⟨h,hh⟩:∃ h:Nat,(lo:Int)+r=h:=⟨((lo:Int)+r).toNat,by omega⟩
  simp only [hh]
  rcases (show q=0∨q=1 by omega) with rfl | rfl
  ·simp only [ws]
   exact ⟨.long lo none,p4,rfl,⟨⟨by omega,fun h e=>by cases e⟩,trivial,trivial,by simp only [dep]; omega,by simp only [cnt]; omega,by simp only [wt]; omega,.inr (.inl ⟨_,_,rfl⟩)⟩,hp4⟩
  ·simp only [ws]
   exact ⟨.long lo (some h),p4,rfl,⟨⟨by omega,fun h' e=>by cases e; omega⟩,trivial,trivial,by simp only [dep]; omega,by simp only [cnt]; omega,by simp only [wt]; omega,.inr (.inl ⟨_,_,rfl⟩)⟩,hp4⟩
 by_cases w1:way=1
 ·subst w1
  simp only [ws,Int.reduceEq]
  refine bT hp2 (by omega) (by omega) fun r p3 c0 c1 hp3=>?_
  obtain ⟨k,rfl⟩:∃ k:Nat,r=k:=⟨r.toNat,(Int.toNat_of_nonneg c0).symm⟩
  simp only [ws]
  exact ⟨.least k lo,p3,rfl,⟨⟨by omega,by omega⟩,(by show k < ks.length; omega),trivial,by simp only [dep]; omega,by simp only [cnt]; omega,by simp only [wt]; omega,.inr (.inr (.inl ⟨_,_,rfl⟩))⟩,hp3⟩
 by_cases w2:way=2
 ·subst w2
  simp only [ws,Int.reduceEq]
  refine W.use (qJ (m:=3) hp2 h1 (by omega) hn (by omega) (by omega)) ?_
  rintro _ ⟨y,p3,rfl,y1,y2,y3,y4,hp3⟩
  have hl:=Tg.len_li y
  simp only [ws]
  refine ⟨.often y lo,p3,rfl,⟨⟨by omega,by omega,y3,fun c hc=>hm c (y4 c hc),by omega⟩,(by show (li y).length≤1000; omega),⟨by omega,by omega⟩,by simp only [dep]; omega,by simp only [cnt]; omega,?_,.inr (.inr (.inr (.inl ⟨_,_,rfl⟩)))⟩,hp3⟩
  show (lo+1) ^ (li y).length+1≤100
  have e1:(lo+1) ^ (li y).length≤4 ^ (li y).length:=Nat.pow_le_pow_left (by omega) _
  have e2:4 ^ (li y).length≤4 ^ 3:=Nat.pow_le_pow_right (by decide) y2
  omega
 by_cases w3:way=3
 ·subst w3
  simp only [ws,Int.reduceEq]
  exact ⟨.apart,p2,rfl,⟨trivial,trivial,trivial,by simp only [dep]; omega,by simp only [cnt]; omega,by simp only [wt]; omega,.inr (.inr (.inr (.inr rfl)))⟩,hp2⟩
 by_cases w7:way=7
 ·subst w7
  simp only [ws,Int.reduceEq]
  refine bT hp2 (by decide) (by decide) fun r p3 c0 c1 hp3=>?_
  rcases (show r=0∨r=1∨r=2 by omega) with rfl | rfl | rfl
  all_goals
   simp only [ws]
   refine W.use (jy (n:=1) hp3 h1 (by omega) (by omega)) ?_
   rintro _ ⟨y,p4,rfl,y1,y2,hp4⟩
   obtain ⟨g1,g2,g3,g4,g5,g6⟩:=qV (ks:=ks) (z:=y) (by omega) (by omega) (fun c hc=>hm c (y2 c hc)) true
   simp only [ws]
  ·exact ⟨.no (.begins y),p4,rfl,g5,hp4⟩
  ·exact ⟨.no (.ends y),p4,rfl,g6,hp4⟩
  ·exact ⟨.no (.without y),p4,rfl,g4,hp4⟩
 ·rcases (show way=4∨way=5∨way=6 by omega) with rfl | rfl | rfl
  all_goals
   simp only [ws,Int.reduceEq,Int.reduceSub]
   refine bT hp2 (by decide) (by decide) fun r p3 c0 c1 hp3=>?_
   obtain ⟨n,hn1⟩:∃ n:Nat,(1+r)=(n:Int):=⟨(1+r).toNat,by omega⟩
   simp only [ws,hn1]
   refine W.use (jy (n:=n) hp3 h1 (by omega) (by omega)) ?_
   rintro _ ⟨y,p4,rfl,y1,y2,hp4⟩
   obtain ⟨g1,g2,g3,g4,g5,g6⟩:=qV (ks:=ks) (z:=y) (by omega) (by omega) (fun c hc=>hm c (y2 c hc)) true
   simp only [ws]
  ·exact ⟨.without y,p4,rfl,g1,hp4⟩
  ·exact ⟨.begins y,p4,rfl,g2,hp4⟩
  ·exact ⟨.ends y,p4,rfl,g3,hp4⟩
end
end W09
namespace W09
open PySem L2 Tg Pen3
section
variable {ks:List Str} {w:Str}
theorem Bg {us:List D} {n:Nat} (h:∀ u∈us,∃ z:Str,u=.str z∧(li z).length≤n):∃ zs:List Str,us=zs.map .str∧∀ z∈zs,(li z).length≤n:=by
 induction us with
 | nil=>exact ⟨[],rfl,fun _ z=>by cases z⟩
 | cons u us ih =>
  obtain ⟨z,rfl,hz⟩:=h u List.mem_cons_self
  obtain ⟨zs,rfl,hs⟩:=ih fun v hv=>h v (List.mem_cons_of_mem _ hv)
  exact ⟨z :: zs,rfl,fun x hx=>(List.mem_cons.mp hx).elim (fun e=>e ▸ hz) (hs x)⟩
def p0:D→Bool
 | .tuple l=>decide (((l.length:Nat):Int)=2)
 | _=>false
def p1:D→Bool
 | .tuple [_,.str _]=>true
 | _=>false
def f1':D→D
 | .tuple [_,u]=>u
 | _=>.none
def p2:D→Bool
 | .tuple (.str h :: _)=>decide (h="not")
 | _=>false
def f2':D→D
 | .tuple [_,.tuple [_,u]]=>u
 | _=>.none
theorem Eh {s:Sn} (g:Gn ks s) (h:p0 (sD s)=true):∃ z h1,(li z).length≤6∧(sD s=.tuple [.str h1,.str z]∧(h1="not")=False∨sD s=.tuple [.str "not",.tuple [.str h1,.str z]]):=by
 rcases g.pc with ⟨z,hz,h1⟩ | ⟨lo,hi,rfl⟩ | ⟨k,m,rfl⟩ | ⟨z,m,rfl⟩ | rfl
 ·rcases h1 with rfl | rfl | rfl | rfl | rfl | rfl
  ·exact ⟨z,_,hz,.inl ⟨rfl,by simp only [hds]⟩⟩
  ·exact ⟨z,_,hz,.inl ⟨rfl,by simp only [hds]⟩⟩
  ·exact ⟨z,_,hz,.inl ⟨rfl,by simp only [hds]⟩⟩
  ·exact ⟨z,_,hz,.inr rfl⟩
  ·exact ⟨z,_,hz,.inr rfl⟩
  ·exact ⟨z,_,hz,.inr rfl⟩
 ·exact absurd h (by cases hi <;> simp [p0,sD])
 ·exact absurd h (by simp [p0,sD])
 ·exact absurd h (by simp [p0,sD])
 ·exact absurd h (by decide)
theorem sQ {ss:List Sn} (hl:ss.length≤7) (hg:∀ s∈ss,Gn ks s):W (dy [.list (ss.map sD)]) (fun r=>∃ zs:List Str,r=(.list (zs.map .str),[none])∧zs.length≤14∧∀ z∈zs,(li z).length≤6):=by
 simp only [dy,iy,ws]
 have l0:(ss.map sD).length≤7:=by rw [List.length_map]; exact hl
 refine iK p0 id (sz (by omega)) (fun t ht=>?_) (fun t ht _=>?_) fun o'=>?_
 ·obtain ⟨s,hs,rfl⟩:=List.mem_map.mp ht
  cases s with
  | long lo hi=>cases hi <;> simp only [fY,sD,oD,ws,Int.reduceEq,p0]
  | _=>simp only [fY,sD,ws,Int.reduceEq,p0]
 ·simp only [jw,ws]; rfl
 ·simp only [ws,List.map_id]
  have hm:∀ t∈(ss.map sD).filter p0,∃ z h1,(li z).length≤6∧(t=.tuple [.str h1,.str z]∧(h1="not")=False∨t=.tuple [.str "not",.tuple [.str h1,.str z]]):=fun t ht=>by
   obtain ⟨h1,h2⟩:=List.mem_filter.mp ht
   obtain ⟨s,hs,rfl⟩:=List.mem_map.mp h1
   exact Eh (hg s hs) h2
  have fl:((ss.map sD).filter p0).length≤7:=Nat.le_trans (List.length_filter_le _ _) l0
  generalize (ss.map sD).filter p0=ts at hm fl
  refine iK p1 f1' (sz (by omega)) (fun t ht=>?_) (fun t ht hp=>?_) fun o'=>?_
  ·obtain ⟨z,h1,hz,⟨rfl,_⟩ | rfl⟩:=hm t ht <;> simp only [jl,ws,p1]
  ·obtain ⟨z,h1,hz,⟨rfl,_⟩ | rfl⟩:=hm t ht <;> simp only [jv,ws,f1']
  ·simp only [ws]
   refine iK p2 f2' (sz (by omega)) (fun t ht=>?_) (fun t ht hp=>?_) fun o'=>?_
   ·obtain ⟨z,h1,hz,⟨rfl,hn⟩ | rfl⟩:=hm t ht
    ·simp only [fX,ws,p2,hn]
    ·simp only [fX,ws,p2]
   ·obtain ⟨z,h1,hz,⟨rfl,hn⟩ | rfl⟩:=hm t ht
    ·simp only [p2,hn] at hp
     cases hp
    ·simp only [ju,ws,f2']
   ·have a1:=List.length_filter_le p1 ts
    have a2:=List.length_filter_le p2 ts
    simp only [ws]
    refine ⟨sz (by omega),?_⟩
    obtain ⟨zs,e,hz⟩:=Bg (us:=(ts.filter p1).map f1'++(ts.filter p2).map f2') (n:=6) (fun u hu=>by
     rcases List.mem_append.mp hu with hu | hu
     ·obtain ⟨t,ht,rfl⟩:=List.mem_map.mp hu
      obtain ⟨t1,t2⟩:=List.mem_filter.mp ht
      obtain ⟨z,h1,hz,⟨rfl,_⟩ | rfl⟩:=hm t t1
      ·exact ⟨z,rfl,hz⟩
      ·cases t2
     ·obtain ⟨t,ht,rfl⟩:=List.mem_map.mp hu
      obtain ⟨t1,t2⟩:=List.mem_filter.mp ht
      obtain ⟨z,h1,hz,⟨rfl,hn⟩ | rfl⟩:=hm t t1
      ·simp only [p2,hn] at t2
       cases t2
      ·exact ⟨z,rfl,hz⟩)
    have el:=congrArg List.length e
    rw [List.length_append,List.length_map,List.length_map,List.length_map] at el
    exact ⟨zs,by rw [e],by omega,hz⟩
theorem Bh (a b:Str):li (a++b)=li a++li b:=by
 show (a.cps++b.cps).toList=_
 exact Array.toList_append
theorem jM (l:List Nat) (lo hi:Option Int):(cQ l lo hi).length≤l.length:=by
 unfold cQ
 rw [List.length_take,List.length_drop]
 omega
theorem uw {p:D} {z:Str} {ss:List Sn} (hp:IsPen p) (h1:1≤(li z).length) (h2:(li z).length≤12) (hl:ss.length≤7) (hg:∀ s∈ss,Gn ks s):W (dP [p,.str z,.list (ss.map sD)]) (fun r=>∃ (vs:List Str) (p':D),r=(.list (vs.map .str),[some p',none,none])∧(∀ v∈vs,v.length≤100)∧IsPen p'):=by
 have zl:=Tg.len_li z
 have zz:z.length≤sizeLine:=sz (by omega)
 obtain ⟨c0,hc0⟩:∃ c,(li z)[0]?=some c:=⟨_,List.getElem?_eq_getElem h1⟩
 have ha:atI (li z) 0=some c0:=(bD (li z) 0).trans hc0
 have hmul:(Txt.mul (mk1 c0) 4).length=4:=rfl
 simp only [dP,ja,ws]
 refine W.use (sQ hl hg) ?_
 rintro _ ⟨zs,rfl,zn,hz⟩
 simp only [ws,zz,ha]
 refine ⟨sz (by show zs.length+2≤1000; omega),⟨by show 1≤4000; decide,by decide,by decide⟩,by decide,?_⟩
 obtain ⟨zs,ez,zn,hz⟩:∃ ys:List Str,(zs.map PyData.str++[PyData.str ⟨(cQ z.cps.toList none (some 1)).toArray⟩,PyData.str ⟨(cQ z.cps.toList (some (-1)) none).toArray⟩])=ys.map .str∧(1≤ys.length∧ys.length≤16)∧∀ y∈ys,(li y).length≤12:=by
  refine ⟨zs++[⟨(cQ z.cps.toList none (some 1)).toArray⟩,⟨(cQ z.cps.toList (some (-1)) none).toArray⟩],by rw [List.map_append]; rfl,⟨by rw [List.length_append]; show 1≤_+2; omega,by rw [List.length_append]; show _+2≤_; omega⟩,fun y hy=>?_⟩
  rcases List.mem_append.mp hy with hy | hy
  ·have:=hz y hy; omega
  ·have c1:=jM (li z) none (some 1)
   have c2:=jM (li z) (some (-1)) none
   rcases List.mem_cons.mp hy with rfl | hy
   ·show (cQ (li z) none (some 1)).length≤12; omega
   ·rw [List.mem_singleton.mp hy]
    show (cQ (li z) (some (-1)) none).length≤12; omega
 rw [ez]
 refine iJ (fun i en=>∃ (p:D) (vs:List Str) (k a b c:Option D),en=[some p,some (.str z),some (.list (ss.map sD)),some (.list (zs.map .str)),some (.list (vs.map .str)),k,a,b,c]∧IsPen p∧vs.length=3+6 * i∧∀ v∈vs,v.length≤100) ⟨p,["",z,Txt.mul (mk1 c0) 4],none,none,none,none,rfl,hp,rfl,fun v hv=>?_⟩ ?_ ?_
 ·rcases List.mem_cons.mp hv with rfl | hv
  ·decide
  ·rcases List.mem_cons.mp hv with rfl | hv
   ·omega
   ·rw [List.mem_singleton.mp hv,hmul]; decide
 ·rintro i t en ht ⟨p,vs,k,a,b,c,rfl,hp,vl,hv⟩
  obtain ⟨hi,rfl⟩:=kT ht
  have hi:i < 8:=hi
  simp only [ws,j9]
  refine bT hp (by omega) (by omega) fun r1 p1 a0 a1 hp1=>?_
  obtain ⟨n1,rfl⟩:∃ k:Nat,r1=k:=⟨r1.toNat,(Int.toNat_of_nonneg a0).symm⟩
  obtain ⟨one,ho⟩:∃ o,zs[n1]?=some o:=⟨_,List.getElem?_eq_getElem (by omega)⟩
  have e1:atI (zs.map PyData.str) (n1:Int)=some (.str one):=by rw [bD,List.getElem?_map,ho]; rfl
  have o1:=hz one (List.mem_of_getElem? ho)
  simp only [ws,e1]
  refine bT hp1 (by omega) (by omega) fun r2 p2 b0 b1 hp2=>?_
  obtain ⟨n2,rfl⟩:∃ k:Nat,r2=k:=⟨r2.toNat,(Int.toNat_of_nonneg b0).symm⟩
  obtain ⟨other,ho2⟩:∃ o,zs[n2]?=some o:=⟨_,List.getElem?_eq_getElem (by omega)⟩
  have e2:atI (zs.map PyData.str) (n2:Int)=some (.str other):=by rw [bD,List.getElem?_map,ho2]; rfl
  have o2:=hz other (List.mem_of_getElem? ho2)
  simp only [ws,e2]
  refine bT hp2 (by decide) (by decide) fun r3 p3 c0 c1 hp3=>?_
  obtain ⟨n3,rfl⟩:∃ k:Nat,r3=k:=⟨r3.toNat,(Int.toNat_of_nonneg c0).symm⟩
  simp only [ws]
  refine W.use (jy (n:=n3) hp3 h1 (by omega) (by omega)) ?_
  rintro _ ⟨bt,p4,rfl,bl,_,hp4⟩
  have l1:=Tg.len_li one
  have l2:=Tg.len_li other
  have l3:=Tg.len_li bt
  have lap:∀ x y:Str,(x++y).length=x.length+y.length:=fun x y=>by rw [← Tg.len_li,← Tg.len_li,← Tg.len_li,Bh,List.length_append]
  have cl:(⟨(cQ bt.cps.toList (some (-1)) none).toArray⟩:Str).length≤bt.length:=by
   rw [← Tg.len_li,← Tg.len_li]
   exact jM (li bt) (some (-1)) none
  simp only [ws,lap]
  refine ⟨sz (by omega),sz (by omega),sz (by omega),sz (by omega),sz (by show vs.length+5≤1000; omega),sz (by omega),sz (by omega),szl (by rw [List.length_append,List.length_map]; show vs.length+5 < 1000; omega),?_⟩
  refine ⟨p4,vs++[one,bt,one++bt,bt++one,one++bt++other]++[bt++⟨(cQ bt.cps.toList (some (-1)) none).toArray⟩],_,_,_,_,by rw [List.map_append,List.map_append]; rfl,hp4,by rw [List.length_append,List.length_append]; show vs.length+5+1=_; omega,fun v hv'=>?_⟩
  rcases List.mem_append.mp hv' with hv' | hv'
  ·rcases List.mem_append.mp hv' with hv' | hv'
   ·exact hv v hv'
   ·simp only [List.mem_cons,List.not_mem_nil,or_false] at hv'
    rcases hv' with rfl | rfl | rfl | rfl | rfl <;> (try simp only [lap]) <;> omega
  ·rw [List.mem_singleton.mp hv',lap]
   omega
 ·rintro en ⟨p,vs,k,a,b,c,rfl,hp,vl,hv⟩
  simp only [ws]
  exact ⟨vs,p,rfl,hv,hp⟩
end
end W09
namespace W09
open PySem L2 Tg Pen3
section
variable {ks:List Str} {w:Str}
theorem qt {ss:List Sn} (h1:1≤ss.length) (hg:∀ s∈ss,Gn ks s):W (aY 4 [.list (ss.map sD)]) (fun r=>∃ s,r=(sD s,[none])∧SOk ks s∧HOk ks s∧dep s≤6∧∀ w,aQ ks s w=(ss.take 4).all fun s=>aQ ks s w):=by
 have one:∀ (n:Nat) (s:Sn),W (aY (n+1) [.list [sD s]]) (fun r=>r=(sD s,[none])):=fun n s=>by
  have c1:b9 [sD s] none (some 4)=[sD s]:=rfl
  show W (fnF 3 [0] (bC (aY n)) _) _
  simp only [bC,ws,c1,Int.reduceEq]
 have two:∀ (n:Nat) (s t:Sn),W (aY (n+2) [.list [sD s,sD t]]) (fun r=>r=(sD (.both s t),[none])):=fun n s t=>by
  have c1:b9 [sD s,sD t] none (some 4)=[sD s,sD t]:=rfl
  have c2:b9 [sD s,sD t] none (some 1)=[sD s]:=rfl
  show W (fnF 3 [0] (bC (aY (n+1))) _) _
  simp only [bC,ws,c1,Int.reduceEq,Int.reduceDiv,c2]
  refine ⟨⟨by decide,by decide⟩,?_⟩
  refine W.use (one n s) ?_
  rintro _ rfl
  simp only [ws]
  refine W.use (one n t) ?_
  rintro _ rfl
  simp only [ws,sD]
 match ss,h1,hg with
 | [a],_,hg =>
  have ga:=hg a (by simp)
  refine W.use (one 3 a) ?_
  rintro _ rfl
  exact ⟨a,rfl,ga.so,ga.ho,by have:=ga.dp; omega,fun w=>by simp⟩
 | [a,b],_,hg =>
  have ga:=hg a (by simp)
  have gb:=hg b (by simp)
  refine W.use (two 2 a b) ?_
  rintro _ rfl
  exact ⟨_,rfl,⟨ga.so,gb.so⟩,⟨ga.ho,gb.ho⟩,by have:=ga.dp; have:=gb.dp; simp only [dep]; omega,fun w=>by simp [aQ]⟩
 | [a,b,c],_,hg =>
  have ga:=hg a (by simp)
  have gb:=hg b (by simp)
  have gc:=hg c (by simp)
  have c1:b9 [sD a,sD b,sD c] none (some 4)=[sD a,sD b,sD c]:=rfl
  have c2:b9 [sD a,sD b,sD c] none (some 1)=[sD a]:=rfl
  show W (fnF 3 [0] (bC (aY 3)) [.list [sD a,sD b,sD c]]) _
  simp only [bC,ws,c1,Int.reduceEq,Int.reduceDiv,c2]
  refine ⟨⟨by decide,by decide⟩,?_⟩
  refine W.use (one 2 a) ?_
  rintro _ rfl
  simp only [ws]
  refine W.use (two 1 b c) ?_
  rintro _ rfl
  simp only [ws]
  exact ⟨.both a (.both b c),rfl,⟨ga.so,gb.so,gc.so⟩,⟨ga.ho,gb.ho,gc.ho⟩,by have:=ga.dp; have:=gb.dp; have:=gc.dp; simp only [dep]; omega,fun w=>by simp [aQ]⟩
 | a :: b :: c :: d :: r,_,hg =>
  have ga:=hg a (by simp)
  have gb:=hg b (by simp)
  have gc:=hg c (by simp)
  have gd:=hg d (by simp)
  have c1:b9 ((a :: b :: c :: d :: r).map sD) none (some 4)=[sD a,sD b,sD c,sD d]:=by
   rw [show (some (4:Int))=some ((4:Nat):Int) from rfl,dD]
   rfl
  have c2:b9 [sD a,sD b,sD c,sD d] none (some 2)=[sD a,sD b]:=rfl
  have c3:b9 [sD a,sD b,sD c,sD d] (some 2) none=[sD c,sD d]:=rfl
  show W (fnF 3 [0] (bC (aY 3)) _) _
  simp only [bC,ws,c1,Int.reduceEq,Int.reduceDiv,c2,c3]
  refine ⟨⟨by decide,by decide⟩,?_⟩
  refine W.use (two 1 a b) ?_
  rintro _ rfl
  simp only [ws,c3]
  refine W.use (two 1 c d) ?_
  rintro _ rfl
  simp only [ws]
  exact ⟨.both (.both a b) (.both c d),rfl,⟨⟨ga.so,gb.so⟩,gc.so,gd.so⟩,⟨⟨ga.ho,gb.ho⟩,gc.ho,gd.ho⟩,by have:=ga.dp; have:=gb.dp; have:=gc.dp; have:=gd.dp; simp only [dep]; omega,fun w=>by simp [aQ,Bool.and_assoc]⟩
theorem sG {f:ME} {ss:List Sn} {rest:En} (hl:ss.length≤1000) (hf:∀ s∈ss,∀ o:Option D,W (f (some (sD s) :: rest)) (fun r=>r=(.bool (aQ ks s w),some (sD s) :: rest))) {Q:List D × En→Prop} (hq:∀ o,Q (ss.map (fun s=>.bool (aQ ks s w)),o :: rest)):W (lcF (gN 0) cY f (ss.map sD) [] (none :: rest)) Q:=by
 refine nS (fun i us en=>us=(ss.take i).map (fun s=>.bool (aQ ks s w))∧∃ o,en=o :: rest) (by rw [List.length_map]; exact sz hl) ⟨rfl,none,rfl⟩ ?_ ?_
 ·rintro i t us en ht _ ⟨rfl,o,rfl⟩
  rw [List.getElem?_map] at ht
  obtain ⟨s,hs,rfl⟩:=Option.map_eq_some_iff.mp ht
  simp only [ws]
  refine W.use (hf s (List.mem_of_getElem? hs) o) ?_
  rintro _ rfl
  simp only [ws]
  exact ⟨by rw [iD hs,List.map_append]; rfl,_,rfl⟩
 ·rintro us en _ ⟨rfl,o,rfl⟩
  rw [List.length_map,List.take_length]
  exact hq o
theorem BI (T:TOk ks) (hw:w.length≤1000) {ss:List Sn} (h1:1≤ss.length) (hl:ss.length≤7) (hg:∀ s∈ss,Gn ks s):W (cf [tD ks,.list (ss.map sD),.str w]) (fun r=>r=(.bool true,[none,none,none])):=by
 have gs:∀ s∈ss,SOk ks s∧isS s=true:=fun s hs=>⟨(hg s hs).so,by
  have:=(hg s hs).dp
  have:=(hg s hs).ct
  unfold isS
  rw [decide_eq_true (by omega),decide_eq_true (by omega)]
  rfl⟩
 have gh:∀ s∈ss,HOk ks s∧dep s≤6:=fun s hs=>⟨(hg s hs).ho,by have:=(hg s hs).dp; omega⟩
 let b:Bool:=ss.all fun s=>aQ ks s w
 simp only [cf,fm,ws]
 refine sG (ks:=ks) (w:=w) (by omega) (fun s hs o=>?_) fun o=>?_
 ·simp only [gz,ws]
  refine W.use (bF T hw 6 s (gh s hs).2 (gh s hs).1) ?_
  rintro _ rfl
  simp only [ws]
 simp only [ws]
 refine W.use (iE T (by omega) gs) ?_
 rintro _ rfl
 simp only [ws,← List.map_reverse]
 refine W.use (iE T (ss:=ss.reverse) (by rw [List.length_reverse]; omega) fun s hs=>gs s (List.mem_reverse.mp hs)) ?_
 rintro _ rfl
 have ct:b9 (ss.map sD) none (some 1)=(ss.take 1).map sD:=by
  rw [show (some (1:Int))=some ((1:Nat):Int) from rfl,dD,List.map_take]
 simp only [ws,ct,← List.map_append]
 refine ⟨sz (by rw [List.length_take]; omega),?_⟩
 have m3:∀ s∈ss++ss.take 1,s∈ss:=fun s hs=>(List.mem_append.mp hs).elim id fun h=>List.mem_of_mem_take h
 refine W.use (iE T (ss:=ss++ss.take 1) (by rw [List.length_append,List.length_take]; omega) fun s hs=>gs s (m3 s hs)) ?_
 rintro _ rfl
 simp only [ws]
 have body:∀ (rs:List Sn) (x y:Option D),(∀ s∈rs,s∈ss)→rs.length≤8→(rs.all fun s=>aQ ks s w)=b→W (em [some (rD ks rs),some (.str w),some (.list (ss.map fun s=>.bool (aQ ks s w)))]) (fun r=>r=(false,[some (rD ks rs),some (.str w),some (.list (ss.map fun s=>.bool (aQ ks s w)))])):=fun rs x y hr hn hb=>by
  simp only [em,ws]
  refine W.use (lN T hw (by omega) fun s hs=>gh s (hr s hs)) ?_
  rintro _ rfl
  simp only [ws,all_map,hb]
  rw [show (b == b)=true from beq_self_eq_true b]
  simp only [ws]
  refine W.use (tH T hn fun s hs=>gs s (hr s hs)) ?_
  rintro _ rfl
  simp only [ws]
 refine W.use (body ss none none (fun _ h=>h) (by omega) rfl) ?_
 rintro _ rfl
 simp only [ws]
 refine W.use (body ss.reverse none none (fun s h=>List.mem_reverse.mp h) (by rw [List.length_reverse]; omega) (by rw [List.all_reverse])) ?_
 rintro _ rfl
 simp only [ws]
 refine W.use (body (ss++ss.take 1) none none m3 (by rw [List.length_append,List.length_take]; omega) (by
  rw [List.all_append]
  cases hb:b with
  | false=>rw [show (ss.all fun s=>aQ ks s w)=false from hb]; rfl
  | true =>
   have hb':(ss.all fun s=>aQ ks s w)=true:=hb
   rw [hb',Bool.true_and]
   exact List.all_eq_true.mpr fun s hs=>List.all_eq_true.mp hb' s (List.mem_of_mem_take hs))) ?_
 rintro _ rfl
 simp only [ws]
 refine ⟨by omega,iJ (fun i en=>∃ x y z,en=[some (tD ks),some (.list (ss.map sD)),some (.str w),some (.list (ss.map fun s=>.bool (aQ ks s w))),some (.list [rD ks ss,rD ks ss.reverse,rD ks (ss++ss.take 1)]),x,y,z]) ⟨none,none,none,rfl⟩ ?_ ?_⟩
 ·rintro i t en ht ⟨x,y,z,rfl⟩
  obtain ⟨hi,rfl⟩:=kT ht
  have hi:i < ss.length:=by simpa using hi
  have e0:((0:Int)+(i:Nat))=(i:Nat):=Int.zero_add _
  have mt:∀ s∈ss.take i,s∈ss:=fun s hs=>List.mem_of_mem_take hs
  simp only [ws,gw,e0,dD,← List.map_take]
  refine W.use (iE T (ss:=ss.take i) (by rw [List.length_take]; omega) fun s hs=>gs s (mt s hs)) ?_
  rintro _ rfl
  simp only [ws]
  refine W.use (lN T hw (ss:=ss.take i) (by rw [List.length_take]; omega) fun s hs=>gh s (mt s hs)) ?_
  rintro _ rfl
  simp only [ws,dD,← List.map_take,all_map]
  cases hb:(ss.all fun s=>aQ ks s w) with
  | false=>simp only [ws]; exact ⟨_,_,_,rfl⟩
  | true =>
   have:((ss.take i).all fun s=>aQ ks s w)=true:=List.all_eq_true.mpr fun s hs=>List.all_eq_true.mp hb s (mt s hs)
   simp only [ws,this]
   exact ⟨_,_,_,rfl⟩
 ·rintro en ⟨x,y,z,rfl⟩
  simp only [ws]
end
end W09
namespace W09
open PySem L2 Tg Pen3
section
variable {ks:List Str} {w:Str}
theorem qw (T:TOk ks) (hw:w.length≤1000) {s t:Sn} (gs:Gn ks s) (gt:Gn ks t):W (bZ [tD ks,sD s,sD t,.str w]) (fun r=>r=(.bool true,[none,none,none,none])):=by
 have ds:=gs.dp
 have dt:=gt.dp
 have hs:=bF T hw 6 s (by omega) gs.ho
 have ht:=bF T hw 6 t (by omega) gt.ho
 have tw:=eY (s:=.no (.either (.no s) (.no t))) T ⟨gs.so,gt.so⟩
 have r1:=bF T hw 6 (.no s) (by simp only [dep]; omega) gs.ho
 have r2:=bF T hw 6 (.both s t) (by simp only [dep]; omega) ⟨gs.ho,gt.ho⟩
 have r3:=bF T hw 6 (.either s t) (by simp only [dep]; omega) ⟨gs.ho,gt.ho⟩
 have r4:=bF T hw 6 (.both t s) (by simp only [dep]; omega) ⟨gt.ho,gs.ho⟩
 have r5:=bF T hw 6 (.either s (.no s)) (by simp only [dep]; omega) ⟨gs.ho,gs.ho⟩
 have r6:=bF T hw 6 (.both s (.no s)) (by simp only [dep]; omega) ⟨gs.ho,gs.ho⟩
 have r7:=bF T hw 6 (.no (.either (.no s) (.no t))) (by simp only [dep]; omega) ⟨gs.ho,gt.ho⟩
 simp only [sD] at tw r1 r2 r3 r4 r5 r6 r7
 simp only [aQ] at r1 r2 r3 r4 r5 r6 r7
 simp only [bZ,eT,ws]
 refine W.use hs ?_
 rintro _ rfl
 simp only [ws]
 refine W.use ht ?_
 rintro _ rfl
 simp only [ws]
 generalize aQ ks s w=a at *
 generalize aQ ks t w=b at *
 have fin:∀ (x:D),W (eh (gT (gsC (gN 7) (gsC (gN 8) gs0))) dR [x] [some (tD ks)]) (fun _=>True)→True:=fun _ _=>trivial
 cases a <;> cases b <;>
 ·simp only [ws]
  refine ⟨sz (by simp only [List.length_cons,List.length_nil]; omega),sz (by simp only [List.length_cons,List.length_nil]; omega),?_⟩
  refine W.use tw ?_
  rintro _ rfl
  cases isS (.no (.either (.no s) (.no t))) <;>
  ·simp only [ws,dR]
   refine W.use r1 ?_
   rintro _ rfl
   simp only [ws]
   refine W.use r2 ?_
   rintro _ rfl
   simp only [ws,Bool.and_self,Bool.and_true,Bool.and_false,Bool.true_and,Bool.false_and]
   refine W.use r3 ?_
   rintro _ rfl
   simp only [ws,Bool.or_self,Bool.or_true,Bool.or_false]
   refine W.use r4 ?_
   rintro _ rfl
   simp only [ws,Bool.and_self,Bool.and_true,Bool.and_false,Bool.true_and,Bool.false_and]
   refine W.use r5 ?_
   rintro _ rfl
   simp only [ws,Bool.or_self,Bool.or_true,Bool.or_false,Bool.not_true,Bool.not_false,Bool.true_or]
   refine W.use r6 ?_
   rintro _ rfl
   simp only [ws,Bool.and_self,Bool.and_true,Bool.and_false,Bool.true_and,Bool.false_and,Bool.not_true,Bool.not_false]
   try
    refine W.use r7 ?_
    rintro _ rfl
    simp only [ws,Bool.or_self,Bool.or_true,Bool.or_false,Bool.not_true,Bool.not_false,Bool.true_or]
theorem oN (T:TOk ks) {ss:List Sn} (h1:1≤ss.length) (hl:ss.length≤7) (hg:∀ s∈ss,Gn ks s):W (bS [tD ks,.list (ss.map sD)]) (fun r=>r=(.bool true,[none,none])):=by
 have wk:∀ s∈ss,W (bE 6 [tD ks,sD s]) (fun r=>r=(.int (wt ks s),[none,none])):=fun s hs=>cU T 6 s (by have:=(hg s hs).dp; omega) (hg s hs).wo
 have prod:∀ (f:MS) (g:MG) (J:Int→En→Prop),(∀ t v en,J v en→W (g t en) (fun en1=>True))→True:=fun _ _ _ _=>trivial
 let P:Nat→Int:=fun i=>(((ss.take i).map fun s=>(wt ks s:Int)).foldl (· * ·) 1)
 have P1:∀ i s,ss[i]?=some s→P (i+1)=P i * wt ks s:=fun i s hs=>by
  show List.foldl _ _ _=_
  rw [iD hs,List.map_append,List.foldl_append]
  rfl
 simp only [bS,dX,ws]
 refine iJ (fun i en=>∃ x,en=[some (tD ks),some (.list (ss.map sD)),some (.int (P i)),x,none,none]) ⟨none,rfl⟩ ?_ ?_
 ·rintro i t en ht ⟨x,rfl⟩
  rw [List.getElem?_map] at ht
  obtain ⟨s,hs,rfl⟩:=Option.map_eq_some_iff.mp ht
  have hm:=List.mem_of_getElem? hs
  simp only [ws,fy]
  refine W.use (wk s hm) ?_
  rintro _ rfl
  have:=(hg s hm).wl
  simp only [ws]
  exact ⟨nN (by omega) (by omega),some (sD s),by rw [P1 i s hs]⟩
 rintro en ⟨x,rfl⟩
 simp only [ws]
 have rw1:W (du [.tuple [tD ks,.tuple (ss.map sD)]]) (fun r=>r=(.int (P ss.length),[none])):=by
  simp only [du,iu,ws]
  refine iJ (fun i en=>∃ x,en=[some (.tuple [tD ks,.tuple (ss.map sD)]),some (.int (P i)),x]) ⟨none,rfl⟩ ?_ ?_
  ·rintro i t en ht ⟨x,rfl⟩
   rw [List.getElem?_map] at ht
   obtain ⟨s,hs,rfl⟩:=Option.map_eq_some_iff.mp ht
   have hm:=List.mem_of_getElem? hs
   simp only [ws,jq]
   refine W.use (wk s hm) ?_
   rintro _ rfl
   have:=(hg s hm).wl
   simp only [ws]
   exact ⟨nN (by omega) (by omega),some (sD s),by rw [P1 i s hs]⟩
  ·rintro en ⟨x,rfl⟩
   simp only [ws]
 refine W.use rw1 ?_
 rintro _ rfl
 obtain ⟨s,hs⟩:∃ s,ss[0]?=some s:=⟨_,List.getElem?_eq_getElem h1⟩
 obtain ⟨t,ht⟩:∃ t,ss[ss.length - 1]?=some t:=⟨_,List.getElem?_eq_getElem (by omega)⟩
 have e1:(ss.map sD)[0]?=some (sD s):=by rw [List.getElem?_map,hs]; rfl
 have e2:atI (ss.map sD) (-1)=some (sD t):=by
  unfold atI ixN
  rw [if_neg (by decide),if_pos (by rw [List.length_map]; omega),List.length_map]
  show (ss.map sD)[_]?=_
  rw [show (-1+(ss.length:Int)).toNat=ss.length - 1 by omega,List.getElem?_map,ht]
  rfl
 have ms:=List.mem_of_getElem? hs
 have mt:=List.mem_of_getElem? ht
 have gs:=hg s ms
 have gt:=hg t mt
 have ds:=gs.dp
 have dt:=gt.dp
 have ws':=gs.wl
 have wt':=gt.wl
 have c1:=cU T 6 (.both s t) (by simp only [dep]; omega) ⟨gs.wo,gt.wo,by omega⟩
 have c2:=cU T 6 (.either s (.no t)) (by simp only [dep]; omega) ⟨gs.wo,gt.wo,by show wt ks t≤_; omega⟩
 have c3:=cU T 6 (.no s) (by simp only [dep]; omega) gs.wo
 simp only [sD,wt] at c1 c2 c3
 have pm:(((wt ks s * wt ks t:Nat)):Int)=(wt ks s:Int) * (wt ks t:Int):=Int.natCast_mul _ _
 simp only [ws,e1,e2]
 refine W.use (wk s ms) ?_
 rintro _ rfl
 simp only [ws]
 refine W.use (wk t mt) ?_
 rintro _ rfl
 simp only [ws]
 refine ⟨nN (by omega) (by omega),?_⟩
 refine W.use c1 ?_
 rintro _ rfl
 simp only [ws,pm]
 refine W.use c2 ?_
 rintro _ rfl
 simp only [ws,pm]
 refine W.use c3 ?_
 rintro _ rfl
 simp only [ws]
 refine W.use (wk s ms) ?_
 rintro _ rfl
 simp only [ws]
end
end W09
set_option maxHeartbeats 2000000
namespace W09
open PySem L2 Tg Pen3
section
variable {ks:List Str} {w:Str}
def tl1:MS:=(ap (aH 9 (eLC true (bX (af 6)) (gN 0) cY dW [none,some 1,some 3,some 7]))
 (ap (sIf (tV (e2 neD (aq (aU 6) (ad (af 1) (ad (aP (ad (eC (.str "often")) (ad (af 6) (ad (af 7) ai)))) (ad (af 3) ai)))) (eN dE (ad (af 9) ai)))) (aC (eC (.bool false))) aM)
 (ap (eg (bX (aP (ad (aP (ad (eC (.str "begins")) (ad (eC (.str "ends")) ai))) (ad (aP (ad (eC (.str "ends")) (ad (eC (.str "begins")) ai))) (ad (aP (ad (eC (.str "without")) (ad (eC (.str "without")) ai))) ai))))) (gT (gsC (gN 10) (gsC (gN 11) gs0))) dS)
 (ap (aH 13 (aq (aU 6) (ad (af 1) (ad (aP (ad (eC (.str "without")) (ad (af 8) ai))) (ad (af 3) ai)))))
 (ap (aH 14 (eLC true (bX (aP (ad (eC (.str "begins")) (ad (eC (.str "ends")) ai)))) (gN 0) cY dU [none,some 1,some 3,some 8]))
 (ap (sIf (eR (tV (af 13)) (tV (e2 inL (eC (.bool true)) (af 14)))) (aC (eC (.bool false))) aM)
 (ap (aH 15 (aq (aU 6) (ad (af 1) (ad (aP (ad (eC (.str "long")) (ad (af 5) (ad (eC .none) ai)))) (ad (af 3) ai)))))
 (ap (aH 16 (aq (aU 6) (ad (af 1) (ad (aP (ad (eC (.str "long")) (ad (e2 bA (af 5) (eC (.int 1))) (ad (eC .none) ai)))) (ad (af 3) ai)))))
 (aC (e2 eqD (aq (aU 6) (ad (af 1) (ad (aP (ad (eC (.str "long")) (ad (af 5) (ad (af 5) ai)))) (ad (af 3) ai)))) (cB (af 15) (iY (af 16)))))))))))))
theorem BL (a b:Bool):inL (.bool true) (.list [.bool a,.bool b])=some (.bool (a || b)):=by
 cases a <;> cases b <;> rfl
theorem FK (T:TOk ks) (hw:w.length≤1000) {p:D} {z own pc:Str} {k m mo:Nat} (hpc:pc.length≤1000) (ho:(li own).length≤4) (hp:IsPen p):W (tl1 [some p,some (tD ks),some (.str z),some (.str w),some (.int k),some (.int m),some (.str own),some (.int mo),some (.str pc),none,none,none,none,none,none,none,none]) (kFn [1,0,0,0] fun r=>∃ p',r=(.bool true,[some p',none,none,none])∧IsPen p'):=by
 have hwz:=sz hw
 have hpz:=sz hpc
 have hrw:(rv w).length≤1000:=by rw [← Tg.len_li,jF,List.length_reverse,Tg.len_li]; exact hw
 have H:=fun (s:Sn) (v:Str) (hv:v.length≤1000) (hd:dep s=1) (ho:HOk ks s)=>bF T hv 6 s (by omega) ho
 have km:((m:Int)+1)=((m+1:Nat):Int):=rfl
 have so:(bv own).length≤sizeLine:=by unfold bv; rw [List.length_map]; exact sz (by omega)
 have s1:=H (.often own mo) w hw rfl (by show (li own).length≤1000; omega)
 have b1:=H (.begins pc) w hw rfl trivial
 have b2:=H (.ends (rv pc)) (rv w) hrw rfl trivial
 have b3:=H (.ends pc) w hw rfl trivial
 have b4:=H (.begins (rv pc)) (rv w) hrw rfl trivial
 have b5:=H (.without pc) w hw rfl trivial
 have b6:=H (.without (rv pc)) (rv w) hrw rfl trivial
 have l1:=H (.long m none) w hw rfl trivial
 have l2:=H (.long (m+1) none) w hw rfl trivial
 have l3:=H (.long m (some m)) w hw rfl trivial
 simp only [sD,oD] at s1 b1 b2 b3 b4 b5 b6 l1 l2 l3
 simp only [aQ,sJ,Cp,GH] at b1 b2 b3 b4 b5 b6
 simp only [tl1,ws]
 refine jk (fun t=>match t with | .str y=>.bool (aQ ks (.often y mo) w) | _=>.none) so (fun t ht=>?_) fun o'=>?_
 ·obtain ⟨c,hc,rfl⟩:=List.mem_map.mp ht
  have e:=H (.often (mk1 c) mo) w hw rfl (by show 1≤1000; decide)
  simp only [sD] at e
  simp only [dW,ws]
  refine W.use e ?_
  rintro _ rfl
  simp only [ws]
 have eo:dE [.list ((bv own).map fun t=>match t with | .str y=>.bool (aQ ks (.often y mo) w) | _=>.none)]=some (.bool (aQ ks (.often own mo) w)):=by
  unfold bv
  rw [List.map_map]
  refine (all_map (fun c=>aQ ks (.often (mk1 c) mo) w) (li own)).trans ?_
  show some (PyData.bool _)=some (PyData.bool ((li own).all _))
  congr 3
  funext c
  show ([c].all _)=_
  simp
 simp only [ws]
 refine W.use s1 ?_
 rintro _ rfl
 simp only [ws,eo,dS,hpz,hwz]
 refine W.use b1 ?_
 rintro _ rfl
 simp only [ws,hpz,hwz]
 refine W.use b2 ?_
 rintro _ rfl
 simp only [ws,hpz,hwz]
 refine W.use b3 ?_
 rintro _ rfl
 simp only [ws,hpz,hwz]
 refine W.use b4 ?_
 rintro _ rfl
 simp only [ws,hpz,hwz]
 refine W.use b5 ?_
 rintro _ rfl
 simp only [ws,hpz,hwz]
 refine W.use b6 ?_
 rintro _ rfl
 simp only [ws]
 refine W.use b5 ?_
 rintro _ rfl
 simp only [ws,dU]
 refine W.use b1 ?_
 rintro _ rfl
 simp only [ws]
 refine W.use b3 ?_
 rintro _ rfl
 simp only [ws]
 have key:aQ ks (.long m (some m)) w=(aQ ks (.long m none) w && !aQ ks (.long (m+1) none) w):=by
  simp only [aQ,Bool.and_true]
  by_cases q1:(m:Int)≤(w.length:Nat)
  ·rw [decide_eq_true q1,Bool.true_and,Bool.true_and]
   by_cases q2:((m+1:Nat):Int)≤(w.length:Nat)
   ·rw [decide_eq_true q2,decide_eq_false (by omega)]; rfl
   ·rw [decide_eq_false q2,decide_eq_true (by omega)]; rfl
  ·rw [decide_eq_false q1,Bool.false_and,Bool.false_and]
 cases hi:cm w pc with
 | true =>
  simp only [ws]
  refine W.use l1 ?_
  rintro _ rfl
  simp only [ws,km]
  refine W.use l2 ?_
  rintro _ rfl
  simp only [ws]
  refine W.use l3 ?_
  rintro _ rfl
  rw [key]
  generalize aQ ks (.long m none) w=x
  generalize aQ ks (.long (m+1) none) w=y
  cases x <;> cases y <;> (simp only [ws,Bool.and_self,Bool.and_true,Bool.and_false,Bool.true_and,Bool.false_and]; exact ⟨p,rfl,hp⟩)
 | false =>
  have f1:Txt.startswith w pc=false:=by
   cases h:Txt.startswith w pc with
   | false=>rfl
   | true=>rw [sK h] at hi; cases hi
  have f2:Txt.endswith w pc=false:=by
   cases h:Txt.endswith w pc with
   | false=>rfl
   | true=>rw [Cq h] at hi; cases hi
  simp only [ws,f1,f2,BL,Bool.or_self]
  refine W.use l1 ?_
  rintro _ rfl
  simp only [ws,km]
  refine W.use l2 ?_
  rintro _ rfl
  simp only [ws]
  refine W.use l3 ?_
  rintro _ rfl
  rw [key]
  generalize aQ ks (.long m none) w=x
  generalize aQ ks (.long (m+1) none) w=y
  cases x <;> cases y <;> (simp only [ws,Bool.and_self,Bool.and_true,Bool.and_false,Bool.true_and,Bool.false_and]; exact ⟨p,rfl,hp⟩)
theorem qD (T:TOk ks) (hw:w.length≤1000) {p:D} {z:Str} (hp:IsPen p) (h1:1≤(li z).length) (h2:(li z).length≤12) (hn:(li z).Nodup):W (b7 [p,tD ks,.str z,.str w]) (fun r=>∃ p',r=(.bool true,[some p',none,none,none])∧IsPen p'):=by
 have n1:=T.n1
 have n4:=T.n4
 have hwz:=sz hw
 have tl:ba [tD ks]=some (.int ks.length):=by show some (PyData.int (ks.map PyData.str).length)=_; rw [List.length_map]
 simp only [b7,eU,ws,tl]
 refine bT hp (by omega) (by omega) fun r1 p1 a0 a1 hp1=>?_
 obtain ⟨k,rfl⟩:∃ k:Nat,r1=k:=⟨r1.toNat,(Int.toNat_of_nonneg a0).symm⟩
 simp only [ws]
 refine bT hp1 (by decide) (by decide) fun r2 p2 b0 b1 hp2=>?_
 obtain ⟨m,rfl⟩:∃ k:Nat,r2=k:=⟨r2.toNat,(Int.toNat_of_nonneg b0).symm⟩
 simp only [ws]
 refine W.use (qJ (m:=4) hp2 h1 (by omega) hn (by omega) (by omega)) ?_
 rintro _ ⟨own,p3,rfl,o1,o2,o3,o4,hp3⟩
 simp only [ws]
 refine bT hp3 (by decide) (by decide) fun r4 p4 c0 c1 hp4=>?_
 obtain ⟨mo,rfl⟩:∃ k:Nat,r4=k:=⟨r4.toNat,(Int.toNat_of_nonneg c0).symm⟩
 simp only [ws]
 refine bT hp4 (by decide) (by decide) fun r5 p5 d0 d1 hp5=>?_
 obtain ⟨n,hn1⟩:∃ n:Nat,(1+r5)=(n:Int):=⟨(1+r5).toNat,by omega⟩
 simp only [ws,hn1]
 refine W.use (jy (n:=n) hp5 h1 (by omega) (by omega)) ?_
 rintro _ ⟨pc,p6,rfl,y1,y2,hp6⟩
 have hpc:pc.length≤1000:=by rw [← Tg.len_li]; omega
 have hpz:=sz hpc
 have km:((m:Int)+1)=((m+1:Nat):Int):=rfl
 have H:=fun (s:Sn) (v:Str) (hv:v.length≤1000) (hd:dep s=1) (ho:HOk ks s)=>bF T hv 6 s (by omega) ho
 have q1:=H (.least k (m+1)) w hw rfl (by show k < ks.length; omega)
 have q2:=H (.least k m) w hw rfl (by show k < ks.length; omega)
 simp only [sD] at q1 q2
 simp only [ws,km]
 refine W.use q1 ?_
 rintro _ rfl
 have im:aQ ks (.least k (m+1)) w=true→aQ ks (.least k m) w=true:=fun h=>by
  have h':=of_decide_eq_true (show decide (((m+1:Nat):Int)≤_)=true from h)
  exact decide_eq_true (by omega)
 cases hb:aQ ks (.least k (m+1)) w with
 | true =>
  simp only [ws]
  refine W.use q2 ?_
  rintro _ rfl
  simp only [ws,im hb]
  have f:=FK T hw (z:=z) (k:=k) (m:=m) (own:=own) (mo:=mo) (pc:=pc) hpc (by omega) hp6
  simp only [tl1,ws] at f
  exact f
 | false =>
  simp only [ws]
  have f:=FK T hw (z:=z) (k:=k) (m:=m) (own:=own) (mo:=mo) (pc:=pc) hpc (by omega) hp6
  simp only [tl1,ws] at f
  exact f
end
end W09
namespace W09
open PySem L2 Tg Pen3
section
variable {ks:List Str} {w:Str}
theorem sx (T:TOk ks) {p:D} {z w:Str} {ss:List Sn} {s:Sn} {L i:D} {k:Option D} {Q:Fl→Prop} {J:En→Prop} (hw:w.length≤100) (hp:IsPen p) (z1:1≤(li z).length) (z2:(li z).length≤12) (zn:(li z).Nodup) (h1:1≤ss.length) (hl:ss.length≤7) (hg:∀ s∈ss,Gn ks s) (so:SOk ks s) (ho:HOk ks s) (hd:dep s≤6) (hh:∀ w,aQ ks s w=(ss.take 4).all fun s=>aQ ks s w)
  (hJ:∀ p' k',IsPen p'→J [some L,some i,some p',some (tD ks),some (.str z),some (.list (ss.map sD)),some (sD s),some (.str w),k']) :
  W (qk [some L,some i,some p,some (tD ks),some (.str z),some (.list (ss.map sD)),some (sD s),some (.str w),k]) (kIt J Q):=by
 obtain ⟨a,ha⟩:∃ s,ss[0]?=some s:=⟨_,List.getElem?_eq_getElem h1⟩
 obtain ⟨b,hb⟩:∃ t,ss[ss.length - 1]?=some t:=⟨_,List.getElem?_eq_getElem (by omega)⟩
 have e1:(ss.map sD)[0]?=some (sD a):=by rw [List.getElem?_map,ha]; rfl
 have e2:atI (ss.map sD) (-1)=some (sD b):=by
  unfold atI ixN
  rw [if_neg (by decide),if_pos (by rw [List.length_map]; omega),List.length_map]
  show (ss.map sD)[_]?=_
  rw [show (-1+(ss.length:Int)).toNat=ss.length - 1 by omega,List.getElem?_map,hb]
  rfl
 have ct:b9 (ss.map sD) none (some 4)=(ss.take 4).map sD:=by
  rw [show (some (4:Int))=some ((4:Nat):Int) from rfl,dD,List.map_take]
 have mt:∀ s∈ss.take 4,s∈ss:=fun s hs=>List.mem_of_mem_take hs
 simp only [qk,ws]
 refine W.use (BI T (by omega) h1 hl hg) ?_
 rintro _ rfl
 simp only [ws,e1,e2]
 refine W.use (qw T (by omega) (hg a (List.mem_of_getElem? ha)) (hg b (List.mem_of_getElem? hb))) ?_
 rintro _ rfl
 simp only [ws]
 refine W.use (qD T (by omega) hp z1 z2 zn) ?_
 rintro _ ⟨p',rfl,hp'⟩
 simp only [ws,ct]
 refine W.use (lN (ss:=ss.take 4) T (by omega:w.length≤1000) (by rw [List.length_take]; omega) fun s hs=>⟨(hg s (mt s hs)).ho,by have:=(hg s (mt s hs)).dp; omega⟩) ?_
 rintro _ rfl
 simp only [ws]
 refine W.use (eY T so) ?_
 rintro _ rfl
 cases isS s with
 | false=>simp only [ws]; exact hJ p' _ hp'
 | true =>
  simp only [ws]
  refine W.use (bF T (by omega:w.length≤1000) 6 s hd ho) ?_
  rintro _ rfl
  simp only [ws,hh w]
  exact hJ p' _ hp'
end
theorem uS:E7 sv:=by
 intro ns hns
 suffices h:W (sv [.list (ns.map .int)]) (fun r=>r.1=.bool true) by
  obtain ⟨⟨t,outs⟩,e,h⟩:=h.ex
  exact ⟨outs,by rw [e]; exact congrArg (fun q=>some (q,outs)) h⟩
 simp only [sv,vF,ws]
 refine ⟨by decide,iJ (fun i en=>∃ t p k z ss s w b,en=[some (.list (ns.map .int)),t,p,k,z,ss,s,w,b]) ⟨_,_,_,_,_,_,_,_,rfl⟩ ?_ ?_⟩
 ·rintro i t en ht ⟨t0,p,k,z,ss,s,w,b,rfl⟩
  obtain ⟨hi,rfl⟩:=kT ht
  simp only [ws,ur]
  refine Hi (by omega) fun p1 hp1=>?_
  simp only [ws]
  refine W.use (sH hp1) ?_
  rintro _ ⟨ks,p2,rfl,T,hp2⟩
  have l1:=T.l1
  have l12:=T.l12
  have zs:(sgs ks).length≤sizeLine:=sz (by rw [jg]; omega)
  simp only [ws,qS T,zs]
  refine bT hp2 (by decide) (by decide) fun q p3 q0 q1 hp3=>?_
  have e2:cQ (sgs ks).cps.toList none (some 2)=(bz ks).take 2:=by
   show b9 (bz ks) none (some ((2:Nat):Int))=_
   rw [dD]
  obtain ⟨z',hz,z1,z2,zn,zm⟩:∃ z':Str,atI [PyData.str (sgs ks),PyData.str ⟨(cQ (sgs ks).cps.toList none (some 2)).toArray⟩] q=some (.str z')∧1≤(li z').length∧(li z').length≤12∧(li z').Nodup∧∀ c∈li z',c∈bz ks:=by
   rcases (show q=0∨q=1 by omega) with rfl | rfl
   ·exact ⟨sgs ks,rfl,l1,l12,T.nd,fun c hc=>hc⟩
   ·refine ⟨ofL ((bz ks).take 2),by rw [e2]; rfl,?_,?_,?_,fun c hc=>List.mem_of_mem_take hc⟩
    ·rw [ib,List.length_take]; omega
    ·rw [ib,List.length_take]; omega
    ·exact List.Sublist.nodup (List.take_sublist 2 (bz ks)) T.nd
  simp only [ws,hz]
  refine bT hp3 (by decide) (by decide) fun r p4 r0 r1 hp4=>?_
  obtain ⟨N,hN⟩:∃ N:Nat,(1+r)=(N:Int):=⟨(1+r).toNat,by omega⟩
  simp only [ws,hN]
  refine ⟨by omega,nS (fun i us en=>∃ (ss:List Sn) (o:Option D) (p:D),us=ss.map sD∧en=[o,some p,some (tD ks),some (.str z')]∧ss.length=i∧(∀ s∈ss,Gn ks s)∧IsPen p) (by rw [eD]; exact sz (by omega)) ⟨[],none,p4,rfl,rfl,rfl,fun _ h=>(by cases h),hp4⟩ ?_ ?_⟩
  ·rintro i t us en ht _ ⟨ss,o,p,rfl,rfl,h3,h4,hp⟩
   simp only [ws,uv]
   refine W.use (qv T hp z1 z2 zn zm) ?_
   rintro _ ⟨s,p',rfl,g,hp'⟩
   simp only [ws]
   refine ⟨ss++[s],some t,p',by rw [List.map_append]; rfl,rfl,by rw [List.length_append,h3]; rfl,fun x hx=>?_,hp'⟩
   rcases List.mem_append.mp hx with hx | hx
   ·exact h4 x hx
   ·rw [List.mem_singleton.mp hx]; exact g
  ·rintro us en _ ⟨ss,o,p5,rfl,rfl,h3,hg,hp5⟩
   rw [eD,Int.toNat_natCast] at h3
   simp only [ws]
   refine W.use (qt (by omega) hg) ?_
   rintro _ ⟨s,rfl,so,ho,hd,hh⟩
   simp only [ws]
   refine W.use (oN T (by omega) (by omega) hg) ?_
   rintro _ rfl
   simp only [ws]
   refine W.use (uw hp5 z1 z2 (by omega) hg) ?_
   rintro _ ⟨vs,p6,rfl,hv,hp6⟩
   simp only [ws]
   refine uo (fun en=>∃ p w b,en=[some (.list (ns.map .int)),some (.int (0+(i:Nat))),some p,some (tD ks),some (.str z'),some (.list (ss.map sD)),some (sD s),w,b]∧IsPen p) ⟨p6,w,b,rfl,hp6⟩ ?_ ?_
   ·rintro t ht en ⟨p,w,b,rfl,hp⟩
    obtain ⟨v,hv1,rfl⟩:=List.mem_map.mp ht
    simp only [ws]
    exact sx T (hv v hv1) hp z1 z2 zn (by omega) (by omega) hg so ho hd hh fun p' k' hp'=>⟨p',_,k',rfl,hp'⟩
   ·rintro en ⟨p,w,b,rfl,hp⟩
    simp only [ws]
    exact ⟨_,_,_,_,_,_,_,_,rfl⟩
 ·rintro en ⟨t0,p,k,z,ss,s,w,b,rfl⟩
  simp only [ws]
end W09
set_option maxHeartbeats 4000000
namespace W09
open PySem L2
theorem cA {α β:Type} {us:List α} {x0:β} (h:us.length=[x0].length):∃ a0,us=[a0]:=by
 cases us with
 | nil=>cases h
 | cons a0 r=>exact ⟨a0,by rw [List.length_eq_zero_iff.mp (show r.length=0 from Nat.succ.inj h)]⟩
theorem da {α β:Type} {us:List α} {x0 x1:β} (h:us.length=[x0,x1].length):∃ a0 a1,us=[a0,a1]:=by
 cases us with
 | nil=>cases h
 | cons a0 r=>obtain ⟨a1,rfl⟩:=cA (us:=r) (x0:=x1) (Nat.succ.inj h); exact ⟨a0,a1,rfl⟩
theorem cP {α β:Type} {us:List α} {x0 x1 x2:β} (h:us.length=[x0,x1,x2].length):∃ a0 a1 a2,us=[a0,a1,a2]:=by
 cases us with
 | nil=>cases h
 | cons a0 r=>obtain ⟨a1,a2,rfl⟩:=da (us:=r) (x0:=x1) (x1:=x2) (Nat.succ.inj h); exact ⟨a0,a1,a2,rfl⟩
theorem E4 {α β:Type} {us:List α} {x0 x1 x2 x3:β} (h:us.length=[x0,x1,x2,x3].length):∃ a0 a1 a2 a3,us=[a0,a1,a2,a3]:=by
 cases us with
 | nil=>cases h
 | cons a0 r=>obtain ⟨a1,a2,a3,rfl⟩:=cP (us:=r) (x0:=x1) (x1:=x2) (x2:=x3) (Nat.succ.inj h); exact ⟨a0,a1,a2,a3,rfl⟩
theorem all_mk {l:PySem.W.OpenLaw} {w:World} {K:PySem.W.Frag} {h:Heap} {mg:Str→Option Value} {fa f0 f1 f2 f3 f4 f5 f6 f7 f8 f9 f10 f11 f12 f13 f14 f15 f16 f17 f18 f19 f20 f21 f22 f23 f24 f25 f26 f27 f28 f29 f30 f31 f32 f33 f34 f35 f36 f37 f38:Addr} {tk0:Tok} {tk1:Tok} {tk2:Tok} {tk3:Tok} {tk4:Tok} {tk5:Tok} {tk6:Tok} {tk7:Tok} {tk8:Tok} {tk9:Tok} {tk10:Tok} {tk11:Tok} {tk12:Tok} {tk13:Tok} {tk14:Tok} (X:K.In h) (G:h.Ns mainGlobals mg) (hfa:mg "law"=some (.ref fa))
  (d0:Df K "is_sign" lY f0)
  (d1:Df K "is_kind" jR f1)
  (d2:Df K "are_unlike" i5 f2)
  (d3:Df K "signs_of" kE f3)
  (d4:Df K "is_tongue" gY f4)
  (d5:Df K "is_word" jO f5)
  (d6:Df K "is_whole" kG f6)
  (d7:Df K "is_whole_within" fg f7)
  (d8:Df K "how_many_parts" fH f8)
  (d9:Df K "is_low_and_high" fh f9)
  (d10:Df K "is_told_word" gJ f10)
  (d11:Df K "is_often_signs" fG f11)
  (d12:Df K "is_simple" jP f12)
  (d13:Df K "is_formed" gZ f13)
  (d14:Df K "sentences_in" e8 f14)
  (d15:Df K "is_sentence" il f15)
  (d16:Df K "holds_simple" cR f16)
  (d17:Df K "holds" qc f17)
  (d18:Df K "often_weight" gI f18)
  (d19:Df K "simple_weight" fZ f19)
  (d20:Df K "weight" nT f20)
  (d21:Df K "rule_of" lX f21)
  (d22:Df K "is_rule" jQ f22)
  (d23:Df K "keeps" na f23)
  (d24:Df K "rule_weight" ik f24)
  (d25:Df K "_law_pen" kH f25)
  (d26:Df K "_law_draw" jS f26)
  (d27:Df K "_law_tongue" fI f27)
  (d28:Df K "_law_sized" gn f28)
  (d29:Df K "_law_some" hC f29)
  (d30:Df K "_law_sentence" gf f30)
  (d31:Df K "_law_pieces" dq f31)
  (d32:Df K "_law_words" i6 f32)
  (d33:Df K "_law_kept_right" cN f33)
  (d34:Df K "_law_parts_right" eS f34)
  (d35:Df K "_law_kinds_right" cy f35)
  (d36:Df K "_law_weights_right" dQ f36)
  (d37:Df K "_law_together" ge f37)
  (d38:Df K "law" kF f38)
  (y0:PySem.W.nsIn K mainGlobals "LOWEST_CODE"=some (some (.int 33 tk0)))
  (y1:PySem.W.nsIn K mainGlobals "HIGHEST_CODE"=some (some (.int 126 tk1)))
  (y2:PySem.W.nsIn K mainGlobals "PERCENT_CODE"=some (some (.int 37 tk2)))
  (y3:PySem.W.nsIn K mainGlobals "MOST_SIGNS_OF_A_KIND"=some (some (.int 6 tk3)))
  (y4:PySem.W.nsIn K mainGlobals "MOST_SIGNS"=some (some (.int 12 tk4)))
  (y5:PySem.W.nsIn K mainGlobals "MOST_KINDS"=some (some (.int 4 tk5)))
  (y6:PySem.W.nsIn K mainGlobals "MOST_SIGNS_OF_A_WORD"=some (some (.int 60 tk6)))
  (y7:PySem.W.nsIn K mainGlobals "HIGHEST_LENGTH"=some (some (.int 30 tk7)))
  (y8:PySem.W.nsIn K mainGlobals "MOST_SIGNS_TOLD"=some (some (.int 6 tk8)))
  (y9:PySem.W.nsIn K mainGlobals "MOST_OFTEN_SIGNS"=some (some (.int 4 tk9)))
  (y10:PySem.W.nsIn K mainGlobals "HIGHEST_LEAST"=some (some (.int 9 tk10)))
  (y11:PySem.W.nsIn K mainGlobals "HIGHEST_OFTEN"=some (some (.int 3 tk11)))
  (y12:PySem.W.nsIn K mainGlobals "MOST_DEEP"=some (some (.int 4 tk12)))
  (y13:PySem.W.nsIn K mainGlobals "MOST_SENTENCES_IN_ONE"=some (some (.int 9 tk13)))
  (y14:PySem.W.nsIn K mainGlobals "MOST_SENTENCES"=some (some (.int 8 tk14)))
  (z0:PySem.W.nsIn K mainGlobals "abs"=some none)
  (z1:PySem.W.nsIn K mainGlobals "all"=some none)
  (z2:PySem.W.nsIn K mainGlobals "bool"=some none)
  (z3:PySem.W.nsIn K mainGlobals "enumerate"=some none)
  (z4:PySem.W.nsIn K mainGlobals "int"=some none)
  (z5:PySem.W.nsIn K mainGlobals "isinstance"=some none)
  (z6:PySem.W.nsIn K mainGlobals "len"=some none)
  (z7:PySem.W.nsIn K mainGlobals "list"=some none)
  (z8:PySem.W.nsIn K mainGlobals "min"=some none)
  (z9:PySem.W.nsIn K mainGlobals "ord"=some none)
  (z10:PySem.W.nsIn K mainGlobals "range"=some none)
  (z11:PySem.W.nsIn K mainGlobals "set"=some none)
  (z12:PySem.W.nsIn K mainGlobals "str"=some none)
  (z13:PySem.W.nsIn K mainGlobals "sum"=some none)
  (z14:PySem.W.nsIn K mainGlobals "tuple"=some none)
  (z15:PySem.W.nsIn K mainGlobals "zip"=some none) :
  ∃ fd:FuncData,(∀ (s:Shared) (v:Value),BindsTo s fd ⟨[v],[]⟩ [("_law_script",v)])∧∀ base:Heap,K.In base→base.Ns mainGlobals mg→FnOk l.prog w K mg base CX0 14 fa fd ["_law_script"] (my K):=by
 have e:=hfa.symm.trans (PySem.W.mg_of X G d38.a)
 cases e
 have v0:=PySem.W.mg_of X G y0
 have v1:=PySem.W.mg_of X G y1
 have v2:=PySem.W.mg_of X G y2
 have v3:=PySem.W.mg_of X G y3
 have v4:=PySem.W.mg_of X G y4
 have v5:=PySem.W.mg_of X G y5
 have v6:=PySem.W.mg_of X G y6
 have v7:=PySem.W.mg_of X G y7
 have v8:=PySem.W.mg_of X G y8
 have v9:=PySem.W.mg_of X G y9
 have v10:=PySem.W.mg_of X G y10
 have v11:=PySem.W.mg_of X G y11
 have v12:=PySem.W.mg_of X G y12
 have v13:=PySem.W.mg_of X G y13
 have v14:=PySem.W.mg_of X G y14
 have T:Bl mg:=⟨PySem.W.mg_none_of X G z0,PySem.W.mg_none_of X G z1,PySem.W.mg_none_of X G z2,PySem.W.mg_none_of X G z3,PySem.W.mg_none_of X G z4,PySem.W.mg_none_of X G z5,PySem.W.mg_none_of X G z6,PySem.W.mg_none_of X G z7,PySem.W.mg_none_of X G z8,PySem.W.mg_none_of X G z9,PySem.W.mg_none_of X G z10,PySem.W.mg_none_of X G z11,PySem.W.mg_none_of X G z12,PySem.W.mg_none_of X G z13,PySem.W.mg_none_of X G z14,PySem.W.mg_none_of X G z15⟩
 obtain ⟨oc,od,kV,dc,pm,an,cd,ct,sl,ll,lc⟩:=d38.l
 have FL:=pS (st:=kF) ll lc d38.k
 refine ⟨PySem.W.fnOf "law" "law" (eH kF) (dm kF) (ar kF) .none kV dc pm an cd ct,fun s v=>.of_eq rfl,fun base _ _=>?_⟩
 have g0:Kn l.prog w K mg base 1 "is_sign" ["sign"] (spF K [0] 3 ir):=d0.kn X G (fun _ _ _ _ _ _ us hl=>by obtain ⟨a0,rfl⟩:=cA hl; rfl) fun _ F=>sV (k:=0) T v0 v1 v2   F
 have g1:Kn l.prog w K mg base 2 "is_kind" ["thing"] (spF K [0] 3 gi):=d1.kn X G (fun _ _ _ _ _ _ us hl=>by obtain ⟨a0,rfl⟩:=cA hl; rfl) fun _ F=>sX (k:=1) T v3 (g0.mono (by decide))  F
 have g2:Kn l.prog w K mg base 1 "are_unlike" ["signs"] (spF K [0] 3 cF):=d2.kn X G (fun _ _ _ _ _ _ us hl=>by obtain ⟨a0,rfl⟩:=cA hl; rfl) fun _ F=>pE (k:=0) T    F
 have g3:Kn l.prog w K mg base 1 "signs_of" ["tongue"] (spF K [0] 3 cE):=d3.kn X G (fun _ _ _ _ _ _ us hl=>by obtain ⟨a0,rfl⟩:=cA hl; rfl) fun _ F=>rL (k:=0) T    F
 have g4:Kn l.prog w K mg base 3 "is_tongue" ["thing"] (spF K [0] 3 cZ):=d4.kn X G (fun _ _ _ _ _ _ us hl=>by obtain ⟨a0,rfl⟩:=cA hl; rfl) fun _ F=>qx (k:=2) T v4 v5 (g3.mono (by decide)) (g2.mono (by decide)) (g1.mono (by decide))  F
 have g5:Kn l.prog w K mg base 2 "is_word" ["tongue", "thing"] (spF K [0,0] 3 et):=d5.kn X G (fun _ _ _ _ _ _ us hl=>by obtain ⟨a0,a1,rfl⟩:=da hl; rfl) fun _ F=>sU (k:=1) T v6 (g3.mono (by decide))  F
 have g6:Kn l.prog w K mg base 1 "is_whole" ["thing"] (spF K [0] 3 gy):=d6.kn X G (fun _ _ _ _ _ _ us hl=>by obtain ⟨a0,rfl⟩:=cA hl; rfl) fun _ F=>rM (k:=0) T    F
 have g7:Kn l.prog w K mg base 2 "is_whole_within" ["thing", "low", "high"] (spF K [0,0,0] 3 bi):=d7.kn X G (fun _ _ _ _ _ _ us hl=>by obtain ⟨a0,a1,a2,rfl⟩:=cP hl; rfl) fun _ F=>k8 (k:=1) T  (g6.mono (by decide))  F
 have g8:Kn l.prog w K mg base 1 "how_many_parts" ["head"] (spF K [0] 3 aR):=d8.kn X G (fun _ _ _ _ _ _ us hl=>by obtain ⟨a0,rfl⟩:=cA hl; rfl) fun _ F=>lM (k:=0) T    F
 have g9:Kn l.prog w K mg base 3 "is_low_and_high" ["low", "high"] (spF K [0,0] 3 ce):=d9.kn X G (fun _ _ _ _ _ _ us hl=>by obtain ⟨a0,a1,rfl⟩:=da hl; rfl) fun _ F=>k9 (k:=2) T v7 (g7.mono (by decide))  F
 have g10:Kn l.prog w K mg base 3 "is_told_word" ["tongue", "thing"] (spF K [0,0] 3 cT):=d10.kn X G (fun _ _ _ _ _ _ us hl=>by obtain ⟨a0,a1,rfl⟩:=da hl; rfl) fun _ F=>nz (k:=2) T v8 (g5.mono (by decide))  F
 have g11:Kn l.prog w K mg base 3 "is_often_signs" ["tongue", "thing"] (spF K [0,0] 3 c7):=d11.kn X G (fun _ _ _ _ _ _ us hl=>by obtain ⟨a0,a1,rfl⟩:=da hl; rfl) fun _ F=>lL (k:=2) T v9 (g5.mono (by decide)) (g2.mono (by decide))  F
 have g12:Kn l.prog w K mg base 4 "is_simple" ["tongue", "thing"] (spF K [0,0] 3 bP):=d12.kn X G (fun _ _ _ _ _ _ us hl=>by obtain ⟨a0,a1,rfl⟩:=da hl; rfl) fun _ F=>qy (k:=3) T v10 v11 (g9.mono (by decide)) (g10.mono (by decide)) (g7.mono (by decide)) (g11.mono (by decide))  F
 have g13r0:Kn l.prog w K mg base 4 "is_formed" ["tongue", "thing", "deep"] (spF K [0,0,0] 3 (bV 0)):=d13.none X G (fun _ _ _ _ _ _ us hl=>by obtain ⟨a0,a1,a2,rfl⟩:=cP hl; rfl)
 have g13r1:Kn l.prog w K mg base 5 "is_formed" ["tongue", "thing", "deep"] (spF K [0,0,0] 3 (bV 1)):=d13.kn X G (fun _ _ _ _ _ _ us hl=>by obtain ⟨a0,a1,a2,rfl⟩:=cP hl; rfl) fun _ F=>dM (k:=4) T  (g8.mono (by decide)) (g12.mono (by decide)) g13r0 F
 have g13r2:Kn l.prog w K mg base 6 "is_formed" ["tongue", "thing", "deep"] (spF K [0,0,0] 3 (bV 2)):=d13.kn X G (fun _ _ _ _ _ _ us hl=>by obtain ⟨a0,a1,a2,rfl⟩:=cP hl; rfl) fun _ F=>dM (k:=5) T  (g8.mono (by decide)) (g12.mono (by decide)) g13r1 F
 have g13r3:Kn l.prog w K mg base 7 "is_formed" ["tongue", "thing", "deep"] (spF K [0,0,0] 3 (bV 3)):=d13.kn X G (fun _ _ _ _ _ _ us hl=>by obtain ⟨a0,a1,a2,rfl⟩:=cP hl; rfl) fun _ F=>dM (k:=6) T  (g8.mono (by decide)) (g12.mono (by decide)) g13r2 F
 have g13r4:Kn l.prog w K mg base 8 "is_formed" ["tongue", "thing", "deep"] (spF K [0,0,0] 3 (bV 4)):=d13.kn X G (fun _ _ _ _ _ _ us hl=>by obtain ⟨a0,a1,a2,rfl⟩:=cP hl; rfl) fun _ F=>dM (k:=7) T  (g8.mono (by decide)) (g12.mono (by decide)) g13r3 F
 have g13r5:Kn l.prog w K mg base 9 "is_formed" ["tongue", "thing", "deep"] (spF K [0,0,0] 3 (bV 5)):=d13.kn X G (fun _ _ _ _ _ _ us hl=>by obtain ⟨a0,a1,a2,rfl⟩:=cP hl; rfl) fun _ F=>dM (k:=8) T  (g8.mono (by decide)) (g12.mono (by decide)) g13r4 F
 have g13:Kn l.prog w K mg base 10 "is_formed" ["tongue", "thing", "deep"] (spF K [0,0,0] 3 (bV 6)):=d13.kn X G (fun _ _ _ _ _ _ us hl=>by obtain ⟨a0,a1,a2,rfl⟩:=cP hl; rfl) fun _ F=>dM (k:=9) T  (g8.mono (by decide)) (g12.mono (by decide)) g13r5 F
 have g14r0:Kn l.prog w K mg base 1 "sentences_in" ["sentence"] (spF K [0] 3 (bx 0)):=d14.none X G (fun _ _ _ _ _ _ us hl=>by obtain ⟨a0,rfl⟩:=cA hl; rfl)
 have g14r1:Kn l.prog w K mg base 2 "sentences_in" ["sentence"] (spF K [0] 3 (bx 1)):=d14.kn X G (fun _ _ _ _ _ _ us hl=>by obtain ⟨a0,rfl⟩:=cA hl; rfl) fun _ F=>cG (k:=1) T  (g8.mono (by decide)) g14r0 F
 have g14r2:Kn l.prog w K mg base 3 "sentences_in" ["sentence"] (spF K [0] 3 (bx 2)):=d14.kn X G (fun _ _ _ _ _ _ us hl=>by obtain ⟨a0,rfl⟩:=cA hl; rfl) fun _ F=>cG (k:=2) T  (g8.mono (by decide)) g14r1 F
 have g14r3:Kn l.prog w K mg base 4 "sentences_in" ["sentence"] (spF K [0] 3 (bx 3)):=d14.kn X G (fun _ _ _ _ _ _ us hl=>by obtain ⟨a0,rfl⟩:=cA hl; rfl) fun _ F=>cG (k:=3) T  (g8.mono (by decide)) g14r2 F
 have g14r4:Kn l.prog w K mg base 5 "sentences_in" ["sentence"] (spF K [0] 3 (bx 4)):=d14.kn X G (fun _ _ _ _ _ _ us hl=>by obtain ⟨a0,rfl⟩:=cA hl; rfl) fun _ F=>cG (k:=4) T  (g8.mono (by decide)) g14r3 F
 have g14r5:Kn l.prog w K mg base 6 "sentences_in" ["sentence"] (spF K [0] 3 (bx 5)):=d14.kn X G (fun _ _ _ _ _ _ us hl=>by obtain ⟨a0,rfl⟩:=cA hl; rfl) fun _ F=>cG (k:=5) T  (g8.mono (by decide)) g14r4 F
 have g14:Kn l.prog w K mg base 7 "sentences_in" ["sentence"] (spF K [0] 3 (bx 6)):=d14.kn X G (fun _ _ _ _ _ _ us hl=>by obtain ⟨a0,rfl⟩:=cA hl; rfl) fun _ F=>cG (k:=6) T  (g8.mono (by decide)) g14r5 F
 have g15:Kn l.prog w K mg base 11 "is_sentence" ["tongue", "thing"] (spF K [0,0] 3 bG):=d15.kn X G (fun _ _ _ _ _ _ us hl=>by obtain ⟨a0,a1,rfl⟩:=da hl; rfl) fun _ F=>oS (k:=10) T v12 v13 (g13.mono (by decide)) (g14.mono (by decide))  F
 have g16:Kn l.prog w K mg base 1 "holds_simple" ["tongue", "sentence", "word"] (spF K [0,0,0] 3 bo):=d16.kn X G (fun _ _ _ _ _ _ us hl=>by obtain ⟨a0,a1,a2,rfl⟩:=cP hl; rfl) fun _ F=>nA (k:=0) T    F
 have g17r0:Kn l.prog w K mg base 1 "holds" ["tongue", "sentence", "word"] (spF K [0,0,0] 3 (aU 0)):=d17.none X G (fun _ _ _ _ _ _ us hl=>by obtain ⟨a0,a1,a2,rfl⟩:=cP hl; rfl)
 have g17r1:Kn l.prog w K mg base 2 "holds" ["tongue", "sentence", "word"] (spF K [0,0,0] 3 (aU 1)):=d17.kn X G (fun _ _ _ _ _ _ us hl=>by obtain ⟨a0,a1,a2,rfl⟩:=cP hl; rfl) fun _ F=>hG (k:=1) T  (g16.mono (by decide)) g17r0 F
 have g17r2:Kn l.prog w K mg base 3 "holds" ["tongue", "sentence", "word"] (spF K [0,0,0] 3 (aU 2)):=d17.kn X G (fun _ _ _ _ _ _ us hl=>by obtain ⟨a0,a1,a2,rfl⟩:=cP hl; rfl) fun _ F=>hG (k:=2) T  (g16.mono (by decide)) g17r1 F
 have g17r3:Kn l.prog w K mg base 4 "holds" ["tongue", "sentence", "word"] (spF K [0,0,0] 3 (aU 3)):=d17.kn X G (fun _ _ _ _ _ _ us hl=>by obtain ⟨a0,a1,a2,rfl⟩:=cP hl; rfl) fun _ F=>hG (k:=3) T  (g16.mono (by decide)) g17r2 F
 have g17r4:Kn l.prog w K mg base 5 "holds" ["tongue", "sentence", "word"] (spF K [0,0,0] 3 (aU 4)):=d17.kn X G (fun _ _ _ _ _ _ us hl=>by obtain ⟨a0,a1,a2,rfl⟩:=cP hl; rfl) fun _ F=>hG (k:=4) T  (g16.mono (by decide)) g17r3 F
 have g17r5:Kn l.prog w K mg base 6 "holds" ["tongue", "sentence", "word"] (spF K [0,0,0] 3 (aU 5)):=d17.kn X G (fun _ _ _ _ _ _ us hl=>by obtain ⟨a0,a1,a2,rfl⟩:=cP hl; rfl) fun _ F=>hG (k:=5) T  (g16.mono (by decide)) g17r4 F
 have g17:Kn l.prog w K mg base 7 "holds" ["tongue", "sentence", "word"] (spF K [0,0,0] 3 (aU 6)):=d17.kn X G (fun _ _ _ _ _ _ us hl=>by obtain ⟨a0,a1,a2,rfl⟩:=cP hl; rfl) fun _ F=>hG (k:=6) T  (g16.mono (by decide)) g17r5 F
 have g18:Kn l.prog w K mg base 1 "often_weight" ["signs", "most"] (spF K [0,0] 3 cS):=d18.kn X G (fun _ _ _ _ _ _ us hl=>by obtain ⟨a0,a1,rfl⟩:=da hl; rfl) fun _ F=>ny (k:=0) T    F
 have g19:Kn l.prog w K mg base 2 "simple_weight" ["tongue", "sentence"] (spF K [0,0] 3 bg):=d19.kn X G (fun _ _ _ _ _ _ us hl=>by obtain ⟨a0,a1,rfl⟩:=da hl; rfl) fun _ F=>mD (k:=1) T  (g18.mono (by decide)) (g3.mono (by decide))  F
 have g20r0:Kn l.prog w K mg base 2 "weight" ["tongue", "sentence"] (spF K [0,0] 3 (bE 0)):=d20.none X G (fun _ _ _ _ _ _ us hl=>by obtain ⟨a0,a1,rfl⟩:=da hl; rfl)
 have g20r1:Kn l.prog w K mg base 3 "weight" ["tongue", "sentence"] (spF K [0,0] 3 (bE 1)):=d20.kn X G (fun _ _ _ _ _ _ us hl=>by obtain ⟨a0,a1,rfl⟩:=da hl; rfl) fun _ F=>fR (k:=2) T  (g19.mono (by decide)) g20r0 F
 have g20r2:Kn l.prog w K mg base 4 "weight" ["tongue", "sentence"] (spF K [0,0] 3 (bE 2)):=d20.kn X G (fun _ _ _ _ _ _ us hl=>by obtain ⟨a0,a1,rfl⟩:=da hl; rfl) fun _ F=>fR (k:=3) T  (g19.mono (by decide)) g20r1 F
 have g20r3:Kn l.prog w K mg base 5 "weight" ["tongue", "sentence"] (spF K [0,0] 3 (bE 3)):=d20.kn X G (fun _ _ _ _ _ _ us hl=>by obtain ⟨a0,a1,rfl⟩:=da hl; rfl) fun _ F=>fR (k:=4) T  (g19.mono (by decide)) g20r2 F
 have g20r4:Kn l.prog w K mg base 6 "weight" ["tongue", "sentence"] (spF K [0,0] 3 (bE 4)):=d20.kn X G (fun _ _ _ _ _ _ us hl=>by obtain ⟨a0,a1,rfl⟩:=da hl; rfl) fun _ F=>fR (k:=5) T  (g19.mono (by decide)) g20r3 F
 have g20r5:Kn l.prog w K mg base 7 "weight" ["tongue", "sentence"] (spF K [0,0] 3 (bE 5)):=d20.kn X G (fun _ _ _ _ _ _ us hl=>by obtain ⟨a0,a1,rfl⟩:=da hl; rfl) fun _ F=>fR (k:=6) T  (g19.mono (by decide)) g20r4 F
 have g20:Kn l.prog w K mg base 8 "weight" ["tongue", "sentence"] (spF K [0,0] 3 (bE 6)):=d20.kn X G (fun _ _ _ _ _ _ us hl=>by obtain ⟨a0,a1,rfl⟩:=da hl; rfl) fun _ F=>fR (k:=7) T  (g19.mono (by decide)) g20r5 F
 have g21:Kn l.prog w K mg base 12 "rule_of" ["tongue", "sentences"] (spF K [0,0] 0 dG):=d21.kn X G (fun _ _ _ _ _ _ us hl=>by obtain ⟨a0,a1,rfl⟩:=da hl; rfl) fun _ F=>sT (k:=11) T v14 (g4.mono (by decide)) (g15.mono (by decide))  F
 have g22:Kn l.prog w K mg base 12 "is_rule" ["thing"] (spF K [0] 3 gg):=d22.kn X G (fun _ _ _ _ _ _ us hl=>by obtain ⟨a0,rfl⟩:=cA hl; rfl) fun _ F=>sW (k:=11) T v14 (g4.mono (by decide)) (g15.mono (by decide))  F
 have g23:Kn l.prog w K mg base 8 "keeps" ["rule", "word"] (spF K [0,0] 3 fK):=d23.kn X G (fun _ _ _ _ _ _ us hl=>by obtain ⟨a0,a1,rfl⟩:=da hl; rfl) fun _ F=>BA (k:=7) T  (g17.mono (by decide))  F
 have g24:Kn l.prog w K mg base 9 "rule_weight" ["rule"] (spF K [0] 0 du):=d24.kn X G (fun _ _ _ _ _ _ us hl=>by obtain ⟨a0,rfl⟩:=cA hl; rfl) fun _ F=>oR (k:=8) T  (g20.mono (by decide))  F
 have g25:Kn l.prog w K mg base 1 "_law_pen" ["_law_script", "_law_k"] (spF K [0,0] 3 F_law_pen):=d25.kn X G (fun _ _ _ _ _ _ us hl=>by obtain ⟨a0,a1,rfl⟩:=da hl; rfl) fun _ F=>rN (k:=0) T    F
 have g26:Kn l.prog w K mg base 1 "_law_draw" ["_law_pen_here", "_law_many"] (spF K [1,0] 0 F_law_draw):=d26.kn X G (fun _ _ _ _ _ _ us hl=>by obtain ⟨a0,a1,rfl⟩:=da hl; rfl) fun _ F=>qA (k:=0) T    F
 have g27:Kn l.prog w K mg base 2 "_law_tongue" ["_law_pen_here"] (spF K [1] 0 dw):=d27.kn X G (fun _ _ _ _ _ _ us hl=>by obtain ⟨a0,rfl⟩:=cA hl; rfl) fun _ F=>oT (k:=1) T  (g26.mono (by decide))  F
 have g28:Kn l.prog w K mg base 2 "_law_sized" ["_law_pen_here", "_law_signs", "_law_many"] (spF K [1,0,0] 3 bU):=d28.kn X G (fun _ _ _ _ _ _ us hl=>by obtain ⟨a0,a1,a2,rfl⟩:=cP hl; rfl) fun _ F=>pG (k:=1) T  (g26.mono (by decide))  F
 have g29:Kn l.prog w K mg base 2 "_law_some" ["_law_pen_here", "_law_signs", "_law_most"] (spF K [1,0,0] 3 c9):=d29.kn X G (fun _ _ _ _ _ _ us hl=>by obtain ⟨a0,a1,a2,rfl⟩:=cP hl; rfl) fun _ F=>qz (k:=1) T  (g26.mono (by decide))  F
 have g30:Kn l.prog w K mg base 3 "_law_sentence" ["_law_pen_here", "_law_tongue_here", "_law_signs"] (spF K [1,0,0] 0 cJ):=d30.kn X G (fun _ _ _ _ _ _ us hl=>by obtain ⟨a0,a1,a2,rfl⟩:=cP hl; rfl) fun _ F=>mE (k:=2) T  (g26.mono (by decide)) (g28.mono (by decide)) (g29.mono (by decide))  F
 have g31:Kn l.prog w K mg base 1 "_law_pieces" ["_law_sentences"] (spF K [0] 1 dy):=d31.kn X G (fun _ _ _ _ _ _ us hl=>by obtain ⟨a0,rfl⟩:=cA hl; rfl) fun _ F=>oU (k:=0) T    F
 have g32:Kn l.prog w K mg base 3 "_law_words" ["_law_pen_here", "_law_signs", "_law_sentences"] (spF K [1,0,0] 0 dP):=d32.kn X G (fun _ _ _ _ _ _ us hl=>by obtain ⟨a0,a1,a2,rfl⟩:=cP hl; rfl) fun _ F=>pF (k:=2) T  (g31.mono (by decide)) (g28.mono (by decide)) (g26.mono (by decide))  F
 have g33:Kn l.prog w K mg base 13 "_law_kept_right" ["_law_tongue_here", "_law_sentences", "_law_word"] (spF K [0,0,0] 3 cf):=d33.kn X G (fun _ _ _ _ _ _ us hl=>by obtain ⟨a0,a1,a2,rfl⟩:=cP hl; rfl) fun _ F=>la (k:=12) T  (g17.mono (by decide)) (g21.mono (by decide)) (g23.mono (by decide)) (g22.mono (by decide))  F
 have g34:Kn l.prog w K mg base 12 "_law_parts_right" ["_law_tongue_here", "_law_one", "_law_other", "_law_word"] (spF K [0,0,0,0] 3 bZ):=d34.kn X G (fun _ _ _ _ _ _ us hl=>by obtain ⟨a0,a1,a2,a3,rfl⟩:=E4 hl; rfl) fun _ F=>ko (k:=11) T  (g15.mono (by decide)) (g17.mono (by decide))  F
 have g35:Kn l.prog w K mg base 8 "_law_kinds_right" ["_law_pen_here", "_law_tongue_here", "_law_signs", "_law_word"] (spF K [1,0,0,0] 3 b7):=d35.kn X G (fun _ _ _ _ _ _ us hl=>by obtain ⟨a0,a1,a2,a3,rfl⟩:=E4 hl; rfl) fun _ F=>kq (k:=7) T  (g26.mono (by decide)) (g29.mono (by decide)) (g28.mono (by decide)) (g17.mono (by decide))  F
 have g36:Kn l.prog w K mg base 10 "_law_weights_right" ["_law_tongue_here", "_law_sentences"] (spF K [0,0] 3 bS):=d36.kn X G (fun _ _ _ _ _ _ us hl=>by obtain ⟨a0,a1,rfl⟩:=da hl; rfl) fun _ F=>jA (k:=9) T  (g24.mono (by decide)) (g20.mono (by decide))  F
 have g37r0:Kn l.prog w K mg base 0 "_law_together" ["_law_sentences"] (spF K [0] 0 (aY 0)):=d37.none X G (fun _ _ _ _ _ _ us hl=>by obtain ⟨a0,rfl⟩:=cA hl; rfl)
 have g37r1:Kn l.prog w K mg base 1 "_law_together" ["_law_sentences"] (spF K [0] 0 (aY 1)):=d37.kn X G (fun _ _ _ _ _ _ us hl=>by obtain ⟨a0,rfl⟩:=cA hl; rfl) fun _ F=>dY (k:=0) T  g37r0 F
 have g37r2:Kn l.prog w K mg base 2 "_law_together" ["_law_sentences"] (spF K [0] 0 (aY 2)):=d37.kn X G (fun _ _ _ _ _ _ us hl=>by obtain ⟨a0,rfl⟩:=cA hl; rfl) fun _ F=>dY (k:=1) T  g37r1 F
 have g37r3:Kn l.prog w K mg base 3 "_law_together" ["_law_sentences"] (spF K [0] 0 (aY 3)):=d37.kn X G (fun _ _ _ _ _ _ us hl=>by obtain ⟨a0,rfl⟩:=cA hl; rfl) fun _ F=>dY (k:=2) T  g37r2 F
 have g37:Kn l.prog w K mg base 4 "_law_together" ["_law_sentences"] (spF K [0] 0 (aY 4)):=d37.kn X G (fun _ _ _ _ _ _ us hl=>by obtain ⟨a0,rfl⟩:=cA hl; rfl) fun _ F=>dY (k:=3) T  g37r3 F
 exact (GE (k:=13) T  (g25.mono (by decide)) (g27.mono (by decide)) (g37.mono (by decide)) (g32.mono (by decide)) (g26.mono (by decide)) (g30.mono (by decide)) (g36.mono (by decide)) (g23.mono (by decide)) (g33.mono (by decide)) (g34.mono (by decide)) (g35.mono (by decide)) (g15.mono (by decide)) (g17.mono (by decide))  FL).imp fun vs H Q E h=>E6 uS h
theorem walk {l:PySem.W.OpenLaw} {q:Program} {loose:List Str} {XP:(Str→Option Value)→Heap→Prop} {YP:World→Heap→Prop} {d:DefRec} {K:Params→PySem.W.Frag} (hn:l.most=some 63) (hdf:d.params.defaults=[]) (hq:PyProof.Rows.importsNone q=true)
  (hY:∀ (w:World) (h:Heap),YP w h→(K w.params).In h)
  (F:∀ (w:World) (mg:Str→Option Value) (fa:Addr) (h:Heap),(K w.params).In h→h.Ns mainGlobals mg→mg d.name=some (.ref fa) →
   ∃ fd:FuncData,(∀ (s:Shared) (u:Value),BindsTo s fd ⟨[u],[]⟩ [("_law_script",u)])∧∀ base:Heap,(K w.params).In base→base.Ns mainGlobals mg→FnOk l.prog w (K w.params) mg base CX0 14 fa fd ["_law_script"] (my (K w.params))) :
  PySem.W.WalkO q loose XP YP l.row.toRowW d [] (fun f vs=>PySem.call f vs) :=
 L2.walk_of (n:=63) (k:=14) (x:="_law_script") (CX:=fun _=>CX0) (sp:=fun w=>my (K w.params)) hn (by decide) hdf ⟨rfl,by decide,by decide,rfl⟩ hq hY F (fun _ _ a ns hl hO hS=>⟨a,ns,rfl,hS,hO,hl,fun _=>rfl⟩) fun _ _ _ _ _ z=>z
end W09
open PySem PySem.W PyProof.Rows
set_option maxRecDepth 100000 in
set_option maxHeartbeats 0 in
theorem PySem.Challenge.cw_wordrules_k09_whole_sentences_within_rul_holds : PySem.Challenge.rw_wordrules_k09_whole_sentences_within_rul.Holds := by
 w_on; o_law; k_head; (case hw=>w_witness2)
 k_fill
 refine W09.walk (l:=PySem.Challenge.rw_wordrules_k09_whole_sentences_within_rul) rfl rfl rfl (fun w h Y=>PySem.W.kIn_of Y) ?F
 case F =>
  intro w mg fa h KX G hmg
  refine' W09.all_mk KX G hmg (.mk' ?_ ?_ ?_ ?_) (.mk' ?_ ?_ ?_ ?_) (.mk' ?_ ?_ ?_ ?_) (.mk' ?_ ?_ ?_ ?_) (.mk' ?_ ?_ ?_ ?_) (.mk' ?_ ?_ ?_ ?_) (.mk' ?_ ?_ ?_ ?_) (.mk' ?_ ?_ ?_ ?_) (.mk' ?_ ?_ ?_ ?_) (.mk' ?_ ?_ ?_ ?_) (.mk' ?_ ?_ ?_ ?_) (.mk' ?_ ?_ ?_ ?_) (.mk' ?_ ?_ ?_ ?_) (.mk' ?_ ?_ ?_ ?_) (.mk' ?_ ?_ ?_ ?_) (.mk' ?_ ?_ ?_ ?_) (.mk' ?_ ?_ ?_ ?_) (.mk' ?_ ?_ ?_ ?_) (.mk' ?_ ?_ ?_ ?_) (.mk' ?_ ?_ ?_ ?_) (.mk' ?_ ?_ ?_ ?_) (.mk' ?_ ?_ ?_ ?_) (.mk' ?_ ?_ ?_ ?_) (.mk' ?_ ?_ ?_ ?_) (.mk' ?_ ?_ ?_ ?_) (.mk' ?_ ?_ ?_ ?_) (.mk' ?_ ?_ ?_ ?_) (.mk' ?_ ?_ ?_ ?_) (.mk' ?_ ?_ ?_ ?_) (.mk' ?_ ?_ ?_ ?_) (.mk' ?_ ?_ ?_ ?_) (.mk' ?_ ?_ ?_ ?_) (.mk' ?_ ?_ ?_ ?_) (.mk' ?_ ?_ ?_ ?_) (.mk' ?_ ?_ ?_ ?_) (.mk' ?_ ?_ ?_ ?_) (.mk' ?_ ?_ ?_ ?_) (.mk' ?_ ?_ ?_ ?_) (.mk' ?_ ?_ ?_ ?_) ?_ ?_ ?_ ?_ ?_ ?_ ?_ ?_ ?_ ?_ ?_ ?_ ?_ ?_ ?_ ?_ ?_ ?_ ?_ ?_ ?_ ?_ ?_ ?_ ?_ ?_ ?_ ?_ ?_ ?_ ?_
  all_goals (try k_is)
