import PyProof.Rows.All
import Wide.All
import OpenK.AllK
import Wide.FinOn
import Lean
import PyProof.EqAt
import PyProof.EqKinds
import PyProof.TupleCall
import PyProof.NeKinds
import PyProof.ConsumeWalk
import PyProof.ZipIter
import PyProof.EnumMake
import PyProof.EnumFor
import PyProof.StrWalks
import PyProof.ListStr
import PyProof.SliceStr2
import PyProof.StrBlockI
import PyProof.Rows.StrWeight2
import PyProof.Rows.ZipGen
import PyProof.Rows.StrIndexOr
import PyProof.Draws
import PyProof.RaisesStr
import PyProof.Rows.StrCountLaw
import PyProof.SumWalk
import PyProof.ReprRoads
import PyProof.ReprLen
import PyProof.CallFns
import PyProof.SumAny
import PyProof.SumAnyB
import PySem.Challenge.RW_wordrules_k44_words_made_and_tried
set_option Elab.async false
set_option linter.all false
set_option maxRecDepth 100000
namespace PySem.W.Fast
theorem tw1001725633231301310:True:=⟨⟩
theorem tw10047968395108201004:True:=⟨⟩
theorem tw10091603130920125631:True:=⟨⟩
theorem tw1013877911510466263:True:=⟨⟩
theorem tw10144745627840291965:True:=⟨⟩
theorem tw10156743420589313244:True:=⟨⟩
theorem tw10179321718110769669:True:=⟨⟩
theorem tw10202545090624732702:True:=⟨⟩
theorem tw10504170463374133812:True:=⟨⟩
theorem tw10511376794390022833:True:=⟨⟩
theorem tw10513716397087299299:True:=⟨⟩
theorem tw10517509595397821761:True:=⟨⟩
theorem tw10518055884877295930:True:=⟨⟩
theorem tw10694694963737871257:True:=⟨⟩
theorem tw10764178339314680104:True:=⟨⟩
theorem tw10776215032793354957:True:=⟨⟩
theorem tw10897286569789183464:True:=⟨⟩
theorem tw10964290680812844453:True:=⟨⟩
theorem tw11114245508652096179:True:=⟨⟩
theorem tw11136206729869915761:True:=⟨⟩
theorem tw1116215746114599005:True:=⟨⟩
theorem tw11305891550378398649:True:=⟨⟩
theorem tw11361256406789375725:True:=⟨⟩
theorem tw11416641664015009012:True:=⟨⟩
theorem tw11457213764454391270:True:=⟨⟩
theorem tw11588886460063916860:True:=⟨⟩
theorem tw11628207142139715720:True:=⟨⟩
theorem tw11632378079022189637:True:=⟨⟩
theorem tw11676898785679554756:True:=⟨⟩
theorem tw11716902407548224876:True:=⟨⟩
theorem tw11858850314450229148:True:=⟨⟩
theorem tw11900859321401937452:True:=⟨⟩
theorem tw11906923218013560008:True:=⟨⟩
theorem tw11983744808343279865:True:=⟨⟩
theorem tw12040924745429607856:True:=⟨⟩
theorem tw12062260830184617669:True:=⟨⟩
theorem tw12104173829065476530:True:=⟨⟩
theorem tw12126621841336858708:True:=⟨⟩
theorem tw12260361223298752641:True:=⟨⟩
theorem tw12270584675681773134:True:=⟨⟩
theorem tw12391820631399743819:True:=⟨⟩
theorem tw1249376496908781038:True:=⟨⟩
theorem tw12514384215864777682:True:=⟨⟩
theorem tw12669927693432301240:True:=⟨⟩
theorem tw12708691485820208132:True:=⟨⟩
theorem tw12735332677216475192:True:=⟨⟩
theorem tw12757981494261164772:True:=⟨⟩
theorem tw12763744663119545846:True:=⟨⟩
theorem tw12817890163738491883:True:=⟨⟩
theorem tw12834892030227795393:True:=⟨⟩
theorem tw12986549993103433357:True:=⟨⟩
theorem tw1303476933088586565:True:=⟨⟩
theorem tw13067114152845374515:True:=⟨⟩
theorem tw13094815358451063399:True:=⟨⟩
theorem tw13254219039022793828:True:=⟨⟩
theorem tw13333718072741971503:True:=⟨⟩
theorem tw13358725749334993840:True:=⟨⟩
theorem tw13456904766018552724:True:=⟨⟩
theorem tw13466177872065598662:True:=⟨⟩
theorem tw135092119703180090:True:=⟨⟩
theorem tw13526838930527674701:True:=⟨⟩
theorem tw13623598801784605693:True:=⟨⟩
theorem tw13715702597654630251:True:=⟨⟩
theorem tw13754021955762081298:True:=⟨⟩
theorem tw13766318377369453165:True:=⟨⟩
theorem tw13810838652929532500:True:=⟨⟩
theorem tw13879008718858146798:True:=⟨⟩
theorem tw13904745110422941495:True:=⟨⟩
theorem tw13938075783370440933:True:=⟨⟩
theorem tw14030241103395419690:True:=⟨⟩
theorem tw14053616383309935282:True:=⟨⟩
theorem tw14098914049481784217:True:=⟨⟩
theorem tw14190940009601081132:True:=⟨⟩
theorem tw14225012468385836056:True:=⟨⟩
theorem tw14304071504887417360:True:=⟨⟩
theorem tw1443275452167020578:True:=⟨⟩
theorem tw14445881375666580776:True:=⟨⟩
theorem tw14459007780247678744:True:=⟨⟩
theorem tw14474472595089483126:True:=⟨⟩
theorem tw14489796440374522312:True:=⟨⟩
theorem tw1455488898305543816:True:=⟨⟩
theorem tw14590605729770170839:True:=⟨⟩
theorem tw14710257205196920194:True:=⟨⟩
theorem tw14718593974197341109:True:=⟨⟩
theorem tw14741289869952428642:True:=⟨⟩
theorem tw14758062206134686394:True:=⟨⟩
theorem tw1485591630556531986:True:=⟨⟩
theorem tw14959649337818304297:True:=⟨⟩
theorem tw14982314255103098225:True:=⟨⟩
theorem tw14989261571238276416:True:=⟨⟩
theorem tw1505210379393247334:True:=⟨⟩
theorem tw15070630257911271809:True:=⟨⟩
theorem tw15103775771213062419:True:=⟨⟩
theorem tw15107151284610973135:True:=⟨⟩
theorem tw15121950324174390567:True:=⟨⟩
theorem tw15125094456005472487:True:=⟨⟩
theorem tw15126552578448288443:True:=⟨⟩
theorem tw15127025148366339324:True:=⟨⟩
theorem tw15174566761566643924:True:=⟨⟩
theorem tw15217921999055623359:True:=⟨⟩
theorem tw15299320727026276109:True:=⟨⟩
theorem tw15350319373332522313:True:=⟨⟩
theorem tw15453887052550505320:True:=⟨⟩
theorem tw15476765716361014157:True:=⟨⟩
theorem tw15490720817770563197:True:=⟨⟩
theorem tw15504812072327695125:True:=⟨⟩
theorem tw15508702946034863791:True:=⟨⟩
theorem tw15529837384909095047:True:=⟨⟩
theorem tw1569653079017771154:True:=⟨⟩
theorem tw15698343620130109998:True:=⟨⟩
theorem tw15723797623208964520:True:=⟨⟩
theorem tw15755791484448630434:True:=⟨⟩
theorem tw15778588401327759801:True:=⟨⟩
theorem tw15779118163809453426:True:=⟨⟩
theorem tw15839451920488685418:True:=⟨⟩
theorem tw15844807780993526903:True:=⟨⟩
theorem tw15870450206416932520:True:=⟨⟩
theorem tw15898547157081024474:True:=⟨⟩
theorem tw15940131436082598192:True:=⟨⟩
theorem tw15940707146108853894:True:=⟨⟩
theorem tw15944366820207833:True:=⟨⟩
theorem tw16021920246920246967:True:=⟨⟩
theorem tw16051593968527715153:True:=⟨⟩
theorem tw16072432324363567797:True:=⟨⟩
theorem tw16149418107062109710:True:=⟨⟩
theorem tw16219560870762287562:True:=⟨⟩
theorem tw16268746054375926556:True:=⟨⟩
theorem tw16367762295081534120:True:=⟨⟩
theorem tw16407269737448315571:True:=⟨⟩
theorem tw16502476969505678173:True:=⟨⟩
theorem tw16557888906877523446:True:=⟨⟩
theorem tw16611704241538154817:True:=⟨⟩
theorem tw16622816674268921479:True:=⟨⟩
theorem tw16688534724956738006:True:=⟨⟩
theorem tw16693266798296935701:True:=⟨⟩
theorem tw16847538969550375943:True:=⟨⟩
theorem tw16858996131787584349:True:=⟨⟩
theorem tw16935552475182482128:True:=⟨⟩
theorem tw16997645366936064795:True:=⟨⟩
theorem tw16999416152851746001:True:=⟨⟩
theorem tw1700405598962377645:True:=⟨⟩
theorem tw17086796903332385450:True:=⟨⟩
theorem tw17116729453271842143:True:=⟨⟩
theorem tw17135758165699302194:True:=⟨⟩
theorem tw17145645953921075029:True:=⟨⟩
theorem tw17164734310782133961:True:=⟨⟩
theorem tw17214225465486285883:True:=⟨⟩
theorem tw17222651171474424573:True:=⟨⟩
theorem tw17225839856743730824:True:=⟨⟩
theorem tw17268774114746453458:True:=⟨⟩
theorem tw17380658238898922628:True:=⟨⟩
theorem tw17437059313442027028:True:=⟨⟩
theorem tw17439909790571016323:True:=⟨⟩
theorem tw17454378597298274049:True:=⟨⟩
theorem tw17466017372566800585:True:=⟨⟩
theorem tw17528681409788215317:True:=⟨⟩
theorem tw17550234547382611491:True:=⟨⟩
theorem tw17705706946246188689:True:=⟨⟩
theorem tw1787835254670832464:True:=⟨⟩
theorem tw17904284516909472218:True:=⟨⟩
theorem tw17927198796819458634:True:=⟨⟩
theorem tw17997771106155395883:True:=⟨⟩
theorem tw18143323780301231423:True:=⟨⟩
theorem tw18166761477780018819:True:=⟨⟩
theorem tw18230964874191377830:True:=⟨⟩
theorem tw18268105614872377500:True:=⟨⟩
theorem tw18273513974833006690:True:=⟨⟩
theorem tw18420311780409961770:True:=⟨⟩
theorem tw1917581741043404447:True:=⟨⟩
theorem tw1936388020246973306:True:=⟨⟩
theorem tw2028200155043813739:True:=⟨⟩
theorem tw2084234522060848218:True:=⟨⟩
theorem tw2096007913766347041:True:=⟨⟩
theorem tw2144540714758097826:True:=⟨⟩
theorem tw2146109713927032534:True:=⟨⟩
theorem tw2163609341281577640:True:=⟨⟩
theorem tw2181510966803517724:True:=⟨⟩
theorem tw2197660612435143202:True:=⟨⟩
theorem tw2279998158500801092:True:=⟨⟩
theorem tw2315024392498916560:True:=⟨⟩
theorem tw239457521557323741:True:=⟨⟩
theorem tw2414328845858177701:True:=⟨⟩
theorem tw2435645438692662861:True:=⟨⟩
theorem tw2439372922117765725:True:=⟨⟩
theorem tw2511396302798452261:True:=⟨⟩
theorem tw2529994299002373189:True:=⟨⟩
theorem tw2547411516241267150:True:=⟨⟩
theorem tw2604282852503318015:True:=⟨⟩
theorem tw2618192161938842500:True:=⟨⟩
theorem tw2721252426132891022:True:=⟨⟩
theorem tw2808922425460803211:True:=⟨⟩
theorem tw2996122042586425063:True:=⟨⟩
theorem tw3039477553589328963:True:=⟨⟩
theorem tw3102075152730982392:True:=⟨⟩
theorem tw3115965094228520990:True:=⟨⟩
theorem tw3121821349539803228:True:=⟨⟩
theorem tw3132681242860945251:True:=⟨⟩
theorem tw3140812510929029691:True:=⟨⟩
theorem tw3194445868885228148:True:=⟨⟩
theorem tw3211278724419257722:True:=⟨⟩
theorem tw3262612103719354947:True:=⟨⟩
theorem tw3267680197969522402:True:=⟨⟩
theorem tw3285432889793100252:True:=⟨⟩
theorem tw3369722080651996762:True:=⟨⟩
theorem tw3381500755887348499:True:=⟨⟩
theorem tw3427423521887760965:True:=⟨⟩
theorem tw3436890943957095481:True:=⟨⟩
theorem tw3482150080649270181:True:=⟨⟩
theorem tw355406268480054685:True:=⟨⟩
theorem tw3634968803238486311:True:=⟨⟩
theorem tw3688130228431558016:True:=⟨⟩
theorem tw3796050139360953703:True:=⟨⟩
theorem tw3811993939322889553:True:=⟨⟩
theorem tw3858525872892640246:True:=⟨⟩
theorem tw3875492168593709171:True:=⟨⟩
theorem tw3885528091875346849:True:=⟨⟩
theorem tw3969942413483628182:True:=⟨⟩
theorem tw3998523579626875419:True:=⟨⟩
theorem tw4032152472950601406:True:=⟨⟩
theorem tw4049180020471121831:True:=⟨⟩
theorem tw4111653849021852054:True:=⟨⟩
theorem tw4189200000834066498:True:=⟨⟩
theorem tw4274869802814145044:True:=⟨⟩
theorem tw4276731983179962:True:=⟨⟩
theorem tw4277563660309215369:True:=⟨⟩
theorem tw4288035053745774779:True:=⟨⟩
theorem tw4313546662894608706:True:=⟨⟩
theorem tw432667080391761310:True:=⟨⟩
theorem tw4361535899232064354:True:=⟨⟩
theorem tw4436212980974251513:True:=⟨⟩
theorem tw4453234102018374213:True:=⟨⟩
theorem tw4485964978530133928:True:=⟨⟩
theorem tw459444919086311522:True:=⟨⟩
theorem tw4611232057159037346:True:=⟨⟩
theorem tw4651505627407972322:True:=⟨⟩
theorem tw4684233030867422193:True:=⟨⟩
theorem tw4704540129342355975:True:=⟨⟩
theorem tw4707907598282368265:True:=⟨⟩
theorem tw4714200338687201472:True:=⟨⟩
theorem tw4743587882220671565:True:=⟨⟩
theorem tw4748752995908257501:True:=⟨⟩
theorem tw4755185090606656529:True:=⟨⟩
theorem tw4873570207033351898:True:=⟨⟩
theorem tw4912939710268430812:True:=⟨⟩
theorem tw4934637168445986267:True:=⟨⟩
theorem tw4946545139471676348:True:=⟨⟩
theorem tw4960529714952339681:True:=⟨⟩
theorem tw5147687999380990987:True:=⟨⟩
theorem tw5201690607978714172:True:=⟨⟩
theorem tw5359638929720550895:True:=⟨⟩
theorem tw5391864954310729743:True:=⟨⟩
theorem tw5435199852193220805:True:=⟨⟩
theorem tw5460180054760955786:True:=⟨⟩
theorem tw553144182643679313:True:=⟨⟩
theorem tw5537094479064033060:True:=⟨⟩
theorem tw5539411297524725304:True:=⟨⟩
theorem tw5596474738928754152:True:=⟨⟩
theorem tw5605251825386576380:True:=⟨⟩
theorem tw5628462805430221300:True:=⟨⟩
theorem tw5634302175197308327:True:=⟨⟩
theorem tw5642728627212229356:True:=⟨⟩
theorem tw5662238052487726659:True:=⟨⟩
theorem tw5677341868206555439:True:=⟨⟩
theorem tw5680286482261960651:True:=⟨⟩
theorem tw5722601891877248956:True:=⟨⟩
theorem tw5749908840603909477:True:=⟨⟩
theorem tw5795339429087854829:True:=⟨⟩
theorem tw5833721454418186396:True:=⟨⟩
theorem tw5833841547509596074:True:=⟨⟩
theorem tw5988495459867416133:True:=⟨⟩
theorem tw5990832967615259831:True:=⟨⟩
theorem tw6009323238876538824:True:=⟨⟩
theorem tw611037122656667345:True:=⟨⟩
theorem tw6144891102861900211:True:=⟨⟩
theorem tw6149261313634219098:True:=⟨⟩
theorem tw6157387557704997823:True:=⟨⟩
theorem tw6255019166136736702:True:=⟨⟩
theorem tw6259688299719752169:True:=⟨⟩
theorem tw6329756652848715236:True:=⟨⟩
theorem tw6385388124119445986:True:=⟨⟩
theorem tw6500016623741355721:True:=⟨⟩
theorem tw6503018083490473275:True:=⟨⟩
theorem tw6512827756812244686:True:=⟨⟩
theorem tw6587874048393503388:True:=⟨⟩
theorem tw6624892073300724853:True:=⟨⟩
theorem tw6626918027933093922:True:=⟨⟩
theorem tw6637048176201313632:True:=⟨⟩
theorem tw6673345710747159234:True:=⟨⟩
theorem tw6763202329434062879:True:=⟨⟩
theorem tw6796482173300877675:True:=⟨⟩
theorem tw6855471549598858158:True:=⟨⟩
theorem tw6862932519832856221:True:=⟨⟩
theorem tw6873506141242896525:True:=⟨⟩
theorem tw6910197547667568226:True:=⟨⟩
theorem tw6963961826711139886:True:=⟨⟩
theorem tw6976378395835533415:True:=⟨⟩
theorem tw7147593390810272455:True:=⟨⟩
theorem tw7187788131343888786:True:=⟨⟩
theorem tw7191700684787476479:True:=⟨⟩
theorem tw7323605561314954408:True:=⟨⟩
theorem tw7358145801006315301:True:=⟨⟩
theorem tw7445984724417705189:True:=⟨⟩
theorem tw7462573191594007935:True:=⟨⟩
theorem tw7491407580620747597:True:=⟨⟩
theorem tw7583555837901958155:True:=⟨⟩
theorem tw762134462024144003:True:=⟨⟩
theorem tw7826161211222358807:True:=⟨⟩
theorem tw7918524270366639585:True:=⟨⟩
theorem tw7975835524023734725:True:=⟨⟩
theorem tw8017096571534467766:True:=⟨⟩
theorem tw8046374838935924705:True:=⟨⟩
theorem tw8051698951803628168:True:=⟨⟩
theorem tw8057366260587798796:True:=⟨⟩
theorem tw8286771255628517993:True:=⟨⟩
theorem tw8468361717978846469:True:=⟨⟩
theorem tw856439503278731253:True:=⟨⟩
theorem tw8820617691796293677:True:=⟨⟩
theorem tw8855146888071384989:True:=⟨⟩
theorem tw8946059254693922103:True:=⟨⟩
theorem tw9034258024566891743:True:=⟨⟩
theorem tw9076567320824405904:True:=⟨⟩
theorem tw9094603519451601681:True:=⟨⟩
theorem tw9139902137394104632:True:=⟨⟩
theorem tw915106948507918940:True:=⟨⟩
theorem tw9162619824823689027:True:=⟨⟩
theorem tw9211884830303142338:True:=⟨⟩
theorem tw9218084767557718337:True:=⟨⟩
theorem tw9262012858934332231:True:=⟨⟩
theorem tw9265427323531557060:True:=⟨⟩
theorem tw9271182999483381568:True:=⟨⟩
theorem tw931485345043641804:True:=⟨⟩
theorem tw9391186030122298658:True:=⟨⟩
theorem tw9403875591106795502:True:=⟨⟩
theorem tw9440349553571498182:True:=⟨⟩
theorem tw9473837743315806735:True:=⟨⟩
theorem tw9497852315358153118:True:=⟨⟩
theorem tw9664232991021399716:True:=⟨⟩
theorem tw9722233008719957102:True:=⟨⟩
theorem tw9765651073113562955:True:=⟨⟩
theorem tw9769155070337557291:True:=⟨⟩
theorem tw9782954428843343916:True:=⟨⟩
theorem tw978555470611978171:True:=⟨⟩
theorem tw9843027829081769580:True:=⟨⟩
theorem tw98694490540858897:True:=⟨⟩
theorem tw9919123784532521750:True:=⟨⟩
theorem tw9948139214296835724:True:=⟨⟩
theorem tw9956878459718945980:True:=⟨⟩
end PySem.W.Fast
namespace L2
open PySem PySem.Spec PyProof.Rows
abbrev Key:=Sum Int Str
def kG:Key→Value→Bool
 | .inl k,v=>Value.isInt k v
 | .inr x,v=>Value.isStrOf x v
def Io (w:World):Key→Int
 | .inl k=>hashInt k
 | .inr x=>hashStr w x
theorem bB:∀ {k:Key} {v:Value},kG k v=true→(∃ i t,k=Sum.inl i∧v=Value.int i t)∨(∃ x t,k=Sum.inr x∧v=Value.str x t)
 | .inl i,v,h=>by
  obtain ⟨t,e⟩:=Value.isInt_shape (k:=i) (v:=v) h
  exact .inl ⟨i,t,rfl,e⟩
 | .inr x,v,h=>by
  obtain ⟨t,e⟩:=Value.isStrOf_shape (x:=x) (v:=v) h
  exact .inr ⟨x,t,rfl,e⟩
theorem uc (i:Int) (t:Tok):kG (.inl i) (.int i t)=true:=by simp [kG,Value.isInt]
theorem ub (x:Str) (t:Tok):kG (.inr x) (.str x t)=true:=by simp [kG,Value.isStrOf]
theorem ua (a b:Int):decide ((Sum.inl a:Key)=Sum.inl b)=(a == b):=by
 by_cases e:a=b
 ·subst e; simp
 ·have h:¬ (Sum.inl a:Key)=Sum.inl b:=fun q=>e (Sum.inl.inj q)
  rw [decide_eq_false h]
  exact (beq_eq_false_iff_ne.mpr e).symm
theorem t7 (a b:Str):decide ((Sum.inr a:Key)=Sum.inr b)=decide (a=b):=by
 by_cases e:a=b
 ·subst e; simp
 ·have h:¬ (Sum.inr a:Key)=Sum.inr b:=fun q=>e (Sum.inr.inj q)
  rw [decide_eq_false h,decide_eq_false e]
theorem t9 (a:Int) (b:Str):decide ((Sum.inl a:Key)=Sum.inr b)=false:=decide_eq_false (fun q=>nomatch q)
theorem t8 (a:Str) (b:Int):decide ((Sum.inr a:Key)=Sum.inl b)=false:=decide_eq_false (fun q=>nomatch q)
def bE (prog:Program) (w:World):PySem.KeyKind prog w Key where
 is:=kG
 hash:=Io w
 inj:=fun v a b ha hb=>by
  rcases bB ha with ⟨i,t,rfl,rfl⟩ | ⟨x,t,rfl,rfl⟩
  ·rcases bB hb with ⟨j,u,rfl,e⟩ | ⟨y,u,rfl,e⟩
   ·injection e with e1 _; rw [e1]
   ·exact nomatch e
  ·rcases bB hb with ⟨j,u,rfl,e⟩ | ⟨y,u,rfl,e⟩
   ·exact nomatch e
   ·injection e with e1 _; rw [e1]
 byValue:=fun k v h=>by
  rcases bB h with ⟨i,t,rfl,rfl⟩ | ⟨x,t,rfl,rfl⟩ <;> rfl
 pyHash:=fun hv h=>by
  rcases bB hv with ⟨i,t,rfl,rfl⟩ | ⟨x,t,rfl,rfl⟩
  ·exact wpAny_pyHash_int h
  ·exact wpAny_pyHash_str h
 eqBool:=fun hu hv h=>by
  rcases bB hu with ⟨i,t,rfl,rfl⟩ | ⟨x,t,rfl,rfl⟩
  ·rcases bB hv with ⟨j,u,rfl,rfl⟩ | ⟨y,u,rfl,rfl⟩
   ·rw [ua] at h; exact wpAny_eqBool_int h
   ·rw [t9] at h; exact SeqAt.EqAt.int_str i t y u _ _ _ _ h
  ·rcases bB hv with ⟨j,u,rfl,rfl⟩ | ⟨y,u,rfl,rfl⟩
   ·rw [t8] at h; exact SeqAt.EqAt.str_int x t j u _ _ _ _ h
   ·rw [t7] at h; exact wpAny_eqBool_str h
 «strs»:=fun k x t v h=>by
  rcases bB h with ⟨i,u,rfl,e⟩ | ⟨y,u,rfl,e⟩
  ·exact nomatch e
  ·injection e with e1 _
   subst e1
   cases v <;> rfl
theorem qm (prog:Program) (w:World) (i:Int) (t:Tok):(bE prog w).is (.inl i) (.int i t)=true:=uc i t
theorem ql (prog:Program) (w:World) (x:Str) (t:Tok):(bE prog w).is (.inr x) (.str x t)=true:=ub x t
end L2
namespace L2
open PySem PySem.Spec PyProof.Rows
inductive V where
 | non | bl (b:Bool) | int (i:Int) | str (x:Str) | byt (b:Array UInt8) | flt (b:UInt64) | ref (a:Addr) | ty (n:String)
 deriving DecidableEq
def RelV:V→Value→Prop
 | .non,u=>u=Value.none
 | .bl b,u=>u=Value.bool b
 | .int i,u=>∃ t,u=Value.int i t
 | .str x,u=>∃ t,u=Value.str x t
 | .byt b,u=>∃ t,u=Value.bytes b t
 | .flt b,u=>∃ t,u=Value.float b t
 | .ref a,u=>u=Value.ref a
 | .ty n,u=>u=Value.type n
abbrev Vals:List V→List Value→Prop:=Paired RelV
theorem Vals.length {xs:List V} {us:List Value} (r:Vals xs us):xs.length=us.length:=Paired.length r
theorem Vals.get:∀ {xs:List V} {us:List Value} {i:Nat} {x:V},Vals xs us→xs[i]?=some x→∃ u,us[i]?=some u∧RelV x u
 | _,_,_,_,.nil,e=>by simp at e
 | _,_,0,_,.cons r _,e=>by simp at e; subst e; exact ⟨_,rfl,r⟩
 | _,_,i+1,x,.cons _ t,e=>by
  obtain ⟨u,h1,h2⟩:=Vals.get (i:=i) (x:=x) t (by simpa using e)
  exact ⟨u,by simpa using h1,h2⟩
theorem Vals.set {x:V} {u:Value} (r:RelV x u):∀ {xs:List V} {us:List Value} (i:Nat),Vals xs us→Vals (xs.set i x) (us.set i u)
 | _,_,_,.nil=>.nil
 | _,_,0,.cons _ t=>.cons r t
 | _,_,i+1,.cons q t=>.cons q (Vals.set r i t)
theorem Vals.append:∀ {xs ys:List V} {us ws:List Value},Vals xs us→Vals ys ws→Vals (xs++ys) (us++ws)
 | _,_,_,_,.nil,s=>s
 | _,_,_,_,.cons r t,s=>.cons r (Vals.append t s)
theorem Vals.take:∀ {xs:List V} {us:List Value} (n:Nat),Vals xs us→Vals (xs.take n) (us.take n)
 | _,_,0,_=>.nil
 | _,_,_+1,.nil=>.nil
 | _,_,n+1,.cons r t=>.cons r (Vals.take n t)
theorem Vals.drop:∀ {xs:List V} {us:List Value} (n:Nat),Vals xs us→Vals (xs.drop n) (us.drop n)
 | _,_,0,r=>r
 | _,_,_+1,.nil=>.nil
 | _,_,n+1,.cons _ t=>Vals.drop n t
def RelO:Option V→Option Value→Prop
 | some v,some u=>RelV v u
 | none,none=>True
 | _,_=>False
def KV {κ:Type}:List (κ × V)→List (κ × Value)→Prop:=Paired fun (p:κ × V) (q:κ × Value)=>p.1=q.1∧RelV p.2 q.2
def kV:Key→V
 | .inl i=>.int i
 | .inr x=>.str x
inductive HO where
 | lst (xs:List V)
 | tup (xs:List V)
 | dK (kvs:List (Key × V)) | dT (kvs:List (List Key × V))
 | set (S:Int→Bool) (n:Nat)
 | ins (C dx:Addr) (fs:List (Str × V))
 | own (x:Addr)
 | xd (fs:List (Str × V))
 | met (f x:Addr)
 | rng (lo hi:Int)
 | frz (o:Obj) (u:HO)
 | tbl (ps:Array Value)
 | ext (φ:Heap→Prop)
abbrev Hp:=Addr→Option HO
def upd (H:Hp) (a:Addr) (o:HO):Hp:=fun b=>if b=a then some o else H b
theorem aW {H:Hp} {a:Addr} {o:HO}:upd H a o a=some o:=by unfold upd; rw [if_pos rfl]
theorem aP {H:Hp} {a b:Addr} {o:HO} (h:b≠a):upd H a o b=H b:=by unfold upd; rw [if_neg h]
theorem Hq {H:Hp} {a b:Addr} {o u:HO} (h:H a=some o) (h':H b=some u) (d:o≠u):a≠b:=by
 intro e; subst e; rw [h] at h'; exact d (Option.some.inj h')
theorem eJ {H:Hp} {a b:Addr} {o:HO} (h:H a=some o) (h':H b=none):a≠b:=by
 intro e; subst e; rw [h] at h'; cases h'
def IsTupN (h:Heap) (a:Addr) (its:Array Value):Prop:=∃ o,h.get? a=some o∧o.cls=.type "tuple"∧∃ n,o.data=.seq its n∧o.dict=none
theorem IsTupN.tup {h:Heap} {a:Addr} {its:Array Value} (x:IsTupN h a its):IsTup h a its:=by
 obtain ⟨o,h1,h2,n,h3,_⟩:=x
 exact ⟨o,h1,h2,n,h3⟩
theorem IsTupN.lt {h:Heap} {a:Addr} {its:Array Value} (x:IsTupN h a its):a < h.objs.size:=Heap.lt_size x.choose_spec.1
theorem IsTupN.new (h:Heap) (its:Array Value):IsTupN (h.push { cls:=.type "tuple",data:=.seq its }) h.objs.size its:=⟨_,Heap.get?_push_size _ rfl,rfl,_,rfl,rfl⟩
section
variable (P:Program) (w:World)
def ObjOk (H:Hp) (h:Heap) (a:Addr):HO→Prop
 | .lst xs=>xs.length≤sizeLine∧∃ (its:List Value) (n:Nat),Vals xs its∧h.get? a=some { cls:=.type "list",data:=.seq its.toArray n }
 | .tup xs=>xs.length≤sizeLine∧∃ its:List Value,Vals xs its∧IsTupN h a its.toArray
 | .dK kvs=>kvs.length≤sizeLine∧(a == sysModules)=false∧∃ vs,KV kvs vs∧h.DictOf (bE P w) a vs
 | .dT kvs=>kvs.length≤sizeLine∧(a == sysModules)=false∧∃ xs:List (List Key × Addr × Value),
   Paired (fun (p:List Key × V) (q:List Key × Addr × Value)=>p.1=q.1∧H q.2.1=some (.tup (p.1.map kV))∧RelV p.2 q.2.2) kvs xs ∧
   ∃ o es ep,h.get? a=some o∧o.ExactDict∧o.data=.dict es ep∧es.toList=xs.map (entryOfKey (tupleKind (bE P w)))∧(xs.map (·.1)).Nodup
 | .set S n=>h.SetOf (intKind P w) a S n
 | .ins C dx fs=>H dx=some (.own a)∧fs.length≤1000∧dx≠a∧h.get? a=some (PySem.W.instObj C dx) ∧
   ∃ mA,h.Ns1 dx mA∧(∀ f,RelO (fs.lookup f) (mA f))∧PySem.Within mA (fs.map (·.1))
 | .own _=>∃ o,h.get? a=some o
 | .xd fs=>∃ mA,h.Ns1 a mA∧∀ f,RelO (fs.lookup f) (mA f)
 | .rng lo hi=>∃ t u v,h.get? a=some { cls:=.type "range",data:=.fields #[.int lo t,.int hi u,.int 1 v] }
 | .frz o u=>h.get? a=some o∧ObjOk H h a u
 | .tbl ps=>h.get? a=some { cls:=.none,data:=.fields ps }
 | .met f x=>h.get? a=some (PySem.W.methodObj (.ref f) (.ref x))
 | .ext φ=>φ h∧(∃ o,h.get? a=some o)∧∀ h1 h2:Heap,φ h1→(∀ o,h1.get? a=some o→h2.get? a=some o)→φ h2
def HOk (H:Hp) (h:Heap):Prop:=∀ a o,H a=some o→ObjOk P w H h a o
end
section
variable {P:Program} {w:World} {H H':Hp} {h h':Heap} {a:Addr} {o:HO}
theorem ObjOk.lt (x:ObjOk P w H h a o):a < h.objs.size:=by
 cases o with
 | lst xs=>obtain ⟨_,_,_,_,e⟩:=x; exact Heap.lt_size e
 | tup xs=>obtain ⟨_,_,_,p⟩:=x; exact p.lt
 | dK kvs=>obtain ⟨_,_,_,_,o,_,_,e,_⟩:=x; exact Heap.lt_size e
 | dT kvs=>obtain ⟨_,_,_,_,o,_,_,e,_⟩:=x; exact Heap.lt_size e
 | set S n=>obtain ⟨o,_,_,_,e,_⟩:=x; exact Heap.lt_size e
 | ins C dx fs=>obtain ⟨_,_,_,e,_⟩:=x; exact Heap.lt_size e
 | own y=>obtain ⟨_,e⟩:=x; exact Heap.lt_size e
 | xd fs=>obtain ⟨_,⟨_,_,_,e,_⟩,_⟩:=x; exact Heap.lt_size e
 | rng lo hi=>obtain ⟨_,_,_,e⟩:=x; exact Heap.lt_size e
 | frz ob u=>obtain ⟨e,_⟩:=x; exact Heap.lt_size e
 | tbl ps=>exact Heap.lt_size (show h.get? a=some _ from x)
 | met f y=>exact Heap.lt_size (show h.get? a=some _ from x)
 | ext φ=>obtain ⟨_,⟨_,e⟩,_⟩:=x; exact Heap.lt_size e
theorem Paired.mapP {α β:Type} {F G:α→β→Prop}:∀ {l₁:List α} {l₂:List β},Paired F l₁ l₂→(∀ a b,F a b→G a b)→Paired G l₁ l₂
 | _,_,.nil,_=>.nil
 | _,_,.cons r t,f=>.cons (f _ _ r) (Paired.mapP t f)
theorem ObjOk.stay (x:ObjOk P w H h a o) (k:∀ b u,(b=a∨H b=some (.own a))→h.get? b=some u→h'.get? b=some u)
  (ho:∀ b,H b=some (.own a)→H' b=some (.own a)) (ht:∀ b xs,H b=some (.tup xs)→H' b=some (.tup xs)):ObjOk P w H' h' a o:=by
 induction o with
 | lst xs=>obtain ⟨z,its,n,r,e⟩:=x; exact ⟨z,its,n,r,k _ _ (.inl rfl) e⟩
 | tup xs=>obtain ⟨z,its,r,ob,e,c⟩:=x; exact ⟨z,its,r,ob,k _ _ (.inl rfl) e,c⟩
 | dK kvs=>obtain ⟨z,y,vs,r,ob,es,ep,e,c⟩:=x; exact ⟨z,y,vs,r,ob,es,ep,k _ _ (.inl rfl) e,c⟩
 | dT kvs =>
  obtain ⟨z,y,xs,r,ob,es,ep,e,c⟩:=x
  exact ⟨z,y,xs,Paired.mapP r fun p q z=>⟨z.1,ht _ _ z.2.1,z.2.2⟩,ob,es,ep,k _ _ (.inl rfl) e,c⟩
 | set S n=>obtain ⟨ob,es,ep,t,e,c⟩:=x; exact ⟨ob,es,ep,t,k _ _ (.inl rfl) e,c⟩
 | ins C dx fs =>
  obtain ⟨d,z,ne,e,mA,⟨od,es,ep,e2,c⟩,r⟩:=x
  exact ⟨ho _ d,z,ne,k _ _ (.inl rfl) e,mA,⟨od,es,ep,k _ _ (.inr d) e2,c⟩,r⟩
 | own y=>obtain ⟨ob,e⟩:=x; exact ⟨ob,k _ _ (.inl rfl) e⟩
 | xd fs=>obtain ⟨mA,⟨od,es,ep,e,c⟩,r⟩:=x; exact ⟨mA,⟨od,es,ep,k _ _ (.inl rfl) e,c⟩,r⟩
 | rng lo hi=>obtain ⟨t,u,v,e⟩:=x; exact ⟨t,u,v,k _ _ (.inl rfl) e⟩
 | frz ob u ih=>obtain ⟨e,q⟩:=x; exact ⟨k _ _ (.inl rfl) e,ih q⟩
 | tbl ps =>
  have e:h.get? a=some { cls:=.none,data:=.fields ps }:=x
  show h'.get? a=some { cls:=.none,data:=.fields ps }
  exact k a _ (.inl rfl) e
 | met f y =>
  have e:h.get? a=some (PySem.W.methodObj (.ref f) (.ref y)):=x
  show h'.get? a=some (PySem.W.methodObj (.ref f) (.ref y))
  exact k a _ (.inl rfl) e
 | ext φ=>obtain ⟨p,⟨o,e⟩,st⟩:=x; exact ⟨st _ _ p fun o q=>k _ _ (.inl rfl) q,⟨o,k _ _ (.inl rfl) e⟩,st⟩
theorem HOk.lt (x:HOk P w H h) (e:H a=some o):a < h.objs.size:=(x a o e).lt
theorem HOk.fresh (x:HOk P w H h) (e:h.objs.size≤a):H a=none:=by
 cases q:H a with
 | none=>rfl
 | some u=>exact absurd (Nat.lt_of_lt_of_le (x.lt q) e) (Nat.lt_irrefl _)
theorem HOk.kept (x:HOk P w H h) (k:∀ b u,h.get? b=some u→h'.get? b=some u):HOk P w H h':=fun a o e =>
 (x a o e).stay (fun b u _ q=>k b u q) (fun _ q=>q) fun _ _ q=>q
theorem HOk.laid (x:HOk P w H h) (k:∀ b u,h.get? b=some u→h'.get? b=some u) (hp:h.objs.size≤a) (new:ObjOk P w (upd H a o) h' a o):HOk P w (upd H a o) h':=fun b u e=>by
 have hn:=x.fresh hp
 by_cases hb:b=a
 ·subst hb; rw [aW] at e; cases e; exact new
 ·rw [aP hb] at e
  exact (x b u e).stay (fun c v _ q=>k c v q) (fun c q=>by rw [aP (eJ q hn)]; exact q) fun c xs q=>by rw [aP (eJ q hn)]; exact q
end
def Rd (H:Hp) (a:Addr) (u:HO):Prop:=H a=some u∨∃ o,H a=some (.frz o u)
theorem Rd.ok {P:Program} {w:World} {H:Hp} {h:Heap} {a:Addr} {u:HO} (r:Rd H a u) (x:HOk P w H h):ObjOk P w H h a u:=by
 rcases r with r | ⟨o,r⟩
 ·exact x a u r
 ·obtain ⟨_,q⟩:=x a _ r
  exact q
def Mut:Option HO→Prop
 | some (.lst _)=>True
 | some (.dK _)=>True
 | some (.dT _)=>True
 | some (.set _ _)=>True
 | some (.ins _ _ _)=>True
 | some (.ext _)=>True
 | _=>False
section
variable {P:Program} {w:World} {H:Hp} {h h':Heap} {x e:Addr} {o':HO}
theorem HOk.write (ok:HOk P w H h) (mu:Mut (H x)) (he:e=x∨H e=some (.own x)) (k:∀ b u,b≠e→h.get? b=some u→h'.get? b=some u) (heo:∃ u,h'.get? e=some u)
  (new:ObjOk P w (upd H x o') h' x o'):HOk P w (upd H x o') h':=fun b u q=>by
 have nown:∀ c y,H c=some (.own y)→c≠x:=fun c y r z=>by subst z; rw [r] at mu; exact mu
 have ntup:∀ c xs,H c=some (.tup xs)→c≠x:=fun c xs r z=>by subst z; rw [r] at mu; exact mu
 by_cases hb:b=x
 ·subst hb; rw [aW] at q; cases q; exact new
 ·rw [aP hb] at q
  by_cases hbe:b=e
  ·have q':H b=some (.own x):=by
    rcases he with z | z
    ·exact absurd (hbe.trans z) hb
    ·rw [hbe]; exact z
   rw [q] at q'; cases q'
   obtain ⟨v,hv⟩:=heo
   exact ⟨v,by rw [hbe]; exact hv⟩
  ·refine (ok b u q).stay (fun c v hc r=>k c v ?_ r) (fun c r=>by rw [aP (nown c b r)]; exact r) fun c xs r=>by rw [aP (ntup c xs r)]; exact r
   rcases hc with rfl | hc
   ·exact hbe
   ·rintro rfl
    rcases he with z | z
    ·exact nown c b hc z
    ·rw [hc] at z; cases z; exact hb rfl
end
structure Un (fs ex:List Addr) (H H':Hp) (h h':Heap):Prop where
 keep:∀ b o,h.get? b=some o→H b=none→b ∉ fs→b ∉ ex→h'.get? b=some o
 slot:∀ b o,h.get? b=some o→H b=none→b∈fs→b ∉ ex→∃ sl,h'.get? b=some { o with slots:=sl }
 free:∀ b o,h.get? b=some o→H b=none→b ∉ ex→H' b=none
 there:∀ b o,h.get? b=some o→b ∉ ex→∃ o',h'.get? b=some o'
 tups:∀ b xs,H b=some (.tup xs)→H' b=some (.tup xs)
 frzs:∀ b o u,H b=some (.frz o u)→H' b=some (.frz o u)
 tbls:∀ b ps,H b=some (.tbl ps)→∃ more,H' b=some (.tbl (ps++more))
section
variable {fs fs' ex ex':List Addr} {H H1 H2:Hp} {h h1 h2 h':Heap} {a x e:Addr} {o:HO}
theorem Un.any (u:Un fs ex H H1 h h1) {b:Addr} {ob:Obj} (q:h.get? b=some ob) (n:H b=none) (hx:b ∉ ex):∃ sl,h1.get? b=some { ob with slots:=sl }:=by
 by_cases hb:b∈fs
 ·exact u.slot b ob q n hb hx
 ·exact ⟨ob.slots,u.keep b ob q n hb hx⟩
theorem Un.trans (a:Un fs ex H H1 h h1) (b:Un fs ex H1 H2 h1 h2):Un fs ex H H2 h h2 where
 keep:=fun c ob q n hc hx=>b.keep c ob (a.keep c ob q n hc hx) (a.free c ob q n hx) hc hx
 slot:=fun c ob q n hc hx=>by
  obtain ⟨sl,e1⟩:=a.slot c ob q n hc hx
  obtain ⟨sl',e2⟩:=b.slot c _ e1 (a.free c ob q n hx) hc hx
  exact ⟨sl',e2⟩
 free:=fun c ob q n hx=>by
  obtain ⟨o',e1⟩:=a.there c ob q hx
  exact b.free c o' e1 (a.free c ob q n hx) hx
 there:=fun c ob q hx=>by
  obtain ⟨o',e1⟩:=a.there c ob q hx
  exact b.there c o' e1 hx
 tups:=fun c xs q=>b.tups c xs (a.tups c xs q)
 frzs:=fun c ob xs q=>b.frzs c ob xs (a.frzs c ob xs q)
 tbls:=fun c ps q=>by
  obtain ⟨m1,e1⟩:=a.tbls c ps q
  obtain ⟨m2,e2⟩:=b.tbls c _ e1
  exact ⟨m1++m2,by rw [e2,Array.append_assoc]⟩
theorem Un.kept (k:∀ b u,h.get? b=some u→h'.get? b=some u):Un fs ex H H h h' :=
 ⟨fun b ob q _ _ _=>k b ob q,fun b ob q _ _ _=>⟨ob.slots,k b ob q⟩,fun _ _ _ n _=>n,fun b ob q _=>⟨ob,k b ob q⟩,fun _ _ q=>q,fun _ _ _ q=>q,fun _ ps q=>⟨#[],by rw [q]; simp⟩⟩
theorem Un.refl:Un fs ex H H h h:=Un.kept fun _ _ q=>q
theorem Un.laid (k:∀ b u,h.get? b=some u→h'.get? b=some u) (hp:h.objs.size≤a) (hn:H a=none):Un fs ex H (upd H a o) h h' where
 keep:=fun b u q _ _ _=>k b u q
 slot:=fun b u q _ _ _=>⟨u.slots,k b u q⟩
 free:=fun b u q n _=>by rw [aP (Nat.ne_of_lt (Nat.lt_of_lt_of_le (Heap.lt_size q) hp))]; exact n
 there:=fun b u q _=>⟨u,k b u q⟩
 tups:=fun b xs q=>by rw [aP (eJ q hn)]; exact q
 frzs:=fun b u xs q=>by rw [aP (eJ q hn)]; exact q
 tbls:=fun b ps q=>⟨#[],by rw [aP (eJ q hn),q]; simp⟩
theorem Un.write (mu:Mut (H x)) (he:e=x∨H e=some (.own x)) (k:∀ b u,b≠e→h.get? b=some u→h'.get? b=some u) (heo:∃ u,h'.get? e=some u):Un fs ex H (upd H x o) h h':=by
 have hx:∀ b,H b=none→b≠x:=fun b n z=>by subst z; rw [n] at mu; exact mu
 have hb:∀ b,H b=none→b≠e:=fun b n z=>by
  subst z
  rcases he with r | r
  ·exact hx b n r
  ·rw [n] at r; cases r
 have hm:∀ b u,H b=some u→¬ Mut (some u)→b≠x:=fun b u q nm z=>by subst z; rw [q] at mu; exact nm mu
 refine ⟨fun b u q n _ _=>k b u (hb b n) q,fun b u q n _ _=>⟨u.slots,k b u (hb b n) q⟩,fun b u q n _=>by rw [aP (hx b n)]; exact n,fun b u q _=>?_,
  fun b xs q=>by rw [aP (hm b _ q fun z=>z)]; exact q,fun b u xs q=>by rw [aP (hm b _ q fun z=>z)]; exact q,fun b ps q=>⟨#[],by rw [aP (hm b _ q fun z=>z),q]; simp⟩⟩
 by_cases hbe:b=e
 ·subst hbe; exact heo
 ·exact ⟨u,k b u hbe q⟩
end
def trk (h:Heap) (H:Hp):List Addr:=(List.range h.objs.size).filter fun a=>(H a).isSome
def il (h:Heap) (H:Hp):Heap:=PySem.W.hideAll h (trk h H)
theorem uk (h:Heap) (H:Hp):(il h H).objs.size=h.objs.size:=PySem.W.hideAll_size _ _
theorem oY {h:Heap} {H:Hp} {b:Addr} {o:Obj} (e:h.get? b=some o) (n:H b=none):(il h H).get? b=some o :=
 PySem.W.hideAll_get _ e fun hm=>by
  have q:(H b).isSome=true:=(List.mem_filter.mp hm).2
  rw [n] at q; simp at q
theorem qR {h:Heap} {H:Hp} {b:Addr} {o:Obj} (e:(il h H).get? b=some o):h.get? b=some o∧H b=none:=by
 have e':h.get? b=some o:=PySem.W.of_hideAll (trk h H) e
 refine ⟨e',?_⟩
 cases q:H b with
 | none=>rfl
 | some x =>
  have hm:b∈trk h H:=List.mem_filter.mpr ⟨List.mem_range.mpr (Heap.lt_size e'),by simp [q]⟩
  have z:(il h H).get? b=none:=PySem.W.hideAll_none (trk h H) hm
  rw [z] at e; cases e
def CW (g h:Heap) (L:Addr):List (Addr × Obj):=(List.range h.objs.size).filterMap fun a=>if a=L∨(g.get? a).isSome=true then none else (h.get? a).map fun o=>(a,o)
def rest (g h:Heap) (L d:Addr):List (Addr × Obj):=(CW g h L).filter fun p=>decide (p.1≠d)
end L2
namespace L2
open PySem PySem.Spec PyProof.Rows
structure Mod (K:PySem.W.Frag) (mg:Str→Option Value) (base:Heap):Prop where
 kin:K.In base
 glob:base.Ns mainGlobals mg
 blt:∃ mb,base.Ns builtinsNs mb∧∀ x:Str,x≠"__name__"→mb x=bootBuiltins x
 nolimit:base.NoLimit
 mods:∃ mm,base.Ns sysModules mm
structure Cx where
 prog:Program
 w:World
 K:PySem.W.Frag
 mg:Str→Option Value
 base:Heap
 A:Around
 N:List Str
 s₀:Shared
 H₀:Hp
 env:Env
 outer:List Env
 stack:List Env
 ex:List Addr
 fn:Str→Bool
 calm:Bool
 pn:List (Addr × Obj)
 xe:Value→Shared→Prop
def frs (l:List Env):List Addr:=l.filterMap (·.frame)
abbrev Cx.fs (X:Cx):List Addr:=frs X.outer
def Vis (sc:Scope) (x:Str):Prop:=sc.names.lookup x=some .local∨sc.names.lookup x=some .cell∨sc.names.lookup x=some .free
def Loc (sc:Scope) (x:Str):Prop:=sc.names.lookup x=some .local∨sc.names.lookup x=some .cell
def G3 (env:Env) (h:Heap) (m:Str→Option Value) (x:Str) (u:Value):Prop :=
 (env.kindOf x=some .local∧m x=some u)∨((env.kindOf x=some .cell∨env.kindOf x=some .free)∧∃ c,env.cells.lookup x=some c∧h.IsCell c (some u))
structure Cx.Ok (X:Cx):Prop where
 mod:Mod X.K X.mg X.base
 kind:X.env.scope.kind=.function
 glob:X.env.globals=mainGlobals
 blt:X.env.builtins=builtinsNs
 above:X.s₀.heap.objs.size≤X.env.locals
 inj:∀ x y c,X.env.cells.lookup x=some c→X.env.cells.lookup y=some c→x=y
 has:∀ x,(X.env.kindOf x=some .cell∨X.env.kindOf x=some .free)→∃ c,X.env.cells.lookup x=some c
 cab:∀ x c,X.fn x=true→X.env.cells.lookup x=some c→X.s₀.heap.objs.size≤c
 hd:X.calm=true→X.A.handled=none
 frames:X.A.frames=some X.stack
 stk:X.stack=X.outer∨(X.stack=X.env :: X.outer∧X.env.frame=some X.env.locals)
 exf:∀ b∈X.ex,b≠X.env.locals∧∀ x c,X.env.cells.lookup x=some c→c≠b
 bs:∀ b o,X.base.get? b=some o→X.s₀.heap.get? b=some o∧X.H₀ b=none
 bsz:X.base.objs.size≤X.s₀.heap.objs.size
 noex:∀ b o,X.base.get? b=some o→b ∉ X.ex
 exfs:∀ b∈X.ex,b ∉ X.fs
 funs:X.s₀.heap.FunFrames X.base X.outer
 frf:∀ b∈X.fs,X.H₀ b=none
structure Inv (X:Cx) (pins:List (Addr × Obj)) (σ:List (Option V)) (H:Hp) (s:Shared):Prop where
 ok:X.Ok
 os:s.os=X.s₀.os
 bare:AllBare s.gens
 base:Un X.fs X.ex X.H₀ H X.s₀.heap s.heap
 loc:∃ m,s.heap.Ns X.env.locals m∧∀ (i:Nat) (x:Str) (v:V),X.N[i]?=some x→σ[i]?=some (some v)→Vis X.env.scope x→∃ u,RelV v u∧G3 X.env s.heap m x u
 cell:∀ x c,X.env.cells.lookup x=some c→∃ v,s.heap.IsCell c v
 free:H X.env.locals=none
 freeC:∀ x c,X.env.cells.lookup x=some c→H c=none
 pin:∀ p∈X.pn++pins,s.heap.get? p.1=some p.2∧H p.1=none∧p.1≠X.env.locals∧p.1 ∉ X.fs∧∀ v,p.2.data≠.cell v
 hok:HOk X.prog X.w H s.heap
 len:σ.length=X.N.length
section
variable {X:Cx} {pins:List (Addr × Obj)} {σ:List (Option V)} {H H':Hp} {s:Shared} {h':Heap}
theorem Cx.Ok.nofr (ok:X.Ok) {b:Addr} {o:Obj} (e:X.base.get? b=some o):b ∉ X.fs:=fun hb=>by
 have:=(ok.funs.mem hb).1
 rw [e] at this; cases this
theorem Inv.bs (I:Inv X pins σ H s):∀ b o,X.base.get? b=some o→s.heap.get? b=some o∧H b=none:=fun b o e =>
 ⟨I.base.keep b o (I.ok.bs b o e).1 (I.ok.bs b o e).2 (I.ok.nofr e) (I.ok.noex b o e),I.base.free b o (I.ok.bs b o e).1 (I.ok.bs b o e).2 (I.ok.noex b o e)⟩
theorem Inv.bk (I:Inv X pins σ H s):∀ b o,X.base.get? b=some o→s.heap.get? b=some o:=fun b o e=>(I.bs b o e).1
theorem Inv.mod (I:Inv X pins σ H s):Mod X.K X.mg X.base:=I.ok.mod
theorem Inv.kIn (I:Inv X pins σ H s):X.K.In s.heap:=I.ok.mod.kin.keeps I.bk
theorem Inv.lt (I:Inv X pins σ H s):X.env.locals < s.heap.objs.size:=let ⟨_,hn,_⟩:=I.loc; hn.lt
theorem Inv.sz (I:Inv X pins σ H s):X.s₀.heap.objs.size≤s.heap.objs.size:=Nat.le_trans I.ok.above (Nat.le_of_lt I.lt)
theorem Inv.nofs (I:Inv X pins σ H s) {a:Addr} (h:s.heap.objs.size≤a):a ∉ X.fs:=fun hb=>by
 obtain ⟨_,o,ho,_⟩:=I.ok.funs.mem hb
 exact absurd (Nat.lt_of_lt_of_le (Heap.lt_size ho) (Nat.le_trans I.sz h)) (Nat.lt_irrefl _)
theorem Inv.cne (I:Inv X pins σ H s):∀ x c,X.env.cells.lookup x=some c→c≠X.env.locals:=fun x c e z=>by
 obtain ⟨v,o,ho,hd⟩:=I.cell x c e
 obtain ⟨m,⟨o',es,ep,ho',hd',_⟩,_⟩:=I.loc
 rw [z,ho'] at ho; cases ho; rw [hd'] at hd; cases hd
theorem Inv.funs (I:Inv X pins σ H s):s.heap.FunFrames X.base X.outer:=by
 have all:∀ (l:List Env),(∀ b∈frs l,b∈X.fs)→X.s₀.heap.FunFrames X.base l→s.heap.FunFrames X.base l:=by
  intro l
  induction l with
  | nil=>intro _ _; trivial
  | cons env r ih =>
   intro hs hl
   obtain ⟨hk,⟨L,o,hf,hn,ho,hd⟩,hr⟩:=hl
   have hL:L∈X.fs:=hs L (by unfold frs; rw [List.filterMap_cons,hf]; exact List.mem_cons_self)
   obtain ⟨sl,e⟩:=I.base.slot L o ho (I.ok.frf L hL) hL fun z=>I.ok.exfs L z hL
   exact ⟨hk,⟨L,_,hf,hn,e,hd⟩,ih (fun b hb=>hs b (by unfold frs; rw [List.filterMap_cons,hf]; exact List.mem_cons_of_mem _ hb)) hr⟩
 exact all X.outer (fun _ hb=>hb) I.ok.funs
theorem Inv.stack (I:Inv X pins σ H s):s.heap.FunFrames X.base X.stack:=by
 rcases I.ok.stk with e | ⟨e,hf⟩
 ·rw [e]; exact I.funs
 ·rw [e]
  obtain ⟨m,hn,_⟩:=I.loc
  refine .cons (by rw [I.ok.kind]; decide) hf hn ?_ I.funs
  exact Heap.get?_none_of_le (Nat.le_trans I.ok.bsz I.ok.above)
theorem Inv.stkSub (I:Inv X pins σ H s):∀ b∈frs X.stack,b∈X.env.locals :: X.fs:=fun b hb=>by
 rcases I.ok.stk with e | ⟨e,hf⟩
 ·rw [e] at hb; exact List.mem_cons_of_mem _ hb
 ·rw [e] at hb
  unfold frs at hb
  rw [List.filterMap_cons,hf] at hb
  exact hb
theorem Inv.stkFree (I:Inv X pins σ H s):∀ b∈frs X.stack,H b=none:=fun b hb=>by
 rcases List.mem_cons.mp (I.stkSub b hb) with e | hb
 ·rw [e]; exact I.free
 ·obtain ⟨_,o,ho,_⟩:=I.ok.funs.mem hb
  exact I.base.free b o ho (I.ok.frf b hb) fun z=>I.ok.exfs b z hb
theorem Inv.step {g':Array GenState} {t':Nat} {d':Drawn} {ch:List Addr} (I:Inv X pins σ H s)
  (hch:∀ b∈ch,(b∈X.ex∨X.s₀.heap.objs.size≤b)∧b≠X.env.locals∧(∀ x c,X.env.cells.lookup x=some c→c≠b)∧∀ p∈X.pn++pins,p.1≠b)
  (keep:∀ b o,b≠X.env.locals→b ∉ X.fs→b ∉ ch→s.heap.get? b=some o→H b=none→h'.get? b=some o)
  (slot:∀ b o,b≠X.env.locals→b∈X.fs→b ∉ ch→s.heap.get? b=some o→H b=none→∃ sl,h'.get? b=some { o with slots:=sl }) (free:∀ b o,b ∉ ch→s.heap.get? b=some o→H b=none→H' b=none)
  (there:∀ b o,b ∉ ch→s.heap.get? b=some o→∃ o',h'.get? b=some o')
  (tups:∀ b xs,H b=some (.tup xs)→H' b=some (.tup xs)) (frzs:∀ b o u,H b=some (.frz o u)→H' b=some (.frz o u)) (tbls:∀ b ps,H b=some (.tbl ps)→∃ more,H' b=some (.tbl (ps++more)))
  (ns:∀ m,s.heap.Ns X.env.locals m→h'.Ns X.env.locals m) (hok:HOk X.prog X.w H' h') (hg:AllBare g') :
  Inv X pins σ H' { s with heap:=h',gens:=g',drawn:=d',toks:=t' }:=by
 have neL:∀ b o,X.s₀.heap.get? b=some o→b≠X.env.locals:=fun b o e=>Nat.ne_of_lt (Nat.lt_of_lt_of_le (Heap.lt_size e) I.ok.above)
 have neC:∀ b o,X.s₀.heap.get? b=some o→b ∉ X.ex→b ∉ ch:=fun b o e hx hb=>by
  rcases (hch b hb).1 with z | z
  ·exact hx z
  ·exact absurd (Nat.lt_of_lt_of_le (Heap.lt_size e) z) (Nat.lt_irrefl _)
 have cellK:∀ x c,X.env.cells.lookup x=some c→∀ v,s.heap.IsCell c v→h'.IsCell c v:=fun x c e v ⟨o,ho,hd⟩=>by
  have nch:c ∉ ch:=fun z=>(hch c z).2.2.1 x c e rfl
  by_cases hc:c∈X.fs
  ·obtain ⟨sl,q⟩:=slot c o (I.cne x c e) hc nch ho (I.freeC x c e)
   exact ⟨_,q,hd⟩
  ·exact ⟨o,keep c o (I.cne x c e) hc nch ho (I.freeC x c e),hd⟩
 refine ⟨I.ok,I.os,hg,⟨fun b o e n hb hx=>?_,fun b o e n hb hx=>?_,fun b o e n hx=>?_,fun b o e hx=>?_,fun b xs e=>tups b xs (I.base.tups b xs e),fun b o xs e=>frzs b o xs (I.base.frzs b o xs e),fun b ps e=>?_⟩,?_,fun x c e=>?_,?_,fun x c e=>?_,fun p hp=>?_,hok,I.len⟩
 ·exact keep b o (neL b o e) hb (neC b o e hx) (I.base.keep b o e n hb hx) (I.base.free b o e n hx)
 ·obtain ⟨sl,e1⟩:=I.base.slot b o e n hb hx
  obtain ⟨sl',e2⟩:=slot b _ (neL b o e) hb (neC b o e hx) e1 (I.base.free b o e n hx)
  exact ⟨sl',e2⟩
 ·obtain ⟨o',e1⟩:=I.base.there b o e hx
  exact free b o' (neC b o e hx) e1 (I.base.free b o e n hx)
 ·obtain ⟨o',e1⟩:=I.base.there b o e hx
  exact there b o' (neC b o e hx) e1
 ·obtain ⟨m1,e1⟩:=I.base.tbls b ps e
  obtain ⟨m2,e2⟩:=tbls b _ e1
  exact ⟨m1++m2,by rw [e2,Array.append_assoc]⟩
 ·obtain ⟨m,hn,hl⟩:=I.loc
  refine ⟨m,ns m hn,fun i x v e1 e2 e3=>?_⟩
  obtain ⟨u,r,l⟩:=hl i x v e1 e2 e3
  refine ⟨u,r,?_⟩
  rcases l with l | ⟨k,c,e,z⟩
  ·exact .inl l
  ·exact .inr ⟨k,c,e,cellK x c e _ z⟩
 ·obtain ⟨v,z⟩:=I.cell x c e
  exact ⟨v,cellK x c e v z⟩
 ·obtain ⟨m,⟨o,_,_,ho,_⟩,_⟩:=I.loc
  exact free _ o (fun z=>(hch _ z).2.1 rfl) ho I.free
 ·obtain ⟨v,o,ho,hd⟩:=I.cell x c e
  exact free c o (fun z=>(hch c z).2.2.1 x c e rfl) ho (I.freeC x c e)
 ·obtain ⟨e,n,ne,nf,d⟩:=I.pin p hp
  have nch:p.1 ∉ ch:=fun z=>(hch p.1 z).2.2.2 p hp rfl
  exact ⟨keep p.1 p.2 ne nf nch e n,free p.1 p.2 nch e n,ne,nf,d⟩
theorem Inv.un {t':Nat} (I:Inv X pins σ H s) (u:Un X.fs [] H H' s.heap h') (hok:HOk X.prog X.w H' h'):Inv X pins σ H' { s with heap:=h',toks:=t' }:=by
 obtain ⟨m,⟨o,es,ep,ho,r⟩,_⟩:=id I.loc
 obtain ⟨sl,hL⟩:=u.any ho I.free (by simp)
 exact I.step (g':=s.gens) (d':=s.drawn) (ch:=[]) (fun _ z=>nomatch z) (fun b o _ hb _ e n=>u.keep b o e n hb (by simp)) (fun b o _ hb _ e n=>u.slot b o e n hb (by simp)) (fun b o _ e n=>u.free b o e n (by simp)) (fun b o _ e=>u.there b o e (by simp)) u.tups u.frzs u.tbls (fun m' hm=>by
  obtain ⟨o',es',ep',ho',r'⟩:=hm
  rw [ho] at ho'; cases ho'
  exact ⟨_,es',ep',hL,r'⟩) hok I.bare
theorem Inv.call {g':Array GenState} {t':Nat} {d':Drawn} {ch:List Addr} (I:Inv X pins σ H s) (u:Un (frs X.stack) ch H H' s.heap h') (hok:HOk X.prog X.w H' h') (hg:AllBare g')
  (hch:∀ b∈ch,(b∈X.ex∨X.s₀.heap.objs.size≤b)∧b≠X.env.locals∧(∀ x c,X.env.cells.lookup x=some c→c≠b)∧∀ p∈X.pn++pins,p.1≠b) :
  Inv X pins σ H' { s with heap:=h',gens:=g',drawn:=d',toks:=t' }:=by
 obtain ⟨m,⟨o,es,ep,ho,r⟩,_⟩:=id I.loc
 obtain ⟨sl,hL⟩:=u.any ho I.free fun z=>(hch _ z).2.1 rfl
 exact I.step (ch:=ch) hch (fun b o hL hb hc e n=>u.keep b o e n (fun z=>(List.mem_cons.mp (I.stkSub b z)).elim hL hb) hc) (fun b o _ _ hc e n=>u.any e n hc) (fun b o hc e n=>u.free b o e n hc) (fun b o hc e=>u.there b o e hc) u.tups u.frzs u.tbls (fun m' hm=>by
  obtain ⟨o',es',ep',ho',r'⟩:=hm
  rw [ho] at ho'; cases ho'
  exact ⟨_,es',ep',hL,r'⟩) hok hg
theorem Inv.turned {t':Nat} {it:Addr} (I:Inv X pins σ H s) (k:∀ b o,b≠it→s.heap.get? b=some o→h'.get? b=some o) (hn:H it=none) (hL:it≠X.env.locals)
  (h1:it∈X.ex∨X.s₀.heap.objs.size≤it) (h2:∀ x c,X.env.cells.lookup x=some c→c≠it) (h3:∀ p∈X.pn++pins,p.1≠it):Inv X pins σ H { s with heap:=h',toks:=t' }:=by
 have nit:∀ b u,H b=some u→b≠it:=fun b u e z=>by rw [z,hn] at e; cases e
 refine I.step (g':=s.gens) (d':=s.drawn) (ch:=[it]) (fun b hb=>?_) (fun b o _ _ hc e _=>k b o (fun z=>hc (by simp [z])) e) (fun b o _ _ hc e _=>⟨o.slots,k b o (fun z=>hc (by simp [z])) e⟩) (fun _ _ _ _ n=>n)
  (fun b o hc e=>⟨o,k b o (fun z=>hc (by simp [z])) e⟩) (fun _ _ e=>e) (fun _ _ _ e=>e) (fun b ps e=>⟨#[],by rw [e]; simp⟩) (fun m hm=>?_) (fun b u e=>?_) I.bare
 ·have e:b=it:=by simpa using hb
  subst e
  exact ⟨h1,hL,h2,h3⟩
 ·obtain ⟨o,es,ep,ho,r⟩:=hm
  exact ⟨o,es,ep,k _ o (Ne.symm hL) ho,r⟩
 ·refine (I.hok b u e).stay (fun c v hc q=>k c v ?_ q) (fun _ q=>q) fun _ _ q=>q
  rcases hc with z | z
  ·rw [z]; exact nit b u e
  ·exact nit c _ z
theorem Inv.tok (I:Inv X pins σ H s) (t:Nat):Inv X pins σ H { s with toks:=t }:=I.un (h':=s.heap) (t':=t) Un.refl I.hok
theorem Inv.kept {t':Nat} (I:Inv X pins σ H s) (k:∀ b u,s.heap.get? b=some u→h'.get? b=some u):Inv X pins σ H { s with heap:=h',toks:=t' }:=I.un (Un.kept k) (I.hok.kept k)
theorem Inv.laid {a:Addr} {o:HO} {t':Nat} (I:Inv X pins σ H s) (k:∀ b u,s.heap.get? b=some u→h'.get? b=some u) (hp:s.heap.objs.size≤a) (new:ObjOk X.prog X.w (upd H a o) h' a o) :
  Inv X pins σ (upd H a o) { s with heap:=h',toks:=t' }:=I.un (Un.laid k hp (I.hok.fresh hp)) (I.hok.laid k hp new)
theorem Inv.write {x e:Addr} {o:HO} {t':Nat} (I:Inv X pins σ H s) (mu:Mut (H x)) (he:e=x∨H e=some (.own x)) (k:∀ b u,b≠e→s.heap.get? b=some u→h'.get? b=some u) (heo:∃ u,h'.get? e=some u)
  (new:ObjOk X.prog X.w (upd H x o) h' x o):Inv X pins σ (upd H x o) { s with heap:=h',toks:=t' }:=I.un (Un.write mu he k heo) (I.hok.write mu he k heo new)
theorem Inv.pins_of {pins':List (Addr × Obj)} (I:Inv X pins σ H s) (h:∀ p∈pins',s.heap.get? p.1=some p.2∧H p.1=none∧p.1≠X.env.locals∧p.1 ∉ X.fs∧∀ v,p.2.data≠.cell v):Inv X pins' σ H s :=
 ⟨I.ok,I.os,I.bare,I.base,I.loc,I.cell,I.free,I.freeC,fun p hp=>(List.mem_append.mp hp).elim (fun z=>I.pin p (List.mem_append_left _ z)) (h p),I.hok,I.len⟩
theorem lu {N:List Str} (hN:N.Nodup) {i j:Nat} {x:Str} (a:N[i]?=some x) (b:N[j]?=some x):i=j:=by
 obtain ⟨h1,e1⟩:=List.getElem?_eq_some_iff.mp a
 obtain ⟨h2,e2⟩:=List.getElem?_eq_some_iff.mp b
 exact (List.getElem_inj hN).mp (e1.trans e2.symm)
theorem jO {M:Model} {A:Around} {E:Value→Shared→Prop} {i:Nat} {x:Str} {v:V} {u:Value} {Q:Unit→Shared→Prop} (I:Inv X pins σ H s) (hN:X.N.Nodup) (hi:X.N[i]?=some x) (hx:Loc X.env.scope x) (r:RelV v u)
  (h:∀ s',Inv X pins (σ.set i (some v)) H s'→(∃ a,Heap.SameBut a s.heap s'.heap∧(a=X.env.locals∨X.env.cells.lookup x=some a))→Q () s') (hf:X.fn x=true∨X.env.scope.names.lookup x=some .local:=by first | exact .inl rfl | exact .inr rfl | assumption):wpAny M A (storeName X.env x u) Q E s:=by
 obtain ⟨m,hn,hl⟩:=id I.loc
 have hcls:(X.env.scope.kind == .class || (X.env.scope.kind == .module && X.env.locals != X.env.globals))=false:=by rw [I.ok.kind]; rfl
 have hiσ:i < σ.length:=by rw [I.len]; exact (List.getElem?_eq_some_iff.mp hi).1
 have cne:=I.cne
 have tracked:∀ {a:Addr} {h':Heap},(∃ o,s.heap.get? a=some o∧H a=none)→Heap.SameBut a s.heap h'→HOk X.prog X.w H h':=fun {a h'} ha hs b ob e=>by
  obtain ⟨_,_,hfree⟩:=ha
  refine (I.hok b ob e).stay (fun c w' hc q=>(hs.2 c ?_).trans q) (fun _ q=>q) fun _ _ q=>q
  rintro rfl
  rcases hc with rfl | hc
  ·rw [hfree] at e; cases e
  ·rw [hfree] at hc; cases hc
 rcases hx with hk | hk
 ·refine wpAny_storeName_local hk hn (fun h' hn' hs=>?_) hcls
  obtain ⟨oL,_,_,hoL,_⟩:=id hn
  refine h _ ⟨I.ok,I.os,I.bare,⟨fun b o e n hb hx=>?_,fun b o e n hb hx=>?_,I.base.free,fun b o e hx=>?_,I.base.tups,I.base.frzs,I.base.tbls⟩,⟨_,hn',fun j y v' e1 e2 e3=>?_⟩,fun y c e=>?_,I.free,I.freeC,fun p hp=>?_,tracked ⟨oL,hoL,I.free⟩ hs,by simpa using I.len⟩ ⟨_,hs,.inl rfl⟩
  ·exact (hs.2 b (Nat.ne_of_lt (Nat.lt_of_lt_of_le (Heap.lt_size e) I.ok.above))).trans (I.base.keep b o e n hb hx)
  ·obtain ⟨sl,e1⟩:=I.base.slot b o e n hb hx
   exact ⟨sl,(hs.2 b (Nat.ne_of_lt (Nat.lt_of_lt_of_le (Heap.lt_size e) I.ok.above))).trans e1⟩
  ·obtain ⟨o',e1⟩:=I.base.there b o e hx
   exact ⟨o',(hs.2 b (Nat.ne_of_lt (Nat.lt_of_lt_of_le (Heap.lt_size e) I.ok.above))).trans e1⟩
  ·by_cases hj:j=i
   ·subst hj
    rw [hi] at e1; cases e1
    rw [List.getElem?_set_self hiσ] at e2
    cases e2
    exact ⟨u,r,.inl ⟨hk,by simp⟩⟩
   ·rw [List.getElem?_set_ne (Ne.symm hj)] at e2
    obtain ⟨u',r',q⟩:=hl j y v' e1 e2 e3
    refine ⟨u',r',?_⟩
    rcases q with ⟨k,e⟩ | ⟨k,c,e,z⟩
    ·refine .inl ⟨k,?_⟩
     have:y≠x:=fun e=>hj (lu hN e1 (e ▸ hi))
     simp [this,e]
    ·exact .inr ⟨k,c,e,z.sameBut hs (cne y c e)⟩
  ·obtain ⟨w',z⟩:=I.cell y c e
   exact ⟨w',z.sameBut hs (cne y c e)⟩
  ·obtain ⟨e,n,ne,nf,d⟩:=I.pin p hp
   exact ⟨(hs.2 p.1 ne).trans e,n,ne,nf,d⟩
 ·have hfn:X.fn x=true:=by
   rcases hf with z | z
   ·exact z
   ·rw [z] at hk; cases hk
  obtain ⟨c,hc⟩:=I.ok.has x (.inl hk)
  obtain ⟨w',z⟩:=I.cell x c hc
  refine wpAny_storeName_cell I.ok.kind hk hc z (fun h' hc' hs=>?_)
  obtain ⟨oc,hoc,hocd⟩:=id z
  refine h { s with heap:=h' } ⟨I.ok,I.os,I.bare,⟨fun b o e n hb hx=>?_,fun b o e n hb hx=>?_,I.base.free,fun b o e hx=>?_,I.base.tups,I.base.frzs,I.base.tbls⟩,⟨m,hn.sameBut hs (Ne.symm (cne x c hc)),fun j y v' e1 e2 e3=>?_⟩,fun y c' e=>?_,I.free,I.freeC,fun p hp=>?_,tracked ⟨oc,hoc,I.freeC x c hc⟩ hs,by simpa using I.len⟩ ⟨c,hs,.inr hc⟩
  ·exact (hs.2 b (Nat.ne_of_lt (Nat.lt_of_lt_of_le (Heap.lt_size e) (I.ok.cab x c hfn hc)))).trans (I.base.keep b o e n hb hx)
  ·obtain ⟨sl,e1⟩:=I.base.slot b o e n hb hx
   exact ⟨sl,(hs.2 b (Nat.ne_of_lt (Nat.lt_of_lt_of_le (Heap.lt_size e) (I.ok.cab x c hfn hc)))).trans e1⟩
  ·obtain ⟨o',e1⟩:=I.base.there b o e hx
   exact ⟨o',(hs.2 b (Nat.ne_of_lt (Nat.lt_of_lt_of_le (Heap.lt_size e) (I.ok.cab x c hfn hc)))).trans e1⟩
  ·by_cases hj:j=i
   ·subst hj
    rw [hi] at e1; cases e1
    rw [List.getElem?_set_self hiσ] at e2
    cases e2
    exact ⟨u,r,.inr ⟨.inl hk,c,hc,hc'⟩⟩
   ·rw [List.getElem?_set_ne (Ne.symm hj)] at e2
    obtain ⟨u',r',q⟩:=hl j y v' e1 e2 e3
    refine ⟨u',r',?_⟩
    rcases q with q | ⟨k,c',e,z'⟩
    ·exact .inl q
    ·refine .inr ⟨k,c',e,z'.sameBut hs ?_⟩
     rintro rfl
     exact hj (lu hN e1 (I.ok.inj _ _ _ e hc ▸ hi))
  ·by_cases hcc:c'=c
   ·subst hcc; exact ⟨_,hc'⟩
   ·obtain ⟨w2,z2⟩:=I.cell y c' e
    exact ⟨w2,z2.sameBut hs hcc⟩
  ·obtain ⟨e,n,ne,nf,d⟩:=I.pin p hp
   refine ⟨(hs.2 p.1 ?_).trans e,n,ne,nf,d⟩
   intro q
   rw [q,hoc] at e
   have q':oc=p.2:=Option.some.inj e
   exact d w' (by rw [← q']; exact hocd)
theorem oq {M:Model} {A:Around} {E:Value→Shared→Prop} {i:Nat} {x:Str} {v:V} {u:Value} {Q:Unit→Shared→Prop} (I:Inv X pins σ H s) (hN:X.N.Nodup) (hi:X.N[i]?=some x) (hx:Loc X.env.scope x) (r:RelV v u)
  (h:∀ s',Inv X pins (σ.set i (some v)) H s'→Q () s') (hf:X.fn x=true∨X.env.scope.names.lookup x=some .local:=by first | exact .inl rfl | exact .inr rfl | assumption):wpAny M A (storeName X.env x u) Q E s :=
 jO I hN hi hx r (fun s' I' _=>h s' I') hf
theorem Inv.call' {s':Shared} {ch:List Addr} (I:Inv X pins σ H s) (ho:s'.os=s.os) (u:Un (frs X.stack) ch H H' s.heap s'.heap) (hok:HOk X.prog X.w H' s'.heap) (hg:AllBare s'.gens)
  (hch:∀ b∈ch,(b∈X.ex∨X.s₀.heap.objs.size≤b)∧b≠X.env.locals∧(∀ x c,X.env.cells.lookup x=some c→c≠b)∧∀ p∈X.pn++pins,p.1≠b):Inv X pins σ H' s':=by
 obtain ⟨h',g',d',t',o'⟩:=s'
 have e:o'=s.os:=ho
 subst e
 exact I.call (g':=g') (t':=t') (d':=d') u hok hg hch
end
abbrev XK:=Value→Option Addr→Hp→Prop
abbrev St:=List (Option V)
abbrev VK:=V→Hp→Prop
abbrev TE:=St→Hp→VK→Prop
abbrev TT:=St→Hp→(Bool→Hp→Prop)→Prop
abbrev TA:=St→Hp→(List V→Hp→Prop)→Prop
structure Ends where
 nx:St→Hp→Prop
 rt:VK
 bk:St→Hp→Prop:=fun _ _=>False
 ct:St→Hp→Prop:=fun _ _=>False
abbrev TS:=Ends→St→Hp→Prop
def EP (X:Cx) (pins:List (Addr × Obj)) (σ:St) (Q:VK) (u:Value) (s':Shared):Prop:=∃ v H',Inv X pins σ H' s'∧RelV v u∧Q v H'
def TP (X:Cx) (pins:List (Addr × Obj)) (σ:St) (Q:Bool→Hp→Prop) (b:Bool) (s':Shared):Prop:=∃ H',Inv X pins σ H' s'∧Q b H'
def AP (X:Cx) (pins:List (Addr × Obj)) (σ:St) (Q:List V→Hp→Prop) (us:List Value) (s':Shared):Prop:=∃ vs H',Inv X pins σ H' s'∧Vals vs us∧Q vs H'
def SP (X:Cx) (pins:List (Addr × Obj)) (D:Ends) (f:Flow) (s':Shared):Prop :=
 match f with
 | .next=>∃ σ' H',Inv X pins σ' H' s'∧D.nx σ' H'
 | .brk=>∃ σ' H',Inv X pins σ' H' s'∧D.bk σ' H'
 | .cont=>∃ σ' H',Inv X pins σ' H' s'∧D.ct σ' H'
 | .ret u=>∃ v σ' H',Inv X pins σ' H' s'∧RelV v u∧D.rt v H'
def PE (X:Cx) (e:Expr) (t:TE):Prop :=
 ∀ (pins:List (Addr × Obj)) (s:Shared) (σ:St) (H:Hp) (Q:VK),Inv X pins σ H s→t σ H Q→wpAny (model X.prog X.w) X.A (eval e X.env) (EP X pins σ Q) X.xe s
def PT (X:Cx) (e:Expr) (t:TT):Prop :=
 ∀ (pins:List (Addr × Obj)) (s:Shared) (σ:St) (H:Hp) (Q:Bool→Hp→Prop),Inv X pins σ H s→t σ H Q→wpAny (model X.prog X.w) X.A (isTrue e X.env (eval e X.env)) (TP X pins σ Q) X.xe s
def PW (X:Cx) (e:Expr) (t:TT):Prop :=
 ∀ (whole:Sem Value) (pins:List (Addr × Obj)) (s:Shared) (σ:St) (H:Hp) (Q:Bool→Hp→Prop),Inv X pins σ H s→t σ H Q→wpAny (model X.prog X.w) X.A (isTrue e X.env whole) (TP X pins σ Q) X.xe s
theorem PW.pt {X:Cx} {e:Expr} {t:TT} (h:PW X e t):PT X e t:=h _
def PA (X:Cx) (es:List Expr) (t:TA):Prop :=
 ∀ (pos:Pos) (pins:List (Addr × Obj)) (s:Shared) (σ:St) (H:Hp) (Q:List V→Hp→Prop),Inv X pins σ H s→t σ H Q→wpAny (model X.prog X.w) X.A (spliced (backTo pos (starEach es X.env))) (AP X pins σ Q) X.xe s
def PS (X:Cx) (st:Stmt) (t:TS):Prop :=
 ∀ (pins:List (Addr × Obj)) (s:Shared) (σ:St) (H:Hp) (D:Ends),Inv X pins σ H s→t D σ H→wpAny (model X.prog X.w) X.A (exec st X.env) (SP X pins D) X.xe s
def PSs (X:Cx) (st:List Stmt) (t:TS):Prop :=
 ∀ (pins:List (Addr × Obj)) (s:Shared) (σ:St) (H:Hp) (D:Ends),Inv X pins σ H s→t D σ H→wpAny (model X.prog X.w) X.A (execs st X.env) (SP X pins D) X.xe s
theorem thn {α:Type} {t:Sem α} {Q Q':α→Shared→Prop} {M:Model} {A:Around} {E:Value→Shared→Prop} {s:Shared} (h:wpAny M A t Q E s) (hQ:∀ a s,Q a s→Q' a s):wpAny M A t Q' E s:=wpAny_mono h hQ fun _ _ x=>x
end L2
namespace L2
open PySem PySem.Spec PyProof.Rows
section
variable {X:Cx}
def gC (i:Nat):TE:=fun σ H Q=>∃ v,σ[i]?=some (some v)∧Q v H
def tC (v:V):TE:=fun _ H Q=>Q v H
theorem dJ {i:Nat} {x:Str} {pos:Pos} (hN:X.N[i]?=some x) (hv:Vis X.env.scope x) (hd:(x == ("__debug__" : Str))=false:=by decide) (hcd:(x == ("__classdict__" : Str))=false:=by decide):PE X (.Name x pos) (gC i):=by
 intro pins s σ H Q I h
 obtain ⟨v,e,h⟩:=h
 obtain ⟨m,hn,hl⟩:=I.loc
 obtain ⟨u,r,l⟩:=hl i x v hN e hv
 have fin:EP X pins σ Q u s:=⟨v,H,I,r,h⟩
 rcases l with ⟨hk,hm⟩ | ⟨hk,c,hc,hcell⟩
 ·exact wpAny_Name (wpAny_loadName_local I.ok.kind hk hn hm fin) hd
 ·rcases hk with hk | hk
  ·exact wpAny_Name (wpAny_loadName_cell I.ok.kind hk hc hcell fin) hd
  ·exact wpAny_Name (wpAny_loadName_free I.ok.kind hk hc hcell fin hcd) hd
theorem pe_int {i j pos}:PE X (.Constant (.int i) j pos) (tC (.int i)):=fun _ _ _ H _ I h=>wpAny_Constant_int ⟨.int i,H,I.tok _,⟨_,rfl⟩,h⟩
theorem pe_bl {b j pos}:PE X (.Constant (.bool b) j pos) (tC (.bl b)):=fun _ _ _ H _ I h=>Constant_bool ⟨.bl b,H,I,rfl,h⟩
theorem pe_non {j pos}:PE X (.Constant .none j pos) (tC .non):=fun _ _ _ H _ I h=>Constant_none ⟨.non,H,I,rfl,h⟩
theorem pe_str {x j pos}:PE X (.Constant (.str x) j pos) (tC (.str x)):=fun _ _ _ H _ I h=>Calls.Constant_str ⟨.str x,H,I.tok _,⟨_,rfl⟩,h⟩
def Gl (X:Cx) (x:Str):Prop:=X.env.kindOf x=some .globalImplicit
theorem iM {E:Value→Shared→Prop} {pins:List (Addr × Obj)} {s:Shared} {σ:St} {H:Hp} {x:Str} {u:Value} {pos:Pos} {Q:Value→Shared→Prop} (I:Inv X pins σ H s) (hg:Gl X x) (hm:X.mg x=some u) (h:Q u s)
  (hd:(x == ("__debug__" : Str))=false:=by decide):wpAny (model X.prog X.w) X.A (eval (.Name x pos) X.env) Q E s :=
 Calls.Name_function_global I.ok.kind hg (Calls.loadGlobal_global (by rw [I.ok.glob]; exact I.mod.glob.keeps I.bk) hm h) hd
theorem lP {E:Value→Shared→Prop} {pins:List (Addr × Obj)} {s:Shared} {σ:St} {H:Hp} {x:Str} {u:Value} {pos:Pos} {Q:Value→Shared→Prop} (I:Inv X pins σ H s) (hg:Gl X x) (hm:X.mg x=none) (hv:bootBuiltins x=some u) (h:Q u s)
  (hn:x≠"__name__":=by decide) (hd:(x == ("__debug__" : Str))=false:=by decide):wpAny (model X.prog X.w) X.A (eval (.Name x pos) X.env) Q E s:=by
 obtain ⟨mb,h1,h2⟩:=I.mod.blt
 exact Calls.Name_function_global I.ok.kind hg (Calls.loadGlobal_builtin (by rw [I.ok.glob]; exact I.mod.glob.keeps I.bk) hm (by rw [I.ok.blt]; exact h1.keeps I.bk) ((h2 x hn).trans hv) h) hd
theorem qO {x:Str} {v:V} {u:Value} {pos:Pos} (hg:Gl X x) (hm:X.mg x=some u) (r:RelV v u) (hd:(x == ("__debug__" : Str))=false:=by decide):PE X (.Name x pos) (tC v) :=
 fun _ _ _ H _ I h=>iM I hg hm ⟨v,H,I,r,h⟩ hd
theorem qP {x:Str} {v:V} {u:Value} {pos:Pos} (hg:Gl X x) (hm:X.mg x=none) (hv:bootBuiltins x=some u) (r:RelV v u) (hn:x≠"__name__":=by decide) (hd:(x == ("__debug__" : Str))=false:=by decide):PE X (.Name x pos) (tC v) :=
 fun _ _ _ H _ I h=>lP I hg hm hv ⟨v,H,I,r,h⟩ hn hd
variable {a b:Expr} {ta tb:TE} {pos:Pos}
def PC (X:Cx) (op:CmpOp) (a b:Expr) (t:TE):Prop :=
 ∀ (pins:List (Addr × Obj)) (s:Shared) (σ:St) (H:Hp) (Q:VK),Inv X pins σ H s→t σ H Q →
  wpAny (model X.prog X.w) X.A (eval a X.env) (fun v s₁=>wpAny (model X.prog X.w) X.A (eval b X.env) (fun u s₂=>wpAny (model X.prog X.w) X.A (compareOp op v u) (EP X pins σ Q) X.xe s₂) X.xe s₁) X.xe s
theorem vi (b:Expr) {op:CmpOp} (h:op≠.In) (h2:op≠.NotIn):behindInMarks op b=false:=by
 have e1:(op == CmpOp.In)=false:=by cases op <;> first | rfl | exact absurd rfl h
 have e2:(op == CmpOp.NotIn)=false:=by cases op <;> first | rfl | exact absurd rfl h2
 cases b <;> simp [behindInMarks,e1,e2]
def tB (t:TE):TT:=fun σ H Q=>t σ H fun x H1=>∃ c,x=.bl c∧Q c H1
theorem Fk {op:CmpOp} {t:TE} (h:PC X op a b t) (h1:behindInMarks op b=false:=by first | exact vi _ (by decide) (by decide) | rfl):PT X (.Compare a [op] [b] pos) (tB t):=by
 intro pins s σ H Q I hw
 refine wpAny_isTrue_Compare1 (thn (h pins s σ H _ I hw) fun v s1 h1=>thn h1 fun u s2 h2=>thn h2 fun c s3 ⟨x,H1,I1,r1,q1⟩=>?_) h1
 obtain ⟨d,rfl,q⟩:=q1
 cases r1
 exact wpAny_truthy_bool ⟨H1,I1,q⟩
theorem Fi {e:Expr} {t:TE} (h:PE X e t) (he:∀ whole,isTrue e X.env whole=(do let v ← whole; standAt e.pos; holding [v] (truthy v)):=by intro _; rfl):PT X e (tB t):=by
 intro pins s σ H Q I hw
 refine isTrue_plain (thn (h pins s σ H _ I hw) fun v s1 ⟨x,H1,I1,r1,q1⟩=>?_) (he _)
 obtain ⟨d,rfl,q⟩:=q1
 cases r1
 exact wpAny_truthy_bool ⟨H1,I1,q⟩
variable {tA tB':TT} {rest:List Expr}
def E2 (t u:TT):TT:=fun σ H Q=>t σ H fun c H1=>if c=true then u σ H1 Q else Q false H1
def tOr (t u:TT):TT:=fun σ H Q=>t σ H fun c H1=>if c=true then Q true H1 else u σ H1 Q
def EU (t:TT):TT:=fun σ H Q=>t σ H fun c H1=>Q (!c) H1
theorem BE (ha:PT X a tA):PW X (.BoolOp .And [a] pos) tA:=by
 intro wh pins s σ H Q I h
 refine isTrue_and (thn (ha pins s σ H Q I h) fun c s1 e=>?_)
 cases c with
 | true=>exact isTrue_and_nil e
 | false=>exact e
theorem Fg (ha:PT X a tA):PW X (.BoolOp .Or [a] pos) tA:=by
 intro wh pins s σ H Q I h
 refine isTrue_or (thn (ha pins s σ H Q I h) fun c s1 e=>?_)
 cases c with
 | false=>exact isTrue_or_nil e
 | true=>exact e
theorem Fh (ha:PT X a tA) (hb:PW X (.BoolOp .And (b :: rest) pos) tB'):PW X (.BoolOp .And (a :: b :: rest) pos) (E2 tA tB'):=by
 intro wh pins s σ H Q I h
 refine isTrue_and (thn (ha pins s σ H _ I h) fun c s1 ⟨H1,I1,q1⟩=>?_)
 cases c with
 | true=>exact hb wh pins s1 σ H1 Q I1 q1
 | false=>exact ⟨H1,I1,q1⟩
theorem Hh (ha:PT X a tA) (hb:PW X (.BoolOp .Or (b :: rest) pos) tB'):PW X (.BoolOp .Or (a :: b :: rest) pos) (tOr tA tB'):=by
 intro wh pins s σ H Q I h
 refine isTrue_or (thn (ha pins s σ H _ I h) fun c s1 ⟨H1,I1,q1⟩=>?_)
 cases c with
 | true=>exact ⟨H1,I1,q1⟩
 | false=>exact hb wh pins s1 σ H1 Q I1 q1
theorem Fj (ha:PT X a tA):PT X (.UnaryOp .Not a pos) (EU tA):=by
 intro pins s σ H Q I h
 exact isTrue_not (ha pins s σ H (fun c H1=>Q (!c) H1) I h)
end
end L2
namespace L2
open PySem PySem.Spec PyProof.Rows
def SqL (K:PySem.W.Frag) (H:Hp) (a:Addr) (xs:List V):Prop :=
 Rd H a (.lst xs) ∨
  ∃ (o:Obj) (its:Array Value) (n:Nat),K.lookup a=some o∧o.cls=.type "list"∧o.dict=none∧o.data=.seq its n∧its.size≤sizeLine∧Vals xs its.toList
def SqT (K:PySem.W.Frag) (H:Hp) (a:Addr) (xs:List V):Prop :=
 Rd H a (.tup xs) ∨
  ∃ (o:Obj) (its:Array Value) (n:Nat),K.lookup a=some o∧o.cls=.type "tuple"∧o.data=.seq its n∧its.size≤sizeLine∧Vals xs its.toList
def Ix:Value→Option V
 | .none=>some .non
 | .bool b=>some (.bl b)
 | .int i _=>some (.int i)
 | .str x _=>some (.str x)
 | .bytes b _=>some (.byt b)
 | .float b _=>some (.flt b)
 | .ref a=>some (.ref a)
 | .type n=>some (.ty n)
 | _=>none
theorem RelV.abs {x:V} {u:Value} (r:RelV x u):Ix u=some x:=by
 cases x with
 | non=>cases r; rfl
 | bl _=>cases r; rfl
 | int _=>obtain ⟨t,rfl⟩:=r; rfl
 | str _=>obtain ⟨t,rfl⟩:=r; rfl
 | byt _=>obtain ⟨t,rfl⟩:=r; rfl
 | flt _=>obtain ⟨t,rfl⟩:=r; rfl
 | ref _=>cases r; rfl
 | ty _=>cases r; rfl
theorem RelV.inj {x y:V} {u:Value} (r:RelV x u) (q:RelV y u):x=y:=Option.some.inj (r.abs.symm.trans q.abs)
theorem Vals.inj:∀ {xs ys:List V} {us:List Value},Vals xs us→Vals ys us→xs=ys
 | _,_,_,.nil,.nil=>rfl
 | _,_,_,.cons r t,.cons r' t'=>by rw [r.inj r',Vals.inj t t']
section
variable {X:Cx} {pins:List (Addr × Obj)} {σ:St} {H:Hp} {s:Shared} {a:Addr} {xs ys:List V}
theorem SqL.of {K:PySem.W.Frag} (h:H a=some (.lst xs)):SqL K H a xs:=.inl (.inl h)
theorem SqT.of {K:PySem.W.Frag} (h:H a=some (.tup xs)):SqT K H a xs:=.inl (.inl h)
theorem Inv.list (I:Inv X pins σ H s) (h:SqL X.K H a xs):∃ its:List Value,Vals xs its∧PlainL s.heap a its.toArray∧xs.length≤sizeLine:=by
 rcases h with h | ⟨o,its,n,hk,hc,hd,hs,hz,r⟩
 ·obtain ⟨z,its,n,r,e⟩:=h.ok I.hok
  exact ⟨its,r,⟨_,n,e,rfl,rfl,rfl⟩,z⟩
 ·refine ⟨its.toList,r,⟨o,n,I.kIn a o hk,hc,hd,by simpa using hs⟩,?_⟩
  have e:=r.length
  simp only [Array.length_toList] at e
  omega
theorem Inv.tuple (I:Inv X pins σ H s) (h:SqT X.K H a xs):∃ its:List Value,Vals xs its∧IsTup s.heap a its.toArray∧xs.length≤sizeLine:=by
 rcases h with h | ⟨o,its,n,hk,hc,hs,hz,r⟩
 ·obtain ⟨z,its,r,p⟩:=h.ok I.hok
  exact ⟨its,r,p.tup,z⟩
 ·refine ⟨its.toList,r,⟨o,I.kIn a o hk,hc,n,by simpa using hs⟩,?_⟩
  have e:=r.length
  simp only [Array.length_toList] at e
  omega
theorem Inv.list_inj (I:Inv X pins σ H s) (h:SqL X.K H a xs) (h':SqL X.K H a ys):xs=ys:=by
 obtain ⟨its,r,⟨o,n,e,_,_,d⟩,_⟩:=I.list h
 obtain ⟨its',r',⟨o',n',e',_,_,d'⟩,_⟩:=I.list h'
 rw [e] at e'; cases e'
 rw [d] at d'
 injection d' with d1 _
 have:its=its':=by simpa using congrArg Array.toList d1
 subst this
 exact r.inj r'
theorem Inv.tuple_inj (I:Inv X pins σ H s) (h:SqT X.K H a xs) (h':SqT X.K H a ys):xs=ys:=by
 obtain ⟨its,r,⟨o,e,_,n,d⟩,_⟩:=I.tuple h
 obtain ⟨its',r',⟨o',e',_,n',d'⟩,_⟩:=I.tuple h'
 rw [e] at e'; cases e'
 rw [d] at d'
 injection d' with d1 _
 have:its=its':=by simpa using congrArg Array.toList d1
 subst this
 exact r.inj r'
end
abbrev Cx.wish (X:Cx) (E:Value→Shared→Prop):Cx:={ X with xe:=E }
abbrev Cx.nox (X:Cx):Cx:=X.wish fun _ _=>False
theorem Cx.Ok.wish {X:Cx} (ok:X.Ok) (E:Value→Shared→Prop):(X.wish E).Ok :=
 ⟨ok.mod,ok.kind,ok.glob,ok.blt,ok.above,ok.inj,ok.has,ok.cab,ok.hd,ok.frames,ok.stk,ok.exf,ok.bs,ok.bsz,ok.noex,ok.exfs,ok.funs,ok.frf⟩
theorem Cx.Ok.unwish {X:Cx} {E:Value→Shared→Prop} (ok:(X.wish E).Ok):X.Ok :=
 ⟨ok.mod,ok.kind,ok.glob,ok.blt,ok.above,ok.inj,ok.has,ok.cab,ok.hd,ok.frames,ok.stk,ok.exf,ok.bs,ok.bsz,ok.noex,ok.exfs,ok.funs,ok.frf⟩
section
variable {X:Cx} {pins:List (Addr × Obj)} {σ:St} {H:Hp} {s:Shared} {E:Value→Shared→Prop}
theorem Inv.wish (I:Inv X pins σ H s) (E:Value→Shared→Prop):Inv (X.wish E) pins σ H s:=⟨I.ok.wish E,I.os,I.bare,I.base,I.loc,I.cell,I.free,I.freeC,I.pin,I.hok,I.len⟩
theorem Inv.unwish (I:Inv (X.wish E) pins σ H s):Inv X pins σ H s:=⟨I.ok.unwish,I.os,I.bare,I.base,I.loc,I.cell,I.free,I.freeC,I.pin,I.hok,I.len⟩
theorem SP.unwish {D:Ends} {f:Flow} {s':Shared} (h:SP (X.wish E) pins D f s'):SP X pins D f s':=by
 cases f with
 | next=>obtain ⟨σ',H',I,q⟩:=h; exact ⟨σ',H',I.unwish,q⟩
 | brk=>obtain ⟨σ',H',I,q⟩:=h; exact ⟨σ',H',I.unwish,q⟩
 | cont=>obtain ⟨σ',H',I,q⟩:=h; exact ⟨σ',H',I.unwish,q⟩
 | ret u=>obtain ⟨v,σ',H',I,r,q⟩:=h; exact ⟨v,σ',H',I.unwish,r,q⟩
theorem PT.nox {e:Expr} {t:TT} (h:PT X.nox e t):PT X e t:=fun pins s σ H Q I hw =>
 wpAny_mono (h pins s σ H Q (I.wish _) hw) (fun _ _ ⟨H',I',q⟩=>⟨H',I'.unwish,q⟩) fun _ _ z=>False.elim z
theorem PSs.nox {st:List Stmt} {t:TS} (h:PSs X.nox st t):PSs X st t:=fun pins s σ H D I hw =>
 wpAny_mono (h pins s σ H D (I.wish _) hw) (fun _ _ q=>q.unwish) fun _ _ z=>False.elim z
end
section
variable {X:Cx} {st:Stmt} {rest:List Stmt} {t u:TS} {e:Expr} {te:TE} {pos:Pos}
def AW:TS:=fun D σ H=>D.nx σ H
def ER (t u:TS):TS:=fun D σ H=>t { D with nx:=u D } σ H
theorem pss_nil:PSs X [] AW:=fun _ _ σ H _ I h=>wpAny_execs_nil ⟨σ,H,I,h⟩
theorem oz (h1:PS X st t) (h2:PSs X rest u):PSs X (st :: rest) (ER t u):=by
 intro pins s σ H D I h
 refine wpAny_execs_cons (thn (h1 pins s σ H { D with nx:=u D } I h) fun f s1 q=>?_)
 cases f with
 | next =>
  obtain ⟨σ',H',I',q⟩:=q
  exact h2 pins s1 σ' H' D I' q
 | ret v=>exact q
 | brk=>exact q
 | cont=>exact q
theorem BH (h1:PS X st t):PSs X [st] t:=by
 intro pins s σ H D I h
 refine wpAny_execs_cons (thn (h1 pins s σ H D I h) fun f s1 q=>?_)
 cases f with
 | next=>exact wpAny_execs_nil q
 | ret v=>exact q
 | brk=>exact q
 | cont=>exact q
theorem Inv.quiet {pins:List (Addr × Obj)} {σ:St} {H:Hp} {s:Shared} (I:Inv X pins σ H s):interactive X.env=false:=by simp [interactive,I.ok.kind]
def AX (te:TE):TS:=fun D σ H=>te σ H fun _ H1=>D.nx σ H1
theorem BI (he:PE X e te) (hs:swapsWith e none pos.line X.env=pure false:=by rfl):PS X (.Expr e pos) (AX te):=by
 intro pins s σ H D I h
 exact wpAny_Expr_any (thn (he pins s σ H _ I h) fun v s1 ⟨x,H1,I1,r1,q1⟩=>⟨σ,H1,I1,q1⟩) I.quiet hs
def ES (te:TE):TS:=fun D σ H=>te σ H D.rt
theorem Fo (he:PE X e te):PS X (.Return (some e) pos) (ES te):=by
 intro pins s σ H D I h
 exact wpAny_Return_some (thn (he pins s σ H _ I h) fun v s1 ⟨x,H1,I1,r1,q1⟩=>⟨x,σ,H1,I1,r1,q1⟩)
def EW (c:TT) (t u:TS):TS:=fun D σ H=>c σ H fun b H1=>if b=true then t D σ H1 else u D σ H1
theorem A6 {c:Expr} {a b:List Stmt} {tc:TT} (hc:PT X c tc) (ha:PSs X a t) (hb:PSs X b u):PS X (.If c a b pos) (EW tc t u):=by
 intro pins s σ H D I h
 refine wpAny_If (thn (hc pins s σ H _ I h) fun d s1 ⟨H1,I1,q1⟩=>?_)
 cases d with
 | true=>exact ha pins s1 σ H1 D I1 q1
 | false=>exact hb pins s1 σ H1 D I1 q1
def oi:TS:=fun _ _ _=>False
theorem ps_never:PS X st oi:=fun _ _ _ _ _ _ h=>h.elim
theorem tz {sts:List Stmt}:PSs X sts oi:=fun _ _ _ _ _ _ h=>h.elim
end
abbrev TG:=V→St→Hp→(St→Hp→Prop)→Prop
abbrev TGs:=List V→St→Hp→(St→Hp→Prop)→Prop
def PG (X:Cx) (target:Expr) (t:TG):Prop :=
 ∀ (pins:List (Addr × Obj)) (s:Shared) (σ:St) (H:Hp) (v:V) (u:Value) (Q:St→Hp→Prop),Inv X pins σ H s→RelV v u→t v σ H Q →
  wpAny (model X.prog X.w) X.A (assign target X.env u) (fun _ s'=>∃ σ' H',Inv X pins σ' H' s'∧Q σ' H') X.xe s
abbrev wf:=V→V→V→Hp→(Hp→Prop)→Prop
def GZ (X:Cx) (t:wf):Prop :=
 ∀ (pins:List (Addr × Obj)) (s:Shared) (σ:St) (H:Hp) (o i v:V) (ov iv u:Value) (Q:Hp→Prop),Inv X pins σ H s→RelV o ov→RelV i iv→RelV v u→t o i v H Q →
  wpAny (model X.prog X.w) X.A (setItem ov iv u) (fun _ s'=>∃ H',Inv X pins σ H' s'∧Q H') X.xe s
section
variable {X:Cx} {pos:Pos}
def lZ (i:Nat):TG:=fun v σ H Q=>Q (σ.set i (some v)) H
theorem BM {i:Nat} {x:Str} (hN:X.N.Nodup) (hi:X.N[i]?=some x) (hx:Loc X.env.scope x) (hf:X.fn x=true∨X.env.scope.names.lookup x=some .local:=by first | exact .inl rfl | exact .inr rfl | assumption):PG X (.Name x pos) (lZ i):=by
 intro pins s σ H v u Q I r h
 exact wpAny_assign_Name (oq I hN hi hx r (fun s' I'=>⟨_,H,I',h⟩) hf)
def F8 (to ti:TE) (t:wf):TG:=fun v σ H Q=>to σ H fun o H1=>ti σ H1 fun i H2=>t o i v H2 fun H3=>Q σ H3
theorem Ft {o i:Expr} {to ti:TE} {t:wf} (ho:PE X o to) (hi:PE X i ti) (hs:GZ X t)
  (ha:∀ v,assign (.Subscript o i pos) X.env v=(do
   let ov ← holding [v] (eval o X.env)
   let iv ← holding [v,ov] (eval i X.env)
   standAt pos
   holding [v,ov,iv] (setItem ov iv v)
   release [v,ov,iv] []):=by intro _; rfl):PG X (.Subscript o i pos) (F8 to ti t):=by
 intro pins s σ H v u Q I r h
 rw [ha]
 refine wpAny_bind (wpAny_holding (thn (ho pins s σ H _ I h) fun ov s1 ⟨x,H1,I1,r1,q1⟩=>?_))
 refine wpAny_bind (wpAny_holding (thn (hi pins s1 σ H1 _ I1 q1) fun iv s2 ⟨y,H2,I2,r2,q2⟩=>?_))
 refine wpAny_bind (wpAny_standAt (wpAny_bind (wpAny_holding (thn (hs pins s2 σ H2 x y v ov iv u _ I2 r1 r2 r q2) fun _ s3 ⟨H3,I3,q3⟩=>?_))))
 exact wpAny_release ⟨σ,H3,I3,q3⟩
def om (te:TE) (g:TG):TS:=fun D σ H=>te σ H fun x H1=>g x σ H1 D.nx
theorem Fq {tg e:Expr} {te:TE} {g:TG} (he:PE X e te) (hg:PG X tg g) (hs:swapsWithSole [tg] e pos.line X.env=pure false:=by rfl) (hw:swappedStores [tg] e X.env=pure none:=by rfl)
  (h1:(assignEach [tg] X.env).map (·.2)=[assign tg X.env]:=by rfl):PS X (.Assign [tg] e pos) (om te g):=by
 intro pins s σ H D I h
 refine wpAny_Assign_stores (thn (he pins s σ H _ I h) fun v s1 ⟨x,H1,I1,r1,q1⟩=>?_) hs hw
 rw [h1]
 exact thn (hg pins s1 σ H1 x v _ I1 r1 q1) fun _ s2 q=>q
theorem Fm {i:Nat} {x:Str} {e:Expr} {te:TE} {pos':Pos} (hN:X.N.Nodup) (hi:X.N[i]?=some x) (hx:Loc X.env.scope x) (he:PE X e te) (hs:swapsWith e (some (.Name x pos')) pos.line X.env=pure false:=by rfl) (hf:X.fn x=true∨X.env.scope.names.lookup x=some .local:=by first | exact .inl rfl | exact .inr rfl | assumption) :
  PS X (.Assign [.Name x pos'] e pos) (om te (lZ i)):=by
 intro pins s σ H D I h
 refine wpAny_Assign_Name (thn (he pins s σ H _ I h) fun v s1 ⟨y,H1,I1,r1,q1⟩=>?_) hs
 exact oq I1 hN hi hx r1 (fun s2 I2=>⟨_,H1,I2,q1⟩) hf
end
section
variable {X:Cx} {pos:Pos}
def tj (c:TT) (tb:TS):TS:=fun D σ H=>∃ W:Nat→St→Hp→Prop,(∃ m,W m σ H)∧∀ m σ H,W m σ H →
 c σ H fun b H1=>if b=true then ∃ N:St→Hp→Prop,(∀ σ' H',N σ' H'→∃ m',m' < m∧W m' σ' H')∧tb { D with nx:=N,ct:=N,bk:=D.nx } σ H1 else D.nx σ H1
theorem u8 {c:Expr} {body:List Stmt} {tc:TT} {tb:TS} (hp:PassesOwn (model X.prog X.w) X.A X.env X.xe) (hc:PT X c tc) (hb:PSs X body tb):PS X (.While c body [] pos) (tj tc tb):=by
 intro pins s σ H D I h
 obtain ⟨W,⟨m0,w0⟩,turn⟩:=h
 refine wpAny_While (codeAny_whileLoop (fun n s'=>∃ σ' H',Inv X pins σ' H' s'∧W n σ' H') ?_ m0 ⟨σ,H,I,w0⟩)
 rintro n s1 ⟨σ1,H1,I1,w1⟩
 refine wpAny_passesOwn hp (thn (hc pins s1 σ1 H1 _ I1 (turn n σ1 H1 w1)) fun b s2 ⟨H2,I2,q2⟩=>?_)
 cases b with
 | true =>
  obtain ⟨N,hN,q2⟩:=q2
  rw [if_pos rfl]
  refine wpAny_passesOwn hp (thn (hb pins s2 σ1 H2 _ I2 q2) fun f s3 q3=>?_)
  cases f with
  | next =>
   obtain ⟨σ3,H3,I3,n3⟩:=q3
   obtain ⟨m',hm,w3⟩:=hN σ3 H3 n3
   exact ⟨m',hm,σ3,H3,I3,w3⟩
  | cont =>
   obtain ⟨σ3,H3,I3,n3⟩:=q3
   obtain ⟨m',hm,w3⟩:=hN σ3 H3 n3
   exact ⟨m',hm,σ3,H3,I3,w3⟩
  | brk=>exact q3
  | ret v=>exact q3
 | false =>
  rw [if_neg Bool.false_ne_true]
  exact wpAny_execs_nil ⟨σ1,H2,I2,q2⟩
end
structure It where
 go:Nat→Hp→Prop
 yld:Nat→Hp→V→Hp→Prop
 stop:Nat→Hp→Prop
def iz (X:Cx) (pins:List (Addr × Obj)) (H:Hp) (b:Addr):Prop :=
 H b=none∧b≠X.env.locals∧b ∉ X.fs∧(b∈X.ex∨X.s₀.heap.objs.size≤b)∧(∀ x c,X.env.cells.lookup x=some c→c≠b)∧∀ p∈X.pn++pins,p.1≠b
theorem Inv.fpOk {X:Cx} {pins:List (Addr × Obj)} {σ:St} {H H':Hp} {s:Shared} {b:Addr} (I:Inv X pins σ H s) (hb:s.heap.objs.size≤b) (hn:H' b=none):iz X pins H' b:=by
 refine ⟨hn,Nat.ne_of_gt (Nat.lt_of_lt_of_le I.lt hb),I.nofs hb,.inr (Nat.le_trans I.sz hb),fun x c e z=>?_,fun p hp z=>?_⟩
 ·obtain ⟨v,q⟩:=I.cell x c e
  exact absurd (Nat.lt_of_lt_of_le q.lt (by rw [z]; exact hb)) (Nat.lt_irrefl _)
 ·exact absurd (Nat.lt_of_lt_of_le (Heap.lt_size (I.pin p hp).1) (by rw [z]; exact hb)) (Nat.lt_irrefl _)
structure Turn (P:Program) (w:World) (K:PySem.W.Frag) (tg:Expr) (J:It) (fp:List Addr) (it:Addr) (tn:Nat→Heap→Prop):Prop where
 mem:it∈fp
 obj:∀ i h,tn i h→∀ b∈fp,∃ o,h.get? b=some o∧∀ v,o.data≠.cell v
 keep:∀ i h h',tn i h→(∀ b∈fp,∀ o,h.get? b=some o→h'.get? b=some o)→tn i h'
 item:∀ (X:Cx),X.prog=P→X.w=w→X.K=K→X.calm=true→∀ (i:Nat) (pins:List (Addr × Obj)) (s:Shared) (σ:St) (H:Hp) (E:Value→Shared→Prop),Inv X pins σ H s→(∀ b∈fp,iz X pins H b)→tn i s.heap→J.go i H →
  wpAny (model P w) X.A (pyNext (.ref it)) (fun r s1=>∃ u,r=some u ∧
   wpAny (model P w) X.A (letOwnedTupleGo tg (.ref it) u) (fun _ s2=>∃ x H',Inv X pins σ H' s2∧RelV x u∧J.yld i H x H'∧tn (i+1) s2.heap∧∀ b∈fp,H' b=none) E s1) E s
 done:∀ (X:Cx),X.prog=P→X.w=w→X.K=K→X.calm=true→∀ (i:Nat) (pins:List (Addr × Obj)) (s:Shared) (σ:St) (H:Hp) (E:Value→Shared→Prop),Inv X pins σ H s→(∀ b∈fp,iz X pins H b)→tn i s.heap→J.stop i H →
  wpAny (model P w) X.A (pyNext (.ref it)) (fun r s1=>r=none∧Inv X pins σ H s1) E s
 self:∀ (A:Around) (i:Nat) (s:Shared) (Q:Value→Shared→Prop) (E:Value→Shared→Prop),tn i s.heap→Q (.ref it) s→wpAny (model P w) A (pyIter (.ref it)) Q E s
abbrev TI:=St→Hp→(It→Hp→Prop)→Prop
def PIE (X:Cx) (pins:List (Addr × Obj)) (σ:St) (tg:Expr) (R:It→Hp→Prop) (itv:Value) (s2:Shared):Prop :=
 ∃ (it:Addr) (fp:List Addr) (tn:Nat→Heap→Prop) (J:It) (H':Hp),itv=.ref it∧Inv X pins σ H' s2∧Turn X.prog X.w X.K tg J fp it tn∧tn 0 s2.heap∧(∀ b∈fp,iz X pins H' b)∧R J H'
def PI (X:Cx) (tg iter:Expr) (wi:TI):Prop :=
 ∀ (pins:List (Addr × Obj)) (s:Shared) (σ:St) (H:Hp) (R:It→Hp→Prop),Inv X pins σ H s→wi σ H R →
  wpAny (model X.prog X.w) X.A (eval iter X.env) (fun v s1=>wpAny (model X.prog X.w) X.A (pyIter v) (PIE X pins σ tg R) X.xe s1) X.xe s
theorem nS {M:Model} {A:Around} {E:Value→Shared→Prop} {s:Shared} {tg:Expr} {it:Addr} {u:Value} {o:Obj} {n:String} {vs:Array Value} {Q:Unit→Shared→Prop} (ho:s.heap.get? it=some o) (hc:o.cls=.type n) (hd:o.data=.fields vs)
  (hn:["enumerate", "zip", "dict_itemiterator", "dict_reverseitemiterator", "odict_iterator", "itertools.zip_longest", "itertools.pairwise"].contains n=false) (hQ:Q () s):wpAny M A (letOwnedTupleGo tg (.ref it) u) Q E s:=by
 unfold letOwnedTupleGo
 cases tg <;> first
  | exact wpAny_pure hQ
  | (cases u <;> first
    | exact wpAny_pure hQ
    | (refine wpAny_bind (wpAny_load ho ?_)
       rw [hc,hd]
       show wpAny M A (if (["enumerate", "zip", "dict_itemiterator", "dict_reverseitemiterator", "odict_iterator", "itertools.zip_longest", "itertools.pairwise"].contains n && vs[0]? == some (rawInt _))=true then _ else _) Q E s
       rw [if_neg (by intro h; rw [hn,Bool.false_and] at h; cases h)]
       exact wpAny_pure hQ))
def Itl (K:PySem.W.Frag) (a:Addr):It :=
 ⟨fun i H=>∃ xs x,SqL K H a xs∧xs[i]?=some x,fun i H x H'=>H'=H∧∀ xs,SqL K H a xs→xs[i]?=some x,fun i H=>∃ xs,SqL K H a xs∧xs.length≤i⟩
def Itt (K:PySem.W.Frag) (a:Addr):It :=
 ⟨fun i H=>∃ xs x,SqT K H a xs∧xs[i]?=some x,fun i H x H'=>H'=H∧∀ xs,SqT K H a xs→xs[i]?=some x,fun i H=>∃ xs,SqT K H a xs∧xs.length≤i⟩
def Itr (lo:Int) (n:Nat):It:=⟨fun i _=>i < n,fun i H x H'=>H'=H∧x=.int (lo+i),fun i _=>n≤i⟩
theorem sY {P:Program} {w:World} {K:PySem.W.Frag} {tg:Expr} (a it:Addr):Turn P w K tg (Itl K a) [it] it (fun i h=>h.IsListIter it a i) where
 mem:=by simp
 obj:=fun i h st b hb=>by
  have e:b=it:=by simpa using hb
  subst e
  obtain ⟨o,e,c,d⟩:=st
  exact ⟨o,e,fun v z=>by rw [d] at z; cases z⟩
 keep:=fun i h h' st k=>st.at fun o e=>k it (by simp) o e
 item:=by
  intro X hP hw hK hc i pins s σ H E I hf st hg
  subst hP hw hK
  obtain ⟨xs,x,hq,hx⟩:=hg
  obtain ⟨its,rv,p,hz⟩:=I.list hq
  obtain ⟨u,hu,ru⟩:=rv.get hx
  obtain ⟨f0,f1,f2,f3,f4,f5⟩:=hf it (by simp)
  refine wpAny_pyNext_list_item st p.isList (x:=u) (by simpa using hu) fun h' st' sb=>?_
  have I1:Inv X pins σ H { s with heap:=h' }:=I.turned (t':=s.toks) (fun b o hb e=>(sb.2 b hb).trans e) f0 f1 f3 f4 f5
  obtain ⟨o,e,c,d⟩:=id st'
  exact ⟨u,rfl,nS (s:={ s with heap:=h' }) e c d (by decide) ⟨x,H,I1,ru,⟨rfl,fun ys hy=>by rw [I.list_inj hy hq]; exact hx⟩,st',fun b hb=>(hf b hb).1⟩⟩
 done:=by
  intro X hP hw hK hc i pins s σ H E I hf st hg
  subst hP hw hK
  obtain ⟨xs,hq,hx⟩:=hg
  obtain ⟨its,rv,p,hz⟩:=I.list hq
  obtain ⟨f0,f1,f2,f3,f4,f5⟩:=hf it (by simp)
  have hl:=rv.length
  exact wpAny_pyNext_list_end (I.ok.hd hc) st p.isList (by simp; omega) fun h' eb=>⟨rfl,I.turned (t':=s.toks) (fun b o hb e=>eb b o hb e) f0 f1 f3 f4 f5⟩
 self:=fun _ _ _ _ _ st h=>wpAny_pyIter_listiter st h
theorem rH {P:Program} {w:World} {K:PySem.W.Frag} {tg:Expr} (a it:Addr):Turn P w K tg (Itt K a) [it] it (fun i h=>h.IsTupleIter it a i) where
 mem:=by simp
 obj:=fun i h st b hb=>by
  have e:b=it:=by simpa using hb
  subst e
  obtain ⟨o,e,c,d⟩:=st
  exact ⟨o,e,fun v z=>by rw [d] at z; cases z⟩
 keep:=fun i h h' st k=>st.at fun o e=>k it (by simp) o e
 item:=by
  intro X hP hw hK hc i pins s σ H E I hf st hg
  subst hP hw hK
  obtain ⟨xs,x,hq,hx⟩:=hg
  obtain ⟨its,rv,p,hz⟩:=I.tuple hq
  obtain ⟨u,hu,ru⟩:=rv.get hx
  obtain ⟨f0,f1,f2,f3,f4,f5⟩:=hf it (by simp)
  refine wpAny_pyNext_tuple_item st (show s.heap.IsTuple a its.toArray from p) (x:=u) (by simpa using hu) fun h' st' sb=>?_
  have I1:Inv X pins σ H { s with heap:=h' }:=I.turned (t':=s.toks) (fun b o hb e=>(sb.2 b hb).trans e) f0 f1 f3 f4 f5
  obtain ⟨o,e,c,d⟩:=id st'
  exact ⟨u,rfl,nS (s:={ s with heap:=h' }) e c d (by decide) ⟨x,H,I1,ru,⟨rfl,fun ys hy=>by rw [I.tuple_inj hy hq]; exact hx⟩,st',fun b hb=>(hf b hb).1⟩⟩
 done:=by
  intro X hP hw hK hc i pins s σ H E I hf st hg
  subst hP hw hK
  obtain ⟨xs,hq,hx⟩:=hg
  obtain ⟨its,rv,p,hz⟩:=I.tuple hq
  obtain ⟨f0,f1,f2,f3,f4,f5⟩:=hf it (by simp)
  have hl:=rv.length
  exact wpAny_pyNext_tuple_end (I.ok.hd hc) st (show s.heap.IsTuple a its.toArray from p) (by simp; omega) fun h' eb=>⟨rfl,I.turned (t':=s.toks) (fun b o hb e=>eb b o hb e) f0 f1 f3 f4 f5⟩
 self:=fun _ _ _ _ _ st h=>wpAny_pyIter_tupleiter st h
theorem rJ {P:Program} {w:World} {K:PySem.W.Frag} {tg:Expr} (it:Addr) (lo:Int) (n:Nat):Turn P w K tg (Itr lo n) [it] it (fun i h=>IsRangeIter h it (lo+(i:Nat) * 1) ((n:Int) - (i:Nat)) 1) where
 mem:=by simp
 obj:=fun i h st b hb=>by
  have e:b=it:=by simpa using hb
  subst e
  exact ⟨_,st,fun v z=>by
   have z':Data.fields _=Data.cell v:=z
   cases z'⟩
 keep:=fun i h h' st k=>k it (by simp) _ st
 item:=by
  intro X hP hw hK hc i pins s σ H E I hf st hg
  subst hP hw hK
  obtain ⟨f0,f1,f2,f3,f4,f5⟩:=hf it (by simp)
  have W:=Walks.range (prog:=X.prog) (w:=X.w) (I.ok.hd hc) it lo 1 n
  refine W.item i s _ _ hg st fun v h' tk hv st' kk=>?_
  obtain ⟨t,rfl⟩:=hv
  have I1:Inv X pins σ H { s with heap:=h',toks:=tk }:=I.turned (fun b o hb e=>kk b o (by simpa using hb) e) f0 f1 f3 f4 f5
  refine ⟨_,rfl,nS (s:={ s with heap:=h',toks:=tk }) (n:="range_iterator") st' rfl rfl (by decide) ⟨.int (lo+i),H,I1,⟨t,?_⟩,⟨rfl,rfl⟩,st',fun b hb=>(hf b hb).1⟩⟩
  rw [Int.mul_one]
 done:=by
  intro X hP hw hK hc i pins s σ H E I hf st hg
  subst hP hw hK
  obtain ⟨f0,f1,f2,f3,f4,f5⟩:=hf it (by simp)
  exact wpAny_pyNext_range_end (I.ok.hd hc) st (by have:n≤i:=hg; omega) fun h' eb=>⟨rfl,I.turned (t':=s.toks) (fun b o hb e=>eb b o hb e) f0 f1 f3 f4 f5⟩
 self:=fun _ _ _ _ _ st h=>wpAny_pyIter_rangeiter st h
end L2
namespace L2
open PySem PySem.Spec PyProof.Rows
section
variable {X:Cx} {tg:Expr}
theorem u7 {pins:List (Addr × Obj)} {σ:St} {H:Hp} {s:Shared} {R:It→Hp→Prop} {E:Value→Shared→Prop} {lo hi:Int} {t u v:Tok} {tk:Nat} (I:Inv X pins σ H s) (h1:-(2 ^ 62)≤lo) (h2:lo < 2 ^ 62) (h3:-(2 ^ 62)≤hi) (h4:hi < 2 ^ 62)
  (q:R (Itr lo (hi - lo).toNat) H):wpAny (model X.prog X.w) X.A (pyIter (.ref s.heap.objs.size)) (PIE X pins σ tg R) E { s with heap:=s.heap.push { cls:=.type "range",data:=.fields #[.int lo t,.int hi u,.int 1 v] },toks:=tk }:=by
 refine wpAny_pyIter_range (IsRange.new ..) (small_one h1 h2 h3 h4) ?_
 have I1:Inv X pins σ H { s with heap:=s.heap.push { cls:=.type "range",data:=.fields #[.int lo t,.int hi u,.int 1 v] },toks:=tk }:=I.kept fun b o e=>Heap.get?_push_of_some _ e
 refine ⟨(s.heap.push { cls:=.type "range",data:=.fields #[.int lo t,.int hi u,.int 1 v] }).objs.size,[(s.heap.push { cls:=.type "range",data:=.fields #[.int lo t,.int hi u,.int 1 v] }).objs.size],_,_,H,rfl,
  I1.kept (t':=tk) fun b o e=>Heap.get?_push_of_some _ e,rJ _ lo (hi - lo).toNat,?_,fun b hb=>?_,q⟩
 ·have e1:lo+((0:Nat):Int) * 1=lo:=by simp
  have e2:(((hi - lo).toNat:Nat):Int) - ((0:Nat):Int)=Builtin.Range.rangeSize lo hi 1:=by rw [rangeSize_one]; split <;> omega
  show IsRangeIter _ _ (lo+((0:Nat):Int) * 1) ((((hi - lo).toNat:Nat):Int) - ((0:Nat):Int)) 1
  rw [e1,e2]
  exact Heap.get?_push_size _ rfl
 ·have e:b=(s.heap.push { cls:=.type "range",data:=.fields #[.int lo t,.int hi u,.int 1 v] }).objs.size:=by simpa using hb
  subst e
  exact I1.fpOk (Nat.le_refl _) (I1.hok.fresh (Nat.le_refl _))
def Hx (ta:TA):TI:=fun σ H R=>ta σ H fun vs H1=>∃ j:Int,vs=[.int j]∧-(2 ^ 62)≤j∧j < 2 ^ 62∧R (Itr 0 j.toNat) H1
theorem tI {a:Expr} {ta:TA} {p pos:Pos} (hg:Gl X "range") (hm:X.mg "range"=none) (ha:PA X [a] ta) (hs:starEach [a] X.env=[(false,eval a X.env)]:=by rfl):PI X tg (.Call (.Name "range" p) [a] [] pos) (Hx ta):=by
 intro pins s σ H R I h
 refine Call_ (lP I hg hm boot_range (PyProof.Rows.callWith_type1 (thn (ha pos pins s σ H _ I h) fun us s1 ⟨vs,H1,I1,r1,q1⟩=>?_) hs rfl))
 obtain ⟨j,e,q1,q2,q⟩:=q1
 subst e
 cases r1 with
 | cons r rr =>
  cases rr
  obtain ⟨t,rfl⟩:=r
  exact call_range_1 (u7 I1 (by omega) (by omega) q1 q2 (by simpa using q))
def EX (wi:TI) (g:TG) (tb:TS):TS:=fun D σ H=>wi σ H fun J H1=>∃ W:Nat→Nat→St→Hp→Prop,(∃ m,W 0 m σ H1)∧∀ i m σ H,W i m σ H →
 (J.stop i H∧D.nx σ H)∨(J.go i H∧∃ N:St→Hp→Prop,(∀ σ' H',N σ' H'→∃ m',m' < m∧W (i+1) m' σ' H')∧∀ x H',J.yld i H x H'→g x σ H' fun σ2 H2=>tb { D with nx:=N,ct:=N,bk:=D.nx } σ2 H2)
def jR (fp:List Addr) (h:Heap):List (Addr × Obj):=fp.filterMap fun b=>(h.get? b).map fun o=>(b,o)
theorem ge {fp:List Addr} {h:Heap} {b:Addr} {o:Obj} (hb:b∈fp) (e:h.get? b=some o):(b,o)∈jR fp h:=List.mem_filterMap.mpr ⟨b,hb,by rw [e]; rfl⟩
theorem tL {fp:List Addr} {h:Heap} {p:Addr × Obj} (hp:p∈jR fp h):p.1∈fp∧h.get? p.1=some p.2:=by
 obtain ⟨b,hb,e⟩:=List.mem_filterMap.mp hp
 cases q:h.get? b with
 | none=>rw [q] at e; cases e
 | some o =>
  rw [q] at e
  have e':(b,o)=p:=Option.some.inj e
  subst e'
  exact ⟨hb,q⟩
theorem Inv.pinned {pins:List (Addr × Obj)} {σ:St} {H:Hp} {s:Shared} {fp:List Addr} (I:Inv X pins σ H s) (hf:∀ b∈fp,iz X pins H b) (ho:∀ b∈fp,∃ o,s.heap.get? b=some o∧∀ v,o.data≠.cell v):Inv X (pins++jR fp s.heap) σ H s :=
 I.pins_of fun p hp=>(List.mem_append.mp hp).elim (fun z=>I.pin p (List.mem_append_right _ z)) fun z=>by
  obtain ⟨hb,e⟩:=tL z
  obtain ⟨f0,f1,f2,_⟩:=hf p.1 hb
  obtain ⟨o,e',d⟩:=ho p.1 hb
  rw [e] at e'; cases e'
  exact ⟨e,f0,f1,f2,d⟩
theorem Inv.unpinned {pins pl:List (Addr × Obj)} {σ:St} {H:Hp} {s:Shared} (I:Inv X (pins++pl) σ H s):Inv X pins σ H s:=I.pins_of fun p hp=>I.pin p (List.mem_append_right _ (List.mem_append_left _ hp))
theorem Fp {iter:Expr} {body:List Stmt} {wi:TI} {g:TG} {tb:TS} {pos:Pos} (hp:PassesOwn (model X.prog X.w) X.A X.env X.xe) (hc:X.calm=true) (hi:PI X tg iter wi) (hg:PG X tg g) (hb:PSs X body tb)
  (hs:∀ x,foldedSetIterable iter X.env x=pure x:=by intro _; rfl):PS X (.For tg iter body [] pos) (EX wi g tb):=by
 intro pins s σ H D I h
 refine wpAny_For (thn (hi pins s σ H _ I h) fun v s1 h1=>thn h1 fun itv s2 h2=>?_) hs
 obtain ⟨it,fp,tn,J,H2,e,I2,T,st2,f2,W,⟨m0,w0⟩,turn⟩:=h2
 subst e
 have stat:∀ {H':Hp},(∀ b∈fp,H' b=none)→∀ b∈fp,iz X pins H' b:=fun hn b hb=>⟨hn b hb,(f2 b hb).2⟩
 refine codeAny_forLoop_any (fun n s'=>∃ i σ' H',Inv X pins σ' H' s'∧tn i s'.heap∧(∀ b∈fp,H' b=none)∧W i n σ' H') ?_ m0 ⟨0,σ,H2,I2,st2,fun b hb=>(f2 b hb).1,w0⟩
 rintro n s3 ⟨i,σ3,H3,I3,st3,fr3,w3⟩
 rcases turn i n σ3 H3 w3 with ⟨stop,qn⟩ | ⟨go,N,hN,step⟩
 ·refine wpAny_passesOwn hp (thn (T.done X rfl rfl rfl hc i pins s3 σ3 H3 X.xe I3 (stat fr3) st3 stop) fun r s4 ⟨hr,I4⟩=>?_)
  subst hr
  exact wpAny_execs_nil ⟨σ3,H3,I4,qn⟩
 ·refine wpAny_passesOwn hp (thn (T.item X rfl rfl rfl hc i pins s3 σ3 H3 X.xe I3 (stat fr3) st3 go) fun r s4 ⟨u,hr,h4⟩=>?_)
  subst hr
  refine wpAny_passesOwn hp (thn h4 fun _ s5 ⟨x,H5,I5,r5,y5,st5,fr5⟩=>?_)
  have I5':=I5.pinned (stat fr5) (T.obj _ _ st5)
  refine wpAny_passesOwn hp (thn (hg _ s5 σ3 H5 x u _ I5' r5 (step x H5 y5)) fun _ s6 ⟨σ6,H6,I6,q6⟩=>?_)
  refine wpAny_passesOwn hp (thn (hb _ s6 σ6 H6 _ I6 q6) fun f s7 q7=>?_)
  have again:∀ {σ7:St} {H7:Hp},Inv X (pins++jR fp s5.heap) σ7 H7 s7→N σ7 H7→∃ m,m < n∧∃ i σ' H',Inv X pins σ' H' s7∧tn i s7.heap∧(∀ b∈fp,H' b=none)∧W i m σ' H':=fun {σ7 H7} I7 n7=>by
   obtain ⟨m',hm,w7⟩:=hN σ7 H7 n7
   refine ⟨m',hm,i+1,σ7,H7,I7.unpinned,T.keep _ _ _ st5 fun b hb o e=>(I7.pin (b,o) (List.mem_append_right _ (List.mem_append_right _ (ge hb e)))).1,fun b hb=>?_,w7⟩
   obtain ⟨o,e,d⟩:=T.obj _ _ st5 b hb
   exact (I7.pin (b,o) (List.mem_append_right _ (List.mem_append_right _ (ge hb e)))).2.1
  cases f with
  | next=>obtain ⟨σ7,H7,I7,n7⟩:=q7; exact again I7 n7
  | cont=>obtain ⟨σ7,H7,I7,n7⟩:=q7; exact again I7 n7
  | brk=>obtain ⟨σ7,H7,I7,q7⟩:=q7; exact ⟨σ7,H7,I7.unpinned,q7⟩
  | ret v=>obtain ⟨x7,σ7,H7,I7,r7,q7⟩:=q7; exact ⟨x7,σ7,H7,I7.unpinned,r7,q7⟩
end
end L2
namespace L2
open PySem PySem.Spec PyProof.Rows
abbrev R2:=V→V→Hp→VK→Prop
def OpR (X:Cx) (f:Value→Value→Sem Value) (r:R2):Prop :=
 ∀ (pins:List (Addr × Obj)) (s:Shared) (σ:St) (H:Hp) (x y:V) (v u:Value) (Q:VK),Inv X pins σ H s→RelV x v→RelV y u→r x y H Q →
  wpAny (model X.prog X.w) X.A (f v u) (EP X pins σ Q) X.xe s
def UnR (X:Cx) (f:Value→Sem Value) (r:V→Hp→VK→Prop):Prop :=
 ∀ (pins:List (Addr × Obj)) (s:Shared) (σ:St) (H:Hp) (x:V) (v:Value) (Q:VK),Inv X pins σ H s→RelV x v→r x H Q →
  wpAny (model X.prog X.w) X.A (f v) (EP X pins σ Q) X.xe s
def CallR (X:Cx) (f:Value) (r:List V→Hp→VK→Prop):Prop :=
 ∀ (pins:List (Addr × Obj)) (s:Shared) (σ:St) (H:Hp) (xs:List V) (us:List Value) (Q:VK),Inv X pins σ H s→Vals xs us→r xs H Q →
  wpAny (model X.prog X.w) X.A (call f us) (EP X pins σ Q) X.xe s
def IB (X:Cx) (r:V→Hp→(Bool→Hp→Prop)→Prop):Prop :=
 ∀ (pins:List (Addr × Obj)) (s:Shared) (σ:St) (H:Hp) (x:V) (v:Value) (Q:Bool→Hp→Prop),Inv X pins σ H s→RelV x v→r x H Q →
  wpAny (model X.prog X.w) X.A (truthy v) (TP X pins σ Q) X.xe s
def tOp (r:R2) (ta tb:TE):TE:=fun σ H Q=>ta σ H fun x H1=>tb σ H1 fun y H2=>r x y H2 Q
def tUn (r:V→Hp→VK→Prop) (ta:TE):TE:=fun σ H Q=>ta σ H fun x H1=>r x H1 Q
def rI (C:Int→Int→Prop) (g:Int→Int→V):R2:=fun x y H Q=>∃ i j,x=.int i∧y=.int j∧C i j∧Q (g i j) H
def rI0 (g:Int→Int→V):R2:=fun x y H Q=>∃ i j,x=.int i∧y=.int j∧Q (g i j) H
def rU (g:Int→V):V→Hp→VK→Prop:=fun x H Q=>∃ i,x=.int i∧Q (g i) H
section
variable {X:Cx} {a b c:Expr} {ta tb tc:TE} {pos:Pos}
theorem wc (ha:PE X a ta) (hb:PE X b tb) {pins:List (Addr × Obj)} {s:Shared} {σ:St} {H:Hp} {R:V→V→Hp→Prop} (I:Inv X pins σ H s)
  (h:ta σ H fun x H1=>tb σ H1 fun y H2=>R x y H2) {Q:Value→Shared→Prop} {f:Value→Value→Sem Value}
  (hf:∀ v u s2 x y H2,Inv X pins σ H2 s2→RelV x v→RelV y u→R x y H2→wpAny (model X.prog X.w) X.A (f v u) Q X.xe s2) :
  wpAny (model X.prog X.w) X.A (eval a X.env) (fun v s₁=>wpAny (model X.prog X.w) X.A (eval b X.env) (fun u s₂=>wpAny (model X.prog X.w) X.A (f v u) Q X.xe s₂) X.xe s₁) X.xe s:=by
 refine thn (ha pins s σ H _ I h) fun v s1 ⟨x,H1,I1,r1,q1⟩=>?_
 refine thn (hb pins s1 σ H1 _ I1 q1) fun u s2 ⟨y,H2,I2,r2,q2⟩=>?_
 exact hf v u s2 x y H2 I2 r1 r2 q2
theorem Hk {op:Operator} {r:R2} (ho:OpR X (binaryOp op) r) (ha:PE X a ta) (hb:PE X b tb):PE X (.BinOp a op b pos) (tOp r ta tb):=by
 intro pins s σ H Q I h
 exact wpAny_BinOp (wc ha hb I h fun v u s2 x y H2 I2 rx ry q=>ho pins s2 σ H2 x y v u Q I2 rx ry q)
theorem Hj {op:UnaryOp} {r:V→Hp→VK→Prop} (ho:UnR X (unaryOp op) r) (ha:PE X a ta):PE X (.UnaryOp op a pos) (tUn r ta):=by
 intro pins s σ H Q I h
 exact UnaryOp_ (thn (ha pins s σ H _ I h) fun v s1 ⟨x,H1,I1,r1,q1⟩=>ho pins s1 σ H1 x v Q I1 r1 q1)
theorem opI {f:Value→Value→Sem Value} {C:Int→Int→Prop} {g:Int→Int→Int}
  (rule:∀ (i j:Int) (t u:Tok) (s:Shared) (Q:Value→Shared→Prop) (E:Value→Shared→Prop),C i j→Q (.int (g i j) s.toks) { s with toks:=s.toks+1 }→wpAny (model X.prog X.w) X.A (f (.int i t) (.int j u)) Q E s) :
  OpR X f (rI C fun i j=>.int (g i j)):=by
 intro pins s σ H x y v u Q I rx ry h
 obtain ⟨i,j,rfl,rfl,hc,q⟩:=h
 obtain ⟨t,rfl⟩:=rx
 obtain ⟨t',rfl⟩:=ry
 exact rule i j t t' s _ _ hc ⟨.int (g i j),H,I.tok _,⟨_,rfl⟩,q⟩
theorem Fy {f:Value→Value→Sem Value} {g:Int→Int→Int}
  (rule:∀ (i j:Int) (t u:Tok) (s:Shared) (Q:Value→Shared→Prop) (E:Value→Shared→Prop),Q (.int (g i j) s.toks) { s with toks:=s.toks+1 }→wpAny (model X.prog X.w) X.A (f (.int i t) (.int j u)) Q E s) :
  OpR X f (rI0 fun i j=>.int (g i j)):=by
 intro pins s σ H x y v u Q I rx ry h
 obtain ⟨i,j,rfl,rfl,q⟩:=h
 obtain ⟨t,rfl⟩:=rx
 obtain ⟨t',rfl⟩:=ry
 exact rule i j t t' s _ _ ⟨.int (g i j),H,I.tok _,⟨_,rfl⟩,q⟩
theorem rS {f:Value→Value→Sem Value} {g:Int→Int→Bool}
  (rule:∀ (i j:Int) (t u:Tok) (s:Shared) (Q:Value→Shared→Prop) (E:Value→Shared→Prop),Q (.bool (g i j)) s→wpAny (model X.prog X.w) X.A (f (.int i t) (.int j u)) Q E s) :
  OpR X f (rI0 fun i j=>.bl (g i j)):=by
 intro pins s σ H x y v u Q I rx ry h
 obtain ⟨i,j,rfl,rfl,q⟩:=h
 obtain ⟨t,rfl⟩:=rx
 obtain ⟨t',rfl⟩:=ry
 exact rule i j t t' s _ _ ⟨.bl (g i j),H,I,rfl,q⟩
def jw (i j:Int):Prop:=0 < j∧j < 1073741824
def iA (i j:Int):Prop:=0≤j∧j≤1000000∧i.natAbs < 2 ^ 64
def CMul (i j:Int):Prop:=(-(2 ^ 64) < i∧i < 2 ^ 64)∨(-(2 ^ 64) < j∧j < 2 ^ 64)
theorem CMul.ok {i j:Int} (h:CMul i j):IntMulOk i j:=by
 rcases h with ⟨h1,h2⟩ | ⟨h1,h2⟩
 ·exact .of_left (intBits_le_64 h1 h2)
 ·exact .of_right (intBits_le_64 h1 h2)
theorem op_add:OpR X (binaryOp .Add) (rI0 fun i j=>.int (i+j)):=Fy fun _ _ _ _ _ _ _ q=>add_int q
theorem op_sub:OpR X (binaryOp .Sub) (rI0 fun i j=>.int (i - j)):=Fy fun _ _ _ _ _ _ _ q=>sub_int q
theorem op_mul:OpR X (binaryOp .Mult) (rI CMul fun i j=>.int (i * j)):=opI fun _ _ _ _ _ _ _ hc q=>mul_int q hc.ok
theorem op_fdiv:OpR X (binaryOp .FloorDiv) (rI jw fun i j=>.int (i / j)):=opI fun i j _ _ _ _ _ hc q=>by
 have h1:(0:Int) < j:=hc.1
 have h2:j < 1073741824:=hc.2
 exact floordiv_int (by omega) (by rw [Int.fdiv_eq_ediv_of_nonneg i (by omega)]; exact q) (.inl (PyProof.noPylong_small (by omega)))
theorem op_mod:OpR X (binaryOp .Mod) (rI (fun _ j=>0 < j) fun i j=>.int (i % j)):=opI fun i j _ _ _ _ _ hc q=>by
 have h1:(0:Int) < j:=hc
 exact mod_int' (by omega) (by rw [Int.fmod_eq_emod_of_nonneg i (by omega)]; exact q)
theorem op_pow:OpR X (binaryOp .Pow) (rI iA fun i j=>.int (i ^ j.toNat)):=opI fun _ _ _ _ _ _ _ hc q=>pow_int_small hc.1 hc.2.1 hc.2.2 q
theorem unI {f:Value→Sem Value} {g:Int→Int}
  (rule:∀ (i:Int) (t:Tok) (s:Shared) (Q:Value→Shared→Prop) (E:Value→Shared→Prop),Q (.int (g i) s.toks) { s with toks:=s.toks+1 }→wpAny (model X.prog X.w) X.A (f (.int i t)) Q E s) :
  UnR X f (rU fun i=>.int (g i)):=by
 intro pins s σ H x v Q I rx h
 obtain ⟨i,rfl,q⟩:=h
 obtain ⟨t,rfl⟩:=rx
 exact rule i t s _ _ ⟨.int (g i),H,I.tok _,⟨_,rfl⟩,q⟩
theorem un_neg:UnR X (unaryOp .USub) (rU fun i=>.int (-i)):=unI fun _ _ _ _ _ q=>neg_int q
end
section
variable {X:Cx} {a b c:Expr} {ta tb tc:TE} {pos:Pos}
theorem Gm {pins:List (Addr × Obj)} {σ:St} {H:Hp} {s:Shared} {Q:VK} {k k':Bool} (I:Inv X pins σ H s) (q:Q (.bl k) H) (e:k=k'):EP X pins σ Q (.bool k') s:=by
 subst e
 exact ⟨.bl k,H,I,rfl,q⟩
theorem op_lt:OpR X (compareOp .Lt) (rI0 fun i j=>.bl (decide (i < j))):=rS fun _ _ _ _ _ _ _ q=>lt_int q
theorem op_le:OpR X (compareOp .LtE) (rI0 fun i j=>.bl (decide (i≤j))):=rS fun _ _ _ _ _ _ _ q=>le_int q
theorem op_gt:OpR X (compareOp .Gt) (rI0 fun i j=>.bl (decide (j < i))):=rS fun _ _ _ _ _ _ _ q=>gt_int q
theorem op_ge:OpR X (compareOp .GtE) (rI0 fun i j=>.bl (decide (j≤i))):=rS fun _ _ _ _ _ _ _ q=>ge_int q
theorem op_notN:OpR X (compareOp .IsNot) (fun x y H Q=>y=.non∧Q (.bl (!decide (x=.non))) H):=by
 intro pins s σ H x y v u Q I rx ry h
 obtain ⟨rfl,q⟩:=h
 cases ry
 refine isnot_none_gen (Gm I q ?_)
 cases x <;> first
  | (cases rx; rfl)
  | (obtain ⟨t,rfl⟩:=rx; rfl)
theorem aL (b:Expr) {op:CmpOp} (h:op≠.In:=by decide) (h2:op≠.NotIn:=by decide):behindInMarks op b=false:=by
 have e1:(op == CmpOp.In)=false:=by cases op <;> first | rfl | exact absurd rfl h
 have e2:(op == CmpOp.NotIn)=false:=by cases op <;> first | rfl | exact absurd rfl h2
 cases b <;> simp [behindInMarks,e1,e2]
theorem BO {op:CmpOp} {r:R2} (ho:OpR X (compareOp op) r) (ha:PE X a ta) (hb:PE X b tb) (hm:behindInMarks op b=false):PE X (.Compare a [op] [b] pos) (tOp r ta tb):=by
 intro pins s σ H Q I h
 exact wpAny_Compare1 (wc ha hb I h fun v u s2 x y H2 I2 rx ry q=>ho pins s2 σ H2 x y v u Q I2 rx ry q) hm
def G9 (t:TE):TT:=fun σ H Q=>t σ H fun x H'=>∃ k,x=.bl k∧Q k H'
theorem BG {op:CmpOp} {r:R2} (ho:OpR X (compareOp op) r) (ha:PE X a ta) (hb:PE X b tb) (hm:behindInMarks op b=false):PT X (.Compare a [op] [b] pos) (G9 (tOp r ta tb)):=by
 intro pins s σ H Q I h
 refine wpAny_isTrue_Compare1 (thn (ha pins s σ H _ I h) fun v s1 ⟨x,H1,I1,r1,q1⟩=>thn (hb pins s1 σ H1 _ I1 q1) fun u s2 ⟨y,H2,I2,r2,q2⟩ =>
  thn (ho pins s2 σ H2 x y v u _ I2 r1 r2 q2) fun c s3 ⟨z,H3,I3,r3,k,e,q3⟩=>?_) hm
 subst e
 cases r3
 exact wpAny_truthy_bool ⟨H3,I3,q3⟩
def IA (K:PySem.W.Frag) (x:V) (H:Hp) (k:Bool):Prop :=
 match x with
 | .non=>k=false
 | .bl b=>k=b
 | .int i=>k=(i != 0)
 | .str y=>y.length≤sizeLine∧k=((y.length:Int) != 0)
 | .byt y=>y.size≤sizeLine∧k=((y.size:Int) != 0)
 | .ref p=>(∃ xs,SqL K H p xs∧k=!xs.isEmpty)∨(∃ xs,SqT K H p xs∧k=!xs.isEmpty)∨∃ kvs,H p=some (.dK kvs)∧k=!kvs.isEmpty
 | _=>False
theorem iJ:(sizeLine:Nat) < 2 ^ 63:=by rw [sizeLine_eq]; decide
theorem rR:OpR X (binaryOp .Add) (fun x y H Q=>∃ i j,x=.str i∧y=.str j∧i.length+j.length≤sizeLine∧Q (.str (i++j)) H):=by
 intro pins s σ H x y v u Q I rx ry h
 obtain ⟨i,j,rfl,rfl,hz,q⟩:=h
 obtain ⟨t,rfl⟩:=rx
 obtain ⟨t',rfl⟩:=ry
 exact add_str (fun t' tk=>⟨.str (i++j),H,I.tok _,⟨_,rfl⟩,q⟩) hz
theorem gZ {x:V} {us:List Value} (r:Vals [x] us):∃ u,us=[u]∧RelV x u:=by
 cases r with
 | cons r1 r2=>cases r2; exact ⟨_,rfl,r1⟩
theorem G7 {x y:V} {us:List Value} (r:Vals [x,y] us):∃ u w',us=[u,w']∧RelV x u∧RelV y w':=by
 cases r with
 | cons r1 r2 =>
  cases r2 with
  | cons r3 r4=>cases r4; exact ⟨_,_,rfl,r1,r3⟩
def G4 (K:PySem.W.Frag) (x:V) (H:Hp) (n:Nat):Prop :=
 match x with
 | .str y=>y.length≤sizeLine∧n=y.length
 | .byt y=>y.size≤sizeLine∧n=y.size
 | .ref p=>(∃ xs,SqL K H p xs∧n=xs.length)∨∃ xs,SqT K H p xs∧n=xs.length
 | _=>False
theorem v8:CallR X (.builtin "len") (fun xs H Q=>∃ x n,xs=[x]∧G4 X.K x H n∧Q (.int n) H):=by
 intro pins s σ H xs us Q I r h
 obtain ⟨x,n,rfl,e,q⟩:=h
 obtain ⟨u,rfl,rx⟩:=gZ r
 have hl:=iJ
 have hs:sizeLine=16777216:=sizeLine_eq
 cases x with
 | str y =>
  obtain ⟨t,rfl⟩:=rx
  obtain ⟨hy,e'⟩:y.length≤sizeLine∧n=y.length:=e
  subst e'
  exact len_str (by omega) ⟨.int _,H,I.tok _,⟨_,rfl⟩,q⟩
 | byt y =>
  obtain ⟨t,rfl⟩:=rx
  obtain ⟨hy,e'⟩:y.size≤sizeLine∧n=y.size:=e
  subst e'
  exact PySem.W.len_bytes (by omega) ⟨.int _,H,I.tok _,⟨_,rfl⟩,q⟩
 | ref p =>
  cases rx
  have e':(∃ xs,SqL X.K H p xs∧n=xs.length)∨∃ xs,SqT X.K H p xs∧n=xs.length:=e
  rcases e' with ⟨xs,hx,e'⟩ | ⟨xs,hx,e'⟩
  ·subst e'
   obtain ⟨its,r',pl,hz⟩:=I.list hx
   have hlen:=r'.length
   exact Calls.call_len_list pl.isList (by simp only [List.size_toArray]; omega) ⟨.int xs.length,H,I.tok _,⟨_,by simp only [List.size_toArray]; rw [hlen]⟩,q⟩
  ·subst e'
   obtain ⟨its,r',pl,hz⟩:=I.tuple hx
   have hlen:=r'.length
   exact len_tuple pl (by simp only [List.size_toArray]; omega) ⟨.int xs.length,H,I.tok _,⟨_,by simp only [List.size_toArray]; rw [hlen]⟩,q⟩
 | _=>exact (show False from e).elim
end
end L2
namespace L2
open PySem PySem.Spec PyProof.Rows
structure ObjM (h:Heap) (x dx C:Addr) (mA:Str→Option Value):Prop where
 obj:h.get? x=some (PySem.W.instObj C dx)
 ns:h.Ns1 dx mA
 ne:dx≠x
theorem tT {h:Heap} {dx:Addr} {mA:Str→Option Value} (n:h.Ns1 dx mA):∃ od,h.get? dx=some od∧∀ name,PySem.W.lookIn name od=some (mA name):=by
 obtain ⟨o,es,ep,ho,hd,hk,_,hm⟩:=n
 refine ⟨o,ho,fun name=>?_⟩
 have e:=hm name
 unfold nsFind findBy at e
 rw [← Array.find?_toList] at e
 unfold PySem.W.lookIn
 rw [hd]
 dsimp only
 split
 ·rename_i y q
  rw [q] at e
  exact congrArg some e
 ·rename_i q
  rw [q] at e
  have a:es.toList.any (·.refKey)=false:=by
   rw [List.any_eq_false]
   intro y hy
   obtain ⟨z,t,hkey⟩:=hk y (Array.mem_toList_iff.mp hy)
   simp [DictEntry.refKey,hkey]
  have a':¬ es.toList.any (·.refKey)=true:=by rw [a]; exact Bool.false_ne_true
  rw [if_neg a']
  exact congrArg some e
theorem ObjM.look {h:Heap} {x dx C:Addr} {mA:Str→Option Value} (I:ObjM h x dx C mA):∃ od,PySem.W.InstAt h x (PySem.W.instObj C dx) C (some od)∧∀ name,PySem.W.lookIn name od=some (mA name) :=
 let ⟨od,ho,hl⟩:=tT I.ns
 ⟨od,⟨I.obj,rfl,rfl,ho⟩,hl⟩
section
variable {prog:Program} {w:World} {A:Around} {E:Value→Shared→Prop} {s:Shared} {K:PySem.W.Frag} {x dx C f:Addr} {mA:Str→Option Value} {name:Str} {v:Value}
end
section
variable {P:Program} {w:World} {H H':Hp} {h h':Heap} {a C dx:Addr} {fs fs':List (Str × V)}
theorem B5 (hok:HOk P w H h) (e:H a=some (.ins C dx fs)):∃ mA,ObjM h a dx C mA∧(∀ f,RelO (fs.lookup f) (mA f))∧PySem.Within mA (fs.map (·.1))∧fs.length≤1000∧H dx=some (.own a):=by
 obtain ⟨d,z,ne,ob,mA,n,r,q⟩:=(show ObjOk P w H h a (.ins C dx fs) from hok a _ e)
 exact ⟨mA,⟨ob,n,ne⟩,r,q,z,d⟩
end
structure Cls (K:PySem.W.Frag) (C:Addr):Prop where
 pg:PySem.W.plainGet K C Str.empty=true
 hd:PySem.W.hasDictIn K C=true
 po:PySem.W.plainOver K C=true
 sa:PySem.W.findIn K (.ref C) "__setattr__"=some (some (.builtin "object.__setattr__"))
theorem Cls.get {K:PySem.W.Frag} {C:Addr} (c:Cls K C) (f:Str):PySem.W.plainGet K C f=true:=c.pg
section
variable {X:Cx} {pins:List (Addr × Obj)} {σ:St} {H:Hp} {s:Shared} {a C dx:Addr} {fs:List (Str × V)} {f:Str} {v:V} {A:Around} {E:Value→Shared→Prop}
end
section
variable {X:Cx} {o e value:Expr} {f:Str} {pos pos' tpos:Pos} {ta tv:TE}
end
section
variable {X:Cx} {pins:List (Addr × Obj)} {σ:St} {H:Hp} {s:Shared} {A:Around} {E:Value→Shared→Prop} {Q:Value→Shared→Prop} {c:Value} {b:Bool}
inductive TyOf (K:PySem.W.Frag) (H:Hp):V→Value→Prop where
 | non:TyOf K H .non (.type "NoneType")
 | bl (x:Bool):TyOf K H (.bl x) (.type "bool")
 | int (i:Int):TyOf K H (.int i) (.type "int")
 | str (x:Str):TyOf K H (.str x) (.type "str")
 | flt (x:UInt64):TyOf K H (.flt x) (.type "float")
 | lst {a:Addr} {xs:List V} (e:H a=some (.lst xs)):TyOf K H (.ref a) (.type "list")
 | frz {a:Addr} {o:Obj} {xs:List V} (e:H a=some (.frz o (.lst xs))):TyOf K H (.ref a) (.type "list")
 | tup {a:Addr} {xs:List V} (e:H a=some (.tup xs)):TyOf K H (.ref a) (.type "tuple")
 | dK {a:Addr} {kvs:List (Key × V)} (e:H a=some (.dK kvs)):TyOf K H (.ref a) (.type "dict")
 | dT {a:Addr} {kvs:List (List Key × V)} (e:H a=some (.dT kvs)):TyOf K H (.ref a) (.type "dict")
 | ins {a C dx:Addr} {fs:List (Str × V)} (e:H a=some (.ins C dx fs)) (cl:Cls K C) (ha:PySem.W.findIn K (.ref C) "__class__"=some (some (.builtin "object.__class__")))
   (hn:PySem.W.specialIn K (.builtin "object.__class__") "__get__"=some (some (.builtin "getset_descriptor.__get__"))) (htk:PySem.W.takesIn K (.builtin "object.__class__")=some true)
   (hm:PySem.W.mroIn K C (.type "object")=some true):TyOf K H (.ref a) (.ref C)
theorem ug {x:V} {u t:Value} (I:Inv X pins σ H s) (rx:RelV x u) (ty:TyOf X.K H x t) (e:PySem.W.kitOne X.K t c=some b) (h:∀ tk,Q (.bool b) { s with toks:=tk }) :
  wpAny (model X.prog X.w) A (call (.builtin "isinstance") [u,c]) Q E s:=by
 cases ty with
 | non=>cases (show u=Value.none from rx); exact PySem.W.kia_one PySem.W.kitx_none I.kIn True.intro e (fun z=>nomatch z) h
 | bl y=>cases (show u=Value.bool y from rx); exact PySem.W.kia_one PySem.W.kitx_bool I.kIn True.intro e (fun z=>nomatch z) h
 | int i=>obtain ⟨t,q⟩:=(show ∃ t,u=Value.int i t from rx); cases q; exact PySem.W.kia_one PySem.W.kitx_int I.kIn True.intro e (fun z=>nomatch z) h
 | str y=>obtain ⟨t,q⟩:=(show ∃ t,u=Value.str y t from rx); cases q; exact PySem.W.kia_one PySem.W.kitx_str I.kIn True.intro e (fun z=>nomatch z) h
 | flt y=>obtain ⟨t,q⟩:=(show ∃ t,u=Value.float y t from rx); cases q; exact PySem.W.kia_one PySem.W.kitx_float I.kIn True.intro e (fun z=>nomatch z) h
 | @lst a xs ea =>
  cases (show u=Value.ref a from rx)
  obtain ⟨_,_,n,_,h1⟩:=(show ObjOk X.prog X.w H s.heap a (.lst xs) from I.hok a _ ea)
  exact PySem.W.kia_one PySem.W.kitx_list I.kIn ⟨_,h1,rfl⟩ e (fun z=>nomatch z) h
 | @frz a ob xs ea =>
  cases (show u=Value.ref a from rx)
  obtain ⟨_,_,_,n,_,h1⟩:=(show ObjOk X.prog X.w H s.heap a (.frz ob (.lst xs)) from I.hok a _ ea)
  exact PySem.W.kia_one PySem.W.kitx_list I.kIn ⟨_,h1,rfl⟩ e (fun z=>nomatch z) h
 | @tup a xs ea =>
  cases (show u=Value.ref a from rx)
  obtain ⟨_,_,_,p⟩:=(show ObjOk X.prog X.w H s.heap a (.tup xs) from I.hok a _ ea)
  obtain ⟨o,h1,h2,_⟩:=p
  exact PySem.W.kia_one PySem.W.kitx_tuple I.kIn ⟨o,h1,h2⟩ e (fun z=>nomatch z) h
 | @dK a kvs ea =>
  cases (show u=Value.ref a from rx)
  obtain ⟨_,_,vs,_,p⟩:=(show ObjOk X.prog X.w H s.heap a (.dK kvs) from I.hok a _ ea)
  obtain ⟨o,es,ep,h1,h2,_⟩:=p
  exact PySem.W.kia_one PySem.W.kitx_dict I.kIn ⟨o,h1,h2.1⟩ e (fun z=>nomatch z) h
 | @dT a kvs ea =>
  cases (show u=Value.ref a from rx)
  obtain ⟨_,_,xs,_,o,es,ep,h1,h2,_⟩:=(show ObjOk X.prog X.w H s.heap a (.dT kvs) from I.hok a _ ea)
  exact PySem.W.kia_one PySem.W.kitx_dict I.kIn ⟨o,h1,h2.1⟩ e (fun z=>nomatch z) h
 | @ins a C dx fs ea cl ha hn htk hm =>
  cases (show u=Value.ref a from rx)
  obtain ⟨mA,O,_⟩:=B5 I.hok ea
  obtain ⟨od,J,_⟩:=O.look
  exact PySem.W.kia_one (PySem.W.kitx_own (cl.get _) cl.hd ha hn htk hm) I.kIn J e (fun z=>nomatch z) h
end
end L2
namespace L2
open PySem PySem.Spec PyProof.Rows
structure Room (k:Nat) (A:Around):Prop where
 hd:A.handled=none
 dp:A.depth+3 * k+5 < recursionLimit
 un:A.units+16 * k+200 < cLine
 gd:A.guards=some []
theorem Room.mono {j k:Nat} {A:Around} (r:Room k A) (h:j≤k):Room j A:=⟨r.hd,by have:=r.dp; omega,by have:=r.un; omega,r.gd⟩
theorem Room.deeper {k:Nat} {A:Around} (r:Room (k+1) A) (env:Env):Room k (A.deeper env) :=
 ⟨r.hd,by have:=r.dp; show A.depth+1+3 * k+5 < _; omega,by have:=r.un; show A.units+3+16 * k+200 < _; omega,r.gd⟩
theorem Room.depth {k:Nat} {A:Around} (r:Room k A):A.depth < recursionLimit:=by have:=r.dp; omega
theorem Room.units {k:Nat} {A:Around} (r:Room k A):A.units+64 < cLine:=by have:=r.un; omega
def oh:TA:=fun _ H Q=>Q [] H
def i3 (ta:TE) (tr:TA):TA:=fun σ H Q=>ta σ H fun x H1=>tr σ H1 fun xs H2=>Q (x :: xs) H2
section
variable {X:Cx} {e:Expr} {es:List Expr} {te:TE} {t:TA} {pos:Pos}
theorem pa_nil:PA X [] oh:=fun _ _ _ _ H Q I h=>Calls.spliced_nil ⟨[],H,I,.nil,h⟩
theorem b4 (ha:PE X e te) (hr:PA X es t) (hs:starEach (e :: es) X.env=(false,eval e X.env) :: starEach es X.env:=by rfl):PA X (e :: es) (i3 te t):=by
 intro pos pins s σ H Q I h
 rw [hs]
 show wpAny _ _ (spliced ((false,eval e X.env) :: backTo pos (starEach es X.env))) _ _ s
 refine Calls.spliced_cons (thn (ha pins s σ H _ I h) fun u s1 ⟨x,H1,I1,r1,q1⟩=>?_)
 exact thn (hr pos pins s1 σ H1 _ I1 q1) fun us s2 ⟨xs,H2,I2,r2,q2⟩=>⟨x :: xs,H2,I2,.cons r1 r2,q2⟩
def EQ (t:TA):TE:=fun σ H Q=>t σ H fun xs H1=>xs.length≤sizeLine∧∀ p,H1 p=none→Q (.ref p) (upd H1 p (.tup xs))
def EV (t:TA):TE:=fun σ H Q=>t σ H fun xs H1=>xs.length≤sizeLine∧∀ p,H1 p=none→Q (.ref p) (upd H1 p (.lst xs))
theorem Fu {x1} (h:PA X es t):PE X (.Tuple es x1 pos) (EQ t):=by
 intro pins s σ H Q I hq
 refine wpAny_Tuple_spliced (thn (h pos pins s σ H _ I hq) fun us s1 ⟨xs,H1,I1,r,z,q⟩=>⟨by rw [← r.length]; exact z,?_⟩)
 have hf:H1 s1.heap.objs.size=none:=I1.hok.fresh (Nat.le_refl _)
 refine ⟨.ref s1.heap.objs.size,upd H1 s1.heap.objs.size (.tup xs),I1.laid (t':=s1.toks) (fun b u e=>Heap.get?_push_of_some _ e) (Nat.le_refl _) ?_,rfl,q _ hf⟩
 exact ⟨z,us,r,⟨_,Heap.get?_push_size _ rfl,rfl,_,rfl,rfl⟩⟩
theorem Fv (h:PA X es t):PE X (.List es pos) (EV t):=by
 intro pins s σ H Q I hq
 refine wpAny_List_spliced (thn (h pos pins s σ H _ I hq) fun us s1 ⟨xs,H1,I1,r,z,q⟩=>⟨by rw [← r.length]; exact z,?_⟩)
 have hf:H1 s1.heap.objs.size=none:=I1.hok.fresh (Nat.le_refl _)
 refine ⟨.ref s1.heap.objs.size,upd H1 s1.heap.objs.size (.lst xs),I1.laid (t':=s1.toks) (fun b u e=>Heap.get?_push_of_some _ e) (Nat.le_refl _) ?_,rfl,q _ hf⟩
 exact ⟨z,us,0,r,Heap.get?_push_size _ rfl⟩
end
abbrev Sp:=List V→Hp→VK→XK→Prop
abbrev CXT:=List Env→Hp→Shared→XK→Value→Shared→Prop
structure Env0 (P:Program) (w:World) (K:PySem.W.Frag) (mg:Str→Option Value) (base:Heap) (A:Around) (outer:List Env) (s:Shared) (H:Hp):Prop where
 frames:A.frames=some outer
 mod:Mod K mg base
 bs:∀ b o,base.get? b=some o→s.heap.get? b=some o∧H b=none
 bsz:base.objs.size≤s.heap.objs.size
 funs:s.heap.FunFrames base outer
 frf:∀ b∈frs outer,H b=none
 hok:HOk P w H s.heap
 bare:AllBare s.gens
def CE (outer:List Env) (P:Program) (w:World) (H:Hp) (s:Shared) (Q:VK) (u:Value) (s':Shared):Prop :=
 ∃ v H',s'.os=s.os∧AllBare s'.gens∧Un (frs outer) [] H H' s.heap s'.heap∧HOk P w H' s'.heap∧RelV v u∧Q v H'
def CR (CX:CXT) (outer:List Env) (P:Program) (w:World) (H:Hp) (s:Shared) (Q:VK) (E:XK) (r:Result) (s':Shared):Prop :=
 match r with
 | .ok (.ret u)=>CE outer P w H s Q u s'
 | .ok _=>False
 | .error e=>CX outer H s E e s'
structure FnOk (P:Program) (w:World) (K:PySem.W.Frag) (mg:Str→Option Value) (base:Heap) (CX:CXT) (k:Nat) (f:Addr) (fd:FuncData) (ps:List Str) (sp:Sp):Prop where
 len:∀ vs H Q E,sp vs H Q E→vs.length=ps.length
 run:∀ (A:Around) (outer:List Env) (s:Shared) (H:Hp) (args:Args) (us:List Value) (vs:List V) (Q:VK) (E:XK),Room k A→Env0 P w K mg base A outer s H→BindsTo s fd args (ps.zip us)→Vals vs us→sp vs H Q E →
  codeAny (model P w) A (.call (.ref f) args) (CR CX outer P w H s Q E) s
theorem FnOk.mono {P:Program} {w:World} {K:PySem.W.Frag} {mg:Str→Option Value} {base:Heap} {CX:CXT} {j k:Nat} {f:Addr} {fd:FuncData} {ps:List Str} {sp:Sp} (F:FnOk P w K mg base CX j f fd ps sp) (h:j≤k) :
  FnOk P w K mg base CX k f fd ps sp:=⟨F.len,fun A outer s H args us vs Q E hr=>F.run A outer s H args us vs Q E (hr.mono h)⟩
theorem FnOk.imp {P:Program} {w:World} {K:PySem.W.Frag} {mg:Str→Option Value} {base:Heap} {CX:CXT} {k:Nat} {f:Addr} {fd:FuncData} {ps:List Str} {sp sp':Sp} (F:FnOk P w K mg base CX k f fd ps sp)
  (h:∀ vs H Q E,sp' vs H Q E→sp vs H Q E):FnOk P w K mg base CX k f fd ps sp' :=
 ⟨fun vs H Q E q=>F.len vs H Q E (h _ _ _ _ q),fun A outer s H args us vs Q E hr he hb hv hs=>F.run A outer s H args us vs Q E hr he hb hv (h _ _ _ _ hs)⟩
section
variable {X:Cx} {pins:List (Addr × Obj)} {σ:St} {H:Hp} {s s':Shared}
theorem Inv.env0 (I:Inv X pins σ H s):Env0 X.prog X.w X.K X.mg X.base X.A X.stack s H :=
 ⟨I.ok.frames,I.ok.mod,I.bs,Nat.le_trans I.ok.bsz I.sz,I.stack,I.stkFree,I.hok,I.bare⟩
theorem Inv.after {Q:VK} {u:Value} (I:Inv X pins σ H s) (h:CE X.stack X.prog X.w H s Q u s'):EP X pins σ Q u s':=by
 obtain ⟨v,H',os,bare,un,hok,r,q⟩:=h
 obtain ⟨hh,g,d,t,os'⟩:=s'
 obtain rfl:os'=s.os:=os
 exact ⟨v,H',I.call (h':=hh) (g':=g) (d':=d) (t':=t) (ch:=[]) un hok bare (fun b z=>absurd z (by simp)),r,q⟩
end
def rK (sp:Sp) (dvs:List V) (E:XK) (t:TA):TE:=fun σ H Q=>t σ H fun vs H1=>sp (vs++dvs) H1 Q E
def Binds (K:PySem.W.Frag) (fd:FuncData) (ps:List Str) (ds:List Value):Prop :=
 ∀ (s:Shared) (us:List Value),K.In s.heap→(us++ds).length=ps.length→BindsTo s fd ⟨us,[]⟩ (ps.zip (us++ds))
theorem Binds.all {K:PySem.W.Frag} {fd:FuncData} {ps:List Str} (h:∀ us:List Value,us.length=ps.length→bindArgs fd ⟨us,[]⟩=pure (ps.zip us)):Binds K fd ps []:=fun s us _ hl=>by
 rw [List.append_nil] at hl ⊢
 exact .of_eq (h us hl)
def pU (CX:CXT) (X:Cx) (E:XK):Prop:=∀ (pins:List (Addr × Obj)) (σ:St) (H:Hp) (s:Shared) (e:Value) (s':Shared),Inv X pins σ H s→CX X.stack H s E e s'→X.xe e s'
section
variable {X:Cx} {CX:CXT} {k:Nat} {f C:Addr} {fd:FuncData} {ps:List Str} {sp:Sp} {dvs:List V} {ds:List Value} {E:XK} {x m:Str} {p pos apos:Pos} {e o:Expr} {es:List Expr} {ta:TE} {t:TA}
theorem E5 {pins:List (Addr × Obj)} {σ:St} {H:Hp} {s:Shared} {Q:VK} {us:List Value} {vs:List V} (F:FnOk X.prog X.w X.K X.mg X.base CX k f fd ps sp) (hr:Room k X.A) (hb:Binds X.K fd ps ds) (hd:Vals dvs ds) (hx:pU CX X E)
  (I:Inv X pins σ H s) (r:Vals vs us) (h:sp (vs++dvs) H Q E):wpAny (model X.prog X.w) X.A (call (.ref f) us) (EP X pins σ Q) X.xe s:=by
 have r2:Vals (vs++dvs) (us++ds):=r.append hd
 have hl:(us++ds).length=ps.length:=by rw [← r2.length]; exact F.len _ _ _ _ h
 refine wpAny_call (codeAny_mono (F.run X.A X.stack s H ⟨us,[]⟩ (us++ds) (vs++dvs) Q E hr I.env0 (hb s us I.kIn hl) r2 h) fun r s' hq=>?_)
 cases r with
 | error e=>exact hx pins σ H s e s' I hq
 | ok fl =>
  cases fl with
  | ret u=>exact I.after hq
  | next=>exact False.elim hq
  | brk=>exact False.elim hq
  | cont=>exact False.elim hq
theorem BP (F:FnOk X.prog X.w X.K X.mg X.base CX k f fd ps sp) (hr:Room k X.A) (hg:Gl X x) (hm:X.mg x=some (.ref f)) (hk:PySem.W.keepIn X.K (.ref f)=true) (hb:Binds X.K fd ps ds) (hd:Vals dvs ds) (hx:pU CX X E)
  (ha:PA X (e :: es) t) (hdb:(x == ("__debug__" : Str))=false:=by decide) (he:starEach (e :: es) X.env=(false,eval e X.env) :: starEach es X.env:=by rfl) (hpl:(backTo pos (starEach es X.env)).any (·.1)=false:=by rfl) :
  PE X (.Call (.Name x p) (e :: es) [] pos) (rK sp dvs E t):=by
 intro pins s σ H Q I h
 refine wpAny_Call_Name_kw (iM I hg hm ?_ hdb)
 refine PySem.W.callWith_K (h₀:=X.base) I.ok.mod.kin hk (thn (ha pos pins s σ H _ I h) fun us s1 ⟨vs,H1,I1,r,q⟩=>⟨I1.kIn,?_⟩) he hpl
 exact E5 F hr hb hd hx I1 r q
end
section
variable {X:Cx} {CX:CXT} {k:Nat} {f C:Addr} {fd:FuncData} {ps ks:List Str} {sp:Sp} {E:XK} {x m:Str} {p pos apos kpos:Pos} {e o:Expr} {es:List Expr} {kws:List Keyword} {te ta:TE} {t tk:TA} {nm:Option Str}
variable {g:List Value→List Value→List Value} {gV:List V→List V→List V}
end
structure FnScope (N P:List Str) (sc:Scope):Prop where
 kind:sc.kind=.function
 co:sc.isCoroutine=false
 gen:sc.isGenerator=false
 nd:N.Nodup
 pre:N.take P.length=P
 par:∀ x∈P,sc.names.lookup x=some .local∨sc.names.lookup x=some .cell
 nofree:∀ y∈sc.names,y.2≠.free
theorem nB {kindOf:Str→Option NameKind} {x:Str}:∀ {binds:List (Str × Value)} {m:Str→Option Value},(∀ v,(x,v) ∉ binds)→bindL kindOf binds m x=m x
 | [],_,_=>rfl
 | (n,v) :: r,m,h=>by
  unfold bindL
  rw [nB fun w hw=>h w (List.mem_cons_of_mem _ hw)]
  split
  ·have:x≠n:=by rintro rfl; exact h v List.mem_cons_self
   simp [this]
  ·rfl
theorem nE {kindOf:Str→Option NameKind} {x:Str}:∀ {binds:List (Str × Value)} {m:Str→Option Value},(∀ v,(x,v) ∉ binds)→bindC kindOf binds m x=m x
 | [],_,_=>rfl
 | (n,v) :: r,m,h=>by
  unfold bindC
  rw [nE fun w hw=>h w (List.mem_cons_of_mem _ hw)]
  split
  ·rfl
  ·have:x≠n:=by rintro rfl; exact h v List.mem_cons_self
   simp [this]
theorem nC {kindOf:Str→Option NameKind} {x:Str} {v:Value}:∀ {P:List Str} {vs:List Value} {i:Nat} {m:Str→Option Value},P.Nodup→P[i]?=some x→vs[i]?=some v→kindOf x=some .local →
  bindL kindOf (P.zip vs) m x=some v
 | [],_,_,_,_,h,_,_=>by simp at h
 | _ :: _,[],_,_,_,_,h,_=>by simp at h
 | p :: P,w :: vs,0,m,nd,h1,h2,hk=>by
  simp at h1 h2; subst h1; subst h2
  show bindL kindOf ((p,w) :: P.zip vs) m p=_
  unfold bindL
  rw [nB fun v hv=>(List.nodup_cons.mp nd).1 (List.of_mem_zip hv).1,if_pos hk]
  simp
 | p :: P,w :: vs,i+1,m,nd,h1,h2,hk=>by
  show bindL kindOf ((p,w) :: P.zip vs) m x=_
  unfold bindL
  exact nC (i:=i) (List.nodup_cons.mp nd).2 (by simpa using h1) (by simpa using h2) hk
theorem nF {kindOf:Str→Option NameKind} {x:Str} {v:Value}:∀ {P:List Str} {vs:List Value} {i:Nat} {m:Str→Option Value},P.Nodup→P[i]?=some x→vs[i]?=some v→kindOf x≠some .local →
  bindC kindOf (P.zip vs) m x=some v
 | [],_,_,_,_,h,_,_=>by simp at h
 | _ :: _,[],_,_,_,_,h,_=>by simp at h
 | p :: P,w :: vs,0,m,nd,h1,h2,hk=>by
  simp at h1 h2; subst h1; subst h2
  show bindC kindOf ((p,w) :: P.zip vs) m p=_
  unfold bindC
  rw [nE fun v hv=>(List.nodup_cons.mp nd).1 (List.of_mem_zip hv).1,if_neg hk]
  simp
 | p :: P,w :: vs,i+1,m,nd,h1,h2,hk=>by
  show bindC kindOf ((p,w) :: P.zip vs) m x=_
  unfold bindC
  exact nF (i:=i) (List.nodup_cons.mp nd).2 (by simpa using h1) (by simpa using h2) hk
def cA (N:List Str) (vs:List V):St:=vs.map some++List.replicate (N.length - vs.length) none
def gP (CX:CXT) (P:Program) (w:World) (K:PySem.W.Frag) (mg:Str→Option Value) (base:Heap) (N:List Str) (qual:Str) (scope:Scope) (f:Addr) (cd:Value) (A:Around) (outer:List Env) (s:Shared) (H:Hp) (E:XK):Cx where
 prog:=P
 w:=w
 K:=K
 mg:=mg
 base:=base
 A:=A.deeper (envOfC qual scope s.heap.objs.size f cd)
 N:=N
 s₀:=s
 H₀:=H
 env:=envOfC qual scope s.heap.objs.size f cd
 outer:=outer
 stack:=envOfC qual scope s.heap.objs.size f cd :: outer
 ex:=[]
 calm:=true
 fn:=fun _=>true
 pn:=[]
 xe:=fun e s'=>wpAny (model P w) (A.deeper (envOfC qual scope s.heap.objs.size f cd)) (leaving (envOfC qual scope s.heap.objs.size f cd) e) (fun _ s''=>CX outer H s E e s'') (fun e' s''=>CX outer H s E e' s'') s'
theorem pL {sc:Scope} {n:Nat} {x:Str} (h:sc.names.lookup x=some .cell):∃ c,(cellsFrom n sc.names []).lookup x=some c:=by
 have q:=PySem.W.cellsFrom_some sc.names n [] (.inl h)
 exact Option.isSome_iff_exists.mp q
theorem ui {CX:CXT} {P:Program} {w:World} {K:PySem.W.Frag} {mg:Str→Option Value} {base:Heap} {N ps:List Str} {qual:Str} {scope:Scope} {f:Addr} {cd:Value} {A:Around} {outer:List Env} {s s1:Shared} {H:Hp} {E:XK} {us:List Value} {vs:List V}
  (S:FnScope N ps scope) (hd:A.handled=none) (e0:Env0 P w K mg base A outer s H) (hl:vs.length=ps.length) (r:Vals vs us)
  (x:InCallC s s.heap.objs.size (bindL (envOfC qual scope s.heap.objs.size f cd).kindOf (ps.zip us) fun _=>none) (cellsFrom (s.heap.objs.size+1) scope.names []) (bindC (envOfC qual scope s.heap.objs.size f cd).kindOf (ps.zip us) fun _=>none) s1) :
  Inv (gP CX P w K mg base N qual scope f cd A outer s H E) [] (cA N vs) H s1:=by
 have hpl:ps.length≤N.length:=by have:=congrArg List.length S.pre; rw [List.length_take] at this; omega
 obtain ⟨h1,tk,rfl,hk⟩:=x.done
 have noA:∀ b:Addr,b ∉ (gP CX P w K mg base N qual scope f cd A outer s H E).ex:=fun b z=>absurd (show b∈([]:List Addr) from z) (by simp)
 refine ⟨⟨e0.mod,S.kind,rfl,rfl,Nat.le_refl _,fun y z c h1 h2=>?_,fun y hy=>?_,fun y c _ h=>?_,fun _=>hd,Around.frames_deeper e0.frames,.inr ⟨rfl,rfl⟩,fun b z=>absurd z (noA b),e0.bs,e0.bsz,fun b _ _=>noA b,fun b z=>absurd z (noA b),e0.funs,e0.frf⟩,
  rfl,e0.bare,Un.kept hk,⟨_,x.toInCall.ns,fun i y v h1 h2 h3=>?_⟩,fun y c h=>⟨_,x.cell y c h⟩,e0.hok.fresh (Nat.le_refl _),fun y c h=>?_,fun p hp=>absurd (show p∈([]:List (Addr × Obj)) from hp) (by simp),e0.hok.kept hk,?_⟩
 ·exact name_of_addr x.apart (PySem.mem_of_lookup h1) (PySem.mem_of_lookup h2)
 ·have hy:scope.names.lookup y=some .cell∨scope.names.lookup y=some .free:=hy
  rcases hy with hy | hy
  ·exact pL hy
  ·exact absurd rfl (S.nofree _ (PySem.mem_of_lookup hy))
 ·exact Nat.le_of_lt (x.above y c (PySem.mem_of_lookup h))
 ·have hi:i < vs.length:=by
   unfold cA at h2
   by_cases hi:i < vs.length
   ·exact hi
   ·rw [List.getElem?_append_right (by simpa using hi)] at h2
    rw [List.getElem?_replicate] at h2
    split at h2 <;> cases h2
  have ha:vs[i]?=some v:=by
   unfold cA at h2
   rw [List.getElem?_append_left (by simpa using hi),List.getElem?_map] at h2
   cases e:vs[i]? with
   | none=>rw [e] at h2; cases h2
   | some a=>rw [e] at h2; cases h2; rfl
  obtain ⟨u,hu,rv⟩:=r.get ha
  have hp:ps[i]?=some y:=by
   rw [← S.pre,List.getElem?_take_of_lt (by omega)]; exact h1
  have ndP:ps.Nodup:=by rw [← S.pre]; exact S.nd.sublist (List.take_sublist _ _)
  refine ⟨u,rv,?_⟩
  rcases S.par y (List.mem_of_getElem? hp) with k | k
  ·exact .inl ⟨k,nC ndP hp hu k⟩
  ·obtain ⟨c,e⟩:=pL (n:=s.heap.objs.size+1) k
   refine .inr ⟨.inl k,c,e,?_⟩
   have q:=x.cell y c e
   rw [nF ndP hp hu (by show scope.names.lookup y≠_; rw [k]; decide)] at q
   exact q
 ·exact e0.hok.fresh (Nat.le_of_lt (x.above y c (PySem.mem_of_lookup h)))
 ·unfold cA
  show _=N.length
  rw [List.length_append,List.length_map,List.length_replicate]
  omega
theorem Bn {CX:CXT} {P:Program} {w:World} {K:PySem.W.Frag} {mg:Str→Option Value} {base:Heap} {k:Nat} {f:Addr} {name qual:Str} {params:Arguments} {body:List Stmt} {scope:Scope} {dV kV doc pm cdv ct oc:Value} {an od:Option Addr}
  {osl:Array (Option Value)} {N ps:List Str} {sp:Sp} (lk:K.lookup f=some ⟨oc,od,.func (PySem.W.fnOf name qual params body scope dV kV doc pm an cdv ct),osl⟩) (hcd:PySem.W.codeIn K cdv qual=true) (S:FnScope N ps scope)
  (len:∀ vs H Q E,sp vs H Q E→vs.length=ps.length)
  (hbody:∀ (A:Around) (outer:List Env) (s:Shared) (H:Hp) (vs:List V) (Q:VK) (E:XK),Room k (A.deeper (envOfC qual scope s.heap.objs.size f cdv))→sp vs H Q E →
   ∃ t,PSs (gP CX P w K mg base N qual scope f cdv A outer s H E) body t∧t { nx:=fun _ H'=>Q .non H',rt:=Q } (cA N vs) H) :
  FnOk P w K mg base CX (k+1) f (PySem.W.fnOf name qual params body scope dV kV doc pm an cdv ct) ps sp:=by
 refine ⟨len,fun A outer s H args us vs Q E hr e0 hb r hsp=>?_⟩
 have hl:=len _ _ _ _ hsp
 have KX:K.In s.heap:=e0.mod.kin.keeps fun b o e=>(e0.bs b o e).1
 have lim:s.heap.NoLimit:=e0.mod.nolimit.keeps fun b o e=>(e0.bs b o e).1
 have hkind:∀ y∈ps.zip us,scope.names.lookup y.1=some .local∨(scope.names.lookup y.1=some .cell∧((cellsFrom (s.heap.objs.size+1) scope.names []).lookup y.1).isSome=true):=fun ⟨n,v⟩ hy=>by
  rcases S.par n (List.of_mem_zip hy).1 with q | q
  ·exact .inl q
  ·exact .inr ⟨q,PySem.W.cellsFrom_some _ _ _ (.inl q)⟩
 refine codeAny_call_function hr.depth (KX _ _ lk) rfl S.co S.gen rfl (PySem.W.codeRec_of KX hcd) (hb _ _ _ _ ?_)
 refine wpAny_newFunctionEnv_cells S.kind hkind fun env he s1 x=>?_
 subst he
 refine ⟨lim.keeps x.toInCall.keep,codeAny_func ?_⟩
 obtain ⟨t,ht,hq⟩:=hbody A outer s H vs Q E (hr.deeper _) hsp
 have I:Inv (gP CX P w K mg base N qual scope f cdv A outer s H E) [] (cA N vs) H s1:=ui S hr.hd e0 hl r x
 refine wpAny_mono (ht [] s1 (cA N vs) H _ I hq) (fun fl s' hs=>?_) fun e s' hs=>hs
 have fin:∀ {σ':St} {H':Hp} {v:V} {u:Value},Inv (gP CX P w K mg base N qual scope f cdv A outer s H E) [] σ' H' s'→RelV v u→Q v H'→CE outer P w H s Q u s' :=
  fun {σ' H' v u} J rv q=>⟨v,H',J.os,J.bare,J.base,J.hok,rv,q⟩
 cases fl with
 | ret u =>
  obtain ⟨v,σ',H',J,rv,q⟩:=hs
  exact fin J rv q
 | next =>
  obtain ⟨σ',H',J,q⟩:=hs
  exact fin (v:=V.non) (u:=Value.none) J rfl q
 | brk =>
  obtain ⟨_,_,_,q⟩:=hs
  exact False.elim q
 | cont =>
  obtain ⟨_,_,_,q⟩:=hs
  exact False.elim q
end L2
namespace L2
open PySem PySem.Spec PyProof.Rows
section
variable {X:Cx} {x:Str} {p pos:Pos} {e:Expr} {es:List Expr} {t:TA} {id T:String} {r:List V→Hp→VK→Prop}
def tCB (r:List V→Hp→VK→Prop) (t:TA):TE:=fun σ H Q=>t σ H fun vs H1=>r vs H1 Q
theorem i8 (hc:CallR X (.builtin id) r) (hg:Gl X x) (hm:X.mg x=none) (hv:bootBuiltins x=some (.builtin id)) (ha:PA X (e :: es) t) (hn:x≠"__name__":=by decide) (hdb:(x == ("__debug__" : Str))=false:=by decide)
  (he:starEach (e :: es) X.env=(false,eval e X.env) :: starEach es X.env:=by rfl) (hpl:(backTo pos (starEach es X.env)).any (·.1)=false:=by rfl):PE X (.Call (.Name x p) (e :: es) [] pos) (tCB r t):=by
 intro pins s σ H Q I h
 refine wpAny_Call_Name_kw (lP I hg hm hv ?_ hn hdb)
 exact PyProof.Rows.callWith_builtin1 (thn (ha pos pins s σ H _ I h) fun us s1 ⟨vs,H1,I1,r1,q1⟩=>hc pins s1 σ H1 vs us Q I1 r1 q1) he hpl
theorem tJ (hc:CallR X (.type T) r) (hg:Gl X x) (hm:X.mg x=none) (hv:bootBuiltins x=some (.type T)) (ha:PA X (e :: es) t) (hn:x≠"__name__":=by decide) (hdb:(x == ("__debug__" : Str))=false:=by decide)
  (he:starEach (e :: es) X.env=(false,eval e X.env) :: starEach es X.env:=by rfl) (hpl:(backTo pos (starEach es X.env)).any (·.1)=false:=by rfl):PE X (.Call (.Name x p) (e :: es) [] pos) (tCB r t):=by
 intro pins s σ H Q I h
 refine wpAny_Call_Name_kw (lP I hg hm hv ?_ hn hdb)
 exact PyProof.Rows.callWith_type1 (thn (ha pos pins s σ H _ I h) fun us s1 ⟨vs,H1,I1,r1,q1⟩=>hc pins s1 σ H1 vs us Q I1 r1 q1) he hpl
end
end L2
namespace HT
open PySem PyProof.Rows
section
open PySem.SeqAt
open PySem.AutoSeq1 (wpAny_loadPart')
open PySem.MeetsSeq PySem.MeetsSeq2 PySem.MeetsSeq3
end
section
variable {prog:Program} {w:World} {A:Around} {E:Value→Shared→Prop} {s:Shared}
theorem cat_tup {t b:Addr} {vs ws:List Value} {Q:Value→Shared→Prop} (ht:IsTup s.heap t vs.toArray) (hb:IsTup s.heap b ws.toArray) (hv:vs≠[])
  (h1:ws=[]→Q (.ref t) s) (h2:ws≠[]→Q (.ref s.heap.objs.size) { s with heap:=s.heap.push { cls:=.type "tuple",data:=.seq (vs++ws).toArray } })
  (hsz:vs.length+ws.length≤sizeLine):wpAny (model prog w) A (binaryOp .Add (.ref t) (.ref b)) Q E s:=by
 obtain ⟨⟨cls,dd,data,sl⟩,ho,hc,n,hd⟩:=id ht
 obtain ⟨⟨cls2,dd2,data2,sl2⟩,ho2,hc2,n2,hd2⟩:=id hb
 simp only at hc hd hc2 hd2
 subst hc hd hc2 hd2
 have e:vs.toArray++ws.toArray=(vs++ws).toArray:=by simp
 by_cases hw:ws=[]
 ·exact concat_meets ⟨_,ho,rfl⟩ ⟨_,ho2,rfl⟩ noFill_tuple_add seq_tuple_add PySem.F.slot_tuple_add PySem.F.entry_tuple_add (PySem.F.args_tuple_add_2 _ _)
   (tuple_addW1 t b vs.toArray ws.toArray n n2 dd dd2 sl sl2 (by simpa using hv) (by simp [hw])) ⟨ho,ho2,h1 hw⟩
 ·refine concat_meets ⟨_,ho,rfl⟩ ⟨_,ho2,rfl⟩ noFill_tuple_add seq_tuple_add PySem.F.slot_tuple_add PySem.F.entry_tuple_add (PySem.F.args_tuple_add_2 _ _)
   (tuple_addW2 t b vs.toArray ws.toArray n n2 dd dd2 sl sl2 (by simpa using hv) (by simpa using hw) (by rw [List.size_toArray,List.size_toArray]; exact hsz)) ⟨ho,ho2,?_⟩
  rw [e]
  exact h2 hw
def sIx (n d:Nat):Option Int→Nat
 | none=>d
 | some v=>if v < 0 then (v+(n:Int)).toNat else min v.toNat n
theorem sIx_none (n d:Nat):sIx n d none=d:=rfl
theorem sIx_nat (n d k:Nat):sIx n d (some (k:Int))=min k n:=by
 show (if (k:Int) < 0 then ((k:Int)+(n:Int)).toNat else min (k:Int).toNat n)=min k n
 rw [if_neg (by omega),Int.toNat_natCast]
theorem ot (n d:Nat) (hd:d≤n) (o:Option Int):sIx n d o≤n:=by
 cases o with
 | none=>exact hd
 | some v =>
  show (if v < 0 then (v+(n:Int)).toNat else min v.toNat n)≤n
  by_cases hv:v < 0
  ·rw [if_pos hv]; omega
  ·rw [if_neg hv]; exact Nat.min_le_right _ _
theorem clip_eq (v:Int) (n d:Nat):(if v < 0 then max (v+(n:Int)) 0 else min v (n:Int))=((sIx n d (some v):Nat):Int):=by
 show (if v < 0 then max (v+(n:Int)) 0 else min v (n:Int))=(((if v < 0 then (v+(n:Int)).toNat else min v.toNat n):Nat):Int)
 by_cases hv:v < 0
 ·simp only [if_pos hv]; omega
 ·simp only [if_neg hv]; omega
theorem sN (lo hi:Option Int) (n:Nat):Builtin.Slice.sliceAdjust lo hi 1 (n:Int)=(((sIx n 0 lo:Nat):Int),((sIx n n hi:Nat):Int)):=by
 have h1:¬ ((1:Int) < 0):=by omega
 unfold Builtin.Slice.sliceAdjust
 simp only [h1,if_false]
 refine Prod.ext ?_ ?_
 ·cases lo with
  | none=>rfl
  | some v=>exact clip_eq v n 0
 ·cases hi with
  | none=>rfl
  | some v=>exact clip_eq v n n
theorem rO (i j:Nat):Builtin.Slice.slicePlaces (i:Int) (j:Int) 1=j - i:=by
 unfold Builtin.Slice.slicePlaces
 have h1:(1:Int) > 0:=by omega
 simp only [h1,if_true,Int.ediv_one]
 split <;> omega
theorem slicePart_ {v:Value} {o:Option Int} {Q:Option Int→Shared→Prop} (p:IsPart v o) (h:Q o s):wpAny (model prog w) A (Builtin.Slice.slicePartIndex v) Q E s:=by
 cases p with
 | none=>exact slicePart_none h
 | int i t=>exact slicePart_int h
theorem lj {sl:Addr} {vl vu:Value} {lo hi:Option Int} {n:Nat} {Q:Int × Int × Nat→Shared→Prop} (hs:s.heap.IsSliceOf sl vl vu .none) (pl:IsPart vl lo) (pu:IsPart vu hi)
  (h:Q (((sIx n 0 lo:Nat):Int),1,sIx n n hi - sIx n 0 lo) s):wpAny (model prog w) A (Builtin.Slice.sliceApplied (.ref sl) (pure (n:Int))) Q E s:=by
 obtain ⟨os,hos,hcs,hds⟩:=id hs
 unfold Builtin.Slice.sliceApplied Builtin.Slice.sliceFields
 refine wpAny_bind (wpAny_bind (wpAny_field hos hds (x:=vl) rfl (wpAny_bind (wpAny_field hos hds (x:=vu) rfl (wpAny_bind (wpAny_field hos hds (x:=.none) rfl (wpAny_pure ?_)))))))
 refine wpAny_bind (slicePart_none ?_)
 show wpAny _ _ (if ((1:Int) == 0)=true then _ else _) _ _ s
 rw [if_neg (by decide)]
 refine wpAny_bind (slicePart_ pl (wpAny_bind (slicePart_ pu (wpAny_bind (wpAny_pure ?_)))))
 show wpAny _ _ (match Builtin.Slice.sliceAdjust lo hi 1 (n:Int) with | (lo,hi)=>pure (lo,(1:Int),Builtin.Slice.slicePlaces lo hi 1)) _ _ s
 rw [sN lo hi n]
 show wpAny _ _ (pure (((sIx n 0 lo:Nat):Int),(1:Int),Builtin.Slice.slicePlaces ((sIx n 0 lo:Nat):Int) ((sIx n n hi:Nat):Int) 1)) _ _ s
 rw [rO]
 exact wpAny_pure h
theorem va (xs:Array Value) (i k:Nat):((List.range k).filterMap fun (m:Nat)=>xs[((i:Int)+(m:Int) * 1).toNat]?).toArray=((xs.toList.drop i).take k).toArray:=by
 have e:(fun (m:Nat)=>xs[((i:Int)+(m:Int) * 1).toNat]?)=fun m=>xs[i+m]?:=by
  funext m
  have:((i:Int)+(m:Int) * 1).toNat=i+m:=by omega
  rw [this]
 rw [e]
 have:=pick_run xs i k
 rw [List.filterMap_map] at this
 have e2:((fun x=>xs[x]?) ∘ fun x=>i+x)=fun m=>xs[i+m]?:=rfl
 rw [e2] at this
 rw [this]
theorem getItem_tuple_cut {t sl:Addr} {items:Array Value} {vl vu:Value} {lo hi:Option Int} {Q:Value→Shared→Prop} (ht:IsTup s.heap t items) (hs:s.heap.IsSliceOf sl vl vu .none) (pl:IsPart vl lo) (pu:IsPart vu hi)
  (hw:¬ (sIx items.size 0 lo=0∧sIx items.size items.size hi=items.size))
  (h:Q (.ref s.heap.objs.size) { s with heap:=s.heap.push { cls:=.type "tuple",data:=.seq ((items.toList.drop (sIx items.size 0 lo)).take (sIx items.size items.size hi - sIx items.size 0 lo)).toArray } })
  (hsz:items.size≤sizeLine):wpAny (model prog w) A (getItem (.ref t) (.ref sl)) Q E s:=by
 have htake:sizeOk (.seq ((items.toList.drop (sIx items.size 0 lo)).take (sIx items.size items.size hi - sIx items.size 0 lo)).toArray):=by
  show ((items.toList.drop (sIx items.size 0 lo)).take (sIx items.size items.size hi - sIx items.size 0 lo)).toArray.size≤sizeLine
  rw [List.size_toArray,List.length_take,List.length_drop,Array.length_toList]
  omega
 have hj:sIx items.size items.size hi≤items.size:=ot _ _ (Nat.le_refl _) hi
 obtain ⟨os,hos,hcs,hds⟩:=id hs
 have hTs:s.TypeIs (.ref sl) "slice":=⟨os,hos,hcs⟩
 unfold getItem
 try with_reducible refine wpAny_holding ?_
 first | refine wpAny_bind (wpAny_pure ?_) | skip
 refine wpAny_bind (wpAny_sequenceKey ht.typeIs (by decide) ?_)
 refine wpAny_bind (wpAny_callSpecial?_slot (name:=Str.ofString "__getitem__") ht.typeIs PyProof.Rows.slot_tuple_getitem
  (wpAny_call_entry PyProof.Rows.slot_tuple_getitem ht.typeIs entry_tuple_getitem ?_ (args_tuple_getitem _ _)))
 show wpAny _ _ (Builtin.Tuple.tupleItemsOf (.ref t) >>= _) _ _ s
 refine wpAny_bind (tupleItemsOf_ ht ?_)
 refine wpAny_bind (wpAny_typeOf hTs ?_)
 rw [if_pos (by decide)]
 refine wpAny_bind (lj hs pl pu ?_)
 have hno:¬ ((((sIx items.size 0 lo:Nat):Int) == 0 && (1:Int) == 1 && (sIx items.size items.size hi - sIx items.size 0 lo) == items.size)=true):=by
  intro q
  rw [Bool.and_eq_true,Bool.and_eq_true] at q
  have q1:((sIx items.size 0 lo:Nat):Int)=0:=eq_of_beq q.1.1
  have q2:sIx items.size items.size hi - sIx items.size 0 lo=items.size:=eq_of_beq q.2
  exact hw ⟨by omega,by omega⟩
 show wpAny _ _ (if (((sIx items.size 0 lo:Nat):Int) == 0 && (1:Int) == 1 && (sIx items.size items.size hi - sIx items.size 0 lo) == items.size)=true then _ else _) _ _ s
 rw [if_neg hno,va]
 first
  | exact wpAny_bind (m:=Builtin.Tuple.tupleExact _) (wpAny_newObj_type (wpAny_pure ⟨_,rfl,wpAny_pure h⟩) htake)
  | exact wpAny_bind (m:=Builtin.Tuple.tupleExact _) (wpAny_newObj_type (wpAny_bind (wpAny_pure (wpAny_pure ⟨_,rfl,wpAny_pure h⟩))) htake)
  | exact wpAny_bind (wpAny_bind (m:=Builtin.Tuple.tupleExact _) (wpAny_newObj_type (wpAny_pure (wpAny_pure ⟨_,rfl,wpAny_pure h⟩)) htake))
  | exact wpAny_bind (wpAny_bind (m:=Builtin.Tuple.tupleExact _) (wpAny_newObj_type (wpAny_pure ⟨_,rfl,wpAny_pure h⟩) htake))
end
end HT
namespace L2
open PySem PySem.Spec PyProof.Rows
abbrev TO:=St→Hp→(Option Int→Hp→Prop)→Prop
def PO (X:Cx) (e:Option Expr) (t:TO):Prop :=
 ∀ (pins:List (Addr × Obj)) (s:Shared) (σ:St) (H:Hp) (Q:Option Int→Hp→Prop),Inv X pins σ H s→t σ H Q →
  wpAny (model X.prog X.w) X.A (evalPart e X.env) (fun u s'=>∃ o H',Inv X pins σ H' s'∧IsPart u o∧Q o H') X.xe s
def BC:TO:=fun _ H Q=>Q none H
def Hb (t:TE):TO:=fun σ H Q=>t σ H fun x H1=>∃ i,x=.int i∧Q (some i) H1
theorem sx {ns:List Int}:∀ {us:List Value},Vals (ns.map V.int) us→IntsAre us ns:=by
 induction ns with
 | nil=>intro us r; rw [List.map_nil] at r; cases r; exact .nil
 | cons n ns ih =>
  intro us r
  rw [List.map_cons] at r
  cases r with
  | cons r1 r2 =>
   obtain ⟨t,e⟩:=r1
   subst e
   exact .cons n t (ih r2)
section
variable {X:Cx} {e:Expr} {te:TE} {lo hi:Option Expr} {tl th:TO} {pos p2:Pos}
theorem po_none:PO X none BC:=by
 intro pins s σ H Q I h
 rw [evalPart_none]
 exact wpAny_pure ⟨none,H,I,.none,h⟩
theorem BK (h:PE X e te):PO X (some e) (Hb te):=by
 intro pins s σ H Q I hw
 rw [evalPart_some]
 refine thn (h pins s σ H _ I hw) fun u s1 ⟨x,H1,I1,r1,q1⟩=>?_
 obtain ⟨i,rfl,q⟩:=q1
 obtain ⟨t,rfl⟩:=r1
 exact ⟨some i,H1,I1,.int i t,q⟩
def SlR (X:Cx) (r:V→Option Int→Option Int→Hp→VK→Prop):Prop :=
 ∀ (pins:List (Addr × Obj)) (s:Shared) (σ:St) (H:Hp) (x:V) (v vl vu:Value) (lo hi:Option Int) (sl:Addr) (Q:VK),Inv X pins σ H s→RelV x v→s.heap.IsSliceOf sl vl vu .none→IsPart vl lo→IsPart vu hi→r x lo hi H Q →
  ∃ T id,typeLookup (.type T) "__getitem__"=pure (some (.builtin id))∧s.TypeIs v T∧wpAny (model X.prog X.w) X.A (getItem v (.ref sl)) (EP X pins σ Q) X.xe s
def tSl (r:V→Option Int→Option Int→Hp→VK→Prop) (te:TE) (tl th:TO):TE:=fun σ H Q=>te σ H fun x H1=>tl σ H1 fun l H2=>th σ H2 fun u H3=>r x l u H3 Q
theorem vb {r:V→Option Int→Option Int→Hp→VK→Prop} (hr:SlR X r) (he:PE X e te) (hl:PO X lo tl) (hu:PO X hi th):PE X (.Subscript e (.Slice lo hi none p2) pos) (tSl r te tl th):=by
 intro pins s σ H Q I h
 refine Subscript_ (thn (he pins s σ H _ I h) fun v s1 ⟨x,H1,I1,r1,q1⟩=>?_)
 refine wpAny_Slice (thn (hl pins s1 σ H1 _ I1 q1) fun vl s2 ⟨l,H2,I2,pl,q2⟩=>thn (hu pins s2 σ H2 _ I2 q2) fun vu s3 ⟨u,H3,I3,pu,q3⟩=>?_)
 rw [evalPart_none]
 refine wpAny_pure ?_
 have I4:Inv X pins σ H3 { s3 with heap:=s3.heap.push { cls:=.type "slice",data:=.fields #[vl,vu,.none] } }:=I3.kept (t':=s3.toks) fun b ob q=>Heap.get?_push_of_some _ q
 obtain ⟨T,id,hT,ht,hg⟩:=hr pins { s3 with heap:=s3.heap.push { cls:=.type "slice",data:=.fields #[vl,vu,.none] } } σ H3 x v vl vu l u s3.heap.objs.size Q I4 r1 (Heap.IsSliceOf.new ..) pl pu q3
 show wpAny (model X.prog X.w) X.A (subscriptTail e (.Slice lo hi none p2) v (.ref s3.heap.objs.size)) (EP X pins σ Q) X.xe { s3 with heap:=s3.heap.push { cls:=.type "slice",data:=.fields #[vl,vu,.none] } }
 exact tail_any (ops:=[.ref s3.heap.objs.size,v]) ht hT hg (by with_unfolding_all rfl)
def fS (xs:List V) (lo hi:Option Int):List V:=(xs.drop (HT.sIx xs.length 0 lo)).take (HT.sIx xs.length xs.length hi - HT.sIx xs.length 0 lo)
theorem kZ (xs:List V) (lo hi:Option Int):(fS xs lo hi).length≤xs.length:=by
 unfold fS
 rw [List.length_take,List.length_drop]
 omega
def E8 (K:PySem.W.Frag):V→Option Int→Option Int→Hp→VK→Prop:=fun x lo hi H Q=>∃ a xs,x=.ref a∧SqT K H a xs ∧
 ¬ (HT.sIx xs.length 0 lo=0∧HT.sIx xs.length xs.length hi=xs.length)∧∀ p,H p=none→Q (.ref p) (upd H p (.tup (fS xs lo hi)))
theorem E4:SlR X (E8 X.K):=by
 intro pins s σ H x v vl vu lo hi sl Q I rx hs pl pu h
 obtain ⟨a,xs,rfl,hx,hw,q⟩:=h
 cases rx
 obtain ⟨its,r,ht,hz⟩:=I.tuple hx
 have hlen:its.toArray.size=xs.length:=by rw [List.size_toArray]; exact r.length.symm
 refine ⟨"tuple",_,PyProof.Rows.slot_tuple_getitem.lookup,ht.typeIs,?_⟩
 refine HT.getItem_tuple_cut ht hs pl pu (by rw [hlen]; exact hw) ?_ (by rw [hlen]; exact hz)
 rw [hlen]
 refine ⟨.ref s.heap.objs.size,_,I.laid (t':=s.toks) (o:=.tup (fS xs lo hi)) (fun b ob q=>Heap.get?_push_of_some _ q) (Nat.le_refl _) ?_,rfl,q _ (I.hok.fresh (Nat.le_refl _))⟩
 exact ⟨Nat.le_trans (kZ xs lo hi) hz,_,(r.drop (HT.sIx xs.length 0 lo)).take (HT.sIx xs.length xs.length hi - HT.sIx xs.length 0 lo),IsTupN.new _ _⟩
def A5 (K:PySem.W.Frag):R2:=fun x y H Q=>∃ a b xs ys,x=.ref a∧y=.ref b∧SqT K H a xs∧SqT K H b ys∧xs≠[]∧xs.length+ys.length≤sizeLine ∧
 (ys=[]→Q (.ref a) H)∧(ys≠[]→∀ p,H p=none→Q (.ref p) (upd H p (.tup (xs++ys))))
theorem Vals.nil_iff {xs:List V} {us:List Value} (r:Vals xs us):us=[]↔xs=[]:=by
 cases r with
 | nil=>simp
 | cons _ _=>simp
theorem BQ:OpR X (binaryOp .Add) (A5 X.K):=by
 intro pins s σ H x y v u Q I rx ry h
 obtain ⟨a,b,xs,ys,rfl,rfl,ha,hb,hx,hz,q1,q2⟩:=h
 cases rx
 cases ry
 obtain ⟨its,r1,p1,_⟩:=I.tuple ha
 obtain ⟨its2,r2,p2,_⟩:=I.tuple hb
 refine HT.cat_tup p1 p2 (fun z=>hx (r1.nil_iff.mp z)) (fun z=>⟨.ref a,H,I,rfl,q1 (r2.nil_iff.mp z)⟩) (fun z=>?_) (by rw [← r1.length,← r2.length]; exact hz)
 refine ⟨.ref s.heap.objs.size,_,I.laid (t':=s.toks) (o:=.tup (xs++ys)) (fun b ob q=>Heap.get?_push_of_some _ q) (Nat.le_refl _) ?_,rfl,q2 (fun w=>z (r2.nil_iff.mpr w)) _ (I.hok.fresh (Nat.le_refl _))⟩
 exact ⟨by rw [List.length_append]; exact hz,_,r1.append r2,IsTupN.new _ _⟩
end
end L2
namespace L2
open PySem PySem.Spec PyProof.Rows
def ixN (n:Nat) (i:Int):Option Nat:=if 0≤i then (if i < n then some i.toNat else none) else if -(n:Int)≤i then some (i+n).toNat else none
def atI {α:Type} (xs:List α) (i:Int):Option α:=(ixN xs.length i).bind fun j=>xs[j]?
theorem re {n:Nat} {i:Int} {j:Nat} (h:ixN n i=some j):seqIndex? i n=some j∧j < n∧-(n:Int)≤i∧i < n:=by
 unfold ixN at h
 by_cases h0:0≤i
 ·rw [if_pos h0] at h
  by_cases h1:i < n
  ·rw [if_pos h1] at h
   have e:i.toNat=j:=Option.some.inj h
   exact ⟨by rw [seqIndex_of h0 h1,e],by omega,by omega,h1⟩
  ·rw [if_neg h1] at h; cases h
 ·rw [if_neg h0] at h
  by_cases h1:-(n:Int)≤i
  ·rw [if_pos h1] at h
   have e:(i+n).toNat=j:=Option.some.inj h
   exact ⟨by rw [seqIndex_neg (by omega) h1,e],by omega,h1,by omega⟩
  ·rw [if_neg h1] at h; cases h
theorem mZ {α:Type} {xs:List α} {i:Int} {v:α} (h:atI xs i=some v):∃ j,seqIndex? i xs.length=some j∧xs[j]?=some v∧j < xs.length∧-(xs.length:Int)≤i∧i < xs.length:=by
 unfold atI at h
 cases e:ixN xs.length i with
 | none=>rw [e] at h; cases h
 | some j =>
  rw [e] at h
  obtain ⟨h1,h2,h3,h4⟩:=re e
  exact ⟨j,h1,h,h2,h3,h4⟩
def fq (b:Expr):Prop:=∀ o i,subscripted b false o i=operate [o,i] (getItem o i)
def IxR (X:Cx) (r:R2):Prop :=
 ∀ (value slice:Expr) (pins:List (Addr × Obj)) (s:Shared) (σ:St) (H:Hp) (x y:V) (v u:Value) (Q:VK),Inv X pins σ H s→RelV x v→RelV y u→r x y H Q →
  subscripted slice false v u=operate [v,u] (getItem v u)→wpAny (model X.prog X.w) X.A (subscriptTail value slice v u) (EP X pins σ Q) X.xe s
def MtR (X:Cx) (id:String) (r:V→List V→Hp→VK→Prop):Prop :=
 ∀ (pins:List (Addr × Obj)) (s:Shared) (σ:St) (H:Hp) (x:V) (xs:List V) (v:Value) (us:List Value) (Q:VK),Inv X pins σ H s→RelV x v→Vals xs us→r x xs H Q →
  wpAny (model X.prog X.w) X.A (call (.builtin id) (v :: us)) (EP X pins σ Q) X.xe s
section
variable {X:Cx} {a b:Expr} {ta tb:TE} {pos:Pos}
theorem IxR.or {r r':R2} (h:IxR X r) (h':IxR X r'):IxR X (fun x y H Q=>r x y H Q∨r' x y H Q):=by
 intro value slice pins s σ H x y v u Q I rx ry q hs
 rcases q with q | q
 ·exact h value slice pins s σ H x y v u Q I rx ry q hs
 ·exact h' value slice pins s σ H x y v u Q I rx ry q hs
theorem rP {r:R2} (hr:IxR X r) (ha:PE X a ta) (hb:PE X b tb) (hs:fq b):PE X (.Subscript a b pos) (tOp r ta tb):=by
 intro pins s σ H Q I h
 exact Subscript_ (wc ha hb I h fun v u s2 x y H2 I2 rx ry q=>hr a b pins s2 σ H2 x y v u Q I2 rx ry q (hs _ _))
def rN (K:PySem.W.Frag):R2:=fun x y H Q=>∃ p xs i v,x=.ref p∧y=.int i∧SqL K H p xs∧atI xs i=some v∧Q v H
def Fb (K:PySem.W.Frag):R2:=fun x y H Q=>∃ p xs i v,x=.ref p∧y=.int i∧SqT K H p xs∧atI xs i=some v∧Q v H
def Fc:R2:=fun x y H Q=>∃ z i c,x=.str z∧y=.int i∧z.length≤sizeLine∧atI z.cps.toList i=some c∧Q (.str ⟨#[c]⟩) H
theorem ix_list:IxR X (rN X.K):=by
 intro value slice pins s σ H x y v u Q I rx ry h hs
 obtain ⟨p,xs,i,z,rfl,rfl,hq,he,q⟩:=h
 cases rx
 obtain ⟨t,rfl⟩:=ry
 obtain ⟨its,r,pl,hz⟩:=I.list hq
 obtain ⟨j,h1,h2,h3,h4,h5⟩:=mZ he
 obtain ⟨w,ew,rw'⟩:=r.get h2
 have hl:=r.length
 have hn:=iJ
 have fin:EP X pins σ Q w s:=⟨z,H,I,rw',q⟩
 by_cases h0:0≤i
 ·have hj:i.toNat=j:=by
   rw [seqIndex_of h0 h5] at h1
   exact Option.some.inj h1
  exact item_listR pl.isList h0 (by omega) (by rw [hj]; simpa using ew) fin hs
 ·have hj:(i+(its.toArray.size:Int)).toNat=j:=by
   rw [seqIndex_neg (by omega) h4] at h1
   rw [List.size_toArray,← hl]
   exact Option.some.inj h1
  exact subscriptTail_builtinR (x:=w) pl.isList.typeIs slot_list_getitem.lookup
   (wpAny_getItem_list_neg (Q:=fun r s'=>r=w∧EP X pins σ Q r s') pl.isList (by omega) (by rw [List.size_toArray] <;> omega) (by omega) (by rw [hj]; simpa using ew) ⟨rfl,fin⟩) hs
theorem ix_tup:IxR X (Fb X.K):=by
 intro value slice pins s σ H x y v u Q I rx ry h hs
 obtain ⟨p,xs,i,z,rfl,rfl,hq,he,q⟩:=h
 cases rx
 obtain ⟨t,rfl⟩:=ry
 obtain ⟨its,r,pl,hz⟩:=I.tuple hq
 obtain ⟨j,h1,h2,h3,h4,h5⟩:=mZ he
 obtain ⟨w,ew,rw'⟩:=r.get h2
 have hl:=r.length
 have hn:=iJ
 have fin:EP X pins σ Q w s:=⟨z,H,I,rw',q⟩
 exact subscriptTail_builtinR (x:=w) pl.typeIs slot_tuple_getitem.lookup
  (getItem_tuple (j:=j) (Q:=fun r s'=>r=w∧EP X pins σ Q r s') pl (by omega) (by omega) (by rw [List.size_toArray,← hl]; exact h1) (by simpa using ew) ⟨rfl,fin⟩) hs
theorem ix_str:IxR X Fc:=by
 intro value slice pins s σ H x y v u Q I rx ry h hs
 obtain ⟨z,i,c,rfl,rfl,hz,he,q⟩:=h
 obtain ⟨t,rfl⟩:=rx
 obtain ⟨t',rfl⟩:=ry
 obtain ⟨j,h1,h2,h3,h4,h5⟩:=mZ he
 have hl:z.cps.toList.length=z.length:=by simp [Str.length]
 rw [hl] at h1 h4 h5
 have hn:=iJ
 exact tail_any (typeIs_str s z t) slot_str_getitem.lookup (getItem_str (c:=c) (by
  have e1:decide (i < -(2 ^ 63:Int))=false:=decide_eq_false (by omega)
  have e2:decide (i ≥ 2 ^ 63)=false:=decide_eq_false (by omega)
  rw [e1,e2,Bool.or_false]) (by rw [h1]; simpa using h2) ⟨.str ⟨#[c]⟩,H,I.tok _,⟨_,rfl⟩,q⟩) hs
def rIx (K:PySem.W.Frag):R2:=fun x y H Q=>rN K x y H Q∨Fb K x y H Q∨Fc x y H Q
theorem ix_seq:IxR X (rIx X.K):=ix_list.or (ix_tup.or ix_str)
theorem sd (its:List Value) (n j:Nat) (u:Value):Obj.mapSeq (·.setIfInBounds j u) { cls:=.type "list",data:=.seq its.toArray n }={ cls:=.type "list",data:=.seq (its.set j u).toArray n }:=by
 simp [Obj.mapSeq]
theorem Inv.lst {pins:List (Addr × Obj)} {σ:St} {H:Hp} {s:Shared} {p:Addr} {xs:List V} (I:Inv X pins σ H s) (h:H p=some (.lst xs)) :
  ∃ (its:List Value) (n:Nat),Vals xs its∧s.heap.get? p=some { cls:=.type "list",data:=.seq its.toArray n }∧xs.length≤sizeLine:=by
 obtain ⟨z,its,n,r,e⟩:=I.hok p _ h
 exact ⟨its,n,r,e,z⟩
theorem Inv.lstUpd {pins:List (Addr × Obj)} {σ:St} {H:Hp} {s:Shared} {p:Addr} {xs ys:List V} {its its':List Value} {n n':Nat} {f:Obj→Obj} (I:Inv X pins σ H s) (h:H p=some (.lst xs))
  (ho:s.heap.get? p=some { cls:=.type "list",data:=.seq its.toArray n }) (hf:f { cls:=.type "list",data:=.seq its.toArray n }={ cls:=.type "list",data:=.seq its'.toArray n' }) (r:Vals ys its') (hz:ys.length≤sizeLine) (t:Nat) :
  Inv X pins σ (upd H p (.lst ys)) { s with heap:=s.heap.update p f,toks:=t }:=by
 have e:(s.heap.update p f).get? p=some { cls:=.type "list",data:=.seq its'.toArray n' }:=by
  rw [Heap.get?_update_self f ho (by rw [hf] <;> rfl),hf]
 refine I.write (x:=p) (e:=p) (by rw [h]; trivial) (.inl rfl) (fun b u hb q=>(Heap.get?_update_other _ _ (Ne.symm hb)).trans q) ⟨_,e⟩ ?_
 exact ⟨hz,its',n',r,e⟩
def A3:V→V→V→Hp→(Hp→Prop)→Prop:=fun o i v H Q=>∃ p xs k j,o=.ref p∧i=.int k∧H p=some (.lst xs)∧ixN xs.length k=some j∧Q (upd H p (.lst (xs.set j v)))
theorem u5:GZ X A3:=by
 intro pins s σ H o i v ov iv u Q I ro ri rv h
 obtain ⟨p,xs,k,j,rfl,rfl,hp,hj,q⟩:=h
 cases ro
 obtain ⟨t,rfl⟩:=ri
 obtain ⟨its,n,r,ho,hz⟩:=I.lst hp
 obtain ⟨h1,h2,h3,h4⟩:=re hj
 have hl:=r.length
 have hn:=iJ
 have I':Inv X pins σ (upd H p (.lst (xs.set j v))) { s with heap:=s.heap.update p (Obj.mapSeq (·.setIfInBounds j u)) } :=
  I.lstUpd hp ho (sd its n j u) (r.set rv j) (by rw [List.length_set]; exact hz) s.toks
 by_cases h0:0≤k
 ·have hk:k.toNat=j:=by
   rw [seqIndex_of h0 h4] at h1
   exact Option.some.inj h1
  exact PySem.W.ki_setAt ho h0 (by omega) (by rw [List.size_toArray,← hl]; exact h4) (by rw [hk]; exact ⟨_,I',q⟩)
 ·have hk:(k+(its.toArray.size:Int)).toNat=j:=by
   rw [seqIndex_neg (by omega) h3] at h1
   rw [List.size_toArray,← hl]
   exact Option.some.inj h1
  exact PySem.W.ki_setBack ho (by omega) (by rw [List.size_toArray,← hl]; exact h3) (by omega) (by rw [hk]; exact ⟨_,I',q⟩)
theorem jP (lo hi:Option Int) (n:Nat):(sliceBounds lo hi none n).1=((HT.sIx n 0 lo:Nat):Int)∧(sliceBounds lo hi none n).2.1=((HT.sIx n n hi:Nat):Int)∧(sliceBounds lo hi none n).2.2=1:=by
 refine ⟨?_,?_,rfl⟩
 ·cases lo with
  | none=>simp [sliceBounds,HT.sIx]
  | some i =>
   simp only [sliceBounds,HT.sIx,Option.getD_none,show (1:Int) > 0 by decide,if_true]
   by_cases h:i < 0
   ·simp only [h,if_true] <;> omega
   ·simp only [h,if_false] <;> omega
 ·cases hi with
  | none=>simp [sliceBounds,HT.sIx]
  | some i =>
   simp only [sliceBounds,HT.sIx,Option.getD_none,show (1:Int) > 0 by decide,if_true]
   by_cases h:i < 0
   ·simp only [h,if_true] <;> omega
   ·simp only [h,if_false] <;> omega
theorem nL (its:List Value) (lo hi:Option Int):slicePick its.toArray lo hi none=((its.drop (HT.sIx its.length 0 lo)).take (HT.sIx its.length its.length hi - HT.sIx its.length 0 lo)).toArray:=by
 obtain ⟨h1,h2,h3⟩:=jP lo hi its.toArray.size
 unfold slicePick
 rw [h1,h2,h3]
 simp only [sliceRange_one,pick_run,List.size_toArray] <;> rfl
def E9 (K:PySem.W.Frag):V→Option Int→Option Int→Hp→VK→Prop:=fun x lo hi H Q=>∃ a xs,x=.ref a∧SqL K H a xs∧∀ p,H p=none→Q (.ref p) (upd H p (.lst (fS xs lo hi)))
theorem BD:SlR X (E9 X.K):=by
 intro pins s σ H x v vl vu lo hi sl Q I rx hs pl pu h
 obtain ⟨a,xs,rfl,hx,q⟩:=h
 cases rx
 obtain ⟨its,r,ht,hz⟩:=I.list hx
 have hlen:=r.length
 refine ⟨"list",_,slot_list_getitem.lookup,ht.isList.typeIs,?_⟩
 refine wpAny_getItem_list_slice ht.isList hs pl pu .none (by simp) ?_ (by rw [List.size_toArray] <;> omega)
 rw [nL,← hlen]
 refine ⟨.ref s.heap.objs.size,_,I.laid (t':=s.toks) (o:=.lst (fS xs lo hi)) (fun b ob q=>Heap.get?_push_of_some _ q) (Nat.le_refl _) ?_,rfl,q _ (I.hok.fresh (Nat.le_refl _))⟩
 exact ⟨Nat.le_trans (kZ xs lo hi) hz,_,0,(r.drop (HT.sIx xs.length 0 lo)).take (HT.sIx xs.length xs.length hi - HT.sIx xs.length 0 lo),Heap.get?_push_size _ rfl⟩
theorem nO:CallR X (.type "tuple") (fun xs H Q=>∃ p ys,xs=[.ref p]∧((SqL X.K H p ys∧∀ l,H l=none→Q (.ref l) (upd H l (.tup ys)))∨(SqT X.K H p ys∧Q (.ref p) H))):=by
 intro pins s σ H xs us Q I r h
 obtain ⟨p,ys,rfl,h⟩:=h
 obtain ⟨u,rfl,rx⟩:=gZ r
 cases rx
 rcases h with ⟨hq,q⟩ | ⟨hq,q⟩
 ·obtain ⟨its,r',pl,hz⟩:=I.list hq
  have hlen:=r'.length
  refine call_tuple_list pl.isList (fun h' kp=>?_) (by simp only [List.size_toArray] <;> omega)
  have I1:Inv X pins σ H { s with heap:=h' }:=I.kept (t':=s.toks) kp
  have I2:Inv X pins σ (upd H h'.objs.size (.tup ys)) { s with heap:=h'.push { cls:=.type "tuple",data:=.seq its.toArray } } :=
   I1.laid (t':=s.toks) (fun b o e=>Heap.get?_push_of_some _ e) (Nat.le_refl _) (show ObjOk X.prog X.w _ _ _ (.tup ys) from ⟨hz,its,r',IsTupN.new _ _⟩)
  exact ⟨.ref h'.objs.size,_,I2,rfl,q _ (I1.hok.fresh (Nat.le_refl _))⟩
 ·obtain ⟨its,r',pl,hz⟩:=I.tuple hq
  exact call_tuple_same pl ⟨.ref p,H,I,rfl,q⟩
def tyV (K:PySem.W.Frag) (T:String) (x:V) (H:Hp):Prop:=match x with
 | .str _=>T="str"
 | .int _=>T="int"
 | .ref p=>(T="list"∧∃ xs,SqL K H p xs)∨(T="tuple"∧∃ o,K.lookup p=some o∧o.cls=.type "tuple"∧o.dict=none) ∨
   (T="dict"∧((∃ kvs,H p=some (.dK kvs))∨∃ kvs,H p=some (.dT kvs)))∨(T="set"∧∃ S n,H p=some (.set S n))
 | _=>False
theorem sX {pins:List (Addr × Obj)} {σ:St} {H:Hp} {s:Shared} {T:String} {x:V} {v:Value} (I:Inv X pins σ H s) (r:RelV x v) (ty:tyV X.K T x H) :
  s.TypeIs v T∧∀ a,v=.ref a→∃ ob,s.heap.get? a=some ob∧ob.dict=none:=by
 cases x with
 | str z =>
  obtain ⟨t,rfl⟩:=r
  cases (show T="str" from ty)
  exact ⟨typeIs_str s z t,fun _ e=>nomatch e⟩
 | int i =>
  obtain ⟨t,rfl⟩:=r
  cases (show T="int" from ty)
  exact ⟨typeIs_int s i t,fun _ e=>nomatch e⟩
 | ref p =>
  cases r
  rcases ty with ⟨rfl,xs,hq⟩ | ⟨rfl,o,hk,hc,hd⟩ | ⟨rfl,hk⟩ | ⟨rfl,S,n,hk⟩
  ·obtain ⟨its,_,pl,_⟩:=I.list hq
   refine ⟨pl.isList.typeIs,fun a e=>?_⟩
   cases e
   obtain ⟨o,n,e,c,hd,_⟩:=pl
   exact ⟨o,e,hd⟩
  ·refine ⟨⟨o,I.kIn p o hk,hc⟩,fun a e=>?_⟩
   cases e
   exact ⟨o,I.kIn _ o hk,hd⟩
  ·have z:∃ o,s.heap.get? p=some o∧o.ExactDict:=by
    rcases hk with ⟨kvs,hk⟩ | ⟨kvs,hk⟩
    ·obtain ⟨_,_,_,_,o,_,_,e,ex,_⟩:=I.hok p _ hk
     exact ⟨o,e,ex⟩
    ·obtain ⟨_,_,_,_,o,_,_,e,ex,_⟩:=I.hok p _ hk
     exact ⟨o,e,ex⟩
   obtain ⟨o,e,ex⟩:=z
   refine ⟨⟨o,e,ex.1⟩,fun a e2=>?_⟩
   cases e2
   exact ⟨o,e,ex.2.1⟩
  ·obtain ⟨o,_,_,_,e,ex,_⟩:=I.hok p _ hk
   refine ⟨⟨o,e,ex.1⟩,fun a e2=>?_⟩
   cases e2
   exact ⟨o,e,ex.2.1⟩
 | _=>exact False.elim ty
def EZ (K:PySem.W.Frag) (T:String) (r:V→List V→Hp→VK→Prop) (to:TE):TE:=fun σ H Q=>to σ H fun x H1=>tyV K T x H1∧r x [] H1 Q
def tBM (K:PySem.W.Frag) (T:String) (r:V→List V→Hp→VK→Prop) (to:TE) (t:TA):TE:=fun σ H Q=>to σ H fun x H1=>tyV K T x H1∧t σ H1 fun xs H2=>r x xs H2 Q
variable {o e:Expr} {es:List Expr} {to:TE} {t:TA} {name:Str} {apos cpos:Pos} {T id:String} {r:V→List V→Hp→VK→Prop}
theorem Fx (pa:PlainAttrs T) (slot:Slot T name id) (hty:typeOf (.builtin id)=pure (.type "method_descriptor")) (hm:MtR X id r) (ho:PE X o to)
  (hbase:attributeBase o name X.env (eval o X.env)=eval o X.env:=by rfl) (hline:(apos.endLine == cpos.line)=true:=by rfl):PE X (.Call (.Attribute o name apos) [] [] cpos) (EZ X.K T r to):=by
 intro pins s σ H Q I h
 refine wpAny_Call_method0_late hbase hline (thn (ho pins s σ H _ I h) fun v s1 ⟨x,H1,I1,r1,ty,q1⟩=>?_)
 obtain ⟨h1,h2⟩:=sX I1 r1 ty
 exact ⟨T,id,pa,slot,hty,h1,h2,Calls.callWith_builtin rfl (PySem.evalArgs_none (hm pins s1 σ H1 x [] v [] Q I1 r1 .nil q1))⟩
theorem rQ (pa:PlainAttrs T) (slot:Slot T name id) (hty:typeOf (.builtin id)=pure (.type "method_descriptor")) (hm:MtR X id r) (ho:PE X o to) (ha:PA X (e :: es) t)
  (hbase:attributeBase o name X.env (eval o X.env)=eval o X.env:=by rfl)
  (hfew:((backTo cpos (starEach (e :: es) X.env)).all (fun x=>!x.1) && (backToKw cpos (keywordEach [] X.env)).all (fun x=>x.1.isSome)
   && decide ((e :: es).length+([]:List Keyword).length+(if ([]:List Keyword).isEmpty then 0 else 1) < 30))=true:=by rfl)
  (hline:(apos.endLine == cpos.line)=true:=by rfl) (hs:starEach (e :: es) X.env=(false,eval e X.env) :: starEach es X.env:=by rfl) (hplain:(backTo cpos (starEach es X.env)).any (·.1)=false:=by rfl) :
  PE X (.Call (.Attribute o name apos) (e :: es) [] cpos) (tBM X.K T r to t):=by
 intro pins s σ H Q I h
 refine wpAny_Call_method_late hbase hfew hline rfl (thn (ho pins s σ H _ I h) fun v s1 ⟨x,H1,I1,r1,ty,q1⟩=>?_)
 obtain ⟨h1,h2⟩:=sX I1 r1 ty
 refine ⟨T,id,pa,slot,hty,h1,h2,?_⟩
 have hA:=ha cpos pins s1 σ H1 _ I1 q1
 rw [hs] at hA ⊢
 refine Calls.callWith_builtin (by show (false || (backTo cpos (starEach es X.env)).any (·.1))=false; rw [hplain] <;> rfl) (Calls.evalArgs_plain ?_)
 exact thn hA fun us s2 ⟨vs,H2,I2,r2,q2⟩=>hm pins s2 σ H2 x vs v us Q I2 r1 r2 q2
end
end L2
namespace L2
open PySem PySem.Spec PyProof.Rows
def MtM (X:Cx) (id:String) (r:V→List V→Hp→VK→Prop):Prop :=
 ∀ (pins:List (Addr × Obj)) (s:Shared) (σ:St) (H:Hp) (x:V) (xs:List V) (v:Value) (us:List Value) (Q:VK),Inv X pins σ H s→RelV x v→Vals xs us→r x xs H Q →
  wpAny (model X.prog X.w) X.A (call (.builtin id) (v :: us)) (EP X pins σ Q) X.xe s
theorem Vals.one:∀ {x:V} {us:List Value},Vals [x] us→∃ u,us=[u]∧RelV x u
 | _,_,.cons r .nil=>⟨_,rfl,r⟩
theorem Vals.two {x y:V} {us:List Value} (h:Vals [x,y] us):∃ u v,us=[u,v]∧RelV x u∧RelV y v:=by
 cases h with
 | cons r t =>
  cases t with
  | cons q n =>
   cases n
   exact ⟨_,_,rfl,r,q⟩
theorem Vals.zero:∀ {us:List Value},Vals [] us→us=[]
 | _,.nil=>rfl
section
variable {X:Cx} {pins:List (Addr × Obj)} {σ:St} {H:Hp} {s:Shared} {l b:Addr} {xs ys zs:List V}
theorem Inv.lset {its its':List Value} {n:Nat} {f:Array Value→Array Value} {t':Nat} (I:Inv X pins σ H s) (hH:H l=some (.lst xs))
  (e:s.heap.get? l=some { cls:=.type "list",data:=.seq its.toArray n }) (hf:f its.toArray=its'.toArray) (hv:Vals ys its') (hz:ys.length≤sizeLine) :
  Inv X pins σ (upd H l (.lst ys)) { s with heap:=s.heap.update l (Obj.mapSeq f),toks:=t' }:=by
 have q:=PySem.IsL.update e f
 rw [hf] at q
 refine I.write (x:=l) (e:=l) (by rw [hH]; exact trivial) (.inl rfl) (fun b' u hb hu=>(Heap.get?_update_other s.heap (Obj.mapSeq f) (Ne.symm hb)).trans hu) ⟨_,q⟩ ?_
 exact ⟨hz,its',_,hv,q⟩
theorem Inv.lnew {its:List Value} {t':Nat} (I:Inv X pins σ H s) (hv:Vals ys its) (hz:ys.length≤sizeLine) :
  Inv X pins σ (upd H s.heap.objs.size (.lst ys)) { s with heap:=s.heap.push { cls:=.type "list",data:=.seq its.toArray },toks:=t' } :=
 I.laid (fun _ _ q=>Heap.get?_push_of_some _ q) (Nat.le_refl _) ⟨hz,its,0,hv,Heap.get?_push_size _ rfl⟩
theorem Inv.fresh (I:Inv X pins σ H s):H s.heap.objs.size=none:=I.hok.fresh (Nat.le_refl _)
theorem Inv.lstM (I:Inv X pins σ H s) (hH:H l=some (.lst xs)):xs.length≤sizeLine∧∃ (its:List Value) (n:Nat),Vals xs its∧xs.length=its.length∧s.heap.get? l=some { cls:=.type "list",data:=.seq its.toArray n }:=by
 obtain ⟨z,its,n,r,e⟩:=I.hok l _ hH
 exact ⟨z,its,n,r,r.length,e⟩
theorem vh {n:Nat} (h:n≤sizeLine):Builtin.List.listTooLong n=false:=by
 unfold Builtin.List.listTooLong
 exact decide_eq_false (by omega)
end
section
variable {X:Cx}
def qL:V→List V→Hp→VK→Prop:=fun x vs H Q=>∃ l xs y,x=.ref l∧vs=[y]∧H l=some (.lst xs)∧xs.length < sizeLine∧Q .non (upd H l (.lst (xs++[y])))
theorem nj:MtM X "list.append" qL:=by
 intro pins s σ H x vs v us Q I rx rv h
 obtain ⟨l,xs,y,rfl,rfl,hH,hz,q⟩:=h
 cases rx
 obtain ⟨u,rfl,ru⟩:=rv.one
 obtain ⟨z,its,n,r,hl,e⟩:=I.lstM hH
 refine call_meets F.slot_list_append ⟨_,e,rfl⟩ F.entry_list_append (F.args_list_append_2 _ _) (PySem.list_append l its.toArray n u (by rw [List.size_toArray]; omega)) ⟨e,?_⟩
 refine ⟨.non,_,I.lset (its':=its++[u]) hH e (by simp) (r.append (.cons ru .nil)) ?_,rfl,q⟩
 rw [List.length_append,List.length_singleton]
 omega
def qK:V→List V→Hp→VK→Prop:=fun x vs H Q=>∃ l b xs zs,x=.ref l∧vs=[.ref b]∧H l=some (.lst xs)∧H b=some (.lst zs)∧xs.length+zs.length≤sizeLine∧Q .non (upd H l (.lst (xs++zs)))
theorem tQ:MtM X "list.extend" qK:=by
 intro pins s σ H x vs v us Q I rx rv h
 obtain ⟨l,b,xs,zs,rfl,rfl,hH,hB,hz,q⟩:=h
 cases rx
 obtain ⟨u,rfl,ru⟩:=rv.one
 cases ru
 obtain ⟨z,its,n,r,hl,e⟩:=I.lstM hH
 obtain ⟨z2,its2,n2,r2,hl2,e2⟩:=I.lstM hB
 have hsz:its.toArray.size+its2.toArray.size≤sizeLine:=by rw [List.size_toArray,List.size_toArray]; omega
 have hlong:¬ (!its.toArray.isEmpty && Builtin.List.listTooLong (its.toArray.size+its2.toArray.size))=true:=by
  rw [vh hsz,Bool.and_false]
  exact Bool.false_ne_true
 refine call_meets F.slot_list_extend ⟨_,e,rfl⟩ F.entry_list_extend (F.args_list_extend_2 _ _)
  (AutoSeq1.list_extend_list_list_0 l its.toArray n b its2.toArray n2 hlong (by rw [List.size_toArray]; omega) (by omega)) ⟨e,e2,?_⟩
 refine ⟨.non,_,I.lset (its':=its++its2) hH e (by simp) (r.append r2) ?_,rfl,q⟩
 rw [List.length_append]
 omega
def Ik:V→List V→Hp→VK→Prop:=fun x vs H Q=>∃ l xs y,x=.ref l∧vs=[]∧H l=some (.lst xs)∧xs[xs.length - 1]?=some y∧Q y (upd H l (.lst xs.dropLast))
def tw:V→List V→Hp→VK→Prop:=fun x vs H Q=>∃ l xs,x=.ref l∧vs=[]∧H l=some (.lst xs)∧Q .non (upd H l (.lst []))
theorem vj:MtM X "list.clear" tw:=by
 intro pins s σ H x vs v us Q I rx rv h
 obtain ⟨l,xs,rfl,rfl,hH,q⟩:=h
 cases rx
 have hus:=rv.zero
 subst hus
 obtain ⟨z,its,n,r,hl,e⟩:=I.lstM hH
 refine call_meets F.slot_list_clear ⟨_,e,rfl⟩ F.entry_list_clear (F.args_list_clear_1 _) (AutoSeq1.list_clear_list_0 l its.toArray n (by rw [List.size_toArray]; omega)) ⟨e,?_⟩
 exact ⟨.non,_,I.lset (its':=[]) (ys:=[]) hH e rfl .nil (Nat.zero_le _),rfl,q⟩
end
section
variable {prog:Program} {w:World} {A:Around} {E:Value→Shared→Prop} {s:Shared}
end
section
variable {X:Cx}
end
end L2
namespace Att
open PySem PySem.W PySem.Calls PyProof.Rows
theorem lX {P:Params} {h:Heap}:∀ (ns:List Int) (vs:List Value),WellAll P h vs (ns.map WData.int)→IntsAre vs ns:=by
 intro ns
 induction ns with
 | nil =>
  intro vs w
  rw [List.map_nil] at w
  cases w
  exact .nil
 | cons n ns ih =>
  intro vs w
  rw [List.map_cons] at w
  cases w with
  | cons a b =>
   cases a
   exact .cons _ _ (ih _ b)
theorem tq {l:OpenLaw} {n:Nat} (hn:l.most=some n) {P:Params} {h:Heap} {args:List WData} {bC:List Value}
  (hpre:l.row.toRowW.claim.pre args=true) (hwl:WellAll P h bC args) :
  ∃ a vs ns,bC=[Value.ref a]∧args=[WData.list (ns.map WData.int)]∧h.get? a=some { cls:=.type "list",data:=.seq vs.toArray }∧IntsAre vs ns∧ns.length≤n:=by
 have hsh:WShape.hasAll [] args [.list .int]=true:=(pre_splitW hpre).1
 have hc:l.pre.holds [] { args:=args }=true:=(pre_splitW hpre).2
 obtain ⟨d,r,rfl,h1,h2⟩:=hasAllW_cons hsh
 obtain rfl:=hasAllW_nil h2
 obtain ⟨xs,rfl,h3⟩:=hasW_list h1
 obtain ⟨ns,rfl⟩:=items_int h3
 have hlen:ns.length≤n:=by
  unfold OpenLaw.pre at hc
  have h4:(WTm.not (.lt (.lit (.int (n:Int))) (.len (.arg 0)))).holds [] { args:=[.list (ns.map .int)] }=true:=by
   have h4:=(holds_andW hc).1
   rw [hn] at h4
   exact h4
  have h5:=condW_of h4 (w_not (w_lt w_lit (w_len_list (w_arg rfl))))
  rw [List.length_map] at h5
  refine Nat.le_of_not_lt fun q=>?_
  have q':(n:Int) < ((ns.length:Nat):Int):=by omega
  first
   | (rw [decide_eq_true q'] at h5; exact absurd h5 (by decide))
   | (simp at h5; omega)
 cases hwl with
 | cons w1 w2 =>
  cases w2
  cases w1 with
  | list ho hall=>exact ⟨_,_,ns,rfl,rfl,ho,lX ns _ hall,hlen⟩
theorem tG (l:OpenLaw) (args:List WData):l.row.toRowW.claim.post args (.bool true) args=true :=
 postW_of (r:=l.row.toRowW) (X:=(true == true))
  (show WShape.has [] (.bool true) .bool=true by first | rfl | decide | simp [WShape.has,WShape.arms,WShape.armsAll])
  (show (WTm.eq .res (.lit (.bool true))).value [] { args:=args,res:=some (.bool true),after:=args }=some (.bool (true == true)) from w_eq_bool (w_res rfl) w_lit) rfl
theorem attach_call {l:OpenLaw} {n:Nat} {q:Program} {loose:List Str} {XP:(Str→Option Value)→Heap→Prop} {YP:World→Heap→Prop} {d:DefRec}
  (hn:l.most=some n) (hdf:d.params.defaults=[])
  (call:∀ (w:World) (s₀ s₁:Shared) (mg mb:Str→Option Value) (fa:Addr) (o:Obj) (pm cd doc:Value) (a:Addr) (vs:List Value) (ns:List Int),
   Ground q loose [] XP w s₀ mg mb s₁.heap→YP w s₁.heap →
   s₁.heap.get? fa=some o→o.data=.func (docDef d.name d.params d.body d.scope pm cd doc)→s₁.heap.CodeRec cd d.name→mg d.name=some (.ref fa) →
   s₁.heap.get? a=some { cls:=.type "list",data:=.seq vs.toArray }→IntsAre vs ns→ns.length≤n→s₁.gens=#[] →
   codeAny (model l.prog w) callerA (.call (.ref fa) ⟨[.ref a],[]⟩) (fun r s'=>r=.ok (.ret (.bool true))∧OldK s₁.heap s'.heap∧s'.os=s₁.os∧AllBare s'.gens) s₁) :
  WalkO q loose XP YP l.row.toRowW d [] (fun f vs=>PySem.call f vs):=by
 intro w s₀ s₁ mg mb G Y fa o pm cd doc dV kV ho hd hcd hD hmg hg args bC as hpre hlay hrd hwl hlo
 obtain rfl:dV=.none:=Dflts.none hD hdf
 obtain rfl:kV=.none:=Dflts.noKw hD
 obtain ⟨a,vs,ns,rfl,rfl,hobj,hints,hlen⟩:=tq hn hpre hwl
 refine enter_call (codeAny_mono (call w s₀ s₁ mg mb fa o pm cd doc a vs ns G Y ho (fd_plain hd) hcd hmg hobj hints hlen hg) fun r s' hq=>?_)
 obtain ⟨rfl,h2,h3,h4⟩:=hq
 exact ⟨.inl ⟨.bool true,.bool true,[],rfl,fun _=>rfl,.bool true,tG l _,fun _=>⟨List.Pairwise.nil,fun _ hm=>(nomatch hm)⟩⟩,h2,h3,h4⟩
section
variable {prog:Program} {w:World} {A:Around} {E:Value→Shared→Prop} {s:Shared} {K:Frag}
end
end Att
namespace L2
open PySem PySem.Spec PyProof.Rows
theorem nb:∀ {vs:List Value} {ns:List Int},IntsAre vs ns→Vals (ns.map V.int) vs
 | _,_,.nil=>.nil
 | _,_,.cons n t h=>.cons ⟨t,rfl⟩ (nb h)
def wg (H:Hp):Prop:=∀ b,H b=none∨∃ o xs,H b=some (.frz o (.lst xs))
theorem vp {P:Program} {w:World} {K:PySem.W.Frag} {mg mb:Str→Option Value} {CX:CXT} {k:Nat} {fa a:Addr} {fd:FuncData} {x:Str} {sp:Sp} {s₁:Shared} {vs:List Value} {ns:List Int}
  (KX:K.In s₁.heap) (hns:s₁.heap.Ns mainGlobals mg) (hb:s₁.heap.Ns builtinsNs mb) (hbb:∀ x:Str,x≠"__name__"→mb x=bootBuiltins x) (hlim:s₁.heap.NoLimit) (hmods:∃ mm,s₁.heap.Ns sysModules mm) (hg:s₁.gens=#[])
  (ha:s₁.heap.get? a=some { cls:=.type "list",data:=.seq vs.toArray }) (hi:IntsAre vs ns) (hl:ns.length≤sizeLine) (hr:Room k callerA)
  (F:∀ base:Heap,K.In base→base.Ns mainGlobals mg→FnOk P w K mg base CX k fa fd [x] sp) (hbind:∀ (s:Shared) (u:Value),BindsTo s fd ⟨[u],[]⟩ [(x,u)])
  (hsp:∀ H:Hp,wg H→SqL K H a (ns.map V.int)→sp [.ref a] H (fun v _=>v=.bl true) fun _ _ _=>False)
  (hCX:∀ H e s',CX [] H s₁ (fun _ _ _=>False) e s'→False) :
  codeAny (model P w) callerA (.call (.ref fa) ⟨[.ref a],[]⟩) (fun r s'=>r=.ok (.ret (.bool true))∧OldK s₁.heap s'.heap∧s'.os=s₁.os∧AllBare s'.gens) s₁:=by
 have rv:=nb hi
 have lenV:=hi.length
 have core:∀ H:Hp,wg H→SqL K H a (ns.map V.int)→HOk P w H s₁.heap→(∀ b,H b≠none→b=a)→(H a≠none→K.lookup a=none) →
   codeAny (model P w) callerA (.call (.ref fa) ⟨[.ref a],[]⟩) (fun r s'=>r=.ok (.ret (.bool true))∧OldK s₁.heap s'.heap∧s'.os=s₁.os∧AllBare s'.gens) s₁:=by
  intro H hO hS hok hA hK
  have base_of:∀ {b:Addr} {o:Obj},s₁.heap.get? b=some o→H b=none→(il s₁.heap H).get? b=some o:=fun e n=>oY e n
  have noA:∀ {b:Addr} {o:Obj} {es:Array DictEntry} {ep:Nat},s₁.heap.get? b=some o→o.data=.dict es ep→H b=none:=fun {b o es ep} e d=>by
   cases q:H b with
   | none=>rfl
   | some u =>
    have e':b=a:=hA b (by rw [q]; simp)
    subst e'
    rw [ha] at e; cases e
    have d':Data.seq vs.toArray _=Data.dict es ep:=d
    cases d'
  have nsK:∀ {b:Addr} {m:Str→Option Value},s₁.heap.Ns b m→(il s₁.heap H).Ns b m:=fun {b m} ⟨o,es,ep,e,d,r⟩=>⟨o,es,ep,base_of e (noA e d),d,r⟩
  have hKb:K.In (il s₁.heap H):=fun b o e=>base_of (KX b o e) (by
   cases q:H b with
   | none=>rfl
   | some u =>
    have e':b=a:=hA b (by rw [q]; simp)
    subst e'
    rw [hK (by rw [q]; simp)] at e; cases e)
  have hM:Mod K mg (il s₁.heap H):=⟨hKb,nsK hns,⟨mb,nsK hb,hbb⟩,let ⟨mc,h1,h2⟩:=hlim; ⟨mc,nsK h1,h2⟩,let ⟨mm,h1⟩:=hmods; ⟨mm,nsK h1⟩⟩
  have e0:Env0 P w K mg (il s₁.heap H) callerA [] s₁ H:=⟨rfl,hM,fun b o e=>qR e,Nat.le_of_eq (uk _ _),trivial,fun b hb=>absurd (show b∈([]:List Addr) from hb) (by simp),hok,.of_eq hg⟩
  refine codeAny_mono ((F _ hKb (nsK hns)).run callerA [] s₁ H ⟨[.ref a],[]⟩ [.ref a] [.ref a] _ _ hr e0 (hbind s₁ (.ref a)) (.cons rfl .nil) (hsp H hO hS)) fun r s' h=>?_
  cases r with
  | error e=>exact (hCX H e s' h).elim
  | ok fl =>
   cases fl with
   | next=>exact False.elim h
   | brk=>exact False.elim h
   | cont=>exact False.elim h
   | ret u =>
    obtain ⟨v,H',os,bare,un,hok',r',q⟩:=h
    have q':v=.bl true:=q
    subst q'
    obtain rfl:u=Value.bool true:=r'
    refine ⟨rfl,OldK.of_keep fun b o e=>?_,os,bare⟩
    cases q:H b with
    | none=>exact un.keep b o e q (by intro z; exact absurd (show b∈([]:List Addr) from z) (by simp)) (by simp)
    | some u =>
     rcases hO b with z | ⟨ob,xs,z⟩
     ·rw [q] at z; cases z
     ·have z2:=un.frzs b ob _ z
      obtain ⟨e1,_⟩:=hok b _ z
      obtain ⟨e2,_⟩:=hok' b _ z2
      rw [e] at e1; cases e1
      exact e2
 cases hk:K.lookup a with
 | some o =>
  have e:=KX a o hk
  rw [ha] at e
  cases e
  refine core (fun _=>none) (fun _=>.inl rfl) (.inr ⟨_,vs.toArray,_,hk,rfl,rfl,rfl,by rw [List.size_toArray,lenV]; exact hl,by simpa using rv⟩) (fun b u z=>by have z':(none:Option HO)=some u:=z; cases z') (fun b z=>absurd rfl z) fun z=>absurd rfl z
 | none =>
  refine core (fun b=>if b=a then some (.frz { cls:=.type "list",data:=.seq vs.toArray } (.lst (ns.map V.int))) else none) (fun b=>?_) (.inl (.inr ⟨{ cls:=.type "list",data:=.seq vs.toArray },if_pos rfl⟩)) (fun b u z=>?_) (fun b z=>?_) fun _=>hk
  ·by_cases hb:b=a
   ·exact .inr ⟨_,_,if_pos hb⟩
   ·exact .inl (if_neg hb)
  ·by_cases hb:b=a
   ·have z':=(if_pos hb).symm.trans z
    cases z'
    subst hb
    exact ⟨ha,by rw [List.length_map]; exact hl,vs,_,rv,ha⟩
   ·have z':=(if_neg hb).symm.trans z
    cases z'
  ·by_cases hb:b=a
   ·exact hb
   ·exact absurd (if_neg hb) z
end L2
namespace L2
open PySem PySem.Spec PyProof.Rows
theorem walk_of {l:PySem.W.OpenLaw} {n k:Nat} {q:Program} {loose:List Str} {XP:(Str→Option Value)→Heap→Prop} {YP:World→Heap→Prop} {d:DefRec} {K:Params→PySem.W.Frag} {CX:World→CXT} {sp:World→Sp} {x:Str}
  (hn:l.most=some n) (hn2:n≤sizeLine) (hdf:d.params.defaults=[]) (hr:Room k callerA)
  (hq:importsNone q=true) (hY:∀ (w:World) (h:Heap),YP w h→(K w.params).In h)
  (F:∀ (w:World) (mg:Str→Option Value) (fa:Addr) (h:Heap),(K w.params).In h→h.Ns mainGlobals mg→mg d.name=some (.ref fa) →
   ∃ fd:FuncData,(∀ (s:Shared) (u:Value),BindsTo s fd ⟨[u],[]⟩ [(x,u)]) ∧
    ∀ base:Heap,(K w.params).In base→base.Ns mainGlobals mg→FnOk l.prog w (K w.params) mg base (CX w) k fa fd [x] (sp w))
  (hsp:∀ (w:World) (H:Hp) (a:Addr) (ns:List Int),ns.length≤n→wg H→SqL (K w.params) H a (ns.map V.int)→sp w [.ref a] H (fun v _=>v=.bl true) fun _ _ _=>False)
  (hCX:∀ (w:World) (H:Hp) (s:Shared) (e:Value) (s':Shared),CX w [] H s (fun _ _ _=>False) e s'→False) :
  PySem.W.WalkO q loose XP YP l.row.toRowW d [] (fun f vs=>PySem.call f vs):=by
 refine Att.attach_call hn hdf fun w s₀ s₁ mg mb fa o pm cd doc a vs ns G Y ho hd hcd hmg hobj hints hlen hg=>?_
 have KX:=hY w _ Y
 obtain ⟨fd,hb,hF⟩:=F w mg fa _ KX G.T.g hmg
 exact vp KX G.T.g G.T.b G.T.builtins G.T.nolimit (let ⟨mm,hm,_⟩:=(G.T.seer hq).mods; ⟨mm,hm⟩) hg hobj hints (Nat.le_trans hlen hn2) hr hF hb (fun H hO hS=>hsp w H a ns hlen hO hS) fun H e s'=>hCX w H s₁ e s'
end L2
namespace L2
open PySem PySem.Spec PyProof.Rows
def dC (s:Stmt):Arguments:=match s with
 | .FunctionDef _ a _ _ _ _ _ _ _ _=>a
 | _=>{ posonlyargs:=[],args:=[],vararg:=none,kwonlyargs:=[],kw_defaults:=[],kwarg:=none,defaults:=[] }
def b7 (s:Stmt):List Stmt:=match s with
 | .FunctionDef _ _ b _ _ _ _ _ _ _=>b
 | _=>[]
def aq (s:Stmt):Scope:=match s with
 | .FunctionDef _ _ _ _ _ _ sc _ _ _=>sc
 | _=>{ kind:=.function,names:=[],isGenerator:=false,isCoroutine:=false }
abbrev CX0:CXT:=fun _ _ _ _ _ _=>False
abbrev E0:XK:=fun _ _ _=>False
theorem Hl {X:Cx}:pU CX0 X E0:=fun _ _ _ _ _ _ _ h=>h.elim
structure Fun (K:PySem.W.Frag) (x qual:Str) (st:Stmt) (f:Addr) (fd:FuncData):Prop where
 ex:∃ (oc:Value) (od:Option Addr) (kV doc pm:Value) (an:Option Addr) (cdv ct:Value) (osl:Array (Option Value)),
  fd=PySem.W.fnOf x qual (dC st) (b7 st) (aq st) .none kV doc pm an cdv ct∧K.lookup f=some ⟨oc,od,.func fd,osl⟩∧PySem.W.codeIn K cdv qual=true
 kp:PySem.W.keepIn K (.ref f)=true
section
variable {P:Program} {w:World} {K:PySem.W.Frag} {mg:Str→Option Value} {base:Heap}
theorem Fun.ok {x qual:Str} {st:Stmt} {f:Addr} {fd:FuncData} {N ps:List Str} {k:Nat} {sp:Sp} (F:Fun K x qual st f fd) (S:FnScope N ps (aq st)) (len:∀ vs H Q E,sp vs H Q E→vs.length=ps.length)
  (hbody:∀ (cdv:Value) (A:Around) (outer:List Env) (s:Shared) (H:Hp) (vs:List V) (Q:VK) (E:XK),Room k (A.deeper (envOfC qual (aq st) s.heap.objs.size f cdv))→sp vs H Q E →
   ∃ t,PSs (gP CX0 P w K mg base N qual (aq st) f cdv A outer s H E).nox (b7 st) t∧t { nx:=fun _ H'=>Q .non H',rt:=Q } (cA N vs) H):FnOk P w K mg base CX0 (k+1) f fd ps sp:=by
 obtain ⟨oc,od,kV,doc,pm,an,cdv,ct,osl,rfl,lk,hcd⟩:=F.ex
 refine Bn lk hcd S len fun A outer s H vs Q E hr hsp=>?_
 obtain ⟨t,h,q⟩:=hbody cdv A outer s H vs Q E hr hsp
 exact ⟨t,h.nox,q⟩
theorem Fun.binds {x qual:Str} {st:Stmt} {f:Addr} {fd:FuncData} {ps:List Str} (F:Fun K x qual st f fd)
  (h:∀ (kV doc pm:Value) (an:Option Addr) (cdv ct:Value) (us:List Value),us.length=ps.length→bindArgs (PySem.W.fnOf x qual (dC st) (b7 st) (aq st) .none kV doc pm an cdv ct) ⟨us,[]⟩=pure (ps.zip us)):Binds K fd ps []:=by
 obtain ⟨oc,od,kV,doc,pm,an,cdv,ct,osl,rfl,lk,hcd⟩:=F.ex
 exact .all (h kV doc pm an cdv ct)
theorem pb {x qual:Str} {st:Stmt} {f:Addr} {oc:Value} {od an:Option Addr} {osl:Array (Option Value)} {kV doc pm cdv ct:Value} (l:K.lookup f=some ⟨oc,od,.func (PySem.W.fnOf x qual (dC st) (b7 st) (aq st) .none kV doc pm an cdv ct),osl⟩)
  (c:PySem.W.codeIn K cdv qual=true) (k:PySem.W.keepIn K (.ref f)=true):Fun K x qual st f (PySem.W.fnOf x qual (dC st) (b7 st) (aq st) .none kV doc pm an cdv ct):=⟨⟨oc,od,kV,doc,pm,an,cdv,ct,osl,rfl,l,c⟩,k⟩
end
theorem sy {A:Around} {k:Nat} (hr:Room k A):A.units+1 < cLine:=Nat.lt_of_le_of_lt (Nat.add_le_add_left (by decide:1≤64) _) hr.units
section
variable {X:Cx}
theorem pv (i:Nat) {x:Str} {pos:Pos} (hN:X.N[i]?=some x:=by rfl) (hv:Vis X.env.scope x:=by first | exact Or.inl rfl | exact Or.inr (Or.inl rfl) | exact Or.inr (Or.inr rfl)) (hd:(x == ("__debug__" : Str))=false:=by decide)
  (hcd:(x == ("__classdict__" : Str))=false:=by decide):PE X (.Name x pos) (gC i):=dJ hN hv hd hcd
end
end L2
namespace L2
open PySem PySem.Spec PyProof.Rows
section
variable {κ:Type} [DecidableEq κ]
def dR (kvs:List (κ × V)) (k:κ):Option V:=(kvs.find? fun kv=>decide (kv.1=k)).map (·.2)
def dX (kvs:List (κ × V)) (k:κ) (v:V):List (κ × V) :=
 if (kvs.any fun kv=>decide (kv.1=k))=true then kvs.map (fun kv=>if kv.1=k then (kv.1,v) else kv) else kvs++[(k,v)]
theorem iY {p:κ × V} {r:List (κ × V)} {k:κ} (e:p.1=k):dR (p :: r) k=some p.2:=by simp [dR,List.find?_cons,e]
theorem iZ {p:κ × V} {r:List (κ × V)} {k:κ} (e:¬ p.1=k):dR (p :: r) k=dR r k:=by simp [dR,List.find?_cons,e]
theorem nY (k:κ):∀ kvs:List (κ × V),(kvs.any fun kv=>decide (kv.1=k))=(dR kvs k).isSome
 | []=>rfl
 | p :: r=>by
  rw [List.any_cons]
  by_cases e:p.1=k
  ·simp only [iY e,decide_eq_true e,Bool.true_or,Option.isSome_some]
  ·rw [iZ e,decide_eq_false e,Bool.false_or]; exact nY k r
theorem kY (kvs:List (κ × V)) (k:κ) (v:V):(dX kvs k v).length≤kvs.length+1:=by
 unfold dX
 split
 ·rw [List.length_map]; omega
 ·rw [List.length_append,List.length_cons,List.length_nil]; omega
theorem RelO.isSome_eq {o:Option V} {u:Option Value} (r:RelO o u):o.isSome=u.isSome:=by
 cases o with
 | none=>cases u with
  | none=>rfl
  | some _=>exact (show False from r).elim
 | some _=>cases u with
  | none=>exact (show False from r).elim
  | some _=>rfl
theorem KV.val {kvs:List (κ × V)} {vs:List (κ × Value)} (r:KV kvs vs) (k:κ):RelO (dR kvs k) (valueAt vs k):=by
 unfold KV at r
 induction r with
 | nil=>exact True.intro
 | @cons p q ps qs h t ih =>
  obtain ⟨h1,h2⟩:=h
  by_cases e:p.1=k
  ·have e':q.1=k:=h1.symm.trans e
   have b:valueAt (q :: qs) k=some q.2:=by simp [valueAt,List.find?_cons,e']
   rw [iY e,b]; exact h2
  ·have e':¬ q.1=k:=fun z=>e (h1.trans z)
   have b:valueAt (q :: qs) k=valueAt qs k:=by simp [valueAt,List.find?_cons,e']
   rw [iZ e,b]; exact ih
theorem KV.any {kvs:List (κ × V)} {vs:List (κ × Value)} (r:KV kvs vs) (k:κ):(kvs.any fun kv=>decide (kv.1=k))=vs.any fun kv=>decide (kv.1=k):=by
 unfold KV at r
 induction r with
 | nil=>rfl
 | cons h t ih=>rw [List.any_cons,List.any_cons,ih,h.1]
theorem KV.repl {kvs:List (κ × V)} {vs:List (κ × Value)} (r:KV kvs vs) (k:κ) {y:V} {u:Value} (ry:RelV y u) :
  KV (kvs.map fun kv=>if kv.1=k then (kv.1,y) else kv) (vs.map fun kv=>if kv.1=k then (kv.1,u) else kv):=by
 unfold KV at r ⊢
 induction r with
 | nil=>exact .nil
 | @cons p q ps qs h t ih =>
  rw [List.map_cons,List.map_cons]
  refine .cons ?_ ih
  obtain ⟨h1,h2⟩:=h
  by_cases e:p.1=k
  ·rw [if_pos e,if_pos (h1.symm.trans e)]; exact ⟨h1,ry⟩
  ·rw [if_neg e,if_neg (fun z=>e (h1.trans z))]; exact ⟨h1,h2⟩
theorem KV.put {kvs:List (κ × V)} {vs:List (κ × Value)} (r:KV kvs vs) (k:κ) {y:V} {u:Value} (ry:RelV y u):KV (dX kvs k y) (stored vs k u):=by
 unfold dX stored
 rw [r.any k]
 by_cases e:(vs.any fun kv=>decide (kv.1=k))=true
 ·rw [if_pos e,if_pos e]; exact r.repl k ry
 ·rw [if_neg e,if_neg e]; exact Paired.snoc r ⟨rfl,ry⟩
theorem KV.keys {kvs:List (κ × V)} {vs:List (κ × Value)} (r:KV kvs vs):kvs.map (·.1)=vs.map (·.1):=by
 unfold KV at r
 induction r with
 | nil=>rfl
 | cons h t ih=>rw [List.map_cons,List.map_cons,ih,h.1]
theorem KV.length {kvs:List (κ × V)} {vs:List (κ × Value)} (r:KV kvs vs):kvs.length=vs.length:=Paired.length r
end
theorem se {P:Program} {w:World} {k:Key} {u:Value} (r:RelV (kV k) u):(bE P w).is k u=true:=by
 cases k with
 | inl i=>obtain ⟨t,e⟩:=(show ∃ t,u=Value.int i t from r); subst e; exact qm P w i t
 | inr x=>obtain ⟨t,e⟩:=(show ∃ t,u=Value.str x t from r); subst e; exact ql P w x t
theorem nk {P:Program} {w:World}:∀ {ks:List Key} {us:List Value},Vals (ks.map kV) us→ItemsAre (bE P w) ks us
 | [],_,r=>by rw [List.map_nil] at r; cases r; exact .nil
 | k :: ks,_,r=>by
  rw [List.map_cons] at r
  cases r with
  | cons h t=>exact .cons (se h) (nk t)
abbrev KT (H:Hp):List (List Key × V)→List (List Key × Addr × Value)→Prop:=Paired fun p q=>p.1=q.1∧H q.2.1=some (.tup (p.1.map kV))∧RelV p.2 q.2.2
theorem KT.val {H:Hp} {kvs:List (List Key × V)} {xs:List (List Key × Addr × Value)} (r:KT H kvs xs) (k:List Key):RelO (dR kvs k) ((atKey xs k).map (·.2)):=by
 induction r with
 | nil=>exact True.intro
 | @cons p q ps qs h t ih =>
  obtain ⟨h1,_,h2⟩:=h
  by_cases e:p.1=k
  ·have e':q.1=k:=h1.symm.trans e
   have b:atKey (q :: qs) k=some q.2:=by simp [atKey,List.find?_cons,e']
   rw [iY e,b]; exact h2
  ·have e':¬ q.1=k:=fun z=>e (h1.trans z)
   have b:atKey (q :: qs) k=atKey qs k:=by simp [atKey,List.find?_cons,e']
   rw [iZ e,b]; exact ih
theorem KT.repl {H:Hp} {kvs:List (List Key × V)} {xs:List (List Key × Addr × Value)} (r:KT H kvs xs) (k:List Key) {y:V} {u:Value} (ry:RelV y u) :
  KT H (kvs.map fun kv=>if kv.1=k then (kv.1,y) else kv) (xs.map (putAt k u)):=by
 induction r with
 | nil=>exact .nil
 | @cons p q ps qs h t ih =>
  rw [List.map_cons,List.map_cons]
  refine .cons ?_ ih
  obtain ⟨h1,h2,h3⟩:=h
  unfold putAt
  by_cases e:p.1=k
  ·rw [if_pos e,if_pos (h1.symm.trans e)]; exact ⟨h1,h2,ry⟩
  ·rw [if_neg e,if_neg (fun z=>e (h1.trans z))]; exact ⟨h1,h2,h3⟩
theorem KT.put {H:Hp} {kvs:List (List Key × V)} {xs:List (List Key × Addr × Value)} (r:KT H kvs xs) (k:List Key) {b:Addr} {y:V} {u:Value} (hb:H b=some (.tup (k.map kV))) (ry:RelV y u) :
  KT H (dX kvs k y) (storedH xs k b u):=by
 have e:(kvs.any fun kv=>decide (kv.1=k))=(atKey xs k).isSome:=by
  rw [nY,(r.val k).isSome_eq,Option.isSome_map]
 unfold dX storedH
 rw [e]
 by_cases q:(atKey xs k).isSome=true
 ·rw [if_pos q,if_pos q]; exact r.repl k ry
 ·rw [if_neg q,if_neg q]; exact Paired.snoc r ⟨rfl,hb,ry⟩
theorem KT.keeps {H H':Hp} {kvs:List (List Key × V)} {xs:List (List Key × Addr × Value)} (r:KT H kvs xs) (ht:∀ b ys,H b=some (.tup ys)→H' b=some (.tup ys)):KT H' kvs xs :=
 Paired.mapP r fun _ _ z=>⟨z.1,ht _ _ z.2.1,z.2.2⟩
section
variable {P:Program} {w:World} {H:Hp} {h:Heap} {a:Addr}
theorem A0 {u:HO} (ok:HOk P w H h) (e:Rd H a u):ObjOk P w H h a u:=e.ok ok
theorem Bu {kvs:List (Key × V)} (ok:HOk P w H h) (e:Rd H a (.dK kvs)):kvs.length≤sizeLine∧(a == sysModules)=false∧∃ vs,KV kvs vs∧h.DictOf (bE P w) a vs :=
 show ObjOk P w H h a (.dK kvs) from A0 ok e
theorem sL {kvs:List (Key × V)} (ok:HOk P w H h) (e:H a=some (.dK kvs)):kvs.length≤sizeLine∧(a == sysModules)=false∧∃ vs,KV kvs vs∧h.DictOf (bE P w) a vs:=Bu ok (.inl e)
theorem oR {ks:List Key} (ok:HOk P w H h) (e:H a=some (.tup (ks.map kV))):(tupleKind (bE P w)).is h ks a:=by
 obtain ⟨_,its,r,o,h1,h2,n,h3⟩:=(show ObjOk P w H h a (.tup (ks.map kV)) from ok a _ e)
 exact ⟨o,its.toArray,n,h1,h2,h3.1,by simpa using nk r⟩
theorem Bs {kvs:List (List Key × V)} (ok:HOk P w H h) (e:Rd H a (.dT kvs)):kvs.length≤sizeLine∧(a == sysModules)=false ∧
  ∃ xs,KT H kvs xs∧h.DictOfH (tupleKind (bE P w)) a xs:=by
 obtain ⟨z,y,xs,r,o,es,ep,h1,h2,h3,h4,h5⟩:=(show ObjOk P w H h a (.dT kvs) from A0 ok e)
 refine ⟨z,y,xs,r,o,es,ep,h1,h2,h3,h4,fun x hx=>?_,h5⟩
 have all:∀ {l:List (List Key × V)} {m:List (List Key × Addr × Value)},KT H l m→∀ x∈m,(tupleKind (bE P w)).is h x.1 x.2.1:=by
  intro l m q
  induction q with
  | nil=>intro x hx; exact nomatch hx
  | @cons p q ps qs hq t ih =>
   intro x hx
   rcases List.mem_cons.mp hx with e | hx
   ·subst e
    exact oR ok (by rw [← hq.1]; exact hq.2.1)
   ·exact ih x hx
 exact all r x hx
theorem Bt {kvs:List (List Key × V)} (ok:HOk P w H h) (e:H a=some (.dT kvs)):kvs.length≤sizeLine∧(a == sysModules)=false ∧
  ∃ xs,KT H kvs xs∧h.DictOfH (tupleKind (bE P w)) a xs:=Bs ok (.inl e)
end
def DGet (H:Hp) (a:Addr) (y:V) (r:Option V):Prop :=
 (∃ kvs k,Rd H a (.dK kvs)∧y=kV k∧r=dR kvs k)∨∃ kvs k b,Rd H a (.dT kvs)∧y=.ref b∧H b=some (.tup (k.map kV))∧r=dR kvs k
def DPut (H:Hp) (a:Addr) (y v:V) (H':Hp):Prop :=
 (∃ kvs k,H a=some (.dK kvs)∧y=kV k∧kvs.length < sizeLine∧H'=upd H a (.dK (dX kvs k v))) ∨
 ∃ kvs k b,H a=some (.dT kvs)∧y=.ref b∧H b=some (.tup (k.map kV))∧kvs.length < sizeLine∧H'=upd H a (.dT (dX kvs k v))
theorem DGet.k {H:Hp} {a:Addr} {kvs:List (Key × V)} {k:Key} (e:H a=some (.dK kvs)):DGet H a (kV k) (dR kvs k):=.inl ⟨kvs,k,.inl e,rfl,rfl⟩
theorem DPut.k {H:Hp} {a:Addr} {kvs:List (Key × V)} {k:Key} {v:V} (e:H a=some (.dK kvs)) (hl:kvs.length < sizeLine):DPut H a (kV k) v (upd H a (.dK (dX kvs k v))):=.inl ⟨kvs,k,e,rfl,hl,rfl⟩
section
variable {X:Cx} {pins:List (Addr × Obj)} {σ:St} {H:Hp} {s:Shared} {a:Addr} {y v:V} {u r:Value} {o:Option V} {A:Around} {E:Value→Shared→Prop}
theorem Inv.big (I:Inv X pins σ H s):sysModules < s.heap.objs.size:=by
 have h:mainGlobals < s.heap.objs.size:=(I.mod.glob.keeps I.bk).lt
 exact Nat.lt_trans (by decide) h
theorem CM {Q:Value→Shared→Prop} (hu:A.units+1 < cLine) (I:Inv X pins σ H s) (g:DGet H a y o) (ry:RelV y u) (h:∀ s',Inv X pins σ H s'→Q (.bool (!o.isSome)) s') :
  wpAny (model X.prog X.w) A (compareOp .NotIn u (.ref a)) Q E s:=by
 rcases g with ⟨kvs,k,e,ey,l⟩ | ⟨kvs,k,b,e,ey,eb,l⟩
 ·subst ey
  obtain ⟨z,hd,vs,rel,dd⟩:=Bu I.hok e
  refine wpAny_notIn_of (se ry) hd dd.mapOf ?_
  rw [← (rel.val k).isSome_eq,← l]
  exact h _ (I.tok _)
 ·subst ey
  cases (show u=Value.ref b from ry)
  obtain ⟨z,hd,xs,rel,dd⟩:=Bs I.hok e
  refine wpAny_notIn_heap (tupleKind_room_in1 hu) (oR I.hok eb) hd dd ?_
  have q:=(rel.val k).isSome_eq
  rw [Option.isSome_map] at q
  rw [← q,← l]
  exact h _ (I.tok _)
theorem rq {h':Heap} {t':Nat} {ob:HO} (I:Inv X pins σ H s) (mu:Mut (H a)) (hs:Heap.SameBut a s.heap h') (he:∃ q,h'.get? a=some q) (new:ObjOk X.prog X.w (upd H a ob) h' a ob) :
  Inv X pins σ (upd H a ob) { s with heap:=h',toks:=t' } :=
 I.write (x:=a) (e:=a) mu (.inl rfl) (fun b q hb z=>(hs.2 b hb).trans z) he new
theorem GV {P:Program} {w:World} {H':Hp} {h':Heap} {kvs:List (Key × V)} {vs:List (Key × Value)} (z:kvs.length≤sizeLine) (hd:(a == sysModules)=false) (rel:KV kvs vs) (dd:h'.DictOf (bE P w) a vs) :
  ObjOk P w H' h' a (.dK kvs):=⟨z,hd,vs,rel,dd⟩
theorem uJ {H':Hp} {Q:Unit→Shared→Prop} (hu:A.units+1 < cLine) (I:Inv X pins σ H s) (g:DPut H a y v H') (ry:RelV y u) (rv:RelV v r) (h:∀ s',Inv X pins σ H' s'→Q () s') :
  wpAny (model X.prog X.w) A (setItem (.ref a) u r) Q E s:=by
 rcases g with ⟨kvs,k,e,ey,l,eH⟩ | ⟨kvs,k,b,e,ey,eb,l,eH⟩
 ·subst ey eH
  obtain ⟨z,hd,vs,rel,dd⟩:=sL I.hok e
  have hz:vs.length≤sizeLine:=by rw [← rel.length]; exact z
  have hl:(dX kvs k v).length≤sizeLine:=by have:=kY kvs k v; omega
  refine wpAny_setItem_pairs (hsz:=hz) (se ry) dd fun h' dd' hs=>h _ ?_
  have he:∃ q,h'.get? a=some q:=let ⟨q,_,_,hq,_⟩:=dd'; ⟨q,hq⟩
  exact rq I (by rw [e]; exact True.intro) hs he (GV hl hd (rel.put k rv) dd')
 ·subst ey eH
  cases (show u=Value.ref b from ry)
  obtain ⟨z,hd,xs,rel,dd⟩:=Bt I.hok e
  have hz:xs.length≤sizeLine:=by rw [← Paired.length rel]; exact z
  have hl:(dX kvs k v).length≤sizeLine:=by have:=kY kvs k v; omega
  refine wpAny_setItem_heap (hsz:=hz) (tupleKind_room_in1 hu) (oR I.hok eb) dd fun h' dd' hs=>h _ ?_
  obtain ⟨q,es,ep,hq,h2,h3,h4,_,h5⟩:=dd'
  refine rq I (by rw [e]; exact True.intro) hs ⟨q,hq⟩ ⟨hl,hd,_,(rel.put k eb rv).keeps fun c ys ec=>?_,q,es,ep,hq,h2,h3,h4,h5⟩
  rw [aP (Hq ec e (fun z=>nomatch z))]
  exact ec
end
section
variable {X:Cx} {pins:List (Addr × Obj)} {σ:St} {H:Hp} {s:Shared} {a:Addr} {kvs:List (Key × V)} {k:Key} {u:Value} {A:Around} {E:Value→Shared→Prop}
end
def Ii (ty td:TE):TE:=fun σ H Q=>ty σ H fun y H1=>td σ H1 fun x H2=>∃ a o,x=.ref a∧DGet H2 a y o∧Q (.bl o.isSome) H2
def qB (ty td:TE):TE:=fun σ H Q=>ty σ H fun y H1=>td σ H1 fun x H2=>∃ a o,x=.ref a∧DGet H2 a y o∧Q (.bl (!o.isSome)) H2
def AZ (td ty tv:TE):TS:=fun D σ H=>tv σ H fun v H1=>td σ H1 fun x H2=>ty σ H2 fun y H3=>∃ a H4,x=.ref a∧DPut H3 a y v H4∧D.nx σ H4
section
variable {X:Cx} {o i e value:Expr} {pos pos' tpos:Pos} {td ty tv:TE}
theorem tK (hu:X.A.units+1 < cLine) (hi:PE X i ty) (ho:PE X o td):PC X .NotIn i o (qB ty td):=by
 intro pins s σ H Q I h
 refine thn (hi pins s σ H _ I h) fun iv s1 ⟨y,H1,I1,ry,q1⟩=>thn (ho pins s1 σ H1 _ I1 q1) fun u s2 ⟨x,H2,I2,rx,a,ov,ex,g,q2⟩=>?_
 subst ex
 obtain rfl:u=Value.ref a:=rx
 exact CM hu I2 g ry fun s3 I3=>⟨.bl (!ov.isSome),H2,I3,rfl,q2⟩
theorem BJ (hu:X.A.units+1 < cLine) (ho:PE X o td) (hi:PE X i ty) (hv:PE X value tv) (hs:swapsWith value (some (.Subscript o i pos')) pos.line X.env=pure false) :
  PS X (.Assign [.Subscript o i pos'] value pos) (AZ td ty tv):=by
 intro pins s σ H D I h
 refine wpAny_Assign_Subscript (thn (hv pins s σ H _ I h) fun r s1 ⟨v,H1,I1,rv,q1⟩=>thn (ho pins s1 σ H1 _ I1 q1) fun u s2 ⟨x,H2,I2,rx,q2⟩=>thn (hi pins s2 σ H2 _ I2 q2) fun iv s3 ⟨y,H3,I3,ry,a,H4,ex,g,q3⟩=>?_) hs
 subst ex
 obtain rfl:u=Value.ref a:=rx
 exact uJ hu I3 g ry rv fun s4 I4=>⟨σ,H4,I4,q3⟩
end
theorem v6 {P:Program} {w:World} {H:Hp} (h:Heap) (hb:sysModules < h.objs.size):ObjOk P w H (h.push { cls:=.type "dict",data:=.dict #[] }) h.objs.size (.dK []) :=
 ⟨Nat.zero_le _,beq_eq_false_iff_ne.mpr (Ne.symm (Nat.ne_of_lt hb)),[],.nil,Heap.DictOf.new h⟩
def EY:TE:=fun _ H Q=>∀ p,H p=none→Q (.ref p) (upd H p (.dK []))
section
variable {X:Cx} {pos:Pos}
theorem pe_dnewK:PE X (.Dict [] [] pos) EY:=fun pins s σ H Q I h =>
 wpAny_Dict_empty ⟨.ref s.heap.objs.size,_,I.laid (a:=s.heap.objs.size) (o:=.dK []) (t':=s.toks) (fun _ _ q=>Heap.get?_push_of_some _ q) (Nat.le_refl _) (v6 s.heap I.big),rfl,h _ (I.hok.fresh (Nat.le_refl _))⟩
end
section
variable {X:Cx} {pins:List (Addr × Obj)} {σ:St} {H:Hp} {s:Shared} {a:Addr} {y d:V} {u r:Value} {o:Option V} {A:Around} {E:Value→Shared→Prop}
end
section
variable {X:Cx} {o e f:Expr} {apos cpos:Pos} {td ty tx:TE}
end
section
variable {X:Cx} {pins:List (Addr × Obj)} {σ:St} {H:Hp} {s:Shared} {a:Addr} {kvs:List (Key × V)} {A:Around} {E:Value→Shared→Prop}
end
section
variable {X:Cx} {pins:List (Addr × Obj)} {σ:St} {H:Hp} {s:Shared} {a:Addr} {y:V} {u:Value} {A:Around} {E:Value→Shared→Prop}
end
end L2
namespace L2
open PySem PySem.Spec PyProof.Rows
section
variable {X:Cx}
end
section
variable {κ:Type} [DecidableEq κ]
end
end L2
set_option maxHeartbeats 4000000
namespace L2
open PySem PySem.Spec PyProof.Rows
theorem Cs {α β:Type} {l:List α} {f:α→β→Sem (ForInStep β)} {g:β→α→β} (h:∀ x∈l,∀ c,f x c=pure (.yield (g c x))):∀ c,forIn l c f=pure (l.foldl g c):=by
 induction l with
 | nil=>intro c; rfl
 | cons x l ih =>
  intro c
  rw [List.forIn_cons,h x List.mem_cons_self,pure_bind]
  exact ih (fun y hy=>h y (List.mem_cons_of_mem _ hy)) (g c x)
def dM (env:Env) (acc:List (Str × Addr)) (x:Str × NameKind):List (Str × Addr) :=
 if x.2 == NameKind.free then (x.1,(env.cells.lookup x.1).getD 0) :: acc else acc
def dq (env:Env) (names:List (Str × NameKind)):List (Str × Addr):=names.foldl (dM env) []
theorem mn {scope:Scope} {env:Env} (h:∀ y∈scope.names,y.2=.free→∃ c,env.cells.lookup y.1=some c):closureFor scope env=pure (dq env scope.names):=by
 simp only [closureFor]
 rw [Cs (g:=dM env) (fun x hx c=>by
  obtain ⟨n,kind⟩:=x
  by_cases hk:kind=.free
  ·obtain ⟨a,e⟩:=h _ hx hk
   subst hk
   have e':env.cells.lookup n=some a:=e
   simp [cellOf,dM,e']
  ·have hb:(kind == NameKind.free)=false:=by simpa using hk
   simp [dM,hb])]
 rfl
theorem mo {env:Env}:∀ (names:List (Str × NameKind)) (acc:List (Str × Addr)) (p:Str × Addr),
  p∈names.foldl (dM env) acc→p∈acc∨((p.1,NameKind.free)∈names∧p.2=(env.cells.lookup p.1).getD 0)
 | [],_,_,h=>.inl h
 | (n,k) :: r,acc,p,h=>by
  rw [List.foldl_cons] at h
  rcases mo r _ p h with q | ⟨q,e⟩
  ·unfold dM at q
   by_cases hk:(k == NameKind.free)=true
   ·rw [if_pos hk] at q
    rcases List.mem_cons.mp q with z | z
    ·subst z
     have hk':k=NameKind.free:=by simpa using hk
     subst hk'
     exact .inr ⟨List.mem_cons_self,rfl⟩
    ·exact .inl z
   ·rw [if_neg hk] at q
    exact .inl q
  ·exact .inr ⟨List.mem_cons_of_mem _ q,e⟩
theorem k8 {env:Env}:∀ (names:List (Str × NameKind)) (acc:List (Str × Addr)) (p:Str × Addr),p∈acc→p∈names.foldl (dM env) acc
 | [],_,_,h=>h
 | x :: r,acc,p,h=>by
  rw [List.foldl_cons]
  refine k8 r _ p ?_
  unfold dM
  split
  ·exact List.mem_cons_of_mem _ h
  ·exact h
theorem mr {env:Env} {n:Str}:∀ (names:List (Str × NameKind)) (acc:List (Str × Addr)),(n,NameKind.free)∈names→∃ c,(n,c)∈names.foldl (dM env) acc
 | (m,k) :: r,acc,h=>by
  rw [List.foldl_cons]
  rcases List.mem_cons.mp h with e | e
  ·cases e
   exact ⟨(env.cells.lookup n).getD 0,k8 r _ _ (by unfold dM; rw [if_pos (show (((n,NameKind.free):Str × NameKind).2 == NameKind.free)=true from rfl)]; exact List.mem_cons_self)⟩
  ·exact mr r _ e
theorem fR {α:Type}:∀ {l:List (Str × α)} {n:Str} {c:α},(n,c)∈l→∃ c',l.lookup n=some c'
 | (m,d) :: r,n,c,h=>by
  rw [List.lookup_cons]
  cases hb:n == m with
  | true=>exact ⟨d,rfl⟩
  | false =>
   rcases List.mem_cons.mp h with e | e
   ·cases e
    simp at hb
   ·exact fR e
theorem pK {env:Env} {names:List (Str × NameKind)} {n:Str} (h:(n,NameKind.free)∈names):∃ c,(dq env names).lookup n=some c :=
 let ⟨_,e⟩:=mr (env:=env) names [] h
 fR e
theorem nA {env:Env} {names:List (Str × NameKind)} {n:Str} {c:Addr} (h:∀ y∈names,y.2=.free→∃ c,env.cells.lookup y.1=some c) (e:(dq env names).lookup n=some c):env.cells.lookup n=some c:=by
 rcases mo names [] (n,c) (PySem.mem_of_lookup e) with q | ⟨q,z⟩
 ·simp at q
 ·obtain ⟨a,ea⟩:=h _ q rfl
  have z':c=(env.cells.lookup n).getD 0:=z
  have ea':env.cells.lookup n=some a:=ea
  rw [ea'] at z'
  rw [ea',z']
  rfl
theorem i6 {env:Env}:∀ {names:List (Str × NameKind)} {x:Str} {k:NameKind},
  (names.map fun (n,k)=>if (k == NameKind.free && env.scope.kind == .function && env.kindOf n == some .cell) then (n,NameKind.cell) else (n,k)).lookup x=some k →
  names.lookup x=some k∨(names.lookup x=some .free∧k=.cell)
 | [],_,_,h=>by simp at h
 | (n,k0) :: r,x,k,h=>by
  rw [List.map_cons] at h
  cases hx:x == n with
  | true =>
   rcases Bool.eq_false_or_eq_true (k0 == NameKind.free && env.scope.kind == .function && env.kindOf n == some .cell) with hc | hc
   ·simp only [hc,if_true,List.lookup_cons,hx] at h
    have hk:k0=.free:=by
     simp only [Bool.and_eq_true,beq_iff_eq] at hc
     exact hc.1.1
    refine .inr ⟨?_,?_⟩
    ·simp only [List.lookup_cons,hx,hk]
    ·exact (Option.some.inj h).symm
   ·simp only [hc,Bool.false_eq_true,if_false,List.lookup_cons,hx] at h
    refine .inl ?_
    simp only [List.lookup_cons,hx]
    exact h
  | false =>
   have h':(r.map fun (n,k)=>if (k == NameKind.free && env.scope.kind == .function && env.kindOf n == some .cell) then (n,NameKind.cell) else (n,k)).lookup x=some k:=by
    rcases Bool.eq_false_or_eq_true (k0 == NameKind.free && env.scope.kind == .function && env.kindOf n == some .cell) with hc | hc
    ·simp only [hc,if_true,List.lookup_cons,hx] at h
     exact h
    ·simp only [hc,Bool.false_eq_true,if_false,List.lookup_cons,hx] at h
     exact h
   simp only [List.lookup_cons,hx]
   exact i6 h'
theorem lK {env:Env}:∀ {names:List (Str × NameKind)} {x:Str},names.lookup x=some .free →
  (names.map fun (n,k)=>if (k == NameKind.free && env.scope.kind == .function && env.kindOf n == some .cell) then (n,NameKind.cell) else (n,k)).lookup x=some .cell ∨
  (names.map fun (n,k)=>if (k == NameKind.free && env.scope.kind == .function && env.kindOf n == some .cell) then (n,NameKind.cell) else (n,k)).lookup x=some .free
 | [],_,h=>by simp at h
 | (n,k0) :: r,x,h=>by
  rw [List.map_cons]
  cases hx:x == n with
  | true =>
   simp only [List.lookup_cons,hx] at h
   rcases Bool.eq_false_or_eq_true (k0 == NameKind.free && env.scope.kind == .function && env.kindOf n == some .cell) with hc | hc
   ·refine .inl ?_
    simp only [hc,if_true,List.lookup_cons,hx]
   ·refine .inr ?_
    simp only [hc,Bool.false_eq_true,if_false,List.lookup_cons,hx]
    exact h
  | false =>
   simp only [List.lookup_cons,hx] at h
   have ih:=lK (env:=env) h
   rcases Bool.eq_false_or_eq_true (k0 == NameKind.free && env.scope.kind == .function && env.kindOf n == some .cell) with hc | hc
   ·simp only [hc,if_true,List.lookup_cons,hx]
    exact ih
   ·simp only [hc,Bool.false_eq_true,if_false,List.lookup_cons,hx]
    exact ih
def dP (js:List (Option Nat)) (σ:St):St:=js.map fun j=>match j with
 | some j=>(σ[j]?).join
 | none=>none
end L2
namespace L2
open PySem PySem.Spec PyProof.Rows
def PTs (X:Cx) (ifs:List Expr) (tt:TT):Prop :=
 ∀ (pins:List (Addr × Obj)) (s:Shared) (σ:St) (H:Hp) (Q:Bool→Hp→Prop),Inv X pins σ H s→tt σ H Q →
  wpAny (model X.prog X.w) X.A (forIn ifs true fun c r=>if r=true then do let ok ← isTrue c X.env (eval c X.env); pure (ForInStep.yield ok) else pure (ForInStep.yield r)) (TP X pins σ Q) X.xe s
def Ih:TT:=fun _ H Q=>Q true H
theorem pts_nil {X:Cx}:PTs X [] Ih:=fun _ _ _ H _ I h=>wpAny_tests_nil ⟨H,I,h⟩
theorem BF {X:Cx} {c:Expr} {tc:TT} (hc:PT X c tc):PTs X [c] tc:=fun pins s σ H Q I h=>wpAny_tests_one (hc pins s σ H Q I h)
def FM (g:TG) (tt:TT) (te:TE) (D:Addr) (x:V) (τ:St) (H:Hp) (N:St→Hp→Prop):Prop :=
 g x τ H fun τ4 H4=>tt τ4 H4 fun b H5=>if b=true then te τ4 H5 fun v H6=>∃ xs,H6 D=some (.lst xs)∧xs.length < sizeLine∧N τ4 (upd H6 D (.lst (xs++[v]))) else N τ4 H5
def Bb (J:It) (g:TG) (tt:TT) (te:TE) (σ0:St) (H1:Hp) (D:Addr) (Q:VK):Prop :=
 ∃ W:Nat→Nat→St→Hp→Prop,(∃ m,W 0 m σ0 (upd H1 D (.lst []))) ∧
  ∀ i m τ H2,W i m τ H2→(J.stop i H2∧Q (.ref D) H2)∨(J.go i H2∧∃ N:St→Hp→Prop,(∀ τ' H',N τ' H'→∃ m',m' < m∧W (i+1) m' τ' H')∧∀ x H3,J.yld i H2 x H3→FM g tt te D x τ H3 N)
def tLC (wi:TI) (g:TG) (tt:TT) (te:TE) (js:List (Option Nat)):TE:=fun σ H Q =>
 wi σ H fun J H1=>∀ D,H1 D=none→Bb J g tt te (dP js σ) H1 D Q
theorem thF {α:Type} {t:Sem α} {Q Q':α→Shared→Prop} {M:Model} {A:Around} {E:Value→Shared→Prop} {s:Shared} (h:wpAny M A t Q (fun _ _=>False) s) (hQ:∀ a s,Q a s→Q' a s):wpAny M A t Q' E s :=
 wpAny_mono h hQ fun _ _ x=>x.elim
section
variable {X:Cx} {elt tg iter:Expr} {ifs:List Expr} {scope:Scope} {pos:Pos} {ns:List Str} {js:List (Option Nat)} {wi:TI} {g:TG} {tt:TT} {te:TE}
end
end L2
namespace L2
open PySem PySem.Spec PyProof.Rows
section
variable {X:Cx}
theorem v9:CallR X (.builtin "isinstance") (fun xs H Q=>∃ x t n b,xs=[x,.ty n]∧TyOf X.K H x t∧PySem.W.kitOne X.K t (.type n)=some b∧Q (.bl b) H):=by
 intro pins s σ H xs us Q I r h
 obtain ⟨x,t,n,b,rfl,ty,e,q⟩:=h
 obtain ⟨u,w',rfl,r1,r2⟩:=G7 r
 cases r2
 exact ug I r1 ty e fun tk=>⟨.bl b,H,I.tok _,rfl,q⟩
end
section
open PySem.SeqAt
variable {X:Cx} {pins:List (Addr × Obj)} {σ:St} {H:Hp} {s:Shared}
end
section
variable {X:Cx}
theorem jK:∀ {xs:List V} {us:List Value},Vals xs us→Vals xs.reverse us.reverse
 | _,_,.nil=>.nil
 | _,_,.cons r t=>by
  rw [List.reverse_cons,List.reverse_cons]
  exact (jK t).append (.cons r .nil)
end
end L2
namespace L2
open PySem PySem.Spec PyProof.Rows
def Kn (P:Program) (w:World) (K:PySem.W.Frag) (mg:Str→Option Value) (base:Heap) (k:Nat) (x:Str) (ps:List Str) (sp:Sp):Prop :=
 ∃ f fd,FnOk P w K mg base CX0 k f fd ps sp∧mg x=some (.ref f)∧PySem.W.keepIn K (.ref f)=true∧Binds K fd ps []
theorem Kn.mono {P:Program} {w:World} {K:PySem.W.Frag} {mg:Str→Option Value} {base:Heap} {j k:Nat} {x:Str} {ps:List Str} {sp:Sp} (G:Kn P w K mg base j x ps sp) (h:j≤k):Kn P w K mg base k x ps sp :=
 let ⟨f,fd,a,b,c,d⟩:=G
 ⟨f,fd,a.mono h,b,c,d⟩
section
variable {X:Cx} {k:Nat} {x:Str} {ps:List Str} {sp:Sp} {p pos:Pos} {e:Expr} {es:List Expr} {t:TA}
theorem A7 (G:Kn X.prog X.w X.K X.mg X.base k x ps sp) (hr:Room k X.A) (hg:Gl X x) (ha:PA X (e :: es) t) (hdb:(x == ("__debug__" : Str))=false:=by decide)
  (he:starEach (e :: es) X.env=(false,eval e X.env) :: starEach es X.env:=by rfl) (hpl:(backTo pos (starEach es X.env)).any (·.1)=false:=by rfl) :
  PE X (.Call (.Name x p) (e :: es) [] pos) (rK sp [] E0 t):=by
 obtain ⟨f,fd,F,hm,hk,hb⟩:=G
 exact BP F hr hg hm hk hb .nil Hl ha hdb he hpl
end
def Il (K:PySem.W.Frag):List V→Hp→VK→Prop:=fun xs H Q=>∃ x n,xs=[x]∧G4 K x H n∧Q (.int n) H
def E7 (K:PySem.W.Frag):List V→Hp→VK→Prop:=fun xs H Q=>∃ p ys,xs=[.ref p]∧((SqL K H p ys∧∀ l,H l=none→Q (.ref l) (upd H l (.tup ys)))∨(SqT K H p ys∧Q (.ref p) H))
section
variable {X:Cx} {K:PySem.W.Frag}
theorem Ir (hK:X.K=K):CallR X (.builtin "len") (Il K):=by subst hK; exact v8
theorem FQ (hK:X.K=K):CallR X (.type "tuple") (E7 K):=by subst hK; exact nO
theorem Is (hK:X.K=K):IxR X (rN K):=by subst hK; exact ix_list
theorem Iq (hK:X.K=K):SlR X (E9 K):=by subst hK; exact BD
theorem Ip (hK:X.K=K):SlR X (E8 K):=by subst hK; exact E4
theorem Hv (hK:X.K=K):OpR X (binaryOp .Add) (A5 K):=by subst hK; exact BQ
variable {tg l:Expr} {tl:TE} {es:List Expr} {t:TGs} {n k:Nat} {pos p p2 cpos apos:Pos}
end
end L2
namespace L2
open PySem PySem.Spec PyProof.Rows
def sgn (c:Nat):V:=.str ⟨#[c]⟩
def Its (z:Str):It:=⟨fun i _=>i < z.cps.size,fun i H x H'=>H'=H∧∃ c,z.cps[i]?=some c∧x=sgn c,fun i _=>z.cps.size≤i⟩
theorem uY {P:Program} {w:World} {K:PySem.W.Frag} {tg:Expr} (it:Addr) (z:Str) (t:Tok) (ty:String) (hty:ty="str_ascii_iterator"∨ty="str_iterator") :
  Turn P w K tg (Its z) [it] it (fun i h=>h.IsStrIter it ty z t i) where
 mem:=by simp
 obj:=fun i h st b hb=>by
  have e:b=it:=by simpa using hb
  subst e
  obtain ⟨o,e,c,d⟩:=st
  exact ⟨o,e,fun v q=>by rw [d] at q; cases q⟩
 keep:=fun i h h' st k=>let ⟨o,e,r⟩:=st; ⟨o,k it (by simp) o e,r⟩
 item:=by
  intro X hP hw hK hc i pins s σ H E I hf st hg
  subst hP hw hK
  obtain ⟨f0,f1,f2,f3,f4,f5⟩:=hf it (by simp)
  have W:Walks X.prog X.w X.A it [it] [it] z.cps.size (SignAt z) (fun i h=>h.IsStrIter it ty z t i):=by
   rcases hty with rfl | rfl
   ·exact Walks.strAscii (I.ok.hd hc) it z t
   ·exact Walks.strWide (I.ok.hd hc) it z t
  refine W.item i s _ _ hg st fun v h' tk hv st' kk=>?_
  obtain ⟨c,u,hcv,rfl⟩:=hv
  have I1:Inv X pins σ H { s with heap:=h',toks:=tk }:=I.turned (fun b o hb e=>kk b o (by simpa using hb) e) f0 f1 f3 f4 f5
  obtain ⟨o,e,ec,ed⟩:=id st'
  refine ⟨_,rfl,nS (s:={ s with heap:=h',toks:=tk }) (n:=ty) e ec ed (by rcases hty with rfl | rfl <;> decide) ⟨sgn c,H,I1,⟨u,rfl⟩,⟨rfl,c,hcv,rfl⟩,st',fun b hb=>(hf b hb).1⟩⟩
 done:=by
  intro X hP hw hK hc i pins s σ H E I hf st hg
  subst hP hw hK
  obtain ⟨f0,f1,f2,f3,f4,f5⟩:=hf it (by simp)
  have hle:z.cps.size≤i:=hg
  rcases hty with rfl | rfl
  ·exact wpAny_pyNext_ascii_end (I.ok.hd hc) st (by simpa using hle) fun h' he=>⟨rfl,I.turned (t':=s.toks) (fun b o hb e=>he b o hb e) f0 f1 f3 f4 f5⟩
  ·exact wpAny_pyNext_wide_end (I.ok.hd hc) st (by simpa using hle) fun h' he=>⟨rfl,I.turned (t':=s.toks) (fun b o hb e=>he b o hb e) f0 f1 f3 f4 f5⟩
 self:=fun A i s Q E st h=>by
  rcases hty with rfl | rfl
  ·exact wpAny_pyIter_striter_ascii st h
  ·exact wpAny_pyIter_striter_wide st h
section
variable {X:Cx} {tg:Expr} {K:PySem.W.Frag}
theorem kT:∀ {xs:List V} {us:List Value},xs.length=us.length→(∀ (i:Nat) x u,xs[i]?=some x→us[i]?=some u→RelV x u)→Vals xs us
 | [],[],_,_=>.nil
 | [],_ :: _,h,_=>by cases h
 | _ :: _,[],h,_=>by cases h
 | x :: xs,u :: us,h,f=>.cons (f 0 x u rfl rfl) (kT (Nat.succ.inj h) fun i y v a b=>f (i+1) y v (by simpa using a) (by simpa using b))
theorem lF {ys:List Str}:∀ {us:List Value},Vals (ys.map V.str) us→StrsAre us ys:=by
 induction ys with
 | nil=>intro us r; cases r; exact .nil
 | cons y ys ih =>
  intro us r
  cases r with
  | cons r1 r2 =>
   obtain ⟨t,e⟩:=r1
   subst e
   exact .cons y t (ih r2)
def A4 (K:PySem.W.Frag):V→List V→Hp→VK→Prop:=fun x xs H Q=>∃ sep ys p,x=.str sep∧xs=[.ref p]∧(SqL K H p (ys.map V.str)∨SqT K H p (ys.map V.str))∧sep.length≤16∧(ys.map (·.length)).sum+ys.length≤1048576∧Q (.str (Txt.join sep ys)) H
theorem kE (hK:X.K=K):MtR X "str.join" (A4 K):=by
 subst hK
 intro pins s σ H x xs v us Q I rx rs h
 obtain ⟨sep,ys,p,rfl,rfl,hp,hs,hw,q⟩:=h
 obtain ⟨t,rfl⟩:=rx
 obtain ⟨u,rfl,ru⟩:=gZ rs
 cases ru
 rcases hp with hp | hp
 ·obtain ⟨its,rv,pl,_⟩:=I.list hp
  exact join_listW pl.isList (by simpa using lF rv) hs hw fun t' k=>⟨.str _,H,I.tok k,⟨_,rfl⟩,q⟩
 ·obtain ⟨its,rv,pl,_⟩:=I.tuple hp
  exact join_tupleW pl (by simpa using lF rv) hs hw fun t' k=>⟨.str _,H,I.tok k,⟨_,rfl⟩,q⟩
def dZ (xs:List Nat) (lo hi:Option Int):List Nat:=(xs.drop (HT.sIx xs.length 0 lo)).take (HT.sIx xs.length xs.length hi - HT.sIx xs.length 0 lo)
theorem ot (n d:Nat) (v:Option Int) (h:d≤n):HT.sIx n d v≤n:=by
 cases v with
 | none=>exact h
 | some i =>
  unfold HT.sIx
  dsimp only
  split <;> omega
theorem u3 (lo hi:Option Int) (n:Nat):Builtin.Str.strSliceIndices lo hi 1 n=(List.range (HT.sIx n n hi - HT.sIx n 0 lo)).map (HT.sIx n 0 lo+·):=by
 obtain ⟨h1,h2,h3⟩:=jP lo hi n
 have e:Builtin.Str.strSliceIndices lo hi 1 n=sliceRange (sliceBounds lo hi none n).1 (sliceBounds lo hi none n).2.1 (sliceBounds lo hi none n).2.2:=by
  cases lo <;> cases hi <;> rfl
 rw [e,h1,h2,h3,sliceRange_one]
theorem rM (x:Str) (lo hi:Option Int):Txt.slice x lo hi=⟨(dZ x.cps.toList lo hi).toArray⟩:=by
 unfold Txt.slice
 have hl:x.length=x.cps.toList.length:=by simp [Str.length]
 rw [u3]
 have e:(((List.range (HT.sIx x.length x.length hi - HT.sIx x.length 0 lo)).map (HT.sIx x.length 0 lo+·)).filterMap (x.cps[·]?))=dZ x.cps.toList lo hi:=by
  rw [pick_run,hl]
  rfl
 rw [e]
 split
 ·rename_i hc
  have hc':HT.sIx x.length x.length hi - HT.sIx x.length 0 lo=x.length:=by simpa using hc
  have h1:=ot x.length x.length hi (Nat.le_refl _)
  have ha:HT.sIx x.length 0 lo=0∨x.length=0:=by omega
  have:dZ x.cps.toList lo hi=x.cps.toList:=by
   unfold dZ
   rw [← hl,hc']
   rcases ha with z | z
   ·rw [z,List.drop_zero,hl,List.take_length]
   ·rw [z,List.take_zero]
    rw [hl] at z
    exact (List.eq_nil_of_length_eq_zero z).symm
  rw [this]
 ·rfl
def Ij:V→Option Int→Option Int→Hp→VK→Prop:=fun x lo hi H Q=>∃ z,x=.str z∧z.length≤sizeLine∧Q (.str ⟨(dZ z.cps.toList lo hi).toArray⟩) H
theorem sl_str:SlR X Ij:=by
 intro pins s σ H x v vl vu lo hi sl Q I rx hs pl pu h
 obtain ⟨z,rfl,hz,q⟩:=h
 obtain ⟨t,rfl⟩:=rx
 rw [← rM] at q
 have go:∀ (l u:Option (Int × Tok)),s.heap.IsSlice sl l u none→l.map (·.1)=lo→u.map (·.1)=hi→wpAny (model X.prog X.w) X.A (getItem (.str z t) (.ref sl)) (EP X pins σ Q) X.xe s:=fun l u hsl e1 e2=>by
  subst e1 e2
  exact wpAny_getItem_str_slice (st:=none) hsl rfl (post_val_or_str ⟨Nat.le_trans (Txt.slice_le z _ _) hz,fun t' k=>⟨.str _,H,I.tok k,⟨_,rfl⟩,q⟩⟩)
 refine ⟨"str",_,F.slot_str_getitem.lookup,typeIs_str _ _ _,?_⟩
 cases pl with
 | none =>
  cases pu with
  | none=>exact go none none hs rfl rfl
  | int j u=>exact go none (some (j,u)) hs rfl rfl
 | int i t =>
  cases pu with
  | none=>exact go (some (i,t)) none hs rfl rfl
  | int j u=>exact go (some (i,t)) (some (j,u)) hs rfl rfl
def Fe (K:PySem.W.Frag):R2:=fun x y H Q=>∃ a b ys,x=.ref a∧y=.ref b∧SqT K H a []∧SqT K H b ys∧Q (.ref b) H
theorem ve (hK:X.K=K):OpR X (binaryOp .Add) (Fe K):=by
 subst hK
 intro pins s σ H x y v u Q I rx ry h
 obtain ⟨a,b,ys,rfl,rfl,ha,hb,q⟩:=h
 cases rx
 cases ry
 obtain ⟨its,r1,p1,_⟩:=I.tuple ha
 obtain ⟨its2,r2,p2,_⟩:=I.tuple hb
 cases r1
 obtain ⟨⟨cls,dd,data,sl⟩,ho,hc,n,hd⟩:=id p1
 obtain ⟨⟨cls2,dd2,data2,sl2⟩,ho2,hc2,n2,hd2⟩:=id p2
 simp only at hc hd hc2 hd2
 subst hc hd hc2 hd2
 exact concat_meets ⟨_,ho,rfl⟩ ⟨_,ho2,rfl⟩ noFill_tuple_add seq_tuple_add PySem.F.slot_tuple_add PySem.F.entry_tuple_add (PySem.F.args_tuple_add_2 _ _)
  (tuple_addW0 a b _ _ n n2 dd dd2 sl sl2 (by simp)) ⟨ho,ho2,⟨.ref b,H,I,rfl,q⟩⟩
end
end L2
namespace L2
open PySem PySem.Spec PyProof.Rows
section
variable {l l':List Addr} {H H':Hp} {a b:Addr} {o:HO}
end
section
variable {K:PySem.W.Frag}
end
end L2
namespace L2
open PySem PySem.Spec PyProof.Rows
section
variable {X:Cx} {tg:Expr} {K:PySem.W.Frag}
end
theorem pi {α β:Type} {f g:α→Option β}:∀ {l:List α},(∀ a∈l,f a=g a)→l.filterMap f=l.filterMap g
 | [],_=>rfl
 | a :: l,h=>by
  rw [List.filterMap_cons,List.filterMap_cons,h a List.mem_cons_self,pi fun b hb=>h b (List.mem_cons_of_mem _ hb)]
section
variable {prog:Program} {w:World} {A:Around} {E:Value→Shared→Prop} {s:Shared}
theorem qv {sl:Addr} {n:Nat} {t:Tok} {Q:Int × Int × Nat→Shared→Prop} (hs:s.heap.IsSliceOf sl .none .none (.int (-1) t))
  (h:Q ((n:Int) - 1,-1,n) s):wpAny (model prog w) A (Builtin.Slice.sliceApplied (.ref sl) (pure (n:Int))) Q E s:=by
 obtain ⟨os,hos,hcs,hds⟩:=id hs
 unfold Builtin.Slice.sliceApplied Builtin.Slice.sliceFields
 refine wpAny_bind (wpAny_bind (wpAny_field hos hds (x:=.none) rfl (wpAny_bind (wpAny_field hos hds (x:=.none) rfl (wpAny_bind (wpAny_field hos hds (x:=.int (-1) t) rfl (wpAny_pure ?_)))))))
 refine wpAny_bind (HT.slicePart_ (.int (-1) t) ?_)
 show wpAny _ _ (if ((-1:Int) == 0)=true then _ else _) _ _ s
 rw [if_neg (by decide)]
 refine wpAny_bind (HT.slicePart_ .none (wpAny_bind (HT.slicePart_ .none (wpAny_bind (wpAny_pure ?_)))))
 show wpAny _ _ (match Builtin.Slice.sliceAdjust none none (-1) (n:Int) with | (lo,hi)=>pure (lo,(-1:Int),Builtin.Slice.slicePlaces lo hi (-1))) _ _ s
 have e:Builtin.Slice.sliceAdjust none none (-1) (n:Int)=((n:Int) - 1,-1):=by
  first
   | rfl
   | simp [Builtin.Slice.sliceAdjust]
 rw [e]
 show wpAny _ _ (pure ((n:Int) - 1,(-1:Int),Builtin.Slice.slicePlaces ((n:Int) - 1) (-1) (-1))) _ _ s
 have e2:Builtin.Slice.slicePlaces ((n:Int) - 1) (-1) (-1)=n:=by
  unfold Builtin.Slice.slicePlaces
  have h1:¬ ((-1:Int) > 0):=by omega
  simp only [h1,if_false]
  split
  ·simp
   try omega
  ·omega
 rw [e2]
 exact wpAny_pure h
theorem kS {t sl:Addr} {u:Tok} {items:Array Value} {Q:Value→Shared→Prop} (ht:IsTup s.heap t items) (hs:s.heap.IsSliceOf sl .none .none (.int (-1) u))
  (h:Q (.ref s.heap.objs.size) { s with heap:=s.heap.push { cls:=.type "tuple",data:=.seq items.toList.reverse.toArray } })
  (hsz:items.size≤sizeLine):wpAny (model prog w) A (getItem (.ref t) (.ref sl)) Q E s:=by
 have htake:sizeOk (.seq items.toList.reverse.toArray):=by
  show items.toList.reverse.toArray.size≤sizeLine
  rw [List.size_toArray,List.length_reverse,Array.length_toList]
  exact hsz
 obtain ⟨os,hos,hcs,hds⟩:=id hs
 have hTs:s.TypeIs (.ref sl) "slice":=⟨os,hos,hcs⟩
 unfold getItem
 try with_reducible refine wpAny_holding ?_
 first | refine wpAny_bind (wpAny_pure ?_) | skip
 refine wpAny_bind (wpAny_sequenceKey ht.typeIs (by decide) ?_)
 refine wpAny_bind (wpAny_callSpecial?_slot (name:=Str.ofString "__getitem__") ht.typeIs PyProof.Rows.slot_tuple_getitem
  (wpAny_call_entry PyProof.Rows.slot_tuple_getitem ht.typeIs entry_tuple_getitem ?_ (args_tuple_getitem _ _)))
 show wpAny _ _ (Builtin.Tuple.tupleItemsOf (.ref t) >>= _) _ _ s
 refine wpAny_bind (tupleItemsOf_ ht ?_)
 refine wpAny_bind (wpAny_typeOf hTs ?_)
 rw [if_pos (by decide)]
 refine wpAny_bind (qv hs ?_)
 have hno:¬ (((items.size:Int) - 1 == 0 && (-1:Int) == 1 && items.size == items.size)=true):=by
  intro q
  rw [show ((-1:Int) == 1)=false by decide,Bool.and_false,Bool.false_and] at q
  cases q
 show wpAny _ _ (if ((items.size:Int) - 1 == 0 && (-1:Int) == 1 && items.size == items.size)=true then _ else _) _ _ s
 have pick:((List.range items.size).filterMap fun (m:Nat)=>items[((items.size:Int) - 1+(m:Int) * -1).toNat]?).toArray=items.toList.reverse.toArray:=by
  have e:((List.range items.size).filterMap fun (m:Nat)=>items[((items.size:Int) - 1+(m:Int) * -1).toNat]?)=((List.range items.size).map fun k=>items.size - 1 - k).filterMap (items[·]?):=by
   rw [List.filterMap_map]
   refine pi fun m hm=>?_
   have:=List.mem_range.mp hm
   have e:((items.size:Int) - 1+(m:Int) * -1).toNat=items.size - 1 - m:=by omega
   rw [e]
   rfl
  rw [e,PySem.W.krv_range,List.filterMap_reverse,PySem.W.krv_all]
 rw [if_neg hno,pick]
 first
  | exact wpAny_bind (m:=Builtin.Tuple.tupleExact _) (wpAny_newObj_type (wpAny_pure ⟨_,rfl,wpAny_pure h⟩) htake)
  | exact wpAny_bind (m:=Builtin.Tuple.tupleExact _) (wpAny_newObj_type (wpAny_bind (wpAny_pure (wpAny_pure ⟨_,rfl,wpAny_pure h⟩))) htake)
  | exact wpAny_bind (wpAny_bind (m:=Builtin.Tuple.tupleExact _) (wpAny_newObj_type (wpAny_pure (wpAny_pure ⟨_,rfl,wpAny_pure h⟩)) htake))
  | exact wpAny_bind (wpAny_bind (m:=Builtin.Tuple.tupleExact _) (wpAny_newObj_type (wpAny_pure ⟨_,rfl,wpAny_pure h⟩) htake))
end
section
variable {X:Cx} {tg:Expr} {K:PySem.W.Frag}
def Ha (K:PySem.W.Frag) (te tk:TE):TE:=fun σ H Q=>te σ H fun x H1=>tk σ H1 fun y H2=>∃ a xs,x=.ref a∧y=.int (-1)∧SqT K H2 a xs∧∀ p,H2 p=none→Q (.ref p) (upd H2 p (.tup xs.reverse))
theorem vq {e k:Expr} {te tk:TE} {p2 pos:Pos} (hK:X.K=K) (he:PE X e te) (hk:PE X k tk):PE X (.Subscript e (.Slice none none (some k) p2) pos) (Ha K te tk):=by
 subst hK
 intro pins s σ H Q I h
 refine Subscript_ (thn (he pins s σ H _ I h) fun v s1 ⟨x,H1,I1,r1,q1⟩=>?_)
 refine wpAny_Slice ?_
 rw [evalPart_none]
 refine wpAny_pure (wpAny_pure ?_)
 rw [evalPart_some]
 refine thn (hk pins s1 σ H1 _ I1 q1) fun vk s3 ⟨y,H3,I3,r3,q3⟩=>?_
 obtain ⟨a,xs,rfl,rfl,hx,q⟩:=q3
 obtain ⟨t,rfl⟩:=r3
 cases r1
 have I4:Inv X pins σ H3 { s3 with heap:=s3.heap.push { cls:=.type "slice",data:=.fields #[.none,.none,.int (-1) t] } }:=I3.kept (t':=s3.toks) fun b ob q=>Heap.get?_push_of_some _ q
 obtain ⟨its,r,ht,hz⟩:=I4.tuple hx
 show wpAny (model X.prog X.w) X.A (subscriptTail e (.Slice none none (some k) p2) (.ref a) (.ref s3.heap.objs.size)) (EP X pins σ Q) X.xe { s3 with heap:=s3.heap.push { cls:=.type "slice",data:=.fields #[.none,.none,.int (-1) t] } }
 refine tail_any (ops:=[.ref a,.ref s3.heap.objs.size]) ht.typeIs PyProof.Rows.slot_tuple_getitem.lookup ?_ (by with_unfolding_all rfl)
 have hlen:=r.length
 refine kS ht (Heap.IsSliceOf.new ..) ?_ (by rw [List.size_toArray] <;> omega)
 refine ⟨.ref _,_,I4.laid (t':=s3.toks) (o:=.tup xs.reverse) (fun b ob q=>Heap.get?_push_of_some _ q) (Nat.le_refl _) ?_,rfl,q _ (I4.hok.fresh (Nat.le_refl _))⟩
 exact ⟨by rw [List.length_reverse]; exact hz,its.reverse,jK r,IsTupN.new _ _⟩
end
end L2
namespace L2
open PySem PySem.Spec PyProof.Rows
abbrev li (z:Str):List Nat:=z.cps.toList
def mk1 (c:Nat):Str:=⟨#[c]⟩
def ofL (l:List Nat):Str:=⟨l.toArray⟩
theorem tM (z:Str):ofL (li z)=z:=rfl
theorem fM {a b:Str} (h:li a=li b):a=b:=by rw [← tM a,← tM b,h]
theorem oP (z:Str):z.length=(li z).length:=rfl
theorem tY (a b:Str):li (a++b)=li a++li b:=by
 show (a.cps++b.cps).toList=_
 rw [Array.toList_append]
def emp:Str:=""
def cat (ks:List Str):Str:=Txt.join emp ks
def bf (ks:List Str):List Nat:=(ks.map li).flatten
theorem GY (ks:List Str):li (cat ks)=bf ks:=by
 unfold cat Txt.join bf
 rw [StrLaws.glued_eq_join]
 induction ks with
 | nil=>rfl
 | cons x r ih =>
  cases r with
  | nil =>
   show li x=_
   simp
  | cons y r =>
   show li (x++emp++Str.join emp (y :: r))=_
   rw [tY,tY,ih]
   show li x++[]++_=li x++((y :: r).map li).flatten
   rw [List.append_nil]
theorem nG (ks:List Str) (x:Str):bf (ks++[x])=bf ks++li x:=by
 unfold bf
 rw [List.map_append,List.flatten_append]
 simp
theorem pQ (ks:List Str):(ks.map (·.length)).sum=(bf ks).length:=by
 unfold bf
 rw [List.length_flatten,List.map_map]
 rfl
def Sub (x z:List Nat):Prop:=∀ c∈x,c∈z
theorem pG (xs:List V) (i:Int) (h0:0≤i) (h1:i≤(xs.length:Int)):fS xs none (some i)=xs.take i.toNat:=by
 unfold fS HT.sIx
 dsimp only
 rw [if_neg (by omega),List.drop_zero,Nat.sub_zero,Nat.min_eq_left (by omega)]
end L2
namespace L2
open PySem PySem.Spec PyProof.Rows
section
variable {prog:Program} {w:World} {A:Around} {E:Value→Shared→Prop} {s:Shared}
end
section
variable {prog:Program} {w:World} {A:Around} {E:Value→Shared→Prop} {s:Shared}
end
section
variable {X:Cx} {K:PySem.W.Frag}
def qJ:V→List V→Hp→VK→Prop:=fun x xs H Q=>∃ z y,x=.str z∧xs=[.str y]∧Q (.bl (Txt.startswith z y)) H
theorem ni:MtR X "str.startswith" qJ:=by
 intro pins s σ H x xs v us Q I rx rs h
 obtain ⟨z,y,rfl,rfl,q⟩:=h
 obtain ⟨t,rfl⟩:=rx
 obtain ⟨u,rfl,ru⟩:=gZ rs
 obtain ⟨t2,rfl⟩:=ru
 exact SC.startswith ⟨.bl _,H,I,rfl,q⟩
def uj (z y:Str):Bool:=!(Builtin.Str.occurrences z y 0 z.length 1).isEmpty
end
section
open PySem.SeqAt
end
end L2
namespace L2
open PySem PySem.Spec PyProof.Rows
theorem dO:∀ (names:List (Str × NameKind)) (n:Nat) (acc:List (Str × Addr)),cellsFrom n names acc=cellsFrom n names []++acc
 | [],_,_=>rfl
 | (x,k) :: r,n,acc=>by
  unfold cellsFrom
  split
  ·rw [dO r (n+1) ((x,n) :: acc),dO r (n+1) [(x,n)],List.append_assoc]
   rfl
  ·exact dO r n acc
theorem fT:∀ (names:List (Str × NameKind)) (n:Nat) (acc:List (Str × Addr)) {x:Str} {c:Addr},(x,c)∈cellsFrom n names acc→(x,c)∈acc∨(x,NameKind.cell)∈names
 | [],_,_,_,_,h=>.inl h
 | (y,k) :: r,n,acc,x,c,h=>by
  unfold cellsFrom at h
  split at h
  ·rename_i hk
   rcases fT r _ _ h with h | h
   ·rcases List.mem_cons.mp h with e | e
    ·have hk':k=.cell:=by simpa using hk
     have e':=(Prod.mk.inj e).1
     rw [e',← hk']
     exact .inr List.mem_cons_self
    ·exact .inl e
   ·exact .inr (List.mem_cons_of_mem _ h)
  ·rcases fT r _ _ h with h | h
   ·exact .inl h
   ·exact .inr (List.mem_cons_of_mem _ h)
theorem fg:∀ (names:List (Str × NameKind)) (n:Nat) (acc:List (Str × Addr)) {p:Str × Addr},p∈acc→p∈cellsFrom n names acc
 | [],_,_,_,h=>h
 | (y,k) :: r,n,acc,p,h=>by
  unfold cellsFrom
  split
  ·exact fg r _ _ (List.mem_cons_of_mem _ h)
  ·exact fg r _ _ h
theorem fU:∀ (names:List (Str × NameKind)) (n:Nat) (acc:List (Str × Addr)) {x:Str},(x,NameKind.cell)∈names→∃ c,(x,c)∈cellsFrom n names acc
 | [],_,_,_,h=>by simp at h
 | (y,k) :: r,n,acc,x,h=>by
  unfold cellsFrom
  rcases List.mem_cons.mp h with e | e
  ·cases e
   rw [if_pos (by rfl)]
   exact ⟨n,fg r _ _ List.mem_cons_self⟩
  ·split
   ·exact fU r _ _ e
   ·exact fU r _ _ e
theorem oM {α:Type}:∀ {a b:List (Str × α)} {x:Str} {c:α},(a++b).lookup x=some c→a.lookup x=some c∨(a.lookup x=none∧b.lookup x=some c)
 | [],_,_,_,h=>.inr ⟨rfl,h⟩
 | (n,v) :: r,b,x,c,h=>by
  rw [List.cons_append,List.lookup_cons] at h
  rw [List.lookup_cons]
  cases e:x == n with
  | true=>rw [e] at h; exact .inl h
  | false=>rw [e] at h; exact oM h
theorem jW {α:Type}:∀ {a b:List (Str × α)} {x:Str} {c:α},a.lookup x=some c→(a++b).lookup x=some c
 | [],_,_,_,h=>by simp at h
 | (n,v) :: r,b,x,c,h=>by
  rw [List.cons_append,List.lookup_cons]
  rw [List.lookup_cons] at h
  cases e:x == n with
  | true=>rw [e] at h; exact h
  | false=>rw [e] at h; exact jW h
theorem jb {α:Type}:∀ {a b:List (Str × α)} {x:Str} {c:α},a.lookup x=none→b.lookup x=some c→(a++b).lookup x=some c
 | [],_,_,_,_,h=>h
 | (n,v) :: r,b,x,c,hn,h=>by
  rw [List.cons_append,List.lookup_cons]
  rw [List.lookup_cons] at hn
  cases e:x == n with
  | true=>rw [e] at hn; cases hn
  | false=>rw [e] at hn; exact jb hn h
abbrev aX (X:Cx) (scope:Scope) (ns:List Str) (C:Addr) (cl:List (Str × Addr)) (s₀:Shared) (H₀:Hp) (fp:List Addr):Cx :=
 { X with N:=ns,s₀:=s₀,H₀:=H₀,env:=compEnvC scope cl C X.env,outer:=X.stack,ex:=fp,fn:=fun x=>scope.names.lookup x == some NameKind.cell,pn:=[],xe:=fun _ _=>False }
structure BlkOkC (X:Cx) (scope:Scope) (ns:List Str) (js:List (Option Nat)):Prop where
 kind:scope.kind=.function
 uniq:∀ y∈scope.names,y.2=.cell→scope.names.lookup y.1=some .cell
 names:∀ y∈scope.names,y.2=.local→scope.names.lookup y.1=some .local
 free:∀ y∈scope.names,y.2=.free→X.env.kindOf y.1=some .cell∨X.env.kindOf y.1=some .free
 nd:ns.Nodup
 len:js.length=ns.length
 out:∀ (i:Nat) (x:Str) (j:Nat),ns[i]?=some x→js[i]?=some (some j)→X.N[j]?=some x∧scope.names.lookup x=some .free
def rD (N:List Str) (sc scope:Scope) (ns:List Str) (js:List (Option Nat)):Bool :=
 decide (scope.kind=.function) && scope.names.all (fun y=>decide (y.2=.cell→scope.names.lookup y.1=some .cell)) && scope.names.all (fun y=>decide (y.2=.local→scope.names.lookup y.1=some .local)) &&
 scope.names.all (fun y=>decide (y.2=.free→sc.names.lookup y.1=some .cell∨sc.names.lookup y.1=some .free)) && decide ns.Nodup && decide (js.length=ns.length) &&
 (List.range ns.length).all (fun i=>match js[i]?,ns[i]? with
  | some (some j),some x=>decide (N[j]?=some x) && decide (scope.names.lookup x=some .free)
  | _,_=>true)
theorem CQ {N:List Str} {scope:Scope} {ns:List Str} {js:List (Option Nat)} (h7:∀ i < ns.length,(match js[i]?,ns[i]? with
  | some (some j),some x=>decide (N[j]?=some x) && decide (scope.names.lookup x=some .free)
  | _,_=>true)=true) {i:Nat} {x:Str} {j:Nat} (e1:ns[i]?=some x) (e2:js[i]?=some (some j)):N[j]?=some x∧scope.names.lookup x=some .free:=by
 have q:=h7 i (List.getElem?_eq_some_iff.mp e1).1
 rw [e1,e2] at q
 simpa using q
theorem BlkOkC.of {X:Cx} {scope:Scope} {ns:List Str} {js:List (Option Nat)} {N0:List Str} {sc0:Scope} (hN:X.N=N0) (hS:X.env.scope=sc0) (h:rD N0 sc0 scope ns js=true):BlkOkC X scope ns js:=by
 unfold rD at h
 simp only [Bool.and_eq_true,List.all_eq_true,decide_eq_true_eq,List.mem_range] at h
 obtain ⟨⟨⟨⟨⟨⟨h1,h2⟩,h3⟩,h4⟩,h5⟩,h6⟩,h7⟩:=h
 refine ⟨h1,fun y hy=>h2 y hy,fun y hy=>h3 y hy,fun y hy hk=>?_,h5,h6,fun i x j e1 e2=>?_⟩
 ·have q:=h4 y hy hk
  rw [← hS] at q
  exact q
 ·rw [hN]
  exact CQ h7 e1 e2
section
variable {M:Model} {A:Around} {E:Value→Shared→Prop} {s:Shared}
theorem gY {scope:Scope} {globals:Addr} {closure:List (Str × Addr)} {qual:Str} {outer:Env} {builtins:Addr} {Q:Env→Shared→Prop}
  (hQ:Q (newEnv scope s.heap.objs.size globals (cellsFrom (s.heap.objs.size+1) scope.names closure) qual none .none (some outer) builtins) { s with heap:=pushCells (s.heap.push { cls:=.type "dict",data:=.dict #[] }) scope.names }) :
  wpAny M A (newFunctionEnv scope globals closure [] qual none .none (some outer) builtins) Q E s:=by
 simp only [newFunctionEnv,Option.isSome_some,if_true]
 refine wpAny_bind (wpAny_alloc ?_)
 refine wpAny_bind (wpAny_layCells _ (fun name kind cells=>by cases hkc:kind == NameKind.cell <;> simp [hkc]) _ _ _ _ ?_)
 rw [show ({ s with heap:=s.heap.push { cls:=.type "dict",data:=.dict #[] } }:Shared).heap.objs.size=s.heap.objs.size+1 from Heap.size_push ..]
 rw [List.forIn_nil]
 exact wpAny_bind (wpAny_pure (wpAny_pure hQ))
end
section
variable {X:Cx} {elt tg iter:Expr} {ifs:List Expr} {scope:Scope} {pos:Pos} {ns:List Str} {js:List (Option Nat)} {wi:TI} {g:TG} {tt:TT} {te:TE}
theorem wa {pins:List (Addr × Obj)} {s3:Shared} {σ:St} {H3:Hp} {fp:List Addr} {h₁:Heap} {tk:Nat} (B:BlkOkC X scope ns js) (I3:Inv X pins σ H3 s3)
  (f3:∀ b∈fp,iz X pins H3 b) (lt3:∀ b∈fp,b < s3.heap.objs.size) (hns:h₁.Ns s3.heap.objs.size (fun _=>none)) (old:∀ b u,s3.heap.get? b=some u→h₁.get? b=some u)
  (cok:CellsOk h₁ (s3.heap.objs.size+1) (cellsFrom (s3.heap.objs.size+1) scope.names [])) :
  Inv (aX X scope ns s3.heap.objs.size (cellsFrom (s3.heap.objs.size+1) scope.names (dq X.env scope.names)) s3 H3 fp) [] (dP js σ) H3 { s3 with heap:=h₁,toks:=tk }:=by
 rw [dO]
 have hmem:∀ {x:Str} {c:Addr},(x,c)∈cellsFrom (s3.heap.objs.size+1) scope.names []→scope.names.lookup x=some .cell:=fun {x c} h=>by
  rcases fT _ _ _ h with h | h
  ·simp at h
  ·exact B.uniq _ h rfl
 have hhas:∀ {x:Str},scope.names.lookup x=some .cell→∃ c,(cellsFrom (s3.heap.objs.size+1) scope.names []).lookup x=some c:=fun {x} h=>by
  obtain ⟨c,hc⟩:=fU scope.names (s3.heap.objs.size+1) [] (PySem.mem_of_lookup h)
  exact fR hc
 generalize cellsFrom (s3.heap.objs.size+1) scope.names []=CS at cok hmem hhas
 have has:∀ y∈scope.names,y.2=.free→∃ c,X.env.cells.lookup y.1=some c:=fun y hy hk=>I3.ok.has y.1 (B.free y hy hk)
 have look:∀ {n:Str} {c:Addr},(CS++dq X.env scope.names).lookup n=some c→(CS.lookup n=some c∧h₁.IsCell c none∧s3.heap.objs.size+1≤c)∨(CS.lookup n=none∧X.env.cells.lookup n=some c∧c < s3.heap.objs.size):=fun {n c} e=>by
  rcases oM e with e | ⟨e1,e2⟩
  ·exact .inl ⟨e,cok.empty n c (PySem.mem_of_lookup e)⟩
  ·have e3:=nA has e2
   obtain ⟨v,hv⟩:=I3.cell n c e3
   exact .inr ⟨e1,e3,hv.lt⟩
 refine ⟨⟨I3.ok.mod,B.kind,I3.ok.glob,I3.ok.blt,Nat.le_refl _,fun y z c h1 h2=>?_,fun y hy=>?_,fun y c hf h=>?_,I3.ok.hd,I3.ok.frames,.inl rfl,fun b hb=>?_,I3.bs,Nat.le_trans I3.ok.bsz I3.sz,
   fun b o e hb=>?_,fun b hb z=>?_,I3.stack,I3.stkFree⟩,
  rfl,I3.bare,Un.kept old,⟨_,hns,fun i x v h1 h2 h3=>?_⟩,fun y c h=>?_,I3.fresh,fun y c h=>?_,fun p hp=>absurd (show p∈([]:List (Addr × Obj)) from hp) (by simp),I3.hok.kept old,?_⟩
 ·rcases look h1 with ⟨a1,_,a3⟩ | ⟨_,a2,a3⟩ <;> rcases look h2 with ⟨b1,_,b3⟩ | ⟨_,b2,b3⟩
  ·exact name_of_addr cok.apart (PySem.mem_of_lookup a1) (PySem.mem_of_lookup b1)
  ·exact absurd (Nat.lt_of_lt_of_le (Nat.lt_of_lt_of_le b3 (Nat.le_succ _)) a3) (Nat.lt_irrefl _)
  ·exact absurd (Nat.lt_of_lt_of_le (Nat.lt_of_lt_of_le a3 (Nat.le_succ _)) b3) (Nat.lt_irrefl _)
  ·exact I3.ok.inj y z c a2 b2
 ·have hf:scope.names.lookup y=some .cell∨scope.names.lookup y=some .free:=by
   rcases hy with hy | hy
   ·rcases i6 (env:=X.env) hy with q | q
    ·exact .inl q
    ·exact .inr q.1
   ·rcases i6 (env:=X.env) hy with q | q
    ·exact .inr q
    ·exact .inr q.1
  show ∃ c,(CS++dq X.env scope.names).lookup y=some c
  rcases hf with hf | hf
  ·obtain ⟨c,hc⟩:=hhas hf
   exact ⟨c,jW hc⟩
  ·obtain ⟨c,hc⟩:=pK (env:=X.env) (PySem.mem_of_lookup hf)
   cases e:CS.lookup y with
   | none=>exact ⟨c,jb e hc⟩
   | some d=>exact ⟨d,jW e⟩
 ·rcases look h with ⟨_,_,a3⟩ | ⟨a1,_,_⟩
  ·show s3.heap.objs.size≤c
   omega
  ·have hf':(scope.names.lookup y == some NameKind.cell)=true:=hf
   obtain ⟨d,hd⟩:=hhas (by simpa using hf')
   rw [a1] at hd
   cases hd
 ·refine ⟨Nat.ne_of_lt (lt3 b hb),fun x c e=>?_⟩
  rcases look e with ⟨_,_,a3⟩ | ⟨_,a2,_⟩
  ·have:=lt3 b hb
   intro z
   subst z
   exact Nat.lt_irrefl _ (Nat.lt_of_lt_of_le (Nat.lt_of_lt_of_le this (Nat.le_succ _)) a3)
  ·exact (f3 b hb).2.2.2.2.1 x c a2
 ·rcases (f3 b hb).2.2.2.1 with z | z
  ·exact I3.ok.noex b o e z
  ·exact absurd (Nat.lt_of_lt_of_le (Nat.lt_of_lt_of_le (Heap.lt_size e) I3.ok.bsz) z) (Nat.lt_irrefl _)
 ·rcases List.mem_cons.mp (I3.stkSub b z) with q | q
  ·exact (f3 b hb).2.1 q
  ·exact (f3 b hb).2.2.1 q
 ·have h2':(js.map fun j=>match j with | some j=>(σ[j]?).join | none=>none)[i]?=some (some v):=h2
  rw [List.getElem?_map] at h2'
  obtain ⟨j,hj,hσ⟩:∃ j,js[i]?=some (some j)∧σ[j]?=some (some v):=by
   cases e:js[i]? with
   | none=>rw [e] at h2'; simp at h2'
   | some oj =>
    rw [e] at h2'
    cases oj with
    | none=>simp at h2'
    | some j =>
     refine ⟨j,rfl,?_⟩
     have q:(σ[j]?).join=some v:=by simpa using h2'
     cases e2:σ[j]? with
     | none=>rw [e2] at q; simp at q
     | some ov =>
      rw [e2] at q
      simp at q
      rw [q]
  obtain ⟨hN,hfr⟩:=B.out i x j h1 hj
  have hf:=B.free (x,.free) (PySem.mem_of_lookup hfr) rfl
  have hf':X.env.kindOf x=some .cell∨X.env.kindOf x=some .free:=hf
  obtain ⟨m,hn,hl⟩:=I3.loc
  obtain ⟨u,r,l⟩:=hl j x v hN hσ (by
   rcases hf' with z | z
   ·exact .inr (.inl z)
   ·exact .inr (.inr z))
  refine ⟨u,r,?_⟩
  rcases l with ⟨hk,_⟩ | ⟨hk,c,hc,hcell⟩
  ·rcases hf' with z | z
   ·rw [z] at hk; cases hk
   ·rw [z] at hk; cases hk
  ·obtain ⟨c',hc'⟩:=pK (env:=X.env) (PySem.mem_of_lookup hfr)
   have e':=nA has hc'
   rw [hc] at e'
   cases e'
   obtain ⟨o,ho,hd⟩:=hcell
   have hno:CS.lookup x=none:=by
    cases e:CS.lookup x with
    | none=>rfl
    | some d =>
     have q:=hmem (PySem.mem_of_lookup e)
     rw [hfr] at q
     cases q
   exact .inr ⟨lK (env:=X.env) hfr,c,jb hno hc',⟨o,old c o ho,hd⟩⟩
 ·rcases look h with ⟨_,a2,_⟩ | ⟨_,a2,_⟩
  ·exact ⟨_,a2⟩
  ·obtain ⟨v,o,ho,hd⟩:=I3.cell y c a2
   exact ⟨v,o,old c o ho,hd⟩
 ·rcases look h with ⟨_,_,a3⟩ | ⟨_,a2,_⟩
  ·exact I3.hok.fresh (by omega)
  ·exact I3.freeC y c a2
 ·show (js.map _).length=ns.length
  rw [List.length_map]
  exact B.len
theorem oQ {pins:List (Addr × Obj)} {s2:Shared} {σ:St} {H2:Hp} {Qv:VK} {J:It} {fp:List Addr} {it:Addr} {tn:Nat→Heap→Prop} {RR:Value→Addr→Result→Shared→Prop}
  (B:BlkOkC X scope ns js) (hc:X.calm=true) (I2:Inv X pins σ H2 s2) (T:Turn X.prog X.w X.K tg J fp it tn) (st2:tn 0 s2.heap) (f2:∀ b∈fp,iz X pins H2 b)
  (hg:∀ C cl s₀ H₀ fp,PG (aX X scope ns C cl s₀ H₀ fp) tg g) (ht:∀ C cl s₀ H₀ fp,PTs (aX X scope ns C cl s₀ H₀ fp) ifs tt) (he:∀ C cl s₀ H₀ fp,PE (aX X scope ns C cl s₀ H₀ fp) elt te)
  (hw:∀ D,H2 D=none→Bb J g tt te (dP js σ) H2 D Qv)
  (hRR:∀ D C s' H',Inv X pins σ H' s'→Qv (.ref D) H'→(∃ m,s'.heap.Ns C m)→H' C=none→C≠X.env.locals→X.s₀.heap.objs.size≤C→(∀ x c,X.env.cells.lookup x=some c→c≠C)→(∀ p∈X.pn++pins,p.1≠C)→RR (.ref D) C (.ok .next) s') :
  wpAny (model X.prog X.w) X.A (newList []) (fun acc s₃=>wpAny (model X.prog X.w) X.A (newFunctionEnv scope X.env.globals (dq X.env scope.names) [] X.env.qual none .none (some X.env)) (fun cenv s₄ =>
   codeAny (model X.prog X.w) X.A (.compStart (.ListComp elt [⟨tg,iter,ifs,0⟩] scope pos) 0 (.ref it) acc { cenv with scope:=relabel scope X.env }) (RR acc cenv.locals) s₄) X.xe s₃) X.xe s2:=by
 refine wpAny_newObj_type (gY ?_)
 dsimp only
 have I3:Inv X pins σ (upd H2 s2.heap.objs.size (.lst [])) { s2 with heap:=s2.heap.push { cls:=.type "list",data:=.seq ([]:List Value).toArray },toks:=s2.toks }:=I2.lnew .nil (Nat.zero_le _)
 generalize hs3:({ s2 with heap:=s2.heap.push { cls:=.type "list",data:=.seq ([]:List Value).toArray },toks:=s2.toks }:Shared)=s3 at I3
 have e3:s3.heap=s2.heap.push { cls:=.type "list",data:=.seq ([]:List Value).toArray }:=by rw [← hs3]
 have k3:∀ b u,s2.heap.get? b=some u→s3.heap.get? b=some u:=fun b u e=>by rw [e3]; exact Heap.get?_push_of_some _ e
 have sz3:s3.heap.objs.size=s2.heap.objs.size+1:=by rw [e3,Heap.size_push]
 have hD:H2 s2.heap.objs.size=none:=I2.fresh
 obtain ⟨h₁,hh₁⟩:∃ h₁,h₁=pushCells (s3.heap.push { cls:=.type "dict",data:=.dict #[] }) scope.names:=⟨_,rfl⟩
 have old:∀ b u,s3.heap.get? b=some u→h₁.get? b=some u:=fun b u e=>by
  rw [hh₁]
  exact pushCells_keeps _ _ b u (Heap.get?_push_of_some _ e)
 have hns:h₁.Ns s3.heap.objs.size (fun _=>none):=by
  rw [hh₁]
  exact (Heap.Ns.new s3.heap (.type "dict")).keeps (pushCells_keeps _ _)
 have cok:CellsOk h₁ (s3.heap.objs.size+1) (cellsFrom (s3.heap.objs.size+1) scope.names []):=by
  have q:=cellsFrom_ok scope.names (s3.heap.push { cls:=.type "dict",data:=.dict #[] }) (s3.heap.objs.size+1) [] ⟨fun _ _ hm=>(nomatch hm),List.Pairwise.nil⟩ (by rw [Heap.size_push]; exact Nat.le_refl _)
  rw [Heap.size_push,← hh₁] at q
  exact q
 have obj2:∀ b∈fp,b < s2.heap.objs.size:=fun b hb=>let ⟨o,e,_⟩:=T.obj 0 _ st2 b hb; Heap.lt_size e
 have f3:∀ b∈fp,iz X pins (upd H2 s2.heap.objs.size (.lst [])) b:=fun b hb=>⟨by rw [aP (Nat.ne_of_lt (obj2 b hb))]; exact (f2 b hb).1,(f2 b hb).2⟩
 have lt3:∀ b∈fp,b < s3.heap.objs.size:=fun b hb=>by rw [sz3]; exact Nat.lt_succ_of_lt (obj2 b hb)
 obtain ⟨W,⟨m0,w0⟩,turn⟩:=hw _ hD
 have J0:=fun tk=>wa (tk:=tk) B I3 f3 lt3 hns old cok
 have has:∀ y∈scope.names,y.2=.free→∃ c,X.env.cells.lookup y.1=some c:=fun y hy hk=>I2.ok.has y.1 (B.free y hy hk)
 have stat:∀ {H':Hp},(∀ b∈fp,H' b=none)→∀ b∈fp,iz (aX X scope ns s3.heap.objs.size (cellsFrom (s3.heap.objs.size+1) scope.names (dq X.env scope.names)) s3 (upd H2 s2.heap.objs.size (.lst [])) fp) [] H' b:=fun hn b hb =>
  ⟨hn b hb,Nat.ne_of_lt (lt3 b hb),(J0 0).ok.exfs b hb,.inl hb,fun x c e=>(J0 0).ok.exf b hb |>.2 x c e,fun p hp=>absurd (show p∈([]:List (Addr × Obj)) from hp) (by simp)⟩
 have fin:∀ {τ:St} {H':Hp} {s':Shared},Inv (aX X scope ns s3.heap.objs.size (cellsFrom (s3.heap.objs.size+1) scope.names (dq X.env scope.names)) s3 (upd H2 s2.heap.objs.size (.lst [])) fp) [] τ H' s'→Qv (.ref s2.heap.objs.size) H'→RR (.ref s2.heap.objs.size) s3.heap.objs.size (.ok .next) s':=fun {τ H' s'} I6 q=>by
  have u1:Un (frs X.stack) fp H2 (upd H2 s2.heap.objs.size (.lst [])) s2.heap s3.heap:=Un.laid k3 (Nat.le_refl _) hD
  have os3:s3.os=s2.os:=by rw [← hs3]
  have I7:Inv X pins σ H' s':=I2.call' (ch:=fp) (I6.os.trans os3) (u1.trans I6.base) I6.hok I6.bare fun b hb=>⟨(f2 b hb).2.2.2.1,(f2 b hb).2.1,(f2 b hb).2.2.2.2.1,(f2 b hb).2.2.2.2.2⟩
  have le2:s2.heap.objs.size≤s3.heap.objs.size:=by rw [sz3]; exact Nat.le_succ _
  refine hRR _ _ s' H' I7 q ?_ I6.free (Nat.ne_of_gt (Nat.lt_of_lt_of_le I2.lt le2)) (Nat.le_trans I2.sz le2) (fun x c e z=>?_) fun p hp z=>?_
  ·obtain ⟨m,hn,_⟩:=I6.loc
   exact ⟨m,hn⟩
  ·obtain ⟨v,hv⟩:=I2.cell x c e
   exact absurd (Nat.lt_of_lt_of_le hv.lt (by rw [z]; exact le2)) (Nat.lt_irrefl _)
  ·exact absurd (Nat.lt_of_lt_of_le (Heap.lt_size (I2.pin p hp).1) (by rw [z]; exact le2)) (Nat.lt_irrefl _)
 rw [← e3,← hh₁]
 have loop:∀ tk,codeAny (model X.prog X.w) X.A (.compLoop (.ListComp elt [⟨tg,iter,ifs,0⟩] scope pos) 0 (.ref it) (.ref s2.heap.objs.size) (compEnvC scope (cellsFrom (s3.heap.objs.size+1) scope.names (dq X.env scope.names)) s3.heap.objs.size X.env))
   (RR (.ref s2.heap.objs.size) s3.heap.objs.size) { s3 with heap:=h₁,toks:=tk }:=fun tk=>by
  refine codeAny_loop rfl (fun n s'=>∃ i τ H',Inv (aX X scope ns s3.heap.objs.size (cellsFrom (s3.heap.objs.size+1) scope.names (dq X.env scope.names)) s3 (upd H2 s2.heap.objs.size (.lst [])) fp) [] τ H' s'∧tn i s'.heap∧(∀ b∈fp,H' b=none)∧W i n τ H') (fun n s5 hI=>?_) m0
   ⟨0,_,_,J0 tk,T.keep _ _ _ st2 fun b _ o e=>old b o (k3 b o e),fun b hb=>(f3 b hb).1,w0⟩
  obtain ⟨i,τ,H5,I5,st5,fr5,w5⟩:=hI
  show wpAny _ X.A ((compTurn (.ListComp elt [⟨tg,iter,ifs,0⟩] scope pos) 0 (.ref it) (.ref s2.heap.objs.size) (compEnvC scope (cellsFrom (s3.heap.objs.size+1) scope.names (dq X.env scope.names)) s3.heap.objs.size X.env)).onRaise (fun x=>do noteFrame x (compEnvC scope (cellsFrom (s3.heap.objs.size+1) scope.names (dq X.env scope.names)) s3.heap.objs.size X.env); theTreesLotGoes x)) _ _ s5
  refine wpAny_noted ?_
  rw [compTurn_list]
  refine wpAny_bind (wpAny_standAt (wpAny_bind ?_))
  rcases turn i n τ H5 w5 with ⟨stop,qn⟩ | ⟨go,N,hN,step⟩
  ·refine thn (T.done (aX X scope ns s3.heap.objs.size (cellsFrom (s3.heap.objs.size+1) scope.names (dq X.env scope.names)) s3 (upd H2 s2.heap.objs.size (.lst [])) fp) rfl rfl rfl hc i [] s5 τ H5 _ I5 (stat fr5) st5 stop) fun r s6 ⟨hr,I6⟩=>?_
   subst hr
   exact wpAny_pure (fin I6 qn)
  ·refine thn (T.item (aX X scope ns s3.heap.objs.size (cellsFrom (s3.heap.objs.size+1) scope.names (dq X.env scope.names)) s3 (upd H2 s2.heap.objs.size (.lst [])) fp) rfl rfl rfl hc i [] s5 τ H5 _ I5 (stat fr5) st5 go) fun r s6 ⟨u,hr,h6⟩=>?_
   subst hr
   dsimp only
   refine wpAny_bind (thn h6 fun _ s7 ⟨x,H7,I7,r7,y7,st7,fr7⟩=>?_)
   have I7':=I7.pinned (stat fr7) (T.obj _ _ st7)
   have back:∀ {τ9:St} {H9:Hp} {s9:Shared},Inv (aX X scope ns s3.heap.objs.size (cellsFrom (s3.heap.objs.size+1) scope.names (dq X.env scope.names)) s3 (upd H2 s2.heap.objs.size (.lst [])) fp) ([]++jR fp s7.heap) τ9 H9 s9 →
     Inv (aX X scope ns s3.heap.objs.size (cellsFrom (s3.heap.objs.size+1) scope.names (dq X.env scope.names)) s3 (upd H2 s2.heap.objs.size (.lst [])) fp) [] τ9 H9 s9∧tn (i+1) s9.heap∧∀ b∈fp,H9 b=none:=fun {τ9 H9 s9} I9=>by
    refine ⟨I9.unpinned,T.keep _ _ _ st7 fun b hb o e=>(I9.pin (b,o) (List.mem_append_right _ (List.mem_append_right _ (ge hb e)))).1,fun b hb=>?_⟩
    obtain ⟨o,e,d⟩:=T.obj _ _ st7 b hb
    exact (I9.pin (b,o) (List.mem_append_right _ (List.mem_append_right _ (ge hb e)))).2.1
   refine wpAny_bind (thF (hg _ _ _ _ _ _ s7 τ H7 x u _ I7' r7 (step x H7 y7)) fun _ s8 ⟨τ8,H8,I8,q8⟩=>?_)
   refine wpAny_bind (thF (ht _ _ _ _ _ _ s8 τ8 H8 _ I8 q8) fun b s9 ⟨H9,I9,q9⟩=>?_)
   cases b with
   | false =>
    rw [if_neg Bool.false_ne_true] at q9
    obtain ⟨m',hm,w9⟩:=hN _ _ q9
    obtain ⟨a1,a2,a3⟩:=back I9
    exact wpAny_pure ⟨rfl,m',hm,i+1,τ8,H9,a1,a2,a3,w9⟩
   | true =>
    rw [if_pos rfl] at q9
    refine wpAny_bind (wpAny_bind (thF (he _ _ _ _ _ _ s9 τ8 H9 _ I9 q9) fun v s10 ⟨y,H10,I10,r10,q10⟩=>?_))
    obtain ⟨xs,hx,hz,n10⟩:=q10
    obtain ⟨m',hm,w10⟩:=hN _ _ n10
    refine wpAny_bind (thF (nj _ s10 τ8 H10 (.ref s2.heap.objs.size) [y] (.ref s2.heap.objs.size) [v] (fun _ H11=>W (i+1) m' τ8 H11) I10 rfl (.cons r10 .nil) ⟨_,xs,y,rfl,rfl,hx,hz,w10⟩) fun _ s11 ⟨_,H11,I11,_,q11⟩=>?_)
    obtain ⟨a1,a2,a3⟩:=back I11
    exact wpAny_pure (wpAny_pure ⟨rfl,m',hm,i+1,τ8,H11,a1,a2,a3,q11⟩)
 have hst1:tn 0 h₁:=T.keep _ _ _ st2 fun b _ o e=>old b o (k3 b o e)
 subst hs3
 exact codeAny_compStart_list (loop _) (T.self _ 0 _ _ _ hst1 (loop _))
theorem Fw (B:BlkOkC X scope ns js) (hc:X.calm=true) (hi:PI X tg iter wi)
  (hg:∀ C cl s₀ H₀ fp,PG (aX X scope ns C cl s₀ H₀ fp) tg g) (ht:∀ C cl s₀ H₀ fp,PTs (aX X scope ns C cl s₀ H₀ fp) ifs tt) (he:∀ C cl s₀ H₀ fp,PE (aX X scope ns C cl s₀ H₀ fp) elt te)
  (hs:∀ x,foldedSetIterable iter X.env x=pure x:=by intro _; rfl):PE X (.ListComp elt [⟨tg,iter,ifs,0⟩] scope pos) (tLC wi g tt te js):=by
 intro pins s σ H Q I h
 rw [eval_ListComp]
 have hclos:=mn (scope:=scope) (env:=X.env) (fun y hy hk=>I.ok.has y.1 (B.free y hy hk))
 refine wpAny_comprehension_free (use:=none) rfl hs hclos B.kind B.names (thn (hi pins s σ H _ I h) fun v s1 h1=>thn h1 fun itv s2 h2=>?_)
 obtain ⟨it,fp,tn,J,H2,e,I2,T,st2,f2,hw⟩:=h2
 subst e
 refine oQ (RR:=fun acc C=>compPost (model X.prog X.w) X.A X.xe none (EP X pins σ Q) acc C) B hc I2 T st2 f2 hg ht he hw ?_
 intro D C s' H' I' q hm c0 c1 c2 c3 c4
 obtain ⟨m,hn⟩:=hm
 exact ⟨m,hn,fun h' hs'=>⟨.ref D,H',I'.turned (t':=s'.toks) (fun b o hb e=>(hs'.2 b hb).trans e) c0 c1 (.inr c2) c3 c4,rfl,q⟩⟩
theorem tE {i:Nat} {x:Str} {spos pos':Pos} (hN:X.N.Nodup) (hi':X.N[i]?=some x) (hx:X.env.scope.names.lookup x=some .local) (B:BlkOkC X scope ns js) (hc:X.calm=true) (hi:PI X tg iter wi)
  (hg:∀ C cl s₀ H₀ fp,PG (aX X scope ns C cl s₀ H₀ fp) tg g) (ht:∀ C cl s₀ H₀ fp,PTs (aX X scope ns C cl s₀ H₀ fp) ifs tt) (he:∀ C cl s₀ H₀ fp,PE (aX X scope ns C cl s₀ H₀ fp) elt te)
  (hsw:swapsWith (.ListComp elt [⟨tg,iter,ifs,0⟩] scope pos) (some (.Name x pos')) spos.line X.env=pure true:=by rfl)
  (hs:∀ x,foldedSetIterable iter X.env x=pure x:=by intro _; rfl):PS X (.Assign [.Name x pos'] (.ListComp elt [⟨tg,iter,ifs,0⟩] scope pos) spos) (om (tLC wi g tt te js) (lZ i)):=by
 intro pins s σ H D I h
 rw [exec_Assign_Name_used _ _ _ _ hsw]
 have hclos:=mn (scope:=scope) (env:=X.env) (fun y hy hk=>I.ok.has y.1 (B.free y hy hk))
 refine wpAny_bind (wpAny_standAt (wpAny_bind ?_))
 show wpAny _ X.A (do let _ ← comprehension (.ListComp elt [⟨tg,iter,ifs,0⟩] scope pos) scope X.env _ (newList []) false (eval iter X.env) (some (assign (.Name x pos') X.env))) _ _ s
 refine wpAny_bind (wpAny_mono (wpAny_comprehension_free (use:=some (assign (.Name x pos') X.env)) (Q:=fun _ s'=>SP X pins D .next s') rfl hs hclos B.kind B.names
  (thn (hi pins s σ H _ I h) fun v s1 h1=>thn h1 fun itv s2 h2=>?_)) (fun _ s' hq=>wpAny_pure (wpAny_pure hq)) fun _ _ e=>e)
 obtain ⟨it,fp,tn,J,H2,e,I2,T,st2,f2,hw⟩:=h2
 subst e
 refine oQ (RR:=fun acc C=>compPost (model X.prog X.w) X.A X.xe (some (assign (.Name x pos') X.env)) (fun _ s'=>SP X pins D .next s') acc C) B hc I2 T st2 f2 hg ht he hw ?_
 intro D' C s' H' I' q hm c0 c1 c2 c3 c4
 obtain ⟨m,hn⟩:=hm
 show wpAny _ X.A (assign (.Name x pos') X.env (.ref D')) _ _ _
 refine wpAny_assign_Name (jO (v:=.ref D') I' hN hi' (.inl hx) rfl (fun s4 I4 ⟨a,hsb,ha⟩=>?_) (.inr hx))
 have ne:C≠a:=by
  rcases ha with z | z
  ·rw [z]; exact c1
  ·exact (c3 x a z).symm
 exact ⟨m,hn.sameBut hsb ne,fun h' hs'=>⟨_,H',I4.turned (t':=s4.toks) (fun b o hb e=>(hs'.2 b hb).trans e) c0 c1 (.inr c2) c3 c4,q⟩⟩
end
end L2
namespace L2
open PySem PySem.Spec PyProof.Rows
section
variable {X:Cx} {K:PySem.W.Frag}
theorem kW (ns:List Int):∀ k,k≤ns.length→preSum (fun i=>ns.getD i 0) k=(ns.take k).sum
 | 0,_=>rfl
 | k+1,h=>by
  show preSum (fun i=>ns.getD i 0) k+ns.getD k 0=_
  rw [kW ns k (by omega),PyProof.Rows.take_sum_succ ns k (by omega)]
end
end L2
namespace L2
open PySem PySem.Spec PyProof.Rows
mutual
def DV (H:Hp):V→PyData→Prop
 | v,.none=>v=.non
 | v,.bool b=>v=.bl b
 | v,.int i=>v=.int i
 | v,.str x=>v=.str x
 | v,.list ds=>∃ a xs,v=.ref a∧H a=some (.lst xs)∧DVs H xs ds
 | v,.tuple ds=>∃ a xs,v=.ref a∧H a=some (.tup xs)∧DVs H xs ds
 | _,.dict _=>False
def DVs (H:Hp):List V→List PyData→Prop
 | vs,[]=>vs=[]
 | vs,d :: ds=>∃ v r,vs=v :: r∧DV H v d∧DVs H r ds
end
section
variable {X:Cx} {pins:List (Addr × Obj)} {σ:St} {H:Hp} {s:Shared}
end
section
variable {X:Cx}
end
end L2
namespace L2
open PySem PySem.Spec PyProof.Rows
section
variable {prog:Program} {w:World} {A:Around} {E:Value→Shared→Prop} {s:Shared}
end
end L2
namespace L2
open PySem PySem.Spec PyProof.Rows
section
variable {prog:Program} {w:World} {A:Around} {E:Value→Shared→Prop} {s:Shared}
end
section
variable {X:Cx} {K:PySem.W.Frag}
end
end L2
namespace L2
open PySem PySem.Spec PyProof.Rows
section
open PySem.SeqAt
end
end L2
namespace L2
open PySem PySem.Spec PyProof.Rows
def Rp (H:Hp) (v:V) (txt:Str):Prop:=(∃ d,DV H v d∧d.showable=true∧d.depth≤60∧d.shown.length≤sizeLine∧txt=d.shown)∨∃ a,v=.ref a∧H a=some (.dK [])∧txt=("{}" : Str)
section
variable {X:Cx}
end
end L2
namespace L2
open PySem PySem.Spec PyProof.Rows
abbrev D:=PyData
abbrev En:=List (Option D)
abbrev AS:=Addr→Prop
def dn:Nat→Nat
 | 0=>0
 | 1=>0
 | 2=>1
 | n+3=>n+3
theorem mY:∀ {a b:Nat},a≤b→dn a≤dn b
 | 0,_,_=>Nat.zero_le _
 | 1,_,_=>Nat.zero_le _
 | 2,2,_=>Nat.le_refl _
 | 2,b+3,_=>by show 1≤b+3; omega
 | a+3,b+3,h=>h
 | a+3,0,h=>by omega
 | a+3,1,h=>by omega
 | a+3,2,h=>by omega
 | 2,0,h=>by omega
 | 2,1,h=>by omega
def kD:Key→D
 | .inl i=>.int i
 | .inr x=>.str x
def FzL (K:PySem.W.Frag) (O:AS) (H:Hp) (a:Addr) (vs:List V):Prop:=(Rd H a (.lst vs)∧¬ O a)∨∀ H',SqL K H' a vs
def FzT (K:PySem.W.Frag) (O:AS) (H:Hp) (a:Addr) (vs:List V):Prop:=H a=some (.tup vs)∧¬ O a
theorem FzL.sq {K:PySem.W.Frag} {O:AS} {H:Hp} {a:Addr} {vs:List V} (h:FzL K O H a vs):SqL K H a vs:=h.elim (fun h=>.inl h.1) fun h=>h H
theorem FzT.sq {K:PySem.W.Frag} {O:AS} {H:Hp} {a:Addr} {vs:List V} (h:FzT K O H a vs):SqT K H a vs:=SqT.of h.1
def eP (a C:Addr):Heap→Prop:=fun h=>∃ o,h.get? a=some o∧o.cls=.ref C∧∀ c,o.data≠.cls c
def TupD (K:PySem.W.Frag) (H:Hp) (O:AS) (ks:List (D × D)) (a:Addr):Prop:=(∃ (kk:List Key) (b:Bool),ks=[(.tuple (kk.map kD),.bool b)]∧H a=some (.dT [(kk,.bl b)])∧¬ O a) ∨
 ∃ (x:Str) (C:Addr),ks=[(.none,.str x)]∧PySem.W.nsIn K mainGlobals x=some (some (.ref C))∧H a=some (.ext (eP a C))∧¬ O a
theorem TupD.to {K:PySem.W.Frag} {H H':Hp} {O O':AS} {ks:List (D × D)} {a:Addr} (h:TupD K H O ks a) (k:∀ o,H a=some o→¬ O a→H' a=some o∧¬ O' a):TupD K H' O' ks a:=by
 rcases h with ⟨kk,b,h1,h2,h3⟩ | ⟨x,C,h1,h0,h2,h3⟩
 ·obtain ⟨g1,g2⟩:=k _ h2 h3
  exact .inl ⟨kk,b,h1,g1,g2⟩
 ·obtain ⟨g1,g2⟩:=k _ h2 h3
  exact .inr ⟨x,C,h1,h0,g1,g2⟩
mutual
def Ow (K:PySem.W.Frag) (O:AS) (H:Hp):D→Nat→V→AS→Prop
 | .none,_,v,_=>v=.non
 | .bool b,_,v,_=>v=.bl b
 | .int i,_,v,_=>v=.int i
 | .str x,_,v,_=>v=.str x
 | .tuple ts,d,v,F=>∃ a vs,v=.ref a∧((d=0∧FzT K O H a vs∧Ows K O H ts 0 vs F)∨(d≠0∧H a=some (.tup vs)∧F a∧∃ F':AS,(∀ b,F' b→F b∧b≠a)∧Ows K O H ts (dn d) vs F'))
 | .list ts,d,v,F=>∃ a vs,v=.ref a∧((d=0∧FzL K O H a vs∧Ows K O H ts 0 vs F)∨(d≠0∧H a=some (.lst vs)∧F a∧∃ F':AS,(∀ b,F' b→F b∧b≠a)∧Ows K O H ts (dn d) vs F'))
 | .dict ks,d,v,F=>∃ a vs,v=.ref a∧((d=0∧H a=some (.dK vs)∧¬ O a∧Owd K O H ks 0 vs F)∨(d≠0∧H a=some (.dK vs)∧F a∧∃ F':AS,(∀ b,F' b→F b∧b≠a)∧Owd K O H ks (dn d) vs F')∨(d=0∧TupD K H O ks a))
def Ows (K:PySem.W.Frag) (O:AS) (H:Hp):List D→Nat→List V→AS→Prop
 | [],_,vs,_=>vs=[]
 | t :: ts,d,vs,F=>∃ v r,∃ F1 F2:AS,vs=v :: r∧(∀ b,F1 b→F b)∧(∀ b,F2 b→F b)∧(∀ b,F1 b→¬ F2 b)∧Ow K O H t d v F1∧Ows K O H ts d r F2
def Owd (K:PySem.W.Frag) (O:AS) (H:Hp):List (D × D)→Nat→List (Key × V)→AS→Prop
 | [],_,vs,_=>vs=[]
 | (k,t) :: ts,d,vs,F=>∃ q v r,∃ F1 F2:AS,vs=(q,v) :: r∧k=kD q∧(∀ b,F1 b→F b)∧(∀ b,F2 b→F b)∧(∀ b,F1 b→¬ F2 b)∧Ow K O H t d v F1∧Owd K O H ts d r F2
end
section
variable {K:PySem.W.Frag} {O O':AS} {H H':Hp}
theorem Rd.mv {a:Addr} {u:HO} (hk:∀ o,H a=some o→H' a=some o) (h:Rd H a u):Rd H' a u:=by
 rcases h with h | ⟨o,h⟩
 ·exact .inl (hk _ h)
 ·exact .inr ⟨o,hk _ h⟩
theorem Rd.there {a:Addr} {u:HO} (h:Rd H a u):H a≠none:=by
 rcases h with h | ⟨o,h⟩ <;> rw [h] <;> exact fun z=>nomatch z
structure Mv (O O':AS) (G:AS) (H H':Hp):Prop where
 k:∀ a o,H a=some o→(¬ O a∨G a)→H' a=some o
 o:∀ a,O' a→O a∨H a=none
theorem FzL.mv {G:AS} {a:Addr} {vs:List V} (m:Mv O O' G H H') (h:FzL K O H a vs):FzL K O' H' a vs:=by
 rcases h with ⟨h,n⟩ | h
 ·refine .inl ⟨h.mv fun o e=>m.k _ _ e (.inl n),fun z=>?_⟩
  rcases m.o _ z with z | z
  ·exact n z
  ·exact h.there z
 ·exact .inr h
theorem FzT.mv {G:AS} {a:Addr} {vs:List V} (m:Mv O O' G H H') (h:FzT K O H a vs):FzT K O' H' a vs:=by
 obtain ⟨h,n⟩:=h
 refine ⟨m.k _ _ h (.inl n),fun z=>?_⟩
 rcases m.o _ z with z | z
 ·exact n z
 ·rw [h] at z; cases z
mutual
theorem Ow.mv {G:AS} (m:Mv O O' G H H'):∀ (t:D) {d:Nat} {v:V} {F:AS},(∀ b,F b→G b)→Ow K O H t d v F→Ow K O' H' t d v F
 | .none,_,_,_,_,h=>h
 | .bool _,_,_,_,_,h=>h
 | .int _,_,_,_,_,h=>h
 | .str _,_,_,_,_,h=>h
 | .tuple ts,_,_,_,g,h=>by
  obtain ⟨a,vs,e,⟨h0,h1,h2⟩ | ⟨h0,h1,h2,F',hf,h3⟩⟩:=h
  ·exact ⟨a,vs,e,.inl ⟨h0,h1.mv m,Ows.mv m ts g h2⟩⟩
  ·exact ⟨a,vs,e,.inr ⟨h0,m.k _ _ h1 (.inr (g _ h2)),h2,F',hf,Ows.mv m ts (fun b hb=>g _ (hf b hb).1) h3⟩⟩
 | .list ts,_,_,_,g,h=>by
  obtain ⟨a,vs,e,⟨h0,h1,h2⟩ | ⟨h0,h1,h2,F',hf,h3⟩⟩:=h
  ·exact ⟨a,vs,e,.inl ⟨h0,h1.mv m,Ows.mv m ts g h2⟩⟩
  ·exact ⟨a,vs,e,.inr ⟨h0,m.k _ _ h1 (.inr (g _ h2)),h2,F',hf,Ows.mv m ts (fun b hb=>g _ (hf b hb).1) h3⟩⟩
 | .dict ks,_,_,_,g,h=>by
  obtain ⟨a,vs,e,⟨h0,h1,hn,h2⟩ | ⟨h0,h1,h2,F',hf,h3⟩ | ⟨h0,ht⟩⟩:=h
  ·refine ⟨a,vs,e,.inl ⟨h0,m.k _ _ h1 (.inl hn),fun z=>?_,Owd.mv m ks g h2⟩⟩
   rcases m.o _ z with z | z
   ·exact hn z
   ·rw [h1] at z; cases z
  ·exact ⟨a,vs,e,.inr (.inl ⟨h0,m.k _ _ h1 (.inr (g _ h2)),h2,F',hf,Owd.mv m ks (fun b hb=>g _ (hf b hb).1) h3⟩)⟩
  ·refine ⟨a,vs,e,.inr (.inr ⟨h0,ht.to fun o h2 hn=>⟨m.k _ _ h2 (.inl hn),fun z=>?_⟩⟩)⟩
   rcases m.o _ z with z | z
   ·exact hn z
   ·rw [h2] at z; cases z
theorem Ows.mv {G:AS} (m:Mv O O' G H H'):∀ (ts:List D) {d:Nat} {vs:List V} {F:AS},(∀ b,F b→G b)→Ows K O H ts d vs F→Ows K O' H' ts d vs F
 | [],_,_,_,_,h=>h
 | t :: ts,_,_,_,g,h=>by
  obtain ⟨v,r,F1,F2,e,h1,h2,h3,h4,h5⟩:=h
  exact ⟨v,r,F1,F2,e,h1,h2,h3,Ow.mv m t (fun b hb=>g _ (h1 b hb)) h4,Ows.mv m ts (fun b hb=>g _ (h2 b hb)) h5⟩
theorem Owd.mv {G:AS} (m:Mv O O' G H H'):∀ (ts:List (D × D)) {d:Nat} {vs:List (Key × V)} {F:AS},(∀ b,F b→G b)→Owd K O H ts d vs F→Owd K O' H' ts d vs F
 | [],_,_,_,_,h=>h
 | (k,t) :: ts,_,_,_,g,h=>by
  obtain ⟨q,v,r,F1,F2,e,e2,h1,h2,h3,h4,h5⟩:=h
  exact ⟨q,v,r,F1,F2,e,e2,h1,h2,h3,Ow.mv m t (fun b hb=>g _ (h1 b hb)) h4,Owd.mv m ts (fun b hb=>g _ (h2 b hb)) h5⟩
end
theorem FzL.sub {a:Addr} {vs:List V} (ho:∀ a,O' a→O a) (h:FzL K O H a vs):FzL K O' H a vs:=h.imp (fun h=>⟨h.1,fun z=>h.2 (ho _ z)⟩) id
theorem FzT.sub {a:Addr} {vs:List V} (ho:∀ a,O' a→O a) (h:FzT K O H a vs):FzT K O' H a vs:=⟨h.1,fun z=>h.2 (ho _ z)⟩
mutual
theorem Ow.cut:∀ (t:D) {d d':Nat} {v:V} {F:AS},d'≤d→Ow K O H t d v F→∃ F':AS,(∀ b,F' b→F b)∧∀ O':AS,(∀ a,O' a→O a)→(∀ a,F a→O' a→F' a)→Ow K O' H t d' v F'
 | .none,_,_,_,F,_,h=>⟨F,fun _ z=>z,fun _ _ _=>h⟩
 | .bool _,_,_,_,F,_,h=>⟨F,fun _ z=>z,fun _ _ _=>h⟩
 | .int _,_,_,_,F,_,h=>⟨F,fun _ z=>z,fun _ _ _=>h⟩
 | .str _,_,_,_,F,_,h=>⟨F,fun _ z=>z,fun _ _ _=>h⟩
 | .tuple ts,d,d',_,F,hd,h=>by
  obtain ⟨a,vs,e,⟨h0,h1,h2⟩ | ⟨h0,h1,h2,G,hg,h3⟩⟩:=h
  ·subst h0
   have e0:d'=0:=by omega
   subst e0
   obtain ⟨F',s1,s2⟩:=Ows.cut ts (Nat.le_refl _) h2
   exact ⟨F',s1,fun O' ho hx=>⟨a,vs,e,.inl ⟨rfl,h1.sub ho,s2 O' ho hx⟩⟩⟩
  ·by_cases e0:d'=0
   ·subst e0
    obtain ⟨F',s1,s2⟩:=Ows.cut ts (Nat.zero_le _) h3
    refine ⟨F',fun b hb=>(hg _ (s1 b hb)).1,fun O' ho hx=>⟨a,vs,e,.inl ⟨rfl,⟨h1,fun z=>(hg _ (s1 _ (hx _ h2 z))).2 rfl⟩,s2 O' ho fun b hb=>hx b (hg b hb).1⟩⟩⟩
   ·obtain ⟨F',s1,s2⟩:=Ows.cut ts (mY hd) h3
    refine ⟨fun b=>b=a∨F' b,fun b hb=>hb.elim (fun z=>z ▸ h2) fun z=>(hg _ (s1 b z)).1,fun O' ho hx=>⟨a,vs,e,.inr ⟨e0,h1,.inl rfl,F',fun b hb=>⟨.inr hb,(hg _ (s1 b hb)).2⟩,s2 O' ho fun b hb hz=>?_⟩⟩⟩
    exact (hx b (hg b hb).1 hz).elim (fun z=>absurd z (hg b hb).2) id
 | .list ts,d,d',_,F,hd,h=>by
  obtain ⟨a,vs,e,⟨h0,h1,h2⟩ | ⟨h0,h1,h2,G,hg,h3⟩⟩:=h
  ·subst h0
   have e0:d'=0:=by omega
   subst e0
   obtain ⟨F',s1,s2⟩:=Ows.cut ts (Nat.le_refl _) h2
   exact ⟨F',s1,fun O' ho hx=>⟨a,vs,e,.inl ⟨rfl,h1.sub ho,s2 O' ho hx⟩⟩⟩
  ·by_cases e0:d'=0
   ·subst e0
    obtain ⟨F',s1,s2⟩:=Ows.cut ts (Nat.zero_le _) h3
    refine ⟨F',fun b hb=>(hg _ (s1 b hb)).1,fun O' ho hx=>⟨a,vs,e,.inl ⟨rfl,.inl ⟨.inl h1,fun z=>(hg _ (s1 _ (hx _ h2 z))).2 rfl⟩,s2 O' ho fun b hb=>hx b (hg b hb).1⟩⟩⟩
   ·obtain ⟨F',s1,s2⟩:=Ows.cut ts (mY hd) h3
    refine ⟨fun b=>b=a∨F' b,fun b hb=>hb.elim (fun z=>z ▸ h2) fun z=>(hg _ (s1 b z)).1,fun O' ho hx=>⟨a,vs,e,.inr ⟨e0,h1,.inl rfl,F',fun b hb=>⟨.inr hb,(hg _ (s1 b hb)).2⟩,s2 O' ho fun b hb hz=>?_⟩⟩⟩
    exact (hx b (hg b hb).1 hz).elim (fun z=>absurd z (hg b hb).2) id
 | .dict ts,d,d',_,F,hd,h=>by
  obtain ⟨a,vs,e,⟨h0,h1,hn,h2⟩ | ⟨h0,h1,h2,G,hg,h3⟩ | ⟨h0,ht⟩⟩:=h
  ·subst h0
   have e0:d'=0:=by omega
   subst e0
   obtain ⟨F',s1,s2⟩:=Owd.cut ts (Nat.le_refl _) h2
   exact ⟨F',s1,fun O' ho hx=>⟨a,vs,e,.inl ⟨rfl,h1,fun z=>hn (ho _ z),s2 O' ho hx⟩⟩⟩
  ·by_cases e0:d'=0
   ·subst e0
    obtain ⟨F',s1,s2⟩:=Owd.cut ts (Nat.zero_le _) h3
    refine ⟨F',fun b hb=>(hg _ (s1 b hb)).1,fun O' ho hx=>⟨a,vs,e,.inl ⟨rfl,h1,fun z=>(hg _ (s1 _ (hx _ h2 z))).2 rfl,s2 O' ho fun b hb=>hx b (hg b hb).1⟩⟩⟩
   ·obtain ⟨F',s1,s2⟩:=Owd.cut ts (mY hd) h3
    refine ⟨fun b=>b=a∨F' b,fun b hb=>hb.elim (fun z=>z ▸ h2) fun z=>(hg _ (s1 b z)).1,fun O' ho hx=>⟨a,vs,e,.inr (.inl ⟨e0,h1,.inl rfl,F',fun b hb=>⟨.inr hb,(hg _ (s1 b hb)).2⟩,s2 O' ho fun b hb hz=>?_⟩)⟩⟩
    exact (hx b (hg b hb).1 hz).elim (fun z=>absurd z (hg b hb).2) id
  ·subst h0
   have e0:d'=0:=by omega
   subst e0
   exact ⟨F,fun _ z=>z,fun O' ho hx=>⟨a,vs,e,.inr (.inr ⟨rfl,ht.to fun o h2 hn=>⟨h2,fun z=>hn (ho _ z)⟩⟩)⟩⟩
theorem Ows.cut:∀ (ts:List D) {d d':Nat} {vs:List V} {F:AS},d'≤d→Ows K O H ts d vs F→∃ F':AS,(∀ b,F' b→F b)∧∀ O':AS,(∀ a,O' a→O a)→(∀ a,F a→O' a→F' a)→Ows K O' H ts d' vs F'
 | [],_,_,_,F,_,h=>⟨F,fun _ z=>z,fun _ _ _=>h⟩
 | t :: ts,_,_,_,F,hd,h=>by
  obtain ⟨v,r,F1,F2,e,h1,h2,h3,h4,h5⟩:=h
  obtain ⟨G1,a1,a2⟩:=Ow.cut t hd h4
  obtain ⟨G2,b1,b2⟩:=Ows.cut ts hd h5
  refine ⟨fun b=>G1 b∨G2 b,fun b hb=>hb.elim (fun z=>h1 _ (a1 _ z)) fun z=>h2 _ (b1 _ z),fun O' ho hx=>⟨v,r,G1,G2,e,fun b=>.inl,fun b=>.inr,fun b z1 z2=>h3 b (a1 b z1) (b1 b z2),a2 O' ho fun b hb hz=>?_,b2 O' ho fun b hb hz=>?_⟩⟩
  ·exact (hx b (h1 b hb) hz).elim id fun z=>absurd (b1 b z) (h3 b hb)
  ·exact (hx b (h2 b hb) hz).elim (fun z=>absurd hb (h3 b (a1 b z))) id
theorem Owd.cut:∀ (ts:List (D × D)) {d d':Nat} {vs:List (Key × V)} {F:AS},d'≤d→Owd K O H ts d vs F→∃ F':AS,(∀ b,F' b→F b)∧∀ O':AS,(∀ a,O' a→O a)→(∀ a,F a→O' a→F' a)→Owd K O' H ts d' vs F'
 | [],_,_,_,F,_,h=>⟨F,fun _ z=>z,fun _ _ _=>h⟩
 | (k,t) :: ts,_,_,_,F,hd,h=>by
  obtain ⟨q,v,r,F1,F2,e,e2,h1,h2,h3,h4,h5⟩:=h
  obtain ⟨G1,a1,a2⟩:=Ow.cut t hd h4
  obtain ⟨G2,b1,b2⟩:=Owd.cut ts hd h5
  refine ⟨fun b=>G1 b∨G2 b,fun b hb=>hb.elim (fun z=>h1 _ (a1 _ z)) fun z=>h2 _ (b1 _ z),fun O' ho hx=>⟨q,v,r,G1,G2,e,e2,fun b=>.inl,fun b=>.inr,fun b z1 z2=>h3 b (a1 b z1) (b1 b z2),a2 O' ho fun b hb hz=>?_,b2 O' ho fun b hb hz=>?_⟩⟩
  ·exact (hx b (h1 b hb) hz).elim id fun z=>absurd (b1 b z) (h3 b hb)
  ·exact (hx b (h2 b hb) hz).elim (fun z=>absurd hb (h3 b (a1 b z))) id
end
mutual
theorem Ow.grow (ho:∀ a,O' a→O a):∀ (t:D) {d:Nat} {v:V} {F F':AS},(∀ b,F b→F' b)→Ow K O H t d v F→Ow K O' H t d v F'
 | .none,_,_,_,_,_,h=>h
 | .bool _,_,_,_,_,_,h=>h
 | .int _,_,_,_,_,_,h=>h
 | .str _,_,_,_,_,_,h=>h
 | .tuple ts,_,_,_,_,hf,h=>by
  obtain ⟨a,vs,e,⟨h0,h1,h2⟩ | ⟨h0,h1,h2,G,hg,h3⟩⟩:=h
  ·exact ⟨a,vs,e,.inl ⟨h0,h1.sub ho,Ows.grow ho ts hf h2⟩⟩
  ·exact ⟨a,vs,e,.inr ⟨h0,h1,hf _ h2,G,fun b hb=>⟨hf _ (hg b hb).1,(hg b hb).2⟩,Ows.grow ho ts (fun _ z=>z) h3⟩⟩
 | .list ts,_,_,_,_,hf,h=>by
  obtain ⟨a,vs,e,⟨h0,h1,h2⟩ | ⟨h0,h1,h2,G,hg,h3⟩⟩:=h
  ·exact ⟨a,vs,e,.inl ⟨h0,h1.sub ho,Ows.grow ho ts hf h2⟩⟩
  ·exact ⟨a,vs,e,.inr ⟨h0,h1,hf _ h2,G,fun b hb=>⟨hf _ (hg b hb).1,(hg b hb).2⟩,Ows.grow ho ts (fun _ z=>z) h3⟩⟩
 | .dict ts,_,_,_,_,hf,h=>by
  obtain ⟨a,vs,e,⟨h0,h1,hn,h2⟩ | ⟨h0,h1,h2,G,hg,h3⟩ | ⟨h0,ht⟩⟩:=h
  ·exact ⟨a,vs,e,.inl ⟨h0,h1,fun z=>hn (ho _ z),Owd.grow ho ts hf h2⟩⟩
  ·exact ⟨a,vs,e,.inr (.inl ⟨h0,h1,hf _ h2,G,fun b hb=>⟨hf _ (hg b hb).1,(hg b hb).2⟩,Owd.grow ho ts (fun _ z=>z) h3⟩)⟩
  ·exact ⟨a,vs,e,.inr (.inr ⟨h0,ht.to fun o h2 hn=>⟨h2,fun z=>hn (ho _ z)⟩⟩)⟩
theorem Ows.grow (ho:∀ a,O' a→O a):∀ (ts:List D) {d:Nat} {vs:List V} {F F':AS},(∀ b,F b→F' b)→Ows K O H ts d vs F→Ows K O' H ts d vs F'
 | [],_,_,_,_,_,h=>h
 | t :: ts,_,_,_,_,hf,h=>by
  obtain ⟨v,r,F1,F2,e,h1,h2,h3,h4,h5⟩:=h
  exact ⟨v,r,F1,F2,e,fun b z=>hf _ (h1 b z),fun b z=>hf _ (h2 b z),h3,Ow.grow ho t (fun _ z=>z) h4,Ows.grow ho ts (fun _ z=>z) h5⟩
theorem Owd.grow (ho:∀ a,O' a→O a):∀ (ts:List (D × D)) {d:Nat} {vs:List (Key × V)} {F F':AS},(∀ b,F b→F' b)→Owd K O H ts d vs F→Owd K O' H ts d vs F'
 | [],_,_,_,_,_,h=>h
 | (k,t) :: ts,_,_,_,_,hf,h=>by
  obtain ⟨q,v,r,F1,F2,e,e2,h1,h2,h3,h4,h5⟩:=h
  exact ⟨q,v,r,F1,F2,e,e2,fun b z=>hf _ (h1 b z),fun b z=>hf _ (h2 b z),h3,Ow.grow ho t (fun _ z=>z) h4,Owd.grow ho ts (fun _ z=>z) h5⟩
end
mutual
theorem Ow.full:∀ (t:D) {d:Nat} {v:V} {F:AS},Ow K O H t (d+3) v F→Ow K O' H t (d+3) v F
 | .none,_,_,_,h=>h
 | .bool _,_,_,_,h=>h
 | .int _,_,_,_,h=>h
 | .str _,_,_,_,h=>h
 | .tuple ts,_,_,_,h=>by
  obtain ⟨a,vs,e,⟨h0,h1,h2⟩ | ⟨h0,h1,h2,G,hg,h3⟩⟩:=h
  ·cases h0
  ·exact ⟨a,vs,e,.inr ⟨h0,h1,h2,G,hg,Ows.full ts h3⟩⟩
 | .list ts,_,_,_,h=>by
  obtain ⟨a,vs,e,⟨h0,h1,h2⟩ | ⟨h0,h1,h2,G,hg,h3⟩⟩:=h
  ·cases h0
  ·exact ⟨a,vs,e,.inr ⟨h0,h1,h2,G,hg,Ows.full ts h3⟩⟩
 | .dict ts,_,_,_,h=>by
  obtain ⟨a,vs,e,⟨h0,h1,hn,h2⟩ | ⟨h0,h1,h2,G,hg,h3⟩ | ⟨h0,_⟩⟩:=h
  ·cases h0
  ·exact ⟨a,vs,e,.inr (.inl ⟨h0,h1,h2,G,hg,Owd.full ts h3⟩)⟩
  ·cases h0
theorem Ows.full:∀ (ts:List D) {d:Nat} {vs:List V} {F:AS},Ows K O H ts (d+3) vs F→Ows K O' H ts (d+3) vs F
 | [],_,_,_,h=>h
 | t :: ts,_,_,_,h=>by
  obtain ⟨v,r,F1,F2,e,h1,h2,h3,h4,h5⟩:=h
  exact ⟨v,r,F1,F2,e,h1,h2,h3,Ow.full t h4,Ows.full ts h5⟩
theorem Owd.full:∀ (ts:List (D × D)) {d:Nat} {vs:List (Key × V)} {F:AS},Owd K O H ts (d+3) vs F→Owd K O' H ts (d+3) vs F
 | [],_,_,_,h=>h
 | (k,t) :: ts,_,_,_,h=>by
  obtain ⟨q,v,r,F1,F2,e,e2,h1,h2,h3,h4,h5⟩:=h
  exact ⟨q,v,r,F1,F2,e,e2,h1,h2,h3,Ow.full t h4,Owd.full ts h5⟩
end
mutual
theorem Ow.any0:∀ (t:D) {v:V} {F F':AS},Ow K O H t 0 v F→Ow K O H t 0 v F'
 | .none,_,_,_,h=>h
 | .bool _,_,_,_,h=>h
 | .int _,_,_,_,h=>h
 | .str _,_,_,_,h=>h
 | .tuple ts,_,_,_,h=>by
  obtain ⟨a,vs,e,⟨h0,h1,h2⟩ | ⟨h0,_⟩⟩:=h
  ·exact ⟨a,vs,e,.inl ⟨rfl,h1,Ows.any0 ts h2⟩⟩
  ·exact absurd rfl h0
 | .list ts,_,_,_,h=>by
  obtain ⟨a,vs,e,⟨h0,h1,h2⟩ | ⟨h0,_⟩⟩:=h
  ·exact ⟨a,vs,e,.inl ⟨rfl,h1,Ows.any0 ts h2⟩⟩
  ·exact absurd rfl h0
 | .dict ts,_,_,_,h=>by
  obtain ⟨a,vs,e,⟨h0,h1,hn,h2⟩ | ⟨h0,_⟩ | ⟨_,ht⟩⟩:=h
  ·exact ⟨a,vs,e,.inl ⟨rfl,h1,hn,Owd.any0 ts h2⟩⟩
  ·exact absurd rfl h0
  ·exact ⟨a,vs,e,.inr (.inr ⟨rfl,ht⟩)⟩
theorem Ows.any0:∀ (ts:List D) {vs:List V} {F F':AS},Ows K O H ts 0 vs F→Ows K O H ts 0 vs F'
 | [],_,_,_,h=>h
 | t :: ts,_,_,_,h=>by
  obtain ⟨v,r,F1,F2,e,_,_,_,h4,h5⟩:=h
  exact ⟨v,r,fun _=>False,fun _=>False,e,fun _ z=>z.elim,fun _ z=>z.elim,fun _ z=>z.elim,Ow.any0 t h4,Ows.any0 ts h5⟩
theorem Owd.any0:∀ (ts:List (D × D)) {vs:List (Key × V)} {F F':AS},Owd K O H ts 0 vs F→Owd K O H ts 0 vs F'
 | [],_,_,_,h=>h
 | (k,t) :: ts,_,_,_,h=>by
  obtain ⟨q,v,r,F1,F2,e,e2,_,_,_,h4,h5⟩:=h
  exact ⟨q,v,r,fun _=>False,fun _=>False,e,e2,fun _ z=>z.elim,fun _ z=>z.elim,fun _ z=>z.elim,Ow.any0 t h4,Owd.any0 ts h5⟩
end
theorem Ow.fz {t:D} {d:Nat} {v:V} {F F2:AS} (ho:∀ a,O' a→O a) (hn:∀ a,F a→¬ O' a) (h:Ow K O H t d v F):Ow K O' H t 0 v F2:=by
 obtain ⟨F',s1,s2⟩:=Ow.cut t (Nat.zero_le d) h
 exact Ow.any0 t (s2 O' ho fun a z1 z2=>absurd z2 (hn a z1))
end
def U (A B:AS):AS:=fun a=>A a∨B a
def Own (R:Nat→AS) (Ox:AS):AS:=fun a=>(∃ i,R i a)∨Ox a
theorem eQ {A B:AS} (h:∀ a,A a↔B a):A=B:=funext fun a=>propext (h a)
structure EnvOk (K:PySem.W.Frag) (ds:List Nat) (Ox:AS) (H:Hp) (σ:St) (en:En) (R:Nat→AS):Prop where
 at_:∀ (i:Nat) (t:D),en[i]?=some (some t)→∃ v d,σ[i]?=some (some v)∧ds[i]?=some d∧Ow K (Own R Ox) H t d v (R i)
 dj:∀ i j a,R i a→R j a→i=j
 dx:∀ i a,R i a→¬ Ox a
 dom:∀ a,Own R Ox a→∃ o,H a=some o
 l1:en.length=σ.length
 l2:ds.length=σ.length
structure Post (K:PySem.W.Frag) (p:Bool) (ds':List Nat) (Ox:AS) (σ:St) (H:Hp) (en:En) (R:Nat→AS) (en':En) (H':Hp) (R':Nat→AS) (F:AS):Prop where
 env:EnvOk K ds' (U F Ox) H' σ en' R'
 fx:∀ a,F a→¬ Ox a
 keep:∀ a o,H a=some o→(∀ i,¬ R i a)→H' a=some o
 own:∀ a,(F a∨∃ i,R' i a)→(∃ i,R i a)∨H a=none
 dom:∀ a o,H a=some o→∃ o',H' a=some o'
 pure:p=true→en'=en∧R'=R∧∀ a o,H a=some o→H' a=some o
section
variable {K:PySem.W.Frag} {p p1 p2:Bool} {ds ds1 ds2 ds':List Nat} {Ox Ox':AS} {H H':Hp} {σ:St} {en en' en1 en2:En} {R R':Nat→AS} {d d1 d2:Nat} {t1 t2:D}
theorem EnvOk.grow (e:EnvOk K ds Ox H σ en R) (hk:∀ a o,H a=some o→H' a=some o) {F:AS} (hf:∀ a,F a→H a=none∧∃ o,H' a=some o):EnvOk K ds (U F Ox) H' σ en R:=by
 have fo:∀ a,F a→¬ Own R Ox a:=fun a z z2=>by
  obtain ⟨o,q⟩:=e.dom a z2
  rw [(hf a z).1] at q
  cases q
 refine ⟨fun i t h=>?_,e.dj,fun i a h z=>?_,fun a h=>?_,e.l1,e.l2⟩
 ·obtain ⟨v,d,h1,h2,h3⟩:=e.at_ i t h
  refine ⟨v,d,h1,h2,Ow.mv (G:=R i) ⟨fun a o q _=>hk a o q,fun a z=>?_⟩ t (fun _ z=>z) h3⟩
  rcases z with z | z | z
  ·exact .inl (.inl z)
  ·exact .inr (hf a z).1
  ·exact .inl (.inr z)
 ·rcases z with z | z
  ·exact fo a z (.inl ⟨i,h⟩)
  ·exact e.dx i a h z
 ·rcases h with h | h | h
  ·obtain ⟨o,q⟩:=e.dom a (.inl h)
   exact ⟨o,hk a o q⟩
  ·exact (hf a h).2
  ·obtain ⟨o,q⟩:=e.dom a (.inr h)
   exact ⟨o,hk a o q⟩
theorem EnvOk.fewer (e:EnvOk K ds Ox H σ en R) (h:∀ a,Ox' a→Ox a):EnvOk K ds Ox' H σ en R:=by
 refine ⟨fun i t q=>?_,e.dj,fun i a z1 z2=>e.dx i a z1 (h a z2),fun a z=>e.dom a (z.imp id (h a)),e.l1,e.l2⟩
 obtain ⟨v,d,h1,h2,h3⟩:=e.at_ i t q
 exact ⟨v,d,h1,h2,Ow.grow (fun a z=>z.imp id (h a)) t (fun _ z=>z) h3⟩
def tF (K:PySem.W.Frag) (p:Bool) (ds ds':List Nat) (d:Nat) (f:En→Option (D × En)):TE:=fun σ H Q =>
 ∃ Ox en R t en',EnvOk K ds Ox H σ en R∧f en=some (t,en')∧∀ v H' R' F,Post K p ds' Ox σ H en R en' H' R' F→Ow K (Own R' (U F Ox)) H' t d v F→Q v H'
theorem Post.refl (e:EnvOk K ds Ox H σ en R):Post K p ds Ox σ H en R en H R (fun _=>False):=by
 have eq:U (fun _=>False) Ox=Ox:=eQ fun a=>⟨fun z=>z.elim (fun z=>z.elim) id,.inr⟩
 exact ⟨eq.symm ▸ e,fun _ z=>z.elim,fun _ _ q _=>q,fun a z=>z.elim (fun z=>z.elim) .inl,fun a o q=>⟨o,q⟩,fun _=>⟨rfl,rfl,fun _ _ q=>q⟩⟩
theorem Post.new (e:EnvOk K ds Ox H σ en R) (hk:∀ a o,H a=some o→H' a=some o) {F:AS} (hf:∀ a,F a→H a=none∧∃ o,H' a=some o):Post K p ds Ox σ H en R en H' R F:=by
 refine ⟨e.grow hk hf,fun a z z2=>?_,fun a o q _=>hk a o q,fun a z=>z.elim (fun z=>.inr (hf a z).1) .inl,fun a o q=>⟨o,hk a o q⟩,fun _=>⟨rfl,rfl,hk⟩⟩
 obtain ⟨o,q⟩:=e.dom a (.inr z2)
 rw [(hf a z).1] at q
 cases q
theorem Post.trans {H1 H2:Hp} {R1 R2:Nat→AS} {F1 F2:AS} (P1:Post K p1 ds1 Ox σ H en R en1 H1 R1 F1) (P2:Post K p2 ds2 (U F1 Ox) σ H1 en1 R1 en2 H2 R2 F2) :
  Post K (p1 && p2) ds2 Ox σ H en R en2 H2 R2 (U F1 F2):=by
 have eq:U F2 (U F1 Ox)=U (U F1 F2) Ox:=eQ fun a=>by unfold U; exact ⟨fun z=>by rcases z with z | z | z; exact .inl (.inr z); exact .inl (.inl z); exact .inr z,fun z=>by rcases z with (z | z) | z; exact .inr (.inl z); exact .inl z; exact .inr (.inr z)⟩
 have n1:∀ a,H1 a=none→H a=none:=fun a z=>by
  cases q:H a with
  | none=>rfl
  | some o =>
   obtain ⟨o',q'⟩:=P1.dom a o q
   rw [z] at q'
   cases q'
 refine ⟨eq ▸ P2.env,fun a z z2=>?_,fun a o q n=>?_,fun a z=>?_,fun a o q=>?_,fun hp=>?_⟩
 ·rcases z with z | z
  ·exact P1.fx a z z2
  ·exact P2.fx a z (.inr z2)
 ·refine P2.keep a o (P1.keep a o q n) fun i z=>?_
  rcases P1.own a (.inr ⟨i,z⟩) with ⟨j,z⟩ | z
  ·exact n j z
  ·rw [q] at z; cases z
 ·rcases z with (z | z) | z
  ·exact P1.own a (.inl z)
  ·rcases P2.own a (.inl z) with z | z
   ·exact P1.own a (.inr z)
   ·exact .inr (n1 a z)
  ·rcases P2.own a (.inr z) with z | z
   ·exact P1.own a (.inr z)
   ·exact .inr (n1 a z)
 ·obtain ⟨o',q'⟩:=P1.dom a o q
  exact P2.dom a o' q'
 ·have h1:p1=true:=by cases p1 <;> simp_all
  have h2:p2=true:=by cases p2 <;> simp_all
  obtain ⟨a1,a2,a3⟩:=P1.pure h1
  obtain ⟨b1,b2,b3⟩:=P2.pure h2
  exact ⟨b1.trans a1,b2.trans a2,fun a o q=>b3 a o (a3 a o q)⟩
theorem Ow.over {H1 H2:Hp} {R1 R2:Nat→AS} {F1 F2:AS} {t:D} {v:V} (P1:EnvOk K ds1 (U F1 Ox) H1 σ en1 R1) (P2:Post K p2 ds2 (U F1 Ox) σ H1 en1 R1 en2 H2 R2 F2) (h:Ow K (Own R1 (U F1 Ox)) H1 t d v F1) :
  Ow K (Own R2 (U (U F1 F2) Ox)) H2 t d v F1:=by
 refine Ow.mv (G:=F1) ⟨fun a o q z=>P2.keep a o q fun i zi=>?_,fun a z=>?_⟩ t (fun _ z=>z) h
 ·rcases z with z | z
  ·exact z (.inl ⟨i,zi⟩)
  ·exact P1.dx i a zi (.inl z)
 ·rcases z with z | (z | z) | z
  ·rcases P2.own a (.inr z) with z | z
   ·exact .inl (.inl z)
   ·exact .inr z
  ·exact .inl (.inr (.inl z))
  ·rcases P2.own a (.inl z) with z | z
   ·exact .inl (.inl z)
   ·exact .inr z
  ·exact .inl (.inr (.inr z))
theorem kc {F1 F2:AS}:U F2 (U F1 Ox)=U (U F1 F2) Ox:=eQ fun a=>by unfold U; exact ⟨fun z=>by rcases z with z | z | z; exact .inl (.inr z); exact .inl (.inl z); exact .inr z,fun z=>by rcases z with (z | z) | z; exact .inr (.inl z); exact .inl z; exact .inr (.inr z)⟩
theorem two {f g:En→Option (D × En)} {Q:V→V→Hp→Prop} (e:EnvOk K ds Ox H σ en R) (h1:f en=some (t1,en1)) (h2:g en1=some (t2,en2))
  (k:∀ x y H2 R2 F1 F2,Post K (p1 && p2) ds2 Ox σ H en R en2 H2 R2 (U F1 F2)→Ow K (Own R2 (U (U F1 F2) Ox)) H2 t1 d1 x F1→Ow K (Own R2 (U (U F1 F2) Ox)) H2 t2 d2 y F2→Q x y H2) :
  tF K p1 ds ds1 d1 f σ H fun x H1=>tF K p2 ds1 ds2 d2 g σ H1 fun y H2=>Q x y H2:=by
 refine ⟨Ox,en,R,t1,en1,e,h1,fun x H1 R1 F1 P1 o1=>?_⟩
 refine ⟨U F1 Ox,en1,R1,t2,en2,P1.env,h2,fun y H2 R2 F2 P2 o2=>?_⟩
 exact k x y H2 R2 F1 F2 (P1.trans P2) (Ow.over P1.env P2 o1) (kc ▸ o2)
end
end L2
namespace L2
open PySem PySem.Spec PyProof.Rows
abbrev ME:=En→Option (D × En)
abbrev MT:=En→Option (Bool × En)
abbrev MA:=En→Option (List (D ⊕ Nat) × En)
def af (i:Nat):ME:=fun en=>(en[i]?).join.map fun t=>(t,en)
def eMv (i:Nat):ME:=fun en=>(en[i]?).join.map fun t=>(t,en.set i none)
def eC (t:D):ME:=fun en=>some (t,en)
def e1 (g:D→Option D) (f:ME):ME:=fun en=>(f en).bind fun r=>(g r.1).map fun t=>(t,r.2)
def e2 (g:D→D→Option D) (f1 f2:ME):ME:=fun en=>(f1 en).bind fun r=>(f2 r.2).bind fun q=>(g r.1 q.1).map fun t=>(t,q.2)
def Ji (f g:ME):ME:=fun en=>(f en).bind fun r=>match r.1 with
 | .bool true=>g r.2
 | .bool false=>some (.bool false,r.2)
 | _=>none
def eOr (f g:ME):ME:=fun en=>(f en).bind fun r=>match r.1 with
 | .bool true=>some (.bool true,r.2)
 | .bool false=>g r.2
 | _=>none
def Jh (f:ME):ME:=fun en=>(f en).bind fun r=>match r.1 with
 | .bool b=>some (.bool (!b),r.2)
 | _=>none
def eIf (c:MT) (f g:ME):ME:=fun en=>(c en).bind fun r=>if r.1 then f r.2 else g r.2
def tV (f:ME):MT:=fun en=>(f en).bind fun r=>match r.1 with
 | .bool b=>some (b,r.2)
 | _=>none
def cV (f g:MT):MT:=fun en=>(f en).bind fun r=>if r.1 then g r.2 else some (false,r.2)
def bOr (f g:MT):MT:=fun en=>(f en).bind fun r=>if r.1 then some (true,r.2) else g r.2
def dI (f:MT):MT:=fun en=>(f en).map fun r=>(!r.1,r.2)
def aj:MA:=fun en=>some ([],en)
def ae (f:ME) (r:MA):MA:=fun en=>(f en).bind fun x=>(r x.2).map fun y=>(.inl x.1 :: y.1,y.2)
def bb (i:Nat) (r:MA):MA:=fun en=>(en[i]?).join.bind fun _=>(r en).map fun y=>(.inr i :: y.1,y.2)
def bC:List (D ⊕ Nat)→Option (List D)
 | []=>some []
 | .inl t :: r=>(bC r).map (t :: ·)
 | .inr _ :: _=>none
def eN (g:List D→Option D) (fa:MA):ME:=fun en=>(fa en).bind fun r=>(bC r.1).bind fun ts=>(g ts).map fun t=>(t,r.2)
def NewTo (H H':Hp) (F:AS):Prop:=(∀ a o,H a=some o→H' a=some o)∧∀ a,F a→H a=none∧∃ o,H' a=some o
def NoA:AS:=fun _=>False
theorem fj {A:AS}:U NoA A=A:=eQ fun a=>⟨fun z=>z.elim (fun z=>z.elim) id,.inr⟩
def rF1 (K:PySem.W.Frag) (g:D→Option D) (d:Nat):V→Hp→VK→Prop:=fun x H Q=>∃ (O:AS) (a t:D),Ow K O H a 0 x NoA∧(∀ a,O a→∃ o,H a=some o)∧g a=some t∧∀ v H' F,NewTo H H' F→Ow K (U F O) H' t d v F→Q v H'
def rF2 (K:PySem.W.Frag) (g:D→D→Option D) (d:Nat):R2:=fun x y H Q=>∃ (O:AS) (a b t:D),Ow K O H a 0 x NoA∧Ow K O H b 0 y NoA∧(∀ a,O a→∃ o,H a=some o)∧g a b=some t∧∀ v H' F,NewTo H H' F→Ow K (U F O) H' t d v F→Q v H'
def rFn (K:PySem.W.Frag) (g:List D→Option D) (d:Nat):List V→Hp→VK→Prop:=fun xs H Q=>∃ (O:AS) (ts:List D) (t:D),Ows K O H ts 0 xs NoA∧(∀ a,O a→∃ o,H a=some o)∧g ts=some t∧∀ v H' F,NewTo H H' F→Ow K (U F O) H' t d v F→Q v H'
section
variable {K:PySem.W.Frag} {p p1 p2:Bool} {ds ds0 ds1 ds2 ds':List Nat} {Ox Ox':AS} {H H':Hp} {σ:St} {en en' en1 en2:En} {R R':Nat→AS} {d d' d1 d2:Nat} {t t1 t2:D} {Q:VK} {f f1 f2 fa fb:ME}
theorem mz {F:AS}:U F (Own R Ox)=Own R (U F Ox):=eQ fun a=>by
 unfold U Own
 exact ⟨fun z=>by rcases z with z | z | z; exact .inr (.inl z); exact .inl z; exact .inr (.inr z),fun z=>by rcases z with z | z | z; exact .inr (.inl z); exact .inl z; exact .inr (.inr z)⟩
theorem Post.fin {H1:Hp} {F0 F:AS} (P:Post K p ds' Ox σ H en R en' H1 R' F0) (n:NewTo H1 H' F):Post K p ds' Ox σ H en R en' H' R' F:=by
 have e:=P.env.fewer (Ox':=Ox) fun a z=>.inr z
 have n1:∀ a,H1 a=none→H a=none:=fun a z=>by
  cases q:H a with
  | none=>rfl
  | some o =>
   obtain ⟨o',q'⟩:=P.dom a o q
   rw [z] at q'
   cases q'
 refine ⟨e.grow n.1 n.2,fun a z z2=>?_,fun a o q nn=>n.1 a o (P.keep a o q nn),fun a z=>?_,fun a o q=>?_,fun hp=>?_⟩
 ·obtain ⟨o,q⟩:=e.dom a (.inr z2)
  rw [(n.2 a z).1] at q
  cases q
 ·rcases z with z | z
  ·exact .inr (n1 a (n.2 a z).1)
  ·exact P.own a (.inr z)
 ·obtain ⟨o',q'⟩:=P.dom a o q
  exact ⟨o',n.1 a o' q'⟩
 ·obtain ⟨a1,a2,a3⟩:=P.pure hp
  exact ⟨a1,a2,fun a o q=>n.1 a o (a3 a o q)⟩
theorem Post.less {F F':AS} (P:Post K p ds' Ox σ H en R en' H' R' F) (h:∀ a,F' a→F a):Post K p ds' Ox σ H en R en' H' R' F' :=
 ⟨P.env.fewer fun a z=>z.imp (h a) id,fun a z=>P.fx a (h a z),P.keep,fun a z=>P.own a (z.imp (h a) id),P.dom,P.pure⟩
theorem Ow.letgo {F F0:AS} {v:V} (P:Post K p ds' Ox σ H en R en' H' R' F0) (hf:∀ a,F a→F0 a) (h:Ow K (Own R' (U F0 Ox)) H' t d v F):Ow K (Own R' Ox) H' t 0 v NoA:=by
 refine Ow.fz (fun a z=>z.imp id .inr) (fun a z z2=>?_) h
 rcases z2 with ⟨i,z2⟩ | z2
 ·exact P.env.dx i a z2 (.inl (hf a z))
 ·exact P.fx a (hf a z) z2
theorem Post.doms {F0:AS} (P:Post K p ds' Ox σ H en R en' H' R' F0):∀ a,Own R' Ox a→∃ o,H' a=some o:=fun a z=>P.env.dom a (z.imp id .inr)
theorem HP (hd:ds[i]?=some 0) (h:tF K true ds ds 0 (af i) σ H Q):gC i σ H Q:=by
 obtain ⟨Ox,en,R,t,en',e,hf,k⟩:=h
 unfold af at hf
 cases q:en[i]? with
 | none=>rw [q] at hf; cases hf
 | some o =>
  rw [q] at hf
  cases o with
  | none=>cases hf
  | some t' =>
   cases hf
   obtain ⟨v,d,h1,h2,h3⟩:=e.at_ i t q
   rw [hd] at h2
   cases h2
   exact ⟨v,h1,k v H R NoA (Post.refl e) (by rw [fj]; exact Ow.any0 t h3)⟩
theorem Iv (hd:ds[i]?=some d) (h:tF K false ds (ds.set i 0) d (eMv i) σ H Q):gC i σ H Q:=by
 obtain ⟨Ox,en,R,t,en',e,hf,k⟩:=h
 unfold eMv at hf
 cases q:en[i]? with
 | none=>rw [q] at hf; cases hf
 | some o =>
  rw [q] at hf
  cases o with
  | none=>cases hf
  | some t' =>
   cases hf
   obtain ⟨v,d',h1,h2,h3⟩:=e.at_ i t q
   rw [hd] at h2
   cases h2
   have eq:Own (fun j=>if j=i then NoA else R j) (U (R i) Ox)=Own R Ox:=eQ fun a=>by
    unfold Own U
    constructor
    ·rintro (⟨j,z⟩ | z | z)
     ·by_cases hj:j=i
      ·rw [if_pos hj] at z; exact z.elim
      ·rw [if_neg hj] at z; exact .inl ⟨j,z⟩
     ·exact .inl ⟨i,z⟩
     ·exact .inr z
    ·rintro (⟨j,z⟩ | z)
     ·by_cases hj:j=i
      ·subst hj; exact .inr (.inl z)
      ·exact .inl ⟨j,by show (if j=i then NoA else R j) a; rw [if_neg hj]; exact z⟩
     ·exact .inr (.inr z)
   refine ⟨v,h1,k v H (fun j=>if j=i then NoA else R j) (R i) ⟨⟨fun j u hu=>?_,fun j j' a z z'=>?_,fun j a z=>?_,fun a z=>e.dom a (eq ▸ z),?_,?_⟩,e.dx i,fun a o q _=>q,fun a z=>?_,fun a o q=>⟨o,q⟩,fun z=>nomatch z⟩ (eq.symm ▸ h3)⟩
   ·by_cases hj:j=i
    ·subst hj
     rw [List.getElem?_set_self' ] at hu
     rw [q] at hu
     cases hu
    ·rw [List.getElem?_set_ne (Ne.symm hj)] at hu
     obtain ⟨v',d',a1,a2,a3⟩:=e.at_ j u hu
     refine ⟨v',d',a1,by rw [List.getElem?_set_ne (Ne.symm hj)]; exact a2,?_⟩
     rw [if_neg hj,eq]
     exact a3
   ·by_cases hj:j=i
    ·rw [if_pos hj] at z; exact z.elim
    ·rw [if_neg hj] at z
     by_cases hj':j'=i
     ·rw [if_pos hj'] at z'; exact z'.elim
     ·rw [if_neg hj'] at z'; exact e.dj j j' a z z'
   ·by_cases hj:j=i
    ·rw [if_pos hj] at z; exact z.elim
    ·rw [if_neg hj] at z
     rintro (z2 | z2)
     ·exact hj (e.dj j i a z z2)
     ·exact e.dx j a z z2
   ·rw [List.length_set]; exact e.l1
   ·rw [List.length_set]; exact e.l2
   ·rcases z with z | ⟨j,z⟩
    ·exact .inl ⟨i,z⟩
    ·by_cases hj:j=i
     ·rw [if_pos hj] at z; exact z.elim
     ·rw [if_neg hj] at z; exact .inl ⟨j,z⟩
theorem f_c {v:V} (hv:∀ K O H F,Ow K O H t 3 v F) (h:tF K true ds ds 3 (eC t) σ H Q):tC v σ H Q:=by
 obtain ⟨Ox,en,R,t',en',e,hf,k⟩:=h
 cases hf
 exact k v H R NoA (Post.refl e) (hv _ _ _ _)
theorem HR (hd:d'≤d) (h:tF K p ds ds' d' f σ H Q):tF K p ds ds' d f σ H Q:=by
 obtain ⟨Ox,en,R,t,en',e,hf,k⟩:=h
 refine ⟨Ox,en,R,t,en',e,hf,fun v H' R' F P o=>?_⟩
 obtain ⟨F',s1,s2⟩:=Ow.cut t hd o
 refine k v H' R' F' (P.less s1) (s2 _ (fun a z=>z.imp id fun z=>z.imp (s1 a) id) fun a z z2=>?_)
 rcases z2 with ⟨i,z2⟩ | z2 | z2
 ·exact absurd (.inl z) (P.env.dx i a z2)
 ·exact z2
 ·exact absurd z2 (P.fx a z)
theorem jg (hp:p'=true→p=true) (h:tF K p' ds ds' d f σ H Q):tF K p ds ds' d f σ H Q:=by
 obtain ⟨Ox,en,R,t,en',e,hf,k⟩:=h
 exact ⟨Ox,en,R,t,en',e,hf,fun v H' R' F P o=>k v H' R' F ⟨P.env,P.fx,P.keep,P.own,P.dom,fun z=>P.pure (hp z)⟩ o⟩
theorem EnvOk.cut (e:EnvOk K ds Ox H σ en R) (hl:ds0.length=ds.length) (hd:∀ (i:Nat) a b,ds0[i]?=some a→ds[i]?=some b→a≤b):∃ R',(∀ i a,R' i a→R i a)∧EnvOk K ds0 Ox H σ en R':=by
 have ch:∀ i,∃ F':AS,(∀ b,F' b→R i b)∧∀ t v d0,en[i]?=some (some t)→σ[i]?=some (some v)→ds0[i]?=some d0→∀ O':AS,(∀ a,O' a→Own R Ox a)→(∀ a,R i a→O' a→F' a)→Ow K O' H t d0 v F':=fun i=>by
  by_cases h:∃ t,en[i]?=some (some t)
  ·obtain ⟨t,ht⟩:=h
   obtain ⟨v,d,h1,h2,h3⟩:=e.at_ i t ht
   cases q:ds0[i]? with
   | none=>exact ⟨NoA,fun _ z=>z.elim,fun _ _ _ _ _ z=>nomatch z⟩
   | some d0 =>
    obtain ⟨F',s1,s2⟩:=Ow.cut t (hd i d0 d q h2) h3
    refine ⟨F',s1,fun t' v' d0' h1' h2' h3' O'=>?_⟩
    rw [ht] at h1'; cases h1'
    rw [h1] at h2'; cases h2'
    cases h3'
    exact s2 O'
  ·exact ⟨NoA,fun _ z=>z.elim,fun t _ _ ht=>absurd ⟨t,ht⟩ h⟩
 refine ⟨fun i=>(ch i).choose,fun i=>(ch i).choose_spec.1,fun i t ht=>?_,fun i j a z1 z2=>e.dj i j a ((ch i).choose_spec.1 a z1) ((ch j).choose_spec.1 a z2),fun i a z=>e.dx i a ((ch i).choose_spec.1 a z),fun a z=>e.dom a (z.imp (fun ⟨i,z⟩=>⟨i,(ch i).choose_spec.1 a z⟩) id),e.l1,hl.trans e.l2⟩
 obtain ⟨v,d,h1,h2,h3⟩:=e.at_ i t ht
 have hi:i < ds0.length:=by rw [hl]; exact (List.getElem?_eq_some_iff.mp h2).1
 refine ⟨v,ds0[i],h1,List.getElem?_eq_getElem hi,(ch i).choose_spec.2 t v _ ht h1 (List.getElem?_eq_getElem hi) _ (fun a z=>z.imp (fun ⟨j,z⟩=>⟨j,(ch j).choose_spec.1 a z⟩) id) fun a z z2=>?_⟩
 rcases z2 with ⟨j,z2⟩ | z2
 ·have:=e.dj i j a z ((ch j).choose_spec.1 a z2)
  subst this
  exact z2
 ·exact absurd z2 (e.dx i a z)
def leD:List Nat→List Nat→Bool
 | [],[]=>true
 | a :: r,b :: s=>decide (a≤b) && leD r s
 | _,_=>false
theorem dy:∀ {a b:List Nat},leD a b=true→a.length=b.length∧∀ (i:Nat) x y,a[i]?=some x→b[i]?=some y→x≤y
 | [],[],_=>⟨rfl,fun i x y h=>by simp at h⟩
 | a :: r,b :: s,h=>by
  unfold leD at h
  rw [Bool.and_eq_true] at h
  obtain ⟨h1,h2⟩:=h
  obtain ⟨h3,h4⟩:=dy h2
  refine ⟨by rw [List.length_cons,List.length_cons,h3],fun i x y e1 e2=>?_⟩
  cases i with
  | zero=>cases e1; cases e2; exact of_decide_eq_true h1
  | succ i=>exact h4 i x y e1 e2
 | [],_ :: _,h=>nomatch h
 | _ :: _,[],h=>nomatch h
theorem Iw (hd:leD ds0 ds=true) (h:tF K false ds ds' d f σ H Q):tF K p ds0 ds' d f σ H Q:=by
 obtain ⟨Ox,en,R,t,en',e,hf,k⟩:=h
 obtain ⟨R1,s1,e1⟩:=e.cut (dy hd).1 (dy hd).2
 refine ⟨Ox,en,R1,t,en',e1,hf,fun v H' R' F P o=>k v H' R' F ⟨P.env,P.fx,fun a o q n=>P.keep a o q fun i z=>n i (s1 i a z),fun a z=>(P.own a z).imp (fun ⟨i,z⟩=>⟨i,s1 i a z⟩) id,P.dom,fun z=>nomatch z⟩ o⟩
theorem HY (hd:leD ds0 ds=true) (h:tF K true ds ds 3 f σ H Q):tF K true ds0 ds0 3 f σ H Q:=by
 obtain ⟨Ox,en,R,t,en',e,hf,k⟩:=h
 obtain ⟨R1,s1,e1⟩:=e.cut (dy hd).1 (dy hd).2
 refine ⟨Ox,en,R1,t,en',e1,hf,fun v H' R' F P o=>?_⟩
 obtain ⟨a1,a2,a3⟩:=P.pure rfl
 subst a1 a2
 have nf:∀ a,F a→H a=none:=fun a z=>by
  rcases P.own a (.inl z) with ⟨i,z2⟩ | z2
  ·exact absurd (.inl z) (P.env.dx i a z2)
  ·exact z2
 have nt:NewTo H H' F:=⟨a3,fun a z=>⟨nf a z,P.env.dom a (.inr (.inl z))⟩⟩
 exact k v H' R F (Post.new e nt.1 nt.2) (Ow.full t o)
theorem HS {g:D→Option D} (h:tF K p ds ds1 d (e1 g f) σ H Q):tUn (rF1 K g d) (tF K p ds ds1 d1 f) σ H Q:=by
 obtain ⟨Ox,en,R,t,en',e,hf,k⟩:=h
 unfold e1 at hf
 obtain ⟨⟨t1,en1⟩,h1,hf⟩:=Option.bind_eq_some_iff.mp hf
 obtain ⟨t',h3,hf⟩:=Option.map_eq_some_iff.mp hf
 cases hf
 refine ⟨Ox,en,R,t1,en1,e,h1,fun v H' R' F P o=>?_⟩
 refine ⟨Own R' Ox,t1,t,Ow.letgo P (fun _ z=>z) o,P.doms,h3,fun v2 H2 F2 n o2=>k v2 H2 R' F2 (P.fin n) (mz ▸ o2)⟩
theorem me {g:D→D→Option D} (h:tF K (p1 && p2) ds ds2 d (e2 g f1 f2) σ H Q):tOp (rF2 K g d) (tF K p1 ds ds1 d1 f1) (tF K p2 ds1 ds2 d2 f2) σ H Q:=by
 obtain ⟨Ox,en,R,t,en',e,hf,k⟩:=h
 unfold e2 at hf
 obtain ⟨⟨t1,en1⟩,h1,hf⟩:=Option.bind_eq_some_iff.mp hf
 obtain ⟨⟨t2,en2⟩,h2,hf⟩:=Option.bind_eq_some_iff.mp hf
 obtain ⟨t',h3,hf⟩:=Option.map_eq_some_iff.mp hf
 cases hf
 refine two e h1 h2 fun x y H2 R2 F1 F2 P o1 o2=>?_
 exact ⟨Own R2 Ox,t1,t2,t,Ow.letgo P (fun _=>.inl) o1,Ow.letgo P (fun _=>.inr) o2,P.doms,h3,fun v2 H3 F3 n o3=>k v2 H3 R2 F3 (P.fin n) (mz ▸ o3)⟩
theorem Post.after {H1:Hp} {R1 R2:Nat→AS} {F1 F:AS} (P1:Post K p1 ds1 Ox σ H en R en1 H1 R1 F1) (P2:Post K p2 ds2 Ox σ H1 en1 R1 en2 H' R2 F):Post K (p1 && p2) ds2 Ox σ H en R en2 H' R2 F:=by
 have P1':=P1.less (F':=NoA) fun _ z=>z.elim
 have P2':Post K p2 ds2 (U NoA Ox) σ H1 en1 R1 en2 H' R2 F:=by rw [fj]; exact P2
 have:=P1'.trans P2'
 rw [fj] at this
 exact this
theorem Post.env0 {F:AS} (P:Post K p ds' Ox σ H en R en' H' R' F):EnvOk K ds' Ox H' σ en' R':=P.env.fewer fun a z=>.inr z
def tFT (K:PySem.W.Frag) (p:Bool) (ds ds':List Nat) (f:MT):TT:=fun σ H Q =>
 ∃ Ox en R b en',EnvOk K ds Ox H σ en R∧f en=some (b,en')∧∀ H' R',Post K p ds' Ox σ H en R en' H' R' NoA→Q b H'
variable {c c1 c2:MT} {QT:Bool→Hp→Prop}
theorem pc (h:tFT K p ds ds' (tV f) σ H QT):tB (tF K p ds ds' d f) σ H QT:=by
 obtain ⟨Ox,en,R,b,en',e,hf,k⟩:=h
 unfold tV at hf
 obtain ⟨⟨t1,en1⟩,h1,hf⟩:=Option.bind_eq_some_iff.mp hf
 refine ⟨Ox,en,R,t1,en1,e,h1,fun v H1 R1 F1 P1 o1=>?_⟩
 cases t1 with
 | bool b =>
  cases hf
  exact ⟨_,o1,k H1 R1 (P1.less fun _ z=>z.elim)⟩
 | _=>cases hf
theorem Gd (h:tFT K (p1 && p2) ds ds1 (cV c1 c2) σ H QT):E2 (tFT K p1 ds ds1 c1) (tFT K p2 ds1 ds1 c2) σ H QT:=by
 obtain ⟨Ox,en,R,b,en',e,hf,k⟩:=h
 unfold cV at hf
 obtain ⟨⟨b1,en1⟩,h1,hf⟩:=Option.bind_eq_some_iff.mp hf
 refine ⟨Ox,en,R,b1,en1,e,h1,fun H1 R1 P1=>?_⟩
 cases b1 with
 | true =>
  rw [if_pos rfl]
  exact ⟨Ox,en1,R1,b,en',P1.env0,hf,fun H2 R2 P2=>k H2 R2 (P1.after P2)⟩
 | false =>
  cases hf
  rw [if_neg Bool.false_ne_true]
  exact k H1 R1 ⟨P1.env,P1.fx,P1.keep,P1.own,P1.dom,fun hp=>P1.pure (by cases p1 <;> simp_all)⟩
theorem Hz (h:tFT K (p1 && p2) ds ds1 (bOr c1 c2) σ H QT):tOr (tFT K p1 ds ds1 c1) (tFT K p2 ds1 ds1 c2) σ H QT:=by
 obtain ⟨Ox,en,R,b,en',e,hf,k⟩:=h
 unfold bOr at hf
 obtain ⟨⟨b1,en1⟩,h1,hf⟩:=Option.bind_eq_some_iff.mp hf
 refine ⟨Ox,en,R,b1,en1,e,h1,fun H1 R1 P1=>?_⟩
 cases b1 with
 | false =>
  rw [if_neg Bool.false_ne_true]
  exact ⟨Ox,en1,R1,b,en',P1.env0,hf,fun H2 R2 P2=>k H2 R2 (P1.after P2)⟩
 | true =>
  cases hf
  rw [if_pos rfl]
  exact k H1 R1 ⟨P1.env,P1.fx,P1.keep,P1.own,P1.dom,fun hp=>P1.pure (by cases p1 <;> simp_all)⟩
theorem Gb (h:tFT K p ds ds1 (dI c) σ H QT):EU (tFT K p ds ds1 c) σ H QT:=by
 obtain ⟨Ox,en,R,b,en',e,hf,k⟩:=h
 unfold dI at hf
 obtain ⟨⟨b1,en1⟩,h1,hf⟩:=Option.map_eq_some_iff.mp hf
 cases hf
 exact ⟨Ox,en,R,b1,_,e,h1,fun H1 R1 P1=>k H1 R1 P1⟩
theorem Gc (hd:leD ds0 ds=true) (h:tFT K true ds ds c σ H QT):tFT K true ds0 ds0 c σ H QT:=by
 obtain ⟨Ox,en,R,t,en',e,hf,k⟩:=h
 obtain ⟨R1,s1,e1⟩:=e.cut (dy hd).1 (dy hd).2
 refine ⟨Ox,en,R1,t,en',e1,hf,fun H' R' P=>?_⟩
 obtain ⟨a1,a2,a3⟩:=P.pure rfl
 subst a1 a2
 exact k H' R (Post.new e a3 fun _ z=>z.elim)
end
end L2
namespace L2
open PySem PySem.Spec PyProof.Rows
abbrev Sh:=List (Nat ⊕ Nat)
def OwA (K:PySem.W.Frag) (O:AS) (H:Hp) (σ:St):List (D ⊕ Nat)→Sh→List V→AS→Prop
 | [],ds,vs,_=>ds=[]∧vs=[]
 | .inl t :: as,ds,vs,F=>∃ v r d dr,∃ F1 F2:AS,vs=v :: r∧ds=.inl d :: dr∧(∀ b,F1 b→F b)∧(∀ b,F2 b→F b)∧(∀ b,F1 b→¬ F2 b)∧Ow K O H t d v F1∧OwA K O H σ as dr r F2
 | .inr i :: as,ds,vs,F=>∃ v r dr,vs=v :: r∧ds=.inr i :: dr∧σ[i]?=some (some v)∧OwA K O H σ as dr r F
def tFA (K:PySem.W.Frag) (p:Bool) (ds ds':List Nat) (sh:Sh) (f:MA):TA:=fun σ H Q =>
 ∃ Ox en R as en',EnvOk K ds Ox H σ en R∧f en=some (as,en')∧∀ vs H' R' F,Post K p ds' Ox σ H en R en' H' R' F→OwA K (Own R' (U F Ox)) H' σ as sh vs F→Q vs H'
def a9 (fa:MA):ME:=fun en=>(fa en).bind fun r=>(bC r.1).bind fun ts=>if ts.length≤sizeLine then some (.list ts,r.2) else none
def a7 (fa:MA):ME:=fun en=>(fa en).bind fun r=>(bC r.1).bind fun ts=>if ts.length≤sizeLine then some (.tuple ts,r.2) else none
section
variable {K:PySem.W.Frag} {p p1 p2:Bool} {ds ds0 ds1 ds2 ds':List Nat} {Ox Ox' O O':AS} {H H':Hp} {σ:St} {en en' en1 en2:En} {R R':Nat→AS} {d d' d1 d2:Nat} {t t1 t2:D} {Q:VK} {f f1 f2:ME} {fa:MA} {sh:Sh} {QA:List V→Hp→Prop} {i:Nat}
theorem uA (h:tFA K true ds ds [] aj σ H QA):oh σ H QA:=by
 obtain ⟨Ox,en,R,as,en',e,hf,k⟩:=h
 cases hf
 exact k [] H R NoA (Post.refl e) ⟨rfl,rfl⟩
theorem mU (h:tFA K (p1 && p2) ds ds2 (.inl d :: sh) (ae f fa) σ H QA):i3 (tF K p1 ds ds1 d f) (tFA K p2 ds1 ds2 sh fa) σ H QA:=by
 obtain ⟨Ox,en,R,as,en',e,hf,k⟩:=h
 unfold ae at hf
 obtain ⟨⟨t1,en1⟩,h1,hf⟩:=Option.bind_eq_some_iff.mp hf
 obtain ⟨⟨as2,en2⟩,h2,hf⟩:=Option.map_eq_some_iff.mp hf
 cases hf
 refine ⟨Ox,en,R,t1,en1,e,h1,fun x H1 R1 F1 P1 o1=>?_⟩
 refine ⟨U F1 Ox,en1,R1,as2,en2,P1.env,h2,fun vs H2 R2 F2 P2 o2=>?_⟩
 refine k (x :: vs) H2 R2 (U F1 F2) (P1.trans P2) ⟨x,vs,d,sh,F1,F2,rfl,rfl,fun _=>.inl,fun _=>.inr,fun b z1 z2=>P2.fx b z2 (.inl z1),Ow.over P1.env P2 o1,?_⟩
 rw [← kc]
 exact o2
theorem CF (h:tFA K p ds ds2 (.inr i :: sh) (bb i fa) σ H QA):i3 (gC i) (tFA K p ds ds2 sh fa) σ H QA:=by
 obtain ⟨Ox,en,R,as,en',e,hf,k⟩:=h
 unfold bb at hf
 obtain ⟨t0,h0,hf⟩:=Option.bind_eq_some_iff.mp hf
 obtain ⟨⟨as2,en2⟩,h2,hf⟩:=Option.map_eq_some_iff.mp hf
 cases hf
 have q:en[i]?=some (some t0):=by
  cases q:en[i]? with
  | none=>rw [q] at h0; cases h0
  | some o=>rw [q] at h0; exact congrArg some h0
 obtain ⟨v,d,h1,_⟩:=e.at_ i t0 q
 exact ⟨v,h1,Ox,en,R,as2,en2,e,h2,fun vs H2 R2 F2 P2 o2=>k (v :: vs) H2 R2 F2 P2 ⟨v,vs,sh,rfl,rfl,h1,o2⟩⟩
def b8 (c:Nat):Sh→Bool
 | []=>true
 | .inl d :: r=>decide (c≤d) && b8 c r
 | .inr _ :: _=>false
theorem OwA.ows:∀ {as:List (D ⊕ Nat)} {sh:Sh} {vs:List V} {F:AS} {ts:List D} {c:Nat},b8 c sh=true→bC as=some ts→OwA K O H σ as sh vs F →
  ∃ F':AS,(∀ b,F' b→F b)∧∀ O':AS,(∀ a,O' a→O a)→(∀ a,F a→O' a→F' a)→Ows K O' H ts c vs F'
 | [],_,_,F,ts,c,_,hv,h=>by
  cases hv
  exact ⟨F,fun _ z=>z,fun _ _ _=>h.2⟩
 | .inl t :: as,_,_,F,ts,c,hs,hv,h=>by
  obtain ⟨v,r,d,dr,F1,F2,e1,e2,s1,s2,s3,h1,h2⟩:=h
  subst e1 e2
  unfold bC at hv
  obtain ⟨ts',hv',e⟩:=Option.map_eq_some_iff.mp hv
  subst e
  unfold b8 at hs
  rw [Bool.and_eq_true] at hs
  obtain ⟨G1,a1,a2⟩:=Ow.cut t (of_decide_eq_true hs.1) h1
  obtain ⟨G2,b1,b2⟩:=OwA.ows hs.2 hv' h2
  refine ⟨fun b=>G1 b∨G2 b,fun b hb=>hb.elim (fun z=>s1 _ (a1 _ z)) fun z=>s2 _ (b1 _ z),fun O' ho hx=>⟨v,r,G1,G2,rfl,fun b=>.inl,fun b=>.inr,fun b z1 z2=>s3 b (a1 b z1) (b1 b z2),a2 O' ho fun b hb hz=>?_,b2 O' ho fun b hb hz=>?_⟩⟩
  ·exact (hx b (s1 b hb) hz).elim id fun z=>absurd (b1 b z) (s3 b hb)
  ·exact (hx b (s2 b hb) hz).elim (fun z=>absurd hb (s3 b (a1 b z))) id
 | .inr i :: as,_,_,F,ts,c,_,hv,_=>by cases hv
theorem OwA.len:∀ {as:List (D ⊕ Nat)} {sh:Sh} {vs:List V} {F:AS},OwA K O H σ as sh vs F→vs.length=as.length
 | [],_,_,_,h=>by rw [h.2]; rfl
 | .inl t :: as,_,_,_,h=>by
  obtain ⟨v,r,d,dr,F1,F2,e1,e2,s1,s2,s3,h1,h2⟩:=h
  rw [e1,List.length_cons,List.length_cons,h2.len]
 | .inr i :: as,_,_,_,h=>by
  obtain ⟨v,r,dr,e1,e2,e3,h2⟩:=h
  rw [e1,List.length_cons,List.length_cons,h2.len]
theorem lg:∀ {as:List (D ⊕ Nat)} {ts:List D},bC as=some ts→ts.length=as.length
 | [],_,h=>by cases h; rfl
 | .inl t :: as,_,h=>by
  unfold bC at h
  obtain ⟨ts',hv',e⟩:=Option.map_eq_some_iff.mp h
  subst e
  rw [List.length_cons,List.length_cons,lg hv']
 | .inr _ :: _,_,h=>by cases h
theorem uB {g:List D→Option D} (hs:b8 0 sh=true) (h:tF K p ds ds1 d (eN g fa) σ H Q):tCB (rFn K g d) (tFA K p ds ds1 sh fa) σ H Q:=by
 obtain ⟨Ox,en,R,t,en',e,hf,k⟩:=h
 unfold eN at hf
 obtain ⟨⟨as,en1⟩,h1,hf⟩:=Option.bind_eq_some_iff.mp hf
 obtain ⟨ts,h2,hf⟩:=Option.bind_eq_some_iff.mp hf
 obtain ⟨t',h3,hf⟩:=Option.map_eq_some_iff.mp hf
 cases hf
 refine ⟨Ox,en,R,as,en1,e,h1,fun vs H1 R1 F P o=>?_⟩
 obtain ⟨F',s1,s2⟩:=OwA.ows hs h2 o
 have o2:Ows K (Own R1 Ox) H1 ts 0 vs F':=s2 _ (fun a z=>z.imp id .inr) fun a z z2=>by
  rcases z2 with ⟨i,z2⟩ | z2
  ·exact absurd (.inl z) (P.env.dx i a z2)
  ·exact absurd z2 (P.fx a z)
 exact ⟨Own R1 Ox,ts,t,Ows.any0 ts o2,P.doms,h3,fun v2 H2 F2 n o2=>k v2 H2 R1 F2 (P.fin n) (mz ▸ o2)⟩
theorem Post.add {H1:Hp} {F G:AS} (P:Post K p ds' Ox σ H en R en' H1 R' F) (n:NewTo H1 H' G):Post K p ds' Ox σ H en R en' H' R' (U F G):=by
 have P2:Post K true ds' (U F Ox) σ H1 en' R' en' H' R' G:=Post.new P.env n.1 n.2
 have:=P.trans P2
 rw [Bool.and_true] at this
 exact this
theorem b5 {l:Addr} {o:HO} (hl:H l=none):NewTo H (upd H l o) (fun b=>b=l):=by
 refine ⟨fun a u q=>?_,fun a z=>?_⟩
 ·rw [aP]
  ·exact q
  ·intro z
   subst z
   rw [hl] at q
   cases q
 ·subst z
  exact ⟨hl,_,aW⟩
theorem HU {c:Nat} (hs:b8 c sh=true) (hd:dn d=c) (hz:d≠0) (h:tF K p ds ds1 d (a9 fa) σ H Q):EV (tFA K p ds ds1 sh fa) σ H Q:=by
 obtain ⟨Ox,en,R,t,en',e,hf,k⟩:=h
 unfold a9 at hf
 obtain ⟨⟨as,en1⟩,h1,hf⟩:=Option.bind_eq_some_iff.mp hf
 obtain ⟨ts,h2,hf⟩:=Option.bind_eq_some_iff.mp hf
 by_cases hlen:ts.length≤sizeLine
 case neg=>rw [if_neg hlen] at hf; cases hf
 rw [if_pos hlen] at hf
 cases hf
 refine ⟨Ox,en,R,as,en1,e,h1,fun vs H1 R1 F P o=>⟨?_,fun l hl=>?_⟩⟩
 ·rw [o.len,← lg h2]; exact hlen
 obtain ⟨F',s1,s2⟩:=OwA.ows hs h2 o
 have o2:=s2 (Own R1 (U F' Ox)) (fun a z=>z.imp id fun z=>z.imp (s1 a) id) fun a z z2=>by
  rcases z2 with ⟨i,z2⟩ | z2 | z2
  ·exact absurd (.inl z) (P.env.dx i a z2)
  ·exact z2
  ·exact absurd z2 (P.fx a z)
 have P':=(P.less s1).add (b5 (o:=.lst vs) hl)
 have nl:∀ a,F' a→a≠l:=fun a z z2=>by
  subst z2
  obtain ⟨o',q⟩:=P.env.dom a (.inr (.inl (s1 a z)))
  rw [hl] at q
  cases q
 refine k (.ref l) (upd H1 l (.lst vs)) R1 _ P' ⟨l,vs,rfl,.inr ⟨hz,aW,.inr rfl,F',fun b z=>⟨.inl z,nl b z⟩,?_⟩⟩
 rw [hd]
 refine Ows.mv (G:=F') ⟨fun a o q _=>(b5 (o:=.lst vs) hl).1 a o q,fun a z=>?_⟩ ts (fun _ z=>z) o2
 rcases z with z | (z | z) | z
 ·exact .inl (.inl z)
 ·exact .inl (.inr (.inl z))
 ·exact .inr (by rw [show a=l from z]; exact hl)
 ·exact .inl (.inr (.inr z))
theorem HQ {c:Nat} (hs:b8 c sh=true) (hd:dn d=c) (h:tF K p ds ds1 d (a7 fa) σ H Q):EQ (tFA K p ds ds1 sh fa) σ H Q:=by
 obtain ⟨Ox,en,R,t,en',e,hf,k⟩:=h
 unfold a7 at hf
 obtain ⟨⟨as,en1⟩,h1,hf⟩:=Option.bind_eq_some_iff.mp hf
 obtain ⟨ts,h2,hf⟩:=Option.bind_eq_some_iff.mp hf
 by_cases hlen:ts.length≤sizeLine
 case neg=>rw [if_neg hlen] at hf; cases hf
 rw [if_pos hlen] at hf
 cases hf
 refine ⟨Ox,en,R,as,en1,e,h1,fun vs H1 R1 F P o=>⟨?_,fun l hl=>?_⟩⟩
 ·rw [o.len,← lg h2]; exact hlen
 obtain ⟨F',s1,s2⟩:=OwA.ows hs h2 o
 have o2:=s2 (Own R1 (U F' Ox)) (fun a z=>z.imp id fun z=>z.imp (s1 a) id) fun a z z2=>by
  rcases z2 with ⟨i,z2⟩ | z2 | z2
  ·exact absurd (.inl z) (P.env.dx i a z2)
  ·exact z2
  ·exact absurd z2 (P.fx a z)
 have nl:∀ a,Own R1 (U F' Ox) a→a≠l:=fun a z z2=>by
  subst z2
  obtain ⟨o',q⟩:=P.env.dom a (z.imp id fun z=>z.imp (s1 a) id)
  rw [hl] at q
  cases q
 by_cases hz:d=0
 ·subst hz
  have P':=(P.less s1).add (G:=NoA) (H':=upd H1 l (.tup vs)) ⟨(b5 (o:=.tup vs) hl).1,fun _ z=>z.elim⟩
  have eq:U F' NoA=F':=eQ fun a=>⟨fun z=>z.elim id fun z=>z.elim,.inl⟩
  rw [eq] at P'
  refine k (.ref l) (upd H1 l (.tup vs)) R1 _ P' ⟨l,vs,rfl,.inl ⟨rfl,⟨aW,fun z=>nl l z rfl⟩,?_⟩⟩
  have hc:c=0:=hd.symm
  subst hc
  exact Ows.mv (G:=F') ⟨fun a o q _=>(b5 (o:=.tup vs) hl).1 a o q,fun a z=>.inl z⟩ ts (fun _ z=>z) o2
 ·have P':=(P.less s1).add (b5 (o:=.tup vs) hl)
  refine k (.ref l) (upd H1 l (.tup vs)) R1 _ P' ⟨l,vs,rfl,.inr ⟨hz,aW,.inr rfl,F',fun b z=>⟨.inl z,nl b (.inr (.inl z))⟩,?_⟩⟩
  rw [hd]
  refine Ows.mv (G:=F') ⟨fun a o q _=>(b5 (o:=.tup vs) hl).1 a o q,fun a z=>?_⟩ ts (fun _ z=>z) o2
  rcases z with z | (z | z) | z
  ·exact .inl (.inl z)
  ·exact .inl (.inr (.inl z))
  ·exact .inr (by rw [show a=l from z]; exact hl)
  ·exact .inl (.inr (.inr z))
end
def spF (K:PySem.W.Frag) (dps:List Nat) (dr:Nat) (F:List D→Option (D × En)):Sp:=fun vs H Q _ =>
 ∃ Ox ts R r outs,EnvOk K dps Ox H (vs.map some) (ts.map some) R∧F ts=some (r,outs) ∧
  ∀ v H' R' Fr,Post K false dps Ox (vs.map some) H (ts.map some) R outs H' R' Fr→Ow K (Own R' (U Fr Ox)) H' r dr v Fr→Q v H'
def bZ:List (D ⊕ Nat)→En→Option (List D)
 | [],_=>some []
 | .inl t :: r,en=>(bZ r en).map (t :: ·)
 | .inr i :: r,en=>(en[i]?).join.bind fun t=>(bZ r en).map (t :: ·)
def wb:List (D ⊕ Nat)→En→En→En
 | .inr i :: r,o :: outs,en=>wb r outs (en.set i o)
 | .inl _ :: r,_ :: outs,en=>wb r outs en
 | _,_,en=>en
def ar (F:List D→Option (D × En)) (fa:MA):ME:=fun en=>(fa en).bind fun r=>(bZ r.1 r.2).bind fun ts=>(F ts).map fun q=>(q.1,wb r.1 q.2 r.2)
def iG:Sh→List Nat
 | []=>[]
 | .inl _ :: r=>iG r
 | .inr i :: r=>i :: iG r
def dD (ds:List Nat):Sh→List Nat→Bool
 | [],[]=>true
 | .inl d :: r,q :: s=>decide (d=q) && dD ds r s
 | .inr i :: r,q :: s=>decide (ds[i]?=some q) && (decide (i ∉ iG r) && dD ds r s)
 | _,_=>false
def gF:Sh→Bool
 | []=>true
 | .inl _ :: r=>gF r
 | .inr _ :: _=>false
section
variable {K:PySem.W.Frag} {p p1 p2:Bool} {ds ds0 ds1 ds2 ds' dps:List Nat} {Ox Ox' O O':AS} {H H':Hp} {σ:St} {en en' en1 en2:En} {R R':Nat→AS} {d d' d1 d2 dr:Nat} {t t1 t2:D} {Q:VK} {f f1 f2:ME} {fa:MA} {sh:Sh} {QA:List V→Hp→Prop} {i:Nat}
theorem OwA.parts:∀ {as:List (D ⊕ Nat)} {sh:Sh} {vs:List V} {F:AS},OwA K O H σ as sh vs F →
  ∃ Rp:Nat→AS,(∀ (j:Nat) t,as[j]?=some (.inl t)→∃ v d,vs[j]?=some v∧sh[j]?=some (.inl d)∧Ow K O H t d v (Rp j))∧(∀ (j i:Nat),as[j]?=some (.inr i)→∃ v,vs[j]?=some v∧sh[j]?=some (.inr i)∧σ[i]?=some (some v)) ∧
   (∀ j a,Rp j a→F a)∧(∀ j j' a,Rp j a→Rp j' a→j=j')
 | [],sh,vs,F,h=>⟨fun _=>NoA,fun j t z=>by simp at z,fun j i z=>by simp at z,fun _ _ z=>z.elim,fun _ _ _ z=>z.elim⟩
 | .inl t :: as,sh,vs,F,h=>by
  obtain ⟨v,r,d,dr,F1,F2,e1,e2,s1,s2,s3,h1,h2⟩:=h
  subst e1 e2
  obtain ⟨Rp,a1,a2,a3,a4⟩:=h2.parts
  refine ⟨fun j=>match j with | 0=>F1 | j+1=>Rp j,fun j u hj=>?_,fun j i hj=>?_,fun j a z=>?_,fun j j' a z z'=>?_⟩
  ·cases j with
   | zero =>
    have:t=u:=by simpa using hj
    subst this
    exact ⟨v,d,rfl,rfl,h1⟩
   | succ j=>exact a1 j u (by simpa using hj)
  ·cases j with
   | zero=>simp at hj
   | succ j=>exact a2 j i (by simpa using hj)
  ·cases j with
   | zero=>exact s1 a z
   | succ j=>exact s2 a (a3 j a z)
  ·cases j with
   | zero =>
    cases j' with
    | zero=>rfl
    | succ j'=>exact absurd (a3 j' a z') (s3 a z)
   | succ j =>
    cases j' with
    | zero=>exact absurd (a3 j a z) (s3 a z')
    | succ j'=>rw [a4 j j' a z z']
 | .inr i :: as,sh,vs,F,h=>by
  obtain ⟨v,r,dr,e1,e2,e3,h2⟩:=h
  subst e1 e2
  obtain ⟨Rp,a1,a2,a3,a4⟩:=h2.parts
  refine ⟨fun j=>match j with | 0=>NoA | j+1=>Rp j,fun j u hj=>?_,fun j i' hj=>?_,fun j a z=>?_,fun j j' a z z'=>?_⟩
  ·cases j with
   | zero=>simp at hj
   | succ j=>exact a1 j u (by simpa using hj)
  ·cases j with
   | zero =>
    have:i=i':=by simpa using hj
    subst this
    exact ⟨v,rfl,rfl,e3⟩
   | succ j=>exact a2 j i' (by simpa using hj)
  ·cases j with
   | zero=>exact z.elim
   | succ j=>exact a3 j a z
  ·cases j with
   | zero=>exact z.elim
   | succ j =>
    cases j' with
    | zero=>exact z'.elim
    | succ j'=>rw [a4 j j' a z z']
theorem lB:∀ {as:List (D ⊕ Nat)} {en:En} {ts:List D},bZ as en=some ts→ts.length=as.length∧∀ (j:Nat) t,ts[j]?=some t→as[j]?=some (.inl t)∨∃ i,as[j]?=some (.inr i)∧en[i]?=some (some t)
 | [],_,_,h=>by cases h; exact ⟨rfl,fun j t z=>by simp at z⟩
 | .inl t :: as,en,_,h=>by
  unfold bZ at h
  obtain ⟨ts',h',e⟩:=Option.map_eq_some_iff.mp h
  subst e
  obtain ⟨l,g⟩:=lB h'
  refine ⟨by rw [List.length_cons,List.length_cons,l],fun j u z=>?_⟩
  cases j with
  | zero=>simp at z; subst z; exact .inl rfl
  | succ j=>exact g j u (by simpa using z)
 | .inr i :: as,en,_,h=>by
  unfold bZ at h
  obtain ⟨t,ht,h⟩:=Option.bind_eq_some_iff.mp h
  obtain ⟨ts',h',e⟩:=Option.map_eq_some_iff.mp h
  subst e
  obtain ⟨l,g⟩:=lB h'
  refine ⟨by rw [List.length_cons,List.length_cons,l],fun j u z=>?_⟩
  cases j with
  | zero =>
   simp at z
   subst z
   refine .inr ⟨i,rfl,?_⟩
   cases q:en[i]? with
   | none=>rw [q] at ht; cases ht
   | some o=>rw [q] at ht; exact congrArg some ht
  | succ j=>exact g j u (by simpa using z)
theorem j9:∀ {sh:Sh} {dps:List Nat},dD ds sh dps=true→sh.length=dps.length∧(∀ (j d:Nat),sh[j]?=some (.inl d)→dps[j]?=some d)∧(∀ (j i:Nat),sh[j]?=some (.inr i)→∃ q,dps[j]?=some q∧ds[i]?=some q) ∧
   (∀ (j j' i:Nat),sh[j]?=some (.inr i)→sh[j']?=some (.inr i)→j=j')
 | [],[],_=>⟨rfl,fun j d z=>by simp at z,fun j d z=>by simp at z,fun j j' d z=>by simp at z⟩
 | .inl d :: r,q :: s,h=>by
  unfold dD at h
  rw [Bool.and_eq_true] at h
  obtain ⟨h1,h2⟩:=h
  have h1':=of_decide_eq_true h1
  subst h1'
  obtain ⟨l,a,b,c⟩:=j9 h2
  refine ⟨by rw [List.length_cons,List.length_cons,l],fun j u z=>?_,fun j i z=>?_,fun j j' i z z'=>?_⟩
  ·cases j with
   | zero=>simp at z; subst z; rfl
   | succ j=>exact a j u (by simpa using z)
  ·cases j with
   | zero=>simp at z
   | succ j=>exact b j i (by simpa using z)
  ·cases j with
   | zero=>simp at z
   | succ j =>
    cases j' with
    | zero=>simp at z'
    | succ j'=>rw [c j j' i (by simpa using z) (by simpa using z')]
 | .inr i0 :: r,q :: s,h=>by
  unfold dD at h
  rw [Bool.and_eq_true,Bool.and_eq_true] at h
  obtain ⟨h1,h2,h3⟩:=h
  have h1':=of_decide_eq_true h1
  have h2':=of_decide_eq_true h2
  obtain ⟨l,a,b,c⟩:=j9 h3
  have mem:∀ {r:Sh} {j i:Nat},r[j]?=some (.inr i)→i∈iG r:=fun {r}=>by
   induction r with
   | nil=>intro j i z; simp at z
   | cons x r ih =>
    intro j i z
    cases j with
    | zero =>
     simp at z
     subst z
     unfold iG
     exact List.mem_cons_self
    | succ j =>
     have:=ih (j:=j) (i:=i) (by simpa using z)
     cases x with
     | inl _=>exact this
     | inr _=>exact List.mem_cons_of_mem _ this
  refine ⟨by rw [List.length_cons,List.length_cons,l],fun j u z=>?_,fun j i z=>?_,fun j j' i z z'=>?_⟩
  ·cases j with
   | zero=>simp at z
   | succ j=>exact a j u (by simpa using z)
  ·cases j with
   | zero=>simp at z; subst z; exact ⟨q,rfl,h1'⟩
   | succ j=>exact b j i (by simpa using z)
  ·cases j with
   | zero =>
    simp at z
    subst z
    cases j' with
    | zero=>rfl
    | succ j'=>exact absurd (mem (by simpa using z')) h2'
   | succ j =>
    cases j' with
    | zero =>
     simp at z'
     subst z'
     exact absurd (mem (by simpa using z)) h2'
    | succ j'=>rw [c j j' i (by simpa using z) (by simpa using z')]
 | [],_ :: _,h=>nomatch h
 | .inl _ :: _,[],h=>nomatch h
 | .inr _ :: _,[],h=>nomatch h
theorem nW:∀ (as:List (D ⊕ Nat)) (outs en:En),(wb as outs en).length=en.length
 | [],_,_=>by unfold wb; rfl
 | .inl _ :: as,[],_=>by unfold wb; rfl
 | .inr _ :: as,[],_=>by unfold wb; rfl
 | .inl _ :: as,o :: outs,en=>by unfold wb; exact nW as outs en
 | .inr i :: as,o :: outs,en=>by unfold wb; rw [nW as outs _,List.length_set]
theorem jJ:∀ (as:List (D ⊕ Nat)) (outs en:En) (i:Nat),(∀ j:Nat,as[j]?≠some (.inr i))→(wb as outs en)[i]?=en[i]?
 | [],_,_,_,_=>by unfold wb; rfl
 | .inl _ :: as,[],_,_,_=>by unfold wb; rfl
 | .inr _ :: as,[],_,_,_=>by unfold wb; rfl
 | .inl _ :: as,o :: outs,en,i,h=>by unfold wb; exact jJ as outs en i fun j=>h (j+1)
 | .inr k :: as,o :: outs,en,i,h=>by
  unfold wb
  rw [jJ as outs _ i fun j=>h (j+1),List.getElem?_set_ne]
  intro e
  subst e
  exact h 0 rfl
theorem rG:∀ (as:List (D ⊕ Nat)) (outs en:En) (i j:Nat),as[j]?=some (.inr i)→(∀ j':Nat,as[j']?=some (.inr i)→j'=j)→outs.length=as.length→i < en.length→(wb as outs en)[i]?=outs[j]?
 | [],_,_,_,_,h,_,_,_=>by simp at h
 | .inl _ :: as,[],_,_,_,_,_,h,_=>by simp at h
 | .inr _ :: as,[],_,_,_,_,_,h,_=>by simp at h
 | .inl _ :: as,o :: outs,en,i,j,h,u,l,b=>by
  unfold wb
  cases j with
  | zero=>simp at h
  | succ j=>exact rG as outs en i j (by simpa using h) (fun j' z=>by have:=u (j'+1) (by simpa using z); omega) (by simpa using l) b
 | .inr k :: as,o :: outs,en,i,j,h,u,l,b=>by
  unfold wb
  cases j with
  | zero =>
   have e:k=i:=by simpa using h
   subst e
   rw [jJ as outs _ k fun j' z=>by have:=u (j'+1) (by simpa using z); omega]
   rw [List.getElem?_set_self b]
   rfl
  | succ j=>exact rG as outs _ i j (by simpa using h) (fun j' z=>by have:=u (j'+1) (by simpa using z); omega) (by simpa using l) (by rw [List.length_set]; exact b)
end
end L2
namespace L2
open PySem PySem.Spec PyProof.Rows
section
variable {K:PySem.W.Frag} {p p1 p2:Bool} {ds ds0 ds1 ds2 ds' dps:List Nat} {Ox Ox' O O':AS} {H H':Hp} {σ:St} {en en' en1 en2:En} {R R':Nat→AS} {d d' d1 d2 dr:Nat} {t t1 t2:D} {Q:VK} {f f1 f2:ME} {fa:MA} {sh:Sh} {QA:List V→Hp→Prop} {i:Nat}
theorem OwA.shl:∀ {as:List (D ⊕ Nat)} {sh:Sh} {vs:List V} {F:AS},OwA K O H σ as sh vs F→sh.length=as.length
 | [],_,_,_,h=>by rw [h.1]; rfl
 | .inl t :: as,_,_,_,h=>by
  obtain ⟨v,r,d,dr,F1,F2,e1,e2,s1,s2,s3,h1,h2⟩:=h
  rw [e2,List.length_cons,List.length_cons,h2.shl]
 | .inr i :: as,_,_,_,h=>by
  obtain ⟨v,r,dr,e1,e2,e3,h2⟩:=h
  rw [e2,List.length_cons,List.length_cons,h2.shl]
theorem lN:∀ {sh:Sh},gF sh=true→∀ (j i:Nat),sh[j]?≠some (.inr i)
 | [],_,j,i,z=>by simp at z
 | .inl _ :: r,h,j,i,z=>by
  cases j with
  | zero=>simp at z
  | succ j=>exact lN (sh:=r) h j i (by simpa using z)
 | .inr _ :: r,h,_,_,_=>nomatch h
theorem v5 {E:XK} {F:List D→Option (D × En)} (hc:dD ds1 sh dps=true) (h:tF K (p && gF sh) ds ds1 dr (ar F fa) σ H Q):rK (spF K dps dr F) [] E (tFA K p ds ds1 sh fa) σ H Q:=by
 obtain ⟨Ox,en,R,t,en',e,hf,k⟩:=h
 unfold ar at hf
 obtain ⟨⟨as,en1⟩,h1,hf⟩:=Option.bind_eq_some_iff.mp hf
 obtain ⟨ts,h2,hf⟩:=Option.bind_eq_some_iff.mp hf
 obtain ⟨⟨r,outs⟩,h3,hf⟩:=Option.map_eq_some_iff.mp hf
 cases hf
 refine ⟨Ox,en,R,as,en1,e,h1,fun vs H1 R1 F0 P o=>?_⟩
 obtain ⟨cl,c1,c2,c3⟩:=j9 hc
 obtain ⟨Rp,a1,a2,a3,a4⟩:=o.parts
 obtain ⟨tl,tg⟩:=lB h2
 have ol:=o.len
 have asl:∀ (j i:Nat),as[j]?=some (.inr i)→sh[j]?=some (.inr i):=fun j i z=>(a2 j i z).choose_spec.2.1
 have asr:∀ (j i:Nat),sh[j]?=some (.inr i)→as[j]?=some (.inr i):=fun j i z=>by
  cases q:as[j]? with
  | none =>
   have e1:as.length≤j:=List.getElem?_eq_none_iff.mp q
   have e2:j < sh.length:=(List.getElem?_eq_some_iff.mp z).1
   have:=o.shl
   omega
  | some x =>
   cases x with
   | inl t =>
    obtain ⟨_,_,_,e2,_⟩:=a1 j t q
    rw [z] at e2; cases e2
   | inr i' =>
    have:=asl j i' q
    rw [z] at this
    cases this
    rfl
 let Rq:Nat→AS:=fun j=>match sh[j]? with | some (.inr i)=>R1 i | _=>Rp j
 have rq1:∀ j i:Nat,sh[j]?=some (.inr i)→Rq j=R1 i:=fun j i z=>by show (match sh[j]? with | some (.inr i)=>R1 i | _=>Rp j)=R1 i; rw [z]
 have rq2:∀ j:Nat,(∀ i:Nat,sh[j]?≠some (.inr i))→Rq j=Rp j:=fun j z=>by
  show (match sh[j]? with | some (.inr i)=>R1 i | _=>Rp j)=Rp j
  split
  ·next i q=>exact absurd q (z i)
  ·rfl
 have rqc:∀ (j:Nat) a,Rq j a→(∃ i,sh[j]?=some (.inr i)∧R1 i a)∨Rp j a:=fun j a z=>by
  by_cases q:∃ i,sh[j]?=some (.inr i)
  ·obtain ⟨i,q⟩:=q
   rw [rq1 j i q] at z
   exact .inl ⟨i,q,z⟩
  ·rw [rq2 j fun i z=>q ⟨i,z⟩] at z
   exact .inr z
 let Oxp:AS:=fun a=>Ox a∨∃ i,R1 i a∧∀ j:Nat,sh[j]?≠some (.inr i)
 have sub:∀ a,Own Rq Oxp a→Own R1 (U F0 Ox) a:=fun a z=>by
  rcases z with ⟨j,z⟩ | z | ⟨i,z,_⟩
  ·rcases rqc j a z with ⟨i,_,z⟩ | z
   ·exact .inl ⟨i,z⟩
   ·exact .inr (.inl (a3 j a z))
  ·exact .inr (.inr z)
  ·exact .inl ⟨i,z⟩
 have ec:EnvOk K dps Oxp H1 (vs.map some) (ts.map some) Rq:=by
  refine ⟨fun j u hu=>?_,fun j j' a z z'=>?_,fun j a z z2=>?_,fun a z=>P.env.dom a (sub a z),by rw [List.length_map,List.length_map,tl,ol],?_⟩
  ·rw [List.getElem?_map] at hu
   obtain ⟨u',hu,eu⟩:=Option.map_eq_some_iff.mp hu
   cases eu
   rcases tg j u hu with q | ⟨i,q,qe⟩
   ·obtain ⟨v,d,b1,b2,b3⟩:=a1 j u q
    refine ⟨v,d,by rw [List.getElem?_map,b1]; rfl,c1 j d b2,?_⟩
    rw [rq2 j fun i z=>by rw [b2] at z; cases z]
    exact Ow.grow sub u (fun _ z=>z) b3
   ·obtain ⟨v,b1,b2,b3⟩:=a2 j i q
    obtain ⟨v',d,g1,g2,g3⟩:=P.env.at_ i u qe
    rw [b3] at g1
    cases g1
    obtain ⟨qd,q1,q2⟩:=c2 j i b2
    rw [g2] at q2
    cases q2
    refine ⟨v,d,by rw [List.getElem?_map,b1]; rfl,q1,?_⟩
    rw [rq1 j i b2]
    exact Ow.grow sub u (fun _ z=>z) g3
  ·rcases rqc j a z with ⟨i,q,z⟩ | z <;> rcases rqc j' a z' with ⟨i',q',z'⟩ | z'
   ·have:=P.env.dj i i' a z z'
    subst this
    exact c3 j j' i q q'
   ·exact absurd (.inl (a3 j' a z')) (P.env.dx i a z)
   ·exact absurd (.inl (a3 j a z)) (P.env.dx i' a z')
   ·exact a4 j j' a z z'
  ·rcases rqc j a z with ⟨i,q,z⟩ | z
   ·rcases z2 with z2 | ⟨i',z2,n⟩
    ·exact P.env.dx i a z (.inr z2)
    ·have:=P.env.dj i i' a z z2
     subst this
     exact n j q
   ·rcases z2 with z2 | ⟨i',z2,n⟩
    ·exact P.fx a (a3 j a z) z2
    ·exact P.env.dx i' a z2 (.inl (a3 j a z))
  ·have:=o.shl
   rw [List.length_map]
   omega
 rw [List.append_nil]
 refine ⟨Oxp,ts,Rq,r,outs,ec,h3,fun v H2 R2 Fr Pc oc=>?_⟩
 have outl:outs.length=as.length:=by rw [Pc.env.l1,List.length_map]; exact ol
 classical
 let R3:Nat→AS:=fun i=>if q:∃ j:Nat,sh[j]?=some (.inr i) then R2 q.choose else R1 i
 have r31:∀ (i j:Nat),sh[j]?=some (.inr i)→R3 i=R2 j:=fun i j z=>by
  have q:∃ j:Nat,sh[j]?=some (.inr i):=⟨j,z⟩
  have:q.choose=j:=c3 _ _ i q.choose_spec z
  show (if q:∃ j:Nat,sh[j]?=some (.inr i) then R2 q.choose else R1 i)=R2 j
  rw [dif_pos q,this]
 have r32:∀ i:Nat,(∀ j:Nat,sh[j]?≠some (.inr i))→R3 i=R1 i:=fun i z=>by
  show (if q:∃ j:Nat,sh[j]?=some (.inr i) then R2 q.choose else R1 i)=R1 i
  rw [dif_neg fun ⟨j,q⟩=>z j q]
 have r3c:∀ (i:Nat) a,R3 i a→(∃ j:Nat,sh[j]?=some (.inr i)∧R2 j a)∨((∀ j:Nat,sh[j]?≠some (.inr i))∧R1 i a):=fun i a z=>by
  by_cases q:∃ j:Nat,sh[j]?=some (.inr i)
  ·obtain ⟨j,q⟩:=q
   rw [r31 i j q] at z
   exact .inl ⟨j,q,z⟩
  ·rw [r32 i fun j z=>q ⟨j,z⟩] at z
   exact .inr ⟨fun j z=>q ⟨j,z⟩,z⟩
 have sub3:∀ a,Own R3 (U Fr Ox) a→Own R2 (U Fr Oxp) a:=fun a z=>by
  rcases z with ⟨i,z⟩ | z | z
  ·rcases r3c i a z with ⟨j,_,z⟩ | ⟨n,z⟩
   ·exact .inl ⟨j,z⟩
   ·exact .inr (.inr (.inr ⟨i,z,n⟩))
  ·exact .inr (.inl z)
  ·exact .inr (.inr (.inl z))
 have back:∀ a,(Fr a∨∃ j,R2 j a)→Own R1 (U F0 Ox) a∨H1 a=none:=fun a z=>by
  rcases Pc.own a z with ⟨j,z⟩ | z
  ·exact .inl (sub a (.inl ⟨j,z⟩))
  ·exact .inr z
 have back2:∀ a,(Fr a∨∃ j,R2 j a)→(F0 a∨∃ i,R1 i a)∨H1 a=none:=fun a z=>by
  rcases Pc.own a z with ⟨j,z⟩ | z
  ·rcases rqc j a z with ⟨i,_,z⟩ | z
   ·exact .inl (.inr ⟨i,z⟩)
   ·exact .inl (.inl (a3 j a z))
  ·exact .inr z
 have n1:∀ a,H1 a=none→H a=none:=fun a z=>by
  cases q:H a with
  | none=>rfl
  | some o =>
   obtain ⟨o',q'⟩:=P.dom a o q
   rw [z] at q'
   cases q'
 have rqsub:∀ j a,Rq j a→Own R1 (U F0 Ox) a:=fun j a z=>sub a (.inl ⟨j,z⟩)
 have env3:EnvOk K ds1 (U Fr Ox) H2 σ (wb as outs en1) R3:=by
  refine ⟨fun i u hu=>?_,fun i i' a z z'=>?_,fun i a z z2=>?_,fun a z=>Pc.env.dom a (sub3 a z),by rw [nW]; exact P.env.l1,P.env.l2⟩
  ·by_cases q:∃ j:Nat,as[j]?=some (.inr i)
   ·obtain ⟨j,q⟩:=q
    obtain ⟨v,b1,b2,b3⟩:=a2 j i q
    have hil:i < en1.length:=by rw [P.env.l1]; exact (List.getElem?_eq_some_iff.mp b3).1
    rw [rG as outs en1 i j q (fun j' z=>c3 j' j i (asl j' i z) b2) outl hil] at hu
    obtain ⟨v',d,g1,g2,g3⟩:=Pc.env.at_ j u hu
    rw [List.getElem?_map,b1] at g1
    cases g1
    obtain ⟨qd,q1,q2⟩:=c2 j i b2
    rw [g2] at q1
    cases q1
    refine ⟨v,d,b3,q2,?_⟩
    rw [r31 i j b2]
    exact Ow.grow sub3 u (fun _ z=>z) g3
   ·rw [jJ as outs en1 i fun j z=>q ⟨j,z⟩] at hu
    have ns:∀ j:Nat,sh[j]?≠some (.inr i):=fun j z=>q ⟨j,asr j i z⟩
    obtain ⟨v,d,g1,g2,g3⟩:=P.env.at_ i u hu
    refine ⟨v,d,g1,g2,?_⟩
    rw [r32 i ns]
    refine Ow.mv (G:=R1 i) ⟨fun a o q z=>Pc.keep a o q fun j zj=>?_,fun a z=>?_⟩ u (fun _ z=>z) g3
    ·rcases z with z | z
     ·exact z (rqsub j a zj)
     ·rcases rqc j a zj with ⟨i',q',z'⟩ | z'
      ·have:=P.env.dj i i' a z z'
       subst this
       exact ns j q'
      ·exact P.env.dx i a z (.inl (a3 j a z'))
    ·rcases z with ⟨i',z⟩ | z | z
     ·rcases r3c i' a z with ⟨j,_,z⟩ | ⟨n,z⟩
      ·exact back a (.inr ⟨j,z⟩)
      ·exact .inl (.inl ⟨i',z⟩)
     ·exact back a (.inl z)
     ·exact .inl (.inr (.inr z))
  ·rcases r3c i a z with ⟨j,q,z⟩ | ⟨n,z⟩ <;> rcases r3c i' a z' with ⟨j',q',z'⟩ | ⟨n',z'⟩
   ·have:=Pc.env.dj j j' a z z'
    subst this
    rw [q] at q'
    cases q'
    rfl
   ·exact absurd (.inr (.inr ⟨i',z',n'⟩)) (Pc.env.dx j a z)
   ·exact absurd (.inr (.inr ⟨i,z,n⟩)) (Pc.env.dx j' a z')
   ·exact P.env.dj i i' a z z'
  ·rcases r3c i a z with ⟨j,q,z⟩ | ⟨n,z⟩
   ·exact Pc.env.dx j a z (z2.imp id .inl)
   ·rcases z2 with z2 | z2
    ·exact Pc.fx a z2 (.inr ⟨i,z,n⟩)
    ·exact P.env.dx i a z (.inr z2)
 refine k v H2 R3 Fr ⟨env3,fun a z z2=>Pc.fx a z (.inl z2),fun a o q n=>?_,fun a z=>?_,fun a o q=>?_,fun hp=>?_⟩ (Ow.grow sub3 r (fun _ z=>z) oc)
 ·refine Pc.keep a o (P.keep a o q n) fun j z=>?_
  have nn:∀ i,¬ R1 i a:=fun i z=>by
   rcases P.own a (.inr ⟨i,z⟩) with ⟨i',z⟩ | z
   ·exact n i' z
   ·rw [q] at z; cases z
  rcases rqc j a z with ⟨i,_,z⟩ | z
  ·exact nn i z
  ·rcases P.own a (.inl (a3 j a z)) with ⟨i',z⟩ | z
   ·exact n i' z
   ·rw [q] at z; cases z
 ·have:(F0 a∨∃ i,R1 i a)∨H1 a=none:=by
   rcases z with z | ⟨i,z⟩
   ·exact back2 a (.inl z)
   ·rcases r3c i a z with ⟨j,_,z⟩ | ⟨n,z⟩
    ·exact back2 a (.inr ⟨j,z⟩)
    ·exact .inl (.inr ⟨i,z⟩)
  rcases this with z | z
  ·exact P.own a z
  ·exact .inr (n1 a z)
 ·obtain ⟨o',q'⟩:=P.dom a o q
  exact Pc.dom a o' q'
 ·obtain ⟨hp1,hp2⟩:=(Bool.and_eq_true _ _ ▸ hp:p=true∧gF sh=true)
  obtain ⟨b1,b2,b3⟩:=P.pure hp1
  have ns:=lN hp2
  refine ⟨?_,?_,fun a o q=>?_⟩
  ·show wb as outs en1=en
   rw [← b1]
   refine List.ext_getElem? fun i=>?_
   exact jJ as outs en1 i fun j z=>ns j i (asl j i z)
  ·rw [← b2]
   funext i
   exact r32 i fun j=>ns j i
  ·refine Pc.keep a o (b3 a o q) fun j z=>?_
   rcases rqc j a z with ⟨i,z,_⟩ | z
   ·exact ns j i z
   ·have zf:=a3 j a z
    rcases P.own a (.inl zf) with ⟨i,z2⟩ | z2
    ·rw [← b2] at z2
     exact P.env.dx i a z2 (.inl zf)
    ·rw [q] at z2; cases z2
end
end L2
namespace L2
open PySem PySem.Spec PyProof.Rows
inductive Fl where
 | nx (en:En) | rt (t:D) (en:En) | ct (en:En)
abbrev MS:=En→Option Fl
structure Jd where
 lk:List Nat
 dsr:List Nat
 dr:Nat
 dsl:List Nat
structure PostS (K:PySem.W.Frag) (lk:List Nat) (ds':List Nat) (Ox:AS) (σ:St) (H:Hp) (R:Nat→AS) (σ':St) (en':En) (H':Hp) (R':Nat→AS) (F:AS):Prop where
 env:EnvOk K ds' (U F Ox) H' σ' en' R'
 fx:∀ a,F a→¬ Ox a
 keep:∀ a o,H a=some o→(∀ i,¬ R i a)→H' a=some o
 own:∀ a,(F a∨∃ i,R' i a)→(∃ i,R i a)∨H a=none
 dom:∀ a o,H a=some o→∃ o',H' a=some o'
 lk:∀ j∈lk,σ'[j]?=σ[j]?
def tFS (K:PySem.W.Frag) (J:Jd) (ds ds':List Nat) (f:MS):TS:=fun D σ H =>
 ∃ Ox en R fl,EnvOk K ds Ox H σ en R∧f en=some fl∧match fl with
  | .nx en'=>∀ σ' H' R',PostS K J.lk ds' Ox σ H R σ' en' H' R' NoA→D.nx σ' H'
  | .ct en'=>∀ σ' H' R',PostS K J.lk J.dsl Ox σ H R σ' en' H' R' NoA→D.ct σ' H'
  | .rt t en'=>∀ v σ' H' R' F,PostS K J.lk J.dsr Ox σ H R σ' en' H' R' F→Ow K (Own R' (U F Ox)) H' t J.dr v F→D.rt v H'
def ao (f g:MS):MS:=fun en=>(f en).bind fun fl=>match fl with
 | .nx en1=>g en1
 | .rt t en1=>some (.rt t en1)
 | .ct en1=>some (.ct en1)
def ax (i:Nat) (f:ME):MS:=fun en=>(f en).map fun r=>.nx (r.2.set i (some r.1))
def bA (f:ME):MS:=fun en=>(f en).map fun r=>.nx r.2
def aR (f:ME):MS:=fun en=>(f en).map fun r=>.rt r.1 r.2
def IN:MS:=fun en=>some (.rt .none en)
def bc:MS:=fun en=>some (.nx en)
def IP:MS:=fun en=>some (.ct en)
def iH:MS:=fun _=>none
def sIf (c:MT) (f g:MS):MS:=fun en=>(c en).bind fun r=>if r.1 then f r.2 else g r.2
section
variable {K:PySem.W.Frag} {p p1 p2:Bool} {J:Jd} {lk:List Nat} {ds ds0 ds1 ds2 ds':List Nat} {Ox Ox' O O':AS} {H H':Hp} {σ σ':St} {en en' en1 en2:En} {R R':Nat→AS} {d d' d1 d2 dr:Nat} {t t1 t2:D} {f f1 f2:ME} {c:MT} {m m1 m2:MS} {i:Nat} {D:Ends}
theorem PostS.refl (e:EnvOk K ds Ox H σ en R):PostS K lk ds Ox σ H R σ en H R NoA :=
 ⟨by rw [fj]; exact e,fun _ z=>z.elim,fun _ _ q _=>q,fun a z=>z.elim (fun z=>z.elim) .inl,fun a o q=>⟨o,q⟩,fun _ _=>rfl⟩
theorem PostS.env0 {F:AS} (P:PostS K lk ds' Ox σ H R σ' en' H' R' F):EnvOk K ds' Ox H' σ' en' R':=P.env.fewer fun a z=>.inr z
theorem PostS.less {F F':AS} (P:PostS K lk ds' Ox σ H R σ' en' H' R' F) (h:∀ a,F' a→F a):PostS K lk ds' Ox σ H R σ' en' H' R' F' :=
 ⟨P.env.fewer fun a z=>z.imp (h a) id,fun a z=>P.fx a (h a z),P.keep,fun a z=>P.own a (z.imp (h a) id),P.dom,P.lk⟩
theorem PostS.after {σ1 σ2:St} {H1:Hp} {R1 R2:Nat→AS} {F:AS} (P1:PostS K lk ds1 Ox σ H R σ1 en1 H1 R1 NoA) (P2:PostS K lk ds2 Ox σ1 H1 R1 σ2 en2 H' R2 F):PostS K lk ds2 Ox σ H R σ2 en2 H' R2 F:=by
 have n1:∀ a,H1 a=none→H a=none:=fun a z=>by
  cases q:H a with
  | none=>rfl
  | some o =>
   obtain ⟨o',q'⟩:=P1.dom a o q
   rw [z] at q'
   cases q'
 refine ⟨P2.env,P2.fx,fun a o q n=>?_,fun a z=>?_,fun a o q=>?_,fun j hj=>(P2.lk j hj).trans (P1.lk j hj)⟩
 ·refine P2.keep a o (P1.keep a o q n) fun i z=>?_
  rcases P1.own a (.inr ⟨i,z⟩) with ⟨j,z⟩ | z
  ·exact n j z
  ·rw [q] at z; cases z
 ·rcases P2.own a z with z | z
  ·exact P1.own a (.inr z)
  ·exact .inr (n1 a z)
 ·obtain ⟨o',q'⟩:=P1.dom a o q
  exact P2.dom a o' q'
theorem Post.s {F:AS} (P:Post K p ds' Ox σ H en R en' H' R' F):PostS K lk ds' Ox σ H R σ en' H' R' F:=⟨P.env,P.fx,P.keep,P.own,P.dom,fun _ _=>rfl⟩
theorem PostS.cut {F:AS} (P:PostS K lk ds1 Ox σ H R σ' en' H' R' F) (hd:leD ds2 ds1=true):∃ R2,(∀ i a,R2 i a→R' i a)∧PostS K lk ds2 Ox σ H R σ' en' H' R2 F:=by
 obtain ⟨R2,s1,e2⟩:=P.env.cut (dy hd).1 (dy hd).2
 exact ⟨R2,s1,e2,P.fx,P.keep,fun a z=>P.own a (z.imp id fun ⟨i,z⟩=>⟨i,s1 i a z⟩),P.dom,P.lk⟩
theorem Gg (h:tFS K J ds ds bc D σ H):AW D σ H:=by
 obtain ⟨Ox,en,R,fl,e,hf,k⟩:=h
 cases hf
 exact k σ H R (PostS.refl e)
theorem Ge (h:tFS K J ds ds2 (ao m1 m2) D σ H):ER (tFS K J ds ds1 m1) (tFS K J ds1 ds2 m2) D σ H:=by
 obtain ⟨Ox,en,R,fl,e,hf,k⟩:=h
 unfold ao at hf
 obtain ⟨fl1,h1,hf⟩:=Option.bind_eq_some_iff.mp hf
 refine ⟨Ox,en,R,fl1,e,h1,?_⟩
 cases fl1 with
 | nx en1 =>
  intro σ1 H1 R1 P1
  refine ⟨Ox,en1,R1,fl,P1.env0,hf,?_⟩
  cases fl with
  | nx en2=>exact fun σ2 H2 R2 P2=>k σ2 H2 R2 (P1.after P2)
  | ct en2=>exact fun σ2 H2 R2 P2=>k σ2 H2 R2 (P1.after P2)
  | rt t en2=>exact fun v σ2 H2 R2 F P2 o=>k v σ2 H2 R2 F (P1.after P2) o
 | ct en1=>cases hf; exact k
 | rt t en1=>cases hf; exact k
theorem um (hd:leD ds1 ds2=true) (h:tFS K J ds ds1 m D σ H):tFS K J ds ds2 m D σ H:=by
 obtain ⟨Ox,en,R,fl,e,hf,k⟩:=h
 refine ⟨Ox,en,R,fl,e,hf,?_⟩
 cases fl with
 | nx en2 =>
  intro σ2 H2 R2 P2
  obtain ⟨R3,_,P3⟩:=P2.cut hd
  exact k σ2 H2 R3 P3
 | ct en2=>exact k
 | rt t en2=>exact k
theorem Gi (h:tFS K J ds ds1 (bA f) D σ H):AX (tF K p ds ds1 d f) D σ H:=by
 obtain ⟨Ox,en,R,fl,e,hf,k⟩:=h
 unfold bA at hf
 obtain ⟨⟨t,en1⟩,h1,hf⟩:=Option.map_eq_some_iff.mp hf
 cases hf
 exact ⟨Ox,en,R,t,en1,e,h1,fun v H1 R1 F P o=>k σ H1 R1 (P.s.less fun _ z=>z.elim)⟩
theorem Gf (hd:leD J.dsr ds1=true) (h:tFS K J ds ds' (aR f) D σ H):ES (tF K p ds ds1 J.dr f) D σ H:=by
 obtain ⟨Ox,en,R,fl,e,hf,k⟩:=h
 unfold aR at hf
 obtain ⟨⟨t,en1⟩,h1,hf⟩:=Option.map_eq_some_iff.mp hf
 cases hf
 refine ⟨Ox,en,R,t,en1,e,h1,fun v H1 R1 F P o=>?_⟩
 obtain ⟨R2,s1,P2⟩:=(P.s (lk:=J.lk)).cut hd
 exact k v σ H1 R2 F P2 (Ow.grow (fun a z=>z.imp (fun ⟨i,z⟩=>⟨i,s1 i a z⟩) id) t (fun _ z=>z) o)
theorem vM (h:tFS K J ds ds' iH D σ H):oi D σ H:=by
 obtain ⟨Ox,en,R,fl,e,hf,k⟩:=h
 cases hf
theorem HA (h:tFS K J ds ds2 (sIf c m1 m2) D σ H):EW (tFT K p ds ds1 c) (tFS K J ds1 ds2 m1) (tFS K J ds1 ds2 m2) D σ H:=by
 obtain ⟨Ox,en,R,fl,e,hf,k⟩:=h
 unfold sIf at hf
 obtain ⟨⟨b,en1⟩,h1,hf⟩:=Option.bind_eq_some_iff.mp hf
 refine ⟨Ox,en,R,b,en1,e,h1,fun H1 R1 P1=>?_⟩
 have fin:∀ m,m en1=some fl→tFS K J ds1 ds2 m D σ H1:=fun m hm=>by
  refine ⟨Ox,en1,R1,fl,P1.env0,hm,?_⟩
  cases fl with
  | nx en2=>exact fun σ2 H2 R2 P2=>k σ2 H2 R2 (P1.s.after P2)
  | ct en2=>exact fun σ2 H2 R2 P2=>k σ2 H2 R2 (P1.s.after P2)
  | rt t en2=>exact fun v σ2 H2 R2 F P2 o=>k v σ2 H2 R2 F (P1.s.after P2) o
 cases b with
 | true=>exact fin m1 hf
 | false=>exact fin m2 hf
theorem PostS.store {F:AS} {v:V} (P:Post K p ds1 Ox σ H en R en1 H' R' F) (o:Ow K (Own R' (U F Ox)) H' t d v F) (hi:i < ds1.length) (hl:i ∉ lk) :
  PostS K lk (ds1.set i d) Ox σ H R (σ.set i (some v)) (en1.set i (some t)) H' (fun j=>if j=i then F else R' j) NoA:=by
 have l1:=P.env.l1
 have l2:=P.env.l2
 have sub:∀ a,Own (fun j=>if j=i then F else R' j) Ox a→Own R' (U F Ox) a:=fun a z=>by
  rcases z with ⟨j,z⟩ | z
  ·by_cases hj:j=i
   ·rw [if_pos hj] at z; exact .inr (.inl z)
   ·rw [if_neg hj] at z; exact .inl ⟨j,z⟩
  ·exact .inr (.inr z)
 refine ⟨?_,fun _ z=>z.elim,P.keep,fun a z=>?_,P.dom,fun j hj=>?_⟩
 ·rw [fj]
  refine ⟨fun j u hu=>?_,fun j j' a z z'=>?_,fun j a z z2=>?_,fun a z=>P.env.dom a (sub a z),by rw [List.length_set,List.length_set]; exact l1,by rw [List.length_set,List.length_set]; exact l2⟩
  ·by_cases hj:j=i
   ·subst hj
    rw [List.getElem?_set_self (by omega)] at hu
    cases hu
    refine ⟨v,d,List.getElem?_set_self (by omega),List.getElem?_set_self hi,?_⟩
    rw [if_pos rfl]
    exact Ow.grow sub t (fun _ z=>z) o
   ·rw [List.getElem?_set_ne (Ne.symm hj)] at hu
    obtain ⟨v',d',g1,g2,g3⟩:=P.env.at_ j u hu
    refine ⟨v',d',by rw [List.getElem?_set_ne (Ne.symm hj)]; exact g1,by rw [List.getElem?_set_ne (Ne.symm hj)]; exact g2,?_⟩
    rw [if_neg hj]
    exact Ow.grow sub u (fun _ z=>z) g3
  ·by_cases hj:j=i <;> by_cases hj':j'=i
   ·rw [hj,hj']
   ·rw [if_pos hj] at z; rw [if_neg hj'] at z'
    exact absurd (.inl z) (P.env.dx j' a z')
   ·rw [if_neg hj] at z; rw [if_pos hj'] at z'
    exact absurd (.inl z') (P.env.dx j a z)
   ·rw [if_neg hj] at z; rw [if_neg hj'] at z'
    exact P.env.dj j j' a z z'
  ·by_cases hj:j=i
   ·rw [if_pos hj] at z
    exact P.fx a z z2
   ·rw [if_neg hj] at z
    exact P.env.dx j a z (.inr z2)
 ·rcases z with z | ⟨j,z⟩
  ·exact z.elim
  ·by_cases hj:j=i
   ·rw [if_pos hj] at z; exact P.own a (.inl z)
   ·rw [if_neg hj] at z; exact P.own a (.inr ⟨j,z⟩)
 ·rw [List.getElem?_set_ne]
  intro z
  subst z
  exact hl hj
theorem uo (hi:i < ds1.length) (hl:i ∉ J.lk) (h:tFS K J ds (ds1.set i d) (ax i f) D σ H):om (tF K p ds ds1 d f) (lZ i) D σ H:=by
 obtain ⟨Ox,en,R,fl,e,hf,k⟩:=h
 unfold ax at hf
 obtain ⟨⟨t,en1⟩,h1,hf⟩:=Option.map_eq_some_iff.mp hf
 cases hf
 exact ⟨Ox,en,R,t,en1,e,h1,fun v H1 R1 F P o=>k _ H1 _ (PostS.store P o hi hl)⟩
abbrev MG:=PyData→En→Option En
def tFG (K:PySem.W.Frag) (lk:List Nat) (ds ds':List Nat) (g:MG):TG:=fun v σ H Q =>
 ∃ Ox en R t en',EnvOk K ds Ox H σ en R∧Ow K (Own R Ox) H t 0 v NoA∧g t en=some en'∧∀ σ' R',PostS K lk ds' Ox σ H R σ' en' H R' NoA→(∀ j∈lk,R' j=R j)→Q σ' H
def gN (i:Nat):MG:=fun t en=>some (en.set i (some t))
def gs0:List PyData→En→Option En:=fun ts en=>match ts with
 | []=>some en
 | _=>none
def gsC (g:MG) (r:List PyData→En→Option En):List PyData→En→Option En:=fun ts en=>match ts with
 | t :: ts=>(g t en).bind fun en1=>r ts en1
 | []=>none
def gT (g:List PyData→En→Option En):MG:=fun t en=>match t with
 | .tuple ts=>g ts en
 | _=>none
variable {g g1:MG} {gs:List PyData→En→Option En} {v:V} {vs:List V} {QS:St→Hp→Prop}
theorem Cz (hi:i < ds.length) (hl:i ∉ lk) (h:tFG K lk ds (ds.set i 0) (gN i) v σ H QS):lZ i v σ H QS:=by
 obtain ⟨Ox,en,R,t,en',e,o,hf,k⟩:=h
 cases hf
 exact k _ _ (PostS.store (p:=true) (Post.refl e) (by rw [show (fun _=>False:AS)=NoA from rfl,fj]; exact o) hi hl) fun j hj=>if_neg (fun (z:j=i)=>hl (by rw [← z]; exact hj))
abbrev MI:=En→Option (List PyData × En)
def pS (K:PySem.W.Frag) (O:AS) (H0:Hp) (J:It) (ts:List PyData):Prop :=
 ∀ (i:Nat) (H:Hp) (O1:AS),(∀ a o,H0 a=some o→¬ O a→H a=some o)→(∀ a,O1 a→O a∨H0 a=none)→(∀ a,O1 a→∃ o,H a=some o) →
  (∀ t,ts[i]?=some t→J.go i H∧∀ x H1,J.yld i H x H1→(∀ a o,H a=some o→H1 a=some o)∧Ow K O1 H1 t 0 x NoA)∧(ts.length=i→J.stop i H)
def tFI (K:PySem.W.Frag) (p:Bool) (ds ds':List Nat) (f:MI):TI:=fun σ H RJ =>
 ∃ Ox en R ts en',EnvOk K ds Ox H σ en R∧f en=some (ts,en')∧∀ J H' R',Post K p ds' Ox σ H en R en' H' R' NoA→pS K (Own R' Ox) H' J ts→RJ J H'
def cx (g:MG) (b:MS):List PyData→En→Option Fl
 | [],en=>some (.nx en)
 | t :: ts,en=>(g t en).bind fun en1=>(b en1).bind fun fl=>match fl with
  | .nx en2=>cx g b ts en2
  | .ct en2=>cx g b ts en2
  | .rt r en2=>some (.rt r en2)
def bG (fi:MI) (g:MG) (b:MS):MS:=fun en=>(fi en).bind fun r=>cx g b r.1 r.2
theorem Gh {fi:MI} (h:tFS K J ds ds1 (bG fi g m) D σ H):EX (tFI K p ds ds1 fi) (tFG K J.lk ds1 ds2 g) (tFS K { J with dsl:=ds1 } ds2 ds1 m) D σ H:=by
 obtain ⟨Ox,en,R,fl,e,hf,k⟩:=h
 unfold bG at hf
 obtain ⟨⟨ts,en1⟩,h1,hf⟩:=Option.bind_eq_some_iff.mp hf
 refine ⟨Ox,en,R,ts,en1,e,h1,fun Jt H1 R1 P1 wk=>?_⟩
 refine ⟨fun i n σ' H'=>∃ en' R',n=ts.length - i∧i≤ts.length∧PostS K J.lk ds1 Ox σ H1 R1 σ' en' H' R' NoA∧cx g m (ts.drop i) en'=some fl,⟨_,en1,R1,rfl,Nat.zero_le _,PostS.refl P1.env0,hf⟩,?_⟩
 rintro i n σ2 H2 ⟨en2,R2,rfl,hi,P2,hr⟩
 obtain ⟨w1,w2⟩:=wk i H2 (Own R2 Ox) (fun a o q z=>P2.keep a o q fun j zj=>z (.inl ⟨j,zj⟩)) (fun a z=>by
  rcases z with z | z
  ·exact (P2.own a (.inr z)).imp .inl id
  ·exact .inl (.inr z)) fun a z=>P2.env0.dom a z
 by_cases hlt:i < ts.length
 ·obtain ⟨go,yl⟩:=w1 ts[i] (List.getElem?_eq_getElem hlt)
  have hd:ts.drop i=ts[i] :: ts.drop (i+1):=List.drop_eq_getElem_cons hlt
  rw [hd] at hr
  obtain ⟨en3,h3,hr⟩:=Option.bind_eq_some_iff.mp hr
  obtain ⟨fl2,h4,hr⟩:=Option.bind_eq_some_iff.mp hr
  refine .inr ⟨go,fun σ' H'=>∃ en' R',PostS K J.lk ds1 Ox σ H1 R1 σ' en' H' R' NoA∧cx g m (ts.drop (i+1)) en'=some fl,fun σ' H' ⟨en',R',P',h'⟩=>⟨ts.length - (i+1),by omega,en',R',rfl,hlt,P',h'⟩,fun x H3 y=>?_⟩
  obtain ⟨gr,ox⟩:=yl x H3 y
  have P3:Post K true ds1 Ox σ2 H2 en2 R2 en2 H3 R2 NoA:=Post.new P2.env0 gr fun _ z=>z.elim
  refine ⟨Ox,en2,R2,ts[i],en3,P3.env0,ox,h3,fun σ4 R4 P4 _=>?_⟩
  have P4':=(P2.after P3.s).after P4
  refine ⟨Ox,en3,R4,fl2,P4.env0,h4,?_⟩
  cases fl2 with
  | nx en5=>exact fun σ5 H5 R5 P5=>⟨en5,R5,P4'.after P5,hr⟩
  | ct en5=>exact fun σ5 H5 R5 P5=>⟨en5,R5,P4'.after P5,hr⟩
  | rt t en5 =>
   cases hr
   exact fun v σ5 H5 R5 F P5 o=>k v σ5 H5 R5 F (P1.s.after (P4'.after P5)) o
 ·have e2:i=ts.length:=by omega
  subst e2
  rw [List.drop_length] at hr
  cases hr
  exact .inl ⟨w2 rfl,k σ2 H2 R2 (P1.s.after P2)⟩
def whN (c:MT) (b:MS):Nat→En→Option Fl
 | 0,_=>none
 | n+1,en=>(c en).bind fun r=>if r.1 then (b r.2).bind fun fl=>match fl with
   | .nx en2=>whN c b n en2
   | .ct en2=>whN c b n en2
   | .rt t en2=>some (.rt t en2)
  else some (.nx r.2)
open Classical in
noncomputable def cP (c:MT) (b:MS):MS:=fun en=>if h:∃ n fl,whN c b n en=some fl then some h.choose_spec.choose else none
theorem ij {b:MS} {fl:Fl} (h:cP c b en=some fl):∃ n,whN c b n en=some fl:=by
 unfold cP at h
 split at h
 ·next q =>
  cases h
  exact ⟨q.choose,q.choose_spec.choose_spec⟩
 ·cases h
theorem vL (h:tFS K J ds ds1 (cP c m) D σ H):tj (tFT K p ds ds1 c) (tFS K { J with dsl:=ds } ds1 ds m) D σ H:=by
 obtain ⟨Ox,en,R,fl,e,hf,k⟩:=h
 obtain ⟨n0,hn⟩:=ij hf
 refine ⟨fun n σ' H'=>∃ en' R',PostS K J.lk ds Ox σ H R σ' en' H' R' NoA∧whN c m n en'=some fl,⟨n0,en,R,PostS.refl e,hn⟩,?_⟩
 rintro n σ2 H2 ⟨en2,R2,P2,hr⟩
 cases n with
 | zero=>cases hr
 | succ n =>
  unfold whN at hr
  obtain ⟨⟨b,en3⟩,h3,hr⟩:=Option.bind_eq_some_iff.mp hr
  refine ⟨Ox,en2,R2,b,en3,P2.env0,h3,fun H3 R3 P3=>?_⟩
  cases b with
  | false =>
   cases hr
   rw [if_neg Bool.false_ne_true]
   exact k σ2 H3 R3 (P2.after P3.s)
  | true =>
   rw [if_pos rfl] at hr ⊢
   obtain ⟨fl2,h4,hr⟩:=Option.bind_eq_some_iff.mp hr
   refine ⟨fun σ' H'=>∃ en' R',PostS K J.lk ds Ox σ H R σ' en' H' R' NoA∧whN c m n en'=some fl,fun σ' H' q=>⟨n,Nat.lt_succ_self _,q⟩,Ox,en3,R3,fl2,P3.env0,h4,?_⟩
   have P3':=P2.after (P3.s (lk:=J.lk))
   cases fl2 with
   | nx en5=>exact fun σ5 H5 R5 P5=>⟨en5,R5,P3'.after P5,hr⟩
   | ct en5=>exact fun σ5 H5 R5 P5=>⟨en5,R5,P3'.after P5,hr⟩
   | rt t en5 =>
    cases hr
    exact fun v σ5 H5 R5 F P5 o=>k v σ5 H5 R5 F (P3'.after P5) o
end
end L2
namespace L2
open PySem PySem.Spec PyProof.Rows
def lcF (g:MG) (c:MT) (f:ME):List D→List D→En→Option (List D × En)
 | [],acc,en=>some (acc,en)
 | t :: ts,acc,en=>(g t en).bind fun en1=>(c en1).bind fun r=>if r.1 then (f r.2).bind fun q=>if acc.length < sizeLine then lcF g c f ts (acc++[q.1]) q.2 else none else lcF g c f ts acc r.2
def cX (js:List (Option Nat)) (en:En):En:=js.map fun j=>match j with
 | some j=>(en[j]?).join
 | none=>none
def wbB:List (Option Nat)→En→En→En
 | some j :: js,o :: r,en=>wbB js r (en.set j o)
 | none :: js,_ :: r,en=>wbB js r en
 | _,_,en=>en
def eLC (q:Bool) (fi:MI) (g:MG) (c:MT) (f:ME) (js:List (Option Nat)):ME:=fun en=>(fi en).bind fun r=>(lcF g c f r.1 [] (cX js r.2)).map fun z=>(.list z.1,if q then r.2 else wbB js z.2 r.2)
def iq (ds:List Nat):List (Option Nat)→List Nat→Bool
 | [],[]=>true
 | some j :: js,d :: r=>decide (ds[j]?=some d) && (decide (some j ∉ js) && iq ds js r)
 | none :: js,_ :: r=>iq ds js r
 | _,_=>false
section
variable {K:PySem.W.Frag} {p p1 p2 q:Bool} {lk:List Nat} {ds ds0 ds1 ds2 ds' dsi:List Nat} {Ox Ox' O O':AS} {H H':Hp} {σ σ':St} {en en' en1 en2:En} {R R':Nat→AS} {d d' d1 d2 dr:Nat} {t t1 t2:D} {Q:VK} {f f1 f2:ME} {c:MT} {g:MG} {fi:MI} {i:Nat} {js:List (Option Nat)}
theorem lA:∀ {js:List (Option Nat)} {dsi:List Nat},iq ds js dsi=true→dsi.length=js.length∧(∀ (k j:Nat),js[k]?=some (some j)→∃ d,dsi[k]?=some d∧ds[j]?=some d)∧(∀ (k k' j:Nat),js[k]?=some (some j)→js[k']?=some (some j)→k=k')
 | [],[],_=>⟨rfl,fun k j z=>by simp at z,fun k k' j z=>by simp at z⟩
 | some j0 :: js,d :: r,h=>by
  unfold iq at h
  rw [Bool.and_eq_true,Bool.and_eq_true] at h
  obtain ⟨h1,h2,h3⟩:=h
  obtain ⟨a,b,c⟩:=lA h3
  have n:=of_decide_eq_true h2
  refine ⟨by rw [List.length_cons,List.length_cons,a],fun k j z=>?_,fun k k' j z z'=>?_⟩
  ·cases k with
   | zero=>simp at z; subst z; exact ⟨d,rfl,of_decide_eq_true h1⟩
   | succ k=>exact b k j (by simpa using z)
  ·cases k with
   | zero =>
    simp at z
    subst z
    cases k' with
    | zero=>rfl
    | succ k'=>exact absurd (List.mem_of_getElem? (by simpa using z':js[k']?=some (some j0))) n
   | succ k =>
    cases k' with
    | zero =>
     simp at z'
     subst z'
     exact absurd (List.mem_of_getElem? (by simpa using z:js[k]?=some (some j0))) n
    | succ k'=>rw [c k k' j (by simpa using z) (by simpa using z')]
 | none :: js,d :: r,h=>by
  unfold iq at h
  obtain ⟨a,b,c⟩:=lA h
  refine ⟨by rw [List.length_cons,List.length_cons,a],fun k j z=>?_,fun k k' j z z'=>?_⟩
  ·cases k with
   | zero=>simp at z
   | succ k=>exact b k j (by simpa using z)
  ·cases k with
   | zero=>simp at z
   | succ k =>
    cases k' with
    | zero=>simp at z'
    | succ k'=>rw [c k k' j (by simpa using z) (by simpa using z')]
 | [],_ :: _,h=>nomatch h
 | some _ :: _,[],h=>nomatch h
 | none :: _,[],h=>nomatch h
theorem mK:∀ (js:List (Option Nat)) (r en:En),(wbB js r en).length=en.length
 | [],_,_=>by unfold wbB; rfl
 | some _ :: _,[],_=>by unfold wbB; rfl
 | none :: _,[],_=>by unfold wbB; rfl
 | some j :: js,o :: r,en=>by unfold wbB; rw [mK js r _,List.length_set]
 | none :: js,o :: r,en=>by unfold wbB; exact mK js r _
theorem ku:∀ (js:List (Option Nat)) (r en:En) (i:Nat),(∀ k:Nat,js[k]?≠some (some i))→(wbB js r en)[i]?=en[i]?
 | [],_,_,_,_=>by unfold wbB; rfl
 | some _ :: _,[],_,_,_=>by unfold wbB; rfl
 | none :: _,[],_,_,_=>by unfold wbB; rfl
 | none :: js,o :: r,en,i,h=>by unfold wbB; exact ku js r en i fun j=>h (j+1)
 | some k :: js,o :: r,en,i,h=>by
  unfold wbB
  rw [ku js r _ i fun j=>h (j+1),List.getElem?_set_ne]
  intro e
  subst e
  exact h 0 rfl
theorem nX:∀ (js:List (Option Nat)) (r en:En) (i k:Nat),js[k]?=some (some i)→(∀ k':Nat,js[k']?=some (some i)→k'=k)→r.length=js.length→i < en.length→(wbB js r en)[i]?=r[k]?
 | [],_,_,_,_,h,_,_,_=>by simp at h
 | some _ :: js,[],_,_,_,_,_,h,_=>by simp at h
 | none :: js,[],_,_,_,_,_,h,_=>by simp at h
 | none :: js,o :: r,en,i,k,h,u,l,b=>by
  unfold wbB
  cases k with
  | zero=>simp at h
  | succ k=>exact nX js r en i k (by simpa using h) (fun j' z=>by have:=u (j'+1) (by simpa using z); omega) (by simpa using l) b
 | some j :: js,o :: r,en,i,k,h,u,l,b=>by
  unfold wbB
  cases k with
  | zero =>
   have e:j=i:=by simpa using h
   subst e
   rw [ku js r _ j fun j' z=>by have:=u (j'+1) (by simpa using z); omega]
   rw [List.getElem?_set_self b]
   rfl
  | succ k=>exact nX js r _ i k (by simpa using h) (fun j' z=>by have:=u (j'+1) (by simpa using z); omega) (by simpa using l) (by rw [List.length_set]; exact b)
theorem Ows.snoc:∀ {ts:List D} {vs:List V} {F1 F2:AS} {v:V},Ows K O H ts d vs F1→Ow K O H t d v F2→(∀ b,F1 b→¬ F2 b)→Ows K O H (ts++[t]) d (vs++[v]) (U F1 F2)
 | [],vs,F1,F2,v,h,h2,_=>by
  have e:vs=[]:=h
  subst e
  exact ⟨v,[],F2,NoA,rfl,fun _ z=>.inr z,fun _ z=>z.elim,fun _ _ z=>z.elim,h2,rfl⟩
 | u :: ts,vs,F1,F2,v,h,h2,hd=>by
  obtain ⟨w,r,G1,G2,e,s1,s2,s3,h4,h5⟩:=h
  subst e
  refine ⟨w,r++[v],G1,U G2 F2,rfl,fun b z=>.inl (s1 b z),fun b z=>z.imp (s2 b) id,fun b z z2=>?_,h4,Ows.snoc h5 h2 fun b z=>hd b (s2 b z)⟩
  rcases z2 with z2 | z2
  ·exact s3 b z z2
  ·exact hd b (s1 b z) z2
theorem Ows.len:∀ {ts:List D} {vs:List V} {F:AS},Ows K O H ts d vs F→vs.length=ts.length
 | [],_,_,h=>by rw [show _=[] from h]; rfl
 | t :: ts,_,_,h=>by
  obtain ⟨v,r,F1,F2,e,h1,h2,h3,h4,h5⟩:=h
  rw [e,List.length_cons,List.length_cons,h5.len]
def ip:List (Option Nat)→Nat→List Nat
 | [],_=>[]
 | some _ :: r,n=>n :: ip r (n+1)
 | none :: r,n=>ip r (n+1)
theorem ja:∀ {js:List (Option Nat)} {n k j:Nat},js[k]?=some (some j)→n+k∈ip js n
 | [],n,k,j,h=>by simp at h
 | some x :: r,n,k,j,h=>by
  unfold ip
  cases k with
  | zero=>exact List.mem_cons_self
  | succ k =>
   refine List.mem_cons_of_mem _ ?_
   have:=ja (n:=n+1) (k:=k) (j:=j) (by simpa using h)
   rw [show n+(k+1)=n+1+k by omega]
   exact this
 | none :: r,n,k,j,h=>by
  unfold ip
  cases k with
  | zero=>simp at h
  | succ k =>
   have:=ja (n:=n+1) (k:=k) (j:=j) (by simpa using h)
   rw [show n+(k+1)=n+1+k by omega]
   exact this
def pN (js:List (Option Nat)) (R1:Nat→AS):Nat→AS:=fun k=>match js[k]? with
 | some (some j)=>R1 j
 | _=>NoA
theorem CV {R1:Nat→AS} {k j:Nat} (h:js[k]?=some (some j)):pN js R1 k=R1 j:=by unfold pN; rw [h]
theorem CU {R1:Nat→AS} {k:Nat} {a:Addr} (h:pN js R1 k a):∃ j,js[k]?=some (some j)∧R1 j a:=by
 unfold pN at h
 cases q:js[k]? with
 | none=>rw [q] at h; exact h.elim
 | some o =>
  rw [q] at h
  cases o with
  | none=>exact h.elim
  | some j=>exact ⟨j,rfl,h⟩
theorem GJ {cd:Nat} (hc:iq ds1 js dsi=true) (hd:dn d=cd) (hz:d≠0) (hl:lk=ip js 0) (h:tF K (p && q) ds ds1 d (eLC q fi g c f js) σ H Q) :
  tLC (tFI K p ds ds1 fi) (tFG K lk dsi dsi g) (tFT K q dsi dsi c) (tF K q dsi dsi cd f) js σ H Q:=by
 obtain ⟨Ox,en,R,t,en',e,hf,k⟩:=h
 unfold eLC at hf
 obtain ⟨⟨ts,en1⟩,h1,hf⟩:=Option.bind_eq_some_iff.mp hf
 obtain ⟨⟨fin,enf⟩,h2,hf⟩:=Option.map_eq_some_iff.mp hf
 cases hf
 obtain ⟨cl,c1,c2⟩:=lA hc
 refine ⟨Ox,en,R,ts,en1,e,h1,fun J H1 R1 P1 wk D hD=>?_⟩
 have E1:=P1.env0
 generalize hRI:pN js R1=RI
 have ri1:∀ k j:Nat,js[k]?=some (some j)→RI k=R1 j:=fun k j z=>by rw [← hRI]; exact CV z
 have ric:∀ (k:Nat) a,RI k a→∃ j,js[k]?=some (some j)∧R1 j a:=fun k a z=>by rw [← hRI] at z; exact CU z
 let OxI:AS:=fun a=>Ox a∨a=D∨∃ i,R1 i a∧∀ k:Nat,js[k]?≠some (some i)
 have nD:∀ a,Own R1 Ox a→a≠D:=fun a z z2=>by
  subst z2
  obtain ⟨o,q⟩:=E1.dom a z
  rw [hD] at q
  cases q
 have lI:(cX js en1).length=js.length:=by unfold cX; rw [List.length_map]
 have lS:(dP js σ).length=js.length:=by unfold dP; rw [List.length_map]
 have getE:∀ (k:Nat) t,(cX js en1)[k]?=some (some t)→∃ j,js[k]?=some (some j)∧en1[j]?=some (some t):=fun k t z=>by
  unfold cX at z
  rw [List.getElem?_map] at z
  obtain ⟨oj,h1,h2⟩:=Option.map_eq_some_iff.mp z
  cases oj with
  | none=>cases h2
  | some j =>
   refine ⟨j,h1,?_⟩
   have h2':(en1[j]?).join=some t:=h2
   cases q:en1[j]? with
   | none=>rw [q] at h2'; cases h2'
   | some o=>rw [q] at h2'; exact congrArg some h2'
 have getS:∀ (k j:Nat) v,js[k]?=some (some j)→σ[j]?=some (some v)→(dP js σ)[k]?=some (some v):=fun k j v z1 z2=>by
  unfold dP
  rw [List.getElem?_map,z1]
  show some ((σ[j]?).join)=_
  rw [z2]
  rfl
 have u2:∀ a o,H1 a=some o→upd H1 D (.lst []) a=some o:=fun a o q=>(b5 (o:=.lst []) hD).1 a o q
 have EI:EnvOk K dsi OxI (upd H1 D (.lst [])) (dP js σ) (cX js en1) RI:=by
  refine ⟨fun k t hk=>?_,fun k k' a z z'=>?_,fun k a z z2=>?_,fun a z=>?_,by rw [lI,lS],by rw [cl,lS]⟩
  ·obtain ⟨j,hj,ht⟩:=getE k t hk
   obtain ⟨v,d,g1,g2,g3⟩:=E1.at_ j t ht
   obtain ⟨d',q1,q2⟩:=c1 k j hj
   rw [g2] at q2
   cases q2
   refine ⟨v,d,getS k j v hj g1,q1,?_⟩
   rw [ri1 k j hj]
   refine Ow.mv (G:=R1 j) ⟨fun a o q _=>u2 a o q,fun a z=>?_⟩ t (fun _ z=>z) g3
   rcases z with ⟨k',z⟩ | z | z | ⟨i,z,_⟩
   ·obtain ⟨j',_,z⟩:=ric k' a z
    exact .inl (.inl ⟨j',z⟩)
   ·exact .inl (.inr z)
   ·exact .inr (z ▸ hD)
   ·exact .inl (.inl ⟨i,z⟩)
  ·obtain ⟨j,hj,z⟩:=ric k a z
   obtain ⟨j',hj',z'⟩:=ric k' a z'
   have:=E1.dj j j' a z z'
   subst this
   exact c2 k k' j hj hj'
  ·obtain ⟨j,hj,z⟩:=ric k a z
   rcases z2 with z2 | z2 | ⟨i,z2,n⟩
   ·exact E1.dx j a z z2
   ·exact nD a (.inl ⟨j,z⟩) z2
   ·have:=E1.dj j i a z z2
    subst this
    exact n k hj
  ·rcases z with ⟨k,z⟩ | z | z | ⟨i,z,_⟩
   ·obtain ⟨j,hj,z⟩:=ric k a z
    obtain ⟨o,q⟩:=E1.dom a (.inl ⟨j,z⟩)
    exact ⟨o,u2 a o q⟩
   ·obtain ⟨o,q⟩:=E1.dom a (.inr z)
    exact ⟨o,u2 a o q⟩
   ·subst z
    exact ⟨_,aW⟩
   ·obtain ⟨o,q⟩:=E1.dom a (.inl ⟨i,z⟩)
    exact ⟨o,u2 a o q⟩
 refine ⟨fun i n τ H'=>∃ eni RI' acc vs Fa,n=ts.length - i∧i≤ts.length∧PostS K lk dsi OxI (dP js σ) H1 RI τ eni H' RI' Fa∧H' D=some (.lst vs)∧Ows K (Own RI' (U Fa OxI)) H' acc cd vs Fa∧lcF g c f (ts.drop i) acc eni=some (fin,enf) ∧
   (q=true→(∀ k j:Nat,js[k]?=some (some j)→RI' k=RI k)∧(∀ a o,H1 a=some o→H' a=some o)),
  ⟨_,cX js en1,RI,[],[],NoA,rfl,Nat.zero_le _,⟨by rw [fj]; exact EI,fun _ z=>z.elim,fun a o q _=>u2 a o q,fun a z=>z.elim (fun z=>z.elim) .inl,fun a o q=>⟨o,u2 a o q⟩,fun _ _=>rfl⟩,aW,rfl,h2,fun _=>⟨fun _ _ _=>rfl,u2⟩⟩,?_⟩
 rintro i n τ H2 ⟨eni,RI2,acc,vs,Fa,rfl,hi,P2,hDl,oacc,hr,pu⟩
 have i4:∀ a,Own RI2 (U Fa OxI) a→Own R1 Ox a∨H1 a=none:=fun a z=>by
  rcases z with z | z | z | z | ⟨i,z,_⟩
  ·rcases P2.own a (.inr z) with ⟨k,z⟩ | z
   ·obtain ⟨j,_,z⟩:=ric k a z
    exact .inl (.inl ⟨j,z⟩)
   ·exact .inr z
  ·rcases P2.own a (.inl z) with ⟨k,z⟩ | z
   ·obtain ⟨j,_,z⟩:=ric k a z
    exact .inl (.inl ⟨j,z⟩)
   ·exact .inr z
  ·exact .inl (.inr z)
  ·exact .inr (z ▸ hD)
  ·exact .inl (.inl ⟨i,z⟩)
 obtain ⟨w1,w2⟩:=wk i H2 (Own RI2 (U Fa OxI)) (fun a o q z=>P2.keep a o q fun k zk=>by
  obtain ⟨j,_,zj⟩:=ric k a zk
  exact z (.inl ⟨j,zj⟩)) i4 fun a z=>P2.env.dom a z
 have DO:OxI D:=.inr (.inl rfl)
 by_cases hlt:i < ts.length
 ·obtain ⟨go,yl⟩:=w1 ts[i] (List.getElem?_eq_getElem hlt)
  rw [List.drop_eq_getElem_cons hlt] at hr
  obtain ⟨en3,h3,hr⟩:=Option.bind_eq_some_iff.mp hr
  obtain ⟨⟨b,en4⟩,h4,hr⟩:=Option.bind_eq_some_iff.mp hr
  refine .inr ⟨go,fun τ' H'=>∃ eni RI' acc vs Fa,PostS K lk dsi OxI (dP js σ) H1 RI τ' eni H' RI' Fa∧H' D=some (.lst vs)∧Ows K (Own RI' (U Fa OxI)) H' acc cd vs Fa∧lcF g c f (ts.drop (i+1)) acc eni=some (fin,enf)∧(q=true→(∀ k j:Nat,js[k]?=some (some j)→RI' k=RI k)∧(∀ a o,H1 a=some o→H' a=some o)),
   fun τ' H' ⟨eni,RI',acc,vs,Fa,P',x1,x2,x3,x4⟩=>⟨_,by omega,eni,RI',acc,vs,Fa,rfl,hlt,P',x1,x2,x3,x4⟩,fun x H3 y=>?_⟩
  obtain ⟨gr,ox⟩:=yl x H3 y
  have P3:Post K true dsi (U Fa OxI) τ H2 eni RI2 eni H3 RI2 NoA:=Post.new P2.env gr fun _ z=>z.elim
  have chain:∀ {τ5 en5 H5 RI5 F5},PostS K lk dsi (U Fa OxI) τ H2 RI2 τ5 en5 H5 RI5 F5→PostS K lk dsi OxI (dP js σ) H1 RI τ5 en5 H5 RI5 (U Fa F5):=fun {τ5 en5 H5 RI5 F5} P5=>by
   have n1:∀ a,H2 a=none→H1 a=none:=fun a z=>by
    cases q:H1 a with
    | none=>rfl
    | some o =>
     obtain ⟨o',q'⟩:=P2.dom a o q
     rw [z] at q'
     cases q'
   refine ⟨kc ▸ P5.env,fun a z z2=>?_,fun a o q n=>?_,fun a z=>?_,fun a o q=>?_,fun j hj=>(P5.lk j hj).trans (P2.lk j hj)⟩
   ·rcases z with z | z
    ·exact P2.fx a z z2
    ·exact P5.fx a z (.inr z2)
   ·refine P5.keep a o (P2.keep a o q n) fun i z=>?_
    rcases P2.own a (.inr ⟨i,z⟩) with ⟨j,z⟩ | z
    ·exact n j z
    ·rw [q] at z; cases z
   ·rcases z with (z | z) | z
    ·exact P2.own a (.inl z)
    ·rcases P5.own a (.inl z) with z | z
     ·exact P2.own a (.inr z)
     ·exact .inr (n1 a z)
    ·rcases P5.own a (.inr z) with z | z
     ·exact P2.own a (.inr z)
     ·exact .inr (n1 a z)
   ·obtain ⟨o',q'⟩:=P2.dom a o q
    exact P5.dom a o' q'
  have carry:∀ {τ5 en5 H5 RI5 F5},PostS K lk dsi (U Fa OxI) τ H2 RI2 τ5 en5 H5 RI5 F5→Ows K (Own RI5 (U (U Fa F5) OxI)) H5 acc cd vs Fa:=fun {τ5 en5 H5 RI5 F5} P5=>by
   refine Ows.mv (G:=Fa) ⟨fun a o q z=>P5.keep a o q fun i zi=>?_,fun a z=>?_⟩ acc (fun _ z=>z) oacc
   ·rcases z with z | z
    ·exact z (.inl ⟨i,zi⟩)
    ·exact P2.env.dx i a zi (.inl z)
   ·rcases z with z | (z | z) | z
    ·exact (P5.own a (.inr z)).imp .inl id
    ·exact .inl (.inr (.inl z))
    ·exact (P5.own a (.inl z)).imp .inl id
    ·exact .inl (.inr (.inr z))
  have UFN:U Fa NoA=Fa:=eQ fun a=>⟨fun z=>z.elim id fun z=>z.elim,.inl⟩
  refine ⟨U Fa OxI,eni,RI2,ts[i],en3,P3.env0,ox,h3,fun τ4 R4 P4 r4=>?_⟩
  have P4':=(P3.s (lk:=lk)).after P4
  refine ⟨U Fa OxI,en3,R4,b,en4,P4.env0,h4,fun H5 R5 P5=>?_⟩
  have P5':=P4'.after (P5.s (lk:=lk))
  have pu5:q=true→(∀ k j:Nat,js[k]?=some (some j)→R5 k=RI k)∧(∀ a o,H1 a=some o→H5 a=some o):=fun hq=>by
   obtain ⟨_,b2,b3⟩:=P5.pure hq
   obtain ⟨e1,e2⟩:=pu hq
   refine ⟨fun k j z=>?_,fun a o qq=>b3 a o (gr a o (e2 a o qq))⟩
   rw [b2,r4 k (by rw [hl]; have:=ja (n:=0) z; rw [Nat.zero_add] at this; exact this)]
   exact e1 k j z
  cases b with
  | false =>
   dsimp only
   rw [if_neg Bool.false_ne_true]
   have c5:=chain P5'
   have o5:=carry P5'
   rw [UFN] at c5 o5
   exact ⟨en4,R5,acc,vs,Fa,c5,P5'.keep D _ hDl fun k z=>P2.env.dx k D z (.inr DO),o5,hr,pu5⟩
  | true =>
   dsimp only
   rw [if_pos rfl]
   obtain ⟨⟨t6,en6⟩,h6,hr⟩:=Option.bind_eq_some_iff.mp (show ((f en4).bind fun q=>if acc.length < sizeLine then lcF g c f (ts.drop (i+1)) (acc++[q.1]) q.2 else none)=some (fin,enf) from hr)
   refine ⟨U Fa OxI,en4,R5,t6,en6,P5.env0,h6,fun v H6 R6 F6 P6 o6=>?_⟩
   have P6':=P5'.after (P6.s (lk:=lk))
   by_cases hlen:acc.length < sizeLine
   case neg=>rw [if_neg hlen] at hr; cases hr
   rw [if_pos hlen] at hr
   have hD6:=P6'.keep D _ hDl fun k z=>P2.env.dx k D z (.inr DO)
   refine ⟨vs,hD6,by rw [oacc.len]; exact hlen,en6,R6,acc++[t6],vs++[v],U Fa F6,?_,aW,?_,hr,?_⟩
   ·have c6:=chain P6'
    have keepD:∀ a o,H6 a=some o→a≠D→upd H6 D (.lst (vs++[v])) a=some o:=fun a o q n=>by rw [aP n]; exact q
    refine ⟨⟨fun k t hk=>?_,c6.env.dj,c6.env.dx,fun a z=>?_,c6.env.l1,c6.env.l2⟩,c6.fx,fun a o q n=>?_,c6.own,fun a o q=>?_,c6.lk⟩
    ·obtain ⟨v',d',g1,g2,g3⟩:=c6.env.at_ k t hk
     refine ⟨v',d',g1,g2,Ow.mv (G:=R6 k) ⟨fun a o q z=>keepD a o q fun zD=>?_,fun a z=>.inl z⟩ t (fun _ z=>z) g3⟩
     subst zD
     rcases z with z | z
     ·exact z (.inr (.inr DO))
     ·exact c6.env.dx k a z (.inr DO)
    ·by_cases ha:a=D
     ·subst ha; exact ⟨_,aW⟩
     ·obtain ⟨o,q⟩:=c6.env.dom a z
      exact ⟨o,keepD a o q ha⟩
    ·refine keepD a o (c6.keep a o q n) fun zD=>?_
     subst zD
     rw [hD] at q
     cases q
    ·obtain ⟨o',q'⟩:=c6.dom a o q
     by_cases ha:a=D
     ·subst ha; exact ⟨_,aW⟩
     ·exact ⟨o',keepD a o' q' ha⟩
   ·have o1:=carry P6'
    have o2:Ow K (Own R6 (U (U Fa F6) OxI)) H6 t6 cd v F6:=kc ▸ o6
    have:=Ows.snoc o1 o2 fun b z1 z2=>P6.fx b z2 (.inl z1)
    refine Ows.mv (G:=U Fa F6) ⟨fun a o q z=>?_,fun a z=>.inl z⟩ _ (fun _ z=>z) this
    rw [aP]
    ·exact q
    ·intro zD
     subst zD
     rcases z with z | z | z
     ·exact z (.inr (.inr DO))
     ·exact P2.fx a z DO
     ·exact P6.fx a z (.inr DO)
   ·intro hq
    obtain ⟨_,b2,b3⟩:=P6.pure hq
    obtain ⟨e1,e2⟩:=pu5 hq
    refine ⟨fun k j z=>by rw [b2]; exact e1 k j z,fun a o qq=>?_⟩
    rw [aP]
    ·exact b3 a o (e2 a o qq)
    ·intro zD
     subst zD
     rw [hD] at qq
     cases qq
 ·have e2:i=ts.length:=by omega
  subst e2
  rw [List.drop_length] at hr
  obtain ⟨e3,e4⟩:acc=fin∧eni=enf:=by cases hr; exact ⟨rfl,rfl⟩
  subst e3 e4
  refine .inl ⟨w2 rfl,?_⟩
  have fD:∀ a,Fa a→a≠D:=fun a z z2=>by
   subst z2
   exact P2.fx a z DO
  cases hq:q with
  | true =>
   obtain ⟨e1,e2⟩:=pu hq
   subst hq
   have fn:∀ a,Fa a→H1 a=none:=fun a z=>by
    rcases P2.own a (.inl z) with ⟨k,z2⟩ | z2
    ·obtain ⟨j,hj,z3⟩:=ric k a z2
     rw [← e1 k j hj] at z2
     exact absurd (.inl z) (P2.env.dx k a z2)
    ·exact z2
   have nt:NewTo H1 H2 (fun a=>a=D∨Fa a):=⟨e2,fun a z=>by
    rcases z with z | z
    ·subst z
     exact ⟨hD,_,hDl⟩
    ·exact ⟨fn a z,P2.env.dom a (.inr (.inl z))⟩⟩
   have PF:=P1.fin nt
   rw [Bool.and_true] at k
   refine k (.ref D) H2 R1 _ PF ⟨D,vs,rfl,.inr ⟨hz,hDl,.inl rfl,Fa,fun b z=>⟨.inr z,fD b z⟩,?_⟩⟩
   rw [hd]
   refine Ows.grow (fun a z=>?_) _ (fun _ z=>z) oacc
   rcases z with ⟨i,z⟩ | (z | z) | z
   ·by_cases hc2:∃ kk:Nat,js[kk]?=some (some i)
    ·obtain ⟨kk,hk⟩:=hc2
     refine .inl ⟨kk,?_⟩
     rw [e1 kk i hk,ri1 kk i hk]
     exact z
    ·exact .inr (.inr (.inr (.inr ⟨i,z,fun kk hk=>hc2 ⟨kk,hk⟩⟩)))
   ·exact .inr (.inr (z ▸ DO))
   ·exact .inr (.inl z)
   ·exact .inr (.inr (.inl z))
  | false =>
   subst hq
   rw [Bool.and_false] at k
   classical
   let R3:Nat→AS:=fun i=>if hh:∃ kk:Nat,js[kk]?=some (some i) then RI2 hh.choose else R1 i
   have r31:∀ (i kk:Nat),js[kk]?=some (some i)→R3 i=RI2 kk:=fun i kk z=>by
    have hh:∃ kk:Nat,js[kk]?=some (some i):=⟨kk,z⟩
    have:hh.choose=kk:=c2 _ _ i hh.choose_spec z
    show (if hh:∃ kk:Nat,js[kk]?=some (some i) then RI2 hh.choose else R1 i)=RI2 kk
    rw [dif_pos hh,this]
   have r32:∀ i:Nat,(∀ kk:Nat,js[kk]?≠some (some i))→R3 i=R1 i:=fun i z=>by
    show (if hh:∃ kk:Nat,js[kk]?=some (some i) then RI2 hh.choose else R1 i)=R1 i
    rw [dif_neg fun ⟨j,q⟩=>z j q]
   have r3c:∀ (i:Nat) a,R3 i a→(∃ kk:Nat,js[kk]?=some (some i)∧RI2 kk a)∨((∀ kk:Nat,js[kk]?≠some (some i))∧R1 i a):=fun i a z=>by
    by_cases hh:∃ kk:Nat,js[kk]?=some (some i)
    ·obtain ⟨kk,hk⟩:=hh
     rw [r31 i kk hk] at z
     exact .inl ⟨kk,hk,z⟩
    ·rw [r32 i fun j z=>hh ⟨j,z⟩] at z
     exact .inr ⟨fun j z=>hh ⟨j,z⟩,z⟩
   have sub3:∀ a,Own R3 (U (fun a=>a=D∨Fa a) Ox) a→Own RI2 (U Fa OxI) a:=fun a z=>by
    rcases z with ⟨i,z⟩ | (z | z) | z
    ·rcases r3c i a z with ⟨j,_,z⟩ | ⟨n,z⟩
     ·exact .inl ⟨j,z⟩
     ·exact .inr (.inr (.inr (.inr ⟨i,z,n⟩)))
    ·exact .inr (.inr (z ▸ DO))
    ·exact .inr (.inl z)
    ·exact .inr (.inr (.inl z))
   have el:eni.length=js.length:=by rw [P2.env.l1,← P2.env.l2]; exact cl
   have riO:∀ (kk:Nat) a,RI kk a→Own R1 Ox a:=fun kk a z=>by
    obtain ⟨j,_,z⟩:=ric kk a z
    exact .inl ⟨j,z⟩
   have env3:EnvOk K ds1 (U (fun a=>a=D∨Fa a) Ox) H2 σ (wbB js eni en1) R3:=by
    refine ⟨fun i u hu=>?_,fun i i' a z z'=>?_,fun i a z z2=>?_,fun a z=>P2.env.dom a (sub3 a z),by rw [mK]; exact E1.l1,E1.l2⟩
    ·by_cases hh:∃ kk:Nat,js[kk]?=some (some i)
     ·obtain ⟨kk,hk⟩:=hh
      obtain ⟨dd,q1,q2⟩:=c1 kk i hk
      have hil:i < en1.length:=by rw [E1.l1,← E1.l2]; exact (List.getElem?_eq_some_iff.mp q2).1
      rw [nX js eni en1 i kk hk (fun k' z=>c2 k' kk i z hk) el hil] at hu
      obtain ⟨v,d',g1,g2,g3⟩:=P2.env.at_ kk u hu
      rw [q1] at g2
      cases g2
      have hlk:=P2.lk kk (by rw [hl]; have:=ja (n:=0) hk; rw [Nat.zero_add] at this; exact this)
      rw [hlk] at g1
      refine ⟨v,dd,?_,q2,?_⟩
      ·unfold dP at g1
       rw [List.getElem?_map,hk] at g1
       have g1':(σ[i]?).join=some v:=Option.some.inj g1
       cases q3:σ[i]? with
       | none=>rw [q3] at g1'; cases g1'
       | some o=>rw [q3] at g1'; exact congrArg some g1'
      ·rw [r31 i kk hk]
       exact Ow.grow sub3 u (fun _ z=>z) g3
     ·rw [ku js eni en1 i fun j z=>hh ⟨j,z⟩] at hu
      have ns:∀ j:Nat,js[j]?≠some (some i):=fun j z=>hh ⟨j,z⟩
      obtain ⟨v,d',g1,g2,g3⟩:=E1.at_ i u hu
      refine ⟨v,d',g1,g2,?_⟩
      rw [r32 i ns]
      refine Ow.mv (G:=R1 i) ⟨fun a o q z=>P2.keep a o q fun j zj=>?_,fun a z=>i4 a (sub3 a z)⟩ u (fun _ z=>z) g3
      obtain ⟨j',hj',zj⟩:=ric j a zj
      rcases z with z | z
      ·exact z (.inl ⟨j',zj⟩)
      ·have:=E1.dj i j' a z zj
       subst this
       exact ns j hj'
    ·rcases r3c i a z with ⟨j,q,z⟩ | ⟨n,z⟩ <;> rcases r3c i' a z' with ⟨j',q',z'⟩ | ⟨n',z'⟩
     ·have:=P2.env.dj j j' a z z'
      subst this
      rw [q] at q'
      cases q'
      rfl
     ·exact absurd (.inr (.inr (.inr ⟨i',z',n'⟩))) (P2.env.dx j a z)
     ·exact absurd (.inr (.inr (.inr ⟨i,z,n⟩))) (P2.env.dx j' a z')
     ·exact E1.dj i i' a z z'
    ·rcases r3c i a z with ⟨j,q,z⟩ | ⟨n,z⟩
     ·refine P2.env.dx j a z ?_
      rcases z2 with (z2 | z2) | z2
      ·exact .inr (z2 ▸ DO)
      ·exact .inl z2
      ·exact .inr (.inl z2)
     ·rcases z2 with (z2 | z2) | z2
      ·exact nD a (.inl ⟨i,z⟩) z2
      ·exact P2.fx a z2 (.inr (.inr ⟨i,z,n⟩))
      ·exact E1.dx i a z z2
   have n1:∀ a,H1 a=none→H a=none:=fun a z=>by
    cases q:H a with
    | none=>rfl
    | some o =>
     obtain ⟨o',q'⟩:=P1.dom a o q
     rw [z] at q'
     cases q'
   refine k (.ref D) H2 R3 (fun a=>a=D∨Fa a) ⟨env3,fun a z z2=>?_,fun a o q n=>?_,fun a z=>?_,fun a o q=>?_,fun z=>nomatch z⟩ ⟨D,vs,rfl,.inr ⟨hz,hDl,.inl rfl,Fa,fun b z=>⟨.inr z,fD b z⟩,?_⟩⟩
   ·rcases z with z | z
    ·exact nD a (.inr z2) z
    ·exact P2.fx a z (.inl z2)
   ·refine P2.keep a o (P1.keep a o q n) fun kk z=>?_
    obtain ⟨j,_,z⟩:=ric kk a z
    rcases P1.own a (.inr ⟨j,z⟩) with ⟨i',z⟩ | z
    ·exact n i' z
    ·rw [q] at z; cases z
   ·have h3:(∃ i,R1 i a)∨H1 a=none:=by
     have h4:(Fa a∨∃ kk,RI2 kk a)→(∃ i,R1 i a)∨H1 a=none:=fun z=>by
      rcases P2.own a z with ⟨kk,z⟩ | z
      ·obtain ⟨j,_,z⟩:=ric kk a z
       exact .inl ⟨j,z⟩
      ·exact .inr z
     rcases z with (z | z) | ⟨i,z⟩
     ·exact .inr (z ▸ hD)
     ·exact h4 (.inl z)
     ·rcases r3c i a z with ⟨j,_,z⟩ | ⟨n,z⟩
      ·exact h4 (.inr ⟨j,z⟩)
      ·exact .inl ⟨i,z⟩
    rcases h3 with h3 | h3
    ·exact P1.own a (.inr h3)
    ·exact .inr (n1 a h3)
   ·obtain ⟨o',q'⟩:=P1.dom a o q
    exact P2.dom a o' q'
   ·rw [hd]
    exact Ows.grow sub3 _ (fun _ z=>z) oacc
end
end L2
namespace L2
open PySem PySem.Spec PyProof.Rows
def msk:List Nat→En→En
 | d :: ds,o :: en=>(if d=0 then none else o) :: msk ds en
 | _,_=>[]
def fnF (n:Nat) (dps:List Nat) (b:MS):List PyData→Option (PyData × En):=fun ts=>(b (ts.map some++List.replicate n none)).bind fun fl=>match fl with
 | .rt t en=>some (t,msk dps en)
 | .nx en=>some (.none,msk dps en)
 | .ct _=>none
def oN (dps:List Nat):List Nat:=(List.range dps.length).filter fun j=>dps[j]? != some 0
section
variable {K:PySem.W.Frag} {p p1 p2 q:Bool} {J:Jd} {lk:List Nat} {ds ds0 ds1 ds2 ds' dps:List Nat} {Ox Ox' O O':AS} {H H' H1:Hp} {σ σ':St} {en en' en1 en2:En} {R R' R1:Nat→AS} {d d' d1 d2 dr:Nat} {t t1 t2:PyData} {Q:VK} {f f1 f2:ME} {i:Nat} {v:V} {D:Ends}
theorem qY:∀ {dps:List Nat} {en:En} {j:Nat} {u:PyData},(msk dps en)[j]?=some (some u)→∃ d,dps[j]?=some d∧d≠0∧en[j]?=some (some u)
 | [],en,j,u,h=>by unfold msk at h; simp at h
 | d :: ds,[],j,u,h=>by unfold msk at h; simp at h
 | d :: ds,o :: en,j,u,h=>by
  unfold msk at h
  cases j with
  | zero =>
   by_cases hd:d=0
   ·simp [hd] at h
   ·refine ⟨d,rfl,hd,?_⟩
    simpa [hd] using h
  | succ j =>
   have:=qY (dps:=ds) (en:=en) (j:=j) (u:=u) (by simpa using h)
   simpa using this
theorem qX:∀ {dps:List Nat} {en:En},dps.length≤en.length→(msk dps en).length=dps.length
 | [],en,_=>by unfold msk; rfl
 | d :: ds,[],h=>by simp at h
 | d :: ds,o :: en,h=>by
  unfold msk
  rw [List.length_cons,List.length_cons,qX (by simpa using h)]
theorem Cw {N:List Str} {vs:List V} {E:XK} {n:Nat} {b:MS} (hn:N.length - dps.length=n) (h:spF K dps dr (fnF n dps b) vs H Q E) :
  tFS K ⟨oN dps,dps++List.replicate n 0,dr,[]⟩ (dps++List.replicate n 0) (dps++List.replicate n 0) b { nx:=fun _ H'=>Q .non H',rt:=Q } (cA N vs) H:=by
 obtain ⟨Ox,ts,R,r,outs,e,hf,k⟩:=h
 have lv:dps.length=vs.length:=by have:=e.l2; rw [List.length_map] at this; exact this
 have lt:ts.length=vs.length:=by have:=e.l1; rw [List.length_map,List.length_map] at this; exact this
 have hs:cA N vs=vs.map some++List.replicate n none:=by unfold cA; rw [← lv,hn]
 unfold fnF at hf
 obtain ⟨fl,h1,hf⟩:=Option.bind_eq_some_iff.mp hf
 have get0:∀ {α:Type} (xs:List α) (i:Nat) (u:α),(xs.map some++List.replicate n none)[i]?=some (some u)→(xs.map some)[i]?=some (some u)∧i < xs.length:=fun xs i u z=>by
  by_cases hi:i < xs.length
  ·rw [List.getElem?_append_left (by rw [List.length_map]; exact hi)] at z
   exact ⟨z,hi⟩
  ·rw [List.getElem?_append_right (by rw [List.length_map]; omega),List.getElem?_replicate] at z
   split at z
   ·cases z
   ·cases z
 have e0:EnvOk K (dps++List.replicate n 0) Ox H (cA N vs) (ts.map some++List.replicate n none) R:=by
  rw [hs]
  refine ⟨fun i u hu=>?_,e.dj,e.dx,e.dom,by simp [lt],by simp [lv]⟩
  obtain ⟨hu',hi⟩:=get0 ts i u hu
  obtain ⟨v,d,g1,g2,g3⟩:=e.at_ i u hu'
  refine ⟨v,d,?_,?_,g3⟩
  ·rw [List.getElem?_append_left (by rw [List.length_map]; omega)]; exact g1
  ·rw [List.getElem?_append_left (by omega)]; exact g2
 have back:∀ {σ' en' H' R' F},PostS K (oN dps) (dps++List.replicate n 0) Ox (cA N vs) H R σ' en' H' R' F→Post K false dps Ox (vs.map some) H (ts.map some) R (msk dps en') H' R' F:=fun {σ' en' H' R' F} P=>by
  have l1:=P.env.l1
  have l2:=P.env.l2
  rw [List.length_append,List.length_replicate] at l2
  refine ⟨⟨fun j u hu=>?_,P.env.dj,P.env.dx,P.env.dom,by rw [qX (by omega),List.length_map]; exact lv,by rw [List.length_map]; exact lv⟩,P.fx,P.keep,P.own,P.dom,fun z=>nomatch z⟩
  obtain ⟨d,a1,a2,a3⟩:=qY hu
  obtain ⟨v,d',g1,g2,g3⟩:=P.env.at_ j u a3
  have hj:j < dps.length:=(List.getElem?_eq_some_iff.mp a1).1
  have hlk:j∈oN dps:=by
   unfold oN
   rw [List.mem_filter,List.mem_range]
   refine ⟨hj,?_⟩
   rw [a1]
   simpa using a2
  rw [P.lk j hlk,hs,List.getElem?_append_left (by rw [List.length_map]; omega)] at g1
  rw [List.getElem?_append_left hj] at g2
  exact ⟨v,d',g1,g2,g3⟩
 refine ⟨Ox,_,R,fl,e0,h1,?_⟩
 cases fl with
 | nx en2 =>
  cases hf
  exact fun σ2 H2 R2 P2=>k .non H2 R2 NoA (back P2) rfl
 | ct en2=>cases hf
 | rt t en2 =>
  cases hf
  exact fun v σ2 H2 R2 F P2 o=>k v H2 R2 F (back P2) o
theorem Post.slot {F G F':AS} {l:Addr} {o2:HO} (P:Post K p ds1 Ox σ H en R en1 H1 R1 F) (hl:R1 i l) (hi:i < en1.length) (hv:σ[i]?=some (some v)) (hd:ds1[i]?=some d)
  (hg:∀ a,G a→R1 i a∨F a) (hf:∀ a,F' a→R1 i a∨F a) (hx:∀ a,G a→¬ F' a)
  (ho:Ow K (Own (fun j=>if j=i then G else R1 j) (U F' Ox)) (upd H1 l o2) t d v G) :
  Post K false ds1 Ox σ H en R (en1.set i (some t)) (upd H1 l o2) (fun j=>if j=i then G else R1 j) F':=by
 have rc:∀ (j:Nat) a,(if j=i then G else R1 j) a→R1 j a∨(j=i∧F a):=fun j a z=>by
  by_cases hj:j=i
  ·rw [if_pos hj] at z
   rcases hg a z with z | z
   ·exact .inl (hj ▸ z)
   ·exact .inr ⟨hj,z⟩
  ·rw [if_neg hj] at z; exact .inl z
 have sub:∀ a,Own (fun j=>if j=i then G else R1 j) (U F' Ox) a→Own R1 (U F Ox) a:=fun a z=>by
  rcases z with ⟨j,z⟩ | z | z
  ·rcases rc j a z with z | ⟨_,z⟩
   ·exact .inl ⟨j,z⟩
   ·exact .inr (.inl z)
  ·rcases hf a z with z | z
   ·exact .inl ⟨i,z⟩
   ·exact .inr (.inl z)
  ·exact .inr (.inr z)
 have dom2:∀ a o,H1 a=some o→∃ o',upd H1 l o2 a=some o':=fun a o q=>by
  by_cases ha:a=l
  ·subst ha; exact ⟨_,aW⟩
  ·exact ⟨o,by rw [aP ha]; exact q⟩
 have nl:∀ a o,H1 a=some o→a≠l→upd H1 l o2 a=some o:=fun a o q n=>by rw [aP n]; exact q
 refine ⟨⟨fun j u hu=>?_,fun j j' a z z'=>?_,fun j a z z2=>?_,fun a z=>?_,by rw [List.length_set]; exact P.env.l1,P.env.l2⟩,fun a z z2=>?_,fun a o q n=>?_,fun a z=>?_,fun a o q=>?_,fun z=>nomatch z⟩
 ·by_cases hj:j=i
  ·subst hj
   rw [List.getElem?_set_self hi] at hu
   cases hu
   refine ⟨v,d,hv,hd,?_⟩
   rw [if_pos rfl]
   exact ho
  ·rw [List.getElem?_set_ne (Ne.symm hj)] at hu
   obtain ⟨v',d',g1,g2,g3⟩:=P.env.at_ j u hu
   refine ⟨v',d',g1,g2,?_⟩
   rw [if_neg hj]
   refine Ow.mv (G:=R1 j) ⟨fun a o q z=>nl a o q fun za=>?_,fun a z=>.inl (sub a z)⟩ u (fun _ z=>z) g3
   subst za
   rcases z with z | z
   ·exact z (.inl ⟨i,hl⟩)
   ·exact hj (P.env.dj j i a z hl)
 ·have z0:=z
  have z0':=z'
  by_cases hj:j=i <;> by_cases hj':j'=i
  ·rw [hj,hj']
  ·rw [if_pos hj] at z0; rw [if_neg hj'] at z0'
   rcases hg a z0 with z1 | z1
   ·exact absurd (P.env.dj i j' a z1 z0') (fun e=>hj' e.symm)
   ·exact absurd (.inl z1) (P.env.dx j' a z0')
  ·rw [if_neg hj] at z0; rw [if_pos hj'] at z0'
   rcases hg a z0' with z1 | z1
   ·exact absurd (P.env.dj j i a z0 z1) hj
   ·exact absurd (.inl z1) (P.env.dx j a z0)
  ·rw [if_neg hj] at z0; rw [if_neg hj'] at z0'
   exact P.env.dj j j' a z0 z0'
 ·have z0:=z
  by_cases hj:j=i
  ·rw [if_pos hj] at z0
   rcases z2 with z2 | z2
   ·exact hx a z0 z2
   ·rcases hg a z0 with z1 | z1
    ·exact P.env.dx i a z1 (.inr z2)
    ·exact P.fx a z1 z2
  ·rw [if_neg hj] at z0
   rcases z2 with z2 | z2
   ·rcases hf a z2 with z1 | z1
    ·exact hj (P.env.dj j i a z0 z1)
    ·exact P.env.dx j a z0 (.inl z1)
   ·exact P.env.dx j a z0 (.inr z2)
 ·obtain ⟨o,q⟩:=P.env.dom a (sub a z)
  exact dom2 a o q
 ·rcases hf a z with z1 | z1
  ·exact P.env.dx i a z1 (.inr z2)
  ·exact P.fx a z1 z2
 ·refine nl a o (P.keep a o q n) fun za=>?_
  subst za
  rcases P.own a (.inr ⟨i,hl⟩) with ⟨j,z⟩ | z
  ·exact n j z
  ·rw [q] at z; cases z
 ·have:F a∨∃ j,R1 j a:=by
   rcases z with z | ⟨j,z⟩
   ·rcases hf a z with z | z
    ·exact .inr ⟨i,z⟩
    ·exact .inl z
   ·rcases rc j a z with z | ⟨_,z⟩
    ·exact .inr ⟨j,z⟩
    ·exact .inl z
  exact P.own a this
 ·obtain ⟨o',q'⟩:=P.dom a o q
  exact dom2 a o' q'
theorem kg {G F' F:AS} (hg:∀ a,G a→R1 i a∨F a) (hf:∀ a,F' a→R1 i a∨F a):∀ a,Own (fun j=>if j=i then G else R1 j) (U F' Ox) a→Own R1 (U F Ox) a:=fun a z=>by
 rcases z with ⟨j,z⟩ | z | z
 ·by_cases hj:j=i
  ·rw [if_pos hj] at z
   rcases hg a z with z | z
   ·exact .inl ⟨i,z⟩
   ·exact .inr (.inl z)
  ·rw [if_neg hj] at z; exact .inl ⟨j,z⟩
 ·rcases hf a z with z | z
  ·exact .inl ⟨i,z⟩
  ·exact .inr (.inl z)
 ·exact .inr (.inr z)
theorem bn {α:Type} {en:List (Option α)} {i:Nat} {t:α} (h:(en[i]?).join=some t):en[i]?=some (some t):=by
 cases q:en[i]? with
 | none=>rw [q] at h; cases h
 | some o=>rw [q] at h; exact congrArg some h
theorem Ow.sqL {ts:List PyData} {F:AS} (h:Ow K O H (.list ts) d v F):∃ a vs,v=.ref a∧SqL K H a vs:=by
 obtain ⟨a,vs,e,⟨_,h1,_⟩ | ⟨_,h1,_⟩⟩:=h
 ·exact ⟨a,vs,e,h1.sq⟩
 ·exact ⟨a,vs,e,SqL.of h1⟩
theorem Ow.ownL {ts:List PyData} {F:AS} (hd:d≠0) (h:Ow K O H (.list ts) d v F):∃ a vs,v=.ref a∧H a=some (.lst vs)∧F a∧∃ F':AS,(∀ b,F' b→F b∧b≠a)∧Ows K O H ts (dn d) vs F':=by
 obtain ⟨a,vs,e,⟨h0,_⟩ | ⟨_,h1,h2,h3⟩⟩:=h
 ·exact absurd h0 hd
 ·exact ⟨a,vs,e,h1,h2,h3⟩
theorem Ows.past {ts:List PyData} {vs:List V} {F:AS} {l:Addr} {o:HO} (ho:∀ a,O' a→O a) (hl:O l) (hf:∀ b,F b→b≠l) (h:Ows K O H ts d vs F):Ows K O' (upd H l o) ts d vs F :=
 Ows.mv (G:=F) ⟨fun a u q z=>by
  rw [aP]
  ·exact q
  ·intro za
   subst za
   rcases z with z | z
   ·exact z hl
   ·exact hf a z rfl,fun a z=>.inl (ho a z)⟩ ts (fun _ z=>z) h
theorem Ow.past {F:AS} {l:Addr} {o:HO} (ho:∀ a,O' a→O a) (hl:O l) (hf:∀ b,F b→b≠l) (h:Ow K O H t d v F):Ow K O' (upd H l o) t d v F :=
 Ow.mv (G:=F) ⟨fun a u q z=>by
  rw [aP]
  ·exact q
  ·intro za
   subst za
   rcases z with z | z
   ·exact z hl
   ·exact hf a z rfl,fun a z=>.inl (ho a z)⟩ t (fun _ z=>z) h
def dm (i:Nat) (f:ME):ME:=fun en=>match (en[i]?).join with
 | some (.list _)=>(f en).bind fun r=>match (r.2[i]?).join with
  | some (.list ts)=>if ts.length < sizeLine then some (.none,r.2.set i (some (.list (ts++[r.1])))) else none
  | _=>none
 | _=>none
theorem HZ {c:Nat} (hd:ds1[i]?=some d) (hz:d≠0) (hc:dn d=c) (h:tF K false ds ds1 3 (dm i f) σ H Q):tBM K "list" qL (gC i) (i3 (tF K p ds ds1 c f) oh) σ H Q:=by
 obtain ⟨Ox,en,R,t,en',e,hf,k⟩:=h
 unfold dm at hf
 split at hf
 case h_2=>cases hf
 next ts0 h0 =>
 obtain ⟨⟨t1,en1⟩,h1,hf⟩:=Option.bind_eq_some_iff.mp hf
 dsimp only at hf
 split at hf
 case h_2=>cases hf
 next ts h2 =>
 by_cases hlen:ts.length < sizeLine
 case neg=>rw [if_neg hlen] at hf; cases hf
 rw [if_pos hlen] at hf
 cases hf
 obtain ⟨v,d0,a1,_,a3⟩:=e.at_ i _ (bn h0)
 obtain ⟨l0,vs0,e0,sq⟩:=a3.sqL
 refine ⟨v,a1,?_,Ox,en,R,t1,en1,e,h1,fun x H1 R1 F P o=>?_⟩
 ·rw [e0]; exact .inl ⟨rfl,vs0,sq⟩
 obtain ⟨v',d',b1,b2,b3⟩:=P.env.at_ i _ (bn h2)
 rw [a1] at b1
 cases b1
 rw [hd] at b2
 cases b2
 obtain ⟨l,vs,el,hl,hr,F',hf',ow⟩:=b3.ownL hz
 refine ⟨l,vs,x,el,rfl,hl,by rw [ow.len]; exact hlen,?_⟩
 have hi:i < en1.length:=(List.getElem?_eq_some_iff.mp (bn h2)).1
 have Fn:∀ a,F a→a≠l:=fun a z z2=>by
  subst z2
  exact P.env.dx i a hr (.inl z)
 have sub:=kg (i:=i) (R1:=R1) (Ox:=Ox) (G:=fun a=>R1 i a∨F a) (F':=NoA) (F:=F) (fun _ z=>z) (fun _ z=>z.elim)
 have Ol:Own R1 (U F Ox) l:=.inl ⟨i,hr⟩
 refine k .non (upd H1 l (.lst (vs++[x]))) _ NoA (P.slot (G:=fun a=>R1 i a∨F a) hr hi a1 hd (fun _ z=>z) (fun _ z=>z.elim) (fun _ _ z=>z) ?_) rfl
 refine ⟨l,vs++[x],el,.inr ⟨hz,aW,.inl hr,U F' F,fun b z=>?_,?_⟩⟩
 ·rcases z with z | z
  ·exact ⟨.inl (hf' b z).1,(hf' b z).2⟩
  ·exact ⟨.inr z,Fn b z⟩
 ·refine Ows.snoc (Ows.past sub Ol (fun b z=>(hf' b z).2) ow) ?_ fun b z1 z2=>P.env.dx i b (hf' b z1).1 (.inl z2)
  rw [hc]
  exact Ow.past sub Ol Fn o
theorem Ows.out:∀ {ts:List PyData} {vs:List V} {F:AS} {k:Nat} {t:PyData},Ows K O H ts d vs F→ts[k]?=some t →
  ∃ v,∃ F1 F2:AS,vs[k]?=some v∧(∀ b,F1 b→F b)∧(∀ b,F2 b→F b)∧(∀ b,F1 b→¬ F2 b)∧Ow K O H t d v F1∧Ows K O H (ts.eraseIdx k) d (vs.eraseIdx k) F2
 | [],_,_,k,t,_,h=>by simp at h
 | u :: ts,_,F,k,t,h,hk=>by
  obtain ⟨v,r,F1,F2,e,s1,s2,s3,h4,h5⟩:=h
  subst e
  cases k with
  | zero =>
   have:u=t:=by simpa using hk
   subst this
   exact ⟨v,F1,F2,rfl,s1,s2,s3,h4,h5⟩
  | succ k =>
   obtain ⟨w,G1,G2,g1,g2,g3,g4,g5,g6⟩:=Ows.out (k:=k) h5 (by simpa using hk)
   refine ⟨w,G1,U F1 G2,by simpa using g1,fun b z=>s2 b (g2 b z),fun b z=>z.elim (s1 b) fun z=>s2 b (g3 b z),fun b z z2=>?_,g5,v,r.eraseIdx k,F1,G2,rfl,fun b=>.inl,fun b=>.inr,fun b z1 z2=>s3 b z1 (g3 b z2),h4,g6⟩
   rcases z2 with z2 | z2
   ·exact s3 b z2 (g2 b z)
   ·exact g4 b z z2
def uH (i:Nat) (f:ME):ME:=fun en=>match (en[i]?).join with
 | some (.list _)=>(f en).bind fun r=>match r.1,(r.2[i]?).join with
  | .int n,some (.list ts)=>if -(2 ^ 63)≤n∧n < 2 ^ 63 then (seqIndex? n ts.length).bind fun k=>(ts[k]?).map fun t=>(t,r.2.set i (some (.list (ts.eraseIdx k)))) else none
  | _,_=>none
 | _=>none
theorem Ows.rev:∀ {ts:List PyData} {vs:List V} {F:AS},Ows K O H ts d vs F→Ows K O H ts.reverse d vs.reverse F
 | [],_,_,h=>by rw [show _=[] from h]; rfl
 | t :: ts,_,F,h=>by
  obtain ⟨v,r,F1,F2,e,s1,s2,s3,h4,h5⟩:=h
  subst e
  rw [List.reverse_cons,List.reverse_cons]
  exact Ows.grow (fun _ z=>z) _ (fun b z=>z.elim (s2 b) (s1 b)) (Ows.snoc h5.rev h4 fun b z1 z2=>s3 b z2 z1)
theorem Ows.setAt:∀ {ts:List PyData} {vs:List V} {F F2:AS} {k:Nat} {t:PyData} {v:V},Ows K O H ts d vs F→Ow K O H t d v F2→(∀ b,F b→¬ F2 b)→Ows K O H (ts.set k t) d (vs.set k v) (U F F2)
 | [],_,_,_,_,_,_,h,_,_=>by rw [show _=[] from h]; rfl
 | u :: ts,_,F,F2,k,t,v,h,h2,hd=>by
  obtain ⟨w,r,G1,G2,e,s1,s2,s3,h4,h5⟩:=h
  subst e
  cases k with
  | zero=>exact ⟨v,r,F2,G2,rfl,fun _ z=>.inr z,fun b z=>.inl (s2 b z),fun b z z2=>hd b (s2 b z2) z,h2,h5⟩
  | succ k =>
   refine ⟨w,r.set k v,G1,U G2 F2,rfl,fun b z=>.inl (s1 b z),fun b z=>z.imp (s2 b) id,fun b z z2=>?_,h4,Ows.setAt h5 h2 fun b z=>hd b (s2 b z)⟩
   rcases z2 with z2 | z2
   ·exact s3 b z z2
   ·exact hd b (s1 b z) z2
def eI (i:Nat) (fk fe:ME):MS:=fun en=>(fe en).bind fun r=>match (r.2[i]?).join with
 | some _=>(fk r.2).bind fun q=>match q.1,(q.2[i]?).join with
  | .int n,some (.list ts)=>(ixN ts.length n).map fun k=>.nx (q.2.set i (some (.list (ts.set k r.1))))
  | _,_=>none
 | none=>none
theorem Ci {c:Nat} {fk fe:ME} (hd:ds2[i]?=some d) (hz:d≠0) (hc:dn d=c) (h:tFS K J ds ds2 (eI i fk fe) D σ H) :
  om (tF K p1 ds ds1 c fe) (F8 (gC i) (tF K p2 ds1 ds2 d2 fk) A3) D σ H:=by
 obtain ⟨Ox,en,R,fl,e,hf,k⟩:=h
 unfold eI at hf
 obtain ⟨⟨t1,en1⟩,h1,hf⟩:=Option.bind_eq_some_iff.mp hf
 dsimp only at hf
 split at hf
 case h_2=>cases hf
 next tt h0 =>
 obtain ⟨⟨t2,en2⟩,h2,hf⟩:=Option.bind_eq_some_iff.mp hf
 dsimp only at hf
 split at hf
 case h_2=>cases hf
 next n ts h3 =>
 obtain ⟨kk,h4,hf⟩:=Option.map_eq_some_iff.mp hf
 cases hf
 refine ⟨Ox,en,R,t1,en1,e,h1,fun x H1 R1 F1 P1 o1=>?_⟩
 obtain ⟨v0,d0,a1,_,_⟩:=P1.env.at_ i tt (bn h0)
 refine ⟨v0,a1,?_⟩
 refine ⟨U F1 Ox,en1,R1,.int n,en2,P1.env,h2,fun y H2 R2 F2 P2 o2=>?_⟩
 have P:=P1.trans P2
 have o1':=Ow.over P1.env P2 o1
 obtain ⟨v',d',b1,b2,b3⟩:=P.env.at_ i _ (bn h3)
 rw [a1] at b1
 cases b1
 rw [hd] at b2
 cases b2
 obtain ⟨l,vs,el,hl,hr,F',hf',ow⟩:=b3.ownL hz
 refine ⟨l,vs,n,kk,el,o2,hl,by rw [ow.len]; exact h4,?_⟩
 have hi:i < en2.length:=(List.getElem?_eq_some_iff.mp (bn h3)).1
 have Fn:∀ a,F1 a→a≠l:=fun a z z2=>by
  subst z2
  exact P.env.dx i a hr (.inl (.inl z))
 have gG:∀ a,(fun a=>R2 i a∨F1 a) a→R2 i a∨U F1 F2 a:=fun a z=>z.imp id .inl
 have sub:=kg (i:=i) (R1:=R2) (Ox:=Ox) (G:=fun a=>R2 i a∨F1 a) (F':=NoA) (F:=U F1 F2) gG (fun _ z=>z.elim)
 have Ol:Own R2 (U (U F1 F2) Ox) l:=.inl ⟨i,hr⟩
 have PS:=P.slot (G:=fun a=>R2 i a∨F1 a) (F':=NoA) (o2:=.lst (vs.set kk x)) (t:=.list (ts.set kk t1)) hr hi a1 hd gG (fun _ z=>z.elim) (fun _ _ z=>z) ?_
 ·exact k σ _ _ PS.s
 refine ⟨l,vs.set kk x,el,.inr ⟨hz,aW,.inl hr,U F' F1,fun b z=>?_,?_⟩⟩
 ·rcases z with z | z
  ·exact ⟨.inl (hf' b z).1,(hf' b z).2⟩
  ·exact ⟨.inr z,Fn b z⟩
 ·refine Ows.setAt (Ows.past sub Ol (fun b z=>(hf' b z).2) ow) ?_ fun b z1 z2=>P.env.dx i b (hf' b z1).1 (.inl (.inl z2))
  rw [hc]
  exact Ow.past sub Ol Fn o1'
theorem Ows.get:∀ {ts:List PyData} {vs:List V} {F:AS} {k:Nat} {t:PyData},Ows K O H ts d vs F→ts[k]?=some t→∃ v,vs[k]?=some v∧Ow K O H t d v F
 | [],_,_,k,t,_,h=>by simp at h
 | u :: ts,_,F,k,t,h,hk=>by
  obtain ⟨v,r,F1,F2,e,s1,s2,s3,h4,h5⟩:=h
  subst e
  cases k with
  | zero =>
   have:u=t:=by simpa using hk
   subst this
   exact ⟨v,rfl,Ow.grow (fun _ z=>z) u s1 h4⟩
  | succ k =>
   obtain ⟨w,g1,g2⟩:=Ows.get (k:=k) h5 (by simpa using hk)
   exact ⟨w,by simpa using g1,Ow.grow (fun _ z=>z) t s2 g2⟩
theorem Ows.atI {ts:List PyData} {vs:List V} {F:AS} {n:Int} {t:PyData} (h:Ows K O H ts d vs F) (ht:L2.atI ts n=some t):∃ v,L2.atI vs n=some v∧Ow K O H t d v F:=by
 unfold L2.atI at ht ⊢
 rw [h.len]
 obtain ⟨k,h1,h2⟩:=Option.bind_eq_some_iff.mp ht
 obtain ⟨v,g1,g2⟩:=h.get h2
 exact ⟨v,by rw [h1]; exact g1,g2⟩
def cE (i:Nat) (f:ME):ME:=fun en=>(en[i]?).join.bind fun _=>(f en).bind fun r=>match r.1,(r.2[i]?).join with
 | .int n,some (.list ts)=>(atI ts n).map fun t=>(t,r.2)
 | _,_=>none
theorem HV (hd:ds1[i]?=some 1) (h:tF K p ds ds1 0 (cE i f) σ H Q):tOp (rN K) (gC i) (tF K p ds ds1 d1 f) σ H Q:=by
 obtain ⟨Ox,en,R,t,en',e,hf,k⟩:=h
 unfold cE at hf
 obtain ⟨t0,h0,hf⟩:=Option.bind_eq_some_iff.mp hf
 obtain ⟨⟨t1,en1⟩,h1,hf⟩:=Option.bind_eq_some_iff.mp hf
 dsimp only at hf
 split at hf
 case h_2=>cases hf
 next n ts h2 =>
 obtain ⟨t',h3,hf⟩:=Option.map_eq_some_iff.mp hf
 cases hf
 obtain ⟨v,d0,a1,_,a3⟩:=e.at_ i _ (bn h0)
 refine ⟨v,a1,Ox,en,R,.int n,_,e,h1,fun x H1 R1 F P o=>?_⟩
 obtain ⟨v',d',b1,b2,b3⟩:=P.env.at_ i _ (bn h2)
 rw [a1] at b1
 cases b1
 rw [hd] at b2
 cases b2
 obtain ⟨l,vs,el,hl,hr,F',hf',ow⟩:=b3.ownL (by decide)
 obtain ⟨w,g1,g2⟩:=ow.atI h3
 refine ⟨l,vs,n,w,el,o,SqL.of hl,g1,k w H1 R1 NoA (P.less fun _ z=>z.elim) ?_⟩
 exact Ow.any0 _ (Ow.grow (fun a z=>z.imp id fun z=>z.elim (fun z=>False.elim z) Or.inr) _ (fun _ z=>z) g2)
end
end L2
namespace L2
open PySem PySem.Spec PyProof.Rows
theorem PE.imp {X:Cx} {e:Expr} {t t':TE} (h:PE X e t) (hi:∀ σ H Q,t' σ H Q→t σ H Q):PE X e t':=fun pins s σ H Q I hw=>h pins s σ H Q I (hi _ _ _ hw)
theorem PT.imp {X:Cx} {e:Expr} {t t':TT} (h:PT X e t) (hi:∀ σ H Q,t' σ H Q→t σ H Q):PT X e t':=fun pins s σ H Q I hw=>h pins s σ H Q I (hi _ _ _ hw)
theorem PW.imp {X:Cx} {e:Expr} {t t':TT} (h:PW X e t) (hi:∀ σ H Q,t' σ H Q→t σ H Q):PW X e t':=fun wh pins s σ H Q I hw=>h wh pins s σ H Q I (hi _ _ _ hw)
theorem PA.imp {X:Cx} {e:List Expr} {t t':TA} (h:PA X e t) (hi:∀ σ H Q,t' σ H Q→t σ H Q):PA X e t':=fun pos pins s σ H Q I hw=>h pos pins s σ H Q I (hi _ _ _ hw)
theorem PS.imp {X:Cx} {e:Stmt} {t t':TS} (h:PS X e t) (hi:∀ D σ H,t' D σ H→t D σ H):PS X e t':=fun pins s σ H D I hw=>h pins s σ H D I (hi _ _ _ hw)
theorem PSs.imp {X:Cx} {e:List Stmt} {t t':TS} (h:PSs X e t) (hi:∀ D σ H,t' D σ H→t D σ H):PSs X e t':=fun pins s σ H D I hw=>h pins s σ H D I (hi _ _ _ hw)
theorem PG.imp {X:Cx} {e:Expr} {t t':TG} (h:PG X e t) (hi:∀ v σ H Q,t' v σ H Q→t v σ H Q):PG X e t':=fun pins s σ H v u Q I r hw=>h pins s σ H v u Q I r (hi _ _ _ _ hw)
theorem PI.imp {X:Cx} {tg e:Expr} {t t':TI} (h:PI X tg e t) (hi:∀ σ H R,t' σ H R→t σ H R):PI X tg e t':=fun pins s σ H R I hw=>h pins s σ H R I (hi _ _ _ hw)
theorem PTs.imp {X:Cx} {e:List Expr} {t t':TT} (h:PTs X e t) (hi:∀ σ H Q,t' σ H Q→t σ H Q):PTs X e t':=fun pins s σ H Q I hw=>h pins s σ H Q I (hi _ _ _ hw)
def aN:Expr→Bool
 | .Starred _ _=>false
 | _=>true
theorem bv {e:Expr} {es:List Expr} {env:Env} (h:aN e=true):starEach (e :: es) env=(false,eval e env) :: starEach es env:=by
 cases e <;> first | rfl | cases h
theorem db {pos:Pos} {env:Env}:∀ {es:List Expr},es.all aN=true→(backTo pos (starEach es env)).any (·.1)=false
 | [],_=>rfl
 | e :: es,h=>by
  rw [List.all_cons,Bool.and_eq_true] at h
  rw [bv h.1]
  show (false || (backTo pos (starEach es env)).any (·.1))=false
  rw [db h.2]
  rfl
section
variable {X:Cx} {K:PySem.W.Frag} {p p1 p2 q:Bool} {ds ds0 ds1 ds2 ds' dsi:List Nat} {d d' d1 d2:Nat} {a b c e:Expr} {es:List Expr} {f f1 f2:ME} {m c1 c2:MT} {fa:MA} {sh:Sh} {pos:Pos} {i:Nat} {x:Str}
theorem Go {x:Str} (hN:X.N[i]?=some x) (hv:Vis X.env.scope x) (h0:ds[i]?=some 0) (hd:(x == ("__debug__" : Str))=false) (hcd:(x == ("__classdict__" : Str))=false):PE X (.Name x pos) (tF K p ds ds 0 (af i)) :=
 (dJ hN hv hd hcd).imp fun _ _ _ h=>HP h0 (jg (fun _=>rfl) h)
theorem HI {x:Str} (hN:X.N[i]?=some x) (hv:Vis X.env.scope x) (h0:ds[i]?=some d) (hds:ds.set i 0=ds') (hd:(x == ("__debug__" : Str))=false) (hcd:(x == ("__classdict__" : Str))=false):PE X (.Name x pos) (tF K false ds ds' d (eMv i)):=by
 subst hds
 exact (dJ hN hv hd hcd).imp fun _ _ _=>Iv h0
theorem GA {n:Int} {j}:PE X (.Constant (.int n) j pos) (tF K p ds ds 3 (eC (.int n))):=pe_int.imp fun _ _ _ h=>f_c (t:=.int n) (fun _ _ _ _=>rfl) (jg (fun _=>rfl) h)
theorem HN {n:Bool} {j}:PE X (.Constant (.bool n) j pos) (tF K p ds ds 3 (eC (.bool n))):=pe_bl.imp fun _ _ _ h=>f_c (t:=.bool n) (fun _ _ _ _=>rfl) (jg (fun _=>rfl) h)
theorem Gs {j}:PE X (.Constant .none j pos) (tF K p ds ds 3 (eC .none)):=pe_non.imp fun _ _ _ h=>f_c (t:=.none) (fun _ _ _ _=>rfl) (jg (fun _=>rfl) h)
theorem Gr {n:Str} {j}:PE X (.Constant (.str n) j pos) (tF K p ds ds 3 (eC (.str n))):=pe_str.imp fun _ _ _ h=>f_c (t:=.str n) (fun _ _ _ _=>rfl) (jg (fun _=>rfl) h)
theorem vY {x:Str} {n:Int} {t:Tok} (hg:Gl X x) (hm:X.mg x=some (.int n t)) (hd:(x == ("__debug__" : Str))=false):PE X (.Name x pos) (tF K p ds ds 3 (eC (.int n))) :=
 (qO (v:=.int n) hg hm ⟨t,rfl⟩ hd).imp fun _ _ _ h=>f_c (t:=.int n) (fun _ _ _ _=>rfl) (jg (fun _=>rfl) h)
theorem Gq (h:PE X e (tF K p ds ds' d f)) (hd:d'≤d):PE X e (tF K p ds ds' d' f):=h.imp fun _ _ _=>HR hd
theorem HL (h:PE X e (tF K p ds0 ds' d f)) (hd:leD ds0 ds=true):PE X e (tF K false ds ds' d f):=h.imp fun _ _ _=>Iw hd
theorem GE (h:PE X e (tF K true ds0 ds0 3 f)) (hd:leD ds0 ds=true):PE X e (tF K p ds ds 3 f):=h.imp fun _ _ _ h=>HY hd (jg (fun _=>rfl) h)
theorem HH {op:Operator} {g:D→D→Option D} (ho:OpR X (binaryOp op) (rF2 K g d)) (ha:PE X a (tF K p ds ds1 d1 f1)) (hb:PE X b (tF K p ds1 ds2 d2 f2)):PE X (.BinOp a op b pos) (tF K p ds ds2 d (e2 g f1 f2)) :=
 (Hk ho ha hb).imp fun _ _ _ h=>me (by rw [Bool.and_self]; exact h)
theorem HG {op:UnaryOp} {g:D→Option D} (ho:UnR X (unaryOp op) (rF1 K g d)) (ha:PE X a (tF K p ds ds1 d1 f1)):PE X (.UnaryOp op a pos) (tF K p ds ds1 d (e1 g f1)) :=
 (Hj ho ha).imp fun _ _ _=>HS
theorem GD {op:CmpOp} {g:D→D→Option D} (ho:OpR X (compareOp op) (rF2 K g d)) (ha:PE X a (tF K p ds ds1 d1 f1)) (hb:PE X b (tF K p ds1 ds2 d2 f2)) (hm:behindInMarks op b=false):PE X (.Compare a [op] [b] pos) (tF K p ds ds2 d (e2 g f1 f2)) :=
 (BO ho ha hb hm).imp fun _ _ _ h=>me (by rw [Bool.and_self]; exact h)
theorem Cd {op:CmpOp} {g:D→D→Option D} (ho:OpR X (compareOp op) (rF2 K g d)) (ha:PE X a (tF K p ds ds1 d1 f1)) (hb:PE X b (tF K p ds1 ds2 d2 f2)) (hm:behindInMarks op b=false):PT X (.Compare a [op] [b] pos) (tFT K p ds ds2 (tV (e2 g f1 f2))) :=
 (BG ho ha hb hm).imp fun σ H Q h=>by
  obtain ⟨Ox,en,R,t,en',e,hf,k⟩:=pc (d:=d) h
  exact me (by rw [Bool.and_self]; exact ⟨Ox,en,R,t,en',e,hf,k⟩)
theorem Ca (h:PE X e (tF K p ds ds' d f)) (he:∀ whole,isTrue e X.env whole=(do let v ← whole; standAt e.pos; holding [v] (truthy v))):PT X e (tFT K p ds ds' (tV f)):=(Fi h he).imp fun _ _ _=>pc
theorem B7 (ha:PT X a (tFT K p ds ds1 c1)):PW X (.BoolOp .And [a] pos) (tFT K p ds ds1 c1):=BE ha
theorem F9 (ha:PT X a (tFT K p ds ds1 c1)):PW X (.BoolOp .Or [a] pos) (tFT K p ds ds1 c1):=Fg ha
theorem Ga {rest:List Expr} (ha:PT X a (tFT K p ds ds1 c1)) (hb:PW X (.BoolOp .And (b :: rest) pos) (tFT K p ds1 ds1 c2)):PW X (.BoolOp .And (a :: b :: rest) pos) (tFT K p ds ds1 (cV c1 c2)):=(Fh ha hb).imp fun _ _ _ h=>Gd (by rw [Bool.and_self]; exact h)
theorem Hy {rest:List Expr} (ha:PT X a (tFT K p ds ds1 c1)) (hb:PW X (.BoolOp .Or (b :: rest) pos) (tFT K p ds1 ds1 c2)):PW X (.BoolOp .Or (a :: b :: rest) pos) (tFT K p ds ds1 (bOr c1 c2)):=(Hh ha hb).imp fun _ _ _ h=>Hz (by rw [Bool.and_self]; exact h)
theorem Cb (ha:PT X a (tFT K p ds ds1 c1)):PT X (.UnaryOp .Not a pos) (tFT K p ds ds1 (dI c1)):=(Fj ha).imp fun _ _ _=>Gb
theorem Ce (h:PT X e (tFT K true ds0 ds0 c1)) (hd:leD ds0 ds=true):PT X e (tFT K p ds ds c1):=h.imp fun _ _ _ ⟨Ox,en,R,t,en',e,hf,k⟩=>Gc hd ⟨Ox,en,R,t,en',e,hf,fun H' R' P=>k H' R' ⟨P.env,P.fx,P.keep,P.own,P.dom,fun _=>P.pure rfl⟩⟩
theorem CG:PA X [] (tFA K p ds ds [] aj):=pa_nil.imp fun _ _ _ ⟨Ox,en,R,t,en',e,hf,k⟩=>uA ⟨Ox,en,R,t,en',e,hf,fun vs H' R' F P=>k vs H' R' F ⟨P.env,P.fx,P.keep,P.own,P.dom,fun _=>P.pure rfl⟩⟩
theorem v3 (ha:PE X e (tF K p ds ds1 d f)) (hr:PA X es (tFA K p ds1 ds2 sh fa)) (hs:aN e=true):PA X (e :: es) (tFA K p ds ds2 (.inl d :: sh) (ae f fa)):=(b4 ha hr (bv hs)).imp fun _ _ _ h=>mU (by rw [Bool.and_self]; exact h)
theorem v1 {x:Str} (hN:X.N[i]?=some x) (hv:Vis X.env.scope x) (hr:PA X es (tFA K p ds ds2 sh fa)) (hd:(x == ("__debug__" : Str))=false) (hcd:(x == ("__classdict__" : Str))=false) :
  PA X (.Name x pos :: es) (tFA K p ds ds2 (.inr i :: sh) (bb i fa)):=(b4 (dJ hN hv hd hcd) hr (bv rfl)).imp fun _ _ _=>CF
theorem Gu {c:Nat} (h:PA X es (tFA K p ds ds1 sh fa)) (hs:b8 c sh=true) (hd:dn d=c) (hz:d≠0):PE X (.List es pos) (tF K p ds ds1 d (a9 fa)):=(Fv h).imp fun _ _ _=>HU hs hd hz
theorem Gp {c:Nat} {x1} (h:PA X es (tFA K p ds ds1 sh fa)) (hs:b8 c sh=true) (hd:dn d=c):PE X (.Tuple es x1 pos) (tF K p ds ds1 d (a7 fa)):=(Fu h).imp fun _ _ _=>HQ hs hd
theorem vZ {id:String} {x:Str} {px:Pos} {g:List D→Option D} (hc:CallR X (.builtin id) (rFn K g d)) (hg:Gl X x) (hm:X.mg x=none) (hv:bootBuiltins x=some (.builtin id)) (ha:PA X (e :: es) (tFA K p ds ds1 sh fa)) (hsh:b8 0 sh=true) (hn:x≠"__name__") (hdb:(x == ("__debug__" : Str))=false)
  (he:aN e=true) (hpl:es.all aN=true):PE X (.Call (.Name x px) (e :: es) [] pos) (tF K p ds ds1 d (eN g fa)) :=
 (i8 hc hg hm hv ha hn hdb (bv he) (db hpl)).imp fun _ _ _=>uB hsh
theorem uz {T:String} {x:Str} {px:Pos} {g:List D→Option D} (hc:CallR X (.type T) (rFn K g d)) (hg:Gl X x) (hm:X.mg x=none) (hv:bootBuiltins x=some (.type T)) (ha:PA X (e :: es) (tFA K p ds ds1 sh fa)) (hsh:b8 0 sh=true) (hn:x≠"__name__") (hdb:(x == ("__debug__" : Str))=false)
  (he:aN e=true) (hpl:es.all aN=true):PE X (.Call (.Name x px) (e :: es) [] pos) (tF K p ds ds1 d (eN g fa)) :=
 (tJ hc hg hm hv ha hn hdb (bv he) (db hpl)).imp fun _ _ _=>uB hsh
theorem HM {k:Nat} {x:Str} {ps:List Str} {px:Pos} {dps:List Nat} {dr:Nat} {F:List D→Option (D × En)} (G:Kn X.prog X.w X.K X.mg X.base k x ps (spF K dps dr F)) (hr:Room k X.A) (hg:Gl X x) (ha:PA X (e :: es) (tFA K p ds ds1 sh fa)) (hns:gF sh=true) (hcd:dD ds1 sh dps=true) (hdb:(x == ("__debug__" : Str))=false)
  (he:aN e=true) (hpl:es.all aN=true) :
  PE X (.Call (.Name x px) (e :: es) [] pos) (tF K p ds ds1 dr (ar F fa)):=(A7 G hr hg ha hdb (bv he) (db hpl)).imp fun _ _ _ h=>v5 hcd (by rw [hns,Bool.and_true]; exact h)
theorem GB {k:Nat} {x:Str} {ps:List Str} {px:Pos} {dps:List Nat} {dr:Nat} {F:List D→Option (D × En)} (G:Kn X.prog X.w X.K X.mg X.base k x ps (spF K dps dr F)) (hr:Room k X.A) (hg:Gl X x) (ha:PA X (e :: es) (tFA K false ds ds1 sh fa)) (hcd:dD ds1 sh dps=true) (hdb:(x == ("__debug__" : Str))=false)
  (he:aN e=true) (hpl:es.all aN=true) :
  PE X (.Call (.Name x px) (e :: es) [] pos) (tF K false ds ds1 dr (ar F fa)):=(A7 G hr hg ha hdb (bv he) (db hpl)).imp fun _ _ _ h=>v5 hcd h
theorem HK {g:D→D→Option D} (ho:IxR X (rF2 K g d)) (ha:PE X a (tF K p ds ds1 d1 f1)) (hb:PE X b (tF K p ds1 ds2 d2 f2)) (hs:fq b):PE X (.Subscript a b pos) (tF K p ds ds2 d (e2 g f1 f2)) :=
 (rP ho ha hb hs).imp fun _ _ _ h=>me (by rw [Bool.and_self]; exact h)
theorem Gw {x:Str} {px:Pos} (hK:X.K=K) (hN:X.N[i]?=some x) (hv:Vis X.env.scope x) (h1:ds1[i]?=some 1) (hb:PE X b (tF K p ds ds1 d1 f)) (hs:fq b) (hd:(x == ("__debug__" : Str))=false) (hcd:(x == ("__classdict__" : Str))=false) :
  PE X (.Subscript (.Name x px) b pos) (tF K p ds ds1 0 (cE i f)):=(rP (Is hK) (dJ hN hv hd hcd) hb hs).imp fun _ _ _=>HV h1
theorem GF {c:Nat} {x:Str} {px apos cpos:Pos} (hK:X.K=K) (hN:X.N[i]?=some x) (hv:Vis X.env.scope x) (h1:ds1[i]?=some d) (he:PE X e (tF K false ds ds1 c f)) (hz:d≠0) (hc:dn d=c)
  (hd:(x == ("__debug__" : Str))=false) (hcd:(x == ("__classdict__" : Str))=false)
  (hbase:attributeBase (.Name x px) "append" X.env (eval (.Name x px) X.env)=eval (.Name x px) X.env)
  (hfew:((backTo cpos (starEach [e] X.env)).all (fun x=>!x.1) && (backToKw cpos (keywordEach [] X.env)).all (fun x=>x.1.isSome) && decide (([e]:List Expr).length+([]:List Keyword).length+(if ([]:List Keyword).isEmpty then 0 else 1) < 30))=true)
  (hline:(apos.endLine == cpos.line)=true) (hs:starEach [e] X.env=[(false,eval e X.env)]) (hplain:(backTo cpos (starEach [] X.env)).any (·.1)=false) :
  PE X (.Call (.Attribute (.Name x px) "append" apos) [e] [] cpos) (tF K false ds ds1 3 (dm i f)):=by
 subst hK
 exact (rQ PySem.F.plainAttrs_list PySem.F.slot_list_append PySem.F.type_list_append nj (dJ hN hv hd hcd) (b4 he pa_nil hs) hbase hfew hline hs hplain).imp fun _ _ _=>HZ h1 hz hc
def cY:MT:=fun en=>some (true,en)
theorem B9:PTs X [] (tFT K p ds ds cY):=pts_nil.imp fun σ H Q ⟨Ox,en,R,b,en',e,hf,k⟩=>by
 cases hf
 exact k H R (Post.refl e)
theorem B8 (hc:PT X c (tFT K p ds ds1 c1)):PTs X [c] (tFT K p ds ds1 c1):=BF hc
theorem HJ {elt tg iter:Expr} {ifs:List Expr} {scope:Scope} {ns:List Str} {js:List (Option Nat)} {fi:MI} {g:MG} {lk:List Nat} {cd:Nat} (B:BlkOkC X scope ns js) (hc:X.calm=true) (hi:PI X tg iter (tFI K p ds ds1 fi))
  (hg:∀ C cl s₀ H₀ fp,PG (aX X scope ns C cl s₀ H₀ fp) tg (tFG K lk dsi dsi g)) (ht:∀ C cl s₀ H₀ fp,PTs (aX X scope ns C cl s₀ H₀ fp) ifs (tFT K true dsi dsi c1)) (he:∀ C cl s₀ H₀ fp,PE (aX X scope ns C cl s₀ H₀ fp) elt (tF K true dsi dsi cd f))
  (hcap:iq ds1 js dsi=true) (hd:dn d=cd) (hz:d≠0) (hlk:lk=ip js 0)
  (hs:∀ x,foldedSetIterable iter X.env x=pure x):PE X (.ListComp elt [⟨tg,iter,ifs,0⟩] scope pos) (tF K p ds ds1 d (eLC true fi g c1 f js)) :=
 (Fw B hc hi hg ht he hs).imp fun _ _ _ h=>GJ hcap hd hz hlk (by rw [Bool.and_true]; exact h)
end
end L2
namespace L2
open PySem PySem.Spec PyProof.Rows
def IZ (f:ME) (g:MG):MS:=fun en=>(f en).bind fun r=>(g r.1 r.2).map .nx
section
variable {K:PySem.W.Frag} {p p1 p2 q:Bool} {J:Jd} {ds ds0 ds1 ds2 ds' dsi dps:List Nat} {d d' d1 d2 dr:Nat} {f f1 f2 fk fe:ME} {c1 c2:MT} {fa:MA} {sh:Sh} {i:Nat} {m m1 m2:MS} {g:MG} {lk:List Nat} {σ:St} {H:Hp} {Dn:Ends}
end
section
variable {X:Cx} {K:PySem.W.Frag} {p p1 p2 q:Bool} {J:Jd} {ds ds0 ds1 ds2 ds' dsi dps:List Nat} {d d' d1 d2 dr:Nat} {a b c e tg iter:Expr} {es:List Expr} {st:Stmt} {rest body bodyB:List Stmt} {f f1 f2 fk fe:ME} {c1 c2:MT} {fa:MA} {sh:Sh} {pos px:Pos} {i:Nat} {x:Str} {m m1 m2:MS} {g:MG} {gs:List D→En→Option En} {fi:MI} {lk:List Nat}
theorem Ch:PSs X [] (tFS K J ds ds bc):=pss_nil.imp fun _ _ _=>Gg
theorem vK (h1:PS X st (tFS K J ds ds1 m1)) (h2:PSs X rest (tFS K J ds1 ds2 m2)):PSs X (st :: rest) (tFS K J ds ds2 (ao m1 m2)):=(oz h1 h2).imp fun _ _ _=>Ge
theorem Cg (h1:PS X st (tFS K J ds ds1 m1)):PSs X [st] (tFS K J ds ds1 m1):=BH h1
theorem Cf (h:PSs X rest (tFS K J ds ds2 m)) (hd:leD ds1 ds2=true):PSs X rest (tFS K J ds ds1 m):=h.imp fun _ _ _=>um hd
theorem Cp (he:PE X e (tF K false ds ds1 d f)) (hs:swapsWith e none pos.line X.env=pure false):PS X (.Expr e pos) (tFS K J ds ds1 (bA f)):=(BI he hs).imp fun _ _ _=>Gi
theorem Cn (he:PE X e (tF K false ds ds1 J.dr f)) (hd:leD J.dsr ds1=true):PS X (.Return (some e) pos) (tFS K J ds ds' (aR f)):=(Fo he).imp fun _ _ _=>Gf hd
theorem ut:PS X st (tFS K J ds ds' iH):=ps_never.imp fun _ _ _=>vM
theorem Gk (hc:PT X c (tFT K false ds ds1 c1)) (ha:PSs X body (tFS K J ds1 ds2 m1)) (hb:PSs X bodyB (tFS K J ds1 ds2 m2)):PS X (.If c body bodyB pos) (tFS K J ds ds2 (sIf c1 m1 m2)):=(A6 hc ha hb).imp fun _ _ _=>HA
theorem Cm {x:Str} {pos':Pos} (hN:X.N.Nodup) (hi:X.N[i]?=some x) (hx:Loc X.env.scope x) (he:PE X e (tF K false ds ds1 d f)) (hds:ds1.set i d=ds') (hl:i < ds1.length) (hk:i ∉ J.lk)
  (hs:swapsWith e (some (.Name x pos')) pos.line X.env=pure false) (hf:X.fn x=true∨X.env.scope.names.lookup x=some .local) :
  PS X (.Assign [.Name x pos'] e pos) (tFS K J ds ds' (ax i f)):=by
 subst hds
 exact (Fm hN hi hx he hs hf).imp fun _ _ _=>uo hl hk
theorem ur {x:Str} {spos pos':Pos} {elt:Expr} {ifs:List Expr} {scope:Scope} {ns:List Str} {js:List (Option Nat)} {cd:Nat} (hN:X.N.Nodup) (hi':X.N[i]?=some x) (hx:X.env.scope.names.lookup x=some .local) (B:BlkOkC X scope ns js) (hc:X.calm=true) (hi:PI X tg iter (tFI K false ds ds1 fi))
  (hg:∀ C cl s₀ H₀ fp,PG (aX X scope ns C cl s₀ H₀ fp) tg (tFG K lk dsi dsi g)) (ht:∀ C cl s₀ H₀ fp,PTs (aX X scope ns C cl s₀ H₀ fp) ifs (tFT K q dsi dsi c1)) (he:∀ C cl s₀ H₀ fp,PE (aX X scope ns C cl s₀ H₀ fp) elt (tF K q dsi dsi cd f))
  (hds:ds1.set i d=ds') (hcap:iq ds1 js dsi=true) (hd:dn d=cd) (hz:d≠0) (hlk:lk=ip js 0) (hl:i < ds1.length) (hk:i ∉ J.lk)
  (hsw:swapsWith (.ListComp elt [⟨tg,iter,ifs,0⟩] scope pos) (some (.Name x pos')) spos.line X.env=pure true)
  (hs:∀ x,foldedSetIterable iter X.env x=pure x):PS X (.Assign [.Name x pos'] (.ListComp elt [⟨tg,iter,ifs,0⟩] scope pos) spos) (tFS K J ds ds' (ax i (eLC q fi g c1 f js))):=by
 subst hds
 exact (tE hN hi' hx B hc hi hg ht he hsw hs).imp fun D σ H h=>GJ (p:=false) hcap hd hz hlk (uo (p:=false && q) hl hk h)
theorem vO {c:Nat} {x:Str} {spos:Pos} {k:Expr} (hN:X.N[i]?=some x) (hv:Vis X.env.scope x) (he:PE X e (tF K false ds ds1 c fe)) (hk:PE X k (tF K false ds1 ds2 d2 fk)) (h1:ds2[i]?=some d) (hz:d≠0) (hc:dn d=c)
  (hdb:(x == ("__debug__" : Str))=false) (hcd:(x == ("__classdict__" : Str))=false)
  (ha:∀ v,assign (.Subscript (.Name x px) k spos) X.env v=(do
   let ov ← holding [v] (eval (.Name x px) X.env)
   let iv ← holding [v,ov] (eval k X.env)
   standAt spos
   holding [v,ov,iv] (setItem ov iv v)
   release [v,ov,iv] []))
  (hs:swapsWithSole [.Subscript (.Name x px) k spos] e pos.line X.env=pure false) (hw:swappedStores [.Subscript (.Name x px) k spos] e X.env=pure none)
  (h2:(assignEach [.Subscript (.Name x px) k spos] X.env).map (·.2)=[assign (.Subscript (.Name x px) k spos) X.env]) :
  PS X (.Assign [.Subscript (.Name x px) k spos] e pos) (tFS K J ds ds2 (eI i fk fe)) :=
 (Fq he (Ft (dJ hN hv hdb hcd) hk u5 ha) hs hw h2).imp fun _ _ _=>Ci h1 hz hc
theorem vU {x:Str} (hN:X.N.Nodup) (hi:X.N[i]?=some x) (hx:Loc X.env.scope x) (hds:ds.set i 0=ds') (hl:i < ds.length) (hk:i ∉ lk) (hf:X.fn x=true∨X.env.scope.names.lookup x=some .local) :
  PG X (.Name x pos) (tFG K lk ds ds' (gN i)):=by
 subst hds
 exact (BM hN hi hx hf).imp fun _ _ _ _=>Cz hl hk
theorem Co (hc:X.calm=true) (hi:PI X tg iter (tFI K false ds ds1 fi)) (hg:PG X tg (tFG K J.lk ds1 ds2 g)) (hb:PSs X body (tFS K { J with dsl:=ds1 } ds2 ds1 m)) (hp:PassesOwn (model X.prog X.w) X.A X.env X.xe)
  (hs:∀ x,foldedSetIterable iter X.env x=pure x):PS X (.For tg iter body [] pos) (tFS K J ds ds1 (bG fi g m)):=(Fp hp hc hi hg hb hs).imp fun _ _ _=>Gh
theorem up (hc:PT X c (tFT K false ds ds1 c1)) (hb:PSs X body (tFS K { J with dsl:=ds } ds1 ds m)) (hp:PassesOwn (model X.prog X.w) X.A X.env X.xe):PS X (.While c body [] pos) (tFS K J ds ds1 (cP c1 m)):=(u8 hp hc hb).imp fun _ _ _=>vL
end
def AY:D→Option (List D)
 | .list ts=>some ts
 | .tuple ts=>some ts
 | .str z=>some ((li z).map fun c=>.str (mk1 c))
 | _=>none
def br (f:ME):MI:=fun en=>(f en).bind fun r=>(AY r.1).map fun ts=>(ts,r.2)
section
variable {K:PySem.W.Frag} {O O1:AS} {H0 H:Hp} {ts:List D} {vs:List V} {a:Addr} {F:AS}
theorem kw {O O1:AS} (h1:∀ a o,H0 a=some o→¬ O a→H a=some o) (h2:∀ a,O1 a→O a∨H0 a=none):Mv O O1 NoA H0 H:=⟨fun a o q z=>z.elim (h1 a o q) fun z=>z.elim,h2⟩
theorem sW (h:FzL K O H0 a vs) (ho:Ows K O H0 ts 0 vs NoA):pS K O H0 (Itl K a) ts:=fun i H O1 h1 h2 h3=>by
 have sq:=(h.mv (kw h1 h2)).sq
 refine ⟨fun t ht=>?_,fun hl=>⟨vs,sq,by rw [ho.len]; omega⟩⟩
 obtain ⟨v,hv,ov⟩:=ho.get ht
 refine ⟨⟨vs,v,sq,hv⟩,fun x H1 ⟨e,y⟩=>?_⟩
 subst e
 have e2:=y vs sq
 rw [hv] at e2
 cases e2
 exact ⟨fun _ _ q=>q,Ow.mv (kw h1 h2) t (fun _ z=>z) ov⟩
theorem uV (h:FzT K O H0 a vs) (ho:Ows K O H0 ts 0 vs NoA):pS K O H0 (Itt K a) ts:=fun i H O1 h1 h2 h3=>by
 have sq:=(h.mv (kw h1 h2)).sq
 refine ⟨fun t ht=>?_,fun hl=>⟨vs,sq,by rw [ho.len]; omega⟩⟩
 obtain ⟨v,hv,ov⟩:=ho.get ht
 refine ⟨⟨vs,v,sq,hv⟩,fun x H1 ⟨e,y⟩=>?_⟩
 subst e
 have e2:=y vs sq
 rw [hv] at e2
 cases e2
 exact ⟨fun _ _ q=>q,Ow.mv (kw h1 h2) t (fun _ z=>z) ov⟩
theorem uW {z:Str}:pS K O H0 (Its z) ((li z).map fun c=>.str (mk1 c)):=fun i H O1 h1 h2 h3=>by
 refine ⟨fun t ht=>?_,fun hl=>?_⟩
 ·rw [List.getElem?_map] at ht
  obtain ⟨c,hc,e⟩:=Option.map_eq_some_iff.mp ht
  have hi:i < z.cps.size:=by
   have:=(List.getElem?_eq_some_iff.mp hc).1
   simpa [li] using this
  have hc':z.cps[i]?=some c:=by
   have:z.cps.toList[i]?=some c:=hc
   simpa using this
  refine ⟨hi,fun x H1 ⟨e1,c',e2,e3⟩=>?_⟩
  subst e1 e e3
  rw [hc'] at e2
  cases e2
  exact ⟨fun _ _ q=>q,rfl⟩
 ·have:z.cps.size=i:=by
   rw [List.length_map] at hl
   simpa [li] using hl
  show z.cps.size≤i
  omega
theorem uX {lo:Int} {n:Nat}:pS K O H0 (Itr lo n) ((List.range n).map fun k=>.int (lo+(k:Nat))):=fun i H O1 h1 h2 h3=>by
 refine ⟨fun t ht=>?_,fun hl=>?_⟩
 ·rw [List.getElem?_map] at ht
  obtain ⟨c,hc,e⟩:=Option.map_eq_some_iff.mp ht
  have hi:=(List.getElem?_eq_some_iff.mp hc).1
  rw [List.length_range] at hi
  rw [List.getElem?_range hi] at hc
  cases hc
  refine ⟨hi,fun x H1 ⟨e1,e2⟩=>?_⟩
  subst e1 e e2
  exact ⟨fun _ _ q=>q,rfl⟩
 ·rw [List.length_map,List.length_range] at hl
  show n≤i
  omega
def Br (ts:List D):List D:=ts.zipIdx.map fun p=>.tuple [.int (p.2:Nat),p.1]
end
def cb (fa:MA):MI:=fun en=>(fa en).bind fun r=>match r.1 with
 | [.inl (.int j)]=>if -(2 ^ 62)≤j∧j < 2 ^ 62 then some ((List.range j.toNat).map fun k=>.int (0+(k:Nat)),r.2) else none
 | _=>none
def II (fa:MA):MI:=fun en=>(fa en).bind fun r=>match r.1 with
 | [.inl (.int i),.inl (.int j)]=>if -(2 ^ 62)≤i∧i < 2 ^ 62∧-(2 ^ 62)≤j∧j < 2 ^ 62 then some ((List.range (j - i).toNat).map fun k=>.int (i+(k:Nat)),r.2) else none
 | _=>none
def IJ (fa:MA):MI:=fun en=>(fa en).bind fun r=>match r.1 with
 | [.inl (.list ts)]=>some (Br ts,r.2)
 | [.inl (.tuple ts)]=>some (Br ts,r.2)
 | _=>none
section
variable {X:Cx} {K:PySem.W.Frag} {p:Bool} {ds ds1:List Nat} {d:Nat} {e tg l:Expr} {f:ME} {fa:MA} {sh:Sh}
theorem Gn (hK:X.K=K) (hl:PE X l (tF K p ds ds1 d f)):PI X tg l (tFI K p ds ds1 (br f)):=by
 subst hK
 intro pins s σ H R I h
 obtain ⟨Ox,en,Rg,ts,en',e,hf,k⟩:=h
 unfold br at hf
 obtain ⟨⟨t,en1⟩,h1,hf⟩:=Option.bind_eq_some_iff.mp hf
 obtain ⟨ts',h2,hf⟩:=Option.map_eq_some_iff.mp hf
 cases hf
 refine thn (hl pins s σ H (fun v H1=>∃ R1,Post X.K p ds1 Ox σ H en Rg en1 H1 R1 NoA∧Ow X.K (Own R1 Ox) H1 t 0 v NoA) I ⟨Ox,en,Rg,t,en1,e,h1,fun v H1 R1 F P o=>⟨R1,P.less fun _ z=>z.elim,Ow.letgo P (fun _ z=>z) o⟩⟩) fun v s1 ⟨x,H1,I1,r1,R1,P,o⟩=>?_
 cases t with
 | list ts0 =>
  cases h2
  obtain ⟨a,vs,e1,⟨_,fz,ow⟩ | ⟨z,_⟩⟩:=o
  ·subst e1
   cases r1
   obtain ⟨its,rv,pl,hz⟩:=I1.list fz.sq
   refine wpAny_pyIter_list pl.isList ?_
   refine ⟨s1.heap.objs.size,[s1.heap.objs.size],_,_,H1,rfl,I1.kept (t':=s1.toks) fun b o e=>Heap.get?_push_of_some _ e,sY a _,⟨_,Heap.get?_push_size _ rfl,rfl,rfl⟩,fun b hb=>?_,k _ H1 R1 P (sW fz ow)⟩
   have e:b=s1.heap.objs.size:=by simpa using hb
   subst e
   exact I1.fpOk (Nat.le_refl _) (I1.hok.fresh (Nat.le_refl _))
  ·exact absurd rfl z
 | tuple ts0 =>
  cases h2
  obtain ⟨a,vs,e1,⟨_,fz,ow⟩ | ⟨z,_⟩⟩:=o
  ·subst e1
   cases r1
   obtain ⟨its,rv,pl,hz⟩:=I1.tuple fz.sq
   refine wpAny_pyIter_tuple (show s1.heap.IsTuple a its.toArray from pl) ?_
   refine ⟨s1.heap.objs.size,[s1.heap.objs.size],_,_,H1,rfl,I1.kept (t':=s1.toks) fun b o e=>Heap.get?_push_of_some _ e,rH a _,⟨_,Heap.get?_push_size _ rfl,rfl,rfl⟩,fun b hb=>?_,k _ H1 R1 P (uV fz ow)⟩
   have e:b=s1.heap.objs.size:=by simpa using hb
   subst e
   exact I1.fpOk (Nat.le_refl _) (I1.hok.fresh (Nat.le_refl _))
  ·exact absurd rfl z
 | str z =>
  cases h2
  have e1:x=.str z:=o
  subst e1
  obtain ⟨t,rfl⟩:=r1
  have fin:∀ (ty:String) (o:Obj),(ty="str_ascii_iterator"∨ty="str_iterator")→(s1.heap.push o).IsStrIter s1.heap.objs.size ty z t 0→PIE X pins σ tg R (.ref s1.heap.objs.size) { s1 with heap:=s1.heap.push o }:=fun ty o hty st=>by
   refine ⟨s1.heap.objs.size,[s1.heap.objs.size],_,_,H1,rfl,I1.kept (t':=s1.toks) fun b o e=>Heap.get?_push_of_some _ e,uY _ z t ty hty,st,fun b hb=>?_,k _ H1 R1 P uW⟩
   have e:b=s1.heap.objs.size:=by simpa using hb
   subst e
   exact I1.fpOk (Nat.le_refl _) (I1.hok.fresh (Nat.le_refl _))
  cases ha:z.cps.all (· < 128)
  ·exact wpAny_pyIter_wide ha (fin _ _ (.inr rfl) ⟨_,Heap.get?_push_size _ rfl,rfl,rfl⟩)
  ·exact wpAny_pyIter_ascii ha (fin _ _ (.inl rfl) ⟨_,Heap.get?_push_size _ rfl,rfl,rfl⟩)
 | _=>cases h2
theorem Cy {a:Expr} {px pos:Pos} (hg:Gl X "range") (hm:X.mg "range"=none) (ha:PA X [a] (tFA K p ds ds1 sh fa)) (hs:aN a=true):PI X tg (.Call (.Name "range" px) [a] [] pos) (tFI K p ds ds1 (cb fa)) :=
 (tI hg hm ha (bv hs)).imp fun σ H R ⟨Ox,en,Rg,ts,en',e,hf,k⟩=>by
  unfold cb at hf
  obtain ⟨⟨as,en1⟩,h1,hf⟩:=Option.bind_eq_some_iff.mp hf
  refine ⟨Ox,en,Rg,as,en1,e,h1,fun vs H1 R1 F P o=>?_⟩
  dsimp only at hf
  split at hf
  case h_2=>cases hf
  next j =>
  by_cases hj:-(2 ^ 62)≤j∧j < 2 ^ 62
  case neg=>rw [if_neg hj] at hf; cases hf
  rw [if_pos hj] at hf
  cases hf
  obtain ⟨v,r,d,dr,F1,F2,e1,e2,_,_,_,o1,o2⟩:=o
  obtain ⟨_,o2⟩:=o2
  subst e1 o2
  have ev:v=.int j:=o1
  subst ev
  exact ⟨j,rfl,hj.1,hj.2,k _ H1 R1 (P.less fun _ z=>z.elim) uX⟩
end
end L2
namespace L2
open PySem PySem.Spec PyProof.Rows
theorem NewTo.refl {H:Hp}:NewTo H H NoA:=⟨fun _ _ q=>q,fun _ z=>z.elim⟩
theorem OpR.imp {X:Cx} {fn:Value→Value→Sem Value} {r r':R2} (h:OpR X fn r) (hi:∀ x y H Q,r' x y H Q→r x y H Q):OpR X fn r':=fun pins s σ H x y v u Q I rx ry q=>h pins s σ H x y v u Q I rx ry (hi _ _ _ _ q)
theorem OpR.or' {X:Cx} {fn:Value→Value→Sem Value} {r r':R2} (h:OpR X fn r) (h':OpR X fn r'):OpR X fn (fun x y H Q=>r x y H Q∨r' x y H Q):=fun pins s σ H x y v u Q I rx ry q=>q.elim (h pins s σ H x y v u Q I rx ry) (h' pins s σ H x y v u Q I rx ry)
theorem UnR.imp {X:Cx} {fn:Value→Sem Value} {r r':V→Hp→VK→Prop} (h:UnR X fn r) (hi:∀ x H Q,r' x H Q→r x H Q):UnR X fn r':=fun pins s σ H x v Q I rx q=>h pins s σ H x v Q I rx (hi _ _ _ q)
theorem CallR.imp {X:Cx} {fn:Value} {r r':List V→Hp→VK→Prop} (h:CallR X fn r) (hi:∀ x H Q,r' x H Q→r x H Q):CallR X fn r':=fun pins s σ H x v Q I rx q=>h pins s σ H x v Q I rx (hi _ _ _ q)
theorem IxR.imp {X:Cx} {r r':R2} (h:IxR X r) (hi:∀ x y H Q,r' x y H Q→r x y H Q):IxR X r':=fun value slice pins s σ H x y v u Q I rx ry q=>h value slice pins s σ H x y v u Q I rx ry (hi _ _ _ _ q)
section
variable {X:Cx} {K:PySem.W.Frag} {O:AS} {H:Hp} {ts us:List D} {vs ws:List V} {x y:V} {d:Nat} {Q:VK}
theorem iI {l:Addr} (hl:H l=none) (hd:∀ a,O a→∃ o,H a=some o) (h:Ows K O H ts 0 vs NoA):NewTo H (upd H l (.lst vs)) (fun b=>b=l)∧Ow K (U (fun b=>b=l) O) (upd H l (.lst vs)) (.list ts) 1 (.ref l) (fun b=>b=l):=by
 refine ⟨b5 hl,l,vs,rfl,.inr ⟨by decide,aW,rfl,NoA,fun _ z=>z.elim,?_⟩⟩
 refine Ows.mv (G:=NoA) ⟨fun a o q _=>(b5 (o:=.lst vs) hl).1 a o q,fun a z=>?_⟩ ts (fun _ z=>z) h
 rcases z with z | z
 ·exact .inr (by rw [show a=l from z]; exact hl)
 ·exact .inl z
theorem eY {l:Addr} (hl:H l=none) (hd:∀ a,O a→∃ o,H a=some o) (h:Ows K O H ts 0 vs NoA):NewTo H (upd H l (.tup vs)) NoA∧Ow K (U NoA O) (upd H l (.tup vs)) (.tuple ts) 0 (.ref l) NoA:=by
 refine ⟨⟨(b5 hl).1,fun _ z=>z.elim⟩,l,vs,rfl,.inl ⟨rfl,⟨aW,fun z=>?_⟩,?_⟩⟩
 ·rcases z with z | z
  ·exact z
  ·obtain ⟨o,q⟩:=hd l z
   rw [hl] at q
   cases q
 ·refine Ows.mv (G:=NoA) ⟨fun a o q _=>(b5 (o:=.tup vs) hl).1 a o q,fun a z=>?_⟩ ts (fun _ z=>z) h
  rcases z with z | z
  ·exact z.elim
  ·exact .inl z
theorem Ows.app:∀ {ts:List D} {vs:List V},Ows K O H ts 0 vs NoA→Ows K O H us 0 ws NoA→Ows K O H (ts++us) 0 (vs++ws) NoA
 | [],_,h,h2=>by rw [show _=[] from h]; exact h2
 | t :: ts,_,h,h2=>by
  obtain ⟨v,r,F1,F2,e,_,_,_,h4,h5⟩:=h
  subst e
  exact ⟨v,r++ws,NoA,NoA,rfl,fun _ z=>z,fun _ z=>z,fun _ z=>z.elim,Ow.any0 t h4,Ows.app (Ows.any0 ts h5) h2⟩
theorem Ows.drop:∀ {ts:List D} {vs:List V} (n:Nat),Ows K O H ts 0 vs NoA→Ows K O H (ts.drop n) 0 (vs.drop n) NoA
 | ts,vs,0,h=>h
 | [],_,n+1,h=>by rw [show _=[] from h]; rfl
 | t :: ts,_,n+1,h=>by
  obtain ⟨v,r,F1,F2,e,_,_,_,h4,h5⟩:=h
  subst e
  exact Ows.drop n (Ows.any0 ts h5)
theorem Ows.take:∀ {ts:List D} {vs:List V} (n:Nat),Ows K O H ts 0 vs NoA→Ows K O H (ts.take n) 0 (vs.take n) NoA
 | ts,vs,0,h=>rfl
 | [],_,n+1,h=>by rw [show _=[] from h]; rfl
 | t :: ts,_,n+1,h=>by
  obtain ⟨v,r,F1,F2,e,_,_,_,h4,h5⟩:=h
  subst e
  exact ⟨v,r.take n,NoA,NoA,rfl,fun _ z=>z,fun _ z=>z,fun _ z=>z.elim,Ow.any0 t h4,Ows.take n (Ows.any0 ts h5)⟩
theorem Ow.lst0 {v:V} (h:Ow K O H (.list ts) 0 v NoA):∃ a vs,v=.ref a∧FzL K O H a vs∧Ows K O H ts 0 vs NoA:=by
 obtain ⟨a,vs,e,⟨_,h1,h2⟩ | ⟨z,_⟩⟩:=h
 ·exact ⟨a,vs,e,h1,h2⟩
 ·exact absurd rfl z
theorem Ow.tup0 {v:V} (h:Ow K O H (.tuple ts) 0 v NoA):∃ a vs,v=.ref a∧FzT K O H a vs∧Ows K O H ts 0 vs NoA:=by
 obtain ⟨a,vs,e,⟨_,h1,h2⟩ | ⟨z,_⟩⟩:=h
 ·exact ⟨a,vs,e,h1,h2⟩
 ·exact absurd rfl z
theorem Ows.one {t:D} (h:Ows K O H [t] 0 vs NoA):∃ v,vs=[v]∧Ow K O H t 0 v NoA:=by
 obtain ⟨v,r,F1,F2,e,_,_,_,h4,h5⟩:=h
 rw [show r=[] from h5] at e
 exact ⟨v,e,Ow.any0 t h4⟩
def bu:D→D→Option D
 | .int a,.int b=>some (.int (a+b))
 | .str a,.str b=>if a.length+b.length≤sizeLine then some (.str (a++b)) else none
 | _,_=>none
theorem bw:OpR X (binaryOp .Add) (rF2 K bu 3):=(op_add.or' rR).imp fun x y H Q ⟨O,a,b,t,oa,ob,hd,hg,k⟩=>by
 cases a with
 | int i=>cases b with
  | int j=>cases hg; exact .inl ⟨i,j,oa,ob,k _ H NoA .refl rfl⟩
  | _=>cases hg
 | str i=>cases b with
  | str j =>
   dsimp only [bu] at hg
   by_cases hl:i.length+j.length≤sizeLine
   ·rw [if_pos hl] at hg; cases hg; exact .inr ⟨i,j,oa,ob,hl,k _ H NoA .refl rfl⟩
   ·rw [if_neg hl] at hg; cases hg
  | _=>cases hg
 | _=>cases hg
def ik (g:Int→Int→Option D):D→D→Option D
 | .int a,.int b=>g a b
 | _,_=>none
theorem cL {g:Int→Int→Option D} {a b t:D} (h:ik g a b=some t):∃ i j,a=.int i∧b=.int j∧g i j=some t:=by
 cases a with
 | int i=>cases b with
  | int j=>exact ⟨i,j,rfl,rfl,h⟩
  | _=>cases h
 | _=>cases h
def i4:D→D→Option D:=ik fun a b=>some (.int (a - b))
theorem l7:OpR X (binaryOp .Sub) (rF2 K i4 3):=op_sub.imp fun x y H Q ⟨O,a,b,t,oa,ob,hd,hg,k⟩=>by
 obtain ⟨i,j,rfl,rfl,h⟩:=cL hg
 cases h
 exact ⟨i,j,oa,ob,k _ H NoA .refl rfl⟩
instance (i j:Int):Decidable (CMul i j):=by unfold CMul; exact inferInstance
instance (i j:Int):Decidable (jw i j):=by unfold jw; exact inferInstance
instance (i j:Int):Decidable (iA i j):=by unfold iA; exact inferInstance
def cK:D→D→Option D:=ik fun a b=>if CMul a b then some (.int (a * b)) else none
theorem fP:OpR X (binaryOp .Mult) (rF2 K cK 3):=op_mul.imp fun x y H Q ⟨O,a,b,t,oa,ob,hd,hg,k⟩=>by
 obtain ⟨i,j,rfl,rfl,h⟩:=cL hg
 by_cases hc:CMul i j
 ·rw [if_pos hc] at h; cases h; exact ⟨i,j,oa,ob,hc,k _ H NoA .refl rfl⟩
 ·rw [if_neg hc] at h; cases h
def gg:D→D→Option D:=ik fun a b=>if jw a b then some (.int (a / b)) else none
theorem rk:OpR X (binaryOp .FloorDiv) (rF2 K gg 3):=op_fdiv.imp fun x y H Q ⟨O,a,b,t,oa,ob,hd,hg,k⟩=>by
 obtain ⟨i,j,rfl,rfl,h⟩:=cL hg
 by_cases hc:jw i j
 ·rw [if_pos hc] at h; cases h; exact ⟨i,j,oa,ob,hc,k _ H NoA .refl rfl⟩
 ·rw [if_neg hc] at h; cases h
def bY:D→D→Option D:=ik fun a b=>if 0 < b then some (.int (a % b)) else none
theorem eL:OpR X (binaryOp .Mod) (rF2 K bY 3):=op_mod.imp fun x y H Q ⟨O,a,b,t,oa,ob,hd,hg,k⟩=>by
 obtain ⟨i,j,rfl,rfl,h⟩:=cL hg
 by_cases hc:0 < j
 ·rw [if_pos hc] at h; cases h; exact ⟨i,j,oa,ob,hc,k _ H NoA .refl rfl⟩
 ·rw [if_neg hc] at h; cases h
def mM:D→D→Option D:=ik fun a b=>if iA a b then some (.int (a ^ b.toNat)) else none
theorem uv:OpR X (binaryOp .Pow) (rF2 K mM 3):=op_pow.imp fun x y H Q ⟨O,a,b,t,oa,ob,hd,hg,k⟩=>by
 obtain ⟨i,j,rfl,rfl,h⟩:=cL hg
 by_cases hc:iA i j
 ·rw [if_pos hc] at h; cases h; exact ⟨i,j,oa,ob,hc,k _ H NoA .refl rfl⟩
 ·rw [if_neg hc] at h; cases h
def ltI:D→D→Option D:=ik fun a b=>some (.bool (decide (a < b)))
def leI:D→D→Option D:=ik fun a b=>some (.bool (decide (a≤b)))
def gtI:D→D→Option D:=ik fun a b=>some (.bool (decide (b < a)))
def geI:D→D→Option D:=ik fun a b=>some (.bool (decide (b≤a)))
theorem Bk:OpR X (compareOp .Lt) (rF2 K ltI 3):=op_lt.imp fun x y H Q ⟨O,a,b,t,oa,ob,hd,hg,k⟩=>by
 obtain ⟨i,j,rfl,rfl,h⟩:=cL hg
 cases h
 exact ⟨i,j,oa,ob,k _ H NoA .refl rfl⟩
theorem HB:OpR X (compareOp .LtE) (rF2 K leI 3):=op_le.imp fun x y H Q ⟨O,a,b,t,oa,ob,hd,hg,k⟩=>by
 obtain ⟨i,j,rfl,rfl,h⟩:=cL hg
 cases h
 exact ⟨i,j,oa,ob,k _ H NoA .refl rfl⟩
theorem dN:OpR X (compareOp .Gt) (rF2 K gtI 3):=op_gt.imp fun x y H Q ⟨O,a,b,t,oa,ob,hd,hg,k⟩=>by
 obtain ⟨i,j,rfl,rfl,h⟩:=cL hg
 cases h
 exact ⟨i,j,oa,ob,k _ H NoA .refl rfl⟩
theorem HD:OpR X (compareOp .GtE) (rF2 K geI 3):=op_ge.imp fun x y H Q ⟨O,a,b,t,oa,ob,hd,hg,k⟩=>by
 obtain ⟨i,j,rfl,rfl,h⟩:=cL hg
 cases h
 exact ⟨i,j,oa,ob,k _ H NoA .refl rfl⟩
def mT:D→Bool
 | .none=>true
 | _=>false
theorem vF {a:D} {F:AS} (h:Ow K O H a d x F):decide (x=.non)=mT a:=by
 cases a with
 | none=>rw [show x=.non from h]; rfl
 | bool b=>rw [show x=.bl b from h]; rfl
 | int b=>rw [show x=.int b from h]; rfl
 | str b=>rw [show x=.str b from h]; rfl
 | list ts=>obtain ⟨a,vs,e,_⟩:=h; rw [e]; rfl
 | tuple ts=>obtain ⟨a,vs,e,_⟩:=h; rw [e]; rfl
 | dict ts=>obtain ⟨a,vs,e,_⟩:=h; rw [e]; rfl
def isN:D→D→Option D
 | a,.none=>some (.bool (mT a))
 | _,_=>none
def gE:D→D→Option D
 | a,.none=>some (.bool (!mT a))
 | _,_=>none
theorem Cu:OpR X (compareOp .IsNot) (rF2 K gE 3):=op_notN.imp fun x y H Q ⟨O,a,b,t,oa,ob,hd,hg,k⟩=>by
 cases b with
 | none=>cases hg; exact ⟨ob,by rw [vF oa]; exact k _ H NoA .refl rfl⟩
 | _=>cases hg
def Jf:D→D→Option D
 | .str a,.str b=>some (.bool (uj b a))
 | _,_=>none
def IC:D→D→Option D
 | .str a,.str b=>some (.bool (!uj b a))
 | _,_=>none
def ixA:D→D→Option D
 | .list ts,.int n=>atI ts n
 | .tuple ts,.int n=>atI ts n
 | .str z,.int n=>if z.length≤sizeLine then (atI z.cps.toList n).map fun c=>.str (mk1 c) else none
 | _,_=>none
theorem dA (hK:X.K=K):IxR X (rF2 K ixA 0):=by
 subst hK
 refine ix_seq.imp fun x y H Q ⟨O,a,b,t,oa,ob,hd,hg,k⟩=>?_
 cases b with
 | int n =>
  cases a with
  | list ts =>
   obtain ⟨a,vs,e,fz,ow⟩:=oa.lst0
   obtain ⟨v,h1,h2⟩:=ow.atI hg
   exact .inl ⟨a,vs,n,v,e,ob,fz.sq,h1,k v H NoA .refl (by rw [fj]; exact h2)⟩
  | tuple ts =>
   obtain ⟨a,vs,e,fz,ow⟩:=oa.tup0
   obtain ⟨v,h1,h2⟩:=ow.atI hg
   exact .inr (.inl ⟨a,vs,n,v,e,ob,fz.sq,h1,k v H NoA .refl (by rw [fj]; exact h2)⟩)
  | str z =>
   dsimp only [ixA] at hg
   by_cases hl:z.length≤sizeLine
   ·rw [if_pos hl] at hg
    obtain ⟨c,h1,h2⟩:=Option.map_eq_some_iff.mp hg
    cases h2
    exact .inr (.inr ⟨z,n,c,oa,ob,hl,h1,k _ H NoA .refl rfl⟩)
   ·rw [if_neg hl] at hg; cases hg
  | _=>cases hg
 | _=>cases a <;> cases hg
def ixT:D→D→Option D
 | .str z,.int n=>if z.length≤sizeLine then (atI z.cps.toList n).map fun c=>.str (mk1 c) else none
 | _,_=>none
theorem j4:IxR X (rF2 K ixT 3):=by
 refine ix_str.imp fun x y H Q ⟨O,a,b,t,oa,ob,hd,hg,k⟩=>?_
 cases a with
 | str z=>cases b with
  | int n =>
   dsimp only [ixT] at hg
   by_cases hl:z.length≤sizeLine
   ·rw [if_pos hl] at hg
    obtain ⟨c,h1,h2⟩:=Option.map_eq_some_iff.mp hg
    cases h2
    exact ⟨z,n,c,oa,ob,hl,h1,k _ H NoA .refl rfl⟩
   ·rw [if_neg hl] at hg; cases hg
  | _=>cases hg
 | _=>cases hg
def pR:D→D→Option D
 | .list a,.list b=>if a.length+b.length≤sizeLine then some (.list (a++b)) else none
 | _,_=>none
def eR:D→D→Option D
 | .tuple a,.tuple b=>if a.length+b.length≤sizeLine then some (.tuple (a++b)) else none
 | _,_=>none
end
end L2
namespace L2
open PySem PySem.Spec PyProof.Rows
def grd {α:Type} (c:Prop) [Decidable c] (t:α):Option α:=if c then some t else none
theorem bJ {α:Type} {c:Prop} [Decidable c] {t u:α} (h:grd c t=some u):c∧t=u:=by
 unfold grd at h
 by_cases hc:c
 ·rw [if_pos hc] at h; exact ⟨hc,Option.some.inj h⟩
 ·rw [if_neg hc] at h; cases h
section
variable {X:Cx} {K:PySem.W.Frag} {O:AS} {H:Hp} {ts us:List D} {vs ws:List V} {x y:V} {d:Nat} {Q:VK}
def Hf (K:PySem.W.Frag):R2:=fun x y H Q=>∃ l b xs zs,x=.ref l∧y=.ref b∧SqL K H l xs∧SqL K H b zs∧xs.length+zs.length≤sizeLine∧∀ p,H p=none→Q (.ref p) (upd H p (.lst (xs++zs)))
theorem op_catL:OpR X (binaryOp .Add) (Hf X.K):=by
 intro pins s σ H x y v u Q I rx ry h
 obtain ⟨l,b,xs,zs,rfl,rfl,hH,hB,hz,q⟩:=h
 cases rx
 cases ry
 obtain ⟨its,r,⟨⟨c1,dd,da1,sl⟩,n,ho,hc,hdd,hda⟩,_⟩:=I.list hH
 obtain ⟨its2,r2,⟨⟨c2,dd2,da2,sl2⟩,n2,ho2,hc2,hdd2,hda2⟩,_⟩:=I.list hB
 have hl:=r.length
 have hl2:=r2.length
 simp only at hc hda hc2 hda2
 subst hc hda hc2 hda2
 refine concat_meets ⟨_,ho,rfl⟩ ⟨_,ho2,rfl⟩ noFill_list_add seq_list_add PySem.F.slot_list_add PySem.F.entry_list_add (PySem.F.args_list_add_2 _ _) (list_addW l b its.toArray its2.toArray n n2 dd dd2 sl sl2 (by simp only [List.size_toArray]; omega)) ⟨ho,ho2,?_⟩
 have ea:its.toArray++its2.toArray=(its++its2).toArray:=by simp
 rw [ea]
 exact ⟨.ref _,_,I.lnew (t':=s.toks) (r.append r2) (by rw [List.length_append]; omega),rfl,q _ I.fresh⟩
theorem rl (hK:X.K=K):OpR X (binaryOp .Add) (rF2 K pR 1):=by
 subst hK
 refine op_catL.imp fun x y H Q ⟨O,a,b,t,oa,ob,hd,hg,k⟩=>?_
 cases a with
 | list ts=>cases b with
  | list us =>
   dsimp only [pR] at hg
   by_cases hl:ts.length+us.length≤sizeLine
   case neg=>rw [if_neg hl] at hg; cases hg
   rw [if_pos hl] at hg
   cases hg
   obtain ⟨a,vs,e1,f1,w1⟩:=oa.lst0
   obtain ⟨b,ws,e2,f2,w2⟩:=ob.lst0
   refine ⟨a,b,vs,ws,e1,e2,f1.sq,f2.sq,by rw [w1.len,w2.len]; exact hl,fun p hp=>?_⟩
   obtain ⟨n1,n2⟩:=iI hp hd (w1.app w2)
   exact k _ _ _ n1 n2
  | _=>cases hg
 | _=>cases hg
theorem eB (hK:X.K=K):OpR X (binaryOp .Add) (rF2 K eR 0):=by
 intro pins s σ H x y v u Q I rx ry ⟨O,a,b,t,oa,ob,hd,hg,k⟩
 cases a with
 | tuple ts=>cases b with
  | tuple us =>
   dsimp only [eR] at hg
   by_cases hl:ts.length+us.length≤sizeLine
   case neg=>rw [if_neg hl] at hg; cases hg
   rw [if_pos hl] at hg
   cases hg
   obtain ⟨a,vs,e1,f1,w1⟩:=oa.tup0
   obtain ⟨b,ws,e2,f2,w2⟩:=ob.tup0
   have l1:=w1.len
   have l2:=w2.len
   by_cases hx:vs=[]
   ·subst hx
    have et:ts=[]:=List.length_eq_zero_iff.mp l1.symm
    subst et
    refine ve hK pins s σ H x y v u Q I rx ry ⟨a,b,ws,e1,e2,f1.sq,f2.sq,?_⟩
    rw [← e2]
    exact k y H NoA .refl (by rw [fj]; exact ob)
   ·refine Hv hK pins s σ H x y v u Q I rx ry ⟨a,b,vs,ws,e1,e2,f1.sq,f2.sq,hx,by omega,fun hy=>?_,fun hy p hp=>?_⟩
    ·subst hy
     have et:us=[]:=List.length_eq_zero_iff.mp l2.symm
     subst et
     rw [← e1]
     exact k x H NoA .refl (by rw [fj,List.append_nil]; exact oa)
    ·obtain ⟨n1,n2⟩:=eY hp hd (w1.app w2)
     exact k _ _ _ n1 n2
  | _=>cases hg
 | _=>cases hg
def Jc:D→D→Option D
 | .list ts,.int k=>grd (-(2 ^ 63)≤k∧k < 2 ^ 63∧ts.length * k.toNat≤sizeLine) (.list (List.replicate k.toNat ts).flatten)
 | _,_=>none
def Jb:D→D→Option D
 | .str z,.int k=>grd (z.length≤4000∧-(2 ^ 63)≤k∧k≤4000) (.str (Txt.mul z k))
 | _,_=>none
def lw:D→Option D
 | .int i=>some (.int (-i))
 | _=>none
theorem jZ:UnR X (unaryOp .USub) (rF1 K lw 3):=un_neg.imp fun x H Q ⟨O,a,t,oa,hd,hg,k⟩=>by
 cases a with
 | int i=>cases hg; exact ⟨i,oa,k _ H NoA .refl rfl⟩
 | _=>cases hg
def bQ:List D→Option D
 | [.list ts]=>some (.int ts.length)
 | [.tuple ts]=>some (.int ts.length)
 | [.str z]=>grd (z.length≤sizeLine) (.int z.length)
 | _=>none
theorem cc (hK:X.K=K):CallR X (.builtin "len") (rFn K bQ 3):=(Ir hK).imp fun xs H Q ⟨O,as,t,oa,hd,hg,k⟩=>by
 match as,hg with
 | [.list ts],hg =>
  cases hg
  obtain ⟨v,rfl,o⟩:=oa.one
  obtain ⟨a,vs,rfl,fz,w⟩:=o.lst0
  exact ⟨_,_,rfl,.inl ⟨vs,fz.sq,rfl⟩,by rw [w.len]; exact k _ H NoA .refl rfl⟩
 | [.tuple ts],hg =>
  cases hg
  obtain ⟨v,rfl,o⟩:=oa.one
  obtain ⟨a,vs,rfl,fz,w⟩:=o.tup0
  exact ⟨_,_,rfl,.inr ⟨vs,fz.sq,rfl⟩,by rw [w.len]; exact k _ H NoA .refl rfl⟩
 | [.str z],hg =>
  obtain ⟨c,rfl⟩:=bJ hg
  obtain ⟨v,rfl,o⟩:=oa.one
  exact ⟨_,_,rfl,by rw [show v=.str z from o]; exact ⟨c,rfl⟩,k _ H NoA .refl rfl⟩
def sO:List D→Option D
 | [.int i]=>some (.int (if i < 0 then -i else i))
 | _=>none
def IT:List D→Option D
 | [.int i,.int j]=>some (.int (if j > i then j else i))
 | _=>none
def IS:List D→Option D
 | [.int i,.int j]=>some (.int (if j < i then j else i))
 | _=>none
def Je:List D→Option D
 | [.int i]=>some (.int i)
 | [.bool b]=>some (.int (if b then 1 else 0))
 | _=>none
def lJ (z:Str):List D:=(li z).map fun c=>.str (mk1 c)
def Ba:List D→Option D
 | [.list ts]=>some (.list ts)
 | [.tuple ts]=>some (.list ts)
 | [.str z]=>grd (z.cps.size≤sizeLine) (.list (lJ z))
 | _=>none
def dU:List D→Option D
 | [.list ts]=>some (.tuple ts)
 | [.tuple ts]=>some (.tuple ts)
 | _=>none
theorem bW (hK:X.K=K):CallR X (.type "tuple") (rFn K dU 0):=(FQ hK).imp fun xs H Q ⟨O,as,t,oa,hd,hg,k⟩=>by
 match as,hg with
 | [.list ts],hg =>
  cases hg
  obtain ⟨v,rfl,o⟩:=oa.one
  obtain ⟨a,vs,rfl,fz,w⟩:=o.lst0
  exact ⟨a,vs,rfl,.inl ⟨fz.sq,fun l hl=>k _ _ _ (eY hl hd w).1 (eY hl hd w).2⟩⟩
 | [.tuple ts],hg =>
  cases hg
  obtain ⟨v,rfl,o⟩:=oa.one
  obtain ⟨a,vs,rfl,fz,w⟩:=o.tup0
  exact ⟨a,vs,rfl,.inr ⟨fz.sq,k _ H NoA .refl (by rw [fj]; exact o)⟩⟩
def rC:List D→Option (List Bool)
 | []=>some []
 | .bool b :: r=>(rC r).map (b :: ·)
 | _ :: _=>none
def Jk:List D→Option D
 | [.list ts]=>(rC ts).map fun bs=>.bool (bs.all id)
 | _=>none
def tyN:D→String
 | .none=>"NoneType" | .bool _=>"bool" | .int _=>"int" | .str _=>"str" | .list _=>"list" | .tuple _=>"tuple" | .dict _=>"dict"
def aH (n T:String):Bool:=n == T || (n == "bool" && T == "int")
theorem rd {T:String} (hT:T∈["int", "bool", "str", "list", "tuple", "dict"]) (a:D):PySem.W.kitOne K (.type (tyN a)) (.type T)=some (aH (tyN a) T):=by
 simp only [List.mem_cons,List.not_mem_nil,or_false] at hT
 rcases hT with rfl | rfl | rfl | rfl | rfl | rfl <;> cases a <;> rfl
def isX:D→Bool
 | .dict [(.none,.str _)]=>true
 | _=>false
def He (K:PySem.W.Frag):List V→Hp→VK→Prop:=fun xs H Q=>∃ x T,∃ (O:AS) (a:D),xs=[x,.ty T]∧Ow K O H a 0 x NoA∧isX a=false∧T∈["int", "bool", "str", "list", "tuple", "dict"]∧Q (.bl (aH (tyN a) T)) H
theorem uN:CallR X (.builtin "isinstance") (He X.K):=by
 intro pins s σ H xs us Q I r h
 obtain ⟨x,T,O,a,rfl,oa,hX,hT,q⟩:=h
 have base:∀ ty,TyOf X.K H x (.type ty)→tyN a=ty→wpAny (model X.prog X.w) X.A (call (.builtin "isinstance") us) (EP X pins σ Q) X.xe s:=fun ty h1 h2=>by
  refine v9 pins s σ H _ us Q I r ⟨x,.type ty,T,aH (tyN a) T,rfl,h1,?_,q⟩
  rw [← h2]
  exact rd hT a
 cases a with
 | none=>exact base _ (by rw [show x=.non from oa]; exact .non) rfl
 | bool b=>exact base _ (by rw [show x=.bl b from oa]; exact .bl b) rfl
 | int b=>exact base _ (by rw [show x=.int b from oa]; exact .int b) rfl
 | str b=>exact base _ (by rw [show x=.str b from oa]; exact .str b) rfl
 | tuple ts =>
  obtain ⟨p,vs,rfl,fz,w⟩:=oa.tup0
  exact base _ (.tup fz.1) rfl
 | dict ts =>
  obtain ⟨p,vs,rfl,⟨_,h1,_⟩ | ⟨_,h1,_⟩ | ⟨_,⟨kk,b,_,h1,_⟩ | ⟨cn,C,h0,_⟩⟩⟩:=oa
  ·exact base _ (.dK h1) rfl
  ·exact base _ (.dK h1) rfl
  ·exact base _ (.dT h1) rfl
  ·subst h0; cases hX
 | list ts =>
  obtain ⟨p,vs,rfl,fz,w⟩:=oa.lst0
  obtain ⟨u,u2,rfl,r1,r2⟩:=r.two
  cases r1
  cases r2
  obtain ⟨its,rv,pl,_⟩:=I.list fz.sq
  have e:=rd (K:=X.K) hT (.list ts)
  obtain ⟨o,n,h1,h2,_⟩:=pl
  exact PySem.W.kia_one PySem.W.kitx_list I.kIn ⟨o,h1,h2⟩ e (fun z=>nomatch z) fun tk=>⟨.bl _,H,I.tok tk,rfl,q⟩
end
def aG (T:String):D→Option D:=fun a=>if isX a=true then none else some (.bool (aH (tyN a) T))
section
variable {X:Cx} {K:PySem.W.Frag} {p:Bool} {ds ds1:List Nat} {d1:Nat} {e:Expr} {f:ME}
theorem Gx {T:Str} {n:String} {px pt pos:Pos} (hK:X.K=K) (hg:Gl X "isinstance") (hm:X.mg "isinstance"=none) (hgT:Gl X T) (hmT:X.mg T=none) (hbT:bootBuiltins T=some (.type n)) (hT:n∈["int", "bool", "str", "list", "tuple", "dict"]) (he:PE X e (tF K p ds ds1 d1 f))
  (hnT:T≠"__name__") (hdT:(T == ("__debug__" : Str))=false)
  (hs1:starEach [e,.Name T pt] X.env=(false,eval e X.env) :: starEach [.Name T pt] X.env) (hs2:starEach [.Name T pt] X.env=(false,eval (.Name T pt) X.env) :: starEach [] X.env) (hpl:(backTo pos (starEach [.Name T pt] X.env)).any (·.1)=false) :
  PE X (.Call (.Name "isinstance" px) [e,.Name T pt] [] pos) (tF K p ds ds1 3 (e1 (aG n) f)):=by
 subst hK
 refine (i8 uN hg hm boot_isinstance (b4 he (b4 (qP (v:=.ty n) hgT hmT hbT rfl hnT hdT) pa_nil hs2) hs1) (by decide) (by decide) hs1 hpl).imp fun σ H Q h=>?_
 obtain ⟨Ox,en,R,t,en',e,hf,k⟩:=h
 unfold e1 at hf
 obtain ⟨⟨t1,en1⟩,h1,hf⟩:=Option.bind_eq_some_iff.mp hf
 obtain ⟨t',h3,hf⟩:=Option.map_eq_some_iff.mp hf
 cases hf
 unfold aG at h3
 by_cases hX:isX t1=true
 ·rw [if_pos hX] at h3; cases h3
 rw [if_neg hX] at h3
 cases h3
 refine ⟨Ox,en,R,t1,en1,e,h1,fun v H' R' F P o=>?_⟩
 exact ⟨v,n,Own R' Ox,t1,rfl,Ow.letgo P (fun _ z=>z) o,Bool.eq_false_iff.mpr hX,hT,k _ H' R' NoA (P.less fun _ z=>z.elim) rfl⟩
end
end L2
namespace L2
open PySem PySem.Spec PyProof.Rows
mutual
def peq:D→D→Bool
 | .none,.none=>true
 | .bool a,.bool b=>a == b
 | .bool a,.int b=>(if a then (1:Int) else 0) == b
 | .int a,.bool b=>a == (if b then (1:Int) else 0)
 | .int a,.int b=>a == b
 | .str a,.str b=>a == b
 | .list a,.list b=>de a b
 | .tuple a,.tuple b=>de a b
 | _,_=>false
def de:List D→List D→Bool
 | [],[]=>true
 | a :: r,b :: s=>peq a b && de r s
 | _,_=>false
end
mutual
def av:D→Bool
 | .dict _=>false
 | .list ts=>aB ts
 | .tuple ts=>aB ts
 | _=>true
def aB:List D→Bool
 | []=>true
 | t :: r=>av t && aB r
end
mutual
theorem lr:∀ a:D,av a=true→peq a a=true
 | .none,_=>rfl
 | .bool b,_=>by cases b <;> rfl
 | .int i,_=>by simp [peq]
 | .str i,_=>by simp [peq]
 | .list ts,h=>by simp only [peq]; exact jS ts (by simpa [av] using h)
 | .tuple ts,h=>by simp only [peq]; exact jS ts (by simpa [av] using h)
 | .dict _,h=>by simp [av] at h
theorem jS:∀ a:List D,aB a=true→de a a=true
 | [],_=>rfl
 | t :: r,h=>by
  have h':av t=true∧aB r=true:=by simpa [aB] using h
  simp only [de,lr t h'.1,jS r h'.2,Bool.and_self]
end
mutual
def ff:D→Nat
 | .list ts=>bD ts+1
 | .tuple ts=>bD ts+1
 | _=>0
def bD:List D→Nat
 | []=>0
 | t :: r=>max (ff t) (bD r)
end
theorem j6:∀ {ts:List D} {i:Nat} {t:D},ts[i]?=some t→ff t≤bD ts
 | [],_,_,h=>by simp at h
 | u :: r,i,t,h=>by
  simp only [bD]
  cases i with
  | zero=>simp at h; subst h; exact Nat.le_max_left _ _
  | succ i=>exact Nat.le_trans (j6 (by simpa using h)) (Nat.le_max_right _ _)
theorem dL:∀ {ts:List D} {i:Nat} {t:D},aB ts=true→ts[i]?=some t→av t=true
 | [],_,_,_,h=>by simp at h
 | u :: r,i,t,hn,h=>by
  have h':av u=true∧aB r=true:=by simpa [aB] using hn
  cases i with
  | zero=>simp at h; subst h; exact h'.1
  | succ i=>exact dL h'.2 (by simpa using h)
theorem lp:∀ {a b:List D},a.length≠b.length→de a b=false
 | [],[],h=>absurd rfl h
 | [],_ :: _,_=>rfl
 | _ :: _,[],_=>rfl
 | a :: r,b :: s,h=>by
  simp only [de,lp (a:=r) (b:=s) (fun z=>h (by rw [List.length_cons,List.length_cons,z])),Bool.and_false]
def eAt (a b:List D) (j:Nat):Bool:=match a[j]?,b[j]? with
 | some x,some y=>peq x y
 | _,_=>true
theorem m6 (n:Nat) (f:Nat→Bool):(List.range (n+1)).all f=(f 0 && (List.range n).all fun j=>f (j+1)):=by
 rw [List.range_succ_eq_map,List.all_cons,List.all_map]
 rfl
theorem lq:∀ {a b:List D},a.length=b.length→(List.range a.length).all (eAt a b)=de a b
 | [],[],_=>rfl
 | a :: r,b :: s,h=>by
  rw [List.length_cons,m6]
  have e:(List.range r.length).all (fun j=>eAt (a :: r) (b :: s) (j+1))=(List.range r.length).all (eAt r s):=by
   congr 1
  rw [e,lq (by simpa using h)]
  rfl
 | [],_ :: _,h=>by simp at h
 | _ :: _,[],h=>by simp at h
section
open PySem.SeqAt
variable {X:Cx} {pins:List (Addr × Obj)} {σ:St} {H:Hp} {s:Shared} {O:AS}
theorem A8 {p:Addr} {vs ws:List V} (I:Inv X pins σ H s) (h:SqL X.K H p vs) (g:SqT X.K H p ws):False:=by
 obtain ⟨its,_,p1,_⟩:=I.list h
 obtain ⟨its2,_,p2,_⟩:=I.tuple g
 exact ne_of_list_tuple p1.isList (show s.heap.IsTuple p its2.toArray from p2) rfl
theorem FC {p:Addr} {vs:List V} {ks:List (List Key × V)} (I:Inv X pins σ H s) (h:SqL X.K H p vs) (g:H p=some (.dT ks)):False:=by
 obtain ⟨its,_,⟨o,n,e1,e2,_⟩,_⟩:=I.list h
 obtain ⟨_,_,_,_,o',_,_,g1,g2,_⟩:=Bt I.hok g
 rw [e1] at g1
 cases g1
 rw [g2.1] at e2
 simp at e2
theorem Ho {p:Addr} {vs:List V} {ks:List (Key × V)} (I:Inv X pins σ H s) (h:SqL X.K H p vs) (g:H p=some (.dK ks)):False:=by
 obtain ⟨its,_,⟨o,n,e1,e2,_⟩,_⟩:=I.list h
 obtain ⟨_,_,_,_,o',_,_,g1,g2,_⟩:=sL I.hok g
 rw [e1] at g1
 cases g1
 rw [g2.1] at e2
 simp at e2
mutual
theorem Ow.inj (I:Inv X pins σ H s):∀ (a b:D) {x:V},Ow X.K O H a 0 x NoA→Ow X.K O H b 0 x NoA→av a=true→a=b
 | .none,b,_,h,g,_=>by
  cases (show _=_ from h)
  cases b with
  | none=>rfl
  | list ts=>obtain ⟨_,_,z,_⟩:=g; cases z
  | tuple ts=>obtain ⟨_,_,z,_⟩:=g; cases z
  | dict ts=>obtain ⟨_,_,z,_⟩:=g; cases z
  | bool c=>cases (show V.non=V.bl c from g)
  | int c=>cases (show V.non=V.int c from g)
  | str c=>cases (show V.non=V.str c from g)
 | .bool c,b,_,h,g,_=>by
  cases (show _=_ from h)
  cases b with
  | none=>cases (show V.bl c=V.non from g)
  | list ts=>obtain ⟨_,_,z,_⟩:=g; cases z
  | tuple ts=>obtain ⟨_,_,z,_⟩:=g; cases z
  | dict ts=>obtain ⟨_,_,z,_⟩:=g; cases z
  | bool c'=>cases (show V.bl c=V.bl c' from g); rfl
  | int c'=>cases (show V.bl c=V.int c' from g)
  | str c'=>cases (show V.bl c=V.str c' from g)
 | .int c,b,_,h,g,_=>by
  cases (show _=_ from h)
  cases b with
  | none=>cases (show V.int c=V.non from g)
  | list ts=>obtain ⟨_,_,z,_⟩:=g; cases z
  | tuple ts=>obtain ⟨_,_,z,_⟩:=g; cases z
  | dict ts=>obtain ⟨_,_,z,_⟩:=g; cases z
  | bool c'=>cases (show V.int c=V.bl c' from g)
  | int c'=>cases (show V.int c=V.int c' from g); rfl
  | str c'=>cases (show V.int c=V.str c' from g)
 | .str c,b,_,h,g,_=>by
  cases (show _=_ from h)
  cases b with
  | none=>cases (show V.str c=V.non from g)
  | list ts=>obtain ⟨_,_,z,_⟩:=g; cases z
  | tuple ts=>obtain ⟨_,_,z,_⟩:=g; cases z
  | dict ts=>obtain ⟨_,_,z,_⟩:=g; cases z
  | bool c'=>cases (show V.str c=V.bl c' from g)
  | int c'=>cases (show V.str c=V.int c' from g)
  | str c'=>cases (show V.str c=V.str c' from g); rfl
 | .list ts,b,_,h,g,hn=>by
  obtain ⟨p,vs,rfl,fz,w⟩:=h.lst0
  cases b with
  | none=>cases (show V.ref p=V.non from g)
  | bool c'=>cases (show V.ref p=V.bl c' from g)
  | int c'=>cases (show V.ref p=V.int c' from g)
  | str c'=>cases (show V.ref p=V.str c' from g)
  | list us =>
   obtain ⟨p',vs',e,fz',w'⟩:=g.lst0
   cases e
   have:=I.list_inj fz.sq fz'.sq
   subst this
   rw [Ows.inj I ts us w w' (by simpa [av] using hn)]
  | tuple us =>
   obtain ⟨p',vs',e,fz',w'⟩:=g.tup0
   cases e
   exact (A8 I fz.sq fz'.sq).elim
  | dict us =>
   obtain ⟨p',vs',e,⟨_,g1,_⟩ | ⟨z,_⟩ | ⟨_,⟨_,_,_,g1,_⟩ | ⟨_,C,_,_,g1,_⟩⟩⟩:=g
   ·cases e
    exact (Ho I fz.sq g1).elim
   ·exact absurd rfl z
   ·cases e
    exact (FC I fz.sq g1).elim
   ·cases e
    obtain ⟨its,rv,⟨o,n,e1,e2,_⟩,_⟩:=I.list fz.sq
    obtain ⟨⟨o',x1,x2,_⟩,_⟩:=(show ObjOk X.prog X.w H s.heap p (.ext (eP p C)) from I.hok p _ g1)
    rw [e1] at x1
    cases x1
    rw [e2] at x2
    cases x2
 | .tuple ts,b,_,h,g,hn=>by
  obtain ⟨p,vs,rfl,fz,w⟩:=h.tup0
  cases b with
  | none=>cases (show V.ref p=V.non from g)
  | bool c'=>cases (show V.ref p=V.bl c' from g)
  | int c'=>cases (show V.ref p=V.int c' from g)
  | str c'=>cases (show V.ref p=V.str c' from g)
  | tuple us =>
   obtain ⟨p',vs',e,fz',w'⟩:=g.tup0
   cases e
   have:=fz.1.symm.trans fz'.1
   cases this
   rw [Ows.inj I ts us w w' (by simpa [av] using hn)]
  | list us =>
   obtain ⟨p',vs',e,fz',w'⟩:=g.lst0
   cases e
   exact (A8 I fz'.sq fz.sq).elim
  | dict us =>
   obtain ⟨p',vs',e,⟨_,g1,_⟩ | ⟨z,_⟩ | ⟨_,⟨_,_,_,g1,_⟩ | ⟨_,C,_,_,g1,_⟩⟩⟩:=g
   ·cases e
    rw [fz.1] at g1
    cases g1
   ·exact absurd rfl z
   ·cases e
    rw [fz.1] at g1
    cases g1
   ·cases e
    rw [fz.1] at g1
    cases g1
 | .dict _,_,_,_,_,hn=>by simp [av] at hn
theorem Ows.inj (I:Inv X pins σ H s):∀ (a b:List D) {x:List V},Ows X.K O H a 0 x NoA→Ows X.K O H b 0 x NoA→aB a=true→a=b
 | [],b,_,h,g,_=>by
  cases (show _=_ from h)
  cases b with
  | nil=>rfl
  | cons u us=>obtain ⟨_,_,_,_,e,_⟩:=g; cases e
 | t :: ts,b,_,h,g,hn=>by
  obtain ⟨v,r,F1,F2,e,_,_,_,h4,h5⟩:=h
  subst e
  have hn':av t=true∧aB ts=true:=by simpa [aB] using hn
  cases b with
  | nil=>cases (show v :: r=[] from g)
  | cons u us =>
   obtain ⟨v',r',G1,G2,e,_,_,_,g4,g5⟩:=g
   cases e
   rw [Ow.inj I t u (Ow.any0 t h4) (Ow.any0 u g4) hn'.1,Ows.inj I ts us (Ows.any0 ts h5) (Ows.any0 us g5) hn'.2]
end
theorem oW {A:Around} {ts us:List D} {vs ws:List V} {its its2:List Value} (w:Ows X.K O H ts 0 vs NoA) (w2:Ows X.K O H us 0 ws NoA) (rv:Vals vs its) (rv2:Vals ws its2)
  (ih:∀ (j:Nat) a b x y v u,ts[j]?=some a→us[j]?=some b→Ow X.K O H a 0 x NoA→Ow X.K O H b 0 y NoA→RelV x v→RelV y u→EqAt A s v u (peq a b)) :
  ∀ j (h1:j < its.toArray.size) (h2:j < its2.toArray.size),EqAt A s its.toArray[j] its2.toArray[j] (eAt ts us j):=fun j h1 h2=>by
 have h1':j < its.length:=by simpa using h1
 have h2':j < its2.length:=by simpa using h2
 have l1:=rv.length
 have l2:=rv2.length
 have m1:=w.len
 have m2:=w2.len
 have e1:ts[j]?=some ts[j]:=List.getElem?_eq_getElem (by omega)
 have e2:us[j]?=some us[j]:=List.getElem?_eq_getElem (by omega)
 obtain ⟨x,g1,o1⟩:=w.get e1
 obtain ⟨y,g2,o2⟩:=w2.get e2
 obtain ⟨u1,f1,q1⟩:=rv.get g1
 obtain ⟨u2,f2,q2⟩:=rv2.get g2
 have z:=ih j _ _ x y u1 u2 e1 e2 o1 o2 q1 q2
 rw [List.getElem?_eq_getElem h1'] at f1
 rw [List.getElem?_eq_getElem h2'] at f2
 have i1:its.toArray[j]=u1:=by simpa using Option.some.inj f1
 have i2:its2.toArray[j]=u2:=by simpa using Option.some.inj f2
 rw [i1,i2]
 unfold eAt
 rw [e1,e2]
 exact z
theorem sK (I:Inv X pins σ H s):∀ (n:Nat) (a b:D) (A:Around) (x y:V) (v u:Value),ff a≤n→av a=true→av b=true→Ow X.K O H a 0 x NoA→Ow X.K O H b 0 y NoA→RelV x v→RelV y u→A.units+n+1 < cLine →
  EqAt A s v u (peq a b)∧RcAt A s v u (peq a b)∧RcNeAt A s v u (!peq a b):=by
 intro n
 induction n with
 | zero =>
  intro a b A x y v u hdp hna hnb o1 o2 r1 r2 hun
  have hu:A.units < cLine:=by omega
  cases a with
  | none =>
   cases b with
   | none =>
    cases (show x=V.non from o1)
    cases r1
    cases (show y=V.non from o2)
    cases r2
    exact ⟨EqAt.same _,RcAt.none_none,RcNeAt.none_none⟩
   | bool c2 =>
    cases (show x=V.non from o1)
    cases r1
    cases (show y=V.bl c2 from o2)
    cases r2
    exact ⟨EqAt.none_bool _,RcAt.none_bool _,RcNeAt.none_bool _⟩
   | int c2 =>
    cases (show x=V.non from o1)
    cases r1
    cases (show y=V.int c2 from o2)
    obtain ⟨tk2,rfl⟩:=r2
    exact ⟨EqAt.none_int _ _,RcAt.none_int _ _,RcNeAt.none_int _ _⟩
   | str c2 =>
    cases (show x=V.non from o1)
    cases r1
    cases (show y=V.str c2 from o2)
    obtain ⟨tk2,rfl⟩:=r2
    exact ⟨EqAt.none_str _ _,RcAt.none_str _ _,RcNeAt.none_str _ _⟩
   | list c2 =>
    cases (show x=V.non from o1)
    cases r1
    obtain ⟨p2,vs2,rfl,fz2,w2⟩:=o2.lst0
    cases r2
    obtain ⟨its2,rv2,pl2,_⟩:=I.list fz2.sq
    have hl2:=pl2.isList
    exact ⟨EqAt.none_list  hl2 hu,RcAt.none_list  hl2 hu,RcNeAt.none_list  hl2 hu⟩
   | tuple c2 =>
    cases (show x=V.non from o1)
    cases r1
    obtain ⟨p2,vs2,rfl,fz2,w2⟩:=o2.tup0
    cases r2
    obtain ⟨its2,rv2,pl2,_⟩:=I.tuple fz2.sq
    have hl2:s.heap.IsTuple p2 its2.toArray:=pl2
    exact ⟨EqAt.none_tuple  hl2 hu,RcAt.none_tuple  hl2 hu,RcNeAt.none_tuple  hl2 hu⟩
   | dict c2=>simp [av] at hnb
  | bool c1 =>
   cases b with
   | none =>
    cases (show x=V.bl c1 from o1)
    cases r1
    cases (show y=V.non from o2)
    cases r2
    exact ⟨EqAt.bool_none _,RcAt.bool_none _,RcNeAt.bool_none _⟩
   | bool c2 =>
    cases (show x=V.bl c1 from o1)
    cases r1
    cases (show y=V.bl c2 from o2)
    cases r2
    exact ⟨EqAt.bool_bool _ _,RcAt.bool_bool _ _,RcNeAt.bool_bool _ _⟩
   | int c2 =>
    cases (show x=V.bl c1 from o1)
    cases r1
    cases (show y=V.int c2 from o2)
    obtain ⟨tk2,rfl⟩:=r2
    exact ⟨EqAt.bool_int _ _ _,RcAt.bool_int _ _ _,RcNeAt.bool_int _ _ _⟩
   | str c2 =>
    cases (show x=V.bl c1 from o1)
    cases r1
    cases (show y=V.str c2 from o2)
    obtain ⟨tk2,rfl⟩:=r2
    exact ⟨EqAt.bool_str _ _ _,RcAt.bool_str _ _ _,RcNeAt.bool_str _ _ _⟩
   | list c2 =>
    cases (show x=V.bl c1 from o1)
    cases r1
    obtain ⟨p2,vs2,rfl,fz2,w2⟩:=o2.lst0
    cases r2
    obtain ⟨its2,rv2,pl2,_⟩:=I.list fz2.sq
    have hl2:=pl2.isList
    exact ⟨EqAt.bool_list _ hl2 hu,RcAt.bool_list _ hl2 hu,RcNeAt.bool_list _ hl2 hu⟩
   | tuple c2 =>
    cases (show x=V.bl c1 from o1)
    cases r1
    obtain ⟨p2,vs2,rfl,fz2,w2⟩:=o2.tup0
    cases r2
    obtain ⟨its2,rv2,pl2,_⟩:=I.tuple fz2.sq
    have hl2:s.heap.IsTuple p2 its2.toArray:=pl2
    exact ⟨EqAt.bool_tuple _ hl2 hu,RcAt.bool_tuple _ hl2 hu,RcNeAt.bool_tuple _ hl2 hu⟩
   | dict c2=>simp [av] at hnb
  | int c1 =>
   cases b with
   | none =>
    cases (show x=V.int c1 from o1)
    obtain ⟨tk1,rfl⟩:=r1
    cases (show y=V.non from o2)
    cases r2
    exact ⟨EqAt.int_none _ _,RcAt.int_none _ _,RcNeAt.int_none _ _⟩
   | bool c2 =>
    cases (show x=V.int c1 from o1)
    obtain ⟨tk1,rfl⟩:=r1
    cases (show y=V.bl c2 from o2)
    cases r2
    exact ⟨EqAt.int_bool _ _ _,RcAt.int_bool _ _ _,RcNeAt.int_bool _ _ _⟩
   | int c2 =>
    cases (show x=V.int c1 from o1)
    obtain ⟨tk1,rfl⟩:=r1
    cases (show y=V.int c2 from o2)
    obtain ⟨tk2,rfl⟩:=r2
    exact ⟨EqAt.int_int _ _ _ _,RcAt.int_int _ _ _ _,RcNeAt.int_int _ _ _ _⟩
   | str c2 =>
    cases (show x=V.int c1 from o1)
    obtain ⟨tk1,rfl⟩:=r1
    cases (show y=V.str c2 from o2)
    obtain ⟨tk2,rfl⟩:=r2
    exact ⟨EqAt.int_str _ _ _ _,RcAt.int_str _ _ _ _,RcNeAt.int_str _ _ _ _⟩
   | list c2 =>
    cases (show x=V.int c1 from o1)
    obtain ⟨tk1,rfl⟩:=r1
    obtain ⟨p2,vs2,rfl,fz2,w2⟩:=o2.lst0
    cases r2
    obtain ⟨its2,rv2,pl2,_⟩:=I.list fz2.sq
    have hl2:=pl2.isList
    exact ⟨EqAt.int_list _ _ hl2 hu,RcAt.int_list _ _ hl2 hu,RcNeAt.int_list _ _ hl2 hu⟩
   | tuple c2 =>
    cases (show x=V.int c1 from o1)
    obtain ⟨tk1,rfl⟩:=r1
    obtain ⟨p2,vs2,rfl,fz2,w2⟩:=o2.tup0
    cases r2
    obtain ⟨its2,rv2,pl2,_⟩:=I.tuple fz2.sq
    have hl2:s.heap.IsTuple p2 its2.toArray:=pl2
    exact ⟨EqAt.int_tuple _ _ hl2 hu,RcAt.int_tuple _ _ hl2 hu,RcNeAt.int_tuple _ _ hl2 hu⟩
   | dict c2=>simp [av] at hnb
  | str c1 =>
   cases b with
   | none =>
    cases (show x=V.str c1 from o1)
    obtain ⟨tk1,rfl⟩:=r1
    cases (show y=V.non from o2)
    cases r2
    exact ⟨EqAt.str_none _ _,RcAt.str_none _ _,RcNeAt.str_none _ _⟩
   | bool c2 =>
    cases (show x=V.str c1 from o1)
    obtain ⟨tk1,rfl⟩:=r1
    cases (show y=V.bl c2 from o2)
    cases r2
    exact ⟨EqAt.str_bool _ _ _,RcAt.str_bool _ _ _,RcNeAt.str_bool _ _ _⟩
   | int c2 =>
    cases (show x=V.str c1 from o1)
    obtain ⟨tk1,rfl⟩:=r1
    cases (show y=V.int c2 from o2)
    obtain ⟨tk2,rfl⟩:=r2
    exact ⟨EqAt.str_int _ _ _ _,RcAt.str_int _ _ _ _,RcNeAt.str_int _ _ _ _⟩
   | str c2 =>
    cases (show x=V.str c1 from o1)
    obtain ⟨tk1,rfl⟩:=r1
    cases (show y=V.str c2 from o2)
    obtain ⟨tk2,rfl⟩:=r2
    exact ⟨EqAt.str_str _ _ _ _,RcAt.str_str _ _ _ _,RcNeAt.str_str _ _ _ _⟩
   | list c2 =>
    cases (show x=V.str c1 from o1)
    obtain ⟨tk1,rfl⟩:=r1
    obtain ⟨p2,vs2,rfl,fz2,w2⟩:=o2.lst0
    cases r2
    obtain ⟨its2,rv2,pl2,_⟩:=I.list fz2.sq
    have hl2:=pl2.isList
    exact ⟨EqAt.str_list _ _ hl2 hu,RcAt.str_list _ _ hl2 hu,RcNeAt.str_list _ _ hl2 hu⟩
   | tuple c2 =>
    cases (show x=V.str c1 from o1)
    obtain ⟨tk1,rfl⟩:=r1
    obtain ⟨p2,vs2,rfl,fz2,w2⟩:=o2.tup0
    cases r2
    obtain ⟨its2,rv2,pl2,_⟩:=I.tuple fz2.sq
    have hl2:s.heap.IsTuple p2 its2.toArray:=pl2
    exact ⟨EqAt.str_tuple _ _ hl2 hu,RcAt.str_tuple _ _ hl2 hu,RcNeAt.str_tuple _ _ hl2 hu⟩
   | dict c2=>simp [av] at hnb
  | list c1 =>
   simp only [ff] at hdp
   omega
  | tuple c1 =>
   simp only [ff] at hdp
   omega
  | dict c1=>simp [av] at hna
 | succ n ih =>
  intro a b A x y v u hdp hna hnb o1 o2 r1 r2 hun
  have hu:A.units < cLine:=by omega
  have hu1:A.in1.units+n+1 < cLine:=by
   show A.units+1+n+1 < cLine
   omega
  cases a with
  | none =>
   cases b with
   | none =>
    cases (show x=V.non from o1)
    cases r1
    cases (show y=V.non from o2)
    cases r2
    exact ⟨EqAt.same _,RcAt.none_none,RcNeAt.none_none⟩
   | bool c2 =>
    cases (show x=V.non from o1)
    cases r1
    cases (show y=V.bl c2 from o2)
    cases r2
    exact ⟨EqAt.none_bool _,RcAt.none_bool _,RcNeAt.none_bool _⟩
   | int c2 =>
    cases (show x=V.non from o1)
    cases r1
    cases (show y=V.int c2 from o2)
    obtain ⟨tk2,rfl⟩:=r2
    exact ⟨EqAt.none_int _ _,RcAt.none_int _ _,RcNeAt.none_int _ _⟩
   | str c2 =>
    cases (show x=V.non from o1)
    cases r1
    cases (show y=V.str c2 from o2)
    obtain ⟨tk2,rfl⟩:=r2
    exact ⟨EqAt.none_str _ _,RcAt.none_str _ _,RcNeAt.none_str _ _⟩
   | list c2 =>
    cases (show x=V.non from o1)
    cases r1
    obtain ⟨p2,vs2,rfl,fz2,w2⟩:=o2.lst0
    cases r2
    obtain ⟨its2,rv2,pl2,_⟩:=I.list fz2.sq
    have hl2:=pl2.isList
    exact ⟨EqAt.none_list  hl2 hu,RcAt.none_list  hl2 hu,RcNeAt.none_list  hl2 hu⟩
   | tuple c2 =>
    cases (show x=V.non from o1)
    cases r1
    obtain ⟨p2,vs2,rfl,fz2,w2⟩:=o2.tup0
    cases r2
    obtain ⟨its2,rv2,pl2,_⟩:=I.tuple fz2.sq
    have hl2:s.heap.IsTuple p2 its2.toArray:=pl2
    exact ⟨EqAt.none_tuple  hl2 hu,RcAt.none_tuple  hl2 hu,RcNeAt.none_tuple  hl2 hu⟩
   | dict c2=>simp [av] at hnb
  | bool c1 =>
   cases b with
   | none =>
    cases (show x=V.bl c1 from o1)
    cases r1
    cases (show y=V.non from o2)
    cases r2
    exact ⟨EqAt.bool_none _,RcAt.bool_none _,RcNeAt.bool_none _⟩
   | bool c2 =>
    cases (show x=V.bl c1 from o1)
    cases r1
    cases (show y=V.bl c2 from o2)
    cases r2
    exact ⟨EqAt.bool_bool _ _,RcAt.bool_bool _ _,RcNeAt.bool_bool _ _⟩
   | int c2 =>
    cases (show x=V.bl c1 from o1)
    cases r1
    cases (show y=V.int c2 from o2)
    obtain ⟨tk2,rfl⟩:=r2
    exact ⟨EqAt.bool_int _ _ _,RcAt.bool_int _ _ _,RcNeAt.bool_int _ _ _⟩
   | str c2 =>
    cases (show x=V.bl c1 from o1)
    cases r1
    cases (show y=V.str c2 from o2)
    obtain ⟨tk2,rfl⟩:=r2
    exact ⟨EqAt.bool_str _ _ _,RcAt.bool_str _ _ _,RcNeAt.bool_str _ _ _⟩
   | list c2 =>
    cases (show x=V.bl c1 from o1)
    cases r1
    obtain ⟨p2,vs2,rfl,fz2,w2⟩:=o2.lst0
    cases r2
    obtain ⟨its2,rv2,pl2,_⟩:=I.list fz2.sq
    have hl2:=pl2.isList
    exact ⟨EqAt.bool_list _ hl2 hu,RcAt.bool_list _ hl2 hu,RcNeAt.bool_list _ hl2 hu⟩
   | tuple c2 =>
    cases (show x=V.bl c1 from o1)
    cases r1
    obtain ⟨p2,vs2,rfl,fz2,w2⟩:=o2.tup0
    cases r2
    obtain ⟨its2,rv2,pl2,_⟩:=I.tuple fz2.sq
    have hl2:s.heap.IsTuple p2 its2.toArray:=pl2
    exact ⟨EqAt.bool_tuple _ hl2 hu,RcAt.bool_tuple _ hl2 hu,RcNeAt.bool_tuple _ hl2 hu⟩
   | dict c2=>simp [av] at hnb
  | int c1 =>
   cases b with
   | none =>
    cases (show x=V.int c1 from o1)
    obtain ⟨tk1,rfl⟩:=r1
    cases (show y=V.non from o2)
    cases r2
    exact ⟨EqAt.int_none _ _,RcAt.int_none _ _,RcNeAt.int_none _ _⟩
   | bool c2 =>
    cases (show x=V.int c1 from o1)
    obtain ⟨tk1,rfl⟩:=r1
    cases (show y=V.bl c2 from o2)
    cases r2
    exact ⟨EqAt.int_bool _ _ _,RcAt.int_bool _ _ _,RcNeAt.int_bool _ _ _⟩
   | int c2 =>
    cases (show x=V.int c1 from o1)
    obtain ⟨tk1,rfl⟩:=r1
    cases (show y=V.int c2 from o2)
    obtain ⟨tk2,rfl⟩:=r2
    exact ⟨EqAt.int_int _ _ _ _,RcAt.int_int _ _ _ _,RcNeAt.int_int _ _ _ _⟩
   | str c2 =>
    cases (show x=V.int c1 from o1)
    obtain ⟨tk1,rfl⟩:=r1
    cases (show y=V.str c2 from o2)
    obtain ⟨tk2,rfl⟩:=r2
    exact ⟨EqAt.int_str _ _ _ _,RcAt.int_str _ _ _ _,RcNeAt.int_str _ _ _ _⟩
   | list c2 =>
    cases (show x=V.int c1 from o1)
    obtain ⟨tk1,rfl⟩:=r1
    obtain ⟨p2,vs2,rfl,fz2,w2⟩:=o2.lst0
    cases r2
    obtain ⟨its2,rv2,pl2,_⟩:=I.list fz2.sq
    have hl2:=pl2.isList
    exact ⟨EqAt.int_list _ _ hl2 hu,RcAt.int_list _ _ hl2 hu,RcNeAt.int_list _ _ hl2 hu⟩
   | tuple c2 =>
    cases (show x=V.int c1 from o1)
    obtain ⟨tk1,rfl⟩:=r1
    obtain ⟨p2,vs2,rfl,fz2,w2⟩:=o2.tup0
    cases r2
    obtain ⟨its2,rv2,pl2,_⟩:=I.tuple fz2.sq
    have hl2:s.heap.IsTuple p2 its2.toArray:=pl2
    exact ⟨EqAt.int_tuple _ _ hl2 hu,RcAt.int_tuple _ _ hl2 hu,RcNeAt.int_tuple _ _ hl2 hu⟩
   | dict c2=>simp [av] at hnb
  | str c1 =>
   cases b with
   | none =>
    cases (show x=V.str c1 from o1)
    obtain ⟨tk1,rfl⟩:=r1
    cases (show y=V.non from o2)
    cases r2
    exact ⟨EqAt.str_none _ _,RcAt.str_none _ _,RcNeAt.str_none _ _⟩
   | bool c2 =>
    cases (show x=V.str c1 from o1)
    obtain ⟨tk1,rfl⟩:=r1
    cases (show y=V.bl c2 from o2)
    cases r2
    exact ⟨EqAt.str_bool _ _ _,RcAt.str_bool _ _ _,RcNeAt.str_bool _ _ _⟩
   | int c2 =>
    cases (show x=V.str c1 from o1)
    obtain ⟨tk1,rfl⟩:=r1
    cases (show y=V.int c2 from o2)
    obtain ⟨tk2,rfl⟩:=r2
    exact ⟨EqAt.str_int _ _ _ _,RcAt.str_int _ _ _ _,RcNeAt.str_int _ _ _ _⟩
   | str c2 =>
    cases (show x=V.str c1 from o1)
    obtain ⟨tk1,rfl⟩:=r1
    cases (show y=V.str c2 from o2)
    obtain ⟨tk2,rfl⟩:=r2
    exact ⟨EqAt.str_str _ _ _ _,RcAt.str_str _ _ _ _,RcNeAt.str_str _ _ _ _⟩
   | list c2 =>
    cases (show x=V.str c1 from o1)
    obtain ⟨tk1,rfl⟩:=r1
    obtain ⟨p2,vs2,rfl,fz2,w2⟩:=o2.lst0
    cases r2
    obtain ⟨its2,rv2,pl2,_⟩:=I.list fz2.sq
    have hl2:=pl2.isList
    exact ⟨EqAt.str_list _ _ hl2 hu,RcAt.str_list _ _ hl2 hu,RcNeAt.str_list _ _ hl2 hu⟩
   | tuple c2 =>
    cases (show x=V.str c1 from o1)
    obtain ⟨tk1,rfl⟩:=r1
    obtain ⟨p2,vs2,rfl,fz2,w2⟩:=o2.tup0
    cases r2
    obtain ⟨its2,rv2,pl2,_⟩:=I.tuple fz2.sq
    have hl2:s.heap.IsTuple p2 its2.toArray:=pl2
    exact ⟨EqAt.str_tuple _ _ hl2 hu,RcAt.str_tuple _ _ hl2 hu,RcNeAt.str_tuple _ _ hl2 hu⟩
   | dict c2=>simp [av] at hnb
  | list c1 =>
   cases b with
   | none =>
    obtain ⟨p1,vs1,rfl,fz1,w1⟩:=o1.lst0
    cases r1
    obtain ⟨its1,rv1,pl1,_⟩:=I.list fz1.sq
    have hl1:=pl1.isList
    cases (show y=V.non from o2)
    cases r2
    exact ⟨EqAt.list_none  hl1 hu,RcAt.list_none  hl1 hu,RcNeAt.list_none  hl1 hu⟩
   | bool c2 =>
    obtain ⟨p1,vs1,rfl,fz1,w1⟩:=o1.lst0
    cases r1
    obtain ⟨its1,rv1,pl1,_⟩:=I.list fz1.sq
    have hl1:=pl1.isList
    cases (show y=V.bl c2 from o2)
    cases r2
    exact ⟨EqAt.list_bool _ hl1 hu,RcAt.list_bool _ hl1 hu,RcNeAt.list_bool _ hl1 hu⟩
   | int c2 =>
    obtain ⟨p1,vs1,rfl,fz1,w1⟩:=o1.lst0
    cases r1
    obtain ⟨its1,rv1,pl1,_⟩:=I.list fz1.sq
    have hl1:=pl1.isList
    cases (show y=V.int c2 from o2)
    obtain ⟨tk2,rfl⟩:=r2
    exact ⟨EqAt.list_int _ _ hl1 hu,RcAt.list_int _ _ hl1 hu,RcNeAt.list_int _ _ hl1 hu⟩
   | str c2 =>
    obtain ⟨p1,vs1,rfl,fz1,w1⟩:=o1.lst0
    cases r1
    obtain ⟨its1,rv1,pl1,_⟩:=I.list fz1.sq
    have hl1:=pl1.isList
    cases (show y=V.str c2 from o2)
    obtain ⟨tk2,rfl⟩:=r2
    exact ⟨EqAt.list_str _ _ hl1 hu,RcAt.list_str _ _ hl1 hu,RcNeAt.list_str _ _ hl1 hu⟩
   | list c2 =>
    obtain ⟨p1,vs1,rfl,fz1,w1⟩:=o1.lst0
    cases r1
    obtain ⟨its1,rv1,pl1,_⟩:=I.list fz1.sq
    have hl1:=pl1.isList
    obtain ⟨p2,vs2,rfl,fz2,w2⟩:=o2.lst0
    cases r2
    obtain ⟨its2,rv2,pl2,_⟩:=I.list fz2.sq
    have hl2:=pl2.isList
    have dl:bD c1≤n:=by simp only [ff] at hdp; omega
    have nd1:aB c1=true:=by simpa [av] using hna
    have nd2:aB c2=true:=by simpa [av] using hnb
    have el:=oW (A:=A.in1) w1 w2 rv1 rv2 fun j a b x y v u e1 e2 q1 q2 q3 q4=>(ih a b A.in1 x y v u (Nat.le_trans (j6 e1) dl) (dL nd1 e1) (dL nd2 e2) q1 q2 q3 q4 hu1).1
    have l1:=rv1.length
    have l2:=rv2.length
    have m1:=w1.len
    have m2:=w2.len
    have rc:RcAt A s (.ref p1) (.ref p2) (de c1 c2)∧RcNeAt A s (.ref p1) (.ref p2) (!de c1 c2):=by
     by_cases hz:c1.length=c2.length
     ·have hs1:its1.toArray.size=its2.toArray.size:=by rw [List.size_toArray,List.size_toArray]; omega
      have hs2:its1.toArray.size=c1.length:=by rw [List.size_toArray]; omega
      have z1:=RcAt.lists hl1 hl2 hs1 hu el
      have z2:=RcNeAt.lists hl1 hl2 hs1 hu el
      rw [hs2,lq hz] at z1 z2
      exact ⟨z1,z2⟩
     ·have hs1:(its1.toArray.size != its2.toArray.size)=true:=by rw [List.size_toArray,List.size_toArray,bne_iff_ne]; omega
      rw [lp hz]
      exact ⟨RcAt.lists_lengths hl1 hl2 hs1 hu,RcNeAt.lists_lengths hl1 hl2 hs1 hu⟩
    have pe:peq (.list c1) (.list c2)=de c1 c2:=by simp only [peq]
    refine ⟨?_,by rw [pe]; exact rc.1,by rw [pe]; exact rc.2⟩
    by_cases hp:p1=p2
    ·subst hp
     have:=Ow.inj I _ _ o1 o2 hna
     cases this
     rw [lr _ hna]
     exact EqAt.same _
    ·rw [pe]
     exact EqAt.of_refs hp rc.1
   | tuple c2 =>
    obtain ⟨p1,vs1,rfl,fz1,w1⟩:=o1.lst0
    cases r1
    obtain ⟨its1,rv1,pl1,_⟩:=I.list fz1.sq
    have hl1:=pl1.isList
    obtain ⟨p2,vs2,rfl,fz2,w2⟩:=o2.tup0
    cases r2
    obtain ⟨its2,rv2,pl2,_⟩:=I.tuple fz2.sq
    have hl2:s.heap.IsTuple p2 its2.toArray:=pl2
    exact ⟨EqAt.list_tuple hl1 hl2 hu,RcAt.list_tuple hl1 hl2 hu,RcNeAt.list_tuple hl1 hl2 hu⟩
   | dict c2=>simp [av] at hnb
  | tuple c1 =>
   cases b with
   | none =>
    obtain ⟨p1,vs1,rfl,fz1,w1⟩:=o1.tup0
    cases r1
    obtain ⟨its1,rv1,pl1,_⟩:=I.tuple fz1.sq
    have hl1:s.heap.IsTuple p1 its1.toArray:=pl1
    cases (show y=V.non from o2)
    cases r2
    exact ⟨EqAt.tuple_none  hl1 hu,RcAt.tuple_none  hl1 hu,RcNeAt.tuple_none  hl1 hu⟩
   | bool c2 =>
    obtain ⟨p1,vs1,rfl,fz1,w1⟩:=o1.tup0
    cases r1
    obtain ⟨its1,rv1,pl1,_⟩:=I.tuple fz1.sq
    have hl1:s.heap.IsTuple p1 its1.toArray:=pl1
    cases (show y=V.bl c2 from o2)
    cases r2
    exact ⟨EqAt.tuple_bool _ hl1 hu,RcAt.tuple_bool _ hl1 hu,RcNeAt.tuple_bool _ hl1 hu⟩
   | int c2 =>
    obtain ⟨p1,vs1,rfl,fz1,w1⟩:=o1.tup0
    cases r1
    obtain ⟨its1,rv1,pl1,_⟩:=I.tuple fz1.sq
    have hl1:s.heap.IsTuple p1 its1.toArray:=pl1
    cases (show y=V.int c2 from o2)
    obtain ⟨tk2,rfl⟩:=r2
    exact ⟨EqAt.tuple_int _ _ hl1 hu,RcAt.tuple_int _ _ hl1 hu,RcNeAt.tuple_int _ _ hl1 hu⟩
   | str c2 =>
    obtain ⟨p1,vs1,rfl,fz1,w1⟩:=o1.tup0
    cases r1
    obtain ⟨its1,rv1,pl1,_⟩:=I.tuple fz1.sq
    have hl1:s.heap.IsTuple p1 its1.toArray:=pl1
    cases (show y=V.str c2 from o2)
    obtain ⟨tk2,rfl⟩:=r2
    exact ⟨EqAt.tuple_str _ _ hl1 hu,RcAt.tuple_str _ _ hl1 hu,RcNeAt.tuple_str _ _ hl1 hu⟩
   | list c2 =>
    obtain ⟨p1,vs1,rfl,fz1,w1⟩:=o1.tup0
    cases r1
    obtain ⟨its1,rv1,pl1,_⟩:=I.tuple fz1.sq
    have hl1:s.heap.IsTuple p1 its1.toArray:=pl1
    obtain ⟨p2,vs2,rfl,fz2,w2⟩:=o2.lst0
    cases r2
    obtain ⟨its2,rv2,pl2,_⟩:=I.list fz2.sq
    have hl2:=pl2.isList
    exact ⟨EqAt.tuple_list hl1 hl2 hu,RcAt.tuple_list hl1 hl2 hu,RcNeAt.tuple_list hl1 hl2 hu⟩
   | tuple c2 =>
    obtain ⟨p1,vs1,rfl,fz1,w1⟩:=o1.tup0
    cases r1
    obtain ⟨its1,rv1,pl1,_⟩:=I.tuple fz1.sq
    have hl1:s.heap.IsTuple p1 its1.toArray:=pl1
    obtain ⟨p2,vs2,rfl,fz2,w2⟩:=o2.tup0
    cases r2
    obtain ⟨its2,rv2,pl2,_⟩:=I.tuple fz2.sq
    have hl2:s.heap.IsTuple p2 its2.toArray:=pl2
    have dl:bD c1≤n:=by simp only [ff] at hdp; omega
    have nd1:aB c1=true:=by simpa [av] using hna
    have nd2:aB c2=true:=by simpa [av] using hnb
    have el:=oW (A:=A.in1) w1 w2 rv1 rv2 fun j a b x y v u e1 e2 q1 q2 q3 q4=>(ih a b A.in1 x y v u (Nat.le_trans (j6 e1) dl) (dL nd1 e1) (dL nd2 e2) q1 q2 q3 q4 hu1).1
    have l1:=rv1.length
    have l2:=rv2.length
    have m1:=w1.len
    have m2:=w2.len
    have rc:RcAt A s (.ref p1) (.ref p2) (de c1 c2)∧RcNeAt A s (.ref p1) (.ref p2) (!de c1 c2):=by
     have z1:=RcAt.tuples hl1 hl2 hu el
     have z2:=RcNeAt.tuples hl1 hl2 hu el
     have ez:((List.range (min its1.toArray.size its2.toArray.size)).all (eAt c1 c2) && its1.toArray.size == its2.toArray.size)=de c1 c2:=by
      rw [List.size_toArray,List.size_toArray]
      by_cases hz:c1.length=c2.length
      ·have h3:its1.length=its2.length:=by omega
       have h4:min its1.length its2.length=c1.length:=by omega
       rw [h4,lq hz,h3,beq_self_eq_true,Bool.and_true]
      ·have h3:(its1.length == its2.length)=false:=by rw [beq_eq_false_iff_ne]; omega
       rw [h3,Bool.and_false,lp hz]
     rw [ez] at z1 z2
     exact ⟨z1,z2⟩
    have pe:peq (.tuple c1) (.tuple c2)=de c1 c2:=by simp only [peq]
    refine ⟨?_,by rw [pe]; exact rc.1,by rw [pe]; exact rc.2⟩
    by_cases hp:p1=p2
    ·subst hp
     have:=Ow.inj I _ _ o1 o2 hna
     cases this
     rw [lr _ hna]
     exact EqAt.same _
    ·rw [pe]
     exact EqAt.of_refs hp rc.1
   | dict c2=>simp [av] at hnb
  | dict c1=>simp [av] at hna
end
def eqD (a b:D):Option D:=grd (av a=true∧av b=true∧ff a≤60) (.bool (peq a b))
def neD (a b:D):Option D:=grd (av a=true∧av b=true∧ff a≤60) (.bool (!peq a b))
section
variable {X:Cx} {K:PySem.W.Frag}
theorem cW (hK:X.K=K) (hu:X.A.units+64 < cLine):OpR X (compareOp .Eq) (rF2 K eqD 3):=by
 subst hK
 intro pins s σ H x y v u Q I rx ry ⟨O,a,b,t,oa,ob,hd,hg,k⟩
 obtain ⟨⟨c1,c2,c3⟩,rfl⟩:=bJ hg
 exact (sK I 60 a b X.A x y v u c3 c1 c2 oa ob rx ry (by omega)).2.1 X.prog X.w _ _ ⟨.bl _,H,I,rfl,k _ H NoA .refl rfl⟩
theorem ia (hK:X.K=K) (hu:X.A.units+64 < cLine):OpR X (compareOp .NotEq) (rF2 K neD 3):=by
 subst hK
 intro pins s σ H x y v u Q I rx ry ⟨O,a,b,t,oa,ob,hd,hg,k⟩
 obtain ⟨⟨c1,c2,c3⟩,rfl⟩:=bJ hg
 exact (sK I 60 a b X.A x y v u c3 c1 c2 oa ob rx ry (by omega)).2.2 X.prog X.w _ _ ⟨.bl _,H,I,rfl,k _ H NoA .refl rfl⟩
end
end L2
namespace L2
open PySem PySem.Spec PyProof.Rows
theorem qG {K:PySem.W.Frag} {dps:List Nat} {dr n:Nat} {F:List D→Option (D × En)} {vs:List V} {H:Hp} {Q:VK} {E:XK} (hn:dps.length=n) (h:spF K dps dr F vs H Q E):vs.length=n:=by
 obtain ⟨Ox,ts,R,r,outs,e,_⟩:=h
 have:=e.l2
 rw [List.length_map] at this
 omega
section
variable {X:Cx} {K:PySem.W.Frag} {p:Bool} {J:Jd} {ds ds0 ds1 ds2 ds3 ds':List Nat} {d d' d1 d2 d3:Nat} {a b c e:Expr} {st:Stmt} {f f1 f2 f3:ME} {m:MS} {pos p2:Pos}
theorem Cl (h:PS X st (tFS K J ds ds2 m)) (hd:leD ds1 ds2=true):PS X st (tFS K J ds ds1 m):=h.imp fun _ _ _=>um hd
def IL (g g':D→D→Option D) (f1 f2 f3:ME):ME:=fun en=>(f1 en).bind fun r=>(f2 r.2).bind fun q=>(g r.1 q.1).bind fun t=>match t with
 | .bool true=>(f3 q.2).bind fun z=>(g' q.1 z.1).map fun t=>(t,z.2)
 | .bool false=>some (.bool false,q.2)
 | _=>none
abbrev MO:=En→Option (Option Int × En)
def tFO (K:PySem.W.Frag) (p:Bool) (ds ds':List Nat) (f:MO):TO:=fun σ H Q=>∃ Ox en R o en',EnvOk K ds Ox H σ en R∧f en=some (o,en')∧∀ H' R',Post K p ds' Ox σ H en R en' H' R' NoA→Q o H'
def dw:MO:=fun en=>some (none,en)
def bX (f:ME):MO:=fun en=>(f en).bind fun r=>match r.1 with
 | .int i=>some (some i,r.2)
 | _=>none
theorem PO.imp {X:Cx} {e:Option Expr} {t t':TO} (h:PO X e t) (hi:∀ σ H Q,t' σ H Q→t σ H Q):PO X e t':=fun pins s σ H Q I hw=>h pins s σ H Q I (hi _ _ _ hw)
theorem Cv:PO X none (tFO K p ds ds dw):=po_none.imp fun σ H Q ⟨Ox,en,R,o,en',e,hf,k⟩=>by
 cases hf
 exact k H R (Post.refl e)
theorem Ct (h:PE X e (tF K p ds ds1 d f)):PO X (some e) (tFO K p ds ds1 (bX f)):=(BK h).imp fun σ H Q ⟨Ox,en,R,o,en',e,hf,k⟩=>by
 unfold bX at hf
 obtain ⟨⟨t1,en1⟩,h1,hf⟩:=Option.bind_eq_some_iff.mp hf
 refine ⟨Ox,en,R,t1,en1,e,h1,fun v H' R' F P o=>?_⟩
 cases t1 with
 | int i=>cases hf; exact ⟨i,o,k H' R' (P.less fun _ z=>z.elim)⟩
 | _=>cases hf
def rFs (K:PySem.W.Frag) (g:D→Option Int→Option Int→Option D) (d:Nat):V→Option Int→Option Int→Hp→VK→Prop:=fun x lo hi H Q=>∃ (O:AS) (a t:D),Ow K O H a 0 x NoA∧(∀ a,O a→∃ o,H a=some o)∧g a lo hi=some t∧∀ v H' F,NewTo H H' F→Ow K (U F O) H' t d v F→Q v H'
def eSl (g:D→Option Int→Option Int→Option D) (f:ME) (lo hi:MO):ME:=fun en=>(f en).bind fun r=>(lo r.2).bind fun l=>(hi l.2).bind fun h=>(g r.1 l.1 h.1).map fun t=>(t,h.2)
variable {lo hi:MO}
theorem Ow.past0 {H1 H2:Hp} {R1 R2:Nat→AS} {Ox:AS} {σ:St} {en1 en2:En} {F2:AS} {t:D} {v:V} (P2:Post K p ds2 Ox σ H1 en1 R1 en2 H2 R2 F2) (h:Ow K (Own R1 Ox) H1 t 0 v NoA):Ow K (Own R2 Ox) H2 t 0 v NoA:=by
 refine Ow.mv (G:=NoA) ⟨fun a o q z=>P2.keep a o q fun i zi=>?_,fun a z=>?_⟩ t (fun _ z=>z) h
 ·rcases z with z | z
  ·exact z (.inl ⟨i,zi⟩)
  ·exact z
 ·rcases z with z | z
  ·exact (P2.own a (.inr z)).imp .inl id
  ·exact .inl (.inr z)
theorem Iu {g:D→Option Int→Option Int→Option D} {σ:St} {H:Hp} {Q:VK} (h:tF K p ds ds3 d (eSl g f lo hi) σ H Q):tSl (rFs K g d) (tF K p ds ds1 d1 f) (tFO K p ds1 ds2 lo) (tFO K p ds2 ds3 hi) σ H Q:=by
 obtain ⟨Ox,en,R,t,en',e,hf,k⟩:=h
 unfold eSl at hf
 obtain ⟨⟨t1,en1⟩,h1,hf⟩:=Option.bind_eq_some_iff.mp hf
 obtain ⟨⟨l,en2⟩,h2,hf⟩:=Option.bind_eq_some_iff.mp hf
 obtain ⟨⟨u,en3⟩,h3,hf⟩:=Option.bind_eq_some_iff.mp hf
 obtain ⟨t',h4,hf⟩:=Option.map_eq_some_iff.mp hf
 cases hf
 refine ⟨Ox,en,R,t1,en1,e,h1,fun v H1 R1 F1 P1 o1=>?_⟩
 have o0:=Ow.letgo P1 (fun _ z=>z) o1
 refine ⟨Ox,en1,R1,l,en2,P1.env0,h2,fun H2 R2 P2=>?_⟩
 refine ⟨Ox,en2,R2,u,en3,P2.env0,h3,fun H3 R3 P3=>?_⟩
 have P:=(P1.after P2).after P3
 rw [Bool.and_self,Bool.and_self] at P
 exact ⟨Own R3 Ox,t1,t,(o0.past0 P2).past0 P3,P3.doms,h4,fun v4 H4 F4 n4 o4=>k v4 H4 R3 F4 (P.fin n4) (mz ▸ o4)⟩
theorem SlR.imp {r r':V→Option Int→Option Int→Hp→VK→Prop} (h:SlR X r) (hi:∀ x lo hi H Q,r' x lo hi H Q→r x lo hi H Q):SlR X r':=fun pins s σ H x v vl vu lo hi' sl Q I rx hs pl pu q=>h pins s σ H x v vl vu lo hi' sl Q I rx hs pl pu (hi _ _ _ _ _ q)
theorem vV {g:D→Option Int→Option Int→Option D} {elo ehi:Option Expr} (hr:SlR X (rFs K g d)) (he:PE X e (tF K p ds ds1 d1 f)) (hl:PO X elo (tFO K p ds1 ds2 lo)) (hu:PO X ehi (tFO K p ds2 ds3 hi)):PE X (.Subscript e (.Slice elo ehi none p2) pos) (tF K p ds ds3 d (eSl g f lo hi)) :=
 (vb hr he hl hu).imp fun _ _ _=>Iu
def bt {α:Type} (xs:List α) (lo hi:Option Int):List α:=(xs.drop (HT.sIx xs.length 0 lo)).take (HT.sIx xs.length xs.length hi - HT.sIx xs.length 0 lo)
def ib:D→Option Int→Option Int→Option D
 | .list ts,lo,hi=>some (.list (bt ts lo hi))
 | _,_,_=>none
theorem gq (hK:X.K=K):SlR X (rFs K ib 1):=(Iq hK).imp fun x lo hi H Q ⟨O,a,t,oa,hd,hg,k⟩=>by
 cases a with
 | list ts =>
  cases hg
  obtain ⟨a,vs,e1,f1,w1⟩:=oa.lst0
  refine ⟨a,vs,e1,f1.sq,fun p hp=>?_⟩
  have w2:Ows K O H (bt ts lo hi) 0 (fS vs lo hi) NoA:=by
   unfold bt fS
   rw [w1.len]
   exact (w1.drop _).take _
  exact k _ _ _ (iI hp hd w2).1 (iI hp hd w2).2
 | _=>cases hg
def pI:D→Option Int→Option Int→Option D
 | .str z,lo,hi=>grd (z.length≤sizeLine) (.str ⟨(dZ z.cps.toList lo hi).toArray⟩)
 | _,_,_=>none
theorem pq:SlR X (rFs K pI 3):=sl_str.imp fun x lo hi H Q ⟨O,a,t,oa,hd,hg,k⟩=>by
 cases a with
 | str z =>
  obtain ⟨c,rfl⟩:=bJ hg
  exact ⟨z,oa,c,k _ H NoA .refl rfl⟩
 | _=>cases hg
end
end L2
namespace L2
open PySem PySem.Spec PyProof.Rows
def kEq:D→D→Bool
 | .int a,.int b=>a == b
 | .str a,.str b=>a == b
 | _,_=>false
theorem lU (a b:Key):kEq (kD a) (kD b)=decide (a=b):=by
 cases a with
 | inl i=>cases b with
  | inl j=>rw [ua]; rfl
  | inr j=>rw [t9]; rfl
 | inr i=>cases b with
  | inl j=>rw [t8]; rfl
  | inr j =>
   rw [t7]
   show (i == j)=_
   by_cases h:i=j
   ·subst h; simp
   ·rw [decide_eq_false h,beq_eq_false_iff_ne]; exact h
def kOf:D→Option Key
 | .int i=>some (.inl i)
 | .str x=>some (.inr x)
 | _=>none
theorem ue {a:D} {q:Key} (h:kOf a=some q):a=kD q:=by
 cases a <;> cases h <;> rfl
theorem oC {K:PySem.W.Frag} {O:AS} {H:Hp} {a:D} {q:Key} {d:Nat} {v:V} {F:AS} (h:kOf a=some q) (o:Ow K O H a d v F):v=kV q:=by
 cases a with
 | int i=>cases h; exact o
 | str i=>cases h; exact o
 | _=>cases h
def cC (ks:List (D × D)) (q:D):Option D:=(ks.find? fun kv=>kEq kv.1 q).map (·.2)
def ji (ks:List (D × D)) (q t:D):List (D × D):=if ks.any (fun kv=>kEq kv.1 q) then ks.map (fun kv=>if kEq kv.1 q then (kv.1,t) else kv) else ks++[(q,t)]
section
variable {K:PySem.W.Frag} {O:AS} {H:Hp} {d:Nat}
theorem Owd.look:∀ {ks:List (D × D)} {vs:List (Key × V)} {F:AS} (q:Key),Owd K O H ks d vs F→(∃ t v,cC ks (kD q)=some t∧dR vs q=some v∧Ow K O H t d v F)∨(cC ks (kD q)=none∧dR vs q=none)
 | [],_,_,q,h=>by rw [show _=[] from h]; exact .inr ⟨rfl,rfl⟩
 | (k,t) :: ks,_,F,q,h=>by
  obtain ⟨q',v,r,F1,F2,e,e2,s1,s2,_,h4,h5⟩:=h
  subst e e2
  by_cases hq:q'=q
  ·subst hq
   refine .inl ⟨t,v,?_,iY rfl,Ow.grow (fun _ z=>z) t s1 h4⟩
   unfold cC
   rw [List.find?_cons,lU,decide_eq_true rfl]
   rfl
  ·have e1:cC ((kD q',t) :: ks) (kD q)=cC ks (kD q):=by
    unfold cC
    rw [List.find?_cons,lU,decide_eq_false hq]
   have e2:dR ((q',v) :: r) q=dR r q:=iZ hq
   rw [e1,e2]
   rcases Owd.look q h5 with ⟨t',v',a1,a2,a3⟩ | z
   ·exact .inl ⟨t',v',a1,a2,Ow.grow (fun _ z=>z) t' s2 a3⟩
   ·exact .inr z
theorem Owd.any:∀ {ks:List (D × D)} {vs:List (Key × V)} {F:AS} (q:Key),Owd K O H ks d vs F→ks.any (fun kv=>kEq kv.1 (kD q))=vs.any (fun kv=>decide (kv.1=q))
 | [],_,_,q,h=>by rw [show _=[] from h]; rfl
 | (k,t) :: ks,_,F,q,h=>by
  obtain ⟨q',v,r,F1,F2,e,e2,_,_,_,_,h5⟩:=h
  subst e e2
  rw [List.any_cons,List.any_cons,lU,Owd.any q h5]
theorem Owd.len:∀ {ks:List (D × D)} {vs:List (Key × V)} {F:AS},Owd K O H ks d vs F→vs.length=ks.length
 | [],_,_,h=>by rw [show _=[] from h]; rfl
 | (k,t) :: ks,_,F,h=>by
  obtain ⟨q',v,r,F1,F2,e,e2,_,_,_,_,h5⟩:=h
  rw [e,List.length_cons,List.length_cons,h5.len]
theorem Owd.rep0 {t:D} {v:V} {q:Key} (ht:Ow K O H t 0 v NoA):∀ {ks:List (D × D)} {vs:List (Key × V)},Owd K O H ks 0 vs NoA→Owd K O H (ks.map fun kv=>if kEq kv.1 (kD q) then (kv.1,t) else kv) 0 (vs.map fun kv=>if kv.1=q then (kv.1,v) else kv) NoA
 | [],_,h=>by rw [show _=[] from h]; rfl
 | (k,u) :: ks,_,h=>by
  obtain ⟨q',w,r,F1,F2,e,e2,_,_,_,h4,h5⟩:=h
  subst e e2
  rw [List.map_cons,List.map_cons]
  have ih:=Owd.rep0 (q:=q) ht (Owd.any0 ks h5)
  dsimp only
  rw [lU]
  by_cases hq:q'=q
  ·rw [if_pos hq,if_pos (decide_eq_true hq)]
   exact ⟨q',v,_,NoA,NoA,rfl,rfl,fun _ z=>z,fun _ z=>z,fun _ z=>z.elim,ht,ih⟩
  ·rw [if_neg hq,if_neg (by rw [decide_eq_false hq]; exact Bool.false_ne_true)]
   exact ⟨q',w,_,NoA,NoA,rfl,rfl,fun _ z=>z,fun _ z=>z,fun _ z=>z.elim,Ow.any0 u h4,ih⟩
theorem Owd.snoc0 {t:D} {v:V} {q:Key} (ht:Ow K O H t 0 v NoA):∀ {ks:List (D × D)} {vs:List (Key × V)},Owd K O H ks 0 vs NoA→Owd K O H (ks++[(kD q,t)]) 0 (vs++[(q,v)]) NoA
 | [],_,h=>by
  rw [show _=[] from h]
  exact ⟨q,v,[],NoA,NoA,rfl,rfl,fun _ z=>z,fun _ z=>z,fun _ z=>z.elim,ht,rfl⟩
 | (k,u) :: ks,_,h=>by
  obtain ⟨q',w,r,F1,F2,e,e2,_,_,_,h4,h5⟩:=h
  subst e e2
  exact ⟨q',w,_,NoA,NoA,rfl,rfl,fun _ z=>z,fun _ z=>z,fun _ z=>z.elim,Ow.any0 u h4,Owd.snoc0 ht (Owd.any0 ks h5)⟩
theorem Owd.put0 {t:D} {v:V} {q:Key} {ks:List (D × D)} {vs:List (Key × V)} (h:Owd K O H ks 0 vs NoA) (ht:Ow K O H t 0 v NoA):Owd K O H (ji ks (kD q) t) 0 (dX vs q v) NoA:=by
 unfold ji dX
 rw [h.any q]
 by_cases hq:(vs.any fun kv=>decide (kv.1=q))=true
 ·rw [if_pos hq,if_pos hq]
  exact Owd.rep0 ht h
 ·rw [if_neg hq,if_neg hq]
  exact Owd.snoc0 ht h
theorem Owd.past {ks:List (D × D)} {vs:List (Key × V)} {F:AS} {l:Addr} {o:HO} {O':AS} (ho:∀ a,O' a→O a) (hl:O l) (hf:∀ b,F b→b≠l) (h:Owd K O H ks d vs F):Owd K O' (upd H l o) ks d vs F:=by
 refine Owd.mv (G:=F) ⟨fun a u q z=>?_,fun a z=>.inl (ho a z)⟩ ks (fun _ z=>z) h
 rw [aP]
 ·exact q
 ·intro za
  subst za
  rcases z with z | z
  ·exact z hl
  ·exact hf a z rfl
def noT:List (D × D)→Bool
 | (.tuple _,_) :: _=>false
 | (.none,_) :: _=>false
 | _=>true
theorem Ow.dict0 {ks:List (D × D)} {v:V} (hk:noT ks=true) (h:Ow K O H (.dict ks) 0 v NoA):∃ a vs,v=.ref a∧H a=some (.dK vs)∧Owd K O H ks 0 vs NoA:=by
 obtain ⟨a,vs,e,⟨_,h1,_,h2⟩ | ⟨z,_⟩ | ⟨_,⟨kk,b,h1,_⟩ | ⟨cn,C,h1,_⟩⟩⟩:=h
 ·exact ⟨a,vs,e,h1,h2⟩
 ·exact absurd rfl z
 ·rw [h1] at hk
  cases hk
 ·rw [h1] at hk
  cases hk
theorem Ow.dict1 {ks:List (D × D)} {v:V} {F:AS} (hd:d≠0) (h:Ow K O H (.dict ks) d v F):∃ a vs,v=.ref a∧H a=some (.dK vs)∧F a∧∃ F':AS,(∀ b,F' b→F b∧b≠a)∧Owd K O H ks (dn d) vs F':=by
 obtain ⟨a,vs,e,⟨z,_⟩ | ⟨_,h1,h2,h3⟩ | ⟨z,_⟩⟩:=h
 ·exact absurd z hd
 ·exact ⟨a,vs,e,h1,h2,h3⟩
 ·exact absurd z hd
end
def kO:ME:=eC (.dict [])
def Jj:D→D→Option D
 | .dict ks,q=>(kOf q).bind fun _=>cC ks q
 | _,_=>none
def dIn:D→D→Option D
 | q,.dict ks=>if noT ks=true then (kOf q).map fun _=>.bool (cC ks q).isSome else none
 | _,_=>none
def j7:D→D→Option D
 | q,.dict ks=>if noT ks=true then (kOf q).map fun _=>.bool (!(cC ks q).isSome) else none
 | _,_=>none
section
variable {X:Cx} {K:PySem.W.Frag} {p:Bool} {J:Jd} {ds ds0 ds1 ds2 ds':List Nat} {d d' d1 d2:Nat} {a b c e o k:Expr} {f f1 f2 fk fe:ME} {pos px spos:Pos} {i:Nat} {σ:St} {H:Hp} {Q:VK} {Dn:Ends}
theorem CC:PE X (.Dict [] [] pos) (tF K p ds ds 3 kO):=pe_dnewK.imp fun σ H Q ⟨Ox,en,R,t,en',e,hf,k⟩=>by
 cases hf
 intro l hl
 have n:NewTo H (upd H l (.dK [])) (fun b=>b=l):=b5 hl
 exact k (.ref l) _ R _ (Post.new e n.1 n.2) ⟨l,[],rfl,.inr (.inl ⟨by decide,aW,rfl,NoA,fun _ z=>z.elim,rfl⟩)⟩
def IK (i:Nat) (f:ME):ME:=fun en=>(en[i]?).join.bind fun _=>(f en).bind fun r=>match (r.2[i]?).join with
 | some (.dict ks)=>(kOf r.1).bind fun _=>(cC ks r.1).map fun t=>(t,r.2)
 | _=>none
theorem HX {neg:Bool} (h:tF K p ds ds2 3 (e2 (if neg then j7 else dIn) f1 f2) σ H Q):(if neg then qB else Ii) (tF K p ds ds1 d1 f1) (tF K p ds1 ds2 d2 f2) σ H Q:=by
 obtain ⟨Ox,en,R,t,en',e,hf,k⟩:=h
 unfold e2 at hf
 obtain ⟨⟨t1,en1⟩,h1,hf⟩:=Option.bind_eq_some_iff.mp hf
 obtain ⟨⟨t2,en2⟩,h2,hf⟩:=Option.bind_eq_some_iff.mp hf
 obtain ⟨t',h3,hf⟩:=Option.map_eq_some_iff.mp hf
 cases hf
 have go:∀ (b:Bool→Bool),(∃ q ks,t2=.dict ks∧noT ks=true∧kOf t1=some q∧t=.bool (b (cC ks t1).isSome))→tF K p ds ds1 d1 f1 σ H fun y H1=>tF K p ds1 ds2 d2 f2 σ H1 fun x H2=>∃ a o,x=.ref a∧DGet H2 a y o∧Q (.bl (b o.isSome)) H2:=fun b ⟨q,ks,e1,hk,e2,e3⟩=>by
  subst e1 e3
  refine two (p1:=p) (p2:=p) e h1 h2 fun x y H2 R2 F1 F2 P o1 o2=>?_
  rw [Bool.and_self] at P
  obtain ⟨a,vs,ex,ha,ow⟩:=(Ow.letgo P (fun _=>.inr) o2).dict0 hk
  rw [ue e2] at k
  rcases ow.look q with ⟨t',v,a1,a2,a3⟩ | ⟨z1,z2⟩
  ·rw [a1] at k
   refine ⟨a,some v,ex,?_,k _ H2 R2 NoA (P.less fun _ z=>z.elim) rfl⟩
   rw [← a2,oC e2 o1]
   exact DGet.k ha
  ·rw [z1] at k
   refine ⟨a,none,ex,?_,k _ H2 R2 NoA (P.less fun _ z=>z.elim) rfl⟩
   rw [← z2,oC e2 o1]
   exact DGet.k ha
 cases neg with
 | true =>
  refine go (fun b=>!b) ?_
  cases t2 with
  | dict ks =>
   have h4:(if noT ks=true then (kOf t1).map (fun _=>PyData.bool (!(cC ks t1).isSome)) else none)=some t:=h3
   by_cases hk:noT ks=true
   ·rw [if_pos hk] at h4
    obtain ⟨q,hq,e⟩:=Option.map_eq_some_iff.mp h4
    exact ⟨q,ks,rfl,hk,hq,e.symm⟩
   ·rw [if_neg hk] at h4; cases h4
  | _=>cases t1 <;> cases h3
 | false =>
  refine go (fun b=>b) ?_
  cases t2 with
  | dict ks =>
   have h4:(if noT ks=true then (kOf t1).map (fun _=>PyData.bool (cC ks t1).isSome) else none)=some t:=h3
   by_cases hk:noT ks=true
   ·rw [if_pos hk] at h4
    obtain ⟨q,hq,e⟩:=Option.map_eq_some_iff.mp h4
    exact ⟨q,ks,rfl,hk,hq,e.symm⟩
   ·rw [if_neg hk] at h4; cases h4
  | _=>cases t1 <;> cases h3
theorem PC.imp {op:CmpOp} {t t':TE} (h:PC X op a b t) (hi:∀ σ H Q,t' σ H Q→t σ H Q):PC X op a b t':=fun pins s σ H Q I hw=>h pins s σ H Q I (hi _ _ _ hw)
theorem Cc (hu:X.A.units+1 < cLine) (ha:PE X a (tF K p ds ds1 d1 f1)) (hb:PE X b (tF K p ds1 ds2 d2 f2)) (h1:behindInMarks .NotIn b=false):PT X (.Compare a [.NotIn] [b] pos) (tFT K p ds ds2 (tV (e2 j7 f1 f2))) :=
 (Fk ((tK hu ha hb).imp fun _ _ _=>HX (neg:=true)) h1).imp fun _ _ _=>pc
def hV (i:Nat) (fk fe:ME):MS:=fun en=>(fe en).bind fun r=>match (r.2[i]?).join with
 | some _=>(fk r.2).bind fun q=>match (q.2[i]?).join with
  | some (.dict ks)=>(kOf q.1).bind fun _=>if ks.length < sizeLine then some (.nx (q.2.set i (some (.dict (ji ks q.1 r.1))))) else none
  | _=>none
 | none=>none
theorem Cj (hd:ds2[i]?=some 1) (h:tFS K J ds ds2 (hV i fk fe) Dn σ H):AZ (gC i) (tF K false ds1 ds2 d2 fk) (tF K false ds ds1 0 fe) Dn σ H:=by
 obtain ⟨Ox,en,R,fl,e,hf,k⟩:=h
 unfold hV at hf
 obtain ⟨⟨t1,en1⟩,h1,hf⟩:=Option.bind_eq_some_iff.mp hf
 dsimp only at hf
 split at hf
 case h_2=>cases hf
 next tt h0 =>
 obtain ⟨⟨t2,en2⟩,h2,hf⟩:=Option.bind_eq_some_iff.mp hf
 dsimp only at hf
 split at hf
 case h_2=>cases hf
 next ks h3 =>
 obtain ⟨q,hq,hf⟩:=Option.bind_eq_some_iff.mp hf
 by_cases hlen:ks.length < sizeLine
 case neg=>rw [if_neg hlen] at hf; cases hf
 rw [if_pos hlen] at hf
 cases hf
 refine ⟨Ox,en,R,t1,en1,e,h1,fun x H1 R1 F1 P1 o1=>?_⟩
 obtain ⟨v0,d0,a1,_,_⟩:=P1.env.at_ i tt (bn h0)
 refine ⟨v0,a1,?_⟩
 refine ⟨U F1 Ox,en1,R1,t2,en2,P1.env,h2,fun y H2 R2 F2 P2 o2=>?_⟩
 have P:=P1.trans P2
 have o1':=Ow.over P1.env P2 o1
 have w1:=Ow.letgo P (fun _=>.inl) o1'
 obtain ⟨v',d',b1,b2,b3⟩:=P.env.at_ i _ (bn h3)
 rw [a1] at b1
 cases b1
 rw [hd] at b2
 cases b2
 obtain ⟨l,vs,el,hl,hr,F',hf',ow⟩:=b3.dict1 (by decide)
 have eq:=oC hq o2
 subst eq
 refine ⟨l,_,el,DPut.k hl (by rw [ow.len]; exact hlen),?_⟩
 have hi:i < en2.length:=(List.getElem?_eq_some_iff.mp (bn h3)).1
 have gG:∀ a,(fun a=>R2 i a) a→R2 i a∨U F1 F2 a:=fun a z=>.inl z
 have sub:=kg (i:=i) (R1:=R2) (Ox:=Ox) (G:=fun a=>R2 i a) (F':=NoA) (F:=U F1 F2) gG (fun _ z=>z.elim)
 have Ol:Own R2 (U (U F1 F2) Ox) l:=.inl ⟨i,hr⟩
 have PS:=P.slot (G:=fun a=>R2 i a) (F':=NoA) (o2:=.dK (dX vs q x)) (t:=.dict (ji ks t2 t1)) hr hi a1 hd gG (fun _ z=>z.elim) (fun _ _ z=>z) ?_
 ·exact k σ _ _ PS.s
 refine ⟨l,dX vs q x,el,.inr (.inl ⟨by decide,aW,hr,NoA,fun _ z=>z.elim,?_⟩)⟩
 rw [ue hq]
 refine Owd.put0 (Owd.past sub Ol (fun _ z=>z.elim) (Owd.any0 ks ow)) ?_
 refine Ow.past (O:=Own R2 Ox) (fun a z=>?_) (.inl ⟨i,hr⟩) (fun _ z=>z.elim) w1
 rcases z with ⟨j,z⟩ | z | z
 ·by_cases hj:j=i
  ·rw [if_pos hj] at z; exact .inl ⟨i,z⟩
  ·rw [if_neg hj] at z; exact .inl ⟨j,z⟩
 ·exact z.elim
 ·exact .inr z
theorem vP {x:Str} (hu:X.A.units+1 < cLine) (hN:X.N[i]?=some x) (hv:Vis X.env.scope x) (he:PE X e (tF K false ds ds1 0 fe)) (hk:PE X k (tF K false ds1 ds2 d2 fk)) (h1:ds2[i]?=some 1)
  (hdb:(x == ("__debug__" : Str))=false) (hcd:(x == ("__classdict__" : Str))=false) (hs:swapsWith e (some (.Subscript (.Name x px) k spos)) pos.line X.env=pure false) :
  PS X (.Assign [.Subscript (.Name x px) k spos] e pos) (tFS K J ds ds2 (hV i fk fe)):=(BJ hu (dJ hN hv hdb hcd) hk he hs).imp fun _ _ _=>Cj h1
end
end L2
namespace L2
open PySem PySem.Spec PyProof.Rows
def evP:List (ME × ME)→En→Option (List (D × D) × En)
 | [],en=>some ([],en)
 | (fk,fv) :: r,en=>(fk en).bind fun x=>(fv x.2).bind fun y=>(evP r y.2).bind fun z=>(kOf x.1).map fun _=>((x.1,y.1) :: z.1,z.2)
def FI (ks:List (D × D)):List (D × D):=ks.foldl (fun acc kv=>ji acc kv.1 kv.2) []
def Ia (fs:List (ME × ME)):ME:=fun en=>(evP fs en).bind fun r=>if r.1.length≤15 then some (.dict (FI r.1),r.2) else none
section
variable {X:Cx} {K:PySem.W.Frag} {p:Bool} {J:Jd} {ds ds0 ds1 ds2 ds':List Nat} {d d' d1 d2:Nat} {a b c e o k:Expr} {es:List Expr} {f f1 f2 fk fe:ME} {fa:MA} {sh:Sh} {pos px spos:Pos} {i j:Nat} {σ:St} {H:Hp} {Q:VK} {Dn:Ends}
def IY (i j:Nat) (fa:MA):MS:=fun en=>(fa en).bind fun r=>match r.1 with
 | [.inl a,.inl b]=>some (.nx ((r.2.set i (some a)).set j (some b)))
 | _=>none
end
section
variable {X:Cx} {K:PySem.W.Frag}
end
end L2
namespace L2
open PySem PySem.Spec PyProof.Rows
section
variable {X:Cx} {K:PySem.W.Frag} {O:AS} {H:Hp} {ts us:List D} {vs ws:List V} {x y:V} {d:Nat} {Q:VK}
def Hd (K:PySem.W.Frag):List V→Hp→VK→Prop:=fun xs H Q=>∃ (p:Addr) (ns:List Int),xs=[.ref p]∧SqL K H p (ns.map V.int)∧Q (.int ns.sum) H
theorem uM (hc:X.calm=true):CallR X (.builtin "sum") (Hd X.K):=by
 intro pins s σ H xs us Q I r h
 obtain ⟨p,ns,rfl,hp,q⟩:=h
 obtain ⟨u,rfl,ru⟩:=gZ r
 cases ru
 obtain ⟨its,rv,pl,hz⟩:=I.list hp
 have hl:its.length=ns.length:=by rw [← rv.length,List.length_map]
 have hlt:p < s.heap.objs.size:=by
  obtain ⟨o,n,e,_⟩:=id pl
  exact Heap.lt_size e
 have hsz:its.toArray.size=ns.length:=by rw [List.size_toArray,hl]
 refine call_sum_walkAnyS (wpAny_pyIter_list pl.isList ?_)
 refine ⟨s.heap.objs.size,[s.heap.objs.size,p],[s.heap.objs.size],_,its.toArray.size,fun i v=>its.toArray[i]?=some v,_,fun i=>ns.getD i 0,rfl,(Walks.list (A:=X.A.in1) (show X.A.in1.handled=none from I.ok.hd hc) s.heap.objs.size p (Nat.ne_of_lt hlt) its.toArray).toS,?_,?_,?_,?_⟩
 ·exact ⟨⟨_,Heap.get?_push_size _ rfl,rfl,rfl⟩,pl.isList.push _⟩
 ·intro b hb
  show b < (s.heap.push _).objs.size
  rw [Heap.size_push]
  have hb':b=s.heap.objs.size∨b=p:=by simpa using hb
  rcases hb' with rfl | rfl
  ·exact Nat.lt_succ_self _
  ·exact Nat.lt_succ_of_lt hlt
 ·intro i v hv
  have hv':its[i]?=some v:=by simpa using hv
  have hi:i < ns.length:=by
   rw [← hl]
   exact (List.getElem?_eq_some_iff.mp hv').1
  obtain ⟨u,hu,ru⟩:=rv.get (i:=i) (x:=V.int ns[i]) (by rw [List.getElem?_map,List.getElem?_eq_getElem hi]; rfl)
  rw [hu] at hv'
  cases hv'
  obtain ⟨t,rfl⟩:=ru
  refine ⟨t,?_⟩
  show Value.int ns[i] t=Value.int (ns.getD i 0) t
  rw [List.getD_eq_getElem?_getD,List.getElem?_eq_getElem hi]
  rfl
 ·intro s' t' hm
  have e:preSum (fun i=>ns.getD i 0) its.toArray.size=ns.sum:=by
   rw [hsz,kW ns ns.length (Nat.le_refl _),List.take_length]
  rw [e]
  obtain ⟨hh,g,dr,tk,os'⟩:=s'
  have e1:dr=s.drawn:=hm.drawn
  have e2:os'=s.os:=hm.os
  have e3:g=s.gens:=hm.gens
  subst e1 e2 e3
  refine ⟨.int ns.sum,H,I.kept (t':=tk) fun b o z=>hm.heap b o ?_ (Heap.get?_push_of_some _ z),⟨_,rfl⟩,q⟩
  intro z'
  have z'':b=s.heap.objs.size:=by simpa using z'
  exact Nat.ne_of_lt (Heap.lt_size z) z''
def fN:List D→Option (List Int)
 | []=>some []
 | .int i :: r=>(fN r).map (i :: ·)
 | _ :: _=>none
theorem i9:∀ {ts:List D} {vs:List V} {bs:List Int},Ows K O H ts 0 vs NoA→fN ts=some bs→vs=bs.map V.int
 | [],_,_,h,hb=>by cases hb; exact h
 | .int b :: r,_,_,h,hb=>by
  obtain ⟨v,w,F1,F2,e,_,_,_,h4,h5⟩:=h
  obtain ⟨bs',h6,h7⟩:=Option.map_eq_some_iff.mp hb
  subst e h7
  rw [show v=.int b from h4,i9 (Ows.any0 r h5) h6]
  rfl
 | .none :: _,_,_,_,hb=>by cases hb
 | .bool _ :: _,_,_,_,hb=>by cases hb
 | .str _ :: _,_,_,_,hb=>by cases hb
 | .list _ :: _,_,_,_,hb=>by cases hb
 | .tuple _ :: _,_,_,_,hb=>by cases hb
 | .dict _ :: _,_,_,_,hb=>by cases hb
def fQ:List D→Option D
 | [.list ts]=>(fN ts).map fun ns=>.int ns.sum
 | _=>none
theorem pf (hK:X.K=K) (hc:X.calm=true):CallR X (.builtin "sum") (rFn K fQ 3):=by
 subst hK
 refine (uM hc).imp fun xs H Q ⟨O,as,t,oa,hd,hg,k⟩=>?_
 match as,hg with
 | [.list ts],hg =>
  obtain ⟨ns,h1,rfl⟩:=Option.map_eq_some_iff.mp hg
  obtain ⟨v,rfl,o⟩:=oa.one
  obtain ⟨a,vs,rfl,fz,w⟩:=o.lst0
  have e:=i9 w h1
  subst e
  exact ⟨a,ns,rfl,fz.sq,k _ H NoA .refl rfl⟩
end
end L2
namespace L2
open PySem PySem.Spec PyProof.Rows
section
variable {X:Cx} {K:PySem.W.Frag} {p:Bool} {ds ds1:List Nat} {O:AS} {H:Hp} {σ:St} {d:Nat} {f:ME} {i:Nat} {e:Expr} {Q:VK}
theorem Ows.cat {us:List D} {ws:List V} {F2:AS}:∀ {ts:List D} {vs:List V} {F1:AS},Ows K O H ts d vs F1→Ows K O H us d ws F2→(∀ b,F1 b→¬ F2 b)→Ows K O H (ts++us) d (vs++ws) (U F1 F2)
 | [],vs,F1,h,h2,_=>by
  have e:vs=[]:=h
  subst e
  exact Ows.mv (G:=fun _=>True) ⟨fun _ _ q _=>q,fun _ z=>.inl z⟩ us (fun _ _=>trivial) (Ows.grow (fun _ z=>z) us (fun _ z=>.inr z) h2)
 | u :: ts,vs,F1,h,h2,hd=>by
  obtain ⟨w,r,G1,G2,e,s1,s2,s3,h4,h5⟩:=h
  subst e
  refine ⟨w,r++ws,G1,U G2 F2,rfl,fun b z=>.inl (s1 b z),fun b z=>z.imp (s2 b) id,fun b z z2=>?_,h4,Ows.cat h5 h2 fun b z=>hd b (s2 b z)⟩
  rcases z2 with z2 | z2
  ·exact s3 b z z2
  ·exact hd b (s1 b z) z2
def gO (i:Nat) (f:ME):ME:=fun en=>match (en[i]?).join with
 | some (.list _)=>(f en).bind fun r=>match r.1,(r.2[i]?).join with
  | .list us,some (.list ts)=>if ts.length+us.length≤sizeLine then some (.none,r.2.set i (some (.list (ts++us)))) else none
  | _,_=>none
 | _=>none
theorem HW (hd:ds1[i]?=some d) (hz:d≠0) (h:tF K false ds ds1 3 (gO i f) σ H Q):tBM K "list" qK (gC i) (i3 (tF K p ds ds1 d f) oh) σ H Q:=by
 obtain ⟨Ox,en,R,t,en',e,hf,k⟩:=h
 unfold gO at hf
 split at hf
 case h_2=>cases hf
 next ts0 h0 =>
 obtain ⟨⟨t1,en1⟩,h1,hf⟩:=Option.bind_eq_some_iff.mp hf
 dsimp only at hf
 split at hf
 case h_2=>cases hf
 next us ts h2 =>
 by_cases hlen:ts.length+us.length≤sizeLine
 case neg=>rw [if_neg hlen] at hf; cases hf
 rw [if_pos hlen] at hf
 cases hf
 obtain ⟨v,d0,a1,_,a3⟩:=e.at_ i _ (bn h0)
 obtain ⟨l0,vs0,e0,sq⟩:=a3.sqL
 refine ⟨v,a1,?_,Ox,en,R,_,en1,e,h1,fun x H1 R1 F P o=>?_⟩
 ·rw [e0]; exact .inl ⟨rfl,vs0,sq⟩
 obtain ⟨v',d',b1,b2,b3⟩:=P.env.at_ i _ (bn h2)
 rw [a1] at b1
 cases b1
 rw [hd] at b2
 cases b2
 obtain ⟨l,vs,el,hl,hr,F',hf',ow⟩:=b3.ownL hz
 obtain ⟨m,ws,em,hm,hFm,F2,hf2,ow2⟩:=o.ownL hz
 refine ⟨l,m,vs,ws,el,by rw [em],hl,hm,by rw [ow.len,ow2.len]; exact hlen,?_⟩
 have hi:i < en1.length:=(List.getElem?_eq_some_iff.mp (bn h2)).1
 have Fn:∀ a,F a→a≠l:=fun a z z2=>by
  subst z2
  exact P.env.dx i a hr (.inl z)
 have sub:=kg (i:=i) (R1:=R1) (Ox:=Ox) (G:=fun a=>R1 i a∨F a) (F':=NoA) (F:=F) (fun _ z=>z) (fun _ z=>z.elim)
 have Ol:Own R1 (U F Ox) l:=.inl ⟨i,hr⟩
 refine k .non (upd H1 l (.lst (vs++ws))) _ NoA (P.slot (G:=fun a=>R1 i a∨F a) hr hi a1 hd (fun _ z=>z) (fun _ z=>z.elim) (fun _ _ z=>z) ?_) rfl
 refine ⟨l,vs++ws,el,.inr ⟨hz,aW,.inl hr,U F' F2,fun b z=>?_,?_⟩⟩
 ·rcases z with z | z
  ·exact ⟨.inl (hf' b z).1,(hf' b z).2⟩
  ·exact ⟨.inr (hf2 b z).1,Fn b (hf2 b z).1⟩
 ·exact Ows.cat (Ows.past sub Ol (fun b z=>(hf' b z).2) ow) (Ows.past sub Ol (fun b z=>Fn b (hf2 b z).1) ow2) fun b z1 z2=>P.env.dx i b (hf' b z1).1 (.inl (hf2 b z2).1)
theorem GC {x:Str} {px apos cpos:Pos} (hK:X.K=K) (hN:X.N[i]?=some x) (hv:Vis X.env.scope x) (h1:ds1[i]?=some d) (he:PE X e (tF K false ds ds1 d f)) (hz:d≠0)
  (hd:(x == ("__debug__" : Str))=false) (hcd:(x == ("__classdict__" : Str))=false)
  (hbase:attributeBase (.Name x px) "extend" X.env (eval (.Name x px) X.env)=eval (.Name x px) X.env)
  (hfew:((backTo cpos (starEach [e] X.env)).all (fun x=>!x.1) && (backToKw cpos (keywordEach [] X.env)).all (fun x=>x.1.isSome) && decide (([e]:List Expr).length+([]:List Keyword).length+(if ([]:List Keyword).isEmpty then 0 else 1) < 30))=true)
  (hline:(apos.endLine == cpos.line)=true) (hs:starEach [e] X.env=[(false,eval e X.env)]) (hplain:(backTo cpos (starEach [] X.env)).any (·.1)=false) :
  PE X (.Call (.Attribute (.Name x px) "extend" apos) [e] [] cpos) (tF K false ds ds1 3 (gO i f)):=by
 subst hK
 exact (rQ PySem.F.plainAttrs_list PySem.F.slot_list_extend PySem.F.type_list_extend tQ (dJ hN hv hd hcd) (b4 he pa_nil hs) hbase hfew hline hs hplain).imp fun _ _ _=>HW h1 hz
end
end L2
namespace L2
open PySem PySem.Spec PyProof.Rows
section
variable {X:Cx} {K:PySem.W.Frag} {p:Bool} {ds ds1:List Nat} {d:Nat} {fa:MA} {sh:Sh} {O O1:AS} {H0 H:Hp} {ts us:List D} {vs ws:List V} {a b:Addr}
def uT (ts us:List D):List D:=List.zipWith (fun x y=>.tuple [x,y]) ts us
def IU (fa:MA):MI:=fun en=>(fa en).bind fun r=>match r.1 with
 | [.inl (.list ts),.inl (.list us)]=>some (uT ts us,r.2)
 | _=>none
end
end L2
namespace L2
open PySem PySem.Spec PyProof.Rows
section
variable {X:Cx} {K:PySem.W.Frag} {p:Bool} {ds ds1:List Nat} {d1:Nat} {e:Expr} {f:ME}
end
end L2
namespace L2
open PySem PySem.Spec PyProof.Rows
section
variable {X:Cx} {K:PySem.W.Frag} {p p1 p2:Bool} {ds ds1 ds2:List Nat} {d d1:Nat} {e:Expr} {f:ME} {fa:MA} {sh:Sh} {σ:St} {H:Hp} {Q:VK}
def eM (g:Str→List D→Option D) (f:ME) (fa:MA):ME:=fun en=>(f en).bind fun r=>match r.1 with
 | .str z=>(fa r.2).bind fun q=>(bC q.1).bind fun ts=>(g z ts).map fun t=>(t,q.2)
 | _=>none
structure MtF (K:PySem.W.Frag) (r:V→List V→Hp→VK→Prop) (g:Str→List D→Option D):Prop where
 h:∀ {O:AS} {H:Hp} {z:Str} {ts:List D} {xs:List V} {t:D} {Q:VK},Ows K O H ts 0 xs NoA→g z ts=some t→(∀ v,Ow K O H t 3 v NoA→Q v H)→r (.str z) xs H Q
theorem GG {r:V→List V→Hp→VK→Prop} {g:Str→List D→Option D} (hr:MtF K r g) (hs:b8 0 sh=true) (h:tF K (p1 && p2) ds ds2 3 (eM g f fa) σ H Q):tBM K "str" r (tF K p1 ds ds1 d1 f) (tFA K p2 ds1 ds2 sh fa) σ H Q:=by
 obtain ⟨Ox,en,R,t,en',e,hf,k⟩:=h
 unfold eM at hf
 obtain ⟨⟨t1,en1⟩,h1,hf⟩:=Option.bind_eq_some_iff.mp hf
 dsimp only at hf
 split at hf
 case h_2=>cases hf
 next z =>
 obtain ⟨⟨as,en2⟩,h2,hf⟩:=Option.bind_eq_some_iff.mp hf
 obtain ⟨ts,h3,hf⟩:=Option.bind_eq_some_iff.mp hf
 obtain ⟨t',h4,hf⟩:=Option.map_eq_some_iff.mp hf
 cases hf
 refine ⟨Ox,en,R,.str z,en1,e,h1,fun x H1 R1 F1 P1 o1=>?_⟩
 have ex:x=.str z:=o1
 subst ex
 refine ⟨rfl,Ox,en1,R1,as,en2,P1.env0,h2,fun vs H2 R2 F P2 o=>?_⟩
 have P:=P1.after P2
 obtain ⟨F',s1,s2⟩:=OwA.ows hs h3 o
 have o2:Ows K (Own R2 Ox) H2 ts 0 vs F':=s2 _ (fun a z=>z.imp id .inr) fun a z z2=>by
  rcases z2 with ⟨i,z2⟩ | z2
  ·exact absurd (.inl z) (P.env.dx i a z2)
  ·exact absurd z2 (P.fx a z)
 refine hr.h (Ows.any0 ts o2) h4 fun v ov=>k v H2 R2 NoA (P.less fun _ z=>z.elim) ?_
 rw [fj]
 exact ov
def joinD:Str→List D→Option D
 | sep,[.list ts]=>(strsOf ts).bind fun ys=>if sep.length≤16∧(ys.map (·.length)).sum+ys.length≤1048576 then some (.str (Txt.join sep ys)) else none
 | sep,[.tuple ts]=>(strsOf ts).bind fun ys=>if sep.length≤16∧(ys.map (·.length)).sum+ys.length≤1048576 then some (.str (Txt.join sep ys)) else none
 | _,_=>none
where strsOf:List D→Option (List Str)
 | []=>some []
 | .str z :: r=>(strsOf r).map (z :: ·)
 | _ :: _=>none
theorem ls {O:AS}:∀ {ts:List D} {ys:List Str} {xs:List V},joinD.strsOf ts=some ys→Ows K O H ts 0 xs NoA→xs=ys.map V.str
 | [],ys,xs,h,o=>by
  cases h
  exact o
 | t :: ts,ys,xs,h,o=>by
  obtain ⟨v,r,F1,F2,e,_,_,_,h4,h5⟩:=o
  cases t with
  | str z =>
   obtain ⟨ys',h6,rfl⟩:=Option.map_eq_some_iff.mp h
   have e4:v=.str z:=h4
   rw [e,e4,ls h6 (Ows.any0 ts h5)]
   rfl
  | _=>cases h
theorem kJ:MtF K (A4 K) joinD where
 h:=fun {O H z ts xs t Q} o hg q=>by
  unfold joinD at hg
  split at hg
  ·next us =>
   obtain ⟨ys,h1,h2⟩:=Option.bind_eq_some_iff.mp hg
   by_cases hc:z.length≤16∧(ys.map (·.length)).sum+ys.length≤1048576
   case neg=>rw [if_neg hc] at h2; cases h2
   rw [if_pos hc] at h2
   cases h2
   obtain ⟨v,r,F1,F2,e,_,_,_,h4,h5⟩:=o
   have e5:r=[]:=h5
   subst e5 e
   obtain ⟨a,vs,rfl,fz,w⟩:=(Ow.any0 _ h4).lst0
   have e6:=ls h1 w
   subst e6
   exact ⟨z,ys,a,rfl,rfl,.inl fz.sq,hc.1,hc.2,q _ rfl⟩
  ·next us =>
   obtain ⟨ys,h1,h2⟩:=Option.bind_eq_some_iff.mp hg
   by_cases hc:z.length≤16∧(ys.map (·.length)).sum+ys.length≤1048576
   case neg=>rw [if_neg hc] at h2; cases h2
   rw [if_pos hc] at h2
   cases h2
   obtain ⟨v,r,F1,F2,e,_,_,_,h4,h5⟩:=o
   have e5:r=[]:=h5
   subst e5 e
   obtain ⟨a,vs,rfl,fz,w⟩:=(Ow.any0 _ h4).tup0
   have e6:=ls h1 w
   subst e6
   exact ⟨z,ys,a,rfl,rfl,.inr fz.sq,hc.1,hc.2,q _ rfl⟩
  ·cases hg
def iF:Str→List D→Option D
 | z,[.str y]=>some (.bool (Txt.startswith z y))
 | _,_=>none
def IV:Str→List D→Option D
 | z,[.str y]=>some (.bool (Txt.endswith z y))
 | _,_=>none
theorem vd {O:AS} {y:Str} {xs:List V} (o:Ows K O H [.str y] 0 xs NoA):xs=[.str y]:=by
 obtain ⟨v,r,F1,F2,e,_,_,_,h4,h5⟩:=o
 have e4:v=.str y:=h4
 have e5:r=[]:=h5
 rw [e,e4,e5]
theorem nq:MtF K qJ iF where
 h:=fun {O H z ts xs t Q} o hg q=>by
  unfold iF at hg
  split at hg
  ·next y =>
   cases hg
   exact ⟨z,y,rfl,vd o,q _ rfl⟩
  ·cases hg
theorem CA {o:Expr} {es:List Expr} {name:Str} {id:String} {apos cpos:Pos} {r:V→List V→Hp→VK→Prop} {g:Str→List D→Option D} (hK:X.K=K) (slot:Slot "str" name id) (hty:typeOf (.builtin id)=pure (.type "method_descriptor")) (hm:MtR X id r) (hr:MtF K r g) (ho:PE X o (tF K p ds ds1 d1 f)) (ha:PA X (e :: es) (tFA K p ds1 ds2 sh fa))
  (hsh:b8 0 sh=true) (hbase:attributeBase o name X.env (eval o X.env)=eval o X.env)
  (hfew:((backTo cpos (starEach (e :: es) X.env)).all (fun x=>!x.1) && (backToKw cpos (keywordEach [] X.env)).all (fun x=>x.1.isSome)
   && decide ((e :: es).length+([]:List Keyword).length+(if ([]:List Keyword).isEmpty then 0 else 1) < 30))=true)
  (hline:(apos.endLine == cpos.line)=true) (hs:starEach (e :: es) X.env=(false,eval e X.env) :: starEach es X.env) (hplain:(backTo cpos (starEach es X.env)).any (·.1)=false) :
  PE X (.Call (.Attribute o name apos) (e :: es) [] cpos) (tF K p ds ds2 3 (eM g f fa)):=by
 subst hK
 exact (rQ PySem.F.plainAttrs_str slot hty hm ho ha hbase hfew hline hs hplain).imp fun _ _ _ h=>GG hr hsh (by rw [Bool.and_self]; exact h)
end
end L2
namespace L2
open PySem PySem.Spec PyProof.Rows
section
variable {X:Cx} {K:PySem.W.Frag} {pins:List (Addr × Obj)} {σ:St} {H:Hp} {s:Shared} {O:AS}
mutual
theorem Ow.reads (I:Inv X pins σ H s):∀ (t:D) {v:V} {u:Value},av t=true→Ow X.K O H t 0 v NoA→RelV v u→∃ as,Reads s.heap u t as
 | .none,_,_,_,h,r=>by
  cases (show _=V.non from h)
  cases r
  exact ⟨_,.none⟩
 | .bool b,_,_,_,h,r=>by
  cases (show _=V.bl b from h)
  cases r
  exact ⟨_,.bool _⟩
 | .int i,_,_,_,h,r=>by
  cases (show _=V.int i from h)
  obtain ⟨t,rfl⟩:=r
  exact ⟨_,.int _ _⟩
 | .str x,_,_,_,h,r=>by
  cases (show _=V.str x from h)
  obtain ⟨t,rfl⟩:=r
  exact ⟨_,.str _ _⟩
 | .list ts,_,_,hn,h,r=>by
  obtain ⟨p,vs,rfl,fz,w⟩:=h.lst0
  cases r
  obtain ⟨its,rv,⟨o,n,e1,e2,_,e3⟩,_⟩:=I.list fz.sq
  obtain ⟨as,ra⟩:=Ows.reads I ts (by simpa [av] using hn) w rv
  exact ⟨_,.list e1 e2 e3 (by simpa using ra)⟩
 | .tuple ts,_,_,hn,h,r=>by
  obtain ⟨p,vs,rfl,fz,w⟩:=h.tup0
  cases r
  obtain ⟨its,rv,⟨o,e1,e2,n,e3⟩,_⟩:=I.tuple fz.sq
  obtain ⟨as,ra⟩:=Ows.reads I ts (by simpa [av] using hn) w rv
  exact ⟨_,.tuple e1 e2 e3 (by simpa using ra)⟩
 | .dict _,_,_,hn,_,_=>by simp [av] at hn
theorem Ows.reads (I:Inv X pins σ H s):∀ (ts:List D) {vs:List V} {us:List Value},aB ts=true→Ows X.K O H ts 0 vs NoA→Vals vs us→∃ as,ReadsAll s.heap us ts as
 | [],_,_,_,h,r=>by
  cases (show _=[] from h)
  cases r
  exact ⟨_,.nil⟩
 | t :: ts,_,_,hn,h,r=>by
  obtain ⟨v,q,F1,F2,e,_,_,_,h4,h5⟩:=h
  subst e
  have hn':av t=true∧aB ts=true:=by simpa [aB] using hn
  cases r with
  | cons ru rr =>
   obtain ⟨as,a1⟩:=Ow.reads I t hn'.1 (Ow.any0 t h4) ru
   obtain ⟨bs,a2⟩:=Ows.reads I ts hn'.2 (Ows.any0 ts h5) rr
   exact ⟨_,.cons a1 a2⟩
end
end
section
open PySem.SeqAt Classical
variable {X:Cx} {K:PySem.W.Frag} {pins:List (Addr × Obj)} {σ:St} {H:Hp} {s:Shared} {O:AS}
noncomputable def eqF (X:Cx) (O:AS) (H:Hp) (a:D) (u:Value):Bool:=decide (∃ d v,RelV v u∧av d=true∧Ow X.K O H d 0 v NoA∧peq d a=true)
theorem mh (I:Inv X pins σ H s) {a d:D} {v:V} {u:Value} (r:RelV v u) (hn:av d=true) (o:Ow X.K O H d 0 v NoA):eqF X O H a u=peq d a:=by
 unfold eqF
 cases h:peq d a with
 | true=>exact decide_eq_true ⟨d,v,r,hn,o,h⟩
 | false =>
  refine decide_eq_false fun ⟨d',v',r',hn',o',h'⟩=>?_
  have e:=r.inj r'
  subst e
  have:=Ow.inj I d d' o o' hn
  subst this
  rw [h] at h'
  cases h'
theorem iP (I:Inv X pins σ H s) {a:D}:∀ {ts:List D} {vs:List V} {us:List Value},aB ts=true→Ows X.K O H ts 0 vs NoA→Vals vs us→us.any (eqF X O H a)=ts.any fun t=>peq t a
 | [],_,_,_,h,r=>by
  cases (show _=[] from h)
  cases r
  rfl
 | t :: ts,_,_,hn,h,r=>by
  obtain ⟨v,q,F1,F2,e,_,_,_,h4,h5⟩:=h
  subst e
  have hn':av t=true∧aB ts=true:=by simpa [aB] using hn
  cases r with
  | cons ru rr=>rw [List.any_cons,List.any_cons,mh I ru hn'.1 (Ow.any0 t h4),iP I hn'.2 (Ows.any0 ts h5) rr]
theorem eZ (I:Inv X pins σ H s) {A:Around} {a:D} {x:V} {v:Value} (hna:av a=true) (oa:Ow X.K O H a 0 x NoA) (ra:RelV x v) (hu:A.units+60+1 < cLine):∀ {ts:List D} {vs:List V} {us:List Value},aB ts=true→bD ts≤60→Ows X.K O H ts 0 vs NoA→Vals vs us→∀ u∈us,EqAt A s u v (eqF X O H a u)
 | [],_,_,_,_,h,r=>by
  cases (show _=[] from h)
  cases r
  exact fun u hu=>by cases hu
 | t :: ts,_,_,hn,hdp,h,r=>by
  obtain ⟨w,q,F1,F2,e,_,_,_,h4,h5⟩:=h
  subst e
  have hn':av t=true∧aB ts=true:=by simpa [aB] using hn
  have hd':ff t≤60∧bD ts≤60:=by simp only [bD] at hdp; omega
  cases r with
  | cons ru rr =>
   intro u' hu'
   rcases List.mem_cons.mp hu' with rfl | hu'
   ·rw [mh I ru hn'.1 (Ow.any0 t h4)]
    exact (sK I 60 t a A w x _ v hd'.1 hn'.1 hna (Ow.any0 t h4) oa ru ra hu).1
   ·exact eZ I hna oa ra hu hn'.2 hd'.2 (Ows.any0 ts h5) rr u' hu'
def inL:D→D→Option D
 | x,.list ts=>grd (av x=true∧aB ts=true∧bD ts≤60) (.bool (ts.any fun t=>peq t x))
 | x,.tuple ts=>grd (av x=true∧aB ts=true∧bD ts≤60) (.bool (ts.any fun t=>peq t x))
 | _,_=>none
def oG:D→D→Option D
 | x,.list ts=>grd (av x=true∧aB ts=true∧bD ts≤60) (.bool (!ts.any fun t=>peq t x))
 | x,.tuple ts=>grd (av x=true∧aB ts=true∧bD ts≤60) (.bool (!ts.any fun t=>peq t x))
 | _,_=>none
theorem HC (hK:X.K=K) (hu:X.A.units+64 < cLine):OpR X (compareOp .In) (rF2 K inL 3):=by
 subst hK
 intro pins s σ H x y v u Q I rx ry ⟨O,a,b,t,oa,ob,hd,hg,k⟩
 have hu1:X.A.in1.units+60+1 < cLine:=by show X.A.units+1+60+1 < cLine; omega
 cases b with
 | list ts =>
  obtain ⟨⟨c1,c2,c3⟩,rfl⟩:=bJ hg
  obtain ⟨p,vs,rfl,fz,w⟩:=ob.lst0
  cases ry
  obtain ⟨its,r,pl,hz⟩:=I.list fz.sq
  refine SeqAt.in_listAt (eqF X O H a) pl.isList (fun z hz=>eZ I c1 oa rx hu1 c2 c3 w r z (by simpa using hz)) ⟨.bl _,H,I,rfl,?_⟩
  rw [show its.toArray.any (eqF X O H a)=its.any (eqF X O H a) by simp,iP I c2 w r]
  exact k _ H NoA .refl rfl
 | tuple ts =>
  obtain ⟨⟨c1,c2,c3⟩,rfl⟩:=bJ hg
  obtain ⟨p,vs,rfl,fz,w⟩:=ob.tup0
  cases ry
  obtain ⟨its,r,pl,hz⟩:=I.tuple fz.sq
  refine SeqAt.in_tupleAt (eqF X O H a) pl (fun z hz=>eZ I c1 oa rx hu1 c2 c3 w r z (by simpa using hz)) ⟨.bl _,H,I,rfl,?_⟩
  rw [show its.toArray.any (eqF X O H a)=its.any (eqF X O H a) by simp,iP I c2 w r]
  exact k _ H NoA .refl rfl
 | _=>cases hg
theorem vQ (hK:X.K=K) (hu:X.A.units+64 < cLine):OpR X (compareOp .NotIn) (rF2 K oG 3):=by
 subst hK
 intro pins s σ H x y v u Q I rx ry ⟨O,a,b,t,oa,ob,hd,hg,k⟩
 have hu1:X.A.in1.units+60+1 < cLine:=by show X.A.units+1+60+1 < cLine; omega
 cases b with
 | list ts =>
  obtain ⟨⟨c1,c2,c3⟩,rfl⟩:=bJ hg
  obtain ⟨p,vs,rfl,fz,w⟩:=ob.lst0
  cases ry
  obtain ⟨its,r,pl,hz⟩:=I.list fz.sq
  refine SeqAt.notIn_listAt (eqF X O H a) pl.isList (fun z hz=>eZ I c1 oa rx hu1 c2 c3 w r z (by simpa using hz)) ⟨.bl _,H,I,rfl,?_⟩
  rw [show its.toArray.any (eqF X O H a)=its.any (eqF X O H a) by simp,iP I c2 w r]
  exact k _ H NoA .refl rfl
 | tuple ts =>
  obtain ⟨⟨c1,c2,c3⟩,rfl⟩:=bJ hg
  obtain ⟨p,vs,rfl,fz,w⟩:=ob.tup0
  cases ry
  obtain ⟨its,r,pl,hz⟩:=I.tuple fz.sq
  refine SeqAt.notIn_tupleAt (eqF X O H a) pl (fun z hz=>eZ I c1 oa rx hu1 c2 c3 w r z (by simpa using hz)) ⟨.bl _,H,I,rfl,?_⟩
  rw [show its.toArray.any (eqF X O H a)=its.any (eqF X O H a) by simp,iP I c2 w r]
  exact k _ H NoA .refl rfl
 | _=>cases hg
end
end L2
namespace L2
open PySem PySem.Spec PyProof.Rows
def dns:Nat→Nat→Nat
 | 0,d=>d
 | m+1,d=>dns m (dn d)
theorem pE:∀ m,dns m 0=0
 | 0=>rfl
 | m+1=>pE m
theorem GU {m d:Nat} (h:dns m d≠0):d≠0:=fun z=>h (by rw [z]; exact pE m)
def gj:D→List Nat→Option D
 | t,[]=>some t
 | .list ts,k :: π=>(ts[k]?).bind fun u=>gj u π
 | .tuple ts,k :: π=>(ts[k]?).bind fun u=>gj u π
 | _,_ :: _=>none
def ei:D→List Nat→D→D
 | _,[],u=>u
 | .list ts,k :: π,u=>.list (ts.set k ((ts[k]?).elim .none fun c=>ei c π u))
 | .tuple ts,k :: π,u=>.tuple (ts.set k ((ts[k]?).elim .none fun c=>ei c π u))
 | t,_ :: _,_=>t
def PathV (H:Hp):V→List Nat→V→Prop
 | v,[],w=>v=w
 | v,k :: π,w=>∃ a vs u,v=.ref a∧(H a=some (.lst vs)∨H a=some (.tup vs))∧vs[k]?=some u∧PathV H u π w
theorem PathV.det {H:Hp}:∀ {π:List Nat} {v w w':V},PathV H v π w→PathV H v π w'→w=w'
 | [],_,_,_,h,g=>h.symm.trans g
 | _ :: _,_,_,_,⟨a,vs,u,e,h1,h2,h3⟩,⟨a',vs',u',e',g1,g2,g3⟩=>by
  rw [e] at e'
  cases e'
  have:vs=vs':=by
   rcases h1 with h1 | h1 <;> rcases g1 with g1 | g1 <;> rw [h1] at g1 <;> cases g1 <;> rfl
  subst this
  rw [h2] at g2
  cases g2
  exact h3.det g3
section
variable {K:PySem.W.Frag} {O:AS} {H:Hp}
theorem Ows.zoom {d:Nat}:∀ {ts:List D} {vs:List V} {F:AS} {k:Nat} {u:D},Ows K O H ts d vs F→ts[k]?=some u →
  ∃ w,∃ F1 F2:AS,vs[k]?=some w∧(∀ b,F1 b→F b)∧(∀ b,F2 b→F b)∧(∀ b,F1 b→¬ F2 b)∧Ow K O H u d w F1 ∧
   ∀ (O':AS) (H':Hp) (u':D) (G:AS),Mv O O' F2 H H'→(∀ b,G b→¬ F2 b)→Ow K O' H' u' d w G→Ows K O' H' (ts.set k u') d vs (fun b=>F2 b∨G b)
 | [],_,_,k,u,_,h=>by simp at h
 | t :: ts,_,F,k,u,h,hk=>by
  obtain ⟨v,r,F1,F2,e,s1,s2,s3,h4,h5⟩:=h
  subst e
  cases k with
  | zero =>
   have:t=u:=by simpa using hk
   subst this
   refine ⟨v,F1,F2,rfl,s1,s2,s3,h4,fun O' H' u' G m hd o=>?_⟩
   exact ⟨v,r,G,F2,rfl,fun _ z=>.inr z,fun _ z=>.inl z,hd,o,Ows.mv m ts (fun _ z=>z) h5⟩
  | succ k =>
   obtain ⟨w,G1,G2,g1,g2,g3,g4,g5,g6⟩:=Ows.zoom (k:=k) h5 (by simpa using hk)
   refine ⟨w,G1,fun b=>F1 b∨G2 b,by simpa using g1,fun b z=>s2 b (g2 b z),fun b z=>z.elim (s1 b) fun z=>s2 b (g3 b z),fun b z z2=>?_,g5,fun O' H' u' G m hd o=>?_⟩
   ·rcases z2 with z2 | z2
    ·exact s3 b z2 (g2 b z)
    ·exact g4 b z z2
   ·refine ⟨v,r,F1,fun b=>G2 b∨G b,rfl,fun b z=>.inl (.inl z),fun b z=>z.imp .inr id,fun b z z2=>?_,Ow.mv ⟨m.k,m.o⟩ t (fun b z=>.inl z) h4,g6 O' H' u' G ⟨fun a o q z=>m.k a o q (z.imp id .inr),m.o⟩ (fun b z z2=>hd b z (.inr z2)) o⟩
    rcases z2 with z2 | z2
    ·exact s3 b z (g3 b z2)
    ·exact hd b z2 (.inl z)
theorem Ow.zoom:∀ {π:List Nat} {t u:D} {d:Nat} {v:V} {F:AS},Ow K O H t d v F→gj t π=some u→dns π.length d≠0 →
  ∃ w,∃ F1 Fr:AS,PathV H v π w∧(∀ b,F1 b→F b)∧(∀ b,Fr b→F b)∧(∀ b,F1 b→¬ Fr b)∧Ow K O H u (dns π.length d) w F1 ∧
   ∀ (O':AS) (H':Hp) (u':D) (G:AS),Mv O O' Fr H H'→(∀ b,G b→¬ Fr b)→Ow K O' H' u' (dns π.length d) w G→Ow K O' H' (ei t π u') d v (fun b=>Fr b∨G b)
 | [],t,u,d,v,F,h,hp,hz=>by
  cases hp
  refine ⟨v,F,NoA,rfl,fun _ z=>z,fun _ z=>z.elim,fun _ _ z=>z,h,fun O' H' u' G m hd o=>?_⟩
  have e:(fun b=>NoA b∨G b)=G:=eQ fun b=>⟨fun z=>z.elim (fun z=>z.elim) id,.inr⟩
  rw [e]
  exact o
 | k :: π,t,u,d,v,F,h,hp,hz=>by
  have hz1:dns π.length (dn d)≠0:=hz
  have hd0:d≠0:=GU (m:=π.length+1) hz
  cases t with
  | list ts =>
   obtain ⟨c,p1,p2⟩:=Option.bind_eq_some_iff.mp hp
   obtain ⟨a,vs,e,⟨h0,_⟩ | ⟨_,h1,h2,F',hf,h3⟩⟩:=h
   ·exact absurd h0 hd0
   obtain ⟨w,G1,G2,g1,g2,g3,g4,g5,g6⟩:=h3.zoom p1
   obtain ⟨w2,F1,Fr,q1,q2,q3,q4,q5,q6⟩:=Ow.zoom g5 p2 hz1
   refine ⟨w2,F1,fun b=>b=a∨G2 b∨Fr b,⟨a,vs,w,e,.inl h1,g1,q1⟩,fun b z=>(hf b (g2 b (q2 b z))).1,fun b z=>?_,fun b z z2=>?_,q5,fun O' H' u' G m hd o=>?_⟩
   ·rcases z with z | z | z
    ·rw [z]; exact h2
    ·exact (hf b (g3 b z)).1
    ·exact (hf b (g2 b (q3 b z))).1
   ·rcases z2 with z2 | z2 | z2
    ·exact (hf b (g2 b (q2 b z))).2 z2
    ·exact g4 b (q2 b z) z2
    ·exact q4 b z z2
   ·have o1:=q6 O' H' u' G ⟨fun x y q z=>m.k x y q (z.imp id fun z=>.inr (.inr z)),m.o⟩ (fun b z z2=>hd b z (.inr (.inr z2))) o
    have o2:=g6 O' H' (ei c π u') (fun b=>Fr b∨G b) ⟨fun x y q z=>m.k x y q (z.imp id fun z=>.inr (.inl z)),m.o⟩ (fun b z z2=>?_) o1
    ·refine ⟨a,vs,e,.inr ⟨hd0,m.k _ _ h1 (.inr (.inl rfl)),.inl (.inl rfl),fun b=>G2 b∨Fr b∨G b,fun b z=>?_,?_⟩⟩
     ·rcases z with z | z | z
      ·exact ⟨.inl (.inr (.inl z)),(hf b (g3 b z)).2⟩
      ·exact ⟨.inl (.inr (.inr z)),(hf b (g2 b (q3 b z))).2⟩
      ·exact ⟨.inr z,fun ze=>hd b z (.inl ze)⟩
     ·rw [p1]
      exact o2
    ·rcases z with z | z
     ·exact g4 b (q3 b z) z2
     ·exact hd b z (.inr (.inl z2))
  | tuple ts =>
   obtain ⟨c,p1,p2⟩:=Option.bind_eq_some_iff.mp hp
   obtain ⟨a,vs,e,⟨h0,_⟩ | ⟨_,h1,h2,F',hf,h3⟩⟩:=h
   ·exact absurd h0 hd0
   obtain ⟨w,G1,G2,g1,g2,g3,g4,g5,g6⟩:=h3.zoom p1
   obtain ⟨w2,F1,Fr,q1,q2,q3,q4,q5,q6⟩:=Ow.zoom g5 p2 hz1
   refine ⟨w2,F1,fun b=>b=a∨G2 b∨Fr b,⟨a,vs,w,e,.inr h1,g1,q1⟩,fun b z=>(hf b (g2 b (q2 b z))).1,fun b z=>?_,fun b z z2=>?_,q5,fun O' H' u' G m hd o=>?_⟩
   ·rcases z with z | z | z
    ·rw [z]; exact h2
    ·exact (hf b (g3 b z)).1
    ·exact (hf b (g2 b (q3 b z))).1
   ·rcases z2 with z2 | z2 | z2
    ·exact (hf b (g2 b (q2 b z))).2 z2
    ·exact g4 b (q2 b z) z2
    ·exact q4 b z z2
   ·have o1:=q6 O' H' u' G ⟨fun x y q z=>m.k x y q (z.imp id fun z=>.inr (.inr z)),m.o⟩ (fun b z z2=>hd b z (.inr (.inr z2))) o
    have o2:=g6 O' H' (ei c π u') (fun b=>Fr b∨G b) ⟨fun x y q z=>m.k x y q (z.imp id fun z=>.inr (.inl z)),m.o⟩ (fun b z z2=>?_) o1
    ·refine ⟨a,vs,e,.inr ⟨hd0,m.k _ _ h1 (.inr (.inl rfl)),.inl (.inl rfl),fun b=>G2 b∨Fr b∨G b,fun b z=>?_,?_⟩⟩
     ·rcases z with z | z | z
      ·exact ⟨.inl (.inr (.inl z)),(hf b (g3 b z)).2⟩
      ·exact ⟨.inl (.inr (.inr z)),(hf b (g2 b (q3 b z))).2⟩
      ·exact ⟨.inr z,fun ze=>hd b z (.inl ze)⟩
     ·rw [p1]
      exact o2
    ·rcases z with z | z
     ·exact g4 b (q3 b z) z2
     ·exact hd b z (.inr (.inl z2))
  | _=>cases hp
end
abbrev MP:=En→Option (List Nat × En)
def tP (K:PySem.W.Frag) (p:Bool) (ds ds':List Nat) (i m:Nat) (mp:MP):TE:=fun σ H Q =>
 ∃ Ox en R π en',EnvOk K ds Ox H σ en R∧mp en=some (π,en')∧∀ v w H' R',Post K p ds' Ox σ H en R en' H' R' NoA→π.length=m→σ[i]?=some (some v)→PathV H' v π w→Q w H'
def oB (i:Nat):MP:=fun en=>((en[i]?).join).map fun _=>([],en)
section
variable {X:Cx} {K:PySem.W.Frag} {p p1 p2:Bool} {J:Jd} {ds ds1 ds2:List Nat} {H:Hp} {σ:St} {d d1 d2 i m:Nat} {f fk fe:ME} {mp:MP} {e b o:Expr} {Q:VK}
theorem GH (h:tP K true ds ds i 0 (oB i) σ H Q):gC i σ H Q:=by
 obtain ⟨Ox,en,R,π,en',e,hf,k⟩:=h
 unfold oB at hf
 obtain ⟨t,h1,h2⟩:=Option.map_eq_some_iff.mp hf
 cases h2
 obtain ⟨v,d,a1,_,_⟩:=e.at_ i t (bn h1)
 exact ⟨v,a1,k v v H R (Post.refl e) rfl a1 rfl⟩
theorem Cq {x:Str} {px:Pos} (hN:X.N[i]?=some x) (hv:Vis X.env.scope x) (hd:(x == ("__debug__" : Str))=false) (hcd:(x == ("__classdict__" : Str))=false):PE X (.Name x px) (tP K true ds ds i 0 (oB i)) :=
 (dJ hN hv hd hcd).imp fun _ _ _=>GH
theorem Post.place {Ox:AS} {en en1:En} {R R1:Nat→AS} {H1:Hp} {F:AS} {t:D} {π:List Nat} {ts:List D} {v w:V} (P:Post K p ds1 Ox σ H en R en1 H1 R1 F) (hi:en1[i]?=some (some t)) (hv:σ[i]?=some (some v)) (hd:ds1[i]?=some d) (hg:gj t π=some (.list ts)) (hz:dns π.length d≠0) (pv:PathV H1 v π w) :
  ∃ l vs,∃ F1:AS,w=.ref l∧H1 l=some (.lst vs)∧R1 i l∧(∀ b,F1 b→R1 i b∧b≠l)∧Ows K (Own R1 (U F Ox)) H1 ts (dn (dns π.length d)) vs F1 ∧
   ∀ (ts':List D) (vs':List V) (G:AS),(∀ b,G b→F1 b∨F b)→(∀ O',(∀ a,O' a→Own R1 (U F Ox) a)→Ows K O' (upd H1 l (.lst vs')) ts' (dn (dns π.length d)) vs' G) →
    ∃ R',Post K false ds1 Ox σ H en R (en1.set i (some (ei t π (.list ts')))) (upd H1 l (.lst vs')) R' NoA:=by
 obtain ⟨v',d',b1,b2,b3⟩:=P.env.at_ i t hi
 rw [hv] at b1
 cases b1
 rw [hd] at b2
 cases b2
 obtain ⟨w2,F1,Fr,q1,q2,q3,q4,q5,q6⟩:=b3.zoom hg hz
 have ew:=pv.det q1
 subst ew
 obtain ⟨l,vs,el,hl,hr,F',hf',ow⟩:=q5.ownL hz
 refine ⟨l,vs,F',el,hl,q2 l hr,fun b z=>⟨q2 b (hf' b z).1,(hf' b z).2⟩,ow,fun ts' vs' G hG hO=>?_⟩
 have hlen:i < en1.length:=(List.getElem?_eq_some_iff.mp hi).1
 have gl:∀ b,F b→b≠l:=fun b z ze=>by
  subst ze
  exact P.env.dx i b (q2 b hr) (.inl z)
 have gG:∀ a,(fun b=>Fr b∨(b=l∨G b)) a→R1 i a∨F a:=fun a z=>by
  rcases z with z | z | z
  ·exact .inl (q3 a z)
  ·rw [z]; exact .inl (q2 l hr)
  ·rcases hG a z with z | z
   ·exact .inl (q2 a (hf' a z).1)
   ·exact .inr z
 have sub:=kg (i:=i) (R1:=R1) (Ox:=Ox) (G:=fun b=>Fr b∨(b=l∨G b)) (F':=NoA) (F:=F) gG (fun _ z=>z.elim)
 have Ol:Own R1 (U F Ox) l:=.inl ⟨i,q2 l hr⟩
 refine ⟨_,P.slot (G:=fun b=>Fr b∨(b=l∨G b)) (q2 l hr) hlen hv hd gG (fun _ z=>z.elim) (fun _ _ z=>z) ?_⟩
 refine q6 _ _ (.list ts') (fun b=>b=l∨G b) ⟨fun a o q z=>?_,fun a z=>.inl (sub a z)⟩ (fun b z z2=>?_) ?_
 ·rw [aP]
  ·exact q
  ·intro za
   subst za
   rcases z with z | z
   ·exact z Ol
   ·exact q4 a hr z
 ·rcases z with z | z
  ·rw [z] at z2; exact q4 l hr z2
  ·rcases hG b z with z | z
   ·exact q4 b (hf' b z).1 z2
   ·exact P.env.dx i b (q3 b z2) (.inl z)
 ·refine ⟨l,vs',el,.inr ⟨hz,aW,.inl rfl,G,fun b z=>⟨.inr z,?_⟩,hO _ sub⟩⟩
  rcases hG b z with z | z
  ·exact (hf' b z).2
  ·exact gl b z
def IW (i:Nat) (mp:MP) (f:ME):ME:=fun en=>(mp en).bind fun r=>match (r.2[i]?).join with
 | some t=>(gj t r.1).bind fun u=>match u with
  | .list ts=>(f r.2).bind fun q=>if ts.length < sizeLine then some (.none,q.2.set i (some (ei t r.1 (.list (ts++[q.1]))))) else none
  | _=>none
 | none=>none
def mi (i:Nat) (mp:MP):ME:=fun en=>(mp en).bind fun r=>match (r.2[i]?).join with
 | some t=>(gj t r.1).bind fun u=>match u with
  | .list _=>some (.none,r.2.set i (some (ei t r.1 (.list []))))
  | _=>none
 | none=>none
theorem vc {K:PySem.W.Frag} {H:Hp} {l:Addr} {vs:List V} (h:H l=some (.lst vs)):tyV K "list" (.ref l) H:=.inl ⟨rfl,vs,SqL.of h⟩
theorem GK (hd1:ds1[i]?=some d) (hz:dns m d≠0) (h:tF K false ds ds1 3 (mi i mp) σ H Q):EZ K "list" tw (tP K p1 ds ds1 i m mp) σ H Q:=by
 obtain ⟨Ox,en,R,t0,en',e,hf,k⟩:=h
 unfold mi at hf
 obtain ⟨⟨π,en1⟩,h1,hf⟩:=Option.bind_eq_some_iff.mp hf
 dsimp only at hf
 split at hf
 case h_2=>cases hf
 next t h3 =>
 obtain ⟨u,h4,hf⟩:=Option.bind_eq_some_iff.mp hf
 cases u with
 | list ts =>
  cases hf
  refine ⟨Ox,en,R,π,en1,e,h1,fun v w H1 R1 P1 hl hv pv=>?_⟩
  subst hl
  obtain ⟨l,vs,F1,el,hl1,hr,hf1,ow,fin⟩:=P1.place (bn h3) hv hd1 h4 hz pv
  subst el
  obtain ⟨R',PF⟩:=fin [] [] NoA (fun _ z=>z.elim) fun O' ho=>rfl
  exact ⟨vc hl1,l,vs,rfl,rfl,hl1,k .non _ R' NoA PF rfl⟩
 | _=>cases hf
theorem CD {apos cpos:Pos} (hK:X.K=K) (hd1:ds1[i]?=some d) (ho:PE X o (tP K p1 ds ds1 i m mp)) (hz:dns m d≠0)
  (hbase:attributeBase o "clear" X.env (eval o X.env)=eval o X.env) (hline:(apos.endLine == cpos.line)=true) :
  PE X (.Call (.Attribute o "clear" apos) [] [] cpos) (tF K false ds ds1 3 (mi i mp)):=by
 subst hK
 exact (Fx PySem.F.plainAttrs_list PySem.F.slot_list_clear PySem.F.type_list_clear vj ho hbase hline).imp fun _ _ _=>GK hd1 hz
end
end L2
namespace L2
open PySem PySem.Spec PyProof.Rows
end L2
namespace L2
open PySem PySem.Spec PyProof.Rows
def r8 (f:Nat→Str):Nat→List Str
 | 0=>[]
 | i+1=>if (r8 f i).any (· == f i)=true then r8 f i else r8 f i++[f i]
section
variable {P:Program} {w:World} {A:Around} {R:Result→Shared→Prop} {I:Addr} {fp wr:List Addr} {G:Array GenState→Array GenState→Prop} {n:Nat} {Pi:Nat→Value→Prop} {St:Nat→Shared→Prop}
end
section
variable {P:Program} {w:World} {A:Around} {E:Value→Shared→Prop} {s:Shared}
def Hc (z:Str) (i:Nat):Str:=match z.cps[i]? with
 | some c=>mk1 c
 | none=>""
end
end L2
namespace L2
open PySem PySem.Spec PyProof.Rows
section
variable {X:Cx} {K:PySem.W.Frag} {p p1 p2:Bool} {ds ds1 ds2:List Nat} {d d1 d2:Nat} {e k:Expr} {f f1 f2:ME} {fa:MA} {sh:Sh} {σ:St} {H:Hp} {Q Q':VK} {pos pos2 px py:Pos}
theorem jN (h:∀ v H,Q v H→Q' v H):tF K p ds ds1 d f σ H Q→tF K p ds ds1 d f σ H Q'
 | ⟨Ox,en,R,t,en',e,hf,k⟩=>⟨Ox,en,R,t,en',e,hf,fun v H' R' F P o=>h _ _ (k v H' R' F P o)⟩
def IF:D→Option D
 | .str z=>grd (z.length < 4000) (.int (r8 (Hc z) z.length).length)
 | _=>none
def I0:D→D→Option D
 | .list ts,.int (-1)=>some (.list ts.reverse)
 | _,_=>none
def kz:D→D→Option D
 | .tuple ts,.int (-1)=>some (.tuple ts.reverse)
 | _,_=>none
def IQ:D→D→Option D
 | .str z,.int (-1)=>grd (z.length≤sizeLine) (.str ⟨z.cps.toList.reverse.toArray⟩)
 | _,_=>none
theorem CB (hK:X.K=K) (he:PE X e (tF K p ds ds1 d1 f1)) (hk:PE X k (tF K p ds1 ds2 d2 f2)):PE X (.Subscript e (.Slice none none (some k) pos2) pos) (tF K p ds ds2 0 (e2 kz f1 f2)):=by
 refine (vq hK he hk).imp fun σ H Q h=>?_
 refine jN (fun x H1 h1=>jN (fun y H2 h2=>?_) h1) (me (by rw [Bool.and_self]; exact h))
 obtain ⟨O,a,b,t,oa,ob,hd,hg,q⟩:=h2
 unfold kz at hg
 split at hg
 ·cases hg
  obtain ⟨a,vs,rfl,fz,w⟩:=oa.tup0
  exact ⟨a,vs,rfl,ob,fz.sq,fun l hl=>q _ _ _ (eY hl hd w.rev).1 (eY hl hd w.rev).2⟩
 ·cases hg
def IH (fa:MA):MI:=fun en=>(fa en).bind fun r=>match r.1 with
 | [.inl (.str x),.inl (.str y)]=>some (uT (lJ x) (lJ y),r.2)
 | _=>none
def isB:D→D→Option D
 | .bool a,.bool b=>some (.bool (a == b))
 | _,_=>none
end
end L2
namespace L2
open PySem PySem.Spec PyProof.Rows
section
variable {X:Cx} {K:PySem.W.Frag} {pins:List (Addr × Obj)} {σ:St} {H:Hp} {s:Shared} {O:AS}
end
end L2
namespace L2
open PySem PySem.Spec PyProof.Rows
section
variable {X:Cx} {K:PySem.W.Frag} {p p1 p2:Bool} {ds ds1 ds2:List Nat} {d d1 d2:Nat} {a b:Expr} {f f1 f2:ME} {σ:St} {H:Hp} {Q Q':VK} {pos:Pos} {ta tb:TE} {rest:List Expr}
def pH:D→Option Int→Option Int→Option D
 | .tuple ts,lo,hi=>grd (¬ (HT.sIx ts.length 0 lo=0∧HT.sIx ts.length ts.length hi=ts.length)) (.tuple (bt ts lo hi))
 | _,_,_=>none
theorem pp (hK:X.K=K):SlR X (rFs K pH 0):=(Ip hK).imp fun x lo hi H Q ⟨O,a,t,oa,hd,hg,k⟩=>by
 cases a with
 | tuple ts =>
  obtain ⟨c,rfl⟩:=bJ hg
  obtain ⟨a,vs,e1,f1,w1⟩:=oa.tup0
  refine ⟨a,vs,e1,f1.sq,by rw [w1.len]; exact c,fun p hp=>?_⟩
  have w2:Ows K O H (bt ts lo hi) 0 (fS vs lo hi) NoA:=by
   unfold bt fS
   rw [w1.len]
   exact (w1.drop _).take _
  exact k _ _ _ (eY hp hd w2).1 (eY hp hd w2).2
 | _=>cases hg
def Ie:D→Option Bool
 | .none=>some false
 | .bool b=>some b
 | .list ts=>some (!ts.isEmpty)
 | .tuple ts=>some (!ts.isEmpty)
 | _=>none
def Jg (f g:ME):ME:=fun en=>(f en).bind fun r=>(Ie r.1).bind fun c=>if c then some r else g r.2
end
end L2
namespace L2
open PySem PySem.Spec PyProof.Rows
section
variable {X:Cx} {K:PySem.W.Frag} {p p1 p2:Bool} {ds ds1 ds2:List Nat} {d d1 d2:Nat} {a b:Expr} {f f1 f2:ME} {σ:St} {H:Hp} {Q Q':VK} {pos:Pos}
theorem Gv (hK:X.K=K) (ha:PE X a (tF K p ds ds1 d f1)) (hb:PE X b (tF K p ds1 ds2 d2 f2)) (hs:fq b) (hz:d≠0):PE X (.Subscript a b pos) (tF K p ds ds2 (dn d) (e2 ixA f1 f2)):=by
 subst hK
 refine (rP ix_seq ha hb hs).imp fun σ H Q h=>?_
 obtain ⟨Ox,en,R,t,en',e,hf,k⟩:=h
 unfold e2 at hf
 obtain ⟨⟨t1,en1⟩,h1,hf⟩:=Option.bind_eq_some_iff.mp hf
 obtain ⟨⟨t2,en2⟩,h2,hf⟩:=Option.bind_eq_some_iff.mp hf
 obtain ⟨t',h3,hf⟩:=Option.map_eq_some_iff.mp hf
 cases hf
 have go:tFA X.K (p && (p && true)) ds ds2 [.inl d,.inl d2] (ae f1 (ae f2 aj)) σ H (fun vs H2=>∃ x y,vs=[x,y]∧((∃ (a:Addr) (us:List V) (n:Int) (v:V),x=.ref a∧y=.int n∧(SqL X.K H2 a us∨SqT X.K H2 a us)∧atI us n=some v∧Q v H2)∨(∃ (z:Str) (n:Int) (c:Nat),x=.str z∧y=.int n∧z.length≤sizeLine∧atI z.cps.toList n=some c∧Q (.str (mk1 c)) H2))):=by
  refine ⟨Ox,en,R,[.inl t1,.inl t2],en2,e,?_,fun vs H1 R1 F P o=>?_⟩
  ·unfold ae aj
   rw [h1]
   show Option.map _ ((f2 en1).bind _)=_
   rw [h2]
   rfl
  ·obtain ⟨x,r,d',dr,F1,F2,e1,e2',s1,s2,_,o1,y,r2,d2',dr2,G1,G2,e3,e4,s3,_,_,o2,o3⟩:=o
   obtain ⟨_,o3⟩:=o3
   cases e2'
   subst e1 e3 o3
   cases e4
   refine ⟨x,y,rfl,?_⟩
   have P':Post X.K p ds2 Ox σ H en R en2 H1 R1 F:=by
    rw [Bool.and_true,Bool.and_self] at P
    exact P
   cases t2 with
   | int n =>
    cases (show y=V.int n from o2)
    cases t1 with
    | list ts =>
     obtain ⟨a,vs,rfl,⟨z,_⟩ | ⟨_,g1,g2,G,hg,g3⟩⟩:=o1
     ·exact absurd z hz
     ·have h3':atI ts n=some t:=h3
      unfold atI at h3'
      obtain ⟨j,hj,hj2⟩:=Option.bind_eq_some_iff.mp h3'
      obtain ⟨v,hv,ov⟩:=g3.get hj2
      refine .inl ⟨a,vs,n,v,rfl,rfl,.inl (.inl (.inl g1)),?_,?_⟩
      ·unfold atI
       rw [g3.len,hj]
       exact hv
      ·have sub:∀ b,G b→F b:=fun b hb=>s1 b (hg b hb).1
       exact k v H1 R1 G (P'.less sub) (Ow.grow (fun b hb=>hb.imp id fun hb=>hb.imp (sub b) id) _ (fun _ z=>z) ov)
    | tuple ts =>
     obtain ⟨a,vs,rfl,⟨z,_⟩ | ⟨_,g1,g2,G,hg,g3⟩⟩:=o1
     ·exact absurd z hz
     ·have h3':atI ts n=some t:=h3
      unfold atI at h3'
      obtain ⟨j,hj,hj2⟩:=Option.bind_eq_some_iff.mp h3'
      obtain ⟨v,hv,ov⟩:=g3.get hj2
      refine .inl ⟨a,vs,n,v,rfl,rfl,.inr (.inl (.inl g1)),?_,?_⟩
      ·unfold atI
       rw [g3.len,hj]
       exact hv
      ·have sub:∀ b,G b→F b:=fun b hb=>s1 b (hg b hb).1
       exact k v H1 R1 G (P'.less sub) (Ow.grow (fun b hb=>hb.imp id fun hb=>hb.imp (sub b) id) _ (fun _ z=>z) ov)
    | str z =>
     dsimp only [ixA] at h3
     by_cases hl:z.length≤sizeLine
     ·rw [if_pos hl] at h3
      obtain ⟨c,h5,h6⟩:=Option.map_eq_some_iff.mp h3
      cases h6
      exact .inr ⟨z,n,c,o1,rfl,hl,h5,k _ H1 R1 NoA (P'.less fun _ z=>z.elim) rfl⟩
     ·rw [if_neg hl] at h3; cases h3
    | _=>cases h3
   | _=>cases t1 <;> cases h3
 have go2:=mU (ds1:=ds1) (p1:=p) (p2:=p && true) go
 refine jN (fun x H1 q1=>?_) go2
 have q2:=mU (ds1:=ds2) (p1:=p) (p2:=true) q1
 refine jN (fun y H2 q3=>?_) q2
 obtain ⟨x',y',ee,q⟩:=uA q3
 cases ee
 rcases q with ⟨a,us,n,v,rfl,rfl,hs | hs,hv,q⟩ | ⟨z,n,c,rfl,rfl,hl,hv,q⟩
 ·exact .inl ⟨a,us,n,v,rfl,rfl,hs,hv,q⟩
 ·exact .inr (.inl ⟨a,us,n,v,rfl,rfl,hs,hv,q⟩)
 ·exact .inr (.inr ⟨z,n,c,rfl,rfl,hl,hv,q⟩)
end
end L2
namespace L2
open PySem PySem.Spec PyProof.Rows PySem.SeqAt PySem.MeetsSeq
section
variable {A:Around} {s:Shared}
end
section
variable {X:Cx} {pins:List (Addr × Obj)} {σ:St} {H:Hp} {s:Shared} {O:AS}
end
section
variable {X:Cx} {K:PySem.W.Frag}
end
end L2
namespace L2
open PySem PySem.Spec PyProof.Rows PySem.SeqAt PySem.MeetsSeq
def Ja:D→D→Option D
 | .tuple ts,.int k=>grd (1≤k∧k≤1000∧ts.length≤1000) (.tuple (List.replicate k.toNat ts).flatten)
 | _,_=>none
section
variable {X:Cx} {K:PySem.W.Frag}
def IR:D→D→Option D
 | .int k,.str z=>grd (z.length≤4000∧1≤k∧k≤4000) (.str (Txt.mul z k))
 | _,_=>none
end
section
variable {X:Cx} {K:PySem.W.Frag}
end
def gH:List Int→Int
 | []=>0
 | [a]=>a
 | a :: b :: r=>max a (gH (b :: r))
theorem oK:∀ {l:List Int},l≠[]→gH l∈l
 | [a],_=>List.mem_cons_self
 | a :: b :: r,_=>by
  have ih:=oK (l:=b :: r) (by simp)
  unfold gH
  rcases Int.le_total a (gH (b :: r)) with h | h
  ·rw [Int.max_eq_right h]; exact List.mem_cons_of_mem _ ih
  ·rw [Int.max_eq_left h]; exact List.mem_cons_self
theorem rb:∀ {l:List Int} {x:Int},x∈l→x≤gH l
 | [a],x,h=>by simp at h; subst h; exact Int.le_refl _
 | a :: b :: r,x,h=>by
  unfold gH
  rcases List.mem_cons.mp h with rfl | h
  ·exact Int.le_max_left _ _
  ·exact Int.le_trans (rb h) (Int.le_max_right _ _)
theorem mw (val:Nat→Int):∀ k,argBest (fun i j=>decide (val i > val j)) k≤k∧∀ i,i≤k→val i≤val (argBest (fun i j=>decide (val i > val j)) k)
 | 0=>by
  rw [argBest.eq_1]
  exact ⟨Nat.le_refl _,fun i hi=>by rw [Nat.le_zero.mp hi]; exact Int.le_refl _⟩
 | k+1=>by
  obtain ⟨h1,h2⟩:=mw val k
  rw [argBest.eq_2]
  by_cases h:val (k+1) > val (argBest (fun i j=>decide (val i > val j)) k)
  ·rw [if_pos (decide_eq_true h)]
   refine ⟨Nat.le_refl _,fun i hi=>?_⟩
   rcases Nat.lt_or_ge i (k+1) with z | z
   ·exact Int.le_trans (h2 i (by omega)) (Int.le_of_lt h)
   ·rw [show i=k+1 by omega]; exact Int.le_refl _
  ·rw [if_neg (by rw [decide_eq_true_eq]; exact h)]
   refine ⟨by omega,fun i hi=>?_⟩
   rcases Nat.lt_or_ge i (k+1) with z | z
   ·exact h2 i (by omega)
   ·rw [show i=k+1 by omega]; omega
theorem qu (ns:List Int) (h:ns≠[]):ns[argBest (fun i j=>decide (ns.getD i 0 > ns.getD j 0)) (ns.length - 1)]?=some (gH ns):=by
 obtain ⟨h1,h2⟩:=mw (fun i=>ns.getD i 0) (ns.length - 1)
 have hl:0 < ns.length:=List.length_pos_iff.mpr h
 revert h1 h2
 generalize argBest (fun i j=>decide (ns.getD i 0 > ns.getD j 0)) (ns.length - 1)=k
 intro h1 h2
 have hk:k < ns.length:=by omega
 have gk:ns.getD k 0=ns[k]:=by rw [List.getD_eq_getElem?_getD,List.getElem?_eq_getElem hk]; rfl
 have e:ns[k]=gH ns:=by
  refine Int.le_antisymm (rb (List.getElem_mem hk)) ?_
  obtain ⟨i,hi,e⟩:=List.mem_iff_getElem.mp (oK h)
  have z:=h2 i (by omega)
  rw [gk,List.getD_eq_getElem?_getD,List.getElem?_eq_getElem hi] at z
  rw [← e]
  exact z
 rw [List.getElem?_eq_getElem hk,e]
def r9:List D→Option D
 | [.list ts]=>(fN ts).bind fun ns=>grd (ns≠[]) (.int (gH ns))
 | _=>none
section
variable {X:Cx} {K:PySem.W.Frag}
theorem rj (hK:X.K=K) (hc:X.calm=true):CallR X (.builtin "max") (rFn K r9 3):=by
 subst hK
 intro pins s σ H xs us Q I r ⟨O,as,t,oa,hd,hr,k⟩
 match as,hr with
 | [.list ts],hr =>
  obtain ⟨ns,h1,h2⟩:=Option.bind_eq_some_iff.mp hr
  obtain ⟨c,rfl⟩:=bJ h2
  obtain ⟨v,rfl,o⟩:=oa.one
  obtain ⟨p,vs,rfl,fz,w⟩:=o.lst0
  have e:=i9 w h1
  subst e
  obtain ⟨u,rfl,ru⟩:=gZ r
  cases ru
  obtain ⟨its,rv,pl,hz⟩:=I.list fz.sq
  have hl:its.length=ns.length:=by rw [← rv.length,List.length_map]
  have hlt:p < s.heap.objs.size:=by
   obtain ⟨o,n,e,_⟩:=id pl
   exact Heap.lt_size e
  have hsz:its.toArray.size=ns.length:=by rw [List.size_toArray,hl]
  have hn:0 < ns.length:=List.length_pos_iff.mpr c
  refine call_max_walk (wpAny_pyIter_list pl.isList ?_)
  refine ⟨s.heap.objs.size,[s.heap.objs.size,p],[s.heap.objs.size],its.toArray.size,fun i v=>its.toArray[i]?=some v,_,fun i j=>decide (ns.getD i 0 > ns.getD j 0),rfl,Walks.list (A:=X.A.in1) (show X.A.in1.handled=none from I.ok.hd hc) s.heap.objs.size p (Nat.ne_of_lt hlt) its.toArray,?_,?_,?_,?_,?_⟩
  ·exact ⟨⟨_,Heap.get?_push_size _ rfl,rfl,rfl⟩,pl.isList.push _⟩
  ·intro b hb
   show b < (s.heap.push _).objs.size
   rw [Heap.size_push]
   have hb':b=s.heap.objs.size∨b=p:=by simpa using hb
   rcases hb' with rfl | rfl
   ·exact Nat.lt_succ_self _
   ·exact Nat.lt_succ_of_lt hlt
  ·rw [hsz]; exact hn
  ·refine CmpOf.ints_gt (fun i=>ns.getD i 0) fun i v hv=>?_
   have hv':its[i]?=some v:=by simpa using hv
   have hi:i < ns.length:=by
    rw [← hl]
    exact (List.getElem?_eq_some_iff.mp hv').1
   obtain ⟨u,hu,ru⟩:=rv.get (i:=i) (x:=V.int ns[i]) (by rw [List.getElem?_map,List.getElem?_eq_getElem hi]; rfl)
   rw [hu] at hv'
   cases hv'
   obtain ⟨t,rfl⟩:=ru
   refine ⟨t,?_⟩
   rw [List.getD_eq_getElem?_getD,List.getElem?_eq_getElem hi]
   rfl
  ·intro v h' tk hv hk
   rw [hsz] at hv
   have hv':its[argBest (fun i j=>decide (ns.getD i 0 > ns.getD j 0)) (ns.length - 1)]?=some v:=by simpa using hv
   obtain ⟨u,hu,ru⟩:=rv.get (i:=argBest (fun i j=>decide (ns.getD i 0 > ns.getD j 0)) (ns.length - 1)) (x:=V.int (gH ns)) (by rw [List.getElem?_map,qu ns c]; rfl)
   rw [hu] at hv'
   cases hv'
   refine ⟨.int (gH ns),H,I.kept (t':=tk) fun b o z=>hk b o ?_ (Heap.get?_push_of_some _ z),ru,k _ H NoA .refl rfl⟩
   intro z'
   have z'':b=s.heap.objs.size:=by simpa using z'
   exact Nat.ne_of_lt (Heap.lt_size z) z''
end
section
variable {X:Cx} {K:PySem.W.Frag} {p p1 p2:Bool} {ds ds1 ds2:List Nat} {d d1 d2:Nat} {e:Expr} {f f1 f2:ME} {σ:St} {H:Hp} {Q Q':VK}
theorem GI {g:D→D→Option D} {Ty:V→Hp→Prop} (ht:∀ a b t O x H F,g a b=some t→Ow K O H a d1 x F→Ty x H) (h:tF K (p1 && p2) ds ds2 d (e2 g f1 f2) σ H Q) :
  tF K p1 ds ds1 d1 f1 σ H fun x H1=>Ty x H1∧tF K p2 ds1 ds2 d2 f2 σ H1 fun y H2=>rF2 K g d x y H2 Q:=by
 obtain ⟨Ox,en,R,t,en',e,hf,k⟩:=h
 unfold e2 at hf
 obtain ⟨⟨t1,en1⟩,h1,hf⟩:=Option.bind_eq_some_iff.mp hf
 obtain ⟨⟨t2,en2⟩,h2,hf⟩:=Option.bind_eq_some_iff.mp hf
 obtain ⟨t',h3,hf⟩:=Option.map_eq_some_iff.mp hf
 cases hf
 refine ⟨Ox,en,R,t1,en1,e,h1,fun x H1 R1 F1 P1 o1=>⟨ht _ _ _ _ _ _ _ h3 o1,U F1 Ox,en1,R1,t2,en2,P1.env,h2,fun y H2 R2 F2 P2 o2=>?_⟩⟩
 have P:=P1.trans P2
 have o1':=Ow.over P1.env P2 o1
 have o2':Ow K (Own R2 (U (U F1 F2) Ox)) H2 t2 d2 y F2:=kc ▸ o2
 exact ⟨Own R2 Ox,t1,t2,t,Ow.letgo P (fun _=>.inl) o1',Ow.letgo P (fun _=>.inr) o2',P.doms,h3,fun v2 H3 F3 n o3=>k v2 H3 R2 F3 (P.fin n) (mz ▸ o3)⟩
def TyL (K:PySem.W.Frag) (x:V) (H:Hp):Prop:=∃ a vs,x=.ref a∧SqL K H a vs
theorem nZ {O F:AS} {ts:List D} {x:V} (h:Ow K O H (.list ts) d x F):TyL K x H:=by
 obtain ⟨a,vs,rfl,⟨_,fz,_⟩ | ⟨_,g1,_⟩⟩:=h
 ·exact ⟨a,vs,rfl,fz.sq⟩
 ·exact ⟨a,vs,rfl,.inl (.inl g1)⟩
theorem pr {T:String} {o:Expr} {name:Str} {id:String} {apos cpos:Pos} {g:D→D→Option D} {Ty:V→Hp→Prop} (pa:PlainAttrs T) (slot:Slot T name id) (hty:typeOf (.builtin id)=pure (.type "method_descriptor"))
  (ht:∀ a b t O x H F,g a b=some t→Ow K O H a d1 x F→Ty x H) (hT:∀ pins s σ H x v,Inv X pins σ H s→RelV x v→Ty x H→s.TypeIs v T∧∀ a,v=.ref a→∃ ob,s.heap.get? a=some ob∧ob.dict=none)
  (hm:OpR X (fun v u=>call (.builtin id) [v,u]) (rF2 K g 3)) (ho:PE X o (tF K p ds ds1 d1 f1)) (he:PE X e (tF K p ds1 ds2 d2 f2))
  (hbase:attributeBase o name X.env (eval o X.env)=eval o X.env)
  (hfew:((backTo cpos (starEach [e] X.env)).all (fun x=>!x.1) && (backToKw cpos (keywordEach [] X.env)).all (fun x=>x.1.isSome) && decide (([e]:List Expr).length+([]:List Keyword).length+(if ([]:List Keyword).isEmpty then 0 else 1) < 30))=true)
  (hline:(apos.endLine == cpos.line)=true) (hs:starEach [e] X.env=[(false,eval e X.env)]) (hplain:(backTo cpos (starEach [] X.env)).any (·.1)=false) :
  PE X (.Call (.Attribute o name apos) [e] [] cpos) (tF K p ds ds2 3 (e2 g f1 f2)):=by
 intro pins s σ H Q I h
 have h':=GI (p1:=p) (p2:=p) (ds1:=ds1) (d1:=d1) (d2:=d2) (Ty:=Ty) ht (by rw [Bool.and_self]; exact h)
 refine wpAny_Call_method_late hbase hfew hline rfl (thn (ho pins s σ H _ I h') fun v s1 ⟨x,H1,I1,r1,ty,q1⟩=>?_)
 obtain ⟨h1,h2⟩:=hT pins s1 σ H1 x v I1 r1 ty
 refine ⟨T,id,pa,slot,hty,h1,h2,?_⟩
 have hA:=b4 he pa_nil hs cpos pins s1 σ H1 (fun xs H2=>∃ y,xs=[y]∧rF2 K g 3 x y H2 Q) I1 (jN (fun y H2 q=>⟨y,rfl,q⟩) q1)
 rw [hs] at hA ⊢
 refine Calls.callWith_builtin (by show (false || (backTo cpos (starEach [] X.env)).any (·.1))=false; rw [hplain] <;> rfl) (Calls.evalArgs_plain ?_)
 refine thn hA fun us s2 ⟨vs,H2,I2,r2,y,e2,q2⟩=>?_
 subst e2
 obtain ⟨u,rfl,ru⟩:=gZ r2
 exact hm pins s2 σ H2 x y v u Q I2 r1 ru q2
end
def iN:D→D→Option D
 | .list ts,.int k=>(fN ts).bind fun ns=>grd ((PyData.list (ns.map PyData.int)).layable0=true∧k∈ns) (.int (ns.idxOf k:Nat))
 | _,_=>none
def IM:D→D→Option D
 | .tuple ts,b=>grd (av b=true∧aB ts=true∧bD ts≤60) (.int (ts.countP fun t=>peq t b:Nat))
 | _,_=>none
section
variable {X:Cx} {K:PySem.W.Frag} {p:Bool} {ds ds1 ds2:List Nat} {d d1 d2:Nat} {e:Expr} {f f1 f2:ME} {σ:St} {H:Hp} {Q Q':VK}
theorem uw (hK:X.K=K):OpR X (fun v u=>call (.builtin "list.index") [v,u]) (rF2 K iN 3):=by
 subst hK
 intro pins s σ H x y v u Q I rx ry ⟨O,a,b,t,oa,ob,hd,hg,k⟩
 unfold iN at hg
 split at hg
 case h_2=>cases hg
 next ts n =>
 obtain ⟨ns,h1,h2⟩:=Option.bind_eq_some_iff.mp hg
 obtain ⟨⟨c1,c2⟩,rfl⟩:=bJ h2
 obtain ⟨a,vs,rfl,fz,w⟩:=oa.lst0
 have e:=i9 w h1
 subst e
 cases rx
 cases (show y=V.int n from ob)
 obtain ⟨tk,rfl⟩:=ry
 obtain ⟨its,rv,pl,hz⟩:=I.list fz.sq
 exact index_list_ints pl.isList (sx rv) c1 c2 ⟨.int _,H,I.tok _,⟨_,rfl⟩,k _ H NoA .refl rfl⟩
theorem nz {pins:List (Addr × Obj)} {s:Shared} {O:AS} (I:Inv X pins σ H s) {a:D}:∀ {ts:List D} {vs:List V} {us:List Value},aB ts=true→Ows X.K O H ts 0 vs NoA→Vals vs us→us.countP (eqF X O H a)=ts.countP fun t=>peq t a
 | [],_,_,_,h,r=>by
  cases (show _=[] from h)
  cases r
  rfl
 | t :: ts,_,_,hn,h,r=>by
  obtain ⟨v,q,F1,F2,e,_,_,_,h4,h5⟩:=h
  subst e
  have hn':av t=true∧aB ts=true:=by simpa [aB] using hn
  cases r with
  | cons ru rr=>rw [List.countP_cons,List.countP_cons,mh I ru hn'.1 (Ow.any0 t h4),nz I hn'.2 (Ows.any0 ts h5) rr]
theorem ux {o:Expr} {apos cpos:Pos} (hK:X.K=K) (ho:PE X o (tF K p ds ds1 d1 f1)) (he:PE X e (tF K p ds1 ds2 d2 f2))
  (hbase:attributeBase o "index" X.env (eval o X.env)=eval o X.env)
  (hfew:((backTo cpos (starEach [e] X.env)).all (fun x=>!x.1) && (backToKw cpos (keywordEach [] X.env)).all (fun x=>x.1.isSome) && decide (([e]:List Expr).length+([]:List Keyword).length+(if ([]:List Keyword).isEmpty then 0 else 1) < 30))=true)
  (hline:(apos.endLine == cpos.line)=true) (hs:starEach [e] X.env=[(false,eval e X.env)]) (hplain:(backTo cpos (starEach [] X.env)).any (·.1)=false) :
  PE X (.Call (.Attribute o "index" apos) [e] [] cpos) (tF K p ds ds2 3 (e2 iN f1 f2)):=by
 subst hK
 refine pr (Ty:=TyL X.K) F.plainAttrs_list F.slot_list_index F.type_list_index (fun a b t O x H F hg o=>?_) (fun pins s σ H x v I r ty=>?_) (uw rfl) ho he hbase hfew hline hs hplain
 ·unfold iN at hg
  split at hg
  ·exact nZ o
  ·cases hg
 ·obtain ⟨a,vs,rfl,hs⟩:=ty
  cases r
  obtain ⟨its,rv,⟨o,n,ho,hc,hdd,hda⟩,_⟩:=I.list hs
  exact ⟨⟨o,ho,hc⟩,fun b e=>by cases e; exact ⟨o,ho,hdd⟩⟩
end
end L2
namespace L2
open PySem PySem.Spec PyProof.Rows HT
section
variable {prog:Program} {w:World} {A:Around} {E:Value→Shared→Prop} {s:Shared}
end
def IX:D→Option Int→Option Int→Option D
 | .tuple ts,lo,hi=>some (.tuple (bt ts lo hi))
 | _,_,_=>none
section
variable {X:Cx} {K:PySem.W.Frag}
end
end L2
namespace L2
open PySem PySem.Spec PyProof.Rows
section
variable {P:Program} {w:World} {A:Around} {E:Value→Shared→Prop} {s:Shared}
end
section
variable {X:Cx} {K:PySem.W.Frag} {p p1 p2:Bool} {ds ds1 ds2:List Nat} {d d1 d2:Nat} {e k:Expr} {f f1 f2:ME} {fa:MA} {sh:Sh} {σ:St} {H:Hp} {Q Q':VK} {pos pos2 px py:Pos}
end
end L2
namespace L2
open PySem PySem.Spec PyProof.Rows PySem.SeqAt PySem.MeetsSeq
section
variable {X:Cx} {K:PySem.W.Frag}
end
section
variable {X:Cx} {K:PySem.W.Frag}
end
end L2
namespace L2
open PySem PySem.Spec PyProof.Rows PySem.SeqAt PySem.MeetsSeq
section
variable {X:Cx} {K:PySem.W.Frag} {p p1 p2:Bool} {ds ds1 ds2:List Nat} {d d1 d2:Nat} {e:Expr} {f f1 f2:ME} {σ:St} {H:Hp} {Q Q':VK} {i:Nat}
end
section
variable {X:Cx} {K:PySem.W.Frag} {p p1 p2 q:Bool} {J:Jd} {ds ds0 ds1 ds2 ds' dsi dps:List Nat} {d d' d1 d2 dr:Nat} {a b c e tg iter:Expr} {es:List Expr} {st:Stmt} {rest body bodyB:List Stmt} {f f1 f2 fk fe:ME} {c1 c2:MT} {fa:MA} {sh:Sh} {pos px:Pos} {i:Nat} {x:Str} {m m1 m2:MS} {g:MG} {gs:List D→En→Option En} {fi:MI} {lk:List Nat}
end
end L2
namespace L2
open PySem PySem.Spec PyProof.Rows
section
variable {prog:Program} {w:World} {A:Around} {E:Value→Shared→Prop} {s:Shared}
end
section
variable {prog:Program} {w:World} {A:Around} {E:Value→Shared→Prop} {s:Shared}
end
section
variable {X:Cx} {tg:Expr} {K:PySem.W.Frag}
end
section
variable {X:Cx} {K:PySem.W.Frag} {p:Bool} {ds ds1:List Nat} {d:Nat} {fa:MA} {sh:Sh} {O O1:AS} {H0 H:Hp} {ts us:List D} {vs ws:List V} {a b:Addr}
def IG (fa:MA):MI:=fun en=>(fa en).bind fun r=>match r.1 with
 | [.inl (.tuple ts),.inl (.tuple us)]=>some (uT ts us,r.2)
 | _=>none
end
end L2
namespace L2
open PySem PySem.Spec PyProof.Rows
section
variable {K:PySem.W.Frag} {p p1 p2 q:Bool} {J:Jd} {lk ds ds0 ds1 ds2 ds':List Nat} {d d' d1 d2:Nat} {f:ME} {i j:Nat} {g:MG} {gs:List D→En→Option En} {σ:St} {H:Hp} {Dn:Ends} {v:V} {vs:List V} {QS:St→Hp→Prop}
end
section
variable {X:Cx} {K:PySem.W.Frag} {J:Jd} {lk ds ds0 ds1 ds2 ds':List Nat} {e tg:Expr} {es:List Expr} {f:ME} {pos px:Pos} {i:Nat} {g:MG} {gs:List D→En→Option En}
end
end L2
namespace L2
open PySem PySem.Spec PyProof.Rows
section
variable {X:Cx} {K:PySem.W.Frag} {p:Bool} {ds:List Nat} {k v:Expr} {fk fv:ME} {pos:Pos} {σ:St} {H:Hp} {Q:VK} {O:AS}
end
end L2
namespace L2
open PySem PySem.Spec PyProof.Rows
structure QE (X:Cx) (e:Expr) (t:TE):Prop where
 h:PE X e t
structure QT (X:Cx) (e:Expr) (t:TT):Prop where
 h:PT X e t
structure QW (X:Cx) (e:Expr) (t:TT):Prop where
 h:PW X e t
structure QA (X:Cx) (e:List Expr) (t:TA):Prop where
 h:PA X e t
structure QS (X:Cx) (e:Stmt) (t:TS):Prop where
 h:PS X e t
structure QSs (X:Cx) (e:List Stmt) (t:TS):Prop where
 h:PSs X e t
structure QG (X:Cx) (e:Expr) (t:TG):Prop where
 h:PG X e t
structure QI (X:Cx) (tg e:Expr) (t:TI):Prop where
 h:PI X tg e t
structure QTs (X:Cx) (e:List Expr) (t:TT):Prop where
 h:PTs X e t
structure QO (X:Cx) (e:Option Expr) (t:TO):Prop where
 h:PO X e t
theorem qpt {X:Cx} {e:Expr} {t:TT} (h:QW X e t):QT X e t:=⟨h.h.pt⟩
section
variable {X:Cx} {K:PySem.W.Frag} {p p1 p2 q:Bool} {ds ds0 ds1 ds2 ds' dsi:List Nat} {d d' d1 d2:Nat} {a b c e:Expr} {es:List Expr} {f f1 f2:ME} {m c1 c2:MT} {fa:MA} {sh:Sh} {pos:Pos} {i:Nat} {x:Str}
theorem ac {x:Str} (hN:X.N[i]?=some x) (hv:Vis X.env.scope x) (h0:ds[i]?=some 0) (hd:(x == ("__debug__" : Str))=false) (hcd:(x == ("__classdict__" : Str))=false):QE X (.Name x pos) (tF K p ds ds 0 (af i)):=⟨Go hN hv h0 hd hcd⟩
theorem rm {x:Str} (hN:X.N[i]?=some x) (hv:Vis X.env.scope x) (h0:ds[i]?=some d) (hds:ds.set i 0=ds') (hd:(x == ("__debug__" : Str))=false) (hcd:(x == ("__classdict__" : Str))=false):QE X (.Name x pos) (tF K false ds ds' d (eMv i)):=⟨HI hN hv h0 hds hd hcd⟩
theorem ah {n:Int} {j}:QE X (.Constant (.int n) j pos) (tF K p ds ds 3 (eC (.int n))):=⟨GA⟩
theorem bF {n:Bool} {j}:QE X (.Constant (.bool n) j pos) (tF K p ds ds 3 (eC (.bool n))):=⟨HN⟩
theorem gJ {j}:QE X (.Constant .none j pos) (tF K p ds ds 3 (eC .none)):=⟨Gs⟩
theorem cy {n:Str} {j}:QE X (.Constant (.str n) j pos) (tF K p ds ds 3 (eC (.str n))):=⟨Gr⟩
theorem ma {x:Str} {n:Int} {t:Tok} (hg:Gl X x) (hm:X.mg x=some (.int n t)) (hd:(x == ("__debug__" : Str))=false):QE X (.Name x pos) (tF K p ds ds 3 (eC (.int n))):=⟨vY hg hm hd⟩
theorem ai (h:QE X e (tF K p ds ds' d f)) (hd:d'≤d):QE X e (tF K p ds ds' d' f):=⟨Gq h.h hd⟩
theorem b6 (h:QE X e (tF K p ds0 ds' d f)) (hd:leD ds0 ds=true):QE X e (tF K false ds ds' d f):=⟨HL h.h hd⟩
theorem gM (h:QE X e (tF K true ds0 ds0 3 f)) (hd:leD ds0 ds=true):QE X e (tF K p ds ds 3 f):=⟨GE h.h hd⟩
theorem au {op:Operator} {g:D→D→Option D} (ho:OpR X (binaryOp op) (rF2 K g d)) (ha:QE X a (tF K p ds ds1 d1 f1)) (hb:QE X b (tF K p ds1 ds2 d2 f2)):QE X (.BinOp a op b pos) (tF K p ds ds2 d (e2 g f1 f2)):=⟨HH ho ha.h hb.h⟩
theorem iO {op:UnaryOp} {g:D→Option D} (ho:UnR X (unaryOp op) (rF1 K g d)) (ha:QE X a (tF K p ds ds1 d1 f1)):QE X (.UnaryOp op a pos) (tF K p ds ds1 d (e1 g f1)):=⟨HG ho ha.h⟩
theorem gL {op:CmpOp} {g:D→D→Option D} (ho:OpR X (compareOp op) (rF2 K g d)) (ha:QE X a (tF K p ds ds1 d1 f1)) (hb:QE X b (tF K p ds1 ds2 d2 f2)) (hm:behindInMarks op b=false):QE X (.Compare a [op] [b] pos) (tF K p ds ds2 d (e2 g f1 f2)):=⟨GD ho ha.h hb.h hm⟩
theorem az {op:CmpOp} {g:D→D→Option D} (ho:OpR X (compareOp op) (rF2 K g d)) (ha:QE X a (tF K p ds ds1 d1 f1)) (hb:QE X b (tF K p ds1 ds2 d2 f2)) (hm:behindInMarks op b=false):QT X (.Compare a [op] [b] pos) (tFT K p ds ds2 (tV (e2 g f1 f2))):=⟨Cd ho ha.h hb.h hm⟩
theorem be (h:QE X e (tF K p ds ds' d f)) (he:∀ whole,isTrue e X.env whole=(do let v ← whole; standAt e.pos; holding [v] (truthy v))):QT X e (tFT K p ds ds' (tV f)):=⟨Ca h.h he⟩
theorem eA (ha:QT X a (tFT K p ds ds1 c1)):QW X (.BoolOp .And [a] pos) (tFT K p ds ds1 c1):=⟨B7 ha.h⟩
theorem cM (ha:QT X a (tFT K p ds ds1 c1)):QW X (.BoolOp .Or [a] pos) (tFT K p ds ds1 c1):=⟨F9 ha.h⟩
theorem dg {rest:List Expr} (ha:QT X a (tFT K p ds ds1 c1)) (hb:QW X (.BoolOp .And (b :: rest) pos) (tFT K p ds1 ds1 c2)):QW X (.BoolOp .And (a :: b :: rest) pos) (tFT K p ds ds1 (cV c1 c2)):=⟨Ga ha.h hb.h⟩
theorem dz {rest:List Expr} (ha:QT X a (tFT K p ds ds1 c1)) (hb:QW X (.BoolOp .Or (b :: rest) pos) (tFT K p ds1 ds1 c2)):QW X (.BoolOp .Or (a :: b :: rest) pos) (tFT K p ds ds1 (bOr c1 c2)):=⟨Hy ha.h hb.h⟩
theorem bN (ha:QT X a (tFT K p ds ds1 c1)):QT X (.UnaryOp .Not a pos) (tFT K p ds ds1 (dI c1)):=⟨Cb ha.h⟩
theorem fO (h:QT X e (tFT K true ds0 ds0 c1)) (hd:leD ds0 ds=true):QT X e (tFT K p ds ds c1):=⟨Ce h.h hd⟩
theorem ad  : QA X [] (tFA K p ds ds [] aj):=⟨CG⟩
theorem aa (ha:QE X e (tF K p ds ds1 d f)) (hr:QA X es (tFA K p ds1 ds2 sh fa)) (hs:aN e=true):QA X (e :: es) (tFA K p ds ds2 (.inl d :: sh) (ae f fa)):=⟨v3 ha.h hr.h hs⟩
theorem aJ {x:Str} (hN:X.N[i]?=some x) (hv:Vis X.env.scope x) (hr:QA X es (tFA K p ds ds2 sh fa)) (hd:(x == ("__debug__" : Str))=false) (hcd:(x == ("__classdict__" : Str))=false):QA X (.Name x pos :: es) (tFA K p ds ds2 (.inr i :: sh) (bb i fa)):=⟨v1 hN hv hr.h hd hcd⟩
theorem aI {c:Nat} (h:QA X es (tFA K p ds ds1 sh fa)) (hs:b8 c sh=true) (hd:dn d=c) (hz:d≠0):QE X (.List es pos) (tF K p ds ds1 d (a9 fa)):=⟨Gu h.h hs hd hz⟩
theorem aD {c:Nat} {x1} (h:QA X es (tFA K p ds ds1 sh fa)) (hs:b8 c sh=true) (hd:dn d=c):QE X (.Tuple es x1 pos) (tF K p ds ds1 d (a7 fa)):=⟨Gp h.h hs hd⟩
theorem aT {id:String} {x:Str} {px:Pos} {g:List D→Option D} (hc:CallR X (.builtin id) (rFn K g d)) (hg:Gl X x) (hm:X.mg x=none) (hv:bootBuiltins x=some (.builtin id)) (ha:QA X (e :: es) (tFA K p ds ds1 sh fa)) (hsh:b8 0 sh=true) (hn:x≠"__name__") (hdb:(x == ("__debug__" : Str))=false) (he:aN e=true) (hpl:es.all aN=true):QE X (.Call (.Name x px) (e :: es) [] pos) (tF K p ds ds1 d (eN g fa)):=⟨vZ hc hg hm hv ha.h hsh hn hdb he hpl⟩
theorem bh {T:String} {x:Str} {px:Pos} {g:List D→Option D} (hc:CallR X (.type T) (rFn K g d)) (hg:Gl X x) (hm:X.mg x=none) (hv:bootBuiltins x=some (.type T)) (ha:QA X (e :: es) (tFA K p ds ds1 sh fa)) (hsh:b8 0 sh=true) (hn:x≠"__name__") (hdb:(x == ("__debug__" : Str))=false) (he:aN e=true) (hpl:es.all aN=true):QE X (.Call (.Name x px) (e :: es) [] pos) (tF K p ds ds1 d (eN g fa)):=⟨uz hc hg hm hv ha.h hsh hn hdb he hpl⟩
theorem aC {k:Nat} {x:Str} {ps:List Str} {px:Pos} {dps:List Nat} {dr:Nat} {F:List D→Option (D × En)} (G:Kn X.prog X.w X.K X.mg X.base k x ps (spF K dps dr F)) (hr:Room k X.A) (hg:Gl X x) (ha:QA X (e :: es) (tFA K p ds ds1 sh fa)) (hns:gF sh=true) (hcd:dD ds1 sh dps=true) (hdb:(x == ("__debug__" : Str))=false) (he:aN e=true) (hpl:es.all aN=true):QE X (.Call (.Name x px) (e :: es) [] pos) (tF K p ds ds1 dr (ar F fa)):=⟨HM G hr hg ha.h hns hcd hdb he hpl⟩
theorem aS {k:Nat} {x:Str} {ps:List Str} {px:Pos} {dps:List Nat} {dr:Nat} {F:List D→Option (D × En)} (G:Kn X.prog X.w X.K X.mg X.base k x ps (spF K dps dr F)) (hr:Room k X.A) (hg:Gl X x) (ha:QA X (e :: es) (tFA K false ds ds1 sh fa)) (hcd:dD ds1 sh dps=true) (hdb:(x == ("__debug__" : Str))=false) (he:aN e=true) (hpl:es.all aN=true):QE X (.Call (.Name x px) (e :: es) [] pos) (tF K false ds ds1 dr (ar F fa)):=⟨GB G hr hg ha.h hcd hdb he hpl⟩
theorem bp {g:D→D→Option D} (ho:IxR X (rF2 K g d)) (ha:QE X a (tF K p ds ds1 d1 f1)) (hb:QE X b (tF K p ds1 ds2 d2 f2)) (hs:fq b):QE X (.Subscript a b pos) (tF K p ds ds2 d (e2 g f1 f2)):=⟨HK ho ha.h hb.h hs⟩
theorem dY {x:Str} {px:Pos} (hK:X.K=K) (hN:X.N[i]?=some x) (hv:Vis X.env.scope x) (h1:ds1[i]?=some 1) (hb:QE X b (tF K p ds ds1 d1 f)) (hs:fq b) (hd:(x == ("__debug__" : Str))=false) (hcd:(x == ("__classdict__" : Str))=false):QE X (.Subscript (.Name x px) b pos) (tF K p ds ds1 0 (cE i f)):=⟨Gw hK hN hv h1 hb.h hs hd hcd⟩
theorem di {c:Nat} {x:Str} {px apos cpos:Pos} (hK:X.K=K) (hN:X.N[i]?=some x) (hv:Vis X.env.scope x) (h1:ds1[i]?=some d) (he:QE X e (tF K false ds ds1 c f)) (hz:d≠0) (hc:dn d=c) (hd:(x == ("__debug__" : Str))=false) (hcd:(x == ("__classdict__" : Str))=false) (hbase:attributeBase (.Name x px) "append" X.env (eval (.Name x px) X.env)=eval (.Name x px) X.env) (hfew:((backTo cpos (starEach [e] X.env)).all (fun x=>!x.1) && (backToKw cpos (keywordEach [] X.env)).all (fun x=>x.1.isSome) && decide (([e]:List Expr).length+([]:List Keyword).length+(if ([]:List Keyword).isEmpty then 0 else 1) < 30))=true) (hline:(apos.endLine == cpos.line)=true) (hs:starEach [e] X.env=[(false,eval e X.env)]) (hplain:(backTo cpos (starEach [] X.env)).any (·.1)=false):QE X (.Call (.Attribute (.Name x px) "append" apos) [e] [] cpos) (tF K false ds ds1 3 (dm i f)):=⟨GF hK hN hv h1 he.h hz hc hd hcd hbase hfew hline hs hplain⟩
theorem dh  : QTs X [] (tFT K p ds ds cY):=⟨B9⟩
theorem jX (hc:QT X c (tFT K p ds ds1 c1)):QTs X [c] (tFT K p ds ds1 c1):=⟨B8 hc.h⟩
theorem dB {elt tg iter:Expr} {ifs:List Expr} {scope:Scope} {ns:List Str} {js:List (Option Nat)} {fi:MI} {g:MG} {lk:List Nat} {cd:Nat} (B:BlkOkC X scope ns js) (hc:X.calm=true) (hi:QI X tg iter (tFI K p ds ds1 fi)) (hg:∀ C cl s₀ H₀ fp,QG (aX X scope ns C cl s₀ H₀ fp) tg (tFG K lk dsi dsi g)) (ht:∀ C cl s₀ H₀ fp,QTs (aX X scope ns C cl s₀ H₀ fp) ifs (tFT K true dsi dsi c1)) (he:∀ C cl s₀ H₀ fp,QE (aX X scope ns C cl s₀ H₀ fp) elt (tF K true dsi dsi cd f)) (hcap:iq ds1 js dsi=true) (hd:dn d=cd) (hz:d≠0) (hlk:lk=ip js 0) (hs:∀ x,foldedSetIterable iter X.env x=pure x):QE X (.ListComp elt [⟨tg,iter,ifs,0⟩] scope pos) (tF K p ds ds1 d (eLC true fi g c1 f js)):=⟨HJ B hc hi.h (fun C cl s₀ H₀ fp=>(hg C cl s₀ H₀ fp).h) (fun C cl s₀ H₀ fp=>(ht C cl s₀ H₀ fp).h) (fun C cl s₀ H₀ fp=>(he C cl s₀ H₀ fp).h) hcap hd hz hlk hs⟩
end
section
variable {X:Cx} {K:PySem.W.Frag} {p p1 p2 q:Bool} {J:Jd} {ds ds0 ds1 ds2 ds' dsi dps:List Nat} {d d' d1 d2 dr:Nat} {a b c e tg iter:Expr} {es:List Expr} {st:Stmt} {rest body bodyB:List Stmt} {f f1 f2 fk fe:ME} {c1 c2:MT} {fa:MA} {sh:Sh} {pos px:Pos} {i:Nat} {x:Str} {m m1 m2:MS} {g:MG} {gs:List D→En→Option En} {fi:MI} {lk:List Nat}
theorem aK  : QSs X [] (tFS K J ds ds bc):=⟨Ch⟩
theorem ag (h1:QS X st (tFS K J ds ds1 m1)) (h2:QSs X rest (tFS K J ds1 ds2 m2)):QSs X (st :: rest) (tFS K J ds ds2 (ao m1 m2)):=⟨vK h1.h h2.h⟩
theorem ak (h1:QS X st (tFS K J ds ds1 m1)):QSs X [st] (tFS K J ds ds1 m1):=⟨Cg h1.h⟩
theorem jY (h:QSs X rest (tFS K J ds ds2 m)) (hd:leD ds1 ds2=true):QSs X rest (tFS K J ds ds1 m):=⟨Cf h.h hd⟩
theorem a8 (he:QE X e (tF K false ds ds1 d f)) (hs:swapsWith e none pos.line X.env=pure false):QS X (.Expr e pos) (tFS K J ds ds1 (bA f)):=⟨Cp he.h hs⟩
theorem aA (he:QE X e (tF K false ds ds1 J.dr f)) (hd:leD J.dsr ds1=true):QS X (.Return (some e) pos) (tFS K J ds ds' (aR f)):=⟨Cn he.h hd⟩
theorem qr  : QS X st (tFS K J ds ds' iH):=⟨ut⟩
theorem aM (hc:QT X c (tFT K false ds ds1 c1)) (ha:QSs X body (tFS K J ds1 ds2 m1)) (hb:QSs X bodyB (tFS K J ds1 ds2 m2)):QS X (.If c body bodyB pos) (tFS K J ds ds2 (sIf c1 m1 m2)):=⟨Gk hc.h ha.h hb.h⟩
theorem am {x:Str} {pos':Pos} (hN:X.N.Nodup) (hi:X.N[i]?=some x) (hx:Loc X.env.scope x) (he:QE X e (tF K false ds ds1 d f)) (hds:ds1.set i d=ds') (hl:i < ds1.length) (hk:i ∉ J.lk) (hs:swapsWith e (some (.Name x pos')) pos.line X.env=pure false) (hf:X.fn x=true∨X.env.scope.names.lookup x=some .local):QS X (.Assign [.Name x pos'] e pos) (tFS K J ds ds' (ax i f)):=⟨Cm hN hi hx he.h hds hl hk hs hf⟩
theorem qp {x:Str} {spos pos':Pos} {elt:Expr} {ifs:List Expr} {scope:Scope} {ns:List Str} {js:List (Option Nat)} {cd:Nat} (hN:X.N.Nodup) (hi':X.N[i]?=some x) (hx:X.env.scope.names.lookup x=some .local) (B:BlkOkC X scope ns js) (hc:X.calm=true) (hi:QI X tg iter (tFI K false ds ds1 fi)) (hg:∀ C cl s₀ H₀ fp,QG (aX X scope ns C cl s₀ H₀ fp) tg (tFG K lk dsi dsi g)) (ht:∀ C cl s₀ H₀ fp,QTs (aX X scope ns C cl s₀ H₀ fp) ifs (tFT K q dsi dsi c1)) (he:∀ C cl s₀ H₀ fp,QE (aX X scope ns C cl s₀ H₀ fp) elt (tF K q dsi dsi cd f)) (hds:ds1.set i d=ds') (hcap:iq ds1 js dsi=true) (hd:dn d=cd) (hz:d≠0) (hlk:lk=ip js 0) (hl:i < ds1.length) (hk:i ∉ J.lk) (hsw:swapsWith (.ListComp elt [⟨tg,iter,ifs,0⟩] scope pos) (some (.Name x pos')) spos.line X.env=pure true) (hs:∀ x,foldedSetIterable iter X.env x=pure x):QS X (.Assign [.Name x pos'] (.ListComp elt [⟨tg,iter,ifs,0⟩] scope pos) spos) (tFS K J ds ds' (ax i (eLC q fi g c1 f js))):=⟨ur hN hi' hx B hc hi.h (fun C cl s₀ H₀ fp=>(hg C cl s₀ H₀ fp).h) (fun C cl s₀ H₀ fp=>(ht C cl s₀ H₀ fp).h) (fun C cl s₀ H₀ fp=>(he C cl s₀ H₀ fp).h) hds hcap hd hz hlk hl hk hsw hs⟩
theorem je {c:Nat} {x:Str} {spos:Pos} {k:Expr} (hN:X.N[i]?=some x) (hv:Vis X.env.scope x) (he:QE X e (tF K false ds ds1 c fe)) (hk:QE X k (tF K false ds1 ds2 d2 fk)) (h1:ds2[i]?=some d) (hz:d≠0) (hc:dn d=c) (hdb:(x == ("__debug__" : Str))=false) (hcd:(x == ("__classdict__" : Str))=false) (ha:∀ v,assign (.Subscript (.Name x px) k spos) X.env v=(do
   let ov ← holding [v] (eval (.Name x px) X.env)
   let iv ← holding [v,ov] (eval k X.env)
   standAt spos
   holding [v,ov,iv] (setItem ov iv v)
   release [v,ov,iv] [])) (hs:swapsWithSole [.Subscript (.Name x px) k spos] e pos.line X.env=pure false) (hw:swappedStores [.Subscript (.Name x px) k spos] e X.env=pure none) (h2:(assignEach [.Subscript (.Name x px) k spos] X.env).map (·.2)=[assign (.Subscript (.Name x px) k spos) X.env]):QS X (.Assign [.Subscript (.Name x px) k spos] e pos) (tFS K J ds ds2 (eI i fk fe)):=⟨vO hN hv he.h hk.h h1 hz hc hdb hcd ha hs hw h2⟩
theorem ay {x:Str} (hN:X.N.Nodup) (hi:X.N[i]?=some x) (hx:Loc X.env.scope x) (hds:ds.set i 0=ds') (hl:i < ds.length) (hk:i ∉ lk) (hf:X.fn x=true∨X.env.scope.names.lookup x=some .local):QG X (.Name x pos) (tFG K lk ds ds' (gN i)):=⟨vU hN hi hx hds hl hk hf⟩
theorem aO (hc:X.calm=true) (hi:QI X tg iter (tFI K false ds ds1 fi)) (hg:QG X tg (tFG K J.lk ds1 ds2 g)) (hb:QSs X body (tFS K { J with dsl:=ds1 } ds2 ds1 m)) (hp:PassesOwn (model X.prog X.w) X.A X.env X.xe) (hs:∀ x,foldedSetIterable iter X.env x=pure x):QS X (.For tg iter body [] pos) (tFS K J ds ds1 (bG fi g m)):=⟨Co hc hi.h hg.h hb.h hp hs⟩
theorem qo (hc:QT X c (tFT K false ds ds1 c1)) (hb:QSs X body (tFS K { J with dsl:=ds } ds1 ds m)) (hp:PassesOwn (model X.prog X.w) X.A X.env X.xe):QS X (.While c body [] pos) (tFS K J ds ds1 (cP c1 m)):=⟨up hc.h hb.h hp⟩
end
section
variable {X:Cx} {K:PySem.W.Frag} {p:Bool} {ds ds1:List Nat} {d:Nat} {e tg l:Expr} {f:ME} {fa:MA} {sh:Sh}
theorem aV (hK:X.K=K) (hl:QE X l (tF K p ds ds1 d f)):QI X tg l (tFI K p ds ds1 (br f)):=⟨Gn hK hl.h⟩
theorem bU {a:Expr} {px pos:Pos} (hg:Gl X "range") (hm:X.mg "range"=none) (ha:QA X [a] (tFA K p ds ds1 sh fa)) (hs:aN a=true):QI X tg (.Call (.Name "range" px) [a] [] pos) (tFI K p ds ds1 (cb fa)):=⟨Cy hg hm ha.h hs⟩
end
section
variable {X:Cx} {K:PySem.W.Frag} {p:Bool} {ds ds1:List Nat} {d1:Nat} {e:Expr} {f:ME}
theorem pz {T:Str} {n:String} {px pt pos:Pos} (hK:X.K=K) (hg:Gl X "isinstance") (hm:X.mg "isinstance"=none) (hgT:Gl X T) (hmT:X.mg T=none) (hbT:bootBuiltins T=some (.type n)) (hT:n∈["int", "bool", "str", "list", "tuple", "dict"]) (he:QE X e (tF K p ds ds1 d1 f)) (hnT:T≠"__name__") (hdT:(T == ("__debug__" : Str))=false) (hs1:starEach [e,.Name T pt] X.env=(false,eval e X.env) :: starEach [.Name T pt] X.env) (hs2:starEach [.Name T pt] X.env=(false,eval (.Name T pt) X.env) :: starEach [] X.env) (hpl:(backTo pos (starEach [.Name T pt] X.env)).any (·.1)=false):QE X (.Call (.Name "isinstance" px) [e,.Name T pt] [] pos) (tF K p ds ds1 3 (e1 (aG n) f)):=⟨Gx hK hg hm hgT hmT hbT hT he.h hnT hdT hs1 hs2 hpl⟩
end
section
variable {X:Cx} {K:PySem.W.Frag} {p:Bool} {J:Jd} {ds ds0 ds1 ds2 ds3 ds':List Nat} {d d' d1 d2 d3:Nat} {a b c e:Expr} {st:Stmt} {f f1 f2 f3:ME} {m:MS} {pos p2:Pos}
theorem uq (h:QS X st (tFS K J ds ds2 m)) (hd:leD ds1 ds2=true):QS X st (tFS K J ds ds1 m):=⟨Cl h.h hd⟩
theorem bT  : QO X none (tFO K p ds ds dw):=⟨Cv⟩
theorem bo (h:QE X e (tF K p ds ds1 d f)):QO X (some e) (tFO K p ds ds1 (bX f)):=⟨Ct h.h⟩
variable {lo hi:MO}
theorem bq {g:D→Option Int→Option Int→Option D} {elo ehi:Option Expr} (hr:SlR X (rFs K g d)) (he:QE X e (tF K p ds ds1 d1 f)) (hl:QO X elo (tFO K p ds1 ds2 lo)) (hu:QO X ehi (tFO K p ds2 ds3 hi)):QE X (.Subscript e (.Slice elo ehi none p2) pos) (tF K p ds ds3 d (eSl g f lo hi)):=⟨vV hr he.h hl.h hu.h⟩
end
section
variable {X:Cx} {K:PySem.W.Frag} {p:Bool} {J:Jd} {ds ds0 ds1 ds2 ds':List Nat} {d d' d1 d2:Nat} {a b c e o k:Expr} {f f1 f2 fk fe:ME} {pos px spos:Pos} {i:Nat} {σ:St} {H:Hp} {Q:VK} {Dn:Ends}
theorem nu  : QE X (.Dict [] [] pos) (tF K p ds ds 3 kO):=⟨CC⟩
theorem ul (hu:X.A.units+1 < cLine) (ha:QE X a (tF K p ds ds1 d1 f1)) (hb:QE X b (tF K p ds1 ds2 d2 f2)) (h1:behindInMarks .NotIn b=false):QT X (.Compare a [.NotIn] [b] pos) (tFT K p ds ds2 (tV (e2 j7 f1 f2))):=⟨Cc hu ha.h hb.h h1⟩
theorem l6 {x:Str} (hu:X.A.units+1 < cLine) (hN:X.N[i]?=some x) (hv:Vis X.env.scope x) (he:QE X e (tF K false ds ds1 0 fe)) (hk:QE X k (tF K false ds1 ds2 d2 fk)) (h1:ds2[i]?=some 1) (hdb:(x == ("__debug__" : Str))=false) (hcd:(x == ("__classdict__" : Str))=false) (hs:swapsWith e (some (.Subscript (.Name x px) k spos)) pos.line X.env=pure false):QS X (.Assign [.Subscript (.Name x px) k spos] e pos) (tFS K J ds ds2 (hV i fk fe)):=⟨vP hu hN hv he.h hk.h h1 hdb hcd hs⟩
end
section
variable {X:Cx} {K:PySem.W.Frag} {p:Bool} {J:Jd} {ds ds0 ds1 ds2 ds':List Nat} {d d' d1 d2:Nat} {a b c e o k:Expr} {es:List Expr} {f f1 f2 fk fe:ME} {fa:MA} {sh:Sh} {pos px spos:Pos} {i j:Nat} {σ:St} {H:Hp} {Q:VK} {Dn:Ends}
end
section
variable {X:Cx} {K:PySem.W.Frag} {p:Bool} {ds ds1:List Nat} {O:AS} {H:Hp} {σ:St} {d:Nat} {f:ME} {i:Nat} {e:Expr} {Q:VK}
theorem gK {x:Str} {px apos cpos:Pos} (hK:X.K=K) (hN:X.N[i]?=some x) (hv:Vis X.env.scope x) (h1:ds1[i]?=some d) (he:QE X e (tF K false ds ds1 d f)) (hz:d≠0) (hd:(x == ("__debug__" : Str))=false) (hcd:(x == ("__classdict__" : Str))=false) (hbase:attributeBase (.Name x px) "extend" X.env (eval (.Name x px) X.env)=eval (.Name x px) X.env) (hfew:((backTo cpos (starEach [e] X.env)).all (fun x=>!x.1) && (backToKw cpos (keywordEach [] X.env)).all (fun x=>x.1.isSome) && decide (([e]:List Expr).length+([]:List Keyword).length+(if ([]:List Keyword).isEmpty then 0 else 1) < 30))=true) (hline:(apos.endLine == cpos.line)=true) (hs:starEach [e] X.env=[(false,eval e X.env)]) (hplain:(backTo cpos (starEach [] X.env)).any (·.1)=false):QE X (.Call (.Attribute (.Name x px) "extend" apos) [e] [] cpos) (tF K false ds ds1 3 (gO i f)):=⟨GC hK hN hv h1 he.h hz hd hcd hbase hfew hline hs hplain⟩
end
section
variable {X:Cx} {K:PySem.W.Frag} {p:Bool} {ds ds1:List Nat} {d:Nat} {fa:MA} {sh:Sh} {O O1:AS} {H0 H:Hp} {ts us:List D} {vs ws:List V} {a b:Addr}
end
section
variable {X:Cx} {K:PySem.W.Frag} {p:Bool} {ds ds1:List Nat} {d1:Nat} {e:Expr} {f:ME}
end
section
variable {X:Cx} {K:PySem.W.Frag} {p p1 p2:Bool} {ds ds1 ds2:List Nat} {d d1:Nat} {e:Expr} {f:ME} {fa:MA} {sh:Sh} {σ:St} {H:Hp} {Q:VK}
theorem eD {o:Expr} {es:List Expr} {name:Str} {id:String} {apos cpos:Pos} {r:V→List V→Hp→VK→Prop} {g:Str→List D→Option D} (hK:X.K=K) (slot:Slot "str" name id) (hty:typeOf (.builtin id)=pure (.type "method_descriptor")) (hm:MtR X id r) (hr:MtF K r g) (ho:QE X o (tF K p ds ds1 d1 f)) (ha:QA X (e :: es) (tFA K p ds1 ds2 sh fa)) (hsh:b8 0 sh=true) (hbase:attributeBase o name X.env (eval o X.env)=eval o X.env) (hfew:((backTo cpos (starEach (e :: es) X.env)).all (fun x=>!x.1) && (backToKw cpos (keywordEach [] X.env)).all (fun x=>x.1.isSome)
   && decide ((e :: es).length+([]:List Keyword).length+(if ([]:List Keyword).isEmpty then 0 else 1) < 30))=true) (hline:(apos.endLine == cpos.line)=true) (hs:starEach (e :: es) X.env=(false,eval e X.env) :: starEach es X.env) (hplain:(backTo cpos (starEach es X.env)).any (·.1)=false):QE X (.Call (.Attribute o name apos) (e :: es) [] cpos) (tF K p ds ds2 3 (eM g f fa)):=⟨CA hK slot hty hm hr ho.h ha.h hsh hbase hfew hline hs hplain⟩
end
section
variable {X:Cx} {K:PySem.W.Frag} {p p1 p2:Bool} {J:Jd} {ds ds1 ds2:List Nat} {H:Hp} {σ:St} {d d1 d2 i m:Nat} {f fk fe:ME} {mp:MP} {e b o:Expr} {Q:VK}
theorem uu {x:Str} {px:Pos} (hN:X.N[i]?=some x) (hv:Vis X.env.scope x) (hd:(x == ("__debug__" : Str))=false) (hcd:(x == ("__classdict__" : Str))=false):QE X (.Name x px) (tP K true ds ds i 0 (oB i)):=⟨Cq hN hv hd hcd⟩
theorem uy {apos cpos:Pos} (hK:X.K=K) (hd1:ds1[i]?=some d) (ho:QE X o (tP K p1 ds ds1 i m mp)) (hz:dns m d≠0) (hbase:attributeBase o "clear" X.env (eval o X.env)=eval o X.env) (hline:(apos.endLine == cpos.line)=true):QE X (.Call (.Attribute o "clear" apos) [] [] cpos) (tF K false ds ds1 3 (mi i mp)):=⟨CD hK hd1 ho.h hz hbase hline⟩
end
section
variable {X:Cx} {K:PySem.W.Frag} {p p1 p2:Bool} {ds ds1 ds2:List Nat} {d d1 d2:Nat} {e k:Expr} {f f1 f2:ME} {fa:MA} {sh:Sh} {σ:St} {H:Hp} {Q Q':VK} {pos pos2 px py:Pos}
theorem nr (hK:X.K=K) (he:QE X e (tF K p ds ds1 d1 f1)) (hk:QE X k (tF K p ds1 ds2 d2 f2)):QE X (.Subscript e (.Slice none none (some k) pos2) pos) (tF K p ds ds2 0 (e2 kz f1 f2)):=⟨CB hK he.h hk.h⟩
end
section
variable {X:Cx} {K:PySem.W.Frag} {p p1 p2:Bool} {ds ds1 ds2:List Nat} {d d1 d2:Nat} {a b:Expr} {f f1 f2:ME} {σ:St} {H:Hp} {Q Q':VK} {pos:Pos} {ta tb:TE} {rest:List Expr}
end
section
variable {X:Cx} {K:PySem.W.Frag} {p p1 p2:Bool} {ds ds1 ds2:List Nat} {d d1 d2:Nat} {a b:Expr} {f f1 f2:ME} {σ:St} {H:Hp} {Q Q':VK} {pos:Pos}
theorem vW (hK:X.K=K) (ha:QE X a (tF K p ds ds1 d f1)) (hb:QE X b (tF K p ds1 ds2 d2 f2)) (hs:fq b) (hz:d≠0):QE X (.Subscript a b pos) (tF K p ds ds2 (dn d) (e2 ixA f1 f2)):=⟨Gv hK ha.h hb.h hs hz⟩
end
section
variable {X:Cx} {K:PySem.W.Frag} {p p1 p2:Bool} {ds ds1 ds2:List Nat} {d d1 d2:Nat} {e:Expr} {f f1 f2:ME} {σ:St} {H:Hp} {Q Q':VK}
end
section
variable {X:Cx} {K:PySem.W.Frag} {p:Bool} {ds ds1 ds2:List Nat} {d d1 d2:Nat} {e:Expr} {f f1 f2:ME} {σ:St} {H:Hp} {Q Q':VK}
theorem qt {o:Expr} {apos cpos:Pos} (hK:X.K=K) (ho:QE X o (tF K p ds ds1 d1 f1)) (he:QE X e (tF K p ds1 ds2 d2 f2)) (hbase:attributeBase o "index" X.env (eval o X.env)=eval o X.env) (hfew:((backTo cpos (starEach [e] X.env)).all (fun x=>!x.1) && (backToKw cpos (keywordEach [] X.env)).all (fun x=>x.1.isSome) && decide (([e]:List Expr).length+([]:List Keyword).length+(if ([]:List Keyword).isEmpty then 0 else 1) < 30))=true) (hline:(apos.endLine == cpos.line)=true) (hs:starEach [e] X.env=[(false,eval e X.env)]) (hplain:(backTo cpos (starEach [] X.env)).any (·.1)=false):QE X (.Call (.Attribute o "index" apos) [e] [] cpos) (tF K p ds ds2 3 (e2 iN f1 f2)):=⟨ux hK ho.h he.h hbase hfew hline hs hplain⟩
end
section
variable {X:Cx} {K:PySem.W.Frag} {p p1 p2:Bool} {ds ds1 ds2:List Nat} {d d1 d2:Nat} {e k:Expr} {f f1 f2:ME} {fa:MA} {sh:Sh} {σ:St} {H:Hp} {Q Q':VK} {pos pos2 px py:Pos}
end
section
variable {X:Cx} {K:PySem.W.Frag} {p p1 p2:Bool} {ds ds1 ds2:List Nat} {d d1 d2:Nat} {e:Expr} {f f1 f2:ME} {σ:St} {H:Hp} {Q Q':VK} {i:Nat}
end
section
variable {X:Cx} {K:PySem.W.Frag} {p p1 p2 q:Bool} {J:Jd} {ds ds0 ds1 ds2 ds' dsi dps:List Nat} {d d' d1 d2 dr:Nat} {a b c e tg iter:Expr} {es:List Expr} {st:Stmt} {rest body bodyB:List Stmt} {f f1 f2 fk fe:ME} {c1 c2:MT} {fa:MA} {sh:Sh} {pos px:Pos} {i:Nat} {x:Str} {m m1 m2:MS} {g:MG} {gs:List D→En→Option En} {fi:MI} {lk:List Nat}
end
section
variable {X:Cx} {K:PySem.W.Frag} {p:Bool} {ds ds1:List Nat} {d:Nat} {fa:MA} {sh:Sh} {O O1:AS} {H0 H:Hp} {ts us:List D} {vs ws:List V} {a b:Addr}
end
section
variable {X:Cx} {K:PySem.W.Frag} {J:Jd} {lk ds ds0 ds1 ds2 ds':List Nat} {e tg:Expr} {es:List Expr} {f:ME} {pos px:Pos} {i:Nat} {g:MG} {gs:List D→En→Option En}
end
section
variable {X:Cx} {K:PySem.W.Frag} {p:Bool} {ds:List Nat} {k v:Expr} {fk fv:ME} {pos:Pos} {σ:St} {H:Hp} {Q:VK} {O:AS}
end
end L2
namespace L2
open PySem PySem.Spec PyProof.Rows
theorem Fun.okQ {P:Program} {w:World} {K:PySem.W.Frag} {mg:Str→Option Value} {base:Heap} {x qual:Str} {st:Stmt} {f:Addr} {fd:FuncData} {N ps:List Str} {k n dr:Nat} {dps ds0:List Nat} {J:Jd} {b:MS}
  (F:Fun K x qual st f fd) (S:FnScope N ps (aq st)) (hl:dps.length=ps.length) (hn:N.length - dps.length=n) (hJ:J=⟨oN dps,dps++List.replicate n 0,dr,[]⟩) (hd:ds0=dps++List.replicate n 0)
  (hb:∀ (cdv:Value) (A:Around) (outer:List Env) (s:Shared) (H:Hp) (E:XK),Room k (A.deeper (envOfC qual (aq st) s.heap.objs.size f cdv)) →
   QSs (gP CX0 P w K mg base N qual (aq st) f cdv A outer s H E).nox (b7 st) (tFS K J ds0 ds0 b)):FnOk P w K mg base CX0 (k+1) f fd ps (spF K dps dr (fnF n dps b)):=by
 subst hJ hd
 exact F.ok S (fun vs H Q E h=>qG hl h) fun cdv A outer s H vs Q E hr h=>⟨_,(hb cdv A outer s H E hr).h,Cw hn h⟩
def FO (F:List D→Option (D × En)):Prop:=∀ ns:List Int,ns.length≤63→∃ outs,F [.list (ns.map .int)]=some (.bool true,outs)
def lH (K:PySem.W.Frag):Sp:=fun vs H Q _=>∃ (a:Addr) (ns:List Int),vs=[.ref a]∧SqL K H a (ns.map V.int)∧(∀ b,H b=none∨∃ o xs,H b=some (.frz o (.lst xs)))∧ns.length≤63∧∀ H':Hp,Q (.bl true) H'
theorem kX {K:PySem.W.Frag} {O:AS} {H:Hp}:∀ ns:List Int,Ows K O H (ns.map .int) 0 (ns.map V.int) NoA
 | []=>rfl
 | n :: r=>⟨.int n,r.map V.int,NoA,NoA,rfl,fun _ z=>z,fun _ z=>z,fun _ z=>z.elim,rfl,kX r⟩
theorem FN {K:PySem.W.Frag} {dr:Nat} {F:List D→Option (D × En)} (h:FO F) {vs:List V} {H:Hp} {Q:VK} {E:XK} (q:lH K vs H Q E):spF K [0] dr F vs H Q E:=by
 obtain ⟨a,ns,rfl,hs,_,hl,q⟩:=q
 obtain ⟨outs,e⟩:=h ns hl
 have fz:FzL K (fun _=>False) H a (ns.map V.int):=by
  rcases hs with hs | hs
  ·exact .inl ⟨hs,fun z=>z⟩
  ·exact .inr fun H'=>.inr hs
 have eO:Own (fun _=>NoA) NoA=(fun _=>False):=eQ fun b=>⟨fun z=>z.elim (fun ⟨_,z⟩=>z) fun z=>z,fun z=>z.elim⟩
 refine ⟨NoA,[.list (ns.map .int)],fun _=>NoA,.bool true,outs,⟨fun i t hi=>?_,fun _ _ _ z=>z.elim,fun _ _ z=>z.elim,fun b z=>?_,rfl,rfl⟩,e,fun v H' R' Fr _ o=>?_⟩
 ·cases i with
  | zero =>
   have:t=.list (ns.map .int):=by
    have h2:some (some (PyData.list (ns.map .int)))=some (some t):=hi
    injection h2 with h3
    injection h3 with h4
    exact h4.symm
   subst this
   refine ⟨.ref a,0,rfl,rfl,?_⟩
   rw [eO]
   exact ⟨a,ns.map V.int,rfl,.inl ⟨rfl,fz,kX ns⟩⟩
  | succ i=>simp at hi
 ·rw [eO] at z
  exact z.elim
 ·rw [show v=.bl true from o]
  exact q H'
end L2
namespace L2
open PySem PySem.Spec PyProof.Rows
section
variable {c:MT} {b:MS} {en en1 en2:En} {fl:Fl} {t:D}
theorem iX:∀ {n m:Nat} {en:En} {fl:Fl},whN c b n en=some fl→n≤m→whN c b m en=some fl
 | 0,_,_,_,h,_=>by cases h
 | n+1,0,_,_,_,h=>by omega
 | n+1,m+1,en,fl,h,hm=>by
  unfold whN at h ⊢
  obtain ⟨r,h1,h⟩:=Option.bind_eq_some_iff.mp h
  rw [h1]
  show (if r.1=true then _ else _)=_
  by_cases hr:r.1=true
  ·rw [if_pos hr] at h ⊢
   obtain ⟨f1,h2,h⟩:=Option.bind_eq_some_iff.mp h
   rw [h2]
   cases f1 with
   | nx e=>exact iX (n:=n) (m:=m) h (by omega)
   | ct e=>exact iX (n:=n) (m:=m) h (by omega)
   | rt t e=>exact h
  ·rw [if_neg hr] at h ⊢
   exact h
theorem hU {n:Nat} (h:whN c b n en=some fl):cP c b en=some fl:=by
 have q:∃ n fl,whN c b n en=some fl:=⟨n,fl,h⟩
 unfold cP
 rw [dif_pos q]
 have h2:=q.choose_spec.choose_spec
 have h3:=iX h (Nat.le_max_left n q.choose)
 have h4:=iX h2 (Nat.le_max_right n q.choose)
 rw [h3] at h4
 exact h4.symm
theorem p8 (h:c en=some (false,en1)):cP c b en=some (.nx en1):=by
 refine hU (n:=1) ?_
 unfold whN
 rw [h]
 rfl
theorem p9 (h:c en=some (true,en1)) (h1:b en1=some (.nx en2)) (h2:cP c b en2=some fl):cP c b en=some fl:=by
 obtain ⟨n,h3⟩:=ij h2
 refine hU (n:=n+1) ?_
 unfold whN
 rw [h]
 show (b en1).bind _=_
 rw [h1]
 exact h3
theorem gf {c:MT} {f:ME} {p:D→Bool} {F:D→D} {rest:En}:∀ (ts acc:List D) (o:Option D),(∀ t∈ts,c (some t :: rest)=some (p t,some t :: rest))→(∀ t∈ts,p t=true→f (some t :: rest)=some (F t,some t :: rest))→acc.length+ts.length≤sizeLine →
  ∃ o',lcF (gN 0) c f ts acc (o :: rest)=some (acc++(ts.filter p).map F,o' :: rest)
 | [],acc,o,_,_,_=>⟨o,by simp [lcF]⟩
 | t :: ts,acc,o,hc,hf,hl=>by
  have hl':acc.length+(ts.length+1)≤sizeLine:=hl
  cases hp:p t with
  | true =>
   obtain ⟨o',h⟩:=gf (c:=c) (f:=f) (p:=p) (F:=F) ts (acc++[F t]) (some t) (fun x hx=>hc x (List.mem_cons_of_mem _ hx)) (fun x hx=>hf x (List.mem_cons_of_mem _ hx)) (by rw [List.length_append]; show acc.length+1+_≤_; omega)
   refine ⟨o',?_⟩
   unfold lcF
   show ((c (some t :: rest)).bind _)=_
   rw [hc t List.mem_cons_self,hp]
   show ((f (some t :: rest)).bind _)=_
   rw [hf t List.mem_cons_self hp]
   show (if acc.length < sizeLine then _ else _)=_
   rw [if_pos (by omega)]
   dsimp only
   rw [h,List.filter_cons_of_pos hp]
   simp
  | false =>
   obtain ⟨o',h⟩:=gf (c:=c) (f:=f) (p:=p) (F:=F) ts acc (some t) (fun x hx=>hc x (List.mem_cons_of_mem _ hx)) (fun x hx=>hf x (List.mem_cons_of_mem _ hx)) (by omega)
   refine ⟨o',?_⟩
   unfold lcF
   show ((c (some t :: rest)).bind _)=_
   rw [hc t List.mem_cons_self,hp]
   show lcF (gN 0) c f ts acc (some t :: rest)=_
   rw [h,List.filter_cons_of_neg (by rw [hp]; decide)]
theorem B2 {f:ME} {F:D→D} {rest:En} (ts acc:List D) (o:Option D) (hf:∀ t∈ts,f (some t :: rest)=some (F t,some t :: rest)) (hl:acc.length+ts.length≤sizeLine) :
  ∃ o',lcF (gN 0) cY f ts acc (o :: rest)=some (acc++ts.map F,o' :: rest):=by
 obtain ⟨o',h⟩:=gf (c:=cY) (f:=f) (p:=fun _=>true) (F:=F) ts acc o (fun _ _=>rfl) (fun t ht _=>hf t ht) hl
 rw [List.filter_eq_self.mpr (fun _ _=>rfl)] at h
 exact ⟨o',h⟩
end
section
variable {c c1 c2:MT} {m1 m2 b:MS} {en en1 en2:En} {fl:Fl} {t t1 t2 u:D} {f f1 f2:ME} {g:D→D→Option D} {fa:MA} {i n:Nat} {x y:Bool} {F:List D→Option (D × En)} {as:List (D ⊕ Nat)} {ts:List D} {outs:En} {dps:List Nat}
theorem dk (h1:m1 en=some (.nx en1)) (h2:m2 en1=some fl):ao m1 m2 en=some fl:=by unfold ao; rw [h1]; exact h2
theorem uE (h1:m1 en=some (.rt t en1)):ao m1 m2 en=some (.rt t en1):=by unfold ao; rw [h1]; rfl
theorem pA {b:Bool} (h1:c en=some (b,en1)) (hb:b=true) (h2:m1 en1=some fl):sIf c m1 m2 en=some fl:=by unfold sIf; rw [h1,hb]; exact h2
theorem pB {b:Bool} (h1:c en=some (b,en1)) (hb:b=false) (h2:m2 en1=some fl):sIf c m1 m2 en=some fl:=by unfold sIf; rw [h1,hb]; exact h2
theorem mf (h:f en=some (t,en1)) (he:en1.set i (some t)=en2):ax i f en=some (.nx en2):=by unfold ax; rw [h,← he]; rfl
theorem pC (h:f en=some (t,en1)):bA f en=some (.nx en1):=by unfold bA; rw [h]; rfl
theorem sH (h:f en=some (t,en1)):aR f en=some (.rt t en1):=by unfold aR; rw [h]; rfl
theorem bS (h1:f1 en=some (t1,en1)) (h2:f2 en1=some (t2,en2)) (h:g t1 t2=some u):e2 g f1 f2 en=some (u,en2):=by
 unfold e2
 rw [h1]
 show (f2 en1).bind _=_
 rw [h2]
 show (g t1 t2).map _=_
 rw [h]
 rfl
theorem rn {b:Bool} {r:Bool × En} (h1:c1 en=some (b,en1)) (hb:b=true) (h2:c2 en1=some r):cV c1 c2 en=some r:=by unfold cV; rw [h1,hb]; exact h2
theorem CJ {b:Bool} (h1:c1 en=some (b,en1)) (hb:b=false):cV c1 c2 en=some (false,en1):=by unfold cV; rw [h1,hb]; rfl
theorem jh {b:Bool} (h:f en=some (.bool b,en1)):tV f en=some (b,en1):=by unfold tV; rw [h]; rfl
theorem kK (h1:fa en=some (as,en1)) (h2:bZ as en1=some ts) (h:F ts=some (t,outs)) (hw:wb as outs en1=en2):ar F fa en=some (t,en2):=by
 subst hw
 unfold ar
 rw [h1]
 show (bZ as en1).bind _=_
 rw [h2]
 show (F ts).map _=_
 rw [h]
 rfl
theorem sI {g:List D→Option D} (h1:fa en=some (as,en1)) (h2:bC as=some ts) (h:g ts=some t):eN g fa en=some (t,en1):=by
 unfold eN
 rw [h1]
 show (bC as).bind _=_
 rw [h2]
 show (g ts).map _=_
 rw [h]
 rfl
theorem kL {r:MA} (h1:f en=some (t,en1)) (h2:r en1=some (as,en2)):ae f r en=some (.inl t :: as,en2):=by
 unfold ae
 rw [h1]
 show (r en1).map _=_
 rw [h2]
 rfl
theorem uF (h1:fa en=some (as,en1)) (h2:bC as=some ts) (h:ts.length≤sizeLine):a9 fa en=some (.list ts,en1):=by
 unfold a9
 rw [h1]
 show (bC as).bind _=_
 rw [h2]
 exact if_pos h
theorem cB:100≤sizeLine:=by rw [sizeLine_eq]; decide
theorem l9 (h:b (ts.map some++List.replicate n none)=some (.rt t en)):fnF n dps b ts=some (t,msk dps en):=by
 unfold fnF
 rw [h]
 rfl
end
namespace Pen2
def cr:MS:=(aR (Ia [((eC (.str "script")),(af 0)),((eC (.str "at")),(af 1)),((eC (.str "left")),(eC (.int 0)))]))
def F_law_pen:List D→Option (D × En):=fnF 0 [0,0] cr
end Pen2
end L2
namespace L2
open PySem PySem.Spec PyProof.Rows
theorem GO (a b:Int):eqD (.int a) (.int b)=some (.bool (a == b)):=by
 show grd _ _=_
 unfold grd
 rw [if_pos ⟨rfl,rfl,Nat.zero_le _⟩]
 simp only [peq]
theorem FF (a b:Int):neD (.int a) (.int b)=some (.bool (!(a == b))):=by
 show grd _ _=_
 unfold grd
 rw [if_pos ⟨rfl,rfl,Nat.zero_le _⟩]
 simp only [peq]
end L2
namespace L2
open PySem PySem.Spec PyProof.Rows
structure Df (K:PySem.W.Frag) (x:Str) (st:Stmt) (f:Addr):Prop where
 a:PySem.W.nsIn K mainGlobals x=some (some (.ref f))
 l:∃ oc od kV dc pm an cd ct sl,K.lookup f=some ⟨oc,od,.func (PySem.W.fnOf x x (dC st) (b7 st) (aq st) .none kV dc pm an cd ct),sl⟩∧PySem.W.codeIn K cd x=true
 k:PySem.W.keepIn K (.ref f)=true
section
variable {P:Program} {w:World} {K:PySem.W.Frag} {mg:Str→Option Value} {base h:Heap} {k dr:Nat} {x:Str} {ps:List Str} {dps:List Nat} {f:Addr} {st:Stmt} {sp:Sp}
theorem Df.mk' {oc:Value} {od an:Option Addr} {sl:Array (Option Value)} {kV dc pm cd ct:Value} (a:PySem.W.nsIn K mainGlobals x=some (some (.ref f))) (l:K.lookup f=some ⟨oc,od,.func (PySem.W.fnOf x x (dC st) (b7 st) (aq st) .none kV dc pm an cd ct),sl⟩) (c:PySem.W.codeIn K cd x=true) (k:PySem.W.keepIn K (.ref f)=true):Df K x st f :=
 ⟨a,⟨oc,od,kV,dc,pm,an,cd,ct,sl,l,c⟩,k⟩
theorem Df.kn (d:Df K x st f) (X:K.In h) (G:h.Ns mainGlobals mg) (b:∀ (kV doc pm:Value) (an:Option Addr) (cdv ct:Value) (us:List Value),us.length=ps.length→bindArgs (PySem.W.fnOf x x (dC st) (b7 st) (aq st) .none kV doc pm an cdv ct) ⟨us,[]⟩=pure (ps.zip us))
  (ok:∀ fd,Fun K x x st f fd→FnOk P w K mg base CX0 k f fd ps sp):Kn P w K mg base k x ps sp:=by
 obtain ⟨_,_,_,_,_,_,_,_,_,l,c⟩:=d.l
 have F:=pb (st:=st) l c d.k
 exact ⟨_,_,ok _ F,PySem.W.mg_of X G d.a,d.k,F.binds b⟩
end
end L2
namespace L2
namespace Pen3
open PySem L2
theorem sl1000:1000≤sizeLine:=by rw [sizeLine_eq]; decide
def cr:MS:=(ao (ax 2 (eC (.int 0)))
 (ao (sIf (tV (e2 gtI (eN bQ (ae (af 0) aj)) (eC (.int 0)))) (ax 2 (e2 ixA (af 0) (e2 bY (af 1) (eN bQ (ae (af 0) aj))))) bc)
 (ao (sIf (cV (tV (e2 ltI (af 1) (eN bQ (ae (af 0) aj)))) (tV (e2 geI (eN sO (ae (af 2) aj)) (e2 mM (eC (.int 10)) (eC (.int 18)))))) (aR (a9 (ae (eN sO (ae (af 2) aj)) (ae (eC (.int 0)) (ae (eC (.int 0)) aj))))) bc)
 (aR (a9 (ae (eC (.int 0)) (ae (e2 bu (e2 bY (af 2) (eC (.int 999999937))) (e2 cK (eC (.int 70001)) (af 1))) (ae (eC (.int 0)) aj))))))))
def F_law_pen:List D→Option (D × En):=fnF 1 [0,0] cr
def cu:MS:=(ao (sIf (tV (e2 gtI (cE 0 (eC (.int 0))) (eC (.int 0)))) (ao (ax 2 (e2 bY (cE 0 (eC (.int 0))) (af 1)))
 (ao (eI 0 (eC (.int 0)) (e2 gg (cE 0 (eC (.int 0))) (af 1)))
 (aR (af 2)))) bc)
 (ao (eI 0 (eC (.int 2)) (e2 bu (cE 0 (eC (.int 2))) (eC (.int 1))))
 (ao (ax 3 (e2 bY (e2 bu (e2 bu (e2 cK (cE 0 (eC (.int 1))) (eC (.int 48271))) (e2 cK (cE 0 (eC (.int 2))) (eC (.int 39373)))) (eC (.int 11))) (eC (.int 2147483647))))
 (ao (ax 3 (e2 bY (e2 cK (af 3) (e2 bu (e2 bY (af 3) (eC (.int 65521))) (cE 0 (eC (.int 2))))) (eC (.int 2147483629))))
 (aR (e2 bY (e2 gg (af 3) (eC (.int 64))) (af 1)))))))
def F_law_draw:List D→Option (D × En):=fnF 2 [1,0] cu
def cD (a b c:Int):D:=.list [.int a,.int b,.int c]
def IsPen (t:D):Prop:=∃ a b c,t=cD a b c
theorem draw_ok {p:D} {m:Int} (hp:IsPen p) (h3:0 < m) (h4:m < 1073741824):∃ r p',F_law_draw [p,.int m]=some (.int r,[some p',none])∧0≤r∧r < m∧IsPen p':=by
 obtain ⟨a,b,c,rfl⟩:=hp
 have cd:∀ z,jw z m:=fun z=>⟨h3,h4⟩
 have md:∀ z,bY (.int z) (.int m)=some (.int (z % m)):=fun z=>if_pos h3
 have dv:∀ z,gg (.int z) (.int m)=some (.int (z / m)):=fun z=>if_pos (cd z)
 by_cases ha:0 < a
 ·refine ⟨a % m,cD (a / m) b c,?_,Int.emod_nonneg _ (by omega),Int.emod_lt_of_pos _ h3,_,_,_,rfl⟩
  refine l9 (b:=cu) (en:=[some (cD (a / m) b c),some (.int m),some (.int (a % m)),none]) (uE (pA (b:=decide ((0:Int) < a)) rfl (decide_eq_true ha) (dk (en1:=[some (cD a b c),some (.int m),some (.int (a % m)),none]) (mf (bS (t1:=.int a) (t2:=.int m) rfl rfl (md a)) rfl) (dk (en1:=[some (cD (a / m) b c),some (.int m),some (.int (a % m)),none]) ?_ rfl))))
  unfold eI
  rw [bS (t1:=.int a) (t2:=.int m) (f1:=cE 0 (eC (.int 0))) (f2:=af 1) (g:=gg) (en:=[some (cD a b c),some (.int m),some (.int (a % m)),none]) (en1:=[some (cD a b c),some (.int m),some (.int (a % m)),none]) (en2:=[some (cD a b c),some (.int m),some (.int (a % m)),none]) rfl rfl (dv a)]
  rfl
 ·generalize g1:(b * 48271+(c+1) * 39373+11) % 2147483647=x
  have x0:0≤x:=by omega
  have x1:x < 2147483647:=by omega
  generalize g2:x * (x % 65521+(c+1)) % 2147483629=y
  refine ⟨y / 64 % m,cD a b (c+1),?_,Int.emod_nonneg _ (by omega),Int.emod_lt_of_pos _ h3,_,_,_,rfl⟩
  have c1:cK (.int b) (.int 48271)=some (.int (b * 48271)):=if_pos (.inr (by decide))
  have c2:cK (.int (c+1)) (.int 39373)=some (.int ((c+1) * 39373)):=if_pos (.inr (by decide))
  have c3:cK (.int x) (.int (x % 65521+(c+1)))=some (.int (x * (x % 65521+(c+1)))):=if_pos (.inl (by constructor <;> omega))
  have c80:jw y 64:=⟨by decide,by decide⟩
  have c8:gg (.int y) (.int 64)=some (.int (y / 64)):=by
   show (if jw y 64 then some (PyData.int (y / 64)) else none)=_
   rw [if_pos c80]
  refine l9 (b:=cu) (en:=[some (cD a b (c+1)),some (.int m),none,some (.int y)]) (dk (en1:=[some (cD a b c),some (.int m),none,none]) (pB (b:=decide ((0:Int) < a)) rfl (decide_eq_false ha) rfl)
   (dk (en1:=[some (cD a b (c+1)),some (.int m),none,none]) rfl
   (dk (en1:=[some (cD a b (c+1)),some (.int m),none,some (.int x)]) (mf (bS (t2:=.int 2147483647) (bS (bS (bS (t1:=.int b) (t2:=.int 48271) rfl rfl c1) (bS (t1:=.int (c+1)) (t2:=.int 39373) rfl rfl c2) rfl) rfl rfl) rfl (by rw [← g1]; rfl)) rfl)
   (dk (en1:=[some (cD a b (c+1)),some (.int m),none,some (.int y)]) (mf (bS (t2:=.int 2147483629) (bS (t1:=.int x) (t2:=.int (x % 65521+(c+1))) rfl (bS (t1:=.int (x % 65521)) (t2:=.int (c+1)) rfl rfl rfl) c3) rfl (by rw [← g2]; rfl)) rfl)
   (sH (bS (t2:=.int m) (bS (t1:=.int y) (t2:=.int 64) rfl rfl c8) rfl (md _)))))))
theorem pen_ok {ns:List Int} {k:Int} (h0:0≤k):∃ p,F_law_pen [.list (ns.map .int),.int k]=some (p,[none,none])∧IsPen p:=by
 have len:bQ [.list (ns.map .int)]=some (.int ns.length):=by show some (PyData.int (ns.map PyData.int).length)=_; rw [List.length_map]
 have ln:∀ (y:Option D),(eN bQ (ae (af 0) aj)) [some (.list (ns.map .int)),some (.int k),y]=some (.int ns.length,[some (.list (ns.map .int)),some (.int k),y]):=fun y=>sI rfl rfl len
 have mk0:CMul 70001 k:=.inl (by decide)
 have mk:cK (.int 70001) (.int k)=some (.int (70001 * k)):=by
  show (if CMul 70001 k then some (PyData.int (70001 * k)) else none)=_
  rw [if_pos mk0]
 have pw:mM (.int 10) (.int 18)=some (.int 1000000000000000000):=by
  show (if iA 10 18 then some (PyData.int (10 ^ Int.toNat 18)) else none)=_
  rw [if_pos (by unfold iA; decide)]; rfl
 obtain ⟨c,st⟩:∃ c:Int,(sIf (tV (e2 gtI (eN bQ (ae (af 0) aj)) (eC (.int 0)))) (ax 2 (e2 ixA (af 0) (e2 bY (af 1) (eN bQ (ae (af 0) aj))))) bc) [some (.list (ns.map .int)),some (.int k),some (.int 0)]=some (.nx [some (.list (ns.map .int)),some (.int k),some (.int c)]):=by
  by_cases hn:(0:Int) < ns.length
  ·obtain ⟨j,ej⟩:∃ j:Nat,ixN ns.length (k % ns.length)=some j∧j < ns.length:=by
    have q1:0≤k % (ns.length:Int):=Int.emod_nonneg _ (by omega)
    have q2:k % (ns.length:Int) < ns.length:=Int.emod_lt_of_pos _ (by omega)
    exact ⟨(k % (ns.length:Int)).toNat,by unfold ixN; rw [if_pos q1,if_pos q2],by omega⟩
   obtain ⟨c,ec⟩:∃ c,ns[j]?=some c:=⟨_,List.getElem?_eq_getElem ej.2⟩
   have at1:ixA (.list (ns.map .int)) (.int (k % ns.length))=some (.int c):=by
    show atI _ _=_
    unfold atI
    rw [List.length_map,ej.1]
    show (ns.map PyData.int)[j]?=_
    rw [List.getElem?_map,ec]
    rfl
   have ml:bY (.int k) (.int ns.length)=some (.int (k % ns.length)):=if_pos hn
   exact ⟨c,pA (jh (bS (ln _) rfl rfl)) (decide_eq_true hn) (mf (bS rfl (bS rfl (ln _) ml) at1) rfl)⟩
  ·exact ⟨0,pB (jh (bS (ln _) rfl rfl)) (decide_eq_false hn) rfl⟩
 obtain ⟨b,ab⟩:∃ b,sO [.int c]=some (.int b):=⟨if c < 0 then -c else c,rfl⟩
 have l3:∀ x y z:D,[x,y,z].length≤sizeLine:=fun x y z=>Nat.le_trans (by show 3≤1000; decide) sl1000
 have fin:(aR (a9 (ae (eC (.int 0)) (ae (e2 bu (e2 bY (af 2) (eC (.int 999999937))) (e2 cK (eC (.int 70001)) (af 1))) (ae (eC (.int 0)) aj))))) [some (.list (ns.map .int)),some (.int k),some (.int c)]=some (.rt (cD 0 (c % 999999937+70001 * k) 0) [some (.list (ns.map .int)),some (.int k),some (.int c)]) :=
  sH (uF (kL rfl (kL (bS (t1:=.int (c % 999999937)) (t2:=.int (70001 * k)) rfl (bS rfl rfl mk) rfl) rfl)) rfl (l3 _ _ _))
 by_cases h1:(k < (ns.length:Int))∧(1000000000000000000≤b)
 ·refine ⟨cD b 0 0,l9 (b:=cr) (en:=[some (.list (ns.map .int)),some (.int k),some (.int c)]) (dk (en1:=[some (.list (ns.map .int)),some (.int k),some (.int 0)]) rfl (dk st (uE (pA (b:=true) (rn (b:=decide (k < (ns.length:Int))) (jh (bS rfl (ln _) rfl)) (decide_eq_true h1.1) (jh (bS (sI rfl rfl ab) (bS rfl rfl pw) (congrArg (fun q=>some (PyData.bool q)) (decide_eq_true h1.2))))) rfl (sH (uF (kL (sI rfl rfl ab) rfl) rfl (l3 _ _ _))))))),_,_,_,rfl⟩
 ·refine ⟨_,l9 (b:=cr) (en:=[some (.list (ns.map .int)),some (.int k),some (.int c)]) (dk (en1:=[some (.list (ns.map .int)),some (.int k),some (.int 0)]) rfl (dk st (dk (en1:=[some (.list (ns.map .int)),some (.int k),some (.int c)]) (pB (b:=false) ?_ rfl rfl) fin))),_,_,_,rfl⟩
  by_cases h2:k < (ns.length:Int)
  ·exact rn (b:=decide (k < (ns.length:Int))) (jh (bS rfl (ln _) rfl)) (decide_eq_true h2) (jh (bS (sI rfl rfl ab) (bS rfl rfl pw) (congrArg (fun q=>some (PyData.bool q)) (decide_eq_false fun z=>h1 ⟨h2,z⟩))))
  ·exact CJ (b:=decide (k < (ns.length:Int))) (jh (bS rfl (ln _) rfl)) (decide_eq_false h2)
end Pen3
end L2
namespace L2
open PySem PySem.Spec PyProof.Rows
structure W {α:Type} (x:Option α) (Q:α→Prop):Prop where
 ex:∃ a,x=some a∧Q a
theorem aE {α:Type} (a:α) (Q:α→Prop):W (some a) Q=Q a:=propext ⟨fun ⟨b,e,h⟩=>(Option.some.inj e) ▸ h,fun h=>⟨a,rfl,h⟩⟩
theorem bg {α:Type} (Q:α→Prop):W (none:Option α) Q=False:=propext ⟨(fun ⟨b,e,h⟩=>by cases e),(fun h=>h.elim)⟩
theorem W.use {α:Type} {x:Option α} {P Q:α→Prop} (h:W x P) (k:∀ a,P a→Q a):W x Q :=
 let ⟨a,e,h⟩:=h.ex
 ⟨a,e,k a h⟩
theorem W.of {α:Type} {x:Option α} {P:α→Prop} {a:α} (e:x=some a) (h:P a):W x P:=⟨a,e,h⟩
theorem aF {α β:Type} (x:Option α) (f:α→Option β) (Q:β→Prop):W (x.bind f) Q=W x (fun a=>W (f a) Q):=by
 cases x with
 | none=>show W none _=_; rw [bg,bg]
 | some a=>show W (f a) Q=_; rw [aE]
theorem bz {α β:Type} (x:Option α) (f:α→β) (Q:β→Prop):W (x.map f) Q=W x (fun a=>Q (f a)):=by
 cases x with
 | none=>show W none _=_; rw [bg,bg]
 | some a=>show W (some (f a)) Q=_; rw [aE,aE]
theorem mx {α:Type} (c:Prop) [Decidable c] (a:α) (Q:α→Prop):W (grd c a) Q=(c∧Q a):=by
 unfold grd
 by_cases h:c
 ·rw [if_pos h,aE]; exact propext ⟨fun z=>⟨h,z⟩,fun z=>z.2⟩
 ·rw [if_neg h,bg]; exact propext ⟨fun z=>z.elim,fun z=>h z.1⟩
theorem gQ {α:Type} (c:Prop) [Decidable c] (a:α) (Q:α→Prop):W (if c then some a else none) Q=(c∧Q a):=mx c a Q
theorem sP {α:Type} (c:Prop) [Decidable c] (x:Option α) (Q:α→Prop):W (if c then x else none) Q=(c∧W x Q):=by
 by_cases h:c
 ·rw [if_pos h]; exact propext ⟨fun z=>⟨h,z⟩,fun z=>z.2⟩
 ·rw [if_neg h,bg]; exact propext ⟨fun z=>z.elim,fun z=>h z.1⟩
def gv (en:En) (i:Nat):Option D:=(en[i]?).join
def ii (ts:List D) (n:Int) (t:D):Option (List D):=(ixN ts.length n).map fun k=>ts.set k t
def Fs (ts:List D) (n:Int):Option (D × List D):=(seqIndex? n ts.length).bind fun k=>(ts[k]?).map fun t=>(t,ts.eraseIdx k)
def jQ (i:Int) (n:Nat):List D:=(List.range n).map fun k=>.int (i+(k:Nat))
section
variable {α β:Type}
def mR (b:MS) (Q:Fl→Prop):Fl→Prop:=fun fl=>W (match fl with | .nx en1=>b en1 | .rt t en1=>some (.rt t en1) | .ct en1=>some (.ct en1)) Q
def FS (i:Nat) (Q:Fl→Prop):D × En→Prop:=fun r=>Q (.nx (r.2.set i (some r.1)))
def FY (Q:Fl→Prop):D × En→Prop:=fun r=>Q (.nx r.2)
def FT (Q:Fl→Prop):D × En→Prop:=fun r=>Q (.rt r.1 r.2)
def kIf (f g:En→Option β) (Q:β→Prop):Bool × En→Prop:=fun r=>W (if r.1 then f r.2 else g r.2) Q
def FX (g:MG) (b:MS) (Q:Fl→Prop):List D × En→Prop:=fun r=>W (cx g b r.1 r.2) Q
def lT (g:MG) (b:MS) (ts:List D) (Q:Fl→Prop):Fl→Prop:=fun fl=>W (match fl with | .nx en2=>cx g b ts en2 | .ct en2=>cx g b ts en2 | .rt r en2=>some (.rt r en2)) Q
def Be (g:MG) (b:MS) (ts:List D) (Q:Fl→Prop):En→Prop:=fun en=>W (b en) (lT g b ts Q)
def vz (i:Nat) (en:En) (Q:Fl→Prop):List D→Prop:=fun ts=>Q (.nx (en.set i (some (.list ts))))
def lR (i:Nat) (t:D) (Q:Fl→Prop):D × En→Prop:=fun q=>W (match q.1,(q.2[i]?).join with | .int n,some (.list ts)=>(ixN ts.length n).map fun k=>.nx (q.2.set i (some (.list (ts.set k t)))) | _,_=>none) Q
def si (i:Nat) (fk:ME) (Q:Fl→Prop):D × En→Prop:=fun r=>W (match (r.2[i]?).join with | some _=>((fk r.2).bind fun q=>(match q.1,(q.2[i]?).join with | .int n,some (.list ts)=>(ixN ts.length n).map fun k=>.nx (q.2.set i (some (.list (ts.set k r.1)))) | _,_=>none)) | none=>none) Q
def ud (i:Nat) (t:D) (fk:ME) (en:En) (Q:Fl→Prop):D→Prop:=fun _x=>W (fk en) (lR i t Q)
def oS (i:Nat) (t:D) (n:Int) (en:En) (Q:Fl→Prop):D→Prop:=fun x=>W (match x with | .list ts=>(ixN ts.length n).map fun k=>.nx (en.set i (some (.list (ts.set k t)))) | _=>none) Q
def e7 (en:En) (Q:D × En→Prop):D→Prop:=fun t=>Q (t,en)
def kMv (i:Nat) (en:En) (Q:D × En→Prop):D→Prop:=fun t=>Q (t,en.set i none)
def k1 (g:D→Option D) (Q:D × En→Prop):D × En→Prop:=fun r=>W (g r.1) (e7 r.2 Q)
def k2b (g:D→D→Option D) (t:D) (Q:D × En→Prop):D × En→Prop:=fun q=>W (g t q.1) (e7 q.2 Q)
def k2 (g:D→D→Option D) (f:ME) (Q:D × En→Prop):D × En→Prop:=fun r=>W (f r.2) (k2b g r.1 Q)
def kTV (Q:Bool × En→Prop):D × En→Prop:=fun r=>W (match r.1 with | .bool b=>some (b,r.2) | _=>none) Q
def ss (g:MT) (Q:Bool × En→Prop):Bool × En→Prop:=fun r=>W (if r.1 then g r.2 else some (false,r.2)) Q
def vB (g:MT) (Q:Bool × En→Prop):Bool × En→Prop:=fun r=>W (if r.1 then some (true,r.2) else g r.2) Q
def Bg (Q:Bool × En→Prop):Bool × En→Prop:=fun r=>Q (!r.1,r.2)
def vD (t:D) (Q:List (D ⊕ Nat) × En→Prop):List (D ⊕ Nat) × En→Prop:=fun y=>Q (.inl t :: y.1,y.2)
def kAC (r:MA) (Q:List (D ⊕ Nat) × En→Prop):D × En→Prop:=fun x=>W (r x.2) (vD x.1 Q)
def vC (i:Nat) (Q:List (D ⊕ Nat) × En→Prop):List (D ⊕ Nat) × En→Prop:=fun y=>Q (.inr i :: y.1,y.2)
def kAS (i:Nat) (r:MA) (en:En) (Q:List (D ⊕ Nat) × En→Prop):D→Prop:=fun _x=>W (r en) (vC i Q)
def kN2 (g:List D→Option D) (en:En) (Q:D × En→Prop):List D→Prop:=fun ts=>W (g ts) (e7 en Q)
def kN (g:List D→Option D) (Q:D × En→Prop):List (D ⊕ Nat) × En→Prop:=fun r=>W (bC r.1) (kN2 g r.2 Q)
def sm (en:En) (Q:D × En→Prop):List D→Prop:=fun ts=>W (if ts.length≤sizeLine then some (.list ts,en) else none) Q
def FV (Q:D × En→Prop):List (D ⊕ Nat) × En→Prop:=fun r=>W (bC r.1) (sm r.2 Q)
def sf (en:En) (Q:D × En→Prop):List D→Prop:=fun ts=>W (if ts.length≤sizeLine then some (.tuple ts,en) else none) Q
def FR (Q:D × En→Prop):List (D ⊕ Nat) × En→Prop:=fun r=>W (bC r.1) (sf r.2 Q)
def oU (as:List (D ⊕ Nat)) (en:En) (Q:D × En→Prop):D × En→Prop:=fun q=>Q (q.1,wb as q.2 en)
def oV (F:List D→Option (D × En)) (as:List (D ⊕ Nat)) (en:En) (Q:D × En→Prop):List D→Prop:=fun ts=>W (F ts) (oU as en Q)
def Bf (F:List D→Option (D × En)) (Q:D × En→Prop):List (D ⊕ Nat) × En→Prop:=fun r=>W (bZ r.1 r.2) (oV F r.1 r.2 Q)
def kFn (dps:List Nat) (Q:D × En→Prop):Fl→Prop:=fun fl=>W (match fl with | .rt t en=>some (t,msk dps en) | .nx en=>some (.none,msk dps en) | .ct _=>none) Q
def sr (q:Bool) (js:List (Option Nat)) (en:En) (Q:D × En→Prop):List D × En→Prop:=fun z=>Q (.list z.1,if q then en else wbB js z.2 en)
def kLC (q:Bool) (g:MG) (c:MT) (f:ME) (js:List (Option Nat)) (Q:D × En→Prop):List D × En→Prop:=fun r=>W (lcF g c f r.1 [] (cX js r.2)) (sr q js r.2 Q)
def kL3 (g:MG) (c:MT) (f:ME) (ts acc:List D) (Q:List D × En→Prop):D × En→Prop:=fun q=>W (if acc.length < sizeLine then lcF g c f ts (acc++[q.1]) q.2 else none) Q
def kL2 (g:MG) (c:MT) (f:ME) (ts acc:List D) (Q:List D × En→Prop):Bool × En→Prop:=fun r=>W (if r.1 then (f r.2).bind fun q=>if acc.length < sizeLine then lcF g c f ts (acc++[q.1]) q.2 else none else lcF g c f ts acc r.2) Q
def kL1 (g:MG) (c:MT) (f:ME) (ts acc:List D) (Q:List D × En→Prop):En→Prop:=fun en=>W (c en) (kL2 g c f ts acc Q)
def sv (Q:List D × En→Prop):D × En→Prop:=fun r=>W ((AY r.1).map fun ts=>(ts,r.2)) Q
def kR1 (Q:List D × En→Prop):List (D ⊕ Nat) × En→Prop:=fun r=>W (match r.1 with | [.inl (.int j)]=>if -(2 ^ 62)≤j∧j < 2 ^ 62 then some ((List.range j.toNat).map fun k=>.int (0+(k:Nat)),r.2) else none | _=>none) Q
def tZ (n:Int) (en:En) (Q:D × En→Prop):D→Prop:=fun x=>W (match x with | .list ts=>(atI ts n).map fun t=>(t,en) | _=>none) Q
def lQ (i:Nat) (Q:D × En→Prop):D × En→Prop:=fun r=>W (match r.1,(r.2[i]?).join with | .int n,some (.list ts)=>(atI ts n).map fun t=>(t,r.2) | _,_=>none) Q
def Bc (i:Nat) (f:ME) (en:En) (Q:D × En→Prop):D→Prop:=fun _x=>W (f en) (lQ i Q)
def su (i:Nat) (Q:D × En→Prop):D × En→Prop:=fun r=>W (match (r.2[i]?).join with | some (.list ts)=>if ts.length < sizeLine then some (PyData.none,r.2.set i (some (.list (ts++[r.1])))) else none | _=>none) Q
def Bi (i:Nat) (t:D) (en:En) (Q:D × En→Prop):D→Prop:=fun x=>W (match x with | .list ts=>if ts.length < sizeLine then some (PyData.none,en.set i (some (.list (ts++[t])))) else none | _=>none) Q
def F7 (i:Nat) (f:ME) (en:En) (Q:D × En→Prop):D→Prop:=fun x=>W (match x with | .list _=>((f en).bind fun r=>(match (r.2[i]?).join with | some (.list ts)=>if ts.length < sizeLine then some (PyData.none,r.2.set i (some (.list (ts++[r.1])))) else none | _=>none)) | _=>none) Q
def kOS (Q:Option Int × En→Prop):D × En→Prop:=fun r=>W (match r.1 with | .int i=>some (some i,r.2) | _=>none) Q
def vx (g:D→Option Int→Option Int→Option D) (t:D) (lo:Option Int) (Q:D × En→Prop):Option Int × En→Prop:=fun h=>W (g t lo h.1) (e7 h.2 Q)
def vy (g:D→Option Int→Option Int→Option D) (t:D) (hi:MO) (Q:D × En→Prop):Option Int × En→Prop:=fun l=>W (hi l.2) (vx g t l.1 Q)
def kSl (g:D→Option Int→Option Int→Option D) (lo hi:MO) (Q:D × En→Prop):D × En→Prop:=fun r=>W (lo r.2) (vy g r.1 hi Q)
def kM2 (g:Str→List D→Option D) (z:Str) (en:En) (Q:D × En→Prop):List D→Prop:=fun ts=>W (g z ts) (e7 en Q)
def kM1 (g:Str→List D→Option D) (z:Str) (Q:D × En→Prop):List (D ⊕ Nat) × En→Prop:=fun q=>W (bC q.1) (kM2 g z q.2 Q)
def kM (g:Str→List D→Option D) (fa:MA) (Q:D × En→Prop):D × En→Prop:=fun r=>W (match r.1 with | .str z=>(fa r.2).bind fun q=>(bC q.1).bind fun ts=>(g z ts).map fun t=>(t,q.2) | _=>none) Q
def kIt (J:En→Prop) (Q:Fl→Prop):Fl→Prop:=fun fl=>match fl with | .nx e=>J e | .ct e=>J e | .rt t e=>Q (.rt t e)
def vA (us:List D) (J:List D→En→Prop):D × En→Prop:=fun r=>J (us++[r.1]) r.2
def so (f:ME) (us:List D) (J:List D→En→Prop):Bool × En→Prop:=fun r=>if r.1 then W (f r.2) (vA us J) else J us r.2
def FW (c:MT) (f:ME) (us:List D) (J:List D→En→Prop):En→Prop:=fun en=>W (c en) (so f us J)
def kWh (b:MS) (J:En→Prop) (Q:Fl→Prop):Bool × En→Prop:=fun r=>if r.1 then W (b r.2) (kIt J Q) else Q (.nx r.2)
def kFg (b:MS) (J:En→Prop) (Q:Fl→Prop):En→Prop:=fun en=>W (b en) (kIt J Q)
def Bd (i:Nat) (en:En) (Q:D × En→Prop):D × List D→Prop:=fun r=>Q (r.1,en.set i (some (.list r.2)))
def sj (i:Nat) (n:Int) (en:En) (Q:D × En→Prop):D→Prop:=fun x=>W (match x with | .list ts=>(if -(2 ^ 63)≤n∧n < 2 ^ 63 then (seqIndex? n ts.length).bind fun k=>(ts[k]?).map fun t=>(t,en.set i (some (.list (ts.eraseIdx k)))) else none) | _=>none) Q
def sk (i:Nat) (Q:D × En→Prop):D × En→Prop:=fun r=>W (match r.1,(r.2[i]?).join with | .int n,some (.list ts)=>(if -(2 ^ 63)≤n∧n < 2 ^ 63 then (seqIndex? n ts.length).bind fun k=>(ts[k]?).map fun t=>(t,r.2.set i (some (.list (ts.eraseIdx k)))) else none) | _,_=>none) Q
def FU (i:Nat) (f:ME) (en:En) (Q:D × En→Prop):D→Prop:=fun x=>W (match x with | .list _=>(f en).bind (fun r=>match r.1,(r.2[i]?).join with | .int n,some (.list ts)=>(if -(2 ^ 63)≤n∧n < 2 ^ 63 then (seqIndex? n ts.length).bind fun k=>(ts[k]?).map fun t=>(t,r.2.set i (some (.list (ts.eraseIdx k)))) else none) | _,_=>none) | _=>none) Q
def kS1 (Q:D→Prop):Nat→Prop:=fun c=>Q (.str (mk1 c))
def lV (t:D) (Q:List D→Prop):List D→Prop:=fun ts=>Q (t :: ts)
def FZ (r:List (D ⊕ Nat)) (en:En) (Q:List D→Prop):D→Prop:=fun t=>W (bZ r en) (lV t Q)
theorem aY {α:Type} (ts:List α) (n:Nat):atI ts (n:Int)=ts[n]?:=by
 unfold atI ixN
 rw [if_pos (by omega)]
 by_cases h:n < ts.length
 ·rw [if_pos (by omega)]; rfl
 ·rw [if_neg (by omega),List.getElem?_eq_none (by omega)]; rfl
theorem eW {ts:List D} {t:D} (n:Nat) (h:n < ts.length):ii ts (n:Int) t=some (ts.set n t):=by
 unfold ii ixN
 rw [if_pos (by omega),if_pos (by omega)]
 rfl
theorem CN (x:D) (l:List D):bt (x :: l) (some 1) none=l:=by
 unfold bt
 rw [HT.sIx_none,show (some (1:Int))=some ((1:Nat):Int) from rfl,HT.sIx_nat,Nat.min_eq_left (by simp),List.drop_one]
 exact List.take_of_length_le (by simp)
theorem Ib (x:D) (l:List D):(HT.sIx (x :: l).length 0 (some 1)=0)=False:=by
 rw [show (some (1:Int))=some ((1:Nat):Int) from rfl,HT.sIx_nat,Nat.min_eq_left (by simp)]
 exact eq_false (by decide)
theorem rg (a b:Int):(a == b)=decide (a=b):=by
 by_cases h:a=b
 ·rw [h,decide_eq_true rfl]; exact beq_self_eq_true b
 ·rw [decide_eq_false h]; exact beq_eq_false_iff_ne.mpr h
theorem CK (a b:Bool):eqD (.bool a) (.bool b)=some (.bool (a == b)):=by
 show grd _ _=_
 unfold grd
 rw [if_pos ⟨rfl,rfl,Nat.zero_le _⟩]
 simp only [peq]
theorem BW (a b:Bool):neD (.bool a) (.bool b)=some (.bool (!(a == b))):=by
 show grd _ _=_
 unfold grd
 rw [if_pos ⟨rfl,rfl,Nat.zero_le _⟩]
 simp only [peq]
theorem kx (a b:Str):(a == b)=decide (a=b):=by
 by_cases h:a=b
 ·rw [h,decide_eq_true rfl]; exact beq_self_eq_true b
 ·rw [decide_eq_false h]; exact beq_eq_false_iff_ne.mpr h
theorem GM (a b:Str):eqD (.str a) (.str b)=some (.bool (decide (a=b))):=by
 show grd _ _=_
 unfold grd
 rw [if_pos ⟨rfl,rfl,Nat.zero_le _⟩,← kx]
 simp only [peq]
theorem FD (a b:Str):neD (.str a) (.str b)=some (.bool (!decide (a=b))):=by
 show grd _ _=_
 unfold grd
 rw [if_pos ⟨rfl,rfl,Nat.zero_le _⟩,← kx]
 simp only [peq]
theorem GN:eqD (.list []) (.list [])=some (.bool true):=by
 show grd _ _=_
 unfold grd
 rw [if_pos ⟨rfl,rfl,by decide⟩]
 rfl
theorem FE:neD (.list []) (.list [])=some (.bool false):=by
 show grd _ _=_
 unfold grd
 rw [if_pos ⟨rfl,rfl,by decide⟩]
 rfl
variable (en:En) (Qs:Fl→Prop) (Qe:D × En→Prop) (Qb:Bool × En→Prop) (Qa:List (D ⊕ Nat) × En→Prop) (Ql:List D × En→Prop) (Qd:D→Prop) (Qt:List D→Prop) (Qn:En→Prop) (f:ME) (g:MG) (fa:MA) (c:MT) (ts:List D) (i:Nat)
theorem ws0 (α:Type) (a:α) (Q:α→Prop):W (some a) Q=Q a:=aE _ _
theorem ws1 (α:Type) (Q:α→Prop):W (none:Option α) Q=False:=bg _
theorem ws2 (α:Type) (c:Prop) (_:Decidable c) (a:α) (Q:α→Prop):W (grd c a) Q=(c∧Q a):=mx c a Q
theorem ws3 (a:Option D) (l:En):gv (a :: l) 0=a:=rfl
theorem ws4 (a:Option D) (l:En):gv (a :: l) (i+1)=gv l i:=rfl
theorem ws5 (a b:Option D) (l:En):List.set (a :: l) 0 b=b :: l:=rfl
theorem ws6 (a b:Option D) (l:En):List.set (a :: l) (i+1) b=a :: List.set l i b:=rfl
theorem ws7 (a b:MS):W (ao a b en) Qs=W (a en) (mR b Qs):=aF _ _ _
theorem ws8 (b:MS):mR b Qs (.nx en)=W (b en) Qs:=rfl
theorem ws9 (b:MS) (t:D):mR b Qs (.rt t en)=Qs (.rt t en):=aE _ _
theorem EJ (b:MS):mR b Qs (.ct en)=Qs (.ct en):=aE _ _
theorem EH:W (ax i f en) Qs=W (f en) (FS i Qs):=bz _ _ _
theorem EG (t:D):FS i Qs (t,en)=Qs (.nx (en.set i (some t))):=rfl
theorem EF:W (bA f en) Qs=W (f en) (FY Qs):=bz _ _ _
theorem EE (t:D):FY Qs (t,en)=Qs (.nx en):=rfl
theorem ED:W (aR f en) Qs=W (f en) (FT Qs):=bz _ _ _
theorem EC (t:D):FT Qs (t,en)=Qs (.rt t en):=rfl
theorem EB:W (bc en) Qs=Qs (.nx en):=aE _ _
theorem EA:W (iH en) Qs=False:=bg _
theorem Ez (a b:MS):W (sIf c a b en) Qs=W (c en) (kIf a b Qs):=aF _ _ _
theorem Ey (β:Type) (a b:En→Option β) (Q:β→Prop):kIf a b Q (true,en)=W (a en) Q:=rfl
theorem Ex (β:Type) (a b:En→Option β) (Q:β→Prop):kIf a b Q (false,en)=W (b en) Q:=rfl
theorem Ev (fi:MI) (b:MS):W (bG fi g b en) Qs=W (fi en) (FX g b Qs):=aF _ _ _
theorem Eu (b:MS):FX g b Qs (ts,en)=W (cx g b ts en) Qs:=rfl
theorem Et (b:MS):W (cx g b [] en) Qs=Qs (.nx en):=aE _ _
theorem Es (b:MS) (t:D):W (cx g b (t :: ts) en) Qs=W (g t en) (Be g b ts Qs):=(aF _ _ _).trans (congrArg _ (funext fun z=>aF _ _ _))
theorem Er (b:MS):Be g b ts Qs en=W (b en) (lT g b ts Qs):=rfl
theorem Ep (b:MS):lT g b ts Qs (.nx en)=W (cx g b ts en) Qs:=rfl
theorem Eo (b:MS):lT g b ts Qs (.ct en)=W (cx g b ts en) Qs:=rfl
theorem Em (b:MS) (t:D):lT g b ts Qs (.rt t en)=Qs (.rt t en):=aE _ _
theorem El (t:D):W (gN i t en) Qn=Qn (en.set i (some t)):=aE _ _
theorem Ek (fk fe:ME):W (eI i fk fe en) Qs=W (fe en) (si i fk Qs):=aF _ _ _
theorem Ej (fk:ME) (t:D):si i fk Qs (t,en)=W (gv en i) (ud i t fk en Qs):=by unfold si gv; cases h:(en[i]?).join with | none=>simp only [h,bg] | some x=>simp only [h,aE]; exact aF _ _ _
theorem Ei (t:D) (fk:ME) (x:D):ud i t fk en Qs x=W (fk en) (lR i t Qs):=rfl
theorem Eg (t:D) (n:Int):lR i t Qs (.int n,en)=W (gv en i) (oS i t n en Qs):=by unfold lR gv; cases h:(en[i]?).join with | none=>simp only [h,bg] | some x=>simp only [h,aE]; cases x <;> first | rfl | exact (aE _ _).symm | (rw [aE]; rfl) | (rw [aE]; exact bg _)
theorem Ef (t:D) (n:Int):oS i t n en Qs (.list ts)=W (ii ts n t) (vz i en Qs):=by unfold oS ii vz; dsimp only; rw [bz,bz]
theorem Ee:vz i en Qs ts=Qs (.nx (en.set i (some (.list ts)))):=rfl
theorem Ed (x0 t:D) (l:List D):ii (x0 :: l) 0 t=some (t :: l):=eW 0 (by simp only [List.length_cons]; omega)
theorem Ec (x0 x1 t:D) (l:List D):ii (x0 :: x1 :: l) 1 t=some (x0 :: t :: l):=eW 1 (by simp only [List.length_cons]; omega)
theorem Eb (x0 x1 x2 t:D) (l:List D):ii (x0 :: x1 :: x2 :: l) 2 t=some (x0 :: x1 :: t :: l):=eW 2 (by simp only [List.length_cons]; omega)
theorem Ea (x0 x1 x2 x3 t:D) (l:List D):ii (x0 :: x1 :: x2 :: x3 :: l) 3 t=some (x0 :: x1 :: x2 :: t :: l):=eW 3 (by simp only [List.length_cons]; omega)
theorem D9 (x0 x1 x2 x3 x4 t:D) (l:List D):ii (x0 :: x1 :: x2 :: x3 :: x4 :: l) 4 t=some (x0 :: x1 :: x2 :: x3 :: t :: l):=eW 4 (by simp only [List.length_cons]; omega)
theorem D8 (x0 x1 x2 x3 x4 x5 t:D) (l:List D):ii (x0 :: x1 :: x2 :: x3 :: x4 :: x5 :: l) 5 t=some (x0 :: x1 :: x2 :: x3 :: x4 :: t :: l):=eW 5 (by simp only [List.length_cons]; omega)
theorem D7:W (af i en) Qe=W (gv en i) (e7 en Qe):=bz _ _ _
theorem D6 (t:D):e7 en Qe t=Qe (t,en):=rfl
theorem D5:W (eMv i en) Qe=W (gv en i) (kMv i en Qe):=bz _ _ _
theorem D4 (t:D):kMv i en Qe t=Qe (t,en.set i none):=rfl
theorem D3 (t:D):W (eC t en) Qe=Qe (t,en):=aE _ _
theorem D2 (g:D→Option D):W (e1 g f en) Qe=W (f en) (k1 g Qe):=(aF _ _ _).trans (congrArg _ (funext fun z=>bz _ _ _))
theorem D1 (g:D→Option D) (t:D):k1 g Qe (t,en)=W (g t) (e7 en Qe):=rfl
theorem D0 (g:D→D→Option D) (f1 f2:ME):W (e2 g f1 f2 en) Qe=W (f1 en) (k2 g f2 Qe):=(aF _ _ _).trans (congrArg _ (funext fun z=>(aF _ _ _).trans (congrArg _ (funext fun y=>bz _ _ _))))
theorem DZ (g:D→D→Option D) (f2:ME) (t:D):k2 g f2 Qe (t,en)=W (f2 en) (k2b g t Qe):=rfl
theorem DY (g:D→D→Option D) (t u:D):k2b g t Qe (u,en)=W (g t u) (e7 en Qe):=rfl
theorem DX:W (tV f en) Qb=W (f en) (kTV Qb):=aF _ _ _
theorem DW (x:Bool):kTV Qb (.bool x,en)=Qb (x,en):=aE _ _
theorem DU (f g:MT):W (cV f g en) Qb=W (f en) (ss g Qb):=aF _ _ _
theorem DT (g:MT):ss g Qb (true,en)=W (g en) Qb:=rfl
theorem DS (g:MT):ss g Qb (false,en)=Qb (false,en):=aE _ _
theorem DR (f g:MT):W (bOr f g en) Qb=W (f en) (vB g Qb):=aF _ _ _
theorem DQ (g:MT):vB g Qb (true,en)=Qb (true,en):=aE _ _
theorem DP (g:MT):vB g Qb (false,en)=W (g en) Qb:=rfl
theorem DN (f:MT):W (dI f en) Qb=W (f en) (Bg Qb):=bz _ _ _
theorem DM (x:Bool):Bg Qb (x,en)=Qb (!x,en):=rfl
theorem DL:W (cY en) Qb=Qb (true,en):=aE _ _
theorem DK:W (aj en) Qa=Qa ([],en):=aE _ _
theorem DJ (r:MA):W (ae f r en) Qa=W (f en) (kAC r Qa):=(aF _ _ _).trans (congrArg _ (funext fun z=>bz _ _ _))
theorem DI (r:MA) (t:D):kAC r Qa (t,en)=W (r en) (vD t Qa):=rfl
theorem DH (t:D) (as:List (D ⊕ Nat)):vD t Qa (as,en)=Qa (.inl t :: as,en):=rfl
theorem DG (r:MA):W (bb i r en) Qa=W (gv en i) (kAS i r en Qa):=(aF _ _ _).trans (congrArg _ (funext fun z=>bz _ _ _))
theorem DF (r:MA) (t:D):kAS i r en Qa t=W (r en) (vC i Qa):=rfl
theorem DE (as:List (D ⊕ Nat)):vC i Qa (as,en)=Qa (.inr i :: as,en):=rfl
theorem DD:bC []=some []:=rfl
theorem DC (t:D) (r:List (D ⊕ Nat)):W (bC (.inl t :: r)) Qt=W (bC r) (lV t Qt):=bz _ _ _
theorem DB (t:D):lV t Qt ts=Qt (t :: ts):=rfl
theorem DA:bZ [] en=some []:=rfl
theorem Dz (t:D) (r:List (D ⊕ Nat)):W (bZ (.inl t :: r) en) Qt=W (bZ r en) (lV t Qt):=bz _ _ _
theorem Dy (r:List (D ⊕ Nat)):W (bZ (.inr i :: r) en) Qt=W (gv en i) (FZ r en Qt):=(aF _ _ _).trans (congrArg _ (funext fun z=>bz _ _ _))
theorem Dx (t:D) (r:List (D ⊕ Nat)):FZ r en Qt t=W (bZ r en) (lV t Qt):=rfl
theorem Dw (r:List (D ⊕ Nat)) (o:Option D) (outs:En):wb (.inr i :: r) (o :: outs) en=wb r outs (en.set i o):=rfl
theorem Dv (t:D) (r:List (D ⊕ Nat)) (o:Option D) (outs:En):wb (.inl t :: r) (o :: outs) en=wb r outs en:=rfl
theorem Du (outs:En):wb [] outs en=en:=rfl
theorem Dt (g:List D→Option D):W (eN g fa en) Qe=W (fa en) (kN g Qe):=(aF _ _ _).trans (congrArg _ (funext fun z=>(aF _ _ _).trans (congrArg _ (funext fun y=>bz _ _ _))))
theorem Ds (g:List D→Option D) (as:List (D ⊕ Nat)):kN g Qe (as,en)=W (bC as) (kN2 g en Qe):=rfl
theorem Dr (g:List D→Option D):kN2 g en Qe ts=W (g ts) (e7 en Qe):=rfl
theorem Dq:W (a9 fa en) Qe=W (fa en) (FV Qe):=(aF _ _ _).trans (congrArg _ (funext fun z=>aF _ _ _))
theorem Dp (as:List (D ⊕ Nat)):FV Qe (as,en)=W (bC as) (sm en Qe):=rfl
theorem Do:sm en Qe ts=(ts.length≤sizeLine∧Qe (.list ts,en)):=gQ _ _ _
theorem Dm:W (a7 fa en) Qe=W (fa en) (FR Qe):=(aF _ _ _).trans (congrArg _ (funext fun z=>aF _ _ _))
theorem Dl (as:List (D ⊕ Nat)):FR Qe (as,en)=W (bC as) (sf en Qe):=rfl
theorem Dk:sf en Qe ts=(ts.length≤sizeLine∧Qe (.tuple ts,en)):=gQ _ _ _
theorem Dj:(([]:List D).length≤sizeLine)=True:=eq_true (Nat.le_trans (by show 0≤100; decide) cB)
theorem Di (x0:D):(([x0]:List D).length≤sizeLine)=True:=eq_true (Nat.le_trans (by show 1≤100; decide) cB)
theorem Dh (x0 x1:D):(([x0,x1]:List D).length≤sizeLine)=True:=eq_true (Nat.le_trans (by show 2≤100; decide) cB)
theorem Dg (x0 x1 x2:D):(([x0,x1,x2]:List D).length≤sizeLine)=True:=eq_true (Nat.le_trans (by show 3≤100; decide) cB)
theorem De (x0 x1 x2 x3:D):(([x0,x1,x2,x3]:List D).length≤sizeLine)=True:=eq_true (Nat.le_trans (by show 4≤100; decide) cB)
theorem Dd (x0 x1 x2 x3 x4:D):(([x0,x1,x2,x3,x4]:List D).length≤sizeLine)=True:=eq_true (Nat.le_trans (by show 5≤100; decide) cB)
theorem Dc (x0 x1 x2 x3 x4 x5:D):(([x0,x1,x2,x3,x4,x5]:List D).length≤sizeLine)=True:=eq_true (Nat.le_trans (by show 6≤100; decide) cB)
theorem Db (x0 x1 x2 x3 x4 x5 x6:D):(([x0,x1,x2,x3,x4,x5,x6]:List D).length≤sizeLine)=True:=eq_true (Nat.le_trans (by show 7≤100; decide) cB)
theorem Da (F:List D→Option (D × En)):W (ar F fa en) Qe=W (fa en) (Bf F Qe):=(aF _ _ _).trans (congrArg _ (funext fun z=>(aF _ _ _).trans (congrArg _ (funext fun y=>bz _ _ _))))
theorem C9 (F:List D→Option (D × En)) (as:List (D ⊕ Nat)):Bf F Qe (as,en)=W (bZ as en) (oV F as en Qe):=rfl
theorem AV (F:List D→Option (D × En)) (as:List (D ⊕ Nat)):oV F as en Qe ts=W (F ts) (oU as en Qe):=rfl
theorem AU (as:List (D ⊕ Nat)) (t:D) (outs:En):oU as en Qe (t,outs)=Qe (t,wb as outs en):=rfl
theorem AT (q:Bool) (fi:MI) (js:List (Option Nat)):W (eLC q fi g c f js en) Qe=W (fi en) (kLC q g c f js Qe):=(aF _ _ _).trans (congrArg _ (funext fun z=>bz _ _ _))
theorem AR (q:Bool) (js:List (Option Nat)):kLC q g c f js Qe (ts,en)=W (lcF g c f ts [] (cX js en)) (sr q js en Qe):=rfl
theorem AQ (js:List (Option Nat)) (us:List D) (ex:En):sr true js en Qe (us,ex)=Qe (.list us,en):=rfl
theorem AO (js:List (Option Nat)) (us:List D) (ex:En):sr false js en Qe (us,ex)=Qe (.list us,wbB js ex en):=rfl
theorem AN:cX [] en=[]:=rfl
theorem AM (j:Nat) (js:List (Option Nat)):cX (some j :: js) en=gv en j :: cX js en:=rfl
theorem AL (js:List (Option Nat)):cX (none :: js) en=none :: cX js en:=rfl
theorem AK (j:Nat) (js:List (Option Nat)) (o:Option D) (ex:En):wbB (some j :: js) (o :: ex) en=wbB js ex (en.set j o):=rfl
theorem AJ (js:List (Option Nat)) (o:Option D) (ex:En):wbB (none :: js) (o :: ex) en=wbB js ex en:=rfl
theorem AI (ex:En):wbB [] ex en=en:=rfl
theorem AH:W (lcF g c f [] acc en) Ql=Ql (acc,en):=aE _ _
theorem AG:W (br f en) Ql=W (f en) (sv Ql):=aF _ _ _
theorem AF:sv Ql (.list ts,en)=Ql (ts,en):=aE _ _
theorem AE:sv Ql (.tuple ts,en)=Ql (ts,en):=aE _ _
theorem AD (z:Str):sv Ql (.str z,en)=Ql (lJ z,en):=aE _ _
theorem AC:W (cb fa en) Ql=W (fa en) (kR1 Ql):=aF _ _ _
theorem AB (j:Int):kR1 Ql ([.inl (.int j)],en)=((-(2 ^ 62)≤j∧j < 2 ^ 62)∧Ql (jQ 0 j.toNat,en)):=gQ _ _ _
theorem AA:W (cE i f en) Qe=W (gv en i) (Bc i f en Qe):=(aF _ _ _).trans (congrArg _ (funext fun z=>aF _ _ _))
theorem Az (x:D):Bc i f en Qe x=W (f en) (lQ i Qe):=rfl
theorem Ay (n:Int):lQ i Qe (.int n,en)=W (gv en i) (tZ n en Qe):=by unfold lQ gv; cases h:(en[i]?).join with | none=>simp only [h,bg] | some x=>simp only [h,aE]; cases x <;> first | rfl | exact (aE _ _).symm | (rw [aE]; rfl) | (rw [aE]; exact bg _)
theorem Ax (n:Int):tZ n en Qe (.list ts)=W (atI ts n) (e7 en Qe):=bz _ _ _
theorem Aw:W (dm i f en) Qe=W (gv en i) (F7 i f en Qe):=by unfold gv dm; cases (en[i]?).join with | none=>rw [bg,bg] | some x=>cases x <;> first | rfl | exact (aE _ _).symm | (rw [aE]; rfl) | (rw [aE]; exact bg _)
theorem Av:F7 i f en Qe (.list ts)=W (f en) (su i Qe):=aF _ _ _
theorem Au (t:D):su i Qe (t,en)=W (gv en i) (Bi i t en Qe):=by unfold su gv; cases h:(en[i]?).join with | none=>simp only [h,bg] | some x=>simp only [h,aE]; cases x <;> first | rfl | exact (aE _ _).symm | (rw [aE]; rfl) | (rw [aE]; exact bg _)
theorem At (t:D):Bi i t en Qe (.list ts)=(ts.length < sizeLine∧Qe (.none,en.set i (some (.list (ts++[t]))))):=gQ _ _ _
theorem As (Q:Option Int × En→Prop):W (dw en) Q=Q (none,en):=aE _ _
theorem Ar (Q:Option Int × En→Prop):W (bX f en) Q=W (f en) (kOS Q):=aF _ _ _
theorem Aq (n:Int) (Q:Option Int × En→Prop):kOS Q (.int n,en)=Q (some n,en):=aE _ _
theorem Ap (g:D→Option Int→Option Int→Option D) (lo hi:MO):W (eSl g f lo hi en) Qe=W (f en) (kSl g lo hi Qe):=(aF _ _ _).trans (congrArg _ (funext fun z=>(aF _ _ _).trans (congrArg _ (funext fun y=>(aF _ _ _).trans (congrArg _ (funext fun y=>bz _ _ _))))))
theorem Ao (g:D→Option Int→Option Int→Option D) (lo hi:MO) (t:D):kSl g lo hi Qe (t,en)=W (lo en) (vy g t hi Qe):=rfl
theorem An (g:D→Option Int→Option Int→Option D) (hi:MO) (t:D) (a:Option Int):vy g t hi Qe (a,en)=W (hi en) (vx g t a Qe):=rfl
theorem Am (g:D→Option Int→Option Int→Option D) (t:D) (a b:Option Int):vx g t a Qe (b,en)=W (g t a b) (e7 en Qe):=rfl
theorem Al (g:Str→List D→Option D):W (eM g f fa en) Qe=W (f en) (kM g fa Qe):=aF _ _ _
theorem Ak (g:Str→List D→Option D) (z:Str):kM g fa Qe (.str z,en)=W (fa en) (kM1 g z Qe):=(aF _ _ _).trans (congrArg _ (funext fun z=>(aF _ _ _).trans (congrArg _ (funext fun y=>bz _ _ _))))
theorem Aj (g:Str→List D→Option D) (z:Str) (as:List (D ⊕ Nat)):kM1 g z Qe (as,en)=W (bC as) (kM2 g z en Qe):=rfl
theorem Ai (g:Str→List D→Option D) (z:Str):kM2 g z en Qe ts=W (g z ts) (e7 en Qe):=rfl
theorem Ah (J:En→Prop):kIt J Qs (.nx en)=J en:=rfl
theorem Ag (J:En→Prop):kIt J Qs (.ct en)=J en:=rfl
theorem Af (J:En→Prop) (t:D):kIt J Qs (.rt t en)=Qs (.rt t en):=rfl
theorem Ae (b:MS) (J:En→Prop):kFg b J Qs en=W (b en) (kIt J Qs):=rfl
theorem Ad (b:MS) (J:En→Prop):kWh b J Qs (true,en)=W (b en) (kIt J Qs):=rfl
theorem Ac (b:MS) (J:En→Prop):kWh b J Qs (false,en)=Qs (.nx en):=rfl
theorem Ab (us:List D) (J:List D→En→Prop):FW c f us J en=W (c en) (so f us J):=rfl
theorem Aa (us:List D) (J:List D→En→Prop):so f us J (true,en)=W (f en) (vA us J):=rfl
theorem z9 (us:List D) (J:List D→En→Prop):so f us J (false,en)=J us en:=rfl
theorem zZ (us:List D) (J:List D→En→Prop) (t:D):vA us J (t,en)=J (us++[t]) en:=rfl
theorem zY (n:Nat) (dps:List Nat) (b:MS):W (fnF n dps b ts) Qe=W (b (ts.map some++List.replicate n none)) (kFn dps Qe):=aF _ _ _
theorem zX (dps:List Nat) (t:D):kFn dps Qe (.rt t en)=Qe (t,msk dps en):=aE _ _
theorem zW (dps:List Nat):kFn dps Qe (.nx en)=Qe (.none,msk dps en):=aE _ _
theorem zV (d:Nat) (ds:List Nat) (o:Option D):msk ((d+1) :: ds) (o :: en)=o :: msk ds en:=rfl
theorem zU (ds:List Nat) (o:Option D):msk (0 :: ds) (o :: en)=none :: msk ds en:=rfl
theorem zT:msk [] en=[]:=rfl
theorem zS (t:D):List.map some (t :: ts)=some t :: List.map some ts:=rfl
theorem zR:List.map (some:D→Option D) []=[]:=rfl
theorem zQ (a:Option D) (l m:En):(a :: l)++m=a :: (l++m):=rfl
theorem zP (m:En):([]:En)++m=m:=rfl
theorem zO (a:Option D):List.replicate 0 a=[]:=rfl
theorem zN (a:Option D) (n:Nat):List.replicate (n+1) a=a :: List.replicate n a:=rfl
theorem zM (a b:Int):bu (.int a) (.int b)=some (.int (a+b)):=rfl
theorem zL (a b:Str):W (bu (.str a) (.str b)) Qd=(a.length+b.length≤sizeLine∧Qd (.str (a++b))):=gQ _ _ _
theorem zK (a b:Int):i4 (.int a) (.int b)=some (.int (a - b)):=rfl
theorem zJ (a b:Int):W (cK (.int a) (.int b)) Qd=(CMul a b∧Qd (.int (a * b))):=gQ _ _ _
theorem zI (a b:Int):W (gg (.int a) (.int b)) Qd=(jw a b∧Qd (.int (a / b))):=gQ _ _ _
theorem zH (a b:Int):W (bY (.int a) (.int b)) Qd=(0 < b∧Qd (.int (a % b))):=gQ _ _ _
theorem zG (a b:Int):W (mM (.int a) (.int b)) Qd=(iA a b∧Qd (.int (a ^ b.toNat))):=gQ _ _ _
theorem zF (a b:Int):ltI (.int a) (.int b)=some (.bool (decide (a < b))):=rfl
theorem zE (a b:Int):leI (.int a) (.int b)=some (.bool (decide (a≤b))):=rfl
theorem zC (a b:Int):gtI (.int a) (.int b)=some (.bool (decide (b < a))):=rfl
theorem zB (a b:Int):geI (.int a) (.int b)=some (.bool (decide (b≤a))):=rfl
theorem zA (a b:Int):eqD (.int a) (.int b)=some (.bool (decide (a=b))):=(GO a b).trans (congrArg (fun q=>some (PyData.bool q)) (rg a b))
theorem zz (a b:Int):neD (.int a) (.int b)=some (.bool (!decide (a=b))):=(FF a b).trans (congrArg (fun q=>some (PyData.bool (!q))) (rg a b))
theorem zy:gE .none .none=some (.bool false):=rfl
theorem zx (x:Int):gE (.int x) .none=some (.bool true):=rfl
theorem zw (x:Bool):gE (.bool x) .none=some (.bool true):=rfl
theorem zv (x:Str):gE (.str x) .none=some (.bool true):=rfl
theorem zu (x:List D):gE (.list x) .none=some (.bool true):=rfl
theorem zt (x:List D):gE (.tuple x) .none=some (.bool true):=rfl
theorem zr (x:List (D × D)):gE (.dict x) .none=some (.bool true):=rfl
theorem zq:aG "int" (.none)=some (.bool false):=(if_neg (fun z=>nomatch z)).trans (congrArg (fun b=>some (PyData.bool b)) (show aH "NoneType" "int"=false by decide))
theorem zp:aG "bool" (.none)=some (.bool false):=(if_neg (fun z=>nomatch z)).trans (congrArg (fun b=>some (PyData.bool b)) (show aH "NoneType" "bool"=false by decide))
theorem zo:aG "str" (.none)=some (.bool false):=(if_neg (fun z=>nomatch z)).trans (congrArg (fun b=>some (PyData.bool b)) (show aH "NoneType" "str"=false by decide))
theorem zn:aG "list" (.none)=some (.bool false):=(if_neg (fun z=>nomatch z)).trans (congrArg (fun b=>some (PyData.bool b)) (show aH "NoneType" "list"=false by decide))
theorem zm:aG "tuple" (.none)=some (.bool false):=(if_neg (fun z=>nomatch z)).trans (congrArg (fun b=>some (PyData.bool b)) (show aH "NoneType" "tuple"=false by decide))
theorem zl:aG "dict" (.none)=some (.bool false):=(if_neg (fun z=>nomatch z)).trans (congrArg (fun b=>some (PyData.bool b)) (show aH "NoneType" "dict"=false by decide))
theorem zh (x:Int):aG "int" (.int x)=some (.bool true):=(if_neg (fun z=>nomatch z)).trans (congrArg (fun b=>some (PyData.bool b)) (show aH "int" "int"=true by decide))
theorem zg (x:Int):aG "bool" (.int x)=some (.bool false):=(if_neg (fun z=>nomatch z)).trans (congrArg (fun b=>some (PyData.bool b)) (show aH "int" "bool"=false by decide))
theorem zd (x:Int):aG "str" (.int x)=some (.bool false):=(if_neg (fun z=>nomatch z)).trans (congrArg (fun b=>some (PyData.bool b)) (show aH "int" "str"=false by decide))
theorem zc (x:Int):aG "list" (.int x)=some (.bool false):=(if_neg (fun z=>nomatch z)).trans (congrArg (fun b=>some (PyData.bool b)) (show aH "int" "list"=false by decide))
theorem zb (x:Int):aG "tuple" (.int x)=some (.bool false):=(if_neg (fun z=>nomatch z)).trans (congrArg (fun b=>some (PyData.bool b)) (show aH "int" "tuple"=false by decide))
theorem y9 (x:Int):aG "dict" (.int x)=some (.bool false):=(if_neg (fun z=>nomatch z)).trans (congrArg (fun b=>some (PyData.bool b)) (show aH "int" "dict"=false by decide))
theorem y8 (x:Bool):aG "int" (.bool x)=some (.bool true):=(if_neg (fun z=>nomatch z)).trans (congrArg (fun b=>some (PyData.bool b)) (show aH "bool" "int"=true by decide))
theorem y6 (x:Bool):aG "bool" (.bool x)=some (.bool true):=(if_neg (fun z=>nomatch z)).trans (congrArg (fun b=>some (PyData.bool b)) (show aH "bool" "bool"=true by decide))
theorem y4 (x:Bool):aG "str" (.bool x)=some (.bool false):=(if_neg (fun z=>nomatch z)).trans (congrArg (fun b=>some (PyData.bool b)) (show aH "bool" "str"=false by decide))
theorem y3 (x:Bool):aG "list" (.bool x)=some (.bool false):=(if_neg (fun z=>nomatch z)).trans (congrArg (fun b=>some (PyData.bool b)) (show aH "bool" "list"=false by decide))
theorem y1 (x:Bool):aG "tuple" (.bool x)=some (.bool false):=(if_neg (fun z=>nomatch z)).trans (congrArg (fun b=>some (PyData.bool b)) (show aH "bool" "tuple"=false by decide))
theorem yZ (x:Bool):aG "dict" (.bool x)=some (.bool false):=(if_neg (fun z=>nomatch z)).trans (congrArg (fun b=>some (PyData.bool b)) (show aH "bool" "dict"=false by decide))
theorem yY (x:Str):aG "int" (.str x)=some (.bool false):=(if_neg (fun z=>nomatch z)).trans (congrArg (fun b=>some (PyData.bool b)) (show aH "str" "int"=false by decide))
theorem yX (x:Str):aG "bool" (.str x)=some (.bool false):=(if_neg (fun z=>nomatch z)).trans (congrArg (fun b=>some (PyData.bool b)) (show aH "str" "bool"=false by decide))
theorem yW (x:Str):aG "str" (.str x)=some (.bool true):=(if_neg (fun z=>nomatch z)).trans (congrArg (fun b=>some (PyData.bool b)) (show aH "str" "str"=true by decide))
theorem yV (x:Str):aG "list" (.str x)=some (.bool false):=(if_neg (fun z=>nomatch z)).trans (congrArg (fun b=>some (PyData.bool b)) (show aH "str" "list"=false by decide))
theorem yU (x:Str):aG "tuple" (.str x)=some (.bool false):=(if_neg (fun z=>nomatch z)).trans (congrArg (fun b=>some (PyData.bool b)) (show aH "str" "tuple"=false by decide))
theorem yT (x:Str):aG "dict" (.str x)=some (.bool false):=(if_neg (fun z=>nomatch z)).trans (congrArg (fun b=>some (PyData.bool b)) (show aH "str" "dict"=false by decide))
theorem yS (x:List D):aG "int" (.list x)=some (.bool false):=(if_neg (fun z=>nomatch z)).trans (congrArg (fun b=>some (PyData.bool b)) (show aH "list" "int"=false by decide))
theorem yR (x:List D):aG "bool" (.list x)=some (.bool false):=(if_neg (fun z=>nomatch z)).trans (congrArg (fun b=>some (PyData.bool b)) (show aH "list" "bool"=false by decide))
theorem yQ (x:List D):aG "str" (.list x)=some (.bool false):=(if_neg (fun z=>nomatch z)).trans (congrArg (fun b=>some (PyData.bool b)) (show aH "list" "str"=false by decide))
theorem yP (x:List D):aG "list" (.list x)=some (.bool true):=(if_neg (fun z=>nomatch z)).trans (congrArg (fun b=>some (PyData.bool b)) (show aH "list" "list"=true by decide))
theorem yO (x:List D):aG "tuple" (.list x)=some (.bool false):=(if_neg (fun z=>nomatch z)).trans (congrArg (fun b=>some (PyData.bool b)) (show aH "list" "tuple"=false by decide))
theorem yN (x:List D):aG "dict" (.list x)=some (.bool false):=(if_neg (fun z=>nomatch z)).trans (congrArg (fun b=>some (PyData.bool b)) (show aH "list" "dict"=false by decide))
theorem yM (x:List D):aG "int" (.tuple x)=some (.bool false):=(if_neg (fun z=>nomatch z)).trans (congrArg (fun b=>some (PyData.bool b)) (show aH "tuple" "int"=false by decide))
theorem yL (x:List D):aG "bool" (.tuple x)=some (.bool false):=(if_neg (fun z=>nomatch z)).trans (congrArg (fun b=>some (PyData.bool b)) (show aH "tuple" "bool"=false by decide))
theorem yK (x:List D):aG "str" (.tuple x)=some (.bool false):=(if_neg (fun z=>nomatch z)).trans (congrArg (fun b=>some (PyData.bool b)) (show aH "tuple" "str"=false by decide))
theorem yJ (x:List D):aG "list" (.tuple x)=some (.bool false):=(if_neg (fun z=>nomatch z)).trans (congrArg (fun b=>some (PyData.bool b)) (show aH "tuple" "list"=false by decide))
theorem yI (x:List D):aG "tuple" (.tuple x)=some (.bool true):=(if_neg (fun z=>nomatch z)).trans (congrArg (fun b=>some (PyData.bool b)) (show aH "tuple" "tuple"=true by decide))
theorem yH (x:List D):aG "dict" (.tuple x)=some (.bool false):=(if_neg (fun z=>nomatch z)).trans (congrArg (fun b=>some (PyData.bool b)) (show aH "tuple" "dict"=false by decide))
theorem yG:aG "int" (.dict [])=some (.bool false):=(if_neg (fun z=>nomatch z)).trans (congrArg (fun b=>some (PyData.bool b)) (show aH "dict" "int"=false by decide))
theorem yF (k:Str) (x:D) (r:List (D × D)):aG "int" (.dict ((.str k,x) :: r))=some (.bool false):=(if_neg (fun z=>nomatch z)).trans (congrArg (fun b=>some (PyData.bool b)) (show aH "dict" "int"=false by decide))
theorem yE (k:Int) (x:D) (r:List (D × D)):aG "int" (.dict ((.int k,x) :: r))=some (.bool false):=(if_neg (fun z=>nomatch z)).trans (congrArg (fun b=>some (PyData.bool b)) (show aH "dict" "int"=false by decide))
theorem yD (k:List D) (x:D) (r:List (D × D)):aG "int" (.dict ((.tuple k,x) :: r))=some (.bool false):=(if_neg (fun z=>nomatch z)).trans (congrArg (fun b=>some (PyData.bool b)) (show aH "dict" "int"=false by decide))
theorem yC:aG "bool" (.dict [])=some (.bool false):=(if_neg (fun z=>nomatch z)).trans (congrArg (fun b=>some (PyData.bool b)) (show aH "dict" "bool"=false by decide))
theorem yB (k:Str) (x:D) (r:List (D × D)):aG "bool" (.dict ((.str k,x) :: r))=some (.bool false):=(if_neg (fun z=>nomatch z)).trans (congrArg (fun b=>some (PyData.bool b)) (show aH "dict" "bool"=false by decide))
theorem yA (k:Int) (x:D) (r:List (D × D)):aG "bool" (.dict ((.int k,x) :: r))=some (.bool false):=(if_neg (fun z=>nomatch z)).trans (congrArg (fun b=>some (PyData.bool b)) (show aH "dict" "bool"=false by decide))
theorem yz (k:List D) (x:D) (r:List (D × D)):aG "bool" (.dict ((.tuple k,x) :: r))=some (.bool false):=(if_neg (fun z=>nomatch z)).trans (congrArg (fun b=>some (PyData.bool b)) (show aH "dict" "bool"=false by decide))
theorem yy:aG "str" (.dict [])=some (.bool false):=(if_neg (fun z=>nomatch z)).trans (congrArg (fun b=>some (PyData.bool b)) (show aH "dict" "str"=false by decide))
theorem yx (k:Str) (x:D) (r:List (D × D)):aG "str" (.dict ((.str k,x) :: r))=some (.bool false):=(if_neg (fun z=>nomatch z)).trans (congrArg (fun b=>some (PyData.bool b)) (show aH "dict" "str"=false by decide))
theorem yw (k:Int) (x:D) (r:List (D × D)):aG "str" (.dict ((.int k,x) :: r))=some (.bool false):=(if_neg (fun z=>nomatch z)).trans (congrArg (fun b=>some (PyData.bool b)) (show aH "dict" "str"=false by decide))
theorem yv (k:List D) (x:D) (r:List (D × D)):aG "str" (.dict ((.tuple k,x) :: r))=some (.bool false):=(if_neg (fun z=>nomatch z)).trans (congrArg (fun b=>some (PyData.bool b)) (show aH "dict" "str"=false by decide))
theorem yu:aG "list" (.dict [])=some (.bool false):=(if_neg (fun z=>nomatch z)).trans (congrArg (fun b=>some (PyData.bool b)) (show aH "dict" "list"=false by decide))
theorem yt (k:Str) (x:D) (r:List (D × D)):aG "list" (.dict ((.str k,x) :: r))=some (.bool false):=(if_neg (fun z=>nomatch z)).trans (congrArg (fun b=>some (PyData.bool b)) (show aH "dict" "list"=false by decide))
theorem yr (k:Int) (x:D) (r:List (D × D)):aG "list" (.dict ((.int k,x) :: r))=some (.bool false):=(if_neg (fun z=>nomatch z)).trans (congrArg (fun b=>some (PyData.bool b)) (show aH "dict" "list"=false by decide))
theorem yq (k:List D) (x:D) (r:List (D × D)):aG "list" (.dict ((.tuple k,x) :: r))=some (.bool false):=(if_neg (fun z=>nomatch z)).trans (congrArg (fun b=>some (PyData.bool b)) (show aH "dict" "list"=false by decide))
theorem yo:aG "tuple" (.dict [])=some (.bool false):=(if_neg (fun z=>nomatch z)).trans (congrArg (fun b=>some (PyData.bool b)) (show aH "dict" "tuple"=false by decide))
theorem yn (k:Str) (x:D) (r:List (D × D)):aG "tuple" (.dict ((.str k,x) :: r))=some (.bool false):=(if_neg (fun z=>nomatch z)).trans (congrArg (fun b=>some (PyData.bool b)) (show aH "dict" "tuple"=false by decide))
theorem ym (k:Int) (x:D) (r:List (D × D)):aG "tuple" (.dict ((.int k,x) :: r))=some (.bool false):=(if_neg (fun z=>nomatch z)).trans (congrArg (fun b=>some (PyData.bool b)) (show aH "dict" "tuple"=false by decide))
theorem yk (k:List D) (x:D) (r:List (D × D)):aG "tuple" (.dict ((.tuple k,x) :: r))=some (.bool false):=(if_neg (fun z=>nomatch z)).trans (congrArg (fun b=>some (PyData.bool b)) (show aH "dict" "tuple"=false by decide))
theorem yj:aG "dict" (.dict [])=some (.bool true):=(if_neg (fun z=>nomatch z)).trans (congrArg (fun b=>some (PyData.bool b)) (show aH "dict" "dict"=true by decide))
theorem yi (k:Str) (x:D) (r:List (D × D)):aG "dict" (.dict ((.str k,x) :: r))=some (.bool true):=(if_neg (fun z=>nomatch z)).trans (congrArg (fun b=>some (PyData.bool b)) (show aH "dict" "dict"=true by decide))
theorem yh (k:Int) (x:D) (r:List (D × D)):aG "dict" (.dict ((.int k,x) :: r))=some (.bool true):=(if_neg (fun z=>nomatch z)).trans (congrArg (fun b=>some (PyData.bool b)) (show aH "dict" "dict"=true by decide))
theorem yg (k:List D) (x:D) (r:List (D × D)):aG "dict" (.dict ((.tuple k,x) :: r))=some (.bool true):=(if_neg (fun z=>nomatch z)).trans (congrArg (fun b=>some (PyData.bool b)) (show aH "dict" "dict"=true by decide))
theorem yf:((([]:List D).length:Nat):Int)=0:=rfl
theorem ye (x0:D):((([x0]:List D).length:Nat):Int)=1:=rfl
theorem yd (x0 x1:D):((([x0,x1]:List D).length:Nat):Int)=2:=rfl
theorem yc (x0 x1 x2:D):((([x0,x1,x2]:List D).length:Nat):Int)=3:=rfl
theorem yb (x0 x1 x2 x3:D):((([x0,x1,x2,x3]:List D).length:Nat):Int)=4:=rfl
theorem ya (x0 x1 x2 x3 x4:D):((([x0,x1,x2,x3,x4]:List D).length:Nat):Int)=5:=rfl
theorem xZ (x0 x1 x2 x3 x4 x5:D):((([x0,x1,x2,x3,x4,x5]:List D).length:Nat):Int)=6:=rfl
theorem xY (x0 x1 x2 x3 x4 x5 x6:D):((([x0,x1,x2,x3,x4,x5,x6]:List D).length:Nat):Int)=7:=rfl
theorem xX (α β:Type) (f:α→β) (l:List α):(l.map f).length=l.length:=List.length_map f
theorem xW:bQ [.list ts]=some (.int ts.length):=rfl
theorem xV:bQ [.tuple ts]=some (.int ts.length):=rfl
theorem xU (z:Str):W (bQ [.str z]) Qd=(z.length≤sizeLine∧Qd (.int z.length)):=mx _ _ _
theorem xT (a:Int):sO [.int a]=some (.int (if a < 0 then -a else a)):=rfl
theorem xS (a:Int):lw (.int a)=some (.int (-a)):=rfl
theorem xR:Ba [.list ts]=some (.list ts):=rfl
theorem xQ:dU [.list ts]=some (.tuple ts):=rfl
theorem xP (n:Int):ixA (.list ts) (.int n)=atI ts n:=rfl
theorem xO:Ba [.tuple ts]=some (.list ts):=rfl
theorem xN:dU [.tuple ts]=some (.tuple ts):=rfl
theorem xM (n:Int):ixA (.tuple ts) (.int n)=atI ts n:=rfl
theorem xL (ts us:List D):W (pR (.list ts) (.list us)) Qd=(ts.length+us.length≤sizeLine∧Qd (.list (ts++us))):=gQ _ _ _
theorem xK (ts us:List D):W (eR (.tuple ts) (.tuple us)) Qd=(ts.length+us.length≤sizeLine∧Qd (.tuple (ts++us))):=gQ _ _ _
theorem xJ (lo hi:Option Int):ib (.list ts) lo hi=some (.list (bt ts lo hi)):=rfl
theorem xI:atI ts 0=ts[0]?:=aY ts _
theorem xH:atI ts 1=ts[1]?:=aY ts _
theorem xG:atI ts 2=ts[2]?:=aY ts _
theorem xF:atI ts 3=ts[3]?:=aY ts _
theorem xE:atI ts 4=ts[4]?:=aY ts _
theorem xD:atI ts 5=ts[5]?:=aY ts _
theorem xC:atI ts 6=ts[6]?:=aY ts _
theorem xB:atI ts 7=ts[7]?:=aY ts _
theorem xA:atI ts 8=ts[8]?:=aY ts _
theorem xz:atI ts 9=ts[9]?:=aY ts _
theorem xy:atI ts 10=ts[10]?:=aY ts _
theorem xx:atI ts 11=ts[11]?:=aY ts _
theorem xw:atI ts 12=ts[12]?:=aY ts _
theorem xv:atI ts 13=ts[13]?:=aY ts _
theorem xu:atI ts 14=ts[14]?:=aY ts _
theorem xt:atI ts 15=ts[15]?:=aY ts _
theorem xr:atI ts 16=ts[16]?:=aY ts _
theorem xq:atI ts 17=ts[17]?:=aY ts _
theorem xo:atI ts 18=ts[18]?:=aY ts _
theorem xn:atI ts 19=ts[19]?:=aY ts _
theorem xm:atI ts 20=ts[20]?:=aY ts _
theorem xl (t:D):(t :: ts)[0]?=some t:=rfl
theorem xk (t:D):(t :: ts)[i+1]?=ts[i]?:=List.getElem?_cons_succ
theorem xj:W (uH i f en) Qe=W (gv en i) (FU i f en Qe):=by unfold gv uH; cases (en[i]?).join with | none=>rw [bg,bg] | some x=>cases x <;> first | rfl | exact (aE _ _).symm | (rw [aE]; rfl) | (rw [aE]; exact bg _)
theorem xi:FU i f en Qe (.list ts)=W (f en) (sk i Qe):=aF _ _ _
theorem xh (n:Int):sk i Qe (.int n,en)=W (gv en i) (sj i n en Qe):=by unfold sk gv; cases h:(en[i]?).join with | none=>simp only [h,bg] | some x=>simp only [h,aE]; cases x <;> first | rfl | exact (aE _ _).symm | (rw [aE]; rfl) | (rw [aE]; exact bg _)
theorem xg (n:Int):sj i n en Qe (.list ts)=((-(2 ^ 63)≤n∧n < 2 ^ 63)∧W (Fs ts n) (Bd i en Qe)):=by unfold sj Fs; dsimp only; rw [sP]; congr 1; rw [aF,aF]; congr 1; funext k; rw [bz,bz]; rfl
theorem xf (t:D) (us:List D):Bd i en Qe (t,us)=Qe (t,en.set i (some (.list us))):=rfl
theorem xc (z:Str) (n:Int):W (ixT (.str z) (.int n)) Qd=(z.length≤sizeLine∧W (atI (li z) n) (kS1 Qd)):=by show W (if _ then _ else _) _=_; rw [sP,bz]; rfl
theorem xb (c:Nat):kS1 Qd c=Qd (.str (mk1 c)):=rfl
theorem xa (z:Str) (lo hi:Option Int):W (pI (.str z) lo hi) Qd=(z.length≤sizeLine∧Qd (.str ⟨(dZ z.cps.toList lo hi).toArray⟩)):=mx _ _ _
theorem w8 (lo hi:Option Int):W (pH (.tuple ts) lo hi) Qd=(¬ (HT.sIx ts.length 0 lo=0∧HT.sIx ts.length ts.length hi=ts.length)∧Qd (.tuple (bt ts lo hi))):=mx _ _ _
theorem w6 (z y:Str):iF z [.str y]=some (.bool (Txt.startswith z y)):=rfl
theorem wZ:kz (.tuple ts) (.int (-1))=some (.tuple ts.reverse):=rfl
theorem wY (a b:Bool):eqD (.bool a) (.bool b)=some (.bool (a == b)):=CK a b
theorem wX (a b:Bool):neD (.bool a) (.bool b)=some (.bool (!(a == b))):=BW a b
theorem wW (a b:Str):eqD (.str a) (.str b)=some (.bool (decide (a=b))):=GM a b
theorem wV (a b:Str):neD (.str a) (.str b)=some (.bool (!decide (a=b))):=FD a b
theorem wU:neD (.list []) (.list [])=some (.bool false):=FE
theorem wT:eqD (.list []) (.list [])=some (.bool true):=GN
theorem wS (a:Bool):(a == a)=true:=beq_self_eq_true a
theorem wR:(true == false)=false:=rfl
theorem wQ:(false == true)=false:=rfl
theorem wP (t:D) (ts acc:List D):W (lcF g c f (t :: ts) acc en) Ql=W (g t en) (kL1 g c f ts acc Ql):=by unfold lcF; rw [aF]; congr 1; funext z; rw [aF]; rfl
theorem wO (ts acc:List D):kL1 g c f ts acc Ql en=W (c en) (kL2 g c f ts acc Ql):=rfl
theorem wN (ts acc:List D):kL2 g c f ts acc Ql (true,en)=W (f en) (kL3 g c f ts acc Ql):=aF _ _ _
theorem wM (ts acc:List D):kL2 g c f ts acc Ql (false,en)=W (lcF g c f ts acc en) Ql:=rfl
theorem wL (ts acc:List D) (t:D):kL3 g c f ts acc Ql (t,en)=(acc.length < sizeLine∧W (lcF g c f ts (acc++[t]) en) Ql):=sP _ _ _
theorem wK (m:List D):([]++m:List D)=m:=rfl
theorem wJ (x:D) (l m:List D):((x :: l)++m:List D)=x :: (l++m):=rfl
theorem wI:(([]:List D).length < sizeLine)=True:=eq_true (Nat.lt_of_lt_of_le (by show 0 < 100; decide) cB)
theorem wH (x0:D):(([x0]:List D).length < sizeLine)=True:=eq_true (Nat.lt_of_lt_of_le (by show 1 < 100; decide) cB)
theorem wG (x0 x1:D):(([x0,x1]:List D).length < sizeLine)=True:=eq_true (Nat.lt_of_lt_of_le (by show 2 < 100; decide) cB)
theorem wF (x0 x1 x2:D):(([x0,x1,x2]:List D).length < sizeLine)=True:=eq_true (Nat.lt_of_lt_of_le (by show 3 < 100; decide) cB)
theorem wE (x0 x1 x2 x3:D):(([x0,x1,x2,x3]:List D).length < sizeLine)=True:=eq_true (Nat.lt_of_lt_of_le (by show 4 < 100; decide) cB)
theorem wD (x0 x1 x2 x3 x4:D):(([x0,x1,x2,x3,x4]:List D).length < sizeLine)=True:=eq_true (Nat.lt_of_lt_of_le (by show 5 < 100; decide) cB)
theorem wC (x0 x1 x2 x3 x4 x5:D):(([x0,x1,x2,x3,x4,x5]:List D).length < sizeLine)=True:=eq_true (Nat.lt_of_lt_of_le (by show 6 < 100; decide) cB)
theorem wB (x0 x1 x2 x3 x4 x5 x6:D):(([x0,x1,x2,x3,x4,x5,x6]:List D).length < sizeLine)=True:=eq_true (Nat.lt_of_lt_of_le (by show 7 < 100; decide) cB)
theorem wA:fQ [.list []]=some (.int 0):=rfl
theorem wz (a:Int):fQ [.list [.int a]]=some (.int a):=by show some (PyData.int (a+0))=_; rw [Int.add_zero]
theorem wy (a b:Int):fQ [.list [.int a,.int b]]=some (.int (a+b)):=by show some (PyData.int (a+(b+0)))=_; rw [Int.add_zero]
theorem wx (x:D) (l:List D):bt (x :: l) (some 1) none=l:=CN x l
theorem ww (x:D) (l:List D):(HT.sIx (x :: l).length 0 (some 1)=0)=False:=Ib x l
theorem wv (p:Prop):(False∧p)=False:=false_and p
theorem wu:(¬ False)=True:=not_false_eq_true
theorem wt:(!true)=false:=rfl
theorem wq:(!false)=true:=rfl
theorem wp (p:Prop):(True∧p)=p:=true_and p
theorem wo (p:Prop):(p∧True)=p:=and_true p
theorem wn (_:Decidable True):decide True=true:=decide_eq_true trivial
theorem wm (_:Decidable False):decide False=false:=decide_eq_false (fun z=>z)
theorem wl (α:Sort 1) (a:α):(a=a)=True:=eq_self a
end
theorem C8:type_of% ws0∧type_of% ws1∧type_of% ws2∧type_of% ws3∧type_of% ws4∧type_of% ws5∧type_of% ws6∧type_of% ws7∧type_of% ws8∧type_of% ws9∧type_of% EJ∧type_of% EH∧type_of% EG∧type_of% EF∧type_of% EE∧type_of% ED∧type_of% EC∧type_of% EB∧type_of% EA∧type_of% Ez∧type_of% Ey∧type_of% Ex∧type_of% Ev∧type_of% Eu∧type_of% Et∧type_of% Es∧type_of% Er∧type_of% Ep∧type_of% Eo∧type_of% Em∧type_of% El∧type_of% Ek∧type_of% Ej∧type_of% Ei∧type_of% Eg∧type_of% Ef∧type_of% Ee∧type_of% Ed∧type_of% Ec∧type_of% Eb:=⟨ws0,ws1,ws2,ws3,ws4,ws5,ws6,ws7,ws8,ws9,EJ,EH,EG,EF,EE,ED,EC,EB,EA,Ez,Ey,Ex,Ev,Eu,Et,Es,Er,Ep,Eo,Em,El,Ek,Ej,Ei,Eg,Ef,Ee,Ed,Ec,Eb⟩
theorem C7:type_of% Ea∧type_of% D9∧type_of% D8∧type_of% D7∧type_of% D6∧type_of% D5∧type_of% D4∧type_of% D3∧type_of% D2∧type_of% D1∧type_of% D0∧type_of% DZ∧type_of% DY∧type_of% DX∧type_of% DW∧type_of% DU∧type_of% DT∧type_of% DS∧type_of% DR∧type_of% DQ∧type_of% DP∧type_of% DN∧type_of% DM∧type_of% DL∧type_of% DK∧type_of% DJ∧type_of% DI∧type_of% DH∧type_of% DG∧type_of% DF∧type_of% DE∧type_of% DD∧type_of% DC∧type_of% DB∧type_of% DA∧type_of% Dz∧type_of% Dy∧type_of% Dx∧type_of% Dw∧type_of% Dv:=⟨Ea,D9,D8,D7,D6,D5,D4,D3,D2,D1,D0,DZ,DY,DX,DW,DU,DT,DS,DR,DQ,DP,DN,DM,DL,DK,DJ,DI,DH,DG,DF,DE,DD,DC,DB,DA,Dz,Dy,Dx,Dw,Dv⟩
theorem C6:type_of% Du∧type_of% Dt∧type_of% Ds∧type_of% Dr∧type_of% Dq∧type_of% Dp∧type_of% Do∧type_of% Dm∧type_of% Dl∧type_of% Dk∧type_of% Dj∧type_of% Di∧type_of% Dh∧type_of% Dg∧type_of% De∧type_of% Dd∧type_of% Dc∧type_of% Db∧type_of% Da∧type_of% C9∧type_of% AV∧type_of% AU∧type_of% AT∧type_of% AR∧type_of% AQ∧type_of% AO∧type_of% AN∧type_of% AM∧type_of% AL∧type_of% AK∧type_of% AJ∧type_of% AI∧type_of% AH∧type_of% AG∧type_of% AF∧type_of% AE∧type_of% AD∧type_of% AC∧type_of% AB∧type_of% AA:=⟨Du,Dt,Ds,Dr,Dq,Dp,Do,Dm,Dl,Dk,Dj,Di,Dh,Dg,De,Dd,Dc,Db,Da,C9,AV,AU,AT,AR,AQ,AO,AN,AM,AL,AK,AJ,AI,AH,AG,AF,AE,AD,AC,AB,AA⟩
theorem C5:type_of% Az∧type_of% Ay∧type_of% Ax∧type_of% Aw∧type_of% Av∧type_of% Au∧type_of% At∧type_of% As∧type_of% Ar∧type_of% Aq∧type_of% Ap∧type_of% Ao∧type_of% An∧type_of% Am∧type_of% Al∧type_of% Ak∧type_of% Aj∧type_of% Ai∧type_of% Ah∧type_of% Ag∧type_of% Af∧type_of% Ae∧type_of% Ad∧type_of% Ac∧type_of% Ab∧type_of% Aa∧type_of% z9∧type_of% zZ∧type_of% zY∧type_of% zX∧type_of% zW∧type_of% zV∧type_of% zU∧type_of% zT∧type_of% zS∧type_of% zR∧type_of% zQ∧type_of% zP∧type_of% zO∧type_of% zN:=⟨Az,Ay,Ax,Aw,Av,Au,At,As,Ar,Aq,Ap,Ao,An,Am,Al,Ak,Aj,Ai,Ah,Ag,Af,Ae,Ad,Ac,Ab,Aa,z9,zZ,zY,zX,zW,zV,zU,zT,zS,zR,zQ,zP,zO,zN⟩
theorem C4:type_of% zM∧type_of% zL∧type_of% zK∧type_of% zJ∧type_of% zI∧type_of% zH∧type_of% zG∧type_of% zF∧type_of% zE∧type_of% zC∧type_of% zB∧type_of% zA∧type_of% zz∧type_of% zy∧type_of% zx∧type_of% zw∧type_of% zv∧type_of% zu∧type_of% zt∧type_of% zr∧type_of% zq∧type_of% zp∧type_of% zo∧type_of% zn∧type_of% zm∧type_of% zl∧type_of% zh∧type_of% zg∧type_of% zd∧type_of% zc∧type_of% zb∧type_of% y9∧type_of% y8∧type_of% y6∧type_of% y4∧type_of% y3∧type_of% y1∧type_of% yZ∧type_of% yY∧type_of% yX:=⟨zM,zL,zK,zJ,zI,zH,zG,zF,zE,zC,zB,zA,zz,zy,zx,zw,zv,zu,zt,zr,zq,zp,zo,zn,zm,zl,zh,zg,zd,zc,zb,y9,y8,y6,y4,y3,y1,yZ,yY,yX⟩
theorem C3:type_of% yW∧type_of% yV∧type_of% yU∧type_of% yT∧type_of% yS∧type_of% yR∧type_of% yQ∧type_of% yP∧type_of% yO∧type_of% yN∧type_of% yM∧type_of% yL∧type_of% yK∧type_of% yJ∧type_of% yI∧type_of% yH∧type_of% yG∧type_of% yF∧type_of% yE∧type_of% yD∧type_of% yC∧type_of% yB∧type_of% yA∧type_of% yz∧type_of% yy∧type_of% yx∧type_of% yw∧type_of% yv∧type_of% yu∧type_of% yt∧type_of% yr∧type_of% yq∧type_of% yo∧type_of% yn∧type_of% ym∧type_of% yk∧type_of% yj∧type_of% yi∧type_of% yh∧type_of% yg:=⟨yW,yV,yU,yT,yS,yR,yQ,yP,yO,yN,yM,yL,yK,yJ,yI,yH,yG,yF,yE,yD,yC,yB,yA,yz,yy,yx,yw,yv,yu,yt,yr,yq,yo,yn,ym,yk,yj,yi,yh,yg⟩
theorem C2:type_of% yf∧type_of% ye∧type_of% yd∧type_of% yc∧type_of% yb∧type_of% ya∧type_of% xZ∧type_of% xY∧type_of% xX∧type_of% xW∧type_of% xV∧type_of% xU∧type_of% xT∧type_of% xS∧type_of% xR∧type_of% xQ∧type_of% xP∧type_of% xO∧type_of% xN∧type_of% xM∧type_of% xL∧type_of% xK∧type_of% xJ∧type_of% xI∧type_of% xH∧type_of% xG∧type_of% xF∧type_of% xE∧type_of% xD∧type_of% xC∧type_of% xB∧type_of% xA∧type_of% xz∧type_of% xy∧type_of% xx∧type_of% xw∧type_of% xv∧type_of% xu∧type_of% xt∧type_of% xr:=⟨yf,ye,yd,yc,yb,ya,xZ,xY,xX,xW,xV,xU,xT,xS,xR,xQ,xP,xO,xN,xM,xL,xK,xJ,xI,xH,xG,xF,xE,xD,xC,xB,xA,xz,xy,xx,xw,xv,xu,xt,xr⟩
theorem C1:type_of% xq∧type_of% xo∧type_of% xn∧type_of% xm∧type_of% xl∧type_of% xk∧type_of% xj∧type_of% xi∧type_of% xh∧type_of% xg∧type_of% xf∧type_of% xc∧type_of% xb∧type_of% xa∧type_of% w8∧type_of% w6∧type_of% wZ∧type_of% wY∧type_of% wX∧type_of% wW∧type_of% wV∧type_of% wU∧type_of% wT∧type_of% wS∧type_of% wR∧type_of% wQ∧type_of% wP∧type_of% wO∧type_of% wN∧type_of% wM∧type_of% wL∧type_of% wK∧type_of% wJ∧type_of% wI∧type_of% wH∧type_of% wG∧type_of% wF∧type_of% wE∧type_of% wD∧type_of% wC:=⟨xq,xo,xn,xm,xl,xk,xj,xi,xh,xg,xf,xc,xb,xa,w8,w6,wZ,wY,wX,wW,wV,wU,wT,wS,wR,wQ,wP,wO,wN,wM,wL,wK,wJ,wI,wH,wG,wF,wE,wD,wC⟩
theorem CZ:type_of% wB∧type_of% wA∧type_of% wz∧type_of% wy∧type_of% wx∧type_of% ww∧type_of% wv∧type_of% wu∧type_of% wt∧type_of% wq∧type_of% wp∧type_of% wo∧type_of% wn∧type_of% wm∧type_of% wl:=⟨wB,wA,wz,wy,wx,ww,wv,wu,wt,wq,wp,wo,wn,wm,wl⟩
theorem ws:type_of% C8∧type_of% C7∧type_of% C6∧type_of% C5∧type_of% C4∧type_of% C3∧type_of% C2∧type_of% C1∧type_of% CZ:=⟨C8,C7,C6,C5,C4,C3,C2,C1,CZ⟩
end L2
namespace L2
open PySem PySem.Spec PyProof.Rows
theorem bH {g:MG} {b:MS} {ts:List D} {en:En} {Q:Fl→Prop} (I:Nat→En→Prop) (h0:I 0 en)
  (hs:∀ i t en,ts[i]?=some t→I i en→W (g t en) (kFg b (I (i+1)) Q)) (hq:∀ en,I ts.length en→Q (.nx en)):W (cx g b ts en) Q:=by
 suffices ∀ (us:List D) (i:Nat) (en:En),ts.drop i=us→i≤ts.length→I i en→W (cx g b us en) Q from this ts 0 en rfl (Nat.zero_le _) h0
 intro us
 induction us with
 | nil =>
  intro i en hu hi h
  have:ts.length - i=0:=by rw [← List.length_drop,hu]; rfl
  simp only [ws]
  exact hq en (by rw [show ts.length=i by omega]; exact h)
 | cons t us ih =>
  intro i en hu hi h
  have ht:ts[i]?=some t:=by
   have:(ts.drop i)[0]?=some t:=by rw [hu]; rfl
   rw [List.getElem?_drop] at this
   exact this
  have hl:i < ts.length:=(List.getElem?_eq_some_iff.mp ht).1
  have hd:ts.drop (i+1)=us:=by rw [← List.drop_drop,hu]; rfl
  simp only [ws]
  refine (hs i t en ht h).use fun en1 h1=>?_
  simp only [ws] at h1 ⊢
  refine h1.use fun fl h2=>?_
  cases fl with
  | nx e=>simp only [ws] at h2 ⊢; exact ih (i+1) e hd hl h2
  | ct e=>simp only [ws] at h2 ⊢; exact ih (i+1) e hd hl h2
  | rt t e=>simp only [ws] at h2 ⊢; exact h2
theorem Iy {g:MG} {c:MT} {f:ME} {ts:List D} {en:En} {Q:List D × En→Prop} (I:Nat→List D→En→Prop) (hz:ts.length≤sizeLine) (h0:I 0 [] en)
  (hs:∀ i t us en,ts[i]?=some t→us.length≤i→I i us en→W (g t en) (FW c f us (I (i+1)))) (hq:∀ us en,us.length≤ts.length→I ts.length us en→Q (us,en)):W (lcF g c f ts [] en) Q:=by
 suffices ∀ (vs:List D) (i:Nat) (us:List D) (en:En),ts.drop i=vs→i≤ts.length→us.length≤i→I i us en→W (lcF g c f vs us en) Q from this ts 0 [] en rfl (Nat.zero_le _) (Nat.zero_le _) h0
 intro vs
 induction vs with
 | nil =>
  intro i us en hu hi hl h
  have:ts.length - i=0:=by rw [← List.length_drop,hu]; rfl
  simp only [ws]
  exact hq us en (by omega) (by rw [show ts.length=i by omega]; exact h)
 | cons t vs ih =>
  intro i us en hu hi hl h
  have ht:ts[i]?=some t:=by
   have:(ts.drop i)[0]?=some t:=by rw [hu]; rfl
   rw [List.getElem?_drop] at this
   exact this
  have hlt:i < ts.length:=(List.getElem?_eq_some_iff.mp ht).1
  have hd:ts.drop (i+1)=vs:=by rw [← List.drop_drop,hu]; rfl
  unfold lcF
  rw [aF]
  refine (hs i t us en ht hl h).use fun en1 h1=>?_
  simp only [ws] at h1
  rw [aF]
  refine h1.use fun r h2=>?_
  obtain ⟨x,en2⟩:=r
  cases x with
  | true =>
   simp only [ws] at h2
   show W ((f en2).bind _) Q
   rw [aF]
   refine h2.use fun q h3=>?_
   obtain ⟨u,en3⟩:=q
   simp only [ws] at h3
   show W (if us.length < sizeLine then _ else _) Q
   rw [if_pos (by omega)]
   exact ih (i+1) _ _ hd hlt (by rw [List.length_append]; show _+1≤_; omega) h3
  | false =>
   simp only [ws] at h2
   exact ih (i+1) _ _ hd hlt (by omega) h2
theorem CY {c:MT} {b:MS} {en:En} {Q:Fl→Prop} (I:Nat→En→Prop) (hs:∀ n en,I n en→W (c en) (kWh b (fun e=>∃ m,m < n∧I m e) Q)) {n:Nat} (h0:I n en):W (cP c b en) Q:=by
 induction n using Nat.strongRecOn generalizing en with
 | _ n ih =>
  obtain ⟨⟨x,en1⟩,e1,h1⟩:=(hs n en h0).ex
  cases x with
  | false=>simp only [ws] at h1; exact W.of (p8 e1) h1
  | true =>
   simp only [ws] at h1
   obtain ⟨fl,e2,h2⟩:=h1.ex
   cases fl with
   | nx e =>
    obtain ⟨m,hm,hi⟩:∃ m,m < n∧I m e:=h2
    obtain ⟨fl,e3,h3⟩:=(ih m hm hi).ex
    exact W.of (p9 e1 e2 e3) h3
   | ct e =>
    obtain ⟨m,hm,hi⟩:∃ m,m < n∧I m e:=h2
    obtain ⟨fl,e3,h3⟩:=(ih m hm hi).ex
    obtain ⟨k,h4⟩:=ij e3
    refine W.of (hU (n:=k+1) ?_) h3
    unfold whN
    rw [e1]
    show (b en1).bind _=_
    rw [e2]
    exact h4
   | rt t e =>
    refine W.of (hU (n:=1) ?_) (show Q (.rt t e) from h2)
    unfold whN
    rw [e1]
    show (b en1).bind _=_
    rw [e2]
    rfl
theorem pT {f:ME} {ts:List D} {o:Option D} {rest:En} {Q:List D × En→Prop} (F:D→D) (hz:ts.length≤sizeLine) (hf:∀ t∈ts,W (f (some t :: rest)) (fun r=>r=(F t,some t :: rest))) (hq:∀ o',Q (ts.map F,o' :: rest)):W (lcF (gN 0) cY f ts [] (o :: rest)) Q:=by
 obtain ⟨o',e⟩:=B2 (f:=f) (F:=F) (rest:=rest) ts [] o (fun t ht=>by
  obtain ⟨r,e,h⟩:=(hf t ht).ex
  rw [e,h]) (by simpa using hz)
 exact W.of e (hq o')
theorem ka {c:MT} {f:ME} {ts:List D} {o:Option D} {rest:En} {Q:List D × En→Prop} (p:D→Bool) (F:D→D) (hz:ts.length≤sizeLine) (hc:∀ t∈ts,W (c (some t :: rest)) (fun r=>r=(p t,some t :: rest))) (hf:∀ t∈ts,p t=true→W (f (some t :: rest)) (fun r=>r=(F t,some t :: rest))) (hq:∀ o',Q ((ts.filter p).map F,o' :: rest)):W (lcF (gN 0) c f ts [] (o :: rest)) Q:=by
 obtain ⟨o',e⟩:=gf (c:=c) (f:=f) (p:=p) (F:=F) (rest:=rest) ts [] o (fun t ht=>by
  obtain ⟨r,e,h⟩:=(hc t ht).ex
  rw [e,h]) (fun t ht hp=>by
  obtain ⟨r,e,h⟩:=(hf t ht hp).ex
  rw [e,h]) (by simpa using hz)
 exact W.of e (hq o')
theorem bd {α:Type} {ts:List α} {i:Nat} {t:α} (h:ts[i]?=some t):ts.take (i+1)=ts.take i++[t]:=by
 rw [List.take_add_one,h]; rfl
theorem cS {i:Int} {n k:Nat} {t:D} (h:(jQ i n)[k]?=some t):k < n∧t=.int (i+(k:Nat)):=by
 unfold jQ at h
 rw [List.getElem?_map] at h
 obtain ⟨j,hj,rfl⟩:=Option.map_eq_some_iff.mp h
 obtain ⟨hl,e⟩:=List.getElem?_eq_some_iff.mp hj
 rw [List.getElem_range] at e
 rw [List.length_range] at hl
 exact ⟨hl,by rw [e]⟩
theorem eg (i:Int) (n:Nat):(jQ i n).length=n:=by unfold jQ; rw [List.length_map,List.length_range]
theorem sz {n:Nat} (h:n≤1000):n≤sizeLine:=Nat.le_trans h Pen3.sl1000
theorem szl {n:Nat} (h:n < 1000):n < sizeLine:=Nat.lt_of_lt_of_le h Pen3.sl1000
theorem Bx {α:Type} {ts:List α} {i:Int} {x:α} (h0:0≤i) (h:ts[i.toNat]?=some x):atI ts i=some x:=by
 obtain ⟨n,rfl⟩:=Int.eq_ofNat_of_zero_le h0
 rw [aY]
 exact h
theorem ce {p:D} {m:Int} (hp:Pen3.IsPen p) (h3:0 < m) (h4:m < 1073741824) {Q:D × En→Prop} (h:∀ r p',0≤r→r < m→Pen3.IsPen p'→Q (.int r,[some p',none])):W (Pen3.F_law_draw [p,.int m]) Q:=by
 obtain ⟨r,p',e,h1,h2,h5⟩:=Pen3.draw_ok hp h3 h4
 exact W.of e (h r p' h1 h2 h5)
theorem Bz {ns:List Int} {k:Int} (h0:0≤k) {Q:D × En→Prop} (h:∀ p,Pen3.IsPen p→Q (p,[none,none])):W (Pen3.F_law_pen [.list (ns.map .int),.int k]) Q:=by
 obtain ⟨p,e,hp⟩:=Pen3.pen_ok h0
 exact W.of e (h p hp)
end L2
set_option maxHeartbeats 1000000
namespace L2
namespace Tg
open PySem L2 Pen3
abbrev s1 (c:Nat):D:=.str (mk1 c)
def ev:Str:=("!\"#$&'()*+,-./0123456789:;<=>?@ABCDEFGHIJKLMNOPQRSTUVWXYZ" : Str)++("[\\]^_`abcdefghijklmnopqrstuvwxyz{|}~" : Str)
theorem lh:∀ ks:List Str,joinD.strsOf (ks.map .str)=some ks
 | []=>rfl
 | c :: cs=>by
  show (joinD.strsOf (cs.map .str)).map (c :: ·)=_
  rw [lh cs]
  rfl
theorem uf {ks:List Str} (h:(bf ks).length≤1000) (h2:ks.length≤1000):joinD "" [.tuple (ks.map .str)]=some (.str (ofL (bf ks)))∧joinD "" [.list (ks.map .str)]=some (.str (ofL (bf ks))):=by
 have e:ofL (bf ks)=Txt.join "" ks:=(fM (GY ks)).symm
 constructor
 ·show (joinD.strsOf (ks.map .str)).bind _=_
  rw [lh]
  show (if _ then _ else _)=_
  rw [if_pos ⟨by decide,by rw [pQ]; omega⟩,e]
 ·show (joinD.strsOf (ks.map .str)).bind _=_
  rw [lh]
  show (if _ then _ else _)=_
  rw [if_pos ⟨by decide,by rw [pQ]; omega⟩,e]
def tD (ks:List Str):D:=.tuple (ks.map .str)
abbrev sgs (ks:List Str):Str:=ofL (bf ks)
theorem mQ (cs:List Nat):(ofL cs).length=cs.length:=by show cs.toArray.size=_; rw [List.size_toArray]
end Tg
end L2
namespace L2
namespace Tg
open PySem L2 Pen3
theorem E3 (z y:Str) (i:Nat):Builtin.Str.subAt z y i=((((li z).drop i).take (li y).length) == li y):=StrLaws.subAt_eq z y i
theorem oP (z:Str):(li z).length=z.length:=Array.length_toList
theorem lG (z y:Str):Txt.startswith z y=true↔li y <+: li z:=by
 show (decide (0+y.length≤z.length) && Builtin.Str.subAt z y 0)=true↔_
 rw [E3,Bool.and_eq_true,decide_eq_true_eq,beq_iff_eq,List.drop_zero]
 have a:=oP z
 have b:=oP y
 constructor
 ·rintro ⟨_,h⟩
  exact List.prefix_iff_eq_take.mpr h.symm
 ·intro h
  exact ⟨by have:=h.length_le; omega,(List.prefix_iff_eq_take.mp h).symm⟩
abbrev rv (z:Str):Str:=⟨z.cps.toList.reverse.toArray⟩
end Tg
end L2
set_option maxHeartbeats 4000000
namespace L2
open PySem PySem.Spec PyProof.Rows
structure Fly (h:Heap) (a T C:Addr):Prop where
 x:∃ oe vs a0,h.get? a=some oe∧oe.cls=.ref C∧oe.data=.fields vs∧vs[0]?=some a0∧vs[1]?=some (.ref T)
 t:∃ oT ts,h.get? T=some oT∧oT.data=.fields ts∧ts[3]?=some .none
 ne:T≠a
def CXr (P:Program) (w:World):CXT:=fun outer H s E e s'=>∃ (a T C:Addr) (H':Hp),e=.ref a∧E (.ref C) none H'∧s'.os=s.os∧AllBare s'.gens∧Un (frs outer) [] H H' s.heap s'.heap∧HOk P w H' s'.heap ∧
 H' a=none∧H' T=none∧s.heap.get? a=none∧s.heap.get? T=none∧Fly s'.heap a T C
def gI (h:Heap) (l:List Addr):Heap:=il h fun b=>if b∈l then some (.own 0) else none
theorem fc {h:Heap} {l:List Addr} {b:Addr} {o:Obj} (e:h.get? b=some o) (n:b ∉ l):(gI h l).get? b=some o:=oY e (if_neg n)
theorem kA {h:Heap} {l:List Addr} {b:Addr} {o:Obj} (e:(gI h l).get? b=some o):h.get? b=some o∧b ∉ l:=by
 obtain ⟨e1,e2⟩:=qR e
 refine ⟨e1,fun z=>?_⟩
 rw [if_pos z] at e2
 cases e2
theorem cG {h:Heap} {l:List Addr} {b:Addr} (hb:b∈l):(gI h l).get? b=none:=by
 cases q:(gI h l).get? b with
 | none=>rfl
 | some o=>exact absurd hb (kA q).2
theorem hZ {h base base':Heap}:∀ {l:List Env},h.FunFrames base l→(∀ b∈frs l,base'.get? b=none)→h.FunFrames base' l
 | [],_,_=>trivial
 | env :: r,hl,hb=>by
  obtain ⟨hk,⟨L,o,hf,hn,ho,hd⟩,hr⟩:=hl
  refine ⟨hk,⟨L,o,hf,hb L ?_,ho,hd⟩,hZ hr fun b z=>hb b ?_⟩
  ·unfold frs; rw [List.filterMap_cons,hf]; exact List.mem_cons_self
  ·unfold frs; rw [List.filterMap_cons,hf]; exact List.mem_cons_of_mem _ z
theorem cH {h base:Heap}:∀ {l:List Env},h.FunFrames base l→∀ b∈frs l,∃ o,h.get? b=some o∧∀ vs,o.data≠.fields vs
 | [],_,b,hb=>by cases hb
 | env :: r,hl,b,hb=>by
  obtain ⟨hk,⟨L,o,hf,hn,ho,hd⟩,hr⟩:=hl
  unfold frs at hb
  rw [List.filterMap_cons,hf] at hb
  rcases List.mem_cons.mp hb with rfl | hb
  ·exact ⟨o,ho,hd⟩
  ·exact cH hr b hb
theorem no {h h' base:Heap} (k:∀ b o,h.get? b=some o→(∀ vs,o.data≠.fields vs)→∃ sl,h'.get? b=some { o with slots:=sl }):∀ {l:List Env},h.FunFrames base l→h'.FunFrames base l
 | [],_=>trivial
 | env :: r,hl=>by
  obtain ⟨hk,⟨L,o,hf,hn,ho,hd⟩,hr⟩:=hl
  obtain ⟨sl,e⟩:=k L o ho hd
  exact ⟨hk,⟨L,_,hf,hn,e,hd⟩,no k hr⟩
theorem HOk.tracked {P:Program} {w:World} {H:Hp} {h h':Heap} (x:HOk P w H h) (k:∀ b u,H b≠none→h.get? b=some u→h'.get? b=some u):HOk P w H h':=fun a o e =>
 (x a o e).stay (fun b u hb q=>k b u (by
  rcases hb with rfl | hb
  ·rw [e]; simp
  ·rw [hb]; simp) q) (fun _ q=>q) fun _ _ q=>q
theorem Un.behind {fs:List Addr} {H H1:Hp} {h h1 h2:Heap} (u:Un fs [] H H1 h h1) (k:∀ b o',h.get? b=some o'→∀ o,h1.get? b=some o→b ∉ fs→h2.get? b=some o)
  (sl:∀ b o',h.get? b=some o'→∀ o,h1.get? b=some o→b∈fs→∃ sl,h2.get? b=some { o with slots:=sl }):Un fs [] H H1 h h2 where
 keep:=fun b o q n hb hx=>k b o q o (u.keep b o q n hb hx) hb
 slot:=fun b o q n hb hx=>by
  obtain ⟨s1,e1⟩:=u.slot b o q n hb hx
  obtain ⟨s2,e2⟩:=sl b o q _ e1 hb
  exact ⟨s2,e2⟩
 free:=u.free
 there:=fun b o q hx=>by
  obtain ⟨o',e⟩:=u.there b o q hx
  by_cases hb:b∈fs
  ·obtain ⟨s2,e2⟩:=sl b o q _ e hb
   exact ⟨_,e2⟩
  ·exact ⟨_,k b o q _ e hb⟩
 tups:=u.tups
 frzs:=u.frzs
 tbls:=u.tbls
theorem ObjOk.get {P:Program} {w:World} {H:Hp} {h:Heap} {a:Addr} {o:HO} (x:ObjOk P w H h a o):∃ ob,h.get? a=some ob:=by
 cases o with
 | lst xs=>obtain ⟨_,_,_,_,e⟩:=x; exact ⟨_,e⟩
 | tup xs=>obtain ⟨_,_,_,o,e,_⟩:=x; exact ⟨_,e⟩
 | dK kvs=>obtain ⟨_,_,_,_,o,_,_,e,_⟩:=x; exact ⟨_,e⟩
 | dT kvs=>obtain ⟨_,_,_,_,o,_,_,e,_⟩:=x; exact ⟨_,e⟩
 | set S n=>obtain ⟨o,_,_,_,e,_⟩:=x; exact ⟨_,e⟩
 | ins C dx fs=>obtain ⟨_,_,_,e,_⟩:=x; exact ⟨_,e⟩
 | own y=>exact x
 | xd fs=>obtain ⟨_,⟨_,_,_,e,_⟩,_⟩:=x; exact ⟨_,e⟩
 | rng lo hi=>obtain ⟨_,_,_,e⟩:=x; exact ⟨_,e⟩
 | frz ob u=>obtain ⟨e,_⟩:=x; exact ⟨_,e⟩
 | tbl ps=>exact ⟨_,(show h.get? a=some _ from x)⟩
 | met f y=>exact ⟨_,(show h.get? a=some _ from x)⟩
 | ext φ=>obtain ⟨_,e,_⟩:=x; exact e
theorem HOk.none {P:Program} {w:World} {H:Hp} {h:Heap} {a:Addr} (x:HOk P w H h) (e:h.get? a=none):H a=none:=by
 cases q:H a with
 | none=>rfl
 | some o =>
  obtain ⟨ob,z⟩:=(x a o q).get
  rw [e] at z
  cases z
section
variable {X:Cx} {pins:List (Addr × Obj)} {σ:St} {H:Hp} {s:Shared} {E:XK}
theorem Inv.frn (I:Inv X pins σ H s) (hx:X.ex=[]):∀ b∈frs X.stack,H b=none:=fun b hb=>by
 rcases List.mem_cons.mp (I.stkSub b hb) with rfl | hb
 ·exact I.free
 ·obtain ⟨o,ho,_⟩:=cH I.ok.funs b hb
  exact I.base.free b o ho (I.ok.frf b hb) (by rw [hx]; simp)
structure Rsx (X:Cx) (E:XK):Prop where
 xe:X.xe=fun e s'=>wpAny (model X.prog X.w) X.A (leaving X.env e) (fun _ s''=>CXr X.prog X.w X.outer X.H₀ X.s₀ E e s'') (fun e' s''=>CXr X.prog X.w X.outer X.H₀ X.s₀ E e' s'') s'
 stk:X.stack=X.env :: X.outer
 fr:X.env.frame=some X.env.locals
 ex:X.ex=[]
 calm:X.calm=true
theorem ou (R:Rsx X E) (I:Inv X pins σ H s) {h':Heap} {e C:Addr} {args:List Value} (m:s.heap.MadeExcOf h' e (.ref C) args) (hE:E (.ref C) none H) :
  X.xe (.ref e) { heap:=h',gens:=s.gens,drawn:=s.drawn,toks:=s.toks,os:=s.os }:=by
 rw [R.xe]
 obtain ⟨t,he,ht1,ht2⟩:=m.there
 have fs:=I.stack
 have fh:h'.FunFrames X.base X.stack:=no (fun b o q _=>⟨o.slots,m.keeps b o q⟩) fs
 have fB:h'.FunFrames (gI h' (frs X.stack++[e])) X.stack:=hZ fh fun b hb=>cG (List.mem_append_left _ hb)
 have un:=I.base
 rw [R.ex] at un
 refine wpAny_leaving_firstW (base:=gI h' (frs X.stack++[e])) (env:=X.env) (outer:=X.outer) (by rw [← R.stk]; exact I.ok.frames) (by rw [← R.stk]; exact fB) R.fr he (fun b o q=>(kA q).1) (cG (by simp)) rfl rfl rfl fun h2 ⟨stays,f2,⟨oe,vs,T,oT,ts,q1,⟨q2,q3⟩,q4,q5,q6,q7,q8,q9,q10⟩,nonf⟩=>?_
 have tn:h'.get? T=none:=by
  cases q:h'.get? T with
  | none=>rfl
  | some o =>
   have hT:T∈frs X.stack++[e]:=Decidable.byContradiction fun hn=>by
    rw [fc q hn] at q6
    cases q6
   rcases List.mem_append.mp hT with hT | hT
   ·obtain ⟨o2,g1,g2⟩:=cH fh T hT
    obtain ⟨sl,g3⟩:=nonf T o2 g1 g2
    rw [q8] at g3
    cases g3
    exact absurd q9 (g2 ts)
   ·exact absurd (by simpa using hT) q7
 have sn:s.heap.get? T=none:=by
  cases q:s.heap.get? T with
  | none=>rfl
  | some o=>rw [m.keeps T o q] at tn; cases tn
 have old:∀ b o,s.heap.get? b=some o→b ∉ frs X.stack→h2.get? b=some o:=fun b o q hb=>stays b o (fc (m.keeps b o q) fun z=>by
  rcases List.mem_append.mp z with z | z
  ·exact hb z
  ·have z':b=e:=by simpa using z
   subst z'
   rw [m.new] at q
   cases q)
 have nos:∀ b,s.heap.get? b=none→X.s₀.heap.get? b=none:=fun b q=>by
  cases q2:X.s₀.heap.get? b with
  | none=>rfl
  | some o =>
   obtain ⟨o',z⟩:=un.there b o q2 (by simp)
   rw [q] at z
   cases z
 refine ⟨e,T,C,H,rfl,hE,I.os,I.bare,un.behind (fun b o' q0 o q hb=>old b o q fun z=>?_) (fun b o' q0 o q hb=>?_),I.hok.tracked fun b u hb q=>old b u q fun z=>hb (I.frn R.ex b z),I.hok.none m.new,I.hok.none sn,nos e m.new,nos T sn,⟨⟨oe,vs,_,q1,q2,q4,q3,q5⟩,⟨oT,ts,q8,q9,q10⟩,q7⟩⟩
 ·rcases List.mem_cons.mp (I.stkSub b z) with rfl | z
  ·exact absurd (Heap.lt_size q0) (Nat.not_lt_of_le I.ok.above)
  ·exact hb z
 ·obtain ⟨o2,g1,g2⟩:=cH fs b (by rw [R.stk]; unfold frs; rw [List.filterMap_cons,R.fr]; exact List.mem_cons_of_mem _ hb)
  rw [q] at g1
  cases g1
  exact nonf b o (m.keeps b o q) g2
end
end L2
namespace L2
open PySem PySem.Spec PyProof.Rows
theorem ly {K:PySem.W.Frag} {C:Addr} {bmB:List Value} {newId:String} (hx:PySem.W.excIn K C bmB newId=true) :
  ∃ nm q N bs bm hdct sn sub ab col dd k0 k1 k2 k3 k5,K.lookup C=some (excClassObj nm q C N bs bm hdct sn sub ab col dd k0 k1 k2 k3 k5 newId)∧PySem.W.tailIn K bmB bm=true∧PySem.W.nsOkIn K N=true∧PySem.W.nsIn K N (Str.ofString "__init__")=some none:=by
 unfold PySem.W.excIn at hx
 split at hx
 ·next dict cd sl hl =>
  split at hx
  ·next C' bm h0 h1 h2 h3 n h5 e1 e2 =>
   simp only [Bool.and_eq_true,beq_iff_eq,Bool.not_eq_true'] at hx
   obtain ⟨⟨⟨⟨⟨a1,a2⟩,a3⟩,a4⟩,a5⟩,a6⟩:=hx
   subst a1 a2
   obtain ⟨nm,bases,mro,ns,qn,hd,sn,sub,ab,col,hdel⟩:=cd
   simp only at e1 a3 a5 a6
   subst e1 a3
   have e3:sl=#[h0,h1,h2,h3,some (Value.builtin n),h5]:=Array.toList_inj.mp e2
   subst e3
   exact ⟨nm,qn,ns,bases,bm,hd,sn,sub,ab,col,dict,h0,h1,h2,h3,h5,hl,a4,a5,a6⟩
  ·cases hx
 ·cases hx
theorem og {h:Heap} {bmB bm:List Value} {v:Value} (t:OwnTail h bmB bm) (c:bmB.contains v=true):bm.contains v=true:=by
 induction t with
 | base=>exact c
 | own _ _ _ _ ih =>
  rw [List.contains_cons,ih]
  simp
section
variable {X:Cx} {E:XK} {C:Addr} {bmB:List Value} {B newId initId:String} {x:Str} {np cpos pos:Pos} {a:Expr} {t:TA}
def ET (E:XK) (C:Addr) (t:TA):TS:=fun _ σ H=>t σ H fun vs H1=>vs.length≤sizeLine∧E (.ref C) none H1
theorem u9 (R:Rsx X E) (hb:ExcBaseFacts B newId initId bmB) (hx:PySem.W.excIn X.K C bmB newId=true) (hg:Gl X x) (hm:X.mg x=some (.ref C)) (ha:PA X [a] t)
  (hdb:(x == ("__debug__" : Str))=false:=by decide) (hst:starEach [a] X.env=(false,eval a X.env) :: starEach [] X.env:=by rfl) :
  PS X (.Raise (some (.Call (.Name x np) [a] [] cpos)) none pos) (ET E C t):=by
 intro pins s σ H D I h
 obtain ⟨nm,q,N,bs,bm,hdct,sn,sub,ab,col,dd,k0,k1,k2,k3,k5,l1,l2,l3,l4⟩:=ly hx
 have kb:=I.mod.kin
 have tb:=PySem.W.tail_of_in kb l2
 refine wpAny_Raise_call_subT (nm:=nm) (q:=q) (C:=C) (N:=N) (bs:=bs) (bm:=bm) (hdct:=hdct) (sn:=sn) (sub:=sub) (ab:=ab) (col:=col) (dd:=dd) (k0:=k0) (k1:=k1) (k2:=k2) (k3:=k3) (k5:=k5) (mN:=X.base.nsMap N) hb (og tb hb.hasBase) (I.ok.hd R.calm) ?_ (PySem.W.nsMap_none_of_in kb l3 l4) (iM I hg hm ⟨rfl,?_⟩ hdb)
 ·rw [hst]; rfl
 ·refine evalArgs_kw2 (kws:=[]) rfl (thn (ha cpos pins s σ H _ I h) fun us s2 ⟨vs,H2,I2,rv,hl,hE⟩=>?_) hst
  refine wpAny_pure ⟨rfl,by show us.length≤sizeLine; rw [← rv.length]; exact hl,I2.kIn C _ l1,(Heap.Ns.of_isNs (PySem.W.isNs_of_in kb l3)).keeps I2.bk,PySem.W.tail_of_in I2.kIn l2,fun h' e m=>ou R I2 m hE⟩
end
end L2
namespace L2
open PySem PySem.Spec PyProof.Rows
theorem qE {M:Model} {A:Around} {E:Value→Shared→Prop} {nm q:Str} {C N:Addr} {bs bm:List Value} {hdct:Bool} {sn:List Str} {sub:List Value} {ab:Bool} {col:Option Bool} {dd:Option Addr} {k0 k1 k2 k3 k5:Option Value}
  {newId:String} {h:Heap} {g:Array GenState} {d:Drawn} {t:Nat} {os:OsState} {v:Value} {Q:Bool→Shared→Prop}
  (h1:h.get? C=some (excClassObj nm q C N bs bm hdct sn sub ab col dd k0 k1 k2 k3 k5 newId)) (h6:bm.contains v=true)
  (k:Q true { heap:=h,gens:=g,drawn:=d,toks:=t,os:=os }):wpAny M A (isSubtype (.ref C) v) Q E { heap:=h,gens:=g,drawn:=d,toks:=t,os:=os }:=by
 unfold isSubtype
 wp_walk using wpAny_load h1
 have e:(Value.ref C :: bm).contains v=true:=by
  rw [List.contains_cons,h6]
  simp
 show Q ((Value.ref C :: bm).contains v) _
 rw [e]
 exact k
theorem mV {M:Model} {A:Around} {E:Value→Shared→Prop} {nm q nm' q':Str} {C N C' N':Addr} {bs bm bs' bm':List Value} {hdct hdct':Bool} {sn sn':List Str} {sub sub':List Value} {ab ab':Bool} {col col':Option Bool} {dd dd':Option Addr} {k0 k1 k2 k3 k5 j0 j1 j2 j3 j5:Option Value}
  {newId newId':String} {h:Heap} {g:Array GenState} {d:Drawn} {t:Nat} {os:OsState} {e:Addr} {oe:Obj} {Q:Bool→Shared→Prop}
  (h1:h.get? C=some (excClassObj nm q C N bs bm hdct sn sub ab col dd k0 k1 k2 k3 k5 newId)) (h2:h.get? C'=some (excClassObj nm' q' C' N' bs' bm' hdct' sn' sub' ab' col' dd' j0 j1 j2 j3 j5 newId'))
  (h3:h.get? e=some oe) (h4:oe.cls=.ref C) (h5:bm'.contains (Value.type "BaseException")=true) (h6:bm.contains (Value.ref C')=true)
  (k:Q true { heap:=h,gens:=g,drawn:=d,toks:=t,os:=os }):wpAny M A (excMatches (.ref e) (.ref C')) Q E { heap:=h,gens:=g,drawn:=d,toks:=t,os:=os }:=by
 unfold excMatches
 have f1:isSubtype (Value.type "type") (Value.type "tuple")=pure false:=by unfold isSubtype; kernel_rfl
 wp_walk using wpAny_load h1,wpAny_load h2,wpAny_load h3
 refine qE h2 h5 ?_
 wp_walk using wpAny_load h1,wpAny_load h2,wpAny_load h3
 rw [h4]
 refine qE h1 h6 ?_
 wp_walk
 exact k
section
variable {X:Cx} {pins:List (Addr × Obj)} {σ:St} {H H1 H':Hp} {s s1 s':Shared} {E:XK} {D:Ends}
structure Dfx (X:Cx):Prop where
 stk:X.stack=X.env :: X.outer
 fr:X.env.frame=some X.env.locals
 ex:X.ex=[]
theorem io {h h' base:Heap}:∀ {l:List Env},(∀ b∈frs l,∀ o,h.get? b=some o→∃ sl,h'.get? b=some { o with slots:=sl })→h.FunFrames base l→h'.FunFrames base l
 | [],_,_=>trivial
 | env :: r,k,hl=>by
  obtain ⟨hk,⟨L,o,hf,hn,ho,hd⟩,hr⟩:=hl
  obtain ⟨sl,e⟩:=k L (by unfold frs; rw [List.filterMap_cons,hf]; exact List.mem_cons_self) o ho
  exact ⟨hk,⟨L,_,hf,hn,e,hd⟩,io (fun b hb=>k b (by unfold frs; rw [List.filterMap_cons,hf]; exact List.mem_cons_of_mem _ hb)) hr⟩
theorem jc (I:Inv X pins σ H1 s1) (ex:X.ex=[]) (os:s'.os=s1.os) (bare:AllBare s'.gens) (un:Un (frs X.stack) [] H1 H' s1.heap s'.heap) (hok:HOk X.prog X.w H' s'.heap) {a T:Addr} (ha:H' a=none) (hT:H' T=none) (na:s1.heap.get? a=none) (nT:s1.heap.get? T=none)
  {h:Heap} {tk:Nat} (hk:∀ b o,s'.heap.get? b=some o→b ∉ frs X.stack→b≠a→b≠T→h.get? b=some o) (hf:∀ b∈frs X.stack,∀ o,s'.heap.get? b=some o→∃ sl,h.get? b=some { o with slots:=sl }) :
  Inv X pins σ H' { heap:=h,gens:=s'.gens,drawn:=s'.drawn,toks:=tk,os:=s'.os }:=by
 have fn:∀ b∈frs X.stack,H' b=none:=fun b hb=>by
  obtain ⟨o,ho,_⟩:=cH I.stack b hb
  exact un.free b o ho (I.frn ex b hb) (by simp)
 have ne:∀ b o,s1.heap.get? b=some o→b≠a∧b≠T:=fun b o q=>⟨fun z=>(by rw [z,na] at q; cases q),fun z=>(by rw [z,nT] at q; cases q)⟩
 have u2:Un (frs X.stack) [] H1 H' s1.heap h:=un.behind (fun b o' q0 o q hb=>hk b o q hb (ne b o' q0).1 (ne b o' q0).2) fun b o' q0 o q hb=>hf b hb o q
 have ho:HOk X.prog X.w H' h:=hok.tracked fun b u hb q=>hk b u q (fun z=>hb (fn b z)) (fun z=>hb (by rw [z]; exact ha)) fun z=>hb (by rw [z]; exact hT)
 rw [os]
 exact I.call (ch:=[]) u2 ho bare fun _ z=>by cases z
abbrev Cx.suite (X:Cx) (v:Value) (xe:Value→Shared→Prop):Cx:={ X with A:=X.A.mark (some v),calm:=false,xe:=xe }
theorem Inv.suite (I:Inv X pins σ H s) (v:Value) (xe:Value→Shared→Prop):Inv (X.suite v xe) pins σ H s :=
 ⟨⟨I.ok.mod,I.ok.kind,I.ok.glob,I.ok.blt,I.ok.above,I.ok.inj,I.ok.has,I.ok.cab,fun z=>(nomatch z),I.ok.frames,I.ok.stk,I.ok.exf,I.ok.bs,I.ok.bsz,I.ok.noex,I.ok.exfs,I.ok.funs,I.ok.frf⟩,I.os,I.bare,I.base,I.loc,I.cell,I.free,I.freeC,I.pin,I.hok,I.len⟩
theorem Inv.unsuite {v:Value} {xe:Value→Shared→Prop} (hd:X.calm=true→X.A.handled=none) (I:Inv (X.suite v xe) pins σ H s):Inv X pins σ H s :=
 ⟨⟨I.ok.mod,I.ok.kind,I.ok.glob,I.ok.blt,I.ok.above,I.ok.inj,I.ok.has,I.ok.cab,hd,I.ok.frames,I.ok.stk,I.ok.exf,I.ok.bs,I.ok.bsz,I.ok.noex,I.ok.exfs,I.ok.funs,I.ok.frf⟩,I.os,I.bare,I.base,I.loc,I.cell,I.free,I.freeC,I.pin,I.hok,I.len⟩
end
end L2
namespace L2
open PySem PySem.Spec PyProof.Rows
def lE (K:PySem.W.Frag) (C C':Addr):Bool:=match K.lookup C with
 | some o=>match o.data with
  | .cls cd=>cd.mro.tail.contains (.ref C')
  | _=>false
 | none=>false
section
variable {X:Cx} {pins:List (Addr × Obj)} {σ:St} {H H1 H':Hp} {s s1 s':Shared} {E:XK} {D:Ends}
end
end L2
namespace L2
open PySem PySem.Spec PyProof.Rows
abbrev MX:=En→Option Unit
structure Reach (H:Hp) (R:Nat→AS) (H':Hp):Prop where
 keep:∀ a o,H a=some o→(∀ i,¬ R i a)→H' a=some o
 dom:∀ a o,H a=some o→∃ o',H' a=some o'
section
variable {X:Cx} {K:PySem.W.Frag} {p:Bool} {J:Jd} {ds ds0 ds1 ds' dps:List Nat} {H H' H'':Hp} {σ σ':St} {Dn:Ends} {R R':Nat→AS} {Ox F:AS} {en en':En} {m:MX} {Z:Hp→Prop} {f:MS} {cm:MT} {st:Stmt} {sts body els:List Stmt} {c:Expr} {pos np cpos p2:Pos} {E:XK}
theorem Reach.post (P:Post K p ds' Ox σ H en R en' H' R' F) (r:Reach H' R' H''):Reach H R H'' :=
 ⟨fun a o q n=>r.keep a o (P.keep a o q n) fun i z=>(P.own a (.inr ⟨i,z⟩)).elim (fun ⟨j,w⟩=>n j w) fun w=>(by rw [q] at w; cases w),fun a o q=>let ⟨o',q'⟩:=P.dom a o q; r.dom a o' q'⟩
end
section
variable {P:Program} {w:World} {K:PySem.W.Frag} {mg:Str→Option Value} {base:Heap}
def KnX (P:Program) (w:World) (K:PySem.W.Frag) (mg:Str→Option Value) (base:Heap) (k:Nat) (x:Str) (ps:List Str) (sp:Sp):Prop :=
 ∃ f fd,FnOk P w K mg base (CXr P w) k f fd ps sp∧mg x=some (.ref f)∧PySem.W.keepIn K (.ref f)=true∧Binds K fd ps []
theorem KnX.mono {j k:Nat} {x:Str} {ps:List Str} {sp:Sp} (G:KnX P w K mg base j x ps sp) (h:j≤k):KnX P w K mg base k x ps sp :=
 let ⟨f,fd,a,b,c,d⟩:=G
 ⟨f,fd,a.mono h,b,c,d⟩
theorem tu {N:List Str} {qual:Str} {scope:Scope} {f:Addr} {cd:Value} {A:Around} {outer:List Env} {s:Shared} {H:Hp} {E:XK}:Rsx (gP (CXr P w) P w K mg base N qual scope f cd A outer s H E) E:=⟨rfl,rfl,rfl,rfl,rfl⟩
end
end L2
namespace L2
open PySem PySem.Spec PyProof.Rows
section
variable {X:Cx} {K:PySem.W.Frag} {J:Jd} {ds ds1 ds' dps:List Nat} {sh:Sh} {fa:MA} {F:List D→Option (D × En)} {Rz:List D→Option Unit} {C C':Addr} {bmB:List Value} {newId newId':String} {fx x y:Str} {ps:List Str} {e:Expr} {es:List Expr} {xp fp cp ap yp hp np2 xp2 ap2 pos:Pos} {i j k:Nat}
theorem Ic {pins:List (Addr × Obj)} {σ:St} {H:Hp} {s:Shared} {Q:VK} {E:XK} {sp:Sp} {t:TA} (GX:KnX X.prog X.w X.K X.mg X.base k fx ps sp) (hr:Room k X.A) (hg:Gl X fx) (ha:PA X (e :: es) t) (hdb:(fx == ("__debug__" : Str))=false) (he:aN e=true) (hpl:es.all aN=true)
  (I:Inv X pins σ H s) (h:t σ H fun vs H1=>sp (vs++[]) H1 Q E) (hx:∀ H1 s1 ev s',Inv X pins σ H1 s1→CXr X.prog X.w X.stack H1 s1 E ev s'→X.xe ev s') :
  wpAny (model X.prog X.w) X.A (eval (.Call (.Name fx fp) (e :: es) [] cp) X.env) (EP X pins σ Q) X.xe s:=by
 obtain ⟨f,fd,Ff,hm,hk,hb⟩:=GX
 refine wpAny_Call_Name_kw (iM I hg hm ?_ hdb)
 refine PySem.W.callWith_K (h₀:=X.base) I.ok.mod.kin hk (thn (ha cp pins s σ H _ I h) fun us s1 ⟨vs,H1,I1,r,q⟩=>⟨I1.kIn,?_⟩) (bv he) (db hpl)
 have r2:Vals (vs++[]) (us++[]):=r.append .nil
 have hl:(us++[]).length=ps.length:=by rw [← r2.length]; exact Ff.len _ _ _ _ q
 refine wpAny_call (codeAny_mono (Ff.run X.A X.stack s1 H1 ⟨us,[]⟩ (us++[]) (vs++[]) Q E hr I1.env0 (hb s1 us I1.kIn hl) r2 q) fun r s' hq=>?_)
 cases r with
 | error ev=>exact hx H1 s1 ev s' I1 hq
 | ok fl =>
  cases fl with
  | ret u=>exact I1.after hq
  | next=>exact False.elim hq
  | brk=>exact False.elim hq
  | cont=>exact False.elim hq
def n8 (X:Cx) (pins:List (Addr × Obj)) (Dn:Ends) (hs:List ExceptHandler):Value→Shared→Prop:=fun ev s' =>
 wpAny (model X.prog X.w) X.A (noteFrame ev X.env) (fun _ s2=>wpAny (model X.prog X.w) X.A (setFlight ev none) (fun _ s3=>wpAny (model X.prog X.w) X.A (handleBy ev X.env hs) (SP X pins Dn) X.xe s3) X.xe s2) X.xe s'
end
def vE:List Value:=[.type "ValueError",.type "Exception",.type "BaseException",.type "object"]
theorem BA:vE.contains (Value.type "BaseException")=true:=by decide
section
variable {P:Program} {w:World} {K:PySem.W.Frag} {mg:Str→Option Value} {base h:Heap} {k dr:Nat} {x:Str} {ps:List Str} {dps:List Nat} {f:Addr} {st:Stmt} {sp:Sp}
theorem Df.knX (d:Df K x st f) (X:K.In h) (G:h.Ns mainGlobals mg) (b:∀ (kV doc pm:Value) (an:Option Addr) (cdv ct:Value) (us:List Value),us.length=ps.length→bindArgs (PySem.W.fnOf x x (dC st) (b7 st) (aq st) .none kV doc pm an cdv ct) ⟨us,[]⟩=pure (ps.zip us))
  (ok:∀ fd,Fun K x x st f fd→FnOk P w K mg base (CXr P w) k f fd ps sp):KnX P w K mg base k x ps sp:=by
 obtain ⟨_,_,_,_,_,_,_,_,_,l,c⟩:=d.l
 have F:=pb (st:=st) l c d.k
 exact ⟨_,_,ok _ F,PySem.W.mg_of X G d.a,d.k,F.binds b⟩
end
end L2
namespace L2
open PySem PySem.Spec PyProof.Rows
section
variable {M:Model} {A:Around} {E:Value→Shared→Prop} {s:Shared}
theorem sE {es:Array DictEntry} {i:Nat} (hi:i < es.size) (x:Str) (hx:(es[i]).key.isStr x=false):((es.eraseIdx i hi).find? fun e=>e.key.isStr x)=es.find? fun e=>e.key.isStr x:=by
 obtain ⟨l⟩:=es
 have key:∀ (l:List DictEntry) (i:Nat) (h:i < l.length),(l[i]).key.isStr x=false→((l.eraseIdx i).find? fun e=>e.key.isStr x)=l.find? fun e=>e.key.isStr x:=by
  intro l
  induction l with
  | nil=>intro i h; simp at h
  | cons a l ih =>
   intro i h hx
   cases i with
   | zero =>
    have hx':a.key.isStr x=false:=hx
    rw [List.eraseIdx_zero,List.tail_cons,List.find?_cons,hx']
   | succ i =>
    rw [List.eraseIdx_cons_succ,List.find?_cons,List.find?_cons,ih i (by simpa using h) hx]
 have:=key l i (by simpa using hi) (by simpa using hx)
 simpa using this
theorem tN {a:Addr} {m:Str→Option Value} {name:Str} {Q:Bool→Shared→Prop} (hn:s.heap.Ns a m) (hs:(m name).isSome=true)
  (hQ:∀ h' m',h'.Ns a m'→(∀ x,x≠name→m' x=m x)→Heap.SameBut a s.heap h'→Q true { s with heap:=h' }):wpAny M A (nsDel a name) Q E s:=by
 obtain ⟨o,es,ep,ho,hd,hk,hm⟩:=id hn
 have hany:es.any (·.refKey)=false:=by
  rw [Array.any_eq_false']; intro e he; obtain ⟨n,t,h⟩:=hk e he; simp [DictEntry.refKey,h]
 have hf:(es.any fun e=>e.key.isStr name)=true:=by
  rw [← hm name] at hs
  simp only [nsFind,findBy,Option.isSome_map] at hs
  rw [Array.find?_isSome] at hs
  obtain ⟨x,hx,hp⟩:=hs
  obtain ⟨i,hi,rfl⟩:=Array.mem_iff_getElem.mp hx
  exact Array.any_eq_true.mpr ⟨i,hi,hp⟩
 have hhas:nsHas name o=pure true:=by
  rw [nsHas_eq]; unfold nsHasByArray; rw [hd]
  show (if (es.any fun x=>x.key.isStr name)=true then _ else _)=_
  rw [if_pos hf]
 unfold nsDel
 refine wpAny_bind (wpAny_loadPart ho ?_)
 rw [hhas]
 refine wpAny_bind (wpAny_pure ?_)
 refine wpAny_bind (wpAny_updatePart ho (wpAny_pure ?_))
 obtain ⟨cl,d,dt,sl⟩:=o
 subst hd
 cases hi:es.findIdx? (·.key.isStr name) with
 | none =>
  exfalso
  rw [Array.findIdx?_eq_none_iff] at hi
  obtain ⟨i,h,hp⟩:=Array.any_eq_true.mp hf
  have:=hi _ (Array.getElem_mem h)
  rw [hp] at this
  cases this
 | some i =>
  obtain ⟨hlt,hp,_⟩:=Array.findIdx?_eq_some_iff_getElem.mp hi
  refine hQ _ (fun x=>findBy (fun k v=>v.isStr k) (es.eraseIdxIfInBounds i) x) ⟨_,es.eraseIdxIfInBounds i,ep+1,Heap.get?_update_self _ ho (by simp only [Obj.dropName_eq,Obj.dropNameByArray,hi] <;> rfl),(by simp only [Obj.dropName_eq,Obj.dropNameByArray,hi] <;> rfl),hk.erase i,fun _=>rfl⟩ (fun x hx=>?_) (Heap.SameBut.update ..)
  rw [← hm x]
  show _=findBy (fun k v=>v.isStr k) es x
  unfold findBy
  have hne:(es[i]).key.isStr x=false:=by
   obtain ⟨n,t,hkey⟩:=hk _ (Array.getElem_mem hlt)
   rw [hkey] at hp ⊢
   have e1:n=name:=by simpa [Value.isStr] using hp
   have:n≠x:=fun z=>hx (by rw [← z,e1])
   simpa [Value.isStr] using this
  have e2:es.eraseIdxIfInBounds i=es.eraseIdx i hlt:=by
   unfold Array.eraseIdxIfInBounds
   rw [dif_pos hlt]
  rw [e2,sE hlt x hne]
end
section
variable {X:Cx} {pins:List (Addr × Obj)} {σ σ':St} {H:Hp} {s:Shared}
theorem B4 {h':Heap} {m':Str→Option Value} {t:Nat} (I:Inv X pins σ H s) (hs:Heap.SameBut X.env.locals s.heap h') (hn:h'.Ns X.env.locals m') (hl:σ'.length=X.N.length)
  (k:∀ (j:Nat) (y:Str) (v:V),X.N[j]?=some y→σ'[j]?=some (some v)→Vis X.env.scope y→∃ u,RelV v u∧G3 X.env h' m' y u):Inv X pins σ' H { s with heap:=h',toks:=t }:=by
 obtain ⟨m,hn0,hl0⟩:=id I.loc
 obtain ⟨oL,_,_,hoL,_⟩:=id hn0
 have hok:HOk X.prog X.w H h':=fun b ob e=>by
  refine (I.hok b ob e).stay (fun c w' hc q=>(hs.2 c ?_).trans q) (fun _ q=>q) fun _ _ q=>q
  rintro rfl
  rcases hc with z | hc
  ·subst z; rw [I.free] at e; cases e
  ·rw [I.free] at hc; cases hc
 refine ⟨I.ok,I.os,I.bare,⟨fun b o e n hb hx=>?_,fun b o e n hb hx=>?_,I.base.free,fun b o e hx=>?_,I.base.tups,I.base.frzs,I.base.tbls⟩,⟨_,hn,k⟩,fun y c e=>?_,I.free,I.freeC,fun p hp=>?_,hok,hl⟩
 ·exact (hs.2 b (Nat.ne_of_lt (Nat.lt_of_lt_of_le (Heap.lt_size e) I.ok.above))).trans (I.base.keep b o e n hb hx)
 ·obtain ⟨sl,e1⟩:=I.base.slot b o e n hb hx
  exact ⟨sl,(hs.2 b (Nat.ne_of_lt (Nat.lt_of_lt_of_le (Heap.lt_size e) I.ok.above))).trans e1⟩
 ·obtain ⟨o',e1⟩:=I.base.there b o e hx
  exact ⟨o',(hs.2 b (Nat.ne_of_lt (Nat.lt_of_lt_of_le (Heap.lt_size e) I.ok.above))).trans e1⟩
 ·obtain ⟨w',z⟩:=I.cell y c e
  exact ⟨w',z.sameBut hs (I.cne y c e)⟩
 ·obtain ⟨e,n,ne,nf,d⟩:=I.pin p hp
  exact ⟨(hs.2 p.1 ne).trans e,n,ne,nf,d⟩
theorem tO {M:Model} {A:Around} {E:Value→Shared→Prop} {i:Nat} {n:Str} {pos:Pos} {Q:Unit→Shared→Prop} (I:Inv X pins σ H s) (hN:X.N.Nodup) (hi:X.N[i]?=some n) (hk:X.env.kindOf n=some .local)
  (h:∀ s',Inv X pins (σ.set i none) H s'→Q () s'):wpAny M A (do bindName X.env n .none; unbindBehindTheSuite X.env n pos) Q E s:=by
 obtain ⟨m,hn,hl⟩:=id I.loc
 have hp:(X.env.scope.kind == .class || (X.env.scope.kind == .module && X.env.locals != X.env.globals))=false:=by rw [I.ok.kind]; rfl
 refine wpAny_bind (wpAny_bindName (wpAny_storeName_local hk hn (fun h₁ hn₁ hs₁=>?_) hp))
 unfold unbindBehindTheSuite
 refine wpAny_onRaise ?_
 unfold unbindName
 refine wpAny_bind (wpAny_point (wpAny_bind ?_))
 unfold deleteName
 simp only [hk,hp]
 rw [if_neg (by decide)]
 refine wpAny_bind (tN hn₁ (by simp) fun h₂ m₂ hn₂ hm₂ hs₂=>?_)
 simp only [if_true,Bool.not_true,Bool.false_eq_true,if_false]
 refine wpAny_pure (wpAny_point (h _ ?_))
 refine B4 I (hs₁.trans hs₂) hn₂ (by rw [List.length_set]; exact I.len) fun j y v e1 e2 e3=>?_
 have hiσ:i < σ.length:=by rw [I.len]; exact (List.getElem?_eq_some_iff.mp hi).1
 by_cases hj:j=i
 ·subst hj
  rw [List.getElem?_set_self hiσ] at e2
  cases e2
 ·rw [List.getElem?_set_ne (Ne.symm hj)] at e2
  obtain ⟨u',r',q⟩:=hl j y v e1 e2 e3
  refine ⟨u',r',?_⟩
  rcases q with ⟨kk,e⟩ | ⟨kk,c,e,z⟩
  ·refine .inl ⟨kk,?_⟩
   have ne:y≠n:=fun e=>hj (lu hN e1 (e ▸ hi))
   rw [hm₂ y ne]
   simp [ne,e]
  ·exact .inr ⟨kk,c,e,(z.sameBut hs₁ (I.cne y c e)).sameBut hs₂ (I.cne y c e)⟩
end
end L2
namespace L2
open PySem PySem.Spec PyProof.Rows
section
variable {X:Cx} {pins:List (Addr × Obj)} {σ:St} {H H1 H':Hp} {s s1 s':Shared} {E:XK}
structure XOut (X:Cx) (E:XK):Prop where
 out:∀ {pins σ H1 s1 ev s'},Inv X pins σ H1 s1→CXr X.prog X.w X.stack H1 s1 E ev s'→X.xe ev s'
def mB (X:Cx) (pins:List (Addr × Obj)) (σ:St) (E:XK):Prop:=∀ H1 s1 ev s',Inv X pins σ H1 s1→CXr X.prog X.w X.stack H1 s1 E ev s'→X.xe ev s'
theorem XOut.at (O:XOut X E):mB X pins σ E:=fun _ _ _ _ I hc=>O.out I hc
theorem XOut.of (R:Rsx X E) (hfs:X.fs=frs X.outer):XOut X E:=⟨fun {pins σ H1 s1 ev s'} I hc=>by
 obtain ⟨a,T,C,H',rfl,hE,os,bare,un,hok,ha,hT,na,nT,⟨oe,vs,a0,q1,q2,q3,q4,q5⟩,⟨oT,ts,q6,q7,q8⟩,hne⟩:=hc
 rw [R.xe]
 have fh:s'.heap.FunFrames X.base X.stack:=io (fun b hb o ho=>un.any ho (I.frn R.ex b hb) (by simp)) I.stack
 have fB:s'.heap.FunFrames (gI s'.heap (frs X.stack++[a,T])) X.stack:=hZ fh fun b hb=>cG (List.mem_append_left _ hb)
 have frames:X.A.frames=some (X.env :: X.outer):=by rw [← R.stk]; exact I.ok.frames
 refine wpAny_leaving_nextW (base:=gI s'.heap (frs X.stack++[a,T])) (cls:=.ref C) (a0:=a0) frames (by rw [← R.stk]; exact fB) R.fr ⟨oe,vs,T,oT,ts,q1,⟨q2,q4⟩,q3,q5,cG (by simp),hne,q6,q7,q8⟩ (fun b o q=>(kA q).1) (cG (by simp)) fun h2 ⟨st2,f2,⟨oe3,vs3,T3,oT3,ts3,g1,⟨g2,g3⟩,g4,g5,g6,g7,g8,g9,g10⟩,nf2⟩=>?_
 have old:∀ b o,s'.heap.get? b=some o→b ∉ frs X.stack→b≠a→b≠T→h2.get? b=some o:=fun b o q z1 z2 z3=>st2 b o (fc q fun z=>by
  rcases List.mem_append.mp z with z | z
  ·exact z1 z
  ·have z':b=a∨b=T:=by simpa using z
   exact z'.elim z2 z3)
 have I2:Inv X pins σ H' { heap:=h2,gens:=s'.gens,drawn:=s'.drawn,toks:=s'.toks,os:=s'.os }:=jc I R.ex os bare un hok ha hT na nT old fun b hb o q=>by
  obtain ⟨o2,z1,z2⟩:=cH fh b hb
  rw [q] at z1
  cases z1
  exact nf2 b o q z2
 have un2:=I2.base
 rw [R.ex,hfs] at un2
 have un1:=I.base
 rw [R.ex] at un1
 have back:∀ b,s1.heap.get? b=none→X.s₀.heap.get? b=none:=fun b q=>by
  cases q2:X.s₀.heap.get? b with
  | none=>rfl
  | some o =>
   obtain ⟨o',z⟩:=un1.there b o q2 (by simp)
   rw [q] at z
   cases z
 have hT3:H' T3=none∧X.s₀.heap.get? T3=none:=by
  by_cases e:T3=T
  ·rw [e]; exact ⟨hT,back T nT⟩
  ·have n3:s'.heap.get? T3=none:=by
    cases q:s'.heap.get? T3 with
    | none=>rfl
    | some o =>
     have hm:T3∈frs X.stack++[a,T]:=Decidable.byContradiction fun hn=>by
      rw [fc q hn] at g6
      cases g6
     rcases List.mem_append.mp hm with z | z
     ·obtain ⟨o2,z1,z2⟩:=cH fh T3 z
      rw [q] at z1
      cases z1
      obtain ⟨sl,z3⟩:=nf2 T3 o q z2
      rw [g8] at z3
      cases z3
      exact absurd g9 (z2 ts3)
     ·have z':T3=a∨T3=T:=by simpa using z
      exact absurd (z'.resolve_right e) g7
   refine ⟨hok.none n3,back T3 ?_⟩
   cases q:s1.heap.get? T3 with
   | none=>rfl
   | some o =>
    obtain ⟨o',z⟩:=un.there T3 o q (by simp)
    rw [n3] at z
    cases z
 exact ⟨a,T3,C,H',rfl,hE,I2.os,bare,un2,I2.hok,ha,hT3.1,back a na,hT3.2,⟨⟨oe3,vs3,a0,g1,g2,g4,g3,g5⟩,⟨oT3,ts3,g8,g9,g10⟩,g7⟩⟩⟩
end
abbrev MN:=En→Option Str
def tX (K:PySem.W.Frag) (ds:List Nat) (m:MN) (cl:Str→Addr) (E:XK):TS:=fun _ σ H=>∃ Ox en R x,EnvOk K ds Ox H σ en R∧m en=some x∧∀ H',Reach H R H'→E (.ref (cl x)) none H'
def FG (x:Str):MN:=fun _=>some x
def nNo:MN:=fun _=>none
def nIf (c:MT) (m1 m2:MN):MN:=fun en=>(c en).bind fun r=>if r.1 then m1 r.2 else m2 r.2
def fC (Rz:List D→Option Str) (fa:MA):MN:=fun en=>(fa en).bind fun r=>(bZ r.1 r.2).bind Rz
def fnN (n:Nat) (b:MN):List D→Option Str:=fun ts=>b (ts.map some++List.replicate n none)
def rzN (dps:List Nat) (Rz:List D→Option Str):List D→Option (D × En):=fun ts=>(Rz ts).map fun x=>(.str x,dps.map fun _=>none)
def spN (K:PySem.W.Frag) (dps:List Nat) (cl:Str→Addr) (Rz:List D→Option Str):Sp:=fun vs H _ E=>spF K dps 3 (rzN dps Rz) vs H (fun v H'=>∃ x,v=.str x∧E (.ref (cl x)) none H') E
section
variable {X:Cx} {K:PySem.W.Frag} {p:Bool} {J:Jd} {ds ds0 ds1 ds' dps:List Nat} {H H' H'':Hp} {σ σ':St} {Dn:Ends} {R R':Nat→AS} {Ox F:AS} {en en':En} {m m1 m2:MN} {f:MS} {cm:MT} {st:Stmt} {sts body els:List Stmt} {c:Expr} {pos np cpos p2 fp cp ap xp:Pos} {E:XK} {cl:Str→Addr} {sh:Sh} {fa:MA} {Rz:List D→Option Str} {e:Expr} {es:List Expr} {fx x:Str} {ps:List Str} {k:Nat}
theorem vS {x z:Str} {j:Nat} {bmB:List Value} {B newId initId:String} (R:Rsx X E) (hb:ExcBaseFacts B newId initId bmB) (hx:PySem.W.excIn X.K (cl x) bmB newId=true) (hg:Gl X x) (hm:X.mg x=some (.ref (cl x))) (hdb:(x == ("__debug__" : Str))=false) :
  QS X (.Raise (some (.Call (.Name x np) [.Constant (.str z) j p2] [] cpos)) none pos) (tX K ds (FG x) cl E) :=
 ⟨fun pins s σ H D I ⟨Ox,en,R0,y,e,hy,k⟩=>by
  cases hy
  exact u9 R hb hx hg hm (b4 pe_str pa_nil) hdb rfl pins s σ H D I ⟨by show 1≤sizeLine; decide,k H ⟨fun _ _ q _=>q,fun _ o q=>⟨o,q⟩⟩⟩⟩
theorem HE:QSs X sts (tX K ds nNo cl E):=⟨fun pins s σ H D I ⟨Ox,en,R,y,e,hy,k⟩=>by cases hy⟩
theorem HF (hc:QT X.nox c (tFT K p ds ds1 cm)) (ha:QSs X body (tX K ds1 m1 cl E)) (hb:QSs X els (tX K ds1 m2 cl E)):QS X (.If c body els pos) (tX K ds (nIf cm m1 m2) cl E) :=
 ⟨fun pins s σ H D I ⟨Ox,en,R,y,e,hm,k⟩=>A6 hc.h.nox ha.h hb.h pins s σ H D I (by
  unfold nIf at hm
  obtain ⟨⟨b,en1⟩,h1,h2⟩:=Option.bind_eq_some_iff.mp hm
  cases b with
  | false=>exact ⟨Ox,en,R,false,en1,e,h1,fun H' R' P=>⟨Ox,en1,R',y,P.env0,h2,fun H'' r=>k H'' (r.post P)⟩⟩
  | true=>exact ⟨Ox,en,R,true,en1,e,h1,fun H' R' P=>⟨Ox,en1,R',y,P.env0,h2,fun H'' r=>k H'' (r.post P)⟩⟩)⟩
theorem l8 (h:QS X st (tX K ds m cl E)):QSs X (st :: sts) (tX K ds m cl E) :=
 ⟨fun pins s σ H D I q=>oz h.h tz pins s σ H D I q⟩
theorem k9 {pins:List (Addr × Obj)} {s:Shared} (O:mB X pins σ E) (GX:KnX X.prog X.w X.K X.mg X.base k fx ps (spN K dps cl Rz)) (hr:Room k X.A) (hgf:Gl X fx) (ha:QA X (e :: es) (tFA K true ds ds1 sh fa)) (hcd:dD ds1 sh dps=true) (hdf:(fx == ("__debug__" : Str))=false) (he:aN e=true) (hpl:es.all aN=true)
  (I:Inv X pins σ H s) (h:tX K ds (fC Rz fa) cl E Dn σ H):wpAny (model X.prog X.w) X.A (eval (.Call (.Name fx fp) (e :: es) [] cp) X.env) (EP X pins σ fun _ _=>False) X.xe s:=by
 obtain ⟨Ox,en,R,y,ee,hm,kk⟩:=h
 unfold fC at hm
 obtain ⟨⟨as,en1⟩,h1,hm⟩:=Option.bind_eq_some_iff.mp hm
 obtain ⟨ts,h2,hR⟩:=Option.bind_eq_some_iff.mp hm
 have hz:ar (rzN dps Rz) fa en=some (.str y,wb as (dps.map fun _=>none) en1):=by
  unfold ar rzN
  rw [h1]
  show (bZ as en1).bind _=_
  rw [h2]
  show ((Rz ts).map _).map _=_
  rw [hR]
  rfl
 have tf:tF K (true && gF sh) ds ds1 3 (ar (rzN dps Rz) fa) σ H (fun v H'=>∃ x,v=.str x∧E (.ref (cl x)) none H'):=⟨Ox,en,R,_,_,ee,hz,fun v H' R' Fz P o=>⟨y,o,kk H' ⟨P.keep,P.dom⟩⟩⟩
 exact Ic (Q:=fun _ _=>False) (E:=E) GX hr hgf ha.h hdf he hpl I (v5 (E:=E) hcd tf) fun H1 s1 ev s' I1 hc=>O H1 s1 ev s' I1 hc
theorem ph (O:XOut X E) (GX:KnX X.prog X.w X.K X.mg X.base k fx ps (spN K dps cl Rz)) (hr:Room k X.A) (hgf:Gl X fx) (ha:QA X (e :: es) (tFA K true ds ds1 sh fa)) (hcd:dD ds1 sh dps=true) (hdf:(fx == ("__debug__" : Str))=false) (he:aN e=true) (hpl:es.all aN=true) :
  QS X (.Expr (.Call (.Name fx fp) (e :: es) [] cp) ap) (tX K ds (fC Rz fa) cl E) :=
 ⟨fun pins s σ H D I h=>wpAny_Expr (thn (k9 O.at GX hr hgf ha hcd hdf he hpl I h) fun v s1 ⟨_,_,_,_,z⟩=>False.elim z) I.quiet⟩
end
section
variable {K:PySem.W.Frag} {dps:List Nat} {cl:Str→Addr} {H:Hp} {Dn:Ends} {E:XK} {P:Program} {w:World} {mg:Str→Option Value} {base:Heap}
theorem BU {N:List Str} {vs:List V} {n:Nat} {b:MN} {Q:VK} (hn:N.length - dps.length=n) (h:spN K dps cl (fnN n b) vs H Q E):tX K (dps++List.replicate n 0) b cl E Dn (cA N vs) H:=by
 obtain ⟨Ox,ts,R,r,outs,e,hf,k⟩:=h
 have lv:dps.length=vs.length:=by have:=e.l2; rw [List.length_map] at this; exact this
 have lt:ts.length=vs.length:=by have:=e.l1; rw [List.length_map,List.length_map] at this; exact this
 have hs:cA N vs=vs.map some++List.replicate n none:=by unfold cA; rw [← lv,hn]
 obtain ⟨u,h1,hf⟩:=Option.map_eq_some_iff.mp hf
 cases hf
 have get0:∀ {α:Type} (xs:List α) (i:Nat) (u:α),(xs.map some++List.replicate n none)[i]?=some (some u)→(xs.map some)[i]?=some (some u)∧i < xs.length:=fun xs i u z=>by
  by_cases hi:i < xs.length
  ·rw [List.getElem?_append_left (by rw [List.length_map]; exact hi)] at z
   exact ⟨z,hi⟩
  ·rw [List.getElem?_append_right (by rw [List.length_map]; omega),List.getElem?_replicate] at z
   split at z
   ·cases z
   ·cases z
 have kk:∀ H',Reach H R H'→E (.ref (cl u)) none H':=fun H' r=>by
  have w:∃ x,V.str u=V.str x∧E (.ref (cl x)) none H':=by
   refine k (.str u) H' (fun _=>NoA) NoA ⟨⟨fun i u hu=>?_,fun _ _ _ z=>z.elim,fun _ _ z=>z.elim,fun a z=>?_,by simp [lv],by simp [lv]⟩,fun _ z=>z.elim,r.keep,fun a z=>?_,r.dom,fun z=>nomatch z⟩ rfl
   ·rw [List.getElem?_map] at hu
    cases q:dps[i]? with
    | none=>rw [q] at hu; cases hu
    | some d=>rw [q] at hu; cases hu
   ·rcases z with ⟨_,z⟩ | z | z
    ·exact z.elim
    ·exact z.elim
    ·obtain ⟨o,q⟩:=e.dom a (.inr z)
     exact r.dom a o q
   ·rcases z with z | ⟨_,z⟩
    ·exact z.elim
    ·exact z.elim
  obtain ⟨x,e1,e2⟩:=w
  cases e1
  exact e2
 refine ⟨Ox,ts.map some++List.replicate n none,R,u,?_,h1,kk⟩
 rw [hs]
 refine ⟨fun i u hu=>?_,e.dj,e.dx,e.dom,by simp [lt],by simp [lv]⟩
 obtain ⟨hu',hi⟩:=get0 ts i u hu
 obtain ⟨v,d,g1,g2,g3⟩:=e.at_ i u hu'
 refine ⟨v,d,?_,?_,g3⟩
 ·rw [List.getElem?_append_left (by rw [List.length_map]; omega)]; exact g1
 ·rw [List.getElem?_append_left (by omega)]; exact g2
theorem Fun.okN {x qual:Str} {st:Stmt} {f:Addr} {fd:FuncData} {N ps:List Str} {k n:Nat} {ds0:List Nat} {b:MN} (F:Fun K x qual st f fd) (S:FnScope N ps (aq st)) (hl:dps.length=ps.length) (hn:N.length - dps.length=n) (hd:ds0=dps++List.replicate n 0)
  (hb:∀ (cdv:Value) (A:Around) (outer:List Env) (s:Shared) (H:Hp) (E:XK),Room k (A.deeper (envOfC qual (aq st) s.heap.objs.size f cdv))→Rsx (gP (CXr P w) P w K mg base N qual (aq st) f cdv A outer s H E) E→XOut (gP (CXr P w) P w K mg base N qual (aq st) f cdv A outer s H E) E →
   QSs (gP (CXr P w) P w K mg base N qual (aq st) f cdv A outer s H E) (b7 st) (tX K ds0 b cl E)):FnOk P w K mg base (CXr P w) (k+1) f fd ps (spN K dps cl (fnN n b)):=by
 subst hd
 obtain ⟨oc,od,kV,doc,pm,an,cdv,ct,osl,rfl,lk,hcd⟩:=F.ex
 refine Bn lk hcd S (fun vs H Q E h=>qG hl h) fun A outer s H vs Q E hr hsp=>?_
 exact ⟨_,(hb cdv A outer s H E hr tu (XOut.of tu rfl)).h,BU hn hsp⟩
end
end L2
namespace L2
open PySem PySem.Spec PyProof.Rows
def mW (x:Str):D:=.dict [(.none,.str x)]
section
variable {fs ex:List Addr} {H H1 H':Hp} {h h1 h2:Heap} {a C:Addr} {o:HO} {P:Program} {w:World}
theorem Un.more (u:Un fs ex H1 H' h1 h2) (na:h1.get? a=none) (ha:H' a=none):Un fs ex H1 (upd H' a o) h1 h2 where
 keep:=u.keep
 slot:=u.slot
 free:=fun b ob q n hx=>by
  rw [aP (fun z=>by rw [z,na] at q; cases q)]
  exact u.free b ob q n hx
 there:=u.there
 tups:=fun b xs q=>by
  have e:=u.tups b xs q
  rw [aP (fun z=>by rw [z,ha] at e; cases e)]
  exact e
 frzs:=fun b ob y q=>by
  have e:=u.frzs b ob y q
  rw [aP (fun z=>by rw [z,ha] at e; cases e)]
  exact e
 tbls:=fun b ps q=>by
  obtain ⟨more,e⟩:=u.tbls b ps q
  refine ⟨more,?_⟩
  rw [aP (fun z=>by rw [z,ha] at e; cases e)]
  exact e
theorem HOk.more (x:HOk P w H' h) (ha:H' a=Option.none) (hx:eP a C h):HOk P w (upd H' a (.ext (eP a C))) h:=fun b ob e=>by
 by_cases hb:b=a
 ·subst hb
  rw [aW] at e
  cases e
  refine ⟨hx,hx.elim fun o z=>⟨o,z.1⟩,fun g1 g2 hg k=>?_⟩
  obtain ⟨o,z1,z2⟩:=hg
  exact ⟨o,k o z1,z2⟩
 ·rw [aP hb] at e
  refine (x b ob e).stay (fun _ _ _ q=>q) (fun c q=>?_) fun c xs q=>?_
  ·rw [aP (fun z=>by rw [z,ha] at q; cases q)]; exact q
  ·rw [aP (fun z=>by rw [z,ha] at q; cases q)]; exact q
end
section
variable {X:Cx} {pins:List (Addr × Obj)} {σ:St} {H H1 H':Hp} {s s1 s':Shared} {E:XK} {D:Ends}
theorem sM {G:Str→Hp→Prop} {cl:Str→Addr} {kn:List Str} {C':Addr} {bmB:List Value} {newId newId':String} {y n:Str} {j:Nat} {yp hp:Pos} {b₀:Stmt} {suite:List Stmt} {tb:TS} {ev:Value} (Df:Dfx X) (I:Inv X pins σ H1 s1)
  (hc:CXr X.prog X.w X.stack H1 s1 (fun c _ H'=>∃ x,c=.ref (cl x)∧x∈kn∧G x H') ev s') (hx:∀ x∈kn,PySem.W.excIn X.K (cl x) bmB newId=true∧lE X.K (cl x) C'=true) (hx':PySem.W.excIn X.K C' bmB newId'=true) (hbase:bmB.contains (Value.type "BaseException")=true)
  (hg:Gl X y) (hm:X.mg y=some (.ref C')) (hdb:(y == ("__debug__" : Str))=false) (hN:X.N.Nodup) (hj:X.N[j]?=some n) (ln:Loc X.env.scope n) (kn0:X.env.scope.names.lookup n=some .local) (kn':X.env.kindOf n=some .local)
  (hsu:∀ v xe,PSs (X.suite v xe) (b₀ :: suite) tb)
  (k:∀ a x H',x∈kn→G x H'→H' a=none→tb ⟨fun σ' H2=>D.nx (σ'.set j none) H2,fun _ _=>False,fun _ _=>False,fun _ _=>False⟩ (σ.set j (some (.ref a))) (upd H' a (.ext (eP a (cl x))))) :
  n8 X pins D [.ExceptHandler (some (.Name y yp)) (some n) (b₀ :: suite) hp] ev s':=by
 obtain ⟨a,T,C0,H',rfl,⟨x,eC,hkn,hG⟩,os,bare,un,hok,ha,hT,na,nT,⟨oe,vs,a0,q1,q2,q3,q4,q5⟩,⟨oT,ts,q6,q7,q8⟩,hne⟩:=hc
 have eC':C0=cl x:=by injection eC
 subst eC'
 obtain ⟨hx,hs⟩:=hx x hkn
 unfold n8
 have fh:s'.heap.FunFrames X.base X.stack:=io (fun b hb o ho=>un.any ho (I.frn Df.ex b hb) (by simp)) I.stack
 have fB:s'.heap.FunFrames (gI s'.heap (frs X.stack++[a,T])) X.stack:=hZ fh fun b hb=>cG (List.mem_append_left _ hb)
 have frames:X.A.frames=some (X.env :: X.outer):=by rw [← Df.stk]; exact I.ok.frames
 refine wpAny_noteFrame_onW (base:=gI s'.heap (frs X.stack++[a,T])) (cls:=.ref (cl x)) (a0:=a0) frames (by rw [← Df.stk]; exact fB) Df.fr ⟨oe,vs,T,oT,ts,q1,⟨q2,q4⟩,q3,q5,cG (by simp),hne,q6,q7,q8⟩ (fun b o q=>(kA q).1) (cG (by simp)) fun h2 ⟨st2,f2,tr2,nf2⟩=>?_
 refine wpAny_setFlight_noneW (base:=gI s'.heap (frs X.stack++[a,T])) (l:=X.env :: X.outer) st2 f2 tr2 fun h3 st3 f3 ⟨oe3,vs3,T3,oT3,ts3,g1,⟨g2,g3⟩,g4,g5,g6,g7,g8,g9,g10⟩ nf3=>?_
 have nf4:∀ b∈frs X.stack,∀ o,s'.heap.get? b=some o→∃ sl,h3.get? b=some { o with slots:=sl }∧∀ vs,o.data≠.fields vs:=fun b hb o q=>by
  obtain ⟨o2,z1,z2⟩:=cH fh b hb
  rw [q] at z1
  cases z1
  obtain ⟨sl,z3⟩:=nf2 b o q z2
  exact ⟨sl,nf3 b _ z3 z2,z2⟩
 have old:∀ b o,s'.heap.get? b=some o→b ∉ frs X.stack→b≠a→b≠T→h3.get? b=some o:=fun b o q z1 z2 z3=>st3 b o (fc q fun z=>by
  rcases List.mem_append.mp z with z | z
  ·exact z1 z
  ·have z':b=a∨b=T:=by simpa using z
   exact z'.elim z2 z3)
 have I3:Inv X pins σ H' { heap:=h3,gens:=s'.gens,drawn:=s'.drawn,toks:=s'.toks,os:=s'.os }:=jc I Df.ex os bare un hok ha hT na nT old fun b hb o q=>let ⟨sl,z,_⟩:=nf4 b hb o q; ⟨sl,z⟩
 obtain ⟨nm,q,N,bs,bm,hdct,sn,sub,ab,col,dd,k0,k1,k2,k3,k5,l1,l2,_,_⟩:=ly hx
 obtain ⟨nm',q',N',bs',bm',hdct',sn',sub',ab',col',dd',j0,j1,j2,j3,j5,m1,m2,_,_⟩:=ly hx'
 have hsub:bm.contains (Value.ref C')=true:=by
  unfold lE at hs
  rw [l1] at hs
  exact hs
 refine wpAny_handleBy_cons (codeAny_handlers_test (iM (X:=X.suite (.ref a) fun _ _=>False) (I3.suite _ _) hg hm ?_ hdb)) (fun z=>nomatch z)
 refine mV (I3.kIn (cl x) _ l1) (I3.kIn C' _ m1) g1 g2 (og (PySem.W.tail_of_in I3.mod.kin m2) hbase) hsub ?_
 have sz3:3 < ts3.size:=by
  rw [Array.getElem?_eq_some_iff] at g10
  exact g10.1
 refine codeAny_handlers_suite_as (wpAny_setFlight_none g1 g4 g5 g8 g9 sz3 ?_)
 have hold:∀ b o,s'.heap.get? b=some o→b ∉ frs X.stack→b≠a→b≠T→(h3.update T3 (Obj.mapFields fun x=>x.setIfInBounds 3 Value.none)).get? b=some o:=fun b o q z1 z2 z3=>by
  rw [Heap.get?_update_ne]
  ·exact old b o q z1 z2 z3
  ·rintro rfl
   have:b∈frs X.stack++[a,T]:=Decidable.byContradiction fun hn=>by
    rw [fc q hn] at g6
    cases g6
   rcases List.mem_append.mp this with z | z
   ·exact z1 z
   ·have z':b=a∨b=T:=by simpa using z
    exact z'.elim z2 z3
 have hfr:∀ b∈frs X.stack,∀ o,s'.heap.get? b=some o→∃ sl,(h3.update T3 (Obj.mapFields fun x=>x.setIfInBounds 3 Value.none)).get? b=some { o with slots:=sl }:=fun b hb o q=>by
  obtain ⟨sl,z,z2⟩:=nf4 b hb o q
  refine ⟨sl,?_⟩
  rw [Heap.get?_update_ne]
  ·exact z
  ·rintro rfl
   rw [g8] at z
   cases z
   exact z2 ts3 g9
 have I4:Inv X pins σ H' { heap:=h3.update T3 (Obj.mapFields fun x=>x.setIfInBounds 3 Value.none),gens:=s'.gens,drawn:=s'.drawn,toks:=s'.toks,os:=s'.os }:=jc I Df.ex os bare un hok ha hT na nT hold hfr
 have hxa:eP a (cl x) (h3.update T3 (Obj.mapFields fun x=>x.setIfInBounds 3 Value.none)):=by
  refine ⟨oe3,?_,g2,fun c z=>by rw [g4] at z; cases z⟩
  rw [Heap.get?_update_ne]
  ·exact g1
  ·exact Ne.symm g7
 have hok2:=I4.hok.more ha hxa
 have ne1:∀ b o,s1.heap.get? b=some o→b≠a∧b≠T:=fun b o q=>⟨fun z=>(by rw [z,na] at q; cases q),fun z=>(by rw [z,nT] at q; cases q)⟩
 have u2:Un (frs X.stack) [] H1 H' s1.heap (h3.update T3 (Obj.mapFields fun x=>x.setIfInBounds 3 Value.none)):=un.behind (fun b o' q0 o q hb=>hold b o q hb (ne1 b o' q0).1 (ne1 b o' q0).2) fun b o' q0 o q hb=>hfr b hb o q
 have I5:Inv X pins σ (upd H' a (.ext (eP a (cl x)))) { heap:=h3.update T3 (Obj.mapFields fun x=>x.setIfInBounds 3 Value.none),gens:=s'.gens,drawn:=s'.drawn,toks:=s'.toks,os:=s'.os }:=by
  rw [os]
  exact I.call (ch:=[]) (u2.more na ha) hok2 bare fun _ z=>by cases z
 refine jO (X:=X) I5 hN hj ln (v:=.ref a) rfl (fun s2 I6 _=>?_) (.inr kn0)
 refine wpAny_mono (hsu (.ref a) _ pins s2 _ _ _ (I6.suite _ _) (k a x H' hkn hG ha)) (fun f s4 z=>?_) fun e s4 z=>z
 cases f with
 | next =>
  obtain ⟨σ',H2,I7,z⟩:=z
  exact tO (I7.unsuite I.ok.hd) hN hj kn' fun s5 I8=>⟨_,_,I8,z⟩
 | ret u=>obtain ⟨_,_,_,_,_,z⟩:=z; exact z.elim
 | brk=>obtain ⟨_,_,_,z⟩:=z; exact z.elim
 | cont=>obtain ⟨_,_,_,z⟩:=z; exact z.elim
end
def hidE (kp:List Nat) (en:En):En:=en.zipIdx.map fun p=>if p.2∈kp then none else p.1
theorem vI (kp:List Nat) (en:En) (i:Nat):(hidE kp en)[i]?=(en[i]?).map fun o=>if i∈kp then none else o:=by
 unfold hidE
 rw [List.getElem?_map,List.getElem?_zipIdx]
 cases en[i]? <;> simp
section
variable {K:PySem.W.Frag} {ds:List Nat} {Ox:AS} {H H':Hp} {σ:St} {en:En} {R:Nat→AS} {kp:List Nat}
theorem EnvOk.hidE (e:EnvOk K ds Ox H σ en R) (kp:List Nat):EnvOk K ds (fun a=>Ox a∨∃ i∈kp,R i a) H σ (L2.hidE kp en) (fun i a=>i ∉ kp∧R i a):=by
 have eq:Own (fun i a=>i ∉ kp∧R i a) (fun a=>Ox a∨∃ i∈kp,R i a)=Own R Ox:=eQ fun a=>by
  constructor
  ·rintro (⟨i,_,z⟩ | z | ⟨i,_,z⟩)
   ·exact .inl ⟨i,z⟩
   ·exact .inr z
   ·exact .inl ⟨i,z⟩
  ·rintro (⟨i,z⟩ | z)
   ·by_cases hi:i∈kp
    ·exact .inr (.inr ⟨i,hi,z⟩)
    ·exact .inl ⟨i,hi,z⟩
   ·exact .inr (.inl z)
 refine ⟨fun i t q=>?_,fun i j a z1 z2=>e.dj i j a z1.2 z2.2,fun i a z z2=>?_,fun a z=>e.dom a (eq ▸ z),?_,e.l2⟩
 ·rw [vI] at q
  obtain ⟨o,q1,q2⟩:=Option.map_eq_some_iff.mp q
  by_cases hi:i∈kp
  ·rw [if_pos hi] at q2; cases q2
  ·rw [if_neg hi] at q2
   subst q2
   obtain ⟨v,d,h1,h2,h3⟩:=e.at_ i t q1
   refine ⟨v,d,h1,h2,?_⟩
   rw [eq]
   exact Ow.grow (fun _ z=>z) t (fun b z=>⟨hi,z⟩) h3
 ·rcases z2 with z2 | ⟨j,hj,z2⟩
  ·exact e.dx i a z.2 z2
  ·have:=e.dj i j a z.2 z2
   subst this
   exact z.1 hj
 ·show (L2.hidE kp en).length=_
  unfold L2.hidE
  rw [List.length_map,List.length_zipIdx]
  exact e.l1
theorem EnvOk.raised (e:EnvOk K ds Ox H σ en R) (r:Reach H (fun i a=>i ∉ kp∧R i a) H') (hd:∀ (i:Nat) d,ds[i]?=some d→d=0∨i∈kp):EnvOk K ds Ox H' σ en (fun i a=>i∈kp∧R i a):=by
 refine ⟨fun i t q=>?_,fun i j a z1 z2=>e.dj i j a z1.2 z2.2,fun i a z=>e.dx i a z.2,fun a z=>?_,e.l1,e.l2⟩
 ·obtain ⟨v,d,h1,h2,h3⟩:=e.at_ i t q
  refine ⟨v,d,h1,h2,?_⟩
  rcases hd i d h2 with h0 | hi
  ·subst h0
   refine Ow.mv (O:=Own R Ox) (H:=H) (G:=fun _=>False) ⟨fun a o q z=>r.keep a o q fun j zj=>(z.resolve_right id) (.inl ⟨j,zj.2⟩),fun a z=>.inl (z.imp (fun ⟨j,z⟩=>⟨j,z.2⟩) id)⟩ t (F:=fun _=>False) (fun _ z=>z) (Ow.any0 t h3) |> Ow.any0 t
  ·refine Ow.mv (O:=Own R Ox) (H:=H) (G:=R i) ⟨fun a o q z=>r.keep a o q fun j zj=>?_,fun a z=>.inl (z.imp (fun ⟨j,z⟩=>⟨j,z.2⟩) id)⟩ t (F:=fun a=>i∈kp∧R i a) (fun _ z=>z.2) (Ow.grow (fun _ z=>z) t (fun b z=>⟨hi,z⟩) h3)
   rcases z with z | z
   ·exact z (.inl ⟨j,zj.2⟩)
   ·have:=e.dj j i a zj.2 z
    subst this
    exact zj.1 hi
 ·obtain ⟨o,q⟩:=e.dom a (z.imp (fun ⟨i,z⟩=>⟨i,z.2⟩) id)
  exact r.dom a o q
end
end L2
namespace L2
open PySem PySem.Spec PyProof.Rows
def PXs (X:Cx) (pins:List (Addr × Obj)) (σ:St) (E:XK) (K:PySem.W.Frag) (ds:List Nat) (m:MN) (cl:Str→Addr) (sts:List Stmt):Prop :=
 ∀ s H,Inv X pins σ H s→(∀ D,tX K ds m cl E D σ H)→wpAny (model X.prog X.w) X.A (execs sts X.env) (fun _ _=>False) X.xe s
section
variable {X:Cx} {pins:List (Addr × Obj)} {σ:St} {K:PySem.W.Frag} {p:Bool} {ds ds1 dps:List Nat} {m m1 m2:MN} {cm:MT} {body els:List Stmt} {c:Expr} {pos fp cp ap xp:Pos} {E:XK} {cl:Str→Addr} {sh:Sh} {fa:MA} {Rz:List D→Option Str} {e:Expr} {es:List Expr} {fx x:Str} {ps:List Str} {k:Nat}
theorem oy (O:mB X pins σ E) (GX:KnX X.prog X.w X.K X.mg X.base k fx ps (spN K dps cl Rz)) (hr:Room k X.A) (hgf:Gl X fx) (ha:QA X (e :: es) (tFA K true ds ds1 sh fa)) (hcd:dD ds1 sh dps=true) (hdf:(fx == ("__debug__" : Str))=false) (he:aN e=true) (hpl:es.all aN=true) :
  PXs X pins σ E K ds (fC Rz fa) cl [.Expr (.Call (.Name fx fp) (e :: es) [] cp) ap]:=fun s H I h =>
 wpAny_execs_cons (wpAny_Expr (thn (k9 O GX hr hgf ha hcd hdf he hpl I (h ⟨fun _ _=>True,fun _ _=>True,fun _ _=>True,fun _ _=>True⟩)) fun v s1 ⟨_,_,_,_,z⟩=>False.elim z) I.quiet)
theorem Hg (hc:QT X.nox c (tFT K p ds ds1 cm)) (ha:PXs X pins σ E K ds1 m1 cl body) (hb:PXs X pins σ E K ds1 m2 cl els):PXs X pins σ E K ds (nIf cm m1 m2) cl [.If c body els pos]:=fun s H I h=>by
 obtain ⟨Ox,en,R,y,e,hm,k⟩:=h ⟨fun _ _=>True,fun _ _=>True,fun _ _=>True,fun _ _=>True⟩
 unfold nIf at hm
 obtain ⟨⟨b,en1⟩,h1,h2⟩:=Option.bind_eq_some_iff.mp hm
 refine wpAny_execs_cons (wpAny_If (thn (hc.h.nox pins s σ H (fun b' H'=>b'=b∧∃ R',EnvOk K ds1 Ox H' σ en1 R'∧∀ H'',Reach H' R' H''→Reach H R H'') I ⟨Ox,en,R,b,en1,e,h1,fun H' R' P=>⟨rfl,R',P.env0,fun H'' r=>r.post P⟩⟩) fun d s1 ⟨H1,I1,q1,R1,q2,q3⟩=>?_))
 subst q1
 cases d with
 | true=>exact wpAny_mono (ha s1 H1 I1 fun D=>⟨Ox,en1,R1,y,q2,h2,fun H'' r=>k H'' (q3 H'' r)⟩) (fun _ _ z=>z.elim) fun _ _ z=>z
 | false=>exact wpAny_mono (hb s1 H1 I1 fun D=>⟨Ox,en1,R1,y,q2,h2,fun H'' r=>k H'' (q3 H'' r)⟩) (fun _ _ z=>z.elim) fun _ _ z=>z
end
def i5 (kn:List Str) (kp:List Nat) (j:Nat) (b:MS) (m:MN) (hs:MS):MS:=fun en=>match b en with
 | some (.nx e)=>some (.nx e)
 | some _=>none
 | none=>(m (hidE kp en)).bind fun x=>if x∈kn then (hs (en.set j (some (mW x)))).bind fun fl=>match fl with
  | .nx e=>some (.nx (e.set j none))
  | _=>none else none
def vt (ds kp:List Nat):Bool:=ds.zipIdx.all fun p=>p.1 == 0 || kp.contains p.2
theorem vr {ds kp:List Nat} (h:vt ds kp=true) (i d:Nat) (q:ds[i]?=some d):d=0∨i∈kp:=by
 unfold vt at h
 have:=List.all_eq_true.mp h (d,i) (List.mem_of_getElem? (i:=i) (by rw [List.getElem?_zipIdx,q]; simp))
 simpa using this
section
variable {X:Cx} {K:PySem.W.Frag} {J:Jd} {ds ds1 ds':List Nat} {b hs:MS} {m:MN} {cl:Str→Addr} {kn:List Str} {kp:List Nat} {C':Addr} {bmB:List Value} {newId newId':String} {y n:Str} {j:Nat} {yp hp pos:Pos} {b₀:Stmt} {suite body:List Stmt}
theorem vN (hK:X.K=K) (Df:Dfx X) (hb:∀ xe,QSs (X.wish xe) body (tFS K J ds ds' b)) (hm:∀ xe pins σ E,mB (X.wish xe) pins σ E→PXs (X.wish xe) pins σ E K ds m cl body) (hsu:∀ v xe,QSs (X.suite v xe) (b₀ :: suite) (tFS K J ds ds' hs))
  (hcl:∀ x∈kn,PySem.W.nsIn K mainGlobals x=some (some (.ref (cl x)))) (hx:∀ x∈kn,PySem.W.excIn X.K (cl x) bmB newId=true∧lE X.K (cl x) C'=true) (hx':PySem.W.excIn X.K C' bmB newId'=true) (hbase:bmB.contains (Value.type "BaseException")=true)
  (hg:Gl X y) (hmy:X.mg y=some (.ref C')) (hdb:(y == ("__debug__" : Str))=false) (hN:X.N.Nodup) (hj:X.N[j]?=some n) (ln:Loc X.env.scope n) (kn0:X.env.scope.names.lookup n=some .local) (kn':X.env.kindOf n=some .local)
  (hkp:vt ds kp=true) (hjl:j ∉ J.lk) (hjd:ds[j]?=some 0) (hjd':ds'[j]?=some 0) (hjk:j ∉ kp) :
  QS X (.Try body [.ExceptHandler (some (.Name y yp)) (some n) (b₀ :: suite) hp] [] [] pos) (tFS K J ds ds' (i5 kn kp j b m hs)):=by
 subst hK
 refine ⟨fun pins s σ H Dn I h=>?_⟩
 obtain ⟨Ox,en,R,fl,env,hf,k⟩:=h
 refine wpAny_Try_except ?_
 show wpAny (model X.prog X.w) X.A (execs body X.env) _ (n8 X pins Dn [.ExceptHandler (some (.Name y yp)) (some n) (b₀ :: suite) hp]) s
 unfold i5 at hf
 cases hB:b en with
 | some f1 =>
  rw [hB] at hf
  cases f1 with
  | nx e1 =>
   cases hf
   refine wpAny_mono ((hb (n8 X pins Dn [.ExceptHandler (some (.Name y yp)) (some n) (b₀ :: suite) hp])).h pins s σ H Dn (I.wish _) ⟨Ox,en,R,_,env,hB,k⟩) (fun f s1 z=>?_) fun ev s1 z=>z
   have z:=z.unwish
   cases f with
   | next=>exact wpAny_execs_nil z
   | ret v=>exact z
   | brk=>exact z
   | cont=>exact z
  | rt t e1=>cases hf
  | ct e1=>cases hf
 | none =>
  rw [hB] at hf
  obtain ⟨x,hx1,hf⟩:=Option.bind_eq_some_iff.mp hf
  by_cases hkn:x∈kn
  case neg=>rw [if_neg hkn] at hf; cases hf
  rw [if_pos hkn] at hf
  obtain ⟨fl2,hx2,hf⟩:=Option.bind_eq_some_iff.mp hf
  cases fl2 with
  | rt t e1=>cases hf
  | ct e1=>cases hf
  | nx e2 =>
  cases hf
  have hjl2:j < σ.length:=by rw [← env.l2]; exact (List.getElem?_eq_some_iff.mp hjd).1
  have O:mB (X.wish (n8 X pins Dn [.ExceptHandler (some (.Name y yp)) (some n) (b₀ :: suite) hp])) pins σ (fun c _ H'=>∃ z,c=.ref (cl z)∧z∈kn∧(z=x∧Reach H (fun i a=>i ∉ kp∧R i a) H')):=fun H1 s1 ev s' I1 hc=>by
   refine sM (G:=fun z H'=>z=x∧Reach H (fun i a=>i ∉ kp∧R i a) H') Df I1.unwish hc hx hx' hbase hg hmy hdb hN hj ln kn0 kn' (fun v xe=>(hsu v xe).h) ?_
   rintro a z H' _ ⟨ez,r⟩ ha
   rw [ez]
   have e1:=env.raised r (vr hkp)
   have hnew:∀ b o,H' b=some o→(upd H' a (.ext (eP a (cl x)))) b=some o:=fun b o q=>by rw [aP (fun z=>by rw [z,ha] at q; cases q)]; exact q
   have na:¬ Own (fun i a=>i∈kp∧R i a) Ox a:=fun z=>by
    obtain ⟨o,q⟩:=e1.dom a z
    rw [ha] at q
    cases q
   have e2':EnvOk X.K ds Ox (upd H' a (.ext (eP a (cl x)))) (σ.set j (some (.ref a))) (en.set j (some (mW x))) (fun i a=>i∈kp∧R i a):=by
    refine ⟨fun i t q=>?_,e1.dj,e1.dx,fun b z=>let ⟨o,q⟩:=e1.dom b z; ⟨o,hnew b o q⟩,by rw [List.length_set,List.length_set]; exact e1.l1,by rw [List.length_set]; exact e1.l2⟩
    by_cases hij:i=j
    ·subst hij
     have hl:i < en.length:=by rw [env.l1]; exact hjl2
     rw [List.getElem?_set_self hl] at q
     cases q
     exact ⟨.ref a,0,by rw [List.getElem?_set_self hjl2],hjd,a,[],rfl,.inr (.inr ⟨rfl,.inr ⟨x,cl x,rfl,hcl x hkn,aW,na⟩⟩)⟩
    ·rw [List.getElem?_set_ne (Ne.symm hij)] at q
     obtain ⟨v,d,g1,g2,g3⟩:=e1.at_ i t q
     exact ⟨v,d,by rw [List.getElem?_set_ne (Ne.symm hij)]; exact g1,g2,Ow.mv (G:=fun a=>i∈kp∧R i a) ⟨fun b o q _=>hnew b o q,fun b z=>.inl z⟩ t (fun _ z=>z) g3⟩
   refine ⟨Ox,en.set j (some (mW x)),_,_,e2',hx2,fun σ' H2 R2 P=>?_⟩
   refine k (σ'.set j none) H2 R2 ⟨?_,P.fx,fun b o q nn=>?_,fun b z=>?_,fun b o q=>?_,fun i hi=>?_⟩
   ·refine ⟨fun i t q=>?_,P.env.dj,P.env.dx,P.env.dom,by rw [List.length_set,List.length_set]; exact P.env.l1,by rw [List.length_set]; exact P.env.l2⟩
    by_cases hij:i=j
    ·subst hij
     by_cases hl:i < e2.length
     ·rw [List.getElem?_set_self hl] at q; cases q
     ·rw [List.getElem?_eq_none (by rw [List.length_set]; omega)] at q; cases q
    ·rw [List.getElem?_set_ne (Ne.symm hij)] at q
     obtain ⟨v,d,g1,g2,g3⟩:=P.env.at_ i t q
     exact ⟨v,d,by rw [List.getElem?_set_ne (Ne.symm hij)]; exact g1,g2,g3⟩
   ·exact P.keep b o (hnew b o (r.keep b o q fun i z=>nn i z.2)) fun i z=>nn i z.2
   ·rcases P.own b z with ⟨i,z⟩ | z
    ·exact .inl ⟨i,z.2⟩
    ·by_cases q:∃ i,R i b
     ·exact .inl q
     ·refine .inr ?_
      cases qb:H b with
      | none=>rfl
      | some o =>
       have:=hnew b o (r.keep b o qb fun i z=>q ⟨i,z.2⟩)
       rw [z] at this
       cases this
   ·obtain ⟨o',q'⟩:=r.dom b o q
    exact P.dom b o' (hnew b o' q')
   ·have:=P.lk i hi
    have hij:j≠i:=fun z=>hjl (z ▸ hi)
    rw [List.getElem?_set_ne hij,this,List.getElem?_set_ne hij]
  exact wpAny_mono (hm _ pins σ _ O s H (I.wish _) fun D=>⟨_,hidE kp en,_,x,env.hidE kp,hx1,fun H' r=>⟨x,rfl,hkn,rfl,r⟩⟩) (fun _ _ z=>z.elim) fun _ _ z=>z
end
end L2
namespace L2
open PySem PySem.Spec PyProof.Rows Builtin Builtin.ObjectAttr Builtin.Getset_descriptor
def jd:Value:=.builtin "object.__class__"
def oZ:Value:=.builtin "getset_descriptor.__get__"
def gGa:Value:=.builtin "BaseException.__getattribute__"
def okX (K:PySem.W.Frag) (C:Addr):Bool:=((PySem.W.findIn K (.ref C) "__getattribute__" == some (some gGa)) && (PySem.W.findIn K (.ref C) "__getattr__" == some none) && (PySem.W.mroIn K C (.type "BaseException") == some true)) && (PySem.W.clsIn K C).isSome && (PySem.W.findIn K (.ref C) "__class__" == some (some jd)) && (PySem.W.specialIn K jd "__get__" == some (some oZ)) && (PySem.W.takesIn K jd == some true) && (PySem.W.mroIn K C (.type "object") == some true) && (PySem.W.kitCls K (.ref C) (.ref C)).isSome
section
variable {prog:Program} {w:World} {A:Around} {E:Value→Shared→Prop} {s:Shared} {K:PySem.W.Frag} {a C:Addr}
theorem uC {M:Model} {h:Heap} (p:eP a C h):PySem.W.Looks M h (typeOf (.ref a)) (.ref C):=by
 obtain ⟨o,h1,h2,_⟩:=p
 exact h2 ▸ (PySem.W.Looks.ld h1).andThen .now
theorem CH {M:Model} {nv:Value} {Q:Unit→Shared→Prop} (t0:PySem.W.Looks M s.heap (typeOf (.ref a)) (.ref C)) (t6:PySem.W.Looks M s.heap (isSubtype (.ref C) (.type "BaseException")) true) (hq:Q () s):wpAny M A (checkBuiltinCall "BaseException.__getattribute__" ⟨[.ref a,nv],[]⟩) Q E s:=by
 have hb:builtinKind "BaseException.__getattribute__"=some .slot:=by decide +kernel
 have hp:splitId "BaseException.__getattribute__"=some ("BaseException", "__getattribute__"):=by decide +kernel
 have ha:=PySem.F.args_bexc_ga (.ref a) nv
 obtain ⟨hh,g,d,t,os⟩:=s
 simp only [checkBuiltinCall,hb,hp]
 refine wpAny_bind ?_
 unfold isInstance
 refine wpAny_bind (t0.at (t6.at ?_))
 simp only [Bool.not_true,Bool.false_eq_true,if_false]
 cases hs:Manifest.signature? "BaseException.__getattribute__" with
 | none=>exact wpAny_pure hq
 | some sg =>
  simp only [argsOk,hs] at ha
  have h2:Bind.checkArgs "BaseException.__getattribute__" sg ⟨[.ref a,nv],[]⟩=pure ():=ha
  show wpAny M A (Bind.checkArgs "BaseException.__getattribute__" sg ⟨[.ref a,nv],[]⟩) Q E _
  rw [h2]
  exact wpAny_pure hq
theorem uD {Q:Option Value→Shared→Prop} (hk:okX K C=true) (X:K.In s.heap) (p:eP a C s.heap) (h:Q (some (.ref C)) { s with toks:=s.toks+1 }):wpAny (model prog w) A (getAttr? (.ref a) "__class__") Q E s:=by
 unfold okX at hk
 simp only [Bool.and_eq_true,beq_iff_eq] at hk
 obtain ⟨⟨⟨⟨⟨⟨⟨⟨k0,k1⟩,k7⟩,k2⟩,k3⟩,k4⟩,k5⟩,k6⟩,_⟩:=hk
 obtain ⟨hh,g,d,t,os⟩:=s
 have t0:=uC (M:=model prog w) p
 have t1:=PySem.W.looks_findIn (M:=model prog w) X k0
 have t2:=PySem.W.looks_findIn (M:=model prog w) X k1
 have t6:=PySem.W.looks_mroIn (M:=model prog w) X k7
 have bs:∀ self,bindSpecial gGa self=pure (gGa,[self]):=PySem.F.attr_ValueError.ga.bind
 have ng:(onTheHeap (Value.ref C) && gGa == Value.builtin "object.__getattribute__")=false:=by rw [show (gGa == Value.builtin "object.__getattribute__")=false by decide +kernel]; rfl
 have t3:PySem.W.Looks (model prog w) hh (Builtin.ObjectAttr.dataDescriptor? (some jd) (some oZ)) (some (oZ,jd)):=(PySem.W.looks_takesIn X k5).andThen .now
 have t4:PySem.W.Looks (model prog w) hh (Builtin.ObjectAttr.find (.ref a) (.ref C) "__class__") (.bind oZ jd):=(PySem.W.looks_findIn X k3).andThen ((PySem.W.looks_specialIn X k4).andThen (t3.andThen (PySem.W.Looks.tag .now)))
 have t5:=PySem.W.looks_mroIn (M:=model prog w) X k6
 unfold getAttr? getAttrBy? getAttrBy
 refine wpAny_bind (wpAny_mkText (wpAny_bind (wpAny_attempt (wpAny_holding (wpAny_bind (t0.at (wpAny_bind (t1.at ?_))))))))
 dsimp only
 rw [ng]
 show wpAny _ _ (getAttrByItsOwn _ _ _ _ _ _) _ _ _
 unfold getAttrByItsOwn
 refine wpAny_bind (t2.at (wpAny_bind (wpAny_attempt (wpAny_holding ?_))))
 show wpAny _ _ (boundAndCalled gGa _ _) _ _ _
 unfold boundAndCalled
 rw [bs]
 refine wpAny_bind (wpAny_pure (wpAny_call ?_))
 refine codeAny_call_builtin PySem.F.attr_ValueError.ga.plain PySem.F.entry_bexc_ga (CH t0 t6 ?_)
 unfold Builtin.«object.__getattribute__»
 refine wpAny_bind ?_
 show wpAny _ _ (pure (Value.ref a,[Value.str "__class__" t])) _ _ _
 refine wpAny_pure ?_
 refine wpAny_bind (wpAny_pure (wpAny_bind (t0.at (wpAny_bind (t4.at ?_)))))
 show wpAny _ _ (holding [jd] (call oZ [jd,.ref a,.ref C]) >>= ret) _ _ _
 refine wpAny_bind (wpAny_holding (wpAny_call ?_))
 refine codeAny_call_builtin PySem.W.KF.slot_gs.plain PySem.W.KF.entry_gs (PySem.W.KF.slot_gs.check _ _ _ _ _ _ _ _ PySem.W.KF.type_class (PySem.W.KF.args_gs _ _ _) ?_)
 unfold Builtin.«getset_descriptor.__get__» descrGet
 rw [show jd=Value.builtin "object.__class__" from rfl,PySem.W.dga_obj]
 refine wpAny_bind (wpAny_pure ?_)
 unfold descrGetter descrCheckInstance
 unfold descrNameAndClass
 unfold isInstance
 simp only [PySem.W.KF.owner_class]
 repeat lk
 refine ⟨Code.quiet_builtin _ (by decide +kernel),codeAny_builtin PySem.W.KF.entry_class ?_⟩
 unfold Builtin.«object.__class__»
 unfold shownTypeOf
 repeat lk
 exact h
theorem vv (hk:okX K C=true):PySem.W.KitX K (.ref a) (.ref C) (eP a C) where
 ty:=fun _ _ _ p=>uC p
 it:=fun M h X _=>by
  unfold okX at hk
  simp only [Bool.and_eq_true] at hk
  obtain ⟨v,hv⟩:=Option.isSome_iff_exists.mp hk.2
  exact (PySem.W.kit_cls X hv).2.1
 ne:=fun h tp dd its n sl X htp=>by
  unfold okX at hk
  simp only [Bool.and_eq_true] at hk
  have k2:=hk.1.1.1.1.1.2
  refine Bool.eq_false_iff.mpr fun q=>?_
  have e:C=tp:=by simpa using q
  subst e
  unfold PySem.W.clsIn at k2
  split at k2
  ·next ho =>
   have z:=(X _ _ ho).symm.trans htp
   cases z
  ·cases k2
 ca:=fun X p h=>uD hk X p h
end
def bR (kn xs:List Str):D→Option D
 | .dict [(.none,.str x)]=>if x∈kn then some (.bool (xs.contains x)) else none
 | _=>none
def bj (K:PySem.W.Frag) (kn xs:List Str) (cv:Value):Bool:=kn.all fun x=>match PySem.W.nsIn K mainGlobals x with
 | some (some (.ref C))=>okX K C && (PySem.W.kitOne K (.ref C) cv == some (xs.contains x))
 | _=>false
def Fd (K:PySem.W.Frag) (kn xs:List Str) (c:V):List V→Hp→VK→Prop:=fun vs H Q=>∃ (x:V) (O:AS) (a:D) (b:Bool),vs=[x,c]∧Ow K O H a 0 x NoA∧bR kn xs a=some (.bool b)∧Q (.bl b) H
section
variable {X:Cx} {K:PySem.W.Frag} {p:Bool} {ds ds1:List Nat} {d1:Nat} {e:Expr} {f:ME} {kn xs:List Str}
theorem vG {a:D} {b:Bool} {O:AS} {H:Hp} {x:V} (h:bR kn xs a=some (.bool b)) (o:Ow K O H a 0 x NoA):∃ q y C,x=.ref q∧y∈kn∧b=xs.contains y∧PySem.W.nsIn K mainGlobals y=some (some (.ref C))∧H q=some (.ext (eP q C)):=by
 unfold bR at h
 split at h
 case h_2=>cases h
 next y =>
 by_cases hy:y∈kn
 case neg=>rw [if_neg hy] at h; cases h
 rw [if_pos hy] at h
 cases h
 obtain ⟨q,vs,rfl,⟨_,_,_,z⟩ | ⟨z,_⟩ | ⟨_,⟨kk,b,z,_⟩ | ⟨y',C,z,h1,h2,_⟩⟩⟩:=o
 ·obtain ⟨q',_,_,_,_,_,z,_⟩:=z
  cases q' <;> cases z
 ·exact absurd rfl z
 ·cases z
 ·cases z
  exact ⟨q,y,C,rfl,hy,rfl,h1,h2⟩
theorem pP {c:V} {cv:Value} (hc:∀ u,RelV c u→u=cv) (ht:bj X.K kn xs cv=true):CallR X (.builtin "isinstance") (Fd X.K kn xs c):=by
 intro pins s σ H vs us Q I r h
 obtain ⟨x,O,a,b,rfl,oa,hb,q⟩:=h
 obtain ⟨u,u2,rfl,r1,r2⟩:=r.two
 have e2:=hc u2 r2
 subst e2
 obtain ⟨z,y,C,rfl,hy,rfl,h1,h2⟩:=vG hb oa
 cases r1
 have t:=List.all_eq_true.mp ht y hy
 rw [h1] at t
 simp only [Bool.and_eq_true,beq_iff_eq] at t
 obtain ⟨hx,_⟩:=(show ObjOk X.prog X.w H s.heap z (.ext (eP z C)) from I.hok z _ h2)
 exact PySem.W.kia_one (vv t.1) I.kIn hx t.2 (fun z=>nomatch z) fun tk=>⟨.bl _,H,I.tok tk,rfl,q⟩
theorem rf {c:V} {σ:St} {H:Hp} {Q:VK} (h:tF K p ds ds1 3 (e1 (bR kn xs) f) σ H Q):tCB (Fd K kn xs c) (i3 (tF K p ds ds1 d1 f) (i3 (tC c) oh)) σ H Q:=by
 obtain ⟨Ox,en,R,t,en',e,hf,k⟩:=h
 unfold e1 at hf
 obtain ⟨⟨t1,en1⟩,h1,hf⟩:=Option.bind_eq_some_iff.mp hf
 obtain ⟨t',h3,hf⟩:=Option.map_eq_some_iff.mp hf
 cases hf
 obtain ⟨b,rfl⟩:∃ b,t=.bool b:=by
  unfold bR at h3
  split at h3
  ·split at h3
   ·cases h3; exact ⟨_,rfl⟩
   ·cases h3
  ·cases h3
 refine ⟨Ox,en,R,t1,en1,e,h1,fun v H' R' F P o=>?_⟩
 exact ⟨v,Own R' Ox,t1,b,rfl,Ow.letgo P (fun _ z=>z) o,h3,k _ H' R' NoA (P.less fun _ z=>z.elim) rfl⟩
theorem Gy {T:Str} {C':Addr} {px pt pos:Pos} (hK:X.K=K) (hg:Gl X "isinstance") (hm:X.mg "isinstance"=none) (hgT:Gl X T) (hmT:X.mg T=some (.ref C')) (ht:bj K kn xs (.ref C')=true) (he:PE X e (tF K p ds ds1 d1 f)) (hdT:(T == ("__debug__" : Str))=false)
  (hs1:starEach [e,.Name T pt] X.env=(false,eval e X.env) :: starEach [.Name T pt] X.env) (hs2:starEach [.Name T pt] X.env=(false,eval (.Name T pt) X.env) :: starEach [] X.env) (hpl:(backTo pos (starEach [.Name T pt] X.env)).any (·.1)=false) :
  PE X (.Call (.Name "isinstance" px) [e,.Name T pt] [] pos) (tF K p ds ds1 3 (e1 (bR kn xs) f)):=by
 subst hK
 exact (i8 (pP (c:=.ref C') (fun u z=>z) ht) hg hm boot_isinstance (b4 he (b4 (qO (v:=.ref C') hgT hmT rfl hdT) pa_nil hs2) hs1) (by decide) (by decide) hs1 hpl).imp fun σ H Q h=>rf h
theorem Gz {T:Str} {n:String} {px pt pos:Pos} (hK:X.K=K) (hg:Gl X "isinstance") (hm:X.mg "isinstance"=none) (hgT:Gl X T) (hmT:X.mg T=none) (hbT:bootBuiltins T=some (.type n)) (ht:bj K kn xs (.type n)=true) (he:PE X e (tF K p ds ds1 d1 f)) (hnT:T≠"__name__") (hdT:(T == ("__debug__" : Str))=false)
  (hs1:starEach [e,.Name T pt] X.env=(false,eval e X.env) :: starEach [.Name T pt] X.env) (hs2:starEach [.Name T pt] X.env=(false,eval (.Name T pt) X.env) :: starEach [] X.env) (hpl:(backTo pos (starEach [.Name T pt] X.env)).any (·.1)=false) :
  PE X (.Call (.Name "isinstance" px) [e,.Name T pt] [] pos) (tF K p ds ds1 3 (e1 (bR kn xs) f)):=by
 subst hK
 exact (i8 (pP (c:=.ty n) (fun u z=>z) ht) hg hm boot_isinstance (b4 he (b4 (qP (v:=.ty n) hgT hmT hbT rfl hnT hdT) pa_nil hs2) hs1) (by decide) (by decide) hs1 hpl).imp fun σ H Q h=>rf h
end
end L2
namespace L2
open PySem PySem.Spec PyProof.Rows
theorem FP {P:Program} {w:World} {k:Key} {v:Value} (h:(bE P w).is k v=true):RelV (kV k) v:=by
 rcases bB h with ⟨i,t,e1,e2⟩ | ⟨x,t,e1,e2⟩
 ·have e:k=Sum.inl i:=e1
  rw [e,e2]
  exact ⟨t,rfl⟩
 ·have e:k=Sum.inr x:=e1
  rw [e,e2]
  exact ⟨t,rfl⟩
section
variable {X:Cx} {K:PySem.W.Frag} {O:AS} {H:Hp}
theorem pO (hc:X.calm=true):CallR X (.type "list") (fun xs H Q=>∃ a kvs,xs=[.ref a]∧H a=some (.dK kvs)∧∀ l,H l=none→Q (.ref l) (upd H l (.lst (kvs.map fun q=>kV q.1)))):=by
 intro pins s σ H xs us Q I r h
 obtain ⟨a,kvs,rfl,ha,q⟩:=h
 obtain ⟨u,rfl,ru⟩:=gZ r
 cases ru
 obtain ⟨z,hd,vs,rel,dd⟩:=sL I.hok ha
 obtain ⟨o,es,ep,dr⟩:=dd
 have hl:kvs.length=vs.length:=rel.length
 refine PySem.W.kdl_call (PySem.W.kdl_dict (knd:=bE X.prog X.w) (kvs:=vs) (ep:=ep) hd) (I.ok.hd hc) ⟨o,es,dr⟩ (by omega) fun h' tk acc c' hk ho hi=>?_
 have la:acc.toList.length=vs.length:=by rw [Array.length_toList]; exact hi.1
 have rv:Vals (kvs.map fun q=>kV q.1) acc.toList:=kT (by rw [List.length_map]; omega) fun i x v e1 e2=>by
  obtain ⟨k,y,hky,hv⟩:=hi.2 i v (by simpa using e2)
  rw [List.getElem?_map] at e1
  obtain ⟨p,hp,rfl⟩:=Option.map_eq_some_iff.mp e1
  have hkeys:=congrArg (fun l=>l[i]?) rel.keys
  simp only [List.getElem?_map,hp,hky,Option.map_some,Option.some.injEq] at hkeys
  rw [hkeys]
  exact FP hv
 exact ⟨.ref s.heap.objs.size,_,I.laid (t':=tk) (o:=.lst (kvs.map fun q=>kV q.1)) hk (Nat.le_refl _) ⟨by rw [List.length_map]; exact z,acc.toList,c',rv,by simpa using ho⟩,rfl,q _ I.fresh⟩
def oO:List D→Option D
 | [.dict ks]=>grd (noT ks=true) (.list (ks.map fun q=>q.1))
 | _=>none
theorem jT:∀ {ks:List (D × D)} {vs:List (Key × V)} {F:AS} {d:Nat},Owd K O H ks d vs F→Ows K O H (ks.map fun q=>q.1) 0 (vs.map fun q=>kV q.1) NoA
 | [],_,_,_,h=>by rw [show _=[] from h]; rfl
 | (k,t) :: ks,_,_,_,h=>by
  obtain ⟨q,v,r,F1,F2,e,e2,_,_,_,_,h5⟩:=h
  subst e e2
  refine ⟨kV q,_,NoA,NoA,rfl,fun _ z=>z,fun _ z=>z,fun _ z=>z.elim,?_,jT h5⟩
  cases q <;> rfl
theorem vR (hK:X.K=K) (hc:X.calm=true):CallR X (.type "list") (rFn K oO 1):=by
 subst hK
 refine (pO hc).imp fun xs H Q ⟨O,as,t,oa,hd,hg,k⟩=>?_
 match as,hg with
 | [.dict ks],hg =>
  obtain ⟨c,rfl⟩:=bJ hg
  obtain ⟨v,rfl,o⟩:=oa.one
  obtain ⟨a,vs,rfl,ha,ow⟩:=o.dict0 c
  exact ⟨a,vs,rfl,ha,fun l hl=>k _ _ _ (iI hl hd (jT ow)).1 (iI hl hd (jT ow)).2⟩
end
section
variable {X:Cx} {K:PySem.W.Frag} {p:Bool} {ds ds1:List Nat} {d1:Nat} {e:Expr} {f:ME} {kn xs:List Str}
theorem bK {T:Str} {C':Addr} {px pt pos:Pos} (hK:X.K=K) (hg:Gl X "isinstance") (hm:X.mg "isinstance"=none) (hgT:Gl X T) (hmT:X.mg T=some (.ref C')) (ht:bj K kn xs (.ref C')=true) (he:QE X e (tF K p ds ds1 d1 f)) (hdT:(T == ("__debug__" : Str))=false) (hs:aN e=true) :
  QE X (.Call (.Name "isinstance" px) [e,.Name T pt] [] pos) (tF K p ds ds1 3 (e1 (bR kn xs) f)):=⟨Gy hK hg hm hgT hmT ht he.h hdT (bv hs) (bv rfl) (db rfl)⟩
theorem vX {T:Str} {n:String} {px pt pos:Pos} (hK:X.K=K) (hg:Gl X "isinstance") (hm:X.mg "isinstance"=none) (hgT:Gl X T) (hmT:X.mg T=none) (hbT:bootBuiltins T=some (.type n)) (ht:bj K kn xs (.type n)=true) (he:QE X e (tF K p ds ds1 d1 f)) (hnT:T≠"__name__") (hdT:(T == ("__debug__" : Str))=false) (hs:aN e=true) :
  QE X (.Call (.Name "isinstance" px) [e,.Name T pt] [] pos) (tF K p ds ds1 3 (e1 (bR kn xs) f)):=⟨Gz hK hg hm hgT hmT hbT ht he.h hnT hdT (bv hs) (bv rfl) (db rfl)⟩
end
def clK (K:PySem.W.Frag) (x:Str):Addr:=match PySem.W.nsIn K mainGlobals x with
 | some (some (.ref C))=>C
 | _=>0
def Bp (K:PySem.W.Frag) (kn:List Str) (y:Str):Bool:=kn.all fun x=>(PySem.W.nsIn K mainGlobals x == some (some (.ref (clK K x)))) && PySem.W.excIn K (clK K x) vE "ValueError.__new__" && lE K (clK K x) (clK K y)
structure ExcK (K:PySem.W.Frag) (mg:Str→Option Value) (kn:List Str) (y:Str):Prop where
 b:Bp K kn y=true
 m:mg y=some (.ref (clK K y))
 h:PySem.W.excIn K (clK K y) vE "ValueError.__new__"=true
theorem ExcK.cl {K:PySem.W.Frag} {mg:Str→Option Value} {kn:List Str} {y:Str} (E:ExcK K mg kn y):∀ x∈kn,PySem.W.nsIn K mainGlobals x=some (some (.ref (clK K x))):=fun x hx=>by
 have:=List.all_eq_true.mp E.b x hx
 simp only [Bool.and_eq_true,beq_iff_eq] at this
 exact this.1.1
theorem ExcK.hx {K:PySem.W.Frag} {mg:Str→Option Value} {kn:List Str} {y:Str} (E:ExcK K mg kn y):∀ x∈kn,PySem.W.excIn K (clK K x) vE "ValueError.__new__"=true∧lE K (clK K x) (clK K y)=true:=fun x hx=>by
 have:=List.all_eq_true.mp E.b x hx
 simp only [Bool.and_eq_true,beq_iff_eq] at this
 exact ⟨this.1.2,this.2⟩
end L2
namespace L2
open PySem PySem.Spec PyProof.Rows
def gu:D→D→Option D
 | .list ts,b=>grd (av b=true∧aB ts=true∧bD ts≤60) (.int (ts.countP fun t=>peq t b:Nat))
 | _,_=>none
def e8:D→D→Option D
 | .list ts,b=>if av b=true∧aB ts=true∧bD ts≤60∧ts.length≤sizeLine then (ts.findIdx? fun t=>peq t b).map fun j=>.int (j:Nat) else none
 | _,_=>none
section
variable {X:Cx} {K:PySem.W.Frag} {p:Bool} {ds ds1 ds2:List Nat} {d d1 d2:Nat} {e:Expr} {f f1 f2:ME} {σ:St} {H:Hp} {Q Q':VK} {O:AS} {pins:List (Addr × Obj)} {s:Shared}
theorem uG (I:Inv X pins σ H s) {a:D}:∀ {ts:List D} {vs:List V} {us:List Value},aB ts=true→Ows X.K O H ts 0 vs NoA→Vals vs us→us.length=ts.length∧∀ (i:Nat) t u,ts[i]?=some t→us[i]?=some u→eqF X O H a u=peq t a
 | [],_,_,_,h,r=>by
  cases (show _=[] from h)
  cases r
  exact ⟨rfl,fun i t u z=>by simp at z⟩
 | t :: ts,_,_,hn,h,r=>by
  obtain ⟨v,q,F1,F2,e,_,_,_,h4,h5⟩:=h
  subst e
  have hn':av t=true∧aB ts=true:=by simpa [aB] using hn
  cases r with
  | cons ru rr =>
   obtain ⟨l,g⟩:=uG I (a:=a) hn'.2 (Ows.any0 ts h5) rr
   refine ⟨by rw [List.length_cons,List.length_cons,l],fun i t' u' z1 z2=>?_⟩
   cases i with
   | zero =>
    cases z1
    cases z2
    exact mh I ru hn'.1 (Ow.any0 t h4)
   | succ i=>exact g i t' u' (by simpa using z1) (by simpa using z2)
theorem sC (hK:X.K=K) (hu:X.A.units+64 < cLine):OpR X (fun v u=>call (.builtin "list.count") [v,u]) (rF2 K gu 3):=by
 subst hK
 intro pins s σ H x y v u Q I rx ry ⟨O,a,b,t,oa,ob,hd,hg,k⟩
 have hu1:X.A.in1.units+60+1 < cLine:=by show X.A.units+1+60+1 < cLine; omega
 unfold gu at hg
 split at hg
 case h_2=>cases hg
 next ts =>
 obtain ⟨⟨c1,c2,c3⟩,rfl⟩:=bJ hg
 obtain ⟨q,vs,rfl,fz,w⟩:=oa.lst0
 cases rx
 obtain ⟨its,r,⟨o,n,ho,hc,hdd,hda⟩,hz⟩:=I.list fz.sq
 obtain ⟨cls,dd,data,sl⟩:=o
 simp only at hc hda
 subst hc hda
 refine call_meets F.slot_list_count ⟨_,ho,rfl⟩ F.entry_list_count (F.args_list_count_2 _ _) (SeqAt.list_countAt q its.toArray n dd sl u (eqF X O H b)) ⟨ho,fun z hz=>eZ I c1 ob ry hu1 c2 c3 w r z (by simpa using hz),?_⟩
 have e:List.countP (eqF X O H b) its.toArray.toList=ts.countP fun t=>peq t b:=nz I c2 w r
 rw [e]
 exact ⟨.int _,H,I.tok _,⟨_,rfl⟩,k _ H NoA .refl rfl⟩
theorem sB (hK:X.K=K) (hu:X.A.units+64 < cLine):OpR X (fun v u=>call (.builtin "list.index") [v,u]) (rF2 K e8 3):=by
 subst hK
 intro pins s σ H x y v u Q I rx ry ⟨O,a,b,t,oa,ob,hd,hg,k⟩
 have hu1:X.A.in1.units+60+1 < cLine:=by show X.A.units+1+60+1 < cLine; omega
 unfold e8 at hg
 split at hg
 case h_2=>cases hg
 next ts =>
 by_cases hc:av b=true∧aB ts=true∧bD ts≤60∧ts.length≤sizeLine
 case neg=>rw [if_neg hc] at hg; cases hg
 rw [if_pos hc] at hg
 obtain ⟨c1,c2,c3,c4⟩:=hc
 obtain ⟨j,hj,rfl⟩:=Option.map_eq_some_iff.mp hg
 obtain ⟨j1,j2,j3⟩:=List.findIdx?_eq_some_iff_getElem.mp hj
 obtain ⟨q,vs,rfl,fz,w⟩:=oa.lst0
 cases rx
 obtain ⟨its,r,⟨o,n,ho,hc,hdd,hda⟩,hz⟩:=I.list fz.sq
 obtain ⟨cls,dd,data,sl⟩:=o
 simp only at hc hda
 subst hc hda
 obtain ⟨l,g⟩:=uG I (a:=b) c2 w r
 have sl0:sizeLine=16777216:=by decide
 refine call_meets F.slot_list_index ⟨_,ho,rfl⟩ F.entry_list_index (F.args_list_index_2 _ _) (SeqAt.list_indexAt q its.toArray n dd sl u (eqF X O H b) j (by rw [List.size_toArray]; omega) (by omega) ?_ fun m hm hmj=>?_) ⟨ho,fun z hz=>eZ I c1 ob ry hu1 c2 c3 w r z (by simpa using hz),?_⟩
 ·rw [g j ts[j] _ (List.getElem?_eq_getElem j1) (by simp [show j < its.length by omega])]
  exact j2
 ·rw [List.size_toArray] at hm
  rw [g m (ts[m]'(by omega)) _ (List.getElem?_eq_getElem (by omega)) (by simp [hm])]
  exact Bool.eq_false_iff.mpr (j3 m hmj)
 ·exact ⟨.int _,H,I.tok _,⟨_,rfl⟩,k _ H NoA .refl rfl⟩
theorem sG {o:Expr} {apos cpos:Pos} (hK:X.K=K) (hu:X.A.units+64 < cLine) (ho:QE X o (tF K p ds ds1 d1 f1)) (he:QE X e (tF K p ds1 ds2 d2 f2))
  (hbase:attributeBase o "count" X.env (eval o X.env)=eval o X.env)
  (hfew:((backTo cpos (starEach [e] X.env)).all (fun x=>!x.1) && (backToKw cpos (keywordEach [] X.env)).all (fun x=>x.1.isSome) && decide (([e]:List Expr).length+([]:List Keyword).length+(if ([]:List Keyword).isEmpty then 0 else 1) < 30))=true)
  (hline:(apos.endLine == cpos.line)=true) (hs:starEach [e] X.env=[(false,eval e X.env)]) (hplain:(backTo cpos (starEach [] X.env)).any (·.1)=false) :
  QE X (.Call (.Attribute o "count" apos) [e] [] cpos) (tF K p ds ds2 3 (e2 gu f1 f2)):=by
 subst hK
 refine ⟨pr (Ty:=TyL X.K) F.plainAttrs_list F.slot_list_count F.type_list_count (fun a b t O x H F hg o=>?_) (fun pins s σ H x v I r ty=>?_) (sC rfl hu) ho.h he.h hbase hfew hline hs hplain⟩
 ·unfold gu at hg
  split at hg
  ·exact nZ o
  ·cases hg
 ·obtain ⟨a,vs,rfl,hs⟩:=ty
  cases r
  obtain ⟨its,rv,⟨o,n,ho,hc,hdd,hda⟩,_⟩:=I.list hs
  exact ⟨⟨o,ho,hc⟩,fun b e=>by cases e; exact ⟨o,ho,hdd⟩⟩
theorem sF {o:Expr} {apos cpos:Pos} (hK:X.K=K) (hu:X.A.units+64 < cLine) (ho:QE X o (tF K p ds ds1 d1 f1)) (he:QE X e (tF K p ds1 ds2 d2 f2))
  (hbase:attributeBase o "index" X.env (eval o X.env)=eval o X.env)
  (hfew:((backTo cpos (starEach [e] X.env)).all (fun x=>!x.1) && (backToKw cpos (keywordEach [] X.env)).all (fun x=>x.1.isSome) && decide (([e]:List Expr).length+([]:List Keyword).length+(if ([]:List Keyword).isEmpty then 0 else 1) < 30))=true)
  (hline:(apos.endLine == cpos.line)=true) (hs:starEach [e] X.env=[(false,eval e X.env)]) (hplain:(backTo cpos (starEach [] X.env)).any (·.1)=false) :
  QE X (.Call (.Attribute o "index" apos) [e] [] cpos) (tF K p ds ds2 3 (e2 e8 f1 f2)):=by
 subst hK
 refine ⟨pr (Ty:=TyL X.K) F.plainAttrs_list F.slot_list_index F.type_list_index (fun a b t O x H F hg o=>?_) (fun pins s σ H x v I r ty=>?_) (sB rfl hu) ho.h he.h hbase hfew hline hs hplain⟩
 ·unfold e8 at hg
  split at hg
  ·exact nZ o
  ·cases hg
 ·obtain ⟨a,vs,rfl,hs⟩:=ty
  cases r
  obtain ⟨its,rv,⟨o,n,ho,hc,hdd,hda⟩,_⟩:=I.list hs
  exact ⟨⟨o,ho,hc⟩,fun b e=>by cases e; exact ⟨o,ho,hdd⟩⟩
end
end L2
namespace W44
open PySem L2
def top (i:Nat):Stmt:=PySem.Challenge.pw_wordrules_k44_words_made_and_tried.main.body.getD i (.Pass ⟨0,0,0,0⟩)
structure Bl (mg:Str→Option Value):Prop where
 ValueError0:mg "ValueError"=none
 isinstance0:mg "isinstance"=none
 len0:mg "len"=none
 list0:mg "list"=none
 max0:mg "max"=none
 range0:mg "range"=none
 str0:mg "str"=none
 sum0:mg "sum"=none
 tuple0:mg "tuple"=none
section
variable {P:Program} {w:World} {K:PySem.W.Frag} {mg:Str→Option Value} {base:Heap} {f:Addr} {fd:FuncData}
def kn0:List Str:=["TooMuch"]
def iE:List Str:=[]
def jI:List Str:=[]
def gB:List Str:=[]
def iD:List Str:=[]
def gA:List Str:=[]
def gy:List Str:=[]
def eG:List Str:=[]
def c9:List Str:=[]
def gx:List Str:=[]
def eF:List Str:=[]
def gw:List Str:=[]
def fK:List Str:=[]
def fJ:List Str:=["TooMuch"]
def c7:List Str:=["TooMuch"]
abbrev m7:Stmt:=top 16
abbrev rE:List Str:=["things", "marks", "thing"]
theorem scmarked:FnScope rE ["things"] (aq m7):=⟨rfl,rfl,rfl,by decide +kernel,rfl,by decide +kernel,by decide +kernel⟩
def nK:MS:=(hV 1 (af 2) (eC (.bool true)))
def m9:MS:=(ao (ax 1 kO)
 (ao (bG (br (af 0)) (gN 2) nK)
 (aR (af 1))))
def fw:List D→Option (D × En):=fnF 2 [0] m9
theorem vf {k:Nat} (T:Bl mg)   (F:Fun K "marked" "marked" m7 f fd):FnOk P w K mg base CX0 (k+1) f fd ["things"] (spF K [0] 0 fw):=by
 have nd:=scmarked.nd
 refine F.okQ (N:=rE) (b:=m9) (J:=⟨[],[0,0,0],0,[]⟩) (ds0:=[0,0,0]) scmarked rfl rfl rfl rfl fun cdv A outer s H E hr=>?_
 exact (ag (am (i:=1) (d:=1) (ds':=[0,1,0]) nd rfl (.inl rfl) (ai (d':=1) nu (by decide)) rfl (by decide) (by decide) rfl (.inl rfl))
  (ag (aO (ds1:=[0,1,0]) rfl (aV (K:=K) rfl (ac (i:=0) rfl (.inl rfl) rfl rfl rfl)) (ay (i:=2) (ds':=[0,1,0]) nd rfl (.inl rfl) rfl (by decide) (by decide) (.inl rfl)) (ak (l6 (i:=1) (sy hr) rfl (.inl rfl) (ai (d':=0) bF (by decide)) (ac (i:=2) rfl (.inl rfl) rfl rfl rfl) rfl rfl rfl rfl)) PassesOwn.never (fun _=>rfl))
  (ak (aA (b6 (ds0:=[0,0,0]) (ac (p:=false) (i:=1) rfl (.inl rfl) rfl rfl rfl) rfl) rfl))))
abbrev dQ:Stmt:=top 21
abbrev fW:List Str:=["many"]
theorem screfuse_words:FnScope fW ["many"] (aq dQ):=⟨rfl,rfl,rfl,by decide +kernel,rfl,by decide +kernel,by decide +kernel⟩
def fZ:MS:=(sIf (tV (e2 gtI (af 0) (eC (.int 2000)))) iH bc)
def ba:List D→Option (D × En):=fnF 0 [0] fZ
theorem mO {k:Nat} (T:Bl mg) {da:Tok} (dH:mg "MOST_WORDS_MADE"=some (.int 2000 da))  (F:Fun K "refuse_words" "refuse_words" dQ f fd):FnOk P w K mg base CX0 (k+1) f fd ["many"] (spF K [0] 3 ba):=by
 have nd:=screfuse_words.nd
 refine F.okQ (N:=fW) (b:=fZ) (J:=⟨[],[0],3,[]⟩) (ds0:=[0]) screfuse_words rfl rfl rfl rfl fun cdv A outer s H E hr=>?_
 exact (ak (aM (ds2:=[0]) (az dN (ac (i:=0) rfl (.inl rfl) rfl rfl rfl) (ma rfl dH rfl) (aL _)) (ak qr) aK))
def dG:MN:=(nIf (tV (e2 gtI (af 0) (eC (.int 2000)))) (FG "TooMuch") nNo)
def bL:List D→Option Str:=fnN 0 dG
theorem mX {k:Nat} (T:Bl mg) {da:Tok} (dH:mg "MOST_WORDS_MADE"=some (.int 2000 da))  (m_TooMuch:mg "TooMuch"=some (.ref (clK K "TooMuch"))) (x_TooMuch:PySem.W.excIn K (clK K "TooMuch") vE "ValueError.__new__"=true) (F:Fun K "refuse_words" "refuse_words" dQ f fd):FnOk P w K mg base (CXr P w) (k+1) f fd ["many"] (spN K [0] (clK K) bL):=by
 have nd:=screfuse_words.nd
 refine F.okN (N:=fW) (b:=dG) (ds0:=[0]) screfuse_words rfl rfl rfl fun cdv A outer s H E hr R O=>?_
 exact (l8 (HF (p:=false) (az dN (ac (i:=0) rfl (.inl rfl) rfl rfl rfl) (ma rfl dH rfl) (aL _)) (l8 (vS R PySem.F.excBase_ValueError x_TooMuch rfl m_TooMuch rfl)) HE))
abbrev fE:Stmt:=top 24
abbrev ir:List Str:=["texts", "part", "found", "text"]
theorem scput_behind:FnScope ir ["texts", "part"] (aq fE):=⟨rfl,rfl,rfl,by decide +kernel,rfl,by decide +kernel,by decide +kernel⟩
def nP:ME:=(e2 bu (af 1) (af 0))
def jG:MS:=(bA (gO 2 (eLC true (br (af 1)) (gN 0) cY nP [none,some 3])))
def iB:MS:=(ao (ax 2 (a9 aj))
 (ao (bG (br (af 0)) (gN 3) jG)
 (aR (eMv 2))))
def cT:List D→Option (D × En):=fnF 2 [0,0] iB
theorem oD {k:Nat} (T:Bl mg)   (F:Fun K "put_behind" "put_behind" fE f fd):FnOk P w K mg base CX0 (k+1) f fd ["texts", "part"] (spF K [0,0] 1 cT):=by
 have nd:=scput_behind.nd
 refine F.okQ (N:=ir) (b:=iB) (J:=⟨[],[0,0,0,0],1,[]⟩) (ds0:=[0,0,0,0]) scput_behind rfl rfl rfl rfl fun cdv A outer s H E hr=>?_
 exact (ag (am (i:=2) (d:=1) (ds':=[0,0,1,0]) nd rfl (.inl rfl) (ai (d':=1) (aI (d:=3) (c:=3) ad rfl rfl (by decide)) (by decide)) rfl (by decide) (by decide) rfl (.inl rfl))
  (ag (aO (ds1:=[0,0,1,0]) rfl (aV (K:=K) rfl (ac (i:=0) rfl (.inl rfl) rfl rfl rfl)) (ay (i:=3) (ds':=[0,0,1,0]) nd rfl (.inr rfl) rfl (by decide) (by decide) (.inl rfl)) (ak (a8 (gK (K:=K) (i:=2) (d:=1) rfl rfl (.inl rfl) rfl (ai (d':=1) (dB (cd:=3) (d:=3) (dsi:=[0,0]) (lk:=[1]) (BlkOkC.of (ns:=["word", "text"]) (js:=[none,some 3]) (N0:=ir) (sc0:=aq fE) rfl rfl (by decide +kernel)) rfl (aV (K:=K) rfl (ac (i:=1) rfl (.inl rfl) rfl rfl rfl)) (fun _ _ _ _ _=>(ay (i:=0) (ds':=[0,0]) (show (["word", "text"]:List Str).Nodup by decide +kernel) rfl (.inl rfl) rfl (by decide) (by decide) (.inr rfl))) (fun _ _ _ _ _=>dh) (fun _ _ _ _ _=>(au bw (ac (i:=1) rfl (.inr (.inl rfl)) rfl rfl rfl) (ac (i:=0) rfl (.inl rfl) rfl rfl rfl))) rfl rfl (by decide) rfl (fun _=>rfl)) (by decide)) (by decide) rfl rfl rfl rfl rfl rfl rfl) rfl)) PassesOwn.never (fun _=>rfl))
  (ak (aA (rm (i:=2) (ds':=[0,0,0,0]) rfl (.inl rfl) rfl rfl rfl rfl) rfl))))
abbrev fV:Stmt:=top 23
abbrev jF:List Str:=["step", "texts", "part"]
theorem scput_together:FnScope jF ["step"] (aq fV):=⟨rfl,rfl,rfl,by decide +kernel,rfl,by decide +kernel,by decide +kernel⟩
def ie:MS:=(ax 1 (ar cT (ae (af 1) (ae (af 2) aj))))
def gb:MS:=(ao (ax 1 (a9 (ae (eC (.str "")) aj)))
 (ao (bG (br (af 0)) (gN 2) ie)
 (aR (eMv 1))))
def bi:List D→Option (D × En):=fnF 2 [0] gb
theorem mP {k:Nat} (T:Bl mg)  (qw:Kn P w K mg base k "put_behind" ["texts", "part"] (spF K [0,0] 1 cT)) (F:Fun K "put_together" "put_together" fV f fd):FnOk P w K mg base CX0 (k+1) f fd ["step"] (spF K [0] 1 bi):=by
 have nd:=scput_together.nd
 refine F.okQ (N:=jF) (b:=gb) (J:=⟨[],[0,0,0],1,[]⟩) (ds0:=[0,0,0]) scput_together rfl rfl rfl rfl fun cdv A outer s H E hr=>?_
 exact (ag (am (i:=1) (d:=1) (ds':=[0,1,0]) nd rfl (.inl rfl) (ai (d':=1) (aI (d:=3) (c:=3) (aa cy ad rfl) rfl rfl (by decide)) (by decide)) rfl (by decide) (by decide) rfl (.inl rfl))
  (ag (aO (ds1:=[0,1,0]) rfl (aV (K:=K) rfl (ac (i:=0) rfl (.inl rfl) rfl rfl rfl)) (ay (i:=2) (ds':=[0,1,0]) nd rfl (.inl rfl) rfl (by decide) (by decide) (.inl rfl)) (ak (am (i:=1) (d:=1) (ds':=[0,1,0]) nd rfl (.inl rfl) (aC qw hr rfl (aa (b6 (ds0:=[0,0,0]) (ac (p:=false) (i:=1) rfl (.inl rfl) rfl rfl rfl) rfl) (aa (ac (i:=2) rfl (.inl rfl) rfl rfl rfl) ad rfl) rfl) rfl rfl rfl rfl rfl) rfl (by decide) (by decide) rfl (.inl rfl))) PassesOwn.never (fun _=>rfl))
  (ak (aA (rm (i:=1) (ds':=[0,0,0]) rfl (.inl rfl) rfl rfl rfl rfl) rfl))))
abbrev fm:Stmt:=top 22
abbrev iU:List Str:=["step", "product", "part"]
theorem schow_many_made:FnScope iU ["step"] (aq fm):=⟨rfl,rfl,rfl,by decide +kernel,rfl,by decide +kernel,by decide +kernel⟩
def gU:MS:=(ax 1 (e2 cK (af 1) (eN bQ (ae (af 2) aj))))
def fA:MS:=(ao (ax 1 (eC (.int 1)))
 (ao (bG (br (af 0)) (gN 2) gU)
 (aR (af 1))))
def aQ:List D→Option (D × En):=fnF 2 [0] fA
theorem lL {k:Nat} (T:Bl mg)   (F:Fun K "how_many_made" "how_many_made" fm f fd):FnOk P w K mg base CX0 (k+1) f fd ["step"] (spF K [0] 0 aQ):=by
 have nd:=schow_many_made.nd
 refine F.okQ (N:=iU) (b:=fA) (J:=⟨[],[0,0,0],0,[]⟩) (ds0:=[0,0,0]) schow_many_made rfl rfl rfl rfl fun cdv A outer s H E hr=>?_
 exact (ag (am (i:=1) (d:=0) (ds':=[0,0,0]) nd rfl (.inl rfl) (ai (d':=0) ah (by decide)) rfl (by decide) (by decide) rfl (.inl rfl))
  (ag (aO (ds1:=[0,0,0]) rfl (aV (K:=K) rfl (ac (i:=0) rfl (.inl rfl) rfl rfl rfl)) (ay (i:=2) (ds':=[0,0,0]) nd rfl (.inl rfl) rfl (by decide) (by decide) (.inl rfl)) (ak (am (i:=1) (d:=0) (ds':=[0,0,0]) nd rfl (.inl rfl) (ai (d':=0) (au fP (ac (i:=1) rfl (.inl rfl) rfl rfl rfl) (aT (cc (K:=K) rfl) rfl T.len0 (by decide +kernel) (aa (ac (i:=2) rfl (.inl rfl) rfl rfl rfl) ad rfl) rfl (by decide) rfl rfl rfl)) (by decide)) rfl (by decide) (by decide) rfl (.inl rfl))) PassesOwn.never (fun _=>rfl))
  (ak (aA (ac (i:=1) rfl (.inl rfl) rfl rfl rfl) rfl))))
abbrev nU:Stmt:=top 19
abbrev sQ:List Str:=["step"]
theorem scmade:FnScope sQ ["step"] (aq nU):=⟨rfl,rfl,rfl,by decide +kernel,rfl,by decide +kernel,by decide +kernel⟩
def sV:MS:=(ao (bA (ar ba (ae (ar aQ (ae (af 0) aj)) aj)))
 (aR (ar bi (ae (af 0) aj))))
def cZ:List D→Option (D × En):=fnF 0 [0] sV
theorem FA {k:Nat} (T:Bl mg)  (cQ:Kn P w K mg base k "refuse_words" ["many"] (spF K [0] 3 ba)) (cR:Kn P w K mg base k "put_together" ["step"] (spF K [0] 1 bi)) (bM:Kn P w K mg base k "how_many_made" ["step"] (spF K [0] 0 aQ)) (F:Fun K "made" "made" nU f fd):FnOk P w K mg base CX0 (k+1) f fd ["step"] (spF K [0] 1 cZ):=by
 have nd:=scmade.nd
 refine F.okQ (N:=sQ) (b:=sV) (J:=⟨[],[0],1,[]⟩) (ds0:=[0]) scmade rfl rfl rfl rfl fun cdv A outer s H E hr=>?_
 exact (ag (a8 (aC cQ hr rfl (aa (aC bM hr rfl (aa (ac (i:=0) rfl (.inl rfl) rfl rfl rfl) ad rfl) rfl rfl rfl rfl rfl) ad rfl) rfl rfl rfl rfl rfl) rfl)
  (ak (aA (aC cR hr rfl (aa (ac (i:=0) rfl (.inl rfl) rfl rfl rfl) ad rfl) rfl rfl rfl rfl rfl) rfl)))
def mJ:MN:=(fC bL (ae (ar aQ (ae (af 0) aj)) aj))
def kf:List D→Option Str:=fnN 0 mJ
theorem GR {k:Nat} (T:Bl mg)  (cQ:Kn P w K mg base k "refuse_words" ["many"] (spF K [0] 3 ba)) (cR:Kn P w K mg base k "put_together" ["step"] (spF K [0] 1 bi)) (bM:Kn P w K mg base k "how_many_made" ["step"] (spF K [0] 0 aQ)) (GNrefuse_words:KnX P w K mg base k "refuse_words" ["many"] (spN K [0] (clK K) bL)) (F:Fun K "made" "made" nU f fd):FnOk P w K mg base (CXr P w) (k+1) f fd ["step"] (spN K [0] (clK K) kf):=by
 have nd:=scmade.nd
 refine F.okN (N:=sQ) (b:=mJ) (ds0:=[0]) scmade rfl rfl rfl fun cdv A outer s H E hr R O=>?_
 exact (l8 (ph O GNrefuse_words hr rfl (aa (aC bM hr rfl (aa (ac (i:=0) rfl (.inl rfl) rfl rfl rfl) ad rfl) rfl rfl rfl rfl rfl) ad rfl) rfl rfl rfl rfl))
abbrev iS:Stmt:=top 20
abbrev kh:List Str:=["plan", "found", "step"]
theorem sctries:FnScope kh ["plan"] (aq iS):=⟨rfl,rfl,rfl,by decide +kernel,rfl,by decide +kernel,by decide +kernel⟩
def ef:ME:=(ar aQ (ae (af 0) aj))
def pV:MS:=(bA (gO 1 (ar bi (ae (af 2) aj))))
def pZ:MS:=(ao (bA (ar ba (ae (eN fQ (ae (eLC true (br (af 0)) (gN 0) cY ef [none]) aj)) aj)))
 (ao (ax 1 (a9 aj))
 (ao (bG (br (af 0)) (gN 2) pV)
 (aR (eN oO (ae (ar fw (ae (af 1) aj)) aj))))))
def cg:List D→Option (D × En):=fnF 2 [0] pZ
theorem BT {k:Nat} (T:Bl mg)  (cQ:Kn P w K mg base k "refuse_words" ["many"] (spF K [0] 3 ba)) (rF:Kn P w K mg base k "marked" ["things"] (spF K [0] 0 fw)) (cR:Kn P w K mg base k "put_together" ["step"] (spF K [0] 1 bi)) (bM:Kn P w K mg base k "how_many_made" ["step"] (spF K [0] 0 aQ)) (F:Fun K "tries" "tries" iS f fd):FnOk P w K mg base CX0 (k+1) f fd ["plan"] (spF K [0] 1 cg):=by
 have nd:=sctries.nd
 refine F.okQ (N:=kh) (b:=pZ) (J:=⟨[],[0,0,0],1,[]⟩) (ds0:=[0,0,0]) sctries rfl rfl rfl rfl fun cdv A outer s H E hr=>?_
 exact (ag (a8 (aC cQ hr rfl (aa (ai (d':=0) (aT (pf (K:=K) rfl rfl) rfl T.sum0 (by decide +kernel) (aa (ai (d':=0) (dB (cd:=0) (d:=1) (dsi:=[0]) (lk:=[]) (BlkOkC.of (ns:=["step"]) (js:=[none]) (N0:=kh) (sc0:=aq iS) rfl rfl (by decide +kernel)) rfl (aV (K:=K) rfl (ac (i:=0) rfl (.inl rfl) rfl rfl rfl)) (fun _ _ _ _ _=>(ay (i:=0) (ds':=[0]) (show (["step"]:List Str).Nodup by decide +kernel) rfl (.inl rfl) rfl (by decide) (by decide) (.inr rfl))) (fun _ _ _ _ _=>dh) (fun _ _ _ _ _=>(aC bM hr rfl (aa (ac (i:=0) rfl (.inl rfl) rfl rfl rfl) ad rfl) rfl rfl rfl rfl rfl)) rfl rfl (by decide) rfl (fun _=>rfl)) (by decide)) ad rfl) rfl (by decide) rfl rfl rfl) (by decide)) ad rfl) rfl rfl rfl rfl rfl) rfl)
  (ag (am (i:=1) (d:=1) (ds':=[0,1,0]) nd rfl (.inl rfl) (ai (d':=1) (aI (d:=3) (c:=3) ad rfl rfl (by decide)) (by decide)) rfl (by decide) (by decide) rfl (.inl rfl))
  (ag (aO (ds1:=[0,1,0]) rfl (aV (K:=K) rfl (ac (i:=0) rfl (.inl rfl) rfl rfl rfl)) (ay (i:=2) (ds':=[0,1,0]) nd rfl (.inl rfl) rfl (by decide) (by decide) (.inl rfl)) (ak (a8 (gK (K:=K) (i:=1) (d:=1) rfl rfl (.inl rfl) rfl (aC cR hr rfl (aa (ac (i:=2) rfl (.inl rfl) rfl rfl rfl) ad rfl) rfl rfl rfl rfl rfl) (by decide) rfl rfl rfl rfl rfl rfl rfl) rfl)) PassesOwn.never (fun _=>rfl))
  (ak (aA (bh (vR (K:=K) rfl rfl) rfl T.list0 (by decide +kernel) (aa (aC rF hr rfl (aa (b6 (ds0:=[0,0,0]) (ac (p:=false) (i:=1) rfl (.inl rfl) rfl rfl rfl) rfl) ad rfl) rfl rfl rfl rfl rfl) ad rfl) rfl (by decide) rfl rfl rfl) rfl)))))
def kR:MN:=(fC bL (ae (eN fQ (ae (eLC true (br (af 0)) (gN 0) cY ef [none]) aj)) aj))
def iT:List D→Option Str:=fnN 2 kR
theorem CL {k:Nat} (T:Bl mg)  (cQ:Kn P w K mg base k "refuse_words" ["many"] (spF K [0] 3 ba)) (rF:Kn P w K mg base k "marked" ["things"] (spF K [0] 0 fw)) (cR:Kn P w K mg base k "put_together" ["step"] (spF K [0] 1 bi)) (bM:Kn P w K mg base k "how_many_made" ["step"] (spF K [0] 0 aQ)) (GNrefuse_words:KnX P w K mg base k "refuse_words" ["many"] (spN K [0] (clK K) bL)) (F:Fun K "tries" "tries" iS f fd):FnOk P w K mg base (CXr P w) (k+1) f fd ["plan"] (spN K [0] (clK K) iT):=by
 have nd:=sctries.nd
 refine F.okN (N:=kh) (b:=kR) (ds0:=[0,0,0]) sctries rfl rfl rfl fun cdv A outer s H E hr R O=>?_
 exact (l8 (ph O GNrefuse_words hr rfl (aa (ai (d':=0) (aT (pf (K:=K) rfl rfl) rfl T.sum0 (by decide +kernel) (aa (ai (d':=0) (dB (cd:=0) (d:=1) (dsi:=[0]) (lk:=[]) (BlkOkC.of (ns:=["step"]) (js:=[none]) (N0:=kh) (sc0:=aq iS) rfl rfl (by decide +kernel)) rfl (aV (K:=K) rfl (ac (i:=0) rfl (.inl rfl) rfl rfl rfl)) (fun _ _ _ _ _=>(ay (i:=0) (ds':=[0]) (show (["step"]:List Str).Nodup by decide +kernel) rfl (.inl rfl) rfl (by decide) (by decide) (.inr rfl))) (fun _ _ _ _ _=>dh) (fun _ _ _ _ _=>(aC bM hr rfl (aa (ac (i:=0) rfl (.inl rfl) rfl rfl rfl) ad rfl) rfl rfl rfl rfl rfl)) rfl rfl (by decide) rfl (fun _=>rfl)) (by decide)) ad rfl) rfl (by decide) rfl rfl rfl) (by decide)) ad rfl) rfl rfl rfl rfl))
abbrev ke:Stmt:=top 26
abbrev nJ:List Str:=["_law_script", "_law_k", "_law_cell"]
theorem sc_law_pen:FnScope nJ ["_law_script", "_law_k"] (aq ke):=⟨rfl,rfl,rfl,by decide +kernel,rfl,by decide +kernel,by decide +kernel⟩
def cr:MS:=(ao (ax 2 (e2 bu (e2 cK (eC (.int 6151)) (af 1)) (eC (.int 3))))
 (ao (sIf (tV (e2 ltI (af 1) (eN bQ (ae (af 0) aj)))) (ax 2 (e2 ixA (af 0) (af 1))) (sIf (tV (e2 gtI (eN bQ (ae (af 0) aj)) (eC (.int 0)))) (ax 2 (e2 bu (e2 bY (e2 ixA (af 0) (e2 bY (af 1) (eN bQ (ae (af 0) aj)))) (eC (.int 2147483629))) (e2 cK (eC (.int 40503)) (af 1)))) bc))
 (ao (sIf (tV (e2 geI (af 2) (e2 mM (eC (.int 10)) (eC (.int 18))))) (aR (a9 (ae (e2 i4 (af 2) (e2 mM (eC (.int 10)) (eC (.int 18)))) (ae (e2 bY (af 2) (eC (.int 2147483587))) (ae (eC (.int 0)) aj))))) bc)
 (aR (a9 (ae (eC (.int 0)) (ae (e2 bY (af 2) (eC (.int 2147483587))) (ae (eC (.int 0)) aj))))))))
def F_law_pen:List D→Option (D × En):=fnF 1 [0,0] cr
theorem rV {k:Nat} (T:Bl mg)   (F:Fun K "_law_pen" "_law_pen" ke f fd):FnOk P w K mg base CX0 (k+1) f fd ["_law_script", "_law_k"] (spF K [0,0] 3 F_law_pen):=by
 have nd:=sc_law_pen.nd
 refine F.okQ (N:=nJ) (b:=cr) (J:=⟨[],[0,0,0],3,[]⟩) (ds0:=[0,0,0]) sc_law_pen rfl rfl rfl rfl fun cdv A outer s H E hr=>?_
 exact (ag (am (i:=2) (d:=0) (ds':=[0,0,0]) nd rfl (.inl rfl) (ai (d':=0) (au bw (au fP ah (ac (i:=1) rfl (.inl rfl) rfl rfl rfl)) ah) (by decide)) rfl (by decide) (by decide) rfl (.inl rfl))
  (ag (aM (ds2:=[0,0,0]) (az Bk (ac (i:=1) rfl (.inl rfl) rfl rfl rfl) (aT (cc (K:=K) rfl) rfl T.len0 (by decide +kernel) (aa (ac (i:=0) rfl (.inl rfl) rfl rfl rfl) ad rfl) rfl (by decide) rfl rfl rfl) (aL _)) (ak (am (i:=2) (d:=0) (ds':=[0,0,0]) nd rfl (.inl rfl) (bp (dA (K:=K) rfl) (ac (i:=0) rfl (.inl rfl) rfl rfl rfl) (ac (i:=1) rfl (.inl rfl) rfl rfl rfl) (fun _ _=>rfl)) rfl (by decide) (by decide) rfl (.inl rfl))) (ak (aM (ds2:=[0,0,0]) (az dN (aT (cc (K:=K) rfl) rfl T.len0 (by decide +kernel) (aa (ac (i:=0) rfl (.inl rfl) rfl rfl rfl) ad rfl) rfl (by decide) rfl rfl rfl) ah (aL _)) (ak (am (i:=2) (d:=0) (ds':=[0,0,0]) nd rfl (.inl rfl) (ai (d':=0) (au bw (au eL (bp (dA (K:=K) rfl) (ac (i:=0) rfl (.inl rfl) rfl rfl rfl) (au eL (ac (i:=1) rfl (.inl rfl) rfl rfl rfl) (aT (cc (K:=K) rfl) rfl T.len0 (by decide +kernel) (aa (ac (i:=0) rfl (.inl rfl) rfl rfl rfl) ad rfl) rfl (by decide) rfl rfl rfl)) (fun _ _=>rfl)) ah) (au fP ah (ac (i:=1) rfl (.inl rfl) rfl rfl rfl))) (by decide)) rfl (by decide) (by decide) rfl (.inl rfl))) aK)))
  (ag (aM (ds2:=[0,0,0]) (az HD (ac (i:=2) rfl (.inl rfl) rfl rfl rfl) (au uv ah ah) (aL _)) (ak (aA (aI (d:=3) (c:=3) (aa (au l7 (ac (i:=2) rfl (.inl rfl) rfl rfl rfl) (au uv ah ah)) (aa (au eL (ac (i:=2) rfl (.inl rfl) rfl rfl rfl) ah) (aa ah ad rfl) rfl) rfl) rfl rfl (by decide)) rfl)) aK)
  (ak (aA (aI (d:=3) (c:=3) (aa ah (aa (au eL (ac (i:=2) rfl (.inl rfl) rfl rfl rfl) ah) (aa ah ad rfl) rfl) rfl) rfl rfl (by decide)) rfl)))))
abbrev jp:Stmt:=top 27
abbrev mH:List Str:=["_law_pen_here", "_law_many", "_law_drawn", "_law_number"]
theorem sc_law_draw:FnScope mH ["_law_pen_here", "_law_many"] (aq jp):=⟨rfl,rfl,rfl,by decide +kernel,rfl,by decide +kernel,by decide +kernel⟩
def cu:MS:=(ao (eI 0 (eC (.int 2)) (e2 bu (cE 0 (eC (.int 2))) (eC (.int 1))))
 (ao (sIf (tV (e2 gtI (cE 0 (eC (.int 0))) (eC (.int 0)))) (ao (ax 2 (e2 bY (cE 0 (eC (.int 0))) (af 1)))
 (ao (eI 0 (eC (.int 0)) (e2 gg (cE 0 (eC (.int 0))) (af 1)))
 (aR (af 2)))) bc)
 (ao (ax 3 (e2 bY (e2 bu (e2 bu (cE 0 (eC (.int 1))) (e2 cK (eC (.int 69621)) (cE 0 (eC (.int 2))))) (eC (.int 13))) (eC (.int 2147483629))))
 (ao (ax 3 (e2 bu (e2 bY (e2 cK (af 3) (af 3)) (eC (.int 2147483587))) (e2 cK (eC (.int 6151)) (cE 0 (eC (.int 2))))))
 (ao (ax 3 (e2 bY (e2 cK (af 3) (af 3)) (eC (.int 2147483629))))
 (aR (e2 bY (e2 gg (af 3) (eC (.int 64))) (af 1))))))))
def F_law_draw:List D→Option (D × En):=fnF 2 [1,0] cu
theorem qk {k:Nat} (T:Bl mg)   (F:Fun K "_law_draw" "_law_draw" jp f fd):FnOk P w K mg base CX0 (k+1) f fd ["_law_pen_here", "_law_many"] (spF K [1,0] 0 F_law_draw):=by
 have nd:=sc_law_draw.nd
 refine F.okQ (N:=mH) (b:=cu) (J:=⟨[0],[1,0,0,0],0,[]⟩) (ds0:=[1,0,0,0]) sc_law_draw rfl rfl rfl rfl fun cdv A outer s H E hr=>?_
 exact (ag (je (i:=0) (d:=1) (c:=0) rfl (.inl rfl) (ai (d':=0) (au bw (dY (K:=K) (i:=0) rfl rfl (.inl rfl) rfl ah (fun _ _=>rfl) rfl rfl) ah) (by decide)) ah rfl (by decide) rfl rfl rfl (fun _=>rfl) rfl rfl rfl)
  (ag (aM (ds2:=[1,0,0,0]) (az dN (dY (K:=K) (i:=0) rfl rfl (.inl rfl) rfl ah (fun _ _=>rfl) rfl rfl) ah (aL _)) (ag (am (i:=2) (d:=0) (ds':=[1,0,0,0]) nd rfl (.inl rfl) (ai (d':=0) (au eL (dY (K:=K) (i:=0) rfl rfl (.inl rfl) rfl ah (fun _ _=>rfl) rfl rfl) (ac (i:=1) rfl (.inl rfl) rfl rfl rfl)) (by decide)) rfl (by decide) (by decide) rfl (.inl rfl))
  (ag (je (i:=0) (d:=1) (c:=0) rfl (.inl rfl) (ai (d':=0) (au rk (dY (K:=K) (i:=0) rfl rfl (.inl rfl) rfl ah (fun _ _=>rfl) rfl rfl) (ac (i:=1) rfl (.inl rfl) rfl rfl rfl)) (by decide)) ah rfl (by decide) rfl rfl rfl (fun _=>rfl) rfl rfl rfl)
  (ak (aA (ac (i:=2) rfl (.inl rfl) rfl rfl rfl) rfl)))) aK)
  (ag (am (i:=3) (d:=0) (ds':=[1,0,0,0]) nd rfl (.inl rfl) (ai (d':=0) (au eL (au bw (au bw (dY (K:=K) (i:=0) rfl rfl (.inl rfl) rfl ah (fun _ _=>rfl) rfl rfl) (au fP ah (dY (K:=K) (i:=0) rfl rfl (.inl rfl) rfl ah (fun _ _=>rfl) rfl rfl))) ah) ah) (by decide)) rfl (by decide) (by decide) rfl (.inl rfl))
  (ag (am (i:=3) (d:=0) (ds':=[1,0,0,0]) nd rfl (.inl rfl) (ai (d':=0) (au bw (au eL (au fP (ac (i:=3) rfl (.inl rfl) rfl rfl rfl) (ac (i:=3) rfl (.inl rfl) rfl rfl rfl)) ah) (au fP ah (dY (K:=K) (i:=0) rfl rfl (.inl rfl) rfl ah (fun _ _=>rfl) rfl rfl))) (by decide)) rfl (by decide) (by decide) rfl (.inl rfl))
  (ag (am (i:=3) (d:=0) (ds':=[1,0,0,0]) nd rfl (.inl rfl) (ai (d':=0) (au eL (au fP (ac (i:=3) rfl (.inl rfl) rfl rfl rfl) (ac (i:=3) rfl (.inl rfl) rfl rfl rfl)) ah) (by decide)) rfl (by decide) (by decide) rfl (.inl rfl))
  (ak (aA (ai (d':=0) (au eL (au rk (ac (i:=3) rfl (.inl rfl) rfl rfl rfl) ah) (ac (i:=1) rfl (.inl rfl) rfl rfl rfl)) (by decide)) rfl)))))))
abbrev eT:Stmt:=top 28
abbrev gR:List Str:=["_law_pen_here", "_law_most", "_law_signs", "_law_amount", "_law_sizes", "_law_kinds", "_law_size", "_law_kind", "_law_k", "_law_at"]
theorem sc_law_tongue:FnScope gR ["_law_pen_here", "_law_most"] (aq eT):=⟨rfl,rfl,rfl,by decide +kernel,rfl,by decide +kernel,by decide +kernel⟩
def fy:ME:=(e2 bu (eC (.int 1)) (ar F_law_draw (bb 1 (ae (af 2) aj))))
def m8:MS:=(eI 4 (e2 iN (af 4) (eN r9 (ae (af 4) aj))) (e2 i4 (eN r9 (ae (af 4) aj)) (eC (.int 1))))
def iQ:MT:=(tV (e2 gtI (eN fQ (ae (af 4) aj)) (eC (.int 12))))
def fu:MS:=(ao (ax 9 (ar F_law_draw (bb 0 (ae (eN bQ (ae (af 2) aj)) aj))))
 (ao (ax 7 (e2 bu (af 7) (e2 ixT (af 2) (af 9))))
 (ax 2 (e2 bu (eSl pI (af 2) dw (bX (af 9))) (eSl pI (af 2) (bX (e2 bu (af 9) (eC (.int 1)))) dw)))))
def ft:MS:=(ao (ax 7 (eC (.str "")))
 (ao (bG (cb (ae (af 6) aj)) (gN 8) fu)
 (bA (dm 5 (af 7)))))
noncomputable def gX:MS:=(ao (ax 2 (eC (.str "!\"#$&'()*+,-./0123456789:;<=>?@ABCDEFGHIJKLMNOPQRSTUVWXYZ[\\]^_`abcdefghijklmnopqrstuvwxyz{|}~")))
 (ao (ax 3 (e2 bu (eC (.int 1)) (ar F_law_draw (bb 0 (ae (eC (.int 4)) aj)))))
 (ao (ax 4 (eLC false (cb (ae (af 3) aj)) (gN 0) cY fy [none,some 0,some 1]))
 (ao (sIf (cV (tV (e2 eqD (af 1) (eC (.int 6)))) (tV (e2 eqD (ar F_law_draw (bb 0 (ae (eC (.int 6)) aj))) (eC (.int 0))))) (ax 4 (e2 ixA (a9 (ae (a9 (ae (eC (.int 6)) (ae (eC (.int 6)) aj))) (ae (a9 (ae (eC (.int 4)) (ae (eC (.int 4)) (ae (eC (.int 4)) aj)))) (ae (a9 (ae (eC (.int 3)) (ae (eC (.int 3)) (ae (eC (.int 3)) (ae (eC (.int 3)) aj))))) (ae (a9 (ae (eC (.int 6)) (ae (eC (.int 1)) (ae (eC (.int 5)) aj)))) aj))))) (ar F_law_draw (bb 0 (ae (eC (.int 4)) aj))))) bc)
 (ao (cP iQ m8)
 (ao (ax 5 (a9 aj))
 (ao (bG (br (af 4)) (gN 6) ft)
 (aR (eN dU (ae (af 5) aj))))))))))
noncomputable def cF:List D→Option (D × En):=fnF 8 [1,0] gX
theorem nM {k:Nat} (T:Bl mg)  (aU:Kn P w K mg base k "_law_draw" ["_law_pen_here", "_law_many"] (spF K [1,0] 0 F_law_draw)) (F:Fun K "_law_tongue" "_law_tongue" eT f fd):FnOk P w K mg base CX0 (k+1) f fd ["_law_pen_here", "_law_most"] (spF K [1,0] 0 cF):=by
 have nd:=sc_law_tongue.nd
 refine F.okQ (N:=gR) (b:=gX) (J:=⟨[0],[1,0,0,0,0,0,0,0,0,0],0,[]⟩) (ds0:=[1,0,0,0,0,0,0,0,0,0]) sc_law_tongue rfl rfl rfl rfl fun cdv A outer s H E hr=>?_
 exact (ag (am (i:=2) (d:=0) (ds':=[1,0,0,0,0,0,0,0,0,0]) nd rfl (.inl rfl) (ai (d':=0) cy (by decide)) rfl (by decide) (by decide) rfl (.inl rfl))
  (ag (am (i:=3) (d:=0) (ds':=[1,0,0,0,0,0,0,0,0,0]) nd rfl (.inl rfl) (ai (d':=0) (au bw ah (aS aU hr rfl (aJ (i:=0) rfl (.inr (.inl rfl)) (aa (ai (d':=0) ah (by decide)) ad rfl) rfl rfl) rfl rfl rfl rfl)) (by decide)) rfl (by decide) (by decide) rfl (.inl rfl))
  (ag (uq (ds1:=[1,0,0,0,1,0,0,0,0,0]) (qp (i:=4) (ds':=[1,0,0,0,3,0,0,0,0,0]) (cd:=3) (d:=3) (dsi:=[0,1,0]) (lk:=[1,2]) nd rfl rfl (BlkOkC.of (ns:=["_law_k", "_law_pen_here", "_law_most"]) (js:=[none,some 0,some 1]) (N0:=gR) (sc0:=aq eT) rfl rfl (by decide +kernel)) rfl (bU rfl T.range0 (aa (ac (i:=3) rfl (.inl rfl) rfl rfl rfl) ad rfl) rfl) (fun _ _ _ _ _=>(ay (i:=0) (ds':=[0,1,0]) (show (["_law_k", "_law_pen_here", "_law_most"]:List Str).Nodup by decide +kernel) rfl (.inl rfl) rfl (by decide) (by decide) (.inr rfl))) (fun _ _ _ _ _=>dh) (fun _ _ _ _ _=>(au bw ah (aS aU hr rfl (aJ (i:=1) rfl (.inr (.inl rfl)) (aa (ac (i:=2) rfl (.inr (.inl rfl)) rfl rfl rfl) ad rfl) rfl rfl) rfl rfl rfl rfl))) rfl rfl rfl (by decide) rfl (by decide) (by decide) rfl (fun _=>rfl)) rfl)
  (ag (aM (ds2:=[1,0,0,0,1,0,0,0,0,0]) (qpt (dg (az (cW (K:=K) rfl hr.units) (ac (i:=1) rfl (.inr (.inl rfl)) rfl rfl rfl) ah (aL _)) (eA (az (cW (K:=K) rfl hr.units) (aS aU hr rfl (aJ (i:=0) rfl (.inr (.inl rfl)) (aa (ai (d':=0) ah (by decide)) ad rfl) rfl rfl) rfl rfl rfl rfl) ah (aL _))))) (ak (am (i:=4) (d:=1) (ds':=[1,0,0,0,1,0,0,0,0,0]) nd rfl (.inl rfl) (ai (d':=1) (vW (K:=K) rfl (aI (d:=3) (c:=3) (aa (aI (d:=3) (c:=3) (aa ah (aa ah ad rfl) rfl) rfl rfl (by decide)) (aa (aI (d:=3) (c:=3) (aa ah (aa ah (aa ah ad rfl) rfl) rfl) rfl rfl (by decide)) (aa (aI (d:=3) (c:=3) (aa ah (aa ah (aa ah (aa ah ad rfl) rfl) rfl) rfl) rfl rfl (by decide)) (aa (aI (d:=3) (c:=3) (aa ah (aa ah (aa ah ad rfl) rfl) rfl) rfl rfl (by decide)) ad rfl) rfl) rfl) rfl) rfl rfl (by decide)) (aS aU hr rfl (aJ (i:=0) rfl (.inr (.inl rfl)) (aa (ai (d':=0) ah (by decide)) ad rfl) rfl rfl) rfl rfl rfl rfl) (fun _ _=>rfl) (by decide)) (by decide)) rfl (by decide) (by decide) rfl (.inl rfl))) aK)
  (ag (qo (ds:=[1,0,0,0,1,0,0,0,0,0]) (fO (ds0:=[1,0,0,0,0,0,0,0,0,0]) (az dN (aT (pf (K:=K) rfl rfl) rfl T.sum0 (by decide +kernel) (aa (ac (i:=4) rfl (.inl rfl) rfl rfl rfl) ad rfl) rfl (by decide) rfl rfl rfl) ah (aL _)) rfl) (ak (je (i:=4) (d:=1) (c:=0) rfl (.inl rfl) (ai (d':=0) (gM (ds0:=[1,0,0,0,0,0,0,0,0,0]) (au l7 (aT (rj (K:=K) rfl rfl) rfl T.max0 (by decide +kernel) (aa (ac (i:=4) rfl (.inl rfl) rfl rfl rfl) ad rfl) rfl (by decide) rfl rfl rfl) ah) rfl) (by decide)) (gM (ds0:=[1,0,0,0,0,0,0,0,0,0]) (qt (K:=K) rfl (ac (i:=4) rfl (.inl rfl) rfl rfl rfl) (aT (rj (K:=K) rfl rfl) rfl T.max0 (by decide +kernel) (aa (ac (i:=4) rfl (.inl rfl) rfl rfl rfl) ad rfl) rfl (by decide) rfl rfl rfl) rfl rfl rfl rfl rfl) rfl) rfl (by decide) rfl rfl rfl (fun _=>rfl) rfl rfl rfl)) PassesOwn.never)
  (ag (am (i:=5) (d:=1) (ds':=[1,0,0,0,1,1,0,0,0,0]) nd rfl (.inl rfl) (ai (d':=1) (aI (d:=3) (c:=3) ad rfl rfl (by decide)) (by decide)) rfl (by decide) (by decide) rfl (.inl rfl))
  (ag (aO (ds1:=[1,0,0,0,0,1,0,0,0,0]) rfl (aV (K:=K) rfl (b6 (ds0:=[1,0,0,0,0,1,0,0,0,0]) (ac (p:=false) (i:=4) rfl (.inl rfl) rfl rfl rfl) rfl)) (ay (i:=6) (ds':=[1,0,0,0,0,1,0,0,0,0]) nd rfl (.inl rfl) rfl (by decide) (by decide) (.inl rfl)) (ag (am (i:=7) (d:=0) (ds':=[1,0,0,0,0,1,0,0,0,0]) nd rfl (.inl rfl) (ai (d':=0) cy (by decide)) rfl (by decide) (by decide) rfl (.inl rfl))
  (ag (aO (ds1:=[1,0,0,0,0,1,0,0,0,0]) rfl (bU rfl T.range0 (aa (ac (i:=6) rfl (.inl rfl) rfl rfl rfl) ad rfl) rfl) (ay (i:=8) (ds':=[1,0,0,0,0,1,0,0,0,0]) nd rfl (.inl rfl) rfl (by decide) (by decide) (.inl rfl)) (ag (am (i:=9) (d:=0) (ds':=[1,0,0,0,0,1,0,0,0,0]) nd rfl (.inl rfl) (aS aU hr rfl (aJ (i:=0) rfl (.inr (.inl rfl)) (aa (ai (d':=0) (aT (cc (K:=K) rfl) rfl T.len0 (by decide +kernel) (aa (ac (i:=2) rfl (.inl rfl) rfl rfl rfl) ad rfl) rfl (by decide) rfl rfl rfl) (by decide)) ad rfl) rfl rfl) rfl rfl rfl rfl) rfl (by decide) (by decide) rfl (.inl rfl))
  (ag (am (i:=7) (d:=0) (ds':=[1,0,0,0,0,1,0,0,0,0]) nd rfl (.inl rfl) (ai (d':=0) (au bw (ac (i:=7) rfl (.inl rfl) rfl rfl rfl) (bp j4 (ac (i:=2) rfl (.inl rfl) rfl rfl rfl) (ac (i:=9) rfl (.inl rfl) rfl rfl rfl) (fun _ _=>rfl))) (by decide)) rfl (by decide) (by decide) rfl (.inl rfl))
  (ak (am (i:=2) (d:=0) (ds':=[1,0,0,0,0,1,0,0,0,0]) nd rfl (.inl rfl) (ai (d':=0) (au bw (bq pq (ac (i:=2) rfl (.inl rfl) rfl rfl rfl) bT (bo (ac (i:=9) rfl (.inl rfl) rfl rfl rfl))) (bq pq (ac (i:=2) rfl (.inl rfl) rfl rfl rfl) (bo (au bw (ac (i:=9) rfl (.inl rfl) rfl rfl rfl) ah)) bT)) (by decide)) rfl (by decide) (by decide) rfl (.inl rfl))))) PassesOwn.never (fun _=>rfl))
  (ak (a8 (di (K:=K) (i:=5) (d:=1) rfl rfl (.inl rfl) rfl (ac (i:=7) rfl (.inl rfl) rfl rfl rfl) (by decide) rfl rfl rfl rfl rfl rfl rfl rfl) rfl)))) PassesOwn.never (fun _=>rfl))
  (ak (aA (bh (bW (K:=K) rfl) rfl T.tuple0 (by decide +kernel) (aa (b6 (ds0:=[1,0,0,0,0,0,0,0,0,0]) (ac (p:=false) (i:=5) rfl (.inl rfl) rfl rfl rfl) rfl) ad rfl) rfl (by decide) rfl rfl rfl) rfl)))))))))
abbrev jk:Stmt:=top 29
abbrev mC:List Str:=["_law_pen_here", "_law_tongue_here", "_law_most", "_law_signs", "_law_word", "_law_alike", "_law_k", "_law_sign"]
theorem sc_law_text:FnScope mC ["_law_pen_here", "_law_tongue_here", "_law_most"] (aq jk):=⟨rfl,rfl,rfl,by decide +kernel,rfl,by decide +kernel,by decide +kernel⟩
def kj:MS:=(ao (ax 7 (e2 ixT (af 3) (ar F_law_draw (bb 0 (ae (eN bQ (ae (af 3) aj)) aj)))))
 (ao (sIf (tV (af 5)) (ax 7 (e2 ixT (af 4) (eC (.int 0)))) bc)
 (ax 4 (e2 bu (af 4) (af 7)))))
def jx:MS:=(ao (ax 3 (eM joinD (eC (.str "")) (ae (af 1) aj)))
 (ao (ax 4 (e2 ixT (af 3) (ar F_law_draw (bb 0 (ae (eN bQ (ae (af 3) aj)) aj)))))
 (ao (ax 5 (e2 eqD (ar F_law_draw (bb 0 (ae (eC (.int 3)) aj))) (eC (.int 0))))
 (ao (bG (cb (ae (ar F_law_draw (bb 0 (ae (af 2) aj))) aj)) (gN 6) kj)
 (aR (af 4))))))
def ci:List D→Option (D × En):=fnF 5 [1,0,0] jx
theorem qa {k:Nat} (T:Bl mg)  (aU:Kn P w K mg base k "_law_draw" ["_law_pen_here", "_law_many"] (spF K [1,0] 0 F_law_draw)) (F:Fun K "_law_text" "_law_text" jk f fd):FnOk P w K mg base CX0 (k+1) f fd ["_law_pen_here", "_law_tongue_here", "_law_most"] (spF K [1,0,0] 0 ci):=by
 have nd:=sc_law_text.nd
 refine F.okQ (N:=mC) (b:=jx) (J:=⟨[0],[1,0,0,0,0,0,0,0],0,[]⟩) (ds0:=[1,0,0,0,0,0,0,0]) sc_law_text rfl rfl rfl rfl fun cdv A outer s H E hr=>?_
 exact (ag (am (i:=3) (d:=0) (ds':=[1,0,0,0,0,0,0,0]) nd rfl (.inl rfl) (ai (d':=0) (eD (K:=K) rfl PySem.F.slot_str_join PySem.F.type_str_join (kE rfl) kJ cy (aa (ac (i:=1) rfl (.inl rfl) rfl rfl rfl) ad rfl) rfl rfl rfl rfl rfl rfl) (by decide)) rfl (by decide) (by decide) rfl (.inl rfl))
  (ag (am (i:=4) (d:=0) (ds':=[1,0,0,0,0,0,0,0]) nd rfl (.inl rfl) (ai (d':=0) (bp j4 (ac (i:=3) rfl (.inl rfl) rfl rfl rfl) (aS aU hr rfl (aJ (i:=0) rfl (.inl rfl) (aa (ai (d':=0) (aT (cc (K:=K) rfl) rfl T.len0 (by decide +kernel) (aa (ac (i:=3) rfl (.inl rfl) rfl rfl rfl) ad rfl) rfl (by decide) rfl rfl rfl) (by decide)) ad rfl) rfl rfl) rfl rfl rfl rfl) (fun _ _=>rfl)) (by decide)) rfl (by decide) (by decide) rfl (.inl rfl))
  (ag (am (i:=5) (d:=0) (ds':=[1,0,0,0,0,0,0,0]) nd rfl (.inl rfl) (ai (d':=0) (gL (cW (K:=K) rfl hr.units) (aS aU hr rfl (aJ (i:=0) rfl (.inl rfl) (aa (ai (d':=0) ah (by decide)) ad rfl) rfl rfl) rfl rfl rfl rfl) ah (aL _)) (by decide)) rfl (by decide) (by decide) rfl (.inl rfl))
  (ag (aO (ds1:=[1,0,0,0,0,0,0,0]) rfl (bU rfl T.range0 (aa (aS aU hr rfl (aJ (i:=0) rfl (.inl rfl) (aa (ac (i:=2) rfl (.inl rfl) rfl rfl rfl) ad rfl) rfl rfl) rfl rfl rfl rfl) ad rfl) rfl) (ay (i:=6) (ds':=[1,0,0,0,0,0,0,0]) nd rfl (.inl rfl) rfl (by decide) (by decide) (.inl rfl)) (ag (am (i:=7) (d:=0) (ds':=[1,0,0,0,0,0,0,0]) nd rfl (.inl rfl) (ai (d':=0) (bp j4 (ac (i:=3) rfl (.inl rfl) rfl rfl rfl) (aS aU hr rfl (aJ (i:=0) rfl (.inl rfl) (aa (ai (d':=0) (aT (cc (K:=K) rfl) rfl T.len0 (by decide +kernel) (aa (ac (i:=3) rfl (.inl rfl) rfl rfl rfl) ad rfl) rfl (by decide) rfl rfl rfl) (by decide)) ad rfl) rfl rfl) rfl rfl rfl rfl) (fun _ _=>rfl)) (by decide)) rfl (by decide) (by decide) rfl (.inl rfl))
  (ag (aM (ds2:=[1,0,0,0,0,0,0,0]) (be (ac (i:=5) rfl (.inl rfl) rfl rfl rfl) (fun _=>rfl)) (ak (am (i:=7) (d:=0) (ds':=[1,0,0,0,0,0,0,0]) nd rfl (.inl rfl) (ai (d':=0) (bp j4 (ac (i:=4) rfl (.inl rfl) rfl rfl rfl) ah (fun _ _=>rfl)) (by decide)) rfl (by decide) (by decide) rfl (.inl rfl))) aK)
  (ak (am (i:=4) (d:=0) (ds':=[1,0,0,0,0,0,0,0]) nd rfl (.inl rfl) (ai (d':=0) (au bw (ac (i:=4) rfl (.inl rfl) rfl rfl rfl) (ac (i:=7) rfl (.inl rfl) rfl rfl rfl)) (by decide)) rfl (by decide) (by decide) rfl (.inl rfl))))) PassesOwn.never (fun _=>rfl))
  (ak (aA (ac (i:=4) rfl (.inl rfl) rfl rfl rfl) rfl))))))
abbrev gi:Stmt:=top 30
abbrev jr:List Str:=["_law_pen_here", "_law_tongue_here", "_law_most", "_law_size", "_law_free", "_law_part_here", "_law_k", "_law_word", "_law_good"]
theorem sc_law_part:FnScope jr ["_law_pen_here", "_law_tongue_here", "_law_most", "_law_size", "_law_free"] (aq gi):=⟨rfl,rfl,rfl,by decide +kernel,rfl,by decide +kernel,by decide +kernel⟩
def kd:MT:=(bOr (tV (eM iF (af 0) (ae (af 1) aj))) (tV (eM iF (af 1) (ae (af 0) aj))))
def kr:ME:=(af 0)
def km:MS:=(ao (ax 7 (ar ci (bb 0 (ae (af 1) (ae (af 3) aj)))))
 (ao (ax 8 (e2 oG (af 7) (af 5)))
 (ao (sIf (dI (tV (af 4))) (ax 8 (e2 eqD (eLC true (br (af 5)) (gN 0) kd kr [none,some 7]) (a9 aj))) bc)
 (sIf (tV (af 8)) (bA (dm 5 (af 7))) bc))))
def jA:MS:=(ao (ax 5 (a9 aj))
 (ao (bG (cb (ae (af 2) aj)) (gN 6) km)
 (aR (eN dU (ae (af 5) aj)))))
def ck:List D→Option (D × En):=fnF 4 [1,0,0,0,0] jA
theorem qg {k:Nat} (T:Bl mg)  (jt:Kn P w K mg base k "_law_text" ["_law_pen_here", "_law_tongue_here", "_law_most"] (spF K [1,0,0] 0 ci)) (F:Fun K "_law_part" "_law_part" gi f fd):FnOk P w K mg base CX0 (k+1) f fd ["_law_pen_here", "_law_tongue_here", "_law_most", "_law_size", "_law_free"] (spF K [1,0,0,0,0] 0 ck):=by
 have nd:=sc_law_part.nd
 refine F.okQ (N:=jr) (b:=jA) (J:=⟨[0],[1,0,0,0,0,0,0,0,0],0,[]⟩) (ds0:=[1,0,0,0,0,0,0,0,0]) sc_law_part rfl rfl rfl rfl fun cdv A outer s H E hr=>?_
 exact (ag (am (i:=5) (d:=1) (ds':=[1,0,0,0,0,1,0,0,0]) nd rfl (.inl rfl) (ai (d':=1) (aI (d:=3) (c:=3) ad rfl rfl (by decide)) (by decide)) rfl (by decide) (by decide) rfl (.inl rfl))
  (ag (aO (ds1:=[1,0,0,0,0,1,0,0,0]) rfl (bU rfl T.range0 (aa (ac (i:=2) rfl (.inl rfl) rfl rfl rfl) ad rfl) rfl) (ay (i:=6) (ds':=[1,0,0,0,0,1,0,0,0]) nd rfl (.inl rfl) rfl (by decide) (by decide) (.inl rfl)) (ag (am (i:=7) (d:=0) (ds':=[1,0,0,0,0,1,0,0,0]) nd rfl (.inr rfl) (aS jt hr rfl (aJ (i:=0) rfl (.inl rfl) (aa (ac (i:=1) rfl (.inl rfl) rfl rfl rfl) (aa (ac (i:=3) rfl (.inl rfl) rfl rfl rfl) ad rfl) rfl) rfl rfl) rfl rfl rfl rfl) rfl (by decide) (by decide) rfl (.inl rfl))
  (ag (am (i:=8) (d:=0) (ds':=[1,0,0,0,0,1,0,0,0]) nd rfl (.inl rfl) (ai (d':=0) (gM (ds0:=[1,0,0,0,0,0,0,0,0]) (gL (vQ (K:=K) rfl hr.units) (ac (i:=7) rfl (.inr (.inl rfl)) rfl rfl rfl) (ac (i:=5) rfl (.inl rfl) rfl rfl rfl) (by with_unfolding_all rfl)) rfl) (by decide)) rfl (by decide) (by decide) rfl (.inl rfl))
  (ag (aM (ds2:=[1,0,0,0,0,1,0,0,0]) (bN (be (ac (i:=4) rfl (.inl rfl) rfl rfl rfl) (fun _=>rfl))) (ak (am (i:=8) (d:=0) (ds':=[1,0,0,0,0,1,0,0,0]) nd rfl (.inl rfl) (ai (d':=0) (gM (ds0:=[1,0,0,0,0,0,0,0,0]) (gL (cW (K:=K) rfl hr.units) (dB (cd:=0) (d:=1) (dsi:=[0,0]) (lk:=[1]) (BlkOkC.of (ns:=["_law_one", "_law_word"]) (js:=[none,some 7]) (N0:=jr) (sc0:=aq gi) rfl rfl (by decide +kernel)) rfl (aV (K:=K) rfl (ac (i:=5) rfl (.inl rfl) rfl rfl rfl)) (fun _ _ _ _ _=>(ay (i:=0) (ds':=[0,0]) (show (["_law_one", "_law_word"]:List Str).Nodup by decide +kernel) rfl (.inl rfl) rfl (by decide) (by decide) (.inr rfl))) (fun _ _ _ _ _=>(jX (qpt (dz (be (eD (K:=K) rfl PySem.F.slot_str_startswith PySem.F.type_str_startswith ni nq (ac (i:=0) rfl (.inl rfl) rfl rfl rfl) (aa (ac (i:=1) rfl (.inr (.inl rfl)) rfl rfl rfl) ad rfl) rfl rfl rfl rfl rfl rfl) (fun _=>rfl)) (cM (be (eD (K:=K) rfl PySem.F.slot_str_startswith PySem.F.type_str_startswith ni nq (ac (i:=1) rfl (.inr (.inl rfl)) rfl rfl rfl) (aa (ac (i:=0) rfl (.inl rfl) rfl rfl rfl) ad rfl) rfl rfl rfl rfl rfl rfl) (fun _=>rfl))))))) (fun _ _ _ _ _=>(ac (i:=0) rfl (.inl rfl) rfl rfl rfl)) rfl rfl (by decide) rfl (fun _=>rfl)) (aI (d:=3) (c:=3) ad rfl rfl (by decide)) (aL _)) rfl) (by decide)) rfl (by decide) (by decide) rfl (.inl rfl))) aK)
  (ak (aM (ds2:=[1,0,0,0,0,1,0,0,0]) (be (ac (i:=8) rfl (.inl rfl) rfl rfl rfl) (fun _=>rfl)) (ak (a8 (di (K:=K) (i:=5) (d:=1) rfl rfl (.inl rfl) rfl (ac (i:=7) rfl (.inr (.inl rfl)) rfl rfl rfl) (by decide) rfl rfl rfl rfl rfl rfl rfl rfl) rfl)) aK))))) PassesOwn.never (fun _=>rfl))
  (ak (aA (bh (bW (K:=K) rfl) rfl T.tuple0 (by decide +kernel) (aa (b6 (ds0:=[1,0,0,0,0,0,0,0,0]) (ac (p:=false) (i:=5) rfl (.inl rfl) rfl rfl rfl) rfl) ad rfl) rfl (by decide) rfl rfl rfl) rfl))))
abbrev jl:Stmt:=top 31
abbrev mD:List Str:=["_law_pen_here", "_law_tongue_here", "_law_parts", "_law_most", "_law_size", "_law_many", "_law_step_here", "_law_k", "_law_tall"]
theorem sc_law_step:FnScope mD ["_law_pen_here", "_law_tongue_here", "_law_parts", "_law_most", "_law_size"] (aq jl):=⟨rfl,rfl,rfl,by decide +kernel,rfl,by decide +kernel,by decide +kernel⟩
def kl:MS:=(ao (ax 8 (e2 bu (eC (.int 1)) (ar F_law_draw (bb 0 (ae (af 4) aj)))))
 (bA (dm 6 (ar ck (bb 0 (ae (af 1) (ae (ar F_law_draw (bb 0 (ae (e2 bu (af 3) (eC (.int 1))) aj))) (ae (af 8) (ae (e2 eqD (af 7) (e2 i4 (af 5) (eC (.int 1)))) aj)))))))))
def jy:MS:=(ao (ax 5 (e2 bu (eC (.int 1)) (ar F_law_draw (bb 0 (ae (af 2) aj)))))
 (ao (ax 6 (a9 aj))
 (ao (bG (cb (ae (af 5) aj)) (gN 7) kl)
 (aR (eN dU (ae (af 6) aj))))))
def cj:List D→Option (D × En):=fnF 4 [1,0,0,0,0] jy
theorem qc {k:Nat} (T:Bl mg)  (aU:Kn P w K mg base k "_law_draw" ["_law_pen_here", "_law_many"] (spF K [1,0] 0 F_law_draw)) (jv:Kn P w K mg base k "_law_part" ["_law_pen_here", "_law_tongue_here", "_law_most", "_law_size", "_law_free"] (spF K [1,0,0,0,0] 0 ck)) (F:Fun K "_law_step" "_law_step" jl f fd):FnOk P w K mg base CX0 (k+1) f fd ["_law_pen_here", "_law_tongue_here", "_law_parts", "_law_most", "_law_size"] (spF K [1,0,0,0,0] 0 cj):=by
 have nd:=sc_law_step.nd
 refine F.okQ (N:=mD) (b:=jy) (J:=⟨[0],[1,0,0,0,0,0,0,0,0],0,[]⟩) (ds0:=[1,0,0,0,0,0,0,0,0]) sc_law_step rfl rfl rfl rfl fun cdv A outer s H E hr=>?_
 exact (ag (am (i:=5) (d:=0) (ds':=[1,0,0,0,0,0,0,0,0]) nd rfl (.inl rfl) (ai (d':=0) (au bw ah (aS aU hr rfl (aJ (i:=0) rfl (.inl rfl) (aa (ac (i:=2) rfl (.inl rfl) rfl rfl rfl) ad rfl) rfl rfl) rfl rfl rfl rfl)) (by decide)) rfl (by decide) (by decide) rfl (.inl rfl))
  (ag (am (i:=6) (d:=1) (ds':=[1,0,0,0,0,0,1,0,0]) nd rfl (.inl rfl) (ai (d':=1) (aI (d:=3) (c:=3) ad rfl rfl (by decide)) (by decide)) rfl (by decide) (by decide) rfl (.inl rfl))
  (ag (aO (ds1:=[1,0,0,0,0,0,1,0,0]) rfl (bU rfl T.range0 (aa (ac (i:=5) rfl (.inl rfl) rfl rfl rfl) ad rfl) rfl) (ay (i:=7) (ds':=[1,0,0,0,0,0,1,0,0]) nd rfl (.inl rfl) rfl (by decide) (by decide) (.inl rfl)) (ag (am (i:=8) (d:=0) (ds':=[1,0,0,0,0,0,1,0,0]) nd rfl (.inl rfl) (ai (d':=0) (au bw ah (aS aU hr rfl (aJ (i:=0) rfl (.inl rfl) (aa (ac (i:=4) rfl (.inl rfl) rfl rfl rfl) ad rfl) rfl rfl) rfl rfl rfl rfl)) (by decide)) rfl (by decide) (by decide) rfl (.inl rfl))
  (ak (a8 (di (K:=K) (i:=6) (d:=1) rfl rfl (.inl rfl) rfl (aS jv hr rfl (aJ (i:=0) rfl (.inl rfl) (aa (ac (i:=1) rfl (.inl rfl) rfl rfl rfl) (aa (aS aU hr rfl (aJ (i:=0) rfl (.inl rfl) (aa (ai (d':=0) (au bw (ac (i:=3) rfl (.inl rfl) rfl rfl rfl) ah) (by decide)) ad rfl) rfl rfl) rfl rfl rfl rfl) (aa (ac (i:=8) rfl (.inl rfl) rfl rfl rfl) (aa (ai (d':=0) (gL (cW (K:=K) rfl hr.units) (ac (i:=7) rfl (.inl rfl) rfl rfl rfl) (au l7 (ac (i:=5) rfl (.inl rfl) rfl rfl rfl) ah) (aL _)) (by decide)) ad rfl) rfl) rfl) rfl) rfl rfl) rfl rfl rfl rfl) (by decide) rfl rfl rfl rfl rfl rfl rfl rfl) rfl))) PassesOwn.never (fun _=>rfl))
  (ak (aA (bh (bW (K:=K) rfl) rfl T.tuple0 (by decide +kernel) (aa (b6 (ds0:=[1,0,0,0,0,0,0,0,0]) (ac (p:=false) (i:=6) rfl (.inl rfl) rfl rfl rfl) rfl) ad rfl) rfl (by decide) rfl rfl rfl) rfl)))))
abbrev eU:Stmt:=top 32
abbrev gS:List Str:=["_law_step_here", "_law_words", "_law_one"]
theorem sc_law_merged:FnScope gS ["_law_step_here"] (aq eU):=⟨rfl,rfl,rfl,by decide +kernel,rfl,by decide +kernel,by decide +kernel⟩
def iR:MT:=(tV (e2 leI (eN bQ (ae (e2 bu (af 1) (af 0)) aj)) (eC (.int 6))))
def iW:ME:=(e2 bu (af 1) (af 0))
def iV:MS:=(bA (gO 1 (eLC true (br (e2 ixA (af 0) (eC (.int 1)))) (gN 0) iR iW [none,some 2])))
def du:MS:=(ao (sIf (bOr (tV (e2 ltI (eN bQ (ae (af 0) aj)) (eC (.int 2)))) (tV (e2 gtI (e2 cK (eN bQ (ae (e2 ixA (af 0) (eC (.int 0))) aj)) (eN bQ (ae (e2 ixA (af 0) (eC (.int 1))) aj))) (eC (.int 12))))) (aR (af 0)) bc)
 (ao (ax 1 (a9 aj))
 (ao (bG (br (e2 ixA (af 0) (eC (.int 0)))) (gN 2) iV)
 (aR (e2 eR (a7 (ae (eN dU (ae (af 1) aj)) aj)) (eSl pH (af 0) (bX (eC (.int 2))) dw))))))
def bO:List D→Option (D × En):=fnF 2 [0] du
theorem nN {k:Nat} (T:Bl mg)   (F:Fun K "_law_merged" "_law_merged" eU f fd):FnOk P w K mg base CX0 (k+1) f fd ["_law_step_here"] (spF K [0] 0 bO):=by
 have nd:=sc_law_merged.nd
 refine F.okQ (N:=gS) (b:=du) (J:=⟨[],[0,0,0],0,[]⟩) (ds0:=[0,0,0]) sc_law_merged rfl rfl rfl rfl fun cdv A outer s H E hr=>?_
 exact (ag (aM (ds2:=[0,0,0]) (qpt (dz (az Bk (aT (cc (K:=K) rfl) rfl T.len0 (by decide +kernel) (aa (ac (i:=0) rfl (.inl rfl) rfl rfl rfl) ad rfl) rfl (by decide) rfl rfl rfl) ah (aL _)) (cM (az dN (au fP (aT (cc (K:=K) rfl) rfl T.len0 (by decide +kernel) (aa (bp (dA (K:=K) rfl) (ac (i:=0) rfl (.inl rfl) rfl rfl rfl) ah (fun _ _=>rfl)) ad rfl) rfl (by decide) rfl rfl rfl) (aT (cc (K:=K) rfl) rfl T.len0 (by decide +kernel) (aa (bp (dA (K:=K) rfl) (ac (i:=0) rfl (.inl rfl) rfl rfl rfl) ah (fun _ _=>rfl)) ad rfl) rfl (by decide) rfl rfl rfl)) ah (aL _))))) (ak (aA (ac (i:=0) rfl (.inl rfl) rfl rfl rfl) rfl)) aK)
  (ag (am (i:=1) (d:=1) (ds':=[0,1,0]) nd rfl (.inl rfl) (ai (d':=1) (aI (d:=3) (c:=3) ad rfl rfl (by decide)) (by decide)) rfl (by decide) (by decide) rfl (.inl rfl))
  (ag (aO (ds1:=[0,1,0]) rfl (aV (K:=K) rfl (bp (dA (K:=K) rfl) (ac (i:=0) rfl (.inl rfl) rfl rfl rfl) ah (fun _ _=>rfl))) (ay (i:=2) (ds':=[0,1,0]) nd rfl (.inr rfl) rfl (by decide) (by decide) (.inl rfl)) (ak (a8 (gK (K:=K) (i:=1) (d:=1) rfl rfl (.inl rfl) rfl (ai (d':=1) (dB (cd:=3) (d:=3) (dsi:=[0,0]) (lk:=[1]) (BlkOkC.of (ns:=["_law_other", "_law_one"]) (js:=[none,some 2]) (N0:=gS) (sc0:=aq eU) rfl rfl (by decide +kernel)) rfl (aV (K:=K) rfl (bp (dA (K:=K) rfl) (ac (i:=0) rfl (.inl rfl) rfl rfl rfl) ah (fun _ _=>rfl))) (fun _ _ _ _ _=>(ay (i:=0) (ds':=[0,0]) (show (["_law_other", "_law_one"]:List Str).Nodup by decide +kernel) rfl (.inl rfl) rfl (by decide) (by decide) (.inr rfl))) (fun _ _ _ _ _=>(jX (az HB (aT (cc (K:=K) rfl) rfl T.len0 (by decide +kernel) (aa (ai (d':=0) (au bw (ac (i:=1) rfl (.inr (.inl rfl)) rfl rfl rfl) (ac (i:=0) rfl (.inl rfl) rfl rfl rfl)) (by decide)) ad rfl) rfl (by decide) rfl rfl rfl) ah (aL _)))) (fun _ _ _ _ _=>(au bw (ac (i:=1) rfl (.inr (.inl rfl)) rfl rfl rfl) (ac (i:=0) rfl (.inl rfl) rfl rfl rfl))) rfl rfl (by decide) rfl (fun _=>rfl)) (by decide)) (by decide) rfl rfl rfl rfl rfl rfl rfl) rfl)) PassesOwn.never (fun _=>rfl))
  (ak (aA (au (eB (K:=K) rfl) (aD (d:=0) (c:=0) (aa (bh (bW (K:=K) rfl) rfl T.tuple0 (by decide +kernel) (aa (b6 (ds0:=[0,0,0]) (ac (p:=false) (i:=1) rfl (.inl rfl) rfl rfl rfl) rfl) ad rfl) rfl (by decide) rfl rfl rfl) ad rfl) rfl rfl) (bq (pp (K:=K) rfl) (ac (i:=0) rfl (.inl rfl) rfl rfl rfl) (bo ah) bT)) rfl)))))
abbrev jn:Stmt:=top 34
abbrev mF:List Str:=["_law_pen_here", "_law_tongue_here", "_law_part_here", "_law_word"]
theorem sc_law_more:FnScope mF ["_law_pen_here", "_law_tongue_here", "_law_part_here"] (aq jn):=⟨rfl,rfl,rfl,by decide +kernel,rfl,by decide +kernel,by decide +kernel⟩
def jC:MS:=(ao (ax 3 (ar ci (bb 0 (ae (af 1) (ae (eC (.int 3)) aj)))))
 (ao (sIf (bOr (tV (e2 inL (af 3) (af 2))) (tV (e2 gtI (eN bQ (ae (af 2) aj)) (eC (.int 11))))) (aR (a7 aj)) bc)
 (aR (a7 (ae (af 3) aj)))))
def dF:List D→Option (D × En):=fnF 1 [1,0,0] jC
theorem qi {k:Nat} (T:Bl mg)  (jt:Kn P w K mg base k "_law_text" ["_law_pen_here", "_law_tongue_here", "_law_most"] (spF K [1,0,0] 0 ci)) (F:Fun K "_law_more" "_law_more" jn f fd):FnOk P w K mg base CX0 (k+1) f fd ["_law_pen_here", "_law_tongue_here", "_law_part_here"] (spF K [1,0,0] 0 dF):=by
 have nd:=sc_law_more.nd
 refine F.okQ (N:=mF) (b:=jC) (J:=⟨[0],[1,0,0,0],0,[]⟩) (ds0:=[1,0,0,0]) sc_law_more rfl rfl rfl rfl fun cdv A outer s H E hr=>?_
 exact (ag (am (i:=3) (d:=0) (ds':=[1,0,0,0]) nd rfl (.inl rfl) (aS jt hr rfl (aJ (i:=0) rfl (.inl rfl) (aa (ac (i:=1) rfl (.inl rfl) rfl rfl rfl) (aa (ai (d':=0) ah (by decide)) ad rfl) rfl) rfl rfl) rfl rfl rfl rfl) rfl (by decide) (by decide) rfl (.inl rfl))
  (ag (aM (ds2:=[1,0,0,0]) (qpt (dz (az (HC (K:=K) rfl hr.units) (ac (i:=3) rfl (.inl rfl) rfl rfl rfl) (ac (i:=2) rfl (.inl rfl) rfl rfl rfl) (by with_unfolding_all rfl)) (cM (az dN (aT (cc (K:=K) rfl) rfl T.len0 (by decide +kernel) (aa (ac (i:=2) rfl (.inl rfl) rfl rfl rfl) ad rfl) rfl (by decide) rfl rfl rfl) ah (aL _))))) (ak (aA (ai (d':=0) (aD (d:=3) (c:=3) ad rfl rfl) (by decide)) rfl)) aK)
  (ak (aA (aD (d:=0) (c:=0) (aa (ac (i:=3) rfl (.inl rfl) rfl rfl rfl) ad rfl) rfl rfl) rfl))))
abbrev gh:Stmt:=top 33
abbrev jq:List Str:=["_law_pen_here", "_law_tongue_here", "_law_parts", "_law_most", "_law_size", "_law_plan_here", "_law_k", "_law_step_here", "_law_way", "_law_last"]
theorem sc_law_plan:FnScope jq ["_law_pen_here", "_law_tongue_here", "_law_parts", "_law_most", "_law_size"] (aq gh):=⟨rfl,rfl,rfl,by decide +kernel,rfl,by decide +kernel,by decide +kernel⟩
def kq:ME:=(e2 kz (af 0) (e1 lw (eC (.int 1))))
def gW:MS:=(ao (ax 7 (ar cj (bb 0 (ae (af 1) (ae (af 2) (ae (af 3) (ae (af 4) aj)))))))
 (ao (ax 8 (ar F_law_draw (bb 0 (ae (eC (.int 6)) aj))))
 (ao (sIf (cV (tV (e2 gtI (af 6) (eC (.int 0)))) (tV (e2 eqD (af 8) (eC (.int 0))))) (ax 7 (ar bO (ae (e2 ixA (af 5) (eC (.int 0))) aj))) bc)
 (ao (sIf (cV (tV (e2 gtI (af 6) (eC (.int 0)))) (tV (e2 eqD (af 8) (eC (.int 1))))) (ao (ax 9 (e2 ixA (e2 ixA (af 5) (eC (.int 0))) (e1 lw (eC (.int 1)))))
 (ax 7 (e2 eR (eSl pH (e2 ixA (af 5) (eC (.int 0))) dw (bX (e1 lw (eC (.int 1))))) (a7 (ae (e2 eR (e2 kz (af 9) (e1 lw (eC (.int 1)))) (ar dF (bb 0 (ae (af 1) (ae (af 9) aj))))) aj))))) bc)
 (ao (sIf (cV (tV (e2 gtI (af 6) (eC (.int 0)))) (tV (e2 eqD (af 8) (eC (.int 2))))) (ax 7 (eN dU (ae (eLC true (br (e2 ixA (af 5) (e2 i4 (af 6) (eC (.int 1))))) (gN 0) cY kq [none]) aj))) bc)
 (ao (sIf (cV (tV (e2 gtI (af 6) (eC (.int 0)))) (tV (e2 eqD (af 8) (eC (.int 3))))) (ax 7 (e2 eR (a7 (ae (ar ck (bb 0 (ae (af 1) (ae (eC (.int 1)) (ae (eC (.int 3)) (ae (eC (.bool false)) aj)))))) aj)) (eSl pH (e2 ixA (af 5) (eC (.int 0))) (bX (eC (.int 1))) dw))) bc)
 (ax 5 (e2 eR (af 5) (a7 (ae (af 7) aj))))))))))
def jz:MS:=(ao (ax 5 (a7 aj))
 (ao (bG (cb (ae (ar F_law_draw (bb 0 (ae (eC (.int 4)) aj))) aj)) (gN 6) gW)
 (aR (af 5))))
def dE:List D→Option (D × En):=fnF 5 [1,0,0,0,0] jz
theorem qf {k:Nat} (T:Bl mg)  (aU:Kn P w K mg base k "_law_draw" ["_law_pen_here", "_law_many"] (spF K [1,0] 0 F_law_draw)) (ju:Kn P w K mg base k "_law_step" ["_law_pen_here", "_law_tongue_here", "_law_parts", "_law_most", "_law_size"] (spF K [1,0,0,0,0] 0 cj)) (pY:Kn P w K mg base k "_law_merged" ["_law_step_here"] (spF K [0] 0 bO)) (jv:Kn P w K mg base k "_law_part" ["_law_pen_here", "_law_tongue_here", "_law_most", "_law_size", "_law_free"] (spF K [1,0,0,0,0] 0 ck)) (sS:Kn P w K mg base k "_law_more" ["_law_pen_here", "_law_tongue_here", "_law_part_here"] (spF K [1,0,0] 0 dF)) (F:Fun K "_law_plan" "_law_plan" gh f fd):FnOk P w K mg base CX0 (k+1) f fd ["_law_pen_here", "_law_tongue_here", "_law_parts", "_law_most", "_law_size"] (spF K [1,0,0,0,0] 0 dE):=by
 have nd:=sc_law_plan.nd
 refine F.okQ (N:=jq) (b:=jz) (J:=⟨[0],[1,0,0,0,0,0,0,0,0,0],0,[]⟩) (ds0:=[1,0,0,0,0,0,0,0,0,0]) sc_law_plan rfl rfl rfl rfl fun cdv A outer s H E hr=>?_
 exact (ag (am (i:=5) (d:=0) (ds':=[1,0,0,0,0,0,0,0,0,0]) nd rfl (.inl rfl) (ai (d':=0) (aD (d:=3) (c:=3) ad rfl rfl) (by decide)) rfl (by decide) (by decide) rfl (.inl rfl))
  (ag (aO (ds1:=[1,0,0,0,0,0,0,0,0,0]) rfl (bU rfl T.range0 (aa (aS aU hr rfl (aJ (i:=0) rfl (.inl rfl) (aa (ai (d':=0) ah (by decide)) ad rfl) rfl rfl) rfl rfl rfl rfl) ad rfl) rfl) (ay (i:=6) (ds':=[1,0,0,0,0,0,0,0,0,0]) nd rfl (.inl rfl) rfl (by decide) (by decide) (.inl rfl)) (ag (am (i:=7) (d:=0) (ds':=[1,0,0,0,0,0,0,0,0,0]) nd rfl (.inl rfl) (aS ju hr rfl (aJ (i:=0) rfl (.inl rfl) (aa (ac (i:=1) rfl (.inl rfl) rfl rfl rfl) (aa (ac (i:=2) rfl (.inl rfl) rfl rfl rfl) (aa (ac (i:=3) rfl (.inl rfl) rfl rfl rfl) (aa (ac (i:=4) rfl (.inl rfl) rfl rfl rfl) ad rfl) rfl) rfl) rfl) rfl rfl) rfl rfl rfl rfl) rfl (by decide) (by decide) rfl (.inl rfl))
  (ag (am (i:=8) (d:=0) (ds':=[1,0,0,0,0,0,0,0,0,0]) nd rfl (.inl rfl) (aS aU hr rfl (aJ (i:=0) rfl (.inl rfl) (aa (ai (d':=0) ah (by decide)) ad rfl) rfl rfl) rfl rfl rfl rfl) rfl (by decide) (by decide) rfl (.inl rfl))
  (ag (aM (ds2:=[1,0,0,0,0,0,0,0,0,0]) (qpt (dg (az dN (ac (i:=6) rfl (.inl rfl) rfl rfl rfl) ah (aL _)) (eA (az (cW (K:=K) rfl hr.units) (ac (i:=8) rfl (.inl rfl) rfl rfl rfl) ah (aL _))))) (ak (am (i:=7) (d:=0) (ds':=[1,0,0,0,0,0,0,0,0,0]) nd rfl (.inl rfl) (aC pY hr rfl (aa (bp (dA (K:=K) rfl) (ac (i:=5) rfl (.inl rfl) rfl rfl rfl) ah (fun _ _=>rfl)) ad rfl) rfl rfl rfl rfl rfl) rfl (by decide) (by decide) rfl (.inl rfl))) aK)
  (ag (aM (ds2:=[1,0,0,0,0,0,0,0,0,0]) (qpt (dg (az dN (ac (i:=6) rfl (.inl rfl) rfl rfl rfl) ah (aL _)) (eA (az (cW (K:=K) rfl hr.units) (ac (i:=8) rfl (.inl rfl) rfl rfl rfl) ah (aL _))))) (ag (am (i:=9) (d:=0) (ds':=[1,0,0,0,0,0,0,0,0,0]) nd rfl (.inl rfl) (bp (dA (K:=K) rfl) (bp (dA (K:=K) rfl) (ac (i:=5) rfl (.inl rfl) rfl rfl rfl) ah (fun _ _=>rfl)) (iO jZ ah) (fun _ _=>rfl)) rfl (by decide) (by decide) rfl (.inl rfl))
  (ak (am (i:=7) (d:=0) (ds':=[1,0,0,0,0,0,0,0,0,0]) nd rfl (.inl rfl) (au (eB (K:=K) rfl) (bq (pp (K:=K) rfl) (bp (dA (K:=K) rfl) (ac (i:=5) rfl (.inl rfl) rfl rfl rfl) ah (fun _ _=>rfl)) bT (bo (iO jZ ah))) (aD (d:=0) (c:=0) (aa (au (eB (K:=K) rfl) (nr (K:=K) rfl (ac (i:=9) rfl (.inl rfl) rfl rfl rfl) (iO jZ ah)) (aS sS hr rfl (aJ (i:=0) rfl (.inl rfl) (aa (ac (i:=1) rfl (.inl rfl) rfl rfl rfl) (aa (ac (i:=9) rfl (.inl rfl) rfl rfl rfl) ad rfl) rfl) rfl rfl) rfl rfl rfl rfl)) ad rfl) rfl rfl)) rfl (by decide) (by decide) rfl (.inl rfl)))) aK)
  (ag (aM (ds2:=[1,0,0,0,0,0,0,0,0,0]) (qpt (dg (az dN (ac (i:=6) rfl (.inl rfl) rfl rfl rfl) ah (aL _)) (eA (az (cW (K:=K) rfl hr.units) (ac (i:=8) rfl (.inl rfl) rfl rfl rfl) ah (aL _))))) (ak (am (i:=7) (d:=0) (ds':=[1,0,0,0,0,0,0,0,0,0]) nd rfl (.inl rfl) (bh (bW (K:=K) rfl) rfl T.tuple0 (by decide +kernel) (aa (ai (d':=0) (dB (cd:=0) (d:=1) (dsi:=[0]) (lk:=[]) (BlkOkC.of (ns:=["_law_part_here"]) (js:=[none]) (N0:=jq) (sc0:=aq gh) rfl rfl (by decide +kernel)) rfl (aV (K:=K) rfl (bp (dA (K:=K) rfl) (ac (i:=5) rfl (.inl rfl) rfl rfl rfl) (au l7 (ac (i:=6) rfl (.inl rfl) rfl rfl rfl) ah) (fun _ _=>rfl))) (fun _ _ _ _ _=>(ay (i:=0) (ds':=[0]) (show (["_law_part_here"]:List Str).Nodup by decide +kernel) rfl (.inl rfl) rfl (by decide) (by decide) (.inr rfl))) (fun _ _ _ _ _=>dh) (fun _ _ _ _ _=>(nr (K:=K) rfl (ac (i:=0) rfl (.inl rfl) rfl rfl rfl) (iO jZ ah))) rfl rfl (by decide) rfl (fun _=>rfl)) (by decide)) ad rfl) rfl (by decide) rfl rfl rfl) rfl (by decide) (by decide) rfl (.inl rfl))) aK)
  (ag (aM (ds2:=[1,0,0,0,0,0,0,0,0,0]) (qpt (dg (az dN (ac (i:=6) rfl (.inl rfl) rfl rfl rfl) ah (aL _)) (eA (az (cW (K:=K) rfl hr.units) (ac (i:=8) rfl (.inl rfl) rfl rfl rfl) ah (aL _))))) (ak (am (i:=7) (d:=0) (ds':=[1,0,0,0,0,0,0,0,0,0]) nd rfl (.inl rfl) (au (eB (K:=K) rfl) (aD (d:=0) (c:=0) (aa (aS jv hr rfl (aJ (i:=0) rfl (.inl rfl) (aa (ac (i:=1) rfl (.inl rfl) rfl rfl rfl) (aa (ai (d':=0) ah (by decide)) (aa (ai (d':=0) ah (by decide)) (aa (ai (d':=0) bF (by decide)) ad rfl) rfl) rfl) rfl) rfl rfl) rfl rfl rfl rfl) ad rfl) rfl rfl) (bq (pp (K:=K) rfl) (bp (dA (K:=K) rfl) (ac (i:=5) rfl (.inl rfl) rfl rfl rfl) ah (fun _ _=>rfl)) (bo ah) bT)) rfl (by decide) (by decide) rfl (.inl rfl))) aK)
  (ak (am (i:=5) (d:=0) (ds':=[1,0,0,0,0,0,0,0,0,0]) nd rfl (.inl rfl) (au (eB (K:=K) rfl) (ac (i:=5) rfl (.inl rfl) rfl rfl rfl) (aD (d:=0) (c:=0) (aa (ac (i:=7) rfl (.inl rfl) rfl rfl rfl) ad rfl) rfl rfl)) rfl (by decide) (by decide) rfl (.inl rfl))))))))) PassesOwn.never (fun _=>rfl))
  (ak (aA (ac (i:=5) rfl (.inl rfl) rfl rfl rfl) rfl))))
abbrev ic:Stmt:=top 35
abbrev ki:List Str:=["_law_plan_here", "_law_row_here", "_law_seen", "_law_step_here", "_law_words", "_law_part_here", "_law_longer", "_law_word"]
theorem sc_law_row:FnScope ki ["_law_plan_here"] (aq ic):=⟨rfl,rfl,rfl,by decide +kernel,rfl,by decide +kernel,by decide +kernel⟩
def qy:ME:=(e2 bu (af 1) (af 0))
def iy:MS:=(bA (gO 6 (eLC true (br (af 5)) (gN 0) cY qy [none,some 7])))
def ix:MS:=(ao (ax 6 (a9 aj))
 (ao (bG (br (af 4)) (gN 7) iy)
 (ax 4 (af 6))))
def fH:MS:=(sIf (tV (e2 j7 (af 7) (af 2))) (ao (hV 2 (af 7) (eC (.bool true)))
 (bA (dm 1 (af 7)))) bc)
def lb:MS:=(ao (ax 4 (a9 (ae (eC (.str "")) aj)))
 (ao (bG (br (af 3)) (gN 5) ix)
 (bG (br (af 4)) (gN 7) fH)))
def kt:MS:=(ao (ax 1 (a9 aj))
 (ao (ax 2 kO)
 (ao (bG (br (af 0)) (gN 3) lb)
 (aR (af 1)))))
def bx:List D→Option (D × En):=fnF 7 [0] kt
theorem rT {k:Nat} (T:Bl mg)   (F:Fun K "_law_row" "_law_row" ic f fd):FnOk P w K mg base CX0 (k+1) f fd ["_law_plan_here"] (spF K [0] 0 bx):=by
 have nd:=sc_law_row.nd
 refine F.okQ (N:=ki) (b:=kt) (J:=⟨[],[0,0,0,0,0,0,0,0],0,[]⟩) (ds0:=[0,0,0,0,0,0,0,0]) sc_law_row rfl rfl rfl rfl fun cdv A outer s H E hr=>?_
 exact (ag (am (i:=1) (d:=1) (ds':=[0,1,0,0,0,0,0,0]) nd rfl (.inl rfl) (ai (d':=1) (aI (d:=3) (c:=3) ad rfl rfl (by decide)) (by decide)) rfl (by decide) (by decide) rfl (.inl rfl))
  (ag (am (i:=2) (d:=1) (ds':=[0,1,1,0,0,0,0,0]) nd rfl (.inl rfl) (ai (d':=1) nu (by decide)) rfl (by decide) (by decide) rfl (.inl rfl))
  (ag (aO (ds1:=[0,1,1,0,0,0,0,0]) rfl (aV (K:=K) rfl (ac (i:=0) rfl (.inl rfl) rfl rfl rfl)) (ay (i:=3) (ds':=[0,1,1,0,0,0,0,0]) nd rfl (.inl rfl) rfl (by decide) (by decide) (.inl rfl)) (ag (am (i:=4) (d:=0) (ds':=[0,1,1,0,0,0,0,0]) nd rfl (.inl rfl) (ai (d':=0) (aI (d:=3) (c:=3) (aa cy ad rfl) rfl rfl (by decide)) (by decide)) rfl (by decide) (by decide) rfl (.inl rfl))
  (ag (aO (ds1:=[0,1,1,0,0,0,0,0]) rfl (aV (K:=K) rfl (ac (i:=3) rfl (.inl rfl) rfl rfl rfl)) (ay (i:=5) (ds':=[0,1,1,0,0,0,0,0]) nd rfl (.inl rfl) rfl (by decide) (by decide) (.inl rfl)) (ag (am (i:=6) (d:=1) (ds':=[0,1,1,0,0,0,1,0]) nd rfl (.inl rfl) (ai (d':=1) (aI (d:=3) (c:=3) ad rfl rfl (by decide)) (by decide)) rfl (by decide) (by decide) rfl (.inl rfl))
  (ag (aO (ds1:=[0,1,1,0,0,0,1,0]) rfl (aV (K:=K) rfl (ac (i:=4) rfl (.inl rfl) rfl rfl rfl)) (ay (i:=7) (ds':=[0,1,1,0,0,0,1,0]) nd rfl (.inr rfl) rfl (by decide) (by decide) (.inl rfl)) (ak (a8 (gK (K:=K) (i:=6) (d:=1) rfl rfl (.inl rfl) rfl (ai (d':=1) (dB (cd:=3) (d:=3) (dsi:=[0,0]) (lk:=[1]) (BlkOkC.of (ns:=["_law_other", "_law_word"]) (js:=[none,some 7]) (N0:=ki) (sc0:=aq ic) rfl rfl (by decide +kernel)) rfl (aV (K:=K) rfl (ac (i:=5) rfl (.inl rfl) rfl rfl rfl)) (fun _ _ _ _ _=>(ay (i:=0) (ds':=[0,0]) (show (["_law_other", "_law_word"]:List Str).Nodup by decide +kernel) rfl (.inl rfl) rfl (by decide) (by decide) (.inr rfl))) (fun _ _ _ _ _=>dh) (fun _ _ _ _ _=>(au bw (ac (i:=1) rfl (.inr (.inl rfl)) rfl rfl rfl) (ac (i:=0) rfl (.inl rfl) rfl rfl rfl))) rfl rfl (by decide) rfl (fun _=>rfl)) (by decide)) (by decide) rfl rfl rfl rfl rfl rfl rfl) rfl)) PassesOwn.never (fun _=>rfl))
  (ak (am (i:=4) (d:=0) (ds':=[0,1,1,0,0,0,0,0]) nd rfl (.inl rfl) (b6 (ds0:=[0,1,1,0,0,0,0,0]) (ac (p:=false) (i:=6) rfl (.inl rfl) rfl rfl rfl) rfl) rfl (by decide) (by decide) rfl (.inl rfl))))) PassesOwn.never (fun _=>rfl))
  (ak (aO (ds1:=[0,1,1,0,0,0,0,0]) rfl (aV (K:=K) rfl (ac (i:=4) rfl (.inl rfl) rfl rfl rfl)) (ay (i:=7) (ds':=[0,1,1,0,0,0,0,0]) nd rfl (.inr rfl) rfl (by decide) (by decide) (.inl rfl)) (ak (aM (ds2:=[0,1,1,0,0,0,0,0]) (fO (ds0:=[0,1,0,0,0,0,0,0]) (ul (sy hr) (ac (i:=7) rfl (.inr (.inl rfl)) rfl rfl rfl) (ac (i:=2) rfl (.inl rfl) rfl rfl rfl) (by with_unfolding_all rfl)) rfl) (ag (l6 (i:=2) (sy hr) rfl (.inl rfl) (ai (d':=0) bF (by decide)) (ac (i:=7) rfl (.inr (.inl rfl)) rfl rfl rfl) rfl rfl rfl rfl)
  (ak (a8 (di (K:=K) (i:=1) (d:=1) rfl rfl (.inl rfl) rfl (ac (i:=7) rfl (.inr (.inl rfl)) rfl rfl rfl) (by decide) rfl rfl rfl rfl rfl rfl rfl rfl) rfl))) aK)) PassesOwn.never (fun _=>rfl))))) PassesOwn.never (fun _=>rfl))
  (ak (aA (b6 (ds0:=[0,0,1,0,0,0,0,0]) (ac (p:=false) (i:=1) rfl (.inl rfl) rfl rfl rfl) rfl) rfl)))))
abbrev jo:Stmt:=top 36
abbrev mG:List Str:=["_law_e", "_law_marks"]
theorem sc_law_mark:FnScope mG ["_law_e"] (aq jo):=⟨rfl,rfl,rfl,by decide +kernel,rfl,by decide +kernel,by decide +kernel⟩
def jD:MS:=(ao (ax 1 (a9 (ae (e1 (bR kn0 eF) (af 0)) (ae (e1 (bR kn0 c9) (af 0)) (ae (e1 (bR kn0 fK) (af 0)) (ae (e1 (bR kn0 fJ) (af 0)) aj))))))
 (ao (ax 1 (e2 pR (af 1) (a9 (ae (e1 (bR kn0 eG) (af 0)) (ae (e1 (bR kn0 gw) (af 0)) (ae (e1 (bR kn0 iD) (af 0)) (ae (e1 (bR kn0 iE) (af 0)) aj)))))))
 (ao (ax 1 (e2 pR (af 1) (a9 (ae (e1 (bR kn0 jI) (af 0)) (ae (e1 (bR kn0 gB) (af 0)) (ae (e1 (bR kn0 gx) (af 0)) (ae (e1 (bR kn0 gA) (af 0)) aj)))))))
 (ao (bA (dm 1 (e1 (bR kn0 gy) (af 0))))
 (ao (sIf (bOr (tV (e2 neD (e2 gu (af 1) (eC (.bool true))) (eC (.int 1)))) (dI (tV (e1 (bR kn0 c7) (af 0))))) (aR (e1 lw (eC (.int 1)))) bc)
 (aR (e2 e8 (af 1) (eC (.bool true)))))))))
def cO:List D→Option (D × En):=fnF 1 [0] jD
theorem qj {k:Nat} (T:Bl mg)   {C_NoTongue:Addr} (m_NoTongue:mg "NoTongue"=some (.ref C_NoTongue)) (t_NoTongue:bj K kn0 eF (.ref C_NoTongue)=true) {C_NoSentence:Addr} (m_NoSentence:mg "NoSentence"=some (.ref C_NoSentence)) (t_NoSentence:bj K kn0 c9 (.ref C_NoSentence)=true) {C_TooMany:Addr} (m_TooMany:mg "TooMany"=some (.ref C_TooMany)) (t_TooMany:bj K kn0 fK (.ref C_TooMany)=true) {C_TooMuch:Addr} (m_TooMuch:mg "TooMuch"=some (.ref C_TooMuch)) (t_TooMuch:bj K kn0 fJ (.ref C_TooMuch)=true) {C_NoNumber:Addr} (m_NoNumber:mg "NoNumber"=some (.ref C_NoNumber)) (t_NoNumber:bj K kn0 eG (.ref C_NoNumber)=true) {C_NoWord:Addr} (m_NoWord:mg "NoWord"=some (.ref C_NoWord)) (t_NoWord:bj K kn0 gw (.ref C_NoWord)=true) {C_NoFit:Addr} (m_NoFit:mg "NoFit"=some (.ref C_NoFit)) (t_NoFit:bj K kn0 iD (.ref C_NoFit)=true) {C_Elder:Addr} (m_Elder:mg "Elder"=some (.ref C_Elder)) (t_Elder:bj K kn0 iE (.ref C_Elder)=true) {C_Near:Addr} (m_Near:mg "Near"=some (.ref C_Near)) (t_Near:bj K kn0 jI (.ref C_Near)=true) {C_NoBack:Addr} (m_NoBack:mg "NoBack"=some (.ref C_NoBack)) (t_NoBack:bj K kn0 gB (.ref C_NoBack)=true) {C_NoText:Addr} (m_NoText:mg "NoText"=some (.ref C_NoText)) (t_NoText:bj K kn0 gx (.ref C_NoText)=true) {C_NoLine:Addr} (m_NoLine:mg "NoLine"=some (.ref C_NoLine)) (t_NoLine:bj K kn0 gA (.ref C_NoLine)=true) {C_NoName:Addr} (m_NoName:mg "NoName"=some (.ref C_NoName)) (t_NoName:bj K kn0 gy (.ref C_NoName)=true) (t_ValueError:bj K kn0 c7 (.type "ValueError")=true) (F:Fun K "_law_mark" "_law_mark" jo f fd):FnOk P w K mg base CX0 (k+1) f fd ["_law_e"] (spF K [0] 3 cO):=by
 have nd:=sc_law_mark.nd
 refine F.okQ (N:=mG) (b:=jD) (J:=⟨[],[0,0],3,[]⟩) (ds0:=[0,0]) sc_law_mark rfl rfl rfl rfl fun cdv A outer s H E hr=>?_
 exact (ag (am (i:=1) (d:=0) (ds':=[0,0]) nd rfl (.inl rfl) (ai (d':=0) (aI (d:=3) (c:=3) (aa (bK (K:=K) (kn:=kn0) (xs:=eF) rfl rfl T.isinstance0 rfl m_NoTongue t_NoTongue (ac (i:=0) rfl (.inl rfl) rfl rfl rfl) rfl rfl) (aa (bK (K:=K) (kn:=kn0) (xs:=c9) rfl rfl T.isinstance0 rfl m_NoSentence t_NoSentence (ac (i:=0) rfl (.inl rfl) rfl rfl rfl) rfl rfl) (aa (bK (K:=K) (kn:=kn0) (xs:=fK) rfl rfl T.isinstance0 rfl m_TooMany t_TooMany (ac (i:=0) rfl (.inl rfl) rfl rfl rfl) rfl rfl) (aa (bK (K:=K) (kn:=kn0) (xs:=fJ) rfl rfl T.isinstance0 rfl m_TooMuch t_TooMuch (ac (i:=0) rfl (.inl rfl) rfl rfl rfl) rfl rfl) ad rfl) rfl) rfl) rfl) rfl rfl (by decide)) (by decide)) rfl (by decide) (by decide) rfl (.inl rfl))
  (ag (am (i:=1) (d:=0) (ds':=[0,0]) nd rfl (.inl rfl) (ai (d':=0) (au (rl (K:=K) rfl) (ac (i:=1) rfl (.inl rfl) rfl rfl rfl) (aI (d:=3) (c:=3) (aa (bK (K:=K) (kn:=kn0) (xs:=eG) rfl rfl T.isinstance0 rfl m_NoNumber t_NoNumber (ac (i:=0) rfl (.inl rfl) rfl rfl rfl) rfl rfl) (aa (bK (K:=K) (kn:=kn0) (xs:=gw) rfl rfl T.isinstance0 rfl m_NoWord t_NoWord (ac (i:=0) rfl (.inl rfl) rfl rfl rfl) rfl rfl) (aa (bK (K:=K) (kn:=kn0) (xs:=iD) rfl rfl T.isinstance0 rfl m_NoFit t_NoFit (ac (i:=0) rfl (.inl rfl) rfl rfl rfl) rfl rfl) (aa (bK (K:=K) (kn:=kn0) (xs:=iE) rfl rfl T.isinstance0 rfl m_Elder t_Elder (ac (i:=0) rfl (.inl rfl) rfl rfl rfl) rfl rfl) ad rfl) rfl) rfl) rfl) rfl rfl (by decide))) (by decide)) rfl (by decide) (by decide) rfl (.inl rfl))
  (ag (am (i:=1) (d:=1) (ds':=[0,1]) nd rfl (.inl rfl) (au (rl (K:=K) rfl) (ac (i:=1) rfl (.inl rfl) rfl rfl rfl) (aI (d:=3) (c:=3) (aa (bK (K:=K) (kn:=kn0) (xs:=jI) rfl rfl T.isinstance0 rfl m_Near t_Near (ac (i:=0) rfl (.inl rfl) rfl rfl rfl) rfl rfl) (aa (bK (K:=K) (kn:=kn0) (xs:=gB) rfl rfl T.isinstance0 rfl m_NoBack t_NoBack (ac (i:=0) rfl (.inl rfl) rfl rfl rfl) rfl rfl) (aa (bK (K:=K) (kn:=kn0) (xs:=gx) rfl rfl T.isinstance0 rfl m_NoText t_NoText (ac (i:=0) rfl (.inl rfl) rfl rfl rfl) rfl rfl) (aa (bK (K:=K) (kn:=kn0) (xs:=gA) rfl rfl T.isinstance0 rfl m_NoLine t_NoLine (ac (i:=0) rfl (.inl rfl) rfl rfl rfl) rfl rfl) ad rfl) rfl) rfl) rfl) rfl rfl (by decide))) rfl (by decide) (by decide) rfl (.inl rfl))
  (ag (a8 (di (K:=K) (i:=1) (d:=1) rfl rfl (.inl rfl) rfl (ai (d':=0) (bK (K:=K) (kn:=kn0) (xs:=gy) rfl rfl T.isinstance0 rfl m_NoName t_NoName (ac (i:=0) rfl (.inl rfl) rfl rfl rfl) rfl rfl) (by decide)) (by decide) rfl rfl rfl rfl rfl rfl rfl rfl) rfl)
  (ag (aM (ds2:=[0,1]) (fO (ds0:=[0,0]) (qpt (dz (az (ia (K:=K) rfl hr.units) (sG (K:=K) rfl hr.units (ac (i:=1) rfl (.inl rfl) rfl rfl rfl) bF rfl rfl rfl rfl rfl) ah (aL _)) (cM (bN (be (vX (K:=K) (n:="ValueError") (kn:=kn0) (xs:=c7) rfl rfl T.isinstance0 rfl T.ValueError0 (by decide +kernel) t_ValueError (ac (i:=0) rfl (.inl rfl) rfl rfl rfl) (by decide) rfl rfl) (fun _=>rfl)))))) rfl) (ak (aA (iO jZ ah) rfl)) aK)
  (ak (aA (gM (ds0:=[0,0]) (sF (K:=K) rfl hr.units (ac (i:=1) rfl (.inl rfl) rfl rfl rfl) bF rfl rfl rfl rfl rfl) rfl) rfl)))))))
abbrev jm:Stmt:=top 37
abbrev mE:List Str:=["_law_plan_here", "_law_step_here", "_law_marks", "_law_way", "_law_caught", "_law_e"]
theorem sc_law_much:FnScope mE ["_law_plan_here", "_law_step_here"] (aq jm):=⟨rfl,rfl,rfl,by decide +kernel,rfl,by decide +kernel,by decide +kernel⟩
def ko:MS:=(ao (ax 4 (eC .none))
 (ao (i5 kn0 [2] 5 (sIf (tV (e2 eqD (af 3) (eC (.int 0)))) (bA (ar cg (ae (af 0) aj))) (bA (ar cZ (ae (af 1) aj)))) (nIf (tV (e2 eqD (af 3) (eC (.int 0)))) (fC iT (ae (af 0) aj)) (fC kf (ae (af 1) aj))) (ax 4 (af 5)))
 (sIf (tV (e2 gE (af 4) (eC .none))) (bA (dm 2 (ar cO (ae (af 4) aj)))) (bA (dm 2 (eC .none))))))
def jB:MS:=(ao (ax 2 (a9 aj))
 (ao (bG (cb (ae (eC (.int 2)) aj)) (gN 3) ko)
 (aR (af 2))))
def cN:List D→Option (D × En):=fnF 4 [0,0] jB
theorem qh {k:Nat} (T:Bl mg)  (eV:Kn P w K mg base k "tries" ["plan"] (spF K [0] 1 cg)) (ig:Kn P w K mg base k "made" ["step"] (spF K [0] 1 cZ)) (sT:Kn P w K mg base k "_law_mark" ["_law_e"] (spF K [0] 3 cO)) (GNtries:KnX P w K mg base k "tries" ["plan"] (spN K [0] (clK K) iT)) (GNmade:KnX P w K mg base k "made" ["step"] (spN K [0] (clK K) kf)) (H_WordError:ExcK K mg kn0 "WordError") (F:Fun K "_law_much" "_law_much" jm f fd):FnOk P w K mg base CX0 (k+1) f fd ["_law_plan_here", "_law_step_here"] (spF K [0,0] 0 cN):=by
 have nd:=sc_law_much.nd
 refine F.okQ (N:=mE) (b:=jB) (J:=⟨[],[0,0,0,0,0,0],0,[]⟩) (ds0:=[0,0,0,0,0,0]) sc_law_much rfl rfl rfl rfl fun cdv A outer s H E hr=>?_
 exact (ag (am (i:=2) (d:=1) (ds':=[0,0,1,0,0,0]) nd rfl (.inl rfl) (ai (d':=1) (aI (d:=3) (c:=3) ad rfl rfl (by decide)) (by decide)) rfl (by decide) (by decide) rfl (.inl rfl))
  (ag (aO (ds1:=[0,0,1,0,0,0]) rfl (bU rfl T.range0 (aa (ai (d':=0) ah (by decide)) ad rfl) rfl) (ay (i:=3) (ds':=[0,0,1,0,0,0]) nd rfl (.inl rfl) rfl (by decide) (by decide) (.inl rfl)) (ag (am (i:=4) (d:=0) (ds':=[0,0,1,0,0,0]) nd rfl (.inl rfl) (ai (d':=0) gJ (by decide)) rfl (by decide) (by decide) rfl (.inl rfl))
  (ag (vN (K:=K) (ds:=[0,0,1,0,0,0]) (ds':=[0,0,1,0,0,0]) (kn:=kn0) (kp:=[2]) (j:=5) (cl:=clK K) rfl ⟨rfl,rfl,rfl⟩ (fun _=>(ak (aM (ds2:=[0,0,1,0,0,0]) (az (cW (K:=K) rfl hr.units) (ac (i:=3) rfl (.inl rfl) rfl rfl rfl) ah (aL _)) (ak (a8 (aC eV hr rfl (aa (ac (i:=0) rfl (.inl rfl) rfl rfl rfl) ad rfl) rfl rfl rfl rfl rfl) rfl)) (ak (a8 (aC ig hr rfl (aa (ac (i:=1) rfl (.inl rfl) rfl rfl rfl) ad rfl) rfl rfl rfl rfl rfl) rfl))))) (fun _ _ _ _ O=>(Hg (p:=false) (az (cW (K:=K) rfl hr.units) (ac (i:=3) rfl (.inl rfl) rfl rfl rfl) ah (aL _)) (oy O GNtries hr rfl (aa (ac (i:=0) rfl (.inl rfl) rfl rfl rfl) ad rfl) rfl rfl rfl rfl) (oy O GNmade hr rfl (aa (ac (i:=1) rfl (.inl rfl) rfl rfl rfl) ad rfl) rfl rfl rfl rfl))) (fun _ _=>(ak (am (i:=4) (d:=0) (ds':=[0,0,1,0,0,0]) nd rfl (.inl rfl) (ac (i:=5) rfl (.inl rfl) rfl rfl rfl) rfl (by decide) (by decide) rfl (.inl rfl)))) H_WordError.cl H_WordError.hx H_WordError.h BA rfl H_WordError.m rfl nd rfl (.inl rfl) rfl rfl rfl (by decide) rfl rfl (by decide))
  (ak (aM (ds2:=[0,0,1,0,0,0]) (az Cu (ac (i:=4) rfl (.inl rfl) rfl rfl rfl) gJ (aL _)) (ak (a8 (di (K:=K) (i:=2) (d:=1) rfl rfl (.inl rfl) rfl (ai (d':=0) (aC sT hr rfl (aa (ac (i:=4) rfl (.inl rfl) rfl rfl rfl) ad rfl) rfl rfl rfl rfl rfl) (by decide)) (by decide) rfl rfl rfl rfl rfl rfl rfl rfl) rfl)) (ak (a8 (di (K:=K) (i:=2) (d:=1) rfl rfl (.inl rfl) rfl (ai (d':=0) gJ (by decide)) (by decide) rfl rfl rfl rfl rfl rfl rfl rfl) rfl)))))) PassesOwn.never (fun _=>rfl))
  (ak (aA (b6 (ds0:=[0,0,0,0,0,0]) (ac (p:=false) (i:=2) rfl (.inl rfl) rfl rfl rfl) rfl) rfl))))
abbrev fF:Stmt:=top 38
abbrev iu:List Str:=["_law_found", "_law_due"]
theorem sc_law_texts:FnScope iu ["_law_found", "_law_due"] (aq fF):=⟨rfl,rfl,rfl,by decide +kernel,rfl,by decide +kernel,by decide +kernel⟩
def jE:MT:=(dI (tV (e1 (aG "str") (af 0))))
def nQ:ME:=(af 0)
def fI:MS:=(ao (sIf (bOr (dI (tV (e1 (aG "list") (af 0)))) (tV (e2 neD (af 0) (af 1)))) (aR (eC (.bool false))) bc)
 (aR (e2 eqD (eLC true (br (af 0)) (gN 0) jE nQ [none]) (a9 aj))))
def aZ:List D→Option (D × En):=fnF 0 [0,0] fI
theorem oE {k:Nat} (T:Bl mg)   (F:Fun K "_law_texts" "_law_texts" fF f fd):FnOk P w K mg base CX0 (k+1) f fd ["_law_found", "_law_due"] (spF K [0,0] 3 aZ):=by
 have nd:=sc_law_texts.nd
 refine F.okQ (N:=iu) (b:=fI) (J:=⟨[],[0,0],3,[]⟩) (ds0:=[0,0]) sc_law_texts rfl rfl rfl rfl fun cdv A outer s H E hr=>?_
 exact (ag (aM (ds2:=[0,0]) (qpt (dz (bN (be (pz (K:=K) (n:="list") rfl rfl T.isinstance0 rfl T.list0 (by decide +kernel) (by decide) (ac (i:=0) rfl (.inl rfl) rfl rfl rfl) (by decide) rfl rfl rfl rfl) (fun _=>rfl))) (cM (az (ia (K:=K) rfl hr.units) (ac (i:=0) rfl (.inl rfl) rfl rfl rfl) (ac (i:=1) rfl (.inl rfl) rfl rfl rfl) (aL _))))) (ak (aA bF rfl)) aK)
  (ak (aA (gL (cW (K:=K) rfl hr.units) (dB (cd:=0) (d:=1) (dsi:=[0]) (lk:=[]) (BlkOkC.of (ns:=["_law_word"]) (js:=[none]) (N0:=iu) (sc0:=aq fF) rfl rfl (by decide +kernel)) rfl (aV (K:=K) rfl (ac (i:=0) rfl (.inl rfl) rfl rfl rfl)) (fun _ _ _ _ _=>(ay (i:=0) (ds':=[0]) (show (["_law_word"]:List Str).Nodup by decide +kernel) rfl (.inl rfl) rfl (by decide) (by decide) (.inr rfl))) (fun _ _ _ _ _=>(jX (bN (be (pz (K:=K) (n:="str") rfl rfl T.isinstance0 rfl T.str0 (by decide +kernel) (by decide) (ac (i:=0) rfl (.inl rfl) rfl rfl rfl) (by decide) rfl rfl rfl rfl) (fun _=>rfl))))) (fun _ _ _ _ _=>(ac (i:=0) rfl (.inl rfl) rfl rfl rfl)) rfl rfl (by decide) rfl (fun _=>rfl)) (aI (d:=3) (c:=3) ad rfl rfl (by decide)) (aL _)) rfl)))
abbrev fG:Stmt:=top 39
abbrev iw:List Str:=["_law_tongue_here", "_law_words", "_law_k", "_law_longer", "_law_word", "_law_ten", "_law_whole", "_law_half", "_law_more_here", "_law_plan_here"]
theorem sc_law_great:FnScope iw ["_law_tongue_here"] (aq fG):=⟨rfl,rfl,rfl,by decide +kernel,rfl,by decide +kernel,by decide +kernel⟩
def nR:ME:=(e2 bu (af 1) (af 0))
def jH:MS:=(bA (gO 3 (eLC true (br (eSl pI (eM joinD (eC (.str "")) (ae (af 0) aj)) dw (bX (eC (.int 2))))) (gN 0) cY nR [none,some 4])))
def fY:MS:=(ao (ax 3 (a9 aj))
 (ao (bG (br (af 1)) (gN 4) jH)
 (ax 1 (af 3))))
def fX:MS:=(sIf (tV (e2 neD (ar cN (ae (af 9) (ae (af 8) aj))) (a9 (ae (eC (.int 3)) (ae (eC (.int 3)) aj))))) (aR (eC (.bool false))) bc)
def iC:MS:=(ao (ax 1 (a9 (ae (eC (.str "")) aj)))
 (ao (bG (cb (ae (eC (.int 4)) aj)) (gN 2) fY)
 (ao (ax 5 (eN dU (ae (eSl ib (af 1) dw (bX (eC (.int 10)))) aj)))
 (ao (ax 6 (a7 (ae (af 5) (ae (af 5) (ae (af 5) (ae (eN dU (ae (eSl ib (af 1) (bX (eC (.int 3))) (bX (eC (.int 5)))) aj)) aj))))))
 (ao (ax 7 (a7 (ae (af 5) (ae (af 5) (ae (af 5) aj)))))
 (ao (ax 8 (a7 (ae (eN dU (ae (eSl ib (af 1) dw (bX (eC (.int 12)))) aj)) (ae (eN dU (ae (eSl ib (af 1) (bX (eC (.int 2))) (bX (eC (.int 14)))) aj)) (ae (eN dU (ae (eSl ib (af 1) dw (bX (eC (.int 7)))) aj)) (ae (eN dU (ae (eSl ib (af 1) dw (bX (eC (.int 2)))) aj)) aj))))))
 (ao (sIf (bOr (dI (tV (ar aZ (ae (ar cZ (ae (af 6) aj)) (ae (ar bx (ae (a7 (ae (af 6) aj)) aj)) aj))))) (tV (e2 neD (eN bQ (ae (ar cg (ae (a7 (ae (af 7) (ae (af 7) aj))) aj)) aj)) (eC (.int 1000))))) (aR (eC (.bool false))) bc)
 (ao (sIf (dI (tV (ar aZ (ae (ar cg (ae (a7 (ae (af 6) aj)) aj)) (ae (ar bx (ae (a7 (ae (af 6) aj)) aj)) aj))))) (aR (eC (.bool false))) bc)
 (ao (bG (br (a9 (ae (a7 (ae (af 8) aj)) (ae (a7 (ae (af 6) (ae (a7 (ae (a7 (ae (e2 ixA (af 1) (eC (.int 0))) aj)) aj)) aj))) (ae (a7 (ae (af 7) (ae (af 7) (ae (a7 (ae (a7 (ae (e2 ixT (eM joinD (eC (.str "")) (ae (af 0) aj)) (eC (.int 0))) aj)) aj)) aj)))) aj))))) (gN 9) fX)
 (ao (sIf (bOr (tV (e2 neD (ar cN (ae (a7 (ae (af 7) (ae (e2 eR (a7 (ae (a7 aj) aj)) (af 8)) aj))) (ae (af 7) aj))) (a9 (ae (eC .none) (ae (eC .none) aj))))) (tV (e2 neD (ar cZ (ae (e2 eR (af 8) (a7 (ae (a7 aj) aj))) aj)) (a9 aj)))) (aR (eC (.bool false))) bc)
 (aR (ar aZ (ae (ar cg (ae (a7 (ae (e2 eR (af 8) (a7 (ae (a7 aj) aj))) (ae (af 7) aj))) aj)) (ae (ar bx (ae (a7 (ae (af 7) aj)) aj)) aj))))))))))))))
def cU:List D→Option (D × En):=fnF 9 [0] iC
theorem oF {k:Nat} (T:Bl mg)  (bV:Kn P w K mg base k "_law_texts" ["_law_found", "_law_due"] (spF K [0,0] 3 aZ)) (eV:Kn P w K mg base k "tries" ["plan"] (spF K [0] 1 cg)) (cI:Kn P w K mg base k "_law_row" ["_law_plan_here"] (spF K [0] 0 bx)) (mI:Kn P w K mg base k "_law_much" ["_law_plan_here", "_law_step_here"] (spF K [0,0] 0 cN)) (ig:Kn P w K mg base k "made" ["step"] (spF K [0] 1 cZ)) (F:Fun K "_law_great" "_law_great" fG f fd):FnOk P w K mg base CX0 (k+1) f fd ["_law_tongue_here"] (spF K [0] 3 cU):=by
 have nd:=sc_law_great.nd
 refine F.okQ (N:=iw) (b:=iC) (J:=⟨[],[0,0,0,0,0,0,0,0,0,0],3,[]⟩) (ds0:=[0,0,0,0,0,0,0,0,0,0]) sc_law_great rfl rfl rfl rfl fun cdv A outer s H E hr=>?_
 exact (ag (am (i:=1) (d:=0) (ds':=[0,0,0,0,0,0,0,0,0,0]) nd rfl (.inl rfl) (ai (d':=0) (aI (d:=3) (c:=3) (aa cy ad rfl) rfl rfl (by decide)) (by decide)) rfl (by decide) (by decide) rfl (.inl rfl))
  (ag (aO (ds1:=[0,0,0,0,0,0,0,0,0,0]) rfl (bU rfl T.range0 (aa (ai (d':=0) ah (by decide)) ad rfl) rfl) (ay (i:=2) (ds':=[0,0,0,0,0,0,0,0,0,0]) nd rfl (.inl rfl) rfl (by decide) (by decide) (.inl rfl)) (ag (am (i:=3) (d:=1) (ds':=[0,0,0,1,0,0,0,0,0,0]) nd rfl (.inl rfl) (ai (d':=1) (aI (d:=3) (c:=3) ad rfl rfl (by decide)) (by decide)) rfl (by decide) (by decide) rfl (.inl rfl))
  (ag (aO (ds1:=[0,0,0,1,0,0,0,0,0,0]) rfl (aV (K:=K) rfl (ac (i:=1) rfl (.inl rfl) rfl rfl rfl)) (ay (i:=4) (ds':=[0,0,0,1,0,0,0,0,0,0]) nd rfl (.inr rfl) rfl (by decide) (by decide) (.inl rfl)) (ak (a8 (gK (K:=K) (i:=3) (d:=1) rfl rfl (.inl rfl) rfl (ai (d':=1) (dB (cd:=3) (d:=3) (dsi:=[0,0]) (lk:=[1]) (BlkOkC.of (ns:=["_law_sign", "_law_word"]) (js:=[none,some 4]) (N0:=iw) (sc0:=aq fG) rfl rfl (by decide +kernel)) rfl (aV (K:=K) rfl (ai (d':=0) (bq pq (eD (K:=K) rfl PySem.F.slot_str_join PySem.F.type_str_join (kE rfl) kJ cy (aa (ac (i:=0) rfl (.inl rfl) rfl rfl rfl) ad rfl) rfl rfl rfl rfl rfl rfl) bT (bo ah)) (by decide))) (fun _ _ _ _ _=>(ay (i:=0) (ds':=[0,0]) (show (["_law_sign", "_law_word"]:List Str).Nodup by decide +kernel) rfl (.inl rfl) rfl (by decide) (by decide) (.inr rfl))) (fun _ _ _ _ _=>dh) (fun _ _ _ _ _=>(au bw (ac (i:=1) rfl (.inr (.inl rfl)) rfl rfl rfl) (ac (i:=0) rfl (.inl rfl) rfl rfl rfl))) rfl rfl (by decide) rfl (fun _=>rfl)) (by decide)) (by decide) rfl rfl rfl rfl rfl rfl rfl) rfl)) PassesOwn.never (fun _=>rfl))
  (ak (am (i:=1) (d:=0) (ds':=[0,0,0,0,0,0,0,0,0,0]) nd rfl (.inl rfl) (b6 (ds0:=[0,0,0,0,0,0,0,0,0,0]) (ac (p:=false) (i:=3) rfl (.inl rfl) rfl rfl rfl) rfl) rfl (by decide) (by decide) rfl (.inl rfl))))) PassesOwn.never (fun _=>rfl))
  (ag (am (i:=5) (d:=0) (ds':=[0,0,0,0,0,0,0,0,0,0]) nd rfl (.inl rfl) (bh (bW (K:=K) rfl) rfl T.tuple0 (by decide +kernel) (aa (ai (d':=0) (bq (gq (K:=K) rfl) (ac (i:=1) rfl (.inl rfl) rfl rfl rfl) bT (bo ah)) (by decide)) ad rfl) rfl (by decide) rfl rfl rfl) rfl (by decide) (by decide) rfl (.inl rfl))
  (ag (am (i:=6) (d:=0) (ds':=[0,0,0,0,0,0,0,0,0,0]) nd rfl (.inl rfl) (aD (d:=0) (c:=0) (aa (ac (i:=5) rfl (.inl rfl) rfl rfl rfl) (aa (ac (i:=5) rfl (.inl rfl) rfl rfl rfl) (aa (ac (i:=5) rfl (.inl rfl) rfl rfl rfl) (aa (bh (bW (K:=K) rfl) rfl T.tuple0 (by decide +kernel) (aa (ai (d':=0) (bq (gq (K:=K) rfl) (ac (i:=1) rfl (.inl rfl) rfl rfl rfl) (bo ah) (bo ah)) (by decide)) ad rfl) rfl (by decide) rfl rfl rfl) ad rfl) rfl) rfl) rfl) rfl rfl) rfl (by decide) (by decide) rfl (.inl rfl))
  (ag (am (i:=7) (d:=0) (ds':=[0,0,0,0,0,0,0,0,0,0]) nd rfl (.inl rfl) (aD (d:=0) (c:=0) (aa (ac (i:=5) rfl (.inl rfl) rfl rfl rfl) (aa (ac (i:=5) rfl (.inl rfl) rfl rfl rfl) (aa (ac (i:=5) rfl (.inl rfl) rfl rfl rfl) ad rfl) rfl) rfl) rfl rfl) rfl (by decide) (by decide) rfl (.inl rfl))
  (ag (am (i:=8) (d:=0) (ds':=[0,0,0,0,0,0,0,0,0,0]) nd rfl (.inl rfl) (aD (d:=0) (c:=0) (aa (bh (bW (K:=K) rfl) rfl T.tuple0 (by decide +kernel) (aa (ai (d':=0) (bq (gq (K:=K) rfl) (ac (i:=1) rfl (.inl rfl) rfl rfl rfl) bT (bo ah)) (by decide)) ad rfl) rfl (by decide) rfl rfl rfl) (aa (bh (bW (K:=K) rfl) rfl T.tuple0 (by decide +kernel) (aa (ai (d':=0) (bq (gq (K:=K) rfl) (ac (i:=1) rfl (.inl rfl) rfl rfl rfl) (bo ah) (bo ah)) (by decide)) ad rfl) rfl (by decide) rfl rfl rfl) (aa (bh (bW (K:=K) rfl) rfl T.tuple0 (by decide +kernel) (aa (ai (d':=0) (bq (gq (K:=K) rfl) (ac (i:=1) rfl (.inl rfl) rfl rfl rfl) bT (bo ah)) (by decide)) ad rfl) rfl (by decide) rfl rfl rfl) (aa (bh (bW (K:=K) rfl) rfl T.tuple0 (by decide +kernel) (aa (ai (d':=0) (bq (gq (K:=K) rfl) (ac (i:=1) rfl (.inl rfl) rfl rfl rfl) bT (bo ah)) (by decide)) ad rfl) rfl (by decide) rfl rfl rfl) ad rfl) rfl) rfl) rfl) rfl rfl) rfl (by decide) (by decide) rfl (.inl rfl))
  (ag (aM (ds2:=[0,0,0,0,0,0,0,0,0,0]) (qpt (dz (bN (be (aC bV hr rfl (aa (ai (d':=0) (aC ig hr rfl (aa (ac (i:=6) rfl (.inl rfl) rfl rfl rfl) ad rfl) rfl rfl rfl rfl rfl) (by decide)) (aa (aC cI hr rfl (aa (aD (d:=0) (c:=0) (aa (ac (i:=6) rfl (.inl rfl) rfl rfl rfl) ad rfl) rfl rfl) ad rfl) rfl rfl rfl rfl rfl) ad rfl) rfl) rfl rfl rfl rfl rfl) (fun _=>rfl))) (cM (az (ia (K:=K) rfl hr.units) (aT (cc (K:=K) rfl) rfl T.len0 (by decide +kernel) (aa (ai (d':=0) (aC eV hr rfl (aa (aD (d:=0) (c:=0) (aa (ac (i:=7) rfl (.inl rfl) rfl rfl rfl) (aa (ac (i:=7) rfl (.inl rfl) rfl rfl rfl) ad rfl) rfl) rfl rfl) ad rfl) rfl rfl rfl rfl rfl) (by decide)) ad rfl) rfl (by decide) rfl rfl rfl) ah (aL _))))) (ak (aA bF rfl)) aK)
  (ag (aM (ds2:=[0,0,0,0,0,0,0,0,0,0]) (bN (be (aC bV hr rfl (aa (ai (d':=0) (aC eV hr rfl (aa (aD (d:=0) (c:=0) (aa (ac (i:=6) rfl (.inl rfl) rfl rfl rfl) ad rfl) rfl rfl) ad rfl) rfl rfl rfl rfl rfl) (by decide)) (aa (aC cI hr rfl (aa (aD (d:=0) (c:=0) (aa (ac (i:=6) rfl (.inl rfl) rfl rfl rfl) ad rfl) rfl rfl) ad rfl) rfl rfl rfl rfl rfl) ad rfl) rfl) rfl rfl rfl rfl rfl) (fun _=>rfl))) (ak (aA bF rfl)) aK)
  (ag (aO (ds1:=[0,0,0,0,0,0,0,0,0,0]) rfl (aV (K:=K) rfl (ai (d':=0) (aI (d:=1) (c:=0) (aa (aD (d:=0) (c:=0) (aa (ac (i:=8) rfl (.inl rfl) rfl rfl rfl) ad rfl) rfl rfl) (aa (aD (d:=0) (c:=0) (aa (ac (i:=6) rfl (.inl rfl) rfl rfl rfl) (aa (aD (d:=0) (c:=0) (aa (aD (d:=0) (c:=0) (aa (bp (dA (K:=K) rfl) (ac (i:=1) rfl (.inl rfl) rfl rfl rfl) ah (fun _ _=>rfl)) ad rfl) rfl rfl) ad rfl) rfl rfl) ad rfl) rfl) rfl rfl) (aa (aD (d:=0) (c:=0) (aa (ac (i:=7) rfl (.inl rfl) rfl rfl rfl) (aa (ac (i:=7) rfl (.inl rfl) rfl rfl rfl) (aa (aD (d:=3) (c:=3) (aa (aD (d:=3) (c:=3) (aa (bp j4 (eD (K:=K) rfl PySem.F.slot_str_join PySem.F.type_str_join (kE rfl) kJ cy (aa (ac (i:=0) rfl (.inl rfl) rfl rfl rfl) ad rfl) rfl rfl rfl rfl rfl rfl) ah (fun _ _=>rfl)) ad rfl) rfl rfl) ad rfl) rfl rfl) ad rfl) rfl) rfl) rfl rfl) ad rfl) rfl) rfl) rfl rfl (by decide)) (by decide))) (ay (i:=9) (ds':=[0,0,0,0,0,0,0,0,0,0]) nd rfl (.inl rfl) rfl (by decide) (by decide) (.inl rfl)) (ak (aM (ds2:=[0,0,0,0,0,0,0,0,0,0]) (az (ia (K:=K) rfl hr.units) (aC mI hr rfl (aa (ac (i:=9) rfl (.inl rfl) rfl rfl rfl) (aa (ac (i:=8) rfl (.inl rfl) rfl rfl rfl) ad rfl) rfl) rfl rfl rfl rfl rfl) (aI (d:=3) (c:=3) (aa ah (aa ah ad rfl) rfl) rfl rfl (by decide)) (aL _)) (ak (aA bF rfl)) aK)) PassesOwn.never (fun _=>rfl))
  (ag (aM (ds2:=[0,0,0,0,0,0,0,0,0,0]) (qpt (dz (az (ia (K:=K) rfl hr.units) (aC mI hr rfl (aa (aD (d:=0) (c:=0) (aa (ac (i:=7) rfl (.inl rfl) rfl rfl rfl) (aa (au (eB (K:=K) rfl) (aD (d:=3) (c:=3) (aa (aD (d:=3) (c:=3) ad rfl rfl) ad rfl) rfl rfl) (ac (i:=8) rfl (.inl rfl) rfl rfl rfl)) ad rfl) rfl) rfl rfl) (aa (ac (i:=7) rfl (.inl rfl) rfl rfl rfl) ad rfl) rfl) rfl rfl rfl rfl rfl) (aI (d:=3) (c:=3) (aa gJ (aa gJ ad rfl) rfl) rfl rfl (by decide)) (aL _)) (cM (az (ia (K:=K) rfl hr.units) (aC ig hr rfl (aa (au (eB (K:=K) rfl) (ac (i:=8) rfl (.inl rfl) rfl rfl rfl) (aD (d:=3) (c:=3) (aa (aD (d:=3) (c:=3) ad rfl rfl) ad rfl) rfl rfl)) ad rfl) rfl rfl rfl rfl rfl) (aI (d:=3) (c:=3) ad rfl rfl (by decide)) (aL _))))) (ak (aA bF rfl)) aK)
  (ak (aA (aC bV hr rfl (aa (ai (d':=0) (aC eV hr rfl (aa (aD (d:=0) (c:=0) (aa (au (eB (K:=K) rfl) (ac (i:=8) rfl (.inl rfl) rfl rfl rfl) (aD (d:=3) (c:=3) (aa (aD (d:=3) (c:=3) ad rfl rfl) ad rfl) rfl rfl)) (aa (ac (i:=7) rfl (.inl rfl) rfl rfl rfl) ad rfl) rfl) rfl rfl) ad rfl) rfl rfl rfl rfl rfl) (by decide)) (aa (aC cI hr rfl (aa (aD (d:=0) (c:=0) (aa (ac (i:=7) rfl (.inl rfl) rfl rfl rfl) ad rfl) rfl rfl) ad rfl) rfl rfl rfl rfl rfl) ad rfl) rfl) rfl rfl rfl rfl rfl) rfl))))))))))))
abbrev lC:Stmt:=top 40
abbrev G0:List Str:=["_law_script", "_law_k", "_law_pen_here", "_law_tongue_here", "_law_plan_here", "_law_turn", "_law_step_here", "_law_told", "_law_long"]
theorem sclaw:FnScope G0 ["_law_script"] (aq lC):=⟨rfl,rfl,rfl,by decide +kernel,rfl,by decide +kernel,by decide +kernel⟩
noncomputable def uR:MS:=(ao (ax 7 (ar cZ (ae (af 6) aj)))
 (ao (sIf (dI (tV (ar aZ (ae (af 7) (ae (ar bx (ae (a7 (ae (af 6) aj)) aj)) aj))))) (aR (eC (.bool false))) bc)
 (bA (dm 7 (eC (.str ""))))))
noncomputable def pW:MS:=(ao (bG (br (af 4)) (gN 6) uR)
 (ao (ax 7 (ar cg (ae (af 4) aj)))
 (ao (sIf (dI (tV (ar aZ (ae (af 7) (ae (ar bx (ae (af 4) aj)) aj))))) (aR (eC (.bool false))) bc)
 (bA (mi 7 (oB 7))))))
noncomputable def uQ:MS:=(ao (ax 2 (ar F_law_pen (ae (af 0) (ae (af 1) aj))))
 (ao (ax 3 (ar cF (bb 2 (ae (eC (.int 3)) aj))))
 (ao (ax 4 (ar dE (bb 2 (ae (af 3) (ae (eC (.int 3)) (ae (eC (.int 5)) (ae (eC (.int 3)) aj)))))))
 (ao (bG (cb (ae (eC (.int 2)) aj)) (gN 5) pW)
 (ao (sIf (bOr (tV (e2 neD (ar cg (ae (a7 aj) aj)) (a9 aj))) (tV (e2 neD (ar cZ (ae (a7 (ae (a7 aj) aj)) aj)) (a9 aj)))) (aR (eC (.bool false))) bc)
 (ao (ax 8 (ar cj (bb 2 (ae (af 3) (ae (eC (.int 5)) (ae (eC (.int 3)) (ae (eC (.int 6)) aj)))))))
 (ao (sIf (bOr (dI (tV (ar aZ (ae (ar cZ (ae (af 8) aj)) (ae (ar bx (ae (a7 (ae (af 8) aj)) aj)) aj))))) (dI (tV (ar aZ (ae (ar cg (ae (a7 (ae (af 8) (ae (af 8) aj))) aj)) (ae (ar bx (ae (a7 (ae (af 8) aj)) aj)) aj)))))) (aR (eC (.bool false))) bc)
 (sIf (cV (tV (e2 eqD (af 1) (eC (.int 0)))) (cV (tV (e2 gtI (eN bQ (ae (eM joinD (eC (.str "")) (ae (af 3) aj)) aj)) (eC (.int 1)))) (cV (tV (e2 eqD (ar F_law_draw (bb 2 (ae (eC (.int 2)) aj))) (eC (.int 0)))) (dI (tV (ar cU (ae (af 3) aj))))))) (aR (eC (.bool false))) bc))))))))
noncomputable def wj:MS:=(ao (bG (cb (ae (eC (.int 2)) aj)) (gN 1) uQ)
 (aR (eC (.bool true))))
noncomputable def sU:List D→Option (D × En):=fnF 8 [0] wj
theorem Hm {k:Nat} (T:Bl mg)  (uS:Kn P w K mg base k "_law_pen" ["_law_script", "_law_k"] (spF K [0,0] 3 F_law_pen)) (pX:Kn P w K mg base k "_law_tongue" ["_law_pen_here", "_law_most"] (spF K [1,0] 0 cF)) (sR:Kn P w K mg base k "_law_plan" ["_law_pen_here", "_law_tongue_here", "_law_parts", "_law_most", "_law_size"] (spF K [1,0,0,0,0] 0 dE)) (ju:Kn P w K mg base k "_law_step" ["_law_pen_here", "_law_tongue_here", "_law_parts", "_law_most", "_law_size"] (spF K [1,0,0,0,0] 0 cj)) (eV:Kn P w K mg base k "tries" ["plan"] (spF K [0] 1 cg)) (ig:Kn P w K mg base k "made" ["step"] (spF K [0] 1 cZ)) (bV:Kn P w K mg base k "_law_texts" ["_law_found", "_law_due"] (spF K [0,0] 3 aZ)) (aU:Kn P w K mg base k "_law_draw" ["_law_pen_here", "_law_many"] (spF K [1,0] 0 F_law_draw)) (qx:Kn P w K mg base k "_law_great" ["_law_tongue_here"] (spF K [0] 3 cU)) (cI:Kn P w K mg base k "_law_row" ["_law_plan_here"] (spF K [0] 0 bx)) (F:Fun K "law" "law" lC f fd):FnOk P w K mg base CX0 (k+1) f fd ["_law_script"] (spF K [0] 3 sU):=by
 have nd:=sclaw.nd
 refine F.okQ (N:=G0) (b:=wj) (J:=⟨[],[0,0,0,0,0,0,0,0,0],3,[]⟩) (ds0:=[0,0,0,0,0,0,0,0,0]) sclaw rfl rfl rfl rfl fun cdv A outer s H E hr=>?_
 exact (ag (aO (ds1:=[0,0,0,0,0,0,0,0,0]) rfl (bU rfl T.range0 (aa (ai (d':=0) ah (by decide)) ad rfl) rfl) (ay (i:=1) (ds':=[0,0,0,0,0,0,0,0,0]) nd rfl (.inl rfl) rfl (by decide) (by decide) (.inl rfl)) (jY (ds2:=[0,0,1,0,0,0,0,0,0]) (ag (am (i:=2) (d:=1) (ds':=[0,0,1,0,0,0,0,0,0]) nd rfl (.inl rfl) (ai (d':=1) (aC uS hr rfl (aa (ac (i:=0) rfl (.inl rfl) rfl rfl rfl) (aa (ac (i:=1) rfl (.inl rfl) rfl rfl rfl) ad rfl) rfl) rfl rfl rfl rfl rfl) (by decide)) rfl (by decide) (by decide) rfl (.inl rfl))
  (ag (am (i:=3) (d:=0) (ds':=[0,0,1,0,0,0,0,0,0]) nd rfl (.inl rfl) (aS pX hr rfl (aJ (i:=2) rfl (.inl rfl) (aa (ai (d':=0) ah (by decide)) ad rfl) rfl rfl) rfl rfl rfl rfl) rfl (by decide) (by decide) rfl (.inl rfl))
  (ag (am (i:=4) (d:=0) (ds':=[0,0,1,0,0,0,0,0,0]) nd rfl (.inl rfl) (aS sR hr rfl (aJ (i:=2) rfl (.inl rfl) (aa (ac (i:=3) rfl (.inl rfl) rfl rfl rfl) (aa (ai (d':=0) ah (by decide)) (aa (ai (d':=0) ah (by decide)) (aa (ai (d':=0) ah (by decide)) ad rfl) rfl) rfl) rfl) rfl rfl) rfl rfl rfl rfl) rfl (by decide) (by decide) rfl (.inl rfl))
  (ag (aO (ds1:=[0,0,1,0,0,0,0,0,0]) rfl (bU rfl T.range0 (aa (ai (d':=0) ah (by decide)) ad rfl) rfl) (ay (i:=5) (ds':=[0,0,1,0,0,0,0,0,0]) nd rfl (.inl rfl) rfl (by decide) (by decide) (.inl rfl)) (jY (ds2:=[0,0,1,0,0,0,0,1,0]) (ag (aO (ds1:=[0,0,1,0,0,0,0,0,0]) rfl (aV (K:=K) rfl (ac (i:=4) rfl (.inl rfl) rfl rfl rfl)) (ay (i:=6) (ds':=[0,0,1,0,0,0,0,0,0]) nd rfl (.inl rfl) rfl (by decide) (by decide) (.inl rfl)) (jY (ds2:=[0,0,1,0,0,0,0,1,0]) (ag (am (i:=7) (d:=1) (ds':=[0,0,1,0,0,0,0,1,0]) nd rfl (.inl rfl) (aC ig hr rfl (aa (ac (i:=6) rfl (.inl rfl) rfl rfl rfl) ad rfl) rfl rfl rfl rfl rfl) rfl (by decide) (by decide) rfl (.inl rfl))
  (ag (aM (ds2:=[0,0,1,0,0,0,0,1,0]) (fO (ds0:=[0,0,1,0,0,0,0,0,0]) (bN (be (aC bV hr rfl (aa (ac (i:=7) rfl (.inl rfl) rfl rfl rfl) (aa (aC cI hr rfl (aa (aD (d:=0) (c:=0) (aa (ac (i:=6) rfl (.inl rfl) rfl rfl rfl) ad rfl) rfl rfl) ad rfl) rfl rfl rfl rfl rfl) ad rfl) rfl) rfl rfl rfl rfl rfl) (fun _=>rfl))) rfl) (ak (aA bF rfl)) aK)
  (ak (a8 (di (K:=K) (i:=7) (d:=1) rfl rfl (.inl rfl) rfl (ai (d':=0) cy (by decide)) (by decide) rfl rfl rfl rfl rfl rfl rfl rfl) rfl)))) rfl) PassesOwn.never (fun _=>rfl))
  (ag (am (i:=7) (d:=1) (ds':=[0,0,1,0,0,0,0,1,0]) nd rfl (.inl rfl) (aC eV hr rfl (aa (ac (i:=4) rfl (.inl rfl) rfl rfl rfl) ad rfl) rfl rfl rfl rfl rfl) rfl (by decide) (by decide) rfl (.inl rfl))
  (ag (aM (ds2:=[0,0,1,0,0,0,0,1,0]) (fO (ds0:=[0,0,1,0,0,0,0,0,0]) (bN (be (aC bV hr rfl (aa (ac (i:=7) rfl (.inl rfl) rfl rfl rfl) (aa (aC cI hr rfl (aa (ac (i:=4) rfl (.inl rfl) rfl rfl rfl) ad rfl) rfl rfl rfl rfl rfl) ad rfl) rfl) rfl rfl rfl rfl rfl) (fun _=>rfl))) rfl) (ak (aA bF rfl)) aK)
  (ak (a8 (uy (K:=K) (i:=7) (d:=1) rfl rfl (uu (i:=7) rfl (.inl rfl) rfl rfl) (by decide) rfl rfl) rfl))))) rfl) PassesOwn.never (fun _=>rfl))
  (ag (aM (ds2:=[0,0,1,0,0,0,0,0,0]) (qpt (dz (az (ia (K:=K) rfl hr.units) (aC eV hr rfl (aa (ai (d':=0) (aD (d:=3) (c:=3) ad rfl rfl) (by decide)) ad rfl) rfl rfl rfl rfl rfl) (aI (d:=3) (c:=3) ad rfl rfl (by decide)) (aL _)) (cM (az (ia (K:=K) rfl hr.units) (aC ig hr rfl (aa (ai (d':=0) (aD (d:=3) (c:=3) (aa (aD (d:=3) (c:=3) ad rfl rfl) ad rfl) rfl rfl) (by decide)) ad rfl) rfl rfl rfl rfl rfl) (aI (d:=3) (c:=3) ad rfl rfl (by decide)) (aL _))))) (ak (aA bF rfl)) aK)
  (ag (am (i:=8) (d:=0) (ds':=[0,0,1,0,0,0,0,0,0]) nd rfl (.inl rfl) (aS ju hr rfl (aJ (i:=2) rfl (.inl rfl) (aa (ac (i:=3) rfl (.inl rfl) rfl rfl rfl) (aa (ai (d':=0) ah (by decide)) (aa (ai (d':=0) ah (by decide)) (aa (ai (d':=0) ah (by decide)) ad rfl) rfl) rfl) rfl) rfl rfl) rfl rfl rfl rfl) rfl (by decide) (by decide) rfl (.inl rfl))
  (ag (aM (ds2:=[0,0,1,0,0,0,0,0,0]) (qpt (dz (bN (be (aC bV hr rfl (aa (ai (d':=0) (aC ig hr rfl (aa (ac (i:=8) rfl (.inl rfl) rfl rfl rfl) ad rfl) rfl rfl rfl rfl rfl) (by decide)) (aa (aC cI hr rfl (aa (aD (d:=0) (c:=0) (aa (ac (i:=8) rfl (.inl rfl) rfl rfl rfl) ad rfl) rfl rfl) ad rfl) rfl rfl rfl rfl rfl) ad rfl) rfl) rfl rfl rfl rfl rfl) (fun _=>rfl))) (cM (bN (be (aC bV hr rfl (aa (ai (d':=0) (aC eV hr rfl (aa (aD (d:=0) (c:=0) (aa (ac (i:=8) rfl (.inl rfl) rfl rfl rfl) (aa (ac (i:=8) rfl (.inl rfl) rfl rfl rfl) ad rfl) rfl) rfl rfl) ad rfl) rfl rfl rfl rfl rfl) (by decide)) (aa (aC cI hr rfl (aa (aD (d:=0) (c:=0) (aa (ac (i:=8) rfl (.inl rfl) rfl rfl rfl) ad rfl) rfl rfl) ad rfl) rfl rfl rfl rfl rfl) ad rfl) rfl) rfl rfl rfl rfl rfl) (fun _=>rfl)))))) (ak (aA bF rfl)) aK)
  (ak (aM (ds2:=[0,0,1,0,0,0,0,0,0]) (qpt (dg (az (cW (K:=K) rfl hr.units) (ac (i:=1) rfl (.inl rfl) rfl rfl rfl) ah (aL _)) (dg (az dN (aT (cc (K:=K) rfl) rfl T.len0 (by decide +kernel) (aa (ai (d':=0) (eD (K:=K) rfl PySem.F.slot_str_join PySem.F.type_str_join (kE rfl) kJ cy (aa (ac (i:=3) rfl (.inl rfl) rfl rfl rfl) ad rfl) rfl rfl rfl rfl rfl rfl) (by decide)) ad rfl) rfl (by decide) rfl rfl rfl) ah (aL _)) (dg (az (cW (K:=K) rfl hr.units) (aS aU hr rfl (aJ (i:=2) rfl (.inl rfl) (aa (ai (d':=0) ah (by decide)) ad rfl) rfl rfl) rfl rfl rfl rfl) ah (aL _)) (eA (bN (be (aC qx hr rfl (aa (ac (i:=3) rfl (.inl rfl) rfl rfl rfl) ad rfl) rfl rfl rfl rfl rfl) (fun _=>rfl)))))))) (ak (aA bF rfl)) aK))))))))) rfl) PassesOwn.never (fun _=>rfl))
  (ak (aA bF rfl)))
end
end W44
set_option maxHeartbeats 1000000
namespace W44
open PySem L2 Tg
theorem mS {s u:MS} {K:Fl→Prop} {b:Bool} {en:En} (h1:kIf s u K (true,en)) (h2:kIf s u K (false,en)):kIf s u K (b,en):=by
 cases b
 ·exact h2
 ·exact h1
def cD (a b c:Int):D:=.list [.int a,.int b,.int c]
def Pn (n:Nat) (t:D):Prop:=∃ a b c,t=cD a b c∧0≤c∧c≤(n:Int)
theorem Pn.mono {n m:Nat} {t:D} (h:Pn n t) (e:n≤m):Pn m t:=by
 obtain ⟨a,b,c,rfl,h1,h2⟩:=h
 exact ⟨a,b,c,rfl,h1,by omega⟩
theorem ce {p:D} {m:Int} {n:Nat} (hp:Pn n p) (hn:n≤1000000) (h3:0 < m) (h4:m < 1073741824) {Q:D × En→Prop} (h:∀ r p',0≤r→r < m→Pn (n+1) p'→Q (.int r,[some p',none])):W (F_law_draw [p,.int m]) Q:=by
 obtain ⟨a,b,c,rfl,c0,c1⟩:=hp
 have m0:∀ z:Int,0≤z % m:=fun z=>Int.emod_nonneg _ (by omega)
 have m1:∀ z:Int,z % m < m:=fun z=>Int.emod_lt_of_pos _ h3
 by_cases ha:0 < a
 ·simp only [ws,F_law_draw,cu,cD,ha,h3,h4]
  exact ⟨⟨h3,h4⟩,h _ _ (m0 _) (m1 _) ⟨_,_,_,rfl,by omega,by omega⟩⟩
 ·simp only [ws,F_law_draw,cu,cD,ha,h3,h4]
  refine ⟨.inl (by decide),by decide,.inl ?_,by decide,.inl (by decide),.inl ?_,by decide,⟨by decide,by decide⟩,h _ _ (m0 _) (m1 _) ⟨_,_,_,rfl,by omega,by omega⟩⟩
  ·constructor <;> omega
  ·generalize (b+69621 * (c+1)+13) % 2147483629 * ((b+69621 * (c+1)+13) % 2147483629)=x
   constructor <;> omega
theorem Bz {ns:List Int} {k:Int} (h0:0≤k) (hl:ns.length≤63) {Q:D × En→Prop} (h:∀ p,Pn 0 p→Q (p,[none,none])):W (F_law_pen [.list (ns.map .int),.int k]) Q:=by
 have pw:iA 10 18:=by unfold iA; decide
 simp only [ws,F_law_pen,cr]
 refine ⟨.inl (by decide),?_⟩
 by_cases hk:k < (ns.length:Int)
 ·have ec:atI (ns.map PyData.int) k=some (.int (ns[k.toNat]'(by omega))):=Bx h0 (by rw [List.getElem?_map,List.getElem?_eq_getElem (by omega)]; rfl)
  simp only [ws,hk,ec]
  refine ⟨pw,mS ?_ ?_⟩ <;> simp only [ws]
  ·exact ⟨pw,by decide,h _ ⟨_,_,0,rfl,by decide,by decide⟩⟩
  ·exact ⟨by decide,h _ ⟨_,_,0,rfl,by decide,by decide⟩⟩
 ·by_cases hn:(0:Int) < ns.length
  ·obtain ⟨c,ec⟩:∃ c,atI (ns.map PyData.int) (k % (ns.length:Int))=some (.int c):=by
    have q1:0≤k % (ns.length:Int):=Int.emod_nonneg _ (by omega)
    have q2:k % (ns.length:Int) < ns.length:=Int.emod_lt_of_pos _ (by omega)
    refine ⟨ns[(k % (ns.length:Int)).toNat]'(by omega),Bx q1 ?_⟩
    rw [List.getElem?_map,List.getElem?_eq_getElem (by omega)]
    rfl
   simp only [ws,hk,hn,ec]
   refine ⟨by decide,.inl (by decide),pw,mS ?_ ?_⟩ <;> simp only [ws]
   ·exact ⟨pw,by decide,h _ ⟨_,_,0,rfl,by decide,by decide⟩⟩
   ·exact ⟨by decide,h _ ⟨_,_,0,rfl,by decide,by decide⟩⟩
  ·simp only [ws,hk,hn]
   refine ⟨pw,mS ?_ ?_⟩ <;> simp only [ws]
   ·exact ⟨pw,by decide,h _ ⟨_,_,0,rfl,by decide,by decide⟩⟩
   ·exact ⟨by decide,h _ ⟨_,_,0,rfl,by decide,by decide⟩⟩
end W44
namespace W44
open PySem L2 Tg
def txt:D→Str
 | .str z=>z
 | _=>""
def fr (ys:List Str):Bool:=decide (ys.Pairwise fun a b=>¬ (li a <+: li b)∧¬ (li b <+: li a))
structure TT (ks:List Str):Prop where
 n4:ks.length≤4
 l12:(bf ks).length≤12
 l1:1≤(bf ks).length
 nd:(bf ks).Nodup
theorem kH {ks:List Str} (T:TT ks):joinD "" [tD ks]=some (.str (sgs ks)):=(uf (by have:=T.l12; omega) (by have:=T.n4; omega)).1
theorem eE:∀ ys:List Str,bD (ys.map PyData.str)=0
 | []=>rfl
 | y :: ys=>by
  rw [List.map_cons]
  simp only [bD,ff,eE ys]
  rfl
theorem eo:∀ ys:List Str,aB (ys.map PyData.str)=true
 | []=>rfl
 | y :: ys=>by
  rw [List.map_cons]
  simp only [aB,av,eo ys]
  rfl
theorem i7:∀ xs ys:List Str,de (xs.map PyData.str) (ys.map PyData.str)=decide (xs=ys)
 | [],[]=>rfl
 | [],_ :: _=>rfl
 | _ :: _,[]=>rfl
 | x :: xs,y :: ys=>by
  simp only [List.map_cons,de,peq,i7 xs ys,kx]
  by_cases h:x=y
  ·by_cases h2:xs=ys <;> simp [h,h2]
  ·simp [h]
theorem rp (xs ys:List Str):eqD (.list (xs.map .str)) (.list (ys.map .str))=some (.bool (decide (xs=ys))):=by
 show grd _ _=_
 unfold grd
 rw [if_pos ⟨by simp only [av]; exact eo xs,by simp only [av]; exact eo ys,by simp only [ff,eE]; decide⟩]
 simp only [peq,i7]
theorem qV (xs:List Str):neD (.list (xs.map .str)) (.list [])=some (.bool (!decide (xs=[]))):=by
 show grd _ _=_
 unfold grd
 rw [if_pos ⟨by simp only [av]; exact eo xs,rfl,by simp only [ff,eE]; decide⟩]
 have:=i7 xs []
 simp only [List.map_nil] at this
 simp only [peq,this]
theorem BN (t:D) (z:Str):peq t (.str z)=match t with | .str y=>decide (y=z) | _=>false:=by
 cases t with
 | str y=>simp only [peq,kx]
 | none=>rfl
 | bool b=>rfl
 | int i=>rfl
 | list l=>simp only [peq]
 | tuple l=>simp only [peq]
 | dict l=>simp only [peq]
theorem nw (xs:List Nat) (n:Nat):dZ xs none (some (n:Int))=xs.take n:=by
 unfold dZ
 rw [HT.sIx_none,HT.sIx_nat]
 simp
theorem oX:∀ ns:List Int,fN (ns.map PyData.int)=some ns
 | []=>rfl
 | n :: ns=>by
  show (fN (ns.map PyData.int)).map (n :: ·)=_
  rw [oX ns]
  rfl
theorem on (ns:List Int):fQ [.list (ns.map .int)]=some (.int ns.sum):=by
 show (fN _).map _=_
 rw [oX]
 rfl
structure Sz (ns:List Int):Prop where
 l1:1≤ns.length
 l4:ns.length≤4
 b:∀ n∈ns,1≤n∧n≤6
theorem oo:∀ (ns:List Int),(∀ n∈ns,1≤n)→(ns.length:Int)≤ns.sum
 | [],_=>by simp
 | a :: r,h=>by
  have h1:=h a List.mem_cons_self
  have h2:=oo r fun n hn=>h n (List.mem_cons_of_mem _ hn)
  rw [List.sum_cons,List.length_cons]
  omega
theorem iL (a b:Str):(a++b).length=a.length+b.length:=by
 show (a.cps++b.cps).size=_
 rw [Array.size_append]
 rfl
theorem bI (a b:Str):li (a++b)=li a++li b:=Array.toList_append
theorem uK (xs:List Nat) (n:Nat):dZ xs (some (n:Int)) none=xs.drop n:=by
 unfold dZ
 rw [HT.sIx_none,HT.sIx_nat]
 rcases Nat.le_total n xs.length with h | h
 ·rw [Nat.min_eq_left h,List.take_of_length_le (by rw [List.length_drop]; omega)]
 ·rw [Nat.min_eq_right h,List.drop_of_length_le (Nat.le_refl _),List.drop_of_length_le h]
  simp
theorem mt {z:Str} {k:Nat} (h:k < (li z).length):atI (li z) (k:Int)=some (li z)[k]:=by
 rw [aY,List.getElem?_eq_getElem h]
theorem v7 {m n:Nat} {p:D} {z y:Str} {b d e f g h8 h9:Option D} (hp:Pn n p) (hn:n+m≤1000000) (hz:m+1≤(li z).length) (hz2:(li z).length≤1000) (hy:(li y).length+m≤1000) {Q:Fl→Prop}
  (h:∀ p' z' y' o8 o9,Pn (n+m) p'→(li z').length+m=(li z).length→(li y').length=(li y).length+m→(li y'++li z').Perm (li y++li z)→Q (.nx [some p',b,some (.str z'),d,e,f,g,some (.str y'),o8,o9])) :
  W (cx (gN 8) fu (jQ 0 m) [some p,b,some (.str z),d,e,f,g,some (.str y),h8,h9]) Q:=by
 have ll:∀ z:Str,(li z).length=z.length:=fun z=>Array.length_toList
 refine bH (fun i en=>∃ p' z' y' o8 o9,en=[some p',b,some (.str z'),d,e,f,g,some (.str y'),o8,o9]∧Pn (n+i) p'∧(li z').length+i=(li z).length∧(li y').length=(li y).length+i∧(li y'++li z').Perm (li y++li z)) ⟨p,z,y,h8,h9,rfl,hp,rfl,rfl,List.Perm.refl _⟩ (fun i t en ht ⟨p',z',y',o8,o9,e1,q1,q2,q3,q4⟩=>?_) fun en ⟨p',z',y',o8,o9,e1,q1,q2,q3,q4⟩=>?_
 ·obtain ⟨hi,rfl⟩:=cS ht
  subst e1
  simp only [ws,fu]
  have l1:=ll z'
  have l2:=ll y'
  refine ⟨sz (by omega),ce q1 (by omega) (by omega) (by omega) fun r p2 r0 r1 hp2=>?_⟩
  obtain ⟨k,rfl⟩:=Int.eq_ofNat_of_zero_le r0
  have hk:k < (li z').length:=by omega
  have ek:=mt hk
  simp only [ws,ek]
  have c1:dZ z'.cps.toList none (some (k:Int))=(li z').take k:=nw _ _
  have c2:dZ z'.cps.toList (some ((k:Int)+1)) none=(li z').drop (k+1):=uK _ (k+1)
  rw [c1,c2]
  have t1:((⟨((li z').take k).toArray⟩:Str)).length=k:=by rw [show (⟨((li z').take k).toArray⟩:Str)=ofL ((li z').take k) from rfl,mQ,List.length_take]; omega
  have t2:((⟨((li z').drop (k+1)).toArray⟩:Str)).length=(li z').length - (k+1):=by rw [show (⟨((li z').drop (k+1)).toArray⟩:Str)=ofL ((li z').drop (k+1)) from rfl,mQ,List.length_drop]
  have t3:(mk1 (li z')[k]).length=1:=rfl
  refine ⟨sz (by omega),sz (by omega),sz (by omega),sz (by omega),sz (by omega),p2,_,_,_,_,rfl,hp2,?_,?_,?_⟩
  ·rw [ll,iL]
   omega
  ·rw [ll,iL]
   omega
  ·refine List.Perm.trans ?_ q4
   rw [bI,bI]
   show ((li y'++[(li z')[k]])++((li z').take k++(li z').drop (k+1))).Perm _
   rw [List.append_assoc]
   refine List.Perm.append_left _ ?_
   have e:li z'=(li z').take k++(li z')[k] :: (li z').drop (k+1):=by rw [List.getElem_cons_drop,List.take_append_drop]
   refine List.Perm.trans ?_ (List.Perm.of_eq e.symm)
   show ((li z')[k] :: ((li z').take k++(li z').drop (k+1))).Perm _
   exact List.perm_middle.symm
 ·rw [eg] at q1 q2 q3
  subst e1
  exact h p' z' y' o8 o9 q1 q2 q3 q4
theorem vw {n:Nat} {ns:List Int} {p:D} {z:Str} {b d e:Option D} (hp:Pn n p) (hn:n≤1000) (hS:Sz ns) (h12:ns.sum≤12) (hz:(li z).length=93) (hnd:(li z).Nodup) {Q:Fl→Prop}
  (h:∀ p' ks o2 o6 o7 o8 o9,Pn (n+12) p'→TT ks→Q (.nx [some p',b,o2,d,e,some (.list (ks.map .str)),o6,o7,o8,o9])) :
  W (cx (gN 6) ft (ns.map .int) [some p,b,some (.str z),d,e,some (.list []),none,none,none,none]) Q:=by
 refine bH (fun i en=>∃ p' z' ks o6 o7 o8 o9,en=[some p',b,some (.str z'),d,e,some (.list (ks.map .str)),o6,o7,o8,o9]∧ks.length=i∧Pn (n+(bf ks).length) p'∧(li z').length+(bf ks).length=93∧((bf ks).length:Int)=(ns.take i).sum∧(bf ks++li z').Perm (li z)) ⟨p,z,[],none,none,none,none,rfl,rfl,hp,by rw [hz]; rfl,by simp [bf],List.Perm.refl _⟩ (fun i t en ht ⟨p',z',ks,o6,o7,o8,o9,e1,q1,q2,q3,q4,q5⟩=>?_) fun en ⟨p',z',ks,o6,o7,o8,o9,e1,q1,q2,q3,q4,q5⟩=>?_
 ·rw [List.getElem?_map] at ht
  obtain ⟨m,hm,rfl⟩:=Option.map_eq_some_iff.mp ht
  have hb:=hS.b m (List.mem_of_getElem? hm)
  obtain ⟨k,rfl⟩:=Int.eq_ofNat_of_zero_le (by omega:0≤m)
  have hi:=(List.getElem?_eq_some_iff.mp hm).1
  have tk:(ns.take (i+1)).sum=(ns.take i).sum+(k:Int):=by
   rw [bd hm,List.sum_append]
   simp
  have tot:(ns.take (i+1)).sum≤12:=by
   have e1:ns.sum=(ns.take (i+1)).sum+(ns.drop (i+1)).sum:=by rw [← List.sum_append,List.take_append_drop]
   have e2:=oo (ns.drop (i+1)) fun x hx=>(hS.b x (List.mem_of_mem_drop hx)).1
   omega
  subst e1
  have hl4:=hS.l4
  simp only [ws,ft,Int.toNat_natCast]
  refine ⟨by omega,v7 (m:=k) q2 (by omega) (by omega) (by omega) (by show 0+k≤1000; omega) fun p2 z2 y2 o8 o9 r1 r2 r3 r4=>?_⟩
  have r3':(li y2).length=k:=by rw [r3]; show 0+k=k; omega
  simp only [ws]
  have al:(bf (ks++[y2])).length=(bf ks).length+k:=by
   rw [nG,List.length_append,r3']
  refine ⟨szl (by omega),p2,z2,ks++[y2],_,_,_,_,by rw [List.map_append]; rfl,by rw [List.length_append,q1]; rfl,by rw [al]; exact r1.mono (by omega),by rw [al]; omega,?_,?_⟩
  ·rw [al,tk]
   omega
  ·refine List.Perm.trans ?_ q5
   rw [nG,List.append_assoc]
   exact List.Perm.append_left _ r4
 ·subst e1
  rw [List.length_map] at q1 q4
  rw [List.take_length] at q4
  have g1:=oo ns fun x hx=>(hS.b x hx).1
  have g2:=hS.l1
  refine h p' ks _ _ _ _ _ (q2.mono (by omega)) ⟨by rw [q1]; exact hS.l4,by omega,by omega,((q5.nodup_iff.mpr hnd).sublist (List.sublist_append_left _ _))⟩
def evs:Str:="!\"#$&'()*+,-./0123456789:;<=>?@ABCDEFGHIJKLMNOPQRSTUVWXYZ[\\]^_`abcdefghijklmnopqrstuvwxyz{|}~"
theorem CI:(li evs).length=93:=by decide +kernel
theorem GL:(li evs).Nodup:=by decide +kernel
theorem u4 {n m:Nat} {p:D} (hp:Pn n p) (hn:n≤1000) (hm:m≤4) {Q:List D × En→Prop} (h:∀ (ns:List Int) p' o,ns.length=m→(∀ x∈ns,1≤x∧x≤3)→Pn (n+4) p'→Q (ns.map .int,[o,some p',some (.int 3)])) :
  W (lcF (gN 0) cY fy (jQ 0 m) [] [none,some p,some (.int 3)]) Q:=by
 refine Iy (fun i us en=>∃ (ns:List Int) (p':D) (o:Option D),us=ns.map .int∧en=[o,some p',some (.int 3)]∧ns.length=i∧(∀ x∈ns,1≤x∧x≤3)∧Pn (n+i) p') (by rw [eg]; exact sz (by omega)) ⟨[],p,none,rfl,rfl,rfl,by simp,hp⟩ (fun i t us en ht hu ⟨ns,p',o,e1,e2,h1,h2,h3⟩=>?_) fun us en _ ⟨ns,p',o,e1,e2,h1,h2,h3⟩=>?_
 ·obtain ⟨hi,rfl⟩:=cS ht
  subst e1 e2
  simp only [ws,fy]
  refine ce h3 (by omega) (by decide) (by decide) fun r p2 r0 r1 hp2=>?_
  simp only [ws]
  refine ⟨ns++[1+r],p2,_,by rw [List.map_append]; rfl,rfl,by rw [List.length_append,h1]; rfl,fun x hx=>?_,hp2⟩
  rcases List.mem_append.mp hx with hx | hx
  ·exact h2 x hx
  ·rw [List.mem_singleton.mp hx]
   omega
 ·subst e1 e2
  rw [eg] at h1 h3
  exact h ns p' o h1 h2 (h3.mono (by omega))
theorem tm:∀ (ns:List Int) (k:Int),(∀ n∈ns,n≤k)→ns.sum≤k * ns.length
 | [],k,_=>by simp
 | a :: r,k,h=>by
  have h1:=h a List.mem_cons_self
  have h2:=tm r k fun n hn=>h n (List.mem_cons_of_mem _ hn)
  rw [List.sum_cons,List.length_cons]
  have e:k * ((r.length+1:Nat):Int)=k * (r.length:Int)+k:=by rw [Int.natCast_add,Int.mul_add]; simp
  omega
theorem sZ {p:D} (hp:Pn 0 p):W (cF [p,.int 3]) (fun r=>∃ ks p',r=(tD ks,[some p',none])∧TT ks∧Pn 30 p'):=by
 simp only [cF,gX,ws]
 refine ce hp (by decide) (by decide) (by decide) fun r p1 r0 r1 hp1=>?_
 obtain ⟨k,rfl⟩:=Int.eq_ofNat_of_zero_le r0
 have ek:((1:Int)+(k:Int)).toNat=k+1:=by omega
 simp only [ws,ek]
 refine ⟨by omega,u4 (m:=k+1) hp1 (by decide) (by omega) fun ns p2 o hl hb hp2=>?_⟩
 have h12:ns.sum≤12:=by
  have:=tm ns 3 fun n hn=>(hb n hn).2
  omega
 have hS:Sz ns:=⟨by omega,by omega,fun n hn=>⟨(hb n hn).1,by have:=(hb n hn).2; omega⟩⟩
 have e36:decide ((3:Int)=6)=false:=by decide
 simp only [ws,e36]
 have e1:=on ns
 have hn:¬ (12:Int) < ns.sum:=by omega
 refine CY (fun n en=>en=[some p2,some (.int 3),some (.str evs),some (.int (1+(k:Int))),some (.list (ns.map .int)),none,none,none,none,none]) (fun n en e=>?_) (n:=0) rfl
 subst e
 simp only [ws,iQ,e1,hn]
 refine vw hp2 (by decide) hS h12 CI GL fun p' ks o2 o6 o7 o8 o9 hp' hT=>?_
 simp only [ws]
 exact ⟨ks,p',rfl,hT,hp'.mono (by decide)⟩
end W44
namespace W44
open PySem L2 Tg
section
variable {ks:List Str}
structure GW (ks:List Str) (m:Nat) (z:Str):Prop where
 l1:1≤(li z).length
 lm:(li z).length≤m
 mem:∀ c∈li z,c∈bf ks
theorem ll (z:Str):(li z).length=z.length:=Array.length_toList
theorem ky (ks:List Str):(sgs ks).length=(bf ks).length:=mQ _
theorem iK (ks:List Str):li (sgs ks)=bf ks:=rfl
theorem qA (T:TT ks) {p:D} {n m:Nat} (hp:Pn n p) (hn:n≤100000) (hm:1≤m) (hm6:m≤6):W (ci [p,tD ks,.int (m:Nat)]) (fun r=>∃ z p',r=(.str z,[some p',none,none])∧GW ks m z∧Pn (n+10) p'):=by
 have t1:=T.l1
 have t12:=T.l12
 have sl:=ky ks
 simp only [ci,jx,ws,kH T]
 refine ⟨sz (by omega),ce hp (by omega) (by omega) (by omega) fun r p1 r0 r1 hp1=>?_⟩
 obtain ⟨k,rfl⟩:=Int.eq_ofNat_of_zero_le r0
 have hk:k < (li (sgs ks)).length:=by rw [iK]; omega
 have ek:=mt hk
 simp only [ws,ek]
 refine ⟨sz (by omega),ce hp1 (by omega) (by decide) (by decide) fun r p2 r0 r1 hp2=>?_⟩
 simp only [ws]
 refine ce hp2 (by omega) (by omega) (by omega) fun q p3 q0 q1 hp3=>?_
 obtain ⟨j,rfl⟩:=Int.eq_ofNat_of_zero_le q0
 simp only [ws,Int.toNat_natCast]
 refine ⟨by omega,?_⟩
 have c0:(li (sgs ks))[k]∈bf ks:=by rw [← iK ks]; exact List.getElem_mem hk
 refine bH (fun i en=>∃ p' z o6 o7,en=[some p',some (tD ks),some (.int (m:Nat)),some (.str (sgs ks)),some (.str z),some (.bool (decide (r=0))),o6,o7]∧Pn (n+3+i) p'∧(li z).length=i+1∧∀ c∈li z,c∈bf ks) ⟨p3,mk1 (li (sgs ks))[k],none,none,rfl,hp3,rfl,fun c hc=>by rw [List.mem_singleton.mp (show c∈[(li (sgs ks))[k]] from hc)]; exact c0⟩ (fun i t en ht ⟨p',z,o6,o7,e,h1,h2,h3⟩=>?_) fun en ⟨p',z,o6,o7,e,h1,h2,h3⟩=>?_
 ·obtain ⟨hi,rfl⟩:=cS ht
  subst e
  simp only [ws,kj]
  refine ⟨sz (by omega),ce h1 (by omega) (by omega) (by omega) fun r2 p4 r20 r21 hp4=>?_⟩
  obtain ⟨k2,rfl⟩:=Int.eq_ofNat_of_zero_le r20
  have hk2:k2 < (li (sgs ks)).length:=by rw [iK]; omega
  have ek2:=mt hk2
  have lz:=ll z
  have c2:(li (sgs ks))[k2]∈bf ks:=by rw [← iK ks]; exact List.getElem_mem hk2
  have z0:0 < (li z).length:=by omega
  have ez:=mt (z:=z) (k:=0) z0
  have fin:∀ c,c∈bf ks→∀ o6 o7,∃ p' z' o6' o7',[some p4,some (tD ks),some (PyData.int (m:Nat)),some (PyData.str (sgs ks)),some (PyData.str (z++mk1 c)),some (PyData.bool (decide (r=0))),o6,o7]=[some p',some (tD ks),some (PyData.int (m:Nat)),some (PyData.str (sgs ks)),some (PyData.str z'),some (PyData.bool (decide (r=0))),o6',o7']∧Pn (n+3+(i+1)) p'∧(li z').length=i+1+1∧∀ c∈li z',c∈bf ks:=fun c hc o6 o7=>by
   refine ⟨p4,z++mk1 c,o6,o7,rfl,hp4,?_,fun c' hc'=>?_⟩
   ·rw [bI,List.length_append,h2]
    rfl
   ·rw [bI] at hc'
    rcases List.mem_append.mp hc' with q | q
    ·exact h3 c' q
    ·rw [List.mem_singleton.mp (show c'∈[c] from q)]
     exact hc
  have lm:∀ c,(mk1 c).length=1:=fun _=>rfl
  simp only [ws,ek2]
  refine ⟨sz (by omega),?_⟩
  by_cases hr:r=0
  ·have q:decide (r=0)=true:=decide_eq_true hr
   simp only [q] at fin
   have ez':atI (li z) 0=some (li z)[0]:=ez
   simp only [ws,q,ez']
   exact ⟨sz (by omega),sz (by rw [lm]; omega),fin _ (h3 _ (List.getElem_mem z0)) _ _⟩
  ·have q:decide (r=0)=false:=decide_eq_false hr
   simp only [q] at fin
   simp only [ws,q]
   exact ⟨sz (by rw [lm]; omega),fin _ c2 _ _⟩
 ·subst e
  rw [eg] at h1 h2
  simp only [ws]
  exact ⟨z,p',rfl,⟨by omega,by omega,h3⟩,h1.mono (by omega)⟩
theorem m4 (z:Str):∀ ys:List Str,((ys.map PyData.str).any fun t=>peq t (.str z))=decide (z∈ys)
 | []=>by simp
 | y :: ys=>by
  rw [List.map_cons,List.any_cons,m4 z ys,BN]
  by_cases h:y=z
  ·simp [h]
  ·have h':¬ z=y:=fun e=>h e.symm
   simp [h,h']
theorem rX (z:Str) (ys:List Str):oG (.str z) (.list (ys.map .str))=some (.bool (!decide (z∈ys))):=by
 show grd _ _=_
 unfold grd
 rw [if_pos ⟨rfl,eo ys,by rw [eE]; decide⟩,m4]
theorem Ck {ys:List Str} {z:Str} (h:fr ys=true) (hz:∀ y∈ys,¬ li y <+: li z∧¬ li z <+: li y):fr (ys++[z])=true:=by
 unfold fr at h ⊢
 rw [decide_eq_true_eq] at h ⊢
 rw [List.pairwise_append]
 refine ⟨h,List.pairwise_singleton _ _,fun a ha b hb=>?_⟩
 rw [List.mem_singleton.mp hb]
 exact hz a ha
def G5 (b:Bool) (ys:List Str):Prop:=b=false→fr ys=true
structure GP (ks:List Str) (free:Bool) (ys:List Str):Prop where
 l12:ys.length≤12
 w:∀ y∈ys,GW ks 6 y
 nd:ys.Nodup
 fre:free=false→fr ys=true
theorem qQ (T:TT ks) {p:D} {n m s:Nat} {b:Bool} (hp:Pn n p) (hn:n≤50000) (hm:m≤12) (hs:1≤s) (hs6:s≤6):W (ck [p,tD ks,.int (m:Nat),.int (s:Nat),.bool b]) (fun r=>∃ ys p',r=(.tuple (ys.map .str),[some p',none,none,none,none])∧GP ks b ys∧ys.length≤m∧Pn (n+120) p'):=by
 simp only [ck,jA,ws,Int.toNat_natCast]
 refine ⟨by omega,?_⟩
 refine bH (fun i en=>∃ p' ys o6 o7 o8,en=[some p',some (tD ks),some (.int (m:Nat)),some (.int (s:Nat)),some (.bool b),some (.list (ys.map .str)),o6,o7,o8]∧Pn (n+10 * i) p'∧ys.length≤i∧(∀ y∈ys,GW ks 6 y)∧ys.Nodup∧G5 b ys) ⟨p,[],none,none,none,rfl,hp,Nat.le_refl _,by simp,List.nodup_nil,fun _=>rfl⟩ (fun i t en ht ⟨p',ys,o6,o7,o8,e,h1,h2,h3,h4,h5⟩=>?_) fun en ⟨p',ys,o6,o7,o8,e,h1,h2,h3,h4,h5⟩=>?_
 ·obtain ⟨hi,rfl⟩:=cS ht
  subst e
  simp only [ws,km]
  refine W.use (qA T h1 (by omega) hs hs6) ?_
  rintro _ ⟨z,p2,rfl,gz,hp2⟩
  have g6:GW ks 6 z:=⟨gz.l1,Nat.le_trans gz.lm hs6,gz.mem⟩
  have en1:=rX z ys
  have fin:∀ o6 o8 (ok:Bool),(ok=true→z ∉ ys∧(b=false→∀ y∈ys,¬ li y <+: li z∧¬ li z <+: li y))→(kIf (bA (dm 5 (af 7))) bc (kIt (fun en=>∃ p' ys o6 o7 o8,en=[some p',some (tD ks),some (.int (m:Nat)),some (.int (s:Nat)),some (.bool b),some (.list (ys.map .str)),o6,o7,o8]∧Pn (n+10 * (i+1)) p'∧ys.length≤i+1∧(∀ y∈ys,GW ks 6 y)∧ys.Nodup∧G5 b ys) (mR (aR (eN dU (ae (af 5) aj))) (kFn [1,0,0,0,0] fun r=>∃ ys p',r=(.tuple (ys.map .str),[some p',none,none,none,none])∧GP ks b ys∧ys.length≤m∧Pn (n+120) p')))) (ok,[some p2,some (tD ks),some (.int (m:Nat)),some (.int (s:Nat)),some (.bool b),some (.list (ys.map .str)),o6,some (.str z),o8]):=fun o6 o8 ok hok=>by
   cases ok with
   | true =>
    obtain ⟨k1,k2⟩:=hok rfl
    simp only [ws]
    refine ⟨szl (by omega),p2,ys++[z],_,_,_,by rw [List.map_append]; rfl,hp2.mono (by omega),by rw [List.length_append]; show _+1≤_; omega,fun y hy=>?_,?_,fun hb=>Ck (h5 hb) (k2 hb)⟩
    ·rcases List.mem_append.mp hy with q | q
     ·exact h3 y q
     ·rw [List.mem_singleton.mp q]; exact g6
    ·rw [List.nodup_append]
     refine ⟨h4,by simp,fun a ha c hc e=>?_⟩
     rw [List.mem_singleton.mp hc] at e
     exact k1 (e ▸ ha)
   | false =>
    simp only [ws]
    exact ⟨p2,ys,_,_,_,rfl,hp2.mono (by omega),by omega,h3,h4,h5⟩
  simp only [ws,en1]
  cases b with
  | true =>
   simp only [ws]
   refine fin _ _ _ fun h=>⟨?_,fun q=>by cases q⟩
   simpa using h
  | false =>
   simp only [ws]
   refine ka (fun t=>decide (li z <+: li (txt t)) || decide (li (txt t) <+: li z)) (fun t=>t) (by rw [List.length_map]; exact sz (by omega)) (fun t ht=>?_) (fun t ht _=>?_) fun o'=>?_
   ·obtain ⟨w,hw,rfl⟩:=List.mem_map.mp ht
    have s1':Txt.startswith w z=decide (li z <+: li w):=by rw [Bool.eq_iff_iff,lG,decide_eq_true_eq]
    have s2':Txt.startswith z w=decide (li w <+: li z):=by rw [Bool.eq_iff_iff,lG,decide_eq_true_eq]
    simp only [kd,ws,s1',s2',txt]
    by_cases hq:li z <+: li w
    ·simp only [ws,hq,Bool.true_or]
    ·simp only [ws,hq,s2',Bool.false_or]
     rfl
   ·simp only [kr,ws]
   ·have e3:List.map (fun t=>t) (List.filter (fun t=>decide (li z <+: li (txt t)) || decide (li (txt t) <+: li z)) (ys.map PyData.str))=(ys.filter fun w=>decide (li z <+: li w) || decide (li w <+: li z)).map .str:=by
     rw [List.map_id',List.filter_map]
     rfl
    rw [e3]
    have e4:=rp (ys.filter fun w=>decide (li z <+: li w) || decide (li w <+: li z)) []
    simp only [List.map_nil] at e4
    simp only [ws,e4]
    refine fin _ _ _ fun h=>?_
    have h':=of_decide_eq_true h
    rw [List.filter_eq_nil_iff] at h'
    refine ⟨fun hz=>h' z hz ?_,fun _ y hy=>?_⟩
    ·rw [decide_eq_true (List.prefix_refl _)]; rfl
    ·have:=h' y hy
     rw [Bool.or_eq_true,decide_eq_true_eq,decide_eq_true_eq,not_or] at this
     exact ⟨this.2,this.1⟩
 ·subst e
  rw [eg] at h1 h2
  simp only [ws]
  exact ⟨ys,p',rfl,⟨by omega,h3,h4,h5⟩,h2,h1.mono (by omega)⟩
def pD (ys:List Str):D:=.tuple (ys.map .str)
def sD (ps:List (List Str)):D:=.tuple (ps.map pD)
structure GS (ks:List Str) (ps:List (List Str)):Prop where
 l1:1≤ps.length
 l5:ps.length≤5
 w:∀ ys∈ps,GP ks true ys
 fre:∀ ys∈ps.dropLast,fr ys=true
theorem GP.tru {b:Bool} {ys:List Str} (h:GP ks b ys):GP ks true ys:=⟨h.l12,h.w,h.nd,fun z=>by cases z⟩
theorem qF (T:TT ks) {p:D} {n m s:Nat} {q0:Nat} (hq0:1≤q0) (hq5:q0≤5) (hp:Pn n p) (hn:n≤40000) (hm:m≤12) (hs:1≤s) (hs6:s≤6):W (cj [p,tD ks,.int (q0:Nat),.int (m:Nat),.int (s:Nat)]) (fun r=>∃ ps p',r=(sD ps,[some p',none,none,none,none])∧GS ks ps∧ps.length≤q0∧(∀ ys∈ps,ys.length≤m)∧Pn (n+1000) p'):=by
 simp only [cj,jy,ws]
 refine ce hp (by omega) (by omega) (by omega) fun r p1 r0 r1 hp1=>?_
 obtain ⟨k,rfl⟩:=Int.eq_ofNat_of_zero_le r0
 have ek:((1:Int)+(k:Int)).toNat=k+1:=by omega
 simp only [ws,ek]
 refine ⟨by omega,?_⟩
 refine bH (fun i en=>∃ p' ps o7 o8,en=[some p',some (tD ks),some (.int (q0:Nat)),some (.int (m:Nat)),some (.int (s:Nat)),some (.int (1+(k:Int))),some (.list (ps.map pD)),o7,o8]∧Pn (n+1+150 * i) p'∧ps.length=i∧(∀ ys∈ps,GP ks true ys)∧(∀ j ys,ps[j]?=some ys→j≠k→fr ys=true)∧∀ ys∈ps,ys.length≤m) ⟨p1,[],none,none,rfl,hp1,rfl,by simp,by simp,by simp⟩ (fun i t en ht ⟨p',ps,o7,o8,e,h1,h2,h3,h4,h5⟩=>?_) fun en ⟨p',ps,o7,o8,e,h1,h2,h3,h4,h5⟩=>?_
 ·obtain ⟨hi,rfl⟩:=cS ht
  subst e
  simp only [ws,kl]
  refine ce h1 (by omega) (by omega) (by omega) fun r2 p2 r20 r21 hp2=>?_
  obtain ⟨q,rfl⟩:=Int.eq_ofNat_of_zero_le r20
  simp only [ws]
  refine ce hp2 (by omega) (by omega) (by omega) fun r3 p3 r30 r31 hp3=>?_
  obtain ⟨q3,rfl⟩:=Int.eq_ofNat_of_zero_le r30
  simp only [ws]
  have e1:(1:Int)+(q:Int)=((q+1:Nat):Int):=by omega
  rw [e1]
  refine W.use (qQ T hp3 (by omega) (by omega) (by omega) (by omega)) ?_
  rintro _ ⟨ys,p4,rfl,gp,glm,hp4⟩
  simp only [ws]
  refine ⟨szl (by omega),p4,ps++[ys],_,_,by rw [List.map_append]; rfl,hp4.mono (by omega),by rw [List.length_append,h2]; rfl,fun y hy=>?_,fun j y hj hjk=>?_,fun y hy=>?_⟩
  ·rcases List.mem_append.mp hy with q | q
   ·exact h3 y q
   ·rw [List.mem_singleton.mp q]; exact gp.tru
  ·rcases Nat.lt_or_ge j i with q | q
   ·rw [List.getElem?_append_left (by omega)] at hj
    exact h4 j y hj hjk
   ·have hl:=(List.getElem?_eq_some_iff.mp hj).1
    rw [List.length_append] at hl
    have:j=i:=by simp at hl; omega
    subst this
    rw [List.getElem?_append_right (by omega),h2,Nat.sub_self] at hj
    cases hj
    refine gp.fre (decide_eq_false ?_)
    omega
  ·rcases List.mem_append.mp hy with q | q
   ·exact h5 y q
   ·rw [List.mem_singleton.mp q]; omega
 ·subst e
  rw [eg] at h1 h2
  simp only [ws]
  refine ⟨ps,p',rfl,⟨by omega,by omega,h3,fun ys hy=>?_⟩,by omega,h5,h1.mono (by omega)⟩
  obtain ⟨j,hj,rfl⟩:=List.mem_iff_getElem.mp hy
  rw [List.length_dropLast] at hj
  rw [List.getElem_dropLast]
  exact h4 j _ (List.getElem?_eq_getElem (by omega)) (by omega)
end
end W44
namespace W44
open PySem L2 Tg
theorem my {i:Nat} {f:ME} {ts0:List D} {en:En} {Q:D × En→Prop} (h0:en[i]?=some (some (.list ts0))) (h:W (f en) (fun r=>∃ us ts,r.1=.list us∧r.2[i]?=some (some (.list ts))∧ts.length+us.length≤sizeLine∧Q (.none,r.2.set i (some (.list (ts++us)))))):W (gO i f en) Q:=by
 obtain ⟨⟨t,en1⟩,e,us,ts,g1,g2,g3,g4⟩:=h.ex
 have g1':t=.list us:=g1
 subst g1'
 refine W.of ?_ g4
 unfold gO
 rw [h0]
 show (f en).bind _=_
 rw [e]
 show (match PyData.list us,(en1[i]?).join with
  | .list us,some (.list ts)=>if ts.length+us.length≤sizeLine then some (PyData.none,en1.set i (some (.list (ts++us)))) else none
  | _,_=>none)=_
 rw [show en1[i]?=some (some (.list ts)) from g2]
 exact if_pos g3
theorem szB {n:Nat} (h:n≤100000):n≤sizeLine:=by
 have:sizeLine=16777216:=by decide
 omega
theorem rL {n:Nat} (h:n < 100000):n < sizeLine:=by
 have:sizeLine=16777216:=by decide
 omega
def nx (ts ys:List Str):List Str:=ts.flatMap fun t=>ys.map fun y=>t++y
def mk (ps:List (List Str)):List Str:=ps.foldl nx [""]
def mkR:List (List Str)→List Str
 | []=>[""]
 | p :: ps=>p.flatMap fun w=>(mkR ps).map fun x=>w++x
theorem fM {a b:Str} (h:li a=li b):a=b:=by
 obtain ⟨⟨a⟩⟩:=a
 obtain ⟨⟨b⟩⟩:=b
 have e:a=b:=h
 rw [e]
theorem rA (a:Str):a++""=a:=fM (by rw [bI]; exact List.append_nil _)
theorem BV (a:Str) : ""++a=a:=fM (by rw [bI]; rfl)
theorem CT (a b c:Str):a++b++c=a++(b++c):=fM (by rw [bI,bI,bI,bI,List.append_assoc])
theorem rh:∀ (ps:List (List Str)) (ts:List Str),ps.foldl nx ts=ts.flatMap fun t=>(mkR ps).map fun x=>t++x
 | [],ts=>by
  show ts=ts.flatMap fun t:Str=>[t++("" : Str)]
  induction ts with
  | nil=>rfl
  | cons t ts ih=>rw [List.flatMap_cons,← ih,rA]; rfl
 | p :: ps,ts=>by
  rw [List.foldl_cons,rh ps]
  show (ts.flatMap fun t=>p.map fun y=>t++y).flatMap (fun t=>(mkR ps).map fun x=>t++x)=ts.flatMap fun t=>(p.flatMap fun w=>(mkR ps).map fun x=>w++x).map fun x=>t++x
  rw [List.flatMap_assoc]
  refine congrArg (fun f=>ts.flatMap f) (funext fun t=>?_)
  rw [List.map_flatMap,List.flatMap_map]
  refine congrArg (fun f=>p.flatMap f) (funext fun y=>?_)
  rw [List.map_map]
  refine List.map_congr_left fun x _=>?_
  exact CT t y x
theorem lO (ps:List (List Str)):mk ps=mkR ps:=by
 unfold mk
 rw [rh]
 show (mkR ps).map (fun x:Str=>("" : Str)++x)++[]=_
 rw [List.append_nil]
 rw [show (fun x:Str=>("" : Str)++x)=id from funext BV,List.map_id]
theorem kI {p:List Str} (h:fr p=true):p.Pairwise fun a b=>¬ (li a <+: li b)∧¬ (li b <+: li a):=of_decide_eq_true h
theorem rz {a b x y:Str} (h:a++x=b++y):li a <+: li b∨li b <+: li a:=by
 have e:li a++li x=li b++li y:=by rw [← bI,← bI,h]
 rcases List.append_eq_append_iff.mp e with ⟨c,h1,_⟩ | ⟨c,h1,_⟩
 ·exact .inl ⟨c,h1.symm⟩
 ·exact .inr ⟨c,h1.symm⟩
theorem rB {a x y:Str} (h:a++x=a++y):x=y:=fM (List.append_cancel_left (by rw [← bI,← bI,h]))
theorem pj:∀ p:List Str,(p.flatMap fun w:Str=>[w++("" : Str)])=p
 | []=>rfl
 | t :: ts=>by rw [List.flatMap_cons,pj ts,rA]; rfl
theorem jV:∀ {ps:List (List Str)},(∀ p∈ps,p.Nodup)→(∀ p∈ps.dropLast,fr p=true)→(mkR ps).Nodup
 | [],_,_=>by simp [mkR]
 | [p],h,_=>by
  show (p.flatMap fun w:Str=>[w++("" : Str)]).Nodup
  rw [pj]
  exact h p List.mem_cons_self
 | p :: q :: ps,h,hf=>by
  have ih:=jV (ps:=q :: ps) (fun r hr=>h r (List.mem_cons_of_mem _ hr)) fun r hr=>hf r (by rw [List.dropLast_cons_of_ne_nil (by simp)]; exact List.mem_cons_of_mem _ hr)
  have hp:=kI (hf p (by rw [List.dropLast_cons_of_ne_nil (by simp)]; exact List.mem_cons_self))
  unfold mkR
  show List.Pairwise _ _
  rw [List.pairwise_flatMap]
  refine ⟨fun w _=>?_,hp.imp fun {a b} hab x hx y hy e=>?_⟩
  ·rw [List.pairwise_map]
   exact List.Pairwise.imp (fun hxy e=>hxy (rB e)) ih
  ·obtain ⟨x',_,rfl⟩:=List.mem_map.mp hx
   obtain ⟨y',_,rfl⟩:=List.mem_map.mp hy
   rcases rz e with z | z
   ·exact hab.1 z
   ·exact hab.2 z
def cnt (ps:List (List Str)):Nat:=ps.foldl (fun n p=>n * p.length) 1
theorem jU:∀ (ts ys:List Str),(nx ts ys).length=ts.length * ys.length
 | [],ys=>by simp [nx]
 | t :: ts,ys=>by
  have:=jU ts ys
  show ((ys.map fun y=>t++y)++nx ts ys).length=_
  rw [List.length_append,List.length_map,this,List.length_cons,Nat.succ_mul]
  omega
theorem pd:∀ (ps:List (List Str)) (ts:List Str) (n:Nat),ts.length=n→(ps.foldl nx ts).length=ps.foldl (fun n p=>n * p.length) n
 | [],_,_,h=>h
 | p :: ps,ts,n,h=>by
  rw [List.foldl_cons,List.foldl_cons]
  exact pd ps _ _ (by rw [jU,h])
theorem df (ps:List (List Str)):(mk ps).length=cnt ps:=pd ps [""] 1 rfl
def dd (l:List Str):List Str:=l.foldl (fun acc x=>if x∈acc then acc else acc++[x]) []
theorem Bv:∀ (l acc:List Str),(acc++l).Nodup→l.foldl (fun acc x=>if x∈acc then acc else acc++[x]) acc=acc++l
 | [],acc,_=>by simp
 | x :: l,acc,h=>by
  have hx:x ∉ acc:=fun z=>by
   rw [List.nodup_append] at h
   exact h.2.2 x z x List.mem_cons_self rfl
  rw [List.foldl_cons,if_neg hx,Bv l (acc++[x]) (by simpa using h)]
  simp
theorem kP {l:List Str} (h:l.Nodup):dd l=l:=Bv l [] h
theorem mj:∀ (l acc:List Str),(l.foldl (fun acc x=>if x∈acc then acc else acc++[x]) acc).length≤acc.length+l.length
 | [],acc=>Nat.le_refl _
 | x :: l,acc=>by
  rw [List.foldl_cons]
  have:=mj l (if x∈acc then acc else acc++[x])
  rw [List.length_cons]
  by_cases hx:x∈acc
  ·rw [if_pos hx] at this ⊢
   omega
  ·rw [if_neg hx] at this ⊢
   rw [List.length_append] at this
   have e:[x].length=1:=rfl
   omega
def dS (l:List Str):List (D × D):=l.map fun x=>(.str x,.bool true)
theorem Hu (a b:Str):kEq (.str a) (.str b)=decide (a=b):=by
 show (a == b)=_
 by_cases h:a=b
 ·rw [h]; simp
 ·rw [decide_eq_false h]; simp [h]
theorem A9:∀ l:List Str,noT (dS l)=true
 | []=>rfl
 | _ :: _=>rfl
theorem By (l:List Str) (x:Str):((dS l).any fun kv=>kEq kv.1 (.str x))=decide (x∈l):=by
 unfold dS
 induction l with
 | nil=>simp
 | cons y l ih =>
  rw [List.map_cons,List.any_cons,ih]
  show (kEq (.str y) (.str x) || _)=_
  rw [Hu]
  by_cases h:y=x
  ·simp [h]
  ·have h':¬ x=y:=fun e=>h e.symm
   simp [h,h']
theorem FJ (l:List Str) (x:Str):(cC (dS l) (.str x)).isSome=decide (x∈l):=by
 rw [← By l x]
 unfold cC
 rw [Option.isSome_map,Bool.eq_iff_iff,List.find?_isSome,List.any_eq_true]
theorem Hi (l:List Str) (x:Str):ji (dS l) (.str x) (.bool true)=dS (if x∈l then l else l++[x]):=by
 unfold ji
 rw [By]
 by_cases h:x∈l
 ·rw [decide_eq_true h,if_pos rfl,if_pos h]
  unfold dS
  rw [List.map_map]
  refine List.map_congr_left fun y _=>?_
  show (if kEq (.str y) (.str x)=true then _ else _)=_
  split <;> rfl
 ·rw [decide_eq_false h,if_neg Bool.false_ne_true,if_neg h]
  unfold dS
  rw [List.map_append]
  rfl
theorem qU (l:List Str) (x:Str):j7 (.str x) (.dict (dS l))=some (.bool (!decide (x∈l))):=by
 show (if noT (dS l)=true then (kOf (.str x)).map (fun _=>PyData.bool (!(cC (dS l) (.str x)).isSome)) else none)=_
 rw [if_pos (A9 l),FJ]
 rfl
theorem FK (l:List Str):oO [.dict (dS l)]=some (.list (l.map .str)):=by
 show grd (noT (dS l)=true) _=_
 unfold grd
 rw [if_pos (A9 l)]
 unfold dS
 rw [List.map_map]
 rfl
theorem qI {i:Nat} {fk:ME} {en:En} {l:List Str} {x:Str} {Q:Fl→Prop} (hi:(en[i]?).join=some (.dict (dS l))) (hk:fk en=some (.str x,en)) (hl:l.length < 100000) (h:Q (.nx (en.set i (some (.dict (dS (if x∈l then l else l++[x]))))))):W (hV i fk (eC (.bool true)) en) Q:=by
 refine W.of ?_ h
 unfold hV
 show (match (en[i]?).join with
  | some _=>(fk en).bind fun q=>match (q.2[i]?).join with
   | some (.dict ks)=>(kOf q.1).bind fun _=>if ks.length < sizeLine then some (Fl.nx (q.2.set i (some (.dict (ji ks q.1 (.bool true)))))) else none
   | _=>none
  | none=>none)=_
 rw [hi,hk]
 show (match (en[i]?).join with
   | some (.dict ks)=>(kOf (.str x)).bind fun _=>if ks.length < sizeLine then some (Fl.nx (en.set i (some (.dict (ji ks (.str x) (.bool true)))))) else none
   | _=>none)=_
 rw [hi]
 show (if (dS l).length < sizeLine then _ else _)=_
 rw [if_pos (by unfold dS; rw [List.length_map]; exact rL hl),Hi]
theorem pM {C:ME} (hC:C=e2 bu (af 1) (af 0)) {t:Str} {ys:List Str} (ht:t.length≤1000) (hy:∀ y∈ys,y.length≤1000) (hl:ys.length≤1000) {Q:List D × En→Prop} (h:∀ o,Q ((ys.map fun y=>t++y).map PyData.str,o :: [some (.str t)])) :
  W (lcF (gN 0) cY C (ys.map PyData.str) [] [none,some (.str t)]) Q:=by
 subst hC
 refine pT (fun u=>.str (t++txt u)) (by rw [List.length_map]; exact sz hl) (fun u hu=>?_) fun o=>?_
 ·obtain ⟨y,hy',rfl⟩:=List.mem_map.mp hu
  simp only [ws,txt]
  exact szB (by have:=hy y hy'; omega)
 ·have e:(ys.map PyData.str).map (fun u=>PyData.str (t++txt u))=(ys.map fun y=>t++y).map PyData.str:=by
   rw [List.map_map,List.map_map]
   rfl
  rw [e]
  exact h o
end W44
namespace W44
open PySem L2 Tg
structure SB (ps:List (List Str)):Prop where
 l5:ps.length≤5
 l20:∀ p∈ps,p.length≤20
 w:∀ p∈ps,∀ y∈p,y.length≤6
 c:∀ i,cnt (ps.take i)≤50000
theorem jj (ps:List (List Str)) (p:List Str):cnt (ps++[p])=cnt ps * p.length:=by
 unfold cnt
 rw [List.foldl_append]
 rfl
theorem kF (ps:List (List Str)) (p:List Str):mk (ps++[p])=nx (mk ps) p:=by
 unfold mk
 rw [List.foldl_append]
 rfl
theorem FB {ts ys:List Str} {x:Str} (h:x∈nx ts ys):∃ t∈ts,∃ y∈ys,x=t++y:=by
 obtain ⟨t,ht,h⟩:=List.mem_flatMap.mp h
 obtain ⟨y,hy,rfl⟩:=List.mem_map.mp h
 exact ⟨t,ht,y,hy,rfl⟩
theorem oI {ps:List (List Str)} (h:∀ p∈ps,∀ y∈p,y.length≤6):∀ (i:Nat) (x:Str),x∈mk (ps.take i)→x.length≤6 * i
 | 0,x,hx=>by
  have:x=("" : Str):=List.mem_singleton.mp hx
  rw [this]
  exact Nat.zero_le _
 | i+1,x,hx=>by
  rcases Nat.lt_or_ge i ps.length with hi | hi
  ·rw [bd (List.getElem?_eq_getElem hi),kF] at hx
   obtain ⟨t,ht,y,hy,rfl⟩:=FB hx
   have h1:=oI h i t ht
   have h2:=h _ (List.getElem_mem hi) y hy
   rw [iL]
   omega
  ·rw [List.take_of_length_le (by omega)] at hx
   have:=oI h i x (by rw [List.take_of_length_le hi]; exact hx)
   omega
theorem bP {α:Type} (l:List α):l.take l.length=l:=List.take_length
theorem lY {ps:List (List Str)} (B:SB ps):W (aQ [sD ps]) (fun r=>r=(.int (cnt ps:Nat),[none])):=by
 simp only [ws,aQ,fA,sD]
 refine bH (fun i en=>∃ o2,en=[some (sD ps),some (.int (cnt (ps.take i):Nat)),o2]) ⟨none,rfl⟩ (fun i t en ht ⟨o2,e⟩=>?_) fun en ⟨o2,e⟩=>?_
 ·subst e
  rw [List.getElem?_map] at ht
  obtain ⟨p,hp,rfl⟩:=Option.map_eq_some_iff.mp ht
  have c1:=B.c i
  simp only [ws,gU,pD,List.length_map]
  refine ⟨.inl ⟨by omega,by omega⟩,?_⟩
  rw [bd hp,jj]
  exact ⟨_,by rw [Int.natCast_mul]⟩
 ·subst e
  rw [List.length_map,bP]
  simp only [ws]
theorem uO {ts ys:List Str} (ht:∀ t∈ts,t.length≤1000) (hy:∀ y∈ys,y.length≤1000) (hl:ys.length≤1000) (hc:ts.length * ys.length≤100000):W (cT [.list (ts.map .str),pD ys]) (fun r=>r=(.list ((nx ts ys).map .str),[none,none])):=by
 simp only [ws,cT,iB,pD]
 refine bH (fun i en=>∃ o3,en=[some (.list (ts.map .str)),some (pD ys),some (.list ((nx (ts.take i) ys).map .str)),o3]) ⟨none,rfl⟩ (fun i t en hti ⟨o3,e⟩=>?_) fun en ⟨o3,e⟩=>?_
 ·subst e
  rw [List.getElem?_map] at hti
  obtain ⟨x,hx,rfl⟩:=Option.map_eq_some_iff.mp hti
  have hi:=(List.getElem?_eq_some_iff.mp hx).1
  simp only [ws,jG,pD]
  refine my (ts0:=(nx (ts.take i) ys).map .str) rfl ?_
  simp only [ws]
  refine pM rfl (ht x (List.mem_of_getElem? hx)) hy hl fun o=>?_
  simp only [ws]
  have e1:nx (ts.take (i+1)) ys=nx (ts.take i) ys++ys.map fun y=>x++y:=by
   rw [bd hx]
   unfold nx
   rw [List.flatMap_append]
   simp
  have l1:=jU (ts.take i) ys
  rw [List.length_take,Nat.min_eq_left (by omega)] at l1
  have l2:i * ys.length+ys.length≤ts.length * ys.length:=by
   rw [← Nat.succ_mul]
   exact Nat.mul_le_mul_right _ hi
  refine ⟨_,(nx (ts.take i) ys).map .str,rfl,rfl,?_,?_⟩
  ·rw [List.length_map,List.length_map,List.length_map,l1]
   exact szB (by omega)
  ·exact ⟨_,by rw [e1,List.map_append]⟩
 ·subst e
  rw [List.length_map,bP]
  simp only [ws]
theorem kU {ps:List (List Str)} (B:SB ps):W (bi [sD ps]) (fun r=>r=(.list ((mk ps).map .str),[none])):=by
 simp only [ws,bi,gb,sD]
 refine bH (fun i en=>∃ o2,en=[some (sD ps),some (.list ((mk (ps.take i)).map .str)),o2]) ⟨none,rfl⟩ (fun i t en ht ⟨o2,e⟩=>?_) fun en ⟨o2,e⟩=>?_
 ·subst e
  rw [List.getElem?_map] at ht
  obtain ⟨p,hp,rfl⟩:=Option.map_eq_some_iff.mp ht
  have hm:=List.mem_of_getElem? hp
  have hi:=(List.getElem?_eq_some_iff.mp hp).1
  have l5:=B.l5
  have c1:=B.c (i+1)
  rw [bd hp,jj] at c1
  simp only [ws,ie]
  refine W.use (uO (fun t ht=>?_) (fun y hy=>?_) (by have:=B.l20 p hm; omega) (by rw [df]; omega)) ?_
  ·have:=oI B.w i t ht
   omega
  ·have:=B.w p hm y hy
   omega
  ·rintro _ rfl
   simp only [ws]
   exact ⟨_,by rw [bd hp,kF]⟩
 ·subst e
  rw [List.length_map,bP]
  simp only [ws]
theorem nc {n:Nat} (h:n≤2000):W (ba [.int (n:Nat)]) (fun r=>r=(.none,[none])):=by
 have e:¬ (2000:Int) < (n:Nat):=by omega
 simp only [ws,ba,fZ,e]
theorem gn {ps:List (List Str)} (B:SB ps) (h:cnt ps≤2000):W (cZ [sD ps]) (fun r=>r=(.list ((mk ps).map .str),[none])):=by
 simp only [ws,cZ,sV]
 refine W.use (lY B) ?_
 rintro _ rfl
 simp only [ws]
 refine W.use (nc h) ?_
 rintro _ rfl
 simp only [ws]
 refine W.use (kU B) ?_
 rintro _ rfl
 simp only [ws]
theorem qS {f g:MS} {en:En} (h1:f en=none):ao f g en=none:=by unfold ao; rw [h1]; rfl
theorem lM {f:ME} {en:En} (h1:f en=none):bA f en=none:=by unfold bA; rw [h1]; rfl
theorem Hn {c:MT} {en en1:En} {b:Bool} (h1:c en=some (b,en1)) (hb:b=true):sIf c iH bc en=none:=by unfold sIf; rw [h1,hb]; rfl
theorem rW {n:Nat} {dps:List Nat} {b:MS} {ts:List D} (h:b (ts.map some++List.replicate n none)=none):fnF n dps b ts=none:=by unfold fnF; rw [h]; rfl
theorem kB {F:List D→Option (D × En)} {fa:MA} {en en1:En} {as:List (D ⊕ Nat)} {ts:List D} (h1:fa en=some (as,en1)) (h2:bZ as en1=some ts) (h3:F ts=none):ar F fa en=none:=by
 unfold ar
 rw [h1]
 show (bZ as en1).bind _=_
 rw [h2]
 show (F ts).map _=_
 rw [h3]
 rfl
theorem rY {c:MT} {m1 m2:MN} {en en1:En} {b:Bool} (h1:c en=some (b,en1)):nIf c m1 m2 en=if b then m1 en1 else m2 en1:=by unfold nIf; rw [h1]; rfl
theorem kC {Rz:List D→Option Str} {fa:MA} {en en1:En} {as:List (D ⊕ Nat)} {ts:List D} (h1:fa en=some (as,en1)) (h2:bZ as en1=some ts):fC Rz fa en=Rz ts:=by
 unfold fC
 rw [h1]
 show (bZ as en1).bind _=_
 rw [h2]
 rfl
theorem nh {n:Nat} (h:2000 < n):ba [.int (n:Nat)]=none∧bL [.int (n:Nat)]=some ("TooMuch" : Str):=by
 have e:decide ((2000:Int) < (n:Nat))=true:=decide_eq_true (by omega)
 constructor
 ·exact rW (Hn (en1:=[some (.int (n:Nat))]) (b:=decide ((2000:Int) < (n:Nat))) rfl e)
 ·show dG [some (PyData.int (n:Nat))]=_
  unfold dG
  rw [rY (en1:=[some (.int (n:Nat))]) (b:=decide ((2000:Int) < (n:Nat))) rfl,e]
  rfl
theorem B1 {ps:List (List Str)} (B:SB ps) (h:2000 < cnt ps):cZ [sD ps]=none∧kf [sD ps]=some ("TooMuch" : Str):=by
 obtain ⟨_,eh,rfl⟩:=(lY B).ex
 obtain ⟨r1,r2⟩:=nh h
 have ea:(ae (ar aQ (ae (af 0) aj)) aj) [some (sD ps)]=some ([.inl (.int (cnt ps:Nat))],[some (sD ps)]):=kL (kK rfl rfl eh rfl) rfl
 constructor
 ·exact rW (qS (lM (kB ea rfl r1)))
 ·show mJ [some (sD ps)]=_
  unfold mJ
  rw [kC ea rfl,r2]
def plD (pl:List (List (List Str))):D:=.tuple (pl.map sD)
def tot (pl:List (List (List Str))):Nat:=(pl.map cnt).sum
structure PB (pl:List (List (List Str))):Prop where
 l4:pl.length≤4
 b:∀ ps∈pl,SB ps
theorem qD:∀ l:List Nat,(l.map fun n:Nat=>(n:Int)).sum=((l.sum:Nat):Int)
 | []=>rfl
 | a :: l=>by rw [List.map_cons,List.sum_cons,List.sum_cons,qD l,Int.natCast_add]
theorem qC {pl:List (List (List Str))} (B:PB pl):(eN fQ (ae (eLC true (br (af 0)) (gN 0) cY ef [none]) aj)) [some (plD pl),none,none]=some (.int (tot pl:Nat),[some (plD pl),none,none]):=by
 have w:W ((eN fQ (ae (eLC true (br (af 0)) (gN 0) cY ef [none]) aj)) [some (plD pl),none,none]) (fun r=>r=(.int (tot pl:Nat),[some (plD pl),none,none])):=by
  simp only [ws,plD]
  have l4:=B.l4
  let F:D→D:=fun t=>((aQ [t]).map fun r=>r.1).getD .none
  refine pT F (by rw [List.length_map]; exact sz (by omega)) (fun t ht=>?_) fun o=>?_
  ·obtain ⟨ps,hps,rfl⟩:=List.mem_map.mp ht
   obtain ⟨_,eh,rfl⟩:=(lY (B.b ps hps)).ex
   simp only [ws,ef]
   refine W.of eh ?_
   simp only [ws,F,eh]
   rfl
  ·have em:(pl.map sD).map F=((pl.map cnt).map fun n:Nat=>(n:Int)).map PyData.int:=by
    rw [List.map_map,List.map_map,List.map_map]
    refine List.map_congr_left fun ps hps=>?_
    obtain ⟨_,eh,rfl⟩:=(lY (B.b ps hps)).ex
    show ((aQ [sD ps]).map fun r=>r.1).getD .none=_
    rw [eh]
    rfl
   rw [em]
   simp only [ws,on,qD]
   rfl
 obtain ⟨_,e,rfl⟩:=w.ex
 exact e
theorem uZ {pl:List (List (List Str))} (B:PB pl) (h:2000 < tot pl):cg [plD pl]=none∧iT [plD pl]=some ("TooMuch" : Str):=by
 obtain ⟨r1,r2⟩:=nh h
 have ea:(ae (eN fQ (ae (eLC true (br (af 0)) (gN 0) cY ef [none]) aj)) aj) [some (plD pl),none,none]=some ([.inl (.int (tot pl:Nat))],[some (plD pl),none,none]):=kL (qC B) rfl
 constructor
 ·exact rW (qS (lM (kB ea rfl r1)))
 ·show kR [some (plD pl),none,none]=_
  unfold kR
  rw [kC ea rfl,r2]
theorem tS {l:List Str} (hl:l.length≤50000):W (fw [.list (l.map .str)]) (fun r=>r=(.dict (dS (dd l)),[none])):=by
 simp only [ws,fw,m9]
 refine W.of (show kO _=some (.dict [],[some (.list (l.map .str)),none,none]) from rfl) ?_
 simp only [ws]
 refine bH (fun i en=>∃ o2,en=[some (.list (l.map .str)),some (.dict (dS (dd (l.take i)))),o2]) ⟨none,rfl⟩ (fun i t en ht ⟨o2,e⟩=>?_) fun en ⟨o2,e⟩=>?_
 ·subst e
  rw [List.getElem?_map] at ht
  obtain ⟨x,hx,rfl⟩:=Option.map_eq_some_iff.mp ht
  have hi:=(List.getElem?_eq_some_iff.mp hx).1
  have le:=mj (l.take i) []
  rw [List.length_take] at le
  simp only [ws,nK]
  refine qI (l:=dd (l.take i)) (x:=x) rfl rfl (by show (dd (l.take i)).length < _; unfold dd; have z:([]:List Str).length=0:=rfl; omega) ?_
  simp only [ws]
  refine ⟨some (.str x),?_⟩
  rw [bd hx]
  unfold dd
  rw [List.foldl_append]
  rfl
 ·subst e
  rw [List.length_map,bP]
  simp only [ws]
theorem we {f g:MS} {en en1:En} {Q:Fl→Prop} (h:f en=some (.nx en1)) (h2:W (g en1) Q):W (ao f g en) Q:=by
 obtain ⟨fl,e,q⟩:=h2.ex
 refine W.of ?_ q
 unfold ao
 rw [h]
 exact e
theorem Iz {n:Nat} {dps:List Nat} {b:MS} {ts:List D} {Q:D × En→Prop} (h:W (b (ts.map some++List.replicate n none)) (kFn dps Q)):W (fnF n dps b ts) Q:=by
 simp only [ws]
 exact h
theorem dW {pl:List (List (List Str))} (B:PB pl) (h:tot pl≤2000):W (cg [plD pl]) (fun r=>r=(.list ((dd (pl.flatMap mk)).map .str),[none])):=by
 have lf:∀ qs:List (List (List Str)),(qs.flatMap mk).length=tot qs:=fun qs=>by
  induction qs with
  | nil=>rfl
  | cons q qs ih =>
   rw [List.flatMap_cons,List.length_append,ih,df]
   rfl
 obtain ⟨_,er,rfl⟩:=(nc h).ex
 have ea:(ae (eN fQ (ae (eLC true (br (af 0)) (gN 0) cY ef [none]) aj)) aj) [some (plD pl),none,none]=some ([.inl (.int (tot pl:Nat))],[some (plD pl),none,none]):=kL (qC B) rfl
 refine Iz (b:=pZ) (we (en1:=[some (plD pl),none,none]) (pC (kK ea rfl er rfl)) ?_)
 simp only [ws,plD]
 refine bH (fun i en=>∃ o2,en=[some (plD pl),some (.list (((pl.take i).flatMap mk).map .str)),o2]) ⟨none,rfl⟩ (fun i t en ht ⟨o2,e⟩=>?_) fun en ⟨o2,e⟩=>?_
 ·subst e
  rw [List.getElem?_map] at ht
  obtain ⟨ps,hps,rfl⟩:=Option.map_eq_some_iff.mp ht
  have hm:=List.mem_of_getElem? hps
  have e1:((pl.take (i+1)).flatMap mk)=(pl.take i).flatMap mk++mk ps:=by
   rw [bd hps,List.flatMap_append]
   simp
  have l1:((pl.take (i+1)).flatMap mk).length≤2000:=by
   rw [lf]
   refine Nat.le_trans ?_ h
   have:tot pl=tot (pl.take (i+1))+tot (pl.drop (i+1)):=by
    unfold tot
    rw [← List.sum_append,← List.map_append,List.take_append_drop]
   omega
  rw [e1,List.length_append] at l1
  simp only [ws,pV]
  refine my (ts0:=((pl.take i).flatMap mk).map .str) rfl ?_
  simp only [ws]
  refine W.use (kU (B.b ps hm)) ?_
  rintro _ rfl
  simp only [ws]
  exact ⟨_,_,rfl,rfl,by rw [List.length_map,List.length_map]; exact szB (by omega),_,by rw [e1,List.map_append]⟩
 ·subst e
  rw [List.length_map,bP]
  simp only [ws]
  refine W.use (tS (by rw [lf]; omega)) ?_
  rintro _ rfl
  simp only [ws,FK]
end W44
namespace W44
open PySem L2 Tg
def ddF (acc l:List Str):List Str:=l.foldl (fun acc x=>if x∈acc then acc else acc++[x]) acc
theorem tU {ts ys:List Str} {x0 x1 x2 x3 x4 x7:Option D} (ht:∀ t∈ts,t.length≤1000) (hy:∀ y∈ys,y.length≤1000) (hl:ys.length≤1000) (hc:ts.length * ys.length≤100000) {Q:Fl→Prop} (hq:∀ o7,Q (.nx [x0,x1,x2,x3,x4,some (pD ys),some (.list ((nx ts ys).map .str)),o7])) :
  W (cx (gN 7) iy (ts.map .str) [x0,x1,x2,x3,x4,some (pD ys),some (.list []),x7]) Q:=by
 refine bH (fun i en=>∃ o7,en=[x0,x1,x2,x3,x4,some (pD ys),some (.list ((nx (ts.take i) ys).map .str)),o7]) ⟨x7,rfl⟩ (fun i t en hti ⟨o3,e⟩=>?_) fun en ⟨o3,e⟩=>?_
 ·subst e
  rw [List.getElem?_map] at hti
  obtain ⟨x,hx,rfl⟩:=Option.map_eq_some_iff.mp hti
  have hi:=(List.getElem?_eq_some_iff.mp hx).1
  simp only [ws,iy,pD]
  refine my (ts0:=(nx (ts.take i) ys).map .str) rfl ?_
  simp only [ws]
  refine pM rfl (ht x (List.mem_of_getElem? hx)) hy hl fun o=>?_
  simp only [ws]
  have e1:nx (ts.take (i+1)) ys=nx (ts.take i) ys++ys.map fun y=>x++y:=by
   rw [bd hx]
   unfold nx
   rw [List.flatMap_append]
   simp
  have l1:=jU (ts.take i) ys
  rw [List.length_take,Nat.min_eq_left (by omega)] at l1
  have l2:i * ys.length+ys.length≤ts.length * ys.length:=by
   rw [← Nat.succ_mul]
   exact Nat.mul_le_mul_right _ hi
  refine ⟨_,(nx (ts.take i) ys).map .str,rfl,rfl,?_,?_⟩
  ·rw [List.length_map,List.length_map,List.length_map,l1]
   exact szB (by omega)
  ·exact ⟨_,by rw [e1,List.map_append]⟩
 ·subst e
  rw [List.length_map,bP]
  exact hq o3
theorem uU {ps:List (List Str)} (B:SB ps) {x0 x1 x2 x3 x5 x6 x7:Option D} {Q:Fl→Prop} (hq:∀ o5 o6 o7,Q (.nx [x0,x1,x2,x3,some (.list ((mk ps).map .str)),o5,o6,o7])) :
  W (cx (gN 5) ix (ps.map pD) [x0,x1,x2,x3,some (.list [.str ""]),x5,x6,x7]) Q:=by
 refine bH (fun i en=>∃ o5 o6 o7,en=[x0,x1,x2,x3,some (.list ((mk (ps.take i)).map .str)),o5,o6,o7]) ⟨x5,x6,x7,rfl⟩ (fun i t en ht ⟨o5,o6,o7,e⟩=>?_) fun en ⟨o5,o6,o7,e⟩=>?_
 ·subst e
  rw [List.getElem?_map] at ht
  obtain ⟨p,hp,rfl⟩:=Option.map_eq_some_iff.mp ht
  have hm:=List.mem_of_getElem? hp
  have hi:=(List.getElem?_eq_some_iff.mp hp).1
  have l5:=B.l5
  have c1:=B.c (i+1)
  rw [bd hp,jj] at c1
  simp only [ws,ix]
  refine tU (fun t ht=>?_) (fun y hy=>?_) (by have:=B.l20 p hm; omega) (by rw [df]; omega) fun o7=>?_
  ·have:=oI B.w i t ht
   omega
  ·have:=B.w p hm y hy
   omega
  ·simp only [ws]
   exact ⟨_,_,_,by rw [bd hp,kF]⟩
 ·subst e
  rw [List.length_map,bP]
  exact hq o5 o6 o7
theorem BR {acc l:List Str} (hl:acc.length+l.length≤50000) {x0 x3 x4 x5 x6 x7:Option D} {Q:Fl→Prop} (hq:∀ o7,Q (.nx [x0,some (.list ((ddF acc l).map .str)),some (.dict (dS (ddF acc l))),x3,x4,x5,x6,o7])) :
  W (cx (gN 7) fH (l.map .str) [x0,some (.list (acc.map .str)),some (.dict (dS acc)),x3,x4,x5,x6,x7]) Q:=by
 refine bH (fun i en=>∃ o7,en=[x0,some (.list ((ddF acc (l.take i)).map .str)),some (.dict (dS (ddF acc (l.take i)))),x3,x4,x5,x6,o7]) ⟨x7,rfl⟩ (fun i t en ht ⟨o7,e⟩=>?_) fun en ⟨o7,e⟩=>?_
 ·subst e
  rw [List.getElem?_map] at ht
  obtain ⟨x,hx,rfl⟩:=Option.map_eq_some_iff.mp ht
  have hi:=(List.getElem?_eq_some_iff.mp hx).1
  have le:=mj (l.take i) acc
  rw [List.length_take] at le
  have e1:ddF acc (l.take (i+1))=if x∈ddF acc (l.take i) then ddF acc (l.take i) else ddF acc (l.take i)++[x]:=by
   rw [bd hx]
   unfold ddF
   rw [List.foldl_append]
   rfl
  have hle:(ddF acc (l.take i)).length < 100000:=by unfold ddF; omega
  by_cases h:x∈ddF acc (l.take i)
  ·have e2:decide (x∈ddF acc (l.take i))=true:=decide_eq_true h
   simp only [ws,fH,qU,e2]
   refine ⟨some (.str x),?_⟩
   rw [e1,if_pos h]
  ·have e2:decide (x∈ddF acc (l.take i))=false:=decide_eq_false h
   simp only [ws,fH,qU,e2]
   refine qI (l:=ddF acc (l.take i)) (x:=x) rfl rfl hle ?_
   simp only [ws,List.length_map]
   refine ⟨rL hle,some (.str x),?_⟩
   rw [e1,if_neg h,List.map_append]
   rfl
 ·subst e
  rw [List.length_map,bP]
  exact hq o7
theorem pk (qs:List (List (List Str))):(qs.flatMap mk).length=tot qs:=by
 induction qs with
 | nil=>rfl
 | cons q qs ih =>
  rw [List.flatMap_cons,List.length_append,ih,df]
  rfl
theorem EO (pl:List (List (List Str))) (i:Nat):tot (pl.take i)≤tot pl:=by
 have:tot pl=tot (pl.take i)+tot (pl.drop i):=by
  unfold tot
  rw [← List.sum_append,← List.map_append,List.take_append_drop]
 omega
theorem gD {pl:List (List (List Str))} (B:PB pl) (h:tot pl≤20000):W (bx [plD pl]) (fun r=>r=(.list ((dd (pl.flatMap mk)).map .str),[none])):=by
 simp only [ws,bx,kt]
 refine W.of (show kO _=some (.dict [],[some (plD pl),some (.list []),none,none,none,none,none,none]) from rfl) ?_
 simp only [ws,plD]
 refine bH (fun i en=>∃ o3 o4 o5 o6 o7,en=[some (plD pl),some (.list ((dd ((pl.take i).flatMap mk)).map .str)),some (.dict (dS (dd ((pl.take i).flatMap mk)))),o3,o4,o5,o6,o7]) ⟨none,none,none,none,none,rfl⟩ (fun i t en ht ⟨o3,o4,o5,o6,o7,e⟩=>?_) fun en ⟨o3,o4,o5,o6,o7,e⟩=>?_
 ·subst e
  rw [List.getElem?_map] at ht
  obtain ⟨ps,hps,rfl⟩:=Option.map_eq_some_iff.mp ht
  have hm:=List.mem_of_getElem? hps
  have t1:=EO pl (i+1)
  have e1:((pl.take (i+1)).flatMap mk)=(pl.take i).flatMap mk++mk ps:=by
   rw [bd hps,List.flatMap_append]
   simp
  rw [← pk,e1,List.length_append] at t1
  have le:=mj ((pl.take i).flatMap mk) []
  simp only [ws,lb,sD]
  refine uU (B.b ps hm) fun p5 p6 p7=>?_
  simp only [ws]
  refine BR (by have z:([]:List Str).length=0:=rfl; unfold dd; omega) fun q7=>?_
  simp only [ws]
  have e2:ddF (dd ((pl.take i).flatMap mk)) (mk ps)=dd ((pl.take (i+1)).flatMap mk):=by
   rw [e1]
   unfold dd ddF
   rw [List.foldl_append]
  rw [e2]
  exact ⟨_,_,_,_,_,rfl⟩
 ·subst e
  rw [List.length_map,bP]
  simp only [ws]
theorem u0 (xs ys:List Str) (hl:xs.length≤50000):W (aZ [.list (xs.map .str),.list (ys.map .str)]) (fun r=>r=(.bool (decide (xs=ys)),[none,none])):=by
 have e1:neD (.list (xs.map .str)) (.list (ys.map .str))=some (.bool (!decide (xs=ys))):=by
  unfold neD grd
  rw [if_pos ⟨eo xs,eo ys,by show bD (xs.map .str)+1≤60; rw [eE]; decide⟩]
  have:peq (.list (xs.map .str)) (.list (ys.map .str))=decide (xs=ys):=by simp only [peq]; exact i7 xs ys
  rw [this]
 by_cases h:xs=ys
 ·have e2:decide (xs=ys)=true:=decide_eq_true h
  simp only [ws,aZ,fI,e1,e2]
  refine ka (fun _=>false) (fun t=>t) (by rw [List.length_map]; exact szB (by omega)) (fun t ht=>?_) (fun t ht z=>by cases z) fun o=>?_
  ·obtain ⟨x,_,rfl⟩:=List.mem_map.mp ht
   simp only [ws,jE]
  ·have e3:((xs.map PyData.str).filter fun _=>false).map (fun t=>t)=([]:List D):=by rw [List.map_id']; exact List.filter_eq_nil_iff.mpr fun _ _ z=>by cases z
   rw [e3]
   have e4:=rp [] []
   simp only [List.map_nil] at e4
   simp only [ws,e4]
 ·have e2:decide (xs=ys)=false:=decide_eq_false h
  simp only [ws,aZ,fI,e1,e2]
end W44
namespace W44
open PySem L2 Tg
def eX:D:=mW "TooMuch"
theorem Hw:bR kn0 [] eX=some (.bool false):=rfl
theorem uh:bR kn0 ["TooMuch"] eX=some (.bool true):=rfl
theorem vH {ts:List D} {b:D} {j:Nat} (h:av b=true∧aB ts=true∧bD ts≤60∧ts.length≤sizeLine) (hj:(ts.findIdx? fun t=>peq t b)=some j):e8 (.list ts) b=some (.int (j:Nat)):=by
 show (if av b=true∧aB ts=true∧bD ts≤60∧ts.length≤sizeLine then (ts.findIdx? fun t=>peq t b).map (fun j=>PyData.int (j:Nat)) else none)=_
 rw [if_pos h,hj]
 rfl
theorem BZ:W (cO [eX]) (fun r=>r=(.int 3,[none])):=by
 have c1:gu (.list [.bool false,.bool false,.bool false,.bool true,.bool false,.bool false,.bool false,.bool false,.bool false,.bool false,.bool false,.bool false,.bool false]) (.bool true)=some (.int 1):=rfl
 have c2:e8 (.list [.bool false,.bool false,.bool false,.bool true,.bool false,.bool false,.bool false,.bool false,.bool false,.bool false,.bool false,.bool false,.bool false]) (.bool true)=some (.int 3):=by
  exact vH ⟨rfl,rfl,by decide,szB (by show 13≤100000; decide)⟩ rfl
 simp only [ws,cO,jD,eF,c9,fK,fJ,eG,gw,iD,iE,jI,gB,gx,gA,gy,c7,Hw,uh]
 refine ⟨szB (by show 8≤100000; decide),szB (by show 12≤100000; decide),?_⟩
 simp only [ws,c1,c2,uh]
 all_goals exact rL (by show 12 < 100000; decide)
theorem nH {kn:List Str} {kp:List Nat} {j:Nat} {b hs:MS} {m:MN} {en e:En} {Q:Fl→Prop} (h:b en=some (.nx e)) (hq:Q (.nx e)):W (i5 kn kp j b m hs en) Q:=by
 refine W.of ?_ hq
 unfold i5
 rw [h]
theorem nI {kn:List Str} {kp:List Nat} {j:Nat} {b hs:MS} {m:MN} {en e:En} {x:Str} {Q:Fl→Prop} (h:b en=none) (hm:m (hidE kp en)=some x) (hx:x∈kn) (h2:hs (en.set j (some (mW x)))=some (.nx e)) (hq:Q (.nx (e.set j none))):W (i5 kn kp j b m hs en) Q:=by
 refine W.of ?_ hq
 unfold i5
 rw [h]
 show (m (hidE kp en)).bind _=_
 rw [hm]
 show (if x∈kn then _ else _)=_
 rw [if_pos hx]
 show (hs (en.set j (some (mW x)))).bind _=_
 rw [h2]
 rfl
def b9 (b:Bool):D:=if b then .int 3 else .none
theorem qW {pl:List (List (List Str))} {ps:List (List Str)} (B:PB pl) (C:SB ps):W (cN [plD pl,sD ps]) (fun r=>r=(.list [b9 (decide (2000 < tot pl)),b9 (decide (2000 < cnt ps))],[none,none])):=by
 have t2:Int.toNat 2=2:=rfl
 simp only [ws,cN,jB,t2]
 refine ⟨by decide,?_⟩
 let ans:Nat→D:=fun i=>if i=0 then b9 (decide (2000 < tot pl)) else b9 (decide (2000 < cnt ps))
 refine bH (fun i en=>∃ o3 o4,en=[some (plD pl),some (sD ps),some (.list ((List.range i).map ans)),o3,o4,none]) ⟨none,none,rfl⟩ (fun i t en ht ⟨o3,o4,e⟩=>?_) fun en ⟨o3,o4,e⟩=>?_
 ·subst e
  obtain ⟨hi,rfl⟩:=cS ht
  have fin:∀ b:Bool,ans i=b9 b→∀ o5:Option D,o5=none→W (sIf (tV (e2 gE (af 4) (eC .none))) (bA (dm 2 (ar cO (ae (af 4) aj)))) (bA (dm 2 (eC .none))) [some (plD pl),some (sD ps),some (.list ((List.range i).map ans)),some (.int (0+(i:Nat))),some (if b then eX else .none),o5]) (fun fl=>∃ o3 o4,fl=.nx [some (plD pl),some (sD ps),some (.list ((List.range (i+1)).map ans)),o3,o4,none]):=fun b hb o5 h5=>by
   subst h5
   have hr:(List.range (i+1)).map ans=(List.range i).map ans++[b9 b]:=by rw [List.range_succ,List.map_append,← hb]; rfl
   have ll:(List.range i).length < sizeLine:=by rw [List.length_range]; exact szl (by omega)
   cases b with
   | true =>
    have nn:gE eX .none=some (.bool true):=rfl
    simp only [ws,if_true,nn]
    refine W.use BZ ?_
    rintro _ rfl
    simp only [ws]
    exact ⟨ll,_,_,by rw [hr]; rfl⟩
   | false =>
    simp only [ws,Bool.false_eq_true,if_false]
    exact ⟨ll,_,_,by rw [hr]; rfl⟩
  have i2:i=0∨i=1:=by omega
  simp only [ws,ko]
  have cond:∀ x2 x4:Option D,(tV (e2 eqD (af 3) (eC (.int 0)))) [some (plD pl),some (sD ps),x2,some (.int (0+(i:Nat))),x4,none]=some (decide (i=0),[some (plD pl),some (sD ps),x2,some (.int (0+(i:Nat))),x4,none]):=fun x2 x4=>by
   rcases i2 with rfl | rfl <;> rfl
  rcases i2 with rfl | rfl
  ·by_cases h:2000 < tot pl
   ·obtain ⟨r1,r2⟩:=uZ B h
    refine nI (x:="TooMuch") (e:=[some (plD pl),some (sD ps),some (.list ((List.range 0).map ans)),some (.int (0+(0:Nat))),some eX,some eX]) ?_ ?_ (by decide) rfl ?_
    ·unfold sIf
     rw [cond]
     exact lM (kB (ts:=[plD pl]) rfl rfl r1)
    ·have c2:=cond none (some .none)
     show nIf _ _ _ [some (plD pl),some (sD ps),none,some (PyData.int (0+(0:Nat))),some .none,none]=_
     rw [rY c2]
     exact (kC (ts:=[plD pl]) rfl rfl).trans r2
    ·refine W.use (fin true (by show b9 (decide (2000 < tot pl))=_; rw [decide_eq_true h]) none rfl) ?_
     rintro _ ⟨o3,o4,rfl⟩
     exact ⟨o3,o4,rfl⟩
   ·obtain ⟨_,e,rfl⟩:=(dW B (by omega)).ex
    refine nH (e:=[some (plD pl),some (sD ps),some (.list ((List.range 0).map ans)),some (.int (0+(0:Nat))),some .none,none]) ?_ ?_
    ·unfold sIf
     rw [cond]
     exact pC (kK (ts:=[plD pl]) rfl rfl e rfl)
    ·refine W.use (fin false (by show b9 (decide (2000 < tot pl))=_; rw [decide_eq_false h]) none rfl) ?_
     rintro _ ⟨o3,o4,rfl⟩
     exact ⟨o3,o4,rfl⟩
  ·by_cases h:2000 < cnt ps
   ·obtain ⟨r1,r2⟩:=B1 C h
    refine nI (x:="TooMuch") (e:=[some (plD pl),some (sD ps),some (.list ((List.range 1).map ans)),some (.int (0+(1:Nat))),some eX,some eX]) ?_ ?_ (by decide) rfl ?_
    ·unfold sIf
     rw [cond]
     exact lM (kB (ts:=[sD ps]) rfl rfl r1)
    ·have c2:=cond none (some .none)
     show nIf _ _ _ [some (plD pl),some (sD ps),none,some (PyData.int (0+(1:Nat))),some .none,none]=_
     rw [rY c2]
     exact (kC (ts:=[sD ps]) rfl rfl).trans r2
    ·refine W.use (fin true (by show b9 (decide (2000 < cnt ps))=_; rw [decide_eq_true h]) none rfl) ?_
     rintro _ ⟨o3,o4,rfl⟩
     exact ⟨o3,o4,rfl⟩
   ·obtain ⟨_,e,rfl⟩:=(gn C (by omega)).ex
    refine nH (e:=[some (plD pl),some (sD ps),some (.list ((List.range 1).map ans)),some (.int (0+(1:Nat))),some .none,none]) ?_ ?_
    ·unfold sIf
     rw [cond]
     exact pC (kK (ts:=[sD ps]) rfl rfl e rfl)
    ·refine W.use (fin false (by show b9 (decide (2000 < cnt ps))=_; rw [decide_eq_false h]) none rfl) ?_
     rintro _ ⟨o3,o4,rfl⟩
     exact ⟨o3,o4,rfl⟩
 ·subst e
  rw [eg]
  simp only [ws]
  rfl
end W44
namespace W44
open PySem L2 Tg
theorem pJ:∀ (ps:List (List Str)) (n:Nat),ps.foldl (fun n p=>n * p.length) n=n * cnt ps
 | [],n=>by simp [cnt]
 | p :: ps,n=>by
  rw [List.foldl_cons,pJ ps]
  show _=n * ps.foldl (fun n p=>n * p.length) (1 * p.length)
  rw [pJ ps,Nat.one_mul,Nat.mul_assoc]
theorem cz (p:List Str) (ps:List (List Str)):cnt (p :: ps)=p.length * cnt ps:=by
 show ps.foldl (fun n p=>n * p.length) (1 * p.length)=_
 rw [pJ,Nat.one_mul]
theorem kQ {m:Nat} (h1:1≤m):∀ {ps:List (List Str)} {k:Nat},(∀ p∈ps,p.length≤m)→ps.length≤k→cnt ps≤m ^ k
 | [],k,_,_=>Nat.pow_pos h1
 | p :: ps,0,_,h=>by cases h
 | p :: ps,k+1,h,hl=>by
  rw [cz,Nat.pow_succ,Nat.mul_comm]
  exact Nat.mul_le_mul (kQ h1 (fun q hq=>h q (List.mem_cons_of_mem _ hq)) (by simpa using hl)) (h p List.mem_cons_self)
structure GT (ps:List (List Str)):Prop where
 l1:1≤ps.length
 l5:ps.length≤5
 nd:∀ p∈ps,p.Nodup
 fre:∀ p∈ps.dropLast,fr p=true
 w:∀ p∈ps,∀ y∈p,y.length≤6
 l13:∀ p∈ps,p.length≤13
 c:∀ i,cnt (ps.take i)≤250
structure BS (ps:List (List Str)):Prop where
 l1:1≤ps.length
 l3:ps.length≤3
 nd:∀ p∈ps,p.Nodup
 fre:∀ p∈ps.dropLast,fr p=true
 w:∀ p∈ps,∀ y∈p,y.length≤6
 m5:∀ p∈ps,p.length≤5
theorem GT.sb {ps:List (List Str)} (g:GT ps):SB ps:=⟨g.l5,fun p hp=>by have:=g.l13 p hp; omega,g.w,fun i=>by have:=g.c i; omega⟩
theorem GT.cn {ps:List (List Str)} (g:GT ps):cnt ps≤250:=by
 have:=g.c ps.length
 rw [bP] at this
 exact this
theorem sA {ps:List (List Str)} (g:GT ps):(mk ps).Nodup:=by
 rw [lO]
 exact jV g.nd g.fre
theorem j8 {m k b:Nat} {ps:List (List Str)} (h1:1≤m) (h:∀ p∈ps,p.length≤m) (hl:ps.length≤k) (hb:m ^ k≤b) (i:Nat):cnt (ps.take i)≤b :=
 Nat.le_trans (kQ h1 (fun p hp=>h p (List.mem_of_mem_take hp)) (by rw [List.length_take]; omega)) hb
theorem BS.gt {ps:List (List Str)} (b:BS ps):GT ps:=⟨b.l1,by have:=b.l3; omega,b.nd,b.fre,b.w,fun p hp=>by have:=b.m5 p hp; omega,j8 (m:=5) (k:=3) (by decide) b.m5 b.l3 (by decide)⟩
variable {ks:List Str}
theorem GS.bs {ps:List (List Str)} (g:GS ks ps) (h3:ps.length≤3) (h5:∀ p∈ps,p.length≤5):BS ps:=⟨g.l1,h3,fun p hp=>(g.w p hp).nd,g.fre,fun p hp y hy=>by have:=((g.w p hp).w y hy).lm; rw [ll] at this; exact this,h5⟩
theorem GS.gt3 {ps:List (List Str)} (g:GS ks ps) (h3:∀ p∈ps,p.length≤3):GT ps:=⟨g.l1,g.l5,fun p hp=>(g.w p hp).nd,g.fre,fun p hp y hy=>by have:=((g.w p hp).w y hy).lm; rw [ll] at this; exact this,fun p hp=>by have:=h3 p hp; omega,j8 (m:=3) (k:=5) (by decide) h3 g.l5 (by decide)⟩
def mg (p q:List Str):List Str:=p.flatMap fun a=>(q.filter fun b=>decide ((a++b).length≤6)).map fun b=>a++b
theorem FH {p q:List Str} {x:Str} (h:x∈mg p q):∃ a∈p,∃ b∈q,x=a++b∧x.length≤6:=by
 obtain ⟨a,ha,h⟩:=List.mem_flatMap.mp h
 obtain ⟨b,hb,rfl⟩:=List.mem_map.mp h
 obtain ⟨hb,hl⟩:=List.mem_filter.mp hb
 exact ⟨a,ha,b,hb,rfl,of_decide_eq_true hl⟩
theorem oJ (q:List Str):∀ p:List Str,(mg p q).length≤p.length * q.length
 | []=>by simp [mg]
 | a :: p=>by
  have:=oJ q p
  have h2:=List.length_filter_le (fun b=>decide ((a++b).length≤6)) q
  show (((q.filter fun b=>decide ((a++b).length≤6)).map fun b=>a++b)++mg p q).length≤_
  rw [List.length_append,List.length_map,List.length_cons,Nat.succ_mul]
  omega
theorem Hr {p q:List Str} (hp:fr p=true) (hq:q.Nodup):(mg p q).Nodup:=by
 unfold mg
 show List.Pairwise _ _
 rw [List.pairwise_flatMap]
 refine ⟨fun w _=>?_,(kI hp).imp fun {a b} hab x hx y hy e=>?_⟩
 ·rw [List.pairwise_map]
  exact List.Pairwise.imp (fun hxy e=>hxy (rB e)) (List.Pairwise.sublist List.filter_sublist hq)
 ·obtain ⟨x',_,rfl⟩:=List.mem_map.mp hx
  obtain ⟨y',_,rfl⟩:=List.mem_map.mp hy
  rcases rz e with z | z
  ·exact hab.1 z
  ·exact hab.2 z
theorem qN {a b x y:Str} (h:li (a++x) <+: li (b++y)):li a <+: li b∨li b <+: li a:=by
 rw [bI,bI] at h
 obtain ⟨t,ht⟩:=h
 rw [List.append_assoc] at ht
 rcases List.append_eq_append_iff.mp ht with ⟨c,h1,_⟩ | ⟨c,h1,_⟩
 ·exact .inl ⟨c,h1.symm⟩
 ·exact .inr ⟨c,h1.symm⟩
theorem qM {a x y:Str} (h:li (a++x) <+: li (a++y)):li x <+: li y:=by
 rw [bI,bI] at h
 obtain ⟨t,ht⟩:=h
 rw [List.append_assoc] at ht
 exact ⟨t,List.append_cancel_left ht⟩
theorem Ht {p q:List Str} (hp:fr p=true) (hq:fr q=true):fr (mg p q)=true:=by
 refine decide_eq_true ?_
 unfold mg
 rw [List.pairwise_flatMap]
 refine ⟨fun w _=>?_,(kI hp).imp fun {a b} hab x hx y hy=>?_⟩
 ·rw [List.pairwise_map]
  exact List.Pairwise.imp (fun hxy=>⟨fun e=>hxy.1 (qM e),fun e=>hxy.2 (qM e)⟩) (List.Pairwise.sublist List.filter_sublist (kI hq))
 ·obtain ⟨x',_,rfl⟩:=List.mem_map.mp hx
  obtain ⟨y',_,rfl⟩:=List.mem_map.mp hy
  exact ⟨fun e=>(qN e).elim hab.1 hab.2,fun e=>(qN e).elim hab.2 hab.1⟩
theorem Hs {p q:List Str} {r:List (List Str)} (b:BS (p :: q :: r)) (h12:p.length * q.length≤12):GT (mg p q :: r):=by
 have hp:fr p=true:=b.fre p (by rw [List.dropLast_cons_of_ne_nil (by simp)]; exact List.mem_cons_self)
 have hml:=oJ q p
 have l3:=b.l3
 simp only [List.length_cons] at l3
 refine ⟨by simp,by simp; omega,fun x hx=>?_,fun x hx=>?_,fun x hx y hy=>?_,fun x hx=>?_,fun i=>?_⟩
 ·rcases List.mem_cons.mp hx with rfl | hx
  ·exact Hr hp (b.nd q (by simp))
  ·exact b.nd x (by simp [hx])
 ·cases r with
  | nil=>cases hx
  | cons z r =>
   rw [List.dropLast_cons_of_ne_nil (by simp)] at hx
   rcases List.mem_cons.mp hx with rfl | hx
   ·refine Ht hp (b.fre q ?_)
    rw [List.dropLast_cons_of_ne_nil (by simp),List.dropLast_cons_of_ne_nil (by simp)]
    simp
   ·refine b.fre x ?_
    rw [List.dropLast_cons_of_ne_nil (by simp),List.dropLast_cons_of_ne_nil (by simp)]
    exact List.mem_cons_of_mem _ (List.mem_cons_of_mem _ hx)
 ·rcases List.mem_cons.mp hx with rfl | hx
  ·obtain ⟨_,_,_,_,_,h⟩:=FH hy
   exact h
  ·exact b.w x (by simp [hx]) y hy
 ·rcases List.mem_cons.mp hx with rfl | hx
  ·omega
  ·have:=b.m5 x (by simp [hx])
   omega
 ·cases i with
  | zero=>show (1:Nat)≤250; decide
  | succ i =>
   rw [List.take_succ_cons,cz]
   have c1:cnt (r.take i)≤5 ^ 1:=kQ (by decide) (fun x hx=>b.m5 x (by simp [List.mem_of_mem_take hx])) (by rw [List.length_take]; omega)
   exact Nat.le_trans (Nat.mul_le_mul (Nat.le_trans hml h12) c1) (by decide)
theorem B3 {ps:List (List Str)} {p more:List Str} (b:BS (ps++[p])) (hm:more.length≤1) (hn:∀ x∈more,x ∉ p) (hw:∀ x∈more,x.length≤6):GT (ps++[p.reverse++more]):=by
 have l3:=b.l3
 rw [List.length_append] at l3
 have e1:[p].length=1:=rfl
 have hp5:=b.m5 p (by simp)
 refine ⟨by simp,by simp; omega,fun x hx=>?_,fun x hx=>?_,fun x hx y hy=>?_,fun x hx=>?_,j8 (m:=6) (k:=3) (by decide) (fun x hx=>?_) (by simp; omega) (by decide)⟩
 ·rcases List.mem_append.mp hx with hx | hx
  ·exact b.nd x (by simp [hx])
  ·rw [List.mem_singleton.mp hx,List.nodup_append]
   refine ⟨(List.reverse_perm p).nodup_iff.mpr (b.nd p (by simp)),?_,fun a ha c hc e=>?_⟩
   ·match more,hm with
    | [],_=>exact List.nodup_nil
    | [z],_=>simp
   ·subst e
    exact hn a hc (List.mem_reverse.mp ha)
 ·rw [List.dropLast_concat] at hx
  exact b.fre x (by rw [List.dropLast_concat]; exact hx)
 ·rcases List.mem_append.mp hx with hx | hx
  ·exact b.w x (by simp [hx]) y hy
  ·rw [List.mem_singleton.mp hx] at hy
   rcases List.mem_append.mp hy with hy | hy
   ·exact b.w p (by simp) y (List.mem_reverse.mp hy)
   ·exact hw y hy
 ·rcases List.mem_append.mp hx with hx | hx
  ·have:=b.m5 x (by simp [hx]); omega
  ·rw [List.mem_singleton.mp hx,List.length_append,List.length_reverse]; omega
 ·rcases List.mem_append.mp hx with hx | hx
  ·have:=b.m5 x (by simp [hx]); omega
  ·rw [List.mem_singleton.mp hx,List.length_append,List.length_reverse]; omega
theorem Gj {p:List Str} (h:fr p=true):fr p.reverse=true:=decide_eq_true (List.pairwise_reverse.mpr ((kI h).imp fun {a b} z=>⟨z.2,z.1⟩))
theorem CP (ps:List (List Str)):cnt (ps.map List.reverse)=cnt ps:=by
 induction ps with
 | nil=>rfl
 | cons p ps ih=>rw [List.map_cons,cz,cz,ih,List.length_reverse]
theorem E6 {ps:List (List Str)} (g:GT ps):GT (ps.map List.reverse):=by
 refine ⟨by rw [List.length_map]; exact g.l1,by rw [List.length_map]; exact g.l5,fun x hx=>?_,fun x hx=>?_,fun x hx y hy=>?_,fun x hx=>?_,fun i=>?_⟩
 ·obtain ⟨p,hp,rfl⟩:=List.mem_map.mp hx
  exact (List.reverse_perm p).nodup_iff.mpr (g.nd p hp)
 ·rw [← List.map_dropLast] at hx
  obtain ⟨p,hp,rfl⟩:=List.mem_map.mp hx
  exact Gj (g.fre p hp)
 ·obtain ⟨p,hp,rfl⟩:=List.mem_map.mp hx
  exact g.w p hp y (List.mem_reverse.mp hy)
 ·obtain ⟨p,hp,rfl⟩:=List.mem_map.mp hx
  rw [List.length_reverse]
  exact g.l13 p hp
 ·rw [← List.map_take,CP]
  exact g.c i
theorem vT {p0:List Str} {r:List (List Str)} {ys:List Str} (b:BS (p0 :: r)) (hl:ys.length≤1) (hf:fr ys=true) (nd:ys.Nodup) (hw:∀ y∈ys,y.length≤6):GT (ys :: r):=by
 have l3:=b.l3
 simp only [List.length_cons] at l3
 refine ⟨by simp,by simp; omega,fun x hx=>?_,fun x hx=>?_,fun x hx y hy=>?_,fun x hx=>?_,j8 (m:=5) (k:=3) (by decide) (fun x hx=>?_) (by simp; omega) (by decide)⟩
 ·rcases List.mem_cons.mp hx with rfl | hx
  ·exact nd
  ·exact b.nd x (by simp [hx])
 ·cases r with
  | nil=>cases hx
  | cons z r =>
   rw [List.dropLast_cons_of_ne_nil (by simp)] at hx
   rcases List.mem_cons.mp hx with rfl | hx
   ·exact hf
   ·refine b.fre x ?_
    rw [List.dropLast_cons_of_ne_nil (by simp)]
    exact List.mem_cons_of_mem _ hx
 ·rcases List.mem_cons.mp hx with rfl | hx
  ·exact hw y hy
  ·exact b.w x (by simp [hx]) y hy
 ·rcases List.mem_cons.mp hx with rfl | hx
  ·omega
  ·have:=b.m5 x (by simp [hx]); omega
 ·rcases List.mem_cons.mp hx with rfl | hx
  ·omega
  ·exact b.m5 x (by simp [hx])
end W44
namespace W44
open PySem L2 Tg
theorem qH (n d:Nat):HT.sIx n d (some (-1))=n - 1:=by
 have:=HT.clip_eq (-1) n d
 rw [if_pos (by decide)] at this
 omega
theorem ny {α:Type} (ts:List α) (k:Nat):bt ts (some (k:Int)) none=ts.drop k:=by
 unfold bt
 rw [HT.sIx_none,HT.sIx_nat]
 rcases Nat.le_total k ts.length with h | h
 ·rw [Nat.min_eq_left h,List.take_of_length_le (by rw [List.length_drop]; omega)]
 ·rw [Nat.min_eq_right h,List.drop_of_length_le (Nat.le_refl _),List.drop_of_length_le h]
  simp
theorem uL {α:Type} (ts:List α):bt ts none (some (-1))=ts.dropLast:=by
 unfold bt
 rw [HT.sIx_none,qH,List.drop_zero,List.dropLast_eq_take]
 rfl
theorem qT (k n:Nat) (h:1≤k) (hl:1≤n):¬ (HT.sIx n 0 (some (k:Int))=0∧HT.sIx n n none=n):=by
 rw [HT.sIx_nat]
 omega
theorem vg (n:Nat) (hl:1≤n):¬ (HT.sIx n 0 none=0∧HT.sIx n n (some (-1))=n):=by
 rw [qH]
 omega
theorem BY {p q:List Str} {a:Str} {i:Nat} (h:p[i]?=some a):mg (p.take (i+1)) q=mg (p.take i) q++(q.filter fun b=>decide ((a++b).length≤6)).map fun b=>a++b:=by
 rw [bd h]
 unfold mg
 rw [List.flatMap_append]
 simp
theorem tR {ps:List (List Str)} (b:BS ps):W (bO [sD ps]) (fun r=>∃ qs,r=(sD qs,[none])∧GT qs):=by
 match ps,b with
 | [],b=>cases b.l1
 | [p],b =>
  have e:((([p]:List (List Str)).length:Int) < 2):=by show (1:Int) < 2; decide
  simp only [ws,bO,du,sD,List.length_map,e]
  exact ⟨_,rfl,b.gt⟩
 | p :: q :: r,b =>
  have hp5:=b.m5 p (by simp)
  have hq5:=b.m5 q (by simp)
  have l3:=b.l3
  simp only [List.length_cons] at l3
  have e:¬ (((p :: q :: r).length:Int) < 2):=by simp only [List.length_cons]; omega
  have a0:atI ((p :: q :: r).map pD) 0=some (pD p):=aY _ 0
  have a1:atI ((p :: q :: r).map pD) 1=some (pD q):=aY _ 1
  by_cases h12:(12:Int) < (p.length:Int) * (q.length:Int)
  ·simp only [ws,bO,du,sD,e,a0,a1,pD,List.length_map,h12]
   exact ⟨.inl ⟨by omega,by omega⟩,_,rfl,b.gt⟩
  ·have h12':p.length * q.length≤12:=by
    rw [← Int.natCast_mul] at h12
    omega
   simp only [ws,bO,du,sD,e,a0,a1,pD,List.length_map,h12]
   refine ⟨.inl ⟨by omega,by omega⟩,?_⟩
   refine bH (fun i en=>∃ o2,en=[some (sD (p :: q :: r)),some (.list ((mg (p.take i) q).map .str)),o2]) ⟨none,rfl⟩ (fun i t en ht ⟨o2,en1⟩=>?_) fun en ⟨o2,en1⟩=>?_
   ·subst en1
    rw [List.getElem?_map] at ht
    obtain ⟨x,hx,rfl⟩:=Option.map_eq_some_iff.mp ht
    have hxm:=List.mem_of_getElem? hx
    have hx6:=b.w p (by simp) x hxm
    have lm:=oJ q (p.take i)
    rw [List.length_take] at lm
    have lm2:(mg (p.take i) q).length≤25:=Nat.le_trans lm (Nat.le_trans (Nat.mul_le_mul (by omega) hq5) (by decide:5 * 5≤25))
    simp only [ws,iV]
    refine my (ts0:=(mg (p.take i) q).map .str) rfl ?_
    simp only [ws,sD,a1,pD]
    refine ka (fun t=>decide ((x++txt t).length≤6)) (fun t=>.str (x++txt t)) (by rw [List.length_map]; exact sz (by omega)) (fun t ht=>?_) (fun t ht _=>?_) fun o'=>?_
    ·obtain ⟨y,hy,rfl⟩:=List.mem_map.mp ht
     have hy6:=b.w q (by simp) y hy
     simp only [ws,iR,txt]
     have e9:decide (((x++y).length:Int)≤6)=decide ((x++y).length≤6):=by rw [Bool.eq_iff_iff,decide_eq_true_eq,decide_eq_true_eq]; omega
     rw [e9]
     refine ⟨szB (by omega),szB (by rw [iL]; omega),rfl⟩
    ·obtain ⟨y,hy,rfl⟩:=List.mem_map.mp ht
     have hy6:=b.w q (by simp) y hy
     simp only [ws,iW,txt]
     exact szB (by omega)
    ·simp only [ws]
     have e3:((q.map PyData.str).filter fun t=>decide ((x++txt t).length≤6)).map (fun t=>PyData.str (x++txt t))=((q.filter fun b=>decide ((x++b).length≤6)).map fun b=>x++b).map .str:=by
      rw [List.filter_map,List.map_map,List.map_map]
      rfl
     rw [e3]
     refine ⟨_,(mg (p.take i) q).map .str,rfl,rfl,?_,?_⟩
     ·have h2:=List.length_filter_le (fun b=>decide ((x++b).length≤6)) q
      rw [List.length_map,List.length_map,List.length_map]
      exact szB (by omega)
     ·exact ⟨_,by rw [BY hx,List.map_append]⟩
   ·subst en1
    rw [List.length_map,bP]
    have ed:bt ((p :: q :: r).map pD) (some 2) none=r.map pD:=ny _ 2
    simp only [ws,sD,ed]
    refine ⟨qT 2 (p :: q :: r).length (by decide) b.l1,?_⟩
    simp only [List.length_cons,List.length_nil]
    exact ⟨szB (by omega),mg p q :: r,rfl,Hs b h12'⟩
variable {ks:List Str}
theorem B6 (z:Str) (ys:List Str):inL (.str z) (.tuple (ys.map .str))=some (.bool (decide (z∈ys))):=by
 show grd _ _=_
 unfold grd
 rw [if_pos ⟨rfl,eo ys,by rw [eE]; decide⟩,m4]
theorem BX (T:TT ks) {p:D} {n:Nat} {ys:List Str} (hp:Pn n p) (hn:n≤100000) (hl:ys.length≤5):W (dF [p,tD ks,pD ys]) (fun r=>∃ ms p',r=(pD ms,[some p',none,none])∧ms.length≤1∧(∀ x∈ms,x ∉ ys)∧(∀ x∈ms,x.length≤6)∧Pn (n+10) p'):=by
 simp only [ws,dF,jC]
 refine W.use (qA T hp hn (m:=3) (by decide) (by decide)) ?_
 rintro _ ⟨z,p',rfl,gz,hp'⟩
 have e:=B6 z ys
 by_cases h:z∈ys
 ·have e2:decide (z∈ys)=true:=decide_eq_true h
  simp only [ws,pD,e,e2]
  exact ⟨[],p',rfl,by decide,by simp,by simp,hp'⟩
 ·have e2:decide (z∈ys)=false:=decide_eq_false h
  have e3:¬ ((11:Int) < (ys.length:Int)):=by omega
  simp only [ws,pD,e,e2,List.length_map,e3]
  refine ⟨[z],p',rfl,Nat.le_refl 1,by simpa using h,fun x hx=>?_,hp'⟩
  rw [List.mem_singleton.mp hx]
  have:=gz.lm
  rw [ll] at this
  omega
end W44
namespace W44
open PySem L2 Tg
variable {ks:List Str}
def u6:D→D
 | .tuple ts=>.tuple ts.reverse
 | _=>.none
def PI (ks:List Str) (i:Nat) (en:En):Prop:=∃ p pl o6 o7 o8 o9,en=[some p,some (tD ks),some (.int 3),some (.int 5),some (.int 3),some (plD pl),o6,o7,o8,o9]∧Pn (31+2000 * i) p∧pl.length=i∧(∀ ps∈pl,GT ps)∧∀ ps,pl[0]?=some ps→BS ps
theorem PI.fin {i:Nat} {p:D} {pl:List (List (List Str))} {qs:List (List Str)} {o6 o7 o8 o9:Option D} {Q:En→Prop} (hi:i < 3) (hp:Pn (31+2000 * (i+1)) p) (hl:pl.length=i) (hg:∀ ps∈pl,GT ps) (h0:∀ ps,pl[0]?=some ps→BS ps) (hq:GT qs) (hb:i=0→BS qs) (hQ:∀ en,PI ks (i+1) en→Q en) :
  pl.length+[sD qs].length≤sizeLine∧Q [some p,some (tD ks),some (.int 3),some (.int 5),some (.int 3),some (.tuple (pl.map sD++[sD qs])),o6,o7,o8,o9]:=by
 refine ⟨szB (by simp only [List.length_cons,List.length_nil]; omega),hQ _ ⟨p,pl++[qs],o6,_,o8,o9,by unfold plD; rw [List.map_append]; rfl,hp,by rw [List.length_append,hl]; rfl,fun ps hps=>?_,fun ps hps=>?_⟩⟩
 ·rcases List.mem_append.mp hps with z | z
  ·exact hg ps z
  ·rw [List.mem_singleton.mp z]; exact hq
 ·cases pl with
  | nil =>
   cases hps
   exact hb hl.symm
  | cons a r=>exact h0 ps hps
theorem tH (T:TT ks) {i:Nat} {en:En} (hi:i < 3) (h:PI ks i en) {Q:Fl→Prop} (hQ:∀ en,PI ks (i+1) en→Q (.nx en)):W (gW (en.set 6 (some (.int (0+(i:Nat)))))) Q:=by
 obtain ⟨p,pl,o6,o7,o8,o9,rfl,hp,hl,hg,h0⟩:=h
 simp only [ws,gW]
 refine W.use (qF T (q0:=3) (m:=5) (s:=3) (by decide) (by decide) hp (by omega) (by decide) (by decide) (by decide)) ?_
 rintro _ ⟨qs,p1,rfl,gs,gl,g5,hp1⟩
 have bs:BS qs:=gs.bs gl g5
 simp only [ws]
 refine ce hp1 (by omega) (by decide) (by decide) fun r p2 r0 r6 hp2=>?_
 simp only [ws]
 have pm:Pn (31+2000 * (i+1)) p2:=hp2.mono (by omega)
 by_cases k0:i=0
 ·have hk:¬ ((0:Int) < 0+(i:Nat)):=by omega
  simp only [ws,hk,plD]
  exact PI.fin hi pm hl hg h0 bs.gt (fun _=>bs) hQ
 have hk:(0:Int) < 0+(i:Nat):=by omega
 cases pl with
 | nil=>exact absurd hl.symm k0
 | cons s0 rest =>
 have b0:BS s0:=h0 s0 rfl
 have a0:atI ((s0 :: rest).map sD) 0=some (sD s0):=aY _ 0
 have a0':((s0 :: rest).map sD)[0]?=some (sD s0):=rfl
 by_cases w0:r=0
 ·have f0:decide (r=0)=true:=decide_eq_true w0
  have f1:decide (r=1)=false:=decide_eq_false (by omega)
  have f2:decide (r=2)=false:=decide_eq_false (by omega)
  have f3:decide (r=3)=false:=decide_eq_false (by omega)
  simp only [ws,hk,f0,f1,f2,f3,plD,a0]
  refine W.use (tR b0) ?_
  rintro _ ⟨ms,rfl,gm⟩
  simp only [ws,hk,f1,f2,f3,plD]
  exact PI.fin hi pm hl hg h0 gm (fun z=>absurd z k0) hQ
 by_cases w1:r=1
 ·have f0:decide (r=0)=false:=decide_eq_false w0
  have f1:decide (r=1)=true:=decide_eq_true w1
  have f2:decide (r=2)=false:=decide_eq_false (by omega)
  have f3:decide (r=3)=false:=decide_eq_false (by omega)
  have l1:=b0.l1
  have l3:=b0.l3
  obtain ⟨ps,p0,rfl⟩:∃ ps p0,s0=ps++[p0]:=⟨s0.dropLast,s0.getLast (by intro z; rw [z] at l1; cases l1),(List.dropLast_concat_getLast _).symm⟩
  have hp5:=b0.m5 p0 (by simp)
  have an:atI ((ps++[p0]).map pD) (-1)=some (pD p0):=by
   unfold atI ixN
   rw [if_neg (by decide),if_pos (by simp; omega)]
   show ((ps++[p0]).map pD)[(-1+(((ps++[p0]).map pD).length:Int)).toNat]?=_
   rw [List.length_map,List.length_append,show (-1+((ps.length+[p0].length:Nat):Int)).toNat=ps.length by show (-1+((ps.length+1:Nat):Int)).toNat=ps.length; omega,List.getElem?_map,List.getElem?_append_right (Nat.le_refl _),Nat.sub_self]
   rfl
  have cl:bt ((ps++[p0]).map pD) none (some (-1))=ps.map pD:=by rw [uL,List.map_append]; exact List.dropLast_concat
  simp only [ws,hk,f0,f1,f2,f3,plD,a0,sD,an,cl]
  refine ⟨vg _ l1,?_⟩
  simp only [ws,pD]
  refine W.use (BX T hp2 (by omega) hp5) ?_
  rintro _ ⟨ms,p3,rfl,m1,m2,m3,hp3⟩
  simp only [ws,hk,f1,f2,f3,plD,a0,a0',sD,an,cl,pD]
  have eS:PyData.tuple (ps.map pD++[.tuple ((p0.map .str).reverse++ms.map .str)])=sD (ps++[p0.reverse++ms]):=by
   unfold sD
   rw [List.map_append,List.map_singleton,← List.map_reverse,← List.map_append]
   rfl
  rw [List.length_append] at l3
  rw [eS]
  refine ⟨szB (by rw [List.length_reverse,List.length_map]; omega),szB (by show ps.length+1≤_; omega),?_⟩
  exact PI.fin hi (hp3.mono (by omega)) hl hg h0 (B3 b0 m1 m2 m3) (fun z=>absurd z k0) hQ
 by_cases w2:r=2
 ·have f0:decide (r=0)=false:=decide_eq_false w0
  have f1:decide (r=1)=false:=decide_eq_false w1
  have f2:decide (r=2)=true:=decide_eq_true w2
  have f3:decide (r=3)=false:=decide_eq_false (by omega)
  obtain ⟨s1,hs1⟩:∃ s1,(s0 :: rest)[i - 1]?=some s1:=⟨_,List.getElem?_eq_getElem (by omega)⟩
  have gs1:=hg s1 (List.mem_of_getElem? hs1)
  have a1:atI ((s0 :: rest).map sD) (0+(i:Nat) - 1)=some (sD s1):=by
   rw [show (0+(i:Nat) - 1:Int)=((i - 1:Nat):Int) by omega,aY,List.getElem?_map,hs1]
   rfl
  simp only [ws,hk,f0,f1,f2,f3,plD,a1,sD]
  refine pT u6 (by rw [List.length_map]; have:=gs1.l5; exact sz (by omega)) (fun t ht=>?_) fun o=>?_
  ·obtain ⟨q,hq,rfl⟩:=List.mem_map.mp ht
   simp only [ws,kq,pD,u6]
  ·have em:(s1.map pD).map u6=(s1.map List.reverse).map pD:=by
    rw [List.map_map,List.map_map]
    refine List.map_congr_left fun q _=>?_
    show PyData.tuple (q.map PyData.str).reverse=.tuple (q.reverse.map .str)
    rw [List.map_reverse]
   rw [em]
   simp only [ws,hk,f1,f2,f3,plD]
   exact PI.fin hi pm hl hg h0 (E6 gs1) (fun z=>absurd z k0) hQ
 by_cases w3:r=3
 ·have f0:decide (r=0)=false:=decide_eq_false w0
  have f1:decide (r=1)=false:=decide_eq_false w1
  have f2:decide (r=2)=false:=decide_eq_false w2
  have f3:decide (r=3)=true:=decide_eq_true w3
  cases s0 with
  | nil=>cases b0.l1
  | cons q0 r0 =>
  have cf:bt ((q0 :: r0).map pD) (some 1) none=r0.map pD:=ny _ 1
  simp only [ws,hk,f0,f1,f2,f3,plD,a0,sD]
  refine W.use (qQ T hp2 (m:=1) (s:=3) (b:=false) (by omega) (by decide) (by decide) (by decide)) ?_
  rintro _ ⟨ys,p3,rfl,gp,g1,hp3⟩
  simp only [ws,a0,a0',sD,cf]
  have l3:=b0.l3
  rw [List.length_cons] at l3
  refine ⟨qT 1 _ (by decide) b0.l1,szB (by show 1+_≤_; omega),?_⟩
  exact PI.fin (qs:=ys :: r0) hi (hp3.mono (by omega)) hl hg h0 (vT b0 g1 (gp.fre rfl) gp.nd fun y hy=>by have:=(gp.w y hy).lm; rw [ll] at this; exact this) (fun z=>absurd z k0) hQ
 ·have f0:decide (r=0)=false:=decide_eq_false w0
  have f1:decide (r=1)=false:=decide_eq_false w1
  have f2:decide (r=2)=false:=decide_eq_false w2
  have f3:decide (r=3)=false:=decide_eq_false w3
  simp only [ws,hk,f0,f1,f2,f3,plD]
  exact PI.fin hi pm hl hg h0 bs.gt (fun _=>bs) hQ
theorem BL (T:TT ks) {p:D} (hp:Pn 30 p):W (dE [p,tD ks,.int 3,.int 5,.int 3]) (fun r=>∃ pl p',r=(plD pl,[some p',none,none,none,none])∧pl.length≤3∧(∀ ps∈pl,GT ps)∧Pn 10000 p'):=by
 simp only [ws,dE,jz]
 refine ce hp (by decide) (by decide) (by decide) fun r p1 r0 r4 hp1=>?_
 obtain ⟨k,rfl⟩:=Int.eq_ofNat_of_zero_le r0
 simp only [ws,Int.toNat_natCast]
 refine ⟨by omega,?_⟩
 refine bH (fun i en=>PI ks i en) ⟨p1,[],none,none,none,none,rfl,hp1,rfl,by simp,by simp⟩ (fun i t en ht h=>?_) fun en h=>?_
 ·obtain ⟨hi,rfl⟩:=cS ht
  have:=tH T (by omega) h (Q:=kIt (PI ks (i+1)) (mR (aR (af 5)) (kFn [1,0,0,0,0] fun r=>∃ pl p',r=(plD pl,[some p',none,none,none,none])∧pl.length≤3∧(∀ ps∈pl,GT ps)∧Pn 10000 p'))) fun en h=>by simp only [ws]; exact h
  obtain ⟨p',pl,o6,o7,o8,o9,rfl,_⟩:=h
  simp only [ws]
  exact this
 ·rw [eg] at h
  obtain ⟨p',pl,o6,o7,o8,o9,rfl,h1,h2,h3,h4⟩:=h
  simp only [ws]
  exact ⟨pl,p',rfl,by omega,h3,h1.mono (by omega)⟩
end W44
namespace W44
open PySem L2 Tg
def ab (a b:Nat):List Str:=[mk1 a,mk1 b]
def wd (a b:Nat):List Str:=mk [ab a b,ab a b,ab a b,ab a b]
theorem tW (a:Nat):li (mk1 a)=[a]:=rfl
theorem Bj {a b:Nat} (h:a≠b):fr (ab a b)=true:=by
 refine decide_eq_true ?_
 unfold ab
 rw [List.pairwise_cons]
 refine ⟨fun x hx=>?_,List.pairwise_singleton _ _⟩
 rw [List.mem_singleton.mp hx,tW,tW]
 constructor
 ·intro z
  have:=z.eq_of_length rfl
  exact h (List.cons.inj this).1
 ·intro z
  have:=z.eq_of_length rfl
  exact h (List.cons.inj this).1.symm
theorem rZ {p:List Str} (h:fr p=true):p.Nodup:=(kI h).imp fun {a b} z (e:a=b)=>z.1 (e ▸ List.prefix_refl _)
theorem nV (a b:Nat):(wd a b).length=16:=by
 unfold wd
 rw [df]
 rfl
theorem qZ {n:Nat}:∀ (ps:List (List Str)),(∀ p∈ps,∀ y∈p,y.length=n)→∀ x∈mkR ps,x.length=n * ps.length
 | [],_,x,hx=>by
  rw [List.mem_singleton.mp hx]
  rfl
 | p :: ps,h,x,hx=>by
  obtain ⟨w,hw,hx⟩:=List.mem_flatMap.mp hx
  obtain ⟨y,hy,rfl⟩:=List.mem_map.mp hx
  have h1:=h p List.mem_cons_self w hw
  have h2:=qZ ps (fun q hq=>h q (List.mem_cons_of_mem _ hq)) y hy
  rw [iL,h1,h2,List.length_cons,Nat.mul_succ]
  omega
theorem qz (a b:Nat):∀ x∈wd a b,x.length=4:=fun x hx=>by
 unfold wd at hx
 rw [lO] at hx
 have:=qZ (n:=1) _ (fun p hp y hy=>?_) x hx
 ·exact this
 ·have e:p=ab a b:=by
   simp only [List.mem_cons,List.not_mem_nil,or_false] at hp
   rcases hp with h | h | h | h <;> exact h
  rw [e] at hy
  rcases List.mem_cons.mp hy with h | h
  ·rw [h]; rfl
  ·rw [List.mem_singleton.mp h]; rfl
theorem G6 {a b:Nat} (h:a≠b):(wd a b).Nodup:=by
 unfold wd
 rw [lO]
 have q:∀ p∈[ab a b,ab a b,ab a b,ab a b],p=ab a b:=fun p hp=>by
  simp only [List.mem_cons,List.not_mem_nil,or_false] at hp
  rcases hp with h | h | h | h <;> exact h
 refine jV (fun p hp=>?_) fun p hp=>?_
 ·rw [q p hp]
  exact rZ (Bj h)
 ·rw [q p (List.dropLast_sublist _ |>.mem hp)]
  exact Bj h
structure GQ (n:Nat) (p:List Str):Prop where
 l:p.length=n
 f:fr p=true
 w:∀ y∈p,y.length=4
theorem GQ.sub {a b n:Nat} (h:a≠b) {p:List Str} (hs:p.Sublist (wd a b)) (hl:p.length=n):GQ n p:=by
 have w4:∀ y∈p,y.length=4:=fun y hy=>qz a b y (hs.mem hy)
 refine ⟨hl,decide_eq_true ?_,w4⟩
 refine List.Pairwise.imp_of_mem ?_ ((G6 h).sublist hs)
 intro x y hx hy hne
 have e1:=w4 x hx
 have e2:=w4 y hy
 rw [← ll] at e1 e2
 exact ⟨fun z=>hne (fM (z.eq_of_length (e1.trans e2.symm))),fun z=>hne (fM (z.eq_of_length (e2.trans e1.symm))).symm⟩
theorem pG (xs:List Str) (n:Nat) (h:n≤xs.length):bt (xs.map PyData.str) none (some (n:Int))=(xs.take n).map .str:=by
 unfold bt
 rw [HT.sIx_none,HT.sIx_nat,List.length_map,Nat.min_eq_left h,List.drop_zero,List.map_take]
 rfl
theorem CO (xs:List Str) (m n:Nat) (h:n≤xs.length) (hm:m≤n):bt (xs.map PyData.str) (some (m:Int)) (some (n:Int))=((xs.drop m).take (n - m)).map .str:=by
 unfold bt
 rw [HT.sIx_nat,HT.sIx_nat,List.length_map,Nat.min_eq_left h,Nat.min_eq_left (by omega),List.map_take,List.map_drop]
theorem hW {a b:Nat} (h:a≠b) (n:Nat) (hn:n≤16):∃ p,PyData.tuple (bt ((wd a b).map PyData.str) none (some (n:Int)))=pD p∧GQ n p:=by
 have l:=nV a b
 refine ⟨(wd a b).take n,by rw [pG _ n (by omega)]; rfl,GQ.sub h (List.take_sublist _ _) ?_⟩
 rw [List.length_take]
 omega
theorem oA {a b:Nat} (h:a≠b) (m n:Nat) (hn:n≤16) (hm:m≤n):∃ p,PyData.tuple (bt ((wd a b).map PyData.str) (some (m:Int)) (some (n:Int)))=pD p∧GQ (n - m) p:=by
 have l:=nV a b
 refine ⟨((wd a b).drop m).take (n - m),by rw [CO _ m n (by omega) hm]; rfl,GQ.sub h ((List.take_sublist _ _).trans (List.drop_sublist _ _)) ?_⟩
 rw [List.length_take,List.length_drop]
 omega
theorem uI:∀ (l acc:List Str),(∀ x∈l,x∈acc)→ddF acc l=acc
 | [],acc,_=>rfl
 | x :: l,acc,h=>by
  show ddF (if x∈acc then acc else acc++[x]) l=acc
  rw [if_pos (h x List.mem_cons_self)]
  exact uI l acc fun y hy=>h y (List.mem_cons_of_mem _ hy)
theorem pF {l:List Str} (h:l.Nodup):dd (l++l)=l:=by
 show List.foldl _ _ _=_
 rw [List.foldl_append]
 show ddF (dd l) l=l
 rw [kP h]
 exact uI l l fun _ z=>z
theorem Cr {ks:List Str} (T:TT ks) {a b:Nat} {r:List Nat} (hs:bf ks=a :: b :: r) {x2 x3 x4 x5 x6 x7 x8 x9:Option D} {Q:Fl→Prop} (hq:∀ o2 o3 o4,Q (.nx [some (tD ks),some (.list ((wd a b).map .str)),o2,o3,o4,x5,x6,x7,x8,x9])) :
  W (cx (gN 2) fY (jQ 0 4) [some (tD ks),some (.list [.str ""]),x2,x3,x4,x5,x6,x7,x8,x9]) Q:=by
 have sl:=ky ks
 have t12:=T.l12
 have ej:=kH T
 have ec:dZ (sgs ks).cps.toList none (some 2)=[a,b]:=by
  show dZ (li (sgs ks)) none (some ((2:Nat):Int))=_
  rw [nw,iK,hs]
  rfl
 refine bH (fun i en=>∃ o2 o3 o4,en=[some (tD ks),some (.list ((mk (List.replicate i (ab a b))).map .str)),o2,o3,o4,x5,x6,x7,x8,x9]) ⟨x2,x3,x4,rfl⟩ (fun i t en ht ⟨o2,o3,o4,e⟩=>?_) fun en ⟨o2,o3,o4,e⟩=>?_
 ·subst e
  obtain ⟨hi,rfl⟩:=cS ht
  simp only [ws,fY]
  have es:mk (List.replicate (i+1) (ab a b))=nx (mk (List.replicate i (ab a b))) (ab a b):=by
   rw [List.replicate_succ',kF]
  generalize hM:mk (List.replicate i (ab a b))=M at es ⊢
  have hM1:∀ x∈M,x.length≤24:=fun x hx=>by
   rw [← hM] at hx
   have:=oI (ps:=List.replicate i (ab a b)) (fun p hp y hy=>?_) i x (by rw [List.take_of_length_le (by rw [List.length_replicate]; omega)]; exact hx)
   ·omega
   ·rw [List.eq_of_mem_replicate hp] at hy
    rcases List.mem_cons.mp hy with h | h
    ·rw [h]; show 1≤6; decide
    ·rw [List.mem_singleton.mp h]; show 1≤6; decide
  have hM2:M.length≤8:=by
   rw [← hM,df]
   exact Nat.le_trans (kQ (m:=2) (k:=3) (by decide) (fun p hp=>by rw [List.eq_of_mem_replicate hp]; exact Nat.le_refl 2) (by rw [List.length_replicate]; omega)) (by decide)
  refine bH (fun j en=>∃ o4,en=[some (tD ks),some (.list (M.map .str)),some (.int (0+(i:Nat))),some (.list ((nx (M.take j) (ab a b)).map .str)),o4,x5,x6,x7,x8,x9]) ⟨o4,rfl⟩ (fun j t en ht ⟨o4,e⟩=>?_) fun en ⟨o4,e⟩=>?_
  ·subst e
   rw [List.getElem?_map] at ht
   obtain ⟨x,hx,rfl⟩:=Option.map_eq_some_iff.mp ht
   have hj:=(List.getElem?_eq_some_iff.mp hx).1
   have hx24:=hM1 x (List.mem_of_getElem? hx)
   simp only [ws,jH]
   refine my (ts0:=(nx (M.take j) (ab a b)).map .str) rfl ?_
   simp only [ws,ej,ec]
   refine ⟨szB (by omega),?_⟩
   have esg:lJ ⟨#[a,b]⟩=(ab a b).map PyData.str:=rfl
   rw [esg]
   have h1:∀ y∈ab a b,y.length≤1000:=fun y hy=>by
    rcases List.mem_cons.mp hy with h | h
    ·rw [h]; show 1≤1000; decide
    ·rw [List.mem_singleton.mp h]; show 1≤1000; decide
   refine pM rfl (by omega) h1 (by show 2≤1000; decide) fun o=>?_
   simp only [ws]
   have e1:nx (M.take (j+1)) (ab a b)=nx (M.take j) (ab a b)++(ab a b).map fun y=>x++y:=by
    rw [bd hx]
    unfold nx
    rw [List.flatMap_append]
    simp
   have l1:=jU (M.take j) (ab a b)
   rw [List.length_take,Nat.min_eq_left (by omega)] at l1
   have l2:(ab a b).length=2:=rfl
   refine ⟨_,(nx (M.take j) (ab a b)).map .str,rfl,rfl,?_,?_⟩
   ·rw [List.length_map,List.length_map,List.length_map,l1,l2]
    exact szB (by omega)
   ·exact ⟨_,by rw [e1,List.map_append]⟩
  ·subst e
   rw [List.length_map,bP]
   simp only [ws]
   exact ⟨_,_,_,by rw [es]⟩
 ·subst e
  exact hq o2 o3 o4
end W44
namespace W44
open PySem L2 Tg
theorem SB.of12 {ps:List (List Str)} (hl:ps.length≤4) (h:∀ p∈ps,p.length≤12) (hw:∀ p∈ps,∀ y∈p,y.length≤6):SB ps:=⟨by omega,fun p hp=>by have:=h p hp; omega,hw,j8 (m:=12) (k:=4) (by decide) h hl (by decide)⟩
theorem SB.pre {ps:List (List Str)} (B:SB ps) (hl:ps.length≤4):SB ([] :: ps):=by
 refine ⟨by rw [List.length_cons]; omega,fun p hp=>?_,fun p hp=>?_,fun i=>?_⟩
 ·rcases List.mem_cons.mp hp with h | h
  ·rw [h]; exact Nat.zero_le _
  ·exact B.l20 p h
 ·rcases List.mem_cons.mp hp with h | h
  ·rw [h]; intro y hy; cases hy
  ·exact B.w p h
 ·cases i with
  | zero=>show (1:Nat)≤50000; decide
  | succ i =>
   rw [List.take_succ_cons,cz]
   show 0 * _≤_
   omega
theorem SB.post {ps:List (List Str)} (B:SB ps) (hl:ps.length≤4):SB (ps++[[]]):=by
 refine ⟨by rw [List.length_append]; show _+1≤_; omega,fun p hp=>?_,fun p hp=>?_,fun i=>?_⟩
 ·rcases List.mem_append.mp hp with h | h
  ·exact B.l20 p h
  ·rw [List.mem_singleton.mp h]; exact Nat.zero_le _
 ·rcases List.mem_append.mp hp with h | h
  ·exact B.w p h
  ·rw [List.mem_singleton.mp h]; intro y hy; cases hy
 ·rcases Nat.lt_or_ge ps.length i with h | h
  ·rw [List.take_of_length_le (by rw [List.length_append]; show _+1≤_; omega),jj]
   show _ * 0≤_
   omega
  ·rw [List.take_append_of_le_length h]
   exact B.c i
theorem GQ.le {n:Nat} {p:List Str} (g:GQ n p):∀ y∈p,y.length≤6:=fun y hy=>by rw [g.w y hy]; decide
theorem GQ.im {n:Nat} {p x:List Str} (g:GQ n p) (hn:n≤12) (e:x=p):x.length≤12∧∀ y∈x,y.length≤6:=by
 subst e
 exact ⟨by rw [g.l]; exact hn,g.le⟩
theorem sb4 {p q r s:List Str} {a b c d:Nat} (g1:GQ a p) (g2:GQ b q) (g3:GQ c r) (g4:GQ d s) (h:a≤12∧b≤12∧c≤12∧d≤12):SB [p,q,r,s]:=by
 have H:∀ x∈[p,q,r,s],x.length≤12∧∀ y∈x,y.length≤6:=fun x hx=>by
  simp only [List.mem_cons,List.not_mem_nil,or_false] at hx
  rcases hx with e | e | e | e
  ·exact g1.im h.1 e
  ·exact g2.im h.2.1 e
  ·exact g3.im h.2.2.1 e
  ·exact g4.im h.2.2.2 e
 exact .of12 (Nat.le_refl 4) (fun x hx=>(H x hx).1) fun x hx=>(H x hx).2
theorem sb3 {p q r:List Str} {a b c:Nat} (g1:GQ a p) (g2:GQ b q) (g3:GQ c r) (h:a≤12∧b≤12∧c≤12):SB [p,q,r]:=by
 have H:∀ x∈[p,q,r],x.length≤12∧∀ y∈x,y.length≤6:=fun x hx=>by
  simp only [List.mem_cons,List.not_mem_nil,or_false] at hx
  rcases hx with e | e | e
  ·exact g1.im h.1 e
  ·exact g2.im h.2.1 e
  ·exact g3.im h.2.2 e
 exact .of12 (show 3≤4 by decide) (fun x hx=>(H x hx).1) fun x hx=>(H x hx).2
theorem mk4 {p q r s:List Str} (hp:fr p=true) (hq:fr q=true) (hr:fr r=true) (hs:fr s=true):(mk [p,q,r,s]).Nodup:=by
 rw [lO]
 refine jV (fun x hx=>?_) fun x hx=>?_
 ·simp only [List.mem_cons,List.not_mem_nil,or_false] at hx
  rcases hx with rfl | rfl | rfl | rfl <;> exact rZ (by assumption)
 ·have hx:=List.dropLast_sublist _ |>.mem hx
  simp only [List.mem_cons,List.not_mem_nil,or_false] at hx
  rcases hx with rfl | rfl | rfl | rfl <;> assumption
theorem mk3 {p q r:List Str} (hp:fr p=true) (hq:fr q=true) (hr:fr r=true):(mk [p,q,r]).Nodup:=by
 rw [lO]
 refine jV (fun x hx=>?_) fun x hx=>?_
 ·simp only [List.mem_cons,List.not_mem_nil,or_false] at hx
  rcases hx with rfl | rfl | rfl <;> exact rZ (by assumption)
 ·have hx:=List.dropLast_sublist _ |>.mem hx
  simp only [List.mem_cons,List.not_mem_nil,or_false] at hx
  rcases hx with rfl | rfl | rfl <;> assumption
theorem jf (s:List (List Str)):[s].flatMap mk=mk s:=by simp
theorem G8 (w:Str):PyData.tuple [.str w]=pD [w]:=rfl
theorem lD:PyData.tuple []=pD []:=rfl
theorem jL (p:List Str):PyData.tuple [pD p]=sD [p]:=rfl
theorem EL (p q r:List Str):PyData.tuple [pD p,pD q,pD r]=sD [p,q,r]:=rfl
theorem EK (p q r s:List Str):PyData.tuple [pD p,pD q,pD r,pD s]=sD [p,q,r,s]:=rfl
theorem fL (a:List (List Str)):PyData.tuple [sD a]=plD [a]:=rfl
theorem jM (a b:List (List Str)):PyData.tuple [sD a,sD b]=plD [a,b]:=rfl
theorem EM (a b c:List (List Str)):PyData.tuple [sD a,sD b,sD c]=plD [a,b,c]:=rfl
theorem uP (p q:List (List Str)) (h:p.length+q.length≤10):eR (sD p) (sD q)=some (sD (p++q)):=by
 show (if (p.map pD).length+(q.map pD).length≤sizeLine then some (PyData.tuple (p.map pD++q.map pD)) else none)=_
 rw [if_pos (szB (by rw [List.length_map,List.length_map]; omega)),← List.map_append]
 rfl
theorem pb1 {a:List (List Str)} (A:SB a):PB [a]:=⟨show 1≤4 by decide,fun x hx=>by rw [List.mem_singleton.mp hx]; exact A⟩
theorem pb2 {a b:List (List Str)} (A:SB a) (B:SB b):PB [a,b]:=⟨show 2≤4 by decide,fun x hx=>by
 simp only [List.mem_cons,List.not_mem_nil,or_false] at hx
 rcases hx with e | e
 ·rw [e]; exact A
 ·rw [e]; exact B⟩
theorem pb3 {a b c:List (List Str)} (A:SB a) (B:SB b) (C:SB c):PB [a,b,c]:=⟨show 3≤4 by decide,fun x hx=>by
 simp only [List.mem_cons,List.not_mem_nil,or_false] at hx
 rcases hx with e | e | e
 ·rw [e]; exact A
 ·rw [e]; exact B
 ·rw [e]; exact C⟩
theorem mL (a:List (List Str)):tot [a]=cnt a:=by simp [tot]
theorem n9 (a b:List (List Str)):tot [a,b]=cnt a+cnt b:=by simp [tot]
theorem Ig (a b c:List (List Str)):tot [a,b,c]=cnt a+(cnt b+cnt c):=by simp [tot]
theorem cJ (xs:List Str) (hl:xs.length≤50000):W (aZ [.list (xs.map .str),.list (xs.map .str)]) (fun r=>r=(.bool true,[none,none])):=by
 refine W.use (u0 xs xs hl) ?_
 rintro _ rfl
 rw [decide_eq_true rfl]
theorem oH {pl:List (List (List Str))} {ps:List (List Str)} (B:PB pl) (C:SB ps) (h1:2000 < tot pl) (h2:2000 < cnt ps) {x0 x1 x2 x3 x4 x5 x6 x7:Option D} {Q:Fl→Prop} (hq:Q (.nx [x0,x1,x2,x3,x4,x5,x6,x7,some (sD ps),some (plD pl)])):W (fX [x0,x1,x2,x3,x4,x5,x6,x7,some (sD ps),some (plD pl)]) Q:=by
 have e1:decide (2000 < tot pl)=true:=decide_eq_true h1
 have e2:decide (2000 < cnt ps)=true:=decide_eq_true h2
 have e3:neD (.list [b9 true,b9 true]) (.list [.int 3,.int 3])=some (.bool false):=rfl
 simp only [ws,fX]
 refine W.use (qW B C) ?_
 rintro _ rfl
 simp only [ws,e1,e2,e3]
 exact hq
theorem vJ {ks:List Str} (T:TT ks) (h2:2≤(bf ks).length):W (cU [tD ks]) (fun r=>r=(.bool true,[none])):=by
 obtain ⟨a,b,r,hs⟩:∃ a b r,bf ks=a :: b :: r:=by
  match h:bf ks,h2 with
  | a :: b :: r,_=>exact ⟨a,b,r,rfl⟩
 have hab:a≠b:=fun e=>by
  have:=T.nd
  rw [hs,e] at this
  exact (List.nodup_cons.mp this).1 List.mem_cons_self
 have t12:=T.l12
 have sl:=ky ks
 have ej:=kH T
 have a0:atI (li (sgs ks)) 0=some a:=by
  show atI (li (sgs ks)) ((0:Nat):Int)=_
  rw [aY,iK,hs]
  rfl
 obtain ⟨ten,c1,g1⟩:=hW hab 10 (by decide)
 obtain ⟨two,c2,g2⟩:=oA hab 3 5 (by decide) (by decide)
 obtain ⟨p1,c3,g3⟩:=hW hab 12 (by decide)
 obtain ⟨p2,c4,g4⟩:=oA hab 2 14 (by decide) (by decide)
 obtain ⟨p3,c5,g5⟩:=hW hab 7 (by decide)
 obtain ⟨p4,c6,g6⟩:=hW hab 2 (by decide)
 obtain ⟨w0,hw0,hw4⟩:∃ w0,(wd a b)[0]?=some w0∧w0.length=4:=by
  have l:=nV a b
  exact ⟨_,List.getElem?_eq_getElem (by omega),qz a b _ (List.getElem_mem _)⟩
 have aw:atI ((wd a b).map PyData.str) 0=some (.str w0):=by
  show atI _ ((0:Nat):Int)=_
  rw [aY,List.getElem?_map,hw0]
  rfl
 have aw':((wd a b).map PyData.str)[0]?=some (.str w0):=by
  rw [List.getElem?_map,hw0]
  rfl
 have n1:=g1.l
 have n2:two.length=2:=g2.l
 have n3:=g3.l
 have n4:p2.length=12:=g4.l
 have n5:=g5.l
 have n6:=g6.l
 have Bw:SB [ten,ten,ten,two]:=sb4 g1 g1 g1 g2 (by decide)
 have Bh:SB [ten,ten,ten]:=sb3 g1 g1 g1 (by decide)
 have Bm:SB [p1,p2,p3,p4]:=sb4 g3 g4 g5 g6 (by decide)
 have Bo:∀ w:Str,w.length≤6→SB [[w]]:=fun w hw=>.of12 (show 1≤4 by decide) (fun p hp=>by rw [List.mem_singleton.mp hp]; show 1≤12; decide) fun p hp y hy=>by rw [List.mem_singleton.mp hp] at hy; rw [List.mem_singleton.mp hy]; exact hw
 have cw:cnt [ten,ten,ten,two]=2000:=by simp only [cz,n1,n2]; rfl
 have ch:cnt [ten,ten,ten]=1000:=by simp only [cz,n1]; rfl
 have cm:cnt [p1,p2,p3,p4]=2016:=by simp only [cz,n3,n4,n5,n6]; rfl
 have cp:cnt [[],p1,p2,p3,p4]=0:=by rw [cz]; exact Nat.zero_mul _
 have cq:cnt [p1,p2,p3,p4,[]]=0:=by simp only [cz]; simp
 have mq:mk [p1,p2,p3,p4,[]]=[]:=List.length_eq_zero_iff.mp (by rw [df,cq])
 have Nw:(mk [ten,ten,ten,two]).Nodup:=mk4 g1.f g1.f g1.f g2.f
 have Nh:(mk [ten,ten,ten]).Nodup:=mk3 g1.f g1.f g1.f
 have A1:eR (sD [[]]) (sD [p1,p2,p3,p4])=some (sD [[],p1,p2,p3,p4]):=uP _ _ (show 1+4≤10 by decide)
 have A2:eR (sD [p1,p2,p3,p4]) (sD [[]])=some (sD [p1,p2,p3,p4,[]]):=uP _ _ (show 4+1≤10 by decide)
 simp only [ws,cU,iC]
 refine ⟨by decide,Cr T hs fun o2 o3 o4=>?_⟩
 have c1':PyData.tuple (bt ((wd a b).map PyData.str) none (some 10))=pD ten:=c1
 have c2':PyData.tuple (bt ((wd a b).map PyData.str) (some 3) (some 5))=pD two:=c2
 have c3':PyData.tuple (bt ((wd a b).map PyData.str) none (some 12))=pD p1:=c3
 have c4':PyData.tuple (bt ((wd a b).map PyData.str) (some 2) (some 14))=pD p2:=c4
 have c5':PyData.tuple (bt ((wd a b).map PyData.str) none (some 7))=pD p3:=c5
 have c6':PyData.tuple (bt ((wd a b).map PyData.str) none (some 2))=pD p4:=c6
 simp only [ws,c1',c2',c3',c4',c5',c6',EL,EK]
 refine W.use (gn Bw (by omega)) ?_
 rintro _ rfl
 have Tw:tot [[ten,ten,ten,two]]=2000:=(mL _).trans cw
 have Ew:dd ([[ten,ten,ten,two]].flatMap mk)=mk [ten,ten,ten,two]:=by rw [jf,kP Nw]
 have Eh2:dd ([[ten,ten,ten],[ten,ten,ten]].flatMap mk)=mk [ten,ten,ten]:=by
  rw [List.flatMap_cons,jf,pF Nh]
 have Eh:dd ([[ten,ten,ten]].flatMap mk)=mk [ten,ten,ten]:=by rw [jf,kP Nh]
 have Eq:dd ([[p1,p2,p3,p4,[]],[ten,ten,ten]].flatMap mk)=mk [ten,ten,ten]:=by
  rw [List.flatMap_cons,jf,mq,List.nil_append,kP Nh]
 have Lw:(mk [ten,ten,ten,two]).length≤50000:=by rw [df]; omega
 have Lh:(mk [ten,ten,ten]).length=1000:=by rw [df]; exact ch
 have k1:decide ((1000:Int)=1000)=true:=by decide
 have Lh':(((mk [ten,ten,ten]).length:Nat):Int)=1000:=by rw [Lh]; rfl
 simp only [ws,fL]
 refine W.use (gD (pb1 Bw) (by omega)) ?_
 rintro _ rfl
 simp only [ws,Ew]
 refine W.use (cJ _ Lw) ?_
 rintro _ rfl
 simp only [ws,jM]
 refine W.use (dW (pb2 Bh Bh) (by rw [n9]; omega)) ?_
 rintro _ rfl
 simp only [ws,Eh2,List.length_map,Lh',k1,fL]
 refine W.use (dW (pb1 Bw) (by omega)) ?_
 rintro _ rfl
 simp only [ws,fL]
 refine W.use (gD (pb1 Bw) (by omega)) ?_
 rintro _ rfl
 simp only [ws,Ew]
 refine W.use (cJ _ Lw) ?_
 rintro _ rfl
 simp only [ws,G8,jL,fL,jM,EM,aw,aw',ej,a0]
 refine ⟨szB (by omega),oH (pb1 Bm) Bm (by rw [mL]; omega) (by omega) ?_⟩
 have one:∀ w:Str,cnt [[w]]=1:=fun _=>rfl
 simp only [ws]
 refine oH (pb2 Bw (Bo w0 (by omega))) Bm (by rw [n9,one]; omega) (by omega) ?_
 simp only [ws]
 refine oH (pb3 Bh Bh (Bo (mk1 a) (by show 1≤6; decide))) Bm (by rw [Ig,one]; omega) (by omega) ?_
 simp only [ws,lD,jL,A1,jM]
 refine W.use (qW (pb2 Bh (Bm.pre (Nat.le_refl 4))) Bh) ?_
 rintro _ rfl
 have f1:decide (2000 < tot [[ten,ten,ten],[[],p1,p2,p3,p4]])=false:=decide_eq_false (by rw [n9]; omega)
 have f2:decide (2000 < cnt [ten,ten,ten])=false:=decide_eq_false (by omega)
 have f3:neD (.list [b9 false,b9 false]) (.list [.none,.none])=some (.bool false):=rfl
 have f4:neD (.list (([]:List Str).map PyData.str)) (.list [])=some (.bool false):=qV []
 simp only [ws,f1,f2,f3,lD,jL,A2]
 have Bq:SB [p1,p2,p3,p4,[]]:=Bm.post (Nat.le_refl 4)
 refine W.use (gn Bq (by omega)) ?_
 rintro _ rfl
 rw [mq]
 simp only [ws,f4,lD,jL,A2,jM]
 refine W.use (dW (pb2 Bq Bh) (by rw [n9]; omega)) ?_
 rintro _ rfl
 simp only [ws,Eq,fL]
 refine W.use (gD (pb1 Bh) (by rw [mL]; omega)) ?_
 rintro _ rfl
 simp only [ws,Eh]
 refine W.use (cJ _ (by omega)) ?_
 rintro _ rfl
 simp only [ws]
end W44
namespace W44
open PySem L2 Tg
theorem EN {pl:List (List (List Str))} (h:∀ s∈pl,GT s):tot pl≤250 * pl.length:=by
 induction pl with
 | nil=>exact Nat.zero_le _
 | cons a r ih =>
  have h1:=(h a List.mem_cons_self).cn
  have h2:=ih fun s hs=>h s (List.mem_cons_of_mem _ hs)
  show cnt a+tot r≤_
  rw [List.length_cons]
  omega
theorem BB {pl:List (List (List Str))} (h3:pl.length≤3) (hg:∀ s∈pl,GT s) {x0 x1 x2 x3 x5 x6 x7 x8:Option D} {Q:Fl→Prop} (hq:∀ o6 o7,Q (.nx [x0,x1,x2,x3,some (plD pl),x5,o6,o7,x8])) :
  W (pW [x0,x1,x2,x3,some (plD pl),x5,x6,x7,x8]) Q:=by
 have ht:=EN hg
 have B:PB pl:=⟨by omega,fun s hs=>(hg s hs).sb⟩
 simp only [ws,pW,plD]
 refine bH (fun i en=>∃ o6 o7,en=[x0,x1,x2,x3,some (plD pl),x5,o6,o7,x8]) ⟨x6,x7,rfl⟩ (fun i t en ht ⟨o6,o7,e⟩=>?_) fun en ⟨o6,o7,e⟩=>?_
 ·subst e
  rw [List.getElem?_map] at ht
  obtain ⟨s,hs,rfl⟩:=Option.map_eq_some_iff.mp ht
  have g:=hg s (List.mem_of_getElem? hs)
  have gc:=g.cn
  have es:dd ([s].flatMap mk)=mk s:=by rw [jf,kP (sA g)]
  have ln:=df s
  simp only [ws,uR]
  refine W.use (gn g.sb (by omega)) ?_
  rintro _ rfl
  simp only [ws,fL]
  refine W.use (gD (pb1 g.sb) (by rw [mL]; omega)) ?_
  rintro _ rfl
  simp only [ws,es]
  refine W.use (cJ _ (by omega)) ?_
  rintro _ rfl
  simp only [ws,List.length_map]
  exact ⟨rL (by omega),_,_,rfl⟩
 ·subst e
  have fl:=pk pl
  have dl:=mj (pl.flatMap mk) []
  simp only [ws]
  refine W.use (dW B (by omega)) ?_
  rintro _ rfl
  simp only [ws]
  refine W.use (gD B (by omega)) ?_
  rintro _ rfl
  simp only [ws]
  refine W.use (cJ _ (by show (dd (pl.flatMap mk)).length≤_; unfold dd; have z:([]:List Str).length=0:=rfl; omega)) ?_
  rintro _ rfl
  simp only [ws]
  refine W.of (a:=(.none,[x0,x1,x2,x3,some (plD pl),x5,o6,some (.list []),x8])) rfl ?_
  simp only [ws]
  exact hq _ _
theorem vo:FO sU:=by
 intro ns hn
 suffices W (sU [.list (ns.map .int)]) (fun r=>∃ o,r=(.bool true,o)) by
  obtain ⟨_,e,o,rfl⟩:=this.ex
  exact ⟨o,e⟩
 have t2:Int.toNat 2=2:=rfl
 simp only [ws,sU,wj,t2]
 refine ⟨by decide,?_⟩
 refine bH (fun i en=>∃ o1 o2 o3 o4 o5 o6 o7 o8,en=[some (.list (ns.map .int)),o1,o2,o3,o4,o5,o6,o7,o8]) ⟨none,none,none,none,none,none,none,none,rfl⟩ (fun i t en ht ⟨o1,o2,o3,o4,o5,o6,o7,o8,e⟩=>?_) fun en ⟨o1,o2,o3,o4,o5,o6,o7,o8,e⟩=>?_
 ·subst e
  obtain ⟨hi,rfl⟩:=cS ht
  simp only [ws,uQ]
  refine Bz (by omega) hn fun p hp=>?_
  simp only [ws]
  refine W.use (sZ hp) ?_
  rintro _ ⟨ks,p1,rfl,T,hp1⟩
  simp only [ws]
  refine W.use (BL T hp1) ?_
  rintro _ ⟨pl,p2,rfl,h3,hg,hp2⟩
  simp only [ws,t2]
  refine ⟨by decide,?_⟩
  refine bH (fun j en=>∃ o5 o6 o7,en=[some (.list (ns.map .int)),some (.int (0+(i:Nat))),some p2,some (tD ks),some (plD pl),o5,o6,o7,o8]) ⟨o5,o6,o7,rfl⟩ (fun j t en ht ⟨o5,o6,o7,e⟩=>?_) fun en ⟨o5,o6,o7,e⟩=>?_
  ·subst e
   obtain ⟨hj,rfl⟩:=cS ht
   simp only [ws]
   refine BB h3 hg fun o6 o7=>?_
   simp only [ws]
   exact ⟨_,_,_,rfl⟩
  ·subst e
   have el:PyData.tuple []=plD []:=rfl
   have f1:neD (.list (([]:List Str).map PyData.str)) (.list [])=some (.bool false):=qV []
   have d0:dd (([]:List (List (List Str))).flatMap mk)=[]:=rfl
   have m0:mk [[]]=[]:=rfl
   have B0:SB [[]]:=.of12 (show 1≤4 by decide) (fun p hp=>by rw [List.mem_singleton.mp hp]; show 0≤12; decide) fun p hp=>by rw [List.mem_singleton.mp hp]; intro y hy; cases hy
   simp only [ws,el]
   refine W.use (dW ⟨show 0≤4 by decide,fun _ z=>by cases z⟩ (show 0≤2000 by decide)) ?_
   rintro _ rfl
   rw [d0]
   simp only [ws,f1,lD,jL]
   refine W.use (gn B0 (show 0≤2000 by decide)) ?_
   rintro _ rfl
   rw [m0]
   simp only [ws,f1]
   refine W.use (qF T (q0:=5) (m:=3) (s:=6) (by decide) (by decide) hp2 (by decide) (by decide) (by decide) (by decide)) ?_
   rintro _ ⟨ps,p3,rfl,gs,gl,g5,hp3⟩
   have g:=gs.gt3 g5
   have gc:=g.cn
   have es:dd ([ps].flatMap mk)=mk ps:=by rw [jf,kP (sA g)]
   have e2:dd ([ps,ps].flatMap mk)=mk ps:=by rw [List.flatMap_cons,jf,pF (sA g)]
   have ln:=df ps
   simp only [ws]
   refine W.use (gn g.sb (by omega)) ?_
   rintro _ rfl
   simp only [ws,fL]
   refine W.use (gD (pb1 g.sb) (by rw [mL]; omega)) ?_
   rintro _ rfl
   simp only [ws,es]
   refine W.use (cJ _ (by omega)) ?_
   rintro _ rfl
   simp only [ws,jM]
   refine W.use (dW (pb2 g.sb g.sb) (by rw [n9]; omega)) ?_
   rintro _ rfl
   simp only [ws,e2,fL]
   refine W.use (gD (pb1 g.sb) (by rw [mL]; omega)) ?_
   rintro _ rfl
   simp only [ws,es]
   refine W.use (cJ _ (by omega)) ?_
   rintro _ rfl
   have sl:=ky ks
   have ej:=kH T
   by_cases k0:i=0
   ·have q0:decide ((0:Int)+(i:Nat)=0)=true:=decide_eq_true (by omega)
    by_cases h2:2≤(bf ks).length
    ·have q1:(1:Int) < ((sgs ks).length:Nat):=by omega
     simp only [ws,q0,ej,q1]
     refine ⟨szB (by have:=T.l12; omega),ce hp3 (by decide) (by decide) (by decide) fun r p4 r0 r2 hp4=>?_⟩
     by_cases r0:r=0
     ·have q2:decide (r=0)=true:=decide_eq_true r0
      simp only [ws,q2]
      refine W.use (vJ T h2) ?_
      rintro _ rfl
      simp only [ws]
      exact ⟨_,_,_,_,_,_,_,_,rfl⟩
     ·have q2:decide (r=0)=false:=decide_eq_false r0
      simp only [ws,q2]
      exact ⟨_,_,_,_,_,_,_,_,rfl⟩
    ·have q1:¬ (1:Int) < ((sgs ks).length:Nat):=by omega
     simp only [ws,q0,ej,q1]
     exact ⟨szB (by have:=T.l12; omega),_,_,_,_,_,_,_,_,rfl⟩
   ·have q0:decide ((0:Int)+(i:Nat)=0)=false:=decide_eq_false (by omega)
    simp only [ws,q0]
    exact ⟨_,_,_,_,_,_,_,_,rfl⟩
 ·subst e
  simp only [ws]
  exact ⟨_,rfl⟩
end W44
set_option maxHeartbeats 4000000
namespace W44
open PySem L2
theorem eK {α β:Type} {us:List α} {x0:β} (h:us.length=[x0].length):∃ a0,us=[a0]:=by
 cases us with
 | nil=>cases h
 | cons a0 r=>exact ⟨a0,by rw [List.length_eq_zero_iff.mp (show r.length=0 from Nat.succ.inj h)]⟩
theorem lx {α β:Type} {us:List α} {x0 x1:β} (h:us.length=[x0,x1].length):∃ a0 a1,us=[a0,a1]:=by
 cases us with
 | nil=>cases h
 | cons a0 r=>obtain ⟨a1,rfl⟩:=eK (us:=r) (x0:=x1) (Nat.succ.inj h); exact ⟨a0,a1,rfl⟩
theorem vn {α β:Type} {us:List α} {x0 x1 x2:β} (h:us.length=[x0,x1,x2].length):∃ a0 a1 a2,us=[a0,a1,a2]:=by
 cases us with
 | nil=>cases h
 | cons a0 r=>obtain ⟨a1,a2,rfl⟩:=lx (us:=r) (x0:=x1) (x1:=x2) (Nat.succ.inj h); exact ⟨a0,a1,a2,rfl⟩
theorem Im {α β:Type} {us:List α} {x0 x1 x2 x3:β} (h:us.length=[x0,x1,x2,x3].length):∃ a0 a1 a2 a3,us=[a0,a1,a2,a3]:=by
 cases us with
 | nil=>cases h
 | cons a0 r=>obtain ⟨a1,a2,a3,rfl⟩:=vn (us:=r) (x0:=x1) (x1:=x2) (x2:=x3) (Nat.succ.inj h); exact ⟨a0,a1,a2,a3,rfl⟩
theorem vm {α β:Type} {us:List α} {x0 x1 x2 x3 x4:β} (h:us.length=[x0,x1,x2,x3,x4].length):∃ a0 a1 a2 a3 a4,us=[a0,a1,a2,a3,a4]:=by
 cases us with
 | nil=>cases h
 | cons a0 r=>obtain ⟨a1,a2,a3,a4,rfl⟩:=Im (us:=r) (x0:=x1) (x1:=x2) (x2:=x3) (x3:=x4) (Nat.succ.inj h); exact ⟨a0,a1,a2,a3,a4,rfl⟩
theorem all_mk {l:PySem.W.OpenLaw} {w:World} {K:PySem.W.Frag} {h:Heap} {mg:Str→Option Value} {fa f0 f1 f2 f3 f4 f5 f6 f7 f8 f9 f10 f11 f12 f13 f14 f15 f16 f17 f18 f19 f20 f21:Addr} {tk0:Tok} (X:K.In h) (G:h.Ns mainGlobals mg) (hfa:mg "law"=some (.ref fa))
  (d0:Df K "marked" m7 f0)
  (d1:Df K "refuse_words" dQ f1)
  (d2:Df K "put_behind" fE f2)
  (d3:Df K "put_together" fV f3)
  (d4:Df K "how_many_made" fm f4)
  (d5:Df K "made" nU f5)
  (d6:Df K "tries" iS f6)
  (d7:Df K "_law_pen" ke f7)
  (d8:Df K "_law_draw" jp f8)
  (d9:Df K "_law_tongue" eT f9)
  (d10:Df K "_law_text" jk f10)
  (d11:Df K "_law_part" gi f11)
  (d12:Df K "_law_step" jl f12)
  (d13:Df K "_law_merged" eU f13)
  (d14:Df K "_law_more" jn f14)
  (d15:Df K "_law_plan" gh f15)
  (d16:Df K "_law_row" ic f16)
  (d17:Df K "_law_mark" jo f17)
  (d18:Df K "_law_much" jm f18)
  (d19:Df K "_law_texts" fF f19)
  (d20:Df K "_law_great" fG f20)
  (d21:Df K "law" lC f21)
  (y0:PySem.W.nsIn K mainGlobals "MOST_WORDS_MADE"=some (some (.int 2000 tk0)))
  (qTooMuch:PySem.W.nsIn K mainGlobals "TooMuch"=some (some (.ref (clK K "TooMuch"))))
  (qWordError:PySem.W.nsIn K mainGlobals "WordError"=some (some (.ref (clK K "WordError"))))
  (qNoTongue:PySem.W.nsIn K mainGlobals "NoTongue"=some (some (.ref (clK K "NoTongue"))))
  (qNoSentence:PySem.W.nsIn K mainGlobals "NoSentence"=some (some (.ref (clK K "NoSentence"))))
  (qTooMany:PySem.W.nsIn K mainGlobals "TooMany"=some (some (.ref (clK K "TooMany"))))
  (qNoNumber:PySem.W.nsIn K mainGlobals "NoNumber"=some (some (.ref (clK K "NoNumber"))))
  (qNoWord:PySem.W.nsIn K mainGlobals "NoWord"=some (some (.ref (clK K "NoWord"))))
  (qNoFit:PySem.W.nsIn K mainGlobals "NoFit"=some (some (.ref (clK K "NoFit"))))
  (qElder:PySem.W.nsIn K mainGlobals "Elder"=some (some (.ref (clK K "Elder"))))
  (qNear:PySem.W.nsIn K mainGlobals "Near"=some (some (.ref (clK K "Near"))))
  (qNoBack:PySem.W.nsIn K mainGlobals "NoBack"=some (some (.ref (clK K "NoBack"))))
  (qNoText:PySem.W.nsIn K mainGlobals "NoText"=some (some (.ref (clK K "NoText"))))
  (qNoLine:PySem.W.nsIn K mainGlobals "NoLine"=some (some (.ref (clK K "NoLine"))))
  (qNoName:PySem.W.nsIn K mainGlobals "NoName"=some (some (.ref (clK K "NoName"))))
  (rTooMuch:PySem.W.excIn K (clK K "TooMuch") vE "ValueError.__new__"=true)
  (rWordError:PySem.W.excIn K (clK K "WordError") vE "ValueError.__new__"=true)
  (bWordError:Bp K kn0 "WordError"=true)
  (tNoTongue:bj K kn0 eF (.ref (clK K "NoTongue"))=true)
  (tNoSentence:bj K kn0 c9 (.ref (clK K "NoSentence"))=true)
  (tTooMany:bj K kn0 fK (.ref (clK K "TooMany"))=true)
  (tTooMuch:bj K kn0 fJ (.ref (clK K "TooMuch"))=true)
  (tNoNumber:bj K kn0 eG (.ref (clK K "NoNumber"))=true)
  (tNoWord:bj K kn0 gw (.ref (clK K "NoWord"))=true)
  (tNoFit:bj K kn0 iD (.ref (clK K "NoFit"))=true)
  (tElder:bj K kn0 iE (.ref (clK K "Elder"))=true)
  (tNear:bj K kn0 jI (.ref (clK K "Near"))=true)
  (tNoBack:bj K kn0 gB (.ref (clK K "NoBack"))=true)
  (tNoText:bj K kn0 gx (.ref (clK K "NoText"))=true)
  (tNoLine:bj K kn0 gA (.ref (clK K "NoLine"))=true)
  (tNoName:bj K kn0 gy (.ref (clK K "NoName"))=true)
  (tValueError:bj K kn0 c7 (.type "ValueError")=true)
  (z0:PySem.W.nsIn K mainGlobals "ValueError"=some none)
  (z1:PySem.W.nsIn K mainGlobals "isinstance"=some none)
  (z2:PySem.W.nsIn K mainGlobals "len"=some none)
  (z3:PySem.W.nsIn K mainGlobals "list"=some none)
  (z4:PySem.W.nsIn K mainGlobals "max"=some none)
  (z5:PySem.W.nsIn K mainGlobals "range"=some none)
  (z6:PySem.W.nsIn K mainGlobals "str"=some none)
  (z7:PySem.W.nsIn K mainGlobals "sum"=some none)
  (z8:PySem.W.nsIn K mainGlobals "tuple"=some none) :
  ∃ fd:FuncData,(∀ (s:Shared) (v:Value),BindsTo s fd ⟨[v],[]⟩ [("_law_script",v)])∧∀ base:Heap,K.In base→base.Ns mainGlobals mg→FnOk l.prog w K mg base CX0 6 fa fd ["_law_script"] (lH K):=by
 have e:=hfa.symm.trans (PySem.W.mg_of X G d21.a)
 cases e
 have v0:=PySem.W.mg_of X G y0
 have mqTooMuch:=PySem.W.mg_of X G qTooMuch
 have mqWordError:=PySem.W.mg_of X G qWordError
 have mqNoTongue:=PySem.W.mg_of X G qNoTongue
 have mqNoSentence:=PySem.W.mg_of X G qNoSentence
 have mqTooMany:=PySem.W.mg_of X G qTooMany
 have mqNoNumber:=PySem.W.mg_of X G qNoNumber
 have mqNoWord:=PySem.W.mg_of X G qNoWord
 have mqNoFit:=PySem.W.mg_of X G qNoFit
 have mqElder:=PySem.W.mg_of X G qElder
 have mqNear:=PySem.W.mg_of X G qNear
 have mqNoBack:=PySem.W.mg_of X G qNoBack
 have mqNoText:=PySem.W.mg_of X G qNoText
 have mqNoLine:=PySem.W.mg_of X G qNoLine
 have mqNoName:=PySem.W.mg_of X G qNoName
 have HWordError:ExcK K mg kn0 "WordError":=⟨bWordError,mqWordError,rWordError⟩
 have T:Bl mg:=⟨PySem.W.mg_none_of X G z0,PySem.W.mg_none_of X G z1,PySem.W.mg_none_of X G z2,PySem.W.mg_none_of X G z3,PySem.W.mg_none_of X G z4,PySem.W.mg_none_of X G z5,PySem.W.mg_none_of X G z6,PySem.W.mg_none_of X G z7,PySem.W.mg_none_of X G z8⟩
 obtain ⟨oc,od,kV,dc,pm,an,cd,ct,sl,ll,lc⟩:=d21.l
 have FL:=pb (st:=lC) ll lc d21.k
 refine ⟨PySem.W.fnOf "law" "law" (dC lC) (b7 lC) (aq lC) .none kV dc pm an cd ct,fun s v=>.of_eq rfl,fun base _ _=>?_⟩
 have g0:Kn l.prog w K mg base 1 "marked" ["things"] (spF K [0] 0 fw):=d0.kn X G (fun _ _ _ _ _ _ us hl=>by obtain ⟨a0,rfl⟩:=eK hl; rfl) fun _ F=>vf (k:=0) T     F
 have g1:Kn l.prog w K mg base 1 "refuse_words" ["many"] (spF K [0] 3 ba):=d1.kn X G (fun _ _ _ _ _ _ us hl=>by obtain ⟨a0,rfl⟩:=eK hl; rfl) fun _ F=>mO (k:=0) T v0    F
 have g1N:KnX l.prog w K mg base 1 "refuse_words" ["many"] (spN K [0] (clK K) bL):=d1.knX X G (fun _ _ _ _ _ _ us hl=>by obtain ⟨a0,rfl⟩:=eK hl; rfl) fun _ F=>mX (k:=0) T v0  mqTooMuch rTooMuch F
 have g2:Kn l.prog w K mg base 1 "put_behind" ["texts", "part"] (spF K [0,0] 1 cT):=d2.kn X G (fun _ _ _ _ _ _ us hl=>by obtain ⟨a0,a1,rfl⟩:=lx hl; rfl) fun _ F=>oD (k:=0) T     F
 have g3:Kn l.prog w K mg base 2 "put_together" ["step"] (spF K [0] 1 bi):=d3.kn X G (fun _ _ _ _ _ _ us hl=>by obtain ⟨a0,rfl⟩:=eK hl; rfl) fun _ F=>mP (k:=1) T  (g2.mono (by decide))   F
 have g4:Kn l.prog w K mg base 1 "how_many_made" ["step"] (spF K [0] 0 aQ):=d4.kn X G (fun _ _ _ _ _ _ us hl=>by obtain ⟨a0,rfl⟩:=eK hl; rfl) fun _ F=>lL (k:=0) T     F
 have g5:Kn l.prog w K mg base 3 "made" ["step"] (spF K [0] 1 cZ):=d5.kn X G (fun _ _ _ _ _ _ us hl=>by obtain ⟨a0,rfl⟩:=eK hl; rfl) fun _ F=>FA (k:=2) T  (g1.mono (by decide)) (g3.mono (by decide)) (g4.mono (by decide))   F
 have g5N:KnX l.prog w K mg base 3 "made" ["step"] (spN K [0] (clK K) kf):=d5.knX X G (fun _ _ _ _ _ _ us hl=>by obtain ⟨a0,rfl⟩:=eK hl; rfl) fun _ F=>GR (k:=2) T  (g1.mono (by decide)) (g3.mono (by decide)) (g4.mono (by decide)) (g1N.mono (by decide)) F
 have g6:Kn l.prog w K mg base 3 "tries" ["plan"] (spF K [0] 1 cg):=d6.kn X G (fun _ _ _ _ _ _ us hl=>by obtain ⟨a0,rfl⟩:=eK hl; rfl) fun _ F=>BT (k:=2) T  (g1.mono (by decide)) (g0.mono (by decide)) (g3.mono (by decide)) (g4.mono (by decide))   F
 have g6N:KnX l.prog w K mg base 3 "tries" ["plan"] (spN K [0] (clK K) iT):=d6.knX X G (fun _ _ _ _ _ _ us hl=>by obtain ⟨a0,rfl⟩:=eK hl; rfl) fun _ F=>CL (k:=2) T  (g1.mono (by decide)) (g0.mono (by decide)) (g3.mono (by decide)) (g4.mono (by decide)) (g1N.mono (by decide)) F
 have g7:Kn l.prog w K mg base 1 "_law_pen" ["_law_script", "_law_k"] (spF K [0,0] 3 F_law_pen):=d7.kn X G (fun _ _ _ _ _ _ us hl=>by obtain ⟨a0,a1,rfl⟩:=lx hl; rfl) fun _ F=>rV (k:=0) T     F
 have g8:Kn l.prog w K mg base 1 "_law_draw" ["_law_pen_here", "_law_many"] (spF K [1,0] 0 F_law_draw):=d8.kn X G (fun _ _ _ _ _ _ us hl=>by obtain ⟨a0,a1,rfl⟩:=lx hl; rfl) fun _ F=>qk (k:=0) T     F
 have g9:Kn l.prog w K mg base 2 "_law_tongue" ["_law_pen_here", "_law_most"] (spF K [1,0] 0 cF):=d9.kn X G (fun _ _ _ _ _ _ us hl=>by obtain ⟨a0,a1,rfl⟩:=lx hl; rfl) fun _ F=>nM (k:=1) T  (g8.mono (by decide))   F
 have g10:Kn l.prog w K mg base 2 "_law_text" ["_law_pen_here", "_law_tongue_here", "_law_most"] (spF K [1,0,0] 0 ci):=d10.kn X G (fun _ _ _ _ _ _ us hl=>by obtain ⟨a0,a1,a2,rfl⟩:=vn hl; rfl) fun _ F=>qa (k:=1) T  (g8.mono (by decide))   F
 have g11:Kn l.prog w K mg base 3 "_law_part" ["_law_pen_here", "_law_tongue_here", "_law_most", "_law_size", "_law_free"] (spF K [1,0,0,0,0] 0 ck):=d11.kn X G (fun _ _ _ _ _ _ us hl=>by obtain ⟨a0,a1,a2,a3,a4,rfl⟩:=vm hl; rfl) fun _ F=>qg (k:=2) T  (g10.mono (by decide))   F
 have g12:Kn l.prog w K mg base 4 "_law_step" ["_law_pen_here", "_law_tongue_here", "_law_parts", "_law_most", "_law_size"] (spF K [1,0,0,0,0] 0 cj):=d12.kn X G (fun _ _ _ _ _ _ us hl=>by obtain ⟨a0,a1,a2,a3,a4,rfl⟩:=vm hl; rfl) fun _ F=>qc (k:=3) T  (g8.mono (by decide)) (g11.mono (by decide))   F
 have g13:Kn l.prog w K mg base 1 "_law_merged" ["_law_step_here"] (spF K [0] 0 bO):=d13.kn X G (fun _ _ _ _ _ _ us hl=>by obtain ⟨a0,rfl⟩:=eK hl; rfl) fun _ F=>nN (k:=0) T     F
 have g14:Kn l.prog w K mg base 3 "_law_more" ["_law_pen_here", "_law_tongue_here", "_law_part_here"] (spF K [1,0,0] 0 dF):=d14.kn X G (fun _ _ _ _ _ _ us hl=>by obtain ⟨a0,a1,a2,rfl⟩:=vn hl; rfl) fun _ F=>qi (k:=2) T  (g10.mono (by decide))   F
 have g15:Kn l.prog w K mg base 5 "_law_plan" ["_law_pen_here", "_law_tongue_here", "_law_parts", "_law_most", "_law_size"] (spF K [1,0,0,0,0] 0 dE):=d15.kn X G (fun _ _ _ _ _ _ us hl=>by obtain ⟨a0,a1,a2,a3,a4,rfl⟩:=vm hl; rfl) fun _ F=>qf (k:=4) T  (g8.mono (by decide)) (g12.mono (by decide)) (g13.mono (by decide)) (g11.mono (by decide)) (g14.mono (by decide))   F
 have g16:Kn l.prog w K mg base 1 "_law_row" ["_law_plan_here"] (spF K [0] 0 bx):=d16.kn X G (fun _ _ _ _ _ _ us hl=>by obtain ⟨a0,rfl⟩:=eK hl; rfl) fun _ F=>rT (k:=0) T     F
 have g17:Kn l.prog w K mg base 1 "_law_mark" ["_law_e"] (spF K [0] 3 cO):=d17.kn X G (fun _ _ _ _ _ _ us hl=>by obtain ⟨a0,rfl⟩:=eK hl; rfl) fun _ F=>qj (k:=0) T   mqNoTongue tNoTongue mqNoSentence tNoSentence mqTooMany tTooMany mqTooMuch tTooMuch mqNoNumber tNoNumber mqNoWord tNoWord mqNoFit tNoFit mqElder tElder mqNear tNear mqNoBack tNoBack mqNoText tNoText mqNoLine tNoLine mqNoName tNoName tValueError  F
 have g18:Kn l.prog w K mg base 4 "_law_much" ["_law_plan_here", "_law_step_here"] (spF K [0,0] 0 cN):=d18.kn X G (fun _ _ _ _ _ _ us hl=>by obtain ⟨a0,a1,rfl⟩:=lx hl; rfl) fun _ F=>qh (k:=3) T  (g6.mono (by decide)) (g5.mono (by decide)) (g17.mono (by decide)) (g6N.mono (by decide)) (g5N.mono (by decide)) HWordError  F
 have g19:Kn l.prog w K mg base 1 "_law_texts" ["_law_found", "_law_due"] (spF K [0,0] 3 aZ):=d19.kn X G (fun _ _ _ _ _ _ us hl=>by obtain ⟨a0,a1,rfl⟩:=lx hl; rfl) fun _ F=>oE (k:=0) T     F
 have g20:Kn l.prog w K mg base 5 "_law_great" ["_law_tongue_here"] (spF K [0] 3 cU):=d20.kn X G (fun _ _ _ _ _ _ us hl=>by obtain ⟨a0,rfl⟩:=eK hl; rfl) fun _ F=>oF (k:=4) T  (g19.mono (by decide)) (g6.mono (by decide)) (g16.mono (by decide)) (g18.mono (by decide)) (g5.mono (by decide))   F
 exact (Hm (k:=5) T  (g7.mono (by decide)) (g9.mono (by decide)) (g15.mono (by decide)) (g12.mono (by decide)) (g6.mono (by decide)) (g5.mono (by decide)) (g19.mono (by decide)) (g8.mono (by decide)) (g20.mono (by decide)) (g16.mono (by decide))   FL).imp fun vs H Q E h=>FN vo h
theorem walk {l:PySem.W.OpenLaw} {q:Program} {loose:List Str} {XP:(Str→Option Value)→Heap→Prop} {YP:World→Heap→Prop} {d:DefRec} {K:Params→PySem.W.Frag} (hn:l.most=some 63) (hdf:d.params.defaults=[]) (hq:PyProof.Rows.importsNone q=true)
  (hY:∀ (w:World) (h:Heap),YP w h→(K w.params).In h)
  (F:∀ (w:World) (mg:Str→Option Value) (fa:Addr) (h:Heap),(K w.params).In h→h.Ns mainGlobals mg→mg d.name=some (.ref fa) →
   ∃ fd:FuncData,(∀ (s:Shared) (u:Value),BindsTo s fd ⟨[u],[]⟩ [("_law_script",u)])∧∀ base:Heap,(K w.params).In base→base.Ns mainGlobals mg→FnOk l.prog w (K w.params) mg base CX0 6 fa fd ["_law_script"] (lH (K w.params))) :
  PySem.W.WalkO q loose XP YP l.row.toRowW d [] (fun f vs=>PySem.call f vs) :=
 L2.walk_of (n:=63) (k:=6) (x:="_law_script") (CX:=fun _=>CX0) (sp:=fun w=>lH (K w.params)) hn (by decide) hdf ⟨rfl,by decide,by decide,rfl⟩ hq hY F (fun _ _ a ns hl hO hS=>⟨a,ns,rfl,hS,hO,hl,fun _=>rfl⟩) fun _ _ _ _ _ z=>z
end W44
open PySem PySem.W PyProof.Rows
set_option maxRecDepth 100000 in
set_option maxHeartbeats 0 in
theorem PySem.Challenge.cw_wordrules_k44_words_made_and_tried_holds : PySem.Challenge.rw_wordrules_k44_words_made_and_tried.Holds := by
 w_on; o_law; k_head; (case hw=>w_witness2)
 k_fill
 refine W44.walk (l:=PySem.Challenge.rw_wordrules_k44_words_made_and_tried) rfl rfl rfl (fun w h Y=>PySem.W.kIn_of Y) ?F
 case F =>
  intro w mg fa h KX G hmg
  refine' W44.all_mk KX G hmg (.mk' ?_ ?_ ?_ ?_) (.mk' ?_ ?_ ?_ ?_) (.mk' ?_ ?_ ?_ ?_) (.mk' ?_ ?_ ?_ ?_) (.mk' ?_ ?_ ?_ ?_) (.mk' ?_ ?_ ?_ ?_) (.mk' ?_ ?_ ?_ ?_) (.mk' ?_ ?_ ?_ ?_) (.mk' ?_ ?_ ?_ ?_) (.mk' ?_ ?_ ?_ ?_) (.mk' ?_ ?_ ?_ ?_) (.mk' ?_ ?_ ?_ ?_) (.mk' ?_ ?_ ?_ ?_) (.mk' ?_ ?_ ?_ ?_) (.mk' ?_ ?_ ?_ ?_) (.mk' ?_ ?_ ?_ ?_) (.mk' ?_ ?_ ?_ ?_) (.mk' ?_ ?_ ?_ ?_) (.mk' ?_ ?_ ?_ ?_) (.mk' ?_ ?_ ?_ ?_) (.mk' ?_ ?_ ?_ ?_) (.mk' ?_ ?_ ?_ ?_) ?_ ?kx0 ?kx1 ?kx2 ?kx3 ?kx4 ?kx5 ?kx6 ?kx7 ?kx8 ?kx9 ?kx10 ?kx11 ?kx12 ?kx13 ?kx14 ?kx15 ?kx16 ?kx17 ?kx18 ?kx19 ?kx20 ?kx21 ?kx22 ?kx23 ?kx24 ?kx25 ?kx26 ?kx27 ?kx28 ?kx29 ?kx30 ?_ ?_ ?_ ?_ ?_ ?_ ?_ ?_ ?_
  case kx0=>kernel_rfl
  case kx1=>kernel_rfl
  case kx2=>kernel_rfl
  case kx3=>kernel_rfl
  case kx4=>kernel_rfl
  case kx5=>kernel_rfl
  case kx6=>kernel_rfl
  case kx7=>kernel_rfl
  case kx8=>kernel_rfl
  case kx9=>kernel_rfl
  case kx10=>kernel_rfl
  case kx11=>kernel_rfl
  case kx12=>kernel_rfl
  case kx13=>kernel_rfl
  case kx14=>kernel_rfl
  case kx15=>kernel_rfl
  case kx16=>kernel_rfl
  case kx17=>kernel_rfl
  case kx18=>kernel_rfl
  case kx19=>kernel_rfl
  case kx20=>kernel_rfl
  case kx21=>kernel_rfl
  case kx22=>kernel_rfl
  case kx23=>kernel_rfl
  case kx24=>kernel_rfl
  case kx25=>kernel_rfl
  case kx26=>kernel_rfl
  case kx27=>kernel_rfl
  case kx28=>kernel_rfl
  case kx29=>kernel_rfl
  case kx30=>kernel_rfl
  all_goals (try k_is)
