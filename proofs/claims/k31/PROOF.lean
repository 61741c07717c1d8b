import PyProof.Rows.All
import Wide.All
import OpenK.AllK
import Wide.FinOn
import Lean
import PyProof.EqAt
import PyProof.EqKinds
import PyProof.TupleCall
import PyProof.NeKinds
import PyProof.ConsumeWalk
import PyProof.ZipIter
import PyProof.EnumMake
import PyProof.EnumFor
import PyProof.StrWalks
import PyProof.ListStr
import PyProof.SliceStr2
import PyProof.StrBlockI
import PyProof.Rows.StrWeight2
import PyProof.Rows.ZipGen
import PyProof.Rows.StrIndexOr
import PyProof.Draws
import PyProof.RaisesStr
import PyProof.Rows.StrCountLaw
import PyProof.SumWalk
import PyProof.ReprRoads
import PyProof.ReprLen
import PyProof.CallFns
import PyProof.SumAny
import PyProof.SumAnyB
import PySem.Challenge.RW_wordrules_k31_whole_numbers_and_words
set_option Elab.async false
set_option linter.all false
set_option maxRecDepth 100000
namespace PySem.W.Fast
theorem tw10008726511442374208:True:=⟨⟩
theorem tw10014477197653515869:True:=⟨⟩
theorem tw10108671182054672399:True:=⟨⟩
theorem tw10190573225309142234:True:=⟨⟩
theorem tw10376503682693072660:True:=⟨⟩
theorem tw10394070849753138135:True:=⟨⟩
theorem tw10461419141249928090:True:=⟨⟩
theorem tw10569872120859908001:True:=⟨⟩
theorem tw10620391431533141862:True:=⟨⟩
theorem tw10644662231387799118:True:=⟨⟩
theorem tw10724239798628438796:True:=⟨⟩
theorem tw10770975539738206610:True:=⟨⟩
theorem tw10791760134271320186:True:=⟨⟩
theorem tw10802980791218989319:True:=⟨⟩
theorem tw1080964392663433723:True:=⟨⟩
theorem tw10832878756799956633:True:=⟨⟩
theorem tw10916629216362430668:True:=⟨⟩
theorem tw1091714513068119749:True:=⟨⟩
theorem tw10994065566629342287:True:=⟨⟩
theorem tw11054479546875180153:True:=⟨⟩
theorem tw11192240052768482345:True:=⟨⟩
theorem tw11216685039902060709:True:=⟨⟩
theorem tw11400920654224212564:True:=⟨⟩
theorem tw11452311709091182945:True:=⟨⟩
theorem tw11550175494224899964:True:=⟨⟩
theorem tw11605524214297905946:True:=⟨⟩
theorem tw11646458721804143226:True:=⟨⟩
theorem tw11767667905062965571:True:=⟨⟩
theorem tw11810952941631306591:True:=⟨⟩
theorem tw11862280655878415424:True:=⟨⟩
theorem tw11903317615723824304:True:=⟨⟩
theorem tw12074917097518790765:True:=⟨⟩
theorem tw12084598557893037185:True:=⟨⟩
theorem tw12136508905352848768:True:=⟨⟩
theorem tw12204310686930513370:True:=⟨⟩
theorem tw12227288939407026178:True:=⟨⟩
theorem tw12346143664125746382:True:=⟨⟩
theorem tw1236656754318118248:True:=⟨⟩
theorem tw12435411448139320217:True:=⟨⟩
theorem tw12452811484449732997:True:=⟨⟩
theorem tw12455430751054791285:True:=⟨⟩
theorem tw12520285119625689082:True:=⟨⟩
theorem tw12551379413494078635:True:=⟨⟩
theorem tw12554482192687267451:True:=⟨⟩
theorem tw12702509016519707956:True:=⟨⟩
theorem tw12802422874024879502:True:=⟨⟩
theorem tw12882019890335770376:True:=⟨⟩
theorem tw12888556355836148299:True:=⟨⟩
theorem tw12965690363163683679:True:=⟨⟩
theorem tw13156802611288945137:True:=⟨⟩
theorem tw13264603647577827049:True:=⟨⟩
theorem tw13283658733826326468:True:=⟨⟩
theorem tw1328933210952007820:True:=⟨⟩
theorem tw13525275758950325827:True:=⟨⟩
theorem tw13530755171418705749:True:=⟨⟩
theorem tw1355425569918794692:True:=⟨⟩
theorem tw13600926249125505794:True:=⟨⟩
theorem tw13627012341880879693:True:=⟨⟩
theorem tw13695696399559205197:True:=⟨⟩
theorem tw13767278541022211194:True:=⟨⟩
theorem tw13815460225806504407:True:=⟨⟩
theorem tw13920611865463254137:True:=⟨⟩
theorem tw141208198598997879:True:=⟨⟩
theorem tw14316263031900821320:True:=⟨⟩
theorem tw14346959188805291464:True:=⟨⟩
theorem tw14378097287887334841:True:=⟨⟩
theorem tw14565479891560917770:True:=⟨⟩
theorem tw14569378937431656792:True:=⟨⟩
theorem tw14690538630888734385:True:=⟨⟩
theorem tw14797599300918895425:True:=⟨⟩
theorem tw14998922253719189879:True:=⟨⟩
theorem tw15067895494743781007:True:=⟨⟩
theorem tw15069183148688223515:True:=⟨⟩
theorem tw15235862039585840722:True:=⟨⟩
theorem tw15290218365086259375:True:=⟨⟩
theorem tw15309875188719188607:True:=⟨⟩
theorem tw15452835997932995765:True:=⟨⟩
theorem tw15542232219019105323:True:=⟨⟩
theorem tw15583680039676351579:True:=⟨⟩
theorem tw15627037018847848471:True:=⟨⟩
theorem tw15638110087059397243:True:=⟨⟩
theorem tw15727486557384328247:True:=⟨⟩
theorem tw15735339241489557055:True:=⟨⟩
theorem tw15821253036086288779:True:=⟨⟩
theorem tw15874543353365693913:True:=⟨⟩
theorem tw15967878969703372954:True:=⟨⟩
theorem tw16096896257158073832:True:=⟨⟩
theorem tw16229557588986307544:True:=⟨⟩
theorem tw16308112535167155763:True:=⟨⟩
theorem tw16322909108710779641:True:=⟨⟩
theorem tw16450999710520095230:True:=⟨⟩
theorem tw16602149259577938963:True:=⟨⟩
theorem tw16614575576630308655:True:=⟨⟩
theorem tw16622270148084989288:True:=⟨⟩
theorem tw16653105594702215980:True:=⟨⟩
theorem tw16681073279482543101:True:=⟨⟩
theorem tw16795503937857796334:True:=⟨⟩
theorem tw16830312994294675092:True:=⟨⟩
theorem tw16887665606329133537:True:=⟨⟩
theorem tw16889503163331366223:True:=⟨⟩
theorem tw1689359287345726372:True:=⟨⟩
theorem tw16962728558323872347:True:=⟨⟩
theorem tw16965921256432286478:True:=⟨⟩
theorem tw16970876201638205897:True:=⟨⟩
theorem tw17021082209451984805:True:=⟨⟩
theorem tw17024206911768041812:True:=⟨⟩
theorem tw17072835703744782561:True:=⟨⟩
theorem tw17082315570458179037:True:=⟨⟩
theorem tw17137158167553989450:True:=⟨⟩
theorem tw17161807425312935431:True:=⟨⟩
theorem tw17162878516798337495:True:=⟨⟩
theorem tw17454655832648576834:True:=⟨⟩
theorem tw17486844001851095694:True:=⟨⟩
theorem tw17533938105537382246:True:=⟨⟩
theorem tw17646227257303214045:True:=⟨⟩
theorem tw17714410010402379298:True:=⟨⟩
theorem tw17835074136396256469:True:=⟨⟩
theorem tw1789066563535522009:True:=⟨⟩
theorem tw17905413582492091822:True:=⟨⟩
theorem tw17924936322450030334:True:=⟨⟩
theorem tw17968842730320390657:True:=⟨⟩
theorem tw1804692895063184054:True:=⟨⟩
theorem tw18145273781609314499:True:=⟨⟩
theorem tw18166951174593256895:True:=⟨⟩
theorem tw18344399065507931979:True:=⟨⟩
theorem tw18355457529618532902:True:=⟨⟩
theorem tw18379964561518657885:True:=⟨⟩
theorem tw1871695175524461810:True:=⟨⟩
theorem tw1924627940511791657:True:=⟨⟩
theorem tw1991087117327581088:True:=⟨⟩
theorem tw205365397174703114:True:=⟨⟩
theorem tw2059218885818555132:True:=⟨⟩
theorem tw2097506995342156877:True:=⟨⟩
theorem tw2459666382479068836:True:=⟨⟩
theorem tw2665935679567529540:True:=⟨⟩
theorem tw2671073432166704911:True:=⟨⟩
theorem tw268159491614345567:True:=⟨⟩
theorem tw268207169913145168:True:=⟨⟩
theorem tw2691891470500581858:True:=⟨⟩
theorem tw2702420366927837327:True:=⟨⟩
theorem tw2730717042282236080:True:=⟨⟩
theorem tw2733225419981609815:True:=⟨⟩
theorem tw2818124780185309027:True:=⟨⟩
theorem tw283616269882320989:True:=⟨⟩
theorem tw290106180415750498:True:=⟨⟩
theorem tw2909351728499032346:True:=⟨⟩
theorem tw2932974405949060686:True:=⟨⟩
theorem tw3089159524369233646:True:=⟨⟩
theorem tw3174119331558006518:True:=⟨⟩
theorem tw3198224544735109490:True:=⟨⟩
theorem tw3405146309071274364:True:=⟨⟩
theorem tw3412313306244192409:True:=⟨⟩
theorem tw342155304823633123:True:=⟨⟩
theorem tw3521189828558698314:True:=⟨⟩
theorem tw3553754851312470964:True:=⟨⟩
theorem tw3596525817146683412:True:=⟨⟩
theorem tw3645295614972363432:True:=⟨⟩
theorem tw3740651199723211125:True:=⟨⟩
theorem tw378225482300656551:True:=⟨⟩
theorem tw3865093469137580430:True:=⟨⟩
theorem tw39619393324510921:True:=⟨⟩
theorem tw4033654483689596635:True:=⟨⟩
theorem tw4099477536495610773:True:=⟨⟩
theorem tw4214591599994629369:True:=⟨⟩
theorem tw4235847082553299693:True:=⟨⟩
theorem tw4244141364952766679:True:=⟨⟩
theorem tw4252149056946848630:True:=⟨⟩
theorem tw4372342694974125791:True:=⟨⟩
theorem tw446613748985738140:True:=⟨⟩
theorem tw4683483952636828956:True:=⟨⟩
theorem tw4768560936320231207:True:=⟨⟩
theorem tw4828508229552761159:True:=⟨⟩
theorem tw4867309670650057250:True:=⟨⟩
theorem tw4920706381902412987:True:=⟨⟩
theorem tw4945502649762296476:True:=⟨⟩
theorem tw4951902481191635135:True:=⟨⟩
theorem tw5060044686092892611:True:=⟨⟩
theorem tw5152823582895451165:True:=⟨⟩
theorem tw5220502170152112508:True:=⟨⟩
theorem tw5388574521984679810:True:=⟨⟩
theorem tw5464665087246012122:True:=⟨⟩
theorem tw5513483787479405249:True:=⟨⟩
theorem tw5534570792690196474:True:=⟨⟩
theorem tw5603870938417219659:True:=⟨⟩
theorem tw5628755009601247188:True:=⟨⟩
theorem tw5630535686927230737:True:=⟨⟩
theorem tw5708137621443626805:True:=⟨⟩
theorem tw5722265151528929773:True:=⟨⟩
theorem tw5771796980622033401:True:=⟨⟩
theorem tw5848449150883965187:True:=⟨⟩
theorem tw5927540907876828768:True:=⟨⟩
theorem tw5994967239131308771:True:=⟨⟩
theorem tw6030808937837736460:True:=⟨⟩
theorem tw60598532939209127:True:=⟨⟩
theorem tw6309625056328848920:True:=⟨⟩
theorem tw6487659996833824313:True:=⟨⟩
theorem tw6520610500620832942:True:=⟨⟩
theorem tw6817855661111530756:True:=⟨⟩
theorem tw6876016269751951538:True:=⟨⟩
theorem tw716889998955145184:True:=⟨⟩
theorem tw7343326676727809055:True:=⟨⟩
theorem tw7539334226416330154:True:=⟨⟩
theorem tw7618988933173997580:True:=⟨⟩
theorem tw7734318808207604357:True:=⟨⟩
theorem tw7802814808574818227:True:=⟨⟩
theorem tw7815961600471305952:True:=⟨⟩
theorem tw782334813772014063:True:=⟨⟩
theorem tw7829720996259035844:True:=⟨⟩
theorem tw7868813169092704281:True:=⟨⟩
theorem tw7911738001321796925:True:=⟨⟩
theorem tw7979928229937060452:True:=⟨⟩
theorem tw7998662307048548439:True:=⟨⟩
theorem tw8049996432033209299:True:=⟨⟩
theorem tw8158104512938479523:True:=⟨⟩
theorem tw8195144863719687400:True:=⟨⟩
theorem tw8225515293223187192:True:=⟨⟩
theorem tw8284611422440544929:True:=⟨⟩
theorem tw843625158488064840:True:=⟨⟩
theorem tw8437526434921037579:True:=⟨⟩
theorem tw8657481676107897915:True:=⟨⟩
theorem tw870341664855320666:True:=⟨⟩
theorem tw8717897283245808978:True:=⟨⟩
theorem tw8810408265503370781:True:=⟨⟩
theorem tw8860678818382905903:True:=⟨⟩
theorem tw8900573111663111415:True:=⟨⟩
theorem tw8916412117882106387:True:=⟨⟩
theorem tw8965188253641918957:True:=⟨⟩
theorem tw9062061083177294200:True:=⟨⟩
theorem tw9085046164459649086:True:=⟨⟩
theorem tw9293675130709861921:True:=⟨⟩
theorem tw9347664377056804782:True:=⟨⟩
theorem tw9452637302321965547:True:=⟨⟩
theorem tw9528950911522763994:True:=⟨⟩
theorem tw9536968153852687201:True:=⟨⟩
theorem tw9656848030817915130:True:=⟨⟩
theorem tw9793298626546398501:True:=⟨⟩
theorem tw9858179349195812473:True:=⟨⟩
theorem tw996843712970999115:True:=⟨⟩
end PySem.W.Fast
namespace L2
open PySem PySem.Spec PyProof.Rows
abbrev Key:=Sum Int Str
def kO:Key→Value→Bool
 | .inl k,v=>Value.isInt k v
 | .inr x,v=>Value.isStrOf x v
def Jq (w:World):Key→Int
 | .inl k=>hashInt k
 | .inr x=>hashStr w x
theorem bH:∀ {k:Key} {v:Value},kO k v=true→(∃ i t,k=Sum.inl i∧v=Value.int i t)∨(∃ x t,k=Sum.inr x∧v=Value.str x t)
 | .inl i,v,h=>by
  obtain ⟨t,e⟩:=Value.isInt_shape (k:=i) (v:=v) h
  exact .inl ⟨i,t,rfl,e⟩
 | .inr x,v,h=>by
  obtain ⟨t,e⟩:=Value.isStrOf_shape (x:=x) (v:=v) h
  exact .inr ⟨x,t,rfl,e⟩
theorem uu (i:Int) (t:Tok):kO (.inl i) (.int i t)=true:=by simp [kO,Value.isInt]
theorem ut (x:Str) (t:Tok):kO (.inr x) (.str x t)=true:=by simp [kO,Value.isStrOf]
theorem ur (a b:Int):decide ((Sum.inl a:Key)=Sum.inl b)=(a == b):=by
 by_cases e:a=b
 ·subst e; simp
 ·have h:¬ (Sum.inl a:Key)=Sum.inl b:=fun q=>e (Sum.inl.inj q)
  rw [decide_eq_false h]
  exact (beq_eq_false_iff_ne.mpr e).symm
theorem uo (a b:Str):decide ((Sum.inr a:Key)=Sum.inr b)=decide (a=b):=by
 by_cases e:a=b
 ·subst e; simp
 ·have h:¬ (Sum.inr a:Key)=Sum.inr b:=fun q=>e (Sum.inr.inj q)
  rw [decide_eq_false h,decide_eq_false e]
theorem uq (a:Int) (b:Str):decide ((Sum.inl a:Key)=Sum.inr b)=false:=decide_eq_false (fun q=>nomatch q)
theorem up (a:Str) (b:Int):decide ((Sum.inr a:Key)=Sum.inl b)=false:=decide_eq_false (fun q=>nomatch q)
def bA (prog:Program) (w:World):PySem.KeyKind prog w Key where
 is:=kO
 hash:=Jq w
 inj:=fun v a b ha hb=>by
  rcases bH ha with ⟨i,t,rfl,rfl⟩ | ⟨x,t,rfl,rfl⟩
  ·rcases bH hb with ⟨j,u,rfl,e⟩ | ⟨y,u,rfl,e⟩
   ·injection e with e1 _; rw [e1]
   ·exact nomatch e
  ·rcases bH hb with ⟨j,u,rfl,e⟩ | ⟨y,u,rfl,e⟩
   ·exact nomatch e
   ·injection e with e1 _; rw [e1]
 byValue:=fun k v h=>by
  rcases bH h with ⟨i,t,rfl,rfl⟩ | ⟨x,t,rfl,rfl⟩ <;> rfl
 pyHash:=fun hv h=>by
  rcases bH hv with ⟨i,t,rfl,rfl⟩ | ⟨x,t,rfl,rfl⟩
  ·exact wpAny_pyHash_int h
  ·exact wpAny_pyHash_str h
 eqBool:=fun hu hv h=>by
  rcases bH hu with ⟨i,t,rfl,rfl⟩ | ⟨x,t,rfl,rfl⟩
  ·rcases bH hv with ⟨j,u,rfl,rfl⟩ | ⟨y,u,rfl,rfl⟩
   ·rw [ur] at h; exact wpAny_eqBool_int h
   ·rw [uq] at h; exact SeqAt.EqAt.int_str i t y u _ _ _ _ h
  ·rcases bH hv with ⟨j,u,rfl,rfl⟩ | ⟨y,u,rfl,rfl⟩
   ·rw [up] at h; exact SeqAt.EqAt.str_int x t j u _ _ _ _ h
   ·rw [uo] at h; exact wpAny_eqBool_str h
 «strs»:=fun k x t v h=>by
  rcases bH h with ⟨i,u,rfl,e⟩ | ⟨y,u,rfl,e⟩
  ·exact nomatch e
  ·injection e with e1 _
   subst e1
   cases v <;> rfl
theorem qB (prog:Program) (w:World) (i:Int) (t:Tok):(bA prog w).is (.inl i) (.int i t)=true:=uu i t
theorem qA (prog:Program) (w:World) (x:Str) (t:Tok):(bA prog w).is (.inr x) (.str x t)=true:=ut x t
end L2
namespace L2
open PySem PySem.Spec PyProof.Rows
inductive V where
 | non | bl (b:Bool) | int (i:Int) | str (x:Str) | byt (b:Array UInt8) | flt (b:UInt64) | ref (a:Addr) | ty (n:String)
 deriving DecidableEq
def RelV:V→Value→Prop
 | .non,u=>u=Value.none
 | .bl b,u=>u=Value.bool b
 | .int i,u=>∃ t,u=Value.int i t
 | .str x,u=>∃ t,u=Value.str x t
 | .byt b,u=>∃ t,u=Value.bytes b t
 | .flt b,u=>∃ t,u=Value.float b t
 | .ref a,u=>u=Value.ref a
 | .ty n,u=>u=Value.type n
abbrev Vals:List V→List Value→Prop:=Paired RelV
theorem Vals.length {xs:List V} {us:List Value} (r:Vals xs us):xs.length=us.length:=Paired.length r
theorem Vals.get:∀ {xs:List V} {us:List Value} {i:Nat} {x:V},Vals xs us→xs[i]?=some x→∃ u,us[i]?=some u∧RelV x u
 | _,_,_,_,.nil,e=>by simp at e
 | _,_,0,_,.cons r _,e=>by simp at e; subst e; exact ⟨_,rfl,r⟩
 | _,_,i+1,x,.cons _ t,e=>by
  obtain ⟨u,h1,h2⟩:=Vals.get (i:=i) (x:=x) t (by simpa using e)
  exact ⟨u,by simpa using h1,h2⟩
theorem Vals.set {x:V} {u:Value} (r:RelV x u):∀ {xs:List V} {us:List Value} (i:Nat),Vals xs us→Vals (xs.set i x) (us.set i u)
 | _,_,_,.nil=>.nil
 | _,_,0,.cons _ t=>.cons r t
 | _,_,i+1,.cons q t=>.cons q (Vals.set r i t)
theorem Vals.append:∀ {xs ys:List V} {us ws:List Value},Vals xs us→Vals ys ws→Vals (xs++ys) (us++ws)
 | _,_,_,_,.nil,s=>s
 | _,_,_,_,.cons r t,s=>.cons r (Vals.append t s)
theorem Vals.take:∀ {xs:List V} {us:List Value} (n:Nat),Vals xs us→Vals (xs.take n) (us.take n)
 | _,_,0,_=>.nil
 | _,_,_+1,.nil=>.nil
 | _,_,n+1,.cons r t=>.cons r (Vals.take n t)
theorem Vals.drop:∀ {xs:List V} {us:List Value} (n:Nat),Vals xs us→Vals (xs.drop n) (us.drop n)
 | _,_,0,r=>r
 | _,_,_+1,.nil=>.nil
 | _,_,n+1,.cons _ t=>Vals.drop n t
def RelO:Option V→Option Value→Prop
 | some v,some u=>RelV v u
 | none,none=>True
 | _,_=>False
def KV {κ:Type}:List (κ × V)→List (κ × Value)→Prop:=Paired fun (p:κ × V) (q:κ × Value)=>p.1=q.1∧RelV p.2 q.2
def kV:Key→V
 | .inl i=>.int i
 | .inr x=>.str x
inductive HO where
 | lst (xs:List V)
 | tup (xs:List V)
 | dK (kvs:List (Key × V)) | dT (kvs:List (List Key × V))
 | set (S:Int→Bool) (n:Nat)
 | ins (C dx:Addr) (fs:List (Str × V))
 | own (x:Addr)
 | xd (fs:List (Str × V))
 | met (f x:Addr)
 | rng (lo hi:Int)
 | frz (o:Obj) (u:HO)
 | tbl (ps:Array Value)
 | ext (φ:Heap→Prop)
abbrev Hp:=Addr→Option HO
def upd (H:Hp) (a:Addr) (o:HO):Hp:=fun b=>if b=a then some o else H b
theorem aN {H:Hp} {a:Addr} {o:HO}:upd H a o a=some o:=by unfold upd; rw [if_pos rfl]
theorem aM {H:Hp} {a b:Addr} {o:HO} (h:b≠a):upd H a o b=H b:=by unfold upd; rw [if_neg h]
theorem ID {H:Hp} {a b:Addr} {o u:HO} (h:H a=some o) (h':H b=some u) (d:o≠u):a≠b:=by
 intro e; subst e; rw [h] at h'; exact d (Option.some.inj h')
theorem bG {H:Hp} {a b:Addr} {o:HO} (h:H a=some o) (h':H b=none):a≠b:=by
 intro e; subst e; rw [h] at h'; cases h'
def IsTupN (h:Heap) (a:Addr) (its:Array Value):Prop:=∃ o,h.get? a=some o∧o.cls=.type "tuple"∧∃ n,o.data=.seq its n∧o.dict=none
theorem IsTupN.tup {h:Heap} {a:Addr} {its:Array Value} (x:IsTupN h a its):IsTup h a its:=by
 obtain ⟨o,h1,h2,n,h3,_⟩:=x
 exact ⟨o,h1,h2,n,h3⟩
theorem IsTupN.lt {h:Heap} {a:Addr} {its:Array Value} (x:IsTupN h a its):a < h.objs.size:=Heap.lt_size x.choose_spec.1
theorem IsTupN.new (h:Heap) (its:Array Value):IsTupN (h.push { cls:=.type "tuple",data:=.seq its }) h.objs.size its:=⟨_,Heap.get?_push_size _ rfl,rfl,_,rfl,rfl⟩
section
variable (P:Program) (w:World)
def ObjOk (H:Hp) (h:Heap) (a:Addr):HO→Prop
 | .lst xs=>xs.length≤sizeLine∧∃ (its:List Value) (n:Nat),Vals xs its∧h.get? a=some { cls:=.type "list",data:=.seq its.toArray n }
 | .tup xs=>xs.length≤sizeLine∧∃ its:List Value,Vals xs its∧IsTupN h a its.toArray
 | .dK kvs=>kvs.length≤sizeLine∧(a == sysModules)=false∧∃ vs,KV kvs vs∧h.DictOf (bA P w) a vs
 | .dT kvs=>kvs.length≤sizeLine∧(a == sysModules)=false∧∃ xs:List (List Key × Addr × Value),
   Paired (fun (p:List Key × V) (q:List Key × Addr × Value)=>p.1=q.1∧H q.2.1=some (.tup (p.1.map kV))∧RelV p.2 q.2.2) kvs xs ∧
   ∃ o es ep,h.get? a=some o∧o.ExactDict∧o.data=.dict es ep∧es.toList=xs.map (entryOfKey (tupleKind (bA P w)))∧(xs.map (·.1)).Nodup
 | .set S n=>h.SetOf (intKind P w) a S n
 | .ins C dx fs=>H dx=some (.own a)∧fs.length≤1000∧dx≠a∧h.get? a=some (PySem.W.instObj C dx) ∧
   ∃ mA,h.Ns1 dx mA∧(∀ f,RelO (fs.lookup f) (mA f))∧PySem.Within mA (fs.map (·.1))
 | .own _=>∃ o,h.get? a=some o
 | .xd fs=>∃ mA,h.Ns1 a mA∧∀ f,RelO (fs.lookup f) (mA f)
 | .rng lo hi=>∃ t u v,h.get? a=some { cls:=.type "range",data:=.fields #[.int lo t,.int hi u,.int 1 v] }
 | .frz o u=>h.get? a=some o∧ObjOk H h a u
 | .tbl ps=>h.get? a=some { cls:=.none,data:=.fields ps }
 | .met f x=>h.get? a=some (PySem.W.methodObj (.ref f) (.ref x))
 | .ext φ=>φ h∧(∃ o,h.get? a=some o)∧∀ h1 h2:Heap,φ h1→(∀ o,h1.get? a=some o→h2.get? a=some o)→φ h2
def HOk (H:Hp) (h:Heap):Prop:=∀ a o,H a=some o→ObjOk P w H h a o
end
section
variable {P:Program} {w:World} {H H':Hp} {h h':Heap} {a:Addr} {o:HO}
theorem ObjOk.lt (x:ObjOk P w H h a o):a < h.objs.size:=by
 cases o with
 | lst xs=>obtain ⟨_,_,_,_,e⟩:=x; exact Heap.lt_size e
 | tup xs=>obtain ⟨_,_,_,p⟩:=x; exact p.lt
 | dK kvs=>obtain ⟨_,_,_,_,o,_,_,e,_⟩:=x; exact Heap.lt_size e
 | dT kvs=>obtain ⟨_,_,_,_,o,_,_,e,_⟩:=x; exact Heap.lt_size e
 | set S n=>obtain ⟨o,_,_,_,e,_⟩:=x; exact Heap.lt_size e
 | ins C dx fs=>obtain ⟨_,_,_,e,_⟩:=x; exact Heap.lt_size e
 | own y=>obtain ⟨_,e⟩:=x; exact Heap.lt_size e
 | xd fs=>obtain ⟨_,⟨_,_,_,e,_⟩,_⟩:=x; exact Heap.lt_size e
 | rng lo hi=>obtain ⟨_,_,_,e⟩:=x; exact Heap.lt_size e
 | frz ob u=>obtain ⟨e,_⟩:=x; exact Heap.lt_size e
 | tbl ps=>exact Heap.lt_size (show h.get? a=some _ from x)
 | met f y=>exact Heap.lt_size (show h.get? a=some _ from x)
 | ext φ=>obtain ⟨_,⟨_,e⟩,_⟩:=x; exact Heap.lt_size e
theorem Paired.mapP {α β:Type} {F G:α→β→Prop}:∀ {l₁:List α} {l₂:List β},Paired F l₁ l₂→(∀ a b,F a b→G a b)→Paired G l₁ l₂
 | _,_,.nil,_=>.nil
 | _,_,.cons r t,f=>.cons (f _ _ r) (Paired.mapP t f)
theorem ObjOk.stay (x:ObjOk P w H h a o) (k:∀ b u,(b=a∨H b=some (.own a))→h.get? b=some u→h'.get? b=some u)
  (ho:∀ b,H b=some (.own a)→H' b=some (.own a)) (ht:∀ b xs,H b=some (.tup xs)→H' b=some (.tup xs)):ObjOk P w H' h' a o:=by
 induction o with
 | lst xs=>obtain ⟨z,its,n,r,e⟩:=x; exact ⟨z,its,n,r,k _ _ (.inl rfl) e⟩
 | tup xs=>obtain ⟨z,its,r,ob,e,c⟩:=x; exact ⟨z,its,r,ob,k _ _ (.inl rfl) e,c⟩
 | dK kvs=>obtain ⟨z,y,vs,r,ob,es,ep,e,c⟩:=x; exact ⟨z,y,vs,r,ob,es,ep,k _ _ (.inl rfl) e,c⟩
 | dT kvs =>
  obtain ⟨z,y,xs,r,ob,es,ep,e,c⟩:=x
  exact ⟨z,y,xs,Paired.mapP r fun p q z=>⟨z.1,ht _ _ z.2.1,z.2.2⟩,ob,es,ep,k _ _ (.inl rfl) e,c⟩
 | set S n=>obtain ⟨ob,es,ep,t,e,c⟩:=x; exact ⟨ob,es,ep,t,k _ _ (.inl rfl) e,c⟩
 | ins C dx fs =>
  obtain ⟨d,z,ne,e,mA,⟨od,es,ep,e2,c⟩,r⟩:=x
  exact ⟨ho _ d,z,ne,k _ _ (.inl rfl) e,mA,⟨od,es,ep,k _ _ (.inr d) e2,c⟩,r⟩
 | own y=>obtain ⟨ob,e⟩:=x; exact ⟨ob,k _ _ (.inl rfl) e⟩
 | xd fs=>obtain ⟨mA,⟨od,es,ep,e,c⟩,r⟩:=x; exact ⟨mA,⟨od,es,ep,k _ _ (.inl rfl) e,c⟩,r⟩
 | rng lo hi=>obtain ⟨t,u,v,e⟩:=x; exact ⟨t,u,v,k _ _ (.inl rfl) e⟩
 | frz ob u ih=>obtain ⟨e,q⟩:=x; exact ⟨k _ _ (.inl rfl) e,ih q⟩
 | tbl ps =>
  have e:h.get? a=some { cls:=.none,data:=.fields ps }:=x
  show h'.get? a=some { cls:=.none,data:=.fields ps }
  exact k a _ (.inl rfl) e
 | met f y =>
  have e:h.get? a=some (PySem.W.methodObj (.ref f) (.ref y)):=x
  show h'.get? a=some (PySem.W.methodObj (.ref f) (.ref y))
  exact k a _ (.inl rfl) e
 | ext φ=>obtain ⟨p,⟨o,e⟩,st⟩:=x; exact ⟨st _ _ p fun o q=>k _ _ (.inl rfl) q,⟨o,k _ _ (.inl rfl) e⟩,st⟩
theorem HOk.lt (x:HOk P w H h) (e:H a=some o):a < h.objs.size:=(x a o e).lt
theorem HOk.fresh (x:HOk P w H h) (e:h.objs.size≤a):H a=none:=by
 cases q:H a with
 | none=>rfl
 | some u=>exact absurd (Nat.lt_of_lt_of_le (x.lt q) e) (Nat.lt_irrefl _)
theorem HOk.kept (x:HOk P w H h) (k:∀ b u,h.get? b=some u→h'.get? b=some u):HOk P w H h':=fun a o e =>
 (x a o e).stay (fun b u _ q=>k b u q) (fun _ q=>q) fun _ _ q=>q
theorem HOk.laid (x:HOk P w H h) (k:∀ b u,h.get? b=some u→h'.get? b=some u) (hp:h.objs.size≤a) (new:ObjOk P w (upd H a o) h' a o):HOk P w (upd H a o) h':=fun b u e=>by
 have hn:=x.fresh hp
 by_cases hb:b=a
 ·subst hb; rw [aN] at e; cases e; exact new
 ·rw [aM hb] at e
  exact (x b u e).stay (fun c v _ q=>k c v q) (fun c q=>by rw [aM (bG q hn)]; exact q) fun c xs q=>by rw [aM (bG q hn)]; exact q
end
def Rd (H:Hp) (a:Addr) (u:HO):Prop:=H a=some u∨∃ o,H a=some (.frz o u)
theorem Rd.ok {P:Program} {w:World} {H:Hp} {h:Heap} {a:Addr} {u:HO} (r:Rd H a u) (x:HOk P w H h):ObjOk P w H h a u:=by
 rcases r with r | ⟨o,r⟩
 ·exact x a u r
 ·obtain ⟨_,q⟩:=x a _ r
  exact q
def Mut:Option HO→Prop
 | some (.lst _)=>True
 | some (.dK _)=>True
 | some (.dT _)=>True
 | some (.set _ _)=>True
 | some (.ins _ _ _)=>True
 | some (.ext _)=>True
 | _=>False
section
variable {P:Program} {w:World} {H:Hp} {h h':Heap} {x e:Addr} {o':HO}
theorem HOk.write (ok:HOk P w H h) (mu:Mut (H x)) (he:e=x∨H e=some (.own x)) (k:∀ b u,b≠e→h.get? b=some u→h'.get? b=some u) (heo:∃ u,h'.get? e=some u)
  (new:ObjOk P w (upd H x o') h' x o'):HOk P w (upd H x o') h':=fun b u q=>by
 have nown:∀ c y,H c=some (.own y)→c≠x:=fun c y r z=>by subst z; rw [r] at mu; exact mu
 have ntup:∀ c xs,H c=some (.tup xs)→c≠x:=fun c xs r z=>by subst z; rw [r] at mu; exact mu
 by_cases hb:b=x
 ·subst hb; rw [aN] at q; cases q; exact new
 ·rw [aM hb] at q
  by_cases hbe:b=e
  ·have q':H b=some (.own x):=by
    rcases he with z | z
    ·exact absurd (hbe.trans z) hb
    ·rw [hbe]; exact z
   rw [q] at q'; cases q'
   obtain ⟨v,hv⟩:=heo
   exact ⟨v,by rw [hbe]; exact hv⟩
  ·refine (ok b u q).stay (fun c v hc r=>k c v ?_ r) (fun c r=>by rw [aM (nown c b r)]; exact r) fun c xs r=>by rw [aM (ntup c xs r)]; exact r
   rcases hc with rfl | hc
   ·exact hbe
   ·rintro rfl
    rcases he with z | z
    ·exact nown c b hc z
    ·rw [hc] at z; cases z; exact hb rfl
end
structure Un (fs ex:List Addr) (H H':Hp) (h h':Heap):Prop where
 keep:∀ b o,h.get? b=some o→H b=none→b ∉ fs→b ∉ ex→h'.get? b=some o
 slot:∀ b o,h.get? b=some o→H b=none→b∈fs→b ∉ ex→∃ sl,h'.get? b=some { o with slots:=sl }
 free:∀ b o,h.get? b=some o→H b=none→b ∉ ex→H' b=none
 there:∀ b o,h.get? b=some o→b ∉ ex→∃ o',h'.get? b=some o'
 tups:∀ b xs,H b=some (.tup xs)→H' b=some (.tup xs)
 frzs:∀ b o u,H b=some (.frz o u)→H' b=some (.frz o u)
 tbls:∀ b ps,H b=some (.tbl ps)→∃ more,H' b=some (.tbl (ps++more))
section
variable {fs fs' ex ex':List Addr} {H H1 H2:Hp} {h h1 h2 h':Heap} {a x e:Addr} {o:HO}
theorem Un.any (u:Un fs ex H H1 h h1) {b:Addr} {ob:Obj} (q:h.get? b=some ob) (n:H b=none) (hx:b ∉ ex):∃ sl,h1.get? b=some { ob with slots:=sl }:=by
 by_cases hb:b∈fs
 ·exact u.slot b ob q n hb hx
 ·exact ⟨ob.slots,u.keep b ob q n hb hx⟩
theorem Un.trans (a:Un fs ex H H1 h h1) (b:Un fs ex H1 H2 h1 h2):Un fs ex H H2 h h2 where
 keep:=fun c ob q n hc hx=>b.keep c ob (a.keep c ob q n hc hx) (a.free c ob q n hx) hc hx
 slot:=fun c ob q n hc hx=>by
  obtain ⟨sl,e1⟩:=a.slot c ob q n hc hx
  obtain ⟨sl',e2⟩:=b.slot c _ e1 (a.free c ob q n hx) hc hx
  exact ⟨sl',e2⟩
 free:=fun c ob q n hx=>by
  obtain ⟨o',e1⟩:=a.there c ob q hx
  exact b.free c o' e1 (a.free c ob q n hx) hx
 there:=fun c ob q hx=>by
  obtain ⟨o',e1⟩:=a.there c ob q hx
  exact b.there c o' e1 hx
 tups:=fun c xs q=>b.tups c xs (a.tups c xs q)
 frzs:=fun c ob xs q=>b.frzs c ob xs (a.frzs c ob xs q)
 tbls:=fun c ps q=>by
  obtain ⟨m1,e1⟩:=a.tbls c ps q
  obtain ⟨m2,e2⟩:=b.tbls c _ e1
  exact ⟨m1++m2,by rw [e2,Array.append_assoc]⟩
theorem Un.kept (k:∀ b u,h.get? b=some u→h'.get? b=some u):Un fs ex H H h h' :=
 ⟨fun b ob q _ _ _=>k b ob q,fun b ob q _ _ _=>⟨ob.slots,k b ob q⟩,fun _ _ _ n _=>n,fun b ob q _=>⟨ob,k b ob q⟩,fun _ _ q=>q,fun _ _ _ q=>q,fun _ ps q=>⟨#[],by rw [q]; simp⟩⟩
theorem Un.refl:Un fs ex H H h h:=Un.kept fun _ _ q=>q
theorem Un.laid (k:∀ b u,h.get? b=some u→h'.get? b=some u) (hp:h.objs.size≤a) (hn:H a=none):Un fs ex H (upd H a o) h h' where
 keep:=fun b u q _ _ _=>k b u q
 slot:=fun b u q _ _ _=>⟨u.slots,k b u q⟩
 free:=fun b u q n _=>by rw [aM (Nat.ne_of_lt (Nat.lt_of_lt_of_le (Heap.lt_size q) hp))]; exact n
 there:=fun b u q _=>⟨u,k b u q⟩
 tups:=fun b xs q=>by rw [aM (bG q hn)]; exact q
 frzs:=fun b u xs q=>by rw [aM (bG q hn)]; exact q
 tbls:=fun b ps q=>⟨#[],by rw [aM (bG q hn),q]; simp⟩
theorem Un.write (mu:Mut (H x)) (he:e=x∨H e=some (.own x)) (k:∀ b u,b≠e→h.get? b=some u→h'.get? b=some u) (heo:∃ u,h'.get? e=some u):Un fs ex H (upd H x o) h h':=by
 have hx:∀ b,H b=none→b≠x:=fun b n z=>by subst z; rw [n] at mu; exact mu
 have hb:∀ b,H b=none→b≠e:=fun b n z=>by
  subst z
  rcases he with r | r
  ·exact hx b n r
  ·rw [n] at r; cases r
 have hm:∀ b u,H b=some u→¬ Mut (some u)→b≠x:=fun b u q nm z=>by subst z; rw [q] at mu; exact nm mu
 refine ⟨fun b u q n _ _=>k b u (hb b n) q,fun b u q n _ _=>⟨u.slots,k b u (hb b n) q⟩,fun b u q n _=>by rw [aM (hx b n)]; exact n,fun b u q _=>?_,
  fun b xs q=>by rw [aM (hm b _ q fun z=>z)]; exact q,fun b u xs q=>by rw [aM (hm b _ q fun z=>z)]; exact q,fun b ps q=>⟨#[],by rw [aM (hm b _ q fun z=>z),q]; simp⟩⟩
 by_cases hbe:b=e
 ·subst hbe; exact heo
 ·exact ⟨u,k b u hbe q⟩
end
def trk (h:Heap) (H:Hp):List Addr:=(List.range h.objs.size).filter fun a=>(H a).isSome
def jq (h:Heap) (H:Hp):Heap:=PySem.W.hideAll h (trk h H)
theorem uA (h:Heap) (H:Hp):(jq h H).objs.size=h.objs.size:=PySem.W.hideAll_size _ _
theorem v6 {h:Heap} {H:Hp} {b:Addr} {o:Obj} (e:h.get? b=some o) (n:H b=none):(jq h H).get? b=some o :=
 PySem.W.hideAll_get _ e fun hm=>by
  have q:(H b).isSome=true:=(List.mem_filter.mp hm).2
  rw [n] at q; simp at q
theorem CV {h:Heap} {H:Hp} {b:Addr} {o:Obj} (e:(jq h H).get? b=some o):h.get? b=some o∧H b=none:=by
 have e':h.get? b=some o:=PySem.W.of_hideAll (trk h H) e
 refine ⟨e',?_⟩
 cases q:H b with
 | none=>rfl
 | some x =>
  have hm:b∈trk h H:=List.mem_filter.mpr ⟨List.mem_range.mpr (Heap.lt_size e'),by simp [q]⟩
  have z:(jq h H).get? b=none:=PySem.W.hideAll_none (trk h H) hm
  rw [z] at e; cases e
def D3 (g h:Heap) (L:Addr):List (Addr × Obj):=(List.range h.objs.size).filterMap fun a=>if a=L∨(g.get? a).isSome=true then none else (h.get? a).map fun o=>(a,o)
def rest (g h:Heap) (L d:Addr):List (Addr × Obj):=(D3 g h L).filter fun p=>decide (p.1≠d)
end L2
namespace L2
open PySem PySem.Spec PyProof.Rows
structure Mod (K:PySem.W.Frag) (mg:Str→Option Value) (base:Heap):Prop where
 kin:K.In base
 glob:base.Ns mainGlobals mg
 blt:∃ mb,base.Ns builtinsNs mb∧∀ x:Str,x≠"__name__"→mb x=bootBuiltins x
 nolimit:base.NoLimit
 mods:∃ mm,base.Ns sysModules mm
structure Cx where
 prog:Program
 w:World
 K:PySem.W.Frag
 mg:Str→Option Value
 base:Heap
 A:Around
 N:List Str
 s₀:Shared
 H₀:Hp
 env:Env
 outer:List Env
 stack:List Env
 ex:List Addr
 fn:Str→Bool
 calm:Bool
 pn:List (Addr × Obj)
 xe:Value→Shared→Prop
def frs (l:List Env):List Addr:=l.filterMap (·.frame)
abbrev Cx.fs (X:Cx):List Addr:=frs X.outer
def Vis (sc:Scope) (x:Str):Prop:=sc.names.lookup x=some .local∨sc.names.lookup x=some .cell∨sc.names.lookup x=some .free
def Loc (sc:Scope) (x:Str):Prop:=sc.names.lookup x=some .local∨sc.names.lookup x=some .cell
def JI (env:Env) (h:Heap) (m:Str→Option Value) (x:Str) (u:Value):Prop :=
 (env.kindOf x=some .local∧m x=some u)∨((env.kindOf x=some .cell∨env.kindOf x=some .free)∧∃ c,env.cells.lookup x=some c∧h.IsCell c (some u))
structure Cx.Ok (X:Cx):Prop where
 mod:Mod X.K X.mg X.base
 kind:X.env.scope.kind=.function
 glob:X.env.globals=mainGlobals
 blt:X.env.builtins=builtinsNs
 above:X.s₀.heap.objs.size≤X.env.locals
 inj:∀ x y c,X.env.cells.lookup x=some c→X.env.cells.lookup y=some c→x=y
 has:∀ x,(X.env.kindOf x=some .cell∨X.env.kindOf x=some .free)→∃ c,X.env.cells.lookup x=some c
 cab:∀ x c,X.fn x=true→X.env.cells.lookup x=some c→X.s₀.heap.objs.size≤c
 hd:X.calm=true→X.A.handled=none
 frames:X.A.frames=some X.stack
 stk:X.stack=X.outer∨(X.stack=X.env :: X.outer∧X.env.frame=some X.env.locals)
 exf:∀ b∈X.ex,b≠X.env.locals∧∀ x c,X.env.cells.lookup x=some c→c≠b
 bs:∀ b o,X.base.get? b=some o→X.s₀.heap.get? b=some o∧X.H₀ b=none
 bsz:X.base.objs.size≤X.s₀.heap.objs.size
 noex:∀ b o,X.base.get? b=some o→b ∉ X.ex
 exfs:∀ b∈X.ex,b ∉ X.fs
 funs:X.s₀.heap.FunFrames X.base X.outer
 frf:∀ b∈X.fs,X.H₀ b=none
structure Inv (X:Cx) (pins:List (Addr × Obj)) (σ:List (Option V)) (H:Hp) (s:Shared):Prop where
 ok:X.Ok
 os:s.os=X.s₀.os
 bare:AllBare s.gens
 base:Un X.fs X.ex X.H₀ H X.s₀.heap s.heap
 loc:∃ m,s.heap.Ns X.env.locals m∧∀ (i:Nat) (x:Str) (v:V),X.N[i]?=some x→σ[i]?=some (some v)→Vis X.env.scope x→∃ u,RelV v u∧JI X.env s.heap m x u
 cell:∀ x c,X.env.cells.lookup x=some c→∃ v,s.heap.IsCell c v
 free:H X.env.locals=none
 freeC:∀ x c,X.env.cells.lookup x=some c→H c=none
 pin:∀ p∈X.pn++pins,s.heap.get? p.1=some p.2∧H p.1=none∧p.1≠X.env.locals∧p.1 ∉ X.fs∧∀ v,p.2.data≠.cell v
 hok:HOk X.prog X.w H s.heap
 len:σ.length=X.N.length
section
variable {X:Cx} {pins:List (Addr × Obj)} {σ:List (Option V)} {H H':Hp} {s:Shared} {h':Heap}
theorem Cx.Ok.nofr (ok:X.Ok) {b:Addr} {o:Obj} (e:X.base.get? b=some o):b ∉ X.fs:=fun hb=>by
 have:=(ok.funs.mem hb).1
 rw [e] at this; cases this
theorem Inv.bs (I:Inv X pins σ H s):∀ b o,X.base.get? b=some o→s.heap.get? b=some o∧H b=none:=fun b o e =>
 ⟨I.base.keep b o (I.ok.bs b o e).1 (I.ok.bs b o e).2 (I.ok.nofr e) (I.ok.noex b o e),I.base.free b o (I.ok.bs b o e).1 (I.ok.bs b o e).2 (I.ok.noex b o e)⟩
theorem Inv.bk (I:Inv X pins σ H s):∀ b o,X.base.get? b=some o→s.heap.get? b=some o:=fun b o e=>(I.bs b o e).1
theorem Inv.mod (I:Inv X pins σ H s):Mod X.K X.mg X.base:=I.ok.mod
theorem Inv.kIn (I:Inv X pins σ H s):X.K.In s.heap:=I.ok.mod.kin.keeps I.bk
theorem Inv.lt (I:Inv X pins σ H s):X.env.locals < s.heap.objs.size:=let ⟨_,hn,_⟩:=I.loc; hn.lt
theorem Inv.sz (I:Inv X pins σ H s):X.s₀.heap.objs.size≤s.heap.objs.size:=Nat.le_trans I.ok.above (Nat.le_of_lt I.lt)
theorem Inv.nofs (I:Inv X pins σ H s) {a:Addr} (h:s.heap.objs.size≤a):a ∉ X.fs:=fun hb=>by
 obtain ⟨_,o,ho,_⟩:=I.ok.funs.mem hb
 exact absurd (Nat.lt_of_lt_of_le (Heap.lt_size ho) (Nat.le_trans I.sz h)) (Nat.lt_irrefl _)
theorem Inv.cne (I:Inv X pins σ H s):∀ x c,X.env.cells.lookup x=some c→c≠X.env.locals:=fun x c e z=>by
 obtain ⟨v,o,ho,hd⟩:=I.cell x c e
 obtain ⟨m,⟨o',es,ep,ho',hd',_⟩,_⟩:=I.loc
 rw [z,ho'] at ho; cases ho; rw [hd'] at hd; cases hd
theorem Inv.funs (I:Inv X pins σ H s):s.heap.FunFrames X.base X.outer:=by
 have all:∀ (l:List Env),(∀ b∈frs l,b∈X.fs)→X.s₀.heap.FunFrames X.base l→s.heap.FunFrames X.base l:=by
  intro l
  induction l with
  | nil=>intro _ _; trivial
  | cons env r ih =>
   intro hs hl
   obtain ⟨hk,⟨L,o,hf,hn,ho,hd⟩,hr⟩:=hl
   have hL:L∈X.fs:=hs L (by unfold frs; rw [List.filterMap_cons,hf]; exact List.mem_cons_self)
   obtain ⟨sl,e⟩:=I.base.slot L o ho (I.ok.frf L hL) hL fun z=>I.ok.exfs L z hL
   exact ⟨hk,⟨L,_,hf,hn,e,hd⟩,ih (fun b hb=>hs b (by unfold frs; rw [List.filterMap_cons,hf]; exact List.mem_cons_of_mem _ hb)) hr⟩
 exact all X.outer (fun _ hb=>hb) I.ok.funs
theorem Inv.stack (I:Inv X pins σ H s):s.heap.FunFrames X.base X.stack:=by
 rcases I.ok.stk with e | ⟨e,hf⟩
 ·rw [e]; exact I.funs
 ·rw [e]
  obtain ⟨m,hn,_⟩:=I.loc
  refine .cons (by rw [I.ok.kind]; decide) hf hn ?_ I.funs
  exact Heap.get?_none_of_le (Nat.le_trans I.ok.bsz I.ok.above)
theorem Inv.stkSub (I:Inv X pins σ H s):∀ b∈frs X.stack,b∈X.env.locals :: X.fs:=fun b hb=>by
 rcases I.ok.stk with e | ⟨e,hf⟩
 ·rw [e] at hb; exact List.mem_cons_of_mem _ hb
 ·rw [e] at hb
  unfold frs at hb
  rw [List.filterMap_cons,hf] at hb
  exact hb
theorem Inv.stkFree (I:Inv X pins σ H s):∀ b∈frs X.stack,H b=none:=fun b hb=>by
 rcases List.mem_cons.mp (I.stkSub b hb) with e | hb
 ·rw [e]; exact I.free
 ·obtain ⟨_,o,ho,_⟩:=I.ok.funs.mem hb
  exact I.base.free b o ho (I.ok.frf b hb) fun z=>I.ok.exfs b z hb
theorem Inv.step {g':Array GenState} {t':Nat} {d':Drawn} {ch:List Addr} (I:Inv X pins σ H s)
  (hch:∀ b∈ch,(b∈X.ex∨X.s₀.heap.objs.size≤b)∧b≠X.env.locals∧(∀ x c,X.env.cells.lookup x=some c→c≠b)∧∀ p∈X.pn++pins,p.1≠b)
  (keep:∀ b o,b≠X.env.locals→b ∉ X.fs→b ∉ ch→s.heap.get? b=some o→H b=none→h'.get? b=some o)
  (slot:∀ b o,b≠X.env.locals→b∈X.fs→b ∉ ch→s.heap.get? b=some o→H b=none→∃ sl,h'.get? b=some { o with slots:=sl }) (free:∀ b o,b ∉ ch→s.heap.get? b=some o→H b=none→H' b=none)
  (there:∀ b o,b ∉ ch→s.heap.get? b=some o→∃ o',h'.get? b=some o')
  (tups:∀ b xs,H b=some (.tup xs)→H' b=some (.tup xs)) (frzs:∀ b o u,H b=some (.frz o u)→H' b=some (.frz o u)) (tbls:∀ b ps,H b=some (.tbl ps)→∃ more,H' b=some (.tbl (ps++more)))
  (ns:∀ m,s.heap.Ns X.env.locals m→h'.Ns X.env.locals m) (hok:HOk X.prog X.w H' h') (hg:AllBare g') :
  Inv X pins σ H' { s with heap:=h',gens:=g',drawn:=d',toks:=t' }:=by
 have neL:∀ b o,X.s₀.heap.get? b=some o→b≠X.env.locals:=fun b o e=>Nat.ne_of_lt (Nat.lt_of_lt_of_le (Heap.lt_size e) I.ok.above)
 have neC:∀ b o,X.s₀.heap.get? b=some o→b ∉ X.ex→b ∉ ch:=fun b o e hx hb=>by
  rcases (hch b hb).1 with z | z
  ·exact hx z
  ·exact absurd (Nat.lt_of_lt_of_le (Heap.lt_size e) z) (Nat.lt_irrefl _)
 have cellK:∀ x c,X.env.cells.lookup x=some c→∀ v,s.heap.IsCell c v→h'.IsCell c v:=fun x c e v ⟨o,ho,hd⟩=>by
  have nch:c ∉ ch:=fun z=>(hch c z).2.2.1 x c e rfl
  by_cases hc:c∈X.fs
  ·obtain ⟨sl,q⟩:=slot c o (I.cne x c e) hc nch ho (I.freeC x c e)
   exact ⟨_,q,hd⟩
  ·exact ⟨o,keep c o (I.cne x c e) hc nch ho (I.freeC x c e),hd⟩
 refine ⟨I.ok,I.os,hg,⟨fun b o e n hb hx=>?_,fun b o e n hb hx=>?_,fun b o e n hx=>?_,fun b o e hx=>?_,fun b xs e=>tups b xs (I.base.tups b xs e),fun b o xs e=>frzs b o xs (I.base.frzs b o xs e),fun b ps e=>?_⟩,?_,fun x c e=>?_,?_,fun x c e=>?_,fun p hp=>?_,hok,I.len⟩
 ·exact keep b o (neL b o e) hb (neC b o e hx) (I.base.keep b o e n hb hx) (I.base.free b o e n hx)
 ·obtain ⟨sl,e1⟩:=I.base.slot b o e n hb hx
  obtain ⟨sl',e2⟩:=slot b _ (neL b o e) hb (neC b o e hx) e1 (I.base.free b o e n hx)
  exact ⟨sl',e2⟩
 ·obtain ⟨o',e1⟩:=I.base.there b o e hx
  exact free b o' (neC b o e hx) e1 (I.base.free b o e n hx)
 ·obtain ⟨o',e1⟩:=I.base.there b o e hx
  exact there b o' (neC b o e hx) e1
 ·obtain ⟨m1,e1⟩:=I.base.tbls b ps e
  obtain ⟨m2,e2⟩:=tbls b _ e1
  exact ⟨m1++m2,by rw [e2,Array.append_assoc]⟩
 ·obtain ⟨m,hn,hl⟩:=I.loc
  refine ⟨m,ns m hn,fun i x v e1 e2 e3=>?_⟩
  obtain ⟨u,r,l⟩:=hl i x v e1 e2 e3
  refine ⟨u,r,?_⟩
  rcases l with l | ⟨k,c,e,z⟩
  ·exact .inl l
  ·exact .inr ⟨k,c,e,cellK x c e _ z⟩
 ·obtain ⟨v,z⟩:=I.cell x c e
  exact ⟨v,cellK x c e v z⟩
 ·obtain ⟨m,⟨o,_,_,ho,_⟩,_⟩:=I.loc
  exact free _ o (fun z=>(hch _ z).2.1 rfl) ho I.free
 ·obtain ⟨v,o,ho,hd⟩:=I.cell x c e
  exact free c o (fun z=>(hch c z).2.2.1 x c e rfl) ho (I.freeC x c e)
 ·obtain ⟨e,n,ne,nf,d⟩:=I.pin p hp
  have nch:p.1 ∉ ch:=fun z=>(hch p.1 z).2.2.2 p hp rfl
  exact ⟨keep p.1 p.2 ne nf nch e n,free p.1 p.2 nch e n,ne,nf,d⟩
theorem Inv.un {t':Nat} (I:Inv X pins σ H s) (u:Un X.fs [] H H' s.heap h') (hok:HOk X.prog X.w H' h'):Inv X pins σ H' { s with heap:=h',toks:=t' }:=by
 obtain ⟨m,⟨o,es,ep,ho,r⟩,_⟩:=id I.loc
 obtain ⟨sl,hL⟩:=u.any ho I.free (by simp)
 exact I.step (g':=s.gens) (d':=s.drawn) (ch:=[]) (fun _ z=>nomatch z) (fun b o _ hb _ e n=>u.keep b o e n hb (by simp)) (fun b o _ hb _ e n=>u.slot b o e n hb (by simp)) (fun b o _ e n=>u.free b o e n (by simp)) (fun b o _ e=>u.there b o e (by simp)) u.tups u.frzs u.tbls (fun m' hm=>by
  obtain ⟨o',es',ep',ho',r'⟩:=hm
  rw [ho] at ho'; cases ho'
  exact ⟨_,es',ep',hL,r'⟩) hok I.bare
theorem Inv.call {g':Array GenState} {t':Nat} {d':Drawn} {ch:List Addr} (I:Inv X pins σ H s) (u:Un (frs X.stack) ch H H' s.heap h') (hok:HOk X.prog X.w H' h') (hg:AllBare g')
  (hch:∀ b∈ch,(b∈X.ex∨X.s₀.heap.objs.size≤b)∧b≠X.env.locals∧(∀ x c,X.env.cells.lookup x=some c→c≠b)∧∀ p∈X.pn++pins,p.1≠b) :
  Inv X pins σ H' { s with heap:=h',gens:=g',drawn:=d',toks:=t' }:=by
 obtain ⟨m,⟨o,es,ep,ho,r⟩,_⟩:=id I.loc
 obtain ⟨sl,hL⟩:=u.any ho I.free fun z=>(hch _ z).2.1 rfl
 exact I.step (ch:=ch) hch (fun b o hL hb hc e n=>u.keep b o e n (fun z=>(List.mem_cons.mp (I.stkSub b z)).elim hL hb) hc) (fun b o _ _ hc e n=>u.any e n hc) (fun b o hc e n=>u.free b o e n hc) (fun b o hc e=>u.there b o e hc) u.tups u.frzs u.tbls (fun m' hm=>by
  obtain ⟨o',es',ep',ho',r'⟩:=hm
  rw [ho] at ho'; cases ho'
  exact ⟨_,es',ep',hL,r'⟩) hok hg
theorem Inv.turned {t':Nat} {it:Addr} (I:Inv X pins σ H s) (k:∀ b o,b≠it→s.heap.get? b=some o→h'.get? b=some o) (hn:H it=none) (hL:it≠X.env.locals)
  (h1:it∈X.ex∨X.s₀.heap.objs.size≤it) (h2:∀ x c,X.env.cells.lookup x=some c→c≠it) (h3:∀ p∈X.pn++pins,p.1≠it):Inv X pins σ H { s with heap:=h',toks:=t' }:=by
 have nit:∀ b u,H b=some u→b≠it:=fun b u e z=>by rw [z,hn] at e; cases e
 refine I.step (g':=s.gens) (d':=s.drawn) (ch:=[it]) (fun b hb=>?_) (fun b o _ _ hc e _=>k b o (fun z=>hc (by simp [z])) e) (fun b o _ _ hc e _=>⟨o.slots,k b o (fun z=>hc (by simp [z])) e⟩) (fun _ _ _ _ n=>n)
  (fun b o hc e=>⟨o,k b o (fun z=>hc (by simp [z])) e⟩) (fun _ _ e=>e) (fun _ _ _ e=>e) (fun b ps e=>⟨#[],by rw [e]; simp⟩) (fun m hm=>?_) (fun b u e=>?_) I.bare
 ·have e:b=it:=by simpa using hb
  subst e
  exact ⟨h1,hL,h2,h3⟩
 ·obtain ⟨o,es,ep,ho,r⟩:=hm
  exact ⟨o,es,ep,k _ o (Ne.symm hL) ho,r⟩
 ·refine (I.hok b u e).stay (fun c v hc q=>k c v ?_ q) (fun _ q=>q) fun _ _ q=>q
  rcases hc with z | z
  ·rw [z]; exact nit b u e
  ·exact nit c _ z
theorem Inv.tok (I:Inv X pins σ H s) (t:Nat):Inv X pins σ H { s with toks:=t }:=I.un (h':=s.heap) (t':=t) Un.refl I.hok
theorem Inv.kept {t':Nat} (I:Inv X pins σ H s) (k:∀ b u,s.heap.get? b=some u→h'.get? b=some u):Inv X pins σ H { s with heap:=h',toks:=t' }:=I.un (Un.kept k) (I.hok.kept k)
theorem Inv.laid {a:Addr} {o:HO} {t':Nat} (I:Inv X pins σ H s) (k:∀ b u,s.heap.get? b=some u→h'.get? b=some u) (hp:s.heap.objs.size≤a) (new:ObjOk X.prog X.w (upd H a o) h' a o) :
  Inv X pins σ (upd H a o) { s with heap:=h',toks:=t' }:=I.un (Un.laid k hp (I.hok.fresh hp)) (I.hok.laid k hp new)
theorem Inv.write {x e:Addr} {o:HO} {t':Nat} (I:Inv X pins σ H s) (mu:Mut (H x)) (he:e=x∨H e=some (.own x)) (k:∀ b u,b≠e→s.heap.get? b=some u→h'.get? b=some u) (heo:∃ u,h'.get? e=some u)
  (new:ObjOk X.prog X.w (upd H x o) h' x o):Inv X pins σ (upd H x o) { s with heap:=h',toks:=t' }:=I.un (Un.write mu he k heo) (I.hok.write mu he k heo new)
theorem Inv.pins_of {pins':List (Addr × Obj)} (I:Inv X pins σ H s) (h:∀ p∈pins',s.heap.get? p.1=some p.2∧H p.1=none∧p.1≠X.env.locals∧p.1 ∉ X.fs∧∀ v,p.2.data≠.cell v):Inv X pins' σ H s :=
 ⟨I.ok,I.os,I.bare,I.base,I.loc,I.cell,I.free,I.freeC,fun p hp=>(List.mem_append.mp hp).elim (fun z=>I.pin p (List.mem_append_left _ z)) (h p),I.hok,I.len⟩
theorem pA {N:List Str} (hN:N.Nodup) {i j:Nat} {x:Str} (a:N[i]?=some x) (b:N[j]?=some x):i=j:=by
 obtain ⟨h1,e1⟩:=List.getElem?_eq_some_iff.mp a
 obtain ⟨h2,e2⟩:=List.getElem?_eq_some_iff.mp b
 exact (List.getElem_inj hN).mp (e1.trans e2.symm)
theorem nE {M:Model} {A:Around} {E:Value→Shared→Prop} {i:Nat} {x:Str} {v:V} {u:Value} {Q:Unit→Shared→Prop} (I:Inv X pins σ H s) (hN:X.N.Nodup) (hi:X.N[i]?=some x) (hx:Loc X.env.scope x) (r:RelV v u)
  (h:∀ s',Inv X pins (σ.set i (some v)) H s'→(∃ a,Heap.SameBut a s.heap s'.heap∧(a=X.env.locals∨X.env.cells.lookup x=some a))→Q () s') (hf:X.fn x=true∨X.env.scope.names.lookup x=some .local:=by first | exact .inl rfl | exact .inr rfl | assumption):wpAny M A (storeName X.env x u) Q E s:=by
 obtain ⟨m,hn,hl⟩:=id I.loc
 have hcls:(X.env.scope.kind == .class || (X.env.scope.kind == .module && X.env.locals != X.env.globals))=false:=by rw [I.ok.kind]; rfl
 have hiσ:i < σ.length:=by rw [I.len]; exact (List.getElem?_eq_some_iff.mp hi).1
 have cne:=I.cne
 have tracked:∀ {a:Addr} {h':Heap},(∃ o,s.heap.get? a=some o∧H a=none)→Heap.SameBut a s.heap h'→HOk X.prog X.w H h':=fun {a h'} ha hs b ob e=>by
  obtain ⟨_,_,hfree⟩:=ha
  refine (I.hok b ob e).stay (fun c w' hc q=>(hs.2 c ?_).trans q) (fun _ q=>q) fun _ _ q=>q
  rintro rfl
  rcases hc with rfl | hc
  ·rw [hfree] at e; cases e
  ·rw [hfree] at hc; cases hc
 rcases hx with hk | hk
 ·refine wpAny_storeName_local hk hn (fun h' hn' hs=>?_) hcls
  obtain ⟨oL,_,_,hoL,_⟩:=id hn
  refine h _ ⟨I.ok,I.os,I.bare,⟨fun b o e n hb hx=>?_,fun b o e n hb hx=>?_,I.base.free,fun b o e hx=>?_,I.base.tups,I.base.frzs,I.base.tbls⟩,⟨_,hn',fun j y v' e1 e2 e3=>?_⟩,fun y c e=>?_,I.free,I.freeC,fun p hp=>?_,tracked ⟨oL,hoL,I.free⟩ hs,by simpa using I.len⟩ ⟨_,hs,.inl rfl⟩
  ·exact (hs.2 b (Nat.ne_of_lt (Nat.lt_of_lt_of_le (Heap.lt_size e) I.ok.above))).trans (I.base.keep b o e n hb hx)
  ·obtain ⟨sl,e1⟩:=I.base.slot b o e n hb hx
   exact ⟨sl,(hs.2 b (Nat.ne_of_lt (Nat.lt_of_lt_of_le (Heap.lt_size e) I.ok.above))).trans e1⟩
  ·obtain ⟨o',e1⟩:=I.base.there b o e hx
   exact ⟨o',(hs.2 b (Nat.ne_of_lt (Nat.lt_of_lt_of_le (Heap.lt_size e) I.ok.above))).trans e1⟩
  ·by_cases hj:j=i
   ·subst hj
    rw [hi] at e1; cases e1
    rw [List.getElem?_set_self hiσ] at e2
    cases e2
    exact ⟨u,r,.inl ⟨hk,by simp⟩⟩
   ·rw [List.getElem?_set_ne (Ne.symm hj)] at e2
    obtain ⟨u',r',q⟩:=hl j y v' e1 e2 e3
    refine ⟨u',r',?_⟩
    rcases q with ⟨k,e⟩ | ⟨k,c,e,z⟩
    ·refine .inl ⟨k,?_⟩
     have:y≠x:=fun e=>hj (pA hN e1 (e ▸ hi))
     simp [this,e]
    ·exact .inr ⟨k,c,e,z.sameBut hs (cne y c e)⟩
  ·obtain ⟨w',z⟩:=I.cell y c e
   exact ⟨w',z.sameBut hs (cne y c e)⟩
  ·obtain ⟨e,n,ne,nf,d⟩:=I.pin p hp
   exact ⟨(hs.2 p.1 ne).trans e,n,ne,nf,d⟩
 ·have hfn:X.fn x=true:=by
   rcases hf with z | z
   ·exact z
   ·rw [z] at hk; cases hk
  obtain ⟨c,hc⟩:=I.ok.has x (.inl hk)
  obtain ⟨w',z⟩:=I.cell x c hc
  refine wpAny_storeName_cell I.ok.kind hk hc z (fun h' hc' hs=>?_)
  obtain ⟨oc,hoc,hocd⟩:=id z
  refine h { s with heap:=h' } ⟨I.ok,I.os,I.bare,⟨fun b o e n hb hx=>?_,fun b o e n hb hx=>?_,I.base.free,fun b o e hx=>?_,I.base.tups,I.base.frzs,I.base.tbls⟩,⟨m,hn.sameBut hs (Ne.symm (cne x c hc)),fun j y v' e1 e2 e3=>?_⟩,fun y c' e=>?_,I.free,I.freeC,fun p hp=>?_,tracked ⟨oc,hoc,I.freeC x c hc⟩ hs,by simpa using I.len⟩ ⟨c,hs,.inr hc⟩
  ·exact (hs.2 b (Nat.ne_of_lt (Nat.lt_of_lt_of_le (Heap.lt_size e) (I.ok.cab x c hfn hc)))).trans (I.base.keep b o e n hb hx)
  ·obtain ⟨sl,e1⟩:=I.base.slot b o e n hb hx
   exact ⟨sl,(hs.2 b (Nat.ne_of_lt (Nat.lt_of_lt_of_le (Heap.lt_size e) (I.ok.cab x c hfn hc)))).trans e1⟩
  ·obtain ⟨o',e1⟩:=I.base.there b o e hx
   exact ⟨o',(hs.2 b (Nat.ne_of_lt (Nat.lt_of_lt_of_le (Heap.lt_size e) (I.ok.cab x c hfn hc)))).trans e1⟩
  ·by_cases hj:j=i
   ·subst hj
    rw [hi] at e1; cases e1
    rw [List.getElem?_set_self hiσ] at e2
    cases e2
    exact ⟨u,r,.inr ⟨.inl hk,c,hc,hc'⟩⟩
   ·rw [List.getElem?_set_ne (Ne.symm hj)] at e2
    obtain ⟨u',r',q⟩:=hl j y v' e1 e2 e3
    refine ⟨u',r',?_⟩
    rcases q with q | ⟨k,c',e,z'⟩
    ·exact .inl q
    ·refine .inr ⟨k,c',e,z'.sameBut hs ?_⟩
     rintro rfl
     exact hj (pA hN e1 (I.ok.inj _ _ _ e hc ▸ hi))
  ·by_cases hcc:c'=c
   ·subst hcc; exact ⟨_,hc'⟩
   ·obtain ⟨w2,z2⟩:=I.cell y c' e
    exact ⟨w2,z2.sameBut hs hcc⟩
  ·obtain ⟨e,n,ne,nf,d⟩:=I.pin p hp
   refine ⟨(hs.2 p.1 ?_).trans e,n,ne,nf,d⟩
   intro q
   rw [q,hoc] at e
   have q':oc=p.2:=Option.some.inj e
   exact d w' (by rw [← q']; exact hocd)
theorem oT {M:Model} {A:Around} {E:Value→Shared→Prop} {i:Nat} {x:Str} {v:V} {u:Value} {Q:Unit→Shared→Prop} (I:Inv X pins σ H s) (hN:X.N.Nodup) (hi:X.N[i]?=some x) (hx:Loc X.env.scope x) (r:RelV v u)
  (h:∀ s',Inv X pins (σ.set i (some v)) H s'→Q () s') (hf:X.fn x=true∨X.env.scope.names.lookup x=some .local:=by first | exact .inl rfl | exact .inr rfl | assumption):wpAny M A (storeName X.env x u) Q E s :=
 nE I hN hi hx r (fun s' I' _=>h s' I') hf
theorem Inv.call' {s':Shared} {ch:List Addr} (I:Inv X pins σ H s) (ho:s'.os=s.os) (u:Un (frs X.stack) ch H H' s.heap s'.heap) (hok:HOk X.prog X.w H' s'.heap) (hg:AllBare s'.gens)
  (hch:∀ b∈ch,(b∈X.ex∨X.s₀.heap.objs.size≤b)∧b≠X.env.locals∧(∀ x c,X.env.cells.lookup x=some c→c≠b)∧∀ p∈X.pn++pins,p.1≠b):Inv X pins σ H' s':=by
 obtain ⟨h',g',d',t',o'⟩:=s'
 have e:o'=s.os:=ho
 subst e
 exact I.call (g':=g') (t':=t') (d':=d') u hok hg hch
end
abbrev XK:=Value→Option Addr→Hp→Prop
abbrev St:=List (Option V)
abbrev VK:=V→Hp→Prop
abbrev TE:=St→Hp→VK→Prop
abbrev TT:=St→Hp→(Bool→Hp→Prop)→Prop
abbrev TA:=St→Hp→(List V→Hp→Prop)→Prop
structure Ends where
 nx:St→Hp→Prop
 rt:VK
 bk:St→Hp→Prop:=fun _ _=>False
 ct:St→Hp→Prop:=fun _ _=>False
abbrev TS:=Ends→St→Hp→Prop
def EP (X:Cx) (pins:List (Addr × Obj)) (σ:St) (Q:VK) (u:Value) (s':Shared):Prop:=∃ v H',Inv X pins σ H' s'∧RelV v u∧Q v H'
def TP (X:Cx) (pins:List (Addr × Obj)) (σ:St) (Q:Bool→Hp→Prop) (b:Bool) (s':Shared):Prop:=∃ H',Inv X pins σ H' s'∧Q b H'
def AP (X:Cx) (pins:List (Addr × Obj)) (σ:St) (Q:List V→Hp→Prop) (us:List Value) (s':Shared):Prop:=∃ vs H',Inv X pins σ H' s'∧Vals vs us∧Q vs H'
def SP (X:Cx) (pins:List (Addr × Obj)) (D:Ends) (f:Flow) (s':Shared):Prop :=
 match f with
 | .next=>∃ σ' H',Inv X pins σ' H' s'∧D.nx σ' H'
 | .brk=>∃ σ' H',Inv X pins σ' H' s'∧D.bk σ' H'
 | .cont=>∃ σ' H',Inv X pins σ' H' s'∧D.ct σ' H'
 | .ret u=>∃ v σ' H',Inv X pins σ' H' s'∧RelV v u∧D.rt v H'
def PE (X:Cx) (e:Expr) (t:TE):Prop :=
 ∀ (pins:List (Addr × Obj)) (s:Shared) (σ:St) (H:Hp) (Q:VK),Inv X pins σ H s→t σ H Q→wpAny (model X.prog X.w) X.A (eval e X.env) (EP X pins σ Q) X.xe s
def PT (X:Cx) (e:Expr) (t:TT):Prop :=
 ∀ (pins:List (Addr × Obj)) (s:Shared) (σ:St) (H:Hp) (Q:Bool→Hp→Prop),Inv X pins σ H s→t σ H Q→wpAny (model X.prog X.w) X.A (isTrue e X.env (eval e X.env)) (TP X pins σ Q) X.xe s
def PW (X:Cx) (e:Expr) (t:TT):Prop :=
 ∀ (whole:Sem Value) (pins:List (Addr × Obj)) (s:Shared) (σ:St) (H:Hp) (Q:Bool→Hp→Prop),Inv X pins σ H s→t σ H Q→wpAny (model X.prog X.w) X.A (isTrue e X.env whole) (TP X pins σ Q) X.xe s
theorem PW.pt {X:Cx} {e:Expr} {t:TT} (h:PW X e t):PT X e t:=h _
def PA (X:Cx) (es:List Expr) (t:TA):Prop :=
 ∀ (pos:Pos) (pins:List (Addr × Obj)) (s:Shared) (σ:St) (H:Hp) (Q:List V→Hp→Prop),Inv X pins σ H s→t σ H Q→wpAny (model X.prog X.w) X.A (spliced (backTo pos (starEach es X.env))) (AP X pins σ Q) X.xe s
def PS (X:Cx) (st:Stmt) (t:TS):Prop :=
 ∀ (pins:List (Addr × Obj)) (s:Shared) (σ:St) (H:Hp) (D:Ends),Inv X pins σ H s→t D σ H→wpAny (model X.prog X.w) X.A (exec st X.env) (SP X pins D) X.xe s
def PSs (X:Cx) (st:List Stmt) (t:TS):Prop :=
 ∀ (pins:List (Addr × Obj)) (s:Shared) (σ:St) (H:Hp) (D:Ends),Inv X pins σ H s→t D σ H→wpAny (model X.prog X.w) X.A (execs st X.env) (SP X pins D) X.xe s
theorem thn {α:Type} {t:Sem α} {Q Q':α→Shared→Prop} {M:Model} {A:Around} {E:Value→Shared→Prop} {s:Shared} (h:wpAny M A t Q E s) (hQ:∀ a s,Q a s→Q' a s):wpAny M A t Q' E s:=wpAny_mono h hQ fun _ _ x=>x
end L2
namespace L2
open PySem PySem.Spec PyProof.Rows
section
variable {X:Cx}
def fh (i:Nat):TE:=fun σ H Q=>∃ v,σ[i]?=some (some v)∧Q v H
def tC (v:V):TE:=fun _ H Q=>Q v H
theorem cM {i:Nat} {x:Str} {pos:Pos} (hN:X.N[i]?=some x) (hv:Vis X.env.scope x) (hd:(x == ("__debug__" : Str))=false:=by decide) (hcd:(x == ("__classdict__" : Str))=false:=by decide):PE X (.Name x pos) (fh i):=by
 intro pins s σ H Q I h
 obtain ⟨v,e,h⟩:=h
 obtain ⟨m,hn,hl⟩:=I.loc
 obtain ⟨u,r,l⟩:=hl i x v hN e hv
 have fin:EP X pins σ Q u s:=⟨v,H,I,r,h⟩
 rcases l with ⟨hk,hm⟩ | ⟨hk,c,hc,hcell⟩
 ·exact wpAny_Name (wpAny_loadName_local I.ok.kind hk hn hm fin) hd
 ·rcases hk with hk | hk
  ·exact wpAny_Name (wpAny_loadName_cell I.ok.kind hk hc hcell fin) hd
  ·exact wpAny_Name (wpAny_loadName_free I.ok.kind hk hc hcell fin hcd) hd
theorem pe_int {i j pos}:PE X (.Constant (.int i) j pos) (tC (.int i)):=fun _ _ _ H _ I h=>wpAny_Constant_int ⟨.int i,H,I.tok _,⟨_,rfl⟩,h⟩
theorem pe_bl {b j pos}:PE X (.Constant (.bool b) j pos) (tC (.bl b)):=fun _ _ _ H _ I h=>Constant_bool ⟨.bl b,H,I,rfl,h⟩
theorem pe_non {j pos}:PE X (.Constant .none j pos) (tC .non):=fun _ _ _ H _ I h=>Constant_none ⟨.non,H,I,rfl,h⟩
theorem pe_str {x j pos}:PE X (.Constant (.str x) j pos) (tC (.str x)):=fun _ _ _ H _ I h=>Calls.Constant_str ⟨.str x,H,I.tok _,⟨_,rfl⟩,h⟩
def Gl (X:Cx) (x:Str):Prop:=X.env.kindOf x=some .globalImplicit
theorem qZ {E:Value→Shared→Prop} {pins:List (Addr × Obj)} {s:Shared} {σ:St} {H:Hp} {x:Str} {u:Value} {pos:Pos} {Q:Value→Shared→Prop} (I:Inv X pins σ H s) (hg:Gl X x) (hm:X.mg x=some u) (h:Q u s)
  (hd:(x == ("__debug__" : Str))=false:=by decide):wpAny (model X.prog X.w) X.A (eval (.Name x pos) X.env) Q E s :=
 Calls.Name_function_global I.ok.kind hg (Calls.loadGlobal_global (by rw [I.ok.glob]; exact I.mod.glob.keeps I.bk) hm h) hd
theorem i4 {E:Value→Shared→Prop} {pins:List (Addr × Obj)} {s:Shared} {σ:St} {H:Hp} {x:Str} {u:Value} {pos:Pos} {Q:Value→Shared→Prop} (I:Inv X pins σ H s) (hg:Gl X x) (hm:X.mg x=none) (hv:bootBuiltins x=some u) (h:Q u s)
  (hn:x≠"__name__":=by decide) (hd:(x == ("__debug__" : Str))=false:=by decide):wpAny (model X.prog X.w) X.A (eval (.Name x pos) X.env) Q E s:=by
 obtain ⟨mb,h1,h2⟩:=I.mod.blt
 exact Calls.Name_function_global I.ok.kind hg (Calls.loadGlobal_builtin (by rw [I.ok.glob]; exact I.mod.glob.keeps I.bk) hm (by rw [I.ok.blt]; exact h1.keeps I.bk) ((h2 x hn).trans hv) h) hd
theorem CM {x:Str} {v:V} {u:Value} {pos:Pos} (hg:Gl X x) (hm:X.mg x=some u) (r:RelV v u) (hd:(x == ("__debug__" : Str))=false:=by decide):PE X (.Name x pos) (tC v) :=
 fun _ _ _ H _ I h=>qZ I hg hm ⟨v,H,I,r,h⟩ hd
theorem CT {x:Str} {v:V} {u:Value} {pos:Pos} (hg:Gl X x) (hm:X.mg x=none) (hv:bootBuiltins x=some u) (r:RelV v u) (hn:x≠"__name__":=by decide) (hd:(x == ("__debug__" : Str))=false:=by decide):PE X (.Name x pos) (tC v) :=
 fun _ _ _ H _ I h=>i4 I hg hm hv ⟨v,H,I,r,h⟩ hn hd
variable {a b:Expr} {ta tb:TE} {pos:Pos}
def PC (X:Cx) (op:CmpOp) (a b:Expr) (t:TE):Prop :=
 ∀ (pins:List (Addr × Obj)) (s:Shared) (σ:St) (H:Hp) (Q:VK),Inv X pins σ H s→t σ H Q →
  wpAny (model X.prog X.w) X.A (eval a X.env) (fun v s₁=>wpAny (model X.prog X.w) X.A (eval b X.env) (fun u s₂=>wpAny (model X.prog X.w) X.A (compareOp op v u) (EP X pins σ Q) X.xe s₂) X.xe s₁) X.xe s
def tB (t:TE):TT:=fun σ H Q=>t σ H fun x H1=>∃ c,x=.bl c∧Q c H1
theorem Gm {e:Expr} {t:TE} (h:PE X e t) (he:∀ whole,isTrue e X.env whole=(do let v ← whole; standAt e.pos; holding [v] (truthy v)):=by intro _; rfl):PT X e (tB t):=by
 intro pins s σ H Q I hw
 refine isTrue_plain (thn (h pins s σ H _ I hw) fun v s1 ⟨x,H1,I1,r1,q1⟩=>?_) (he _)
 obtain ⟨d,rfl,q⟩:=q1
 cases r1
 exact wpAny_truthy_bool ⟨H1,I1,q⟩
variable {tA tB':TT} {rest:List Expr}
def F9 (t u:TT):TT:=fun σ H Q=>t σ H fun c H1=>if c=true then u σ H1 Q else Q false H1
def tOr (t u:TT):TT:=fun σ H Q=>t σ H fun c H1=>if c=true then Q true H1 else u σ H1 Q
def FX (t:TT):TT:=fun σ H Q=>t σ H fun c H1=>Q (!c) H1
theorem Cz (ha:PT X a tA):PW X (.BoolOp .And [a] pos) tA:=by
 intro wh pins s σ H Q I h
 refine isTrue_and (thn (ha pins s σ H Q I h) fun c s1 e=>?_)
 cases c with
 | true=>exact isTrue_and_nil e
 | false=>exact e
theorem Gj (ha:PT X a tA):PW X (.BoolOp .Or [a] pos) tA:=by
 intro wh pins s σ H Q I h
 refine isTrue_or (thn (ha pins s σ H Q I h) fun c s1 e=>?_)
 cases c with
 | false=>exact isTrue_or_nil e
 | true=>exact e
theorem Gk (ha:PT X a tA) (hb:PW X (.BoolOp .And (b :: rest) pos) tB'):PW X (.BoolOp .And (a :: b :: rest) pos) (F9 tA tB'):=by
 intro wh pins s σ H Q I h
 refine isTrue_and (thn (ha pins s σ H _ I h) fun c s1 ⟨H1,I1,q1⟩=>?_)
 cases c with
 | true=>exact hb wh pins s1 σ H1 Q I1 q1
 | false=>exact ⟨H1,I1,q1⟩
theorem Ir (ha:PT X a tA) (hb:PW X (.BoolOp .Or (b :: rest) pos) tB'):PW X (.BoolOp .Or (a :: b :: rest) pos) (tOr tA tB'):=by
 intro wh pins s σ H Q I h
 refine isTrue_or (thn (ha pins s σ H _ I h) fun c s1 ⟨H1,I1,q1⟩=>?_)
 cases c with
 | true=>exact ⟨H1,I1,q1⟩
 | false=>exact hb wh pins s1 σ H1 Q I1 q1
theorem Gn (ha:PT X a tA):PT X (.UnaryOp .Not a pos) (FX tA):=by
 intro pins s σ H Q I h
 exact isTrue_not (ha pins s σ H (fun c H1=>Q (!c) H1) I h)
def B4 (ta tb:TE):TE:=fun σ H Q=>ta σ H fun x H1=>∃ c,x=.bl c∧if c=true then tb σ H1 Q else Q (.bl false) H1
def FW (ta tb:TE):TE:=fun σ H Q=>ta σ H fun x H1=>∃ c,x=.bl c∧if c=true then Q (.bl true) H1 else tb σ H1 Q
def BZ (ta:TE):TE:=fun σ H Q=>ta σ H fun x H1=>∃ c,x=.bl c∧Q (.bl (!c)) H1
theorem Gv {op} {t:TE} (h:PE X a t):PE X (.BoolOp op [a] pos) t:=fun pins s σ H Q I hw=>BoolOp_one (h pins s σ H Q I hw)
theorem Gz (ha:PE X a ta) (hb:PE X (.BoolOp .And (b :: rest) pos) tb):PE X (.BoolOp .And (a :: b :: rest) pos) (B4 ta tb):=by
 intro pins s σ H Q I h
 refine BoolOp_and (thn (ha pins s σ H _ I h) fun v s1 ⟨x,H1,I1,r1,q1⟩=>?_)
 obtain ⟨c,rfl,q1⟩:=q1
 cases r1
 refine wpAny_truthy_bool ?_
 cases c with
 | true=>exact hb pins s1 σ H1 Q I1 q1
 | false=>exact ⟨.bl false,H1,I1,rfl,q1⟩
theorem Iw (ha:PE X a ta) (hb:PE X (.BoolOp .Or (b :: rest) pos) tb):PE X (.BoolOp .Or (a :: b :: rest) pos) (FW ta tb):=by
 intro pins s σ H Q I h
 refine BoolOp_or (thn (ha pins s σ H _ I h) fun v s1 ⟨x,H1,I1,r1,q1⟩=>?_)
 obtain ⟨c,rfl,q1⟩:=q1
 cases r1
 refine wpAny_truthy_bool ?_
 cases c with
 | false=>exact hb pins s1 σ H1 Q I1 q1
 | true=>exact ⟨.bl true,H1,I1,rfl,q1⟩
theorem Gw (ha:PE X a ta):PE X (.UnaryOp .Not a pos) (BZ ta):=by
 intro pins s σ H Q I h
 refine UnaryOp_ (thn (ha pins s σ H _ I h) fun v s1 ⟨x,H1,I1,r1,q1⟩=>?_)
 obtain ⟨c,rfl,q1⟩:=q1
 cases r1
 exact not_of (wpAny_truthy_bool ⟨.bl (!c),H1,I1,rfl,q1⟩)
def tIf (t:TT) (ta tb:TE):TE:=fun σ H Q=>t σ H fun c H1=>if c=true then ta σ H1 Q else tb σ H1 Q
theorem vy {c:Expr} (hc:PT X c tA) (ha:PE X a ta) (hb:PE X b tb):PE X (.IfExp c a b pos) (tIf tA ta tb):=by
 intro pins s σ H Q I h
 refine wpAny_IfExp (thn (hc pins s σ H _ I h) fun d s1 ⟨H1,I1,q1⟩=>?_)
 cases d with
 | true=>exact ha pins s1 σ H1 Q I1 q1
 | false=>exact hb pins s1 σ H1 Q I1 q1
end
end L2
namespace L2
open PySem PySem.Spec PyProof.Rows
def SqL (K:PySem.W.Frag) (H:Hp) (a:Addr) (xs:List V):Prop :=
 Rd H a (.lst xs) ∨
  ∃ (o:Obj) (its:Array Value) (n:Nat),K.lookup a=some o∧o.cls=.type "list"∧o.dict=none∧o.data=.seq its n∧its.size≤sizeLine∧Vals xs its.toList
def SqT (K:PySem.W.Frag) (H:Hp) (a:Addr) (xs:List V):Prop :=
 Rd H a (.tup xs) ∨
  ∃ (o:Obj) (its:Array Value) (n:Nat),K.lookup a=some o∧o.cls=.type "tuple"∧o.data=.seq its n∧its.size≤sizeLine∧Vals xs its.toList
def JD:Value→Option V
 | .none=>some .non
 | .bool b=>some (.bl b)
 | .int i _=>some (.int i)
 | .str x _=>some (.str x)
 | .bytes b _=>some (.byt b)
 | .float b _=>some (.flt b)
 | .ref a=>some (.ref a)
 | .type n=>some (.ty n)
 | _=>none
theorem RelV.abs {x:V} {u:Value} (r:RelV x u):JD u=some x:=by
 cases x with
 | non=>cases r; rfl
 | bl _=>cases r; rfl
 | int _=>obtain ⟨t,rfl⟩:=r; rfl
 | str _=>obtain ⟨t,rfl⟩:=r; rfl
 | byt _=>obtain ⟨t,rfl⟩:=r; rfl
 | flt _=>obtain ⟨t,rfl⟩:=r; rfl
 | ref _=>cases r; rfl
 | ty _=>cases r; rfl
theorem RelV.inj {x y:V} {u:Value} (r:RelV x u) (q:RelV y u):x=y:=Option.some.inj (r.abs.symm.trans q.abs)
theorem Vals.inj:∀ {xs ys:List V} {us:List Value},Vals xs us→Vals ys us→xs=ys
 | _,_,_,.nil,.nil=>rfl
 | _,_,_,.cons r t,.cons r' t'=>by rw [r.inj r',Vals.inj t t']
section
variable {X:Cx} {pins:List (Addr × Obj)} {σ:St} {H:Hp} {s:Shared} {a:Addr} {xs ys:List V}
theorem SqL.of {K:PySem.W.Frag} (h:H a=some (.lst xs)):SqL K H a xs:=.inl (.inl h)
theorem SqT.of {K:PySem.W.Frag} (h:H a=some (.tup xs)):SqT K H a xs:=.inl (.inl h)
theorem Inv.list (I:Inv X pins σ H s) (h:SqL X.K H a xs):∃ its:List Value,Vals xs its∧PlainL s.heap a its.toArray∧xs.length≤sizeLine:=by
 rcases h with h | ⟨o,its,n,hk,hc,hd,hs,hz,r⟩
 ·obtain ⟨z,its,n,r,e⟩:=h.ok I.hok
  exact ⟨its,r,⟨_,n,e,rfl,rfl,rfl⟩,z⟩
 ·refine ⟨its.toList,r,⟨o,n,I.kIn a o hk,hc,hd,by simpa using hs⟩,?_⟩
  have e:=r.length
  simp only [Array.length_toList] at e
  omega
theorem Inv.tuple (I:Inv X pins σ H s) (h:SqT X.K H a xs):∃ its:List Value,Vals xs its∧IsTup s.heap a its.toArray∧xs.length≤sizeLine:=by
 rcases h with h | ⟨o,its,n,hk,hc,hs,hz,r⟩
 ·obtain ⟨z,its,r,p⟩:=h.ok I.hok
  exact ⟨its,r,p.tup,z⟩
 ·refine ⟨its.toList,r,⟨o,I.kIn a o hk,hc,n,by simpa using hs⟩,?_⟩
  have e:=r.length
  simp only [Array.length_toList] at e
  omega
theorem Inv.list_inj (I:Inv X pins σ H s) (h:SqL X.K H a xs) (h':SqL X.K H a ys):xs=ys:=by
 obtain ⟨its,r,⟨o,n,e,_,_,d⟩,_⟩:=I.list h
 obtain ⟨its',r',⟨o',n',e',_,_,d'⟩,_⟩:=I.list h'
 rw [e] at e'; cases e'
 rw [d] at d'
 injection d' with d1 _
 have:its=its':=by simpa using congrArg Array.toList d1
 subst this
 exact r.inj r'
theorem Inv.tuple_inj (I:Inv X pins σ H s) (h:SqT X.K H a xs) (h':SqT X.K H a ys):xs=ys:=by
 obtain ⟨its,r,⟨o,e,_,n,d⟩,_⟩:=I.tuple h
 obtain ⟨its',r',⟨o',e',_,n',d'⟩,_⟩:=I.tuple h'
 rw [e] at e'; cases e'
 rw [d] at d'
 injection d' with d1 _
 have:its=its':=by simpa using congrArg Array.toList d1
 subst this
 exact r.inj r'
end
abbrev Cx.wish (X:Cx) (E:Value→Shared→Prop):Cx:={ X with xe:=E }
abbrev Cx.nox (X:Cx):Cx:=X.wish fun _ _=>False
theorem Cx.Ok.wish {X:Cx} (ok:X.Ok) (E:Value→Shared→Prop):(X.wish E).Ok :=
 ⟨ok.mod,ok.kind,ok.glob,ok.blt,ok.above,ok.inj,ok.has,ok.cab,ok.hd,ok.frames,ok.stk,ok.exf,ok.bs,ok.bsz,ok.noex,ok.exfs,ok.funs,ok.frf⟩
theorem Cx.Ok.unwish {X:Cx} {E:Value→Shared→Prop} (ok:(X.wish E).Ok):X.Ok :=
 ⟨ok.mod,ok.kind,ok.glob,ok.blt,ok.above,ok.inj,ok.has,ok.cab,ok.hd,ok.frames,ok.stk,ok.exf,ok.bs,ok.bsz,ok.noex,ok.exfs,ok.funs,ok.frf⟩
section
variable {X:Cx} {pins:List (Addr × Obj)} {σ:St} {H:Hp} {s:Shared} {E:Value→Shared→Prop}
theorem Inv.wish (I:Inv X pins σ H s) (E:Value→Shared→Prop):Inv (X.wish E) pins σ H s:=⟨I.ok.wish E,I.os,I.bare,I.base,I.loc,I.cell,I.free,I.freeC,I.pin,I.hok,I.len⟩
theorem Inv.unwish (I:Inv (X.wish E) pins σ H s):Inv X pins σ H s:=⟨I.ok.unwish,I.os,I.bare,I.base,I.loc,I.cell,I.free,I.freeC,I.pin,I.hok,I.len⟩
theorem SP.unwish {D:Ends} {f:Flow} {s':Shared} (h:SP (X.wish E) pins D f s'):SP X pins D f s':=by
 cases f with
 | next=>obtain ⟨σ',H',I,q⟩:=h; exact ⟨σ',H',I.unwish,q⟩
 | brk=>obtain ⟨σ',H',I,q⟩:=h; exact ⟨σ',H',I.unwish,q⟩
 | cont=>obtain ⟨σ',H',I,q⟩:=h; exact ⟨σ',H',I.unwish,q⟩
 | ret u=>obtain ⟨v,σ',H',I,r,q⟩:=h; exact ⟨v,σ',H',I.unwish,r,q⟩
theorem PSs.nox {st:List Stmt} {t:TS} (h:PSs X.nox st t):PSs X st t:=fun pins s σ H D I hw =>
 wpAny_mono (h pins s σ H D (I.wish _) hw) (fun _ _ q=>q.unwish) fun _ _ z=>False.elim z
end
section
variable {X:Cx} {st:Stmt} {rest:List Stmt} {t u:TS} {e:Expr} {te:TE} {pos:Pos}
def B0:TS:=fun D σ H=>D.nx σ H
def FU (t u:TS):TS:=fun D σ H=>t { D with nx:=u D } σ H
theorem pss_nil:PSs X [] B0:=fun _ _ σ H _ I h=>wpAny_execs_nil ⟨σ,H,I,h⟩
theorem vn (h1:PS X st t) (h2:PSs X rest u):PSs X (st :: rest) (FU t u):=by
 intro pins s σ H D I h
 refine wpAny_execs_cons (thn (h1 pins s σ H { D with nx:=u D } I h) fun f s1 q=>?_)
 cases f with
 | next =>
  obtain ⟨σ',H',I',q⟩:=q
  exact h2 pins s1 σ' H' D I' q
 | ret v=>exact q
 | brk=>exact q
 | cont=>exact q
theorem CC (h1:PS X st t):PSs X [st] t:=by
 intro pins s σ H D I h
 refine wpAny_execs_cons (thn (h1 pins s σ H D I h) fun f s1 q=>?_)
 cases f with
 | next=>exact wpAny_execs_nil q
 | ret v=>exact q
 | brk=>exact q
 | cont=>exact q
theorem Inv.quiet {pins:List (Addr × Obj)} {σ:St} {H:Hp} {s:Shared} (I:Inv X pins σ H s):interactive X.env=false:=by simp [interactive,I.ok.kind]
def B1 (te:TE):TS:=fun D σ H=>te σ H fun _ H1=>D.nx σ H1
theorem CD (he:PE X e te) (hs:swapsWith e none pos.line X.env=pure false:=by rfl):PS X (.Expr e pos) (B1 te):=by
 intro pins s σ H D I h
 exact wpAny_Expr_any (thn (he pins s σ H _ I h) fun v s1 ⟨x,H1,I1,r1,q1⟩=>⟨σ,H1,I1,q1⟩) I.quiet hs
def FV (te:TE):TS:=fun D σ H=>te σ H D.rt
theorem Gp (he:PE X e te):PS X (.Return (some e) pos) (FV te):=by
 intro pins s σ H D I h
 exact wpAny_Return_some (thn (he pins s σ H _ I h) fun v s1 ⟨x,H1,I1,r1,q1⟩=>⟨x,σ,H1,I1,r1,q1⟩)
def FZ (c:TT) (t u:TS):TS:=fun D σ H=>c σ H fun b H1=>if b=true then t D σ H1 else u D σ H1
theorem Iu {c:Expr} {a b:List Stmt} {tc:TT} (hc:PT X c tc) (ha:PSs X a t) (hb:PSs X b u):PS X (.If c a b pos) (FZ tc t u):=by
 intro pins s σ H D I h
 refine wpAny_If (thn (hc pins s σ H _ I h) fun d s1 ⟨H1,I1,q1⟩=>?_)
 cases d with
 | true=>exact ha pins s1 σ H1 D I1 q1
 | false=>exact hb pins s1 σ H1 D I1 q1
def tH:TS:=fun _ _ _=>False
theorem ps_never:PS X st tH:=fun _ _ _ _ _ _ h=>h.elim
end
abbrev TG:=V→St→Hp→(St→Hp→Prop)→Prop
abbrev TGs:=List V→St→Hp→(St→Hp→Prop)→Prop
def PG (X:Cx) (target:Expr) (t:TG):Prop :=
 ∀ (pins:List (Addr × Obj)) (s:Shared) (σ:St) (H:Hp) (v:V) (u:Value) (Q:St→Hp→Prop),Inv X pins σ H s→RelV v u→t v σ H Q →
  wpAny (model X.prog X.w) X.A (assign target X.env u) (fun _ s'=>∃ σ' H',Inv X pins σ' H' s'∧Q σ' H') X.xe s
def PGs (X:Cx) (ts:List Expr) (t:TGs):Prop :=
 ∀ (pins:List (Addr × Obj)) (s:Shared) (σ:St) (H:Hp) (vs:List V) (us:List Value) (Q:St→Hp→Prop),Inv X pins σ H s→Vals vs us→t vs σ H Q →
  wpAny (model X.prog X.w) X.A (assignInOrder ((assignEach ts X.env).map (·.2)) us) (fun _ s'=>∃ σ' H',Inv X pins σ' H' s'∧Q σ' H') X.xe s
abbrev wQ:=V→V→V→Hp→(Hp→Prop)→Prop
def Ii (X:Cx) (t:wQ):Prop :=
 ∀ (pins:List (Addr × Obj)) (s:Shared) (σ:St) (H:Hp) (o i v:V) (ov iv u:Value) (Q:Hp→Prop),Inv X pins σ H s→RelV o ov→RelV i iv→RelV v u→t o i v H Q →
  wpAny (model X.prog X.w) X.A (setItem ov iv u) (fun _ s'=>∃ H',Inv X pins σ H' s'∧Q H') X.xe s
section
variable {X:Cx} {pos:Pos}
def mx (i:Nat):TG:=fun v σ H Q=>Q (σ.set i (some v)) H
theorem CL {i:Nat} {x:Str} (hN:X.N.Nodup) (hi:X.N[i]?=some x) (hx:Loc X.env.scope x) (hf:X.fn x=true∨X.env.scope.names.lookup x=some .local:=by first | exact .inl rfl | exact .inr rfl | assumption):PG X (.Name x pos) (mx i):=by
 intro pins s σ H v u Q I r h
 exact wpAny_assign_Name (oT I hN hi hx r (fun s' I'=>⟨_,H,I',h⟩) hf)
def G8:TGs:=fun vs σ H Q=>vs=[]∧Q σ H
def Cl (t:TG) (u:TGs):TGs:=fun vs σ H Q=>∃ v r,vs=v :: r∧t v σ H fun σ' H'=>u r σ' H' Q
theorem pgs_nil:PGs X [] G8:=by
 intro pins s σ H vs us Q I r h
 obtain ⟨e,h⟩:=h
 subst e
 cases r
 exact assignInOrder_nil ⟨σ,H,I,h⟩
theorem vw {e:Expr} {es:List Expr} {t:TG} {u:TGs} (h1:PG X e t) (h2:PGs X es u)
  (hs:(assignEach (e :: es) X.env).map (·.2)=assign e X.env :: (assignEach es X.env).map (·.2):=by rfl):PGs X (e :: es) (Cl t u):=by
 intro pins s σ H vs us Q I r h
 obtain ⟨v,vr,e1,h⟩:=h
 subst e1
 cases r with
 | cons r rr =>
  rw [hs]
  refine assignInOrder_cons (thn (h1 pins s σ H _ _ _ I r h) fun _ s1 ⟨σ1,H1,I1,q1⟩=>?_)
  exact h2 pins s1 σ1 H1 _ _ Q I1 rr q1
def G7 (K:PySem.W.Frag) (n:Nat) (t:TGs):TG:=fun v σ H Q=>∃ a xs,v=.ref a∧SqT K H a xs∧xs.length=n∧t xs σ H Q
theorem Gs {es:List Expr} {k:Nat} {t:TGs} {n:Nat} (hc:X.calm=true) (h:PGs X es t)
  (hn:(assignEach es X.env).length=n:=by rfl) (hst:(assignEach es X.env).findIdx? (·.1)=none:=by rfl):PG X (.Tuple es k pos) (G7 X.K n t):=by
 intro pins s σ H v u Q I r hw
 obtain ⟨a,xs,e1,hq,hl,hw⟩:=hw
 subst e1
 cases r
 obtain ⟨its,rv,ht,hz⟩:=I.tuple hq
 refine assign_Tuple_tuple (I.ok.hd hc) ht (by simp [hn,← hl,rv.length]) hst fun h' hx=>?_
 have I1:Inv X pins σ H { s with heap:=h' }:=I.kept (t':=s.toks) fun b o e=>hx b o (Nat.ne_of_lt (Heap.lt_size e)) e
 exact h pins _ σ H xs _ Q I1 (by simpa using rv) hw
def v7 (to ti:TE) (t:wQ):TG:=fun v σ H Q=>to σ H fun o H1=>ti σ H1 fun i H2=>t o i v H2 fun H3=>Q σ H3
theorem tT {o i:Expr} {to ti:TE} {t:wQ} (ho:PE X o to) (hi:PE X i ti) (hs:Ii X t)
  (ha:∀ v,assign (.Subscript o i pos) X.env v=(do
   let ov ← holding [v] (eval o X.env)
   let iv ← holding [v,ov] (eval i X.env)
   standAt pos
   holding [v,ov,iv] (setItem ov iv v)
   release [v,ov,iv] []):=by intro _; rfl):PG X (.Subscript o i pos) (v7 to ti t):=by
 intro pins s σ H v u Q I r h
 rw [ha]
 refine wpAny_bind (wpAny_holding (thn (ho pins s σ H _ I h) fun ov s1 ⟨x,H1,I1,r1,q1⟩=>?_))
 refine wpAny_bind (wpAny_holding (thn (hi pins s1 σ H1 _ I1 q1) fun iv s2 ⟨y,H2,I2,r2,q2⟩=>?_))
 refine wpAny_bind (wpAny_standAt (wpAny_bind (wpAny_holding (thn (hs pins s2 σ H2 x y v ov iv u _ I2 r1 r2 r q2) fun _ s3 ⟨H3,I3,q3⟩=>?_))))
 exact wpAny_release ⟨σ,H3,I3,q3⟩
def mY (te:TE) (g:TG):TS:=fun D σ H=>te σ H fun x H1=>g x σ H1 D.nx
theorem tQ {tg e:Expr} {te:TE} {g:TG} (he:PE X e te) (hg:PG X tg g) (hs:swapsWithSole [tg] e pos.line X.env=pure false:=by rfl) (hw:swappedStores [tg] e X.env=pure none:=by rfl)
  (h1:(assignEach [tg] X.env).map (·.2)=[assign tg X.env]:=by rfl):PS X (.Assign [tg] e pos) (mY te g):=by
 intro pins s σ H D I h
 refine wpAny_Assign_stores (thn (he pins s σ H _ I h) fun v s1 ⟨x,H1,I1,r1,q1⟩=>?_) hs hw
 rw [h1]
 exact thn (hg pins s1 σ H1 x v _ I1 r1 q1) fun _ s2 q=>q
theorem Go {i:Nat} {x:Str} {e:Expr} {te:TE} {pos':Pos} (hN:X.N.Nodup) (hi:X.N[i]?=some x) (hx:Loc X.env.scope x) (he:PE X e te) (hs:swapsWith e (some (.Name x pos')) pos.line X.env=pure false:=by rfl) (hf:X.fn x=true∨X.env.scope.names.lookup x=some .local:=by first | exact .inl rfl | exact .inr rfl | assumption) :
  PS X (.Assign [.Name x pos'] e pos) (mY te (mx i)):=by
 intro pins s σ H D I h
 refine wpAny_Assign_Name (thn (he pins s σ H _ I h) fun v s1 ⟨y,H1,I1,r1,q1⟩=>?_) hs
 exact oT I1 hN hi hx r1 (fun s2 I2=>⟨_,H1,I2,q1⟩) hf
end
section
variable {X:Cx} {pos:Pos}
def tG (c:TT) (tb:TS):TS:=fun D σ H=>∃ W:Nat→St→Hp→Prop,(∃ m,W m σ H)∧∀ m σ H,W m σ H →
 c σ H fun b H1=>if b=true then ∃ N:St→Hp→Prop,(∀ σ' H',N σ' H'→∃ m',m' < m∧W m' σ' H')∧tb { D with nx:=N,ct:=N,bk:=D.nx } σ H1 else D.nx σ H1
theorem vo {c:Expr} {body:List Stmt} {tc:TT} {tb:TS} (hp:PassesOwn (model X.prog X.w) X.A X.env X.xe) (hc:PT X c tc) (hb:PSs X body tb):PS X (.While c body [] pos) (tG tc tb):=by
 intro pins s σ H D I h
 obtain ⟨W,⟨m0,w0⟩,turn⟩:=h
 refine wpAny_While (codeAny_whileLoop (fun n s'=>∃ σ' H',Inv X pins σ' H' s'∧W n σ' H') ?_ m0 ⟨σ,H,I,w0⟩)
 rintro n s1 ⟨σ1,H1,I1,w1⟩
 refine wpAny_passesOwn hp (thn (hc pins s1 σ1 H1 _ I1 (turn n σ1 H1 w1)) fun b s2 ⟨H2,I2,q2⟩=>?_)
 cases b with
 | true =>
  obtain ⟨N,hN,q2⟩:=q2
  rw [if_pos rfl]
  refine wpAny_passesOwn hp (thn (hb pins s2 σ1 H2 _ I2 q2) fun f s3 q3=>?_)
  cases f with
  | next =>
   obtain ⟨σ3,H3,I3,n3⟩:=q3
   obtain ⟨m',hm,w3⟩:=hN σ3 H3 n3
   exact ⟨m',hm,σ3,H3,I3,w3⟩
  | cont =>
   obtain ⟨σ3,H3,I3,n3⟩:=q3
   obtain ⟨m',hm,w3⟩:=hN σ3 H3 n3
   exact ⟨m',hm,σ3,H3,I3,w3⟩
  | brk=>exact q3
  | ret v=>exact q3
 | false =>
  rw [if_neg Bool.false_ne_true]
  exact wpAny_execs_nil ⟨σ1,H2,I2,q2⟩
end
structure It where
 go:Nat→Hp→Prop
 yld:Nat→Hp→V→Hp→Prop
 stop:Nat→Hp→Prop
def gm (X:Cx) (pins:List (Addr × Obj)) (H:Hp) (b:Addr):Prop :=
 H b=none∧b≠X.env.locals∧b ∉ X.fs∧(b∈X.ex∨X.s₀.heap.objs.size≤b)∧(∀ x c,X.env.cells.lookup x=some c→c≠b)∧∀ p∈X.pn++pins,p.1≠b
theorem Inv.fpOk {X:Cx} {pins:List (Addr × Obj)} {σ:St} {H H':Hp} {s:Shared} {b:Addr} (I:Inv X pins σ H s) (hb:s.heap.objs.size≤b) (hn:H' b=none):gm X pins H' b:=by
 refine ⟨hn,Nat.ne_of_gt (Nat.lt_of_lt_of_le I.lt hb),I.nofs hb,.inr (Nat.le_trans I.sz hb),fun x c e z=>?_,fun p hp z=>?_⟩
 ·obtain ⟨v,q⟩:=I.cell x c e
  exact absurd (Nat.lt_of_lt_of_le q.lt (by rw [z]; exact hb)) (Nat.lt_irrefl _)
 ·exact absurd (Nat.lt_of_lt_of_le (Heap.lt_size (I.pin p hp).1) (by rw [z]; exact hb)) (Nat.lt_irrefl _)
structure Turn (P:Program) (w:World) (K:PySem.W.Frag) (tg:Expr) (J:It) (fp:List Addr) (it:Addr) (tn:Nat→Heap→Prop):Prop where
 mem:it∈fp
 obj:∀ i h,tn i h→∀ b∈fp,∃ o,h.get? b=some o∧∀ v,o.data≠.cell v
 keep:∀ i h h',tn i h→(∀ b∈fp,∀ o,h.get? b=some o→h'.get? b=some o)→tn i h'
 item:∀ (X:Cx),X.prog=P→X.w=w→X.K=K→X.calm=true→∀ (i:Nat) (pins:List (Addr × Obj)) (s:Shared) (σ:St) (H:Hp) (E:Value→Shared→Prop),Inv X pins σ H s→(∀ b∈fp,gm X pins H b)→tn i s.heap→J.go i H →
  wpAny (model P w) X.A (pyNext (.ref it)) (fun r s1=>∃ u,r=some u ∧
   wpAny (model P w) X.A (letOwnedTupleGo tg (.ref it) u) (fun _ s2=>∃ x H',Inv X pins σ H' s2∧RelV x u∧J.yld i H x H'∧tn (i+1) s2.heap∧∀ b∈fp,H' b=none) E s1) E s
 done:∀ (X:Cx),X.prog=P→X.w=w→X.K=K→X.calm=true→∀ (i:Nat) (pins:List (Addr × Obj)) (s:Shared) (σ:St) (H:Hp) (E:Value→Shared→Prop),Inv X pins σ H s→(∀ b∈fp,gm X pins H b)→tn i s.heap→J.stop i H →
  wpAny (model P w) X.A (pyNext (.ref it)) (fun r s1=>r=none∧Inv X pins σ H s1) E s
 self:∀ (A:Around) (i:Nat) (s:Shared) (Q:Value→Shared→Prop) (E:Value→Shared→Prop),tn i s.heap→Q (.ref it) s→wpAny (model P w) A (pyIter (.ref it)) Q E s
abbrev TI:=St→Hp→(It→Hp→Prop)→Prop
def PIE (X:Cx) (pins:List (Addr × Obj)) (σ:St) (tg:Expr) (R:It→Hp→Prop) (itv:Value) (s2:Shared):Prop :=
 ∃ (it:Addr) (fp:List Addr) (tn:Nat→Heap→Prop) (J:It) (H':Hp),itv=.ref it∧Inv X pins σ H' s2∧Turn X.prog X.w X.K tg J fp it tn∧tn 0 s2.heap∧(∀ b∈fp,gm X pins H' b)∧R J H'
def PI (X:Cx) (tg iter:Expr) (wi:TI):Prop :=
 ∀ (pins:List (Addr × Obj)) (s:Shared) (σ:St) (H:Hp) (R:It→Hp→Prop),Inv X pins σ H s→wi σ H R →
  wpAny (model X.prog X.w) X.A (eval iter X.env) (fun v s1=>wpAny (model X.prog X.w) X.A (pyIter v) (PIE X pins σ tg R) X.xe s1) X.xe s
theorem oC {M:Model} {A:Around} {E:Value→Shared→Prop} {s:Shared} {tg:Expr} {it:Addr} {u:Value} {o:Obj} {n:String} {vs:Array Value} {Q:Unit→Shared→Prop} (ho:s.heap.get? it=some o) (hc:o.cls=.type n) (hd:o.data=.fields vs)
  (hn:["enumerate", "zip", "dict_itemiterator", "dict_reverseitemiterator", "odict_iterator", "itertools.zip_longest", "itertools.pairwise"].contains n=false) (hQ:Q () s):wpAny M A (letOwnedTupleGo tg (.ref it) u) Q E s:=by
 unfold letOwnedTupleGo
 cases tg <;> first
  | exact wpAny_pure hQ
  | (cases u <;> first
    | exact wpAny_pure hQ
    | (refine wpAny_bind (wpAny_load ho ?_)
       rw [hc,hd]
       show wpAny M A (if (["enumerate", "zip", "dict_itemiterator", "dict_reverseitemiterator", "odict_iterator", "itertools.zip_longest", "itertools.pairwise"].contains n && vs[0]? == some (rawInt _))=true then _ else _) Q E s
       rw [if_neg (by intro h; rw [hn,Bool.false_and] at h; cases h)]
       exact wpAny_pure hQ))
def Itl (K:PySem.W.Frag) (a:Addr):It :=
 ⟨fun i H=>∃ xs x,SqL K H a xs∧xs[i]?=some x,fun i H x H'=>H'=H∧∀ xs,SqL K H a xs→xs[i]?=some x,fun i H=>∃ xs,SqL K H a xs∧xs.length≤i⟩
def Itt (K:PySem.W.Frag) (a:Addr):It :=
 ⟨fun i H=>∃ xs x,SqT K H a xs∧xs[i]?=some x,fun i H x H'=>H'=H∧∀ xs,SqT K H a xs→xs[i]?=some x,fun i H=>∃ xs,SqT K H a xs∧xs.length≤i⟩
def Itr (lo:Int) (n:Nat):It:=⟨fun i _=>i < n,fun i H x H'=>H'=H∧x=.int (lo+i),fun i _=>n≤i⟩
theorem tw {P:Program} {w:World} {K:PySem.W.Frag} {tg:Expr} (a it:Addr):Turn P w K tg (Itl K a) [it] it (fun i h=>h.IsListIter it a i) where
 mem:=by simp
 obj:=fun i h st b hb=>by
  have e:b=it:=by simpa using hb
  subst e
  obtain ⟨o,e,c,d⟩:=st
  exact ⟨o,e,fun v z=>by rw [d] at z; cases z⟩
 keep:=fun i h h' st k=>st.at fun o e=>k it (by simp) o e
 item:=by
  intro X hP hw hK hc i pins s σ H E I hf st hg
  subst hP hw hK
  obtain ⟨xs,x,hq,hx⟩:=hg
  obtain ⟨its,rv,p,hz⟩:=I.list hq
  obtain ⟨u,hu,ru⟩:=rv.get hx
  obtain ⟨f0,f1,f2,f3,f4,f5⟩:=hf it (by simp)
  refine wpAny_pyNext_list_item st p.isList (x:=u) (by simpa using hu) fun h' st' sb=>?_
  have I1:Inv X pins σ H { s with heap:=h' }:=I.turned (t':=s.toks) (fun b o hb e=>(sb.2 b hb).trans e) f0 f1 f3 f4 f5
  obtain ⟨o,e,c,d⟩:=id st'
  exact ⟨u,rfl,oC (s:={ s with heap:=h' }) e c d (by decide) ⟨x,H,I1,ru,⟨rfl,fun ys hy=>by rw [I.list_inj hy hq]; exact hx⟩,st',fun b hb=>(hf b hb).1⟩⟩
 done:=by
  intro X hP hw hK hc i pins s σ H E I hf st hg
  subst hP hw hK
  obtain ⟨xs,hq,hx⟩:=hg
  obtain ⟨its,rv,p,hz⟩:=I.list hq
  obtain ⟨f0,f1,f2,f3,f4,f5⟩:=hf it (by simp)
  have hl:=rv.length
  exact wpAny_pyNext_list_end (I.ok.hd hc) st p.isList (by simp; omega) fun h' eb=>⟨rfl,I.turned (t':=s.toks) (fun b o hb e=>eb b o hb e) f0 f1 f3 f4 f5⟩
 self:=fun _ _ _ _ _ st h=>wpAny_pyIter_listiter st h
theorem rF {P:Program} {w:World} {K:PySem.W.Frag} {tg:Expr} (a it:Addr):Turn P w K tg (Itt K a) [it] it (fun i h=>h.IsTupleIter it a i) where
 mem:=by simp
 obj:=fun i h st b hb=>by
  have e:b=it:=by simpa using hb
  subst e
  obtain ⟨o,e,c,d⟩:=st
  exact ⟨o,e,fun v z=>by rw [d] at z; cases z⟩
 keep:=fun i h h' st k=>st.at fun o e=>k it (by simp) o e
 item:=by
  intro X hP hw hK hc i pins s σ H E I hf st hg
  subst hP hw hK
  obtain ⟨xs,x,hq,hx⟩:=hg
  obtain ⟨its,rv,p,hz⟩:=I.tuple hq
  obtain ⟨u,hu,ru⟩:=rv.get hx
  obtain ⟨f0,f1,f2,f3,f4,f5⟩:=hf it (by simp)
  refine wpAny_pyNext_tuple_item st (show s.heap.IsTuple a its.toArray from p) (x:=u) (by simpa using hu) fun h' st' sb=>?_
  have I1:Inv X pins σ H { s with heap:=h' }:=I.turned (t':=s.toks) (fun b o hb e=>(sb.2 b hb).trans e) f0 f1 f3 f4 f5
  obtain ⟨o,e,c,d⟩:=id st'
  exact ⟨u,rfl,oC (s:={ s with heap:=h' }) e c d (by decide) ⟨x,H,I1,ru,⟨rfl,fun ys hy=>by rw [I.tuple_inj hy hq]; exact hx⟩,st',fun b hb=>(hf b hb).1⟩⟩
 done:=by
  intro X hP hw hK hc i pins s σ H E I hf st hg
  subst hP hw hK
  obtain ⟨xs,hq,hx⟩:=hg
  obtain ⟨its,rv,p,hz⟩:=I.tuple hq
  obtain ⟨f0,f1,f2,f3,f4,f5⟩:=hf it (by simp)
  have hl:=rv.length
  exact wpAny_pyNext_tuple_end (I.ok.hd hc) st (show s.heap.IsTuple a its.toArray from p) (by simp; omega) fun h' eb=>⟨rfl,I.turned (t':=s.toks) (fun b o hb e=>eb b o hb e) f0 f1 f3 f4 f5⟩
 self:=fun _ _ _ _ _ st h=>wpAny_pyIter_tupleiter st h
theorem rG {P:Program} {w:World} {K:PySem.W.Frag} {tg:Expr} (it:Addr) (lo:Int) (n:Nat):Turn P w K tg (Itr lo n) [it] it (fun i h=>IsRangeIter h it (lo+(i:Nat) * 1) ((n:Int) - (i:Nat)) 1) where
 mem:=by simp
 obj:=fun i h st b hb=>by
  have e:b=it:=by simpa using hb
  subst e
  exact ⟨_,st,fun v z=>by
   have z':Data.fields _=Data.cell v:=z
   cases z'⟩
 keep:=fun i h h' st k=>k it (by simp) _ st
 item:=by
  intro X hP hw hK hc i pins s σ H E I hf st hg
  subst hP hw hK
  obtain ⟨f0,f1,f2,f3,f4,f5⟩:=hf it (by simp)
  have W:=Walks.range (prog:=X.prog) (w:=X.w) (I.ok.hd hc) it lo 1 n
  refine W.item i s _ _ hg st fun v h' tk hv st' kk=>?_
  obtain ⟨t,rfl⟩:=hv
  have I1:Inv X pins σ H { s with heap:=h',toks:=tk }:=I.turned (fun b o hb e=>kk b o (by simpa using hb) e) f0 f1 f3 f4 f5
  refine ⟨_,rfl,oC (s:={ s with heap:=h',toks:=tk }) (n:="range_iterator") st' rfl rfl (by decide) ⟨.int (lo+i),H,I1,⟨t,?_⟩,⟨rfl,rfl⟩,st',fun b hb=>(hf b hb).1⟩⟩
  rw [Int.mul_one]
 done:=by
  intro X hP hw hK hc i pins s σ H E I hf st hg
  subst hP hw hK
  obtain ⟨f0,f1,f2,f3,f4,f5⟩:=hf it (by simp)
  exact wpAny_pyNext_range_end (I.ok.hd hc) st (by have:n≤i:=hg; omega) fun h' eb=>⟨rfl,I.turned (t':=s.toks) (fun b o hb e=>eb b o hb e) f0 f1 f3 f4 f5⟩
 self:=fun _ _ _ _ _ st h=>wpAny_pyIter_rangeiter st h
end L2
namespace L2
open PySem PySem.Spec PyProof.Rows
section
variable {X:Cx} {tg:Expr}
theorem vk {pins:List (Addr × Obj)} {σ:St} {H:Hp} {s:Shared} {R:It→Hp→Prop} {E:Value→Shared→Prop} {lo hi:Int} {t u v:Tok} {tk:Nat} (I:Inv X pins σ H s) (h1:-(2 ^ 62)≤lo) (h2:lo < 2 ^ 62) (h3:-(2 ^ 62)≤hi) (h4:hi < 2 ^ 62)
  (q:R (Itr lo (hi - lo).toNat) H):wpAny (model X.prog X.w) X.A (pyIter (.ref s.heap.objs.size)) (PIE X pins σ tg R) E { s with heap:=s.heap.push { cls:=.type "range",data:=.fields #[.int lo t,.int hi u,.int 1 v] },toks:=tk }:=by
 refine wpAny_pyIter_range (IsRange.new ..) (small_one h1 h2 h3 h4) ?_
 have I1:Inv X pins σ H { s with heap:=s.heap.push { cls:=.type "range",data:=.fields #[.int lo t,.int hi u,.int 1 v] },toks:=tk }:=I.kept fun b o e=>Heap.get?_push_of_some _ e
 refine ⟨(s.heap.push { cls:=.type "range",data:=.fields #[.int lo t,.int hi u,.int 1 v] }).objs.size,[(s.heap.push { cls:=.type "range",data:=.fields #[.int lo t,.int hi u,.int 1 v] }).objs.size],_,_,H,rfl,
  I1.kept (t':=tk) fun b o e=>Heap.get?_push_of_some _ e,rG _ lo (hi - lo).toNat,?_,fun b hb=>?_,q⟩
 ·have e1:lo+((0:Nat):Int) * 1=lo:=by simp
  have e2:(((hi - lo).toNat:Nat):Int) - ((0:Nat):Int)=Builtin.Range.rangeSize lo hi 1:=by rw [rangeSize_one]; split <;> omega
  show IsRangeIter _ _ (lo+((0:Nat):Int) * 1) ((((hi - lo).toNat:Nat):Int) - ((0:Nat):Int)) 1
  rw [e1,e2]
  exact Heap.get?_push_size _ rfl
 ·have e:b=(s.heap.push { cls:=.type "range",data:=.fields #[.int lo t,.int hi u,.int 1 v] }).objs.size:=by simpa using hb
  subst e
  exact I1.fpOk (Nat.le_refl _) (I1.hok.fresh (Nat.le_refl _))
def IE (ta:TA):TI:=fun σ H R=>ta σ H fun vs H1=>∃ j:Int,vs=[.int j]∧-(2 ^ 62)≤j∧j < 2 ^ 62∧R (Itr 0 j.toNat) H1
theorem tS {a:Expr} {ta:TA} {p pos:Pos} (hg:Gl X "range") (hm:X.mg "range"=none) (ha:PA X [a] ta) (hs:starEach [a] X.env=[(false,eval a X.env)]:=by rfl):PI X tg (.Call (.Name "range" p) [a] [] pos) (IE ta):=by
 intro pins s σ H R I h
 refine Call_ (i4 I hg hm boot_range (PyProof.Rows.callWith_type1 (thn (ha pos pins s σ H _ I h) fun us s1 ⟨vs,H1,I1,r1,q1⟩=>?_) hs rfl))
 obtain ⟨j,e,q1,q2,q⟩:=q1
 subst e
 cases r1 with
 | cons r rr =>
  cases rr
  obtain ⟨t,rfl⟩:=r
  exact call_range_1 (vk I1 (by omega) (by omega) q1 q2 (by simpa using q))
def F7 (wi:TI) (g:TG) (tb:TS):TS:=fun D σ H=>wi σ H fun J H1=>∃ W:Nat→Nat→St→Hp→Prop,(∃ m,W 0 m σ H1)∧∀ i m σ H,W i m σ H →
 (J.stop i H∧D.nx σ H)∨(J.go i H∧∃ N:St→Hp→Prop,(∀ σ' H',N σ' H'→∃ m',m' < m∧W (i+1) m' σ' H')∧∀ x H',J.yld i H x H'→g x σ H' fun σ2 H2=>tb { D with nx:=N,ct:=N,bk:=D.nx } σ2 H2)
def kc (fp:List Addr) (h:Heap):List (Addr × Obj):=fp.filterMap fun b=>(h.get? b).map fun o=>(b,o)
theorem gA {fp:List Addr} {h:Heap} {b:Addr} {o:Obj} (hb:b∈fp) (e:h.get? b=some o):(b,o)∈kc fp h:=List.mem_filterMap.mpr ⟨b,hb,by rw [e]; rfl⟩
theorem uc {fp:List Addr} {h:Heap} {p:Addr × Obj} (hp:p∈kc fp h):p.1∈fp∧h.get? p.1=some p.2:=by
 obtain ⟨b,hb,e⟩:=List.mem_filterMap.mp hp
 cases q:h.get? b with
 | none=>rw [q] at e; cases e
 | some o =>
  rw [q] at e
  have e':(b,o)=p:=Option.some.inj e
  subst e'
  exact ⟨hb,q⟩
theorem Inv.pinned {pins:List (Addr × Obj)} {σ:St} {H:Hp} {s:Shared} {fp:List Addr} (I:Inv X pins σ H s) (hf:∀ b∈fp,gm X pins H b) (ho:∀ b∈fp,∃ o,s.heap.get? b=some o∧∀ v,o.data≠.cell v):Inv X (pins++kc fp s.heap) σ H s :=
 I.pins_of fun p hp=>(List.mem_append.mp hp).elim (fun z=>I.pin p (List.mem_append_right _ z)) fun z=>by
  obtain ⟨hb,e⟩:=uc z
  obtain ⟨f0,f1,f2,_⟩:=hf p.1 hb
  obtain ⟨o,e',d⟩:=ho p.1 hb
  rw [e] at e'; cases e'
  exact ⟨e,f0,f1,f2,d⟩
theorem Inv.unpinned {pins pl:List (Addr × Obj)} {σ:St} {H:Hp} {s:Shared} (I:Inv X (pins++pl) σ H s):Inv X pins σ H s:=I.pins_of fun p hp=>I.pin p (List.mem_append_right _ (List.mem_append_left _ hp))
theorem Gq {iter:Expr} {body:List Stmt} {wi:TI} {g:TG} {tb:TS} {pos:Pos} (hp:PassesOwn (model X.prog X.w) X.A X.env X.xe) (hc:X.calm=true) (hi:PI X tg iter wi) (hg:PG X tg g) (hb:PSs X body tb)
  (hs:∀ x,foldedSetIterable iter X.env x=pure x:=by intro _; rfl):PS X (.For tg iter body [] pos) (F7 wi g tb):=by
 intro pins s σ H D I h
 refine wpAny_For (thn (hi pins s σ H _ I h) fun v s1 h1=>thn h1 fun itv s2 h2=>?_) hs
 obtain ⟨it,fp,tn,J,H2,e,I2,T,st2,f2,W,⟨m0,w0⟩,turn⟩:=h2
 subst e
 have stat:∀ {H':Hp},(∀ b∈fp,H' b=none)→∀ b∈fp,gm X pins H' b:=fun hn b hb=>⟨hn b hb,(f2 b hb).2⟩
 refine codeAny_forLoop_any (fun n s'=>∃ i σ' H',Inv X pins σ' H' s'∧tn i s'.heap∧(∀ b∈fp,H' b=none)∧W i n σ' H') ?_ m0 ⟨0,σ,H2,I2,st2,fun b hb=>(f2 b hb).1,w0⟩
 rintro n s3 ⟨i,σ3,H3,I3,st3,fr3,w3⟩
 rcases turn i n σ3 H3 w3 with ⟨stop,qn⟩ | ⟨go,N,hN,step⟩
 ·refine wpAny_passesOwn hp (thn (T.done X rfl rfl rfl hc i pins s3 σ3 H3 X.xe I3 (stat fr3) st3 stop) fun r s4 ⟨hr,I4⟩=>?_)
  subst hr
  exact wpAny_execs_nil ⟨σ3,H3,I4,qn⟩
 ·refine wpAny_passesOwn hp (thn (T.item X rfl rfl rfl hc i pins s3 σ3 H3 X.xe I3 (stat fr3) st3 go) fun r s4 ⟨u,hr,h4⟩=>?_)
  subst hr
  refine wpAny_passesOwn hp (thn h4 fun _ s5 ⟨x,H5,I5,r5,y5,st5,fr5⟩=>?_)
  have I5':=I5.pinned (stat fr5) (T.obj _ _ st5)
  refine wpAny_passesOwn hp (thn (hg _ s5 σ3 H5 x u _ I5' r5 (step x H5 y5)) fun _ s6 ⟨σ6,H6,I6,q6⟩=>?_)
  refine wpAny_passesOwn hp (thn (hb _ s6 σ6 H6 _ I6 q6) fun f s7 q7=>?_)
  have again:∀ {σ7:St} {H7:Hp},Inv X (pins++kc fp s5.heap) σ7 H7 s7→N σ7 H7→∃ m,m < n∧∃ i σ' H',Inv X pins σ' H' s7∧tn i s7.heap∧(∀ b∈fp,H' b=none)∧W i m σ' H':=fun {σ7 H7} I7 n7=>by
   obtain ⟨m',hm,w7⟩:=hN σ7 H7 n7
   refine ⟨m',hm,i+1,σ7,H7,I7.unpinned,T.keep _ _ _ st5 fun b hb o e=>(I7.pin (b,o) (List.mem_append_right _ (List.mem_append_right _ (gA hb e)))).1,fun b hb=>?_,w7⟩
   obtain ⟨o,e,d⟩:=T.obj _ _ st5 b hb
   exact (I7.pin (b,o) (List.mem_append_right _ (List.mem_append_right _ (gA hb e)))).2.1
  cases f with
  | next=>obtain ⟨σ7,H7,I7,n7⟩:=q7; exact again I7 n7
  | cont=>obtain ⟨σ7,H7,I7,n7⟩:=q7; exact again I7 n7
  | brk=>obtain ⟨σ7,H7,I7,q7⟩:=q7; exact ⟨σ7,H7,I7.unpinned,q7⟩
  | ret v=>obtain ⟨x7,σ7,H7,I7,r7,q7⟩:=q7; exact ⟨x7,σ7,H7,I7.unpinned,r7,q7⟩
end
end L2
namespace L2
open PySem PySem.Spec PyProof.Rows
abbrev R2:=V→V→Hp→VK→Prop
def OpR (X:Cx) (f:Value→Value→Sem Value) (r:R2):Prop :=
 ∀ (pins:List (Addr × Obj)) (s:Shared) (σ:St) (H:Hp) (x y:V) (v u:Value) (Q:VK),Inv X pins σ H s→RelV x v→RelV y u→r x y H Q →
  wpAny (model X.prog X.w) X.A (f v u) (EP X pins σ Q) X.xe s
def UnR (X:Cx) (f:Value→Sem Value) (r:V→Hp→VK→Prop):Prop :=
 ∀ (pins:List (Addr × Obj)) (s:Shared) (σ:St) (H:Hp) (x:V) (v:Value) (Q:VK),Inv X pins σ H s→RelV x v→r x H Q →
  wpAny (model X.prog X.w) X.A (f v) (EP X pins σ Q) X.xe s
def CallR (X:Cx) (f:Value) (r:List V→Hp→VK→Prop):Prop :=
 ∀ (pins:List (Addr × Obj)) (s:Shared) (σ:St) (H:Hp) (xs:List V) (us:List Value) (Q:VK),Inv X pins σ H s→Vals xs us→r xs H Q →
  wpAny (model X.prog X.w) X.A (call f us) (EP X pins σ Q) X.xe s
def JH (X:Cx) (r:V→Hp→(Bool→Hp→Prop)→Prop):Prop :=
 ∀ (pins:List (Addr × Obj)) (s:Shared) (σ:St) (H:Hp) (x:V) (v:Value) (Q:Bool→Hp→Prop),Inv X pins σ H s→RelV x v→r x H Q →
  wpAny (model X.prog X.w) X.A (truthy v) (TP X pins σ Q) X.xe s
def tOp (r:R2) (ta tb:TE):TE:=fun σ H Q=>ta σ H fun x H1=>tb σ H1 fun y H2=>r x y H2 Q
def tUn (r:V→Hp→VK→Prop) (ta:TE):TE:=fun σ H Q=>ta σ H fun x H1=>r x H1 Q
def rI (C:Int→Int→Prop) (g:Int→Int→V):R2:=fun x y H Q=>∃ i j,x=.int i∧y=.int j∧C i j∧Q (g i j) H
def rI0 (g:Int→Int→V):R2:=fun x y H Q=>∃ i j,x=.int i∧y=.int j∧Q (g i j) H
def rU (g:Int→V):V→Hp→VK→Prop:=fun x H Q=>∃ i,x=.int i∧Q (g i) H
section
variable {X:Cx} {a b c:Expr} {ta tb tc:TE} {pos:Pos}
theorem wN (ha:PE X a ta) (hb:PE X b tb) {pins:List (Addr × Obj)} {s:Shared} {σ:St} {H:Hp} {R:V→V→Hp→Prop} (I:Inv X pins σ H s)
  (h:ta σ H fun x H1=>tb σ H1 fun y H2=>R x y H2) {Q:Value→Shared→Prop} {f:Value→Value→Sem Value}
  (hf:∀ v u s2 x y H2,Inv X pins σ H2 s2→RelV x v→RelV y u→R x y H2→wpAny (model X.prog X.w) X.A (f v u) Q X.xe s2) :
  wpAny (model X.prog X.w) X.A (eval a X.env) (fun v s₁=>wpAny (model X.prog X.w) X.A (eval b X.env) (fun u s₂=>wpAny (model X.prog X.w) X.A (f v u) Q X.xe s₂) X.xe s₁) X.xe s:=by
 refine thn (ha pins s σ H _ I h) fun v s1 ⟨x,H1,I1,r1,q1⟩=>?_
 refine thn (hb pins s1 σ H1 _ I1 q1) fun u s2 ⟨y,H2,I2,r2,q2⟩=>?_
 exact hf v u s2 x y H2 I2 r1 r2 q2
theorem Ix {op:Operator} {r:R2} (ho:OpR X (binaryOp op) r) (ha:PE X a ta) (hb:PE X b tb):PE X (.BinOp a op b pos) (tOp r ta tb):=by
 intro pins s σ H Q I h
 exact wpAny_BinOp (wN ha hb I h fun v u s2 x y H2 I2 rx ry q=>ho pins s2 σ H2 x y v u Q I2 rx ry q)
theorem Iv {op:UnaryOp} {r:V→Hp→VK→Prop} (ho:UnR X (unaryOp op) r) (ha:PE X a ta):PE X (.UnaryOp op a pos) (tUn r ta):=by
 intro pins s σ H Q I h
 exact UnaryOp_ (thn (ha pins s σ H _ I h) fun v s1 ⟨x,H1,I1,r1,q1⟩=>ho pins s1 σ H1 x v Q I1 r1 q1)
theorem opI {f:Value→Value→Sem Value} {C:Int→Int→Prop} {g:Int→Int→Int}
  (rule:∀ (i j:Int) (t u:Tok) (s:Shared) (Q:Value→Shared→Prop) (E:Value→Shared→Prop),C i j→Q (.int (g i j) s.toks) { s with toks:=s.toks+1 }→wpAny (model X.prog X.w) X.A (f (.int i t) (.int j u)) Q E s) :
  OpR X f (rI C fun i j=>.int (g i j)):=by
 intro pins s σ H x y v u Q I rx ry h
 obtain ⟨i,j,rfl,rfl,hc,q⟩:=h
 obtain ⟨t,rfl⟩:=rx
 obtain ⟨t',rfl⟩:=ry
 exact rule i j t t' s _ _ hc ⟨.int (g i j),H,I.tok _,⟨_,rfl⟩,q⟩
theorem GB {f:Value→Value→Sem Value} {g:Int→Int→Int}
  (rule:∀ (i j:Int) (t u:Tok) (s:Shared) (Q:Value→Shared→Prop) (E:Value→Shared→Prop),Q (.int (g i j) s.toks) { s with toks:=s.toks+1 }→wpAny (model X.prog X.w) X.A (f (.int i t) (.int j u)) Q E s) :
  OpR X f (rI0 fun i j=>.int (g i j)):=by
 intro pins s σ H x y v u Q I rx ry h
 obtain ⟨i,j,rfl,rfl,q⟩:=h
 obtain ⟨t,rfl⟩:=rx
 obtain ⟨t',rfl⟩:=ry
 exact rule i j t t' s _ _ ⟨.int (g i j),H,I.tok _,⟨_,rfl⟩,q⟩
theorem rW {f:Value→Value→Sem Value} {g:Int→Int→Bool}
  (rule:∀ (i j:Int) (t u:Tok) (s:Shared) (Q:Value→Shared→Prop) (E:Value→Shared→Prop),Q (.bool (g i j)) s→wpAny (model X.prog X.w) X.A (f (.int i t) (.int j u)) Q E s) :
  OpR X f (rI0 fun i j=>.bl (g i j)):=by
 intro pins s σ H x y v u Q I rx ry h
 obtain ⟨i,j,rfl,rfl,q⟩:=h
 obtain ⟨t,rfl⟩:=rx
 obtain ⟨t',rfl⟩:=ry
 exact rule i j t t' s _ _ ⟨.bl (g i j),H,I,rfl,q⟩
def gq (i j:Int):Prop:=0 < j∧j < 1073741824
def jQ (i j:Int):Prop:=0≤j∧j≤1000000∧i.natAbs < 2 ^ 64
def CMul (i j:Int):Prop:=(-(2 ^ 64) < i∧i < 2 ^ 64)∨(-(2 ^ 64) < j∧j < 2 ^ 64)
theorem CMul.ok {i j:Int} (h:CMul i j):IntMulOk i j:=by
 rcases h with ⟨h1,h2⟩ | ⟨h1,h2⟩
 ·exact .of_left (intBits_le_64 h1 h2)
 ·exact .of_right (intBits_le_64 h1 h2)
theorem op_add:OpR X (binaryOp .Add) (rI0 fun i j=>.int (i+j)):=GB fun _ _ _ _ _ _ _ q=>add_int q
theorem op_sub:OpR X (binaryOp .Sub) (rI0 fun i j=>.int (i - j)):=GB fun _ _ _ _ _ _ _ q=>sub_int q
theorem op_mul:OpR X (binaryOp .Mult) (rI CMul fun i j=>.int (i * j)):=opI fun _ _ _ _ _ _ _ hc q=>mul_int q hc.ok
theorem op_fdiv:OpR X (binaryOp .FloorDiv) (rI gq fun i j=>.int (i / j)):=opI fun i j _ _ _ _ _ hc q=>by
 have h1:(0:Int) < j:=hc.1
 have h2:j < 1073741824:=hc.2
 exact floordiv_int (by omega) (by rw [Int.fdiv_eq_ediv_of_nonneg i (by omega)]; exact q) (.inl (PyProof.noPylong_small (by omega)))
theorem op_mod:OpR X (binaryOp .Mod) (rI (fun _ j=>0 < j) fun i j=>.int (i % j)):=opI fun i j _ _ _ _ _ hc q=>by
 have h1:(0:Int) < j:=hc
 exact mod_int' (by omega) (by rw [Int.fmod_eq_emod_of_nonneg i (by omega)]; exact q)
theorem op_pow:OpR X (binaryOp .Pow) (rI jQ fun i j=>.int (i ^ j.toNat)):=opI fun _ _ _ _ _ _ _ hc q=>pow_int_small hc.1 hc.2.1 hc.2.2 q
theorem unI {f:Value→Sem Value} {g:Int→Int}
  (rule:∀ (i:Int) (t:Tok) (s:Shared) (Q:Value→Shared→Prop) (E:Value→Shared→Prop),Q (.int (g i) s.toks) { s with toks:=s.toks+1 }→wpAny (model X.prog X.w) X.A (f (.int i t)) Q E s) :
  UnR X f (rU fun i=>.int (g i)):=by
 intro pins s σ H x v Q I rx h
 obtain ⟨i,rfl,q⟩:=h
 obtain ⟨t,rfl⟩:=rx
 exact rule i t s _ _ ⟨.int (g i),H,I.tok _,⟨_,rfl⟩,q⟩
theorem un_neg:UnR X (unaryOp .USub) (rU fun i=>.int (-i)):=unI fun _ _ _ _ _ q=>neg_int q
end
section
variable {X:Cx} {a b c:Expr} {ta tb tc:TE} {pos:Pos}
theorem uM {pins:List (Addr × Obj)} {σ:St} {H:Hp} {s:Shared} {Q:VK} {k k':Bool} (I:Inv X pins σ H s) (q:Q (.bl k) H) (e:k=k'):EP X pins σ Q (.bool k') s:=by
 subst e
 exact ⟨.bl k,H,I,rfl,q⟩
theorem op_lt:OpR X (compareOp .Lt) (rI0 fun i j=>.bl (decide (i < j))):=rW fun _ _ _ _ _ _ _ q=>lt_int q
theorem op_le:OpR X (compareOp .LtE) (rI0 fun i j=>.bl (decide (i≤j))):=rW fun _ _ _ _ _ _ _ q=>le_int q
theorem op_gt:OpR X (compareOp .Gt) (rI0 fun i j=>.bl (decide (j < i))):=rW fun _ _ _ _ _ _ _ q=>gt_int q
theorem op_ge:OpR X (compareOp .GtE) (rI0 fun i j=>.bl (decide (j≤i))):=rW fun _ _ _ _ _ _ _ q=>ge_int q
theorem op_isN:OpR X (compareOp .Is) (fun x y H Q=>y=.non∧Q (.bl (decide (x=.non))) H):=by
 intro pins s σ H x y v u Q I rx ry h
 obtain ⟨rfl,q⟩:=h
 cases ry
 refine is_none_gen (uM I q ?_)
 cases x <;> first
  | (cases rx; rfl)
  | (obtain ⟨t,rfl⟩:=rx; rfl)
theorem op_notN:OpR X (compareOp .IsNot) (fun x y H Q=>y=.non∧Q (.bl (!decide (x=.non))) H):=by
 intro pins s σ H x y v u Q I rx ry h
 obtain ⟨rfl,q⟩:=h
 cases ry
 refine isnot_none_gen (uM I q ?_)
 cases x <;> first
  | (cases rx; rfl)
  | (obtain ⟨t,rfl⟩:=rx; rfl)
theorem aO (b:Expr) {op:CmpOp} (h:op≠.In:=by decide) (h2:op≠.NotIn:=by decide):behindInMarks op b=false:=by
 have e1:(op == CmpOp.In)=false:=by cases op <;> first | rfl | exact absurd rfl h
 have e2:(op == CmpOp.NotIn)=false:=by cases op <;> first | rfl | exact absurd rfl h2
 cases b <;> simp [behindInMarks,e1,e2]
theorem CP {op:CmpOp} {r:R2} (ho:OpR X (compareOp op) r) (ha:PE X a ta) (hb:PE X b tb) (hm:behindInMarks op b=false):PE X (.Compare a [op] [b] pos) (tOp r ta tb):=by
 intro pins s σ H Q I h
 exact wpAny_Compare1 (wN ha hb I h fun v u s2 x y H2 I2 rx ry q=>ho pins s2 σ H2 x y v u Q I2 rx ry q) hm
def BY (t:TE):TT:=fun σ H Q=>t σ H fun x H'=>∃ k,x=.bl k∧Q k H'
theorem CB {op:CmpOp} {r:R2} (ho:OpR X (compareOp op) r) (ha:PE X a ta) (hb:PE X b tb) (hm:behindInMarks op b=false):PT X (.Compare a [op] [b] pos) (BY (tOp r ta tb)):=by
 intro pins s σ H Q I h
 refine wpAny_isTrue_Compare1 (thn (ha pins s σ H _ I h) fun v s1 ⟨x,H1,I1,r1,q1⟩=>thn (hb pins s1 σ H1 _ I1 q1) fun u s2 ⟨y,H2,I2,r2,q2⟩ =>
  thn (ho pins s2 σ H2 x y v u _ I2 r1 r2 q2) fun c s3 ⟨z,H3,I3,r3,k,e,q3⟩=>?_) hm
 subst e
 cases r3
 exact wpAny_truthy_bool ⟨H3,I3,q3⟩
def tI (r r':R2) (ta tb tc:TE):TE:=fun σ H Q=>ta σ H fun x H1=>tb σ H1 fun y H2=>r x y H2 fun z H3=>∃ k,z=.bl k ∧
 (if k=true then tc σ H3 fun w' H4=>r' y w' H4 Q else Q (.bl false) H3)
theorem vm {op op':CmpOp} {r r':R2} (ho:OpR X (compareOp op) r) (ho':OpR X (compareOp op') r') (ha:PE X a ta) (hb:PE X b tb) (hc:PE X c tc)
  (hm:lastMarks [op,op'] [b,c]=false:=by with_unfolding_all rfl):PT X (.Compare a [op,op'] [b,c] pos) (BY (tI r r' ta tb tc)):=by
 intro pins s σ H Q I h
 refine isTrue_chain (thn (ha pins s σ H _ I h) fun v s1 ⟨x,H1,I1,r1,q1⟩=>test_link (thn (hb pins s1 σ H1 _ I1 q1) fun u s2 ⟨y,H2,I2,r2,q2⟩ =>
  thn (ho pins s2 σ H2 x y v u _ I2 r1 r2 q2) fun d s3 ⟨z,H3,I3,r3,k,e,q3⟩=>?_)) hm
 subst e
 cases r3
 refine wpAny_truthy_bool ?_
 cases k with
 | false =>
  obtain ⟨k',e',q'⟩:=q3
  cases e'
  exact ite_ff ⟨H3,I3,q'⟩
 | true =>
  refine ite_tt (test_last (thn (hc pins s3 σ H3 _ I3 q3) fun w' s4 ⟨z',H4,I4,r4,q4⟩=>thn (ho' pins s4 σ H4 y z' u w' _ I4 r2 r4 q4) fun d' s5 ⟨z2,H5,I5,r5,k2,e2,q5⟩=>?_))
  subst e2
  cases r5
  exact wpAny_truthy_bool ⟨H5,I5,q5⟩
def JG (K:PySem.W.Frag) (x:V) (H:Hp) (k:Bool):Prop :=
 match x with
 | .non=>k=false
 | .bl b=>k=b
 | .int i=>k=(i != 0)
 | .str y=>y.length≤sizeLine∧k=((y.length:Int) != 0)
 | .byt y=>y.size≤sizeLine∧k=((y.size:Int) != 0)
 | .ref p=>(∃ xs,SqL K H p xs∧k=!xs.isEmpty)∨(∃ xs,SqT K H p xs∧k=!xs.isEmpty)∨∃ kvs,H p=some (.dK kvs)∧k=!kvs.isEmpty
 | _=>False
theorem i3:(sizeLine:Nat) < 2 ^ 63:=by rw [sizeLine_eq]; decide
theorem rV:OpR X (binaryOp .Add) (fun x y H Q=>∃ i j,x=.str i∧y=.str j∧i.length+j.length≤sizeLine∧Q (.str (i++j)) H):=by
 intro pins s σ H x y v u Q I rx ry h
 obtain ⟨i,j,rfl,rfl,hz,q⟩:=h
 obtain ⟨t,rfl⟩:=rx
 obtain ⟨t',rfl⟩:=ry
 exact add_str (fun t' tk=>⟨.str (i++j),H,I.tok _,⟨_,rfl⟩,q⟩) hz
theorem dA {x:V} {us:List Value} (r:Vals [x] us):∃ u,us=[u]∧RelV x u:=by
 cases r with
 | cons r1 r2=>cases r2; exact ⟨_,rfl,r1⟩
theorem ou {x y:V} {us:List Value} (r:Vals [x,y] us):∃ u w',us=[u,w']∧RelV x u∧RelV y w':=by
 cases r with
 | cons r1 r2 =>
  cases r2 with
  | cons r3 r4=>cases r4; exact ⟨_,_,rfl,r1,r3⟩
theorem call_abs:CallR X (.builtin "abs") (fun xs H Q=>∃ i,xs=[.int i]∧Q (.int (if i < 0 then -i else i)) H):=by
 intro pins s σ H xs us Q I r h
 obtain ⟨i,rfl,q⟩:=h
 obtain ⟨u,rfl,t,rfl⟩:=dA r
 exact call_abs_int fun u tk=>⟨.int (if i < 0 then -i else i),H,I.tok _,⟨_,rfl⟩,q⟩
theorem uZ (hc:X.calm=true):CallR X (.builtin "max") (fun xs H Q=>∃ i j,xs=[.int i,.int j]∧Q (.int (if j > i then j else i)) H):=by
 intro pins s σ H xs us Q I r h
 obtain ⟨i,j,rfl,q⟩:=h
 obtain ⟨u,w',rfl,⟨t,rfl⟩,⟨t',rfl⟩⟩:=ou r
 refine max_two_ints (I.ok.hd hc) fun h' tk k=>⟨_,H,I.kept k,?_,q⟩
 by_cases hj:j > i
 ·rw [if_pos hj,if_pos hj]; exact ⟨_,rfl⟩
 ·rw [if_neg hj,if_neg hj]; exact ⟨_,rfl⟩
theorem uY (hc:X.calm=true):CallR X (.builtin "min") (fun xs H Q=>∃ i j,xs=[.int i,.int j]∧Q (.int (if j < i then j else i)) H):=by
 intro pins s σ H xs us Q I r h
 obtain ⟨i,j,rfl,q⟩:=h
 obtain ⟨u,w',rfl,⟨t,rfl⟩,⟨t',rfl⟩⟩:=ou r
 refine min_two_ints (I.ok.hd hc) fun h' tk k=>⟨_,H,I.kept k,?_,q⟩
 by_cases hj:j < i
 ·rw [if_pos hj,if_pos hj]; exact ⟨_,rfl⟩
 ·rw [if_neg hj,if_neg hj]; exact ⟨_,rfl⟩
theorem call_int1:CallR X (.type "int") (fun xs H Q=>(∃ i,xs=[.int i]∧Q (.int i) H)∨∃ k,xs=[.bl k]∧Q (.int (if k then 1 else 0)) H):=by
 intro pins s σ H xs us Q I r h
 rcases h with ⟨i,rfl,q⟩ | ⟨k,rfl,q⟩
 ·obtain ⟨u,rfl,t,rfl⟩:=dA r
  exact call_int_int ⟨.int i,H,I,⟨_,rfl⟩,q⟩
 ·obtain ⟨u,rfl,r1⟩:=dA r
  cases r1
  exact call_int_bool ⟨.int (if k then 1 else 0),H,I.tok _,⟨_,rfl⟩,q⟩
def Ik (K:PySem.W.Frag) (x:V) (H:Hp) (n:Nat):Prop :=
 match x with
 | .str y=>y.length≤sizeLine∧n=y.length
 | .byt y=>y.size≤sizeLine∧n=y.size
 | .ref p=>(∃ xs,SqL K H p xs∧n=xs.length)∨∃ xs,SqT K H p xs∧n=xs.length
 | _=>False
theorem wJ:CallR X (.builtin "len") (fun xs H Q=>∃ x n,xs=[x]∧Ik X.K x H n∧Q (.int n) H):=by
 intro pins s σ H xs us Q I r h
 obtain ⟨x,n,rfl,e,q⟩:=h
 obtain ⟨u,rfl,rx⟩:=dA r
 have hl:=i3
 have hs:sizeLine=16777216:=sizeLine_eq
 cases x with
 | str y =>
  obtain ⟨t,rfl⟩:=rx
  obtain ⟨hy,e'⟩:y.length≤sizeLine∧n=y.length:=e
  subst e'
  exact len_str (by omega) ⟨.int _,H,I.tok _,⟨_,rfl⟩,q⟩
 | byt y =>
  obtain ⟨t,rfl⟩:=rx
  obtain ⟨hy,e'⟩:y.size≤sizeLine∧n=y.size:=e
  subst e'
  exact PySem.W.len_bytes (by omega) ⟨.int _,H,I.tok _,⟨_,rfl⟩,q⟩
 | ref p =>
  cases rx
  have e':(∃ xs,SqL X.K H p xs∧n=xs.length)∨∃ xs,SqT X.K H p xs∧n=xs.length:=e
  rcases e' with ⟨xs,hx,e'⟩ | ⟨xs,hx,e'⟩
  ·subst e'
   obtain ⟨its,r',pl,hz⟩:=I.list hx
   have hlen:=r'.length
   exact Calls.call_len_list pl.isList (by simp only [List.size_toArray]; omega) ⟨.int xs.length,H,I.tok _,⟨_,by simp only [List.size_toArray]; rw [hlen]⟩,q⟩
  ·subst e'
   obtain ⟨its,r',pl,hz⟩:=I.tuple hx
   have hlen:=r'.length
   exact len_tuple pl (by simp only [List.size_toArray]; omega) ⟨.int xs.length,H,I.tok _,⟨_,by simp only [List.size_toArray]; rw [hlen]⟩,q⟩
 | _=>exact (show False from e).elim
end
end L2
namespace L2
open PySem PySem.Spec PyProof.Rows
structure ObjM (h:Heap) (x dx C:Addr) (mA:Str→Option Value):Prop where
 obj:h.get? x=some (PySem.W.instObj C dx)
 ns:h.Ns1 dx mA
 ne:dx≠x
theorem ui {h:Heap} {dx:Addr} {mA:Str→Option Value} (n:h.Ns1 dx mA):∃ od,h.get? dx=some od∧∀ name,PySem.W.lookIn name od=some (mA name):=by
 obtain ⟨o,es,ep,ho,hd,hk,_,hm⟩:=n
 refine ⟨o,ho,fun name=>?_⟩
 have e:=hm name
 unfold nsFind findBy at e
 rw [← Array.find?_toList] at e
 unfold PySem.W.lookIn
 rw [hd]
 dsimp only
 split
 ·rename_i y q
  rw [q] at e
  exact congrArg some e
 ·rename_i q
  rw [q] at e
  have a:es.toList.any (·.refKey)=false:=by
   rw [List.any_eq_false]
   intro y hy
   obtain ⟨z,t,hkey⟩:=hk y (Array.mem_toList_iff.mp hy)
   simp [DictEntry.refKey,hkey]
  have a':¬ es.toList.any (·.refKey)=true:=by rw [a]; exact Bool.false_ne_true
  rw [if_neg a']
  exact congrArg some e
theorem ObjM.look {h:Heap} {x dx C:Addr} {mA:Str→Option Value} (I:ObjM h x dx C mA):∃ od,PySem.W.InstAt h x (PySem.W.instObj C dx) C (some od)∧∀ name,PySem.W.lookIn name od=some (mA name) :=
 let ⟨od,ho,hl⟩:=ui I.ns
 ⟨od,⟨I.obj,rfl,rfl,ho⟩,hl⟩
section
variable {prog:Program} {w:World} {A:Around} {E:Value→Shared→Prop} {s:Shared} {K:PySem.W.Frag} {x dx C f:Addr} {mA:Str→Option Value} {name:Str} {v:Value}
end
theorem RelO.some_of {v:V} {o:Option Value} (r:RelO (some v) o):∃ u,o=some u∧RelV v u:=by
 cases o with
 | none=>exact (show False from r).elim
 | some u=>exact ⟨u,rfl,r⟩
section
variable {P:Program} {w:World} {H H':Hp} {h h':Heap} {a C dx:Addr} {fs fs':List (Str × V)}
theorem Da (hok:HOk P w H h) (e:H a=some (.ins C dx fs)):∃ mA,ObjM h a dx C mA∧(∀ f,RelO (fs.lookup f) (mA f))∧PySem.Within mA (fs.map (·.1))∧fs.length≤1000∧H dx=some (.own a):=by
 obtain ⟨d,z,ne,ob,mA,n,r,q⟩:=(show ObjOk P w H h a (.ins C dx fs) from hok a _ e)
 exact ⟨mA,⟨ob,n,ne⟩,r,q,z,d⟩
end
structure Cls (K:PySem.W.Frag) (C:Addr):Prop where
 pg:PySem.W.plainGet K C Str.empty=true
 hd:PySem.W.hasDictIn K C=true
 po:PySem.W.plainOver K C=true
 sa:PySem.W.findIn K (.ref C) "__setattr__"=some (some (.builtin "object.__setattr__"))
theorem Cls.get {K:PySem.W.Frag} {C:Addr} (c:Cls K C) (f:Str):PySem.W.plainGet K C f=true:=c.pg
section
variable {X:Cx} {pins:List (Addr × Obj)} {σ:St} {H:Hp} {s:Shared} {a C dx:Addr} {fs:List (Str × V)} {f:Str} {v:V} {A:Around} {E:Value→Shared→Prop}
end
section
variable {X:Cx} {o e value:Expr} {f:Str} {pos pos' tpos:Pos} {ta tv:TE}
end
section
variable {X:Cx} {pins:List (Addr × Obj)} {σ:St} {H:Hp} {s:Shared} {A:Around} {E:Value→Shared→Prop} {Q:Value→Shared→Prop} {c:Value} {b:Bool}
inductive TyOf (K:PySem.W.Frag) (H:Hp):V→Value→Prop where
 | non:TyOf K H .non (.type "NoneType")
 | bl (x:Bool):TyOf K H (.bl x) (.type "bool")
 | int (i:Int):TyOf K H (.int i) (.type "int")
 | str (x:Str):TyOf K H (.str x) (.type "str")
 | flt (x:UInt64):TyOf K H (.flt x) (.type "float")
 | lst {a:Addr} {xs:List V} (e:H a=some (.lst xs)):TyOf K H (.ref a) (.type "list")
 | frz {a:Addr} {o:Obj} {xs:List V} (e:H a=some (.frz o (.lst xs))):TyOf K H (.ref a) (.type "list")
 | tup {a:Addr} {xs:List V} (e:H a=some (.tup xs)):TyOf K H (.ref a) (.type "tuple")
 | dK {a:Addr} {kvs:List (Key × V)} (e:H a=some (.dK kvs)):TyOf K H (.ref a) (.type "dict")
 | dT {a:Addr} {kvs:List (List Key × V)} (e:H a=some (.dT kvs)):TyOf K H (.ref a) (.type "dict")
 | ins {a C dx:Addr} {fs:List (Str × V)} (e:H a=some (.ins C dx fs)) (cl:Cls K C) (ha:PySem.W.findIn K (.ref C) "__class__"=some (some (.builtin "object.__class__")))
   (hn:PySem.W.specialIn K (.builtin "object.__class__") "__get__"=some (some (.builtin "getset_descriptor.__get__"))) (htk:PySem.W.takesIn K (.builtin "object.__class__")=some true)
   (hm:PySem.W.mroIn K C (.type "object")=some true):TyOf K H (.ref a) (.ref C)
theorem ux {x:V} {u t:Value} (I:Inv X pins σ H s) (rx:RelV x u) (ty:TyOf X.K H x t) (e:PySem.W.kitOne X.K t c=some b) (h:∀ tk,Q (.bool b) { s with toks:=tk }) :
  wpAny (model X.prog X.w) A (call (.builtin "isinstance") [u,c]) Q E s:=by
 cases ty with
 | non=>cases (show u=Value.none from rx); exact PySem.W.kia_one PySem.W.kitx_none I.kIn True.intro e (fun z=>nomatch z) h
 | bl y=>cases (show u=Value.bool y from rx); exact PySem.W.kia_one PySem.W.kitx_bool I.kIn True.intro e (fun z=>nomatch z) h
 | int i=>obtain ⟨t,q⟩:=(show ∃ t,u=Value.int i t from rx); cases q; exact PySem.W.kia_one PySem.W.kitx_int I.kIn True.intro e (fun z=>nomatch z) h
 | str y=>obtain ⟨t,q⟩:=(show ∃ t,u=Value.str y t from rx); cases q; exact PySem.W.kia_one PySem.W.kitx_str I.kIn True.intro e (fun z=>nomatch z) h
 | flt y=>obtain ⟨t,q⟩:=(show ∃ t,u=Value.float y t from rx); cases q; exact PySem.W.kia_one PySem.W.kitx_float I.kIn True.intro e (fun z=>nomatch z) h
 | @lst a xs ea =>
  cases (show u=Value.ref a from rx)
  obtain ⟨_,_,n,_,h1⟩:=(show ObjOk X.prog X.w H s.heap a (.lst xs) from I.hok a _ ea)
  exact PySem.W.kia_one PySem.W.kitx_list I.kIn ⟨_,h1,rfl⟩ e (fun z=>nomatch z) h
 | @frz a ob xs ea =>
  cases (show u=Value.ref a from rx)
  obtain ⟨_,_,_,n,_,h1⟩:=(show ObjOk X.prog X.w H s.heap a (.frz ob (.lst xs)) from I.hok a _ ea)
  exact PySem.W.kia_one PySem.W.kitx_list I.kIn ⟨_,h1,rfl⟩ e (fun z=>nomatch z) h
 | @tup a xs ea =>
  cases (show u=Value.ref a from rx)
  obtain ⟨_,_,_,p⟩:=(show ObjOk X.prog X.w H s.heap a (.tup xs) from I.hok a _ ea)
  obtain ⟨o,h1,h2,_⟩:=p
  exact PySem.W.kia_one PySem.W.kitx_tuple I.kIn ⟨o,h1,h2⟩ e (fun z=>nomatch z) h
 | @dK a kvs ea =>
  cases (show u=Value.ref a from rx)
  obtain ⟨_,_,vs,_,p⟩:=(show ObjOk X.prog X.w H s.heap a (.dK kvs) from I.hok a _ ea)
  obtain ⟨o,es,ep,h1,h2,_⟩:=p
  exact PySem.W.kia_one PySem.W.kitx_dict I.kIn ⟨o,h1,h2.1⟩ e (fun z=>nomatch z) h
 | @dT a kvs ea =>
  cases (show u=Value.ref a from rx)
  obtain ⟨_,_,xs,_,o,es,ep,h1,h2,_⟩:=(show ObjOk X.prog X.w H s.heap a (.dT kvs) from I.hok a _ ea)
  exact PySem.W.kia_one PySem.W.kitx_dict I.kIn ⟨o,h1,h2.1⟩ e (fun z=>nomatch z) h
 | @ins a C dx fs ea cl ha hn htk hm =>
  cases (show u=Value.ref a from rx)
  obtain ⟨mA,O,_⟩:=Da I.hok ea
  obtain ⟨od,J,_⟩:=O.look
  exact PySem.W.kia_one (PySem.W.kitx_own (cl.get _) cl.hd ha hn htk hm) I.kIn J e (fun z=>nomatch z) h
end
end L2
namespace L2
open PySem PySem.Spec PyProof.Rows
structure Room (k:Nat) (A:Around):Prop where
 hd:A.handled=none
 dp:A.depth+3 * k+5 < recursionLimit
 un:A.units+16 * k+200 < cLine
 gd:A.guards=some []
theorem Room.mono {j k:Nat} {A:Around} (r:Room k A) (h:j≤k):Room j A:=⟨r.hd,by have:=r.dp; omega,by have:=r.un; omega,r.gd⟩
theorem Room.deeper {k:Nat} {A:Around} (r:Room (k+1) A) (env:Env):Room k (A.deeper env) :=
 ⟨r.hd,by have:=r.dp; show A.depth+1+3 * k+5 < _; omega,by have:=r.un; show A.units+3+16 * k+200 < _; omega,r.gd⟩
theorem Room.depth {k:Nat} {A:Around} (r:Room k A):A.depth < recursionLimit:=by have:=r.dp; omega
theorem Room.units {k:Nat} {A:Around} (r:Room k A):A.units+64 < cLine:=by have:=r.un; omega
def rM:TA:=fun _ H Q=>Q [] H
def l7 (ta:TE) (tr:TA):TA:=fun σ H Q=>ta σ H fun x H1=>tr σ H1 fun xs H2=>Q (x :: xs) H2
section
variable {X:Cx} {e:Expr} {es:List Expr} {te:TE} {t:TA} {pos:Pos}
theorem pa_nil:PA X [] rM:=fun _ _ _ _ H Q I h=>Calls.spliced_nil ⟨[],H,I,.nil,h⟩
theorem gI (ha:PE X e te) (hr:PA X es t) (hs:starEach (e :: es) X.env=(false,eval e X.env) :: starEach es X.env:=by rfl):PA X (e :: es) (l7 te t):=by
 intro pos pins s σ H Q I h
 rw [hs]
 show wpAny _ _ (spliced ((false,eval e X.env) :: backTo pos (starEach es X.env))) _ _ s
 refine Calls.spliced_cons (thn (ha pins s σ H _ I h) fun u s1 ⟨x,H1,I1,r1,q1⟩=>?_)
 exact thn (hr pos pins s1 σ H1 _ I1 q1) fun us s2 ⟨xs,H2,I2,r2,q2⟩=>⟨x :: xs,H2,I2,.cons r1 r2,q2⟩
def FT (t:TA):TE:=fun σ H Q=>t σ H fun xs H1=>xs.length≤sizeLine∧∀ p,H1 p=none→Q (.ref p) (upd H1 p (.tup xs))
def FY (t:TA):TE:=fun σ H Q=>t σ H fun xs H1=>xs.length≤sizeLine∧∀ p,H1 p=none→Q (.ref p) (upd H1 p (.lst xs))
theorem Gu {x1} (h:PA X es t):PE X (.Tuple es x1 pos) (FT t):=by
 intro pins s σ H Q I hq
 refine wpAny_Tuple_spliced (thn (h pos pins s σ H _ I hq) fun us s1 ⟨xs,H1,I1,r,z,q⟩=>⟨by rw [← r.length]; exact z,?_⟩)
 have hf:H1 s1.heap.objs.size=none:=I1.hok.fresh (Nat.le_refl _)
 refine ⟨.ref s1.heap.objs.size,upd H1 s1.heap.objs.size (.tup xs),I1.laid (t':=s1.toks) (fun b u e=>Heap.get?_push_of_some _ e) (Nat.le_refl _) ?_,rfl,q _ hf⟩
 exact ⟨z,us,r,⟨_,Heap.get?_push_size _ rfl,rfl,_,rfl,rfl⟩⟩
theorem Gx (h:PA X es t):PE X (.List es pos) (FY t):=by
 intro pins s σ H Q I hq
 refine wpAny_List_spliced (thn (h pos pins s σ H _ I hq) fun us s1 ⟨xs,H1,I1,r,z,q⟩=>⟨by rw [← r.length]; exact z,?_⟩)
 have hf:H1 s1.heap.objs.size=none:=I1.hok.fresh (Nat.le_refl _)
 refine ⟨.ref s1.heap.objs.size,upd H1 s1.heap.objs.size (.lst xs),I1.laid (t':=s1.toks) (fun b u e=>Heap.get?_push_of_some _ e) (Nat.le_refl _) ?_,rfl,q _ hf⟩
 exact ⟨z,us,0,r,Heap.get?_push_size _ rfl⟩
end
abbrev Sp:=List V→Hp→VK→XK→Prop
abbrev CXT:=List Env→Hp→Shared→XK→Value→Shared→Prop
structure Env0 (P:Program) (w:World) (K:PySem.W.Frag) (mg:Str→Option Value) (base:Heap) (A:Around) (outer:List Env) (s:Shared) (H:Hp):Prop where
 frames:A.frames=some outer
 mod:Mod K mg base
 bs:∀ b o,base.get? b=some o→s.heap.get? b=some o∧H b=none
 bsz:base.objs.size≤s.heap.objs.size
 funs:s.heap.FunFrames base outer
 frf:∀ b∈frs outer,H b=none
 hok:HOk P w H s.heap
 bare:AllBare s.gens
def CE (outer:List Env) (P:Program) (w:World) (H:Hp) (s:Shared) (Q:VK) (u:Value) (s':Shared):Prop :=
 ∃ v H',s'.os=s.os∧AllBare s'.gens∧Un (frs outer) [] H H' s.heap s'.heap∧HOk P w H' s'.heap∧RelV v u∧Q v H'
def CR (CX:CXT) (outer:List Env) (P:Program) (w:World) (H:Hp) (s:Shared) (Q:VK) (E:XK) (r:Result) (s':Shared):Prop :=
 match r with
 | .ok (.ret u)=>CE outer P w H s Q u s'
 | .ok _=>False
 | .error e=>CX outer H s E e s'
structure FnOk (P:Program) (w:World) (K:PySem.W.Frag) (mg:Str→Option Value) (base:Heap) (CX:CXT) (k:Nat) (f:Addr) (fd:FuncData) (ps:List Str) (sp:Sp):Prop where
 len:∀ vs H Q E,sp vs H Q E→vs.length=ps.length
 run:∀ (A:Around) (outer:List Env) (s:Shared) (H:Hp) (args:Args) (us:List Value) (vs:List V) (Q:VK) (E:XK),Room k A→Env0 P w K mg base A outer s H→BindsTo s fd args (ps.zip us)→Vals vs us→sp vs H Q E →
  codeAny (model P w) A (.call (.ref f) args) (CR CX outer P w H s Q E) s
theorem FnOk.mono {P:Program} {w:World} {K:PySem.W.Frag} {mg:Str→Option Value} {base:Heap} {CX:CXT} {j k:Nat} {f:Addr} {fd:FuncData} {ps:List Str} {sp:Sp} (F:FnOk P w K mg base CX j f fd ps sp) (h:j≤k) :
  FnOk P w K mg base CX k f fd ps sp:=⟨F.len,fun A outer s H args us vs Q E hr=>F.run A outer s H args us vs Q E (hr.mono h)⟩
theorem FnOk.imp {P:Program} {w:World} {K:PySem.W.Frag} {mg:Str→Option Value} {base:Heap} {CX:CXT} {k:Nat} {f:Addr} {fd:FuncData} {ps:List Str} {sp sp':Sp} (F:FnOk P w K mg base CX k f fd ps sp)
  (h:∀ vs H Q E,sp' vs H Q E→sp vs H Q E):FnOk P w K mg base CX k f fd ps sp' :=
 ⟨fun vs H Q E q=>F.len vs H Q E (h _ _ _ _ q),fun A outer s H args us vs Q E hr he hb hv hs=>F.run A outer s H args us vs Q E hr he hb hv (h _ _ _ _ hs)⟩
section
variable {X:Cx} {pins:List (Addr × Obj)} {σ:St} {H:Hp} {s s':Shared}
theorem Inv.env0 (I:Inv X pins σ H s):Env0 X.prog X.w X.K X.mg X.base X.A X.stack s H :=
 ⟨I.ok.frames,I.ok.mod,I.bs,Nat.le_trans I.ok.bsz I.sz,I.stack,I.stkFree,I.hok,I.bare⟩
theorem Inv.after {Q:VK} {u:Value} (I:Inv X pins σ H s) (h:CE X.stack X.prog X.w H s Q u s'):EP X pins σ Q u s':=by
 obtain ⟨v,H',os,bare,un,hok,r,q⟩:=h
 obtain ⟨hh,g,d,t,os'⟩:=s'
 obtain rfl:os'=s.os:=os
 exact ⟨v,H',I.call (h':=hh) (g':=g) (d':=d) (t':=t) (ch:=[]) un hok bare (fun b z=>absurd z (by simp)),r,q⟩
end
def oz (sp:Sp) (dvs:List V) (E:XK) (t:TA):TE:=fun σ H Q=>t σ H fun vs H1=>sp (vs++dvs) H1 Q E
def Binds (K:PySem.W.Frag) (fd:FuncData) (ps:List Str) (ds:List Value):Prop :=
 ∀ (s:Shared) (us:List Value),K.In s.heap→(us++ds).length=ps.length→BindsTo s fd ⟨us,[]⟩ (ps.zip (us++ds))
theorem Binds.all {K:PySem.W.Frag} {fd:FuncData} {ps:List Str} (h:∀ us:List Value,us.length=ps.length→bindArgs fd ⟨us,[]⟩=pure (ps.zip us)):Binds K fd ps []:=fun s us _ hl=>by
 rw [List.append_nil] at hl ⊢
 exact .of_eq (h us hl)
def ql (CX:CXT) (X:Cx) (E:XK):Prop:=∀ (pins:List (Addr × Obj)) (σ:St) (H:Hp) (s:Shared) (e:Value) (s':Shared),Inv X pins σ H s→CX X.stack H s E e s'→X.xe e s'
section
variable {X:Cx} {CX:CXT} {k:Nat} {f C:Addr} {fd:FuncData} {ps:List Str} {sp:Sp} {dvs:List V} {ds:List Value} {E:XK} {x m:Str} {p pos apos:Pos} {e o:Expr} {es:List Expr} {ta:TE} {t:TA}
theorem Gb {pins:List (Addr × Obj)} {σ:St} {H:Hp} {s:Shared} {Q:VK} {us:List Value} {vs:List V} (F:FnOk X.prog X.w X.K X.mg X.base CX k f fd ps sp) (hr:Room k X.A) (hb:Binds X.K fd ps ds) (hd:Vals dvs ds) (hx:ql CX X E)
  (I:Inv X pins σ H s) (r:Vals vs us) (h:sp (vs++dvs) H Q E):wpAny (model X.prog X.w) X.A (call (.ref f) us) (EP X pins σ Q) X.xe s:=by
 have r2:Vals (vs++dvs) (us++ds):=r.append hd
 have hl:(us++ds).length=ps.length:=by rw [← r2.length]; exact F.len _ _ _ _ h
 refine wpAny_call (codeAny_mono (F.run X.A X.stack s H ⟨us,[]⟩ (us++ds) (vs++dvs) Q E hr I.env0 (hb s us I.kIn hl) r2 h) fun r s' hq=>?_)
 cases r with
 | error e=>exact hx pins σ H s e s' I hq
 | ok fl =>
  cases fl with
  | ret u=>exact I.after hq
  | next=>exact False.elim hq
  | brk=>exact False.elim hq
  | cont=>exact False.elim hq
theorem CQ (F:FnOk X.prog X.w X.K X.mg X.base CX k f fd ps sp) (hr:Room k X.A) (hg:Gl X x) (hm:X.mg x=some (.ref f)) (hk:PySem.W.keepIn X.K (.ref f)=true) (hb:Binds X.K fd ps ds) (hd:Vals dvs ds) (hx:ql CX X E)
  (ha:PA X (e :: es) t) (hdb:(x == ("__debug__" : Str))=false:=by decide) (he:starEach (e :: es) X.env=(false,eval e X.env) :: starEach es X.env:=by rfl) (hpl:(backTo pos (starEach es X.env)).any (·.1)=false:=by rfl) :
  PE X (.Call (.Name x p) (e :: es) [] pos) (oz sp dvs E t):=by
 intro pins s σ H Q I h
 refine wpAny_Call_Name_kw (qZ I hg hm ?_ hdb)
 refine PySem.W.callWith_K (h₀:=X.base) I.ok.mod.kin hk (thn (ha pos pins s σ H _ I h) fun us s1 ⟨vs,H1,I1,r,q⟩=>⟨I1.kIn,?_⟩) he hpl
 exact Gb F hr hb hd hx I1 r q
end
section
variable {X:Cx} {CX:CXT} {k:Nat} {f C:Addr} {fd:FuncData} {ps ks:List Str} {sp:Sp} {E:XK} {x m:Str} {p pos apos kpos:Pos} {e o:Expr} {es:List Expr} {kws:List Keyword} {te ta:TE} {t tk:TA} {nm:Option Str}
variable {g:List Value→List Value→List Value} {gV:List V→List V→List V}
end
structure FnScope (N P:List Str) (sc:Scope):Prop where
 kind:sc.kind=.function
 co:sc.isCoroutine=false
 gen:sc.isGenerator=false
 nd:N.Nodup
 pre:N.take P.length=P
 par:∀ x∈P,sc.names.lookup x=some .local∨sc.names.lookup x=some .cell
 nofree:∀ y∈sc.names,y.2≠.free
theorem nR {kindOf:Str→Option NameKind} {x:Str}:∀ {binds:List (Str × Value)} {m:Str→Option Value},(∀ v,(x,v) ∉ binds)→bindL kindOf binds m x=m x
 | [],_,_=>rfl
 | (n,v) :: r,m,h=>by
  unfold bindL
  rw [nR fun w hw=>h w (List.mem_cons_of_mem _ hw)]
  split
  ·have:x≠n:=by rintro rfl; exact h v List.mem_cons_self
   simp [this]
  ·rfl
theorem nT {kindOf:Str→Option NameKind} {x:Str}:∀ {binds:List (Str × Value)} {m:Str→Option Value},(∀ v,(x,v) ∉ binds)→bindC kindOf binds m x=m x
 | [],_,_=>rfl
 | (n,v) :: r,m,h=>by
  unfold bindC
  rw [nT fun w hw=>h w (List.mem_cons_of_mem _ hw)]
  split
  ·rfl
  ·have:x≠n:=by rintro rfl; exact h v List.mem_cons_self
   simp [this]
theorem nS {kindOf:Str→Option NameKind} {x:Str} {v:Value}:∀ {P:List Str} {vs:List Value} {i:Nat} {m:Str→Option Value},P.Nodup→P[i]?=some x→vs[i]?=some v→kindOf x=some .local →
  bindL kindOf (P.zip vs) m x=some v
 | [],_,_,_,_,h,_,_=>by simp at h
 | _ :: _,[],_,_,_,_,h,_=>by simp at h
 | p :: P,w :: vs,0,m,nd,h1,h2,hk=>by
  simp at h1 h2; subst h1; subst h2
  show bindL kindOf ((p,w) :: P.zip vs) m p=_
  unfold bindL
  rw [nR fun v hv=>(List.nodup_cons.mp nd).1 (List.of_mem_zip hv).1,if_pos hk]
  simp
 | p :: P,w :: vs,i+1,m,nd,h1,h2,hk=>by
  show bindL kindOf ((p,w) :: P.zip vs) m x=_
  unfold bindL
  exact nS (i:=i) (List.nodup_cons.mp nd).2 (by simpa using h1) (by simpa using h2) hk
theorem nU {kindOf:Str→Option NameKind} {x:Str} {v:Value}:∀ {P:List Str} {vs:List Value} {i:Nat} {m:Str→Option Value},P.Nodup→P[i]?=some x→vs[i]?=some v→kindOf x≠some .local →
  bindC kindOf (P.zip vs) m x=some v
 | [],_,_,_,_,h,_,_=>by simp at h
 | _ :: _,[],_,_,_,_,h,_=>by simp at h
 | p :: P,w :: vs,0,m,nd,h1,h2,hk=>by
  simp at h1 h2; subst h1; subst h2
  show bindC kindOf ((p,w) :: P.zip vs) m p=_
  unfold bindC
  rw [nT fun v hv=>(List.nodup_cons.mp nd).1 (List.of_mem_zip hv).1,if_neg hk]
  simp
 | p :: P,w :: vs,i+1,m,nd,h1,h2,hk=>by
  show bindC kindOf ((p,w) :: P.zip vs) m x=_
  unfold bindC
  exact nU (i:=i) (List.nodup_cons.mp nd).2 (by simpa using h1) (by simpa using h2) hk
def dB (N:List Str) (vs:List V):St:=vs.map some++List.replicate (N.length - vs.length) none
def lJ (CX:CXT) (P:Program) (w:World) (K:PySem.W.Frag) (mg:Str→Option Value) (base:Heap) (N:List Str) (qual:Str) (scope:Scope) (f:Addr) (cd:Value) (A:Around) (outer:List Env) (s:Shared) (H:Hp) (E:XK):Cx where
 prog:=P
 w:=w
 K:=K
 mg:=mg
 base:=base
 A:=A.deeper (envOfC qual scope s.heap.objs.size f cd)
 N:=N
 s₀:=s
 H₀:=H
 env:=envOfC qual scope s.heap.objs.size f cd
 outer:=outer
 stack:=envOfC qual scope s.heap.objs.size f cd :: outer
 ex:=[]
 calm:=true
 fn:=fun _=>true
 pn:=[]
 xe:=fun e s'=>wpAny (model P w) (A.deeper (envOfC qual scope s.heap.objs.size f cd)) (leaving (envOfC qual scope s.heap.objs.size f cd) e) (fun _ s''=>CX outer H s E e s'') (fun e' s''=>CX outer H s E e' s'') s'
theorem qc {sc:Scope} {n:Nat} {x:Str} (h:sc.names.lookup x=some .cell):∃ c,(cellsFrom n sc.names []).lookup x=some c:=by
 have q:=PySem.W.cellsFrom_some sc.names n [] (.inl h)
 exact Option.isSome_iff_exists.mp q
theorem uy {CX:CXT} {P:Program} {w:World} {K:PySem.W.Frag} {mg:Str→Option Value} {base:Heap} {N ps:List Str} {qual:Str} {scope:Scope} {f:Addr} {cd:Value} {A:Around} {outer:List Env} {s s1:Shared} {H:Hp} {E:XK} {us:List Value} {vs:List V}
  (S:FnScope N ps scope) (hd:A.handled=none) (e0:Env0 P w K mg base A outer s H) (hl:vs.length=ps.length) (r:Vals vs us)
  (x:InCallC s s.heap.objs.size (bindL (envOfC qual scope s.heap.objs.size f cd).kindOf (ps.zip us) fun _=>none) (cellsFrom (s.heap.objs.size+1) scope.names []) (bindC (envOfC qual scope s.heap.objs.size f cd).kindOf (ps.zip us) fun _=>none) s1) :
  Inv (lJ CX P w K mg base N qual scope f cd A outer s H E) [] (dB N vs) H s1:=by
 have hpl:ps.length≤N.length:=by have:=congrArg List.length S.pre; rw [List.length_take] at this; omega
 obtain ⟨h1,tk,rfl,hk⟩:=x.done
 have noA:∀ b:Addr,b ∉ (lJ CX P w K mg base N qual scope f cd A outer s H E).ex:=fun b z=>absurd (show b∈([]:List Addr) from z) (by simp)
 refine ⟨⟨e0.mod,S.kind,rfl,rfl,Nat.le_refl _,fun y z c h1 h2=>?_,fun y hy=>?_,fun y c _ h=>?_,fun _=>hd,Around.frames_deeper e0.frames,.inr ⟨rfl,rfl⟩,fun b z=>absurd z (noA b),e0.bs,e0.bsz,fun b _ _=>noA b,fun b z=>absurd z (noA b),e0.funs,e0.frf⟩,
  rfl,e0.bare,Un.kept hk,⟨_,x.toInCall.ns,fun i y v h1 h2 h3=>?_⟩,fun y c h=>⟨_,x.cell y c h⟩,e0.hok.fresh (Nat.le_refl _),fun y c h=>?_,fun p hp=>absurd (show p∈([]:List (Addr × Obj)) from hp) (by simp),e0.hok.kept hk,?_⟩
 ·exact name_of_addr x.apart (PySem.mem_of_lookup h1) (PySem.mem_of_lookup h2)
 ·have hy:scope.names.lookup y=some .cell∨scope.names.lookup y=some .free:=hy
  rcases hy with hy | hy
  ·exact qc hy
  ·exact absurd rfl (S.nofree _ (PySem.mem_of_lookup hy))
 ·exact Nat.le_of_lt (x.above y c (PySem.mem_of_lookup h))
 ·have hi:i < vs.length:=by
   unfold dB at h2
   by_cases hi:i < vs.length
   ·exact hi
   ·rw [List.getElem?_append_right (by simpa using hi)] at h2
    rw [List.getElem?_replicate] at h2
    split at h2 <;> cases h2
  have ha:vs[i]?=some v:=by
   unfold dB at h2
   rw [List.getElem?_append_left (by simpa using hi),List.getElem?_map] at h2
   cases e:vs[i]? with
   | none=>rw [e] at h2; cases h2
   | some a=>rw [e] at h2; cases h2; rfl
  obtain ⟨u,hu,rv⟩:=r.get ha
  have hp:ps[i]?=some y:=by
   rw [← S.pre,List.getElem?_take_of_lt (by omega)]; exact h1
  have ndP:ps.Nodup:=by rw [← S.pre]; exact S.nd.sublist (List.take_sublist _ _)
  refine ⟨u,rv,?_⟩
  rcases S.par y (List.mem_of_getElem? hp) with k | k
  ·exact .inl ⟨k,nS ndP hp hu k⟩
  ·obtain ⟨c,e⟩:=qc (n:=s.heap.objs.size+1) k
   refine .inr ⟨.inl k,c,e,?_⟩
   have q:=x.cell y c e
   rw [nU ndP hp hu (by show scope.names.lookup y≠_; rw [k]; decide)] at q
   exact q
 ·exact e0.hok.fresh (Nat.le_of_lt (x.above y c (PySem.mem_of_lookup h)))
 ·unfold dB
  show _=N.length
  rw [List.length_append,List.length_map,List.length_replicate]
  omega
theorem II {CX:CXT} {P:Program} {w:World} {K:PySem.W.Frag} {mg:Str→Option Value} {base:Heap} {k:Nat} {f:Addr} {name qual:Str} {params:Arguments} {body:List Stmt} {scope:Scope} {dV kV doc pm cdv ct oc:Value} {an od:Option Addr}
  {osl:Array (Option Value)} {N ps:List Str} {sp:Sp} (lk:K.lookup f=some ⟨oc,od,.func (PySem.W.fnOf name qual params body scope dV kV doc pm an cdv ct),osl⟩) (hcd:PySem.W.codeIn K cdv qual=true) (S:FnScope N ps scope)
  (len:∀ vs H Q E,sp vs H Q E→vs.length=ps.length)
  (hbody:∀ (A:Around) (outer:List Env) (s:Shared) (H:Hp) (vs:List V) (Q:VK) (E:XK),Room k (A.deeper (envOfC qual scope s.heap.objs.size f cdv))→sp vs H Q E →
   ∃ t,PSs (lJ CX P w K mg base N qual scope f cdv A outer s H E) body t∧t { nx:=fun _ H'=>Q .non H',rt:=Q } (dB N vs) H) :
  FnOk P w K mg base CX (k+1) f (PySem.W.fnOf name qual params body scope dV kV doc pm an cdv ct) ps sp:=by
 refine ⟨len,fun A outer s H args us vs Q E hr e0 hb r hsp=>?_⟩
 have hl:=len _ _ _ _ hsp
 have KX:K.In s.heap:=e0.mod.kin.keeps fun b o e=>(e0.bs b o e).1
 have lim:s.heap.NoLimit:=e0.mod.nolimit.keeps fun b o e=>(e0.bs b o e).1
 have hkind:∀ y∈ps.zip us,scope.names.lookup y.1=some .local∨(scope.names.lookup y.1=some .cell∧((cellsFrom (s.heap.objs.size+1) scope.names []).lookup y.1).isSome=true):=fun ⟨n,v⟩ hy=>by
  rcases S.par n (List.of_mem_zip hy).1 with q | q
  ·exact .inl q
  ·exact .inr ⟨q,PySem.W.cellsFrom_some _ _ _ (.inl q)⟩
 refine codeAny_call_function hr.depth (KX _ _ lk) rfl S.co S.gen rfl (PySem.W.codeRec_of KX hcd) (hb _ _ _ _ ?_)
 refine wpAny_newFunctionEnv_cells S.kind hkind fun env he s1 x=>?_
 subst he
 refine ⟨lim.keeps x.toInCall.keep,codeAny_func ?_⟩
 obtain ⟨t,ht,hq⟩:=hbody A outer s H vs Q E (hr.deeper _) hsp
 have I:Inv (lJ CX P w K mg base N qual scope f cdv A outer s H E) [] (dB N vs) H s1:=uy S hr.hd e0 hl r x
 refine wpAny_mono (ht [] s1 (dB N vs) H _ I hq) (fun fl s' hs=>?_) fun e s' hs=>hs
 have fin:∀ {σ':St} {H':Hp} {v:V} {u:Value},Inv (lJ CX P w K mg base N qual scope f cdv A outer s H E) [] σ' H' s'→RelV v u→Q v H'→CE outer P w H s Q u s' :=
  fun {σ' H' v u} J rv q=>⟨v,H',J.os,J.bare,J.base,J.hok,rv,q⟩
 cases fl with
 | ret u =>
  obtain ⟨v,σ',H',J,rv,q⟩:=hs
  exact fin J rv q
 | next =>
  obtain ⟨σ',H',J,q⟩:=hs
  exact fin (v:=V.non) (u:=Value.none) J rfl q
 | brk =>
  obtain ⟨_,_,_,q⟩:=hs
  exact False.elim q
 | cont =>
  obtain ⟨_,_,_,q⟩:=hs
  exact False.elim q
end L2
namespace L2
open PySem PySem.Spec PyProof.Rows
section
variable {X:Cx} {x:Str} {p pos:Pos} {e:Expr} {es:List Expr} {t:TA} {id T:String} {r:List V→Hp→VK→Prop}
def tCB (r:List V→Hp→VK→Prop) (t:TA):TE:=fun σ H Q=>t σ H fun vs H1=>r vs H1 Q
theorem pc (hc:CallR X (.builtin id) r) (hg:Gl X x) (hm:X.mg x=none) (hv:bootBuiltins x=some (.builtin id)) (ha:PA X (e :: es) t) (hn:x≠"__name__":=by decide) (hdb:(x == ("__debug__" : Str))=false:=by decide)
  (he:starEach (e :: es) X.env=(false,eval e X.env) :: starEach es X.env:=by rfl) (hpl:(backTo pos (starEach es X.env)).any (·.1)=false:=by rfl):PE X (.Call (.Name x p) (e :: es) [] pos) (tCB r t):=by
 intro pins s σ H Q I h
 refine wpAny_Call_Name_kw (i4 I hg hm hv ?_ hn hdb)
 exact PyProof.Rows.callWith_builtin1 (thn (ha pos pins s σ H _ I h) fun us s1 ⟨vs,H1,I1,r1,q1⟩=>hc pins s1 σ H1 vs us Q I1 r1 q1) he hpl
theorem tW (hc:CallR X (.type T) r) (hg:Gl X x) (hm:X.mg x=none) (hv:bootBuiltins x=some (.type T)) (ha:PA X (e :: es) t) (hn:x≠"__name__":=by decide) (hdb:(x == ("__debug__" : Str))=false:=by decide)
  (he:starEach (e :: es) X.env=(false,eval e X.env) :: starEach es X.env:=by rfl) (hpl:(backTo pos (starEach es X.env)).any (·.1)=false:=by rfl):PE X (.Call (.Name x p) (e :: es) [] pos) (tCB r t):=by
 intro pins s σ H Q I h
 refine wpAny_Call_Name_kw (i4 I hg hm hv ?_ hn hdb)
 exact PyProof.Rows.callWith_type1 (thn (ha pos pins s σ H _ I h) fun us s1 ⟨vs,H1,I1,r1,q1⟩=>hc pins s1 σ H1 vs us Q I1 r1 q1) he hpl
end
end L2
namespace HT
open PySem PyProof.Rows
section
open PySem.SeqAt
open PySem.AutoSeq1 (wpAny_loadPart')
open PySem.MeetsSeq PySem.MeetsSeq2 PySem.MeetsSeq3
end
section
variable {prog:Program} {w:World} {A:Around} {E:Value→Shared→Prop} {s:Shared}
def sIx (n d:Nat):Option Int→Nat
 | none=>d
 | some v=>if v < 0 then (v+(n:Int)).toNat else min v.toNat n
theorem sIx_none (n d:Nat):sIx n d none=d:=rfl
theorem sIx_nat (n d k:Nat):sIx n d (some (k:Int))=min k n:=by
 show (if (k:Int) < 0 then ((k:Int)+(n:Int)).toNat else min (k:Int).toNat n)=min k n
 rw [if_neg (by omega),Int.toNat_natCast]
end
end HT
namespace L2
open PySem PySem.Spec PyProof.Rows
abbrev TO:=St→Hp→(Option Int→Hp→Prop)→Prop
def PO (X:Cx) (e:Option Expr) (t:TO):Prop :=
 ∀ (pins:List (Addr × Obj)) (s:Shared) (σ:St) (H:Hp) (Q:Option Int→Hp→Prop),Inv X pins σ H s→t σ H Q →
  wpAny (model X.prog X.w) X.A (evalPart e X.env) (fun u s'=>∃ o H',Inv X pins σ H' s'∧IsPart u o∧Q o H') X.xe s
def Cr:TO:=fun _ H Q=>Q none H
def Il (t:TE):TO:=fun σ H Q=>t σ H fun x H1=>∃ i,x=.int i∧Q (some i) H1
theorem sD {ns:List Int}:∀ {us:List Value},Vals (ns.map V.int) us→IntsAre us ns:=by
 induction ns with
 | nil=>intro us r; rw [List.map_nil] at r; cases r; exact .nil
 | cons n ns ih =>
  intro us r
  rw [List.map_cons] at r
  cases r with
  | cons r1 r2 =>
   obtain ⟨t,e⟩:=r1
   subst e
   exact .cons n t (ih r2)
section
variable {X:Cx} {e:Expr} {te:TE} {lo hi:Option Expr} {tl th:TO} {pos p2:Pos}
theorem po_none:PO X none Cr:=by
 intro pins s σ H Q I h
 rw [evalPart_none]
 exact wpAny_pure ⟨none,H,I,.none,h⟩
theorem CK (h:PE X e te):PO X (some e) (Il te):=by
 intro pins s σ H Q I hw
 rw [evalPart_some]
 refine thn (h pins s σ H _ I hw) fun u s1 ⟨x,H1,I1,r1,q1⟩=>?_
 obtain ⟨i,rfl,q⟩:=q1
 obtain ⟨t,rfl⟩:=r1
 exact ⟨some i,H1,I1,.int i t,q⟩
def SlR (X:Cx) (r:V→Option Int→Option Int→Hp→VK→Prop):Prop :=
 ∀ (pins:List (Addr × Obj)) (s:Shared) (σ:St) (H:Hp) (x:V) (v vl vu:Value) (lo hi:Option Int) (sl:Addr) (Q:VK),Inv X pins σ H s→RelV x v→s.heap.IsSliceOf sl vl vu .none→IsPart vl lo→IsPart vu hi→r x lo hi H Q →
  ∃ T id,typeLookup (.type T) "__getitem__"=pure (some (.builtin id))∧s.TypeIs v T∧wpAny (model X.prog X.w) X.A (getItem v (.ref sl)) (EP X pins σ Q) X.xe s
def tSl (r:V→Option Int→Option Int→Hp→VK→Prop) (te:TE) (tl th:TO):TE:=fun σ H Q=>te σ H fun x H1=>tl σ H1 fun l H2=>th σ H2 fun u H3=>r x l u H3 Q
theorem vx {r:V→Option Int→Option Int→Hp→VK→Prop} (hr:SlR X r) (he:PE X e te) (hl:PO X lo tl) (hu:PO X hi th):PE X (.Subscript e (.Slice lo hi none p2) pos) (tSl r te tl th):=by
 intro pins s σ H Q I h
 refine Subscript_ (thn (he pins s σ H _ I h) fun v s1 ⟨x,H1,I1,r1,q1⟩=>?_)
 refine wpAny_Slice (thn (hl pins s1 σ H1 _ I1 q1) fun vl s2 ⟨l,H2,I2,pl,q2⟩=>thn (hu pins s2 σ H2 _ I2 q2) fun vu s3 ⟨u,H3,I3,pu,q3⟩=>?_)
 rw [evalPart_none]
 refine wpAny_pure ?_
 have I4:Inv X pins σ H3 { s3 with heap:=s3.heap.push { cls:=.type "slice",data:=.fields #[vl,vu,.none] } }:=I3.kept (t':=s3.toks) fun b ob q=>Heap.get?_push_of_some _ q
 obtain ⟨T,id,hT,ht,hg⟩:=hr pins { s3 with heap:=s3.heap.push { cls:=.type "slice",data:=.fields #[vl,vu,.none] } } σ H3 x v vl vu l u s3.heap.objs.size Q I4 r1 (Heap.IsSliceOf.new ..) pl pu q3
 show wpAny (model X.prog X.w) X.A (subscriptTail e (.Slice lo hi none p2) v (.ref s3.heap.objs.size)) (EP X pins σ Q) X.xe { s3 with heap:=s3.heap.push { cls:=.type "slice",data:=.fields #[vl,vu,.none] } }
 exact tail_any (ops:=[.ref s3.heap.objs.size,v]) ht hT hg (by with_unfolding_all rfl)
def nj (xs:List V) (lo hi:Option Int):List V:=(xs.drop (HT.sIx xs.length 0 lo)).take (HT.sIx xs.length xs.length hi - HT.sIx xs.length 0 lo)
theorem qE (xs:List V) (lo hi:Option Int):(nj xs lo hi).length≤xs.length:=by
 unfold nj
 rw [List.length_take,List.length_drop]
 omega
end
end L2
namespace L2
open PySem PySem.Spec PyProof.Rows
def ixN (n:Nat) (i:Int):Option Nat:=if 0≤i then (if i < n then some i.toNat else none) else if -(n:Int)≤i then some (i+n).toNat else none
def atI {α:Type} (xs:List α) (i:Int):Option α:=(ixN xs.length i).bind fun j=>xs[j]?
theorem re {n:Nat} {i:Int} {j:Nat} (h:ixN n i=some j):seqIndex? i n=some j∧j < n∧-(n:Int)≤i∧i < n:=by
 unfold ixN at h
 by_cases h0:0≤i
 ·rw [if_pos h0] at h
  by_cases h1:i < n
  ·rw [if_pos h1] at h
   have e:i.toNat=j:=Option.some.inj h
   exact ⟨by rw [seqIndex_of h0 h1,e],by omega,by omega,h1⟩
  ·rw [if_neg h1] at h; cases h
 ·rw [if_neg h0] at h
  by_cases h1:-(n:Int)≤i
  ·rw [if_pos h1] at h
   have e:(i+n).toNat=j:=Option.some.inj h
   exact ⟨by rw [seqIndex_neg (by omega) h1,e],by omega,h1,by omega⟩
  ·rw [if_neg h1] at h; cases h
theorem no {α:Type} {xs:List α} {i:Int} {v:α} (h:atI xs i=some v):∃ j,seqIndex? i xs.length=some j∧xs[j]?=some v∧j < xs.length∧-(xs.length:Int)≤i∧i < xs.length:=by
 unfold atI at h
 cases e:ixN xs.length i with
 | none=>rw [e] at h; cases h
 | some j =>
  rw [e] at h
  obtain ⟨h1,h2,h3,h4⟩:=re e
  exact ⟨j,h1,h,h2,h3,h4⟩
def fF (b:Expr):Prop:=∀ o i,subscripted b false o i=operate [o,i] (getItem o i)
def IxR (X:Cx) (r:R2):Prop :=
 ∀ (value slice:Expr) (pins:List (Addr × Obj)) (s:Shared) (σ:St) (H:Hp) (x y:V) (v u:Value) (Q:VK),Inv X pins σ H s→RelV x v→RelV y u→r x y H Q →
  subscripted slice false v u=operate [v,u] (getItem v u)→wpAny (model X.prog X.w) X.A (subscriptTail value slice v u) (EP X pins σ Q) X.xe s
def MtR (X:Cx) (id:String) (r:V→List V→Hp→VK→Prop):Prop :=
 ∀ (pins:List (Addr × Obj)) (s:Shared) (σ:St) (H:Hp) (x:V) (xs:List V) (v:Value) (us:List Value) (Q:VK),Inv X pins σ H s→RelV x v→Vals xs us→r x xs H Q →
  wpAny (model X.prog X.w) X.A (call (.builtin id) (v :: us)) (EP X pins σ Q) X.xe s
section
variable {X:Cx} {a b:Expr} {ta tb:TE} {pos:Pos}
theorem IxR.or {r r':R2} (h:IxR X r) (h':IxR X r'):IxR X (fun x y H Q=>r x y H Q∨r' x y H Q):=by
 intro value slice pins s σ H x y v u Q I rx ry q hs
 rcases q with q | q
 ·exact h value slice pins s σ H x y v u Q I rx ry q hs
 ·exact h' value slice pins s σ H x y v u Q I rx ry q hs
theorem rR {r:R2} (hr:IxR X r) (ha:PE X a ta) (hb:PE X b tb) (hs:fF b):PE X (.Subscript a b pos) (tOp r ta tb):=by
 intro pins s σ H Q I h
 exact Subscript_ (wN ha hb I h fun v u s2 x y H2 I2 rx ry q=>hr a b pins s2 σ H2 x y v u Q I2 rx ry q (hs _ _))
def rP (K:PySem.W.Frag):R2:=fun x y H Q=>∃ p xs i v,x=.ref p∧y=.int i∧SqL K H p xs∧atI xs i=some v∧Q v H
def Gh (K:PySem.W.Frag):R2:=fun x y H Q=>∃ p xs i v,x=.ref p∧y=.int i∧SqT K H p xs∧atI xs i=some v∧Q v H
def Gi:R2:=fun x y H Q=>∃ z i c,x=.str z∧y=.int i∧z.length≤sizeLine∧atI z.cps.toList i=some c∧Q (.str ⟨#[c]⟩) H
theorem ix_list:IxR X (rP X.K):=by
 intro value slice pins s σ H x y v u Q I rx ry h hs
 obtain ⟨p,xs,i,z,rfl,rfl,hq,he,q⟩:=h
 cases rx
 obtain ⟨t,rfl⟩:=ry
 obtain ⟨its,r,pl,hz⟩:=I.list hq
 obtain ⟨j,h1,h2,h3,h4,h5⟩:=no he
 obtain ⟨w,ew,rw'⟩:=r.get h2
 have hl:=r.length
 have hn:=i3
 have fin:EP X pins σ Q w s:=⟨z,H,I,rw',q⟩
 by_cases h0:0≤i
 ·have hj:i.toNat=j:=by
   rw [seqIndex_of h0 h5] at h1
   exact Option.some.inj h1
  exact item_listR pl.isList h0 (by omega) (by rw [hj]; simpa using ew) fin hs
 ·have hj:(i+(its.toArray.size:Int)).toNat=j:=by
   rw [seqIndex_neg (by omega) h4] at h1
   rw [List.size_toArray,← hl]
   exact Option.some.inj h1
  exact subscriptTail_builtinR (x:=w) pl.isList.typeIs slot_list_getitem.lookup
   (wpAny_getItem_list_neg (Q:=fun r s'=>r=w∧EP X pins σ Q r s') pl.isList (by omega) (by rw [List.size_toArray] <;> omega) (by omega) (by rw [hj]; simpa using ew) ⟨rfl,fin⟩) hs
theorem ix_tup:IxR X (Gh X.K):=by
 intro value slice pins s σ H x y v u Q I rx ry h hs
 obtain ⟨p,xs,i,z,rfl,rfl,hq,he,q⟩:=h
 cases rx
 obtain ⟨t,rfl⟩:=ry
 obtain ⟨its,r,pl,hz⟩:=I.tuple hq
 obtain ⟨j,h1,h2,h3,h4,h5⟩:=no he
 obtain ⟨w,ew,rw'⟩:=r.get h2
 have hl:=r.length
 have hn:=i3
 have fin:EP X pins σ Q w s:=⟨z,H,I,rw',q⟩
 exact subscriptTail_builtinR (x:=w) pl.typeIs slot_tuple_getitem.lookup
  (getItem_tuple (j:=j) (Q:=fun r s'=>r=w∧EP X pins σ Q r s') pl (by omega) (by omega) (by rw [List.size_toArray,← hl]; exact h1) (by simpa using ew) ⟨rfl,fin⟩) hs
theorem ix_str:IxR X Gi:=by
 intro value slice pins s σ H x y v u Q I rx ry h hs
 obtain ⟨z,i,c,rfl,rfl,hz,he,q⟩:=h
 obtain ⟨t,rfl⟩:=rx
 obtain ⟨t',rfl⟩:=ry
 obtain ⟨j,h1,h2,h3,h4,h5⟩:=no he
 have hl:z.cps.toList.length=z.length:=by simp [Str.length]
 rw [hl] at h1 h4 h5
 have hn:=i3
 exact tail_any (typeIs_str s z t) slot_str_getitem.lookup (getItem_str (c:=c) (by
  have e1:decide (i < -(2 ^ 63:Int))=false:=decide_eq_false (by omega)
  have e2:decide (i ≥ 2 ^ 63)=false:=decide_eq_false (by omega)
  rw [e1,e2,Bool.or_false]) (by rw [h1]; simpa using h2) ⟨.str ⟨#[c]⟩,H,I.tok _,⟨_,rfl⟩,q⟩) hs
def rIx (K:PySem.W.Frag):R2:=fun x y H Q=>rP K x y H Q∨Gh K x y H Q∨Gi x y H Q
theorem ix_seq:IxR X (rIx X.K):=ix_list.or (ix_tup.or ix_str)
theorem sf (its:List Value) (n j:Nat) (u:Value):Obj.mapSeq (·.setIfInBounds j u) { cls:=.type "list",data:=.seq its.toArray n }={ cls:=.type "list",data:=.seq (its.set j u).toArray n }:=by
 simp [Obj.mapSeq]
theorem Inv.lst {pins:List (Addr × Obj)} {σ:St} {H:Hp} {s:Shared} {p:Addr} {xs:List V} (I:Inv X pins σ H s) (h:H p=some (.lst xs)) :
  ∃ (its:List Value) (n:Nat),Vals xs its∧s.heap.get? p=some { cls:=.type "list",data:=.seq its.toArray n }∧xs.length≤sizeLine:=by
 obtain ⟨z,its,n,r,e⟩:=I.hok p _ h
 exact ⟨its,n,r,e,z⟩
theorem Inv.lstUpd {pins:List (Addr × Obj)} {σ:St} {H:Hp} {s:Shared} {p:Addr} {xs ys:List V} {its its':List Value} {n n':Nat} {f:Obj→Obj} (I:Inv X pins σ H s) (h:H p=some (.lst xs))
  (ho:s.heap.get? p=some { cls:=.type "list",data:=.seq its.toArray n }) (hf:f { cls:=.type "list",data:=.seq its.toArray n }={ cls:=.type "list",data:=.seq its'.toArray n' }) (r:Vals ys its') (hz:ys.length≤sizeLine) (t:Nat) :
  Inv X pins σ (upd H p (.lst ys)) { s with heap:=s.heap.update p f,toks:=t }:=by
 have e:(s.heap.update p f).get? p=some { cls:=.type "list",data:=.seq its'.toArray n' }:=by
  rw [Heap.get?_update_self f ho (by rw [hf] <;> rfl),hf]
 refine I.write (x:=p) (e:=p) (by rw [h]; trivial) (.inl rfl) (fun b u hb q=>(Heap.get?_update_other _ _ (Ne.symm hb)).trans q) ⟨_,e⟩ ?_
 exact ⟨hz,its',n',r,e⟩
def rO:V→V→V→Hp→(Hp→Prop)→Prop:=fun o i v H Q=>∃ p xs k j,o=.ref p∧i=.int k∧H p=some (.lst xs)∧ixN xs.length k=some j∧Q (upd H p (.lst (xs.set j v)))
theorem oY:Ii X rO:=by
 intro pins s σ H o i v ov iv u Q I ro ri rv h
 obtain ⟨p,xs,k,j,rfl,rfl,hp,hj,q⟩:=h
 cases ro
 obtain ⟨t,rfl⟩:=ri
 obtain ⟨its,n,r,ho,hz⟩:=I.lst hp
 obtain ⟨h1,h2,h3,h4⟩:=re hj
 have hl:=r.length
 have hn:=i3
 have I':Inv X pins σ (upd H p (.lst (xs.set j v))) { s with heap:=s.heap.update p (Obj.mapSeq (·.setIfInBounds j u)) } :=
  I.lstUpd hp ho (sf its n j u) (r.set rv j) (by rw [List.length_set]; exact hz) s.toks
 by_cases h0:0≤k
 ·have hk:k.toNat=j:=by
   rw [seqIndex_of h0 h4] at h1
   exact Option.some.inj h1
  exact PySem.W.ki_setAt ho h0 (by omega) (by rw [List.size_toArray,← hl]; exact h4) (by rw [hk]; exact ⟨_,I',q⟩)
 ·have hk:(k+(its.toArray.size:Int)).toNat=j:=by
   rw [seqIndex_neg (by omega) h3] at h1
   rw [List.size_toArray,← hl]
   exact Option.some.inj h1
  exact PySem.W.ki_setBack ho (by omega) (by rw [List.size_toArray,← hl]; exact h3) (by omega) (by rw [hk]; exact ⟨_,I',q⟩)
theorem oW (lo hi:Option Int) (n:Nat):(sliceBounds lo hi none n).1=((HT.sIx n 0 lo:Nat):Int)∧(sliceBounds lo hi none n).2.1=((HT.sIx n n hi:Nat):Int)∧(sliceBounds lo hi none n).2.2=1:=by
 refine ⟨?_,?_,rfl⟩
 ·cases lo with
  | none=>simp [sliceBounds,HT.sIx]
  | some i =>
   simp only [sliceBounds,HT.sIx,Option.getD_none,show (1:Int) > 0 by decide,if_true]
   by_cases h:i < 0
   ·simp only [h,if_true] <;> omega
   ·simp only [h,if_false] <;> omega
 ·cases hi with
  | none=>simp [sliceBounds,HT.sIx]
  | some i =>
   simp only [sliceBounds,HT.sIx,Option.getD_none,show (1:Int) > 0 by decide,if_true]
   by_cases h:i < 0
   ·simp only [h,if_true] <;> omega
   ·simp only [h,if_false] <;> omega
theorem oe (its:List Value) (lo hi:Option Int):slicePick its.toArray lo hi none=((its.drop (HT.sIx its.length 0 lo)).take (HT.sIx its.length its.length hi - HT.sIx its.length 0 lo)).toArray:=by
 obtain ⟨h1,h2,h3⟩:=oW lo hi its.toArray.size
 unfold slicePick
 rw [h1,h2,h3]
 simp only [sliceRange_one,pick_run,List.size_toArray] <;> rfl
def Gf (K:PySem.W.Frag):V→Option Int→Option Int→Hp→VK→Prop:=fun x lo hi H Q=>∃ a xs,x=.ref a∧SqL K H a xs∧∀ p,H p=none→Q (.ref p) (upd H p (.lst (nj xs lo hi)))
theorem Cv:SlR X (Gf X.K):=by
 intro pins s σ H x v vl vu lo hi sl Q I rx hs pl pu h
 obtain ⟨a,xs,rfl,hx,q⟩:=h
 cases rx
 obtain ⟨its,r,ht,hz⟩:=I.list hx
 have hlen:=r.length
 refine ⟨"list",_,slot_list_getitem.lookup,ht.isList.typeIs,?_⟩
 refine wpAny_getItem_list_slice ht.isList hs pl pu .none (by simp) ?_ (by rw [List.size_toArray] <;> omega)
 rw [oe,← hlen]
 refine ⟨.ref s.heap.objs.size,_,I.laid (t':=s.toks) (o:=.lst (nj xs lo hi)) (fun b ob q=>Heap.get?_push_of_some _ q) (Nat.le_refl _) ?_,rfl,q _ (I.hok.fresh (Nat.le_refl _))⟩
 exact ⟨Nat.le_trans (qE xs lo hi) hz,_,0,(r.drop (HT.sIx xs.length 0 lo)).take (HT.sIx xs.length xs.length hi - HT.sIx xs.length 0 lo),Heap.get?_push_size _ rfl⟩
def eqV:V→V→Bool
 | .non,.non=>true
 | .bl a,.bl b=>a == b
 | .bl a,.int b=>(if a then 1 else 0) == b
 | .int a,.bl b=>a == (if b then 1 else 0)
 | .int a,.int b=>a == b
 | .str a,.str b=>a == b
 | _,_=>false
def eqU (x:V) (u:Value):Bool:=match u with
 | .none=>eqV .non x
 | .bool b=>eqV (.bl b) x
 | .int i _=>eqV (.int i) x
 | .str z _=>eqV (.str z) x
 | _=>false
theorem qg:CallR X (.type "list") (fun xs H Q=>∃ p ys,xs=[.ref p]∧(SqL X.K H p ys∨SqT X.K H p ys)∧∀ l,H l=none→Q (.ref l) (upd H l (.lst ys))):=by
 intro pins s σ H xs us Q I r h
 obtain ⟨p,ys,rfl,hq,q⟩:=h
 obtain ⟨u,rfl,rx⟩:=dA r
 cases rx
 have fin:∀ (its:List Value),Vals ys its→ys.length≤sizeLine→∀ (h':Heap) (c':Nat),(∀ b o',s.heap.get? b=some o'→h'.get? b=some o') →
   h'.get? s.heap.objs.size=some { cls:=.type "list",dict:=none,data:=.seq its.toArray c',slots:=#[] }→EP X pins σ Q (.ref s.heap.objs.size) { s with heap:=h' }:=fun its r' hz h' c' kp e =>
  ⟨.ref s.heap.objs.size,_,I.laid (t':=s.toks) kp (Nat.le_refl _) (show ObjOk X.prog X.w _ h' _ (.lst ys) from ⟨hz,its,c',r',e⟩),rfl,q _ (I.hok.fresh (Nat.le_refl _))⟩
 rcases hq with hq | hq
 ·obtain ⟨its,r',pl,hz⟩:=I.list hq
  have hlen:=r'.length
  obtain ⟨o,ho,hc,n,hd⟩:=pl.isList
  exact call_list_seq p (.inl rfl) ho hc hd (fun h' c' kp e=>fin its r' hz h' c' kp e) (by simp only [List.size_toArray] <;> omega)
 ·obtain ⟨its,r',pl,hz⟩:=I.tuple hq
  have hlen:=r'.length
  obtain ⟨o,ho,hc,n,hd⟩:=pl
  exact call_list_seq p (.inr rfl) ho hc hd (fun h' c' kp e=>fin its r' hz h' c' kp e) (by simp only [List.size_toArray] <;> omega)
theorem oh:CallR X (.type "tuple") (fun xs H Q=>∃ p ys,xs=[.ref p]∧((SqL X.K H p ys∧∀ l,H l=none→Q (.ref l) (upd H l (.tup ys)))∨(SqT X.K H p ys∧Q (.ref p) H))):=by
 intro pins s σ H xs us Q I r h
 obtain ⟨p,ys,rfl,h⟩:=h
 obtain ⟨u,rfl,rx⟩:=dA r
 cases rx
 rcases h with ⟨hq,q⟩ | ⟨hq,q⟩
 ·obtain ⟨its,r',pl,hz⟩:=I.list hq
  have hlen:=r'.length
  refine call_tuple_list pl.isList (fun h' kp=>?_) (by simp only [List.size_toArray] <;> omega)
  have I1:Inv X pins σ H { s with heap:=h' }:=I.kept (t':=s.toks) kp
  have I2:Inv X pins σ (upd H h'.objs.size (.tup ys)) { s with heap:=h'.push { cls:=.type "tuple",data:=.seq its.toArray } } :=
   I1.laid (t':=s.toks) (fun b o e=>Heap.get?_push_of_some _ e) (Nat.le_refl _) (show ObjOk X.prog X.w _ _ _ (.tup ys) from ⟨hz,its,r',IsTupN.new _ _⟩)
  exact ⟨.ref h'.objs.size,_,I2,rfl,q _ (I1.hok.fresh (Nat.le_refl _))⟩
 ·obtain ⟨its,r',pl,hz⟩:=I.tuple hq
  exact call_tuple_same pl ⟨.ref p,H,I,rfl,q⟩
def tyV (K:PySem.W.Frag) (T:String) (x:V) (H:Hp):Prop:=match x with
 | .str _=>T="str"
 | .int _=>T="int"
 | .ref p=>(T="list"∧∃ xs,SqL K H p xs)∨(T="tuple"∧∃ o,K.lookup p=some o∧o.cls=.type "tuple"∧o.dict=none) ∨
   (T="dict"∧((∃ kvs,H p=some (.dK kvs))∨∃ kvs,H p=some (.dT kvs)))∨(T="set"∧∃ S n,H p=some (.set S n))
 | _=>False
theorem tq {pins:List (Addr × Obj)} {σ:St} {H:Hp} {s:Shared} {T:String} {x:V} {v:Value} (I:Inv X pins σ H s) (r:RelV x v) (ty:tyV X.K T x H) :
  s.TypeIs v T∧∀ a,v=.ref a→∃ ob,s.heap.get? a=some ob∧ob.dict=none:=by
 cases x with
 | str z =>
  obtain ⟨t,rfl⟩:=r
  cases (show T="str" from ty)
  exact ⟨typeIs_str s z t,fun _ e=>nomatch e⟩
 | int i =>
  obtain ⟨t,rfl⟩:=r
  cases (show T="int" from ty)
  exact ⟨typeIs_int s i t,fun _ e=>nomatch e⟩
 | ref p =>
  cases r
  rcases ty with ⟨rfl,xs,hq⟩ | ⟨rfl,o,hk,hc,hd⟩ | ⟨rfl,hk⟩ | ⟨rfl,S,n,hk⟩
  ·obtain ⟨its,_,pl,_⟩:=I.list hq
   refine ⟨pl.isList.typeIs,fun a e=>?_⟩
   cases e
   obtain ⟨o,n,e,c,hd,_⟩:=pl
   exact ⟨o,e,hd⟩
  ·refine ⟨⟨o,I.kIn p o hk,hc⟩,fun a e=>?_⟩
   cases e
   exact ⟨o,I.kIn _ o hk,hd⟩
  ·have z:∃ o,s.heap.get? p=some o∧o.ExactDict:=by
    rcases hk with ⟨kvs,hk⟩ | ⟨kvs,hk⟩
    ·obtain ⟨_,_,_,_,o,_,_,e,ex,_⟩:=I.hok p _ hk
     exact ⟨o,e,ex⟩
    ·obtain ⟨_,_,_,_,o,_,_,e,ex,_⟩:=I.hok p _ hk
     exact ⟨o,e,ex⟩
   obtain ⟨o,e,ex⟩:=z
   refine ⟨⟨o,e,ex.1⟩,fun a e2=>?_⟩
   cases e2
   exact ⟨o,e,ex.2.1⟩
  ·obtain ⟨o,_,_,_,e,ex,_⟩:=I.hok p _ hk
   refine ⟨⟨o,e,ex.1⟩,fun a e2=>?_⟩
   cases e2
   exact ⟨o,e,ex.2.1⟩
 | _=>exact False.elim ty
def F8 (K:PySem.W.Frag) (T:String) (r:V→List V→Hp→VK→Prop) (to:TE):TE:=fun σ H Q=>to σ H fun x H1=>tyV K T x H1∧r x [] H1 Q
def tBM (K:PySem.W.Frag) (T:String) (r:V→List V→Hp→VK→Prop) (to:TE) (t:TA):TE:=fun σ H Q=>to σ H fun x H1=>tyV K T x H1∧t σ H1 fun xs H2=>r x xs H2 Q
variable {o e:Expr} {es:List Expr} {to:TE} {t:TA} {name:Str} {apos cpos:Pos} {T id:String} {r:V→List V→Hp→VK→Prop}
theorem Gy (pa:PlainAttrs T) (slot:Slot T name id) (hty:typeOf (.builtin id)=pure (.type "method_descriptor")) (hm:MtR X id r) (ho:PE X o to)
  (hbase:attributeBase o name X.env (eval o X.env)=eval o X.env:=by rfl) (hline:(apos.endLine == cpos.line)=true:=by rfl):PE X (.Call (.Attribute o name apos) [] [] cpos) (F8 X.K T r to):=by
 intro pins s σ H Q I h
 refine wpAny_Call_method0_late hbase hline (thn (ho pins s σ H _ I h) fun v s1 ⟨x,H1,I1,r1,ty,q1⟩=>?_)
 obtain ⟨h1,h2⟩:=tq I1 r1 ty
 exact ⟨T,id,pa,slot,hty,h1,h2,Calls.callWith_builtin rfl (PySem.evalArgs_none (hm pins s1 σ H1 x [] v [] Q I1 r1 .nil q1))⟩
theorem rT (pa:PlainAttrs T) (slot:Slot T name id) (hty:typeOf (.builtin id)=pure (.type "method_descriptor")) (hm:MtR X id r) (ho:PE X o to) (ha:PA X (e :: es) t)
  (hbase:attributeBase o name X.env (eval o X.env)=eval o X.env:=by rfl)
  (hfew:((backTo cpos (starEach (e :: es) X.env)).all (fun x=>!x.1) && (backToKw cpos (keywordEach [] X.env)).all (fun x=>x.1.isSome)
   && decide ((e :: es).length+([]:List Keyword).length+(if ([]:List Keyword).isEmpty then 0 else 1) < 30))=true:=by rfl)
  (hline:(apos.endLine == cpos.line)=true:=by rfl) (hs:starEach (e :: es) X.env=(false,eval e X.env) :: starEach es X.env:=by rfl) (hplain:(backTo cpos (starEach es X.env)).any (·.1)=false:=by rfl) :
  PE X (.Call (.Attribute o name apos) (e :: es) [] cpos) (tBM X.K T r to t):=by
 intro pins s σ H Q I h
 refine wpAny_Call_method_late hbase hfew hline rfl (thn (ho pins s σ H _ I h) fun v s1 ⟨x,H1,I1,r1,ty,q1⟩=>?_)
 obtain ⟨h1,h2⟩:=tq I1 r1 ty
 refine ⟨T,id,pa,slot,hty,h1,h2,?_⟩
 have hA:=ha cpos pins s1 σ H1 _ I1 q1
 rw [hs] at hA ⊢
 refine Calls.callWith_builtin (by show (false || (backTo cpos (starEach es X.env)).any (·.1))=false; rw [hplain] <;> rfl) (Calls.evalArgs_plain ?_)
 exact thn hA fun us s2 ⟨vs,H2,I2,r2,q2⟩=>hm pins s2 σ H2 x vs v us Q I2 r1 r2 q2
end
end L2
namespace L2
open PySem PySem.Spec PyProof.Rows
def MtM (X:Cx) (id:String) (r:V→List V→Hp→VK→Prop):Prop :=
 ∀ (pins:List (Addr × Obj)) (s:Shared) (σ:St) (H:Hp) (x:V) (xs:List V) (v:Value) (us:List Value) (Q:VK),Inv X pins σ H s→RelV x v→Vals xs us→r x xs H Q →
  wpAny (model X.prog X.w) X.A (call (.builtin id) (v :: us)) (EP X pins σ Q) X.xe s
theorem Vals.one:∀ {x:V} {us:List Value},Vals [x] us→∃ u,us=[u]∧RelV x u
 | _,_,.cons r .nil=>⟨_,rfl,r⟩
theorem Vals.two {x y:V} {us:List Value} (h:Vals [x,y] us):∃ u v,us=[u,v]∧RelV x u∧RelV y v:=by
 cases h with
 | cons r t =>
  cases t with
  | cons q n =>
   cases n
   exact ⟨_,_,rfl,r,q⟩
theorem Vals.zero:∀ {us:List Value},Vals [] us→us=[]
 | _,.nil=>rfl
theorem Vals.dropLast {xs:List V} {us:List Value} (h:Vals xs us):Vals xs.dropLast us.dropLast:=by
 induction h with
 | nil=>exact .nil
 | cons r t ih =>
  cases t with
  | nil=>exact .nil
  | cons q t'=>exact .cons r ih
theorem Vals.eraseIdx:∀ {xs:List V} {us:List Value} (i:Nat),Vals xs us→Vals (xs.eraseIdx i) (us.eraseIdx i)
 | _,_,_,.nil=>.nil
 | _,_,0,.cons _ t=>t
 | _,_,i+1,.cons r t=>.cons r (Vals.eraseIdx i t)
theorem jA {α:Type} (l:List α):l.eraseIdx (l.length - 1)=l.dropLast:=by
 induction l with
 | nil=>rfl
 | cons a r ih =>
  cases r with
  | nil=>rfl
  | cons b r =>
   have e:(a :: b :: r).length - 1=((b :: r).length - 1)+1:=by
    have h1:(a :: b :: r).length=r.length+2:=rfl
    have h2:(b :: r).length=r.length+1:=rfl
    omega
   rw [e,List.eraseIdx_cons_succ,ih]
   all_goals rfl
theorem nK {α:Type}:∀ (l:List α) (i:Nat),(l.eraseIdx i).length≤l.length
 | [],_=>Nat.le_refl _
 | _ :: _,0=>Nat.le_succ _
 | _ :: r,i+1=>Nat.succ_le_succ (nK r i)
section
variable {X:Cx} {pins:List (Addr × Obj)} {σ:St} {H:Hp} {s:Shared} {l b:Addr} {xs ys zs:List V}
theorem Inv.lset {its its':List Value} {n:Nat} {f:Array Value→Array Value} {t':Nat} (I:Inv X pins σ H s) (hH:H l=some (.lst xs))
  (e:s.heap.get? l=some { cls:=.type "list",data:=.seq its.toArray n }) (hf:f its.toArray=its'.toArray) (hv:Vals ys its') (hz:ys.length≤sizeLine) :
  Inv X pins σ (upd H l (.lst ys)) { s with heap:=s.heap.update l (Obj.mapSeq f),toks:=t' }:=by
 have q:=PySem.IsL.update e f
 rw [hf] at q
 refine I.write (x:=l) (e:=l) (by rw [hH]; exact trivial) (.inl rfl) (fun b' u hb hu=>(Heap.get?_update_other s.heap (Obj.mapSeq f) (Ne.symm hb)).trans hu) ⟨_,q⟩ ?_
 exact ⟨hz,its',_,hv,q⟩
theorem Inv.lnew {its:List Value} {t':Nat} (I:Inv X pins σ H s) (hv:Vals ys its) (hz:ys.length≤sizeLine) :
  Inv X pins σ (upd H s.heap.objs.size (.lst ys)) { s with heap:=s.heap.push { cls:=.type "list",data:=.seq its.toArray },toks:=t' } :=
 I.laid (fun _ _ q=>Heap.get?_push_of_some _ q) (Nat.le_refl _) ⟨hz,its,0,hv,Heap.get?_push_size _ rfl⟩
theorem Inv.fresh (I:Inv X pins σ H s):H s.heap.objs.size=none:=I.hok.fresh (Nat.le_refl _)
theorem Inv.lstM (I:Inv X pins σ H s) (hH:H l=some (.lst xs)):xs.length≤sizeLine∧∃ (its:List Value) (n:Nat),Vals xs its∧xs.length=its.length∧s.heap.get? l=some { cls:=.type "list",data:=.seq its.toArray n }:=by
 obtain ⟨z,its,n,r,e⟩:=I.hok l _ hH
 exact ⟨z,its,n,r,r.length,e⟩
end
section
variable {X:Cx}
def qR:V→List V→Hp→VK→Prop:=fun x vs H Q=>∃ l xs y,x=.ref l∧vs=[y]∧H l=some (.lst xs)∧xs.length < sizeLine∧Q .non (upd H l (.lst (xs++[y])))
theorem nI:MtM X "list.append" qR:=by
 intro pins s σ H x vs v us Q I rx rv h
 obtain ⟨l,xs,y,rfl,rfl,hH,hz,q⟩:=h
 cases rx
 obtain ⟨u,rfl,ru⟩:=rv.one
 obtain ⟨z,its,n,r,hl,e⟩:=I.lstM hH
 refine call_meets F.slot_list_append ⟨_,e,rfl⟩ F.entry_list_append (F.args_list_append_2 _ _) (PySem.list_append l its.toArray n u (by rw [List.size_toArray]; omega)) ⟨e,?_⟩
 refine ⟨.non,_,I.lset (its':=its++[u]) hH e (by simp) (r.append (.cons ru .nil)) ?_,rfl,q⟩
 rw [List.length_append,List.length_singleton]
 omega
def Gg:V→List V→Hp→VK→Prop:=fun x vs H Q=>∃ l xs y,x=.ref l∧vs=[]∧H l=some (.lst xs)∧xs[xs.length - 1]?=some y∧Q y (upd H l (.lst xs.dropLast))
theorem GI:MtM X "list.pop" Gg:=by
 intro pins s σ H x vs v us Q I rx rv h
 obtain ⟨l,xs,y,rfl,rfl,hH,hy,q⟩:=h
 cases rx
 have hus:=rv.zero
 subst hus
 obtain ⟨z,its,n,r,hl,e⟩:=I.lstM hH
 obtain ⟨u,hu,ru⟩:=r.get hy
 have hy':its.toArray[its.toArray.size - 1]?=some u:=by
  show its.toArray[its.length - 1]?=some u
  rw [← Array.getElem?_toList,← hl]
  exact hu
 refine call_meets F.slot_list_pop ⟨_,e,rfl⟩ F.entry_list_pop (F.args_list_pop_1 _) (MeetsSeq.list_pop_last l its.toArray n u hy' (by rw [List.size_toArray]; omega)) ⟨e,?_⟩
 refine ⟨y,_,I.lset (its':=its.dropLast) hH e ?_ r.dropLast ?_,ru,q⟩
 ·show its.toArray.eraseIdxIfInBounds (its.toArray.size - 1)=its.dropLast.toArray
  rw [List.size_toArray,List.eraseIdxIfInBounds_toArray,jA]
 ·rw [List.length_dropLast]
  omega
def tM:V→List V→Hp→VK→Prop:=fun x vs H Q=>∃ l xs i k y,x=.ref l∧vs=[.int i]∧H l=some (.lst xs)∧-(2 ^ 63)≤i∧i < 2 ^ 63∧seqIndex? i xs.length=some k∧xs[k]?=some y∧Q y (upd H l (.lst (xs.eraseIdx k)))
theorem vI:MtM X "list.pop" tM:=by
 intro pins s σ H x vs v us Q I rx rv h
 obtain ⟨l,xs,i,k,y,rfl,rfl,hH,h1,h2,hk,hy,q⟩:=h
 cases rx
 obtain ⟨u,rfl,ru⟩:=rv.one
 obtain ⟨t,rfl⟩:=ru
 obtain ⟨z,its,n,r,hl,e⟩:=I.lstM hH
 obtain ⟨w,hw,rw'⟩:=r.get hy
 refine call_meets F.slot_list_pop ⟨_,e,rfl⟩ F.entry_list_pop (F.args_list_pop_2 _ _)
  (MeetsSeq.list_pop_at l its.toArray n i t k w (fitsIndex_both h1 h2) (by rw [List.size_toArray,← hl]; exact hk) (by rw [← Array.getElem?_toList]; exact hw) (by rw [List.size_toArray]; omega)) ⟨e,?_⟩
 refine ⟨y,_,I.lset (its':=its.eraseIdx k) hH e ?_ (r.eraseIdx k) ?_,rw',q⟩
 ·show its.toArray.eraseIdxIfInBounds k=(its.eraseIdx k).toArray
  rw [List.eraseIdxIfInBounds_toArray]
 ·have:=nK xs k
  omega
end
section
variable {prog:Program} {w:World} {A:Around} {E:Value→Shared→Prop} {s:Shared}
end
section
variable {X:Cx}
end
end L2
namespace Att
open PySem PySem.W PySem.Calls PyProof.Rows
theorem mt {P:Params} {h:Heap}:∀ (ns:List Int) (vs:List Value),WellAll P h vs (ns.map WData.int)→IntsAre vs ns:=by
 intro ns
 induction ns with
 | nil =>
  intro vs w
  rw [List.map_nil] at w
  cases w
  exact .nil
 | cons n ns ih =>
  intro vs w
  rw [List.map_cons] at w
  cases w with
  | cons a b =>
   cases a
   exact .cons _ _ (ih _ b)
theorem tK {l:OpenLaw} {n:Nat} (hn:l.most=some n) {P:Params} {h:Heap} {args:List WData} {vals:List Value}
  (hpre:l.row.toRowW.claim.pre args=true) (hwl:WellAll P h vals args) :
  ∃ a vs ns,vals=[Value.ref a]∧args=[WData.list (ns.map WData.int)]∧h.get? a=some { cls:=.type "list",data:=.seq vs.toArray }∧IntsAre vs ns∧ns.length≤n:=by
 have hsh:WShape.hasAll [] args [.list .int]=true:=(pre_splitW hpre).1
 have hc:l.pre.holds [] { args:=args }=true:=(pre_splitW hpre).2
 obtain ⟨d,r,rfl,h1,h2⟩:=hasAllW_cons hsh
 obtain rfl:=hasAllW_nil h2
 obtain ⟨xs,rfl,h3⟩:=hasW_list h1
 obtain ⟨ns,rfl⟩:=items_int h3
 have hlen:ns.length≤n:=by
  unfold OpenLaw.pre at hc
  have h4:(WTm.not (.lt (.lit (.int (n:Int))) (.len (.arg 0)))).holds [] { args:=[.list (ns.map .int)] }=true:=by
   have h4:=(holds_andW hc).1
   rw [hn] at h4
   exact h4
  have h5:=condW_of h4 (w_not (w_lt w_lit (w_len_list (w_arg rfl))))
  rw [List.length_map] at h5
  refine Nat.le_of_not_lt fun q=>?_
  have q':(n:Int) < ((ns.length:Nat):Int):=by omega
  first
   | (rw [decide_eq_true q'] at h5; exact absurd h5 (by decide))
   | (simp at h5; omega)
 cases hwl with
 | cons w1 w2 =>
  cases w2
  cases w1 with
  | list ho hall=>exact ⟨_,_,ns,rfl,rfl,ho,mt ns _ hall,hlen⟩
theorem tR (l:OpenLaw) (args:List WData):l.row.toRowW.claim.post args (.bool true) args=true :=
 postW_of (r:=l.row.toRowW) (X:=(true == true))
  (show WShape.has [] (.bool true) .bool=true by first | rfl | decide | simp [WShape.has,WShape.arms,WShape.armsAll])
  (show (WTm.eq .res (.lit (.bool true))).value [] { args:=args,res:=some (.bool true),after:=args }=some (.bool (true == true)) from w_eq_bool (w_res rfl) w_lit) rfl
theorem attach_call {l:OpenLaw} {n:Nat} {q:Program} {loose:List Str} {XP:(Str→Option Value)→Heap→Prop} {YP:World→Heap→Prop} {d:DefRec}
  (hn:l.most=some n) (hdf:d.params.defaults=[])
  (call:∀ (w:World) (s₀ s₁:Shared) (mg mb:Str→Option Value) (fa:Addr) (o:Obj) (pm cd doc:Value) (a:Addr) (vs:List Value) (ns:List Int),
   Ground q loose [] XP w s₀ mg mb s₁.heap→YP w s₁.heap →
   s₁.heap.get? fa=some o→o.data=.func (docDef d.name d.params d.body d.scope pm cd doc)→s₁.heap.CodeRec cd d.name→mg d.name=some (.ref fa) →
   s₁.heap.get? a=some { cls:=.type "list",data:=.seq vs.toArray }→IntsAre vs ns→ns.length≤n→s₁.gens=#[] →
   codeAny (model l.prog w) callerA (.call (.ref fa) ⟨[.ref a],[]⟩) (fun r s'=>r=.ok (.ret (.bool true))∧OldK s₁.heap s'.heap∧s'.os=s₁.os∧AllBare s'.gens) s₁) :
  WalkO q loose XP YP l.row.toRowW d [] (fun f vs=>PySem.call f vs):=by
 intro w s₀ s₁ mg mb G Y fa o pm cd doc dV kV ho hd hcd hD hmg hg args vals as hpre hlay hrd hwl hlo
 obtain rfl:dV=.none:=Dflts.none hD hdf
 obtain rfl:kV=.none:=Dflts.noKw hD
 obtain ⟨a,vs,ns,rfl,rfl,hobj,hints,hlen⟩:=tK hn hpre hwl
 refine enter_call (codeAny_mono (call w s₀ s₁ mg mb fa o pm cd doc a vs ns G Y ho (fd_plain hd) hcd hmg hobj hints hlen hg) fun r s' hq=>?_)
 obtain ⟨rfl,h2,h3,h4⟩:=hq
 exact ⟨.inl ⟨.bool true,.bool true,[],rfl,fun _=>rfl,.bool true,tR l _,fun _=>⟨List.Pairwise.nil,fun _ hm=>(nomatch hm)⟩⟩,h2,h3,h4⟩
section
variable {prog:Program} {w:World} {A:Around} {E:Value→Shared→Prop} {s:Shared} {K:Frag}
end
end Att
namespace L2
open PySem PySem.Spec PyProof.Rows
theorem nA:∀ {vs:List Value} {ns:List Int},IntsAre vs ns→Vals (ns.map V.int) vs
 | _,_,.nil=>.nil
 | _,_,.cons n t h=>.cons ⟨t,rfl⟩ (nA h)
def wS (H:Hp):Prop:=∀ b,H b=none∨∃ o xs,H b=some (.frz o (.lst xs))
theorem vN {P:Program} {w:World} {K:PySem.W.Frag} {mg mb:Str→Option Value} {CX:CXT} {k:Nat} {fa a:Addr} {fd:FuncData} {x:Str} {sp:Sp} {s₁:Shared} {vs:List Value} {ns:List Int}
  (KX:K.In s₁.heap) (hns:s₁.heap.Ns mainGlobals mg) (hb:s₁.heap.Ns builtinsNs mb) (hbb:∀ x:Str,x≠"__name__"→mb x=bootBuiltins x) (hlim:s₁.heap.NoLimit) (hmods:∃ mm,s₁.heap.Ns sysModules mm) (hg:s₁.gens=#[])
  (ha:s₁.heap.get? a=some { cls:=.type "list",data:=.seq vs.toArray }) (hi:IntsAre vs ns) (hl:ns.length≤sizeLine) (hr:Room k callerA)
  (F:∀ base:Heap,K.In base→base.Ns mainGlobals mg→FnOk P w K mg base CX k fa fd [x] sp) (hbind:∀ (s:Shared) (u:Value),BindsTo s fd ⟨[u],[]⟩ [(x,u)])
  (hsp:∀ H:Hp,wS H→SqL K H a (ns.map V.int)→sp [.ref a] H (fun v _=>v=.bl true) fun _ _ _=>False)
  (hCX:∀ H e s',CX [] H s₁ (fun _ _ _=>False) e s'→False) :
  codeAny (model P w) callerA (.call (.ref fa) ⟨[.ref a],[]⟩) (fun r s'=>r=.ok (.ret (.bool true))∧OldK s₁.heap s'.heap∧s'.os=s₁.os∧AllBare s'.gens) s₁:=by
 have rv:=nA hi
 have lenV:=hi.length
 have core:∀ H:Hp,wS H→SqL K H a (ns.map V.int)→HOk P w H s₁.heap→(∀ b,H b≠none→b=a)→(H a≠none→K.lookup a=none) →
   codeAny (model P w) callerA (.call (.ref fa) ⟨[.ref a],[]⟩) (fun r s'=>r=.ok (.ret (.bool true))∧OldK s₁.heap s'.heap∧s'.os=s₁.os∧AllBare s'.gens) s₁:=by
  intro H hO hS hok hA hK
  have base_of:∀ {b:Addr} {o:Obj},s₁.heap.get? b=some o→H b=none→(jq s₁.heap H).get? b=some o:=fun e n=>v6 e n
  have noA:∀ {b:Addr} {o:Obj} {es:Array DictEntry} {ep:Nat},s₁.heap.get? b=some o→o.data=.dict es ep→H b=none:=fun {b o es ep} e d=>by
   cases q:H b with
   | none=>rfl
   | some u =>
    have e':b=a:=hA b (by rw [q]; simp)
    subst e'
    rw [ha] at e; cases e
    have d':Data.seq vs.toArray _=Data.dict es ep:=d
    cases d'
  have nsK:∀ {b:Addr} {m:Str→Option Value},s₁.heap.Ns b m→(jq s₁.heap H).Ns b m:=fun {b m} ⟨o,es,ep,e,d,r⟩=>⟨o,es,ep,base_of e (noA e d),d,r⟩
  have hKb:K.In (jq s₁.heap H):=fun b o e=>base_of (KX b o e) (by
   cases q:H b with
   | none=>rfl
   | some u =>
    have e':b=a:=hA b (by rw [q]; simp)
    subst e'
    rw [hK (by rw [q]; simp)] at e; cases e)
  have hM:Mod K mg (jq s₁.heap H):=⟨hKb,nsK hns,⟨mb,nsK hb,hbb⟩,let ⟨mc,h1,h2⟩:=hlim; ⟨mc,nsK h1,h2⟩,let ⟨mm,h1⟩:=hmods; ⟨mm,nsK h1⟩⟩
  have e0:Env0 P w K mg (jq s₁.heap H) callerA [] s₁ H:=⟨rfl,hM,fun b o e=>CV e,Nat.le_of_eq (uA _ _),trivial,fun b hb=>absurd (show b∈([]:List Addr) from hb) (by simp),hok,.of_eq hg⟩
  refine codeAny_mono ((F _ hKb (nsK hns)).run callerA [] s₁ H ⟨[.ref a],[]⟩ [.ref a] [.ref a] _ _ hr e0 (hbind s₁ (.ref a)) (.cons rfl .nil) (hsp H hO hS)) fun r s' h=>?_
  cases r with
  | error e=>exact (hCX H e s' h).elim
  | ok fl =>
   cases fl with
   | next=>exact False.elim h
   | brk=>exact False.elim h
   | cont=>exact False.elim h
   | ret u =>
    obtain ⟨v,H',os,bare,un,hok',r',q⟩:=h
    have q':v=.bl true:=q
    subst q'
    obtain rfl:u=Value.bool true:=r'
    refine ⟨rfl,OldK.of_keep fun b o e=>?_,os,bare⟩
    cases q:H b with
    | none=>exact un.keep b o e q (by intro z; exact absurd (show b∈([]:List Addr) from z) (by simp)) (by simp)
    | some u =>
     rcases hO b with z | ⟨ob,xs,z⟩
     ·rw [q] at z; cases z
     ·have z2:=un.frzs b ob _ z
      obtain ⟨e1,_⟩:=hok b _ z
      obtain ⟨e2,_⟩:=hok' b _ z2
      rw [e] at e1; cases e1
      exact e2
 cases hk:K.lookup a with
 | some o =>
  have e:=KX a o hk
  rw [ha] at e
  cases e
  refine core (fun _=>none) (fun _=>.inl rfl) (.inr ⟨_,vs.toArray,_,hk,rfl,rfl,rfl,by rw [List.size_toArray,lenV]; exact hl,by simpa using rv⟩) (fun b u z=>by have z':(none:Option HO)=some u:=z; cases z') (fun b z=>absurd rfl z) fun z=>absurd rfl z
 | none =>
  refine core (fun b=>if b=a then some (.frz { cls:=.type "list",data:=.seq vs.toArray } (.lst (ns.map V.int))) else none) (fun b=>?_) (.inl (.inr ⟨{ cls:=.type "list",data:=.seq vs.toArray },if_pos rfl⟩)) (fun b u z=>?_) (fun b z=>?_) fun _=>hk
  ·by_cases hb:b=a
   ·exact .inr ⟨_,_,if_pos hb⟩
   ·exact .inl (if_neg hb)
  ·by_cases hb:b=a
   ·have z':=(if_pos hb).symm.trans z
    cases z'
    subst hb
    exact ⟨ha,by rw [List.length_map]; exact hl,vs,_,rv,ha⟩
   ·have z':=(if_neg hb).symm.trans z
    cases z'
  ·by_cases hb:b=a
   ·exact hb
   ·exact absurd (if_neg hb) z
end L2
namespace L2
open PySem PySem.Spec PyProof.Rows
theorem walk_of {l:PySem.W.OpenLaw} {n k:Nat} {q:Program} {loose:List Str} {XP:(Str→Option Value)→Heap→Prop} {YP:World→Heap→Prop} {d:DefRec} {K:Params→PySem.W.Frag} {CX:World→CXT} {sp:World→Sp} {x:Str}
  (hn:l.most=some n) (hn2:n≤sizeLine) (hdf:d.params.defaults=[]) (hr:Room k callerA)
  (hq:importsNone q=true) (hY:∀ (w:World) (h:Heap),YP w h→(K w.params).In h)
  (F:∀ (w:World) (mg:Str→Option Value) (fa:Addr) (h:Heap),(K w.params).In h→h.Ns mainGlobals mg→mg d.name=some (.ref fa) →
   ∃ fd:FuncData,(∀ (s:Shared) (u:Value),BindsTo s fd ⟨[u],[]⟩ [(x,u)]) ∧
    ∀ base:Heap,(K w.params).In base→base.Ns mainGlobals mg→FnOk l.prog w (K w.params) mg base (CX w) k fa fd [x] (sp w))
  (hsp:∀ (w:World) (H:Hp) (a:Addr) (ns:List Int),ns.length≤n→wS H→SqL (K w.params) H a (ns.map V.int)→sp w [.ref a] H (fun v _=>v=.bl true) fun _ _ _=>False)
  (hCX:∀ (w:World) (H:Hp) (s:Shared) (e:Value) (s':Shared),CX w [] H s (fun _ _ _=>False) e s'→False) :
  PySem.W.WalkO q loose XP YP l.row.toRowW d [] (fun f vs=>PySem.call f vs):=by
 refine Att.attach_call hn hdf fun w s₀ s₁ mg mb fa o pm cd doc a vs ns G Y ho hd hcd hmg hobj hints hlen hg=>?_
 have KX:=hY w _ Y
 obtain ⟨fd,hb,hF⟩:=F w mg fa _ KX G.T.g hmg
 exact vN KX G.T.g G.T.b G.T.builtins G.T.nolimit (let ⟨mm,hm,_⟩:=(G.T.seer hq).mods; ⟨mm,hm⟩) hg hobj hints (Nat.le_trans hlen hn2) hr hF hb (fun H hO hS=>hsp w H a ns hlen hO hS) fun H e s'=>hCX w H s₁ e s'
end L2
namespace L2
open PySem PySem.Spec PyProof.Rows
def eQ (s:Stmt):Arguments:=match s with
 | .FunctionDef _ a _ _ _ _ _ _ _ _=>a
 | _=>{ posonlyargs:=[],args:=[],vararg:=none,kwonlyargs:=[],kw_defaults:=[],kwarg:=none,defaults:=[] }
def cT (s:Stmt):List Stmt:=match s with
 | .FunctionDef _ _ b _ _ _ _ _ _ _=>b
 | _=>[]
def ao (s:Stmt):Scope:=match s with
 | .FunctionDef _ _ _ _ _ _ sc _ _ _=>sc
 | _=>{ kind:=.function,names:=[],isGenerator:=false,isCoroutine:=false }
abbrev CX0:CXT:=fun _ _ _ _ _ _=>False
abbrev E0:XK:=fun _ _ _=>False
theorem Iy {X:Cx}:ql CX0 X E0:=fun _ _ _ _ _ _ _ h=>h.elim
structure Fun (K:PySem.W.Frag) (x qual:Str) (st:Stmt) (f:Addr) (fd:FuncData):Prop where
 ex:∃ (oc:Value) (od:Option Addr) (kV doc pm:Value) (an:Option Addr) (cdv ct:Value) (osl:Array (Option Value)),
  fd=PySem.W.fnOf x qual (eQ st) (cT st) (ao st) .none kV doc pm an cdv ct∧K.lookup f=some ⟨oc,od,.func fd,osl⟩∧PySem.W.codeIn K cdv qual=true
 kp:PySem.W.keepIn K (.ref f)=true
section
variable {P:Program} {w:World} {K:PySem.W.Frag} {mg:Str→Option Value} {base:Heap}
theorem Fun.ok {x qual:Str} {st:Stmt} {f:Addr} {fd:FuncData} {N ps:List Str} {k:Nat} {sp:Sp} (F:Fun K x qual st f fd) (S:FnScope N ps (ao st)) (len:∀ vs H Q E,sp vs H Q E→vs.length=ps.length)
  (hbody:∀ (cdv:Value) (A:Around) (outer:List Env) (s:Shared) (H:Hp) (vs:List V) (Q:VK) (E:XK),Room k (A.deeper (envOfC qual (ao st) s.heap.objs.size f cdv))→sp vs H Q E →
   ∃ t,PSs (lJ CX0 P w K mg base N qual (ao st) f cdv A outer s H E).nox (cT st) t∧t { nx:=fun _ H'=>Q .non H',rt:=Q } (dB N vs) H):FnOk P w K mg base CX0 (k+1) f fd ps sp:=by
 obtain ⟨oc,od,kV,doc,pm,an,cdv,ct,osl,rfl,lk,hcd⟩:=F.ex
 refine II lk hcd S len fun A outer s H vs Q E hr hsp=>?_
 obtain ⟨t,h,q⟩:=hbody cdv A outer s H vs Q E hr hsp
 exact ⟨t,h.nox,q⟩
theorem Fun.binds {x qual:Str} {st:Stmt} {f:Addr} {fd:FuncData} {ps:List Str} (F:Fun K x qual st f fd)
  (h:∀ (kV doc pm:Value) (an:Option Addr) (cdv ct:Value) (us:List Value),us.length=ps.length→bindArgs (PySem.W.fnOf x qual (eQ st) (cT st) (ao st) .none kV doc pm an cdv ct) ⟨us,[]⟩=pure (ps.zip us)):Binds K fd ps []:=by
 obtain ⟨oc,od,kV,doc,pm,an,cdv,ct,osl,rfl,lk,hcd⟩:=F.ex
 exact .all (h kV doc pm an cdv ct)
theorem uB {x qual:Str} {st:Stmt} {f:Addr} {oc:Value} {od an:Option Addr} {osl:Array (Option Value)} {kV doc pm cdv ct:Value} (l:K.lookup f=some ⟨oc,od,.func (PySem.W.fnOf x qual (eQ st) (cT st) (ao st) .none kV doc pm an cdv ct),osl⟩)
  (c:PySem.W.codeIn K cdv qual=true) (k:PySem.W.keepIn K (.ref f)=true):Fun K x qual st f (PySem.W.fnOf x qual (eQ st) (cT st) (ao st) .none kV doc pm an cdv ct):=⟨⟨oc,od,kV,doc,pm,an,cdv,ct,osl,rfl,l,c⟩,k⟩
end
theorem ij {A:Around} {k:Nat} (hr:Room k A):A.units+1 < cLine:=Nat.lt_of_le_of_lt (Nat.add_le_add_left (by decide:1≤64) _) hr.units
theorem tJ {n:Nat} (h:n≤1000):n < sizeLine:=Nat.lt_of_le_of_lt h (by decide)
section
variable {X:Cx}
theorem pv (i:Nat) {x:Str} {pos:Pos} (hN:X.N[i]?=some x:=by rfl) (hv:Vis X.env.scope x:=by first | exact Or.inl rfl | exact Or.inr (Or.inl rfl) | exact Or.inr (Or.inr rfl)) (hd:(x == ("__debug__" : Str))=false:=by decide)
  (hcd:(x == ("__classdict__" : Str))=false:=by decide):PE X (.Name x pos) (fh i):=cM hN hv hd hcd
end
end L2
namespace L2
open PySem PySem.Spec PyProof.Rows
section
variable {κ:Type} [DecidableEq κ]
def eD (kvs:List (κ × V)) (k:κ):Option V:=(kvs.find? fun kv=>decide (kv.1=k)).map (·.2)
def cH (kvs:List (κ × V)) (k:κ) (v:V):List (κ × V) :=
 if (kvs.any fun kv=>decide (kv.1=k))=true then kvs.map (fun kv=>if kv.1=k then (kv.1,v) else kv) else kvs++[(k,v)]
theorem jh {p:κ × V} {r:List (κ × V)} {k:κ} (e:p.1=k):eD (p :: r) k=some p.2:=by simp [eD,List.find?_cons,e]
theorem ji {p:κ × V} {r:List (κ × V)} {k:κ} (e:¬ p.1=k):eD (p :: r) k=eD r k:=by simp [eD,List.find?_cons,e]
theorem oI (k:κ):∀ kvs:List (κ × V),(kvs.any fun kv=>decide (kv.1=k))=(eD kvs k).isSome
 | []=>rfl
 | p :: r=>by
  rw [List.any_cons]
  by_cases e:p.1=k
  ·simp only [jh e,decide_eq_true e,Bool.true_or,Option.isSome_some]
  ·rw [ji e,decide_eq_false e,Bool.false_or]; exact oI k r
theorem iF (kvs:List (κ × V)) (k:κ) (v:V):(cH kvs k v).length≤kvs.length+1:=by
 unfold cH
 split
 ·rw [List.length_map]; omega
 ·rw [List.length_append,List.length_cons,List.length_nil]; omega
theorem RelO.isSome_eq {o:Option V} {u:Option Value} (r:RelO o u):o.isSome=u.isSome:=by
 cases o with
 | none=>cases u with
  | none=>rfl
  | some _=>exact (show False from r).elim
 | some _=>cases u with
  | none=>exact (show False from r).elim
  | some _=>rfl
theorem KV.val {kvs:List (κ × V)} {vs:List (κ × Value)} (r:KV kvs vs) (k:κ):RelO (eD kvs k) (valueAt vs k):=by
 unfold KV at r
 induction r with
 | nil=>exact True.intro
 | @cons p q ps qs h t ih =>
  obtain ⟨h1,h2⟩:=h
  by_cases e:p.1=k
  ·have e':q.1=k:=h1.symm.trans e
   have b:valueAt (q :: qs) k=some q.2:=by simp [valueAt,List.find?_cons,e']
   rw [jh e,b]; exact h2
  ·have e':¬ q.1=k:=fun z=>e (h1.trans z)
   have b:valueAt (q :: qs) k=valueAt qs k:=by simp [valueAt,List.find?_cons,e']
   rw [ji e,b]; exact ih
theorem KV.any {kvs:List (κ × V)} {vs:List (κ × Value)} (r:KV kvs vs) (k:κ):(kvs.any fun kv=>decide (kv.1=k))=vs.any fun kv=>decide (kv.1=k):=by
 unfold KV at r
 induction r with
 | nil=>rfl
 | cons h t ih=>rw [List.any_cons,List.any_cons,ih,h.1]
theorem KV.repl {kvs:List (κ × V)} {vs:List (κ × Value)} (r:KV kvs vs) (k:κ) {y:V} {u:Value} (ry:RelV y u) :
  KV (kvs.map fun kv=>if kv.1=k then (kv.1,y) else kv) (vs.map fun kv=>if kv.1=k then (kv.1,u) else kv):=by
 unfold KV at r ⊢
 induction r with
 | nil=>exact .nil
 | @cons p q ps qs h t ih =>
  rw [List.map_cons,List.map_cons]
  refine .cons ?_ ih
  obtain ⟨h1,h2⟩:=h
  by_cases e:p.1=k
  ·rw [if_pos e,if_pos (h1.symm.trans e)]; exact ⟨h1,ry⟩
  ·rw [if_neg e,if_neg (fun z=>e (h1.trans z))]; exact ⟨h1,h2⟩
theorem KV.put {kvs:List (κ × V)} {vs:List (κ × Value)} (r:KV kvs vs) (k:κ) {y:V} {u:Value} (ry:RelV y u):KV (cH kvs k y) (stored vs k u):=by
 unfold cH stored
 rw [r.any k]
 by_cases e:(vs.any fun kv=>decide (kv.1=k))=true
 ·rw [if_pos e,if_pos e]; exact r.repl k ry
 ·rw [if_neg e,if_neg e]; exact Paired.snoc r ⟨rfl,ry⟩
theorem KV.length {kvs:List (κ × V)} {vs:List (κ × Value)} (r:KV kvs vs):kvs.length=vs.length:=Paired.length r
end
theorem oB {P:Program} {w:World} {k:Key} {u:Value} (r:RelV (kV k) u):(bA P w).is k u=true:=by
 cases k with
 | inl i=>obtain ⟨t,e⟩:=(show ∃ t,u=Value.int i t from r); subst e; exact qB P w i t
 | inr x=>obtain ⟨t,e⟩:=(show ∃ t,u=Value.str x t from r); subst e; exact qA P w x t
theorem GR {a b:Key} (e:kV a=kV b):a=b:=by
 cases a with
 | inl i=>cases b with
  | inl j=>have e':V.int i=V.int j:=e; injection e' with e'; rw [e']
  | inr y=>exact nomatch (show V.int i=V.str y from e)
 | inr x=>cases b with
  | inl j=>exact nomatch (show V.str x=V.int j from e)
  | inr y=>have e':V.str x=V.str y:=e; injection e' with e'; rw [e']
theorem nM {P:Program} {w:World}:∀ {ks:List Key} {us:List Value},Vals (ks.map kV) us→ItemsAre (bA P w) ks us
 | [],_,r=>by rw [List.map_nil] at r; cases r; exact .nil
 | k :: ks,_,r=>by
  rw [List.map_cons] at r
  cases r with
  | cons h t=>exact .cons (oB h) (nM t)
abbrev KT (H:Hp):List (List Key × V)→List (List Key × Addr × Value)→Prop:=Paired fun p q=>p.1=q.1∧H q.2.1=some (.tup (p.1.map kV))∧RelV p.2 q.2.2
theorem KT.val {H:Hp} {kvs:List (List Key × V)} {xs:List (List Key × Addr × Value)} (r:KT H kvs xs) (k:List Key):RelO (eD kvs k) ((atKey xs k).map (·.2)):=by
 induction r with
 | nil=>exact True.intro
 | @cons p q ps qs h t ih =>
  obtain ⟨h1,_,h2⟩:=h
  by_cases e:p.1=k
  ·have e':q.1=k:=h1.symm.trans e
   have b:atKey (q :: qs) k=some q.2:=by simp [atKey,List.find?_cons,e']
   rw [jh e,b]; exact h2
  ·have e':¬ q.1=k:=fun z=>e (h1.trans z)
   have b:atKey (q :: qs) k=atKey qs k:=by simp [atKey,List.find?_cons,e']
   rw [ji e,b]; exact ih
theorem KT.repl {H:Hp} {kvs:List (List Key × V)} {xs:List (List Key × Addr × Value)} (r:KT H kvs xs) (k:List Key) {y:V} {u:Value} (ry:RelV y u) :
  KT H (kvs.map fun kv=>if kv.1=k then (kv.1,y) else kv) (xs.map (putAt k u)):=by
 induction r with
 | nil=>exact .nil
 | @cons p q ps qs h t ih =>
  rw [List.map_cons,List.map_cons]
  refine .cons ?_ ih
  obtain ⟨h1,h2,h3⟩:=h
  unfold putAt
  by_cases e:p.1=k
  ·rw [if_pos e,if_pos (h1.symm.trans e)]; exact ⟨h1,h2,ry⟩
  ·rw [if_neg e,if_neg (fun z=>e (h1.trans z))]; exact ⟨h1,h2,h3⟩
theorem KT.put {H:Hp} {kvs:List (List Key × V)} {xs:List (List Key × Addr × Value)} (r:KT H kvs xs) (k:List Key) {b:Addr} {y:V} {u:Value} (hb:H b=some (.tup (k.map kV))) (ry:RelV y u) :
  KT H (cH kvs k y) (storedH xs k b u):=by
 have e:(kvs.any fun kv=>decide (kv.1=k))=(atKey xs k).isSome:=by
  rw [oI,(r.val k).isSome_eq,Option.isSome_map]
 unfold cH storedH
 rw [e]
 by_cases q:(atKey xs k).isSome=true
 ·rw [if_pos q,if_pos q]; exact r.repl k ry
 ·rw [if_neg q,if_neg q]; exact Paired.snoc r ⟨rfl,hb,ry⟩
theorem KT.keeps {H H':Hp} {kvs:List (List Key × V)} {xs:List (List Key × Addr × Value)} (r:KT H kvs xs) (ht:∀ b ys,H b=some (.tup ys)→H' b=some (.tup ys)):KT H' kvs xs :=
 Paired.mapP r fun _ _ z=>⟨z.1,ht _ _ z.2.1,z.2.2⟩
section
variable {P:Program} {w:World} {H:Hp} {h:Heap} {a:Addr}
theorem B7 {u:HO} (ok:HOk P w H h) (e:Rd H a u):ObjOk P w H h a u:=e.ok ok
theorem sK {kvs:List (Key × V)} (ok:HOk P w H h) (e:Rd H a (.dK kvs)):kvs.length≤sizeLine∧(a == sysModules)=false∧∃ vs,KV kvs vs∧h.DictOf (bA P w) a vs :=
 show ObjOk P w H h a (.dK kvs) from B7 ok e
theorem sL {kvs:List (Key × V)} (ok:HOk P w H h) (e:H a=some (.dK kvs)):kvs.length≤sizeLine∧(a == sysModules)=false∧∃ vs,KV kvs vs∧h.DictOf (bA P w) a vs:=sK ok (.inl e)
theorem pL {ks:List Key} (ok:HOk P w H h) (e:H a=some (.tup (ks.map kV))):(tupleKind (bA P w)).is h ks a:=by
 obtain ⟨_,its,r,o,h1,h2,n,h3⟩:=(show ObjOk P w H h a (.tup (ks.map kV)) from ok a _ e)
 exact ⟨o,its.toArray,n,h1,h2,h3.1,by simpa using nM r⟩
theorem sJ {kvs:List (List Key × V)} (ok:HOk P w H h) (e:Rd H a (.dT kvs)):kvs.length≤sizeLine∧(a == sysModules)=false ∧
  ∃ xs,KT H kvs xs∧h.DictOfH (tupleKind (bA P w)) a xs:=by
 obtain ⟨z,y,xs,r,o,es,ep,h1,h2,h3,h4,h5⟩:=(show ObjOk P w H h a (.dT kvs) from B7 ok e)
 refine ⟨z,y,xs,r,o,es,ep,h1,h2,h3,h4,fun x hx=>?_,h5⟩
 have all:∀ {l:List (List Key × V)} {m:List (List Key × Addr × Value)},KT H l m→∀ x∈m,(tupleKind (bA P w)).is h x.1 x.2.1:=by
  intro l m q
  induction q with
  | nil=>intro x hx; exact nomatch hx
  | @cons p q ps qs hq t ih =>
   intro x hx
   rcases List.mem_cons.mp hx with e | hx
   ·subst e
    exact pL ok (by rw [← hq.1]; exact hq.2.1)
   ·exact ih x hx
 exact all r x hx
theorem Cm {kvs:List (List Key × V)} (ok:HOk P w H h) (e:H a=some (.dT kvs)):kvs.length≤sizeLine∧(a == sysModules)=false ∧
  ∃ xs,KT H kvs xs∧h.DictOfH (tupleKind (bA P w)) a xs:=sJ ok (.inl e)
end
def DGet (H:Hp) (a:Addr) (y:V) (r:Option V):Prop :=
 (∃ kvs k,Rd H a (.dK kvs)∧y=kV k∧r=eD kvs k)∨∃ kvs k b,Rd H a (.dT kvs)∧y=.ref b∧H b=some (.tup (k.map kV))∧r=eD kvs k
def DPut (H:Hp) (a:Addr) (y v:V) (H':Hp):Prop :=
 (∃ kvs k,H a=some (.dK kvs)∧y=kV k∧kvs.length < sizeLine∧H'=upd H a (.dK (cH kvs k v))) ∨
 ∃ kvs k b,H a=some (.dT kvs)∧y=.ref b∧H b=some (.tup (k.map kV))∧kvs.length < sizeLine∧H'=upd H a (.dT (cH kvs k v))
theorem DGet.k {H:Hp} {a:Addr} {kvs:List (Key × V)} {k:Key} (e:H a=some (.dK kvs)):DGet H a (kV k) (eD kvs k):=.inl ⟨kvs,k,.inl e,rfl,rfl⟩
theorem DPut.k {H:Hp} {a:Addr} {kvs:List (Key × V)} {k:Key} {v:V} (e:H a=some (.dK kvs)) (hl:kvs.length < sizeLine):DPut H a (kV k) v (upd H a (.dK (cH kvs k v))):=.inl ⟨kvs,k,e,rfl,hl,rfl⟩
section
variable {X:Cx} {pins:List (Addr × Obj)} {σ:St} {H:Hp} {s:Shared} {a:Addr} {y v:V} {u r:Value} {o:Option V} {A:Around} {E:Value→Shared→Prop}
theorem Inv.big (I:Inv X pins σ H s):sysModules < s.heap.objs.size:=by
 have h:mainGlobals < s.heap.objs.size:=(I.mod.glob.keeps I.bk).lt
 exact Nat.lt_trans (by decide) h
theorem uW {Q:Value→Shared→Prop} (hu:A.units+1 < cLine) (I:Inv X pins σ H s) (g:DGet H a y (some v)) (ry:RelV y u) (h:∀ w' s',Inv X pins σ H s'→RelV v w'→Q w' s') :
  wpAny (model X.prog X.w) A (getItem (.ref a) u) Q E s:=by
 rcases g with ⟨kvs,k,e,ey,l⟩ | ⟨kvs,k,b,e,ey,eb,l⟩
 ·subst ey
  obtain ⟨z,hd,vs,rel,dd⟩:=sK I.hok e
  obtain ⟨w',hw,rw'⟩:=RelO.some_of (v:=v) (o:=valueAt vs k) (by rw [l]; exact rel.val k)
  exact wpAny_getItem_of (oB ry) dd.mapOf hw (h w' _ (I.tok _) rw')
 ·subst ey
  cases (show u=Value.ref b from ry)
  obtain ⟨z,hd,xs,rel,dd⟩:=sJ I.hok e
  obtain ⟨w',hw,rw'⟩:=RelO.some_of (v:=v) (o:=(atKey xs k).map (·.2)) (by rw [l]; exact rel.val k)
  obtain ⟨p,hp,hp2⟩:=Option.map_eq_some_iff.mp hw
  refine wpAny_getItem_heap (tupleKind_room_in1 hu) (pL I.hok eb) dd hp ?_
  rw [hp2]
  exact h w' _ (I.tok _) rw'
theorem ni {h':Heap} {t':Nat} {ob:HO} (I:Inv X pins σ H s) (mu:Mut (H a)) (hs:Heap.SameBut a s.heap h') (he:∃ q,h'.get? a=some q) (new:ObjOk X.prog X.w (upd H a ob) h' a ob) :
  Inv X pins σ (upd H a ob) { s with heap:=h',toks:=t' } :=
 I.write (x:=a) (e:=a) mu (.inl rfl) (fun b q hb z=>(hs.2 b hb).trans z) he new
theorem uU {P:Program} {w:World} {H':Hp} {h':Heap} {kvs:List (Key × V)} {vs:List (Key × Value)} (z:kvs.length≤sizeLine) (hd:(a == sysModules)=false) (rel:KV kvs vs) (dd:h'.DictOf (bA P w) a vs) :
  ObjOk P w H' h' a (.dK kvs):=⟨z,hd,vs,rel,dd⟩
theorem uV {H':Hp} {Q:Unit→Shared→Prop} (hu:A.units+1 < cLine) (I:Inv X pins σ H s) (g:DPut H a y v H') (ry:RelV y u) (rv:RelV v r) (h:∀ s',Inv X pins σ H' s'→Q () s') :
  wpAny (model X.prog X.w) A (setItem (.ref a) u r) Q E s:=by
 rcases g with ⟨kvs,k,e,ey,l,eH⟩ | ⟨kvs,k,b,e,ey,eb,l,eH⟩
 ·subst ey eH
  obtain ⟨z,hd,vs,rel,dd⟩:=sL I.hok e
  have hz:vs.length≤sizeLine:=by rw [← rel.length]; exact z
  have hl:(cH kvs k v).length≤sizeLine:=by have:=iF kvs k v; omega
  refine wpAny_setItem_pairs (hsz:=hz) (oB ry) dd fun h' dd' hs=>h _ ?_
  have he:∃ q,h'.get? a=some q:=let ⟨q,_,_,hq,_⟩:=dd'; ⟨q,hq⟩
  exact ni I (by rw [e]; exact True.intro) hs he (uU hl hd (rel.put k rv) dd')
 ·subst ey eH
  cases (show u=Value.ref b from ry)
  obtain ⟨z,hd,xs,rel,dd⟩:=Cm I.hok e
  have hz:xs.length≤sizeLine:=by rw [← Paired.length rel]; exact z
  have hl:(cH kvs k v).length≤sizeLine:=by have:=iF kvs k v; omega
  refine wpAny_setItem_heap (hsz:=hz) (tupleKind_room_in1 hu) (pL I.hok eb) dd fun h' dd' hs=>h _ ?_
  obtain ⟨q,es,ep,hq,h2,h3,h4,_,h5⟩:=dd'
  refine ni I (by rw [e]; exact True.intro) hs ⟨q,hq⟩ ⟨hl,hd,_,(rel.put k eb rv).keeps fun c ys ec=>?_,q,es,ep,hq,h2,h3,h4,h5⟩
  rw [aM (ID ec e (fun z=>nomatch z))]
  exact ec
end
section
variable {X:Cx} {pins:List (Addr × Obj)} {σ:St} {H:Hp} {s:Shared} {a:Addr} {kvs:List (Key × V)} {k:Key} {u:Value} {A:Around} {E:Value→Shared→Prop}
end
def sT (i:Expr):Prop:=∀ ov iv,subscripted i false ov iv=operate [ov,iv] (getItem ov iv)
theorem Cs {prog:Program} {w:World} {A:Around} {E:Value→Shared→Prop} {s:Shared} {env:Env} {value slice:Expr} {pos:Pos} {T id:String} {Q:Value→Shared→Prop}
  (hl:typeLookup (.type T) "__getitem__"=pure (some (.builtin id))) (hs:sT slice)
  (h:wpAny (model prog w) A (eval value env) (fun o s₁=>wpAny (model prog w) A (eval slice env) (fun i s₂=>s₂.TypeIs o T∧wpAny (model prog w) A (getItem o i) Q E s₂) E s₁) E s) :
  wpAny (model prog w) A (eval (.Subscript value slice pos) env) Q E s:=by
 refine Subscript_ (wpAny_mono h (fun o s₁ h₁=>wpAny_mono h₁ (fun i s₂ h₂=>?_) fun _ _ x=>x) fun _ _ x=>x)
 obtain ⟨hT,h₂⟩:=h₂
 unfold subscriptTail
 refine wpAny_bind ?_
 rw [getitemInPython_of_ne hT.not_modules]
 refine wpAny_bind (wpAny_specialOf hT hl ?_)
 have fin:wpAny (model prog w) A (subscripted slice false o i) (fun r s₃=>wpAny (model prog w) A (letTemporaryGo value o r >>= fun _=>pure r) Q E s₃) E s₂:=by
  rw [hs o i]
  exact wpAny_operating (wpAny_mono h₂ (fun r s₃ h₃=>wpAny_bind (wpAny_letTemporaryGo (wpAny_pure h₃))) fun _ _ x=>x)
 first
  | exact wpAny_pure (wpAny_bind fin)
  | exact wpAny_bind (wpAny_pure (wpAny_bind fin))
  | exact wpAny_bind fin
theorem qD {X:Cx} {pins:List (Addr × Obj)} {σ:St} {H:Hp} {s:Shared} {a:Addr} {y:V} {o:Option V} (I:Inv X pins σ H s) (g:DGet H a y o):s.TypeIs (.ref a) "dict":=by
 rcases g with ⟨kvs,k,e,_,_⟩ | ⟨kvs,k,b,e,_,_,_⟩
 ·obtain ⟨_,_,vs,_,dd⟩:=sK I.hok e
  exact dd.typeIs
 ·obtain ⟨_,_,xs,_,dd⟩:=sJ I.hok e
  exact dd.typeIs
def B3 (td ty:TE):TE:=fun σ H Q=>td σ H fun x H1=>ty σ H1 fun y H2=>∃ a v,x=.ref a∧DGet H2 a y (some v)∧Q v H2
def B6 (td ty tv:TE):TS:=fun D σ H=>tv σ H fun v H1=>td σ H1 fun x H2=>ty σ H2 fun y H3=>∃ a H4,x=.ref a∧DPut H3 a y v H4∧D.nx σ H4
section
variable {X:Cx} {o i e value:Expr} {pos pos' tpos:Pos} {td ty tv:TE}
theorem CO (hu:X.A.units+1 < cLine) (ho:PE X o td) (hi:PE X i ty) (hs:sT i):PE X (.Subscript o i pos) (B3 td ty):=by
 intro pins s σ H Q I h
 refine Cs PySem.F.slot_dict_getitem.lookup hs (thn (ho pins s σ H _ I h) fun u s1 ⟨x,H1,I1,rx,q1⟩=>thn (hi pins s1 σ H1 _ I1 q1) fun iv s2 ⟨y,H2,I2,ry,a,v,ex,g,q2⟩=>?_)
 subst ex
 obtain rfl:u=Value.ref a:=rx
 exact ⟨qD I2 g,uW hu I2 g ry fun w' s3 I3 rw'=>⟨v,H2,I3,rw',q2⟩⟩
theorem CF (hu:X.A.units+1 < cLine) (ho:PE X o td) (hi:PE X i ty) (hv:PE X value tv) (hs:swapsWith value (some (.Subscript o i pos')) pos.line X.env=pure false) :
  PS X (.Assign [.Subscript o i pos'] value pos) (B6 td ty tv):=by
 intro pins s σ H D I h
 refine wpAny_Assign_Subscript (thn (hv pins s σ H _ I h) fun r s1 ⟨v,H1,I1,rv,q1⟩=>thn (ho pins s1 σ H1 _ I1 q1) fun u s2 ⟨x,H2,I2,rx,q2⟩=>thn (hi pins s2 σ H2 _ I2 q2) fun iv s3 ⟨y,H3,I3,ry,a,H4,ex,g,q3⟩=>?_) hs
 subst ex
 obtain rfl:u=Value.ref a:=rx
 exact uV hu I3 g ry rv fun s4 I4=>⟨σ,H4,I4,q3⟩
end
theorem wH {P:Program} {w:World} {H:Hp} (h:Heap) (hb:sysModules < h.objs.size):ObjOk P w H (h.push { cls:=.type "dict",data:=.dict #[] }) h.objs.size (.dK []) :=
 ⟨Nat.zero_le _,beq_eq_false_iff_ne.mpr (Ne.symm (Nat.ne_of_lt hb)),[],.nil,Heap.DictOf.new h⟩
section
variable {X:Cx} {pos:Pos}
end
def l6:List (TE × TE)→St→Hp→(List (V × V)→Hp→Prop)→Prop
 | [],_,H,Q=>Q [] H
 | (tk,tv) :: r,σ,H,Q=>tk σ H fun x H1=>tv σ H1 fun y H2=>l6 r σ H2 fun ps H3=>Q ((x,y) :: ps) H3
abbrev VV:List (V × V)→List (Value × Value)→Prop:=Paired fun p q=>RelV p.1 q.1∧RelV p.2 q.2
def PPs (X:Cx) (pos:Pos) (keys:List (Option Expr)) (values:List Expr) (trs:List (TE × TE)):Prop :=
 ∀ (pins:List (Addr × Obj)) (s:Shared) (σ:St) (H:Hp) (Q:List (V × V)→Hp→Prop),Inv X pins σ H s→l6 trs σ H Q →
  wpAny (model X.prog X.w) X.A (evalPairs (pairTrees keys values X.env pos)) (fun vs s'=>∃ ps H',Inv X pins σ H' s'∧VV ps vs∧Q ps H') X.xe s
theorem CG {X:Cx} {pos:Pos}:PPs X pos [] [] []:=fun pins s σ H Q I h=>pairTrees_nil_walk ⟨[],H,I,.nil,h⟩
theorem vp {X:Cx} {pos:Pos} {k v:Expr} {ks:List (Option Expr)} {vs:List Expr} {tk tv:TE} {trs:List (TE × TE)} (hk:PE X k tk) (hv:PE X v tv) (hr:PPs X pos ks vs trs) :
  PPs X pos (some k :: ks) (v :: vs) ((tk,tv) :: trs):=fun pins s σ H Q I h =>
 pairTrees_cons_walk (thn (hk pins s σ H _ I h) fun u s1 ⟨x,H1,I1,rx,q1⟩=>thn (hv pins s1 σ H1 _ I1 q1) fun w2 s2 ⟨y,H2,I2,ry,q2⟩ =>
  thn (hr pins s2 σ H2 _ I2 q2) fun ws s3 ⟨ps,H3,I3,rel,q3⟩=>⟨(x,y) :: ps,H3,I3,.cons ⟨rx,ry⟩ rel,q3⟩)
def fW (kvs more:List (Key × V)):List (Key × V):=more.foldl (fun acc kv=>cH acc kv.1 kv.2) kvs
theorem KV.merge:∀ {more:List (Key × V)} {rs:List (Key × Value)} {kvs:List (Key × V)} {vs:List (Key × Value)},KV more rs→KV kvs vs→KV (fW kvs more) (merged vs rs):=by
 intro more rs kvs vs r
 unfold KV at r
 induction r generalizing kvs vs with
 | nil=>intro q; exact q
 | @cons p q ps qs h t ih =>
  intro r0
  have e:KV (cH kvs p.1 p.2) (stored vs q.1 q.2):=by
   have:=r0.put p.1 h.2
   rw [← h.1]; exact this
  exact ih e
theorem jW:∀ (more kvs:List (Key × V)),(fW kvs more).length≤kvs.length+more.length
 | [],kvs=>by show kvs.length≤kvs.length+0; omega
 | p :: r,kvs=>by
  have h1:=jW r (cH kvs p.1 p.2)
  have h2:=iF kvs p.1 p.2
  show (fW (cH kvs p.1 p.2) r).length≤_
  rw [List.length_cons]; omega
theorem mJ {P:Program} {w:World}:∀ {kvs:List (Key × V)} {ws:List (Value × Value)},VV (kvs.map fun kv=>(kV kv.1,kv.2)) ws→∃ rs,Carries (bA P w) ws rs∧KV kvs rs
 | [],_,r=>by rw [List.map_nil] at r; cases r; exact ⟨[],True.intro,.nil⟩
 | p :: kvs,_,r=>by
  rw [List.map_cons] at r
  cases r with
  | @cons a b as bs h t =>
   obtain ⟨rs,c,q⟩:=mJ (P:=P) (w:=w) t
   obtain ⟨b1,b2⟩:=b
   exact ⟨(p.1,b2) :: rs,⟨oB h.1,rfl,c⟩,.cons ⟨rfl,h.2⟩ q⟩
def B2 (trs:List (TE × TE)):TE:=fun σ H Q=>∀ p,H p=none→l6 trs σ (upd H p (.dK [])) fun ps H2=>H2 p=some (.dK [])∧∃ kvs:List (Key × V),ps=kvs.map (fun kv=>(kV kv.1,kv.2))∧kvs.length≤15∧Q (.ref p) (upd H2 p (.dK (fW [] kvs)))
theorem CN {X:Cx} {pos:Pos} {keys:List (Option Expr)} {values:List Expr} {trs:List (TE × TE)} (h:PPs X pos keys values trs) (hall:keys.all (·.isSome)=true) (hl:keys.length=values.length) (h0:keys≠[])
  (h15:keys.length≤15):PE X (.Dict keys values pos) (B2 trs):=by
 intro pins s σ H Q I q
 have hn:=I.hok.fresh (Nat.le_refl s.heap.objs.size)
 have I1:=I.laid (a:=s.heap.objs.size) (o:=.dK []) (h':=s.heap.push { cls:=.type "dict",data:=.dict #[] }) (t':=s.toks) (fun _ _ q=>Heap.get?_push_of_some _ q) (Nat.le_refl _) (wH s.heap I.big)
 refine wpAny_Dict_walk (knd:=bA X.prog X.w) hall hl h0 h15 (thn (h pins _ σ _ _ I1 (q _ hn)) fun ws s2 ⟨ps,H2,I2,rel,e,kvs,ep,lk,q2⟩=>?_)
 subst ep
 obtain ⟨rs,c,rk⟩:=mJ (P:=X.prog) (w:=X.w) rel
 obtain ⟨z,hd,vs0,r0,dd⟩:=sL I2.hok e
 cases r0
 refine ⟨rs,c,dd,fun h' dd' hs=>⟨.ref s.heap.objs.size,_,?_,rfl,q2⟩⟩
 have hz:(fW [] kvs).length≤sizeLine:=by
  have h1:=jW kvs []
  rw [List.length_nil] at h1
  rw [sizeLine_eq]; omega
 have he:∃ q,h'.get? s.heap.objs.size=some q:=let ⟨q,_,_,hq,_⟩:=dd'; ⟨q,hq⟩
 exact ni I2 (by rw [e]; exact True.intro) hs he (uU hz hd (rk.merge .nil) dd')
section
variable {X:Cx} {pins:List (Addr × Obj)} {σ:St} {H:Hp} {s:Shared} {a:Addr} {y d:V} {u r:Value} {o:Option V} {A:Around} {E:Value→Shared→Prop}
end
section
variable {X:Cx} {o e f:Expr} {apos cpos:Pos} {td ty tx:TE}
end
section
variable {X:Cx} {pins:List (Addr × Obj)} {σ:St} {H:Hp} {s:Shared} {a:Addr} {kvs:List (Key × V)} {A:Around} {E:Value→Shared→Prop}
end
section
variable {X:Cx} {pins:List (Addr × Obj)} {σ:St} {H:Hp} {s:Shared} {a:Addr} {y:V} {u:Value} {A:Around} {E:Value→Shared→Prop}
end
end L2
namespace L2
open PySem PySem.Spec PyProof.Rows
section
variable {X:Cx}
end
section
variable {κ:Type} [DecidableEq κ]
end
end L2
set_option maxHeartbeats 4000000
namespace L2
open PySem PySem.Spec PyProof.Rows
theorem Dx {α β:Type} {l:List α} {f:α→β→Sem (ForInStep β)} {g:β→α→β} (h:∀ x∈l,∀ c,f x c=pure (.yield (g c x))):∀ c,forIn l c f=pure (l.foldl g c):=by
 induction l with
 | nil=>intro c; rfl
 | cons x l ih =>
  intro c
  rw [List.forIn_cons,h x List.mem_cons_self,pure_bind]
  exact ih (fun y hy=>h y (List.mem_cons_of_mem _ hy)) (g c x)
def dS (env:Env) (acc:List (Str × Addr)) (x:Str × NameKind):List (Str × Addr) :=
 if x.2 == NameKind.free then (x.1,(env.cells.lookup x.1).getD 0) :: acc else acc
def dm (env:Env) (names:List (Str × NameKind)):List (Str × Addr):=names.foldl (dS env) []
theorem mG {scope:Scope} {env:Env} (h:∀ y∈scope.names,y.2=.free→∃ c,env.cells.lookup y.1=some c):closureFor scope env=pure (dm env scope.names):=by
 simp only [closureFor]
 rw [Dx (g:=dS env) (fun x hx c=>by
  obtain ⟨n,kind⟩:=x
  by_cases hk:kind=.free
  ·obtain ⟨a,e⟩:=h _ hx hk
   subst hk
   have e':env.cells.lookup n=some a:=e
   simp [cellOf,dS,e']
  ·have hb:(kind == NameKind.free)=false:=by simpa using hk
   simp [dS,hb])]
 rfl
theorem mH {env:Env}:∀ (names:List (Str × NameKind)) (acc:List (Str × Addr)) (p:Str × Addr),
  p∈names.foldl (dS env) acc→p∈acc∨((p.1,NameKind.free)∈names∧p.2=(env.cells.lookup p.1).getD 0)
 | [],_,_,h=>.inl h
 | (n,k) :: r,acc,p,h=>by
  rw [List.foldl_cons] at h
  rcases mH r _ p h with q | ⟨q,e⟩
  ·unfold dS at q
   by_cases hk:(k == NameKind.free)=true
   ·rw [if_pos hk] at q
    rcases List.mem_cons.mp q with z | z
    ·subst z
     have hk':k=NameKind.free:=by simpa using hk
     subst hk'
     exact .inr ⟨List.mem_cons_self,rfl⟩
    ·exact .inl z
   ·rw [if_neg hk] at q
    exact .inl q
  ·exact .inr ⟨List.mem_cons_of_mem _ q,e⟩
theorem la {env:Env}:∀ (names:List (Str × NameKind)) (acc:List (Str × Addr)) (p:Str × Addr),p∈acc→p∈names.foldl (dS env) acc
 | [],_,_,h=>h
 | x :: r,acc,p,h=>by
  rw [List.foldl_cons]
  refine la r _ p ?_
  unfold dS
  split
  ·exact List.mem_cons_of_mem _ h
  ·exact h
theorem mI {env:Env} {n:Str}:∀ (names:List (Str × NameKind)) (acc:List (Str × Addr)),(n,NameKind.free)∈names→∃ c,(n,c)∈names.foldl (dS env) acc
 | (m,k) :: r,acc,h=>by
  rw [List.foldl_cons]
  rcases List.mem_cons.mp h with e | e
  ·cases e
   exact ⟨(env.cells.lookup n).getD 0,la r _ _ (by unfold dS; rw [if_pos (show (((n,NameKind.free):Str × NameKind).2 == NameKind.free)=true from rfl)]; exact List.mem_cons_self)⟩
  ·exact mI r _ e
theorem gc {α:Type}:∀ {l:List (Str × α)} {n:Str} {c:α},(n,c)∈l→∃ c',l.lookup n=some c'
 | (m,d) :: r,n,c,h=>by
  rw [List.lookup_cons]
  cases hb:n == m with
  | true=>exact ⟨d,rfl⟩
  | false =>
   rcases List.mem_cons.mp h with e | e
   ·cases e
    simp at hb
   ·exact gc e
theorem qb {env:Env} {names:List (Str × NameKind)} {n:Str} (h:(n,NameKind.free)∈names):∃ c,(dm env names).lookup n=some c :=
 let ⟨_,e⟩:=mI (env:=env) names [] h
 gc e
theorem nP {env:Env} {names:List (Str × NameKind)} {n:Str} {c:Addr} (h:∀ y∈names,y.2=.free→∃ c,env.cells.lookup y.1=some c) (e:(dm env names).lookup n=some c):env.cells.lookup n=some c:=by
 rcases mH names [] (n,c) (PySem.mem_of_lookup e) with q | ⟨q,z⟩
 ·simp at q
 ·obtain ⟨a,ea⟩:=h _ q rfl
  have z':c=(env.cells.lookup n).getD 0:=z
  have ea':env.cells.lookup n=some a:=ea
  rw [ea'] at z'
  rw [ea',z']
  rfl
theorem jk {env:Env}:∀ {names:List (Str × NameKind)} {x:Str} {k:NameKind},
  (names.map fun (n,k)=>if (k == NameKind.free && env.scope.kind == .function && env.kindOf n == some .cell) then (n,NameKind.cell) else (n,k)).lookup x=some k →
  names.lookup x=some k∨(names.lookup x=some .free∧k=.cell)
 | [],_,_,h=>by simp at h
 | (n,k0) :: r,x,k,h=>by
  rw [List.map_cons] at h
  cases hx:x == n with
  | true =>
   rcases Bool.eq_false_or_eq_true (k0 == NameKind.free && env.scope.kind == .function && env.kindOf n == some .cell) with hc | hc
   ·simp only [hc,if_true,List.lookup_cons,hx] at h
    have hk:k0=.free:=by
     simp only [Bool.and_eq_true,beq_iff_eq] at hc
     exact hc.1.1
    refine .inr ⟨?_,?_⟩
    ·simp only [List.lookup_cons,hx,hk]
    ·exact (Option.some.inj h).symm
   ·simp only [hc,Bool.false_eq_true,if_false,List.lookup_cons,hx] at h
    refine .inl ?_
    simp only [List.lookup_cons,hx]
    exact h
  | false =>
   have h':(r.map fun (n,k)=>if (k == NameKind.free && env.scope.kind == .function && env.kindOf n == some .cell) then (n,NameKind.cell) else (n,k)).lookup x=some k:=by
    rcases Bool.eq_false_or_eq_true (k0 == NameKind.free && env.scope.kind == .function && env.kindOf n == some .cell) with hc | hc
    ·simp only [hc,if_true,List.lookup_cons,hx] at h
     exact h
    ·simp only [hc,Bool.false_eq_true,if_false,List.lookup_cons,hx] at h
     exact h
   simp only [List.lookup_cons,hx]
   exact jk h'
theorem jl {env:Env}:∀ {names:List (Str × NameKind)} {x:Str},names.lookup x=some .free →
  (names.map fun (n,k)=>if (k == NameKind.free && env.scope.kind == .function && env.kindOf n == some .cell) then (n,NameKind.cell) else (n,k)).lookup x=some .cell ∨
  (names.map fun (n,k)=>if (k == NameKind.free && env.scope.kind == .function && env.kindOf n == some .cell) then (n,NameKind.cell) else (n,k)).lookup x=some .free
 | [],_,h=>by simp at h
 | (n,k0) :: r,x,h=>by
  rw [List.map_cons]
  cases hx:x == n with
  | true =>
   simp only [List.lookup_cons,hx] at h
   rcases Bool.eq_false_or_eq_true (k0 == NameKind.free && env.scope.kind == .function && env.kindOf n == some .cell) with hc | hc
   ·refine .inl ?_
    simp only [hc,if_true,List.lookup_cons,hx]
   ·refine .inr ?_
    simp only [hc,Bool.false_eq_true,if_false,List.lookup_cons,hx]
    exact h
  | false =>
   simp only [List.lookup_cons,hx] at h
   have ih:=jl (env:=env) h
   rcases Bool.eq_false_or_eq_true (k0 == NameKind.free && env.scope.kind == .function && env.kindOf n == some .cell) with hc | hc
   ·simp only [hc,if_true,List.lookup_cons,hx]
    exact ih
   ·simp only [hc,Bool.false_eq_true,if_false,List.lookup_cons,hx]
    exact ih
def ek (js:List (Option Nat)) (σ:St):St:=js.map fun j=>match j with
 | some j=>(σ[j]?).join
 | none=>none
end L2
namespace L2
open PySem PySem.Spec PyProof.Rows
def PTs (X:Cx) (ifs:List Expr) (tt:TT):Prop :=
 ∀ (pins:List (Addr × Obj)) (s:Shared) (σ:St) (H:Hp) (Q:Bool→Hp→Prop),Inv X pins σ H s→tt σ H Q →
  wpAny (model X.prog X.w) X.A (forIn ifs true fun c r=>if r=true then do let ok ← isTrue c X.env (eval c X.env); pure (ForInStep.yield ok) else pure (ForInStep.yield r)) (TP X pins σ Q) X.xe s
def Jl:TT:=fun _ H Q=>Q true H
theorem pts_nil {X:Cx}:PTs X [] Jl:=fun _ _ _ H _ I h=>wpAny_tests_nil ⟨H,I,h⟩
theorem CA {X:Cx} {c:Expr} {tc:TT} (hc:PT X c tc):PTs X [c] tc:=fun pins s σ H Q I h=>wpAny_tests_one (hc pins s σ H Q I h)
def GN (g:TG) (tt:TT) (te:TE) (D:Addr) (x:V) (τ:St) (H:Hp) (N:St→Hp→Prop):Prop :=
 g x τ H fun τ4 H4=>tt τ4 H4 fun b H5=>if b=true then te τ4 H5 fun v H6=>∃ xs,H6 D=some (.lst xs)∧xs.length < sizeLine∧N τ4 (upd H6 D (.lst (xs++[v]))) else N τ4 H5
def Cd (J:It) (g:TG) (tt:TT) (te:TE) (σ0:St) (H1:Hp) (D:Addr) (Q:VK):Prop :=
 ∃ W:Nat→Nat→St→Hp→Prop,(∃ m,W 0 m σ0 (upd H1 D (.lst []))) ∧
  ∀ i m τ H2,W i m τ H2→(J.stop i H2∧Q (.ref D) H2)∨(J.go i H2∧∃ N:St→Hp→Prop,(∀ τ' H',N τ' H'→∃ m',m' < m∧W (i+1) m' τ' H')∧∀ x H3,J.yld i H2 x H3→GN g tt te D x τ H3 N)
def tLC (wi:TI) (g:TG) (tt:TT) (te:TE) (js:List (Option Nat)):TE:=fun σ H Q =>
 wi σ H fun J H1=>∀ D,H1 D=none→Cd J g tt te (ek js σ) H1 D Q
theorem thF {α:Type} {t:Sem α} {Q Q':α→Shared→Prop} {M:Model} {A:Around} {E:Value→Shared→Prop} {s:Shared} (h:wpAny M A t Q (fun _ _=>False) s) (hQ:∀ a s,Q a s→Q' a s):wpAny M A t Q' E s :=
 wpAny_mono h hQ fun _ _ x=>x.elim
section
variable {X:Cx} {elt tg iter:Expr} {ifs:List Expr} {scope:Scope} {pos:Pos} {ns:List Str} {js:List (Option Nat)} {wi:TI} {g:TG} {tt:TT} {te:TE}
end
end L2
namespace L2
open PySem PySem.Spec PyProof.Rows
section
variable {X:Cx}
theorem sO:∀ (bs:List Bool),(List.range bs.length).all (fun i=>bs.getD i true)=bs.all id:=fun bs=>by
 rw [Bool.eq_iff_iff,List.all_eq_true,List.all_eq_true]
 constructor
 ·intro h b hb
  obtain ⟨i,hi,e⟩:=List.mem_iff_getElem.mp hb
  have q:=h i (List.mem_range.mpr hi)
  rw [List.getD_eq_getElem?_getD,List.getElem?_eq_getElem hi,e] at q
  exact q
 ·intro h i hi
  have hi':=List.mem_range.mp hi
  rw [List.getD_eq_getElem?_getD,List.getElem?_eq_getElem hi']
  exact h _ (List.getElem_mem hi')
theorem wL (hc:X.calm=true):CallR X (.builtin "all") (fun xs H Q=>∃ (p:Addr) (bs:List Bool),xs=[.ref p]∧SqL X.K H p (bs.map V.bl)∧Q (.bl (bs.all id)) H):=by
 intro pins s σ H xs us Q I r h
 obtain ⟨p,bs,rfl,hp,q⟩:=h
 obtain ⟨u,rfl,ru⟩:=dA r
 cases ru
 obtain ⟨its,rv,pl,hz⟩:=I.list hp
 have hl:its.length=bs.length:=by rw [← rv.length,List.length_map]
 have hlt:p < s.heap.objs.size:=by
  obtain ⟨o,n,e,_⟩:=id pl
  exact Heap.lt_size e
 refine call_all_walk (wpAny_pyIter_list pl.isList ?_)
 refine ⟨s.heap.objs.size,[s.heap.objs.size,p],[s.heap.objs.size],its.toArray.size,fun i v=>its.toArray[i]?=some v,_,fun i=>bs.getD i true,rfl,Walks.list (A:=X.A.in1) (show X.A.in1.handled=none from I.ok.hd hc) s.heap.objs.size p (Nat.ne_of_lt hlt) its.toArray,?_,?_,?_⟩
 ·exact ⟨⟨_,Heap.get?_push_size _ rfl,rfl,rfl⟩,pl.isList.push _⟩
 ·intro i v s' Q' E' hv hq
  have hv':its[i]?=some v:=by simpa using hv
  have hi:i < bs.length:=by
   rw [← hl]
   exact (List.getElem?_eq_some_iff.mp hv').1
  obtain ⟨u,hu,ru⟩:=rv.get (i:=i) (x:=V.bl bs[i]) (by rw [List.getElem?_map,List.getElem?_eq_getElem hi]; rfl)
  rw [hu] at hv'
  cases hv'
  cases ru
  have e:bs.getD i true=bs[i]:=by rw [List.getD_eq_getElem?_getD,List.getElem?_eq_getElem hi]; rfl
  have hq':Q' (bs.getD i true) s':=hq
  rw [e] at hq'
  exact wpAny_truthy_bool hq'
 ·intro h' tk hk
  have e:(List.range its.toArray.size).all (fun i=>bs.getD i true)=bs.all id:=by
   rw [← sO bs,List.size_toArray,hl]
  rw [e]
  refine ⟨.bl (bs.all id),H,I.kept (t':=tk) fun b o z=>hk b o ?_ (Heap.get?_push_of_some _ z),rfl,q⟩
  intro z'
  have z'':b=s.heap.objs.size:=by simpa using z'
  exact Nat.ne_of_lt (Heap.lt_size z) z''
theorem wK:CallR X (.builtin "isinstance") (fun xs H Q=>∃ x t n b,xs=[x,.ty n]∧TyOf X.K H x t∧PySem.W.kitOne X.K t (.type n)=some b∧Q (.bl b) H):=by
 intro pins s σ H xs us Q I r h
 obtain ⟨x,t,n,b,rfl,ty,e,q⟩:=h
 obtain ⟨u,w',rfl,r1,r2⟩:=ou r
 cases r2
 exact ux I r1 ty e fun tk=>⟨.bl b,H,I.tok _,rfl,q⟩
end
section
open PySem.SeqAt
variable {X:Cx} {pins:List (Addr × Obj)} {σ:St} {H:Hp} {s:Shared}
end
section
variable {X:Cx}
theorem Inv.turnedLaid {pins:List (Addr × Obj)} {σ:St} {H:Hp} {s:Shared} {h':Heap} {t':Nat} {fp:List Addr} {p:Addr} {o:HO} (I:Inv X pins σ H s) (f:∀ b∈fp,gm X pins H b) (hp:s.heap.objs.size≤p)
  (k:∀ b ob,b ∉ fp→s.heap.get? b=some ob→h'.get? b=some ob) (th:∀ b∈fp,∃ ob,h'.get? b=some ob) (new:ObjOk X.prog X.w (upd H p o) h' p o):Inv X pins σ (upd H p o) { s with heap:=h',toks:=t' }:=by
 have hn:H p=none:=I.hok.fresh hp
 have ne:∀ b ob,s.heap.get? b=some ob→b≠p:=fun b ob e=>Nat.ne_of_lt (Nat.lt_of_lt_of_le (Heap.lt_size e) hp)
 have nf:∀ b u,H b=some u→b ∉ fp:=fun b u e z=>by rw [(f b z).1] at e; cases e
 refine I.step (g':=s.gens) (d':=s.drawn) (ch:=fp) (fun b hb=>⟨(f b hb).2.2.2.1,(f b hb).2.1,(f b hb).2.2.2.2.1,(f b hb).2.2.2.2.2⟩) (fun b ob _ _ hc e _=>k b ob hc e) (fun b ob _ _ hc e _=>⟨ob.slots,k b ob hc e⟩)
  (fun b ob _ e n=>by rw [aM (ne b ob e)]; exact n) (fun b ob hc e=>⟨ob,k b ob hc e⟩) (fun b xs e=>by rw [aM (bG e hn)]; exact e) (fun b ob u e=>by rw [aM (bG e hn)]; exact e)
  (fun b ps e=>⟨#[],by rw [aM (bG e hn),e]; simp⟩) (fun m hm=>?_) (fun b u e=>?_) I.bare
 ·obtain ⟨ob,es,ep,ho,r⟩:=hm
  exact ⟨ob,es,ep,k _ ob (fun z=>(f _ z).2.1 rfl) ho,r⟩
 ·by_cases hb:b=p
  ·subst hb
   rw [aN] at e
   cases e
   exact new
  ·rw [aM hb] at e
   refine (I.hok b u e).stay (fun c v hc q=>k c v ?_ q) (fun c q=>by rw [aM (bG q hn)]; exact q) fun c xs q=>by rw [aM (bG q hn)]; exact q
   rcases hc with z | z
   ·rw [z]; exact nf b u e
   ·exact nf c _ z
def Ite (K:PySem.W.Frag) (a:Addr):It :=
 ⟨fun i H=>∃ xs x,SqL K H a xs∧xs[i]?=some x,
  fun i H y H'=>∃ p x,y=.ref p∧H p=none∧H'=upd H p (.tup [.int i,x])∧∀ xs,SqL K H a xs→xs[i]?=some x,
  fun i H=>∃ xs,SqL K H a xs∧xs.length≤i⟩
theorem tz {P:Program} {w:World} {K:PySem.W.Frag} {elts:List Expr} {k:Nat} {tp:Pos} (a e it:Addr) (hei:e≠it) :
  Turn P w K (.Tuple elts k tp) (Ite K a) [e,it] e (fun i h=>(∃ old,IsEnum h e it i old)∧h.IsListIter it a i) where
 mem:=by simp
 obj:=fun i h st b hb=>by
  obtain ⟨⟨old,he⟩,o,ho,hc,hd⟩:=st
  have hb':b=e∨b=it:=by simpa using hb
  rcases hb' with rfl | rfl
  ·exact ⟨_,he,fun v z=>by
    have z':Data.fields _=Data.cell v:=z
    cases z'⟩
  ·exact ⟨o,ho,fun v z=>by rw [hd] at z; cases z⟩
 keep:=fun i h h' st kp=>⟨let ⟨old,he⟩:=st.1; ⟨old,kp e (by simp) _ he⟩,st.2.at fun o q=>kp it (by simp) o q⟩
 item:=by
  intro X hP hw hK hc i pins s σ H E I hf st hg
  subst hP hw hK
  obtain ⟨xs,x,hq,hx⟩:=hg
  obtain ⟨its,rv,p,hz⟩:=I.list hq
  obtain ⟨u,hu,ru⟩:=rv.get hx
  obtain ⟨⟨old,he⟩,hit⟩:=st
  refine wpAny_pyNext_enum_item he hit p.isList (x:=u) (by simpa using hu) hei fun h1 ho1 hit1 ht1 hz1 hk1=>?_
  refine ⟨_,rfl,wpAny_letOwnedTupleGo_enum ho1 fun h2 he2 hs2=>?_⟩
  have eL:e < s.heap.objs.size:=Heap.lt_size he
  have ht2:h2.get? s.heap.objs.size=some { cls:=.type "tuple",data:=.seq #[.int i s.toks,u] }:=(hs2.2 _ (Nat.ne_of_gt eL)).trans ht1
  have hit2:h2.IsListIter it a (i+1):=hit1.extBut hs2.extBut hei.symm
  have I2:Inv X pins σ (upd H s.heap.objs.size (.tup [.int i,x])) { s with heap:=h2,toks:=s.toks+1 }:=by
   refine I.turnedLaid (fp:=[e,it]) hf (Nat.le_refl _) (fun b ob hb q=>?_) (fun b hb=>?_) ?_
   ·have h1:b≠e:=fun z=>hb (by simp [z])
    have h2':b≠it:=fun z=>hb (by simp [z])
    exact (hs2.2 b h1).trans (hk1 b ob h1 h2' q)
   ·have hb':b=e∨b=it:=by simpa using hb
    rcases hb' with rfl | rfl
    ·exact ⟨_,he2⟩
    ·obtain ⟨o,ho,_⟩:=hit2
     exact ⟨o,ho⟩
   ·refine ⟨(by show 2≤sizeLine; decide),[.int i s.toks,u],.cons ⟨_,rfl⟩ (.cons ru .nil),?_⟩
    exact ⟨_,ht2,rfl,_,rfl,rfl⟩
  have fr:∀ b∈[e,it],upd H s.heap.objs.size (.tup [.int i,x]) b=none:=fun b hb=>by
   have hlt:b < s.heap.objs.size:=by
    have hb':b=e∨b=it:=by simpa using hb
    rcases hb' with rfl | rfl
    ·exact eL
    ·obtain ⟨o,ho,_⟩:=hit
     exact Heap.lt_size ho
   rw [aM (Nat.ne_of_lt hlt)]
   exact (hf b hb).1
  exact ⟨.ref s.heap.objs.size,_,I2,rfl,⟨_,x,rfl,I.fresh,rfl,fun ys hy=>by rw [I.list_inj hy hq]; exact hx⟩,⟨⟨_,he2⟩,hit2⟩,fr⟩
 done:=by
  intro X hP hw hK hc i pins s σ H E I hf st hg
  subst hP hw hK
  obtain ⟨xs,hq,hx⟩:=hg
  obtain ⟨its,rv,p,hz⟩:=I.list hq
  obtain ⟨⟨old,he⟩,hit⟩:=st
  obtain ⟨f0,f1,f2,f3,f4,f5⟩:=hf it (by simp)
  have hl:=rv.length
  exact wpAny_pyNext_enum_end (I.ok.hd hc) he hit p.isList (by simp; omega) fun h' eb=>⟨rfl,I.turned (t':=s.toks) (fun b o hb q=>eb b o hb q) f0 f1 f3 f4 f5⟩
 self:=fun _ _ _ _ _ st h=>let ⟨⟨_,he⟩,_⟩:=st; wpAny_pyIter_enum he h
end
end L2
namespace L2
open PySem PySem.Spec PyProof.Rows
def Kn (P:Program) (w:World) (K:PySem.W.Frag) (mg:Str→Option Value) (base:Heap) (k:Nat) (x:Str) (ps:List Str) (sp:Sp):Prop :=
 ∃ f fd,FnOk P w K mg base CX0 k f fd ps sp∧mg x=some (.ref f)∧PySem.W.keepIn K (.ref f)=true∧Binds K fd ps []
theorem Kn.mono {P:Program} {w:World} {K:PySem.W.Frag} {mg:Str→Option Value} {base:Heap} {j k:Nat} {x:Str} {ps:List Str} {sp:Sp} (G:Kn P w K mg base j x ps sp) (h:j≤k):Kn P w K mg base k x ps sp :=
 let ⟨f,fd,a,b,c,d⟩:=G
 ⟨f,fd,a.mono h,b,c,d⟩
section
variable {X:Cx} {k:Nat} {x:Str} {ps:List Str} {sp:Sp} {p pos:Pos} {e:Expr} {es:List Expr} {t:TA}
theorem rS (G:Kn X.prog X.w X.K X.mg X.base k x ps sp) (hr:Room k X.A) (hg:Gl X x) (ha:PA X (e :: es) t) (hdb:(x == ("__debug__" : Str))=false:=by decide)
  (he:starEach (e :: es) X.env=(false,eval e X.env) :: starEach es X.env:=by rfl) (hpl:(backTo pos (starEach es X.env)).any (·.1)=false:=by rfl) :
  PE X (.Call (.Name x p) (e :: es) [] pos) (oz sp [] E0 t):=by
 obtain ⟨f,fd,F,hm,hk,hb⟩:=G
 exact CQ F hr hg hm hk hb .nil Iy ha hdb he hpl
end
def Jm (K:PySem.W.Frag):List V→Hp→VK→Prop:=fun xs H Q=>∃ x n,xs=[x]∧Ik K x H n∧Q (.int n) H
def Cy (K:PySem.W.Frag):List V→Hp→VK→Prop:=fun xs H Q=>∃ p ys,xs=[.ref p]∧(SqL K H p ys∨SqT K H p ys)∧∀ l,H l=none→Q (.ref l) (upd H l (.lst ys))
def Ge (K:PySem.W.Frag):List V→Hp→VK→Prop:=fun xs H Q=>∃ p ys,xs=[.ref p]∧((SqL K H p ys∧∀ l,H l=none→Q (.ref l) (upd H l (.tup ys)))∨(SqT K H p ys∧Q (.ref p) H))
def Jo (K:PySem.W.Frag):List V→Hp→VK→Prop:=fun xs H Q=>∃ (p:Addr) (bs:List Bool),xs=[.ref p]∧SqL K H p (bs.map V.bl)∧Q (.bl (bs.all id)) H
section
variable {X:Cx} {K:PySem.W.Frag}
theorem Js (hK:X.K=K):CallR X (.builtin "len") (Jm K):=by subst hK; exact wJ
theorem C8 (hK:X.K=K):CallR X (.type "list") (Cy K):=by subst hK; exact qg
theorem GS (hK:X.K=K):CallR X (.type "tuple") (Ge K):=by subst hK; exact oh
theorem Jw (hK:X.K=K) (hc:X.calm=true):CallR X (.builtin "all") (Jo K):=by subst hK; exact wL hc
theorem Ju (hK:X.K=K):IxR X (rP K):=by subst hK; exact ix_list
theorem Jr (hK:X.K=K):SlR X (Gf K):=by subst hK; exact Cv
variable {tg l:Expr} {tl:TE} {es:List Expr} {t:TGs} {n k:Nat} {pos p p2 cpos apos:Pos}
end
end L2
namespace L2
open PySem PySem.Spec PyProof.Rows
def sgn (c:Nat):V:=.str ⟨#[c]⟩
def Its (z:Str):It:=⟨fun i _=>i < z.cps.size,fun i H x H'=>H'=H∧∃ c,z.cps[i]?=some c∧x=sgn c,fun i _=>z.cps.size≤i⟩
theorem vg {P:Program} {w:World} {K:PySem.W.Frag} {tg:Expr} (it:Addr) (z:Str) (t:Tok) (ty:String) (hty:ty="str_ascii_iterator"∨ty="str_iterator") :
  Turn P w K tg (Its z) [it] it (fun i h=>h.IsStrIter it ty z t i) where
 mem:=by simp
 obj:=fun i h st b hb=>by
  have e:b=it:=by simpa using hb
  subst e
  obtain ⟨o,e,c,d⟩:=st
  exact ⟨o,e,fun v q=>by rw [d] at q; cases q⟩
 keep:=fun i h h' st k=>let ⟨o,e,r⟩:=st; ⟨o,k it (by simp) o e,r⟩
 item:=by
  intro X hP hw hK hc i pins s σ H E I hf st hg
  subst hP hw hK
  obtain ⟨f0,f1,f2,f3,f4,f5⟩:=hf it (by simp)
  have W:Walks X.prog X.w X.A it [it] [it] z.cps.size (SignAt z) (fun i h=>h.IsStrIter it ty z t i):=by
   rcases hty with rfl | rfl
   ·exact Walks.strAscii (I.ok.hd hc) it z t
   ·exact Walks.strWide (I.ok.hd hc) it z t
  refine W.item i s _ _ hg st fun v h' tk hv st' kk=>?_
  obtain ⟨c,u,hcv,rfl⟩:=hv
  have I1:Inv X pins σ H { s with heap:=h',toks:=tk }:=I.turned (fun b o hb e=>kk b o (by simpa using hb) e) f0 f1 f3 f4 f5
  obtain ⟨o,e,ec,ed⟩:=id st'
  refine ⟨_,rfl,oC (s:={ s with heap:=h',toks:=tk }) (n:=ty) e ec ed (by rcases hty with rfl | rfl <;> decide) ⟨sgn c,H,I1,⟨u,rfl⟩,⟨rfl,c,hcv,rfl⟩,st',fun b hb=>(hf b hb).1⟩⟩
 done:=by
  intro X hP hw hK hc i pins s σ H E I hf st hg
  subst hP hw hK
  obtain ⟨f0,f1,f2,f3,f4,f5⟩:=hf it (by simp)
  have hle:z.cps.size≤i:=hg
  rcases hty with rfl | rfl
  ·exact wpAny_pyNext_ascii_end (I.ok.hd hc) st (by simpa using hle) fun h' he=>⟨rfl,I.turned (t':=s.toks) (fun b o hb e=>he b o hb e) f0 f1 f3 f4 f5⟩
  ·exact wpAny_pyNext_wide_end (I.ok.hd hc) st (by simpa using hle) fun h' he=>⟨rfl,I.turned (t':=s.toks) (fun b o hb e=>he b o hb e) f0 f1 f3 f4 f5⟩
 self:=fun A i s Q E st h=>by
  rcases hty with rfl | rfl
  ·exact wpAny_pyIter_striter_ascii st h
  ·exact wpAny_pyIter_striter_wide st h
section
variable {X:Cx} {tg:Expr} {K:PySem.W.Frag}
def dC (z:Str):List V:=z.cps.toList.map sgn
theorem kZ:∀ {xs:List V} {us:List Value},xs.length=us.length→(∀ (i:Nat) x u,xs[i]?=some x→us[i]?=some u→RelV x u)→Vals xs us
 | [],[],_,_=>.nil
 | [],_ :: _,h,_=>by cases h
 | _ :: _,[],h,_=>by cases h
 | x :: xs,u :: us,h,f=>.cons (f 0 x u rfl rfl) (kZ (Nat.succ.inj h) fun i y v a b=>f (i+1) y v (by simpa using a) (by simpa using b))
theorem nk (hc:X.calm=true):CallR X (.type "list") (fun xs H Q=>∃ z,xs=[.str z]∧z.cps.size≤sizeLine∧∀ l,H l=none→Q (.ref l) (upd H l (.lst (dC z)))):=by
 intro pins s σ H xs us Q I r h
 obtain ⟨z,rfl,hz,q⟩:=h
 obtain ⟨u,rfl,t,rfl⟩:=dA r
 refine call_list_str (I.ok.hd hc) z t (fun h' tk acc c' hk ho hi=>?_) hz
 have hl:(dC z).length=acc.toList.length:=by
  unfold dC
  rw [List.length_map,Array.length_toList,Array.length_toList,hi.1]
 have rv:Vals (dC z) acc.toList:=kZ hl fun i x v a b=>by
  obtain ⟨c,tk',hcv,rfl⟩:=hi.2 i v (by simpa using b)
  unfold dC at a
  rw [List.getElem?_map] at a
  have e:z.cps.toList[i]?=some c:=by simpa using hcv
  rw [e] at a
  cases a
  exact ⟨_,rfl⟩
 refine ⟨.ref s.heap.objs.size,_,I.laid (t':=tk) (o:=.lst (dC z)) hk (Nat.le_refl _) ⟨?_,acc.toList,c',rv,by simpa using ho⟩,rfl,q _ I.fresh⟩
 unfold dC
 rw [List.length_map,Array.length_toList]
 exact hz
theorem l9 {ys:List Str}:∀ {us:List Value},Vals (ys.map V.str) us→StrsAre us ys:=by
 induction ys with
 | nil=>intro us r; cases r; exact .nil
 | cons y ys ih =>
  intro us r
  cases r with
  | cons r1 r2 =>
   obtain ⟨t,e⟩:=r1
   subst e
   exact .cons y t (ih r2)
def B9 (K:PySem.W.Frag):V→List V→Hp→VK→Prop:=fun x xs H Q=>∃ sep ys p,x=.str sep∧xs=[.ref p]∧(SqL K H p (ys.map V.str)∨SqT K H p (ys.map V.str))∧sep.length≤16∧(ys.map (·.length)).sum+ys.length≤1048576∧Q (.str (Txt.join sep ys)) H
theorem gJ (hK:X.K=K):MtR X "str.join" (B9 K):=by
 subst hK
 intro pins s σ H x xs v us Q I rx rs h
 obtain ⟨sep,ys,p,rfl,rfl,hp,hs,hw,q⟩:=h
 obtain ⟨t,rfl⟩:=rx
 obtain ⟨u,rfl,ru⟩:=dA rs
 cases ru
 rcases hp with hp | hp
 ·obtain ⟨its,rv,pl,_⟩:=I.list hp
  exact join_listW pl.isList (by simpa using l9 rv) hs hw fun t' k=>⟨.str _,H,I.tok k,⟨_,rfl⟩,q⟩
 ·obtain ⟨its,rv,pl,_⟩:=I.tuple hp
  exact join_tupleW pl (by simpa using l9 rv) hs hw fun t' k=>⟨.str _,H,I.tok k,⟨_,rfl⟩,q⟩
def JC (xs:List Nat) (lo hi:Option Int):List Nat:=(xs.drop (HT.sIx xs.length 0 lo)).take (HT.sIx xs.length xs.length hi - HT.sIx xs.length 0 lo)
end
end L2
namespace L2
open PySem PySem.Spec PyProof.Rows
section
variable {l l':List Addr} {H H':Hp} {a b:Addr} {o:HO}
end
section
variable {K:PySem.W.Frag}
end
end L2
namespace L2
open PySem PySem.Spec PyProof.Rows
section
variable {X:Cx} {tg:Expr} {K:PySem.W.Frag}
theorem Inv.turnedMany {pins:List (Addr × Obj)} {σ:St} {H:Hp} {s:Shared} {h':Heap} {t':Nat} {fp:List Addr} (I:Inv X pins σ H s) (f:∀ b∈fp,gm X pins H b)
  (k:∀ b ob,b ∉ fp→s.heap.get? b=some ob→h'.get? b=some ob):Inv X pins σ H { s with heap:=h',toks:=t' }:=by
 have nf:∀ b u,H b=some u→b ∉ fp:=fun b u e z=>by rw [(f b z).1] at e; cases e
 refine I.step (g':=s.gens) (d':=s.drawn) (ch:=fp) (fun b hb=>⟨(f b hb).2.2.2.1,(f b hb).2.1,(f b hb).2.2.2.2.1,(f b hb).2.2.2.2.2⟩) (fun b ob _ _ hc e _=>k b ob hc e) (fun b ob _ _ hc e _=>⟨ob.slots,k b ob hc e⟩)
  (fun _ _ _ _ n=>n) (fun b ob hc e=>⟨ob,k b ob hc e⟩) (fun _ _ e=>e) (fun _ _ _ e=>e) (fun b ps e=>⟨#[],by rw [e]; simp⟩) (fun m hm=>?_) (fun b u e=>?_) I.bare
 ·obtain ⟨ob,es,ep,ho,r⟩:=hm
  exact ⟨ob,es,ep,k _ ob (fun z=>(f _ z).2.1 rfl) ho,r⟩
 ·refine (I.hok b u e).stay (fun c v hc q=>k c v ?_ q) (fun _ q=>q) fun _ _ q=>q
  rcases hc with z | z
  ·rw [z]; exact nf b u e
  ·exact nf c _ z
def Itz (K:PySem.W.Frag) (a b:Addr):It :=
 ⟨fun i H=>∃ xs ys x y,SqL K H a xs∧SqL K H b ys∧xs[i]?=some x∧ys[i]?=some y,
  fun i H v H'=>∃ p x y,v=.ref p∧H p=none∧H'=upd H p (.tup [x,y])∧(∀ xs,SqL K H a xs→xs[i]?=some x)∧(∀ ys,SqL K H b ys→ys[i]?=some y),
  fun i H=>∃ xs ys,SqL K H a xs∧SqL K H b ys∧(xs.length≤i∨ys.length≤i)⟩
theorem vf {P:Program} {w:World} {elts:List Expr} {k:Nat} {tp:Pos} (z TI TO i1 i2 a b:Addr) (D:ZipApart z TI TO i1 i2 a b) :
  Turn P w K (.Tuple elts k tp) (Itz K a b) [z,TI,TO,i1,i2] z (fun i h=>IsZip h z TI TO .none∧IsPair h TI (.ref i1) (.ref i2)∧(∃ u v,IsPair h TO u v)∧h.IsListIter i1 a i∧h.IsListIter i2 b i) where
 mem:=by simp
 obj:=fun i h st c hc=>by
  obtain ⟨h1,h2,⟨u,v,h3⟩,⟨o4,g4,_,d4⟩,⟨o5,g5,_,d5⟩⟩:=st
  have hc':c=z∨c=TI∨c=TO∨c=i1∨c=i2:=by simpa using hc
  rcases hc' with rfl | rfl | rfl | rfl | rfl
  ·exact ⟨_,h1,fun v q=>by
    have q':Data.fields _=Data.cell v:=q
    cases q'⟩
  ·exact ⟨_,h2,fun v q=>by
    have q':Data.seq _ _=Data.cell v:=q
    cases q'⟩
  ·exact ⟨_,h3,fun v q=>by
    have q':Data.seq _ _=Data.cell v:=q
    cases q'⟩
  ·exact ⟨o4,g4,fun v q=>by rw [d4] at q; cases q⟩
  ·exact ⟨o5,g5,fun v q=>by rw [d5] at q; cases q⟩
 keep:=fun i h h' st kp=>⟨kp z (by simp) _ st.1,kp TI (by simp) _ st.2.1,let ⟨u,v,e⟩:=st.2.2.1; ⟨u,v,kp TO (by simp) _ e⟩,st.2.2.2.1.at fun o q=>kp i1 (by simp) o q,st.2.2.2.2.at fun o q=>kp i2 (by simp) o q⟩
 item:=by
  intro X hP hw hK hc i pins s σ H E I hf st hg
  subst hP hw hK
  obtain ⟨xs,ys,x,y,hq,hq2,hx,hy⟩:=hg
  obtain ⟨its,rv,p,hz⟩:=I.list hq
  obtain ⟨its2,rv2,p2,hz2⟩:=I.list hq2
  obtain ⟨u,hu,ru⟩:=rv.get hx
  obtain ⟨u2,hu2,ru2⟩:=rv2.get hy
  obtain ⟨hZ,hTI,⟨c1,c2,hTO⟩,hi1,hi2⟩:=st
  refine wpAny_pyNext_zip_item D hZ hTI hTO hi1 hi2 p.isList p2.isList (x:=u) (y:=u2) (by simpa using hu) (by simpa using hu2) fun h1 a1 a2 a3 a4 a5 a6 a7=>?_
  refine ⟨_,rfl,wpAny_letOwnedTupleGo_zip a1 fun h2 hz2' hs2=>?_⟩
  have zL:z < s.heap.objs.size:=Heap.lt_size hZ
  have ht2:IsPair h2 s.heap.objs.size u u2:=(hs2.2 _ (Nat.ne_of_gt zL)).trans a5
  have hTI2:IsPair h2 TI (.ref i1) (.ref i2):=(hs2.2 _ D.TIz).trans (a7 _ _ D.TIz D.TITO D.TIi1 D.TIi2 hTI)
  have hTO2:IsPair h2 TO u u2:=(hs2.2 _ D.TOz).trans a2
  have hi1':h2.IsListIter i1 a (i+1):=a3.extBut hs2.extBut D.i1z
  have hi2':h2.IsListIter i2 b (i+1):=a4.extBut hs2.extBut D.i2z
  have I2:Inv X pins σ (upd H s.heap.objs.size (.tup [x,y])) { s with heap:=h2,toks:=s.toks }:=by
   refine I.turnedLaid (fp:=[z,TI,TO,i1,i2]) hf (Nat.le_refl _) (fun c ob hb q=>?_) (fun c hb=>?_) ?_
   ·have n1:c≠z:=fun e=>hb (by simp [e])
    have n3:c≠TO:=fun e=>hb (by simp [e])
    have n4:c≠i1:=fun e=>hb (by simp [e])
    have n5:c≠i2:=fun e=>hb (by simp [e])
    exact (hs2.2 c n1).trans (a7 c ob n1 n3 n4 n5 q)
   ·have hb':c=z∨c=TI∨c=TO∨c=i1∨c=i2:=by simpa using hb
    rcases hb' with rfl | rfl | rfl | rfl | rfl
    ·exact ⟨_,hz2'⟩
    ·exact ⟨_,hTI2⟩
    ·exact ⟨_,hTO2⟩
    ·obtain ⟨o,ho,_⟩:=hi1'
     exact ⟨o,ho⟩
    ·obtain ⟨o,ho,_⟩:=hi2'
     exact ⟨o,ho⟩
   ·refine ⟨(by show 2≤sizeLine; decide),[u,u2],.cons ru (.cons ru2 .nil),?_⟩
    exact ⟨_,ht2,rfl,_,rfl,rfl⟩
  have fr:∀ c∈[z,TI,TO,i1,i2],upd H s.heap.objs.size (.tup [x,y]) c=none:=fun c hb=>by
   have hlt:c < s.heap.objs.size:=by
    have hb':c=z∨c=TI∨c=TO∨c=i1∨c=i2:=by simpa using hb
    rcases hb' with rfl | rfl | rfl | rfl | rfl
    ·exact zL
    ·exact Heap.lt_size hTI
    ·exact Heap.lt_size hTO
    ·obtain ⟨o,ho,_⟩:=hi1
     exact Heap.lt_size ho
    ·obtain ⟨o,ho,_⟩:=hi2
     exact Heap.lt_size ho
   rw [aM (Nat.ne_of_lt hlt)]
   exact (hf c hb).1
  exact ⟨.ref s.heap.objs.size,_,I2,rfl,⟨_,x,y,rfl,I.fresh,rfl,fun zs hz=>by rw [I.list_inj hz hq]; exact hx,fun zs hz=>by rw [I.list_inj hz hq2]; exact hy⟩,⟨hz2',hTI2,⟨_,_,hTO2⟩,hi1',hi2'⟩,fr⟩
 done:=by
  intro X hP hw hK hc i pins s σ H E I hf st hg
  subst hP hw hK
  obtain ⟨xs,ys,hq,hq2,he⟩:=hg
  obtain ⟨its,rv,p,hz⟩:=I.list hq
  obtain ⟨its2,rv2,p2,hz2⟩:=I.list hq2
  obtain ⟨hZ,hTI,⟨c1,c2,hTO⟩,hi1,hi2⟩:=st
  have l1:=rv.length
  have l2:=rv2.length
  refine wpAny_pyNext_zip_end (I.ok.hd hc) D hZ hTI hTO hi1 hi2 p.isList p2.isList ?_ fun h' eb=>⟨rfl,I.turnedMany (t':=s.toks) hf fun c o hb q=>eb c o (fun e=>hb (by simp [e])) (fun e=>hb (by simp [e])) (fun e=>hb (by simp [e])) (fun e=>hb (by simp [e])) q⟩
  rcases he with he | he
  ·exact .inl (by simp; omega)
  ·exact .inr (by simp; omega)
 self:=fun _ _ _ _ _ st h=>wpAny_pyIter_zip st.1 h
def G6 (K:PySem.W.Frag) (ta:TA):TI:=fun σ H R=>ta σ H fun vs H1=>∃ a b,vs=[.ref a,.ref b]∧(∃ xs,SqL K H1 a xs)∧(∃ ys,SqL K H1 b ys)∧R (Itz K a b) H1
theorem Gr {l m:Expr} {ta:TA} {p pos:Pos} {elts:List Expr} {k:Nat} {tp:Pos} (hg:Gl X "zip") (hm:X.mg "zip"=none) (ha:PA X [l,m] ta) (hs:starEach [l,m] X.env=(false,eval l X.env) :: starEach [m] X.env:=by rfl) (hpl:(backTo pos (starEach [m] X.env)).any (·.1)=false:=by rfl) :
  PI X (.Tuple elts k tp) (.Call (.Name "zip" p) [l,m] [] pos) (G6 X.K ta):=by
 intro pins s σ H R I h
 refine Call_ (i4 I hg hm boot_zip (PyProof.Rows.callWith_type1 (thn (ha pos pins s σ H _ I h) fun us s1 ⟨vs,H1,I1,r1,q1⟩=>?_) hs hpl))
 obtain ⟨a,b,e,⟨xs,hq⟩,⟨ys,hq2⟩,q⟩:=q1
 subst e
 obtain ⟨u,v,rfl,ru,rv'⟩:=ou r1
 cases ru
 cases rv'
 obtain ⟨its,rv,pl,hz⟩:=I1.list hq
 obtain ⟨its2,rv2,pl2,hz2⟩:=I1.list hq2
 have La:a < s1.heap.objs.size:=let ⟨_,e,_⟩:=pl.isList; Heap.lt_size e
 have Lb:b < s1.heap.objs.size:=let ⟨_,e,_⟩:=pl2.isList; Heap.lt_size e
 refine call_zip_2 pl.isList pl2.isList fun h' hZ hTI hTO hi1 hi2 hsz hk=>?_
 refine wpAny_pyIter_zip hZ ?_
 have I2:Inv X pins σ H1 { s1 with heap:=h' }:=I1.kept (t':=s1.toks) hk
 refine ⟨s1.heap.objs.size+4,[s1.heap.objs.size+4,s1.heap.objs.size+2,s1.heap.objs.size+3,s1.heap.objs.size,s1.heap.objs.size+1],_,_,H1,rfl,I2,vf _ _ _ _ _ a b (zipApart_new La Lb),⟨hZ,hTI,⟨_,_,hTO⟩,hi1,hi2⟩,fun c hb=>?_,q⟩
 have hb':s1.heap.objs.size≤c:=by
  have hb':c=s1.heap.objs.size+4∨c=s1.heap.objs.size+2∨c=s1.heap.objs.size+3∨c=s1.heap.objs.size∨c=s1.heap.objs.size+1:=by simpa using hb
  rcases hb' with rfl | rfl | rfl | rfl | rfl <;> omega
 exact I1.fpOk hb' (I1.hok.fresh hb')
theorem C7 {l m:Expr} {ta:TA} {p pos:Pos} {elts:List Expr} {k:Nat} {tp:Pos} (hK:X.K=K) (hg:Gl X "zip") (hm:X.mg "zip"=none) (ha:PA X [l,m] ta) (hs:starEach [l,m] X.env=(false,eval l X.env) :: starEach [m] X.env:=by rfl) (hpl:(backTo pos (starEach [m] X.env)).any (·.1)=false:=by rfl) :
  PI X (.Tuple elts k tp) (.Call (.Name "zip" p) [l,m] [] pos) (G6 K ta):=by subst hK; exact Gr hg hm ha hs hpl
def tN:V→List V→Hp→VK→Prop:=fun x xs H Q=>∃ z y i rest,x=.str z∧xs=[.str y]∧Builtin.Str.occurrences z y 0 z.length 1=i :: rest∧Q (.int (i:Nat)) H
theorem pB:MtR X "str.index" tN:=by
 intro pins s σ H x xs v us Q I rx rs h
 obtain ⟨z,y,i,rest,rfl,rfl,ho,q⟩:=h
 obtain ⟨t,rfl⟩:=rx
 obtain ⟨u,rfl,ru⟩:=dA rs
 obtain ⟨t2,rfl⟩:=ru
 exact SC.index ho ⟨.int i,H,I.tok _,⟨_,rfl⟩,q⟩
end
section
variable {prog:Program} {w:World} {A:Around} {E:Value→Shared→Prop} {s:Shared}
end
section
variable {X:Cx} {tg:Expr} {K:PySem.W.Frag}
end
end L2
namespace L2
open PySem PySem.Spec PyProof.Rows
abbrev li (z:Str):List Nat:=z.cps.toList
def mk1 (c:Nat):Str:=⟨#[c]⟩
def ofL (l:List Nat):Str:=⟨l.toArray⟩
theorem uk (l:List Nat):li (ofL l)=l:=rfl
theorem ud (z:Str):ofL (li z)=z:=rfl
theorem GL {a b:Str} (h:li a=li b):a=b:=by rw [← ud a,← ud b,h]
theorem ul (a b:Str):li (a++b)=li a++li b:=by
 show (a.cps++b.cps).toList=_
 rw [Array.toList_append]
def emp:Str:=""
def cat (ks:List Str):Str:=Txt.join emp ks
def a8 (ks:List Str):List Nat:=(ks.map li).flatten
theorem Ic (ks:List Str):li (cat ks)=a8 ks:=by
 unfold cat Txt.join a8
 rw [StrLaws.glued_eq_join]
 induction ks with
 | nil=>rfl
 | cons x r ih =>
  cases r with
  | nil =>
   show li x=_
   simp
  | cons y r =>
   show li (x++emp++Str.join emp (y :: r))=_
   rw [ul,ul,ih]
   show li x++[]++_=li x++((y :: r).map li).flatten
   rw [List.append_nil]
theorem qh (cs:List Nat):a8 (cs.map mk1)=cs:=by
 unfold a8
 rw [List.map_map]
 induction cs with
 | nil=>rfl
 | cons c r ih =>
  rw [List.map_cons,List.flatten_cons,ih]
  rfl
theorem nV (ks:List Str) (x:Str):a8 (ks++[x])=a8 ks++li x:=by
 unfold a8
 rw [List.map_append,List.flatten_append]
 simp
theorem qi (ks:List Str):(ks.map (·.length)).sum=(a8 ks).length:=by
 unfold a8
 rw [List.length_flatten,List.map_map]
 rfl
def Sub (x z:List Nat):Prop:=∀ c∈x,c∈z
theorem ir {α β:Type} (f:α→β):∀ (ys:List α) (k:Nat),(ys.map f).eraseIdx k=(ys.eraseIdx k).map f
 | [],_=>rfl
 | _ :: _,0=>rfl
 | y :: ys,k+1=>by
  show f y :: (ys.map f).eraseIdx k=f y :: (ys.eraseIdx k).map f
  rw [ir f ys k]
theorem Ga {n:Nat} {i:Int} (h0:0≤i) (h1:i < (n:Int)):seqIndex? i n=some i.toNat:=PySem.seqIndex_of h0 h1
theorem mF:∀ (us:List Nat) (d:Nat) (h:d < us.length),([us[d]]++us.eraseIdx d).Perm us
 | [],_,h=>absurd h (Nat.not_lt_zero _)
 | a :: r,0,_=>List.Perm.refl _
 | a :: r,d+1,h=>by
  have h':d < r.length:=Nat.lt_of_succ_lt_succ h
  show (r[d] :: a :: r.eraseIdx d).Perm (a :: r)
  exact (List.Perm.swap _ _ _).trans (List.Perm.cons a (mF r d h'))
theorem uz {l:List Nat} {i c:Nat} (hn:l.Nodup) (h:l[i]?=some c):l.idxOf c=i:=by
 obtain ⟨hi,e⟩:=List.getElem?_eq_some_iff.mp h
 rw [← e]
 exact hn.idxOf_getElem i hi
theorem nN {z:Str} {c:Nat} (hn:(li z).Nodup) (hm:c∈li z):∃ rest,Builtin.Str.occurrences z (mk1 c) 0 z.length 1=(li z).idxOf c :: rest:=by
 have h1:=StrLaws.found_one z c
 rw [decide_eq_true hm] at h1
 cases ho:Builtin.Str.occurrences z ⟨#[c]⟩ 0 z.length 1 with
 | nil=>rw [ho] at h1; cases h1
 | cons i rest =>
  have h2:=StrLaws.occ_spec z ⟨#[c]⟩ 0 z.length 1 i (by rw [ho]; exact List.mem_cons_self)
  have h3:=(StrLaws.subAt_one z c i).mp h2
  rw [uz hn h3]
  exact ⟨rest,ho⟩
end L2
namespace L2
open PySem PySem.Spec PyProof.Rows
section
variable {prog:Program} {w:World} {A:Around} {E:Value→Shared→Prop} {s:Shared}
end
section
variable {prog:Program} {w:World} {A:Around} {E:Value→Shared→Prop} {s:Shared}
end
section
variable {X:Cx} {K:PySem.W.Frag}
def i9 (z y:Str):Bool:=!(Builtin.Str.occurrences z y 0 z.length 1).isEmpty
def Jn (neg:Bool):R2:=fun x y H Q=>∃ a b,x=.str a∧y=.str b∧Q (.bl (if neg then !i9 b a else i9 b a)) H
theorem op_inS:OpR X (compareOp .In) (Jn false):=by
 intro pins s σ H x y v u Q I rx ry h
 obtain ⟨a,b,rfl,rfl,q⟩:=h
 obtain ⟨t,rfl⟩:=rx
 obtain ⟨t2,rfl⟩:=ry
 exact PySem.P.in_str ⟨.bl _,H,I,rfl,q⟩
end
section
open PySem.SeqAt
end
end L2
namespace L2
open PySem PySem.Spec PyProof.Rows
theorem eh:∀ (names:List (Str × NameKind)) (n:Nat) (acc:List (Str × Addr)),cellsFrom n names acc=cellsFrom n names []++acc
 | [],_,_=>rfl
 | (x,k) :: r,n,acc=>by
  unfold cellsFrom
  split
  ·rw [eh r (n+1) ((x,n) :: acc),eh r (n+1) [(x,n)],List.append_assoc]
   rfl
  ·exact eh r n acc
theorem gf:∀ (names:List (Str × NameKind)) (n:Nat) (acc:List (Str × Addr)) {x:Str} {c:Addr},(x,c)∈cellsFrom n names acc→(x,c)∈acc∨(x,NameKind.cell)∈names
 | [],_,_,_,_,h=>.inl h
 | (y,k) :: r,n,acc,x,c,h=>by
  unfold cellsFrom at h
  split at h
  ·rename_i hk
   rcases gf r _ _ h with h | h
   ·rcases List.mem_cons.mp h with e | e
    ·have hk':k=.cell:=by simpa using hk
     have e':=(Prod.mk.inj e).1
     rw [e',← hk']
     exact .inr List.mem_cons_self
    ·exact .inl e
   ·exact .inr (List.mem_cons_of_mem _ h)
  ·rcases gf r _ _ h with h | h
   ·exact .inl h
   ·exact .inr (List.mem_cons_of_mem _ h)
theorem fE:∀ (names:List (Str × NameKind)) (n:Nat) (acc:List (Str × Addr)) {p:Str × Addr},p∈acc→p∈cellsFrom n names acc
 | [],_,_,_,h=>h
 | (y,k) :: r,n,acc,p,h=>by
  unfold cellsFrom
  split
  ·exact fE r _ _ (List.mem_cons_of_mem _ h)
  ·exact fE r _ _ h
theorem gh:∀ (names:List (Str × NameKind)) (n:Nat) (acc:List (Str × Addr)) {x:Str},(x,NameKind.cell)∈names→∃ c,(x,c)∈cellsFrom n names acc
 | [],_,_,_,h=>by simp at h
 | (y,k) :: r,n,acc,x,h=>by
  unfold cellsFrom
  rcases List.mem_cons.mp h with e | e
  ·cases e
   rw [if_pos (by rfl)]
   exact ⟨n,fE r _ _ List.mem_cons_self⟩
  ·split
   ·exact gh r _ _ e
   ·exact gh r _ _ e
theorem pG {α:Type}:∀ {a b:List (Str × α)} {x:Str} {c:α},(a++b).lookup x=some c→a.lookup x=some c∨(a.lookup x=none∧b.lookup x=some c)
 | [],_,_,_,h=>.inr ⟨rfl,h⟩
 | (n,v) :: r,b,x,c,h=>by
  rw [List.cons_append,List.lookup_cons] at h
  rw [List.lookup_cons]
  cases e:x == n with
  | true=>rw [e] at h; exact .inl h
  | false=>rw [e] at h; exact pG h
theorem kf {α:Type}:∀ {a b:List (Str × α)} {x:Str} {c:α},a.lookup x=some c→(a++b).lookup x=some c
 | [],_,_,_,h=>by simp at h
 | (n,v) :: r,b,x,c,h=>by
  rw [List.cons_append,List.lookup_cons]
  rw [List.lookup_cons] at h
  cases e:x == n with
  | true=>rw [e] at h; exact h
  | false=>rw [e] at h; exact kf h
theorem jp {α:Type}:∀ {a b:List (Str × α)} {x:Str} {c:α},a.lookup x=none→b.lookup x=some c→(a++b).lookup x=some c
 | [],_,_,_,_,h=>h
 | (n,v) :: r,b,x,c,hn,h=>by
  rw [List.cons_append,List.lookup_cons]
  rw [List.lookup_cons] at hn
  cases e:x == n with
  | true=>rw [e] at hn; cases hn
  | false=>rw [e] at hn; exact jp hn h
theorem jm {env:Env}:∀ {names:List (Str × NameKind)} {x:Str},names.lookup x=some .cell →
  (names.map fun (n,k)=>if (k == NameKind.free && env.scope.kind == .function && env.kindOf n == some .cell) then (n,NameKind.cell) else (n,k)).lookup x=some .cell
 | [],_,h=>by simp at h
 | (n,k) :: r,x,h=>by
  show List.lookup x ((if (k == NameKind.free && env.scope.kind == .function && env.kindOf n == some .cell)=true then (n,NameKind.cell) else (n,k)) :: _)=_
  cases hx:x == n with
  | true =>
   simp only [List.lookup_cons,hx] at h
   cases h
   simp [List.lookup_cons,hx]
  | false =>
   simp only [List.lookup_cons,hx] at h
   by_cases hc:(k == NameKind.free && env.scope.kind == .function && env.kindOf n == some .cell)=true
   ·rw [if_pos hc]; simp only [List.lookup_cons,hx]; exact jm h
   ·rw [if_neg hc]; simp only [List.lookup_cons,hx]; exact jm h
abbrev aR (X:Cx) (scope:Scope) (ns:List Str) (C:Addr) (cl:List (Str × Addr)) (s₀:Shared) (H₀:Hp) (fp:List Addr):Cx :=
 { X with N:=ns,s₀:=s₀,H₀:=H₀,env:=compEnvC scope cl C X.env,outer:=X.stack,ex:=fp,fn:=fun x=>scope.names.lookup x == some NameKind.cell,pn:=[],xe:=fun _ _=>False }
structure BlkOkC (X:Cx) (scope:Scope) (ns:List Str) (js:List (Option Nat)):Prop where
 kind:scope.kind=.function
 uniq:∀ y∈scope.names,y.2=.cell→scope.names.lookup y.1=some .cell
 names:∀ y∈scope.names,y.2=.local→scope.names.lookup y.1=some .local
 free:∀ y∈scope.names,y.2=.free→X.env.kindOf y.1=some .cell∨X.env.kindOf y.1=some .free
 nd:ns.Nodup
 len:js.length=ns.length
 out:∀ (i:Nat) (x:Str) (j:Nat),ns[i]?=some x→js[i]?=some (some j)→X.N[j]?=some x∧scope.names.lookup x=some .free
def kS (N:List Str) (sc scope:Scope) (ns:List Str) (js:List (Option Nat)):Bool :=
 decide (scope.kind=.function) && scope.names.all (fun y=>decide (y.2=.cell→scope.names.lookup y.1=some .cell)) && scope.names.all (fun y=>decide (y.2=.local→scope.names.lookup y.1=some .local)) &&
 scope.names.all (fun y=>decide (y.2=.free→sc.names.lookup y.1=some .cell∨sc.names.lookup y.1=some .free)) && decide ns.Nodup && decide (js.length=ns.length) &&
 (List.range ns.length).all (fun i=>match js[i]?,ns[i]? with
  | some (some j),some x=>decide (N[j]?=some x) && decide (scope.names.lookup x=some .free)
  | _,_=>true)
theorem rA {N:List Str} {scope:Scope} {ns:List Str} {js:List (Option Nat)} (h7:∀ i < ns.length,(match js[i]?,ns[i]? with
  | some (some j),some x=>decide (N[j]?=some x) && decide (scope.names.lookup x=some .free)
  | _,_=>true)=true) {i:Nat} {x:Str} {j:Nat} (e1:ns[i]?=some x) (e2:js[i]?=some (some j)):N[j]?=some x∧scope.names.lookup x=some .free:=by
 have q:=h7 i (List.getElem?_eq_some_iff.mp e1).1
 rw [e1,e2] at q
 simpa using q
theorem BlkOkC.of {X:Cx} {scope:Scope} {ns:List Str} {js:List (Option Nat)} {N0:List Str} {sc0:Scope} (hN:X.N=N0) (hS:X.env.scope=sc0) (h:kS N0 sc0 scope ns js=true):BlkOkC X scope ns js:=by
 unfold kS at h
 simp only [Bool.and_eq_true,List.all_eq_true,decide_eq_true_eq,List.mem_range] at h
 obtain ⟨⟨⟨⟨⟨⟨h1,h2⟩,h3⟩,h4⟩,h5⟩,h6⟩,h7⟩:=h
 refine ⟨h1,fun y hy=>h2 y hy,fun y hy=>h3 y hy,fun y hy hk=>?_,h5,h6,fun i x j e1 e2=>?_⟩
 ·have q:=h4 y hy hk
  rw [← hS] at q
  exact q
 ·rw [hN]
  exact rA h7 e1 e2
section
variable {M:Model} {A:Around} {E:Value→Shared→Prop} {s:Shared}
theorem ie {scope:Scope} {globals:Addr} {closure:List (Str × Addr)} {qual:Str} {outer:Env} {builtins:Addr} {Q:Env→Shared→Prop}
  (hQ:Q (newEnv scope s.heap.objs.size globals (cellsFrom (s.heap.objs.size+1) scope.names closure) qual none .none (some outer) builtins) { s with heap:=pushCells (s.heap.push { cls:=.type "dict",data:=.dict #[] }) scope.names }) :
  wpAny M A (newFunctionEnv scope globals closure [] qual none .none (some outer) builtins) Q E s:=by
 simp only [newFunctionEnv,Option.isSome_some,if_true]
 refine wpAny_bind (wpAny_alloc ?_)
 refine wpAny_bind (wpAny_layCells _ (fun name kind cells=>by cases hkc:kind == NameKind.cell <;> simp [hkc]) _ _ _ _ ?_)
 rw [show ({ s with heap:=s.heap.push { cls:=.type "dict",data:=.dict #[] } }:Shared).heap.objs.size=s.heap.objs.size+1 from Heap.size_push ..]
 rw [List.forIn_nil]
 exact wpAny_bind (wpAny_pure (wpAny_pure hQ))
end
section
variable {X:Cx} {elt tg iter:Expr} {ifs:List Expr} {scope:Scope} {pos:Pos} {ns:List Str} {js:List (Option Nat)} {wi:TI} {g:TG} {tt:TT} {te:TE}
theorem wM {pins:List (Addr × Obj)} {s3:Shared} {σ:St} {H3:Hp} {fp:List Addr} {h₁:Heap} {tk:Nat} (B:BlkOkC X scope ns js) (I3:Inv X pins σ H3 s3)
  (f3:∀ b∈fp,gm X pins H3 b) (lt3:∀ b∈fp,b < s3.heap.objs.size) (hns:h₁.Ns s3.heap.objs.size (fun _=>none)) (old:∀ b u,s3.heap.get? b=some u→h₁.get? b=some u)
  (cok:CellsOk h₁ (s3.heap.objs.size+1) (cellsFrom (s3.heap.objs.size+1) scope.names [])) :
  Inv (aR X scope ns s3.heap.objs.size (cellsFrom (s3.heap.objs.size+1) scope.names (dm X.env scope.names)) s3 H3 fp) [] (ek js σ) H3 { s3 with heap:=h₁,toks:=tk }:=by
 rw [eh]
 have hmem:∀ {x:Str} {c:Addr},(x,c)∈cellsFrom (s3.heap.objs.size+1) scope.names []→scope.names.lookup x=some .cell:=fun {x c} h=>by
  rcases gf _ _ _ h with h | h
  ·simp at h
  ·exact B.uniq _ h rfl
 have hhas:∀ {x:Str},scope.names.lookup x=some .cell→∃ c,(cellsFrom (s3.heap.objs.size+1) scope.names []).lookup x=some c:=fun {x} h=>by
  obtain ⟨c,hc⟩:=gh scope.names (s3.heap.objs.size+1) [] (PySem.mem_of_lookup h)
  exact gc hc
 generalize cellsFrom (s3.heap.objs.size+1) scope.names []=CS at cok hmem hhas
 have has:∀ y∈scope.names,y.2=.free→∃ c,X.env.cells.lookup y.1=some c:=fun y hy hk=>I3.ok.has y.1 (B.free y hy hk)
 have look:∀ {n:Str} {c:Addr},(CS++dm X.env scope.names).lookup n=some c→(CS.lookup n=some c∧h₁.IsCell c none∧s3.heap.objs.size+1≤c)∨(CS.lookup n=none∧X.env.cells.lookup n=some c∧c < s3.heap.objs.size):=fun {n c} e=>by
  rcases pG e with e | ⟨e1,e2⟩
  ·exact .inl ⟨e,cok.empty n c (PySem.mem_of_lookup e)⟩
  ·have e3:=nP has e2
   obtain ⟨v,hv⟩:=I3.cell n c e3
   exact .inr ⟨e1,e3,hv.lt⟩
 refine ⟨⟨I3.ok.mod,B.kind,I3.ok.glob,I3.ok.blt,Nat.le_refl _,fun y z c h1 h2=>?_,fun y hy=>?_,fun y c hf h=>?_,I3.ok.hd,I3.ok.frames,.inl rfl,fun b hb=>?_,I3.bs,Nat.le_trans I3.ok.bsz I3.sz,
   fun b o e hb=>?_,fun b hb z=>?_,I3.stack,I3.stkFree⟩,
  rfl,I3.bare,Un.kept old,⟨_,hns,fun i x v h1 h2 h3=>?_⟩,fun y c h=>?_,I3.fresh,fun y c h=>?_,fun p hp=>absurd (show p∈([]:List (Addr × Obj)) from hp) (by simp),I3.hok.kept old,?_⟩
 ·rcases look h1 with ⟨a1,_,a3⟩ | ⟨_,a2,a3⟩ <;> rcases look h2 with ⟨b1,_,b3⟩ | ⟨_,b2,b3⟩
  ·exact name_of_addr cok.apart (PySem.mem_of_lookup a1) (PySem.mem_of_lookup b1)
  ·exact absurd (Nat.lt_of_lt_of_le (Nat.lt_of_lt_of_le b3 (Nat.le_succ _)) a3) (Nat.lt_irrefl _)
  ·exact absurd (Nat.lt_of_lt_of_le (Nat.lt_of_lt_of_le a3 (Nat.le_succ _)) b3) (Nat.lt_irrefl _)
  ·exact I3.ok.inj y z c a2 b2
 ·have hf:scope.names.lookup y=some .cell∨scope.names.lookup y=some .free:=by
   rcases hy with hy | hy
   ·rcases jk (env:=X.env) hy with q | q
    ·exact .inl q
    ·exact .inr q.1
   ·rcases jk (env:=X.env) hy with q | q
    ·exact .inr q
    ·exact .inr q.1
  show ∃ c,(CS++dm X.env scope.names).lookup y=some c
  rcases hf with hf | hf
  ·obtain ⟨c,hc⟩:=hhas hf
   exact ⟨c,kf hc⟩
  ·obtain ⟨c,hc⟩:=qb (env:=X.env) (PySem.mem_of_lookup hf)
   cases e:CS.lookup y with
   | none=>exact ⟨c,jp e hc⟩
   | some d=>exact ⟨d,kf e⟩
 ·rcases look h with ⟨_,_,a3⟩ | ⟨a1,_,_⟩
  ·show s3.heap.objs.size≤c
   omega
  ·have hf':(scope.names.lookup y == some NameKind.cell)=true:=hf
   obtain ⟨d,hd⟩:=hhas (by simpa using hf')
   rw [a1] at hd
   cases hd
 ·refine ⟨Nat.ne_of_lt (lt3 b hb),fun x c e=>?_⟩
  rcases look e with ⟨_,_,a3⟩ | ⟨_,a2,_⟩
  ·have:=lt3 b hb
   intro z
   subst z
   exact Nat.lt_irrefl _ (Nat.lt_of_lt_of_le (Nat.lt_of_lt_of_le this (Nat.le_succ _)) a3)
  ·exact (f3 b hb).2.2.2.2.1 x c a2
 ·rcases (f3 b hb).2.2.2.1 with z | z
  ·exact I3.ok.noex b o e z
  ·exact absurd (Nat.lt_of_lt_of_le (Nat.lt_of_lt_of_le (Heap.lt_size e) I3.ok.bsz) z) (Nat.lt_irrefl _)
 ·rcases List.mem_cons.mp (I3.stkSub b z) with q | q
  ·exact (f3 b hb).2.1 q
  ·exact (f3 b hb).2.2.1 q
 ·have h2':(js.map fun j=>match j with | some j=>(σ[j]?).join | none=>none)[i]?=some (some v):=h2
  rw [List.getElem?_map] at h2'
  obtain ⟨j,hj,hσ⟩:∃ j,js[i]?=some (some j)∧σ[j]?=some (some v):=by
   cases e:js[i]? with
   | none=>rw [e] at h2'; simp at h2'
   | some oj =>
    rw [e] at h2'
    cases oj with
    | none=>simp at h2'
    | some j =>
     refine ⟨j,rfl,?_⟩
     have q:(σ[j]?).join=some v:=by simpa using h2'
     cases e2:σ[j]? with
     | none=>rw [e2] at q; simp at q
     | some ov =>
      rw [e2] at q
      simp at q
      rw [q]
  obtain ⟨hN,hfr⟩:=B.out i x j h1 hj
  have hf:=B.free (x,.free) (PySem.mem_of_lookup hfr) rfl
  have hf':X.env.kindOf x=some .cell∨X.env.kindOf x=some .free:=hf
  obtain ⟨m,hn,hl⟩:=I3.loc
  obtain ⟨u,r,l⟩:=hl j x v hN hσ (by
   rcases hf' with z | z
   ·exact .inr (.inl z)
   ·exact .inr (.inr z))
  refine ⟨u,r,?_⟩
  rcases l with ⟨hk,_⟩ | ⟨hk,c,hc,hcell⟩
  ·rcases hf' with z | z
   ·rw [z] at hk; cases hk
   ·rw [z] at hk; cases hk
  ·obtain ⟨c',hc'⟩:=qb (env:=X.env) (PySem.mem_of_lookup hfr)
   have e':=nP has hc'
   rw [hc] at e'
   cases e'
   obtain ⟨o,ho,hd⟩:=hcell
   have hno:CS.lookup x=none:=by
    cases e:CS.lookup x with
    | none=>rfl
    | some d =>
     have q:=hmem (PySem.mem_of_lookup e)
     rw [hfr] at q
     cases q
   exact .inr ⟨jl (env:=X.env) hfr,c,jp hno hc',⟨o,old c o ho,hd⟩⟩
 ·rcases look h with ⟨_,a2,_⟩ | ⟨_,a2,_⟩
  ·exact ⟨_,a2⟩
  ·obtain ⟨v,o,ho,hd⟩:=I3.cell y c a2
   exact ⟨v,o,old c o ho,hd⟩
 ·rcases look h with ⟨_,_,a3⟩ | ⟨_,a2,_⟩
  ·exact I3.hok.fresh (by omega)
  ·exact I3.freeC y c a2
 ·show (js.map _).length=ns.length
  rw [List.length_map]
  exact B.len
theorem pJ {pins:List (Addr × Obj)} {s2:Shared} {σ:St} {H2:Hp} {Qv:VK} {J:It} {fp:List Addr} {it:Addr} {tn:Nat→Heap→Prop} {RR:Value→Addr→Result→Shared→Prop}
  (B:BlkOkC X scope ns js) (hc:X.calm=true) (I2:Inv X pins σ H2 s2) (T:Turn X.prog X.w X.K tg J fp it tn) (st2:tn 0 s2.heap) (f2:∀ b∈fp,gm X pins H2 b)
  (hg:∀ C cl s₀ H₀ fp,PG (aR X scope ns C cl s₀ H₀ fp) tg g) (ht:∀ C cl s₀ H₀ fp,PTs (aR X scope ns C cl s₀ H₀ fp) ifs tt) (he:∀ C cl s₀ H₀ fp,PE (aR X scope ns C cl s₀ H₀ fp) elt te)
  (hw:∀ D,H2 D=none→Cd J g tt te (ek js σ) H2 D Qv)
  (hRR:∀ D C s' H',Inv X pins σ H' s'→Qv (.ref D) H'→(∃ m,s'.heap.Ns C m)→H' C=none→C≠X.env.locals→X.s₀.heap.objs.size≤C→(∀ x c,X.env.cells.lookup x=some c→c≠C)→(∀ p∈X.pn++pins,p.1≠C)→RR (.ref D) C (.ok .next) s') :
  wpAny (model X.prog X.w) X.A (newList []) (fun acc s₃=>wpAny (model X.prog X.w) X.A (newFunctionEnv scope X.env.globals (dm X.env scope.names) [] X.env.qual none .none (some X.env)) (fun cenv s₄ =>
   codeAny (model X.prog X.w) X.A (.compStart (.ListComp elt [⟨tg,iter,ifs,0⟩] scope pos) 0 (.ref it) acc { cenv with scope:=relabel scope X.env }) (RR acc cenv.locals) s₄) X.xe s₃) X.xe s2:=by
 refine wpAny_newObj_type (ie ?_)
 dsimp only
 have I3:Inv X pins σ (upd H2 s2.heap.objs.size (.lst [])) { s2 with heap:=s2.heap.push { cls:=.type "list",data:=.seq ([]:List Value).toArray },toks:=s2.toks }:=I2.lnew .nil (Nat.zero_le _)
 generalize hs3:({ s2 with heap:=s2.heap.push { cls:=.type "list",data:=.seq ([]:List Value).toArray },toks:=s2.toks }:Shared)=s3 at I3
 have e3:s3.heap=s2.heap.push { cls:=.type "list",data:=.seq ([]:List Value).toArray }:=by rw [← hs3]
 have k3:∀ b u,s2.heap.get? b=some u→s3.heap.get? b=some u:=fun b u e=>by rw [e3]; exact Heap.get?_push_of_some _ e
 have sz3:s3.heap.objs.size=s2.heap.objs.size+1:=by rw [e3,Heap.size_push]
 have hD:H2 s2.heap.objs.size=none:=I2.fresh
 obtain ⟨h₁,hh₁⟩:∃ h₁,h₁=pushCells (s3.heap.push { cls:=.type "dict",data:=.dict #[] }) scope.names:=⟨_,rfl⟩
 have old:∀ b u,s3.heap.get? b=some u→h₁.get? b=some u:=fun b u e=>by
  rw [hh₁]
  exact pushCells_keeps _ _ b u (Heap.get?_push_of_some _ e)
 have hns:h₁.Ns s3.heap.objs.size (fun _=>none):=by
  rw [hh₁]
  exact (Heap.Ns.new s3.heap (.type "dict")).keeps (pushCells_keeps _ _)
 have cok:CellsOk h₁ (s3.heap.objs.size+1) (cellsFrom (s3.heap.objs.size+1) scope.names []):=by
  have q:=cellsFrom_ok scope.names (s3.heap.push { cls:=.type "dict",data:=.dict #[] }) (s3.heap.objs.size+1) [] ⟨fun _ _ hm=>(nomatch hm),List.Pairwise.nil⟩ (by rw [Heap.size_push]; exact Nat.le_refl _)
  rw [Heap.size_push,← hh₁] at q
  exact q
 have obj2:∀ b∈fp,b < s2.heap.objs.size:=fun b hb=>let ⟨o,e,_⟩:=T.obj 0 _ st2 b hb; Heap.lt_size e
 have f3:∀ b∈fp,gm X pins (upd H2 s2.heap.objs.size (.lst [])) b:=fun b hb=>⟨by rw [aM (Nat.ne_of_lt (obj2 b hb))]; exact (f2 b hb).1,(f2 b hb).2⟩
 have lt3:∀ b∈fp,b < s3.heap.objs.size:=fun b hb=>by rw [sz3]; exact Nat.lt_succ_of_lt (obj2 b hb)
 obtain ⟨W,⟨m0,w0⟩,turn⟩:=hw _ hD
 have J0:=fun tk=>wM (tk:=tk) B I3 f3 lt3 hns old cok
 have has:∀ y∈scope.names,y.2=.free→∃ c,X.env.cells.lookup y.1=some c:=fun y hy hk=>I2.ok.has y.1 (B.free y hy hk)
 have stat:∀ {H':Hp},(∀ b∈fp,H' b=none)→∀ b∈fp,gm (aR X scope ns s3.heap.objs.size (cellsFrom (s3.heap.objs.size+1) scope.names (dm X.env scope.names)) s3 (upd H2 s2.heap.objs.size (.lst [])) fp) [] H' b:=fun hn b hb =>
  ⟨hn b hb,Nat.ne_of_lt (lt3 b hb),(J0 0).ok.exfs b hb,.inl hb,fun x c e=>(J0 0).ok.exf b hb |>.2 x c e,fun p hp=>absurd (show p∈([]:List (Addr × Obj)) from hp) (by simp)⟩
 have fin:∀ {τ:St} {H':Hp} {s':Shared},Inv (aR X scope ns s3.heap.objs.size (cellsFrom (s3.heap.objs.size+1) scope.names (dm X.env scope.names)) s3 (upd H2 s2.heap.objs.size (.lst [])) fp) [] τ H' s'→Qv (.ref s2.heap.objs.size) H'→RR (.ref s2.heap.objs.size) s3.heap.objs.size (.ok .next) s':=fun {τ H' s'} I6 q=>by
  have u1:Un (frs X.stack) fp H2 (upd H2 s2.heap.objs.size (.lst [])) s2.heap s3.heap:=Un.laid k3 (Nat.le_refl _) hD
  have os3:s3.os=s2.os:=by rw [← hs3]
  have I7:Inv X pins σ H' s':=I2.call' (ch:=fp) (I6.os.trans os3) (u1.trans I6.base) I6.hok I6.bare fun b hb=>⟨(f2 b hb).2.2.2.1,(f2 b hb).2.1,(f2 b hb).2.2.2.2.1,(f2 b hb).2.2.2.2.2⟩
  have le2:s2.heap.objs.size≤s3.heap.objs.size:=by rw [sz3]; exact Nat.le_succ _
  refine hRR _ _ s' H' I7 q ?_ I6.free (Nat.ne_of_gt (Nat.lt_of_lt_of_le I2.lt le2)) (Nat.le_trans I2.sz le2) (fun x c e z=>?_) fun p hp z=>?_
  ·obtain ⟨m,hn,_⟩:=I6.loc
   exact ⟨m,hn⟩
  ·obtain ⟨v,hv⟩:=I2.cell x c e
   exact absurd (Nat.lt_of_lt_of_le hv.lt (by rw [z]; exact le2)) (Nat.lt_irrefl _)
  ·exact absurd (Nat.lt_of_lt_of_le (Heap.lt_size (I2.pin p hp).1) (by rw [z]; exact le2)) (Nat.lt_irrefl _)
 rw [← e3,← hh₁]
 have loop:∀ tk,codeAny (model X.prog X.w) X.A (.compLoop (.ListComp elt [⟨tg,iter,ifs,0⟩] scope pos) 0 (.ref it) (.ref s2.heap.objs.size) (compEnvC scope (cellsFrom (s3.heap.objs.size+1) scope.names (dm X.env scope.names)) s3.heap.objs.size X.env))
   (RR (.ref s2.heap.objs.size) s3.heap.objs.size) { s3 with heap:=h₁,toks:=tk }:=fun tk=>by
  refine codeAny_loop rfl (fun n s'=>∃ i τ H',Inv (aR X scope ns s3.heap.objs.size (cellsFrom (s3.heap.objs.size+1) scope.names (dm X.env scope.names)) s3 (upd H2 s2.heap.objs.size (.lst [])) fp) [] τ H' s'∧tn i s'.heap∧(∀ b∈fp,H' b=none)∧W i n τ H') (fun n s5 hI=>?_) m0
   ⟨0,_,_,J0 tk,T.keep _ _ _ st2 fun b _ o e=>old b o (k3 b o e),fun b hb=>(f3 b hb).1,w0⟩
  obtain ⟨i,τ,H5,I5,st5,fr5,w5⟩:=hI
  show wpAny _ X.A ((compTurn (.ListComp elt [⟨tg,iter,ifs,0⟩] scope pos) 0 (.ref it) (.ref s2.heap.objs.size) (compEnvC scope (cellsFrom (s3.heap.objs.size+1) scope.names (dm X.env scope.names)) s3.heap.objs.size X.env)).onRaise (fun x=>do noteFrame x (compEnvC scope (cellsFrom (s3.heap.objs.size+1) scope.names (dm X.env scope.names)) s3.heap.objs.size X.env); theTreesLotGoes x)) _ _ s5
  refine wpAny_noted ?_
  rw [compTurn_list]
  refine wpAny_bind (wpAny_standAt (wpAny_bind ?_))
  rcases turn i n τ H5 w5 with ⟨stop,qn⟩ | ⟨go,N,hN,step⟩
  ·refine thn (T.done (aR X scope ns s3.heap.objs.size (cellsFrom (s3.heap.objs.size+1) scope.names (dm X.env scope.names)) s3 (upd H2 s2.heap.objs.size (.lst [])) fp) rfl rfl rfl hc i [] s5 τ H5 _ I5 (stat fr5) st5 stop) fun r s6 ⟨hr,I6⟩=>?_
   subst hr
   exact wpAny_pure (fin I6 qn)
  ·refine thn (T.item (aR X scope ns s3.heap.objs.size (cellsFrom (s3.heap.objs.size+1) scope.names (dm X.env scope.names)) s3 (upd H2 s2.heap.objs.size (.lst [])) fp) rfl rfl rfl hc i [] s5 τ H5 _ I5 (stat fr5) st5 go) fun r s6 ⟨u,hr,h6⟩=>?_
   subst hr
   dsimp only
   refine wpAny_bind (thn h6 fun _ s7 ⟨x,H7,I7,r7,y7,st7,fr7⟩=>?_)
   have I7':=I7.pinned (stat fr7) (T.obj _ _ st7)
   have back:∀ {τ9:St} {H9:Hp} {s9:Shared},Inv (aR X scope ns s3.heap.objs.size (cellsFrom (s3.heap.objs.size+1) scope.names (dm X.env scope.names)) s3 (upd H2 s2.heap.objs.size (.lst [])) fp) ([]++kc fp s7.heap) τ9 H9 s9 →
     Inv (aR X scope ns s3.heap.objs.size (cellsFrom (s3.heap.objs.size+1) scope.names (dm X.env scope.names)) s3 (upd H2 s2.heap.objs.size (.lst [])) fp) [] τ9 H9 s9∧tn (i+1) s9.heap∧∀ b∈fp,H9 b=none:=fun {τ9 H9 s9} I9=>by
    refine ⟨I9.unpinned,T.keep _ _ _ st7 fun b hb o e=>(I9.pin (b,o) (List.mem_append_right _ (List.mem_append_right _ (gA hb e)))).1,fun b hb=>?_⟩
    obtain ⟨o,e,d⟩:=T.obj _ _ st7 b hb
    exact (I9.pin (b,o) (List.mem_append_right _ (List.mem_append_right _ (gA hb e)))).2.1
   refine wpAny_bind (thF (hg _ _ _ _ _ _ s7 τ H7 x u _ I7' r7 (step x H7 y7)) fun _ s8 ⟨τ8,H8,I8,q8⟩=>?_)
   refine wpAny_bind (thF (ht _ _ _ _ _ _ s8 τ8 H8 _ I8 q8) fun b s9 ⟨H9,I9,q9⟩=>?_)
   cases b with
   | false =>
    rw [if_neg Bool.false_ne_true] at q9
    obtain ⟨m',hm,w9⟩:=hN _ _ q9
    obtain ⟨a1,a2,a3⟩:=back I9
    exact wpAny_pure ⟨rfl,m',hm,i+1,τ8,H9,a1,a2,a3,w9⟩
   | true =>
    rw [if_pos rfl] at q9
    refine wpAny_bind (wpAny_bind (thF (he _ _ _ _ _ _ s9 τ8 H9 _ I9 q9) fun v s10 ⟨y,H10,I10,r10,q10⟩=>?_))
    obtain ⟨xs,hx,hz,n10⟩:=q10
    obtain ⟨m',hm,w10⟩:=hN _ _ n10
    refine wpAny_bind (thF (nI _ s10 τ8 H10 (.ref s2.heap.objs.size) [y] (.ref s2.heap.objs.size) [v] (fun _ H11=>W (i+1) m' τ8 H11) I10 rfl (.cons r10 .nil) ⟨_,xs,y,rfl,rfl,hx,hz,w10⟩) fun _ s11 ⟨_,H11,I11,_,q11⟩=>?_)
    obtain ⟨a1,a2,a3⟩:=back I11
    exact wpAny_pure (wpAny_pure ⟨rfl,m',hm,i+1,τ8,H11,a1,a2,a3,q11⟩)
 have hst1:tn 0 h₁:=T.keep _ _ _ st2 fun b _ o e=>old b o (k3 b o e)
 subst hs3
 exact codeAny_compStart_list (loop _) (T.self _ 0 _ _ _ hst1 (loop _))
theorem tU (B:BlkOkC X scope ns js) (hc:X.calm=true) (hi:PI X tg iter wi)
  (hg:∀ C cl s₀ H₀ fp,PG (aR X scope ns C cl s₀ H₀ fp) tg g) (ht:∀ C cl s₀ H₀ fp,PTs (aR X scope ns C cl s₀ H₀ fp) ifs tt) (he:∀ C cl s₀ H₀ fp,PE (aR X scope ns C cl s₀ H₀ fp) elt te)
  (hs:∀ x,foldedSetIterable iter X.env x=pure x:=by intro _; rfl):PE X (.ListComp elt [⟨tg,iter,ifs,0⟩] scope pos) (tLC wi g tt te js):=by
 intro pins s σ H Q I h
 rw [eval_ListComp]
 have hclos:=mG (scope:=scope) (env:=X.env) (fun y hy hk=>I.ok.has y.1 (B.free y hy hk))
 refine wpAny_comprehension_free (use:=none) rfl hs hclos B.kind B.names (thn (hi pins s σ H _ I h) fun v s1 h1=>thn h1 fun itv s2 h2=>?_)
 obtain ⟨it,fp,tn,J,H2,e,I2,T,st2,f2,hw⟩:=h2
 subst e
 refine pJ (RR:=fun acc C=>compPost (model X.prog X.w) X.A X.xe none (EP X pins σ Q) acc C) B hc I2 T st2 f2 hg ht he hw ?_
 intro D C s' H' I' q hm c0 c1 c2 c3 c4
 obtain ⟨m,hn⟩:=hm
 exact ⟨m,hn,fun h' hs'=>⟨.ref D,H',I'.turned (t':=s'.toks) (fun b o hb e=>(hs'.2 b hb).trans e) c0 c1 (.inr c2) c3 c4,rfl,q⟩⟩
theorem tO {i:Nat} {x:Str} {spos pos':Pos} (hN:X.N.Nodup) (hi':X.N[i]?=some x) (hx:X.env.scope.names.lookup x=some .local) (B:BlkOkC X scope ns js) (hc:X.calm=true) (hi:PI X tg iter wi)
  (hg:∀ C cl s₀ H₀ fp,PG (aR X scope ns C cl s₀ H₀ fp) tg g) (ht:∀ C cl s₀ H₀ fp,PTs (aR X scope ns C cl s₀ H₀ fp) ifs tt) (he:∀ C cl s₀ H₀ fp,PE (aR X scope ns C cl s₀ H₀ fp) elt te)
  (hsw:swapsWith (.ListComp elt [⟨tg,iter,ifs,0⟩] scope pos) (some (.Name x pos')) spos.line X.env=pure true:=by rfl)
  (hs:∀ x,foldedSetIterable iter X.env x=pure x:=by intro _; rfl):PS X (.Assign [.Name x pos'] (.ListComp elt [⟨tg,iter,ifs,0⟩] scope pos) spos) (mY (tLC wi g tt te js) (mx i)):=by
 intro pins s σ H D I h
 rw [exec_Assign_Name_used _ _ _ _ hsw]
 have hclos:=mG (scope:=scope) (env:=X.env) (fun y hy hk=>I.ok.has y.1 (B.free y hy hk))
 refine wpAny_bind (wpAny_standAt (wpAny_bind ?_))
 show wpAny _ X.A (do let _ ← comprehension (.ListComp elt [⟨tg,iter,ifs,0⟩] scope pos) scope X.env _ (newList []) false (eval iter X.env) (some (assign (.Name x pos') X.env))) _ _ s
 refine wpAny_bind (wpAny_mono (wpAny_comprehension_free (use:=some (assign (.Name x pos') X.env)) (Q:=fun _ s'=>SP X pins D .next s') rfl hs hclos B.kind B.names
  (thn (hi pins s σ H _ I h) fun v s1 h1=>thn h1 fun itv s2 h2=>?_)) (fun _ s' hq=>wpAny_pure (wpAny_pure hq)) fun _ _ e=>e)
 obtain ⟨it,fp,tn,J,H2,e,I2,T,st2,f2,hw⟩:=h2
 subst e
 refine pJ (RR:=fun acc C=>compPost (model X.prog X.w) X.A X.xe (some (assign (.Name x pos') X.env)) (fun _ s'=>SP X pins D .next s') acc C) B hc I2 T st2 f2 hg ht he hw ?_
 intro D' C s' H' I' q hm c0 c1 c2 c3 c4
 obtain ⟨m,hn⟩:=hm
 show wpAny _ X.A (assign (.Name x pos') X.env (.ref D')) _ _ _
 refine wpAny_assign_Name (nE (v:=.ref D') I' hN hi' (.inl hx) rfl (fun s4 I4 ⟨a,hsb,ha⟩=>?_) (.inr hx))
 have ne:C≠a:=by
  rcases ha with z | z
  ·rw [z]; exact c1
  ·exact (c3 x a z).symm
 exact ⟨m,hn.sameBut hsb ne,fun h' hs'=>⟨_,H',I4.turned (t':=s4.toks) (fun b o hb e=>(hs'.2 b hb).trans e) c0 c1 (.inr c2) c3 c4,q⟩⟩
end
end L2
namespace L2
open PySem PySem.Spec PyProof.Rows
section
variable {X:Cx} {K:PySem.W.Frag}
theorem k7 (ns:List Int):∀ k,k≤ns.length→preSum (fun i=>ns.getD i 0) k=(ns.take k).sum
 | 0,_=>rfl
 | k+1,h=>by
  show preSum (fun i=>ns.getD i 0) k+ns.getD k 0=_
  rw [k7 ns k (by omega),PyProof.Rows.take_sum_succ ns k (by omega)]
end
end L2
namespace L2
open PySem PySem.Spec PyProof.Rows
mutual
def DV (H:Hp):V→PyData→Prop
 | v,.none=>v=.non
 | v,.bool b=>v=.bl b
 | v,.int i=>v=.int i
 | v,.str x=>v=.str x
 | v,.list ds=>∃ a xs,v=.ref a∧H a=some (.lst xs)∧DVs H xs ds
 | v,.tuple ds=>∃ a xs,v=.ref a∧H a=some (.tup xs)∧DVs H xs ds
 | _,.dict _=>False
def DVs (H:Hp):List V→List PyData→Prop
 | vs,[]=>vs=[]
 | vs,d :: ds=>∃ v r,vs=v :: r∧DV H v d∧DVs H r ds
end
section
variable {X:Cx} {pins:List (Addr × Obj)} {σ:St} {H:Hp} {s:Shared}
end
section
variable {X:Cx}
end
end L2
namespace L2
open PySem PySem.Spec PyProof.Rows
section
variable {prog:Program} {w:World} {A:Around} {E:Value→Shared→Prop} {s:Shared}
theorem rL {jt tu:Addr} {n:Nat} {vals:Array Value} {y:Value} {R:Value→Shared→Prop} (a1:s.heap.IsTupleIter jt tu n) (a2:s.heap.IsTuple tu vals) (a3:vals[n]?=some y)
  (q:∀ g,g.IsTupleIter jt tu (n+1)→Heap.SameBut jt s.heap g→R y { s with heap:=g }):wpAny (model prog w) A (Builtin.SmallTypes.nextOf (.ref jt)) R E s:=by
 obtain ⟨ob,b1,b2,b3⟩:=id a1
 obtain ⟨ot,c1,_,m,c2⟩:=a2
 unfold Builtin.SmallTypes.nextOf
 refine wpAny_bind (wpAny_callSpecial?_slot (name:=Str.ofString "__next__") a1.typeIs F.slot_tuple_iterator_next (wpAny_call_entry F.slot_tuple_iterator_next a1.typeIs F.entry_tuple_iterator_next ?_ (F.args_tuple_iterator_next_1 _)))
 show wpAny _ _ (field (.ref jt) 0 >>= _) _ _ s
 refine wpAny_bind (wpAny_field b1 b3 (x:=.ref tu) rfl ?_)
 show wpAny _ _ (if (Value.ref tu == Value.none)=true then _ else _) _ _ s
 rw [if_neg (show ¬ ((Value.ref tu == Value.none)=true) from Bool.false_ne_true)]
 show wpAny _ _ (field (.ref jt) 1 >>= _) _ _ s
 refine wpAny_bind (wpAny_field b1 b3 (x:=.int n 0) rfl ?_)
 show wpAny _ _ (seqItems? (.ref tu) >>= _) _ _ s
 refine wpAny_bind (wpAny_seqItems c1 c2 ?_)
 simp only [Int.toNat_natCast,a3]
 refine wpAny_bind (wpAny_setField b1 b3 (by simp) (wpAny_pure ⟨y,rfl,wpAny_pure (q _ ?_ (Heap.SameBut.update ..))⟩))
 refine ⟨_,Heap.get?_update_self _ b1 (Obj.isFreed_of_fields (Obj.data_mapFields b3 _)),(Obj.cls_mapFields ..).trans b2,?_⟩
 rw [Obj.data_mapFields b3]
 simp [rawInt]
theorem nB {jt tu:Addr} {n:Nat} {vals:Array Value} {R:Value→Shared→Prop} (hh:A.handled=none) (a1:s.heap.IsTupleIter jt tu n) (a2:s.heap.IsTuple tu vals) (a3:vals[n]?=none)
  (q:∀ g e,Heap.ExtBut jt s.heap g→(∃ o,g.get? e=some o∧o.cls=.type "StopIteration")→E (.ref e) { s with heap:=g }):wpAny (model prog w) A (Builtin.SmallTypes.nextOf (.ref jt)) R E s:=by
 obtain ⟨ob,b1,b2,b3⟩:=id a1
 obtain ⟨ot,c1,_,m,c2⟩:=a2
 unfold Builtin.SmallTypes.nextOf
 refine wpAny_bind (wpAny_callSpecial?_slot (name:=Str.ofString "__next__") a1.typeIs F.slot_tuple_iterator_next (wpAny_call_entry F.slot_tuple_iterator_next a1.typeIs F.entry_tuple_iterator_next ?_ (F.args_tuple_iterator_next_1 _)))
 show wpAny _ _ (field (.ref jt) 0 >>= _) _ _ s
 refine wpAny_bind (wpAny_field b1 b3 (x:=.ref tu) rfl ?_)
 show wpAny _ _ (if (Value.ref tu == Value.none)=true then _ else _) _ _ s
 rw [if_neg (show ¬ ((Value.ref tu == Value.none)=true) from Bool.false_ne_true)]
 show wpAny _ _ (field (.ref jt) 1 >>= _) _ _ s
 refine wpAny_bind (wpAny_field b1 b3 (x:=.int n 0) rfl ?_)
 show wpAny _ _ (seqItems? (.ref tu) >>= _) _ _ s
 refine wpAny_bind (wpAny_seqItems c1 c2 ?_)
 simp only [Int.toNat_natCast,a3]
 refine wpAny_bind (wpAny_rule (wpAny_bind (wpAny_setField b1 b3 (by simp) ?_)))
 show wpAny _ _ (newExc (.type "StopIteration") [] >>= _) _ _ _
 refine wpAny_bind ?_
 simp only [newExc,newTuple]
 refine wpAny_bind (wpAny_newObj_type ?_ (by show (0:Nat)≤_; exact Nat.zero_le _))
 refine wpAny_bind (m:=firstArgMember _ _) (wpAny_of_eq (a:=Value.none) (by first | rfl | (simp only [firstArgMember]; rfl)) ?_)
 refine wpAny_newObj_type ?_
 simp only [raiseNew]
 refine wpAny_bind (wpAny_handled ?_)
 first | rw [show A.in1.handled=none from hh] | rw [hh]
 refine wpAny_bind (wpAny_pure (wpAny_throw ?_))
 exact q _ _ (((Heap.SameBut.update ..).extBut.push _).push _) ⟨_,Heap.get?_push_size _ rfl,rfl⟩
theorem uS (hh:A.handled=none) (jt tu:Addr) (hne:tu≠jt) (vals:Array Value):Draws prog w A jt [jt,tu] vals.size (fun i v=>vals[i]?=some v) (fun i h=>h.IsTupleIter jt tu i∧h.IsTuple tu vals) where
 live:=fun _ _ st=>let ⟨o,ho,_⟩:=st.1; ⟨o,ho⟩
 frame:=fun _ _ _ st hk=>⟨st.1.at fun o e=>hk jt (by simp) o e,let ⟨o,ho,r⟩:=st.2; ⟨o,hk tu (by simp) o ho,r⟩⟩
 item:=fun i s Q E hi st hQ=>by
  refine rL st.1 st.2 (y:=vals[i]) (by simp [hi]) fun g st' sb=>?_
  exact hQ _ g s.toks (by simp [hi]) ⟨st',let ⟨o,ho,r⟩:=st.2; ⟨o,sb.extBut _ _ hne ho,r⟩⟩ sb
 done:=fun s Q E st hE=>nB hh st.1 st.2 (by simp) hE
end
theorem m7 (tu:Addr) (vals:Array Value) (n:Nat) (dct:Option Addr) (sl:Array (Option Value)) :
  Meets (Builtin.«enumerate.__new__» ⟨[.type "enumerate",.ref tu],[]⟩) (fun _ R s=>s.heap.get? tu=some { cls:=.type "tuple",dict:=dct,data:=.seq vals n,slots:=sl } ∧
   R (.ok (.ret (.ref (s.heap.push { cls:=.type "tuple_iterator",data:=.fields #[.ref tu,.int 0 0] }).objs.size)))
    { s with heap:=(s.heap.push { cls:=.type "tuple_iterator",data:=.fields #[.ref tu,.int 0 0] }).push { cls:=.type "enumerate",data:=.fields #[.none,.bool false,.ref s.heap.objs.size,rawInt 0,.none,.none] } }) :=
 .of_wp fun prog w A R s h=>by
  obtain ⟨hp,g,d,tk,os⟩:=s
  obtain ⟨ht,h⟩:=h
  have hsub:=sub_enumerate
  have hT:Heap.IsTuple (Shared.heap ⟨hp,g,d,tk,os⟩) tu vals:=⟨_,ht,rfl,n,rfl⟩
  wp_walk using AutoSeq1.wpAny_loadPart' ht
  refine wpAny_stack_any fun st=>wpAny_pure ?_
  split
  ·rename_i c _ _ _ _ _
   cases (c == Value.type "enumerate")
   ·wp_walk using AutoSeq1.wpAny_loadPart' ht,wpAny_pyIter_tuple hT
    exact ⟨_,rfl,h⟩
   ·wp_walk using AutoSeq1.wpAny_loadPart' ht,wpAny_pyIter_tuple hT
    exact ⟨_,rfl,h⟩
  ·wp_walk using AutoSeq1.wpAny_loadPart' ht,wpAny_pyIter_tuple hT
   exact ⟨_,rfl,h⟩
end L2
namespace L2
open PySem PySem.Spec PyProof.Rows
section
variable {prog:Program} {w:World} {A:Around} {E:Value→Shared→Prop} {s:Shared}
theorem oi {tu:Addr} {vals:Array Value} {Q:Value→Shared→Prop} (hT:s.heap.IsTuple tu vals)
  (h:∀ g,IsEnum g (s.heap.objs.size+1) s.heap.objs.size 0 .none→g.IsTupleIter s.heap.objs.size tu 0→g.objs.size=s.heap.objs.size+2 →
   (∀ b o,s.heap.get? b=some o→g.get? b=some o)→Q (.ref (s.heap.objs.size+1)) { s with heap:=g }) :
  wpAny (model prog w) A (call (.type "enumerate") [.ref tu]) Q E s:=by
 obtain ⟨⟨c,dct,dt,sl⟩,hl,hc,n,hd⟩:=hT
 have hc':c=.type "tuple":=hc
 have hd':dt=.seq vals n:=hd
 subst hc' hd'
 refine callType_new F.called_enumerate (by decide) (F.typeCall_enumerate_1 _) (F.newCall_enumerate_1 _) (fun ob=>F.args_object_init_2 ob _) F.entry_enumerate_new (m7 tu vals n dct sl) ⟨hl,?_⟩
 have sz1:(s.heap.push { cls:=.type "tuple_iterator",data:=.fields #[.ref tu,.int 0 0] }).objs.size=s.heap.objs.size+1:=Heap.size_push ..
 show _∧_
 rw [sz1]
 have g2:=Heap.get?_push_size (s.heap.push { cls:=.type "tuple_iterator",data:=.fields #[.ref tu,.int 0 0] }) (o:={ cls:=.type "enumerate",data:=.fields #[.none,.bool false,.ref s.heap.objs.size,rawInt 0,.none,.none] }) rfl
 rw [sz1] at g2
 refine ⟨⟨_,g2,rfl⟩,h _ g2 ⟨_,Heap.get?_push_of_some _ (Heap.get?_push_size _ rfl),rfl,rfl⟩ (by rw [Heap.size_push,sz1]) fun b o x=>Heap.get?_push_of_some _ (Heap.get?_push_of_some _ x)⟩
theorem uR {e it tu:Addr} {i:Int} {n:Nat} {vals:Array Value} {old:Value} {Q:Option Value→Shared→Prop} (hh:A.handled=none) (he:IsEnum s.heap e it i old) (a1:s.heap.IsTupleIter it tu n) (a2:s.heap.IsTuple tu vals) (a3:vals[n]?=none)
  (q:∀ g,Heap.ExtBut it s.heap g→Q none { s with heap:=g }):wpAny (model prog w) A (pyNext (.ref e)) Q E s:=by
 have ty:s.TypeIs (.ref e) "enumerate":=⟨_,he,rfl⟩
 unfold pyNext
 refine wpAny_bind (wpAny_attempt (wpAny_callSpecial?_slot (name:=Str.ofString "__next__") ty F.slot_enumerate_next (wpAny_call_entry F.slot_enumerate_next ty F.entry_enumerate_next ?_ (F.args_enumerate_next_1 _))))
 show wpAny _ _ (field (.ref e) 2 >>= _) _ _ _
 refine wpAny_bind (wpAny_field he rfl (x:=.ref it) rfl ?_)
 refine wpAny_bind (nB hh a1 a2 a3 fun g x k hx=>?_)
 obtain ⟨o,ho,hc⟩:=hx
 exact wpAny_bind (wpAny_isInstance (T:="StopIteration") (b:=true) ⟨o,ho,hc⟩ isSubtype_stop (wpAny_pure (q _ k)))
end
def ItT (K:PySem.W.Frag) (a:Addr):It :=
 ⟨fun i H=>∃ xs x,SqT K H a xs∧xs[i]?=some x,
  fun i H y H'=>∃ p x,y=.ref p∧H p=none∧H'=upd H p (.tup [.int i,x])∧∀ xs,SqT K H a xs→xs[i]?=some x,
  fun i H=>∃ xs,SqT K H a xs∧xs.length≤i⟩
theorem rH {P:Program} {w:World} {K:PySem.W.Frag} {elts:List Expr} {k:Nat} {tp:Pos} (a e it:Addr) (hei:e≠it) (hai:a≠it) :
  Turn P w K (.Tuple elts k tp) (ItT K a) [e,it] e (fun i h=>(∃ old,IsEnum h e it i old)∧h.IsTupleIter it a i) where
 mem:=by simp
 obj:=fun i h st b hb=>by
  obtain ⟨⟨old,he⟩,o,ho,hc,hd⟩:=st
  have hb':b=e∨b=it:=by simpa using hb
  rcases hb' with rfl | rfl
  ·exact ⟨_,he,fun v z=>by
    have z':Data.fields _=Data.cell v:=z
    cases z'⟩
  ·exact ⟨o,ho,fun v z=>by rw [hd] at z; cases z⟩
 keep:=fun i h h' st kp=>⟨let ⟨old,he⟩:=st.1; ⟨old,kp e (by simp) _ he⟩,st.2.at fun o q=>kp it (by simp) o q⟩
 item:=by
  intro X hP hw hK hc i pins s σ H E I hf st hg
  subst hP hw hK
  obtain ⟨xs,x,hq,hx⟩:=hg
  obtain ⟨its,rv,pt,hz⟩:=I.tuple hq
  obtain ⟨u,hu,ru⟩:=rv.get hx
  obtain ⟨⟨old,he⟩,hit⟩:=st
  have hT:s.heap.IsTuple a its.toArray:=pt
  have hea:e≠a:=fun z=>by
   subst z
   obtain ⟨o,e1,e2,_⟩:=id hT
   have he':s.heap.get? e=some _:=he
   rw [e1] at he'
   cases he'
   simp at e2
  have hu':its.toArray[i]?=some u:=by simpa using hu
  have hlt:i < its.toArray.size:=(Array.getElem?_eq_some_iff.mp hu').1
  refine wpAny_pyNext_enum_itemD (uS (A:=X.A.in1) (show X.A.in1.handled=none from I.ok.hd hc) it a hai its.toArray) he ⟨hit,hT⟩ hlt hei (by simp [hei,hea]) fun y h1 tk hy ho1 st1 ht1 hz1 hk1=>?_
  rw [hu'] at hy
  cases hy
  refine ⟨_,rfl,wpAny_letOwnedTupleGo_enum ho1 fun h2 he2 hs2=>?_⟩
  have eL:e < s.heap.objs.size:=Heap.lt_size he
  have ht2:h2.get? s.heap.objs.size=some { cls:=.type "tuple",data:=.seq #[.int i tk,u] }:=(hs2.2 _ (Nat.ne_of_gt eL)).trans ht1
  have hit2:h2.IsTupleIter it a (i+1):=st1.1.at fun o q=>hs2.extBut _ _ hei.symm q
  have I2:Inv X pins σ (upd H s.heap.objs.size (.tup [.int i,x])) { s with heap:=h2,toks:=tk+1 }:=by
   refine I.turnedLaid (fp:=[e,it]) hf (Nat.le_refl _) (fun b ob hb q=>?_) (fun b hb=>?_) ?_
   ·have h1:b≠e:=fun z=>hb (by simp [z])
    have h2':b≠it:=fun z=>hb (by simp [z])
    exact (hs2.2 b h1).trans (hk1 b ob h1 h2' q)
   ·have hb':b=e∨b=it:=by simpa using hb
    rcases hb' with rfl | rfl
    ·exact ⟨_,he2⟩
    ·obtain ⟨o,ho,_⟩:=hit2
     exact ⟨o,ho⟩
   ·refine ⟨(by show 2≤sizeLine; decide),[.int i tk,u],.cons ⟨_,rfl⟩ (.cons ru .nil),?_⟩
    exact ⟨_,ht2,rfl,_,rfl,rfl⟩
  have fr:∀ b∈[e,it],upd H s.heap.objs.size (.tup [.int i,x]) b=none:=fun b hb=>by
   have hlt:b < s.heap.objs.size:=by
    have hb':b=e∨b=it:=by simpa using hb
    rcases hb' with rfl | rfl
    ·exact eL
    ·obtain ⟨o,ho,_⟩:=hit
     exact Heap.lt_size ho
   rw [aM (Nat.ne_of_lt hlt)]
   exact (hf b hb).1
  exact ⟨.ref s.heap.objs.size,_,I2,rfl,⟨_,x,rfl,I.fresh,rfl,fun ys hy=>by rw [I.tuple_inj hy hq]; exact hx⟩,⟨⟨_,he2⟩,hit2⟩,fr⟩
 done:=by
  intro X hP hw hK hc i pins s σ H E I hf st hg
  subst hP hw hK
  obtain ⟨xs,hq,hx⟩:=hg
  obtain ⟨its,rv,pt,hz⟩:=I.tuple hq
  obtain ⟨⟨old,he⟩,hit⟩:=st
  obtain ⟨f0,f1,f2,f3,f4,f5⟩:=hf it (by simp)
  have hl:=rv.length
  have hT:s.heap.IsTuple a its.toArray:=pt
  exact uR (I.ok.hd hc) he hit hT (by simp; omega) fun h' eb=>⟨rfl,I.turned (t':=s.toks) (fun b o hb q=>eb b o hb q) f0 f1 f3 f4 f5⟩
 self:=fun _ _ _ _ _ st h=>let ⟨⟨_,he⟩,_⟩:=st; wpAny_pyIter_enum he h
section
variable {X:Cx} {K:PySem.W.Frag}
end
end L2
namespace L2
open PySem PySem.Spec PyProof.Rows
section
open PySem.SeqAt
end
end L2
namespace L2
open PySem PySem.Spec PyProof.Rows
def Rp (H:Hp) (v:V) (txt:Str):Prop:=(∃ d,DV H v d∧d.showable=true∧d.depth≤60∧d.shown.length≤sizeLine∧txt=d.shown)∨∃ a,v=.ref a∧H a=some (.dK [])∧txt=("{}" : Str)
section
variable {X:Cx}
end
end L2
namespace L2
open PySem PySem.Spec PyProof.Rows
abbrev D:=PyData
abbrev En:=List (Option D)
abbrev AS:=Addr→Prop
def dn:Nat→Nat
 | 0=>0
 | 1=>0
 | 2=>1
 | n+3=>n+3
theorem nh:∀ {a b:Nat},a≤b→dn a≤dn b
 | 0,_,_=>Nat.zero_le _
 | 1,_,_=>Nat.zero_le _
 | 2,2,_=>Nat.le_refl _
 | 2,b+3,_=>by show 1≤b+3; omega
 | a+3,b+3,h=>h
 | a+3,0,h=>by omega
 | a+3,1,h=>by omega
 | a+3,2,h=>by omega
 | 2,0,h=>by omega
 | 2,1,h=>by omega
def kD:Key→D
 | .inl i=>.int i
 | .inr x=>.str x
def FzL (K:PySem.W.Frag) (O:AS) (H:Hp) (a:Addr) (vs:List V):Prop:=(Rd H a (.lst vs)∧¬ O a)∨∀ H',SqL K H' a vs
def FzT (K:PySem.W.Frag) (O:AS) (H:Hp) (a:Addr) (vs:List V):Prop:=H a=some (.tup vs)∧¬ O a
theorem FzL.sq {K:PySem.W.Frag} {O:AS} {H:Hp} {a:Addr} {vs:List V} (h:FzL K O H a vs):SqL K H a vs:=h.elim (fun h=>.inl h.1) fun h=>h H
theorem FzT.sq {K:PySem.W.Frag} {O:AS} {H:Hp} {a:Addr} {vs:List V} (h:FzT K O H a vs):SqT K H a vs:=SqT.of h.1
def JF (H:Hp) (O:AS) (ks:List (D × D)) (a:Addr):Prop:=∃ (kk:List Key) (b:Bool),ks=[(.tuple (kk.map kD),.bool b)]∧H a=some (.dT [(kk,.bl b)])∧¬ O a
mutual
def Ow (K:PySem.W.Frag) (O:AS) (H:Hp):D→Nat→V→AS→Prop
 | .none,_,v,_=>v=.non
 | .bool b,_,v,_=>v=.bl b
 | .int i,_,v,_=>v=.int i
 | .str x,_,v,_=>v=.str x
 | .tuple ts,d,v,F=>∃ a vs,v=.ref a∧((d=0∧FzT K O H a vs∧Ows K O H ts 0 vs F)∨(d≠0∧H a=some (.tup vs)∧F a∧∃ F':AS,(∀ b,F' b→F b∧b≠a)∧Ows K O H ts (dn d) vs F'))
 | .list ts,d,v,F=>∃ a vs,v=.ref a∧((d=0∧FzL K O H a vs∧Ows K O H ts 0 vs F)∨(d≠0∧H a=some (.lst vs)∧F a∧∃ F':AS,(∀ b,F' b→F b∧b≠a)∧Ows K O H ts (dn d) vs F'))
 | .dict ks,d,v,F=>∃ a vs,v=.ref a∧((d=0∧H a=some (.dK vs)∧¬ O a∧Owd K O H ks 0 vs F)∨(d≠0∧H a=some (.dK vs)∧F a∧∃ F':AS,(∀ b,F' b→F b∧b≠a)∧Owd K O H ks (dn d) vs F')∨(d=0∧JF H O ks a))
def Ows (K:PySem.W.Frag) (O:AS) (H:Hp):List D→Nat→List V→AS→Prop
 | [],_,vs,_=>vs=[]
 | t :: ts,d,vs,F=>∃ v r,∃ F1 F2:AS,vs=v :: r∧(∀ b,F1 b→F b)∧(∀ b,F2 b→F b)∧(∀ b,F1 b→¬ F2 b)∧Ow K O H t d v F1∧Ows K O H ts d r F2
def Owd (K:PySem.W.Frag) (O:AS) (H:Hp):List (D × D)→Nat→List (Key × V)→AS→Prop
 | [],_,vs,_=>vs=[]
 | (k,t) :: ts,d,vs,F=>∃ q v r,∃ F1 F2:AS,vs=(q,v) :: r∧k=kD q∧(∀ b,F1 b→F b)∧(∀ b,F2 b→F b)∧(∀ b,F1 b→¬ F2 b)∧Ow K O H t d v F1∧Owd K O H ts d r F2
end
section
variable {K:PySem.W.Frag} {O O':AS} {H H':Hp}
theorem Rd.mv {a:Addr} {u:HO} (hk:∀ o,H a=some o→H' a=some o) (h:Rd H a u):Rd H' a u:=by
 rcases h with h | ⟨o,h⟩
 ·exact .inl (hk _ h)
 ·exact .inr ⟨o,hk _ h⟩
theorem Rd.there {a:Addr} {u:HO} (h:Rd H a u):H a≠none:=by
 rcases h with h | ⟨o,h⟩ <;> rw [h] <;> exact fun z=>nomatch z
structure Mv (O O':AS) (G:AS) (H H':Hp):Prop where
 k:∀ a o,H a=some o→(¬ O a∨G a)→H' a=some o
 o:∀ a,O' a→O a∨H a=none
theorem FzL.mv {G:AS} {a:Addr} {vs:List V} (m:Mv O O' G H H') (h:FzL K O H a vs):FzL K O' H' a vs:=by
 rcases h with ⟨h,n⟩ | h
 ·refine .inl ⟨h.mv fun o e=>m.k _ _ e (.inl n),fun z=>?_⟩
  rcases m.o _ z with z | z
  ·exact n z
  ·exact h.there z
 ·exact .inr h
theorem FzT.mv {G:AS} {a:Addr} {vs:List V} (m:Mv O O' G H H') (h:FzT K O H a vs):FzT K O' H' a vs:=by
 obtain ⟨h,n⟩:=h
 refine ⟨m.k _ _ h (.inl n),fun z=>?_⟩
 rcases m.o _ z with z | z
 ·exact n z
 ·rw [h] at z; cases z
mutual
theorem Ow.mv {G:AS} (m:Mv O O' G H H'):∀ (t:D) {d:Nat} {v:V} {F:AS},(∀ b,F b→G b)→Ow K O H t d v F→Ow K O' H' t d v F
 | .none,_,_,_,_,h=>h
 | .bool _,_,_,_,_,h=>h
 | .int _,_,_,_,_,h=>h
 | .str _,_,_,_,_,h=>h
 | .tuple ts,_,_,_,g,h=>by
  obtain ⟨a,vs,e,⟨h0,h1,h2⟩ | ⟨h0,h1,h2,F',hf,h3⟩⟩:=h
  ·exact ⟨a,vs,e,.inl ⟨h0,h1.mv m,Ows.mv m ts g h2⟩⟩
  ·exact ⟨a,vs,e,.inr ⟨h0,m.k _ _ h1 (.inr (g _ h2)),h2,F',hf,Ows.mv m ts (fun b hb=>g _ (hf b hb).1) h3⟩⟩
 | .list ts,_,_,_,g,h=>by
  obtain ⟨a,vs,e,⟨h0,h1,h2⟩ | ⟨h0,h1,h2,F',hf,h3⟩⟩:=h
  ·exact ⟨a,vs,e,.inl ⟨h0,h1.mv m,Ows.mv m ts g h2⟩⟩
  ·exact ⟨a,vs,e,.inr ⟨h0,m.k _ _ h1 (.inr (g _ h2)),h2,F',hf,Ows.mv m ts (fun b hb=>g _ (hf b hb).1) h3⟩⟩
 | .dict ks,_,_,_,g,h=>by
  obtain ⟨a,vs,e,⟨h0,h1,hn,h2⟩ | ⟨h0,h1,h2,F',hf,h3⟩ | ⟨h0,kk,b,h1,h2,hn⟩⟩:=h
  ·refine ⟨a,vs,e,.inl ⟨h0,m.k _ _ h1 (.inl hn),fun z=>?_,Owd.mv m ks g h2⟩⟩
   rcases m.o _ z with z | z
   ·exact hn z
   ·rw [h1] at z; cases z
  ·exact ⟨a,vs,e,.inr (.inl ⟨h0,m.k _ _ h1 (.inr (g _ h2)),h2,F',hf,Owd.mv m ks (fun b hb=>g _ (hf b hb).1) h3⟩)⟩
  ·refine ⟨a,vs,e,.inr (.inr ⟨h0,kk,b,h1,m.k _ _ h2 (.inl hn),fun z=>?_⟩)⟩
   rcases m.o _ z with z | z
   ·exact hn z
   ·rw [h2] at z; cases z
theorem Ows.mv {G:AS} (m:Mv O O' G H H'):∀ (ts:List D) {d:Nat} {vs:List V} {F:AS},(∀ b,F b→G b)→Ows K O H ts d vs F→Ows K O' H' ts d vs F
 | [],_,_,_,_,h=>h
 | t :: ts,_,_,_,g,h=>by
  obtain ⟨v,r,F1,F2,e,h1,h2,h3,h4,h5⟩:=h
  exact ⟨v,r,F1,F2,e,h1,h2,h3,Ow.mv m t (fun b hb=>g _ (h1 b hb)) h4,Ows.mv m ts (fun b hb=>g _ (h2 b hb)) h5⟩
theorem Owd.mv {G:AS} (m:Mv O O' G H H'):∀ (ts:List (D × D)) {d:Nat} {vs:List (Key × V)} {F:AS},(∀ b,F b→G b)→Owd K O H ts d vs F→Owd K O' H' ts d vs F
 | [],_,_,_,_,h=>h
 | (k,t) :: ts,_,_,_,g,h=>by
  obtain ⟨q,v,r,F1,F2,e,e2,h1,h2,h3,h4,h5⟩:=h
  exact ⟨q,v,r,F1,F2,e,e2,h1,h2,h3,Ow.mv m t (fun b hb=>g _ (h1 b hb)) h4,Owd.mv m ts (fun b hb=>g _ (h2 b hb)) h5⟩
end
theorem FzL.sub {a:Addr} {vs:List V} (ho:∀ a,O' a→O a) (h:FzL K O H a vs):FzL K O' H a vs:=h.imp (fun h=>⟨h.1,fun z=>h.2 (ho _ z)⟩) id
theorem FzT.sub {a:Addr} {vs:List V} (ho:∀ a,O' a→O a) (h:FzT K O H a vs):FzT K O' H a vs:=⟨h.1,fun z=>h.2 (ho _ z)⟩
mutual
theorem Ow.cut:∀ (t:D) {d d':Nat} {v:V} {F:AS},d'≤d→Ow K O H t d v F→∃ F':AS,(∀ b,F' b→F b)∧∀ O':AS,(∀ a,O' a→O a)→(∀ a,F a→O' a→F' a)→Ow K O' H t d' v F'
 | .none,_,_,_,F,_,h=>⟨F,fun _ z=>z,fun _ _ _=>h⟩
 | .bool _,_,_,_,F,_,h=>⟨F,fun _ z=>z,fun _ _ _=>h⟩
 | .int _,_,_,_,F,_,h=>⟨F,fun _ z=>z,fun _ _ _=>h⟩
 | .str _,_,_,_,F,_,h=>⟨F,fun _ z=>z,fun _ _ _=>h⟩
 | .tuple ts,d,d',_,F,hd,h=>by
  obtain ⟨a,vs,e,⟨h0,h1,h2⟩ | ⟨h0,h1,h2,G,hg,h3⟩⟩:=h
  ·subst h0
   have e0:d'=0:=by omega
   subst e0
   obtain ⟨F',s1,s2⟩:=Ows.cut ts (Nat.le_refl _) h2
   exact ⟨F',s1,fun O' ho hx=>⟨a,vs,e,.inl ⟨rfl,h1.sub ho,s2 O' ho hx⟩⟩⟩
  ·by_cases e0:d'=0
   ·subst e0
    obtain ⟨F',s1,s2⟩:=Ows.cut ts (Nat.zero_le _) h3
    refine ⟨F',fun b hb=>(hg _ (s1 b hb)).1,fun O' ho hx=>⟨a,vs,e,.inl ⟨rfl,⟨h1,fun z=>(hg _ (s1 _ (hx _ h2 z))).2 rfl⟩,s2 O' ho fun b hb=>hx b (hg b hb).1⟩⟩⟩
   ·obtain ⟨F',s1,s2⟩:=Ows.cut ts (nh hd) h3
    refine ⟨fun b=>b=a∨F' b,fun b hb=>hb.elim (fun z=>z ▸ h2) fun z=>(hg _ (s1 b z)).1,fun O' ho hx=>⟨a,vs,e,.inr ⟨e0,h1,.inl rfl,F',fun b hb=>⟨.inr hb,(hg _ (s1 b hb)).2⟩,s2 O' ho fun b hb hz=>?_⟩⟩⟩
    exact (hx b (hg b hb).1 hz).elim (fun z=>absurd z (hg b hb).2) id
 | .list ts,d,d',_,F,hd,h=>by
  obtain ⟨a,vs,e,⟨h0,h1,h2⟩ | ⟨h0,h1,h2,G,hg,h3⟩⟩:=h
  ·subst h0
   have e0:d'=0:=by omega
   subst e0
   obtain ⟨F',s1,s2⟩:=Ows.cut ts (Nat.le_refl _) h2
   exact ⟨F',s1,fun O' ho hx=>⟨a,vs,e,.inl ⟨rfl,h1.sub ho,s2 O' ho hx⟩⟩⟩
  ·by_cases e0:d'=0
   ·subst e0
    obtain ⟨F',s1,s2⟩:=Ows.cut ts (Nat.zero_le _) h3
    refine ⟨F',fun b hb=>(hg _ (s1 b hb)).1,fun O' ho hx=>⟨a,vs,e,.inl ⟨rfl,.inl ⟨.inl h1,fun z=>(hg _ (s1 _ (hx _ h2 z))).2 rfl⟩,s2 O' ho fun b hb=>hx b (hg b hb).1⟩⟩⟩
   ·obtain ⟨F',s1,s2⟩:=Ows.cut ts (nh hd) h3
    refine ⟨fun b=>b=a∨F' b,fun b hb=>hb.elim (fun z=>z ▸ h2) fun z=>(hg _ (s1 b z)).1,fun O' ho hx=>⟨a,vs,e,.inr ⟨e0,h1,.inl rfl,F',fun b hb=>⟨.inr hb,(hg _ (s1 b hb)).2⟩,s2 O' ho fun b hb hz=>?_⟩⟩⟩
    exact (hx b (hg b hb).1 hz).elim (fun z=>absurd z (hg b hb).2) id
 | .dict ts,d,d',_,F,hd,h=>by
  obtain ⟨a,vs,e,⟨h0,h1,hn,h2⟩ | ⟨h0,h1,h2,G,hg,h3⟩ | ⟨h0,kk,b,h1,h2,hn⟩⟩:=h
  ·subst h0
   have e0:d'=0:=by omega
   subst e0
   obtain ⟨F',s1,s2⟩:=Owd.cut ts (Nat.le_refl _) h2
   exact ⟨F',s1,fun O' ho hx=>⟨a,vs,e,.inl ⟨rfl,h1,fun z=>hn (ho _ z),s2 O' ho hx⟩⟩⟩
  ·by_cases e0:d'=0
   ·subst e0
    obtain ⟨F',s1,s2⟩:=Owd.cut ts (Nat.zero_le _) h3
    refine ⟨F',fun b hb=>(hg _ (s1 b hb)).1,fun O' ho hx=>⟨a,vs,e,.inl ⟨rfl,h1,fun z=>(hg _ (s1 _ (hx _ h2 z))).2 rfl,s2 O' ho fun b hb=>hx b (hg b hb).1⟩⟩⟩
   ·obtain ⟨F',s1,s2⟩:=Owd.cut ts (nh hd) h3
    refine ⟨fun b=>b=a∨F' b,fun b hb=>hb.elim (fun z=>z ▸ h2) fun z=>(hg _ (s1 b z)).1,fun O' ho hx=>⟨a,vs,e,.inr (.inl ⟨e0,h1,.inl rfl,F',fun b hb=>⟨.inr hb,(hg _ (s1 b hb)).2⟩,s2 O' ho fun b hb hz=>?_⟩)⟩⟩
    exact (hx b (hg b hb).1 hz).elim (fun z=>absurd z (hg b hb).2) id
  ·subst h0
   have e0:d'=0:=by omega
   subst e0
   exact ⟨F,fun _ z=>z,fun O' ho hx=>⟨a,vs,e,.inr (.inr ⟨rfl,kk,b,h1,h2,fun z=>hn (ho _ z)⟩)⟩⟩
theorem Ows.cut:∀ (ts:List D) {d d':Nat} {vs:List V} {F:AS},d'≤d→Ows K O H ts d vs F→∃ F':AS,(∀ b,F' b→F b)∧∀ O':AS,(∀ a,O' a→O a)→(∀ a,F a→O' a→F' a)→Ows K O' H ts d' vs F'
 | [],_,_,_,F,_,h=>⟨F,fun _ z=>z,fun _ _ _=>h⟩
 | t :: ts,_,_,_,F,hd,h=>by
  obtain ⟨v,r,F1,F2,e,h1,h2,h3,h4,h5⟩:=h
  obtain ⟨G1,a1,a2⟩:=Ow.cut t hd h4
  obtain ⟨G2,b1,b2⟩:=Ows.cut ts hd h5
  refine ⟨fun b=>G1 b∨G2 b,fun b hb=>hb.elim (fun z=>h1 _ (a1 _ z)) fun z=>h2 _ (b1 _ z),fun O' ho hx=>⟨v,r,G1,G2,e,fun b=>.inl,fun b=>.inr,fun b z1 z2=>h3 b (a1 b z1) (b1 b z2),a2 O' ho fun b hb hz=>?_,b2 O' ho fun b hb hz=>?_⟩⟩
  ·exact (hx b (h1 b hb) hz).elim id fun z=>absurd (b1 b z) (h3 b hb)
  ·exact (hx b (h2 b hb) hz).elim (fun z=>absurd hb (h3 b (a1 b z))) id
theorem Owd.cut:∀ (ts:List (D × D)) {d d':Nat} {vs:List (Key × V)} {F:AS},d'≤d→Owd K O H ts d vs F→∃ F':AS,(∀ b,F' b→F b)∧∀ O':AS,(∀ a,O' a→O a)→(∀ a,F a→O' a→F' a)→Owd K O' H ts d' vs F'
 | [],_,_,_,F,_,h=>⟨F,fun _ z=>z,fun _ _ _=>h⟩
 | (k,t) :: ts,_,_,_,F,hd,h=>by
  obtain ⟨q,v,r,F1,F2,e,e2,h1,h2,h3,h4,h5⟩:=h
  obtain ⟨G1,a1,a2⟩:=Ow.cut t hd h4
  obtain ⟨G2,b1,b2⟩:=Owd.cut ts hd h5
  refine ⟨fun b=>G1 b∨G2 b,fun b hb=>hb.elim (fun z=>h1 _ (a1 _ z)) fun z=>h2 _ (b1 _ z),fun O' ho hx=>⟨q,v,r,G1,G2,e,e2,fun b=>.inl,fun b=>.inr,fun b z1 z2=>h3 b (a1 b z1) (b1 b z2),a2 O' ho fun b hb hz=>?_,b2 O' ho fun b hb hz=>?_⟩⟩
  ·exact (hx b (h1 b hb) hz).elim id fun z=>absurd (b1 b z) (h3 b hb)
  ·exact (hx b (h2 b hb) hz).elim (fun z=>absurd hb (h3 b (a1 b z))) id
end
mutual
theorem Ow.grow (ho:∀ a,O' a→O a):∀ (t:D) {d:Nat} {v:V} {F F':AS},(∀ b,F b→F' b)→Ow K O H t d v F→Ow K O' H t d v F'
 | .none,_,_,_,_,_,h=>h
 | .bool _,_,_,_,_,_,h=>h
 | .int _,_,_,_,_,_,h=>h
 | .str _,_,_,_,_,_,h=>h
 | .tuple ts,_,_,_,_,hf,h=>by
  obtain ⟨a,vs,e,⟨h0,h1,h2⟩ | ⟨h0,h1,h2,G,hg,h3⟩⟩:=h
  ·exact ⟨a,vs,e,.inl ⟨h0,h1.sub ho,Ows.grow ho ts hf h2⟩⟩
  ·exact ⟨a,vs,e,.inr ⟨h0,h1,hf _ h2,G,fun b hb=>⟨hf _ (hg b hb).1,(hg b hb).2⟩,Ows.grow ho ts (fun _ z=>z) h3⟩⟩
 | .list ts,_,_,_,_,hf,h=>by
  obtain ⟨a,vs,e,⟨h0,h1,h2⟩ | ⟨h0,h1,h2,G,hg,h3⟩⟩:=h
  ·exact ⟨a,vs,e,.inl ⟨h0,h1.sub ho,Ows.grow ho ts hf h2⟩⟩
  ·exact ⟨a,vs,e,.inr ⟨h0,h1,hf _ h2,G,fun b hb=>⟨hf _ (hg b hb).1,(hg b hb).2⟩,Ows.grow ho ts (fun _ z=>z) h3⟩⟩
 | .dict ts,_,_,_,_,hf,h=>by
  obtain ⟨a,vs,e,⟨h0,h1,hn,h2⟩ | ⟨h0,h1,h2,G,hg,h3⟩ | ⟨h0,kk,b,h1,h2,hn⟩⟩:=h
  ·exact ⟨a,vs,e,.inl ⟨h0,h1,fun z=>hn (ho _ z),Owd.grow ho ts hf h2⟩⟩
  ·exact ⟨a,vs,e,.inr (.inl ⟨h0,h1,hf _ h2,G,fun b hb=>⟨hf _ (hg b hb).1,(hg b hb).2⟩,Owd.grow ho ts (fun _ z=>z) h3⟩)⟩
  ·exact ⟨a,vs,e,.inr (.inr ⟨h0,kk,b,h1,h2,fun z=>hn (ho _ z)⟩)⟩
theorem Ows.grow (ho:∀ a,O' a→O a):∀ (ts:List D) {d:Nat} {vs:List V} {F F':AS},(∀ b,F b→F' b)→Ows K O H ts d vs F→Ows K O' H ts d vs F'
 | [],_,_,_,_,_,h=>h
 | t :: ts,_,_,_,_,hf,h=>by
  obtain ⟨v,r,F1,F2,e,h1,h2,h3,h4,h5⟩:=h
  exact ⟨v,r,F1,F2,e,fun b z=>hf _ (h1 b z),fun b z=>hf _ (h2 b z),h3,Ow.grow ho t (fun _ z=>z) h4,Ows.grow ho ts (fun _ z=>z) h5⟩
theorem Owd.grow (ho:∀ a,O' a→O a):∀ (ts:List (D × D)) {d:Nat} {vs:List (Key × V)} {F F':AS},(∀ b,F b→F' b)→Owd K O H ts d vs F→Owd K O' H ts d vs F'
 | [],_,_,_,_,_,h=>h
 | (k,t) :: ts,_,_,_,_,hf,h=>by
  obtain ⟨q,v,r,F1,F2,e,e2,h1,h2,h3,h4,h5⟩:=h
  exact ⟨q,v,r,F1,F2,e,e2,fun b z=>hf _ (h1 b z),fun b z=>hf _ (h2 b z),h3,Ow.grow ho t (fun _ z=>z) h4,Owd.grow ho ts (fun _ z=>z) h5⟩
end
mutual
theorem Ow.full:∀ (t:D) {d:Nat} {v:V} {F:AS},Ow K O H t (d+3) v F→Ow K O' H t (d+3) v F
 | .none,_,_,_,h=>h
 | .bool _,_,_,_,h=>h
 | .int _,_,_,_,h=>h
 | .str _,_,_,_,h=>h
 | .tuple ts,_,_,_,h=>by
  obtain ⟨a,vs,e,⟨h0,h1,h2⟩ | ⟨h0,h1,h2,G,hg,h3⟩⟩:=h
  ·cases h0
  ·exact ⟨a,vs,e,.inr ⟨h0,h1,h2,G,hg,Ows.full ts h3⟩⟩
 | .list ts,_,_,_,h=>by
  obtain ⟨a,vs,e,⟨h0,h1,h2⟩ | ⟨h0,h1,h2,G,hg,h3⟩⟩:=h
  ·cases h0
  ·exact ⟨a,vs,e,.inr ⟨h0,h1,h2,G,hg,Ows.full ts h3⟩⟩
 | .dict ts,_,_,_,h=>by
  obtain ⟨a,vs,e,⟨h0,h1,hn,h2⟩ | ⟨h0,h1,h2,G,hg,h3⟩ | ⟨h0,_⟩⟩:=h
  ·cases h0
  ·exact ⟨a,vs,e,.inr (.inl ⟨h0,h1,h2,G,hg,Owd.full ts h3⟩)⟩
  ·cases h0
theorem Ows.full:∀ (ts:List D) {d:Nat} {vs:List V} {F:AS},Ows K O H ts (d+3) vs F→Ows K O' H ts (d+3) vs F
 | [],_,_,_,h=>h
 | t :: ts,_,_,_,h=>by
  obtain ⟨v,r,F1,F2,e,h1,h2,h3,h4,h5⟩:=h
  exact ⟨v,r,F1,F2,e,h1,h2,h3,Ow.full t h4,Ows.full ts h5⟩
theorem Owd.full:∀ (ts:List (D × D)) {d:Nat} {vs:List (Key × V)} {F:AS},Owd K O H ts (d+3) vs F→Owd K O' H ts (d+3) vs F
 | [],_,_,_,h=>h
 | (k,t) :: ts,_,_,_,h=>by
  obtain ⟨q,v,r,F1,F2,e,e2,h1,h2,h3,h4,h5⟩:=h
  exact ⟨q,v,r,F1,F2,e,e2,h1,h2,h3,Ow.full t h4,Owd.full ts h5⟩
end
mutual
theorem Ow.any0:∀ (t:D) {v:V} {F F':AS},Ow K O H t 0 v F→Ow K O H t 0 v F'
 | .none,_,_,_,h=>h
 | .bool _,_,_,_,h=>h
 | .int _,_,_,_,h=>h
 | .str _,_,_,_,h=>h
 | .tuple ts,_,_,_,h=>by
  obtain ⟨a,vs,e,⟨h0,h1,h2⟩ | ⟨h0,_⟩⟩:=h
  ·exact ⟨a,vs,e,.inl ⟨rfl,h1,Ows.any0 ts h2⟩⟩
  ·exact absurd rfl h0
 | .list ts,_,_,_,h=>by
  obtain ⟨a,vs,e,⟨h0,h1,h2⟩ | ⟨h0,_⟩⟩:=h
  ·exact ⟨a,vs,e,.inl ⟨rfl,h1,Ows.any0 ts h2⟩⟩
  ·exact absurd rfl h0
 | .dict ts,_,_,_,h=>by
  obtain ⟨a,vs,e,⟨h0,h1,hn,h2⟩ | ⟨h0,_⟩ | ⟨_,kk,b,h1,h2,hn⟩⟩:=h
  ·exact ⟨a,vs,e,.inl ⟨rfl,h1,hn,Owd.any0 ts h2⟩⟩
  ·exact absurd rfl h0
  ·exact ⟨a,vs,e,.inr (.inr ⟨rfl,kk,b,h1,h2,hn⟩)⟩
theorem Ows.any0:∀ (ts:List D) {vs:List V} {F F':AS},Ows K O H ts 0 vs F→Ows K O H ts 0 vs F'
 | [],_,_,_,h=>h
 | t :: ts,_,_,_,h=>by
  obtain ⟨v,r,F1,F2,e,_,_,_,h4,h5⟩:=h
  exact ⟨v,r,fun _=>False,fun _=>False,e,fun _ z=>z.elim,fun _ z=>z.elim,fun _ z=>z.elim,Ow.any0 t h4,Ows.any0 ts h5⟩
theorem Owd.any0:∀ (ts:List (D × D)) {vs:List (Key × V)} {F F':AS},Owd K O H ts 0 vs F→Owd K O H ts 0 vs F'
 | [],_,_,_,h=>h
 | (k,t) :: ts,_,_,_,h=>by
  obtain ⟨q,v,r,F1,F2,e,e2,_,_,_,h4,h5⟩:=h
  exact ⟨q,v,r,fun _=>False,fun _=>False,e,e2,fun _ z=>z.elim,fun _ z=>z.elim,fun _ z=>z.elim,Ow.any0 t h4,Owd.any0 ts h5⟩
end
theorem Ow.fz {t:D} {d:Nat} {v:V} {F F2:AS} (ho:∀ a,O' a→O a) (hn:∀ a,F a→¬ O' a) (h:Ow K O H t d v F):Ow K O' H t 0 v F2:=by
 obtain ⟨F',s1,s2⟩:=Ow.cut t (Nat.zero_le d) h
 exact Ow.any0 t (s2 O' ho fun a z1 z2=>absurd z2 (hn a z1))
end
def U (A B:AS):AS:=fun a=>A a∨B a
def Own (R:Nat→AS) (Ox:AS):AS:=fun a=>(∃ i,R i a)∨Ox a
theorem eo {A B:AS} (h:∀ a,A a↔B a):A=B:=funext fun a=>propext (h a)
structure EnvOk (K:PySem.W.Frag) (ds:List Nat) (Ox:AS) (H:Hp) (σ:St) (en:En) (R:Nat→AS):Prop where
 at_:∀ (i:Nat) (t:D),en[i]?=some (some t)→∃ v d,σ[i]?=some (some v)∧ds[i]?=some d∧Ow K (Own R Ox) H t d v (R i)
 dj:∀ i j a,R i a→R j a→i=j
 dx:∀ i a,R i a→¬ Ox a
 dom:∀ a,Own R Ox a→∃ o,H a=some o
 l1:en.length=σ.length
 l2:ds.length=σ.length
structure Post (K:PySem.W.Frag) (p:Bool) (ds':List Nat) (Ox:AS) (σ:St) (H:Hp) (en:En) (R:Nat→AS) (en':En) (H':Hp) (R':Nat→AS) (F:AS):Prop where
 env:EnvOk K ds' (U F Ox) H' σ en' R'
 fx:∀ a,F a→¬ Ox a
 keep:∀ a o,H a=some o→(∀ i,¬ R i a)→H' a=some o
 own:∀ a,(F a∨∃ i,R' i a)→(∃ i,R i a)∨H a=none
 dom:∀ a o,H a=some o→∃ o',H' a=some o'
 pure:p=true→en'=en∧R'=R∧∀ a o,H a=some o→H' a=some o
section
variable {K:PySem.W.Frag} {p p1 p2:Bool} {ds ds1 ds2 ds':List Nat} {Ox Ox':AS} {H H':Hp} {σ:St} {en en' en1 en2:En} {R R':Nat→AS} {d d1 d2:Nat} {t1 t2:D}
theorem EnvOk.grow (e:EnvOk K ds Ox H σ en R) (hk:∀ a o,H a=some o→H' a=some o) {F:AS} (hf:∀ a,F a→H a=none∧∃ o,H' a=some o):EnvOk K ds (U F Ox) H' σ en R:=by
 have fo:∀ a,F a→¬ Own R Ox a:=fun a z z2=>by
  obtain ⟨o,q⟩:=e.dom a z2
  rw [(hf a z).1] at q
  cases q
 refine ⟨fun i t h=>?_,e.dj,fun i a h z=>?_,fun a h=>?_,e.l1,e.l2⟩
 ·obtain ⟨v,d,h1,h2,h3⟩:=e.at_ i t h
  refine ⟨v,d,h1,h2,Ow.mv (G:=R i) ⟨fun a o q _=>hk a o q,fun a z=>?_⟩ t (fun _ z=>z) h3⟩
  rcases z with z | z | z
  ·exact .inl (.inl z)
  ·exact .inr (hf a z).1
  ·exact .inl (.inr z)
 ·rcases z with z | z
  ·exact fo a z (.inl ⟨i,h⟩)
  ·exact e.dx i a h z
 ·rcases h with h | h | h
  ·obtain ⟨o,q⟩:=e.dom a (.inl h)
   exact ⟨o,hk a o q⟩
  ·exact (hf a h).2
  ·obtain ⟨o,q⟩:=e.dom a (.inr h)
   exact ⟨o,hk a o q⟩
theorem EnvOk.fewer (e:EnvOk K ds Ox H σ en R) (h:∀ a,Ox' a→Ox a):EnvOk K ds Ox' H σ en R:=by
 refine ⟨fun i t q=>?_,e.dj,fun i a z1 z2=>e.dx i a z1 (h a z2),fun a z=>e.dom a (z.imp id (h a)),e.l1,e.l2⟩
 obtain ⟨v,d,h1,h2,h3⟩:=e.at_ i t q
 exact ⟨v,d,h1,h2,Ow.grow (fun a z=>z.imp id (h a)) t (fun _ z=>z) h3⟩
def tF (K:PySem.W.Frag) (p:Bool) (ds ds':List Nat) (d:Nat) (f:En→Option (D × En)):TE:=fun σ H Q =>
 ∃ Ox en R t en',EnvOk K ds Ox H σ en R∧f en=some (t,en')∧∀ v H' R' F,Post K p ds' Ox σ H en R en' H' R' F→Ow K (Own R' (U F Ox)) H' t d v F→Q v H'
theorem Post.refl (e:EnvOk K ds Ox H σ en R):Post K p ds Ox σ H en R en H R (fun _=>False):=by
 have eq:U (fun _=>False) Ox=Ox:=eo fun a=>⟨fun z=>z.elim (fun z=>z.elim) id,.inr⟩
 exact ⟨eq.symm ▸ e,fun _ z=>z.elim,fun _ _ q _=>q,fun a z=>z.elim (fun z=>z.elim) .inl,fun a o q=>⟨o,q⟩,fun _=>⟨rfl,rfl,fun _ _ q=>q⟩⟩
theorem Post.new (e:EnvOk K ds Ox H σ en R) (hk:∀ a o,H a=some o→H' a=some o) {F:AS} (hf:∀ a,F a→H a=none∧∃ o,H' a=some o):Post K p ds Ox σ H en R en H' R F:=by
 refine ⟨e.grow hk hf,fun a z z2=>?_,fun a o q _=>hk a o q,fun a z=>z.elim (fun z=>.inr (hf a z).1) .inl,fun a o q=>⟨o,hk a o q⟩,fun _=>⟨rfl,rfl,hk⟩⟩
 obtain ⟨o,q⟩:=e.dom a (.inr z2)
 rw [(hf a z).1] at q
 cases q
theorem Post.trans {H1 H2:Hp} {R1 R2:Nat→AS} {F1 F2:AS} (P1:Post K p1 ds1 Ox σ H en R en1 H1 R1 F1) (P2:Post K p2 ds2 (U F1 Ox) σ H1 en1 R1 en2 H2 R2 F2) :
  Post K (p1 && p2) ds2 Ox σ H en R en2 H2 R2 (U F1 F2):=by
 have eq:U F2 (U F1 Ox)=U (U F1 F2) Ox:=eo fun a=>by unfold U; exact ⟨fun z=>by rcases z with z | z | z; exact .inl (.inr z); exact .inl (.inl z); exact .inr z,fun z=>by rcases z with (z | z) | z; exact .inr (.inl z); exact .inl z; exact .inr (.inr z)⟩
 have n1:∀ a,H1 a=none→H a=none:=fun a z=>by
  cases q:H a with
  | none=>rfl
  | some o =>
   obtain ⟨o',q'⟩:=P1.dom a o q
   rw [z] at q'
   cases q'
 refine ⟨eq ▸ P2.env,fun a z z2=>?_,fun a o q n=>?_,fun a z=>?_,fun a o q=>?_,fun hp=>?_⟩
 ·rcases z with z | z
  ·exact P1.fx a z z2
  ·exact P2.fx a z (.inr z2)
 ·refine P2.keep a o (P1.keep a o q n) fun i z=>?_
  rcases P1.own a (.inr ⟨i,z⟩) with ⟨j,z⟩ | z
  ·exact n j z
  ·rw [q] at z; cases z
 ·rcases z with (z | z) | z
  ·exact P1.own a (.inl z)
  ·rcases P2.own a (.inl z) with z | z
   ·exact P1.own a (.inr z)
   ·exact .inr (n1 a z)
  ·rcases P2.own a (.inr z) with z | z
   ·exact P1.own a (.inr z)
   ·exact .inr (n1 a z)
 ·obtain ⟨o',q'⟩:=P1.dom a o q
  exact P2.dom a o' q'
 ·have h1:p1=true:=by cases p1 <;> simp_all
  have h2:p2=true:=by cases p2 <;> simp_all
  obtain ⟨a1,a2,a3⟩:=P1.pure h1
  obtain ⟨b1,b2,b3⟩:=P2.pure h2
  exact ⟨b1.trans a1,b2.trans a2,fun a o q=>b3 a o (a3 a o q)⟩
theorem Ow.over {H1 H2:Hp} {R1 R2:Nat→AS} {F1 F2:AS} {t:D} {v:V} (P1:EnvOk K ds1 (U F1 Ox) H1 σ en1 R1) (P2:Post K p2 ds2 (U F1 Ox) σ H1 en1 R1 en2 H2 R2 F2) (h:Ow K (Own R1 (U F1 Ox)) H1 t d v F1) :
  Ow K (Own R2 (U (U F1 F2) Ox)) H2 t d v F1:=by
 refine Ow.mv (G:=F1) ⟨fun a o q z=>P2.keep a o q fun i zi=>?_,fun a z=>?_⟩ t (fun _ z=>z) h
 ·rcases z with z | z
  ·exact z (.inl ⟨i,zi⟩)
  ·exact P1.dx i a zi (.inl z)
 ·rcases z with z | (z | z) | z
  ·rcases P2.own a (.inr z) with z | z
   ·exact .inl (.inl z)
   ·exact .inr z
  ·exact .inl (.inr (.inl z))
  ·rcases P2.own a (.inl z) with z | z
   ·exact .inl (.inl z)
   ·exact .inr z
  ·exact .inl (.inr (.inr z))
theorem mL {F1 F2:AS}:U F2 (U F1 Ox)=U (U F1 F2) Ox:=eo fun a=>by unfold U; exact ⟨fun z=>by rcases z with z | z | z; exact .inl (.inr z); exact .inl (.inl z); exact .inr z,fun z=>by rcases z with (z | z) | z; exact .inr (.inl z); exact .inl z; exact .inr (.inr z)⟩
theorem two {f g:En→Option (D × En)} {Q:V→V→Hp→Prop} (e:EnvOk K ds Ox H σ en R) (h1:f en=some (t1,en1)) (h2:g en1=some (t2,en2))
  (k:∀ x y H2 R2 F1 F2,Post K (p1 && p2) ds2 Ox σ H en R en2 H2 R2 (U F1 F2)→Ow K (Own R2 (U (U F1 F2) Ox)) H2 t1 d1 x F1→Ow K (Own R2 (U (U F1 F2) Ox)) H2 t2 d2 y F2→Q x y H2) :
  tF K p1 ds ds1 d1 f σ H fun x H1=>tF K p2 ds1 ds2 d2 g σ H1 fun y H2=>Q x y H2:=by
 refine ⟨Ox,en,R,t1,en1,e,h1,fun x H1 R1 F1 P1 o1=>?_⟩
 refine ⟨U F1 Ox,en1,R1,t2,en2,P1.env,h2,fun y H2 R2 F2 P2 o2=>?_⟩
 exact k x y H2 R2 F1 F2 (P1.trans P2) (Ow.over P1.env P2 o1) (mL ▸ o2)
end
end L2
namespace L2
open PySem PySem.Spec PyProof.Rows
abbrev ME:=En→Option (D × En)
abbrev MT:=En→Option (Bool × En)
abbrev MA:=En→Option (List (D ⊕ Nat) × En)
def ad (i:Nat):ME:=fun en=>(en[i]?).join.map fun t=>(t,en)
def eMv (i:Nat):ME:=fun en=>(en[i]?).join.map fun t=>(t,en.set i none)
def eC (t:D):ME:=fun en=>some (t,en)
def e1 (g:D→Option D) (f:ME):ME:=fun en=>(f en).bind fun r=>(g r.1).map fun t=>(t,r.2)
def e2 (g:D→D→Option D) (f1 f2:ME):ME:=fun en=>(f1 en).bind fun r=>(f2 r.2).bind fun q=>(g r.1 q.1).map fun t=>(t,q.2)
def kq (f g:ME):ME:=fun en=>(f en).bind fun r=>match r.1 with
 | .bool true=>g r.2
 | .bool false=>some (.bool false,r.2)
 | _=>none
def eOr (f g:ME):ME:=fun en=>(f en).bind fun r=>match r.1 with
 | .bool true=>some (.bool true,r.2)
 | .bool false=>g r.2
 | _=>none
def nc (f:ME):ME:=fun en=>(f en).bind fun r=>match r.1 with
 | .bool b=>some (.bool (!b),r.2)
 | _=>none
def eIf (c:MT) (f g:ME):ME:=fun en=>(c en).bind fun r=>if r.1 then f r.2 else g r.2
def tV (f:ME):MT:=fun en=>(f en).bind fun r=>match r.1 with
 | .bool b=>some (b,r.2)
 | _=>none
def cD (f g:MT):MT:=fun en=>(f en).bind fun r=>if r.1 then g r.2 else some (false,r.2)
def bOr (f g:MT):MT:=fun en=>(f en).bind fun r=>if r.1 then some (true,r.2) else g r.2
def e9 (f:MT):MT:=fun en=>(f en).map fun r=>(!r.1,r.2)
def ai:MA:=fun en=>some ([],en)
def ae (f:ME) (r:MA):MA:=fun en=>(f en).bind fun x=>(r x.2).map fun y=>(.inl x.1 :: y.1,y.2)
def aG (i:Nat) (r:MA):MA:=fun en=>(en[i]?).join.bind fun _=>(r en).map fun y=>(.inr i :: y.1,y.2)
def vals:List (D ⊕ Nat)→Option (List D)
 | []=>some []
 | .inl t :: r=>(vals r).map (t :: ·)
 | .inr _ :: _=>none
def eN (g:List D→Option D) (fa:MA):ME:=fun en=>(fa en).bind fun r=>(vals r.1).bind fun ts=>(g ts).map fun t=>(t,r.2)
def NewTo (H H':Hp) (F:AS):Prop:=(∀ a o,H a=some o→H' a=some o)∧∀ a,F a→H a=none∧∃ o,H' a=some o
def NoA:AS:=fun _=>False
theorem gk {A:AS}:U NoA A=A:=eo fun a=>⟨fun z=>z.elim (fun z=>z.elim) id,.inr⟩
def rF1 (K:PySem.W.Frag) (g:D→Option D) (d:Nat):V→Hp→VK→Prop:=fun x H Q=>∃ (O:AS) (a t:D),Ow K O H a 0 x NoA∧(∀ a,O a→∃ o,H a=some o)∧g a=some t∧∀ v H' F,NewTo H H' F→Ow K (U F O) H' t d v F→Q v H'
def rF2 (K:PySem.W.Frag) (g:D→D→Option D) (d:Nat):R2:=fun x y H Q=>∃ (O:AS) (a b t:D),Ow K O H a 0 x NoA∧Ow K O H b 0 y NoA∧(∀ a,O a→∃ o,H a=some o)∧g a b=some t∧∀ v H' F,NewTo H H' F→Ow K (U F O) H' t d v F→Q v H'
def rFn (K:PySem.W.Frag) (g:List D→Option D) (d:Nat):List V→Hp→VK→Prop:=fun xs H Q=>∃ (O:AS) (ts:List D) (t:D),Ows K O H ts 0 xs NoA∧(∀ a,O a→∃ o,H a=some o)∧g ts=some t∧∀ v H' F,NewTo H H' F→Ow K (U F O) H' t d v F→Q v H'
section
variable {K:PySem.W.Frag} {p p1 p2:Bool} {ds ds0 ds1 ds2 ds':List Nat} {Ox Ox':AS} {H H':Hp} {σ:St} {en en' en1 en2:En} {R R':Nat→AS} {d d' d1 d2:Nat} {t t1 t2:D} {Q:VK} {f f1 f2 fa fb:ME}
theorem mM {F:AS}:U F (Own R Ox)=Own R (U F Ox):=eo fun a=>by
 unfold U Own
 exact ⟨fun z=>by rcases z with z | z | z; exact .inr (.inl z); exact .inl z; exact .inr (.inr z),fun z=>by rcases z with z | z | z; exact .inr (.inl z); exact .inl z; exact .inr (.inr z)⟩
theorem Post.fin {H1:Hp} {F0 F:AS} (P:Post K p ds' Ox σ H en R en' H1 R' F0) (n:NewTo H1 H' F):Post K p ds' Ox σ H en R en' H' R' F:=by
 have e:=P.env.fewer (Ox':=Ox) fun a z=>.inr z
 have n1:∀ a,H1 a=none→H a=none:=fun a z=>by
  cases q:H a with
  | none=>rfl
  | some o =>
   obtain ⟨o',q'⟩:=P.dom a o q
   rw [z] at q'
   cases q'
 refine ⟨e.grow n.1 n.2,fun a z z2=>?_,fun a o q nn=>n.1 a o (P.keep a o q nn),fun a z=>?_,fun a o q=>?_,fun hp=>?_⟩
 ·obtain ⟨o,q⟩:=e.dom a (.inr z2)
  rw [(n.2 a z).1] at q
  cases q
 ·rcases z with z | z
  ·exact .inr (n1 a (n.2 a z).1)
  ·exact P.own a (.inr z)
 ·obtain ⟨o',q'⟩:=P.dom a o q
  exact ⟨o',n.1 a o' q'⟩
 ·obtain ⟨a1,a2,a3⟩:=P.pure hp
  exact ⟨a1,a2,fun a o q=>n.1 a o (a3 a o q)⟩
theorem Post.less {F F':AS} (P:Post K p ds' Ox σ H en R en' H' R' F) (h:∀ a,F' a→F a):Post K p ds' Ox σ H en R en' H' R' F' :=
 ⟨P.env.fewer fun a z=>z.imp (h a) id,fun a z=>P.fx a (h a z),P.keep,fun a z=>P.own a (z.imp (h a) id),P.dom,P.pure⟩
theorem Ow.letgo {F F0:AS} {v:V} (P:Post K p ds' Ox σ H en R en' H' R' F0) (hf:∀ a,F a→F0 a) (h:Ow K (Own R' (U F0 Ox)) H' t d v F):Ow K (Own R' Ox) H' t 0 v NoA:=by
 refine Ow.fz (fun a z=>z.imp id .inr) (fun a z z2=>?_) h
 rcases z2 with ⟨i,z2⟩ | z2
 ·exact P.env.dx i a z2 (.inl (hf a z))
 ·exact P.fx a (hf a z) z2
theorem Post.doms {F0:AS} (P:Post K p ds' Ox σ H en R en' H' R' F0):∀ a,Own R' Ox a→∃ o,H' a=some o:=fun a z=>P.env.dom a (z.imp id .inr)
theorem IU (hd:ds[i]?=some 0) (h:tF K true ds ds 0 (ad i) σ H Q):fh i σ H Q:=by
 obtain ⟨Ox,en,R,t,en',e,hf,k⟩:=h
 unfold ad at hf
 cases q:en[i]? with
 | none=>rw [q] at hf; cases hf
 | some o =>
  rw [q] at hf
  cases o with
  | none=>cases hf
  | some t' =>
   cases hf
   obtain ⟨v,d,h1,h2,h3⟩:=e.at_ i t q
   rw [hd] at h2
   cases h2
   exact ⟨v,h1,k v H R NoA (Post.refl e) (by rw [gk]; exact Ow.any0 t h3)⟩
theorem Jz (hd:ds[i]?=some d) (h:tF K false ds (ds.set i 0) d (eMv i) σ H Q):fh i σ H Q:=by
 obtain ⟨Ox,en,R,t,en',e,hf,k⟩:=h
 unfold eMv at hf
 cases q:en[i]? with
 | none=>rw [q] at hf; cases hf
 | some o =>
  rw [q] at hf
  cases o with
  | none=>cases hf
  | some t' =>
   cases hf
   obtain ⟨v,d',h1,h2,h3⟩:=e.at_ i t q
   rw [hd] at h2
   cases h2
   have eq:Own (fun j=>if j=i then NoA else R j) (U (R i) Ox)=Own R Ox:=eo fun a=>by
    unfold Own U
    constructor
    ·rintro (⟨j,z⟩ | z | z)
     ·by_cases hj:j=i
      ·rw [if_pos hj] at z; exact z.elim
      ·rw [if_neg hj] at z; exact .inl ⟨j,z⟩
     ·exact .inl ⟨i,z⟩
     ·exact .inr z
    ·rintro (⟨j,z⟩ | z)
     ·by_cases hj:j=i
      ·subst hj; exact .inr (.inl z)
      ·exact .inl ⟨j,by show (if j=i then NoA else R j) a; rw [if_neg hj]; exact z⟩
     ·exact .inr (.inr z)
   refine ⟨v,h1,k v H (fun j=>if j=i then NoA else R j) (R i) ⟨⟨fun j u hu=>?_,fun j j' a z z'=>?_,fun j a z=>?_,fun a z=>e.dom a (eq ▸ z),?_,?_⟩,e.dx i,fun a o q _=>q,fun a z=>?_,fun a o q=>⟨o,q⟩,fun z=>nomatch z⟩ (eq.symm ▸ h3)⟩
   ·by_cases hj:j=i
    ·subst hj
     rw [List.getElem?_set_self' ] at hu
     rw [q] at hu
     cases hu
    ·rw [List.getElem?_set_ne (Ne.symm hj)] at hu
     obtain ⟨v',d',a1,a2,a3⟩:=e.at_ j u hu
     refine ⟨v',d',a1,by rw [List.getElem?_set_ne (Ne.symm hj)]; exact a2,?_⟩
     rw [if_neg hj,eq]
     exact a3
   ·by_cases hj:j=i
    ·rw [if_pos hj] at z; exact z.elim
    ·rw [if_neg hj] at z
     by_cases hj':j'=i
     ·rw [if_pos hj'] at z'; exact z'.elim
     ·rw [if_neg hj'] at z'; exact e.dj j j' a z z'
   ·by_cases hj:j=i
    ·rw [if_pos hj] at z; exact z.elim
    ·rw [if_neg hj] at z
     rintro (z2 | z2)
     ·exact hj (e.dj j i a z z2)
     ·exact e.dx j a z z2
   ·rw [List.length_set]; exact e.l1
   ·rw [List.length_set]; exact e.l2
   ·rcases z with z | ⟨j,z⟩
    ·exact .inl ⟨i,z⟩
    ·by_cases hj:j=i
     ·rw [if_pos hj] at z; exact z.elim
     ·rw [if_neg hj] at z; exact .inl ⟨j,z⟩
theorem f_c {v:V} (hv:∀ K O H F,Ow K O H t 3 v F) (h:tF K true ds ds 3 (eC t) σ H Q):tC v σ H Q:=by
 obtain ⟨Ox,en,R,t',en',e,hf,k⟩:=h
 cases hf
 exact k v H R NoA (Post.refl e) (hv _ _ _ _)
theorem IW (hd:d'≤d) (h:tF K p ds ds' d' f σ H Q):tF K p ds ds' d f σ H Q:=by
 obtain ⟨Ox,en,R,t,en',e,hf,k⟩:=h
 refine ⟨Ox,en,R,t,en',e,hf,fun v H' R' F P o=>?_⟩
 obtain ⟨F',s1,s2⟩:=Ow.cut t hd o
 refine k v H' R' F' (P.less s1) (s2 _ (fun a z=>z.imp id fun z=>z.imp (s1 a) id) fun a z z2=>?_)
 rcases z2 with ⟨i,z2⟩ | z2 | z2
 ·exact absurd (.inl z) (P.env.dx i a z2)
 ·exact z2
 ·exact absurd z2 (P.fx a z)
theorem jy (hp:p'=true→p=true) (h:tF K p' ds ds' d f σ H Q):tF K p ds ds' d f σ H Q:=by
 obtain ⟨Ox,en,R,t,en',e,hf,k⟩:=h
 exact ⟨Ox,en,R,t,en',e,hf,fun v H' R' F P o=>k v H' R' F ⟨P.env,P.fx,P.keep,P.own,P.dom,fun z=>P.pure (hp z)⟩ o⟩
theorem EnvOk.cut (e:EnvOk K ds Ox H σ en R) (hl:ds0.length=ds.length) (hd:∀ (i:Nat) a b,ds0[i]?=some a→ds[i]?=some b→a≤b):∃ R',(∀ i a,R' i a→R i a)∧EnvOk K ds0 Ox H σ en R':=by
 have ch:∀ i,∃ F':AS,(∀ b,F' b→R i b)∧∀ t v d0,en[i]?=some (some t)→σ[i]?=some (some v)→ds0[i]?=some d0→∀ O':AS,(∀ a,O' a→Own R Ox a)→(∀ a,R i a→O' a→F' a)→Ow K O' H t d0 v F':=fun i=>by
  by_cases h:∃ t,en[i]?=some (some t)
  ·obtain ⟨t,ht⟩:=h
   obtain ⟨v,d,h1,h2,h3⟩:=e.at_ i t ht
   cases q:ds0[i]? with
   | none=>exact ⟨NoA,fun _ z=>z.elim,fun _ _ _ _ _ z=>nomatch z⟩
   | some d0 =>
    obtain ⟨F',s1,s2⟩:=Ow.cut t (hd i d0 d q h2) h3
    refine ⟨F',s1,fun t' v' d0' h1' h2' h3' O'=>?_⟩
    rw [ht] at h1'; cases h1'
    rw [h1] at h2'; cases h2'
    cases h3'
    exact s2 O'
  ·exact ⟨NoA,fun _ z=>z.elim,fun t _ _ ht=>absurd ⟨t,ht⟩ h⟩
 refine ⟨fun i=>(ch i).choose,fun i=>(ch i).choose_spec.1,fun i t ht=>?_,fun i j a z1 z2=>e.dj i j a ((ch i).choose_spec.1 a z1) ((ch j).choose_spec.1 a z2),fun i a z=>e.dx i a ((ch i).choose_spec.1 a z),fun a z=>e.dom a (z.imp (fun ⟨i,z⟩=>⟨i,(ch i).choose_spec.1 a z⟩) id),e.l1,hl.trans e.l2⟩
 obtain ⟨v,d,h1,h2,h3⟩:=e.at_ i t ht
 have hi:i < ds0.length:=by rw [hl]; exact (List.getElem?_eq_some_iff.mp h2).1
 refine ⟨v,ds0[i],h1,List.getElem?_eq_getElem hi,(ch i).choose_spec.2 t v _ ht h1 (List.getElem?_eq_getElem hi) _ (fun a z=>z.imp (fun ⟨j,z⟩=>⟨j,(ch j).choose_spec.1 a z⟩) id) fun a z z2=>?_⟩
 rcases z2 with ⟨j,z2⟩ | z2
 ·have:=e.dj i j a z ((ch j).choose_spec.1 a z2)
  subst this
  exact z2
 ·exact absurd z2 (e.dx i a z)
def leD:List Nat→List Nat→Bool
 | [],[]=>true
 | a :: r,b :: s=>decide (a≤b) && leD r s
 | _,_=>false
theorem dD:∀ {a b:List Nat},leD a b=true→a.length=b.length∧∀ (i:Nat) x y,a[i]?=some x→b[i]?=some y→x≤y
 | [],[],_=>⟨rfl,fun i x y h=>by simp at h⟩
 | a :: r,b :: s,h=>by
  unfold leD at h
  rw [Bool.and_eq_true] at h
  obtain ⟨h1,h2⟩:=h
  obtain ⟨h3,h4⟩:=dD h2
  refine ⟨by rw [List.length_cons,List.length_cons,h3],fun i x y e1 e2=>?_⟩
  cases i with
  | zero=>cases e1; cases e2; exact of_decide_eq_true h1
  | succ i=>exact h4 i x y e1 e2
 | [],_ :: _,h=>nomatch h
 | _ :: _,[],h=>nomatch h
theorem JB (hd:leD ds0 ds=true) (h:tF K false ds ds' d f σ H Q):tF K p ds0 ds' d f σ H Q:=by
 obtain ⟨Ox,en,R,t,en',e,hf,k⟩:=h
 obtain ⟨R1,s1,e1⟩:=e.cut (dD hd).1 (dD hd).2
 refine ⟨Ox,en,R1,t,en',e1,hf,fun v H' R' F P o=>k v H' R' F ⟨P.env,P.fx,fun a o q n=>P.keep a o q fun i z=>n i (s1 i a z),fun a z=>(P.own a z).imp (fun ⟨i,z⟩=>⟨i,s1 i a z⟩) id,P.dom,fun z=>nomatch z⟩ o⟩
theorem Je (hd:leD ds0 ds=true) (h:tF K true ds ds 3 f σ H Q):tF K true ds0 ds0 3 f σ H Q:=by
 obtain ⟨Ox,en,R,t,en',e,hf,k⟩:=h
 obtain ⟨R1,s1,e1⟩:=e.cut (dD hd).1 (dD hd).2
 refine ⟨Ox,en,R1,t,en',e1,hf,fun v H' R' F P o=>?_⟩
 obtain ⟨a1,a2,a3⟩:=P.pure rfl
 subst a1 a2
 have nf:∀ a,F a→H a=none:=fun a z=>by
  rcases P.own a (.inl z) with ⟨i,z2⟩ | z2
  ·exact absurd (.inl z) (P.env.dx i a z2)
  ·exact z2
 have nt:NewTo H H' F:=⟨a3,fun a z=>⟨nf a z,P.env.dom a (.inr (.inl z))⟩⟩
 exact k v H' R F (Post.new e nt.1 nt.2) (Ow.full t o)
theorem IZ {g:D→Option D} (h:tF K p ds ds1 d (e1 g f) σ H Q):tUn (rF1 K g d) (tF K p ds ds1 d1 f) σ H Q:=by
 obtain ⟨Ox,en,R,t,en',e,hf,k⟩:=h
 unfold e1 at hf
 obtain ⟨⟨t1,en1⟩,h1,hf⟩:=Option.bind_eq_some_iff.mp hf
 obtain ⟨t',h3,hf⟩:=Option.map_eq_some_iff.mp hf
 cases hf
 refine ⟨Ox,en,R,t1,en1,e,h1,fun v H' R' F P o=>?_⟩
 refine ⟨Own R' Ox,t1,t,Ow.letgo P (fun _ z=>z) o,P.doms,h3,fun v2 H2 F2 n o2=>k v2 H2 R' F2 (P.fin n) (mM ▸ o2)⟩
theorem oF {g:D→D→Option D} (h:tF K (p1 && p2) ds ds2 d (e2 g f1 f2) σ H Q):tOp (rF2 K g d) (tF K p1 ds ds1 d1 f1) (tF K p2 ds1 ds2 d2 f2) σ H Q:=by
 obtain ⟨Ox,en,R,t,en',e,hf,k⟩:=h
 unfold e2 at hf
 obtain ⟨⟨t1,en1⟩,h1,hf⟩:=Option.bind_eq_some_iff.mp hf
 obtain ⟨⟨t2,en2⟩,h2,hf⟩:=Option.bind_eq_some_iff.mp hf
 obtain ⟨t',h3,hf⟩:=Option.map_eq_some_iff.mp hf
 cases hf
 refine two e h1 h2 fun x y H2 R2 F1 F2 P o1 o2=>?_
 exact ⟨Own R2 Ox,t1,t2,t,Ow.letgo P (fun _=>.inl) o1,Ow.letgo P (fun _=>.inr) o2,P.doms,h3,fun v2 H3 F3 n o3=>k v2 H3 R2 F3 (P.fin n) (mM ▸ o3)⟩
theorem Post.after {H1:Hp} {R1 R2:Nat→AS} {F1 F:AS} (P1:Post K p1 ds1 Ox σ H en R en1 H1 R1 F1) (P2:Post K p2 ds2 Ox σ H1 en1 R1 en2 H' R2 F):Post K (p1 && p2) ds2 Ox σ H en R en2 H' R2 F:=by
 have P1':=P1.less (F':=NoA) fun _ z=>z.elim
 have P2':Post K p2 ds2 (U NoA Ox) σ H1 en1 R1 en2 H' R2 F:=by rw [gk]; exact P2
 have:=P1'.trans P2'
 rw [gk] at this
 exact this
theorem Post.env0 {F:AS} (P:Post K p ds' Ox σ H en R en' H' R' F):EnvOk K ds' Ox H' σ en' R':=P.env.fewer fun a z=>.inr z
theorem Jg (h:tF K (p1 && p2) ds ds1 d (kq f1 f2) σ H Q):B4 (tF K p1 ds ds1 d1 f1) (tF K p2 ds1 ds1 d f2) σ H Q:=by
 obtain ⟨Ox,en,R,t,en',e,hf,k⟩:=h
 unfold kq at hf
 obtain ⟨⟨t1,en1⟩,h1,hf⟩:=Option.bind_eq_some_iff.mp hf
 refine ⟨Ox,en,R,t1,en1,e,h1,fun v H1 R1 F1 P1 o1=>?_⟩
 cases t1 with
 | bool b =>
  have ev:v=.bl b:=o1
  refine ⟨b,ev,?_⟩
  cases b with
  | true =>
   rw [if_pos rfl]
   exact ⟨Ox,en1,R1,t,en',P1.env0,hf,fun v2 H2 R2 F2 P2 o2=>k v2 H2 R2 F2 (P1.after P2) o2⟩
  | false =>
   cases hf
   rw [if_neg Bool.false_ne_true]
   refine k _ H1 R1 NoA ?_ rfl
   have:=(P1.less (F':=NoA) fun _ z=>z.elim)
   exact ⟨this.env,this.fx,this.keep,this.own,this.dom,fun hp=>this.pure (by cases p1 <;> simp_all)⟩
 | _=>cases hf
theorem Jy (h:tF K (p1 && p2) ds ds1 d (eOr f1 f2) σ H Q):FW (tF K p1 ds ds1 d1 f1) (tF K p2 ds1 ds1 d f2) σ H Q:=by
 obtain ⟨Ox,en,R,t,en',e,hf,k⟩:=h
 unfold eOr at hf
 obtain ⟨⟨t1,en1⟩,h1,hf⟩:=Option.bind_eq_some_iff.mp hf
 refine ⟨Ox,en,R,t1,en1,e,h1,fun v H1 R1 F1 P1 o1=>?_⟩
 cases t1 with
 | bool b =>
  have ev:v=.bl b:=o1
  refine ⟨b,ev,?_⟩
  cases b with
  | false =>
   rw [if_neg Bool.false_ne_true]
   exact ⟨Ox,en1,R1,t,en',P1.env0,hf,fun v2 H2 R2 F2 P2 o2=>k v2 H2 R2 F2 (P1.after P2) o2⟩
  | true =>
   cases hf
   rw [if_pos rfl]
   refine k _ H1 R1 NoA ?_ rfl
   have:=(P1.less (F':=NoA) fun _ z=>z.elim)
   exact ⟨this.env,this.fx,this.keep,this.own,this.dom,fun hp=>this.pure (by cases p1 <;> simp_all)⟩
 | _=>cases hf
theorem I0 (h:tF K p ds ds1 3 (nc f) σ H Q):BZ (tF K p ds ds1 d1 f) σ H Q:=by
 obtain ⟨Ox,en,R,t,en',e,hf,k⟩:=h
 unfold nc at hf
 obtain ⟨⟨t1,en1⟩,h1,hf⟩:=Option.bind_eq_some_iff.mp hf
 refine ⟨Ox,en,R,t1,en1,e,h1,fun v H1 R1 F1 P1 o1=>?_⟩
 cases t1 with
 | bool b =>
  cases hf
  exact ⟨b,o1,k _ H1 R1 NoA (P1.less fun _ z=>z.elim) rfl⟩
 | _=>cases hf
def tFT (K:PySem.W.Frag) (p:Bool) (ds ds':List Nat) (f:MT):TT:=fun σ H Q =>
 ∃ Ox en R b en',EnvOk K ds Ox H σ en R∧f en=some (b,en')∧∀ H' R',Post K p ds' Ox σ H en R en' H' R' NoA→Q b H'
variable {c c1 c2:MT} {QT:Bool→Hp→Prop}
theorem pS (h:tFT K p ds ds' (tV f) σ H QT):tB (tF K p ds ds' d f) σ H QT:=by
 obtain ⟨Ox,en,R,b,en',e,hf,k⟩:=h
 unfold tV at hf
 obtain ⟨⟨t1,en1⟩,h1,hf⟩:=Option.bind_eq_some_iff.mp hf
 refine ⟨Ox,en,R,t1,en1,e,h1,fun v H1 R1 F1 P1 o1=>?_⟩
 cases t1 with
 | bool b =>
  cases hf
  exact ⟨_,o1,k H1 R1 (P1.less fun _ z=>z.elim)⟩
 | _=>cases hf
theorem Hd (h:tFT K (p1 && p2) ds ds1 (cD c1 c2) σ H QT):F9 (tFT K p1 ds ds1 c1) (tFT K p2 ds1 ds1 c2) σ H QT:=by
 obtain ⟨Ox,en,R,b,en',e,hf,k⟩:=h
 unfold cD at hf
 obtain ⟨⟨b1,en1⟩,h1,hf⟩:=Option.bind_eq_some_iff.mp hf
 refine ⟨Ox,en,R,b1,en1,e,h1,fun H1 R1 P1=>?_⟩
 cases b1 with
 | true =>
  rw [if_pos rfl]
  exact ⟨Ox,en1,R1,b,en',P1.env0,hf,fun H2 R2 P2=>k H2 R2 (P1.after P2)⟩
 | false =>
  cases hf
  rw [if_neg Bool.false_ne_true]
  exact k H1 R1 ⟨P1.env,P1.fx,P1.keep,P1.own,P1.dom,fun hp=>P1.pure (by cases p1 <;> simp_all)⟩
theorem IG (h:tFT K (p1 && p2) ds ds1 (bOr c1 c2) σ H QT):tOr (tFT K p1 ds ds1 c1) (tFT K p2 ds1 ds1 c2) σ H QT:=by
 obtain ⟨Ox,en,R,b,en',e,hf,k⟩:=h
 unfold bOr at hf
 obtain ⟨⟨b1,en1⟩,h1,hf⟩:=Option.bind_eq_some_iff.mp hf
 refine ⟨Ox,en,R,b1,en1,e,h1,fun H1 R1 P1=>?_⟩
 cases b1 with
 | false =>
  rw [if_neg Bool.false_ne_true]
  exact ⟨Ox,en1,R1,b,en',P1.env0,hf,fun H2 R2 P2=>k H2 R2 (P1.after P2)⟩
 | true =>
  cases hf
  rw [if_pos rfl]
  exact k H1 R1 ⟨P1.env,P1.fx,P1.keep,P1.own,P1.dom,fun hp=>P1.pure (by cases p1 <;> simp_all)⟩
theorem Hb (h:tFT K p ds ds1 (e9 c) σ H QT):FX (tFT K p ds ds1 c) σ H QT:=by
 obtain ⟨Ox,en,R,b,en',e,hf,k⟩:=h
 unfold e9 at hf
 obtain ⟨⟨b1,en1⟩,h1,hf⟩:=Option.map_eq_some_iff.mp hf
 cases hf
 exact ⟨Ox,en,R,b1,_,e,h1,fun H1 R1 P1=>k H1 R1 P1⟩
theorem Hc (hd:leD ds0 ds=true) (h:tFT K true ds ds c σ H QT):tFT K true ds0 ds0 c σ H QT:=by
 obtain ⟨Ox,en,R,t,en',e,hf,k⟩:=h
 obtain ⟨R1,s1,e1⟩:=e.cut (dD hd).1 (dD hd).2
 refine ⟨Ox,en,R1,t,en',e1,hf,fun H' R' P=>?_⟩
 obtain ⟨a1,a2,a3⟩:=P.pure rfl
 subst a1 a2
 exact k H' R (Post.new e a3 fun _ z=>z.elim)
theorem JA (h:tF K (p && (p1 && p2)) ds ds2 d (eIf c f1 f2) σ H Q):tIf (tFT K p ds ds1 c) (tF K p1 ds1 ds2 d f1) (tF K p2 ds1 ds2 d f2) σ H Q:=by
 obtain ⟨Ox,en,R,t,en',e,hf,k⟩:=h
 unfold eIf at hf
 obtain ⟨⟨b1,en1⟩,h1,hf⟩:=Option.bind_eq_some_iff.mp hf
 refine ⟨Ox,en,R,b1,en1,e,h1,fun H1 R1 P1=>?_⟩
 cases b1 with
 | true =>
  rw [if_pos rfl]
  refine ⟨Ox,en1,R1,t,en',P1.env0,hf,fun v H2 R2 F2 P2 o2=>k v H2 R2 F2 ?_ o2⟩
  have:=P1.after P2
  exact ⟨this.env,this.fx,this.keep,this.own,this.dom,fun hp=>this.pure (by cases p <;> cases p1 <;> simp_all)⟩
 | false =>
  rw [if_neg Bool.false_ne_true]
  refine ⟨Ox,en1,R1,t,en',P1.env0,hf,fun v H2 R2 F2 P2 o2=>k v H2 R2 F2 ?_ o2⟩
  have:=P1.after P2
  exact ⟨this.env,this.fx,this.keep,this.own,this.dom,fun hp=>this.pure (by cases p <;> cases p1 <;> simp_all)⟩
end
end L2
namespace L2
open PySem PySem.Spec PyProof.Rows
abbrev Sh:=List (Nat ⊕ Nat)
def OwA (K:PySem.W.Frag) (O:AS) (H:Hp) (σ:St):List (D ⊕ Nat)→Sh→List V→AS→Prop
 | [],ds,vs,_=>ds=[]∧vs=[]
 | .inl t :: as,ds,vs,F=>∃ v r d dr,∃ F1 F2:AS,vs=v :: r∧ds=.inl d :: dr∧(∀ b,F1 b→F b)∧(∀ b,F2 b→F b)∧(∀ b,F1 b→¬ F2 b)∧Ow K O H t d v F1∧OwA K O H σ as dr r F2
 | .inr i :: as,ds,vs,F=>∃ v r dr,vs=v :: r∧ds=.inr i :: dr∧σ[i]?=some (some v)∧OwA K O H σ as dr r F
def tFA (K:PySem.W.Frag) (p:Bool) (ds ds':List Nat) (sh:Sh) (f:MA):TA:=fun σ H Q =>
 ∃ Ox en R as en',EnvOk K ds Ox H σ en R∧f en=some (as,en')∧∀ vs H' R' F,Post K p ds' Ox σ H en R en' H' R' F→OwA K (Own R' (U F Ox)) H' σ as sh vs F→Q vs H'
def bo (fa:MA):ME:=fun en=>(fa en).bind fun r=>(vals r.1).bind fun ts=>if ts.length≤sizeLine then some (.list ts,r.2) else none
def e8 (fa:MA):ME:=fun en=>(fa en).bind fun r=>(vals r.1).bind fun ts=>if ts.length≤sizeLine then some (.tuple ts,r.2) else none
section
variable {K:PySem.W.Frag} {p p1 p2:Bool} {ds ds0 ds1 ds2 ds':List Nat} {Ox Ox' O O':AS} {H H':Hp} {σ:St} {en en' en1 en2:En} {R R':Nat→AS} {d d' d1 d2:Nat} {t t1 t2:D} {Q:VK} {f f1 f2:ME} {fa:MA} {sh:Sh} {QA:List V→Hp→Prop} {i:Nat}
theorem HN (h:tFA K true ds ds [] ai σ H QA):rM σ H QA:=by
 obtain ⟨Ox,en,R,as,en',e,hf,k⟩:=h
 cases hf
 exact k [] H R NoA (Post.refl e) ⟨rfl,rfl⟩
theorem DR (h:tFA K (p1 && p2) ds ds2 (.inl d :: sh) (ae f fa) σ H QA):l7 (tF K p1 ds ds1 d f) (tFA K p2 ds1 ds2 sh fa) σ H QA:=by
 obtain ⟨Ox,en,R,as,en',e,hf,k⟩:=h
 unfold ae at hf
 obtain ⟨⟨t1,en1⟩,h1,hf⟩:=Option.bind_eq_some_iff.mp hf
 obtain ⟨⟨as2,en2⟩,h2,hf⟩:=Option.map_eq_some_iff.mp hf
 cases hf
 refine ⟨Ox,en,R,t1,en1,e,h1,fun x H1 R1 F1 P1 o1=>?_⟩
 refine ⟨U F1 Ox,en1,R1,as2,en2,P1.env,h2,fun vs H2 R2 F2 P2 o2=>?_⟩
 refine k (x :: vs) H2 R2 (U F1 F2) (P1.trans P2) ⟨x,vs,d,sh,F1,F2,rfl,rfl,fun _=>.inl,fun _=>.inr,fun b z1 z2=>P2.fx b z2 (.inl z1),Ow.over P1.env P2 o1,?_⟩
 rw [← mL]
 exact o2
theorem DP (h:tFA K p ds ds2 (.inr i :: sh) (aG i fa) σ H QA):l7 (fh i) (tFA K p ds ds2 sh fa) σ H QA:=by
 obtain ⟨Ox,en,R,as,en',e,hf,k⟩:=h
 unfold aG at hf
 obtain ⟨t0,h0,hf⟩:=Option.bind_eq_some_iff.mp hf
 obtain ⟨⟨as2,en2⟩,h2,hf⟩:=Option.map_eq_some_iff.mp hf
 cases hf
 have q:en[i]?=some (some t0):=by
  cases q:en[i]? with
  | none=>rw [q] at h0; cases h0
  | some o=>rw [q] at h0; exact congrArg some h0
 obtain ⟨v,d,h1,_⟩:=e.at_ i t0 q
 exact ⟨v,h1,Ox,en,R,as2,en2,e,h2,fun vs H2 R2 F2 P2 o2=>k (v :: vs) H2 R2 F2 P2 ⟨v,vs,sh,rfl,rfl,h1,o2⟩⟩
def ci (c:Nat):Sh→Bool
 | []=>true
 | .inl d :: r=>decide (c≤d) && ci c r
 | .inr _ :: _=>false
theorem OwA.ows:∀ {as:List (D ⊕ Nat)} {sh:Sh} {vs:List V} {F:AS} {ts:List D} {c:Nat},ci c sh=true→vals as=some ts→OwA K O H σ as sh vs F →
  ∃ F':AS,(∀ b,F' b→F b)∧∀ O':AS,(∀ a,O' a→O a)→(∀ a,F a→O' a→F' a)→Ows K O' H ts c vs F'
 | [],_,_,F,ts,c,_,hv,h=>by
  cases hv
  exact ⟨F,fun _ z=>z,fun _ _ _=>h.2⟩
 | .inl t :: as,_,_,F,ts,c,hs,hv,h=>by
  obtain ⟨v,r,d,dr,F1,F2,e1,e2,s1,s2,s3,h1,h2⟩:=h
  subst e1 e2
  unfold vals at hv
  obtain ⟨ts',hv',e⟩:=Option.map_eq_some_iff.mp hv
  subst e
  unfold ci at hs
  rw [Bool.and_eq_true] at hs
  obtain ⟨G1,a1,a2⟩:=Ow.cut t (of_decide_eq_true hs.1) h1
  obtain ⟨G2,b1,b2⟩:=OwA.ows hs.2 hv' h2
  refine ⟨fun b=>G1 b∨G2 b,fun b hb=>hb.elim (fun z=>s1 _ (a1 _ z)) fun z=>s2 _ (b1 _ z),fun O' ho hx=>⟨v,r,G1,G2,rfl,fun b=>.inl,fun b=>.inr,fun b z1 z2=>s3 b (a1 b z1) (b1 b z2),a2 O' ho fun b hb hz=>?_,b2 O' ho fun b hb hz=>?_⟩⟩
  ·exact (hx b (s1 b hb) hz).elim id fun z=>absurd (b1 b z) (s3 b hb)
  ·exact (hx b (s2 b hb) hz).elim (fun z=>absurd hb (s3 b (a1 b z))) id
 | .inr i :: as,_,_,F,ts,c,_,hv,_=>by cases hv
theorem OwA.len:∀ {as:List (D ⊕ Nat)} {sh:Sh} {vs:List V} {F:AS},OwA K O H σ as sh vs F→vs.length=as.length
 | [],_,_,_,h=>by rw [h.2]; rfl
 | .inl t :: as,_,_,_,h=>by
  obtain ⟨v,r,d,dr,F1,F2,e1,e2,s1,s2,s3,h1,h2⟩:=h
  rw [e1,List.length_cons,List.length_cons,h2.len]
 | .inr i :: as,_,_,_,h=>by
  obtain ⟨v,r,dr,e1,e2,e3,h2⟩:=h
  rw [e1,List.length_cons,List.length_cons,h2.len]
theorem lh:∀ {as:List (D ⊕ Nat)} {ts:List D},vals as=some ts→ts.length=as.length
 | [],_,h=>by cases h; rfl
 | .inl t :: as,_,h=>by
  unfold vals at h
  obtain ⟨ts',hv',e⟩:=Option.map_eq_some_iff.mp h
  subst e
  rw [List.length_cons,List.length_cons,lh hv']
 | .inr _ :: _,_,h=>by cases h
theorem uQ {g:List D→Option D} (hs:ci 0 sh=true) (h:tF K p ds ds1 d (eN g fa) σ H Q):tCB (rFn K g d) (tFA K p ds ds1 sh fa) σ H Q:=by
 obtain ⟨Ox,en,R,t,en',e,hf,k⟩:=h
 unfold eN at hf
 obtain ⟨⟨as,en1⟩,h1,hf⟩:=Option.bind_eq_some_iff.mp hf
 obtain ⟨ts,h2,hf⟩:=Option.bind_eq_some_iff.mp hf
 obtain ⟨t',h3,hf⟩:=Option.map_eq_some_iff.mp hf
 cases hf
 refine ⟨Ox,en,R,as,en1,e,h1,fun vs H1 R1 F P o=>?_⟩
 obtain ⟨F',s1,s2⟩:=OwA.ows hs h2 o
 have o2:Ows K (Own R1 Ox) H1 ts 0 vs F':=s2 _ (fun a z=>z.imp id .inr) fun a z z2=>by
  rcases z2 with ⟨i,z2⟩ | z2
  ·exact absurd (.inl z) (P.env.dx i a z2)
  ·exact absurd z2 (P.fx a z)
 exact ⟨Own R1 Ox,ts,t,Ows.any0 ts o2,P.doms,h3,fun v2 H2 F2 n o2=>k v2 H2 R1 F2 (P.fin n) (mM ▸ o2)⟩
theorem Post.add {H1:Hp} {F G:AS} (P:Post K p ds' Ox σ H en R en' H1 R' F) (n:NewTo H1 H' G):Post K p ds' Ox σ H en R en' H' R' (U F G):=by
 have P2:Post K true ds' (U F Ox) σ H1 en' R' en' H' R' G:=Post.new P.env n.1 n.2
 have:=P.trans P2
 rw [Bool.and_true] at this
 exact this
theorem bK {l:Addr} {o:HO} (hl:H l=none):NewTo H (upd H l o) (fun b=>b=l):=by
 refine ⟨fun a u q=>?_,fun a z=>?_⟩
 ·rw [aM]
  ·exact q
  ·intro z
   subst z
   rw [hl] at q
   cases q
 ·subst z
  exact ⟨hl,_,aN⟩
theorem Ja {c:Nat} (hs:ci c sh=true) (hd:dn d=c) (hz:d≠0) (h:tF K p ds ds1 d (bo fa) σ H Q):FY (tFA K p ds ds1 sh fa) σ H Q:=by
 obtain ⟨Ox,en,R,t,en',e,hf,k⟩:=h
 unfold bo at hf
 obtain ⟨⟨as,en1⟩,h1,hf⟩:=Option.bind_eq_some_iff.mp hf
 obtain ⟨ts,h2,hf⟩:=Option.bind_eq_some_iff.mp hf
 by_cases hlen:ts.length≤sizeLine
 case neg=>rw [if_neg hlen] at hf; cases hf
 rw [if_pos hlen] at hf
 cases hf
 refine ⟨Ox,en,R,as,en1,e,h1,fun vs H1 R1 F P o=>⟨?_,fun l hl=>?_⟩⟩
 ·rw [o.len,← lh h2]; exact hlen
 obtain ⟨F',s1,s2⟩:=OwA.ows hs h2 o
 have o2:=s2 (Own R1 (U F' Ox)) (fun a z=>z.imp id fun z=>z.imp (s1 a) id) fun a z z2=>by
  rcases z2 with ⟨i,z2⟩ | z2 | z2
  ·exact absurd (.inl z) (P.env.dx i a z2)
  ·exact z2
  ·exact absurd z2 (P.fx a z)
 have P':=(P.less s1).add (bK (o:=.lst vs) hl)
 have nl:∀ a,F' a→a≠l:=fun a z z2=>by
  subst z2
  obtain ⟨o',q⟩:=P.env.dom a (.inr (.inl (s1 a z)))
  rw [hl] at q
  cases q
 refine k (.ref l) (upd H1 l (.lst vs)) R1 _ P' ⟨l,vs,rfl,.inr ⟨hz,aN,.inr rfl,F',fun b z=>⟨.inl z,nl b z⟩,?_⟩⟩
 rw [hd]
 refine Ows.mv (G:=F') ⟨fun a o q _=>(bK (o:=.lst vs) hl).1 a o q,fun a z=>?_⟩ ts (fun _ z=>z) o2
 rcases z with z | (z | z) | z
 ·exact .inl (.inl z)
 ·exact .inl (.inr (.inl z))
 ·exact .inr (by rw [show a=l from z]; exact hl)
 ·exact .inl (.inr (.inr z))
theorem IV {c:Nat} (hs:ci c sh=true) (hd:dn d=c) (h:tF K p ds ds1 d (e8 fa) σ H Q):FT (tFA K p ds ds1 sh fa) σ H Q:=by
 obtain ⟨Ox,en,R,t,en',e,hf,k⟩:=h
 unfold e8 at hf
 obtain ⟨⟨as,en1⟩,h1,hf⟩:=Option.bind_eq_some_iff.mp hf
 obtain ⟨ts,h2,hf⟩:=Option.bind_eq_some_iff.mp hf
 by_cases hlen:ts.length≤sizeLine
 case neg=>rw [if_neg hlen] at hf; cases hf
 rw [if_pos hlen] at hf
 cases hf
 refine ⟨Ox,en,R,as,en1,e,h1,fun vs H1 R1 F P o=>⟨?_,fun l hl=>?_⟩⟩
 ·rw [o.len,← lh h2]; exact hlen
 obtain ⟨F',s1,s2⟩:=OwA.ows hs h2 o
 have o2:=s2 (Own R1 (U F' Ox)) (fun a z=>z.imp id fun z=>z.imp (s1 a) id) fun a z z2=>by
  rcases z2 with ⟨i,z2⟩ | z2 | z2
  ·exact absurd (.inl z) (P.env.dx i a z2)
  ·exact z2
  ·exact absurd z2 (P.fx a z)
 have nl:∀ a,Own R1 (U F' Ox) a→a≠l:=fun a z z2=>by
  subst z2
  obtain ⟨o',q⟩:=P.env.dom a (z.imp id fun z=>z.imp (s1 a) id)
  rw [hl] at q
  cases q
 by_cases hz:d=0
 ·subst hz
  have P':=(P.less s1).add (G:=NoA) (H':=upd H1 l (.tup vs)) ⟨(bK (o:=.tup vs) hl).1,fun _ z=>z.elim⟩
  have eq:U F' NoA=F':=eo fun a=>⟨fun z=>z.elim id fun z=>z.elim,.inl⟩
  rw [eq] at P'
  refine k (.ref l) (upd H1 l (.tup vs)) R1 _ P' ⟨l,vs,rfl,.inl ⟨rfl,⟨aN,fun z=>nl l z rfl⟩,?_⟩⟩
  have hc:c=0:=hd.symm
  subst hc
  exact Ows.mv (G:=F') ⟨fun a o q _=>(bK (o:=.tup vs) hl).1 a o q,fun a z=>.inl z⟩ ts (fun _ z=>z) o2
 ·have P':=(P.less s1).add (bK (o:=.tup vs) hl)
  refine k (.ref l) (upd H1 l (.tup vs)) R1 _ P' ⟨l,vs,rfl,.inr ⟨hz,aN,.inr rfl,F',fun b z=>⟨.inl z,nl b (.inr (.inl z))⟩,?_⟩⟩
  rw [hd]
  refine Ows.mv (G:=F') ⟨fun a o q _=>(bK (o:=.tup vs) hl).1 a o q,fun a z=>?_⟩ ts (fun _ z=>z) o2
  rcases z with z | (z | z) | z
  ·exact .inl (.inl z)
  ·exact .inl (.inr (.inl z))
  ·exact .inr (by rw [show a=l from z]; exact hl)
  ·exact .inl (.inr (.inr z))
end
def spF (K:PySem.W.Frag) (dps:List Nat) (dr:Nat) (F:List D→Option (D × En)):Sp:=fun vs H Q _ =>
 ∃ Ox ts R r outs,EnvOk K dps Ox H (vs.map some) (ts.map some) R∧F ts=some (r,outs) ∧
  ∀ v H' R' Fr,Post K false dps Ox (vs.map some) H (ts.map some) R outs H' R' Fr→Ow K (Own R' (U Fr Ox)) H' r dr v Fr→Q v H'
def dq:List (D ⊕ Nat)→En→Option (List D)
 | [],_=>some []
 | .inl t :: r,en=>(dq r en).map (t :: ·)
 | .inr i :: r,en=>(en[i]?).join.bind fun t=>(dq r en).map (t :: ·)
def wb:List (D ⊕ Nat)→En→En→En
 | .inr i :: r,o :: outs,en=>wb r outs (en.set i o)
 | .inl _ :: r,_ :: outs,en=>wb r outs en
 | _,_,en=>en
def aq (F:List D→Option (D × En)) (fa:MA):ME:=fun en=>(fa en).bind fun r=>(dq r.1 r.2).bind fun ts=>(F ts).map fun q=>(q.1,wb r.1 q.2 r.2)
def iW:Sh→List Nat
 | []=>[]
 | .inl _ :: r=>iW r
 | .inr i :: r=>i :: iW r
def dF (ds:List Nat):Sh→List Nat→Bool
 | [],[]=>true
 | .inl d :: r,q :: s=>decide (d=q) && dF ds r s
 | .inr i :: r,q :: s=>decide (ds[i]?=some q) && (decide (i ∉ iW r) && dF ds r s)
 | _,_=>false
def iZ:Sh→Bool
 | []=>true
 | .inl _ :: r=>iZ r
 | .inr _ :: _=>false
section
variable {K:PySem.W.Frag} {p p1 p2:Bool} {ds ds0 ds1 ds2 ds' dps:List Nat} {Ox Ox' O O':AS} {H H':Hp} {σ:St} {en en' en1 en2:En} {R R':Nat→AS} {d d' d1 d2 dr:Nat} {t t1 t2:D} {Q:VK} {f f1 f2:ME} {fa:MA} {sh:Sh} {QA:List V→Hp→Prop} {i:Nat}
theorem OwA.parts:∀ {as:List (D ⊕ Nat)} {sh:Sh} {vs:List V} {F:AS},OwA K O H σ as sh vs F →
  ∃ Rp:Nat→AS,(∀ (j:Nat) t,as[j]?=some (.inl t)→∃ v d,vs[j]?=some v∧sh[j]?=some (.inl d)∧Ow K O H t d v (Rp j))∧(∀ (j i:Nat),as[j]?=some (.inr i)→∃ v,vs[j]?=some v∧sh[j]?=some (.inr i)∧σ[i]?=some (some v)) ∧
   (∀ j a,Rp j a→F a)∧(∀ j j' a,Rp j a→Rp j' a→j=j')
 | [],sh,vs,F,h=>⟨fun _=>NoA,fun j t z=>by simp at z,fun j i z=>by simp at z,fun _ _ z=>z.elim,fun _ _ _ z=>z.elim⟩
 | .inl t :: as,sh,vs,F,h=>by
  obtain ⟨v,r,d,dr,F1,F2,e1,e2,s1,s2,s3,h1,h2⟩:=h
  subst e1 e2
  obtain ⟨Rp,a1,a2,a3,a4⟩:=h2.parts
  refine ⟨fun j=>match j with | 0=>F1 | j+1=>Rp j,fun j u hj=>?_,fun j i hj=>?_,fun j a z=>?_,fun j j' a z z'=>?_⟩
  ·cases j with
   | zero =>
    have:t=u:=by simpa using hj
    subst this
    exact ⟨v,d,rfl,rfl,h1⟩
   | succ j=>exact a1 j u (by simpa using hj)
  ·cases j with
   | zero=>simp at hj
   | succ j=>exact a2 j i (by simpa using hj)
  ·cases j with
   | zero=>exact s1 a z
   | succ j=>exact s2 a (a3 j a z)
  ·cases j with
   | zero =>
    cases j' with
    | zero=>rfl
    | succ j'=>exact absurd (a3 j' a z') (s3 a z)
   | succ j =>
    cases j' with
    | zero=>exact absurd (a3 j a z) (s3 a z')
    | succ j'=>rw [a4 j j' a z z']
 | .inr i :: as,sh,vs,F,h=>by
  obtain ⟨v,r,dr,e1,e2,e3,h2⟩:=h
  subst e1 e2
  obtain ⟨Rp,a1,a2,a3,a4⟩:=h2.parts
  refine ⟨fun j=>match j with | 0=>NoA | j+1=>Rp j,fun j u hj=>?_,fun j i' hj=>?_,fun j a z=>?_,fun j j' a z z'=>?_⟩
  ·cases j with
   | zero=>simp at hj
   | succ j=>exact a1 j u (by simpa using hj)
  ·cases j with
   | zero =>
    have:i=i':=by simpa using hj
    subst this
    exact ⟨v,rfl,rfl,e3⟩
   | succ j=>exact a2 j i' (by simpa using hj)
  ·cases j with
   | zero=>exact z.elim
   | succ j=>exact a3 j a z
  ·cases j with
   | zero=>exact z.elim
   | succ j =>
    cases j' with
    | zero=>exact z'.elim
    | succ j'=>rw [a4 j j' a z z']
theorem jC:∀ {as:List (D ⊕ Nat)} {en:En} {ts:List D},dq as en=some ts→ts.length=as.length∧∀ (j:Nat) t,ts[j]?=some t→as[j]?=some (.inl t)∨∃ i,as[j]?=some (.inr i)∧en[i]?=some (some t)
 | [],_,_,h=>by cases h; exact ⟨rfl,fun j t z=>by simp at z⟩
 | .inl t :: as,en,_,h=>by
  unfold dq at h
  obtain ⟨ts',h',e⟩:=Option.map_eq_some_iff.mp h
  subst e
  obtain ⟨l,g⟩:=jC h'
  refine ⟨by rw [List.length_cons,List.length_cons,l],fun j u z=>?_⟩
  cases j with
  | zero=>simp at z; subst z; exact .inl rfl
  | succ j=>exact g j u (by simpa using z)
 | .inr i :: as,en,_,h=>by
  unfold dq at h
  obtain ⟨t,ht,h⟩:=Option.bind_eq_some_iff.mp h
  obtain ⟨ts',h',e⟩:=Option.map_eq_some_iff.mp h
  subst e
  obtain ⟨l,g⟩:=jC h'
  refine ⟨by rw [List.length_cons,List.length_cons,l],fun j u z=>?_⟩
  cases j with
  | zero =>
   simp at z
   subst z
   refine .inr ⟨i,rfl,?_⟩
   cases q:en[i]? with
   | none=>rw [q] at ht; cases ht
   | some o=>rw [q] at ht; exact congrArg some ht
  | succ j=>exact g j u (by simpa using z)
theorem iw:∀ {sh:Sh} {dps:List Nat},dF ds sh dps=true→sh.length=dps.length∧(∀ (j d:Nat),sh[j]?=some (.inl d)→dps[j]?=some d)∧(∀ (j i:Nat),sh[j]?=some (.inr i)→∃ q,dps[j]?=some q∧ds[i]?=some q) ∧
   (∀ (j j' i:Nat),sh[j]?=some (.inr i)→sh[j']?=some (.inr i)→j=j')
 | [],[],_=>⟨rfl,fun j d z=>by simp at z,fun j d z=>by simp at z,fun j j' d z=>by simp at z⟩
 | .inl d :: r,q :: s,h=>by
  unfold dF at h
  rw [Bool.and_eq_true] at h
  obtain ⟨h1,h2⟩:=h
  have h1':=of_decide_eq_true h1
  subst h1'
  obtain ⟨l,a,b,c⟩:=iw h2
  refine ⟨by rw [List.length_cons,List.length_cons,l],fun j u z=>?_,fun j i z=>?_,fun j j' i z z'=>?_⟩
  ·cases j with
   | zero=>simp at z; subst z; rfl
   | succ j=>exact a j u (by simpa using z)
  ·cases j with
   | zero=>simp at z
   | succ j=>exact b j i (by simpa using z)
  ·cases j with
   | zero=>simp at z
   | succ j =>
    cases j' with
    | zero=>simp at z'
    | succ j'=>rw [c j j' i (by simpa using z) (by simpa using z')]
 | .inr i0 :: r,q :: s,h=>by
  unfold dF at h
  rw [Bool.and_eq_true,Bool.and_eq_true] at h
  obtain ⟨h1,h2,h3⟩:=h
  have h1':=of_decide_eq_true h1
  have h2':=of_decide_eq_true h2
  obtain ⟨l,a,b,c⟩:=iw h3
  have mem:∀ {r:Sh} {j i:Nat},r[j]?=some (.inr i)→i∈iW r:=fun {r}=>by
   induction r with
   | nil=>intro j i z; simp at z
   | cons x r ih =>
    intro j i z
    cases j with
    | zero =>
     simp at z
     subst z
     unfold iW
     exact List.mem_cons_self
    | succ j =>
     have:=ih (j:=j) (i:=i) (by simpa using z)
     cases x with
     | inl _=>exact this
     | inr _=>exact List.mem_cons_of_mem _ this
  refine ⟨by rw [List.length_cons,List.length_cons,l],fun j u z=>?_,fun j i z=>?_,fun j j' i z z'=>?_⟩
  ·cases j with
   | zero=>simp at z
   | succ j=>exact a j u (by simpa using z)
  ·cases j with
   | zero=>simp at z; subst z; exact ⟨q,rfl,h1'⟩
   | succ j=>exact b j i (by simpa using z)
  ·cases j with
   | zero =>
    simp at z
    subst z
    cases j' with
    | zero=>rfl
    | succ j'=>exact absurd (mem (by simpa using z')) h2'
   | succ j =>
    cases j' with
    | zero =>
     simp at z'
     subst z'
     exact absurd (mem (by simpa using z)) h2'
    | succ j'=>rw [c j j' i (by simpa using z) (by simpa using z')]
 | [],_ :: _,h=>nomatch h
 | .inl _ :: _,[],h=>nomatch h
 | .inr _ :: _,[],h=>nomatch h
theorem lZ:∀ (as:List (D ⊕ Nat)) (outs en:En),(wb as outs en).length=en.length
 | [],_,_=>by unfold wb; rfl
 | .inl _ :: as,[],_=>by unfold wb; rfl
 | .inr _ :: as,[],_=>by unfold wb; rfl
 | .inl _ :: as,o :: outs,en=>by unfold wb; exact lZ as outs en
 | .inr i :: as,o :: outs,en=>by unfold wb; rw [lZ as outs _,List.length_set]
theorem gW:∀ (as:List (D ⊕ Nat)) (outs en:En) (i:Nat),(∀ j:Nat,as[j]?≠some (.inr i))→(wb as outs en)[i]?=en[i]?
 | [],_,_,_,_=>by unfold wb; rfl
 | .inl _ :: as,[],_,_,_=>by unfold wb; rfl
 | .inr _ :: as,[],_,_,_=>by unfold wb; rfl
 | .inl _ :: as,o :: outs,en,i,h=>by unfold wb; exact gW as outs en i fun j=>h (j+1)
 | .inr k :: as,o :: outs,en,i,h=>by
  unfold wb
  rw [gW as outs _ i fun j=>h (j+1),List.getElem?_set_ne]
  intro e
  subst e
  exact h 0 rfl
theorem oq:∀ (as:List (D ⊕ Nat)) (outs en:En) (i j:Nat),as[j]?=some (.inr i)→(∀ j':Nat,as[j']?=some (.inr i)→j'=j)→outs.length=as.length→i < en.length→(wb as outs en)[i]?=outs[j]?
 | [],_,_,_,_,h,_,_,_=>by simp at h
 | .inl _ :: as,[],_,_,_,_,_,h,_=>by simp at h
 | .inr _ :: as,[],_,_,_,_,_,h,_=>by simp at h
 | .inl _ :: as,o :: outs,en,i,j,h,u,l,b=>by
  unfold wb
  cases j with
  | zero=>simp at h
  | succ j=>exact oq as outs en i j (by simpa using h) (fun j' z=>by have:=u (j'+1) (by simpa using z); omega) (by simpa using l) b
 | .inr k :: as,o :: outs,en,i,j,h,u,l,b=>by
  unfold wb
  cases j with
  | zero =>
   have e:k=i:=by simpa using h
   subst e
   rw [gW as outs _ k fun j' z=>by have:=u (j'+1) (by simpa using z); omega]
   rw [List.getElem?_set_self b]
   rfl
  | succ j=>exact oq as outs _ i j (by simpa using h) (fun j' z=>by have:=u (j'+1) (by simpa using z); omega) (by simpa using l) (by rw [List.length_set]; exact b)
end
end L2
namespace L2
open PySem PySem.Spec PyProof.Rows
section
variable {K:PySem.W.Frag} {p p1 p2:Bool} {ds ds0 ds1 ds2 ds' dps:List Nat} {Ox Ox' O O':AS} {H H':Hp} {σ:St} {en en' en1 en2:En} {R R':Nat→AS} {d d' d1 d2 dr:Nat} {t t1 t2:D} {Q:VK} {f f1 f2:ME} {fa:MA} {sh:Sh} {QA:List V→Hp→Prop} {i:Nat}
theorem OwA.shl:∀ {as:List (D ⊕ Nat)} {sh:Sh} {vs:List V} {F:AS},OwA K O H σ as sh vs F→sh.length=as.length
 | [],_,_,_,h=>by rw [h.1]; rfl
 | .inl t :: as,_,_,_,h=>by
  obtain ⟨v,r,d,dr,F1,F2,e1,e2,s1,s2,s3,h1,h2⟩:=h
  rw [e2,List.length_cons,List.length_cons,h2.shl]
 | .inr i :: as,_,_,_,h=>by
  obtain ⟨v,r,dr,e1,e2,e3,h2⟩:=h
  rw [e2,List.length_cons,List.length_cons,h2.shl]
theorem mf:∀ {sh:Sh},iZ sh=true→∀ (j i:Nat),sh[j]?≠some (.inr i)
 | [],_,j,i,z=>by simp at z
 | .inl _ :: r,h,j,i,z=>by
  cases j with
  | zero=>simp at z
  | succ j=>exact mf (sh:=r) h j i (by simpa using z)
 | .inr _ :: r,h,_,_,_=>nomatch h
theorem HR {E:XK} {F:List D→Option (D × En)} (hc:dF ds1 sh dps=true) (h:tF K (p && iZ sh) ds ds1 dr (aq F fa) σ H Q):oz (spF K dps dr F) [] E (tFA K p ds ds1 sh fa) σ H Q:=by
 obtain ⟨Ox,en,R,t,en',e,hf,k⟩:=h
 unfold aq at hf
 obtain ⟨⟨as,en1⟩,h1,hf⟩:=Option.bind_eq_some_iff.mp hf
 obtain ⟨ts,h2,hf⟩:=Option.bind_eq_some_iff.mp hf
 obtain ⟨⟨r,outs⟩,h3,hf⟩:=Option.map_eq_some_iff.mp hf
 cases hf
 refine ⟨Ox,en,R,as,en1,e,h1,fun vs H1 R1 F0 P o=>?_⟩
 obtain ⟨cl,c1,c2,c3⟩:=iw hc
 obtain ⟨Rp,a1,a2,a3,a4⟩:=o.parts
 obtain ⟨tl,tg⟩:=jC h2
 have ol:=o.len
 have asl:∀ (j i:Nat),as[j]?=some (.inr i)→sh[j]?=some (.inr i):=fun j i z=>(a2 j i z).choose_spec.2.1
 have asr:∀ (j i:Nat),sh[j]?=some (.inr i)→as[j]?=some (.inr i):=fun j i z=>by
  cases q:as[j]? with
  | none =>
   have e1:as.length≤j:=List.getElem?_eq_none_iff.mp q
   have e2:j < sh.length:=(List.getElem?_eq_some_iff.mp z).1
   have:=o.shl
   omega
  | some x =>
   cases x with
   | inl t =>
    obtain ⟨_,_,_,e2,_⟩:=a1 j t q
    rw [z] at e2; cases e2
   | inr i' =>
    have:=asl j i' q
    rw [z] at this
    cases this
    rfl
 let Rq:Nat→AS:=fun j=>match sh[j]? with | some (.inr i)=>R1 i | _=>Rp j
 have rq1:∀ j i:Nat,sh[j]?=some (.inr i)→Rq j=R1 i:=fun j i z=>by show (match sh[j]? with | some (.inr i)=>R1 i | _=>Rp j)=R1 i; rw [z]
 have rq2:∀ j:Nat,(∀ i:Nat,sh[j]?≠some (.inr i))→Rq j=Rp j:=fun j z=>by
  show (match sh[j]? with | some (.inr i)=>R1 i | _=>Rp j)=Rp j
  split
  ·next i q=>exact absurd q (z i)
  ·rfl
 have rqc:∀ (j:Nat) a,Rq j a→(∃ i,sh[j]?=some (.inr i)∧R1 i a)∨Rp j a:=fun j a z=>by
  by_cases q:∃ i,sh[j]?=some (.inr i)
  ·obtain ⟨i,q⟩:=q
   rw [rq1 j i q] at z
   exact .inl ⟨i,q,z⟩
  ·rw [rq2 j fun i z=>q ⟨i,z⟩] at z
   exact .inr z
 let Oxp:AS:=fun a=>Ox a∨∃ i,R1 i a∧∀ j:Nat,sh[j]?≠some (.inr i)
 have sub:∀ a,Own Rq Oxp a→Own R1 (U F0 Ox) a:=fun a z=>by
  rcases z with ⟨j,z⟩ | z | ⟨i,z,_⟩
  ·rcases rqc j a z with ⟨i,_,z⟩ | z
   ·exact .inl ⟨i,z⟩
   ·exact .inr (.inl (a3 j a z))
  ·exact .inr (.inr z)
  ·exact .inl ⟨i,z⟩
 have ec:EnvOk K dps Oxp H1 (vs.map some) (ts.map some) Rq:=by
  refine ⟨fun j u hu=>?_,fun j j' a z z'=>?_,fun j a z z2=>?_,fun a z=>P.env.dom a (sub a z),by rw [List.length_map,List.length_map,tl,ol],?_⟩
  ·rw [List.getElem?_map] at hu
   obtain ⟨u',hu,eu⟩:=Option.map_eq_some_iff.mp hu
   cases eu
   rcases tg j u hu with q | ⟨i,q,qe⟩
   ·obtain ⟨v,d,b1,b2,b3⟩:=a1 j u q
    refine ⟨v,d,by rw [List.getElem?_map,b1]; rfl,c1 j d b2,?_⟩
    rw [rq2 j fun i z=>by rw [b2] at z; cases z]
    exact Ow.grow sub u (fun _ z=>z) b3
   ·obtain ⟨v,b1,b2,b3⟩:=a2 j i q
    obtain ⟨v',d,g1,g2,g3⟩:=P.env.at_ i u qe
    rw [b3] at g1
    cases g1
    obtain ⟨qd,q1,q2⟩:=c2 j i b2
    rw [g2] at q2
    cases q2
    refine ⟨v,d,by rw [List.getElem?_map,b1]; rfl,q1,?_⟩
    rw [rq1 j i b2]
    exact Ow.grow sub u (fun _ z=>z) g3
  ·rcases rqc j a z with ⟨i,q,z⟩ | z <;> rcases rqc j' a z' with ⟨i',q',z'⟩ | z'
   ·have:=P.env.dj i i' a z z'
    subst this
    exact c3 j j' i q q'
   ·exact absurd (.inl (a3 j' a z')) (P.env.dx i a z)
   ·exact absurd (.inl (a3 j a z)) (P.env.dx i' a z')
   ·exact a4 j j' a z z'
  ·rcases rqc j a z with ⟨i,q,z⟩ | z
   ·rcases z2 with z2 | ⟨i',z2,n⟩
    ·exact P.env.dx i a z (.inr z2)
    ·have:=P.env.dj i i' a z z2
     subst this
     exact n j q
   ·rcases z2 with z2 | ⟨i',z2,n⟩
    ·exact P.fx a (a3 j a z) z2
    ·exact P.env.dx i' a z2 (.inl (a3 j a z))
  ·have:=o.shl
   rw [List.length_map]
   omega
 rw [List.append_nil]
 refine ⟨Oxp,ts,Rq,r,outs,ec,h3,fun v H2 R2 Fr Pc oc=>?_⟩
 have outl:outs.length=as.length:=by rw [Pc.env.l1,List.length_map]; exact ol
 classical
 let R3:Nat→AS:=fun i=>if q:∃ j:Nat,sh[j]?=some (.inr i) then R2 q.choose else R1 i
 have r31:∀ (i j:Nat),sh[j]?=some (.inr i)→R3 i=R2 j:=fun i j z=>by
  have q:∃ j:Nat,sh[j]?=some (.inr i):=⟨j,z⟩
  have:q.choose=j:=c3 _ _ i q.choose_spec z
  show (if q:∃ j:Nat,sh[j]?=some (.inr i) then R2 q.choose else R1 i)=R2 j
  rw [dif_pos q,this]
 have r32:∀ i:Nat,(∀ j:Nat,sh[j]?≠some (.inr i))→R3 i=R1 i:=fun i z=>by
  show (if q:∃ j:Nat,sh[j]?=some (.inr i) then R2 q.choose else R1 i)=R1 i
  rw [dif_neg fun ⟨j,q⟩=>z j q]
 have r3c:∀ (i:Nat) a,R3 i a→(∃ j:Nat,sh[j]?=some (.inr i)∧R2 j a)∨((∀ j:Nat,sh[j]?≠some (.inr i))∧R1 i a):=fun i a z=>by
  by_cases q:∃ j:Nat,sh[j]?=some (.inr i)
  ·obtain ⟨j,q⟩:=q
   rw [r31 i j q] at z
   exact .inl ⟨j,q,z⟩
  ·rw [r32 i fun j z=>q ⟨j,z⟩] at z
   exact .inr ⟨fun j z=>q ⟨j,z⟩,z⟩
 have sub3:∀ a,Own R3 (U Fr Ox) a→Own R2 (U Fr Oxp) a:=fun a z=>by
  rcases z with ⟨i,z⟩ | z | z
  ·rcases r3c i a z with ⟨j,_,z⟩ | ⟨n,z⟩
   ·exact .inl ⟨j,z⟩
   ·exact .inr (.inr (.inr ⟨i,z,n⟩))
  ·exact .inr (.inl z)
  ·exact .inr (.inr (.inl z))
 have back:∀ a,(Fr a∨∃ j,R2 j a)→Own R1 (U F0 Ox) a∨H1 a=none:=fun a z=>by
  rcases Pc.own a z with ⟨j,z⟩ | z
  ·exact .inl (sub a (.inl ⟨j,z⟩))
  ·exact .inr z
 have back2:∀ a,(Fr a∨∃ j,R2 j a)→(F0 a∨∃ i,R1 i a)∨H1 a=none:=fun a z=>by
  rcases Pc.own a z with ⟨j,z⟩ | z
  ·rcases rqc j a z with ⟨i,_,z⟩ | z
   ·exact .inl (.inr ⟨i,z⟩)
   ·exact .inl (.inl (a3 j a z))
  ·exact .inr z
 have n1:∀ a,H1 a=none→H a=none:=fun a z=>by
  cases q:H a with
  | none=>rfl
  | some o =>
   obtain ⟨o',q'⟩:=P.dom a o q
   rw [z] at q'
   cases q'
 have rqsub:∀ j a,Rq j a→Own R1 (U F0 Ox) a:=fun j a z=>sub a (.inl ⟨j,z⟩)
 have env3:EnvOk K ds1 (U Fr Ox) H2 σ (wb as outs en1) R3:=by
  refine ⟨fun i u hu=>?_,fun i i' a z z'=>?_,fun i a z z2=>?_,fun a z=>Pc.env.dom a (sub3 a z),by rw [lZ]; exact P.env.l1,P.env.l2⟩
  ·by_cases q:∃ j:Nat,as[j]?=some (.inr i)
   ·obtain ⟨j,q⟩:=q
    obtain ⟨v,b1,b2,b3⟩:=a2 j i q
    have hil:i < en1.length:=by rw [P.env.l1]; exact (List.getElem?_eq_some_iff.mp b3).1
    rw [oq as outs en1 i j q (fun j' z=>c3 j' j i (asl j' i z) b2) outl hil] at hu
    obtain ⟨v',d,g1,g2,g3⟩:=Pc.env.at_ j u hu
    rw [List.getElem?_map,b1] at g1
    cases g1
    obtain ⟨qd,q1,q2⟩:=c2 j i b2
    rw [g2] at q1
    cases q1
    refine ⟨v,d,b3,q2,?_⟩
    rw [r31 i j b2]
    exact Ow.grow sub3 u (fun _ z=>z) g3
   ·rw [gW as outs en1 i fun j z=>q ⟨j,z⟩] at hu
    have ns:∀ j:Nat,sh[j]?≠some (.inr i):=fun j z=>q ⟨j,asr j i z⟩
    obtain ⟨v,d,g1,g2,g3⟩:=P.env.at_ i u hu
    refine ⟨v,d,g1,g2,?_⟩
    rw [r32 i ns]
    refine Ow.mv (G:=R1 i) ⟨fun a o q z=>Pc.keep a o q fun j zj=>?_,fun a z=>?_⟩ u (fun _ z=>z) g3
    ·rcases z with z | z
     ·exact z (rqsub j a zj)
     ·rcases rqc j a zj with ⟨i',q',z'⟩ | z'
      ·have:=P.env.dj i i' a z z'
       subst this
       exact ns j q'
      ·exact P.env.dx i a z (.inl (a3 j a z'))
    ·rcases z with ⟨i',z⟩ | z | z
     ·rcases r3c i' a z with ⟨j,_,z⟩ | ⟨n,z⟩
      ·exact back a (.inr ⟨j,z⟩)
      ·exact .inl (.inl ⟨i',z⟩)
     ·exact back a (.inl z)
     ·exact .inl (.inr (.inr z))
  ·rcases r3c i a z with ⟨j,q,z⟩ | ⟨n,z⟩ <;> rcases r3c i' a z' with ⟨j',q',z'⟩ | ⟨n',z'⟩
   ·have:=Pc.env.dj j j' a z z'
    subst this
    rw [q] at q'
    cases q'
    rfl
   ·exact absurd (.inr (.inr ⟨i',z',n'⟩)) (Pc.env.dx j a z)
   ·exact absurd (.inr (.inr ⟨i,z,n⟩)) (Pc.env.dx j' a z')
   ·exact P.env.dj i i' a z z'
  ·rcases r3c i a z with ⟨j,q,z⟩ | ⟨n,z⟩
   ·exact Pc.env.dx j a z (z2.imp id .inl)
   ·rcases z2 with z2 | z2
    ·exact Pc.fx a z2 (.inr ⟨i,z,n⟩)
    ·exact P.env.dx i a z (.inr z2)
 refine k v H2 R3 Fr ⟨env3,fun a z z2=>Pc.fx a z (.inl z2),fun a o q n=>?_,fun a z=>?_,fun a o q=>?_,fun hp=>?_⟩ (Ow.grow sub3 r (fun _ z=>z) oc)
 ·refine Pc.keep a o (P.keep a o q n) fun j z=>?_
  have nn:∀ i,¬ R1 i a:=fun i z=>by
   rcases P.own a (.inr ⟨i,z⟩) with ⟨i',z⟩ | z
   ·exact n i' z
   ·rw [q] at z; cases z
  rcases rqc j a z with ⟨i,_,z⟩ | z
  ·exact nn i z
  ·rcases P.own a (.inl (a3 j a z)) with ⟨i',z⟩ | z
   ·exact n i' z
   ·rw [q] at z; cases z
 ·have:(F0 a∨∃ i,R1 i a)∨H1 a=none:=by
   rcases z with z | ⟨i,z⟩
   ·exact back2 a (.inl z)
   ·rcases r3c i a z with ⟨j,_,z⟩ | ⟨n,z⟩
    ·exact back2 a (.inr ⟨j,z⟩)
    ·exact .inl (.inr ⟨i,z⟩)
  rcases this with z | z
  ·exact P.own a z
  ·exact .inr (n1 a z)
 ·obtain ⟨o',q'⟩:=P.dom a o q
  exact Pc.dom a o' q'
 ·obtain ⟨hp1,hp2⟩:=(Bool.and_eq_true _ _ ▸ hp:p=true∧iZ sh=true)
  obtain ⟨b1,b2,b3⟩:=P.pure hp1
  have ns:=mf hp2
  refine ⟨?_,?_,fun a o q=>?_⟩
  ·show wb as outs en1=en
   rw [← b1]
   refine List.ext_getElem? fun i=>?_
   exact gW as outs en1 i fun j z=>ns j i (asl j i z)
  ·rw [← b2]
   funext i
   exact r32 i fun j=>ns j i
  ·refine Pc.keep a o (b3 a o q) fun j z=>?_
   rcases rqc j a z with ⟨i,z,_⟩ | z
   ·exact ns j i z
   ·have zf:=a3 j a z
    rcases P.own a (.inl zf) with ⟨i,z2⟩ | z2
    ·rw [← b2] at z2
     exact P.env.dx i a z2 (.inl zf)
    ·rw [q] at z2; cases z2
end
end L2
namespace L2
open PySem PySem.Spec PyProof.Rows
inductive Fl where
 | nx (en:En) | rt (t:D) (en:En) | ct (en:En)
abbrev MS:=En→Option Fl
structure Jd where
 lk:List Nat
 dsr:List Nat
 dr:Nat
 dsl:List Nat
structure PostS (K:PySem.W.Frag) (lk:List Nat) (ds':List Nat) (Ox:AS) (σ:St) (H:Hp) (R:Nat→AS) (σ':St) (en':En) (H':Hp) (R':Nat→AS) (F:AS):Prop where
 env:EnvOk K ds' (U F Ox) H' σ' en' R'
 fx:∀ a,F a→¬ Ox a
 keep:∀ a o,H a=some o→(∀ i,¬ R i a)→H' a=some o
 own:∀ a,(F a∨∃ i,R' i a)→(∃ i,R i a)∨H a=none
 dom:∀ a o,H a=some o→∃ o',H' a=some o'
 lk:∀ j∈lk,σ'[j]?=σ[j]?
def tFS (K:PySem.W.Frag) (J:Jd) (ds ds':List Nat) (f:MS):TS:=fun D σ H =>
 ∃ Ox en R fl,EnvOk K ds Ox H σ en R∧f en=some fl∧match fl with
  | .nx en'=>∀ σ' H' R',PostS K J.lk ds' Ox σ H R σ' en' H' R' NoA→D.nx σ' H'
  | .ct en'=>∀ σ' H' R',PostS K J.lk J.dsl Ox σ H R σ' en' H' R' NoA→D.ct σ' H'
  | .rt t en'=>∀ v σ' H' R' F,PostS K J.lk J.dsr Ox σ H R σ' en' H' R' F→Ow K (Own R' (U F Ox)) H' t J.dr v F→D.rt v H'
def al (f g:MS):MS:=fun en=>(f en).bind fun fl=>match fl with
 | .nx en1=>g en1
 | .rt t en1=>some (.rt t en1)
 | .ct en1=>some (.ct en1)
def ap (i:Nat) (f:ME):MS:=fun en=>(f en).map fun r=>.nx (r.2.set i (some r.1))
def bN (f:ME):MS:=fun en=>(f en).map fun r=>.nx r.2
def aF (f:ME):MS:=fun en=>(f en).map fun r=>.rt r.1 r.2
def JT:MS:=fun en=>some (.rt .none en)
def bt:MS:=fun en=>some (.nx en)
def JU:MS:=fun en=>some (.ct en)
def fV:MS:=fun _=>none
def sIf (c:MT) (f g:MS):MS:=fun en=>(c en).bind fun r=>if r.1 then f r.2 else g r.2
section
variable {K:PySem.W.Frag} {p p1 p2:Bool} {J:Jd} {lk:List Nat} {ds ds0 ds1 ds2 ds':List Nat} {Ox Ox' O O':AS} {H H':Hp} {σ σ':St} {en en' en1 en2:En} {R R':Nat→AS} {d d' d1 d2 dr:Nat} {t t1 t2:D} {f f1 f2:ME} {c:MT} {m m1 m2:MS} {i:Nat} {D:Ends}
theorem PostS.refl (e:EnvOk K ds Ox H σ en R):PostS K lk ds Ox σ H R σ en H R NoA :=
 ⟨by rw [gk]; exact e,fun _ z=>z.elim,fun _ _ q _=>q,fun a z=>z.elim (fun z=>z.elim) .inl,fun a o q=>⟨o,q⟩,fun _ _=>rfl⟩
theorem PostS.env0 {F:AS} (P:PostS K lk ds' Ox σ H R σ' en' H' R' F):EnvOk K ds' Ox H' σ' en' R':=P.env.fewer fun a z=>.inr z
theorem PostS.less {F F':AS} (P:PostS K lk ds' Ox σ H R σ' en' H' R' F) (h:∀ a,F' a→F a):PostS K lk ds' Ox σ H R σ' en' H' R' F' :=
 ⟨P.env.fewer fun a z=>z.imp (h a) id,fun a z=>P.fx a (h a z),P.keep,fun a z=>P.own a (z.imp (h a) id),P.dom,P.lk⟩
theorem PostS.after {σ1 σ2:St} {H1:Hp} {R1 R2:Nat→AS} {F:AS} (P1:PostS K lk ds1 Ox σ H R σ1 en1 H1 R1 NoA) (P2:PostS K lk ds2 Ox σ1 H1 R1 σ2 en2 H' R2 F):PostS K lk ds2 Ox σ H R σ2 en2 H' R2 F:=by
 have n1:∀ a,H1 a=none→H a=none:=fun a z=>by
  cases q:H a with
  | none=>rfl
  | some o =>
   obtain ⟨o',q'⟩:=P1.dom a o q
   rw [z] at q'
   cases q'
 refine ⟨P2.env,P2.fx,fun a o q n=>?_,fun a z=>?_,fun a o q=>?_,fun j hj=>(P2.lk j hj).trans (P1.lk j hj)⟩
 ·refine P2.keep a o (P1.keep a o q n) fun i z=>?_
  rcases P1.own a (.inr ⟨i,z⟩) with ⟨j,z⟩ | z
  ·exact n j z
  ·rw [q] at z; cases z
 ·rcases P2.own a z with z | z
  ·exact P1.own a (.inr z)
  ·exact .inr (n1 a z)
 ·obtain ⟨o',q'⟩:=P1.dom a o q
  exact P2.dom a o' q'
theorem Post.s {F:AS} (P:Post K p ds' Ox σ H en R en' H' R' F):PostS K lk ds' Ox σ H R σ en' H' R' F:=⟨P.env,P.fx,P.keep,P.own,P.dom,fun _ _=>rfl⟩
theorem PostS.cut {F:AS} (P:PostS K lk ds1 Ox σ H R σ' en' H' R' F) (hd:leD ds2 ds1=true):∃ R2,(∀ i a,R2 i a→R' i a)∧PostS K lk ds2 Ox σ H R σ' en' H' R2 F:=by
 obtain ⟨R2,s1,e2⟩:=P.env.cut (dD hd).1 (dD hd).2
 exact ⟨R2,s1,e2,P.fx,P.keep,fun a z=>P.own a (z.imp id fun ⟨i,z⟩=>⟨i,s1 i a z⟩),P.dom,P.lk⟩
theorem Hh (h:tFS K J ds ds bt D σ H):B0 D σ H:=by
 obtain ⟨Ox,en,R,fl,e,hf,k⟩:=h
 cases hf
 exact k σ H R (PostS.refl e)
theorem Hf (h:tFS K J ds ds2 (al m1 m2) D σ H):FU (tFS K J ds ds1 m1) (tFS K J ds1 ds2 m2) D σ H:=by
 obtain ⟨Ox,en,R,fl,e,hf,k⟩:=h
 unfold al at hf
 obtain ⟨fl1,h1,hf⟩:=Option.bind_eq_some_iff.mp hf
 refine ⟨Ox,en,R,fl1,e,h1,?_⟩
 cases fl1 with
 | nx en1 =>
  intro σ1 H1 R1 P1
  refine ⟨Ox,en1,R1,fl,P1.env0,hf,?_⟩
  cases fl with
  | nx en2=>exact fun σ2 H2 R2 P2=>k σ2 H2 R2 (P1.after P2)
  | ct en2=>exact fun σ2 H2 R2 P2=>k σ2 H2 R2 (P1.after P2)
  | rt t en2=>exact fun v σ2 H2 R2 F P2 o=>k v σ2 H2 R2 F (P1.after P2) o
 | ct en1=>cases hf; exact k
 | rt t en1=>cases hf; exact k
theorem He (hd:leD ds1 ds2=true) (h:tFS K J ds ds1 m D σ H):tFS K J ds ds2 m D σ H:=by
 obtain ⟨Ox,en,R,fl,e,hf,k⟩:=h
 refine ⟨Ox,en,R,fl,e,hf,?_⟩
 cases fl with
 | nx en2 =>
  intro σ2 H2 R2 P2
  obtain ⟨R3,_,P3⟩:=P2.cut hd
  exact k σ2 H2 R3 P3
 | ct en2=>exact k
 | rt t en2=>exact k
theorem Hj (h:tFS K J ds ds1 (bN f) D σ H):B1 (tF K p ds ds1 d f) D σ H:=by
 obtain ⟨Ox,en,R,fl,e,hf,k⟩:=h
 unfold bN at hf
 obtain ⟨⟨t,en1⟩,h1,hf⟩:=Option.map_eq_some_iff.mp hf
 cases hf
 exact ⟨Ox,en,R,t,en1,e,h1,fun v H1 R1 F P o=>k σ H1 R1 (P.s.less fun _ z=>z.elim)⟩
theorem Hg (hd:leD J.dsr ds1=true) (h:tFS K J ds ds' (aF f) D σ H):FV (tF K p ds ds1 J.dr f) D σ H:=by
 obtain ⟨Ox,en,R,fl,e,hf,k⟩:=h
 unfold aF at hf
 obtain ⟨⟨t,en1⟩,h1,hf⟩:=Option.map_eq_some_iff.mp hf
 cases hf
 refine ⟨Ox,en,R,t,en1,e,h1,fun v H1 R1 F P o=>?_⟩
 obtain ⟨R2,s1,P2⟩:=(P.s (lk:=J.lk)).cut hd
 exact k v σ H1 R2 F P2 (Ow.grow (fun a z=>z.imp (fun ⟨i,z⟩=>⟨i,s1 i a z⟩) id) t (fun _ z=>z) o)
theorem wd (h:tFS K J ds ds' fV D σ H):tH D σ H:=by
 obtain ⟨Ox,en,R,fl,e,hf,k⟩:=h
 cases hf
theorem IH (h:tFS K J ds ds2 (sIf c m1 m2) D σ H):FZ (tFT K p ds ds1 c) (tFS K J ds1 ds2 m1) (tFS K J ds1 ds2 m2) D σ H:=by
 obtain ⟨Ox,en,R,fl,e,hf,k⟩:=h
 unfold sIf at hf
 obtain ⟨⟨b,en1⟩,h1,hf⟩:=Option.bind_eq_some_iff.mp hf
 refine ⟨Ox,en,R,b,en1,e,h1,fun H1 R1 P1=>?_⟩
 have fin:∀ m,m en1=some fl→tFS K J ds1 ds2 m D σ H1:=fun m hm=>by
  refine ⟨Ox,en1,R1,fl,P1.env0,hm,?_⟩
  cases fl with
  | nx en2=>exact fun σ2 H2 R2 P2=>k σ2 H2 R2 (P1.s.after P2)
  | ct en2=>exact fun σ2 H2 R2 P2=>k σ2 H2 R2 (P1.s.after P2)
  | rt t en2=>exact fun v σ2 H2 R2 F P2 o=>k v σ2 H2 R2 F (P1.s.after P2) o
 cases b with
 | true=>exact fin m1 hf
 | false=>exact fin m2 hf
theorem PostS.store {F:AS} {v:V} (P:Post K p ds1 Ox σ H en R en1 H' R' F) (o:Ow K (Own R' (U F Ox)) H' t d v F) (hi:i < ds1.length) (hl:i ∉ lk) :
  PostS K lk (ds1.set i d) Ox σ H R (σ.set i (some v)) (en1.set i (some t)) H' (fun j=>if j=i then F else R' j) NoA:=by
 have l1:=P.env.l1
 have l2:=P.env.l2
 have sub:∀ a,Own (fun j=>if j=i then F else R' j) Ox a→Own R' (U F Ox) a:=fun a z=>by
  rcases z with ⟨j,z⟩ | z
  ·by_cases hj:j=i
   ·rw [if_pos hj] at z; exact .inr (.inl z)
   ·rw [if_neg hj] at z; exact .inl ⟨j,z⟩
  ·exact .inr (.inr z)
 refine ⟨?_,fun _ z=>z.elim,P.keep,fun a z=>?_,P.dom,fun j hj=>?_⟩
 ·rw [gk]
  refine ⟨fun j u hu=>?_,fun j j' a z z'=>?_,fun j a z z2=>?_,fun a z=>P.env.dom a (sub a z),by rw [List.length_set,List.length_set]; exact l1,by rw [List.length_set,List.length_set]; exact l2⟩
  ·by_cases hj:j=i
   ·subst hj
    rw [List.getElem?_set_self (by omega)] at hu
    cases hu
    refine ⟨v,d,List.getElem?_set_self (by omega),List.getElem?_set_self hi,?_⟩
    rw [if_pos rfl]
    exact Ow.grow sub t (fun _ z=>z) o
   ·rw [List.getElem?_set_ne (Ne.symm hj)] at hu
    obtain ⟨v',d',g1,g2,g3⟩:=P.env.at_ j u hu
    refine ⟨v',d',by rw [List.getElem?_set_ne (Ne.symm hj)]; exact g1,by rw [List.getElem?_set_ne (Ne.symm hj)]; exact g2,?_⟩
    rw [if_neg hj]
    exact Ow.grow sub u (fun _ z=>z) g3
  ·by_cases hj:j=i <;> by_cases hj':j'=i
   ·rw [hj,hj']
   ·rw [if_pos hj] at z; rw [if_neg hj'] at z'
    exact absurd (.inl z) (P.env.dx j' a z')
   ·rw [if_neg hj] at z; rw [if_pos hj'] at z'
    exact absurd (.inl z') (P.env.dx j a z)
   ·rw [if_neg hj] at z; rw [if_neg hj'] at z'
    exact P.env.dj j j' a z z'
  ·by_cases hj:j=i
   ·rw [if_pos hj] at z
    exact P.fx a z z2
   ·rw [if_neg hj] at z
    exact P.env.dx j a z (.inr z2)
 ·rcases z with z | ⟨j,z⟩
  ·exact z.elim
  ·by_cases hj:j=i
   ·rw [if_pos hj] at z; exact P.own a (.inl z)
   ·rw [if_neg hj] at z; exact P.own a (.inr ⟨j,z⟩)
 ·rw [List.getElem?_set_ne]
  intro z
  subst z
  exact hl hj
theorem uC (hi:i < ds1.length) (hl:i ∉ J.lk) (h:tFS K J ds (ds1.set i d) (ap i f) D σ H):mY (tF K p ds ds1 d f) (mx i) D σ H:=by
 obtain ⟨Ox,en,R,fl,e,hf,k⟩:=h
 unfold ap at hf
 obtain ⟨⟨t,en1⟩,h1,hf⟩:=Option.map_eq_some_iff.mp hf
 cases hf
 exact ⟨Ox,en,R,t,en1,e,h1,fun v H1 R1 F P o=>k _ H1 _ (PostS.store P o hi hl)⟩
abbrev MG:=PyData→En→Option En
def tFG (K:PySem.W.Frag) (lk:List Nat) (ds ds':List Nat) (g:MG):TG:=fun v σ H Q =>
 ∃ Ox en R t en',EnvOk K ds Ox H σ en R∧Ow K (Own R Ox) H t 0 v NoA∧g t en=some en'∧∀ σ' R',PostS K lk ds' Ox σ H R σ' en' H R' NoA→(∀ j∈lk,R' j=R j)→Q σ' H
def gb (K:PySem.W.Frag) (lk:List Nat) (ds ds':List Nat) (g:List PyData→En→Option En):TGs:=fun vs σ H Q =>
 ∃ Ox en R ts en',EnvOk K ds Ox H σ en R∧Ows K (Own R Ox) H ts 0 vs NoA∧g ts en=some en'∧∀ σ' R',PostS K lk ds' Ox σ H R σ' en' H R' NoA→(∀ j∈lk,R' j=R j)→Q σ' H
def gN (i:Nat):MG:=fun t en=>some (en.set i (some t))
def gs0:List PyData→En→Option En:=fun ts en=>match ts with
 | []=>some en
 | _=>none
def gsC (g:MG) (r:List PyData→En→Option En):List PyData→En→Option En:=fun ts en=>match ts with
 | t :: ts=>(g t en).bind fun en1=>r ts en1
 | []=>none
def gT (g:List PyData→En→Option En):MG:=fun t en=>match t with
 | .tuple ts=>g ts en
 | _=>none
variable {g g1:MG} {gs:List PyData→En→Option En} {v:V} {vs:List V} {QS:St→Hp→Prop}
theorem DJ (hi:i < ds.length) (hl:i ∉ lk) (h:tFG K lk ds (ds.set i 0) (gN i) v σ H QS):mx i v σ H QS:=by
 obtain ⟨Ox,en,R,t,en',e,o,hf,k⟩:=h
 cases hf
 exact k _ _ (PostS.store (p:=true) (Post.refl e) (by rw [show (fun _=>False:AS)=NoA from rfl,gk]; exact o) hi hl) fun j hj=>if_neg (fun (z:j=i)=>hl (by rw [← z]; exact hj))
theorem DH (h:gb K lk ds ds gs0 vs σ H QS):G8 vs σ H QS:=by
 obtain ⟨Ox,en,R,ts,en',e,o,hf,k⟩:=h
 cases ts with
 | nil=>cases hf; exact ⟨o,k σ R (PostS.refl e) fun _ _=>rfl⟩
 | cons t ts=>cases hf
theorem wp (h:gb K lk ds ds2 (gsC g gs) vs σ H QS):Cl (tFG K lk ds ds1 g) (gb K lk ds1 ds2 gs) vs σ H QS:=by
 obtain ⟨Ox,en,R,ts,en',e,o,hf,k⟩:=h
 cases ts with
 | nil=>cases hf
 | cons t ts =>
  obtain ⟨en1,h1,h2⟩:=Option.bind_eq_some_iff.mp hf
  obtain ⟨v,r,F1,F2,e1,s1,s2,s3,o1,o2⟩:=o
  refine ⟨v,r,e1,Ox,en,R,t,en1,e,Ow.any0 t o1,h1,fun σ1 R1 P1 r1=>?_⟩
  refine ⟨Ox,en1,R1,ts,en',P1.env0,Ows.any0 ts (Ows.mv (G:=NoA) ⟨fun a o q _=>q,fun a z=>?_⟩ ts (F:=NoA) (fun _ z=>z) (Ows.any0 ts o2)),h2,fun σ2 R2 P2 r2=>k σ2 R2 (P1.after P2) fun j hj=>(r2 j hj).trans (r1 j hj)⟩
  rcases z with z | z
  ·exact (P1.own a (.inr z)).imp .inl id
  ·exact .inl (.inr z)
theorem Ht {n:Nat} (hn:∀ ts en,(∃ en',gs ts en=some en')→ts.length=n) (h:tFG K lk ds ds1 (gT gs) v σ H QS):G7 K n (gb K lk ds ds1 gs) v σ H QS:=by
 obtain ⟨Ox,en,R,t,en',e,o,hf,k⟩:=h
 cases t with
 | tuple ts =>
  have hf':gs ts en=some en':=hf
  obtain ⟨a,vs,e1,⟨_,h1,h2⟩ | ⟨z,_⟩⟩:=o
  ·refine ⟨a,vs,e1,h1.sq,?_,Ox,en,R,ts,en',e,h2,hf',k⟩
   rw [← hn ts en ⟨en',hf'⟩]
   have:∀ {ts:List PyData} {vs:List V} {F:AS},Ows K (Own R Ox) H ts 0 vs F→vs.length=ts.length:=fun {ts}=>by
    induction ts with
    | nil=>intro vs F h; rw [show vs=[] from h]; rfl
    | cons t ts ih =>
     intro vs F h
     obtain ⟨v,r,F1,F2,e,h1,h2,h3,h4,h5⟩:=h
     rw [e,List.length_cons,List.length_cons,ih h5]
   exact this h2
  ·exact absurd rfl z
 | _=>cases hf
abbrev MI:=En→Option (List PyData × En)
def ku (K:PySem.W.Frag) (O:AS) (H0:Hp) (J:It) (ts:List PyData):Prop :=
 ∀ (i:Nat) (H:Hp) (O1:AS),(∀ a o,H0 a=some o→¬ O a→H a=some o)→(∀ a,O1 a→O a∨H0 a=none)→(∀ a,O1 a→∃ o,H a=some o) →
  (∀ t,ts[i]?=some t→J.go i H∧∀ x H1,J.yld i H x H1→(∀ a o,H a=some o→H1 a=some o)∧Ow K O1 H1 t 0 x NoA)∧(ts.length=i→J.stop i H)
def tFI (K:PySem.W.Frag) (p:Bool) (ds ds':List Nat) (f:MI):TI:=fun σ H RJ =>
 ∃ Ox en R ts en',EnvOk K ds Ox H σ en R∧f en=some (ts,en')∧∀ J H' R',Post K p ds' Ox σ H en R en' H' R' NoA→ku K (Own R' Ox) H' J ts→RJ J H'
def cB (g:MG) (b:MS):List PyData→En→Option Fl
 | [],en=>some (.nx en)
 | t :: ts,en=>(g t en).bind fun en1=>(b en1).bind fun fl=>match fl with
  | .nx en2=>cB g b ts en2
  | .ct en2=>cB g b ts en2
  | .rt r en2=>some (.rt r en2)
def c9 (fi:MI) (g:MG) (b:MS):MS:=fun en=>(fi en).bind fun r=>cB g b r.1 r.2
theorem Hi {fi:MI} (h:tFS K J ds ds1 (c9 fi g m) D σ H):F7 (tFI K p ds ds1 fi) (tFG K J.lk ds1 ds2 g) (tFS K { J with dsl:=ds1 } ds2 ds1 m) D σ H:=by
 obtain ⟨Ox,en,R,fl,e,hf,k⟩:=h
 unfold c9 at hf
 obtain ⟨⟨ts,en1⟩,h1,hf⟩:=Option.bind_eq_some_iff.mp hf
 refine ⟨Ox,en,R,ts,en1,e,h1,fun Jt H1 R1 P1 wk=>?_⟩
 refine ⟨fun i n σ' H'=>∃ en' R',n=ts.length - i∧i≤ts.length∧PostS K J.lk ds1 Ox σ H1 R1 σ' en' H' R' NoA∧cB g m (ts.drop i) en'=some fl,⟨_,en1,R1,rfl,Nat.zero_le _,PostS.refl P1.env0,hf⟩,?_⟩
 rintro i n σ2 H2 ⟨en2,R2,rfl,hi,P2,hr⟩
 obtain ⟨w1,w2⟩:=wk i H2 (Own R2 Ox) (fun a o q z=>P2.keep a o q fun j zj=>z (.inl ⟨j,zj⟩)) (fun a z=>by
  rcases z with z | z
  ·exact (P2.own a (.inr z)).imp .inl id
  ·exact .inl (.inr z)) fun a z=>P2.env0.dom a z
 by_cases hlt:i < ts.length
 ·obtain ⟨go,yl⟩:=w1 ts[i] (List.getElem?_eq_getElem hlt)
  have hd:ts.drop i=ts[i] :: ts.drop (i+1):=List.drop_eq_getElem_cons hlt
  rw [hd] at hr
  obtain ⟨en3,h3,hr⟩:=Option.bind_eq_some_iff.mp hr
  obtain ⟨fl2,h4,hr⟩:=Option.bind_eq_some_iff.mp hr
  refine .inr ⟨go,fun σ' H'=>∃ en' R',PostS K J.lk ds1 Ox σ H1 R1 σ' en' H' R' NoA∧cB g m (ts.drop (i+1)) en'=some fl,fun σ' H' ⟨en',R',P',h'⟩=>⟨ts.length - (i+1),by omega,en',R',rfl,hlt,P',h'⟩,fun x H3 y=>?_⟩
  obtain ⟨gr,ox⟩:=yl x H3 y
  have P3:Post K true ds1 Ox σ2 H2 en2 R2 en2 H3 R2 NoA:=Post.new P2.env0 gr fun _ z=>z.elim
  refine ⟨Ox,en2,R2,ts[i],en3,P3.env0,ox,h3,fun σ4 R4 P4 _=>?_⟩
  have P4':=(P2.after P3.s).after P4
  refine ⟨Ox,en3,R4,fl2,P4.env0,h4,?_⟩
  cases fl2 with
  | nx en5=>exact fun σ5 H5 R5 P5=>⟨en5,R5,P4'.after P5,hr⟩
  | ct en5=>exact fun σ5 H5 R5 P5=>⟨en5,R5,P4'.after P5,hr⟩
  | rt t en5 =>
   cases hr
   exact fun v σ5 H5 R5 F P5 o=>k v σ5 H5 R5 F (P1.s.after (P4'.after P5)) o
 ·have e2:i=ts.length:=by omega
  subst e2
  rw [List.drop_length] at hr
  cases hr
  exact .inl ⟨w2 rfl,k σ2 H2 R2 (P1.s.after P2)⟩
def whN (c:MT) (b:MS):Nat→En→Option Fl
 | 0,_=>none
 | n+1,en=>(c en).bind fun r=>if r.1 then (b r.2).bind fun fl=>match fl with
   | .nx en2=>whN c b n en2
   | .ct en2=>whN c b n en2
   | .rt t en2=>some (.rt t en2)
  else some (.nx r.2)
open Classical in
noncomputable def bq (c:MT) (b:MS):MS:=fun en=>if h:∃ n fl,whN c b n en=some fl then some h.choose_spec.choose else none
theorem iC {b:MS} {fl:Fl} (h:bq c b en=some fl):∃ n,whN c b n en=some fl:=by
 unfold bq at h
 split at h
 ·next q =>
  cases h
  exact ⟨q.choose,q.choose_spec.choose_spec⟩
 ·cases h
theorem wa (h:tFS K J ds ds1 (bq c m) D σ H):tG (tFT K p ds ds1 c) (tFS K { J with dsl:=ds } ds1 ds m) D σ H:=by
 obtain ⟨Ox,en,R,fl,e,hf,k⟩:=h
 obtain ⟨n0,hn⟩:=iC hf
 refine ⟨fun n σ' H'=>∃ en' R',PostS K J.lk ds Ox σ H R σ' en' H' R' NoA∧whN c m n en'=some fl,⟨n0,en,R,PostS.refl e,hn⟩,?_⟩
 rintro n σ2 H2 ⟨en2,R2,P2,hr⟩
 cases n with
 | zero=>cases hr
 | succ n =>
  unfold whN at hr
  obtain ⟨⟨b,en3⟩,h3,hr⟩:=Option.bind_eq_some_iff.mp hr
  refine ⟨Ox,en2,R2,b,en3,P2.env0,h3,fun H3 R3 P3=>?_⟩
  cases b with
  | false =>
   cases hr
   rw [if_neg Bool.false_ne_true]
   exact k σ2 H3 R3 (P2.after P3.s)
  | true =>
   rw [if_pos rfl] at hr ⊢
   obtain ⟨fl2,h4,hr⟩:=Option.bind_eq_some_iff.mp hr
   refine ⟨fun σ' H'=>∃ en' R',PostS K J.lk ds Ox σ H R σ' en' H' R' NoA∧whN c m n en'=some fl,fun σ' H' q=>⟨n,Nat.lt_succ_self _,q⟩,Ox,en3,R3,fl2,P3.env0,h4,?_⟩
   have P3':=P2.after (P3.s (lk:=J.lk))
   cases fl2 with
   | nx en5=>exact fun σ5 H5 R5 P5=>⟨en5,R5,P3'.after P5,hr⟩
   | ct en5=>exact fun σ5 H5 R5 P5=>⟨en5,R5,P3'.after P5,hr⟩
   | rt t en5 =>
    cases hr
    exact fun v σ5 H5 R5 F P5 o=>k v σ5 H5 R5 F (P3'.after P5) o
end
end L2
namespace L2
open PySem PySem.Spec PyProof.Rows
def lcF (g:MG) (c:MT) (f:ME):List D→List D→En→Option (List D × En)
 | [],acc,en=>some (acc,en)
 | t :: ts,acc,en=>(g t en).bind fun en1=>(c en1).bind fun r=>if r.1 then (f r.2).bind fun q=>if acc.length < sizeLine then lcF g c f ts (acc++[q.1]) q.2 else none else lcF g c f ts acc r.2
def ck (js:List (Option Nat)) (en:En):En:=js.map fun j=>match j with
 | some j=>(en[j]?).join
 | none=>none
def wbB:List (Option Nat)→En→En→En
 | some j :: js,o :: r,en=>wbB js r (en.set j o)
 | none :: js,_ :: r,en=>wbB js r en
 | _,_,en=>en
def eLC (q:Bool) (fi:MI) (g:MG) (c:MT) (f:ME) (js:List (Option Nat)):ME:=fun en=>(fi en).bind fun r=>(lcF g c f r.1 [] (ck js r.2)).map fun z=>(.list z.1,if q then r.2 else wbB js z.2 r.2)
def gj (ds:List Nat):List (Option Nat)→List Nat→Bool
 | [],[]=>true
 | some j :: js,d :: r=>decide (ds[j]?=some d) && (decide (some j ∉ js) && gj ds js r)
 | none :: js,_ :: r=>gj ds js r
 | _,_=>false
section
variable {K:PySem.W.Frag} {p p1 p2 q:Bool} {lk:List Nat} {ds ds0 ds1 ds2 ds' dsi:List Nat} {Ox Ox' O O':AS} {H H':Hp} {σ σ':St} {en en' en1 en2:En} {R R':Nat→AS} {d d' d1 d2 dr:Nat} {t t1 t2:D} {Q:VK} {f f1 f2:ME} {c:MT} {g:MG} {fi:MI} {i:Nat} {js:List (Option Nat)}
theorem lL:∀ {js:List (Option Nat)} {dsi:List Nat},gj ds js dsi=true→dsi.length=js.length∧(∀ (k j:Nat),js[k]?=some (some j)→∃ d,dsi[k]?=some d∧ds[j]?=some d)∧(∀ (k k' j:Nat),js[k]?=some (some j)→js[k']?=some (some j)→k=k')
 | [],[],_=>⟨rfl,fun k j z=>by simp at z,fun k k' j z=>by simp at z⟩
 | some j0 :: js,d :: r,h=>by
  unfold gj at h
  rw [Bool.and_eq_true,Bool.and_eq_true] at h
  obtain ⟨h1,h2,h3⟩:=h
  obtain ⟨a,b,c⟩:=lL h3
  have n:=of_decide_eq_true h2
  refine ⟨by rw [List.length_cons,List.length_cons,a],fun k j z=>?_,fun k k' j z z'=>?_⟩
  ·cases k with
   | zero=>simp at z; subst z; exact ⟨d,rfl,of_decide_eq_true h1⟩
   | succ k=>exact b k j (by simpa using z)
  ·cases k with
   | zero =>
    simp at z
    subst z
    cases k' with
    | zero=>rfl
    | succ k'=>exact absurd (List.mem_of_getElem? (by simpa using z':js[k']?=some (some j0))) n
   | succ k =>
    cases k' with
    | zero =>
     simp at z'
     subst z'
     exact absurd (List.mem_of_getElem? (by simpa using z:js[k]?=some (some j0))) n
    | succ k'=>rw [c k k' j (by simpa using z) (by simpa using z')]
 | none :: js,d :: r,h=>by
  unfold gj at h
  obtain ⟨a,b,c⟩:=lL h
  refine ⟨by rw [List.length_cons,List.length_cons,a],fun k j z=>?_,fun k k' j z z'=>?_⟩
  ·cases k with
   | zero=>simp at z
   | succ k=>exact b k j (by simpa using z)
  ·cases k with
   | zero=>simp at z
   | succ k =>
    cases k' with
    | zero=>simp at z'
    | succ k'=>rw [c k k' j (by simpa using z) (by simpa using z')]
 | [],_ :: _,h=>nomatch h
 | some _ :: _,[],h=>nomatch h
 | none :: _,[],h=>nomatch h
theorem mX:∀ (js:List (Option Nat)) (r en:En),(wbB js r en).length=en.length
 | [],_,_=>by unfold wbB; rfl
 | some _ :: _,[],_=>by unfold wbB; rfl
 | none :: _,[],_=>by unfold wbB; rfl
 | some j :: js,o :: r,en=>by unfold wbB; rw [mX js r _,List.length_set]
 | none :: js,o :: r,en=>by unfold wbB; exact mX js r _
theorem kJ:∀ (js:List (Option Nat)) (r en:En) (i:Nat),(∀ k:Nat,js[k]?≠some (some i))→(wbB js r en)[i]?=en[i]?
 | [],_,_,_,_=>by unfold wbB; rfl
 | some _ :: _,[],_,_,_=>by unfold wbB; rfl
 | none :: _,[],_,_,_=>by unfold wbB; rfl
 | none :: js,o :: r,en,i,h=>by unfold wbB; exact kJ js r en i fun j=>h (j+1)
 | some k :: js,o :: r,en,i,h=>by
  unfold wbB
  rw [kJ js r _ i fun j=>h (j+1),List.getElem?_set_ne]
  intro e
  subst e
  exact h 0 rfl
theorem oG:∀ (js:List (Option Nat)) (r en:En) (i k:Nat),js[k]?=some (some i)→(∀ k':Nat,js[k']?=some (some i)→k'=k)→r.length=js.length→i < en.length→(wbB js r en)[i]?=r[k]?
 | [],_,_,_,_,h,_,_,_=>by simp at h
 | some _ :: js,[],_,_,_,_,_,h,_=>by simp at h
 | none :: js,[],_,_,_,_,_,h,_=>by simp at h
 | none :: js,o :: r,en,i,k,h,u,l,b=>by
  unfold wbB
  cases k with
  | zero=>simp at h
  | succ k=>exact oG js r en i k (by simpa using h) (fun j' z=>by have:=u (j'+1) (by simpa using z); omega) (by simpa using l) b
 | some j :: js,o :: r,en,i,k,h,u,l,b=>by
  unfold wbB
  cases k with
  | zero =>
   have e:j=i:=by simpa using h
   subst e
   rw [kJ js r _ j fun j' z=>by have:=u (j'+1) (by simpa using z); omega]
   rw [List.getElem?_set_self b]
   rfl
  | succ k=>exact oG js r _ i k (by simpa using h) (fun j' z=>by have:=u (j'+1) (by simpa using z); omega) (by simpa using l) (by rw [List.length_set]; exact b)
theorem Ows.snoc:∀ {ts:List D} {vs:List V} {F1 F2:AS} {v:V},Ows K O H ts d vs F1→Ow K O H t d v F2→(∀ b,F1 b→¬ F2 b)→Ows K O H (ts++[t]) d (vs++[v]) (U F1 F2)
 | [],vs,F1,F2,v,h,h2,_=>by
  have e:vs=[]:=h
  subst e
  exact ⟨v,[],F2,NoA,rfl,fun _ z=>.inr z,fun _ z=>z.elim,fun _ _ z=>z.elim,h2,rfl⟩
 | u :: ts,vs,F1,F2,v,h,h2,hd=>by
  obtain ⟨w,r,G1,G2,e,s1,s2,s3,h4,h5⟩:=h
  subst e
  refine ⟨w,r++[v],G1,U G2 F2,rfl,fun b z=>.inl (s1 b z),fun b z=>z.imp (s2 b) id,fun b z z2=>?_,h4,Ows.snoc h5 h2 fun b z=>hd b (s2 b z)⟩
  rcases z2 with z2 | z2
  ·exact s3 b z z2
  ·exact hd b (s1 b z) z2
theorem Ows.len:∀ {ts:List D} {vs:List V} {F:AS},Ows K O H ts d vs F→vs.length=ts.length
 | [],_,_,h=>by rw [show _=[] from h]; rfl
 | t :: ts,_,_,h=>by
  obtain ⟨v,r,F1,F2,e,h1,h2,h3,h4,h5⟩:=h
  rw [e,List.length_cons,List.length_cons,h5.len]
def gi:List (Option Nat)→Nat→List Nat
 | [],_=>[]
 | some _ :: r,n=>n :: gi r (n+1)
 | none :: r,n=>gi r (n+1)
theorem jo:∀ {js:List (Option Nat)} {n k j:Nat},js[k]?=some (some j)→n+k∈gi js n
 | [],n,k,j,h=>by simp at h
 | some x :: r,n,k,j,h=>by
  unfold gi
  cases k with
  | zero=>exact List.mem_cons_self
  | succ k =>
   refine List.mem_cons_of_mem _ ?_
   have:=jo (n:=n+1) (k:=k) (j:=j) (by simpa using h)
   rw [show n+(k+1)=n+1+k by omega]
   exact this
 | none :: r,n,k,j,h=>by
  unfold gi
  cases k with
  | zero=>simp at h
  | succ k =>
   have:=jo (n:=n+1) (k:=k) (j:=j) (by simpa using h)
   rw [show n+(k+1)=n+1+k by omega]
   exact this
def qf (js:List (Option Nat)) (R1:Nat→AS):Nat→AS:=fun k=>match js[k]? with
 | some (some j)=>R1 j
 | _=>NoA
theorem D0 {R1:Nat→AS} {k j:Nat} (h:js[k]?=some (some j)):qf js R1 k=R1 j:=by unfold qf; rw [h]
theorem DZ {R1:Nat→AS} {k:Nat} {a:Addr} (h:qf js R1 k a):∃ j,js[k]?=some (some j)∧R1 j a:=by
 unfold qf at h
 cases q:js[k]? with
 | none=>rw [q] at h; exact h.elim
 | some o =>
  rw [q] at h
  cases o with
  | none=>exact h.elim
  | some j=>exact ⟨j,rfl,h⟩
theorem wF {cd:Nat} (hc:gj ds1 js dsi=true) (hd:dn d=cd) (hz:d≠0) (hl:lk=gi js 0) (h:tF K (p && q) ds ds1 d (eLC q fi g c f js) σ H Q) :
  tLC (tFI K p ds ds1 fi) (tFG K lk dsi dsi g) (tFT K q dsi dsi c) (tF K q dsi dsi cd f) js σ H Q:=by
 obtain ⟨Ox,en,R,t,en',e,hf,k⟩:=h
 unfold eLC at hf
 obtain ⟨⟨ts,en1⟩,h1,hf⟩:=Option.bind_eq_some_iff.mp hf
 obtain ⟨⟨fin,enf⟩,h2,hf⟩:=Option.map_eq_some_iff.mp hf
 cases hf
 obtain ⟨cl,c1,c2⟩:=lL hc
 refine ⟨Ox,en,R,ts,en1,e,h1,fun J H1 R1 P1 wk D hD=>?_⟩
 have E1:=P1.env0
 generalize hRI:qf js R1=RI
 have ri1:∀ k j:Nat,js[k]?=some (some j)→RI k=R1 j:=fun k j z=>by rw [← hRI]; exact D0 z
 have ric:∀ (k:Nat) a,RI k a→∃ j,js[k]?=some (some j)∧R1 j a:=fun k a z=>by rw [← hRI] at z; exact DZ z
 let OxI:AS:=fun a=>Ox a∨a=D∨∃ i,R1 i a∧∀ k:Nat,js[k]?≠some (some i)
 have nD:∀ a,Own R1 Ox a→a≠D:=fun a z z2=>by
  subst z2
  obtain ⟨o,q⟩:=E1.dom a z
  rw [hD] at q
  cases q
 have lI:(ck js en1).length=js.length:=by unfold ck; rw [List.length_map]
 have lS:(ek js σ).length=js.length:=by unfold ek; rw [List.length_map]
 have getE:∀ (k:Nat) t,(ck js en1)[k]?=some (some t)→∃ j,js[k]?=some (some j)∧en1[j]?=some (some t):=fun k t z=>by
  unfold ck at z
  rw [List.getElem?_map] at z
  obtain ⟨oj,h1,h2⟩:=Option.map_eq_some_iff.mp z
  cases oj with
  | none=>cases h2
  | some j =>
   refine ⟨j,h1,?_⟩
   have h2':(en1[j]?).join=some t:=h2
   cases q:en1[j]? with
   | none=>rw [q] at h2'; cases h2'
   | some o=>rw [q] at h2'; exact congrArg some h2'
 have getS:∀ (k j:Nat) v,js[k]?=some (some j)→σ[j]?=some (some v)→(ek js σ)[k]?=some (some v):=fun k j v z1 z2=>by
  unfold ek
  rw [List.getElem?_map,z1]
  show some ((σ[j]?).join)=_
  rw [z2]
  rfl
 have u2:∀ a o,H1 a=some o→upd H1 D (.lst []) a=some o:=fun a o q=>(bK (o:=.lst []) hD).1 a o q
 have EI:EnvOk K dsi OxI (upd H1 D (.lst [])) (ek js σ) (ck js en1) RI:=by
  refine ⟨fun k t hk=>?_,fun k k' a z z'=>?_,fun k a z z2=>?_,fun a z=>?_,by rw [lI,lS],by rw [cl,lS]⟩
  ·obtain ⟨j,hj,ht⟩:=getE k t hk
   obtain ⟨v,d,g1,g2,g3⟩:=E1.at_ j t ht
   obtain ⟨d',q1,q2⟩:=c1 k j hj
   rw [g2] at q2
   cases q2
   refine ⟨v,d,getS k j v hj g1,q1,?_⟩
   rw [ri1 k j hj]
   refine Ow.mv (G:=R1 j) ⟨fun a o q _=>u2 a o q,fun a z=>?_⟩ t (fun _ z=>z) g3
   rcases z with ⟨k',z⟩ | z | z | ⟨i,z,_⟩
   ·obtain ⟨j',_,z⟩:=ric k' a z
    exact .inl (.inl ⟨j',z⟩)
   ·exact .inl (.inr z)
   ·exact .inr (z ▸ hD)
   ·exact .inl (.inl ⟨i,z⟩)
  ·obtain ⟨j,hj,z⟩:=ric k a z
   obtain ⟨j',hj',z'⟩:=ric k' a z'
   have:=E1.dj j j' a z z'
   subst this
   exact c2 k k' j hj hj'
  ·obtain ⟨j,hj,z⟩:=ric k a z
   rcases z2 with z2 | z2 | ⟨i,z2,n⟩
   ·exact E1.dx j a z z2
   ·exact nD a (.inl ⟨j,z⟩) z2
   ·have:=E1.dj j i a z z2
    subst this
    exact n k hj
  ·rcases z with ⟨k,z⟩ | z | z | ⟨i,z,_⟩
   ·obtain ⟨j,hj,z⟩:=ric k a z
    obtain ⟨o,q⟩:=E1.dom a (.inl ⟨j,z⟩)
    exact ⟨o,u2 a o q⟩
   ·obtain ⟨o,q⟩:=E1.dom a (.inr z)
    exact ⟨o,u2 a o q⟩
   ·subst z
    exact ⟨_,aN⟩
   ·obtain ⟨o,q⟩:=E1.dom a (.inl ⟨i,z⟩)
    exact ⟨o,u2 a o q⟩
 refine ⟨fun i n τ H'=>∃ eni RI' acc vs Fa,n=ts.length - i∧i≤ts.length∧PostS K lk dsi OxI (ek js σ) H1 RI τ eni H' RI' Fa∧H' D=some (.lst vs)∧Ows K (Own RI' (U Fa OxI)) H' acc cd vs Fa∧lcF g c f (ts.drop i) acc eni=some (fin,enf) ∧
   (q=true→(∀ k j:Nat,js[k]?=some (some j)→RI' k=RI k)∧(∀ a o,H1 a=some o→H' a=some o)),
  ⟨_,ck js en1,RI,[],[],NoA,rfl,Nat.zero_le _,⟨by rw [gk]; exact EI,fun _ z=>z.elim,fun a o q _=>u2 a o q,fun a z=>z.elim (fun z=>z.elim) .inl,fun a o q=>⟨o,u2 a o q⟩,fun _ _=>rfl⟩,aN,rfl,h2,fun _=>⟨fun _ _ _=>rfl,u2⟩⟩,?_⟩
 rintro i n τ H2 ⟨eni,RI2,acc,vs,Fa,rfl,hi,P2,hDl,oacc,hr,pu⟩
 have dL:∀ a,Own RI2 (U Fa OxI) a→Own R1 Ox a∨H1 a=none:=fun a z=>by
  rcases z with z | z | z | z | ⟨i,z,_⟩
  ·rcases P2.own a (.inr z) with ⟨k,z⟩ | z
   ·obtain ⟨j,_,z⟩:=ric k a z
    exact .inl (.inl ⟨j,z⟩)
   ·exact .inr z
  ·rcases P2.own a (.inl z) with ⟨k,z⟩ | z
   ·obtain ⟨j,_,z⟩:=ric k a z
    exact .inl (.inl ⟨j,z⟩)
   ·exact .inr z
  ·exact .inl (.inr z)
  ·exact .inr (z ▸ hD)
  ·exact .inl (.inl ⟨i,z⟩)
 obtain ⟨w1,w2⟩:=wk i H2 (Own RI2 (U Fa OxI)) (fun a o q z=>P2.keep a o q fun k zk=>by
  obtain ⟨j,_,zj⟩:=ric k a zk
  exact z (.inl ⟨j,zj⟩)) dL fun a z=>P2.env.dom a z
 have DO:OxI D:=.inr (.inl rfl)
 by_cases hlt:i < ts.length
 ·obtain ⟨go,yl⟩:=w1 ts[i] (List.getElem?_eq_getElem hlt)
  rw [List.drop_eq_getElem_cons hlt] at hr
  obtain ⟨en3,h3,hr⟩:=Option.bind_eq_some_iff.mp hr
  obtain ⟨⟨b,en4⟩,h4,hr⟩:=Option.bind_eq_some_iff.mp hr
  refine .inr ⟨go,fun τ' H'=>∃ eni RI' acc vs Fa,PostS K lk dsi OxI (ek js σ) H1 RI τ' eni H' RI' Fa∧H' D=some (.lst vs)∧Ows K (Own RI' (U Fa OxI)) H' acc cd vs Fa∧lcF g c f (ts.drop (i+1)) acc eni=some (fin,enf)∧(q=true→(∀ k j:Nat,js[k]?=some (some j)→RI' k=RI k)∧(∀ a o,H1 a=some o→H' a=some o)),
   fun τ' H' ⟨eni,RI',acc,vs,Fa,P',x1,x2,x3,x4⟩=>⟨_,by omega,eni,RI',acc,vs,Fa,rfl,hlt,P',x1,x2,x3,x4⟩,fun x H3 y=>?_⟩
  obtain ⟨gr,ox⟩:=yl x H3 y
  have P3:Post K true dsi (U Fa OxI) τ H2 eni RI2 eni H3 RI2 NoA:=Post.new P2.env gr fun _ z=>z.elim
  have chain:∀ {τ5 en5 H5 RI5 F5},PostS K lk dsi (U Fa OxI) τ H2 RI2 τ5 en5 H5 RI5 F5→PostS K lk dsi OxI (ek js σ) H1 RI τ5 en5 H5 RI5 (U Fa F5):=fun {τ5 en5 H5 RI5 F5} P5=>by
   have n1:∀ a,H2 a=none→H1 a=none:=fun a z=>by
    cases q:H1 a with
    | none=>rfl
    | some o =>
     obtain ⟨o',q'⟩:=P2.dom a o q
     rw [z] at q'
     cases q'
   refine ⟨mL ▸ P5.env,fun a z z2=>?_,fun a o q n=>?_,fun a z=>?_,fun a o q=>?_,fun j hj=>(P5.lk j hj).trans (P2.lk j hj)⟩
   ·rcases z with z | z
    ·exact P2.fx a z z2
    ·exact P5.fx a z (.inr z2)
   ·refine P5.keep a o (P2.keep a o q n) fun i z=>?_
    rcases P2.own a (.inr ⟨i,z⟩) with ⟨j,z⟩ | z
    ·exact n j z
    ·rw [q] at z; cases z
   ·rcases z with (z | z) | z
    ·exact P2.own a (.inl z)
    ·rcases P5.own a (.inl z) with z | z
     ·exact P2.own a (.inr z)
     ·exact .inr (n1 a z)
    ·rcases P5.own a (.inr z) with z | z
     ·exact P2.own a (.inr z)
     ·exact .inr (n1 a z)
   ·obtain ⟨o',q'⟩:=P2.dom a o q
    exact P5.dom a o' q'
  have carry:∀ {τ5 en5 H5 RI5 F5},PostS K lk dsi (U Fa OxI) τ H2 RI2 τ5 en5 H5 RI5 F5→Ows K (Own RI5 (U (U Fa F5) OxI)) H5 acc cd vs Fa:=fun {τ5 en5 H5 RI5 F5} P5=>by
   refine Ows.mv (G:=Fa) ⟨fun a o q z=>P5.keep a o q fun i zi=>?_,fun a z=>?_⟩ acc (fun _ z=>z) oacc
   ·rcases z with z | z
    ·exact z (.inl ⟨i,zi⟩)
    ·exact P2.env.dx i a zi (.inl z)
   ·rcases z with z | (z | z) | z
    ·exact (P5.own a (.inr z)).imp .inl id
    ·exact .inl (.inr (.inl z))
    ·exact (P5.own a (.inl z)).imp .inl id
    ·exact .inl (.inr (.inr z))
  have UFN:U Fa NoA=Fa:=eo fun a=>⟨fun z=>z.elim id fun z=>z.elim,.inl⟩
  refine ⟨U Fa OxI,eni,RI2,ts[i],en3,P3.env0,ox,h3,fun τ4 R4 P4 r4=>?_⟩
  have P4':=(P3.s (lk:=lk)).after P4
  refine ⟨U Fa OxI,en3,R4,b,en4,P4.env0,h4,fun H5 R5 P5=>?_⟩
  have P5':=P4'.after (P5.s (lk:=lk))
  have pu5:q=true→(∀ k j:Nat,js[k]?=some (some j)→R5 k=RI k)∧(∀ a o,H1 a=some o→H5 a=some o):=fun hq=>by
   obtain ⟨_,b2,b3⟩:=P5.pure hq
   obtain ⟨e1,e2⟩:=pu hq
   refine ⟨fun k j z=>?_,fun a o qq=>b3 a o (gr a o (e2 a o qq))⟩
   rw [b2,r4 k (by rw [hl]; have:=jo (n:=0) z; rw [Nat.zero_add] at this; exact this)]
   exact e1 k j z
  cases b with
  | false =>
   dsimp only
   rw [if_neg Bool.false_ne_true]
   have c5:=chain P5'
   have o5:=carry P5'
   rw [UFN] at c5 o5
   exact ⟨en4,R5,acc,vs,Fa,c5,P5'.keep D _ hDl fun k z=>P2.env.dx k D z (.inr DO),o5,hr,pu5⟩
  | true =>
   dsimp only
   rw [if_pos rfl]
   obtain ⟨⟨t6,en6⟩,h6,hr⟩:=Option.bind_eq_some_iff.mp (show ((f en4).bind fun q=>if acc.length < sizeLine then lcF g c f (ts.drop (i+1)) (acc++[q.1]) q.2 else none)=some (fin,enf) from hr)
   refine ⟨U Fa OxI,en4,R5,t6,en6,P5.env0,h6,fun v H6 R6 F6 P6 o6=>?_⟩
   have P6':=P5'.after (P6.s (lk:=lk))
   by_cases hlen:acc.length < sizeLine
   case neg=>rw [if_neg hlen] at hr; cases hr
   rw [if_pos hlen] at hr
   have hD6:=P6'.keep D _ hDl fun k z=>P2.env.dx k D z (.inr DO)
   refine ⟨vs,hD6,by rw [oacc.len]; exact hlen,en6,R6,acc++[t6],vs++[v],U Fa F6,?_,aN,?_,hr,?_⟩
   ·have c6:=chain P6'
    have keepD:∀ a o,H6 a=some o→a≠D→upd H6 D (.lst (vs++[v])) a=some o:=fun a o q n=>by rw [aM n]; exact q
    refine ⟨⟨fun k t hk=>?_,c6.env.dj,c6.env.dx,fun a z=>?_,c6.env.l1,c6.env.l2⟩,c6.fx,fun a o q n=>?_,c6.own,fun a o q=>?_,c6.lk⟩
    ·obtain ⟨v',d',g1,g2,g3⟩:=c6.env.at_ k t hk
     refine ⟨v',d',g1,g2,Ow.mv (G:=R6 k) ⟨fun a o q z=>keepD a o q fun zD=>?_,fun a z=>.inl z⟩ t (fun _ z=>z) g3⟩
     subst zD
     rcases z with z | z
     ·exact z (.inr (.inr DO))
     ·exact c6.env.dx k a z (.inr DO)
    ·by_cases ha:a=D
     ·subst ha; exact ⟨_,aN⟩
     ·obtain ⟨o,q⟩:=c6.env.dom a z
      exact ⟨o,keepD a o q ha⟩
    ·refine keepD a o (c6.keep a o q n) fun zD=>?_
     subst zD
     rw [hD] at q
     cases q
    ·obtain ⟨o',q'⟩:=c6.dom a o q
     by_cases ha:a=D
     ·subst ha; exact ⟨_,aN⟩
     ·exact ⟨o',keepD a o' q' ha⟩
   ·have o1:=carry P6'
    have o2:Ow K (Own R6 (U (U Fa F6) OxI)) H6 t6 cd v F6:=mL ▸ o6
    have:=Ows.snoc o1 o2 fun b z1 z2=>P6.fx b z2 (.inl z1)
    refine Ows.mv (G:=U Fa F6) ⟨fun a o q z=>?_,fun a z=>.inl z⟩ _ (fun _ z=>z) this
    rw [aM]
    ·exact q
    ·intro zD
     subst zD
     rcases z with z | z | z
     ·exact z (.inr (.inr DO))
     ·exact P2.fx a z DO
     ·exact P6.fx a z (.inr DO)
   ·intro hq
    obtain ⟨_,b2,b3⟩:=P6.pure hq
    obtain ⟨e1,e2⟩:=pu5 hq
    refine ⟨fun k j z=>by rw [b2]; exact e1 k j z,fun a o qq=>?_⟩
    rw [aM]
    ·exact b3 a o (e2 a o qq)
    ·intro zD
     subst zD
     rw [hD] at qq
     cases qq
 ·have e2:i=ts.length:=by omega
  subst e2
  rw [List.drop_length] at hr
  obtain ⟨e3,e4⟩:acc=fin∧eni=enf:=by cases hr; exact ⟨rfl,rfl⟩
  subst e3 e4
  refine .inl ⟨w2 rfl,?_⟩
  have fD:∀ a,Fa a→a≠D:=fun a z z2=>by
   subst z2
   exact P2.fx a z DO
  cases hq:q with
  | true =>
   obtain ⟨e1,e2⟩:=pu hq
   subst hq
   have fn:∀ a,Fa a→H1 a=none:=fun a z=>by
    rcases P2.own a (.inl z) with ⟨k,z2⟩ | z2
    ·obtain ⟨j,hj,z3⟩:=ric k a z2
     rw [← e1 k j hj] at z2
     exact absurd (.inl z) (P2.env.dx k a z2)
    ·exact z2
   have nt:NewTo H1 H2 (fun a=>a=D∨Fa a):=⟨e2,fun a z=>by
    rcases z with z | z
    ·subst z
     exact ⟨hD,_,hDl⟩
    ·exact ⟨fn a z,P2.env.dom a (.inr (.inl z))⟩⟩
   have PF:=P1.fin nt
   rw [Bool.and_true] at k
   refine k (.ref D) H2 R1 _ PF ⟨D,vs,rfl,.inr ⟨hz,hDl,.inl rfl,Fa,fun b z=>⟨.inr z,fD b z⟩,?_⟩⟩
   rw [hd]
   refine Ows.grow (fun a z=>?_) _ (fun _ z=>z) oacc
   rcases z with ⟨i,z⟩ | (z | z) | z
   ·by_cases hc2:∃ kk:Nat,js[kk]?=some (some i)
    ·obtain ⟨kk,hk⟩:=hc2
     refine .inl ⟨kk,?_⟩
     rw [e1 kk i hk,ri1 kk i hk]
     exact z
    ·exact .inr (.inr (.inr (.inr ⟨i,z,fun kk hk=>hc2 ⟨kk,hk⟩⟩)))
   ·exact .inr (.inr (z ▸ DO))
   ·exact .inr (.inl z)
   ·exact .inr (.inr (.inl z))
  | false =>
   subst hq
   rw [Bool.and_false] at k
   classical
   let R3:Nat→AS:=fun i=>if hh:∃ kk:Nat,js[kk]?=some (some i) then RI2 hh.choose else R1 i
   have r31:∀ (i kk:Nat),js[kk]?=some (some i)→R3 i=RI2 kk:=fun i kk z=>by
    have hh:∃ kk:Nat,js[kk]?=some (some i):=⟨kk,z⟩
    have:hh.choose=kk:=c2 _ _ i hh.choose_spec z
    show (if hh:∃ kk:Nat,js[kk]?=some (some i) then RI2 hh.choose else R1 i)=RI2 kk
    rw [dif_pos hh,this]
   have r32:∀ i:Nat,(∀ kk:Nat,js[kk]?≠some (some i))→R3 i=R1 i:=fun i z=>by
    show (if hh:∃ kk:Nat,js[kk]?=some (some i) then RI2 hh.choose else R1 i)=R1 i
    rw [dif_neg fun ⟨j,q⟩=>z j q]
   have r3c:∀ (i:Nat) a,R3 i a→(∃ kk:Nat,js[kk]?=some (some i)∧RI2 kk a)∨((∀ kk:Nat,js[kk]?≠some (some i))∧R1 i a):=fun i a z=>by
    by_cases hh:∃ kk:Nat,js[kk]?=some (some i)
    ·obtain ⟨kk,hk⟩:=hh
     rw [r31 i kk hk] at z
     exact .inl ⟨kk,hk,z⟩
    ·rw [r32 i fun j z=>hh ⟨j,z⟩] at z
     exact .inr ⟨fun j z=>hh ⟨j,z⟩,z⟩
   have sub3:∀ a,Own R3 (U (fun a=>a=D∨Fa a) Ox) a→Own RI2 (U Fa OxI) a:=fun a z=>by
    rcases z with ⟨i,z⟩ | (z | z) | z
    ·rcases r3c i a z with ⟨j,_,z⟩ | ⟨n,z⟩
     ·exact .inl ⟨j,z⟩
     ·exact .inr (.inr (.inr (.inr ⟨i,z,n⟩)))
    ·exact .inr (.inr (z ▸ DO))
    ·exact .inr (.inl z)
    ·exact .inr (.inr (.inl z))
   have el:eni.length=js.length:=by rw [P2.env.l1,← P2.env.l2]; exact cl
   have riO:∀ (kk:Nat) a,RI kk a→Own R1 Ox a:=fun kk a z=>by
    obtain ⟨j,_,z⟩:=ric kk a z
    exact .inl ⟨j,z⟩
   have env3:EnvOk K ds1 (U (fun a=>a=D∨Fa a) Ox) H2 σ (wbB js eni en1) R3:=by
    refine ⟨fun i u hu=>?_,fun i i' a z z'=>?_,fun i a z z2=>?_,fun a z=>P2.env.dom a (sub3 a z),by rw [mX]; exact E1.l1,E1.l2⟩
    ·by_cases hh:∃ kk:Nat,js[kk]?=some (some i)
     ·obtain ⟨kk,hk⟩:=hh
      obtain ⟨dd,q1,q2⟩:=c1 kk i hk
      have hil:i < en1.length:=by rw [E1.l1,← E1.l2]; exact (List.getElem?_eq_some_iff.mp q2).1
      rw [oG js eni en1 i kk hk (fun k' z=>c2 k' kk i z hk) el hil] at hu
      obtain ⟨v,d',g1,g2,g3⟩:=P2.env.at_ kk u hu
      rw [q1] at g2
      cases g2
      have hlk:=P2.lk kk (by rw [hl]; have:=jo (n:=0) hk; rw [Nat.zero_add] at this; exact this)
      rw [hlk] at g1
      refine ⟨v,dd,?_,q2,?_⟩
      ·unfold ek at g1
       rw [List.getElem?_map,hk] at g1
       have g1':(σ[i]?).join=some v:=Option.some.inj g1
       cases q3:σ[i]? with
       | none=>rw [q3] at g1'; cases g1'
       | some o=>rw [q3] at g1'; exact congrArg some g1'
      ·rw [r31 i kk hk]
       exact Ow.grow sub3 u (fun _ z=>z) g3
     ·rw [kJ js eni en1 i fun j z=>hh ⟨j,z⟩] at hu
      have ns:∀ j:Nat,js[j]?≠some (some i):=fun j z=>hh ⟨j,z⟩
      obtain ⟨v,d',g1,g2,g3⟩:=E1.at_ i u hu
      refine ⟨v,d',g1,g2,?_⟩
      rw [r32 i ns]
      refine Ow.mv (G:=R1 i) ⟨fun a o q z=>P2.keep a o q fun j zj=>?_,fun a z=>dL a (sub3 a z)⟩ u (fun _ z=>z) g3
      obtain ⟨j',hj',zj⟩:=ric j a zj
      rcases z with z | z
      ·exact z (.inl ⟨j',zj⟩)
      ·have:=E1.dj i j' a z zj
       subst this
       exact ns j hj'
    ·rcases r3c i a z with ⟨j,q,z⟩ | ⟨n,z⟩ <;> rcases r3c i' a z' with ⟨j',q',z'⟩ | ⟨n',z'⟩
     ·have:=P2.env.dj j j' a z z'
      subst this
      rw [q] at q'
      cases q'
      rfl
     ·exact absurd (.inr (.inr (.inr ⟨i',z',n'⟩))) (P2.env.dx j a z)
     ·exact absurd (.inr (.inr (.inr ⟨i,z,n⟩))) (P2.env.dx j' a z')
     ·exact E1.dj i i' a z z'
    ·rcases r3c i a z with ⟨j,q,z⟩ | ⟨n,z⟩
     ·refine P2.env.dx j a z ?_
      rcases z2 with (z2 | z2) | z2
      ·exact .inr (z2 ▸ DO)
      ·exact .inl z2
      ·exact .inr (.inl z2)
     ·rcases z2 with (z2 | z2) | z2
      ·exact nD a (.inl ⟨i,z⟩) z2
      ·exact P2.fx a z2 (.inr (.inr ⟨i,z,n⟩))
      ·exact E1.dx i a z z2
   have n1:∀ a,H1 a=none→H a=none:=fun a z=>by
    cases q:H a with
    | none=>rfl
    | some o =>
     obtain ⟨o',q'⟩:=P1.dom a o q
     rw [z] at q'
     cases q'
   refine k (.ref D) H2 R3 (fun a=>a=D∨Fa a) ⟨env3,fun a z z2=>?_,fun a o q n=>?_,fun a z=>?_,fun a o q=>?_,fun z=>nomatch z⟩ ⟨D,vs,rfl,.inr ⟨hz,hDl,.inl rfl,Fa,fun b z=>⟨.inr z,fD b z⟩,?_⟩⟩
   ·rcases z with z | z
    ·exact nD a (.inr z2) z
    ·exact P2.fx a z (.inl z2)
   ·refine P2.keep a o (P1.keep a o q n) fun kk z=>?_
    obtain ⟨j,_,z⟩:=ric kk a z
    rcases P1.own a (.inr ⟨j,z⟩) with ⟨i',z⟩ | z
    ·exact n i' z
    ·rw [q] at z; cases z
   ·have h3:(∃ i,R1 i a)∨H1 a=none:=by
     have h4:(Fa a∨∃ kk,RI2 kk a)→(∃ i,R1 i a)∨H1 a=none:=fun z=>by
      rcases P2.own a z with ⟨kk,z⟩ | z
      ·obtain ⟨j,_,z⟩:=ric kk a z
       exact .inl ⟨j,z⟩
      ·exact .inr z
     rcases z with (z | z) | ⟨i,z⟩
     ·exact .inr (z ▸ hD)
     ·exact h4 (.inl z)
     ·rcases r3c i a z with ⟨j,_,z⟩ | ⟨n,z⟩
      ·exact h4 (.inr ⟨j,z⟩)
      ·exact .inl ⟨i,z⟩
    rcases h3 with h3 | h3
    ·exact P1.own a (.inr h3)
    ·exact .inr (n1 a h3)
   ·obtain ⟨o',q'⟩:=P1.dom a o q
    exact P2.dom a o' q'
   ·rw [hd]
    exact Ows.grow sub3 _ (fun _ z=>z) oacc
end
end L2
namespace L2
open PySem PySem.Spec PyProof.Rows
def msk:List Nat→En→En
 | d :: ds,o :: en=>(if d=0 then none else o) :: msk ds en
 | _,_=>[]
def fnF (n:Nat) (dps:List Nat) (b:MS):List PyData→Option (PyData × En):=fun ts=>(b (ts.map some++List.replicate n none)).bind fun fl=>match fl with
 | .rt t en=>some (t,msk dps en)
 | .nx en=>some (.none,msk dps en)
 | .ct _=>none
def pH (dps:List Nat):List Nat:=(List.range dps.length).filter fun j=>dps[j]? != some 0
section
variable {K:PySem.W.Frag} {p p1 p2 q:Bool} {J:Jd} {lk:List Nat} {ds ds0 ds1 ds2 ds' dps:List Nat} {Ox Ox' O O':AS} {H H' H1:Hp} {σ σ':St} {en en' en1 en2:En} {R R' R1:Nat→AS} {d d' d1 d2 dr:Nat} {t t1 t2:PyData} {Q:VK} {f f1 f2:ME} {i:Nat} {v:V} {D:Ends}
theorem qW:∀ {dps:List Nat} {en:En} {j:Nat} {u:PyData},(msk dps en)[j]?=some (some u)→∃ d,dps[j]?=some d∧d≠0∧en[j]?=some (some u)
 | [],en,j,u,h=>by unfold msk at h; simp at h
 | d :: ds,[],j,u,h=>by unfold msk at h; simp at h
 | d :: ds,o :: en,j,u,h=>by
  unfold msk at h
  cases j with
  | zero =>
   by_cases hd:d=0
   ·simp [hd] at h
   ·refine ⟨d,rfl,hd,?_⟩
    simpa [hd] using h
  | succ j =>
   have:=qW (dps:=ds) (en:=en) (j:=j) (u:=u) (by simpa using h)
   simpa using this
theorem qV:∀ {dps:List Nat} {en:En},dps.length≤en.length→(msk dps en).length=dps.length
 | [],en,_=>by unfold msk; rfl
 | d :: ds,[],h=>by simp at h
 | d :: ds,o :: en,h=>by
  unfold msk
  rw [List.length_cons,List.length_cons,qV (by simpa using h)]
theorem DD {N:List Str} {vs:List V} {E:XK} {n:Nat} {b:MS} (hn:N.length - dps.length=n) (h:spF K dps dr (fnF n dps b) vs H Q E) :
  tFS K ⟨pH dps,dps++List.replicate n 0,dr,[]⟩ (dps++List.replicate n 0) (dps++List.replicate n 0) b { nx:=fun _ H'=>Q .non H',rt:=Q } (dB N vs) H:=by
 obtain ⟨Ox,ts,R,r,outs,e,hf,k⟩:=h
 have lv:dps.length=vs.length:=by have:=e.l2; rw [List.length_map] at this; exact this
 have lt:ts.length=vs.length:=by have:=e.l1; rw [List.length_map,List.length_map] at this; exact this
 have hs:dB N vs=vs.map some++List.replicate n none:=by unfold dB; rw [← lv,hn]
 unfold fnF at hf
 obtain ⟨fl,h1,hf⟩:=Option.bind_eq_some_iff.mp hf
 have get0:∀ {α:Type} (xs:List α) (i:Nat) (u:α),(xs.map some++List.replicate n none)[i]?=some (some u)→(xs.map some)[i]?=some (some u)∧i < xs.length:=fun xs i u z=>by
  by_cases hi:i < xs.length
  ·rw [List.getElem?_append_left (by rw [List.length_map]; exact hi)] at z
   exact ⟨z,hi⟩
  ·rw [List.getElem?_append_right (by rw [List.length_map]; omega),List.getElem?_replicate] at z
   split at z
   ·cases z
   ·cases z
 have e0:EnvOk K (dps++List.replicate n 0) Ox H (dB N vs) (ts.map some++List.replicate n none) R:=by
  rw [hs]
  refine ⟨fun i u hu=>?_,e.dj,e.dx,e.dom,by simp [lt],by simp [lv]⟩
  obtain ⟨hu',hi⟩:=get0 ts i u hu
  obtain ⟨v,d,g1,g2,g3⟩:=e.at_ i u hu'
  refine ⟨v,d,?_,?_,g3⟩
  ·rw [List.getElem?_append_left (by rw [List.length_map]; omega)]; exact g1
  ·rw [List.getElem?_append_left (by omega)]; exact g2
 have back:∀ {σ' en' H' R' F},PostS K (pH dps) (dps++List.replicate n 0) Ox (dB N vs) H R σ' en' H' R' F→Post K false dps Ox (vs.map some) H (ts.map some) R (msk dps en') H' R' F:=fun {σ' en' H' R' F} P=>by
  have l1:=P.env.l1
  have l2:=P.env.l2
  rw [List.length_append,List.length_replicate] at l2
  refine ⟨⟨fun j u hu=>?_,P.env.dj,P.env.dx,P.env.dom,by rw [qV (by omega),List.length_map]; exact lv,by rw [List.length_map]; exact lv⟩,P.fx,P.keep,P.own,P.dom,fun z=>nomatch z⟩
  obtain ⟨d,a1,a2,a3⟩:=qW hu
  obtain ⟨v,d',g1,g2,g3⟩:=P.env.at_ j u a3
  have hj:j < dps.length:=(List.getElem?_eq_some_iff.mp a1).1
  have hlk:j∈pH dps:=by
   unfold pH
   rw [List.mem_filter,List.mem_range]
   refine ⟨hj,?_⟩
   rw [a1]
   simpa using a2
  rw [P.lk j hlk,hs,List.getElem?_append_left (by rw [List.length_map]; omega)] at g1
  rw [List.getElem?_append_left hj] at g2
  exact ⟨v,d',g1,g2,g3⟩
 refine ⟨Ox,_,R,fl,e0,h1,?_⟩
 cases fl with
 | nx en2 =>
  cases hf
  exact fun σ2 H2 R2 P2=>k .non H2 R2 NoA (back P2) rfl
 | ct en2=>cases hf
 | rt t en2 =>
  cases hf
  exact fun v σ2 H2 R2 F P2 o=>k v H2 R2 F (back P2) o
theorem Post.slot {F G F':AS} {l:Addr} {o2:HO} (P:Post K p ds1 Ox σ H en R en1 H1 R1 F) (hl:R1 i l) (hi:i < en1.length) (hv:σ[i]?=some (some v)) (hd:ds1[i]?=some d)
  (hg:∀ a,G a→R1 i a∨F a) (hf:∀ a,F' a→R1 i a∨F a) (hx:∀ a,G a→¬ F' a)
  (ho:Ow K (Own (fun j=>if j=i then G else R1 j) (U F' Ox)) (upd H1 l o2) t d v G) :
  Post K false ds1 Ox σ H en R (en1.set i (some t)) (upd H1 l o2) (fun j=>if j=i then G else R1 j) F':=by
 have rc:∀ (j:Nat) a,(if j=i then G else R1 j) a→R1 j a∨(j=i∧F a):=fun j a z=>by
  by_cases hj:j=i
  ·rw [if_pos hj] at z
   rcases hg a z with z | z
   ·exact .inl (hj ▸ z)
   ·exact .inr ⟨hj,z⟩
  ·rw [if_neg hj] at z; exact .inl z
 have sub:∀ a,Own (fun j=>if j=i then G else R1 j) (U F' Ox) a→Own R1 (U F Ox) a:=fun a z=>by
  rcases z with ⟨j,z⟩ | z | z
  ·rcases rc j a z with z | ⟨_,z⟩
   ·exact .inl ⟨j,z⟩
   ·exact .inr (.inl z)
  ·rcases hf a z with z | z
   ·exact .inl ⟨i,z⟩
   ·exact .inr (.inl z)
  ·exact .inr (.inr z)
 have dom2:∀ a o,H1 a=some o→∃ o',upd H1 l o2 a=some o':=fun a o q=>by
  by_cases ha:a=l
  ·subst ha; exact ⟨_,aN⟩
  ·exact ⟨o,by rw [aM ha]; exact q⟩
 have nl:∀ a o,H1 a=some o→a≠l→upd H1 l o2 a=some o:=fun a o q n=>by rw [aM n]; exact q
 refine ⟨⟨fun j u hu=>?_,fun j j' a z z'=>?_,fun j a z z2=>?_,fun a z=>?_,by rw [List.length_set]; exact P.env.l1,P.env.l2⟩,fun a z z2=>?_,fun a o q n=>?_,fun a z=>?_,fun a o q=>?_,fun z=>nomatch z⟩
 ·by_cases hj:j=i
  ·subst hj
   rw [List.getElem?_set_self hi] at hu
   cases hu
   refine ⟨v,d,hv,hd,?_⟩
   rw [if_pos rfl]
   exact ho
  ·rw [List.getElem?_set_ne (Ne.symm hj)] at hu
   obtain ⟨v',d',g1,g2,g3⟩:=P.env.at_ j u hu
   refine ⟨v',d',g1,g2,?_⟩
   rw [if_neg hj]
   refine Ow.mv (G:=R1 j) ⟨fun a o q z=>nl a o q fun za=>?_,fun a z=>.inl (sub a z)⟩ u (fun _ z=>z) g3
   subst za
   rcases z with z | z
   ·exact z (.inl ⟨i,hl⟩)
   ·exact hj (P.env.dj j i a z hl)
 ·have z0:=z
  have z0':=z'
  by_cases hj:j=i <;> by_cases hj':j'=i
  ·rw [hj,hj']
  ·rw [if_pos hj] at z0; rw [if_neg hj'] at z0'
   rcases hg a z0 with z1 | z1
   ·exact absurd (P.env.dj i j' a z1 z0') (fun e=>hj' e.symm)
   ·exact absurd (.inl z1) (P.env.dx j' a z0')
  ·rw [if_neg hj] at z0; rw [if_pos hj'] at z0'
   rcases hg a z0' with z1 | z1
   ·exact absurd (P.env.dj j i a z0 z1) hj
   ·exact absurd (.inl z1) (P.env.dx j a z0)
  ·rw [if_neg hj] at z0; rw [if_neg hj'] at z0'
   exact P.env.dj j j' a z0 z0'
 ·have z0:=z
  by_cases hj:j=i
  ·rw [if_pos hj] at z0
   rcases z2 with z2 | z2
   ·exact hx a z0 z2
   ·rcases hg a z0 with z1 | z1
    ·exact P.env.dx i a z1 (.inr z2)
    ·exact P.fx a z1 z2
  ·rw [if_neg hj] at z0
   rcases z2 with z2 | z2
   ·rcases hf a z2 with z1 | z1
    ·exact hj (P.env.dj j i a z0 z1)
    ·exact P.env.dx j a z0 (.inl z1)
   ·exact P.env.dx j a z0 (.inr z2)
 ·obtain ⟨o,q⟩:=P.env.dom a (sub a z)
  exact dom2 a o q
 ·rcases hf a z with z1 | z1
  ·exact P.env.dx i a z1 (.inr z2)
  ·exact P.fx a z1 z2
 ·refine nl a o (P.keep a o q n) fun za=>?_
  subst za
  rcases P.own a (.inr ⟨i,hl⟩) with ⟨j,z⟩ | z
  ·exact n j z
  ·rw [q] at z; cases z
 ·have:F a∨∃ j,R1 j a:=by
   rcases z with z | ⟨j,z⟩
   ·rcases hf a z with z | z
    ·exact .inr ⟨i,z⟩
    ·exact .inl z
   ·rcases rc j a z with z | ⟨_,z⟩
    ·exact .inr ⟨j,z⟩
    ·exact .inl z
  exact P.own a this
 ·obtain ⟨o',q'⟩:=P.dom a o q
  exact dom2 a o' q'
theorem jf {G F' F:AS} (hg:∀ a,G a→R1 i a∨F a) (hf:∀ a,F' a→R1 i a∨F a):∀ a,Own (fun j=>if j=i then G else R1 j) (U F' Ox) a→Own R1 (U F Ox) a:=fun a z=>by
 rcases z with ⟨j,z⟩ | z | z
 ·by_cases hj:j=i
  ·rw [if_pos hj] at z
   rcases hg a z with z | z
   ·exact .inl ⟨i,z⟩
   ·exact .inr (.inl z)
  ·rw [if_neg hj] at z; exact .inl ⟨j,z⟩
 ·rcases hf a z with z | z
  ·exact .inl ⟨i,z⟩
  ·exact .inr (.inl z)
 ·exact .inr (.inr z)
theorem aV {α:Type} {en:List (Option α)} {i:Nat} {t:α} (h:(en[i]?).join=some t):en[i]?=some (some t):=by
 cases q:en[i]? with
 | none=>rw [q] at h; cases h
 | some o=>rw [q] at h; exact congrArg some h
theorem Ow.sqL {ts:List PyData} {F:AS} (h:Ow K O H (.list ts) d v F):∃ a vs,v=.ref a∧SqL K H a vs:=by
 obtain ⟨a,vs,e,⟨_,h1,_⟩ | ⟨_,h1,_⟩⟩:=h
 ·exact ⟨a,vs,e,h1.sq⟩
 ·exact ⟨a,vs,e,SqL.of h1⟩
theorem Ow.ownL {ts:List PyData} {F:AS} (hd:d≠0) (h:Ow K O H (.list ts) d v F):∃ a vs,v=.ref a∧H a=some (.lst vs)∧F a∧∃ F':AS,(∀ b,F' b→F b∧b≠a)∧Ows K O H ts (dn d) vs F':=by
 obtain ⟨a,vs,e,⟨h0,_⟩ | ⟨_,h1,h2,h3⟩⟩:=h
 ·exact absurd h0 hd
 ·exact ⟨a,vs,e,h1,h2,h3⟩
theorem Ows.past {ts:List PyData} {vs:List V} {F:AS} {l:Addr} {o:HO} (ho:∀ a,O' a→O a) (hl:O l) (hf:∀ b,F b→b≠l) (h:Ows K O H ts d vs F):Ows K O' (upd H l o) ts d vs F :=
 Ows.mv (G:=F) ⟨fun a u q z=>by
  rw [aM]
  ·exact q
  ·intro za
   subst za
   rcases z with z | z
   ·exact z hl
   ·exact hf a z rfl,fun a z=>.inl (ho a z)⟩ ts (fun _ z=>z) h
theorem Ow.past {F:AS} {l:Addr} {o:HO} (ho:∀ a,O' a→O a) (hl:O l) (hf:∀ b,F b→b≠l) (h:Ow K O H t d v F):Ow K O' (upd H l o) t d v F :=
 Ow.mv (G:=F) ⟨fun a u q z=>by
  rw [aM]
  ·exact q
  ·intro za
   subst za
   rcases z with z | z
   ·exact z hl
   ·exact hf a z rfl,fun a z=>.inl (ho a z)⟩ t (fun _ z=>z) h
def bQ (i:Nat) (f:ME):ME:=fun en=>match (en[i]?).join with
 | some (.list _)=>(f en).bind fun r=>match (r.2[i]?).join with
  | some (.list ts)=>if ts.length < sizeLine then some (.none,r.2.set i (some (.list (ts++[r.1])))) else none
  | _=>none
 | _=>none
theorem Jf {c:Nat} (hd:ds1[i]?=some d) (hz:d≠0) (hc:dn d=c) (h:tF K false ds ds1 3 (bQ i f) σ H Q):tBM K "list" qR (fh i) (l7 (tF K p ds ds1 c f) rM) σ H Q:=by
 obtain ⟨Ox,en,R,t,en',e,hf,k⟩:=h
 unfold bQ at hf
 split at hf
 case h_2=>cases hf
 next ts0 h0 =>
 obtain ⟨⟨t1,en1⟩,h1,hf⟩:=Option.bind_eq_some_iff.mp hf
 dsimp only at hf
 split at hf
 case h_2=>cases hf
 next ts h2 =>
 by_cases hlen:ts.length < sizeLine
 case neg=>rw [if_neg hlen] at hf; cases hf
 rw [if_pos hlen] at hf
 cases hf
 obtain ⟨v,d0,a1,_,a3⟩:=e.at_ i _ (aV h0)
 obtain ⟨l0,vs0,e0,sq⟩:=a3.sqL
 refine ⟨v,a1,?_,Ox,en,R,t1,en1,e,h1,fun x H1 R1 F P o=>?_⟩
 ·rw [e0]; exact .inl ⟨rfl,vs0,sq⟩
 obtain ⟨v',d',b1,b2,b3⟩:=P.env.at_ i _ (aV h2)
 rw [a1] at b1
 cases b1
 rw [hd] at b2
 cases b2
 obtain ⟨l,vs,el,hl,hr,F',hf',ow⟩:=b3.ownL hz
 refine ⟨l,vs,x,el,rfl,hl,by rw [ow.len]; exact hlen,?_⟩
 have hi:i < en1.length:=(List.getElem?_eq_some_iff.mp (aV h2)).1
 have Fn:∀ a,F a→a≠l:=fun a z z2=>by
  subst z2
  exact P.env.dx i a hr (.inl z)
 have sub:=jf (i:=i) (R1:=R1) (Ox:=Ox) (G:=fun a=>R1 i a∨F a) (F':=NoA) (F:=F) (fun _ z=>z) (fun _ z=>z.elim)
 have Ol:Own R1 (U F Ox) l:=.inl ⟨i,hr⟩
 refine k .non (upd H1 l (.lst (vs++[x]))) _ NoA (P.slot (G:=fun a=>R1 i a∨F a) hr hi a1 hd (fun _ z=>z) (fun _ z=>z.elim) (fun _ _ z=>z) ?_) rfl
 refine ⟨l,vs++[x],el,.inr ⟨hz,aN,.inl hr,U F' F,fun b z=>?_,?_⟩⟩
 ·rcases z with z | z
  ·exact ⟨.inl (hf' b z).1,(hf' b z).2⟩
  ·exact ⟨.inr z,Fn b z⟩
 ·refine Ows.snoc (Ows.past sub Ol (fun b z=>(hf' b z).2) ow) ?_ fun b z1 z2=>P.env.dx i b (hf' b z1).1 (.inl z2)
  rw [hc]
  exact Ow.past sub Ol Fn o
theorem Ows.out:∀ {ts:List PyData} {vs:List V} {F:AS} {k:Nat} {t:PyData},Ows K O H ts d vs F→ts[k]?=some t →
  ∃ v,∃ F1 F2:AS,vs[k]?=some v∧(∀ b,F1 b→F b)∧(∀ b,F2 b→F b)∧(∀ b,F1 b→¬ F2 b)∧Ow K O H t d v F1∧Ows K O H (ts.eraseIdx k) d (vs.eraseIdx k) F2
 | [],_,_,k,t,_,h=>by simp at h
 | u :: ts,_,F,k,t,h,hk=>by
  obtain ⟨v,r,F1,F2,e,s1,s2,s3,h4,h5⟩:=h
  subst e
  cases k with
  | zero =>
   have:u=t:=by simpa using hk
   subst this
   exact ⟨v,F1,F2,rfl,s1,s2,s3,h4,h5⟩
  | succ k =>
   obtain ⟨w,G1,G2,g1,g2,g3,g4,g5,g6⟩:=Ows.out (k:=k) h5 (by simpa using hk)
   refine ⟨w,G1,U F1 G2,by simpa using g1,fun b z=>s2 b (g2 b z),fun b z=>z.elim (s1 b) fun z=>s2 b (g3 b z),fun b z z2=>?_,g5,v,r.eraseIdx k,F1,G2,rfl,fun b=>.inl,fun b=>.inr,fun b z1 z2=>s3 b z1 (g3 b z2),h4,g6⟩
   rcases z2 with z2 | z2
   ·exact s3 b z2 (g2 b z)
   ·exact g4 b z z2
def nb (i:Nat):ME:=fun en=>match (en[i]?).join with
 | some (.list ts)=>(ts[ts.length - 1]?).map fun t=>(t,en.set i (some (.list ts.dropLast)))
 | _=>none
theorem IX {c:Nat} (hd:ds[i]?=some d) (hz:d≠0) (hc:dn d=c) (h:tF K false ds ds c (nb i) σ H Q):F8 K "list" Gg (fh i) σ H Q:=by
 obtain ⟨Ox,en,R,t,en',e,hf,k⟩:=h
 unfold nb at hf
 split at hf
 case h_2=>cases hf
 next ts h0 =>
 obtain ⟨t',h1,hf⟩:=Option.map_eq_some_iff.mp hf
 cases hf
 obtain ⟨v,d',a1,a2,a3⟩:=e.at_ i _ (aV h0)
 rw [hd] at a2
 cases a2
 obtain ⟨l,vs,el,hl,hr,F',hf',ow⟩:=a3.ownL hz
 have len:=ow.len
 obtain ⟨w,F1,F2,g1,g2,g3,g4,g5,g6⟩:=ow.out h1
 refine ⟨v,a1,by rw [el]; exact .inl ⟨rfl,vs,SqL.of hl⟩,l,vs,w,el,rfl,hl,by rw [len]; exact g1,?_⟩
 have hi:i < en.length:=(List.getElem?_eq_some_iff.mp (aV h0)).1
 have P:=Post.refl (p:=true) e
 have eqU:U (fun _=>False) Ox=Ox:=gk
 have hO:Own R (U (fun _=>False) Ox)=Own R Ox:=by rw [eqU]
 have gG:∀ a,(fun a=>R i a∧¬ F1 a) a→R i a∨False:=fun a z=>.inl z.1
 have gF:∀ a,F1 a→R i a∨False:=fun a z=>.inl (hf' a (g2 a z)).1
 have sub:∀ a,Own (fun j=>if j=i then (fun a=>R i a∧¬ F1 a) else R j) (U F1 Ox) a→Own R Ox a:=fun a z=>hO ▸ jf gG gF a z
 have Ol:Own R Ox l:=.inl ⟨i,hr⟩
 have F1l:¬ F1 l:=fun z=>(hf' l (g2 l z)).2 rfl
 have ed:ts.eraseIdx (ts.length - 1)=ts.dropLast:=jA ts
 have ed2:vs.eraseIdx (ts.length - 1)=vs.dropLast:=by rw [← len]; exact jA vs
 rw [ed,ed2] at g6
 rw [hc] at g5
 refine k w (upd H l (.lst vs.dropLast)) _ F1 (P.slot (G:=fun a=>R i a∧¬ F1 a) (F:=fun _=>False) hr hi a1 hd gG gF (fun a z z2=>z.2 z2) ?_) (Ow.past sub Ol (fun b z=>(hf' b (g2 b z)).2) g5)
 exact ⟨l,vs.dropLast,el,.inr ⟨hz,aN,⟨hr,F1l⟩,F2,fun b z=>⟨⟨(hf' b (g3 b z)).1,fun z1=>g4 b z1 z⟩,(hf' b (g3 b z)).2⟩,Ows.past sub Ol (fun b z=>(hf' b (g3 b z)).2) g6⟩⟩
def hX (i:Nat) (f:ME):ME:=fun en=>match (en[i]?).join with
 | some (.list _)=>(f en).bind fun r=>match r.1,(r.2[i]?).join with
  | .int n,some (.list ts)=>if -(2 ^ 63)≤n∧n < 2 ^ 63 then (seqIndex? n ts.length).bind fun k=>(ts[k]?).map fun t=>(t,r.2.set i (some (.list (ts.eraseIdx k)))) else none
  | _,_=>none
 | _=>none
theorem DS {c:Nat} (hd:ds1[i]?=some d) (hz:d≠0) (hc:dn d=c) (h:tF K false ds ds1 c (hX i f) σ H Q):tBM K "list" tM (fh i) (l7 (tF K p ds ds1 d1 f) rM) σ H Q:=by
 obtain ⟨Ox,en,R,t,en',e,hf,k⟩:=h
 unfold hX at hf
 split at hf
 case h_2=>cases hf
 next ts0 h0 =>
 obtain ⟨⟨t1,en1⟩,h1,hf⟩:=Option.bind_eq_some_iff.mp hf
 dsimp only at hf
 split at hf
 case h_2=>cases hf
 next n ts h2 =>
 by_cases hn:-(2 ^ 63)≤n∧n < 2 ^ 63
 case neg=>rw [if_neg hn] at hf; cases hf
 rw [if_pos hn] at hf
 obtain ⟨kk,h3,hf⟩:=Option.bind_eq_some_iff.mp hf
 obtain ⟨t',h4,hf⟩:=Option.map_eq_some_iff.mp hf
 cases hf
 obtain ⟨v,d0,a1,_,a3⟩:=e.at_ i _ (aV h0)
 obtain ⟨l0,vs0,e0,sq⟩:=a3.sqL
 refine ⟨v,a1,?_,Ox,en,R,.int n,en1,e,h1,fun x H1 R1 F P o=>?_⟩
 ·rw [e0]; exact .inl ⟨rfl,vs0,sq⟩
 obtain ⟨v',d',b1,b2,b3⟩:=P.env.at_ i _ (aV h2)
 rw [a1] at b1
 cases b1
 rw [hd] at b2
 cases b2
 obtain ⟨l,vs,el,hl,hr,F',hf',ow⟩:=b3.ownL hz
 have len:=ow.len
 obtain ⟨w,F1,F2,g1,g2,g3,g4,g5,g6⟩:=ow.out h4
 have ex:x=.int n:=o
 refine ⟨l,vs,n,kk,w,el,by rw [ex],hl,hn.1,hn.2,by rw [len]; exact h3,g1,?_⟩
 have hi:i < en1.length:=(List.getElem?_eq_some_iff.mp (aV h2)).1
 have gG:∀ a,(fun a=>R1 i a∧¬ F1 a) a→R1 i a∨F a:=fun a z=>.inl z.1
 have gF:∀ a,F1 a→R1 i a∨F a:=fun a z=>.inl (hf' a (g2 a z)).1
 have sub:∀ a,Own (fun j=>if j=i then (fun a=>R1 i a∧¬ F1 a) else R1 j) (U F1 Ox) a→Own R1 (U F Ox) a:=fun a z=>jf gG gF a z
 have Ol:Own R1 (U F Ox) l:=.inl ⟨i,hr⟩
 have F1l:¬ F1 l:=fun z=>(hf' l (g2 l z)).2 rfl
 rw [hc] at g5
 refine k w (upd H1 l (.lst (vs.eraseIdx kk))) _ F1 (P.slot (G:=fun a=>R1 i a∧¬ F1 a) hr hi a1 hd gG gF (fun a z z2=>z.2 z2) ?_) (Ow.past sub Ol (fun b z=>(hf' b (g2 b z)).2) g5)
 exact ⟨l,vs.eraseIdx kk,el,.inr ⟨hz,aN,⟨hr,F1l⟩,F2,fun b z=>⟨⟨(hf' b (g3 b z)).1,fun z1=>g4 b z1 z⟩,(hf' b (g3 b z)).2⟩,Ows.past sub Ol (fun b z=>(hf' b (g3 b z)).2) g6⟩⟩
theorem Ows.setAt:∀ {ts:List PyData} {vs:List V} {F F2:AS} {k:Nat} {t:PyData} {v:V},Ows K O H ts d vs F→Ow K O H t d v F2→(∀ b,F b→¬ F2 b)→Ows K O H (ts.set k t) d (vs.set k v) (U F F2)
 | [],_,_,_,_,_,_,h,_,_=>by rw [show _=[] from h]; rfl
 | u :: ts,_,F,F2,k,t,v,h,h2,hd=>by
  obtain ⟨w,r,G1,G2,e,s1,s2,s3,h4,h5⟩:=h
  subst e
  cases k with
  | zero=>exact ⟨v,r,F2,G2,rfl,fun _ z=>.inr z,fun b z=>.inl (s2 b z),fun b z z2=>hd b (s2 b z2) z,h2,h5⟩
  | succ k =>
   refine ⟨w,r.set k v,G1,U G2 F2,rfl,fun b z=>.inl (s1 b z),fun b z=>z.imp (s2 b) id,fun b z z2=>?_,h4,Ows.setAt h5 h2 fun b z=>hd b (s2 b z)⟩
   rcases z2 with z2 | z2
   ·exact s3 b z z2
   ·exact hd b (s1 b z) z2
def eV (i:Nat) (fk fe:ME):MS:=fun en=>(fe en).bind fun r=>match (r.2[i]?).join with
 | some _=>(fk r.2).bind fun q=>match q.1,(q.2[i]?).join with
  | .int n,some (.list ts)=>(ixN ts.length n).map fun k=>.nx (q.2.set i (some (.list (ts.set k r.1))))
  | _,_=>none
 | none=>none
theorem Do {c:Nat} {fk fe:ME} (hd:ds2[i]?=some d) (hz:d≠0) (hc:dn d=c) (h:tFS K J ds ds2 (eV i fk fe) D σ H) :
  mY (tF K p1 ds ds1 c fe) (v7 (fh i) (tF K p2 ds1 ds2 d2 fk) rO) D σ H:=by
 obtain ⟨Ox,en,R,fl,e,hf,k⟩:=h
 unfold eV at hf
 obtain ⟨⟨t1,en1⟩,h1,hf⟩:=Option.bind_eq_some_iff.mp hf
 dsimp only at hf
 split at hf
 case h_2=>cases hf
 next tt h0 =>
 obtain ⟨⟨t2,en2⟩,h2,hf⟩:=Option.bind_eq_some_iff.mp hf
 dsimp only at hf
 split at hf
 case h_2=>cases hf
 next n ts h3 =>
 obtain ⟨kk,h4,hf⟩:=Option.map_eq_some_iff.mp hf
 cases hf
 refine ⟨Ox,en,R,t1,en1,e,h1,fun x H1 R1 F1 P1 o1=>?_⟩
 obtain ⟨v0,d0,a1,_,_⟩:=P1.env.at_ i tt (aV h0)
 refine ⟨v0,a1,?_⟩
 refine ⟨U F1 Ox,en1,R1,.int n,en2,P1.env,h2,fun y H2 R2 F2 P2 o2=>?_⟩
 have P:=P1.trans P2
 have o1':=Ow.over P1.env P2 o1
 obtain ⟨v',d',b1,b2,b3⟩:=P.env.at_ i _ (aV h3)
 rw [a1] at b1
 cases b1
 rw [hd] at b2
 cases b2
 obtain ⟨l,vs,el,hl,hr,F',hf',ow⟩:=b3.ownL hz
 refine ⟨l,vs,n,kk,el,o2,hl,by rw [ow.len]; exact h4,?_⟩
 have hi:i < en2.length:=(List.getElem?_eq_some_iff.mp (aV h3)).1
 have Fn:∀ a,F1 a→a≠l:=fun a z z2=>by
  subst z2
  exact P.env.dx i a hr (.inl (.inl z))
 have gG:∀ a,(fun a=>R2 i a∨F1 a) a→R2 i a∨U F1 F2 a:=fun a z=>z.imp id .inl
 have sub:=jf (i:=i) (R1:=R2) (Ox:=Ox) (G:=fun a=>R2 i a∨F1 a) (F':=NoA) (F:=U F1 F2) gG (fun _ z=>z.elim)
 have Ol:Own R2 (U (U F1 F2) Ox) l:=.inl ⟨i,hr⟩
 have PS:=P.slot (G:=fun a=>R2 i a∨F1 a) (F':=NoA) (o2:=.lst (vs.set kk x)) (t:=.list (ts.set kk t1)) hr hi a1 hd gG (fun _ z=>z.elim) (fun _ _ z=>z) ?_
 ·exact k σ _ _ PS.s
 refine ⟨l,vs.set kk x,el,.inr ⟨hz,aN,.inl hr,U F' F1,fun b z=>?_,?_⟩⟩
 ·rcases z with z | z
  ·exact ⟨.inl (hf' b z).1,(hf' b z).2⟩
  ·exact ⟨.inr z,Fn b z⟩
 ·refine Ows.setAt (Ows.past sub Ol (fun b z=>(hf' b z).2) ow) ?_ fun b z1 z2=>P.env.dx i b (hf' b z1).1 (.inl (.inl z2))
  rw [hc]
  exact Ow.past sub Ol Fn o1'
theorem Ows.get:∀ {ts:List PyData} {vs:List V} {F:AS} {k:Nat} {t:PyData},Ows K O H ts d vs F→ts[k]?=some t→∃ v,vs[k]?=some v∧Ow K O H t d v F
 | [],_,_,k,t,_,h=>by simp at h
 | u :: ts,_,F,k,t,h,hk=>by
  obtain ⟨v,r,F1,F2,e,s1,s2,s3,h4,h5⟩:=h
  subst e
  cases k with
  | zero =>
   have:u=t:=by simpa using hk
   subst this
   exact ⟨v,rfl,Ow.grow (fun _ z=>z) u s1 h4⟩
  | succ k =>
   obtain ⟨w,g1,g2⟩:=Ows.get (k:=k) h5 (by simpa using hk)
   exact ⟨w,by simpa using g1,Ow.grow (fun _ z=>z) t s2 g2⟩
theorem Ows.atI {ts:List PyData} {vs:List V} {F:AS} {n:Int} {t:PyData} (h:Ows K O H ts d vs F) (ht:L2.atI ts n=some t):∃ v,L2.atI vs n=some v∧Ow K O H t d v F:=by
 unfold L2.atI at ht ⊢
 rw [h.len]
 obtain ⟨k,h1,h2⟩:=Option.bind_eq_some_iff.mp ht
 obtain ⟨v,g1,g2⟩:=h.get h2
 exact ⟨v,by rw [h1]; exact g1,g2⟩
def da (i:Nat) (f:ME):ME:=fun en=>(en[i]?).join.bind fun _=>(f en).bind fun r=>match r.1,(r.2[i]?).join with
 | .int n,some (.list ts)=>(atI ts n).map fun t=>(t,r.2)
 | _,_=>none
theorem Jb (hd:ds1[i]?=some 1) (h:tF K p ds ds1 0 (da i f) σ H Q):tOp (rP K) (fh i) (tF K p ds ds1 d1 f) σ H Q:=by
 obtain ⟨Ox,en,R,t,en',e,hf,k⟩:=h
 unfold da at hf
 obtain ⟨t0,h0,hf⟩:=Option.bind_eq_some_iff.mp hf
 obtain ⟨⟨t1,en1⟩,h1,hf⟩:=Option.bind_eq_some_iff.mp hf
 dsimp only at hf
 split at hf
 case h_2=>cases hf
 next n ts h2 =>
 obtain ⟨t',h3,hf⟩:=Option.map_eq_some_iff.mp hf
 cases hf
 obtain ⟨v,d0,a1,_,a3⟩:=e.at_ i _ (aV h0)
 refine ⟨v,a1,Ox,en,R,.int n,_,e,h1,fun x H1 R1 F P o=>?_⟩
 obtain ⟨v',d',b1,b2,b3⟩:=P.env.at_ i _ (aV h2)
 rw [a1] at b1
 cases b1
 rw [hd] at b2
 cases b2
 obtain ⟨l,vs,el,hl,hr,F',hf',ow⟩:=b3.ownL (by decide)
 obtain ⟨w,g1,g2⟩:=ow.atI h3
 refine ⟨l,vs,n,w,el,o,SqL.of hl,g1,k w H1 R1 NoA (P.less fun _ z=>z.elim) ?_⟩
 exact Ow.any0 _ (Ow.grow (fun a z=>z.imp id fun z=>z.elim (fun z=>False.elim z) Or.inr) _ (fun _ z=>z) g2)
end
end L2
namespace L2
open PySem PySem.Spec PyProof.Rows
theorem PE.imp {X:Cx} {e:Expr} {t t':TE} (h:PE X e t) (hi:∀ σ H Q,t' σ H Q→t σ H Q):PE X e t':=fun pins s σ H Q I hw=>h pins s σ H Q I (hi _ _ _ hw)
theorem PT.imp {X:Cx} {e:Expr} {t t':TT} (h:PT X e t) (hi:∀ σ H Q,t' σ H Q→t σ H Q):PT X e t':=fun pins s σ H Q I hw=>h pins s σ H Q I (hi _ _ _ hw)
theorem PW.imp {X:Cx} {e:Expr} {t t':TT} (h:PW X e t) (hi:∀ σ H Q,t' σ H Q→t σ H Q):PW X e t':=fun wh pins s σ H Q I hw=>h wh pins s σ H Q I (hi _ _ _ hw)
theorem PA.imp {X:Cx} {e:List Expr} {t t':TA} (h:PA X e t) (hi:∀ σ H Q,t' σ H Q→t σ H Q):PA X e t':=fun pos pins s σ H Q I hw=>h pos pins s σ H Q I (hi _ _ _ hw)
theorem PS.imp {X:Cx} {e:Stmt} {t t':TS} (h:PS X e t) (hi:∀ D σ H,t' D σ H→t D σ H):PS X e t':=fun pins s σ H D I hw=>h pins s σ H D I (hi _ _ _ hw)
theorem PSs.imp {X:Cx} {e:List Stmt} {t t':TS} (h:PSs X e t) (hi:∀ D σ H,t' D σ H→t D σ H):PSs X e t':=fun pins s σ H D I hw=>h pins s σ H D I (hi _ _ _ hw)
theorem PG.imp {X:Cx} {e:Expr} {t t':TG} (h:PG X e t) (hi:∀ v σ H Q,t' v σ H Q→t v σ H Q):PG X e t':=fun pins s σ H v u Q I r hw=>h pins s σ H v u Q I r (hi _ _ _ _ hw)
theorem PGs.imp {X:Cx} {e:List Expr} {t t':TGs} (h:PGs X e t) (hi:∀ v σ H Q,t' v σ H Q→t v σ H Q):PGs X e t':=fun pins s σ H v u Q I r hw=>h pins s σ H v u Q I r (hi _ _ _ _ hw)
theorem PI.imp {X:Cx} {tg e:Expr} {t t':TI} (h:PI X tg e t) (hi:∀ σ H R,t' σ H R→t σ H R):PI X tg e t':=fun pins s σ H R I hw=>h pins s σ H R I (hi _ _ _ hw)
theorem PTs.imp {X:Cx} {e:List Expr} {t t':TT} (h:PTs X e t) (hi:∀ σ H Q,t' σ H Q→t σ H Q):PTs X e t':=fun pins s σ H Q I hw=>h pins s σ H Q I (hi _ _ _ hw)
def aP:Expr→Bool
 | .Starred _ _=>false
 | _=>true
theorem bI {e:Expr} {es:List Expr} {env:Env} (h:aP e=true):starEach (e :: es) env=(false,eval e env) :: starEach es env:=by
 cases e <;> first | rfl | cases h
theorem fq {pos:Pos} {env:Env}:∀ {es:List Expr},es.all aP=true→(backTo pos (starEach es env)).any (·.1)=false
 | [],_=>rfl
 | e :: es,h=>by
  rw [List.all_cons,Bool.and_eq_true] at h
  rw [bI h.1]
  show (false || (backTo pos (starEach es env)).any (·.1))=false
  rw [fq h.2]
  rfl
section
variable {X:Cx} {K:PySem.W.Frag} {p p1 p2 q:Bool} {ds ds0 ds1 ds2 ds' dsi:List Nat} {d d' d1 d2:Nat} {a b c e:Expr} {es:List Expr} {f f1 f2:ME} {m c1 c2:MT} {fa:MA} {sh:Sh} {pos:Pos} {i:Nat} {x:Str}
theorem Hu {x:Str} (hN:X.N[i]?=some x) (hv:Vis X.env.scope x) (h0:ds[i]?=some 0) (hd:(x == ("__debug__" : Str))=false) (hcd:(x == ("__classdict__" : Str))=false):PE X (.Name x pos) (tF K p ds ds 0 (ad i)) :=
 (cM hN hv hd hcd).imp fun _ _ _ h=>IU h0 (jy (fun _=>rfl) h)
theorem IM {x:Str} (hN:X.N[i]?=some x) (hv:Vis X.env.scope x) (h0:ds[i]?=some d) (hds:ds.set i 0=ds') (hd:(x == ("__debug__" : Str))=false) (hcd:(x == ("__classdict__" : Str))=false):PE X (.Name x pos) (tF K false ds ds' d (eMv i)):=by
 subst hds
 exact (cM hN hv hd hcd).imp fun _ _ _=>Jz h0
theorem HG {n:Int} {j}:PE X (.Constant (.int n) j pos) (tF K p ds ds 3 (eC (.int n))):=pe_int.imp fun _ _ _ h=>f_c (t:=.int n) (fun _ _ _ _=>rfl) (jy (fun _=>rfl) h)
theorem IT {n:Bool} {j}:PE X (.Constant (.bool n) j pos) (tF K p ds ds 3 (eC (.bool n))):=pe_bl.imp fun _ _ _ h=>f_c (t:=.bool n) (fun _ _ _ _=>rfl) (jy (fun _=>rfl) h)
theorem HB {j}:PE X (.Constant .none j pos) (tF K p ds ds 3 (eC .none)):=pe_non.imp fun _ _ _ h=>f_c (t:=.none) (fun _ _ _ _=>rfl) (jy (fun _=>rfl) h)
theorem Hx {n:Str} {j}:PE X (.Constant (.str n) j pos) (tF K p ds ds 3 (eC (.str n))):=pe_str.imp fun _ _ _ h=>f_c (t:=.str n) (fun _ _ _ _=>rfl) (jy (fun _=>rfl) h)
theorem wz {x:Str} {n:Int} {t:Tok} (hg:Gl X x) (hm:X.mg x=some (.int n t)) (hd:(x == ("__debug__" : Str))=false):PE X (.Name x pos) (tF K p ds ds 3 (eC (.int n))) :=
 (CM (v:=.int n) hg hm ⟨t,rfl⟩ hd).imp fun _ _ _ h=>f_c (t:=.int n) (fun _ _ _ _=>rfl) (jy (fun _=>rfl) h)
theorem Hw (h:PE X e (tF K p ds ds' d f)) (hd:d'≤d):PE X e (tF K p ds ds' d' f):=h.imp fun _ _ _=>IW hd
theorem IR (h:PE X e (tF K p ds0 ds' d f)) (hd:leD ds0 ds=true):PE X e (tF K false ds ds' d f):=h.imp fun _ _ _=>JB hd
theorem HK (h:PE X e (tF K true ds0 ds0 3 f)) (hd:leD ds0 ds=true):PE X e (tF K p ds ds 3 f):=h.imp fun _ _ _ h=>Je hd (jy (fun _=>rfl) h)
theorem IL {op:Operator} {g:D→D→Option D} (ho:OpR X (binaryOp op) (rF2 K g d)) (ha:PE X a (tF K p ds ds1 d1 f1)) (hb:PE X b (tF K p ds1 ds2 d2 f2)):PE X (.BinOp a op b pos) (tF K p ds ds2 d (e2 g f1 f2)) :=
 (Ix ho ha hb).imp fun _ _ _ h=>oF (by rw [Bool.and_self]; exact h)
theorem IJ {op:UnaryOp} {g:D→Option D} (ho:UnR X (unaryOp op) (rF1 K g d)) (ha:PE X a (tF K p ds ds1 d1 f1)):PE X (.UnaryOp op a pos) (tF K p ds ds1 d (e1 g f1)) :=
 (Iv ho ha).imp fun _ _ _=>IZ
theorem HJ {op:CmpOp} {g:D→D→Option D} (ho:OpR X (compareOp op) (rF2 K g d)) (ha:PE X a (tF K p ds ds1 d1 f1)) (hb:PE X b (tF K p ds1 ds2 d2 f2)) (hm:behindInMarks op b=false):PE X (.Compare a [op] [b] pos) (tF K p ds ds2 d (e2 g f1 f2)) :=
 (CP ho ha hb hm).imp fun _ _ _ h=>oF (by rw [Bool.and_self]; exact h)
theorem Dj {op:CmpOp} {g:D→D→Option D} (ho:OpR X (compareOp op) (rF2 K g d)) (ha:PE X a (tF K p ds ds1 d1 f1)) (hb:PE X b (tF K p ds1 ds2 d2 f2)) (hm:behindInMarks op b=false):PT X (.Compare a [op] [b] pos) (tFT K p ds ds2 (tV (e2 g f1 f2))) :=
 (CB ho ha hb hm).imp fun σ H Q h=>by
  obtain ⟨Ox,en,R,t,en',e,hf,k⟩:=pS (d:=d) h
  exact oF (by rw [Bool.and_self]; exact ⟨Ox,en,R,t,en',e,hf,k⟩)
theorem Dh (h:PE X e (tF K p ds ds' d f)) (he:∀ whole,isTrue e X.env whole=(do let v ← whole; standAt e.pos; holding [v] (truthy v))):PT X e (tFT K p ds ds' (tV f)):=(Gm h he).imp fun _ _ _=>pS
theorem Dd (ha:PT X a (tFT K p ds ds1 c1)):PW X (.BoolOp .And [a] pos) (tFT K p ds ds1 c1):=Cz ha
theorem G9 (ha:PT X a (tFT K p ds ds1 c1)):PW X (.BoolOp .Or [a] pos) (tFT K p ds ds1 c1):=Gj ha
theorem Ha {rest:List Expr} (ha:PT X a (tFT K p ds ds1 c1)) (hb:PW X (.BoolOp .And (b :: rest) pos) (tFT K p ds1 ds1 c2)):PW X (.BoolOp .And (a :: b :: rest) pos) (tFT K p ds ds1 (cD c1 c2)):=(Gk ha hb).imp fun _ _ _ h=>Hd (by rw [Bool.and_self]; exact h)
theorem IF {rest:List Expr} (ha:PT X a (tFT K p ds ds1 c1)) (hb:PW X (.BoolOp .Or (b :: rest) pos) (tFT K p ds1 ds1 c2)):PW X (.BoolOp .Or (a :: b :: rest) pos) (tFT K p ds ds1 (bOr c1 c2)):=(Ir ha hb).imp fun _ _ _ h=>IG (by rw [Bool.and_self]; exact h)
theorem Di (ha:PT X a (tFT K p ds ds1 c1)):PT X (.UnaryOp .Not a pos) (tFT K p ds ds1 (e9 c1)):=(Gn ha).imp fun _ _ _=>Hb
theorem Dk (h:PT X e (tFT K true ds0 ds0 c1)) (hd:leD ds0 ds=true):PT X e (tFT K p ds ds c1):=h.imp fun _ _ _ ⟨Ox,en,R,t,en',e,hf,k⟩=>Hc hd ⟨Ox,en,R,t,en',e,hf,fun H' R' P=>k H' R' ⟨P.env,P.fx,P.keep,P.own,P.dom,fun _=>P.pure rfl⟩⟩
theorem Hz {op} (h:PE X a (tF K p ds ds1 d f)):PE X (.BoolOp op [a] pos) (tF K p ds ds1 d f):=Gv h
theorem HM {rest:List Expr} (ha:PE X a (tF K p ds ds1 d1 f1)) (hb:PE X (.BoolOp .And (b :: rest) pos) (tF K p ds1 ds1 d f2)):PE X (.BoolOp .And (a :: b :: rest) pos) (tF K p ds ds1 d (kq f1 f2)):=(Gz ha hb).imp fun _ _ _ h=>Jg (by rw [Bool.and_self]; exact h)
theorem IK {rest:List Expr} (ha:PE X a (tF K p ds ds1 d1 f1)) (hb:PE X (.BoolOp .Or (b :: rest) pos) (tF K p ds1 ds1 d f2)):PE X (.BoolOp .Or (a :: b :: rest) pos) (tF K p ds ds1 d (eOr f1 f2)):=(Iw ha hb).imp fun _ _ _ h=>Jy (by rw [Bool.and_self]; exact h)
theorem HA (ha:PE X a (tF K p ds ds1 d1 f)):PE X (.UnaryOp .Not a pos) (tF K p ds ds1 3 (nc f)):=(Gw ha).imp fun _ _ _=>I0
theorem IQ (hc:PT X c (tFT K p ds ds1 c1)) (ha:PE X a (tF K p ds1 ds2 d f1)) (hb:PE X b (tF K p ds1 ds2 d f2)):PE X (.IfExp c a b pos) (tF K p ds ds2 d (eIf c1 f1 f2)):=(vy hc ha hb).imp fun _ _ _ h=>JA (by rw [Bool.and_self,Bool.and_self]; exact h)
theorem DQ:PA X [] (tFA K p ds ds [] ai):=pa_nil.imp fun _ _ _ ⟨Ox,en,R,t,en',e,hf,k⟩=>HN ⟨Ox,en,R,t,en',e,hf,fun vs H' R' F P=>k vs H' R' F ⟨P.env,P.fx,P.keep,P.own,P.dom,fun _=>P.pure rfl⟩⟩
theorem wE (ha:PE X e (tF K p ds ds1 d f)) (hr:PA X es (tFA K p ds1 ds2 sh fa)) (hs:aP e=true):PA X (e :: es) (tFA K p ds ds2 (.inl d :: sh) (ae f fa)):=(gI ha hr (bI hs)).imp fun _ _ _ h=>DR (by rw [Bool.and_self]; exact h)
theorem wD {x:Str} (hN:X.N[i]?=some x) (hv:Vis X.env.scope x) (hr:PA X es (tFA K p ds ds2 sh fa)) (hd:(x == ("__debug__" : Str))=false) (hcd:(x == ("__classdict__" : Str))=false) :
  PA X (.Name x pos :: es) (tFA K p ds ds2 (.inr i :: sh) (aG i fa)):=(gI (cM hN hv hd hcd) hr (bI rfl)).imp fun _ _ _=>DP
theorem HC {c:Nat} (h:PA X es (tFA K p ds ds1 sh fa)) (hs:ci c sh=true) (hd:dn d=c) (hz:d≠0):PE X (.List es pos) (tF K p ds ds1 d (bo fa)):=(Gx h).imp fun _ _ _=>Ja hs hd hz
theorem Hv {c:Nat} {x1} (h:PA X es (tFA K p ds ds1 sh fa)) (hs:ci c sh=true) (hd:dn d=c):PE X (.Tuple es x1 pos) (tF K p ds ds1 d (e8 fa)):=(Gu h).imp fun _ _ _=>IV hs hd
theorem wC {id:String} {x:Str} {px:Pos} {g:List D→Option D} (hc:CallR X (.builtin id) (rFn K g d)) (hg:Gl X x) (hm:X.mg x=none) (hv:bootBuiltins x=some (.builtin id)) (ha:PA X (e :: es) (tFA K p ds ds1 sh fa)) (hsh:ci 0 sh=true) (hn:x≠"__name__") (hdb:(x == ("__debug__" : Str))=false)
  (he:aP e=true) (hpl:es.all aP=true):PE X (.Call (.Name x px) (e :: es) [] pos) (tF K p ds ds1 d (eN g fa)) :=
 (pc hc hg hm hv ha hn hdb (bI he) (fq hpl)).imp fun _ _ _=>uQ hsh
theorem uP {T:String} {x:Str} {px:Pos} {g:List D→Option D} (hc:CallR X (.type T) (rFn K g d)) (hg:Gl X x) (hm:X.mg x=none) (hv:bootBuiltins x=some (.type T)) (ha:PA X (e :: es) (tFA K p ds ds1 sh fa)) (hsh:ci 0 sh=true) (hn:x≠"__name__") (hdb:(x == ("__debug__" : Str))=false)
  (he:aP e=true) (hpl:es.all aP=true):PE X (.Call (.Name x px) (e :: es) [] pos) (tF K p ds ds1 d (eN g fa)) :=
 (tW hc hg hm hv ha hn hdb (bI he) (fq hpl)).imp fun _ _ _=>uQ hsh
theorem IS {k:Nat} {x:Str} {ps:List Str} {px:Pos} {dps:List Nat} {dr:Nat} {F:List D→Option (D × En)} (G:Kn X.prog X.w X.K X.mg X.base k x ps (spF K dps dr F)) (hr:Room k X.A) (hg:Gl X x) (ha:PA X (e :: es) (tFA K p ds ds1 sh fa)) (hns:iZ sh=true) (hcd:dF ds1 sh dps=true) (hdb:(x == ("__debug__" : Str))=false)
  (he:aP e=true) (hpl:es.all aP=true) :
  PE X (.Call (.Name x px) (e :: es) [] pos) (tF K p ds ds1 dr (aq F fa)):=(rS G hr hg ha hdb (bI he) (fq hpl)).imp fun _ _ _ h=>HR hcd (by rw [hns,Bool.and_true]; exact h)
theorem HH {k:Nat} {x:Str} {ps:List Str} {px:Pos} {dps:List Nat} {dr:Nat} {F:List D→Option (D × En)} (G:Kn X.prog X.w X.K X.mg X.base k x ps (spF K dps dr F)) (hr:Room k X.A) (hg:Gl X x) (ha:PA X (e :: es) (tFA K false ds ds1 sh fa)) (hcd:dF ds1 sh dps=true) (hdb:(x == ("__debug__" : Str))=false)
  (he:aP e=true) (hpl:es.all aP=true) :
  PE X (.Call (.Name x px) (e :: es) [] pos) (tF K false ds ds1 dr (aq F fa)):=(rS G hr hg ha hdb (bI he) (fq hpl)).imp fun _ _ _ h=>HR hcd h
theorem IP {g:D→D→Option D} (ho:IxR X (rF2 K g d)) (ha:PE X a (tF K p ds ds1 d1 f1)) (hb:PE X b (tF K p ds1 ds2 d2 f2)) (hs:fF b):PE X (.Subscript a b pos) (tF K p ds ds2 d (e2 g f1 f2)) :=
 (rR ho ha hb hs).imp fun _ _ _ h=>oF (by rw [Bool.and_self]; exact h)
theorem HE {x:Str} {px:Pos} (hK:X.K=K) (hN:X.N[i]?=some x) (hv:Vis X.env.scope x) (h1:ds1[i]?=some 1) (hb:PE X b (tF K p ds ds1 d1 f)) (hs:fF b) (hd:(x == ("__debug__" : Str))=false) (hcd:(x == ("__classdict__" : Str))=false) :
  PE X (.Subscript (.Name x px) b pos) (tF K p ds ds1 0 (da i f)):=(rR (Ju hK) (cM hN hv hd hcd) hb hs).imp fun _ _ _=>Jb h1
theorem HL {c:Nat} {x:Str} {px apos cpos:Pos} (hK:X.K=K) (hN:X.N[i]?=some x) (hv:Vis X.env.scope x) (h1:ds1[i]?=some d) (he:PE X e (tF K false ds ds1 c f)) (hz:d≠0) (hc:dn d=c)
  (hd:(x == ("__debug__" : Str))=false) (hcd:(x == ("__classdict__" : Str))=false)
  (hbase:attributeBase (.Name x px) "append" X.env (eval (.Name x px) X.env)=eval (.Name x px) X.env)
  (hfew:((backTo cpos (starEach [e] X.env)).all (fun x=>!x.1) && (backToKw cpos (keywordEach [] X.env)).all (fun x=>x.1.isSome) && decide (([e]:List Expr).length+([]:List Keyword).length+(if ([]:List Keyword).isEmpty then 0 else 1) < 30))=true)
  (hline:(apos.endLine == cpos.line)=true) (hs:starEach [e] X.env=[(false,eval e X.env)]) (hplain:(backTo cpos (starEach [] X.env)).any (·.1)=false) :
  PE X (.Call (.Attribute (.Name x px) "append" apos) [e] [] cpos) (tF K false ds ds1 3 (bQ i f)):=by
 subst hK
 exact (rT PySem.F.plainAttrs_list PySem.F.slot_list_append PySem.F.type_list_append nI (cM hN hv hd hcd) (gI he pa_nil hs) hbase hfew hline hs hplain).imp fun _ _ _=>Jf h1 hz hc
theorem Hy {c:Nat} {x:Str} {px apos cpos:Pos} (hK:X.K=K) (hN:X.N[i]?=some x) (hv:Vis X.env.scope x) (h1:ds[i]?=some d) (hz:d≠0) (hc:dn d=c)
  (hd:(x == ("__debug__" : Str))=false) (hcd:(x == ("__classdict__" : Str))=false)
  (hbase:attributeBase (.Name x px) "pop" X.env (eval (.Name x px) X.env)=eval (.Name x px) X.env) (hline:(apos.endLine == cpos.line)=true) :
  PE X (.Call (.Attribute (.Name x px) "pop" apos) [] [] cpos) (tF K false ds ds c (nb i)):=by
 subst hK
 exact (Gy PySem.F.plainAttrs_list PySem.F.slot_list_pop PySem.F.type_list_pop GI (cM hN hv hd hcd) hbase hline).imp fun _ _ _=>IX h1 hz hc
theorem ww {c:Nat} {x:Str} {px apos cpos:Pos} (hK:X.K=K) (hN:X.N[i]?=some x) (hv:Vis X.env.scope x) (h1:ds1[i]?=some d) (he:PE X e (tF K false ds ds1 d1 f)) (hz:d≠0) (hc:dn d=c)
  (hd:(x == ("__debug__" : Str))=false) (hcd:(x == ("__classdict__" : Str))=false)
  (hbase:attributeBase (.Name x px) "pop" X.env (eval (.Name x px) X.env)=eval (.Name x px) X.env)
  (hfew:((backTo cpos (starEach [e] X.env)).all (fun x=>!x.1) && (backToKw cpos (keywordEach [] X.env)).all (fun x=>x.1.isSome) && decide (([e]:List Expr).length+([]:List Keyword).length+(if ([]:List Keyword).isEmpty then 0 else 1) < 30))=true)
  (hline:(apos.endLine == cpos.line)=true) (hs:starEach [e] X.env=[(false,eval e X.env)]) (hplain:(backTo cpos (starEach [] X.env)).any (·.1)=false) :
  PE X (.Call (.Attribute (.Name x px) "pop" apos) [e] [] cpos) (tF K false ds ds1 c (hX i f)):=by
 subst hK
 exact (rT PySem.F.plainAttrs_list PySem.F.slot_list_pop PySem.F.type_list_pop vI (cM hN hv hd hcd) (gI he pa_nil hs) hbase hfew hline hs hplain).imp fun _ _ _=>DS h1 hz hc
def cY:MT:=fun en=>some (true,en)
theorem Dg:PTs X [] (tFT K p ds ds cY):=pts_nil.imp fun σ H Q ⟨Ox,en,R,b,en',e,hf,k⟩=>by
 cases hf
 exact k H R (Post.refl e)
theorem De (hc:PT X c (tFT K p ds ds1 c1)):PTs X [c] (tFT K p ds ds1 c1):=CA hc
theorem IN {elt tg iter:Expr} {ifs:List Expr} {scope:Scope} {ns:List Str} {js:List (Option Nat)} {fi:MI} {g:MG} {lk:List Nat} {cd:Nat} (B:BlkOkC X scope ns js) (hc:X.calm=true) (hi:PI X tg iter (tFI K p ds ds1 fi))
  (hg:∀ C cl s₀ H₀ fp,PG (aR X scope ns C cl s₀ H₀ fp) tg (tFG K lk dsi dsi g)) (ht:∀ C cl s₀ H₀ fp,PTs (aR X scope ns C cl s₀ H₀ fp) ifs (tFT K true dsi dsi c1)) (he:∀ C cl s₀ H₀ fp,PE (aR X scope ns C cl s₀ H₀ fp) elt (tF K true dsi dsi cd f))
  (hcap:gj ds1 js dsi=true) (hd:dn d=cd) (hz:d≠0) (hlk:lk=gi js 0)
  (hs:∀ x,foldedSetIterable iter X.env x=pure x):PE X (.ListComp elt [⟨tg,iter,ifs,0⟩] scope pos) (tF K p ds ds1 d (eLC true fi g c1 f js)) :=
 (tU B hc hi hg ht he hs).imp fun _ _ _ h=>wF hcap hd hz hlk (by rw [Bool.and_true]; exact h)
theorem HD {elt tg iter:Expr} {ifs:List Expr} {scope:Scope} {ns:List Str} {js:List (Option Nat)} {fi:MI} {g:MG} {lk:List Nat} {cd:Nat} (B:BlkOkC X scope ns js) (hc:X.calm=true) (hi:PI X tg iter (tFI K false ds ds1 fi))
  (hg:∀ C cl s₀ H₀ fp,PG (aR X scope ns C cl s₀ H₀ fp) tg (tFG K lk dsi dsi g)) (ht:∀ C cl s₀ H₀ fp,PTs (aR X scope ns C cl s₀ H₀ fp) ifs (tFT K false dsi dsi c1)) (he:∀ C cl s₀ H₀ fp,PE (aR X scope ns C cl s₀ H₀ fp) elt (tF K false dsi dsi cd f))
  (hcap:gj ds1 js dsi=true) (hd:dn d=cd) (hz:d≠0) (hlk:lk=gi js 0)
  (hs:∀ x,foldedSetIterable iter X.env x=pure x):PE X (.ListComp elt [⟨tg,iter,ifs,0⟩] scope pos) (tF K false ds ds1 d (eLC false fi g c1 f js)) :=
 (tU B hc hi hg ht he hs).imp fun _ _ _ h=>wF hcap hd hz hlk h
end
end L2
namespace L2
open PySem PySem.Spec PyProof.Rows
def J3 (f:ME) (g:MG):MS:=fun en=>(f en).bind fun r=>(g r.1 r.2).map .nx
section
variable {K:PySem.W.Frag} {p p1 p2 q:Bool} {J:Jd} {ds ds0 ds1 ds2 ds' dsi dps:List Nat} {d d' d1 d2 dr:Nat} {f f1 f2 fk fe:ME} {c1 c2:MT} {fa:MA} {sh:Sh} {i:Nat} {m m1 m2:MS} {g:MG} {lk:List Nat} {σ:St} {H:Hp} {Dn:Ends}
end
section
variable {X:Cx} {K:PySem.W.Frag} {p p1 p2 q:Bool} {J:Jd} {ds ds0 ds1 ds2 ds' dsi dps:List Nat} {d d' d1 d2 dr:Nat} {a b c e tg iter:Expr} {es:List Expr} {st:Stmt} {rest body bodyB:List Stmt} {f f1 f2 fk fe:ME} {c1 c2:MT} {fa:MA} {sh:Sh} {pos px:Pos} {i:Nat} {x:Str} {m m1 m2:MS} {g:MG} {gs:List D→En→Option En} {fi:MI} {lk:List Nat}
theorem Dm:PSs X [] (tFS K J ds ds bt):=pss_nil.imp fun _ _ _=>Hh
theorem v9 (h1:PS X st (tFS K J ds ds1 m1)) (h2:PSs X rest (tFS K J ds1 ds2 m2)):PSs X (st :: rest) (tFS K J ds ds2 (al m1 m2)):=(vn h1 h2).imp fun _ _ _=>Hf
theorem Dl (h1:PS X st (tFS K J ds ds1 m1)):PSs X [st] (tFS K J ds ds1 m1):=CC h1
theorem Du (he:PE X e (tF K false ds ds1 d f)) (hs:swapsWith e none pos.line X.env=pure false):PS X (.Expr e pos) (tFS K J ds ds1 (bN f)):=(CD he hs).imp fun _ _ _=>Hj
theorem Ds (he:PE X e (tF K false ds ds1 J.dr f)) (hd:leD J.dsr ds1=true):PS X (.Return (some e) pos) (tFS K J ds ds' (aF f)):=(Gp he).imp fun _ _ _=>Hg hd
theorem uG:PS X st (tFS K J ds ds' fV):=ps_never.imp fun _ _ _=>wd
theorem Hk (hc:PT X c (tFT K false ds ds1 c1)) (ha:PSs X body (tFS K J ds1 ds2 m1)) (hb:PSs X bodyB (tFS K J ds1 ds2 m2)):PS X (.If c body bodyB pos) (tFS K J ds ds2 (sIf c1 m1 m2)):=(Iu hc ha hb).imp fun _ _ _=>IH
theorem Dr {x:Str} {pos':Pos} (hN:X.N.Nodup) (hi:X.N[i]?=some x) (hx:Loc X.env.scope x) (he:PE X e (tF K false ds ds1 d f)) (hds:ds1.set i d=ds') (hl:i < ds1.length) (hk:i ∉ J.lk)
  (hs:swapsWith e (some (.Name x pos')) pos.line X.env=pure false) (hf:X.fn x=true∨X.env.scope.names.lookup x=some .local) :
  PS X (.Assign [.Name x pos'] e pos) (tFS K J ds ds' (ap i f)):=by
 subst hds
 exact (Go hN hi hx he hs hf).imp fun _ _ _=>uC hl hk
theorem uF {x:Str} {spos pos':Pos} {elt:Expr} {ifs:List Expr} {scope:Scope} {ns:List Str} {js:List (Option Nat)} {cd:Nat} (hN:X.N.Nodup) (hi':X.N[i]?=some x) (hx:X.env.scope.names.lookup x=some .local) (B:BlkOkC X scope ns js) (hc:X.calm=true) (hi:PI X tg iter (tFI K false ds ds1 fi))
  (hg:∀ C cl s₀ H₀ fp,PG (aR X scope ns C cl s₀ H₀ fp) tg (tFG K lk dsi dsi g)) (ht:∀ C cl s₀ H₀ fp,PTs (aR X scope ns C cl s₀ H₀ fp) ifs (tFT K q dsi dsi c1)) (he:∀ C cl s₀ H₀ fp,PE (aR X scope ns C cl s₀ H₀ fp) elt (tF K q dsi dsi cd f))
  (hds:ds1.set i d=ds') (hcap:gj ds1 js dsi=true) (hd:dn d=cd) (hz:d≠0) (hlk:lk=gi js 0) (hl:i < ds1.length) (hk:i ∉ J.lk)
  (hsw:swapsWith (.ListComp elt [⟨tg,iter,ifs,0⟩] scope pos) (some (.Name x pos')) spos.line X.env=pure true)
  (hs:∀ x,foldedSetIterable iter X.env x=pure x):PS X (.Assign [.Name x pos'] (.ListComp elt [⟨tg,iter,ifs,0⟩] scope pos) spos) (tFS K J ds ds' (ap i (eLC q fi g c1 f js))):=by
 subst hds
 exact (tO hN hi' hx B hc hi hg ht he hsw hs).imp fun D σ H h=>wF (p:=false) hcap hd hz hlk (uC (p:=false && q) hl hk h)
theorem we {c:Nat} {x:Str} {spos:Pos} {k:Expr} (hN:X.N[i]?=some x) (hv:Vis X.env.scope x) (he:PE X e (tF K false ds ds1 c fe)) (hk:PE X k (tF K false ds1 ds2 d2 fk)) (h1:ds2[i]?=some d) (hz:d≠0) (hc:dn d=c)
  (hdb:(x == ("__debug__" : Str))=false) (hcd:(x == ("__classdict__" : Str))=false)
  (ha:∀ v,assign (.Subscript (.Name x px) k spos) X.env v=(do
   let ov ← holding [v] (eval (.Name x px) X.env)
   let iv ← holding [v,ov] (eval k X.env)
   standAt spos
   holding [v,ov,iv] (setItem ov iv v)
   release [v,ov,iv] []))
  (hs:swapsWithSole [.Subscript (.Name x px) k spos] e pos.line X.env=pure false) (hw:swappedStores [.Subscript (.Name x px) k spos] e X.env=pure none)
  (h2:(assignEach [.Subscript (.Name x px) k spos] X.env).map (·.2)=[assign (.Subscript (.Name x px) k spos) X.env]) :
  PS X (.Assign [.Subscript (.Name x px) k spos] e pos) (tFS K J ds ds2 (eV i fk fe)) :=
 (tQ he (tT (cM hN hv hdb hcd) hk oY ha) hs hw h2).imp fun _ _ _=>Do h1 hz hc
theorem wq {x:Str} (hN:X.N.Nodup) (hi:X.N[i]?=some x) (hx:Loc X.env.scope x) (hds:ds.set i 0=ds') (hl:i < ds.length) (hk:i ∉ lk) (hf:X.fn x=true∨X.env.scope.names.lookup x=some .local) :
  PG X (.Name x pos) (tFG K lk ds ds' (gN i)):=by
 subst hds
 exact (CL hN hi hx hf).imp fun _ _ _ _=>DJ hl hk
theorem wo:PGs X [] (gb K lk ds ds gs0):=pgs_nil.imp fun _ _ _ _=>DH
theorem uN (h1:PG X e (tFG K lk ds ds1 g)) (h2:PGs X es (gb K lk ds1 ds2 gs)) (hs:(assignEach (e :: es) X.env).map (·.2)=assign e X.env :: (assignEach es X.env).map (·.2)):PGs X (e :: es) (gb K lk ds ds2 (gsC g gs)):=(vw h1 h2 hs).imp fun _ _ _ _=>wp
theorem kP {g1 g2:MG}:∀ ts en,(∃ en',gsC g1 (gsC g2 gs0) ts en=some en')→ts.length=2:=fun ts en ⟨en',h⟩=>by
 match ts,h with
 | [],h=>cases h
 | [_],h =>
  obtain ⟨_,_,h⟩:=Option.bind_eq_some_iff.mp h
  cases h
 | [_,_],_=>rfl
 | a :: b :: c :: r,h =>
  obtain ⟨_,_,h⟩:=Option.bind_eq_some_iff.mp h
  obtain ⟨_,_,h⟩:=Option.bind_eq_some_iff.mp h
  cases h
theorem DI {k n:Nat} (hK:X.K=K) (hc:X.calm=true) (h:PGs X es (gb K lk ds ds1 gs)) (hl:∀ ts en,(∃ en',gs ts en=some en')→ts.length=n) (hn:(assignEach es X.env).length=n) (hst:(assignEach es X.env).findIdx? (·.1)=none) :
  PG X (.Tuple es k pos) (tFG K lk ds ds1 (gT gs)):=by
 subst hK
 exact (Gs hc h hn hst).imp fun _ _ _ _=>Ht hl
theorem Dt (hc:X.calm=true) (hi:PI X tg iter (tFI K false ds ds1 fi)) (hg:PG X tg (tFG K J.lk ds1 ds2 g)) (hb:PSs X body (tFS K { J with dsl:=ds1 } ds2 ds1 m)) (hp:PassesOwn (model X.prog X.w) X.A X.env X.xe)
  (hs:∀ x,foldedSetIterable iter X.env x=pure x):PS X (.For tg iter body [] pos) (tFS K J ds ds1 (c9 fi g m)):=(Gq hp hc hi hg hb hs).imp fun _ _ _=>Hi
theorem uD (hc:PT X c (tFT K false ds ds1 c1)) (hb:PSs X body (tFS K { J with dsl:=ds } ds1 ds m)) (hp:PassesOwn (model X.prog X.w) X.A X.env X.xe):PS X (.While c body [] pos) (tFS K J ds ds1 (bq c1 m)):=(vo hp hc hb).imp fun _ _ _=>wa
end
def B5:D→Option (List D)
 | .list ts=>some ts
 | .tuple ts=>some ts
 | .str z=>some ((li z).map fun c=>.str (mk1 c))
 | _=>none
def bj (f:ME):MI:=fun en=>(f en).bind fun r=>(B5 r.1).map fun ts=>(ts,r.2)
section
variable {K:PySem.W.Frag} {O O1:AS} {H0 H:Hp} {ts:List D} {vs:List V} {a:Addr} {F:AS}
theorem cf {O O1:AS} (h1:∀ a o,H0 a=some o→¬ O a→H a=some o) (h2:∀ a,O1 a→O a∨H0 a=none):Mv O O1 NoA H0 H:=⟨fun a o q z=>z.elim (h1 a o q) fun z=>z.elim,h2⟩
theorem tf (h:FzL K O H0 a vs) (ho:Ows K O H0 ts 0 vs NoA):ku K O H0 (Itl K a) ts:=fun i H O1 h1 h2 h3=>by
 have sq:=(h.mv (cf h1 h2)).sq
 refine ⟨fun t ht=>?_,fun hl=>⟨vs,sq,by rw [ho.len]; omega⟩⟩
 obtain ⟨v,hv,ov⟩:=ho.get ht
 refine ⟨⟨vs,v,sq,hv⟩,fun x H1 ⟨e,y⟩=>?_⟩
 subst e
 have e2:=y vs sq
 rw [hv] at e2
 cases e2
 exact ⟨fun _ _ q=>q,Ow.mv (cf h1 h2) t (fun _ z=>z) ov⟩
theorem vc (h:FzT K O H0 a vs) (ho:Ows K O H0 ts 0 vs NoA):ku K O H0 (Itt K a) ts:=fun i H O1 h1 h2 h3=>by
 have sq:=(h.mv (cf h1 h2)).sq
 refine ⟨fun t ht=>?_,fun hl=>⟨vs,sq,by rw [ho.len]; omega⟩⟩
 obtain ⟨v,hv,ov⟩:=ho.get ht
 refine ⟨⟨vs,v,sq,hv⟩,fun x H1 ⟨e,y⟩=>?_⟩
 subst e
 have e2:=y vs sq
 rw [hv] at e2
 cases e2
 exact ⟨fun _ _ q=>q,Ow.mv (cf h1 h2) t (fun _ z=>z) ov⟩
theorem vd {z:Str}:ku K O H0 (Its z) ((li z).map fun c=>.str (mk1 c)):=fun i H O1 h1 h2 h3=>by
 refine ⟨fun t ht=>?_,fun hl=>?_⟩
 ·rw [List.getElem?_map] at ht
  obtain ⟨c,hc,e⟩:=Option.map_eq_some_iff.mp ht
  have hi:i < z.cps.size:=by
   have:=(List.getElem?_eq_some_iff.mp hc).1
   simpa [li] using this
  have hc':z.cps[i]?=some c:=by
   have:z.cps.toList[i]?=some c:=hc
   simpa using this
  refine ⟨hi,fun x H1 ⟨e1,c',e2,e3⟩=>?_⟩
  subst e1 e e3
  rw [hc'] at e2
  cases e2
  exact ⟨fun _ _ q=>q,rfl⟩
 ·have:z.cps.size=i:=by
   rw [List.length_map] at hl
   simpa [li] using hl
  show z.cps.size≤i
  omega
theorem ve {lo:Int} {n:Nat}:ku K O H0 (Itr lo n) ((List.range n).map fun k=>.int (lo+(k:Nat))):=fun i H O1 h1 h2 h3=>by
 refine ⟨fun t ht=>?_,fun hl=>?_⟩
 ·rw [List.getElem?_map] at ht
  obtain ⟨c,hc,e⟩:=Option.map_eq_some_iff.mp ht
  have hi:=(List.getElem?_eq_some_iff.mp hc).1
  rw [List.length_range] at hi
  rw [List.getElem?_range hi] at hc
  cases hc
  refine ⟨hi,fun x H1 ⟨e1,e2⟩=>?_⟩
  subst e1 e e2
  exact ⟨fun _ _ q=>q,rfl⟩
 ·rw [List.length_map,List.length_range] at hl
  show n≤i
  omega
theorem qT {t:D} {v:V} {i:Nat} {p:Addr} (hp:H p=none) (h3:∀ a,O1 a→∃ o,H a=some o) (ov:Ow K O1 H t 0 v NoA):(∀ a o,H a=some o→upd H p (.tup [.int i,v]) a=some o)∧Ow K O1 (upd H p (.tup [.int (i:Nat),v])) (.tuple [.int i,t]) 0 (.ref p) NoA:=by
 have g:=(bK (o:=.tup [.int i,v]) hp).1
 refine ⟨g,p,[.int i,v],rfl,.inl ⟨rfl,⟨aN,fun z=>?_⟩,.int i,[v],NoA,NoA,rfl,fun _ z=>z,fun _ z=>z,fun _ z=>z.elim,rfl,v,[],NoA,NoA,rfl,fun _ z=>z,fun _ z=>z,fun _ z=>z.elim,?_,rfl⟩⟩
 ·obtain ⟨o,q⟩:=h3 p z
  rw [hp] at q
  cases q
 ·exact Ow.mv (G:=NoA) ⟨fun a o q _=>g a o q,fun a z=>.inl z⟩ t (fun _ z=>z) ov
def df (ts:List D):List D:=ts.zipIdx.map fun p=>.tuple [.int (p.2:Nat),p.1]
theorem fZ {i:Nat} {u:D} (h:(df ts)[i]?=some u):∃ t,ts[i]?=some t∧u=.tuple [.int (i:Nat),t]:=by
 unfold df at h
 rw [List.getElem?_map] at h
 obtain ⟨⟨t,k⟩,h1,h2⟩:=Option.map_eq_some_iff.mp h
 rw [List.getElem?_zipIdx] at h1
 obtain ⟨t',h3,h4⟩:=Option.map_eq_some_iff.mp h1
 cases h4
 refine ⟨t,h3,?_⟩
 rw [← h2,Nat.zero_add]
theorem eP:(df ts).length=ts.length:=by unfold df; rw [List.length_map,List.length_zipIdx]
theorem tm (h:FzL K O H0 a vs) (ho:Ows K O H0 ts 0 vs NoA):ku K O H0 (Ite K a) (df ts):=fun i H O1 h1 h2 h3=>by
 have sq:=(h.mv (cf h1 h2)).sq
 refine ⟨fun u hu=>?_,fun hl=>⟨vs,sq,by rw [eP] at hl; rw [ho.len]; omega⟩⟩
 obtain ⟨t,ht,rfl⟩:=fZ hu
 obtain ⟨v,hv,ov⟩:=ho.get ht
 refine ⟨⟨vs,v,sq,hv⟩,fun x H1 ⟨p,v',e1,hp,e2,y⟩=>?_⟩
 have e3:=y vs sq
 rw [hv] at e3
 cases e3
 subst e1 e2
 exact qT hp h3 (Ow.mv (cf h1 h2) t (fun _ z=>z) ov)
theorem rE (h:FzT K O H0 a vs) (ho:Ows K O H0 ts 0 vs NoA):ku K O H0 (ItT K a) (df ts):=fun i H O1 h1 h2 h3=>by
 have sq:=(h.mv (cf h1 h2)).sq
 refine ⟨fun u hu=>?_,fun hl=>⟨vs,sq,by rw [eP] at hl; rw [ho.len]; omega⟩⟩
 obtain ⟨t,ht,rfl⟩:=fZ hu
 obtain ⟨v,hv,ov⟩:=ho.get ht
 refine ⟨⟨vs,v,sq,hv⟩,fun x H1 ⟨p,v',e1,hp,e2,y⟩=>?_⟩
 have e3:=y vs sq
 rw [hv] at e3
 cases e3
 subst e1 e2
 exact qT hp h3 (Ow.mv (cf h1 h2) t (fun _ z=>z) ov)
end
def bB (fa:MA):MI:=fun en=>(fa en).bind fun r=>match r.1 with
 | [.inl (.int j)]=>if -(2 ^ 62)≤j∧j < 2 ^ 62 then some ((List.range j.toNat).map fun k=>.int (0+(k:Nat)),r.2) else none
 | _=>none
def JR (fa:MA):MI:=fun en=>(fa en).bind fun r=>match r.1 with
 | [.inl (.int i),.inl (.int j)]=>if -(2 ^ 62)≤i∧i < 2 ^ 62∧-(2 ^ 62)≤j∧j < 2 ^ 62 then some ((List.range (j - i).toNat).map fun k=>.int (i+(k:Nat)),r.2) else none
 | _=>none
def gY (fa:MA):MI:=fun en=>(fa en).bind fun r=>match r.1 with
 | [.inl (.list ts)]=>some (df ts,r.2)
 | [.inl (.tuple ts)]=>some (df ts,r.2)
 | _=>none
section
variable {X:Cx} {K:PySem.W.Frag} {p:Bool} {ds ds1:List Nat} {d:Nat} {e tg l:Expr} {f:ME} {fa:MA} {sh:Sh}
theorem Hs (hK:X.K=K) (hl:PE X l (tF K p ds ds1 d f)):PI X tg l (tFI K p ds ds1 (bj f)):=by
 subst hK
 intro pins s σ H R I h
 obtain ⟨Ox,en,Rg,ts,en',e,hf,k⟩:=h
 unfold bj at hf
 obtain ⟨⟨t,en1⟩,h1,hf⟩:=Option.bind_eq_some_iff.mp hf
 obtain ⟨ts',h2,hf⟩:=Option.map_eq_some_iff.mp hf
 cases hf
 refine thn (hl pins s σ H (fun v H1=>∃ R1,Post X.K p ds1 Ox σ H en Rg en1 H1 R1 NoA∧Ow X.K (Own R1 Ox) H1 t 0 v NoA) I ⟨Ox,en,Rg,t,en1,e,h1,fun v H1 R1 F P o=>⟨R1,P.less fun _ z=>z.elim,Ow.letgo P (fun _ z=>z) o⟩⟩) fun v s1 ⟨x,H1,I1,r1,R1,P,o⟩=>?_
 cases t with
 | list ts0 =>
  cases h2
  obtain ⟨a,vs,e1,⟨_,fz,ow⟩ | ⟨z,_⟩⟩:=o
  ·subst e1
   cases r1
   obtain ⟨its,rv,pl,hz⟩:=I1.list fz.sq
   refine wpAny_pyIter_list pl.isList ?_
   refine ⟨s1.heap.objs.size,[s1.heap.objs.size],_,_,H1,rfl,I1.kept (t':=s1.toks) fun b o e=>Heap.get?_push_of_some _ e,tw a _,⟨_,Heap.get?_push_size _ rfl,rfl,rfl⟩,fun b hb=>?_,k _ H1 R1 P (tf fz ow)⟩
   have e:b=s1.heap.objs.size:=by simpa using hb
   subst e
   exact I1.fpOk (Nat.le_refl _) (I1.hok.fresh (Nat.le_refl _))
  ·exact absurd rfl z
 | tuple ts0 =>
  cases h2
  obtain ⟨a,vs,e1,⟨_,fz,ow⟩ | ⟨z,_⟩⟩:=o
  ·subst e1
   cases r1
   obtain ⟨its,rv,pl,hz⟩:=I1.tuple fz.sq
   refine wpAny_pyIter_tuple (show s1.heap.IsTuple a its.toArray from pl) ?_
   refine ⟨s1.heap.objs.size,[s1.heap.objs.size],_,_,H1,rfl,I1.kept (t':=s1.toks) fun b o e=>Heap.get?_push_of_some _ e,rF a _,⟨_,Heap.get?_push_size _ rfl,rfl,rfl⟩,fun b hb=>?_,k _ H1 R1 P (vc fz ow)⟩
   have e:b=s1.heap.objs.size:=by simpa using hb
   subst e
   exact I1.fpOk (Nat.le_refl _) (I1.hok.fresh (Nat.le_refl _))
  ·exact absurd rfl z
 | str z =>
  cases h2
  have e1:x=.str z:=o
  subst e1
  obtain ⟨t,rfl⟩:=r1
  have fin:∀ (ty:String) (o:Obj),(ty="str_ascii_iterator"∨ty="str_iterator")→(s1.heap.push o).IsStrIter s1.heap.objs.size ty z t 0→PIE X pins σ tg R (.ref s1.heap.objs.size) { s1 with heap:=s1.heap.push o }:=fun ty o hty st=>by
   refine ⟨s1.heap.objs.size,[s1.heap.objs.size],_,_,H1,rfl,I1.kept (t':=s1.toks) fun b o e=>Heap.get?_push_of_some _ e,vg _ z t ty hty,st,fun b hb=>?_,k _ H1 R1 P vd⟩
   have e:b=s1.heap.objs.size:=by simpa using hb
   subst e
   exact I1.fpOk (Nat.le_refl _) (I1.hok.fresh (Nat.le_refl _))
  cases ha:z.cps.all (· < 128)
  ·exact wpAny_pyIter_wide ha (fin _ _ (.inr rfl) ⟨_,Heap.get?_push_size _ rfl,rfl,rfl⟩)
  ·exact wpAny_pyIter_ascii ha (fin _ _ (.inl rfl) ⟨_,Heap.get?_push_size _ rfl,rfl,rfl⟩)
 | _=>cases h2
theorem DF {a:Expr} {px pos:Pos} (hg:Gl X "range") (hm:X.mg "range"=none) (ha:PA X [a] (tFA K p ds ds1 sh fa)) (hs:aP a=true):PI X tg (.Call (.Name "range" px) [a] [] pos) (tFI K p ds ds1 (bB fa)) :=
 (tS hg hm ha (bI hs)).imp fun σ H R ⟨Ox,en,Rg,ts,en',e,hf,k⟩=>by
  unfold bB at hf
  obtain ⟨⟨as,en1⟩,h1,hf⟩:=Option.bind_eq_some_iff.mp hf
  refine ⟨Ox,en,Rg,as,en1,e,h1,fun vs H1 R1 F P o=>?_⟩
  dsimp only at hf
  split at hf
  case h_2=>cases hf
  next j =>
  by_cases hj:-(2 ^ 62)≤j∧j < 2 ^ 62
  case neg=>rw [if_neg hj] at hf; cases hf
  rw [if_pos hj] at hf
  cases hf
  obtain ⟨v,r,d,dr,F1,F2,e1,e2,_,_,_,o1,o2⟩:=o
  obtain ⟨_,o2⟩:=o2
  subst e1 o2
  have ev:v=.int j:=o1
  subst ev
  exact ⟨j,rfl,hj.1,hj.2,k _ H1 R1 (P.less fun _ z=>z.elim) ve⟩
theorem DG {px pos:Pos} {elts:List Expr} {k:Nat} {tp:Pos} (hK:X.K=K) (hg:Gl X "enumerate") (hm:X.mg "enumerate"=none) (ha:PA X [l] (tFA K p ds ds1 sh fa)) (hs:starEach [l] X.env=[(false,eval l X.env)]) :
  PI X (.Tuple elts k tp) (.Call (.Name "enumerate" px) [l] [] pos) (tFI K p ds ds1 (gY fa)):=by
 subst hK
 intro pins s σ H R I h
 obtain ⟨Ox,en,Rg,ts,en',e,hf,k⟩:=h
 unfold gY at hf
 obtain ⟨⟨as,en1⟩,h1,hf⟩:=Option.bind_eq_some_iff.mp hf
 refine Call_ (i4 I hg hm boot_enumerate (PyProof.Rows.callWith_type1 (thn (ha pos pins s σ H (fun vs H1=>∃ R1 t v,as=[.inl t]∧vs=[v]∧Post X.K p ds1 Ox σ H en Rg en1 H1 R1 NoA∧Ow X.K (Own R1 Ox) H1 t 0 v NoA) I ⟨Ox,en,Rg,as,en1,e,h1,fun vs H1 R1 F P o=>?_⟩) fun us s1 ⟨vs,H1,I1,r1,R1,t,v,ea,ev,P,o⟩=>?_) hs rfl))
 ·have one:∃ t,as=[.inl t]:=by
   dsimp only at hf
   split at hf
   ·exact ⟨_,rfl⟩
   ·exact ⟨_,rfl⟩
   ·cases hf
  obtain ⟨t,rfl⟩:=one
  obtain ⟨v,r,d,dr,F1,F2,e1,e2,s1,_,_,o1,o2⟩:=o
  obtain ⟨_,o2⟩:=o2
  subst o2
  exact ⟨R1,t,v,rfl,e1,P.less fun _ z=>z.elim,Ow.letgo P s1 o1⟩
 subst ea ev
 obtain ⟨u,rfl,ru⟩:=dA r1
 cases t with
 | list ts0 =>
  cases hf
  obtain ⟨a,vs,e1,⟨_,fz,ow⟩ | ⟨z,_⟩⟩:=o
  ·subst e1
   cases ru
   obtain ⟨its,rv,pl,hz⟩:=I1.list fz.sq
   refine call_enumerate_list pl.isList fun h' hE hI hsz hk=>?_
   refine wpAny_pyIter_enum hE ?_
   have I2:Inv X pins σ H1 { s1 with heap:=h' }:=I1.kept (t':=s1.toks) hk
   refine ⟨s1.heap.objs.size+1,[s1.heap.objs.size+1,s1.heap.objs.size],_,_,H1,rfl,I2,tz a _ _ (Nat.succ_ne_self _),⟨⟨_,hE⟩,hI⟩,fun b hb=>?_,k _ H1 R1 P (tm fz ow)⟩
   have hb':b=s1.heap.objs.size+1∨b=s1.heap.objs.size:=by simpa using hb
   rcases hb' with rfl | rfl
   ·exact I1.fpOk (Nat.le_succ _) (I1.hok.fresh (Nat.le_succ _))
   ·exact I1.fpOk (Nat.le_refl _) (I1.hok.fresh (Nat.le_refl _))
  ·exact absurd rfl z
 | tuple ts0 =>
  cases hf
  obtain ⟨a,vs,e1,⟨_,fz,ow⟩ | ⟨z,_⟩⟩:=o
  ·subst e1
   cases ru
   obtain ⟨its,rv,pt,hz⟩:=I1.tuple fz.sq
   have hT:s1.heap.IsTuple a its.toArray:=pt
   have hlt:a < s1.heap.objs.size:=by
    obtain ⟨o,e1,_⟩:=id hT
    exact Heap.lt_size e1
   refine oi hT fun h' hE hI hsz hk=>?_
   refine wpAny_pyIter_enum hE ?_
   have I2:Inv X pins σ H1 { s1 with heap:=h' }:=I1.kept (t':=s1.toks) hk
   refine ⟨s1.heap.objs.size+1,[s1.heap.objs.size+1,s1.heap.objs.size],_,_,H1,rfl,I2,rH a _ _ (Nat.succ_ne_self _) (Nat.ne_of_lt hlt),⟨⟨_,hE⟩,hI⟩,fun b hb=>?_,k _ H1 R1 P (rE fz ow)⟩
   have hb':b=s1.heap.objs.size+1∨b=s1.heap.objs.size:=by simpa using hb
   rcases hb' with rfl | rfl
   ·exact I1.fpOk (Nat.le_succ _) (I1.hok.fresh (Nat.le_succ _))
   ·exact I1.fpOk (Nat.le_refl _) (I1.hok.fresh (Nat.le_refl _))
  ·exact absurd rfl z
 | _=>cases hf
end
end L2
namespace L2
open PySem PySem.Spec PyProof.Rows
theorem NewTo.refl {H:Hp}:NewTo H H NoA:=⟨fun _ _ q=>q,fun _ z=>z.elim⟩
theorem OpR.imp {X:Cx} {fn:Value→Value→Sem Value} {r r':R2} (h:OpR X fn r) (hi:∀ x y H Q,r' x y H Q→r x y H Q):OpR X fn r':=fun pins s σ H x y v u Q I rx ry q=>h pins s σ H x y v u Q I rx ry (hi _ _ _ _ q)
theorem OpR.or' {X:Cx} {fn:Value→Value→Sem Value} {r r':R2} (h:OpR X fn r) (h':OpR X fn r'):OpR X fn (fun x y H Q=>r x y H Q∨r' x y H Q):=fun pins s σ H x y v u Q I rx ry q=>q.elim (h pins s σ H x y v u Q I rx ry) (h' pins s σ H x y v u Q I rx ry)
theorem UnR.imp {X:Cx} {fn:Value→Sem Value} {r r':V→Hp→VK→Prop} (h:UnR X fn r) (hi:∀ x H Q,r' x H Q→r x H Q):UnR X fn r':=fun pins s σ H x v Q I rx q=>h pins s σ H x v Q I rx (hi _ _ _ q)
theorem CallR.imp {X:Cx} {fn:Value} {r r':List V→Hp→VK→Prop} (h:CallR X fn r) (hi:∀ x H Q,r' x H Q→r x H Q):CallR X fn r':=fun pins s σ H x v Q I rx q=>h pins s σ H x v Q I rx (hi _ _ _ q)
theorem CallR.or' {X:Cx} {fn:Value} {r r':List V→Hp→VK→Prop} (h:CallR X fn r) (h':CallR X fn r'):CallR X fn (fun x H Q=>r x H Q∨r' x H Q):=fun pins s σ H x v Q I rx q=>q.elim (h pins s σ H x v Q I rx) (h' pins s σ H x v Q I rx)
theorem IxR.imp {X:Cx} {r r':R2} (h:IxR X r) (hi:∀ x y H Q,r' x y H Q→r x y H Q):IxR X r':=fun value slice pins s σ H x y v u Q I rx ry q=>h value slice pins s σ H x y v u Q I rx ry (hi _ _ _ _ q)
section
variable {X:Cx} {K:PySem.W.Frag} {O:AS} {H:Hp} {ts us:List D} {vs ws:List V} {x y:V} {d:Nat} {Q:VK}
theorem cA {l:Addr} (hl:H l=none) (hd:∀ a,O a→∃ o,H a=some o) (h:Ows K O H ts 0 vs NoA):NewTo H (upd H l (.lst vs)) (fun b=>b=l)∧Ow K (U (fun b=>b=l) O) (upd H l (.lst vs)) (.list ts) 1 (.ref l) (fun b=>b=l):=by
 refine ⟨bK hl,l,vs,rfl,.inr ⟨by decide,aN,rfl,NoA,fun _ z=>z.elim,?_⟩⟩
 refine Ows.mv (G:=NoA) ⟨fun a o q _=>(bK (o:=.lst vs) hl).1 a o q,fun a z=>?_⟩ ts (fun _ z=>z) h
 rcases z with z | z
 ·exact .inr (by rw [show a=l from z]; exact hl)
 ·exact .inl z
theorem qU {l:Addr} (hl:H l=none) (hd:∀ a,O a→∃ o,H a=some o) (h:Ows K O H ts 0 vs NoA):NewTo H (upd H l (.tup vs)) NoA∧Ow K (U NoA O) (upd H l (.tup vs)) (.tuple ts) 0 (.ref l) NoA:=by
 refine ⟨⟨(bK hl).1,fun _ z=>z.elim⟩,l,vs,rfl,.inl ⟨rfl,⟨aN,fun z=>?_⟩,?_⟩⟩
 ·rcases z with z | z
  ·exact z
  ·obtain ⟨o,q⟩:=hd l z
   rw [hl] at q
   cases q
 ·refine Ows.mv (G:=NoA) ⟨fun a o q _=>(bK (o:=.tup vs) hl).1 a o q,fun a z=>?_⟩ ts (fun _ z=>z) h
  rcases z with z | z
  ·exact z.elim
  ·exact .inl z
theorem Ows.app:∀ {ts:List D} {vs:List V},Ows K O H ts 0 vs NoA→Ows K O H us 0 ws NoA→Ows K O H (ts++us) 0 (vs++ws) NoA
 | [],_,h,h2=>by rw [show _=[] from h]; exact h2
 | t :: ts,_,h,h2=>by
  obtain ⟨v,r,F1,F2,e,_,_,_,h4,h5⟩:=h
  subst e
  exact ⟨v,r++ws,NoA,NoA,rfl,fun _ z=>z,fun _ z=>z,fun _ z=>z.elim,Ow.any0 t h4,Ows.app (Ows.any0 ts h5) h2⟩
theorem Ows.drop:∀ {ts:List D} {vs:List V} (n:Nat),Ows K O H ts 0 vs NoA→Ows K O H (ts.drop n) 0 (vs.drop n) NoA
 | ts,vs,0,h=>h
 | [],_,n+1,h=>by rw [show _=[] from h]; rfl
 | t :: ts,_,n+1,h=>by
  obtain ⟨v,r,F1,F2,e,_,_,_,h4,h5⟩:=h
  subst e
  exact Ows.drop n (Ows.any0 ts h5)
theorem Ows.take:∀ {ts:List D} {vs:List V} (n:Nat),Ows K O H ts 0 vs NoA→Ows K O H (ts.take n) 0 (vs.take n) NoA
 | ts,vs,0,h=>rfl
 | [],_,n+1,h=>by rw [show _=[] from h]; rfl
 | t :: ts,_,n+1,h=>by
  obtain ⟨v,r,F1,F2,e,_,_,_,h4,h5⟩:=h
  subst e
  exact ⟨v,r.take n,NoA,NoA,rfl,fun _ z=>z,fun _ z=>z,fun _ z=>z.elim,Ow.any0 t h4,Ows.take n (Ows.any0 ts h5)⟩
theorem Ow.lst0 {v:V} (h:Ow K O H (.list ts) 0 v NoA):∃ a vs,v=.ref a∧FzL K O H a vs∧Ows K O H ts 0 vs NoA:=by
 obtain ⟨a,vs,e,⟨_,h1,h2⟩ | ⟨z,_⟩⟩:=h
 ·exact ⟨a,vs,e,h1,h2⟩
 ·exact absurd rfl z
theorem Ow.tup0 {v:V} (h:Ow K O H (.tuple ts) 0 v NoA):∃ a vs,v=.ref a∧FzT K O H a vs∧Ows K O H ts 0 vs NoA:=by
 obtain ⟨a,vs,e,⟨_,h1,h2⟩ | ⟨z,_⟩⟩:=h
 ·exact ⟨a,vs,e,h1,h2⟩
 ·exact absurd rfl z
theorem Ows.one {t:D} (h:Ows K O H [t] 0 vs NoA):∃ v,vs=[v]∧Ow K O H t 0 v NoA:=by
 obtain ⟨v,r,F1,F2,e,_,_,_,h4,h5⟩:=h
 rw [show r=[] from h5] at e
 exact ⟨v,e,Ow.any0 t h4⟩
theorem Ows.two {t t2:D} (h:Ows K O H [t,t2] 0 vs NoA):∃ v w,vs=[v,w]∧Ow K O H t 0 v NoA∧Ow K O H t2 0 w NoA:=by
 obtain ⟨v,r,F1,F2,e,_,_,_,h4,h5⟩:=h
 obtain ⟨w,e2,h6⟩:=Ows.one (Ows.any0 [t2] h5)
 subst e2
 exact ⟨v,w,e,Ow.any0 t h4,h6⟩
def a9:D→D→Option D
 | .int a,.int b=>some (.int (a+b))
 | .str a,.str b=>if a.length+b.length≤sizeLine then some (.str (a++b)) else none
 | _,_=>none
theorem bC:OpR X (binaryOp .Add) (rF2 K a9 3):=(op_add.or' rV).imp fun x y H Q ⟨O,a,b,t,oa,ob,hd,hg,k⟩=>by
 cases a with
 | int i=>cases b with
  | int j=>cases hg; exact .inl ⟨i,j,oa,ob,k _ H NoA .refl rfl⟩
  | _=>cases hg
 | str i=>cases b with
  | str j =>
   dsimp only [a9] at hg
   by_cases hl:i.length+j.length≤sizeLine
   ·rw [if_pos hl] at hg; cases hg; exact .inr ⟨i,j,oa,ob,hl,k _ H NoA .refl rfl⟩
   ·rw [if_neg hl] at hg; cases hg
  | _=>cases hg
 | _=>cases hg
def fw (g:Int→Int→Option D):D→D→Option D
 | .int a,.int b=>g a b
 | _,_=>none
theorem b8 {g:Int→Int→Option D} {a b t:D} (h:fw g a b=some t):∃ i j,a=.int i∧b=.int j∧g i j=some t:=by
 cases a with
 | int i=>cases b with
  | int j=>exact ⟨i,j,rfl,rfl,h⟩
  | _=>cases h
 | _=>cases h
def dL:D→D→Option D:=fw fun a b=>some (.int (a - b))
theorem di:OpR X (binaryOp .Sub) (rF2 K dL 3):=op_sub.imp fun x y H Q ⟨O,a,b,t,oa,ob,hd,hg,k⟩=>by
 obtain ⟨i,j,rfl,rfl,h⟩:=b8 hg
 cases h
 exact ⟨i,j,oa,ob,k _ H NoA .refl rfl⟩
instance (i j:Int):Decidable (CMul i j):=by unfold CMul; exact inferInstance
instance (i j:Int):Decidable (gq i j):=by unfold gq; exact inferInstance
instance (i j:Int):Decidable (jQ i j):=by unfold jQ; exact inferInstance
def bO:D→D→Option D:=fw fun a b=>if CMul a b then some (.int (a * b)) else none
theorem fY:OpR X (binaryOp .Mult) (rF2 K bO 3):=op_mul.imp fun x y H Q ⟨O,a,b,t,oa,ob,hd,hg,k⟩=>by
 obtain ⟨i,j,rfl,rfl,h⟩:=b8 hg
 by_cases hc:CMul i j
 ·rw [if_pos hc] at h; cases h; exact ⟨i,j,oa,ob,hc,k _ H NoA .refl rfl⟩
 ·rw [if_neg hc] at h; cases h
def cJ:D→D→Option D:=fw fun a b=>if gq a b then some (.int (a / b)) else none
theorem rg:OpR X (binaryOp .FloorDiv) (rF2 K cJ 3):=op_fdiv.imp fun x y H Q ⟨O,a,b,t,oa,ob,hd,hg,k⟩=>by
 obtain ⟨i,j,rfl,rfl,h⟩:=b8 hg
 by_cases hc:gq i j
 ·rw [if_pos hc] at h; cases h; exact ⟨i,j,oa,ob,hc,k _ H NoA .refl rfl⟩
 ·rw [if_neg hc] at h; cases h
def bw:D→D→Option D:=fw fun a b=>if 0 < b then some (.int (a % b)) else none
theorem hV:OpR X (binaryOp .Mod) (rF2 K bw 3):=op_mod.imp fun x y H Q ⟨O,a,b,t,oa,ob,hd,hg,k⟩=>by
 obtain ⟨i,j,rfl,rfl,h⟩:=b8 hg
 by_cases hc:0 < j
 ·rw [if_pos hc] at h; cases h; exact ⟨i,j,oa,ob,hc,k _ H NoA .refl rfl⟩
 ·rw [if_neg hc] at h; cases h
def m4:D→D→Option D:=fw fun a b=>if jQ a b then some (.int (a ^ b.toNat)) else none
theorem Hn:OpR X (binaryOp .Pow) (rF2 K m4 3):=op_pow.imp fun x y H Q ⟨O,a,b,t,oa,ob,hd,hg,k⟩=>by
 obtain ⟨i,j,rfl,rfl,h⟩:=b8 hg
 by_cases hc:jQ i j
 ·rw [if_pos hc] at h; cases h; exact ⟨i,j,oa,ob,hc,k _ H NoA .refl rfl⟩
 ·rw [if_neg hc] at h; cases h
def ltI:D→D→Option D:=fw fun a b=>some (.bool (decide (a < b)))
def leI:D→D→Option D:=fw fun a b=>some (.bool (decide (a≤b)))
def gtI:D→D→Option D:=fw fun a b=>some (.bool (decide (b < a)))
def geI:D→D→Option D:=fw fun a b=>some (.bool (decide (b≤a)))
theorem io:OpR X (compareOp .Lt) (rF2 K ltI 3):=op_lt.imp fun x y H Q ⟨O,a,b,t,oa,ob,hd,hg,k⟩=>by
 obtain ⟨i,j,rfl,rfl,h⟩:=b8 hg
 cases h
 exact ⟨i,j,oa,ob,k _ H NoA .refl rfl⟩
theorem mz:OpR X (compareOp .LtE) (rF2 K leI 3):=op_le.imp fun x y H Q ⟨O,a,b,t,oa,ob,hd,hg,k⟩=>by
 obtain ⟨i,j,rfl,rfl,h⟩:=b8 hg
 cases h
 exact ⟨i,j,oa,ob,k _ H NoA .refl rfl⟩
theorem sF:OpR X (compareOp .Gt) (rF2 K gtI 3):=op_gt.imp fun x y H Q ⟨O,a,b,t,oa,ob,hd,hg,k⟩=>by
 obtain ⟨i,j,rfl,rfl,h⟩:=b8 hg
 cases h
 exact ⟨i,j,oa,ob,k _ H NoA .refl rfl⟩
theorem sG:OpR X (compareOp .GtE) (rF2 K geI 3):=op_ge.imp fun x y H Q ⟨O,a,b,t,oa,ob,hd,hg,k⟩=>by
 obtain ⟨i,j,rfl,rfl,h⟩:=b8 hg
 cases h
 exact ⟨i,j,oa,ob,k _ H NoA .refl rfl⟩
def gK:D→Bool
 | .none=>true
 | _=>false
theorem pR {a:D} {F:AS} (h:Ow K O H a d x F):decide (x=.non)=gK a:=by
 cases a with
 | none=>rw [show x=.non from h]; rfl
 | bool b=>rw [show x=.bl b from h]; rfl
 | int b=>rw [show x=.int b from h]; rfl
 | str b=>rw [show x=.str b from h]; rfl
 | list ts=>obtain ⟨a,vs,e,_⟩:=h; rw [e]; rfl
 | tuple ts=>obtain ⟨a,vs,e,_⟩:=h; rw [e]; rfl
 | dict ts=>obtain ⟨a,vs,e,_⟩:=h; rw [e]; rfl
def isN:D→D→Option D
 | a,.none=>some (.bool (gK a))
 | _,_=>none
def dh:D→D→Option D
 | a,.none=>some (.bool (!gK a))
 | _,_=>none
theorem pT:OpR X (compareOp .Is) (rF2 K isN 3):=op_isN.imp fun x y H Q ⟨O,a,b,t,oa,ob,hd,hg,k⟩=>by
 cases b with
 | none=>cases hg; exact ⟨ob,by rw [pR oa]; exact k _ H NoA .refl rfl⟩
 | _=>cases hg
theorem gL:OpR X (compareOp .IsNot) (rF2 K dh 3):=op_notN.imp fun x y H Q ⟨O,a,b,t,oa,ob,hd,hg,k⟩=>by
 cases b with
 | none=>cases hg; exact ⟨ob,by rw [pR oa]; exact k _ H NoA .refl rfl⟩
 | _=>cases hg
def v1:D→D→Option D
 | .str a,.str b=>some (.bool (i9 b a))
 | _,_=>none
def JL:D→D→Option D
 | .str a,.str b=>some (.bool (!i9 b a))
 | _,_=>none
theorem Hq:OpR X (compareOp .In) (rF2 K v1 3):=op_inS.imp fun x y H Q ⟨O,a,b,t,oa,ob,hd,hg,k⟩=>by
 cases a with
 | str i=>cases b with
  | str j=>cases hg; exact ⟨i,j,oa,ob,k _ H NoA .refl rfl⟩
  | _=>cases hg
 | _=>cases hg
def ixA:D→D→Option D
 | .list ts,.int n=>atI ts n
 | .tuple ts,.int n=>atI ts n
 | .str z,.int n=>if z.length≤sizeLine then (atI z.cps.toList n).map fun c=>.str (mk1 c) else none
 | _,_=>none
theorem aD (hK:X.K=K):IxR X (rF2 K ixA 0):=by
 subst hK
 refine ix_seq.imp fun x y H Q ⟨O,a,b,t,oa,ob,hd,hg,k⟩=>?_
 cases b with
 | int n =>
  cases a with
  | list ts =>
   obtain ⟨a,vs,e,fz,ow⟩:=oa.lst0
   obtain ⟨v,h1,h2⟩:=ow.atI hg
   exact .inl ⟨a,vs,n,v,e,ob,fz.sq,h1,k v H NoA .refl (by rw [gk]; exact h2)⟩
  | tuple ts =>
   obtain ⟨a,vs,e,fz,ow⟩:=oa.tup0
   obtain ⟨v,h1,h2⟩:=ow.atI hg
   exact .inr (.inl ⟨a,vs,n,v,e,ob,fz.sq,h1,k v H NoA .refl (by rw [gk]; exact h2)⟩)
  | str z =>
   dsimp only [ixA] at hg
   by_cases hl:z.length≤sizeLine
   ·rw [if_pos hl] at hg
    obtain ⟨c,h1,h2⟩:=Option.map_eq_some_iff.mp hg
    cases h2
    exact .inr (.inr ⟨z,n,c,oa,ob,hl,h1,k _ H NoA .refl rfl⟩)
   ·rw [if_neg hl] at hg; cases hg
  | _=>cases hg
 | _=>cases a <;> cases hg
def ixT:D→D→Option D
 | .str z,.int n=>if z.length≤sizeLine then (atI z.cps.toList n).map fun c=>.str (mk1 c) else none
 | _,_=>none
theorem uJ:IxR X (rF2 K ixT 3):=by
 refine ix_str.imp fun x y H Q ⟨O,a,b,t,oa,ob,hd,hg,k⟩=>?_
 cases a with
 | str z=>cases b with
  | int n =>
   dsimp only [ixT] at hg
   by_cases hl:z.length≤sizeLine
   ·rw [if_pos hl] at hg
    obtain ⟨c,h1,h2⟩:=Option.map_eq_some_iff.mp hg
    cases h2
    exact ⟨z,n,c,oa,ob,hl,h1,k _ H NoA .refl rfl⟩
   ·rw [if_neg hl] at hg; cases hg
  | _=>cases hg
 | _=>cases hg
def qj:D→D→Option D
 | .list a,.list b=>if a.length+b.length≤sizeLine then some (.list (a++b)) else none
 | _,_=>none
def Kc:D→D→Option D
 | .tuple a,.tuple b=>if a.length+b.length≤sizeLine then some (.tuple (a++b)) else none
 | _,_=>none
end
end L2
namespace L2
open PySem PySem.Spec PyProof.Rows
def grd {α:Type} (c:Prop) [Decidable c] (t:α):Option α:=if c then some t else none
theorem gZ {α:Type} {c:Prop} [Decidable c] {t u:α} (h:grd c t=some u):c∧t=u:=by
 unfold grd at h
 by_cases hc:c
 ·rw [if_pos hc] at h; exact ⟨hc,Option.some.inj h⟩
 ·rw [if_neg hc] at h; cases h
section
variable {X:Cx} {K:PySem.W.Frag} {O:AS} {H:Hp} {ts us:List D} {vs ws:List V} {x y:V} {d:Nat} {Q:VK}
def Iq (K:PySem.W.Frag):R2:=fun x y H Q=>∃ l b xs zs,x=.ref l∧y=.ref b∧SqL K H l xs∧SqL K H b zs∧xs.length+zs.length≤sizeLine∧∀ p,H p=none→Q (.ref p) (upd H p (.lst (xs++zs)))
theorem op_catL:OpR X (binaryOp .Add) (Iq X.K):=by
 intro pins s σ H x y v u Q I rx ry h
 obtain ⟨l,b,xs,zs,rfl,rfl,hH,hB,hz,q⟩:=h
 cases rx
 cases ry
 obtain ⟨its,r,⟨⟨c1,dd,da1,sl⟩,n,ho,hc,hdd,hda⟩,_⟩:=I.list hH
 obtain ⟨its2,r2,⟨⟨c2,dd2,da2,sl2⟩,n2,ho2,hc2,hdd2,hda2⟩,_⟩:=I.list hB
 have hl:=r.length
 have hl2:=r2.length
 simp only at hc hda hc2 hda2
 subst hc hda hc2 hda2
 refine concat_meets ⟨_,ho,rfl⟩ ⟨_,ho2,rfl⟩ noFill_list_add seq_list_add PySem.F.slot_list_add PySem.F.entry_list_add (PySem.F.args_list_add_2 _ _) (list_addW l b its.toArray its2.toArray n n2 dd dd2 sl sl2 (by simp only [List.size_toArray]; omega)) ⟨ho,ho2,?_⟩
 have ea:its.toArray++its2.toArray=(its++its2).toArray:=by simp
 rw [ea]
 exact ⟨.ref _,_,I.lnew (t':=s.toks) (r.append r2) (by rw [List.length_append]; omega),rfl,q _ I.fresh⟩
theorem rh (hK:X.K=K):OpR X (binaryOp .Add) (rF2 K qj 1):=by
 subst hK
 refine op_catL.imp fun x y H Q ⟨O,a,b,t,oa,ob,hd,hg,k⟩=>?_
 cases a with
 | list ts=>cases b with
  | list us =>
   dsimp only [qj] at hg
   by_cases hl:ts.length+us.length≤sizeLine
   case neg=>rw [if_neg hl] at hg; cases hg
   rw [if_pos hl] at hg
   cases hg
   obtain ⟨a,vs,e1,f1,w1⟩:=oa.lst0
   obtain ⟨b,ws,e2,f2,w2⟩:=ob.lst0
   refine ⟨a,b,vs,ws,e1,e2,f1.sq,f2.sq,by rw [w1.len,w2.len]; exact hl,fun p hp=>?_⟩
   obtain ⟨n1,n2⟩:=cA hp hd (w1.app w2)
   exact k _ _ _ n1 n2
  | _=>cases hg
 | _=>cases hg
def J7:D→D→Option D
 | .list ts,.int k=>grd (-(2 ^ 63)≤k∧k < 2 ^ 63∧ts.length * k.toNat≤sizeLine) (.list (List.replicate k.toNat ts).flatten)
 | _,_=>none
def J6:D→D→Option D
 | .str z,.int k=>grd (z.length≤4000∧-(2 ^ 63)≤k∧k≤4000) (.str (Txt.mul z k))
 | _,_=>none
def iE:D→Option D
 | .int i=>some (.int (-i))
 | _=>none
theorem kl:UnR X (unaryOp .USub) (rF1 K iE 3):=un_neg.imp fun x H Q ⟨O,a,t,oa,hd,hg,k⟩=>by
 cases a with
 | int i=>cases hg; exact ⟨i,oa,k _ H NoA .refl rfl⟩
 | _=>cases hg
def bc:List D→Option D
 | [.list ts]=>some (.int ts.length)
 | [.tuple ts]=>some (.int ts.length)
 | [.str z]=>grd (z.length≤sizeLine) (.int z.length)
 | _=>none
theorem bn (hK:X.K=K):CallR X (.builtin "len") (rFn K bc 3):=(Js hK).imp fun xs H Q ⟨O,as,t,oa,hd,hg,k⟩=>by
 match as,hg with
 | [.list ts],hg =>
  cases hg
  obtain ⟨v,rfl,o⟩:=oa.one
  obtain ⟨a,vs,rfl,fz,w⟩:=o.lst0
  exact ⟨_,_,rfl,.inl ⟨vs,fz.sq,rfl⟩,by rw [w.len]; exact k _ H NoA .refl rfl⟩
 | [.tuple ts],hg =>
  cases hg
  obtain ⟨v,rfl,o⟩:=oa.one
  obtain ⟨a,vs,rfl,fz,w⟩:=o.tup0
  exact ⟨_,_,rfl,.inr ⟨vs,fz.sq,rfl⟩,by rw [w.len]; exact k _ H NoA .refl rfl⟩
 | [.str z],hg =>
  obtain ⟨c,rfl⟩:=gZ hg
  obtain ⟨v,rfl,o⟩:=oa.one
  exact ⟨_,_,rfl,by rw [show v=.str z from o]; exact ⟨c,rfl⟩,k _ H NoA .refl rfl⟩
def jD:List D→Option D
 | [.int i]=>some (.int (if i < 0 then -i else i))
 | _=>none
theorem uL:CallR X (.builtin "abs") (rFn K jD 3):=call_abs.imp fun xs H Q ⟨O,as,t,oa,hd,hg,k⟩=>by
 match as,hg with
 | [.int i],hg =>
  cases hg
  obtain ⟨v,rfl,o⟩:=oa.one
  exact ⟨i,by rw [show v=.int i from o],k _ H NoA .refl rfl⟩
def se:List D→Option D
 | [.int i,.int j]=>some (.int (if j > i then j else i))
 | _=>none
def r9:List D→Option D
 | [.int i,.int j]=>some (.int (if j < i then j else i))
 | _=>none
theorem DC (hc:X.calm=true):CallR X (.builtin "max") (rFn K se 3):=(uZ hc).imp fun xs H Q ⟨O,as,t,oa,hd,hg,k⟩=>by
 match as,hg with
 | [.int i,.int j],hg =>
  cases hg
  obtain ⟨v,w,rfl,o,o2⟩:=oa.two
  exact ⟨i,j,by rw [show v=.int i from o,show w=.int j from o2],k _ H NoA .refl rfl⟩
theorem DB (hc:X.calm=true):CallR X (.builtin "min") (rFn K r9 3):=(uY hc).imp fun xs H Q ⟨O,as,t,oa,hd,hg,k⟩=>by
 match as,hg with
 | [.int i,.int j],hg =>
  cases hg
  obtain ⟨v,w,rfl,o,o2⟩:=oa.two
  exact ⟨i,j,by rw [show v=.int i from o,show w=.int j from o2],k _ H NoA .refl rfl⟩
def ge:List D→Option D
 | [.int i]=>some (.int i)
 | [.bool b]=>some (.int (if b then 1 else 0))
 | _=>none
theorem pU:CallR X (.type "int") (rFn K ge 3):=call_int1.imp fun xs H Q ⟨O,as,t,oa,hd,hg,k⟩=>by
 match as,hg with
 | [.int i],hg =>
  cases hg
  obtain ⟨v,rfl,o⟩:=oa.one
  exact .inl ⟨i,by rw [show v=.int i from o],k _ H NoA .refl rfl⟩
 | [.bool i],hg =>
  cases hg
  obtain ⟨v,rfl,o⟩:=oa.one
  exact .inr ⟨i,by rw [show v=.bl i from o],k _ H NoA .refl rfl⟩
def cc (z:Str):List D:=(li z).map fun c=>.str (mk1 c)
theorem pd {z:Str}:Ows K O H (cc z) 0 (dC z) NoA:=by
 unfold cc dC
 show Ows K O H ((li z).map fun c=>.str (mk1 c)) 0 ((li z).map sgn) NoA
 generalize li z=l
 induction l with
 | nil=>rfl
 | cons c r ih=>exact ⟨sgn c,r.map sgn,NoA,NoA,rfl,fun _ z=>z,fun _ z=>z,fun _ z=>z.elim,rfl,ih⟩
def ii:List D→Option D
 | [.list ts]=>some (.list ts)
 | [.tuple ts]=>some (.list ts)
 | [.str z]=>grd (z.cps.size≤sizeLine) (.list (cc z))
 | _=>none
theorem kQ (hK:X.K=K) (hc:X.calm=true):CallR X (.type "list") (rFn K ii 1):=((C8 hK).or' (nk hc)).imp fun xs H Q ⟨O,as,t,oa,hd,hg,k⟩=>by
 match as,hg with
 | [.list ts],hg =>
  cases hg
  obtain ⟨v,rfl,o⟩:=oa.one
  obtain ⟨a,vs,rfl,fz,w⟩:=o.lst0
  exact .inl ⟨a,vs,rfl,.inl fz.sq,fun l hl=>k _ _ _ (cA hl hd w).1 (cA hl hd w).2⟩
 | [.tuple ts],hg =>
  cases hg
  obtain ⟨v,rfl,o⟩:=oa.one
  obtain ⟨a,vs,rfl,fz,w⟩:=o.tup0
  exact .inl ⟨a,vs,rfl,.inr fz.sq,fun l hl=>k _ _ _ (cA hl hd w).1 (cA hl hd w).2⟩
 | [.str z],hg =>
  obtain ⟨c,rfl⟩:=gZ hg
  obtain ⟨v,rfl,o⟩:=oa.one
  exact .inr ⟨z,by rw [show v=.str z from o],c,fun l hl=>k _ _ _ (cA (K:=K) hl hd pd).1 (cA hl hd pd).2⟩
def rK:List D→Option D
 | [.list ts]=>some (.tuple ts)
 | [.tuple ts]=>some (.tuple ts)
 | _=>none
theorem wm (hK:X.K=K):CallR X (.type "tuple") (rFn K rK 0):=(GS hK).imp fun xs H Q ⟨O,as,t,oa,hd,hg,k⟩=>by
 match as,hg with
 | [.list ts],hg =>
  cases hg
  obtain ⟨v,rfl,o⟩:=oa.one
  obtain ⟨a,vs,rfl,fz,w⟩:=o.lst0
  exact ⟨a,vs,rfl,.inl ⟨fz.sq,fun l hl=>k _ _ _ (qU hl hd w).1 (qU hl hd w).2⟩⟩
 | [.tuple ts],hg =>
  cases hg
  obtain ⟨v,rfl,o⟩:=oa.one
  obtain ⟨a,vs,rfl,fz,w⟩:=o.tup0
  exact ⟨a,vs,rfl,.inr ⟨fz.sq,k _ H NoA .refl (by rw [gk]; exact o)⟩⟩
def gQ:List D→Option (List Bool)
 | []=>some []
 | .bool b :: r=>(gQ r).map (b :: ·)
 | _ :: _=>none
theorem nG:∀ {ts:List D} {vs:List V} {bs:List Bool},Ows K O H ts 0 vs NoA→gQ ts=some bs→vs=bs.map V.bl
 | [],_,_,h,hb=>by cases hb; exact h
 | .bool b :: r,_,_,h,hb=>by
  obtain ⟨v,w,F1,F2,e,_,_,_,h4,h5⟩:=h
  obtain ⟨bs',h6,h7⟩:=Option.map_eq_some_iff.mp hb
  subst e h7
  rw [show v=.bl b from h4,nG (Ows.any0 r h5) h6]
  rfl
 | .none :: _,_,_,_,hb=>by cases hb
 | .int _ :: _,_,_,_,hb=>by cases hb
 | .str _ :: _,_,_,_,hb=>by cases hb
 | .list _ :: _,_,_,_,hb=>by cases hb
 | .tuple _ :: _,_,_,_,hb=>by cases hb
 | .dict _ :: _,_,_,_,hb=>by cases hb
def kt:List D→Option D
 | [.list ts]=>(gQ ts).map fun bs=>.bool (bs.all id)
 | _=>none
theorem uK (hK:X.K=K) (hc:X.calm=true):CallR X (.builtin "all") (rFn K kt 3):=(Jw hK hc).imp fun xs H Q ⟨O,as,t,oa,hd,hg,k⟩=>by
 match as,hg with
 | [.list ts],hg =>
  obtain ⟨bs,h1,rfl⟩:=Option.map_eq_some_iff.mp hg
  obtain ⟨v,rfl,o⟩:=oa.one
  obtain ⟨a,vs,rfl,fz,w⟩:=o.lst0
  have e:=nG w h1
  subst e
  exact ⟨a,bs,rfl,fz.sq,k _ H NoA .refl rfl⟩
def tyN:D→String
 | .none=>"NoneType" | .bool _=>"bool" | .int _=>"int" | .str _=>"str" | .list _=>"list" | .tuple _=>"tuple" | .dict _=>"dict"
def aU (n T:String):Bool:=n == T || (n == "bool" && T == "int")
theorem rd {T:String} (hT:T∈["int", "bool", "str", "list", "tuple", "dict"]) (a:D):PySem.W.kitOne K (.type (tyN a)) (.type T)=some (aU (tyN a) T):=by
 simp only [List.mem_cons,List.not_mem_nil,or_false] at hT
 rcases hT with rfl | rfl | rfl | rfl | rfl | rfl <;> cases a <;> rfl
def Ip (K:PySem.W.Frag):List V→Hp→VK→Prop:=fun xs H Q=>∃ x T,∃ (O:AS) (a:D),xs=[x,.ty T]∧Ow K O H a 0 x NoA∧T∈["int", "bool", "str", "list", "tuple", "dict"]∧Q (.bl (aU (tyN a) T)) H
theorem u0:CallR X (.builtin "isinstance") (Ip X.K):=by
 intro pins s σ H xs us Q I r h
 obtain ⟨x,T,O,a,rfl,oa,hT,q⟩:=h
 have base:∀ ty,TyOf X.K H x (.type ty)→tyN a=ty→wpAny (model X.prog X.w) X.A (call (.builtin "isinstance") us) (EP X pins σ Q) X.xe s:=fun ty h1 h2=>by
  refine wK pins s σ H _ us Q I r ⟨x,.type ty,T,aU (tyN a) T,rfl,h1,?_,q⟩
  rw [← h2]
  exact rd hT a
 cases a with
 | none=>exact base _ (by rw [show x=.non from oa]; exact .non) rfl
 | bool b=>exact base _ (by rw [show x=.bl b from oa]; exact .bl b) rfl
 | int b=>exact base _ (by rw [show x=.int b from oa]; exact .int b) rfl
 | str b=>exact base _ (by rw [show x=.str b from oa]; exact .str b) rfl
 | tuple ts =>
  obtain ⟨p,vs,rfl,fz,w⟩:=oa.tup0
  exact base _ (.tup fz.1) rfl
 | dict ts =>
  obtain ⟨p,vs,rfl,⟨_,h1,_⟩ | ⟨_,h1,_⟩ | ⟨_,kk,b,_,h1,_⟩⟩:=oa
  ·exact base _ (.dK h1) rfl
  ·exact base _ (.dK h1) rfl
  ·exact base _ (.dT h1) rfl
 | list ts =>
  obtain ⟨p,vs,rfl,fz,w⟩:=oa.lst0
  obtain ⟨u,u2,rfl,r1,r2⟩:=r.two
  cases r1
  cases r2
  obtain ⟨its,rv,pl,_⟩:=I.list fz.sq
  have e:=rd (K:=X.K) hT (.list ts)
  obtain ⟨o,n,h1,h2,_⟩:=pl
  exact PySem.W.kia_one PySem.W.kitx_list I.kIn ⟨o,h1,h2⟩ e (fun z=>nomatch z) fun tk=>⟨.bl _,H,I.tok tk,rfl,q⟩
end
def aS (T:String):D→Option D:=fun a=>some (.bool (aU (tyN a) T))
section
variable {X:Cx} {K:PySem.W.Frag} {p:Bool} {ds ds1:List Nat} {d1:Nat} {e:Expr} {f:ME}
theorem HF {T:Str} {n:String} {px pt pos:Pos} (hK:X.K=K) (hg:Gl X "isinstance") (hm:X.mg "isinstance"=none) (hgT:Gl X T) (hmT:X.mg T=none) (hbT:bootBuiltins T=some (.type n)) (hT:n∈["int", "bool", "str", "list", "tuple", "dict"]) (he:PE X e (tF K p ds ds1 d1 f))
  (hnT:T≠"__name__") (hdT:(T == ("__debug__" : Str))=false)
  (hs1:starEach [e,.Name T pt] X.env=(false,eval e X.env) :: starEach [.Name T pt] X.env) (hs2:starEach [.Name T pt] X.env=(false,eval (.Name T pt) X.env) :: starEach [] X.env) (hpl:(backTo pos (starEach [.Name T pt] X.env)).any (·.1)=false) :
  PE X (.Call (.Name "isinstance" px) [e,.Name T pt] [] pos) (tF K p ds ds1 3 (e1 (aS n) f)):=by
 subst hK
 refine (pc u0 hg hm boot_isinstance (gI he (gI (CT (v:=.ty n) hgT hmT hbT rfl hnT hdT) pa_nil hs2) hs1) (by decide) (by decide) hs1 hpl).imp fun σ H Q h=>?_
 obtain ⟨Ox,en,R,t,en',e,hf,k⟩:=h
 unfold e1 at hf
 obtain ⟨⟨t1,en1⟩,h1,hf⟩:=Option.bind_eq_some_iff.mp hf
 obtain ⟨t',h3,hf⟩:=Option.map_eq_some_iff.mp hf
 cases hf
 cases h3
 refine ⟨Ox,en,R,t1,en1,e,h1,fun v H' R' F P o=>?_⟩
 exact ⟨v,n,Own R' Ox,t1,rfl,Ow.letgo P (fun _ z=>z) o,hT,k _ H' R' NoA (P.less fun _ z=>z.elim) rfl⟩
end
end L2
namespace L2
open PySem PySem.Spec PyProof.Rows
mutual
def peq:D→D→Bool
 | .none,.none=>true
 | .bool a,.bool b=>a == b
 | .bool a,.int b=>(if a then (1:Int) else 0) == b
 | .int a,.bool b=>a == (if b then (1:Int) else 0)
 | .int a,.int b=>a == b
 | .str a,.str b=>a == b
 | .list a,.list b=>dg a b
 | .tuple a,.tuple b=>dg a b
 | _,_=>false
def dg:List D→List D→Bool
 | [],[]=>true
 | a :: r,b :: s=>peq a b && dg r s
 | _,_=>false
end
mutual
def aH:D→Bool
 | .dict _=>false
 | .list ts=>bg ts
 | .tuple ts=>bg ts
 | _=>true
def bg:List D→Bool
 | []=>true
 | t :: r=>aH t && bg r
end
mutual
theorem ly:∀ a:D,aH a=true→peq a a=true
 | .none,_=>rfl
 | .bool b,_=>by cases b <;> rfl
 | .int i,_=>by simp [peq]
 | .str i,_=>by simp [peq]
 | .list ts,h=>by simp only [peq]; exact ke ts (by simpa [aH] using h)
 | .tuple ts,h=>by simp only [peq]; exact ke ts (by simpa [aH] using h)
 | .dict _,h=>by simp [aH] at h
theorem ke:∀ a:List D,bg a=true→dg a a=true
 | [],_=>rfl
 | t :: r,h=>by
  have h':aH t=true∧bg r=true:=by simpa [bg] using h
  simp only [dg,ly t h'.1,ke r h'.2,Bool.and_self]
end
mutual
def dM:D→Nat
 | .list ts=>cy ts+1
 | .tuple ts=>cy ts+1
 | _=>0
def cy:List D→Nat
 | []=>0
 | t :: r=>max (dM t) (cy r)
end
theorem kr:∀ {ts:List D} {i:Nat} {t:D},ts[i]?=some t→dM t≤cy ts
 | [],_,_,h=>by simp at h
 | u :: r,i,t,h=>by
  simp only [cy]
  cases i with
  | zero=>simp at h; subst h; exact Nat.le_max_left _ _
  | succ i=>exact Nat.le_trans (kr (by simpa using h)) (Nat.le_max_right _ _)
theorem dR:∀ {ts:List D} {i:Nat} {t:D},bg ts=true→ts[i]?=some t→aH t=true
 | [],_,_,_,h=>by simp at h
 | u :: r,i,t,hn,h=>by
  have h':aH u=true∧bg r=true:=by simpa [bg] using hn
  cases i with
  | zero=>simp at h; subst h; exact h'.1
  | succ i=>exact dR h'.2 (by simpa using h)
theorem lu:∀ {a b:List D},a.length≠b.length→dg a b=false
 | [],[],h=>absurd rfl h
 | [],_ :: _,_=>rfl
 | _ :: _,[],_=>rfl
 | a :: r,b :: s,h=>by
  simp only [dg,lu (a:=r) (b:=s) (fun z=>h (by rw [List.length_cons,List.length_cons,z])),Bool.and_false]
def eAt (a b:List D) (j:Nat):Bool:=match a[j]?,b[j]? with
 | some x,some y=>peq x y
 | _,_=>true
theorem np (n:Nat) (f:Nat→Bool):(List.range (n+1)).all f=(f 0 && (List.range n).all fun j=>f (j+1)):=by
 rw [List.range_succ_eq_map,List.all_cons,List.all_map]
 rfl
theorem lx:∀ {a b:List D},a.length=b.length→(List.range a.length).all (eAt a b)=dg a b
 | [],[],_=>rfl
 | a :: r,b :: s,h=>by
  rw [List.length_cons,np]
  have e:(List.range r.length).all (fun j=>eAt (a :: r) (b :: s) (j+1))=(List.range r.length).all (eAt r s):=by
   congr 1
  rw [e,lx (by simpa using h)]
  rfl
 | [],_ :: _,h=>by simp at h
 | _ :: _,[],h=>by simp at h
section
open PySem.SeqAt
variable {X:Cx} {pins:List (Addr × Obj)} {σ:St} {H:Hp} {s:Shared} {O:AS}
theorem Ca {p:Addr} {vs ws:List V} (I:Inv X pins σ H s) (h:SqL X.K H p vs) (g:SqT X.K H p ws):False:=by
 obtain ⟨its,_,p1,_⟩:=I.list h
 obtain ⟨its2,_,p2,_⟩:=I.tuple g
 exact ne_of_list_tuple p1.isList (show s.heap.IsTuple p its2.toArray from p2) rfl
theorem GE {p:Addr} {vs:List V} {ks:List (List Key × V)} (I:Inv X pins σ H s) (h:SqL X.K H p vs) (g:H p=some (.dT ks)):False:=by
 obtain ⟨its,_,⟨o,n,e1,e2,_⟩,_⟩:=I.list h
 obtain ⟨_,_,_,_,o',_,_,g1,g2,_⟩:=Cm I.hok g
 rw [e1] at g1
 cases g1
 rw [g2.1] at e2
 simp at e2
theorem IB {p:Addr} {vs:List V} {ks:List (Key × V)} (I:Inv X pins σ H s) (h:SqL X.K H p vs) (g:H p=some (.dK ks)):False:=by
 obtain ⟨its,_,⟨o,n,e1,e2,_⟩,_⟩:=I.list h
 obtain ⟨_,_,_,_,o',_,_,g1,g2,_⟩:=sL I.hok g
 rw [e1] at g1
 cases g1
 rw [g2.1] at e2
 simp at e2
mutual
theorem Ow.inj (I:Inv X pins σ H s):∀ (a b:D) {x:V},Ow X.K O H a 0 x NoA→Ow X.K O H b 0 x NoA→aH a=true→a=b
 | .none,b,_,h,g,_=>by
  cases (show _=_ from h)
  cases b with
  | none=>rfl
  | list ts=>obtain ⟨_,_,z,_⟩:=g; cases z
  | tuple ts=>obtain ⟨_,_,z,_⟩:=g; cases z
  | dict ts=>obtain ⟨_,_,z,_⟩:=g; cases z
  | bool c=>cases (show V.non=V.bl c from g)
  | int c=>cases (show V.non=V.int c from g)
  | str c=>cases (show V.non=V.str c from g)
 | .bool c,b,_,h,g,_=>by
  cases (show _=_ from h)
  cases b with
  | none=>cases (show V.bl c=V.non from g)
  | list ts=>obtain ⟨_,_,z,_⟩:=g; cases z
  | tuple ts=>obtain ⟨_,_,z,_⟩:=g; cases z
  | dict ts=>obtain ⟨_,_,z,_⟩:=g; cases z
  | bool c'=>cases (show V.bl c=V.bl c' from g); rfl
  | int c'=>cases (show V.bl c=V.int c' from g)
  | str c'=>cases (show V.bl c=V.str c' from g)
 | .int c,b,_,h,g,_=>by
  cases (show _=_ from h)
  cases b with
  | none=>cases (show V.int c=V.non from g)
  | list ts=>obtain ⟨_,_,z,_⟩:=g; cases z
  | tuple ts=>obtain ⟨_,_,z,_⟩:=g; cases z
  | dict ts=>obtain ⟨_,_,z,_⟩:=g; cases z
  | bool c'=>cases (show V.int c=V.bl c' from g)
  | int c'=>cases (show V.int c=V.int c' from g); rfl
  | str c'=>cases (show V.int c=V.str c' from g)
 | .str c,b,_,h,g,_=>by
  cases (show _=_ from h)
  cases b with
  | none=>cases (show V.str c=V.non from g)
  | list ts=>obtain ⟨_,_,z,_⟩:=g; cases z
  | tuple ts=>obtain ⟨_,_,z,_⟩:=g; cases z
  | dict ts=>obtain ⟨_,_,z,_⟩:=g; cases z
  | bool c'=>cases (show V.str c=V.bl c' from g)
  | int c'=>cases (show V.str c=V.int c' from g)
  | str c'=>cases (show V.str c=V.str c' from g); rfl
 | .list ts,b,_,h,g,hn=>by
  obtain ⟨p,vs,rfl,fz,w⟩:=h.lst0
  cases b with
  | none=>cases (show V.ref p=V.non from g)
  | bool c'=>cases (show V.ref p=V.bl c' from g)
  | int c'=>cases (show V.ref p=V.int c' from g)
  | str c'=>cases (show V.ref p=V.str c' from g)
  | list us =>
   obtain ⟨p',vs',e,fz',w'⟩:=g.lst0
   cases e
   have:=I.list_inj fz.sq fz'.sq
   subst this
   rw [Ows.inj I ts us w w' (by simpa [aH] using hn)]
  | tuple us =>
   obtain ⟨p',vs',e,fz',w'⟩:=g.tup0
   cases e
   exact (Ca I fz.sq fz'.sq).elim
  | dict us =>
   obtain ⟨p',vs',e,⟨_,g1,_⟩ | ⟨z,_⟩ | ⟨_,_,_,_,g1,_⟩⟩:=g
   ·cases e
    exact (IB I fz.sq g1).elim
   ·exact absurd rfl z
   ·cases e
    exact (GE I fz.sq g1).elim
 | .tuple ts,b,_,h,g,hn=>by
  obtain ⟨p,vs,rfl,fz,w⟩:=h.tup0
  cases b with
  | none=>cases (show V.ref p=V.non from g)
  | bool c'=>cases (show V.ref p=V.bl c' from g)
  | int c'=>cases (show V.ref p=V.int c' from g)
  | str c'=>cases (show V.ref p=V.str c' from g)
  | tuple us =>
   obtain ⟨p',vs',e,fz',w'⟩:=g.tup0
   cases e
   have:=fz.1.symm.trans fz'.1
   cases this
   rw [Ows.inj I ts us w w' (by simpa [aH] using hn)]
  | list us =>
   obtain ⟨p',vs',e,fz',w'⟩:=g.lst0
   cases e
   exact (Ca I fz'.sq fz.sq).elim
  | dict us =>
   obtain ⟨p',vs',e,⟨_,g1,_⟩ | ⟨z,_⟩ | ⟨_,_,_,_,g1,_⟩⟩:=g
   ·cases e
    rw [fz.1] at g1
    cases g1
   ·exact absurd rfl z
   ·cases e
    rw [fz.1] at g1
    cases g1
 | .dict _,_,_,_,_,hn=>by simp [aH] at hn
theorem Ows.inj (I:Inv X pins σ H s):∀ (a b:List D) {x:List V},Ows X.K O H a 0 x NoA→Ows X.K O H b 0 x NoA→bg a=true→a=b
 | [],b,_,h,g,_=>by
  cases (show _=_ from h)
  cases b with
  | nil=>rfl
  | cons u us=>obtain ⟨_,_,_,_,e,_⟩:=g; cases e
 | t :: ts,b,_,h,g,hn=>by
  obtain ⟨v,r,F1,F2,e,_,_,_,h4,h5⟩:=h
  subst e
  have hn':aH t=true∧bg ts=true:=by simpa [bg] using hn
  cases b with
  | nil=>cases (show v :: r=[] from g)
  | cons u us =>
   obtain ⟨v',r',G1,G2,e,_,_,_,g4,g5⟩:=g
   cases e
   rw [Ow.inj I t u (Ow.any0 t h4) (Ow.any0 u g4) hn'.1,Ows.inj I ts us (Ows.any0 ts h5) (Ows.any0 us g5) hn'.2]
end
theorem pQ {A:Around} {ts us:List D} {vs ws:List V} {its its2:List Value} (w:Ows X.K O H ts 0 vs NoA) (w2:Ows X.K O H us 0 ws NoA) (rv:Vals vs its) (rv2:Vals ws its2)
  (ih:∀ (j:Nat) a b x y v u,ts[j]?=some a→us[j]?=some b→Ow X.K O H a 0 x NoA→Ow X.K O H b 0 y NoA→RelV x v→RelV y u→EqAt A s v u (peq a b)) :
  ∀ j (h1:j < its.toArray.size) (h2:j < its2.toArray.size),EqAt A s its.toArray[j] its2.toArray[j] (eAt ts us j):=fun j h1 h2=>by
 have h1':j < its.length:=by simpa using h1
 have h2':j < its2.length:=by simpa using h2
 have l1:=rv.length
 have l2:=rv2.length
 have m1:=w.len
 have m2:=w2.len
 have e1:ts[j]?=some ts[j]:=List.getElem?_eq_getElem (by omega)
 have e2:us[j]?=some us[j]:=List.getElem?_eq_getElem (by omega)
 obtain ⟨x,g1,o1⟩:=w.get e1
 obtain ⟨y,g2,o2⟩:=w2.get e2
 obtain ⟨u1,f1,q1⟩:=rv.get g1
 obtain ⟨u2,f2,q2⟩:=rv2.get g2
 have z:=ih j _ _ x y u1 u2 e1 e2 o1 o2 q1 q2
 rw [List.getElem?_eq_getElem h1'] at f1
 rw [List.getElem?_eq_getElem h2'] at f2
 have i1:its.toArray[j]=u1:=by simpa using Option.some.inj f1
 have i2:its2.toArray[j]=u2:=by simpa using Option.some.inj f2
 rw [i1,i2]
 unfold eAt
 rw [e1,e2]
 exact z
theorem sI (I:Inv X pins σ H s):∀ (n:Nat) (a b:D) (A:Around) (x y:V) (v u:Value),dM a≤n→aH a=true→aH b=true→Ow X.K O H a 0 x NoA→Ow X.K O H b 0 y NoA→RelV x v→RelV y u→A.units+n+1 < cLine →
  EqAt A s v u (peq a b)∧RcAt A s v u (peq a b)∧RcNeAt A s v u (!peq a b):=by
 intro n
 induction n with
 | zero =>
  intro a b A x y v u hdp hna hnb o1 o2 r1 r2 hun
  have hu:A.units < cLine:=by omega
  cases a with
  | none =>
   cases b with
   | none =>
    cases (show x=V.non from o1)
    cases r1
    cases (show y=V.non from o2)
    cases r2
    exact ⟨EqAt.same _,RcAt.none_none,RcNeAt.none_none⟩
   | bool c2 =>
    cases (show x=V.non from o1)
    cases r1
    cases (show y=V.bl c2 from o2)
    cases r2
    exact ⟨EqAt.none_bool _,RcAt.none_bool _,RcNeAt.none_bool _⟩
   | int c2 =>
    cases (show x=V.non from o1)
    cases r1
    cases (show y=V.int c2 from o2)
    obtain ⟨tk2,rfl⟩:=r2
    exact ⟨EqAt.none_int _ _,RcAt.none_int _ _,RcNeAt.none_int _ _⟩
   | str c2 =>
    cases (show x=V.non from o1)
    cases r1
    cases (show y=V.str c2 from o2)
    obtain ⟨tk2,rfl⟩:=r2
    exact ⟨EqAt.none_str _ _,RcAt.none_str _ _,RcNeAt.none_str _ _⟩
   | list c2 =>
    cases (show x=V.non from o1)
    cases r1
    obtain ⟨p2,vs2,rfl,fz2,w2⟩:=o2.lst0
    cases r2
    obtain ⟨its2,rv2,pl2,_⟩:=I.list fz2.sq
    have hl2:=pl2.isList
    exact ⟨EqAt.none_list  hl2 hu,RcAt.none_list  hl2 hu,RcNeAt.none_list  hl2 hu⟩
   | tuple c2 =>
    cases (show x=V.non from o1)
    cases r1
    obtain ⟨p2,vs2,rfl,fz2,w2⟩:=o2.tup0
    cases r2
    obtain ⟨its2,rv2,pl2,_⟩:=I.tuple fz2.sq
    have hl2:s.heap.IsTuple p2 its2.toArray:=pl2
    exact ⟨EqAt.none_tuple  hl2 hu,RcAt.none_tuple  hl2 hu,RcNeAt.none_tuple  hl2 hu⟩
   | dict c2=>simp [aH] at hnb
  | bool c1 =>
   cases b with
   | none =>
    cases (show x=V.bl c1 from o1)
    cases r1
    cases (show y=V.non from o2)
    cases r2
    exact ⟨EqAt.bool_none _,RcAt.bool_none _,RcNeAt.bool_none _⟩
   | bool c2 =>
    cases (show x=V.bl c1 from o1)
    cases r1
    cases (show y=V.bl c2 from o2)
    cases r2
    exact ⟨EqAt.bool_bool _ _,RcAt.bool_bool _ _,RcNeAt.bool_bool _ _⟩
   | int c2 =>
    cases (show x=V.bl c1 from o1)
    cases r1
    cases (show y=V.int c2 from o2)
    obtain ⟨tk2,rfl⟩:=r2
    exact ⟨EqAt.bool_int _ _ _,RcAt.bool_int _ _ _,RcNeAt.bool_int _ _ _⟩
   | str c2 =>
    cases (show x=V.bl c1 from o1)
    cases r1
    cases (show y=V.str c2 from o2)
    obtain ⟨tk2,rfl⟩:=r2
    exact ⟨EqAt.bool_str _ _ _,RcAt.bool_str _ _ _,RcNeAt.bool_str _ _ _⟩
   | list c2 =>
    cases (show x=V.bl c1 from o1)
    cases r1
    obtain ⟨p2,vs2,rfl,fz2,w2⟩:=o2.lst0
    cases r2
    obtain ⟨its2,rv2,pl2,_⟩:=I.list fz2.sq
    have hl2:=pl2.isList
    exact ⟨EqAt.bool_list _ hl2 hu,RcAt.bool_list _ hl2 hu,RcNeAt.bool_list _ hl2 hu⟩
   | tuple c2 =>
    cases (show x=V.bl c1 from o1)
    cases r1
    obtain ⟨p2,vs2,rfl,fz2,w2⟩:=o2.tup0
    cases r2
    obtain ⟨its2,rv2,pl2,_⟩:=I.tuple fz2.sq
    have hl2:s.heap.IsTuple p2 its2.toArray:=pl2
    exact ⟨EqAt.bool_tuple _ hl2 hu,RcAt.bool_tuple _ hl2 hu,RcNeAt.bool_tuple _ hl2 hu⟩
   | dict c2=>simp [aH] at hnb
  | int c1 =>
   cases b with
   | none =>
    cases (show x=V.int c1 from o1)
    obtain ⟨tk1,rfl⟩:=r1
    cases (show y=V.non from o2)
    cases r2
    exact ⟨EqAt.int_none _ _,RcAt.int_none _ _,RcNeAt.int_none _ _⟩
   | bool c2 =>
    cases (show x=V.int c1 from o1)
    obtain ⟨tk1,rfl⟩:=r1
    cases (show y=V.bl c2 from o2)
    cases r2
    exact ⟨EqAt.int_bool _ _ _,RcAt.int_bool _ _ _,RcNeAt.int_bool _ _ _⟩
   | int c2 =>
    cases (show x=V.int c1 from o1)
    obtain ⟨tk1,rfl⟩:=r1
    cases (show y=V.int c2 from o2)
    obtain ⟨tk2,rfl⟩:=r2
    exact ⟨EqAt.int_int _ _ _ _,RcAt.int_int _ _ _ _,RcNeAt.int_int _ _ _ _⟩
   | str c2 =>
    cases (show x=V.int c1 from o1)
    obtain ⟨tk1,rfl⟩:=r1
    cases (show y=V.str c2 from o2)
    obtain ⟨tk2,rfl⟩:=r2
    exact ⟨EqAt.int_str _ _ _ _,RcAt.int_str _ _ _ _,RcNeAt.int_str _ _ _ _⟩
   | list c2 =>
    cases (show x=V.int c1 from o1)
    obtain ⟨tk1,rfl⟩:=r1
    obtain ⟨p2,vs2,rfl,fz2,w2⟩:=o2.lst0
    cases r2
    obtain ⟨its2,rv2,pl2,_⟩:=I.list fz2.sq
    have hl2:=pl2.isList
    exact ⟨EqAt.int_list _ _ hl2 hu,RcAt.int_list _ _ hl2 hu,RcNeAt.int_list _ _ hl2 hu⟩
   | tuple c2 =>
    cases (show x=V.int c1 from o1)
    obtain ⟨tk1,rfl⟩:=r1
    obtain ⟨p2,vs2,rfl,fz2,w2⟩:=o2.tup0
    cases r2
    obtain ⟨its2,rv2,pl2,_⟩:=I.tuple fz2.sq
    have hl2:s.heap.IsTuple p2 its2.toArray:=pl2
    exact ⟨EqAt.int_tuple _ _ hl2 hu,RcAt.int_tuple _ _ hl2 hu,RcNeAt.int_tuple _ _ hl2 hu⟩
   | dict c2=>simp [aH] at hnb
  | str c1 =>
   cases b with
   | none =>
    cases (show x=V.str c1 from o1)
    obtain ⟨tk1,rfl⟩:=r1
    cases (show y=V.non from o2)
    cases r2
    exact ⟨EqAt.str_none _ _,RcAt.str_none _ _,RcNeAt.str_none _ _⟩
   | bool c2 =>
    cases (show x=V.str c1 from o1)
    obtain ⟨tk1,rfl⟩:=r1
    cases (show y=V.bl c2 from o2)
    cases r2
    exact ⟨EqAt.str_bool _ _ _,RcAt.str_bool _ _ _,RcNeAt.str_bool _ _ _⟩
   | int c2 =>
    cases (show x=V.str c1 from o1)
    obtain ⟨tk1,rfl⟩:=r1
    cases (show y=V.int c2 from o2)
    obtain ⟨tk2,rfl⟩:=r2
    exact ⟨EqAt.str_int _ _ _ _,RcAt.str_int _ _ _ _,RcNeAt.str_int _ _ _ _⟩
   | str c2 =>
    cases (show x=V.str c1 from o1)
    obtain ⟨tk1,rfl⟩:=r1
    cases (show y=V.str c2 from o2)
    obtain ⟨tk2,rfl⟩:=r2
    exact ⟨EqAt.str_str _ _ _ _,RcAt.str_str _ _ _ _,RcNeAt.str_str _ _ _ _⟩
   | list c2 =>
    cases (show x=V.str c1 from o1)
    obtain ⟨tk1,rfl⟩:=r1
    obtain ⟨p2,vs2,rfl,fz2,w2⟩:=o2.lst0
    cases r2
    obtain ⟨its2,rv2,pl2,_⟩:=I.list fz2.sq
    have hl2:=pl2.isList
    exact ⟨EqAt.str_list _ _ hl2 hu,RcAt.str_list _ _ hl2 hu,RcNeAt.str_list _ _ hl2 hu⟩
   | tuple c2 =>
    cases (show x=V.str c1 from o1)
    obtain ⟨tk1,rfl⟩:=r1
    obtain ⟨p2,vs2,rfl,fz2,w2⟩:=o2.tup0
    cases r2
    obtain ⟨its2,rv2,pl2,_⟩:=I.tuple fz2.sq
    have hl2:s.heap.IsTuple p2 its2.toArray:=pl2
    exact ⟨EqAt.str_tuple _ _ hl2 hu,RcAt.str_tuple _ _ hl2 hu,RcNeAt.str_tuple _ _ hl2 hu⟩
   | dict c2=>simp [aH] at hnb
  | list c1 =>
   simp only [dM] at hdp
   omega
  | tuple c1 =>
   simp only [dM] at hdp
   omega
  | dict c1=>simp [aH] at hna
 | succ n ih =>
  intro a b A x y v u hdp hna hnb o1 o2 r1 r2 hun
  have hu:A.units < cLine:=by omega
  have hu1:A.in1.units+n+1 < cLine:=by
   show A.units+1+n+1 < cLine
   omega
  cases a with
  | none =>
   cases b with
   | none =>
    cases (show x=V.non from o1)
    cases r1
    cases (show y=V.non from o2)
    cases r2
    exact ⟨EqAt.same _,RcAt.none_none,RcNeAt.none_none⟩
   | bool c2 =>
    cases (show x=V.non from o1)
    cases r1
    cases (show y=V.bl c2 from o2)
    cases r2
    exact ⟨EqAt.none_bool _,RcAt.none_bool _,RcNeAt.none_bool _⟩
   | int c2 =>
    cases (show x=V.non from o1)
    cases r1
    cases (show y=V.int c2 from o2)
    obtain ⟨tk2,rfl⟩:=r2
    exact ⟨EqAt.none_int _ _,RcAt.none_int _ _,RcNeAt.none_int _ _⟩
   | str c2 =>
    cases (show x=V.non from o1)
    cases r1
    cases (show y=V.str c2 from o2)
    obtain ⟨tk2,rfl⟩:=r2
    exact ⟨EqAt.none_str _ _,RcAt.none_str _ _,RcNeAt.none_str _ _⟩
   | list c2 =>
    cases (show x=V.non from o1)
    cases r1
    obtain ⟨p2,vs2,rfl,fz2,w2⟩:=o2.lst0
    cases r2
    obtain ⟨its2,rv2,pl2,_⟩:=I.list fz2.sq
    have hl2:=pl2.isList
    exact ⟨EqAt.none_list  hl2 hu,RcAt.none_list  hl2 hu,RcNeAt.none_list  hl2 hu⟩
   | tuple c2 =>
    cases (show x=V.non from o1)
    cases r1
    obtain ⟨p2,vs2,rfl,fz2,w2⟩:=o2.tup0
    cases r2
    obtain ⟨its2,rv2,pl2,_⟩:=I.tuple fz2.sq
    have hl2:s.heap.IsTuple p2 its2.toArray:=pl2
    exact ⟨EqAt.none_tuple  hl2 hu,RcAt.none_tuple  hl2 hu,RcNeAt.none_tuple  hl2 hu⟩
   | dict c2=>simp [aH] at hnb
  | bool c1 =>
   cases b with
   | none =>
    cases (show x=V.bl c1 from o1)
    cases r1
    cases (show y=V.non from o2)
    cases r2
    exact ⟨EqAt.bool_none _,RcAt.bool_none _,RcNeAt.bool_none _⟩
   | bool c2 =>
    cases (show x=V.bl c1 from o1)
    cases r1
    cases (show y=V.bl c2 from o2)
    cases r2
    exact ⟨EqAt.bool_bool _ _,RcAt.bool_bool _ _,RcNeAt.bool_bool _ _⟩
   | int c2 =>
    cases (show x=V.bl c1 from o1)
    cases r1
    cases (show y=V.int c2 from o2)
    obtain ⟨tk2,rfl⟩:=r2
    exact ⟨EqAt.bool_int _ _ _,RcAt.bool_int _ _ _,RcNeAt.bool_int _ _ _⟩
   | str c2 =>
    cases (show x=V.bl c1 from o1)
    cases r1
    cases (show y=V.str c2 from o2)
    obtain ⟨tk2,rfl⟩:=r2
    exact ⟨EqAt.bool_str _ _ _,RcAt.bool_str _ _ _,RcNeAt.bool_str _ _ _⟩
   | list c2 =>
    cases (show x=V.bl c1 from o1)
    cases r1
    obtain ⟨p2,vs2,rfl,fz2,w2⟩:=o2.lst0
    cases r2
    obtain ⟨its2,rv2,pl2,_⟩:=I.list fz2.sq
    have hl2:=pl2.isList
    exact ⟨EqAt.bool_list _ hl2 hu,RcAt.bool_list _ hl2 hu,RcNeAt.bool_list _ hl2 hu⟩
   | tuple c2 =>
    cases (show x=V.bl c1 from o1)
    cases r1
    obtain ⟨p2,vs2,rfl,fz2,w2⟩:=o2.tup0
    cases r2
    obtain ⟨its2,rv2,pl2,_⟩:=I.tuple fz2.sq
    have hl2:s.heap.IsTuple p2 its2.toArray:=pl2
    exact ⟨EqAt.bool_tuple _ hl2 hu,RcAt.bool_tuple _ hl2 hu,RcNeAt.bool_tuple _ hl2 hu⟩
   | dict c2=>simp [aH] at hnb
  | int c1 =>
   cases b with
   | none =>
    cases (show x=V.int c1 from o1)
    obtain ⟨tk1,rfl⟩:=r1
    cases (show y=V.non from o2)
    cases r2
    exact ⟨EqAt.int_none _ _,RcAt.int_none _ _,RcNeAt.int_none _ _⟩
   | bool c2 =>
    cases (show x=V.int c1 from o1)
    obtain ⟨tk1,rfl⟩:=r1
    cases (show y=V.bl c2 from o2)
    cases r2
    exact ⟨EqAt.int_bool _ _ _,RcAt.int_bool _ _ _,RcNeAt.int_bool _ _ _⟩
   | int c2 =>
    cases (show x=V.int c1 from o1)
    obtain ⟨tk1,rfl⟩:=r1
    cases (show y=V.int c2 from o2)
    obtain ⟨tk2,rfl⟩:=r2
    exact ⟨EqAt.int_int _ _ _ _,RcAt.int_int _ _ _ _,RcNeAt.int_int _ _ _ _⟩
   | str c2 =>
    cases (show x=V.int c1 from o1)
    obtain ⟨tk1,rfl⟩:=r1
    cases (show y=V.str c2 from o2)
    obtain ⟨tk2,rfl⟩:=r2
    exact ⟨EqAt.int_str _ _ _ _,RcAt.int_str _ _ _ _,RcNeAt.int_str _ _ _ _⟩
   | list c2 =>
    cases (show x=V.int c1 from o1)
    obtain ⟨tk1,rfl⟩:=r1
    obtain ⟨p2,vs2,rfl,fz2,w2⟩:=o2.lst0
    cases r2
    obtain ⟨its2,rv2,pl2,_⟩:=I.list fz2.sq
    have hl2:=pl2.isList
    exact ⟨EqAt.int_list _ _ hl2 hu,RcAt.int_list _ _ hl2 hu,RcNeAt.int_list _ _ hl2 hu⟩
   | tuple c2 =>
    cases (show x=V.int c1 from o1)
    obtain ⟨tk1,rfl⟩:=r1
    obtain ⟨p2,vs2,rfl,fz2,w2⟩:=o2.tup0
    cases r2
    obtain ⟨its2,rv2,pl2,_⟩:=I.tuple fz2.sq
    have hl2:s.heap.IsTuple p2 its2.toArray:=pl2
    exact ⟨EqAt.int_tuple _ _ hl2 hu,RcAt.int_tuple _ _ hl2 hu,RcNeAt.int_tuple _ _ hl2 hu⟩
   | dict c2=>simp [aH] at hnb
  | str c1 =>
   cases b with
   | none =>
    cases (show x=V.str c1 from o1)
    obtain ⟨tk1,rfl⟩:=r1
    cases (show y=V.non from o2)
    cases r2
    exact ⟨EqAt.str_none _ _,RcAt.str_none _ _,RcNeAt.str_none _ _⟩
   | bool c2 =>
    cases (show x=V.str c1 from o1)
    obtain ⟨tk1,rfl⟩:=r1
    cases (show y=V.bl c2 from o2)
    cases r2
    exact ⟨EqAt.str_bool _ _ _,RcAt.str_bool _ _ _,RcNeAt.str_bool _ _ _⟩
   | int c2 =>
    cases (show x=V.str c1 from o1)
    obtain ⟨tk1,rfl⟩:=r1
    cases (show y=V.int c2 from o2)
    obtain ⟨tk2,rfl⟩:=r2
    exact ⟨EqAt.str_int _ _ _ _,RcAt.str_int _ _ _ _,RcNeAt.str_int _ _ _ _⟩
   | str c2 =>
    cases (show x=V.str c1 from o1)
    obtain ⟨tk1,rfl⟩:=r1
    cases (show y=V.str c2 from o2)
    obtain ⟨tk2,rfl⟩:=r2
    exact ⟨EqAt.str_str _ _ _ _,RcAt.str_str _ _ _ _,RcNeAt.str_str _ _ _ _⟩
   | list c2 =>
    cases (show x=V.str c1 from o1)
    obtain ⟨tk1,rfl⟩:=r1
    obtain ⟨p2,vs2,rfl,fz2,w2⟩:=o2.lst0
    cases r2
    obtain ⟨its2,rv2,pl2,_⟩:=I.list fz2.sq
    have hl2:=pl2.isList
    exact ⟨EqAt.str_list _ _ hl2 hu,RcAt.str_list _ _ hl2 hu,RcNeAt.str_list _ _ hl2 hu⟩
   | tuple c2 =>
    cases (show x=V.str c1 from o1)
    obtain ⟨tk1,rfl⟩:=r1
    obtain ⟨p2,vs2,rfl,fz2,w2⟩:=o2.tup0
    cases r2
    obtain ⟨its2,rv2,pl2,_⟩:=I.tuple fz2.sq
    have hl2:s.heap.IsTuple p2 its2.toArray:=pl2
    exact ⟨EqAt.str_tuple _ _ hl2 hu,RcAt.str_tuple _ _ hl2 hu,RcNeAt.str_tuple _ _ hl2 hu⟩
   | dict c2=>simp [aH] at hnb
  | list c1 =>
   cases b with
   | none =>
    obtain ⟨p1,vs1,rfl,fz1,w1⟩:=o1.lst0
    cases r1
    obtain ⟨its1,rv1,pl1,_⟩:=I.list fz1.sq
    have hl1:=pl1.isList
    cases (show y=V.non from o2)
    cases r2
    exact ⟨EqAt.list_none  hl1 hu,RcAt.list_none  hl1 hu,RcNeAt.list_none  hl1 hu⟩
   | bool c2 =>
    obtain ⟨p1,vs1,rfl,fz1,w1⟩:=o1.lst0
    cases r1
    obtain ⟨its1,rv1,pl1,_⟩:=I.list fz1.sq
    have hl1:=pl1.isList
    cases (show y=V.bl c2 from o2)
    cases r2
    exact ⟨EqAt.list_bool _ hl1 hu,RcAt.list_bool _ hl1 hu,RcNeAt.list_bool _ hl1 hu⟩
   | int c2 =>
    obtain ⟨p1,vs1,rfl,fz1,w1⟩:=o1.lst0
    cases r1
    obtain ⟨its1,rv1,pl1,_⟩:=I.list fz1.sq
    have hl1:=pl1.isList
    cases (show y=V.int c2 from o2)
    obtain ⟨tk2,rfl⟩:=r2
    exact ⟨EqAt.list_int _ _ hl1 hu,RcAt.list_int _ _ hl1 hu,RcNeAt.list_int _ _ hl1 hu⟩
   | str c2 =>
    obtain ⟨p1,vs1,rfl,fz1,w1⟩:=o1.lst0
    cases r1
    obtain ⟨its1,rv1,pl1,_⟩:=I.list fz1.sq
    have hl1:=pl1.isList
    cases (show y=V.str c2 from o2)
    obtain ⟨tk2,rfl⟩:=r2
    exact ⟨EqAt.list_str _ _ hl1 hu,RcAt.list_str _ _ hl1 hu,RcNeAt.list_str _ _ hl1 hu⟩
   | list c2 =>
    obtain ⟨p1,vs1,rfl,fz1,w1⟩:=o1.lst0
    cases r1
    obtain ⟨its1,rv1,pl1,_⟩:=I.list fz1.sq
    have hl1:=pl1.isList
    obtain ⟨p2,vs2,rfl,fz2,w2⟩:=o2.lst0
    cases r2
    obtain ⟨its2,rv2,pl2,_⟩:=I.list fz2.sq
    have hl2:=pl2.isList
    have dl:cy c1≤n:=by simp only [dM] at hdp; omega
    have nd1:bg c1=true:=by simpa [aH] using hna
    have nd2:bg c2=true:=by simpa [aH] using hnb
    have el:=pQ (A:=A.in1) w1 w2 rv1 rv2 fun j a b x y v u e1 e2 q1 q2 q3 q4=>(ih a b A.in1 x y v u (Nat.le_trans (kr e1) dl) (dR nd1 e1) (dR nd2 e2) q1 q2 q3 q4 hu1).1
    have l1:=rv1.length
    have l2:=rv2.length
    have m1:=w1.len
    have m2:=w2.len
    have rc:RcAt A s (.ref p1) (.ref p2) (dg c1 c2)∧RcNeAt A s (.ref p1) (.ref p2) (!dg c1 c2):=by
     by_cases hz:c1.length=c2.length
     ·have hs1:its1.toArray.size=its2.toArray.size:=by rw [List.size_toArray,List.size_toArray]; omega
      have hs2:its1.toArray.size=c1.length:=by rw [List.size_toArray]; omega
      have z1:=RcAt.lists hl1 hl2 hs1 hu el
      have z2:=RcNeAt.lists hl1 hl2 hs1 hu el
      rw [hs2,lx hz] at z1 z2
      exact ⟨z1,z2⟩
     ·have hs1:(its1.toArray.size != its2.toArray.size)=true:=by rw [List.size_toArray,List.size_toArray,bne_iff_ne]; omega
      rw [lu hz]
      exact ⟨RcAt.lists_lengths hl1 hl2 hs1 hu,RcNeAt.lists_lengths hl1 hl2 hs1 hu⟩
    have pe:peq (.list c1) (.list c2)=dg c1 c2:=by simp only [peq]
    refine ⟨?_,by rw [pe]; exact rc.1,by rw [pe]; exact rc.2⟩
    by_cases hp:p1=p2
    ·subst hp
     have:=Ow.inj I _ _ o1 o2 hna
     cases this
     rw [ly _ hna]
     exact EqAt.same _
    ·rw [pe]
     exact EqAt.of_refs hp rc.1
   | tuple c2 =>
    obtain ⟨p1,vs1,rfl,fz1,w1⟩:=o1.lst0
    cases r1
    obtain ⟨its1,rv1,pl1,_⟩:=I.list fz1.sq
    have hl1:=pl1.isList
    obtain ⟨p2,vs2,rfl,fz2,w2⟩:=o2.tup0
    cases r2
    obtain ⟨its2,rv2,pl2,_⟩:=I.tuple fz2.sq
    have hl2:s.heap.IsTuple p2 its2.toArray:=pl2
    exact ⟨EqAt.list_tuple hl1 hl2 hu,RcAt.list_tuple hl1 hl2 hu,RcNeAt.list_tuple hl1 hl2 hu⟩
   | dict c2=>simp [aH] at hnb
  | tuple c1 =>
   cases b with
   | none =>
    obtain ⟨p1,vs1,rfl,fz1,w1⟩:=o1.tup0
    cases r1
    obtain ⟨its1,rv1,pl1,_⟩:=I.tuple fz1.sq
    have hl1:s.heap.IsTuple p1 its1.toArray:=pl1
    cases (show y=V.non from o2)
    cases r2
    exact ⟨EqAt.tuple_none  hl1 hu,RcAt.tuple_none  hl1 hu,RcNeAt.tuple_none  hl1 hu⟩
   | bool c2 =>
    obtain ⟨p1,vs1,rfl,fz1,w1⟩:=o1.tup0
    cases r1
    obtain ⟨its1,rv1,pl1,_⟩:=I.tuple fz1.sq
    have hl1:s.heap.IsTuple p1 its1.toArray:=pl1
    cases (show y=V.bl c2 from o2)
    cases r2
    exact ⟨EqAt.tuple_bool _ hl1 hu,RcAt.tuple_bool _ hl1 hu,RcNeAt.tuple_bool _ hl1 hu⟩
   | int c2 =>
    obtain ⟨p1,vs1,rfl,fz1,w1⟩:=o1.tup0
    cases r1
    obtain ⟨its1,rv1,pl1,_⟩:=I.tuple fz1.sq
    have hl1:s.heap.IsTuple p1 its1.toArray:=pl1
    cases (show y=V.int c2 from o2)
    obtain ⟨tk2,rfl⟩:=r2
    exact ⟨EqAt.tuple_int _ _ hl1 hu,RcAt.tuple_int _ _ hl1 hu,RcNeAt.tuple_int _ _ hl1 hu⟩
   | str c2 =>
    obtain ⟨p1,vs1,rfl,fz1,w1⟩:=o1.tup0
    cases r1
    obtain ⟨its1,rv1,pl1,_⟩:=I.tuple fz1.sq
    have hl1:s.heap.IsTuple p1 its1.toArray:=pl1
    cases (show y=V.str c2 from o2)
    obtain ⟨tk2,rfl⟩:=r2
    exact ⟨EqAt.tuple_str _ _ hl1 hu,RcAt.tuple_str _ _ hl1 hu,RcNeAt.tuple_str _ _ hl1 hu⟩
   | list c2 =>
    obtain ⟨p1,vs1,rfl,fz1,w1⟩:=o1.tup0
    cases r1
    obtain ⟨its1,rv1,pl1,_⟩:=I.tuple fz1.sq
    have hl1:s.heap.IsTuple p1 its1.toArray:=pl1
    obtain ⟨p2,vs2,rfl,fz2,w2⟩:=o2.lst0
    cases r2
    obtain ⟨its2,rv2,pl2,_⟩:=I.list fz2.sq
    have hl2:=pl2.isList
    exact ⟨EqAt.tuple_list hl1 hl2 hu,RcAt.tuple_list hl1 hl2 hu,RcNeAt.tuple_list hl1 hl2 hu⟩
   | tuple c2 =>
    obtain ⟨p1,vs1,rfl,fz1,w1⟩:=o1.tup0
    cases r1
    obtain ⟨its1,rv1,pl1,_⟩:=I.tuple fz1.sq
    have hl1:s.heap.IsTuple p1 its1.toArray:=pl1
    obtain ⟨p2,vs2,rfl,fz2,w2⟩:=o2.tup0
    cases r2
    obtain ⟨its2,rv2,pl2,_⟩:=I.tuple fz2.sq
    have hl2:s.heap.IsTuple p2 its2.toArray:=pl2
    have dl:cy c1≤n:=by simp only [dM] at hdp; omega
    have nd1:bg c1=true:=by simpa [aH] using hna
    have nd2:bg c2=true:=by simpa [aH] using hnb
    have el:=pQ (A:=A.in1) w1 w2 rv1 rv2 fun j a b x y v u e1 e2 q1 q2 q3 q4=>(ih a b A.in1 x y v u (Nat.le_trans (kr e1) dl) (dR nd1 e1) (dR nd2 e2) q1 q2 q3 q4 hu1).1
    have l1:=rv1.length
    have l2:=rv2.length
    have m1:=w1.len
    have m2:=w2.len
    have rc:RcAt A s (.ref p1) (.ref p2) (dg c1 c2)∧RcNeAt A s (.ref p1) (.ref p2) (!dg c1 c2):=by
     have z1:=RcAt.tuples hl1 hl2 hu el
     have z2:=RcNeAt.tuples hl1 hl2 hu el
     have ez:((List.range (min its1.toArray.size its2.toArray.size)).all (eAt c1 c2) && its1.toArray.size == its2.toArray.size)=dg c1 c2:=by
      rw [List.size_toArray,List.size_toArray]
      by_cases hz:c1.length=c2.length
      ·have h3:its1.length=its2.length:=by omega
       have h4:min its1.length its2.length=c1.length:=by omega
       rw [h4,lx hz,h3,beq_self_eq_true,Bool.and_true]
      ·have h3:(its1.length == its2.length)=false:=by rw [beq_eq_false_iff_ne]; omega
       rw [h3,Bool.and_false,lu hz]
     rw [ez] at z1 z2
     exact ⟨z1,z2⟩
    have pe:peq (.tuple c1) (.tuple c2)=dg c1 c2:=by simp only [peq]
    refine ⟨?_,by rw [pe]; exact rc.1,by rw [pe]; exact rc.2⟩
    by_cases hp:p1=p2
    ·subst hp
     have:=Ow.inj I _ _ o1 o2 hna
     cases this
     rw [ly _ hna]
     exact EqAt.same _
    ·rw [pe]
     exact EqAt.of_refs hp rc.1
   | dict c2=>simp [aH] at hnb
  | dict c1=>simp [aH] at hna
end
def eqD (a b:D):Option D:=grd (aH a=true∧aH b=true∧dM a≤60) (.bool (peq a b))
def neD (a b:D):Option D:=grd (aH a=true∧aH b=true∧dM a≤60) (.bool (!peq a b))
section
variable {X:Cx} {K:PySem.W.Frag}
theorem jw (hK:X.K=K) (hu:X.A.units+64 < cLine):OpR X (compareOp .Eq) (rF2 K eqD 3):=by
 subst hK
 intro pins s σ H x y v u Q I rx ry ⟨O,a,b,t,oa,ob,hd,hg,k⟩
 obtain ⟨⟨c1,c2,c3⟩,rfl⟩:=gZ hg
 exact (sI I 60 a b X.A x y v u c3 c1 c2 oa ob rx ry (by omega)).2.1 X.prog X.w _ _ ⟨.bl _,H,I,rfl,k _ H NoA .refl rfl⟩
theorem oD (hK:X.K=K) (hu:X.A.units+64 < cLine):OpR X (compareOp .NotEq) (rF2 K neD 3):=by
 subst hK
 intro pins s σ H x y v u Q I rx ry ⟨O,a,b,t,oa,ob,hd,hg,k⟩
 obtain ⟨⟨c1,c2,c3⟩,rfl⟩:=gZ hg
 exact (sI I 60 a b X.A x y v u c3 c1 c2 oa ob rx ry (by omega)).2.2 X.prog X.w _ _ ⟨.bl _,H,I,rfl,k _ H NoA .refl rfl⟩
end
end L2
namespace L2
open PySem PySem.Spec PyProof.Rows
theorem BlkOkC.inn {X:Cx} {scope:Scope} {ns:List Str} {js:List (Option Nat)} {N0:List Str} {sc0:Scope} {cl:List (Str × Addr)} {C:Addr} {env:Env} (hN:X.N=N0) (hE:X.env=compEnvC sc0 cl C env) (h:kS N0 sc0 scope ns js=true):BlkOkC X scope ns js:=by
 unfold kS at h
 simp only [Bool.and_eq_true,List.all_eq_true,decide_eq_true_eq,List.mem_range] at h
 obtain ⟨⟨⟨⟨⟨⟨h1,h2⟩,h3⟩,h4⟩,h5⟩,h6⟩,h7⟩:=h
 refine ⟨h1,fun y hy=>h2 y hy,fun y hy=>h3 y hy,fun y hy hk=>?_,h5,h6,fun i x j e1 e2=>?_⟩
 ·rw [hE]
  rcases h4 y hy hk with q | q
  ·exact .inl (jm (env:=env) q)
  ·exact jl (env:=env) q
 ·rw [hN]
  exact rA h7 e1 e2
theorem Cu {K:PySem.W.Frag} {dps:List Nat} {dr n:Nat} {F:List D→Option (D × En)} {vs:List V} {H:Hp} {Q:VK} {E:XK} (hn:dps.length=n) (h:spF K dps dr F vs H Q E):vs.length=n:=by
 obtain ⟨Ox,ts,R,r,outs,e,_⟩:=h
 have:=e.l2
 rw [List.length_map] at this
 omega
section
variable {X:Cx} {K:PySem.W.Frag} {p:Bool} {J:Jd} {ds ds0 ds1 ds2 ds3 ds':List Nat} {d d' d1 d2 d3:Nat} {a b c e:Expr} {st:Stmt} {f f1 f2 f3:ME} {m:MS} {pos p2:Pos}
theorem Dq (h:PS X st (tFS K J ds ds2 m)) (hd:leD ds1 ds2=true):PS X st (tFS K J ds ds1 m):=h.imp fun _ _ _=>He hd
def h9 (g g':D→D→Option D) (f1 f2 f3:ME):ME:=fun en=>(f1 en).bind fun r=>(f2 r.2).bind fun q=>(g r.1 q.1).bind fun t=>match t with
 | .bool true=>(f3 q.2).bind fun z=>(g' q.1 z.1).map fun t=>(t,z.2)
 | .bool false=>some (.bool false,q.2)
 | _=>none
theorem DU {g g':D→D→Option D} {σ:St} {H:Hp} {Q:VK} (h:tF K p ds ds1 3 (h9 g g' f1 f2 f3) σ H Q) :
  tI (rF2 K g 3) (rF2 K g' 3) (tF K p ds ds0 d1 f1) (tF K p ds0 ds1 d2 f2) (tF K p ds1 ds1 d3 f3) σ H Q:=by
 obtain ⟨Ox,en,R,t,en',e,hf,k⟩:=h
 unfold h9 at hf
 obtain ⟨⟨t1,en1⟩,h1,hf⟩:=Option.bind_eq_some_iff.mp hf
 obtain ⟨⟨t2,en2⟩,h2,hf⟩:=Option.bind_eq_some_iff.mp hf
 obtain ⟨tb,h3,hf⟩:=Option.bind_eq_some_iff.mp hf
 refine two (p1:=p) (p2:=p) e h1 h2 fun x y H2 R2 F1 F2 P o1 o2=>?_
 rw [Bool.and_self] at P
 have oy:=Ow.letgo P (fun _=>.inr) o2
 refine ⟨Own R2 Ox,t1,t2,tb,Ow.letgo P (fun _=>.inl) o1,oy,P.doms,h3,fun v3 H3 F3 n3 o3=>?_⟩
 have P3:=P.fin n3
 cases tb with
 | bool bb =>
  refine ⟨bb,o3,?_⟩
  cases bb with
  | false =>
   cases hf
   exact k _ H3 R2 NoA (P3.less fun _ z=>z.elim) rfl
  | true =>
   obtain ⟨⟨t4,en4⟩,h4,hf⟩:=Option.bind_eq_some_iff.mp hf
   obtain ⟨t5,h5,hf⟩:=Option.map_eq_some_iff.mp hf
   cases hf
   have P30:=P3.less (F':=NoA) fun _ z=>z.elim
   refine ⟨Ox,en2,R2,t4,en4,P30.env0,h4,fun v4 H4 R4 F4 P4 o4=>?_⟩
   have P34:=P30.after P4
   rw [Bool.and_self] at P34
   have oy3:Ow K (Own R2 Ox) H3 t2 0 y NoA:=Ow.mv (G:=NoA) ⟨fun a o q _=>n3.1 a o q,fun a z=>.inl z⟩ t2 (fun _ z=>z) oy
   have oy4:Ow K (Own R4 Ox) H4 t2 0 y NoA:=by
    refine Ow.mv (G:=NoA) ⟨fun a o q z=>P4.keep a o q fun i zi=>?_,fun a z=>?_⟩ t2 (fun _ z=>z) oy3
    ·rcases z with z | z
     ·exact z (.inl ⟨i,zi⟩)
     ·exact z
    ·rcases z with z | z
     ·exact (P4.own a (.inr z)).imp .inl id
     ·exact .inl (.inr z)
   exact ⟨Own R4 Ox,t2,t4,_,oy4,Ow.letgo P4 (fun _ z=>z) o4,P4.doms,h5,fun v5 H5 F5 n5 o5=>k v5 H5 R4 F5 (P34.fin n5) (mM ▸ o5)⟩
 | _=>cases hf
theorem v8 {op op':CmpOp} {g g':D→D→Option D} (ho:OpR X (compareOp op) (rF2 K g 3)) (ho':OpR X (compareOp op') (rF2 K g' 3)) (ha:PE X a (tF K p ds ds0 d1 f1)) (hb:PE X b (tF K p ds0 ds1 d2 f2)) (hc:PE X c (tF K p ds1 ds1 d3 f3))
  (hm:lastMarks [op,op'] [b,c]=false):PT X (.Compare a [op,op'] [b,c] pos) (tFT K p ds ds1 (tV (h9 g g' f1 f2 f3))) :=
 (vm ho ho' ha hb hc hm).imp fun σ H Q h=>by
  obtain ⟨Ox,en,R,t,en',e,hf,k⟩:=pS (d:=3) h
  exact DU ⟨Ox,en,R,t,en',e,hf,k⟩
abbrev MO:=En→Option (Option Int × En)
def tFO (K:PySem.W.Frag) (p:Bool) (ds ds':List Nat) (f:MO):TO:=fun σ H Q=>∃ Ox en R o en',EnvOk K ds Ox H σ en R∧f en=some (o,en')∧∀ H' R',Post K p ds' Ox σ H en R en' H' R' NoA→Q o H'
def gz:MO:=fun en=>some (none,en)
def fL (f:ME):MO:=fun en=>(f en).bind fun r=>match r.1 with
 | .int i=>some (some i,r.2)
 | _=>none
theorem PO.imp {X:Cx} {e:Option Expr} {t t':TO} (h:PO X e t) (hi:∀ σ H Q,t' σ H Q→t σ H Q):PO X e t':=fun pins s σ H Q I hw=>h pins s σ H Q I (hi _ _ _ hw)
theorem Dz:PO X none (tFO K p ds ds gz):=po_none.imp fun σ H Q ⟨Ox,en,R,o,en',e,hf,k⟩=>by
 cases hf
 exact k H R (Post.refl e)
theorem Dy (h:PE X e (tF K p ds ds1 d f)):PO X (some e) (tFO K p ds ds1 (fL f)):=(CK h).imp fun σ H Q ⟨Ox,en,R,o,en',e,hf,k⟩=>by
 unfold fL at hf
 obtain ⟨⟨t1,en1⟩,h1,hf⟩:=Option.bind_eq_some_iff.mp hf
 refine ⟨Ox,en,R,t1,en1,e,h1,fun v H' R' F P o=>?_⟩
 cases t1 with
 | int i=>cases hf; exact ⟨i,o,k H' R' (P.less fun _ z=>z.elim)⟩
 | _=>cases hf
def rFs (K:PySem.W.Frag) (g:D→Option Int→Option Int→Option D) (d:Nat):V→Option Int→Option Int→Hp→VK→Prop:=fun x lo hi H Q=>∃ (O:AS) (a t:D),Ow K O H a 0 x NoA∧(∀ a,O a→∃ o,H a=some o)∧g a lo hi=some t∧∀ v H' F,NewTo H H' F→Ow K (U F O) H' t d v F→Q v H'
def eSl (g:D→Option Int→Option Int→Option D) (f:ME) (lo hi:MO):ME:=fun en=>(f en).bind fun r=>(lo r.2).bind fun l=>(hi l.2).bind fun h=>(g r.1 l.1 h.1).map fun t=>(t,h.2)
variable {lo hi:MO}
theorem Ow.past0 {H1 H2:Hp} {R1 R2:Nat→AS} {Ox:AS} {σ:St} {en1 en2:En} {F2:AS} {t:D} {v:V} (P2:Post K p ds2 Ox σ H1 en1 R1 en2 H2 R2 F2) (h:Ow K (Own R1 Ox) H1 t 0 v NoA):Ow K (Own R2 Ox) H2 t 0 v NoA:=by
 refine Ow.mv (G:=NoA) ⟨fun a o q z=>P2.keep a o q fun i zi=>?_,fun a z=>?_⟩ t (fun _ z=>z) h
 ·rcases z with z | z
  ·exact z (.inl ⟨i,zi⟩)
  ·exact z
 ·rcases z with z | z
  ·exact (P2.own a (.inr z)).imp .inl id
  ·exact .inl (.inr z)
theorem Jx {g:D→Option Int→Option Int→Option D} {σ:St} {H:Hp} {Q:VK} (h:tF K p ds ds3 d (eSl g f lo hi) σ H Q):tSl (rFs K g d) (tF K p ds ds1 d1 f) (tFO K p ds1 ds2 lo) (tFO K p ds2 ds3 hi) σ H Q:=by
 obtain ⟨Ox,en,R,t,en',e,hf,k⟩:=h
 unfold eSl at hf
 obtain ⟨⟨t1,en1⟩,h1,hf⟩:=Option.bind_eq_some_iff.mp hf
 obtain ⟨⟨l,en2⟩,h2,hf⟩:=Option.bind_eq_some_iff.mp hf
 obtain ⟨⟨u,en3⟩,h3,hf⟩:=Option.bind_eq_some_iff.mp hf
 obtain ⟨t',h4,hf⟩:=Option.map_eq_some_iff.mp hf
 cases hf
 refine ⟨Ox,en,R,t1,en1,e,h1,fun v H1 R1 F1 P1 o1=>?_⟩
 have o0:=Ow.letgo P1 (fun _ z=>z) o1
 refine ⟨Ox,en1,R1,l,en2,P1.env0,h2,fun H2 R2 P2=>?_⟩
 refine ⟨Ox,en2,R2,u,en3,P2.env0,h3,fun H3 R3 P3=>?_⟩
 have P:=(P1.after P2).after P3
 rw [Bool.and_self,Bool.and_self] at P
 exact ⟨Own R3 Ox,t1,t,(o0.past0 P2).past0 P3,P3.doms,h4,fun v4 H4 F4 n4 o4=>k v4 H4 R3 F4 (P.fin n4) (mM ▸ o4)⟩
theorem SlR.imp {r r':V→Option Int→Option Int→Hp→VK→Prop} (h:SlR X r) (hi:∀ x lo hi H Q,r' x lo hi H Q→r x lo hi H Q):SlR X r':=fun pins s σ H x v vl vu lo hi' sl Q I rx hs pl pu q=>h pins s σ H x v vl vu lo hi' sl Q I rx hs pl pu (hi _ _ _ _ _ q)
theorem wu {g:D→Option Int→Option Int→Option D} {elo ehi:Option Expr} (hr:SlR X (rFs K g d)) (he:PE X e (tF K p ds ds1 d1 f)) (hl:PO X elo (tFO K p ds1 ds2 lo)) (hu:PO X ehi (tFO K p ds2 ds3 hi)):PE X (.Subscript e (.Slice elo ehi none p2) pos) (tF K p ds ds3 d (eSl g f lo hi)) :=
 (vx hr he hl hu).imp fun _ _ _=>Jx
def dk {α:Type} (xs:List α) (lo hi:Option Int):List α:=(xs.drop (HT.sIx xs.length 0 lo)).take (HT.sIx xs.length xs.length hi - HT.sIx xs.length 0 lo)
def iu:D→Option Int→Option Int→Option D
 | .list ts,lo,hi=>some (.list (dk ts lo hi))
 | _,_,_=>none
theorem gO (hK:X.K=K):SlR X (rFs K iu 1):=(Jr hK).imp fun x lo hi H Q ⟨O,a,t,oa,hd,hg,k⟩=>by
 cases a with
 | list ts =>
  cases hg
  obtain ⟨a,vs,e1,f1,w1⟩:=oa.lst0
  refine ⟨a,vs,e1,f1.sq,fun p hp=>?_⟩
  have w2:Ows K O H (dk ts lo hi) 0 (nj vs lo hi) NoA:=by
   unfold dk nj
   rw [w1.len]
   exact (w1.drop _).take _
  exact k _ _ _ (cA hp hd w2).1 (cA hp hd w2).2
 | _=>cases hg
def Kb:D→Option Int→Option Int→Option D
 | .str z,lo,hi=>grd (z.length≤sizeLine) (.str ⟨(JC z.cps.toList lo hi).toArray⟩)
 | _,_,_=>none
end
end L2
namespace L2
open PySem PySem.Spec PyProof.Rows
def kEq:D→D→Bool
 | .int a,.int b=>a == b
 | .str a,.str b=>a == b
 | _,_=>false
theorem mn (a b:Key):kEq (kD a) (kD b)=decide (a=b):=by
 cases a with
 | inl i=>cases b with
  | inl j=>rw [ur]; rfl
  | inr j=>rw [uq]; rfl
 | inr i=>cases b with
  | inl j=>rw [up]; rfl
  | inr j =>
   rw [uo]
   show (i == j)=_
   by_cases h:i=j
   ·subst h; simp
   ·rw [decide_eq_false h,beq_eq_false_iff_ne]; exact h
def kOf:D→Option Key
 | .int i=>some (.inl i)
 | .str x=>some (.inr x)
 | _=>none
theorem pN {a:D} {q:Key} (h:kOf a=some q):a=kD q:=by
 cases a <;> cases h <;> rfl
theorem pf {K:PySem.W.Frag} {O:AS} {H:Hp} {a:D} {q:Key} {d:Nat} {v:V} {F:AS} (h:kOf a=some q) (o:Ow K O H a d v F):v=kV q:=by
 cases a with
 | int i=>cases h; exact o
 | str i=>cases h; exact o
 | _=>cases h
def fN (ks:List (D × D)) (q:D):Option D:=(ks.find? fun kv=>kEq kv.1 q).map (·.2)
def ng (ks:List (D × D)) (q t:D):List (D × D):=if ks.any (fun kv=>kEq kv.1 q) then ks.map (fun kv=>if kEq kv.1 q then (kv.1,t) else kv) else ks++[(q,t)]
section
variable {K:PySem.W.Frag} {O:AS} {H:Hp} {d:Nat}
theorem Owd.look:∀ {ks:List (D × D)} {vs:List (Key × V)} {F:AS} (q:Key),Owd K O H ks d vs F→(∃ t v,fN ks (kD q)=some t∧eD vs q=some v∧Ow K O H t d v F)∨(fN ks (kD q)=none∧eD vs q=none)
 | [],_,_,q,h=>by rw [show _=[] from h]; exact .inr ⟨rfl,rfl⟩
 | (k,t) :: ks,_,F,q,h=>by
  obtain ⟨q',v,r,F1,F2,e,e2,s1,s2,_,h4,h5⟩:=h
  subst e e2
  by_cases hq:q'=q
  ·subst hq
   refine .inl ⟨t,v,?_,jh rfl,Ow.grow (fun _ z=>z) t s1 h4⟩
   unfold fN
   rw [List.find?_cons,mn,decide_eq_true rfl]
   rfl
  ·have e1:fN ((kD q',t) :: ks) (kD q)=fN ks (kD q):=by
    unfold fN
    rw [List.find?_cons,mn,decide_eq_false hq]
   have e2:eD ((q',v) :: r) q=eD r q:=ji hq
   rw [e1,e2]
   rcases Owd.look q h5 with ⟨t',v',a1,a2,a3⟩ | z
   ·exact .inl ⟨t',v',a1,a2,Ow.grow (fun _ z=>z) t' s2 a3⟩
   ·exact .inr z
theorem Owd.any:∀ {ks:List (D × D)} {vs:List (Key × V)} {F:AS} (q:Key),Owd K O H ks d vs F→ks.any (fun kv=>kEq kv.1 (kD q))=vs.any (fun kv=>decide (kv.1=q))
 | [],_,_,q,h=>by rw [show _=[] from h]; rfl
 | (k,t) :: ks,_,F,q,h=>by
  obtain ⟨q',v,r,F1,F2,e,e2,_,_,_,_,h5⟩:=h
  subst e e2
  rw [List.any_cons,List.any_cons,mn,Owd.any q h5]
theorem Owd.len:∀ {ks:List (D × D)} {vs:List (Key × V)} {F:AS},Owd K O H ks d vs F→vs.length=ks.length
 | [],_,_,h=>by rw [show _=[] from h]; rfl
 | (k,t) :: ks,_,F,h=>by
  obtain ⟨q',v,r,F1,F2,e,e2,_,_,_,_,h5⟩:=h
  rw [e,List.length_cons,List.length_cons,h5.len]
theorem Owd.rep0 {t:D} {v:V} {q:Key} (ht:Ow K O H t 0 v NoA):∀ {ks:List (D × D)} {vs:List (Key × V)},Owd K O H ks 0 vs NoA→Owd K O H (ks.map fun kv=>if kEq kv.1 (kD q) then (kv.1,t) else kv) 0 (vs.map fun kv=>if kv.1=q then (kv.1,v) else kv) NoA
 | [],_,h=>by rw [show _=[] from h]; rfl
 | (k,u) :: ks,_,h=>by
  obtain ⟨q',w,r,F1,F2,e,e2,_,_,_,h4,h5⟩:=h
  subst e e2
  rw [List.map_cons,List.map_cons]
  have ih:=Owd.rep0 (q:=q) ht (Owd.any0 ks h5)
  dsimp only
  rw [mn]
  by_cases hq:q'=q
  ·rw [if_pos hq,if_pos (decide_eq_true hq)]
   exact ⟨q',v,_,NoA,NoA,rfl,rfl,fun _ z=>z,fun _ z=>z,fun _ z=>z.elim,ht,ih⟩
  ·rw [if_neg hq,if_neg (by rw [decide_eq_false hq]; exact Bool.false_ne_true)]
   exact ⟨q',w,_,NoA,NoA,rfl,rfl,fun _ z=>z,fun _ z=>z,fun _ z=>z.elim,Ow.any0 u h4,ih⟩
theorem Owd.snoc0 {t:D} {v:V} {q:Key} (ht:Ow K O H t 0 v NoA):∀ {ks:List (D × D)} {vs:List (Key × V)},Owd K O H ks 0 vs NoA→Owd K O H (ks++[(kD q,t)]) 0 (vs++[(q,v)]) NoA
 | [],_,h=>by
  rw [show _=[] from h]
  exact ⟨q,v,[],NoA,NoA,rfl,rfl,fun _ z=>z,fun _ z=>z,fun _ z=>z.elim,ht,rfl⟩
 | (k,u) :: ks,_,h=>by
  obtain ⟨q',w,r,F1,F2,e,e2,_,_,_,h4,h5⟩:=h
  subst e e2
  exact ⟨q',w,_,NoA,NoA,rfl,rfl,fun _ z=>z,fun _ z=>z,fun _ z=>z.elim,Ow.any0 u h4,Owd.snoc0 ht (Owd.any0 ks h5)⟩
theorem Owd.put0 {t:D} {v:V} {q:Key} {ks:List (D × D)} {vs:List (Key × V)} (h:Owd K O H ks 0 vs NoA) (ht:Ow K O H t 0 v NoA):Owd K O H (ng ks (kD q) t) 0 (cH vs q v) NoA:=by
 unfold ng cH
 rw [h.any q]
 by_cases hq:(vs.any fun kv=>decide (kv.1=q))=true
 ·rw [if_pos hq,if_pos hq]
  exact Owd.rep0 ht h
 ·rw [if_neg hq,if_neg hq]
  exact Owd.snoc0 ht h
theorem Owd.past {ks:List (D × D)} {vs:List (Key × V)} {F:AS} {l:Addr} {o:HO} {O':AS} (ho:∀ a,O' a→O a) (hl:O l) (hf:∀ b,F b→b≠l) (h:Owd K O H ks d vs F):Owd K O' (upd H l o) ks d vs F:=by
 refine Owd.mv (G:=F) ⟨fun a u q z=>?_,fun a z=>.inl (ho a z)⟩ ks (fun _ z=>z) h
 rw [aM]
 ·exact q
 ·intro za
  subst za
  rcases z with z | z
  ·exact z hl
  ·exact hf a z rfl
theorem Ow.dict1 {ks:List (D × D)} {v:V} {F:AS} (hd:d≠0) (h:Ow K O H (.dict ks) d v F):∃ a vs,v=.ref a∧H a=some (.dK vs)∧F a∧∃ F':AS,(∀ b,F' b→F b∧b≠a)∧Owd K O H ks (dn d) vs F':=by
 obtain ⟨a,vs,e,⟨z,_⟩ | ⟨_,h1,h2,h3⟩ | ⟨z,_⟩⟩:=h
 ·exact absurd z hd
 ·exact ⟨a,vs,e,h1,h2,h3⟩
 ·exact absurd z hd
end
def J9:D→D→Option D
 | .dict ks,q=>(kOf q).bind fun _=>fN ks q
 | _,_=>none
section
variable {X:Cx} {K:PySem.W.Frag} {p:Bool} {J:Jd} {ds ds0 ds1 ds2 ds':List Nat} {d d' d1 d2:Nat} {a b c e o k:Expr} {f f1 f2 fk fe:ME} {pos px spos:Pos} {i:Nat} {σ:St} {H:Hp} {Q:VK} {Dn:Ends}
def bD (i:Nat) (f:ME):ME:=fun en=>(en[i]?).join.bind fun _=>(f en).bind fun r=>match (r.2[i]?).join with
 | some (.dict ks)=>(kOf r.1).bind fun _=>(fN ks r.1).map fun t=>(t,r.2)
 | _=>none
theorem DT (hd:ds1[i]?=some 1) (h:tF K p ds ds1 0 (bD i f) σ H Q):B3 (fh i) (tF K p ds ds1 d1 f) σ H Q:=by
 obtain ⟨Ox,en,R,t,en',e,hf,k⟩:=h
 unfold bD at hf
 obtain ⟨t0,h0,hf⟩:=Option.bind_eq_some_iff.mp hf
 obtain ⟨⟨t1,en1⟩,h1,hf⟩:=Option.bind_eq_some_iff.mp hf
 dsimp only at hf
 split at hf
 case h_2=>cases hf
 next ks h2 =>
 obtain ⟨q,hq,hf⟩:=Option.bind_eq_some_iff.mp hf
 obtain ⟨t',h3,hf⟩:=Option.map_eq_some_iff.mp hf
 cases hf
 obtain ⟨v,d0,a1,_,a3⟩:=e.at_ i _ (aV h0)
 refine ⟨v,a1,Ox,en,R,t1,_,e,h1,fun x H1 R1 F P o=>?_⟩
 obtain ⟨v',d',b1,b2,b3⟩:=P.env.at_ i _ (aV h2)
 rw [a1] at b1
 cases b1
 rw [hd] at b2
 cases b2
 obtain ⟨l,vs,el,hl,hr,F',hf',ow⟩:=b3.dict1 (by decide)
 rw [pN hq] at h3
 rcases ow.look q with ⟨t'',w,c1,c2,c3⟩ | ⟨z,_⟩
 ·rw [h3] at c1
  cases c1
  refine ⟨l,w,el,?_,k w H1 R1 NoA (P.less fun _ z=>z.elim) ?_⟩
  ·rw [← c2,pf hq o]
   exact DGet.k hl
  ·exact Ow.any0 _ (Ow.grow (fun a z=>z.imp id fun z=>z.elim (fun z=>False.elim z) Or.inr) _ (fun _ z=>z) c3)
 ·rw [h3] at z; cases z
theorem wB {x:Str} (hu:X.A.units+1 < cLine) (hN:X.N[i]?=some x) (hv:Vis X.env.scope x) (h1:ds1[i]?=some 1) (hi:PE X k (tF K p ds ds1 d1 f)) (hs:sT k) (hd:(x == ("__debug__" : Str))=false) (hcd:(x == ("__classdict__" : Str))=false) :
  PE X (.Subscript (.Name x px) k pos) (tF K p ds ds1 0 (bD i f)):=(CO hu (cM hN hv hd hcd) hi hs).imp fun _ _ _=>DT h1
def de (i:Nat) (fk fe:ME):MS:=fun en=>(fe en).bind fun r=>match (r.2[i]?).join with
 | some _=>(fk r.2).bind fun q=>match (q.2[i]?).join with
  | some (.dict ks)=>(kOf q.1).bind fun _=>if ks.length < sizeLine then some (.nx (q.2.set i (some (.dict (ng ks q.1 r.1))))) else none
  | _=>none
 | none=>none
theorem Dp (hd:ds2[i]?=some 1) (h:tFS K J ds ds2 (de i fk fe) Dn σ H):B6 (fh i) (tF K false ds1 ds2 d2 fk) (tF K false ds ds1 0 fe) Dn σ H:=by
 obtain ⟨Ox,en,R,fl,e,hf,k⟩:=h
 unfold de at hf
 obtain ⟨⟨t1,en1⟩,h1,hf⟩:=Option.bind_eq_some_iff.mp hf
 dsimp only at hf
 split at hf
 case h_2=>cases hf
 next tt h0 =>
 obtain ⟨⟨t2,en2⟩,h2,hf⟩:=Option.bind_eq_some_iff.mp hf
 dsimp only at hf
 split at hf
 case h_2=>cases hf
 next ks h3 =>
 obtain ⟨q,hq,hf⟩:=Option.bind_eq_some_iff.mp hf
 by_cases hlen:ks.length < sizeLine
 case neg=>rw [if_neg hlen] at hf; cases hf
 rw [if_pos hlen] at hf
 cases hf
 refine ⟨Ox,en,R,t1,en1,e,h1,fun x H1 R1 F1 P1 o1=>?_⟩
 obtain ⟨v0,d0,a1,_,_⟩:=P1.env.at_ i tt (aV h0)
 refine ⟨v0,a1,?_⟩
 refine ⟨U F1 Ox,en1,R1,t2,en2,P1.env,h2,fun y H2 R2 F2 P2 o2=>?_⟩
 have P:=P1.trans P2
 have o1':=Ow.over P1.env P2 o1
 have w1:=Ow.letgo P (fun _=>.inl) o1'
 obtain ⟨v',d',b1,b2,b3⟩:=P.env.at_ i _ (aV h3)
 rw [a1] at b1
 cases b1
 rw [hd] at b2
 cases b2
 obtain ⟨l,vs,el,hl,hr,F',hf',ow⟩:=b3.dict1 (by decide)
 have eq:=pf hq o2
 subst eq
 refine ⟨l,_,el,DPut.k hl (by rw [ow.len]; exact hlen),?_⟩
 have hi:i < en2.length:=(List.getElem?_eq_some_iff.mp (aV h3)).1
 have gG:∀ a,(fun a=>R2 i a) a→R2 i a∨U F1 F2 a:=fun a z=>.inl z
 have sub:=jf (i:=i) (R1:=R2) (Ox:=Ox) (G:=fun a=>R2 i a) (F':=NoA) (F:=U F1 F2) gG (fun _ z=>z.elim)
 have Ol:Own R2 (U (U F1 F2) Ox) l:=.inl ⟨i,hr⟩
 have PS:=P.slot (G:=fun a=>R2 i a) (F':=NoA) (o2:=.dK (cH vs q x)) (t:=.dict (ng ks t2 t1)) hr hi a1 hd gG (fun _ z=>z.elim) (fun _ _ z=>z) ?_
 ·exact k σ _ _ PS.s
 refine ⟨l,cH vs q x,el,.inr (.inl ⟨by decide,aN,hr,NoA,fun _ z=>z.elim,?_⟩)⟩
 rw [pN hq]
 refine Owd.put0 (Owd.past sub Ol (fun _ z=>z.elim) (Owd.any0 ks ow)) ?_
 refine Ow.past (O:=Own R2 Ox) (fun a z=>?_) (.inl ⟨i,hr⟩) (fun _ z=>z.elim) w1
 rcases z with ⟨j,z⟩ | z | z
 ·by_cases hj:j=i
  ·rw [if_pos hj] at z; exact .inl ⟨i,z⟩
  ·rw [if_neg hj] at z; exact .inl ⟨j,z⟩
 ·exact z.elim
 ·exact .inr z
theorem wf {x:Str} (hu:X.A.units+1 < cLine) (hN:X.N[i]?=some x) (hv:Vis X.env.scope x) (he:PE X e (tF K false ds ds1 0 fe)) (hk:PE X k (tF K false ds1 ds2 d2 fk)) (h1:ds2[i]?=some 1)
  (hdb:(x == ("__debug__" : Str))=false) (hcd:(x == ("__classdict__" : Str))=false) (hs:swapsWith e (some (.Subscript (.Name x px) k spos)) pos.line X.env=pure false) :
  PS X (.Assign [.Subscript (.Name x px) k spos] e pos) (tFS K J ds ds2 (de i fk fe)):=(CF hu (cM hN hv hdb hcd) hk he hs).imp fun _ _ _=>Dp h1
end
end L2
namespace L2
open PySem PySem.Spec PyProof.Rows
def evP:List (ME × ME)→En→Option (List (D × D) × En)
 | [],en=>some ([],en)
 | (fk,fv) :: r,en=>(fk en).bind fun x=>(fv x.2).bind fun y=>(evP r y.2).bind fun z=>(kOf x.1).map fun _=>((x.1,y.1) :: z.1,z.2)
def GJ (ks:List (D × D)):List (D × D):=ks.foldl (fun acc kv=>ng acc kv.1 kv.2) []
def kR (fs:List (ME × ME)):ME:=fun en=>(evP fs en).bind fun r=>if r.1.length≤15 then some (.dict (GJ r.1),r.2) else none
def OwP (K:PySem.W.Frag) (O:AS) (H:Hp):List (D × D)→List (V × V)→Prop
 | [],ps=>ps=[]
 | (k,t) :: r,ps=>∃ q v s,ps=(kV q,v) :: s∧k=kD q∧Ow K O H t 0 v NoA∧OwP K O H r s
section
variable {X:Cx} {K:PySem.W.Frag} {p:Bool} {J:Jd} {ds ds0 ds1 ds2 ds':List Nat} {d d' d1 d2:Nat} {a b c e o k:Expr} {es:List Expr} {f f1 f2 fk fe:ME} {fa:MA} {sh:Sh} {pos px spos:Pos} {i j:Nat} {σ:St} {H:Hp} {Q:VK} {Dn:Ends}
theorem OwP.mv {O O':AS} {H H':Hp} (m:Mv O O' NoA H H'):∀ {ks:List (D × D)} {ps:List (V × V)},OwP K O H ks ps→OwP K O' H' ks ps
 | [],_,h=>h
 | (k,t) :: r,_,h=>by
  obtain ⟨q,v,s,e1,e2,o,h⟩:=h
  exact ⟨q,v,s,e1,e2,Ow.mv m t (fun _ z=>z) o,OwP.mv m h⟩
def trs (K:PySem.W.Frag) (p:Bool) (ds:List Nat) (fs:List (ME × ME)):List (TE × TE):=fs.map fun q=>(tF K p ds ds 3 q.1,tF K p ds ds 0 q.2)
theorem CH {R R1:Nat→AS} {Ox:AS} {en en1:En} {H1:Hp} {F:AS} (P:Post K p ds1 Ox σ H en R en1 H1 R1 F):Mv (Own R Ox) (Own R1 Ox) NoA H H1:=by
 refine ⟨fun a o q z=>P.keep a o q fun i zi=>?_,fun a z=>?_⟩
 ·rcases z with z | z
  ·exact z (.inl ⟨i,zi⟩)
  ·exact z
 ·rcases z with z | z
  ·exact (P.own a (.inr z)).imp .inl id
  ·exact .inl (.inr z)
theorem rj:∀ {fs:List (ME × ME)} {σ:St} {H:Hp} {Ox:AS} {en en':En} {R:Nat→AS} {ks:List (D × D)} {QP:List (V × V)→Hp→Prop},EnvOk K ds Ox H σ en R→evP fs en=some (ks,en') →
  (∀ ps H' R',Post K p ds Ox σ H en R en' H' R' NoA→OwP K (Own R' Ox) H' ks ps→QP ps H')→l6 (trs K p ds fs) σ H QP
 | [],σ,H,Ox,en,en',R,ks,QP,e,hf,k=>by
  cases hf
  exact k [] H R (Post.refl e) rfl
 | (fk,fv) :: r,σ,H,Ox,en,en',R,ks,QP,e,hf,k=>by
  unfold evP at hf
  obtain ⟨⟨t1,en1⟩,h1,hf⟩:=Option.bind_eq_some_iff.mp hf
  obtain ⟨⟨t2,en2⟩,h2,hf⟩:=Option.bind_eq_some_iff.mp hf
  obtain ⟨⟨ks3,en3⟩,h3,hf⟩:=Option.bind_eq_some_iff.mp hf
  obtain ⟨q,hq,hf⟩:=Option.map_eq_some_iff.mp hf
  cases hf
  refine ⟨Ox,en,R,t1,en1,e,h1,fun x H1 R1 F1 P1 o1=>?_⟩
  refine ⟨Ox,en1,R1,t2,en2,P1.env0,h2,fun y H2 R2 F2 P2 o2=>?_⟩
  refine rj P2.env0 h3 fun ps H3 R3 P3 op=>?_
  have PP:=(P1.after P2).after P3
  rw [Bool.and_self,Bool.and_self] at PP
  refine k _ H3 R3 PP ⟨q,y,ps,?_,pN hq,?_,op⟩
  ·rw [pf hq o1]
  ·exact Ow.mv (CH P3) t2 (fun _ z=>z) (Ow.letgo P2 (fun _ z=>z) o2)
theorem pD {O:AS}:∀ {ks:List (D × D)} {kvs:List (Key × V)} {acc:List (D × D)} {avs:List (Key × V)},OwP K O H ks (kvs.map fun kv=>(kV kv.1,kv.2))→Owd K O H acc 0 avs NoA→Owd K O H (ks.foldl (fun acc kv=>ng acc kv.1 kv.2) acc) 0 (fW avs kvs) NoA
 | [],kvs,acc,avs,h,ha=>by
  have:kvs=[]:=List.map_eq_nil_iff.mp h
  subst this
  exact ha
 | (k,t) :: r,kvs,acc,avs,h,ha=>by
  obtain ⟨q,v,s,e1,e2,o,h⟩:=h
  cases kvs with
  | nil=>cases e1
  | cons kv kvs =>
   rw [List.map_cons] at e1
   injection e1 with e3 e4
   injection e3 with e5 e6
   have:=GR e5
   subst this e6 e4 e2
   exact pD (ks:=r) (kvs:=kvs) h (ha.put0 o)
theorem qS {O:AS}:∀ {ks:List (D × D)} {ps:List (V × V)},OwP K O H ks ps→∃ kvs:List (Key × V),ps=kvs.map (fun kv=>(kV kv.1,kv.2))∧kvs.length=ks.length
 | [],_,h=>⟨[],h,rfl⟩
 | (k,t) :: r,_,h=>by
  obtain ⟨q,v,s,e1,e2,o,h⟩:=h
  obtain ⟨kvs,e3,e4⟩:=qS h
  exact ⟨(q,v) :: kvs,by rw [e1,e3]; rfl,by rw [List.length_cons,List.length_cons,e4]⟩
theorem HS {fs:List (ME × ME)} (h:tF K p ds ds 1 (kR fs) σ H Q):B2 (trs K p ds fs) σ H Q:=by
 obtain ⟨Ox,en,R,t,en',e,hf,k⟩:=h
 unfold kR at hf
 obtain ⟨⟨ks,en1⟩,h1,hf⟩:=Option.bind_eq_some_iff.mp hf
 by_cases hl:ks.length≤15
 case neg=>rw [if_neg hl] at hf; cases hf
 rw [if_pos hl] at hf
 cases hf
 intro l hl0
 have n0:=bK (o:=.dK []) hl0
 have P0:Post K true ds Ox σ H en R en (upd H l (.dK [])) R (fun b=>b=l):=Post.new e n0.1 n0.2
 refine rj P0.env h1 fun ps H2 R2 P op=>?_
 obtain ⟨kvs,e1,e2⟩:=qS op
 have lO:U (fun b=>b=l) Ox l:=.inl rfl
 have hl2:H2 l=some (.dK []):=P.keep l _ aN fun i z=>by
  obtain ⟨o,q⟩:=e.dom l (.inl ⟨i,z⟩)
  rw [hl0] at q
  cases q
 have nl2:∀ i,¬ R2 i l:=fun i z=>P.env.dx i l z (.inr lO)
 refine ⟨hl2,kvs,e1,by omega,?_⟩
 have PP:=P0.trans P
 rw [Bool.true_and] at PP
 have eU:U (fun b=>b=l) NoA=(fun b=>b=l):=eo fun a=>⟨fun z=>z.elim id fun z=>z.elim,.inl⟩
 rw [eU] at PP
 have keepl:∀ a o,H2 a=some o→a≠l→upd H2 l (.dK (fW [] kvs)) a=some o:=fun a o q n=>by rw [aM n]; exact q
 have OO:∀ a,Own R2 (U (fun b=>b=l) Ox) a→Own R2 (U (U (fun b=>b=l) Ox) NoA) a:=fun a z=>z.imp id .inl
 refine k (.ref l) _ R2 (fun b=>b=l) ⟨⟨fun j u hu=>?_,PP.env.dj,PP.env.dx,fun a z=>?_,PP.env.l1,PP.env.l2⟩,PP.fx,fun a o q n=>?_,PP.own,fun a o q=>?_,fun hp=>?_⟩ ⟨l,_,rfl,.inr (.inl ⟨by decide,aN,rfl,NoA,fun _ z=>z.elim,?_⟩)⟩
 ·obtain ⟨v',d',g1,g2,g3⟩:=PP.env.at_ j u hu
  refine ⟨v',d',g1,g2,Ow.mv (G:=R2 j) ⟨fun a o q z=>keepl a o q fun za=>?_,fun a z=>.inl z⟩ u (fun _ z=>z) g3⟩
  subst za
  rcases z with z | z
  ·exact z (.inr lO)
  ·exact nl2 j z
 ·by_cases ha:a=l
  ·subst ha; exact ⟨_,aN⟩
  ·obtain ⟨o,q⟩:=PP.env.dom a z
   exact ⟨o,keepl a o q ha⟩
 ·refine keepl a o (PP.keep a o q n) fun za=>?_
  subst za
  rw [hl0] at q
  cases q
 ·obtain ⟨o',q'⟩:=PP.dom a o q
  by_cases ha:a=l
  ·subst ha; exact ⟨_,aN⟩
  ·exact ⟨o',keepl a o' q' ha⟩
 ·obtain ⟨b1,b2,b3⟩:=PP.pure hp
  refine ⟨b1,b2,fun a o q=>keepl a o (b3 a o q) fun za=>?_⟩
  subst za
  rw [hl0] at q
  cases q
 ·have op2:OwP K (Own R2 (U (fun b=>b=l) Ox)) (upd H2 l (.dK (fW [] kvs))) ks (kvs.map fun kv=>(kV kv.1,kv.2)):=by
   rw [e1] at op
   refine OwP.mv ⟨fun a o q z=>keepl a o q fun za=>?_,fun a z=>.inl z⟩ op
   subst za
   rcases z with z | z
   ·exact z (.inr lO)
   ·exact z
  exact pD op2 rfl
theorem DN {keys:List (Option Expr)} {values:List Expr} {fs:List (ME × ME)} (h:PPs X pos keys values (trs K p ds fs)) (hall:keys.all (·.isSome)=true) (hl:keys.length=values.length) (h0:keys≠[]) (h15:keys.length≤15) :
  PE X (.Dict keys values pos) (tF K p ds ds 1 (kR fs)):=(CN h hall hl h0 h15).imp fun _ _ _=>HS
theorem Hm:PPs X pos [] [] (trs K p ds []):=CG
theorem Dw {k v:Expr} {ks:List (Option Expr)} {vs:List Expr} {fk fv:ME} {fs:List (ME × ME)} (hk:PE X k (tF K p ds ds 3 fk)) (hv:PE X v (tF K p ds ds 0 fv)) (hr:PPs X pos ks vs (trs K p ds fs)):PPs X pos (some k :: ks) (v :: vs) (trs K p ds ((fk,fv) :: fs)):=vp hk hv hr
def J2 (i j:Nat) (fa:MA):MS:=fun en=>(fa en).bind fun r=>match r.1 with
 | [.inl a,.inl b]=>some (.nx ((r.2.set i (some a)).set j (some b)))
 | _=>none
end
open Classical in
noncomputable def vH:D→D→Option D:=fw fun a b=>if IntMulOk a b then some (.int (a * b)) else none
def oE:D→D→Option D:=fw fun a b=>if b≠0∧Builtin.divisionGoesByPylong a b=false then some (.int (a.fdiv b)) else none
section
variable {X:Cx} {K:PySem.W.Frag}
theorem op_mulB:OpR X (binaryOp .Mult) (rI (fun a b=>IntMulOk a b) fun i j=>.int (i * j)):=opI fun _ _ _ _ _ _ _ hc q=>mul_int q hc
theorem DA:OpR X (binaryOp .Mult) (rF2 K vH 3):=op_mulB.imp fun x y H Q ⟨O,a,b,t,oa,ob,hd,hg,k⟩=>by
 obtain ⟨i,j,rfl,rfl,h⟩:=b8 hg
 by_cases hc:IntMulOk i j
 ·rw [if_pos hc] at h; cases h; exact ⟨i,j,oa,ob,hc,k _ H NoA .refl rfl⟩
 ·rw [if_neg hc] at h; cases h
theorem op_fdivB:OpR X (binaryOp .FloorDiv) (rI (fun a b=>b≠0∧Builtin.divisionGoesByPylong a b=false) fun i j=>.int (i.fdiv j)):=opI fun _ _ _ _ _ _ _ hc q=>floordiv_int hc.1 q (.inl hc.2)
theorem pV:OpR X (binaryOp .FloorDiv) (rF2 K oE 3):=op_fdivB.imp fun x y H Q ⟨O,a,b,t,oa,ob,hd,hg,k⟩=>by
 obtain ⟨i,j,rfl,rfl,h⟩:=b8 hg
 by_cases hc:j≠0∧Builtin.divisionGoesByPylong i j=false
 ·rw [if_pos hc] at h; cases h; exact ⟨i,j,oa,ob,hc,k _ H NoA .refl rfl⟩
 ·rw [if_neg hc] at h; cases h
end
end L2
namespace L2
open PySem PySem.Spec PyProof.Rows
section
variable {X:Cx} {K:PySem.W.Frag} {O:AS} {H:Hp} {ts us:List D} {vs ws:List V} {x y:V} {d:Nat} {Q:VK}
def Io (K:PySem.W.Frag):List V→Hp→VK→Prop:=fun xs H Q=>∃ (p:Addr) (ns:List Int),xs=[.ref p]∧SqL K H p (ns.map V.int)∧Q (.int ns.sum) H
theorem uX (hc:X.calm=true):CallR X (.builtin "sum") (Io X.K):=by
 intro pins s σ H xs us Q I r h
 obtain ⟨p,ns,rfl,hp,q⟩:=h
 obtain ⟨u,rfl,ru⟩:=dA r
 cases ru
 obtain ⟨its,rv,pl,hz⟩:=I.list hp
 have hl:its.length=ns.length:=by rw [← rv.length,List.length_map]
 have hlt:p < s.heap.objs.size:=by
  obtain ⟨o,n,e,_⟩:=id pl
  exact Heap.lt_size e
 have hsz:its.toArray.size=ns.length:=by rw [List.size_toArray,hl]
 refine call_sum_walkAnyS (wpAny_pyIter_list pl.isList ?_)
 refine ⟨s.heap.objs.size,[s.heap.objs.size,p],[s.heap.objs.size],_,its.toArray.size,fun i v=>its.toArray[i]?=some v,_,fun i=>ns.getD i 0,rfl,(Walks.list (A:=X.A.in1) (show X.A.in1.handled=none from I.ok.hd hc) s.heap.objs.size p (Nat.ne_of_lt hlt) its.toArray).toS,?_,?_,?_,?_⟩
 ·exact ⟨⟨_,Heap.get?_push_size _ rfl,rfl,rfl⟩,pl.isList.push _⟩
 ·intro b hb
  show b < (s.heap.push _).objs.size
  rw [Heap.size_push]
  have hb':b=s.heap.objs.size∨b=p:=by simpa using hb
  rcases hb' with rfl | rfl
  ·exact Nat.lt_succ_self _
  ·exact Nat.lt_succ_of_lt hlt
 ·intro i v hv
  have hv':its[i]?=some v:=by simpa using hv
  have hi:i < ns.length:=by
   rw [← hl]
   exact (List.getElem?_eq_some_iff.mp hv').1
  obtain ⟨u,hu,ru⟩:=rv.get (i:=i) (x:=V.int ns[i]) (by rw [List.getElem?_map,List.getElem?_eq_getElem hi]; rfl)
  rw [hu] at hv'
  cases hv'
  obtain ⟨t,rfl⟩:=ru
  refine ⟨t,?_⟩
  show Value.int ns[i] t=Value.int (ns.getD i 0) t
  rw [List.getD_eq_getElem?_getD,List.getElem?_eq_getElem hi]
  rfl
 ·intro s' t' hm
  have e:preSum (fun i=>ns.getD i 0) its.toArray.size=ns.sum:=by
   rw [hsz,k7 ns ns.length (Nat.le_refl _),List.take_length]
  rw [e]
  obtain ⟨hh,g,dr,tk,os'⟩:=s'
  have e1:dr=s.drawn:=hm.drawn
  have e2:os'=s.os:=hm.os
  have e3:g=s.gens:=hm.gens
  subst e1 e2 e3
  refine ⟨.int ns.sum,H,I.kept (t':=tk) fun b o z=>hm.heap b o ?_ (Heap.get?_push_of_some _ z),⟨_,rfl⟩,q⟩
  intro z'
  have z'':b=s.heap.objs.size:=by simpa using z'
  exact Nat.ne_of_lt (Heap.lt_size z) z''
def bJ:List D→Option (List Int)
 | []=>some []
 | .int i :: r=>(bJ r).map (i :: ·)
 | _ :: _=>none
theorem gX:∀ {ts:List D} {vs:List V} {bs:List Int},Ows K O H ts 0 vs NoA→bJ ts=some bs→vs=bs.map V.int
 | [],_,_,h,hb=>by cases hb; exact h
 | .int b :: r,_,_,h,hb=>by
  obtain ⟨v,w,F1,F2,e,_,_,_,h4,h5⟩:=h
  obtain ⟨bs',h6,h7⟩:=Option.map_eq_some_iff.mp hb
  subst e h7
  rw [show v=.int b from h4,gX (Ows.any0 r h5) h6]
  rfl
 | .none :: _,_,_,_,hb=>by cases hb
 | .bool _ :: _,_,_,_,hb=>by cases hb
 | .str _ :: _,_,_,_,hb=>by cases hb
 | .list _ :: _,_,_,_,hb=>by cases hb
 | .tuple _ :: _,_,_,_,hb=>by cases hb
 | .dict _ :: _,_,_,_,hb=>by cases hb
def fj:List D→Option D
 | [.list ts]=>(bJ ts).map fun ns=>.int ns.sum
 | _=>none
theorem jb (hK:X.K=K) (hc:X.calm=true):CallR X (.builtin "sum") (rFn K fj 3):=by
 subst hK
 refine (uX hc).imp fun xs H Q ⟨O,as,t,oa,hd,hg,k⟩=>?_
 match as,hg with
 | [.list ts],hg =>
  obtain ⟨ns,h1,rfl⟩:=Option.map_eq_some_iff.mp hg
  obtain ⟨v,rfl,o⟩:=oa.one
  obtain ⟨a,vs,rfl,fz,w⟩:=o.lst0
  have e:=gX w h1
  subst e
  exact ⟨a,ns,rfl,fz.sq,k _ H NoA .refl rfl⟩
end
end L2
namespace L2
open PySem PySem.Spec PyProof.Rows
section
variable {X:Cx} {K:PySem.W.Frag} {p:Bool} {ds ds1:List Nat} {O:AS} {H:Hp} {σ:St} {d:Nat} {f:ME} {i:Nat} {e:Expr} {Q:VK}
end
end L2
namespace L2
open PySem PySem.Spec PyProof.Rows
section
variable {X:Cx} {K:PySem.W.Frag} {p:Bool} {ds ds1:List Nat} {d:Nat} {fa:MA} {sh:Sh} {O O1:AS} {H0 H:Hp} {ts us:List D} {vs ws:List V} {a b:Addr}
def iz (ts us:List D):List D:=List.zipWith (fun x y=>.tuple [x,y]) ts us
theorem GA {t u:D} {v w:V} {q:Addr} (hp:H q=none) (h3:∀ a,O1 a→∃ o,H a=some o) (ov:Ow K O1 H t 0 v NoA) (ow:Ow K O1 H u 0 w NoA):(∀ a o,H a=some o→upd H q (.tup [v,w]) a=some o)∧Ow K O1 (upd H q (.tup [v,w])) (.tuple [t,u]) 0 (.ref q) NoA:=by
 have g:=(bK (o:=.tup [v,w]) hp).1
 refine ⟨g,q,[v,w],rfl,.inl ⟨rfl,⟨aN,fun z=>?_⟩,v,[w],NoA,NoA,rfl,fun _ z=>z,fun _ z=>z,fun _ z=>z.elim,?_,w,[],NoA,NoA,rfl,fun _ z=>z,fun _ z=>z,fun _ z=>z.elim,?_,rfl⟩⟩
 ·obtain ⟨o,e⟩:=h3 q z
  rw [hp] at e
  cases e
 ·exact Ow.mv (G:=NoA) ⟨fun a o e _=>g a o e,fun a z=>.inl z⟩ t (fun _ z=>z) ov
 ·exact Ow.mv (G:=NoA) ⟨fun a o e _=>g a o e,fun a z=>.inl z⟩ u (fun _ z=>z) ow
theorem u9 (h:FzL K O H0 a vs) (ho:Ows K O H0 ts 0 vs NoA) (h':FzL K O H0 b ws) (ho':Ows K O H0 us 0 ws NoA):ku K O H0 (Itz K a b) (iz ts us):=fun i H O1 h1 h2 h3=>by
 have sq:=(h.mv (cf h1 h2)).sq
 have sq':=(h'.mv (cf h1 h2)).sq
 refine ⟨fun u hu=>?_,fun hl=>⟨vs,ws,sq,sq',?_⟩⟩
 ·unfold iz at hu
  rw [List.getElem?_zipWith] at hu
  split at hu
  case h_2=>cases hu
  next t t' ht ht' =>
  cases hu
  obtain ⟨v,hv,ov⟩:=ho.get ht
  obtain ⟨w,hw,ow⟩:=ho'.get ht'
  refine ⟨⟨vs,ws,v,w,sq,sq',hv,hw⟩,fun x H1 ⟨q,v',w',e1,hp,e2,y1,y2⟩=>?_⟩
  have e3:=y1 vs sq
  have e4:=y2 ws sq'
  rw [hv] at e3
  rw [hw] at e4
  cases e3
  cases e4
  subst e1 e2
  exact GA hp h3 (Ow.mv (cf h1 h2) t (fun _ z=>z) ov) (Ow.mv (cf h1 h2) t' (fun _ z=>z) ow)
 ·unfold iz at hl
  rw [List.length_zipWith] at hl
  rw [ho.len,ho'.len]
  omega
def mw (fa:MA):MI:=fun en=>(fa en).bind fun r=>match r.1 with
 | [.inl (.list ts),.inl (.list us)]=>some (iz ts us,r.2)
 | _=>none
theorem Hr {l m:Expr} {px pos:Pos} {elts:List Expr} {k:Nat} {tp:Pos} (hK:X.K=K) (hg:Gl X "zip") (hm:X.mg "zip"=none) (ha:PA X [l,m] (tFA K p ds ds1 sh fa)) (hs:aP l=true) (hs2:aP m=true) :
  PI X (.Tuple elts k tp) (.Call (.Name "zip" px) [l,m] [] pos) (tFI K p ds ds1 (mw fa)) :=
 (C7 hK hg hm ha (by rw [bI hs]) (by rw [bI hs2]; rfl)).imp fun σ H R ⟨Ox,en,Rg,ts,en',e,hf,k⟩=>by
  unfold mw at hf
  obtain ⟨⟨as,en1⟩,h1,hf⟩:=Option.bind_eq_some_iff.mp hf
  refine ⟨Ox,en,Rg,as,en1,e,h1,fun vs H1 R1 F P o=>?_⟩
  dsimp only at hf
  split at hf
  case h_2=>cases hf
  next t1 t2 =>
  cases hf
  obtain ⟨v,r,d,dr,F1,F2,e1,e2,s1,s2,_,o1,v2,r2,d2,dr2,G1,G2,e3,e4,s3,_,_,o2,o3⟩:=o
  obtain ⟨_,o3⟩:=o3
  subst e1 e3 o3
  have q1:=Ow.letgo P s1 o1
  have q2:=Ow.letgo P (fun b z=>s2 b (s3 b z)) o2
  obtain ⟨a,xs,f1,⟨_,fz,ow⟩ | ⟨z,_⟩⟩:=q1
  ·obtain ⟨b,ys,f2,⟨_,fz2,ow2⟩ | ⟨z,_⟩⟩:=q2
   ·subst f1 f2
    exact ⟨a,b,rfl,⟨xs,fz.sq⟩,⟨ys,fz2.sq⟩,k _ H1 R1 (P.less fun _ z=>z.elim) (u9 fz ow fz2 ow2)⟩
   ·exact absurd rfl z
  ·exact absurd rfl z
end
end L2
namespace L2
open PySem PySem.Spec PyProof.Rows
section
variable {X:Cx} {K:PySem.W.Frag} {p:Bool} {ds ds1:List Nat} {d1:Nat} {e:Expr} {f:ME}
end
end L2
namespace L2
open PySem PySem.Spec PyProof.Rows
section
variable {X:Cx} {K:PySem.W.Frag} {p p1 p2:Bool} {ds ds1 ds2:List Nat} {d d1:Nat} {e:Expr} {f:ME} {fa:MA} {sh:Sh} {σ:St} {H:Hp} {Q:VK}
def eM (g:Str→List D→Option D) (f:ME) (fa:MA):ME:=fun en=>(f en).bind fun r=>match r.1 with
 | .str z=>(fa r.2).bind fun q=>(vals q.1).bind fun ts=>(g z ts).map fun t=>(t,q.2)
 | _=>none
structure MtF (K:PySem.W.Frag) (r:V→List V→Hp→VK→Prop) (g:Str→List D→Option D):Prop where
 h:∀ {O:AS} {H:Hp} {z:Str} {ts:List D} {xs:List V} {t:D} {Q:VK},Ows K O H ts 0 xs NoA→g z ts=some t→(∀ v,Ow K O H t 3 v NoA→Q v H)→r (.str z) xs H Q
theorem HP {r:V→List V→Hp→VK→Prop} {g:Str→List D→Option D} (hr:MtF K r g) (hs:ci 0 sh=true) (h:tF K (p1 && p2) ds ds2 3 (eM g f fa) σ H Q):tBM K "str" r (tF K p1 ds ds1 d1 f) (tFA K p2 ds1 ds2 sh fa) σ H Q:=by
 obtain ⟨Ox,en,R,t,en',e,hf,k⟩:=h
 unfold eM at hf
 obtain ⟨⟨t1,en1⟩,h1,hf⟩:=Option.bind_eq_some_iff.mp hf
 dsimp only at hf
 split at hf
 case h_2=>cases hf
 next z =>
 obtain ⟨⟨as,en2⟩,h2,hf⟩:=Option.bind_eq_some_iff.mp hf
 obtain ⟨ts,h3,hf⟩:=Option.bind_eq_some_iff.mp hf
 obtain ⟨t',h4,hf⟩:=Option.map_eq_some_iff.mp hf
 cases hf
 refine ⟨Ox,en,R,.str z,en1,e,h1,fun x H1 R1 F1 P1 o1=>?_⟩
 have ex:x=.str z:=o1
 subst ex
 refine ⟨rfl,Ox,en1,R1,as,en2,P1.env0,h2,fun vs H2 R2 F P2 o=>?_⟩
 have P:=P1.after P2
 obtain ⟨F',s1,s2⟩:=OwA.ows hs h3 o
 have o2:Ows K (Own R2 Ox) H2 ts 0 vs F':=s2 _ (fun a z=>z.imp id .inr) fun a z z2=>by
  rcases z2 with ⟨i,z2⟩ | z2
  ·exact absurd (.inl z) (P.env.dx i a z2)
  ·exact absurd z2 (P.fx a z)
 refine hr.h (Ows.any0 ts o2) h4 fun v ov=>k v H2 R2 NoA (P.less fun _ z=>z.elim) ?_
 rw [gk]
 exact ov
def joinD:Str→List D→Option D
 | sep,[.list ts]=>(strsOf ts).bind fun ys=>if sep.length≤16∧(ys.map (·.length)).sum+ys.length≤1048576 then some (.str (Txt.join sep ys)) else none
 | sep,[.tuple ts]=>(strsOf ts).bind fun ys=>if sep.length≤16∧(ys.map (·.length)).sum+ys.length≤1048576 then some (.str (Txt.join sep ys)) else none
 | _,_=>none
where strsOf:List D→Option (List Str)
 | []=>some []
 | .str z :: r=>(strsOf r).map (z :: ·)
 | _ :: _=>none
theorem lA {O:AS}:∀ {ts:List D} {ys:List Str} {xs:List V},joinD.strsOf ts=some ys→Ows K O H ts 0 xs NoA→xs=ys.map V.str
 | [],ys,xs,h,o=>by
  cases h
  exact o
 | t :: ts,ys,xs,h,o=>by
  obtain ⟨v,r,F1,F2,e,_,_,_,h4,h5⟩:=o
  cases t with
  | str z =>
   obtain ⟨ys',h6,rfl⟩:=Option.map_eq_some_iff.mp h
   have e4:v=.str z:=h4
   rw [e,e4,lA h6 (Ows.any0 ts h5)]
   rfl
  | _=>cases h
theorem gM:MtF K (B9 K) joinD where
 h:=fun {O H z ts xs t Q} o hg q=>by
  unfold joinD at hg
  split at hg
  ·next us =>
   obtain ⟨ys,h1,h2⟩:=Option.bind_eq_some_iff.mp hg
   by_cases hc:z.length≤16∧(ys.map (·.length)).sum+ys.length≤1048576
   case neg=>rw [if_neg hc] at h2; cases h2
   rw [if_pos hc] at h2
   cases h2
   obtain ⟨v,r,F1,F2,e,_,_,_,h4,h5⟩:=o
   have e5:r=[]:=h5
   subst e5 e
   obtain ⟨a,vs,rfl,fz,w⟩:=(Ow.any0 _ h4).lst0
   have e6:=lA h1 w
   subst e6
   exact ⟨z,ys,a,rfl,rfl,.inl fz.sq,hc.1,hc.2,q _ rfl⟩
  ·next us =>
   obtain ⟨ys,h1,h2⟩:=Option.bind_eq_some_iff.mp hg
   by_cases hc:z.length≤16∧(ys.map (·.length)).sum+ys.length≤1048576
   case neg=>rw [if_neg hc] at h2; cases h2
   rw [if_pos hc] at h2
   cases h2
   obtain ⟨v,r,F1,F2,e,_,_,_,h4,h5⟩:=o
   have e5:r=[]:=h5
   subst e5 e
   obtain ⟨a,vs,rfl,fz,w⟩:=(Ow.any0 _ h4).tup0
   have e6:=lA h1 w
   subst e6
   exact ⟨z,ys,a,rfl,rfl,.inr fz.sq,hc.1,hc.2,q _ rfl⟩
  ·cases hg
def JK:Str→List D→Option D
 | z,[.str y]=>some (.bool (Txt.startswith z y))
 | _,_=>none
def JY:Str→List D→Option D
 | z,[.str y]=>some (.bool (Txt.endswith z y))
 | _,_=>none
def i8:Str→List D→Option D
 | z,[.str y]=>match Builtin.Str.occurrences z y 0 z.length 1 with
  | i :: _=>some (.int (i:Nat))
  | []=>none
 | _,_=>none
theorem vz {O:AS} {y:Str} {xs:List V} (o:Ows K O H [.str y] 0 xs NoA):xs=[.str y]:=by
 obtain ⟨v,r,F1,F2,e,_,_,_,h4,h5⟩:=o
 have e4:v=.str y:=h4
 have e5:r=[]:=h5
 rw [e,e4,e5]
theorem pW:MtF K tN i8 where
 h:=fun {O H z ts xs t Q} o hg q=>by
  unfold i8 at hg
  split at hg
  ·next y =>
   split at hg
   ·next i rest he =>
    cases hg
    exact ⟨z,y,i,rest,rfl,vz o,he,q _ rfl⟩
   ·cases hg
  ·cases hg
theorem DK {o:Expr} {es:List Expr} {name:Str} {id:String} {apos cpos:Pos} {r:V→List V→Hp→VK→Prop} {g:Str→List D→Option D} (hK:X.K=K) (slot:Slot "str" name id) (hty:typeOf (.builtin id)=pure (.type "method_descriptor")) (hm:MtR X id r) (hr:MtF K r g) (ho:PE X o (tF K p ds ds1 d1 f)) (ha:PA X (e :: es) (tFA K p ds1 ds2 sh fa))
  (hsh:ci 0 sh=true) (hbase:attributeBase o name X.env (eval o X.env)=eval o X.env)
  (hfew:((backTo cpos (starEach (e :: es) X.env)).all (fun x=>!x.1) && (backToKw cpos (keywordEach [] X.env)).all (fun x=>x.1.isSome)
   && decide ((e :: es).length+([]:List Keyword).length+(if ([]:List Keyword).isEmpty then 0 else 1) < 30))=true)
  (hline:(apos.endLine == cpos.line)=true) (hs:starEach (e :: es) X.env=(false,eval e X.env) :: starEach es X.env) (hplain:(backTo cpos (starEach es X.env)).any (·.1)=false) :
  PE X (.Call (.Attribute o name apos) (e :: es) [] cpos) (tF K p ds ds2 3 (eM g f fa)):=by
 subst hK
 exact (rT PySem.F.plainAttrs_str slot hty hm ho ha hbase hfew hline hs hplain).imp fun _ _ _ h=>HP hr hsh (by rw [Bool.and_self]; exact h)
end
end L2
namespace L2
open PySem PySem.Spec PyProof.Rows
section
variable {X:Cx} {K:PySem.W.Frag} {pins:List (Addr × Obj)} {σ:St} {H:Hp} {s:Shared} {O:AS}
end
section
open PySem.SeqAt Classical
variable {X:Cx} {K:PySem.W.Frag} {pins:List (Addr × Obj)} {σ:St} {H:Hp} {s:Shared} {O:AS}
end
end L2
namespace L2
open PySem PySem.Spec PyProof.Rows
def dns:Nat→Nat→Nat
 | 0,d=>d
 | m+1,d=>dns m (dn d)
theorem qa:∀ m,dns m 0=0
 | 0=>rfl
 | m+1=>qa m
theorem uT {m d:Nat} (h:dns m d≠0):d≠0:=fun z=>h (by rw [z]; exact qa m)
def cz:D→List Nat→Option D
 | t,[]=>some t
 | .list ts,k :: π=>(ts[k]?).bind fun u=>cz u π
 | .tuple ts,k :: π=>(ts[k]?).bind fun u=>cz u π
 | _,_ :: _=>none
def cP:D→List Nat→D→D
 | _,[],u=>u
 | .list ts,k :: π,u=>.list (ts.set k ((ts[k]?).elim .none fun c=>cP c π u))
 | .tuple ts,k :: π,u=>.tuple (ts.set k ((ts[k]?).elim .none fun c=>cP c π u))
 | t,_ :: _,_=>t
def PathV (H:Hp):V→List Nat→V→Prop
 | v,[],w=>v=w
 | v,k :: π,w=>∃ a vs u,v=.ref a∧(H a=some (.lst vs)∨H a=some (.tup vs))∧vs[k]?=some u∧PathV H u π w
theorem PathV.mono {H H':Hp} (hk:∀ a o,H a=some o→H' a=some o):∀ {π:List Nat} {v w:V},PathV H v π w→PathV H' v π w
 | [],_,_,h=>h
 | _ :: _,_,_,⟨a,vs,u,e,h1,h2,h3⟩=>⟨a,vs,u,e,h1.imp (hk _ _) (hk _ _),h2,h3.mono hk⟩
theorem PathV.det {H:Hp}:∀ {π:List Nat} {v w w':V},PathV H v π w→PathV H v π w'→w=w'
 | [],_,_,_,h,g=>h.symm.trans g
 | _ :: _,_,_,_,⟨a,vs,u,e,h1,h2,h3⟩,⟨a',vs',u',e',g1,g2,g3⟩=>by
  rw [e] at e'
  cases e'
  have:vs=vs':=by
   rcases h1 with h1 | h1 <;> rcases g1 with g1 | g1 <;> rw [h1] at g1 <;> cases g1 <;> rfl
  subst this
  rw [h2] at g2
  cases g2
  exact h3.det g3
theorem PathV.snoc {H:Hp} {a:Addr} {vs:List V} {u:V} {k:Nat} (h1:H a=some (.lst vs)∨H a=some (.tup vs)) (h2:vs[k]?=some u):∀ {π:List Nat} {v:V},PathV H v π (.ref a)→PathV H v (π++[k]) u
 | [],_,h=>⟨a,vs,u,h,h1,h2,rfl⟩
 | _ :: _,_,⟨a',vs',u',e,g1,g2,g3⟩=>⟨a',vs',u',e,g1,g2,PathV.snoc h1 h2 g3⟩
section
variable {K:PySem.W.Frag} {O:AS} {H:Hp}
theorem Ows.zoom {d:Nat}:∀ {ts:List D} {vs:List V} {F:AS} {k:Nat} {u:D},Ows K O H ts d vs F→ts[k]?=some u →
  ∃ w,∃ F1 F2:AS,vs[k]?=some w∧(∀ b,F1 b→F b)∧(∀ b,F2 b→F b)∧(∀ b,F1 b→¬ F2 b)∧Ow K O H u d w F1 ∧
   ∀ (O':AS) (H':Hp) (u':D) (G:AS),Mv O O' F2 H H'→(∀ b,G b→¬ F2 b)→Ow K O' H' u' d w G→Ows K O' H' (ts.set k u') d vs (fun b=>F2 b∨G b)
 | [],_,_,k,u,_,h=>by simp at h
 | t :: ts,_,F,k,u,h,hk=>by
  obtain ⟨v,r,F1,F2,e,s1,s2,s3,h4,h5⟩:=h
  subst e
  cases k with
  | zero =>
   have:t=u:=by simpa using hk
   subst this
   refine ⟨v,F1,F2,rfl,s1,s2,s3,h4,fun O' H' u' G m hd o=>?_⟩
   exact ⟨v,r,G,F2,rfl,fun _ z=>.inr z,fun _ z=>.inl z,hd,o,Ows.mv m ts (fun _ z=>z) h5⟩
  | succ k =>
   obtain ⟨w,G1,G2,g1,g2,g3,g4,g5,g6⟩:=Ows.zoom (k:=k) h5 (by simpa using hk)
   refine ⟨w,G1,fun b=>F1 b∨G2 b,by simpa using g1,fun b z=>s2 b (g2 b z),fun b z=>z.elim (s1 b) fun z=>s2 b (g3 b z),fun b z z2=>?_,g5,fun O' H' u' G m hd o=>?_⟩
   ·rcases z2 with z2 | z2
    ·exact s3 b z2 (g2 b z)
    ·exact g4 b z z2
   ·refine ⟨v,r,F1,fun b=>G2 b∨G b,rfl,fun b z=>.inl (.inl z),fun b z=>z.imp .inr id,fun b z z2=>?_,Ow.mv ⟨m.k,m.o⟩ t (fun b z=>.inl z) h4,g6 O' H' u' G ⟨fun a o q z=>m.k a o q (z.imp id .inr),m.o⟩ (fun b z z2=>hd b z (.inr z2)) o⟩
    rcases z2 with z2 | z2
    ·exact s3 b z (g3 b z2)
    ·exact hd b z2 (.inl z)
theorem Ow.zoom:∀ {π:List Nat} {t u:D} {d:Nat} {v:V} {F:AS},Ow K O H t d v F→cz t π=some u→dns π.length d≠0 →
  ∃ w,∃ F1 Fr:AS,PathV H v π w∧(∀ b,F1 b→F b)∧(∀ b,Fr b→F b)∧(∀ b,F1 b→¬ Fr b)∧Ow K O H u (dns π.length d) w F1 ∧
   ∀ (O':AS) (H':Hp) (u':D) (G:AS),Mv O O' Fr H H'→(∀ b,G b→¬ Fr b)→Ow K O' H' u' (dns π.length d) w G→Ow K O' H' (cP t π u') d v (fun b=>Fr b∨G b)
 | [],t,u,d,v,F,h,hp,hz=>by
  cases hp
  refine ⟨v,F,NoA,rfl,fun _ z=>z,fun _ z=>z.elim,fun _ _ z=>z,h,fun O' H' u' G m hd o=>?_⟩
  have e:(fun b=>NoA b∨G b)=G:=eo fun b=>⟨fun z=>z.elim (fun z=>z.elim) id,.inr⟩
  rw [e]
  exact o
 | k :: π,t,u,d,v,F,h,hp,hz=>by
  have hz1:dns π.length (dn d)≠0:=hz
  have hd0:d≠0:=uT (m:=π.length+1) hz
  cases t with
  | list ts =>
   obtain ⟨c,p1,p2⟩:=Option.bind_eq_some_iff.mp hp
   obtain ⟨a,vs,e,⟨h0,_⟩ | ⟨_,h1,h2,F',hf,h3⟩⟩:=h
   ·exact absurd h0 hd0
   obtain ⟨w,G1,G2,g1,g2,g3,g4,g5,g6⟩:=h3.zoom p1
   obtain ⟨w2,F1,Fr,q1,q2,q3,q4,q5,q6⟩:=Ow.zoom g5 p2 hz1
   refine ⟨w2,F1,fun b=>b=a∨G2 b∨Fr b,⟨a,vs,w,e,.inl h1,g1,q1⟩,fun b z=>(hf b (g2 b (q2 b z))).1,fun b z=>?_,fun b z z2=>?_,q5,fun O' H' u' G m hd o=>?_⟩
   ·rcases z with z | z | z
    ·rw [z]; exact h2
    ·exact (hf b (g3 b z)).1
    ·exact (hf b (g2 b (q3 b z))).1
   ·rcases z2 with z2 | z2 | z2
    ·exact (hf b (g2 b (q2 b z))).2 z2
    ·exact g4 b (q2 b z) z2
    ·exact q4 b z z2
   ·have o1:=q6 O' H' u' G ⟨fun x y q z=>m.k x y q (z.imp id fun z=>.inr (.inr z)),m.o⟩ (fun b z z2=>hd b z (.inr (.inr z2))) o
    have o2:=g6 O' H' (cP c π u') (fun b=>Fr b∨G b) ⟨fun x y q z=>m.k x y q (z.imp id fun z=>.inr (.inl z)),m.o⟩ (fun b z z2=>?_) o1
    ·refine ⟨a,vs,e,.inr ⟨hd0,m.k _ _ h1 (.inr (.inl rfl)),.inl (.inl rfl),fun b=>G2 b∨Fr b∨G b,fun b z=>?_,?_⟩⟩
     ·rcases z with z | z | z
      ·exact ⟨.inl (.inr (.inl z)),(hf b (g3 b z)).2⟩
      ·exact ⟨.inl (.inr (.inr z)),(hf b (g2 b (q3 b z))).2⟩
      ·exact ⟨.inr z,fun ze=>hd b z (.inl ze)⟩
     ·rw [p1]
      exact o2
    ·rcases z with z | z
     ·exact g4 b (q3 b z) z2
     ·exact hd b z (.inr (.inl z2))
  | tuple ts =>
   obtain ⟨c,p1,p2⟩:=Option.bind_eq_some_iff.mp hp
   obtain ⟨a,vs,e,⟨h0,_⟩ | ⟨_,h1,h2,F',hf,h3⟩⟩:=h
   ·exact absurd h0 hd0
   obtain ⟨w,G1,G2,g1,g2,g3,g4,g5,g6⟩:=h3.zoom p1
   obtain ⟨w2,F1,Fr,q1,q2,q3,q4,q5,q6⟩:=Ow.zoom g5 p2 hz1
   refine ⟨w2,F1,fun b=>b=a∨G2 b∨Fr b,⟨a,vs,w,e,.inr h1,g1,q1⟩,fun b z=>(hf b (g2 b (q2 b z))).1,fun b z=>?_,fun b z z2=>?_,q5,fun O' H' u' G m hd o=>?_⟩
   ·rcases z with z | z | z
    ·rw [z]; exact h2
    ·exact (hf b (g3 b z)).1
    ·exact (hf b (g2 b (q3 b z))).1
   ·rcases z2 with z2 | z2 | z2
    ·exact (hf b (g2 b (q2 b z))).2 z2
    ·exact g4 b (q2 b z) z2
    ·exact q4 b z z2
   ·have o1:=q6 O' H' u' G ⟨fun x y q z=>m.k x y q (z.imp id fun z=>.inr (.inr z)),m.o⟩ (fun b z z2=>hd b z (.inr (.inr z2))) o
    have o2:=g6 O' H' (cP c π u') (fun b=>Fr b∨G b) ⟨fun x y q z=>m.k x y q (z.imp id fun z=>.inr (.inl z)),m.o⟩ (fun b z z2=>?_) o1
    ·refine ⟨a,vs,e,.inr ⟨hd0,m.k _ _ h1 (.inr (.inl rfl)),.inl (.inl rfl),fun b=>G2 b∨Fr b∨G b,fun b z=>?_,?_⟩⟩
     ·rcases z with z | z | z
      ·exact ⟨.inl (.inr (.inl z)),(hf b (g3 b z)).2⟩
      ·exact ⟨.inl (.inr (.inr z)),(hf b (g2 b (q3 b z))).2⟩
      ·exact ⟨.inr z,fun ze=>hd b z (.inl ze)⟩
     ·rw [p1]
      exact o2
    ·rcases z with z | z
     ·exact g4 b (q3 b z) z2
     ·exact hd b z (.inr (.inl z2))
  | _=>cases hp
end
abbrev MP:=En→Option (List Nat × En)
def tP (K:PySem.W.Frag) (p:Bool) (ds ds':List Nat) (i m:Nat) (mp:MP):TE:=fun σ H Q =>
 ∃ Ox en R π en',EnvOk K ds Ox H σ en R∧mp en=some (π,en')∧∀ v w H' R',Post K p ds' Ox σ H en R en' H' R' NoA→π.length=m→σ[i]?=some (some v)→PathV H' v π w→Q w H'
def m5 (i:Nat):MP:=fun en=>((en[i]?).join).map fun _=>([],en)
def pIx (i:Nat) (mp:MP) (f:ME):MP:=fun en=>(mp en).bind fun r=>(f r.2).bind fun q=>match q.1,(q.2[i]?).join with
 | .int n,some t=>(cz t r.1).bind fun u=>match u with
  | .list ts=>(ixN ts.length n).bind fun k=>if k < ts.length then some (r.1++[k],q.2) else none
  | .tuple ts=>(ixN ts.length n).bind fun k=>if k < ts.length then some (r.1++[k],q.2) else none
  | _=>none
 | _,_=>none
section
variable {X:Cx} {K:PySem.W.Frag} {p p1 p2:Bool} {J:Jd} {ds ds1 ds2:List Nat} {H:Hp} {σ:St} {d d1 d2 i m:Nat} {f fk fe:ME} {mp:MP} {e b o:Expr} {Q:VK}
theorem HQ (h:tP K true ds ds i 0 (m5 i) σ H Q):fh i σ H Q:=by
 obtain ⟨Ox,en,R,π,en',e,hf,k⟩:=h
 unfold m5 at hf
 obtain ⟨t,h1,h2⟩:=Option.map_eq_some_iff.mp hf
 cases h2
 obtain ⟨v,d,a1,_,_⟩:=e.at_ i t (aV h1)
 exact ⟨v,a1,k v v H R (Post.refl e) rfl a1 rfl⟩
theorem IY (hpu:p2=true∨m=0) (hd:ds2[i]?=some d) (hz:dns m d≠0) (h:tP K (p1 && p2) ds ds2 i (m+1) (pIx i mp f) σ H Q):tOp (rIx K) (tP K p1 ds ds1 i m mp) (tF K p2 ds1 ds2 d1 f) σ H Q:=by
 obtain ⟨Ox,en,R,π,en',e,hf,k⟩:=h
 unfold pIx at hf
 obtain ⟨⟨π0,en1⟩,h1,hf⟩:=Option.bind_eq_some_iff.mp hf
 obtain ⟨⟨t1,en2⟩,h2,hf⟩:=Option.bind_eq_some_iff.mp hf
 dsimp only at hf
 split at hf
 case h_2=>cases hf
 next n t h3 =>
 obtain ⟨u,h4,hf⟩:=Option.bind_eq_some_iff.mp hf
 refine ⟨Ox,en,R,π0,en1,e,h1,fun v w H1 R1 P1 hl hv pv=>?_⟩
 refine ⟨Ox,en1,R1,.int n,en2,P1.env0,h2,fun y H2 R2 F P2 o=>?_⟩
 have ey:y=.int n:=o
 subst ey
 have P:=P1.after P2
 obtain ⟨v',d',b1,b2,b3⟩:=P.env.at_ i t (aV h3)
 rw [hv] at b1
 cases b1
 rw [hd] at b2
 cases b2
 have pv2:PathV H2 v π0 w:=by
  rcases hpu with hp | hm
  ·exact pv.mono (P2.pure hp).2.2
  ·have e0:π0=[]:=List.length_eq_zero_iff.mp (hl.trans hm)
   subst e0
   exact pv
 obtain ⟨w2,F1,Fr,q1,q2,q3,q4,q5,_⟩:=b3.zoom h4 (by rw [hl]; exact hz)
 have ew:=pv2.det q1
 subst ew
 rw [hl] at q5
 cases u with
 | list ts =>
  obtain ⟨kk,h5,hf⟩:=Option.bind_eq_some_iff.mp hf
  by_cases hk:kk < ts.length
  case neg=>rw [if_neg hk] at hf; cases hf
  rw [if_pos hk] at hf
  cases hf
  obtain ⟨a,vs,ea,ha,_,F',_,ow⟩:=q5.ownL hz
  obtain ⟨x,g1,_⟩:=ow.get (List.getElem?_eq_getElem hk)
  refine .inl ⟨a,vs,n,x,ea,rfl,SqL.of ha,by unfold atI; rw [ow.len,h5]; exact g1,?_⟩
  subst ea
  exact k v x H2 R2 (P.less fun _ z=>z.elim) (by rw [List.length_append,hl]; rfl) hv (PathV.snoc (.inl ha) g1 q1)
 | tuple ts =>
  obtain ⟨kk,h5,hf⟩:=Option.bind_eq_some_iff.mp hf
  by_cases hk:kk < ts.length
  case neg=>rw [if_neg hk] at hf; cases hf
  rw [if_pos hk] at hf
  cases hf
  obtain ⟨a,vs,ea,⟨h0,_⟩ | ⟨_,ha,_,F',_,ow⟩⟩:=q5
  ·exact absurd h0 hz
  obtain ⟨x,g1,_⟩:=ow.get (List.getElem?_eq_getElem hk)
  refine .inr (.inl ⟨a,vs,n,x,ea,rfl,SqT.of ha,by unfold atI; rw [ow.len,h5]; exact g1,?_⟩)
  subst ea
  exact k v x H2 R2 (P.less fun _ z=>z.elim) (by rw [List.length_append,hl]; rfl) hv (PathV.snoc (.inr ha) g1 q1)
 | _=>cases hf
theorem Dv {x:Str} {px:Pos} (hN:X.N[i]?=some x) (hv:Vis X.env.scope x) (hd:(x == ("__debug__" : Str))=false) (hcd:(x == ("__classdict__" : Str))=false):PE X (.Name x px) (tP K true ds ds i 0 (m5 i)) :=
 (cM hN hv hd hcd).imp fun _ _ _=>HQ
theorem Hl {pos:Pos} (hK:X.K=K) (hd:ds2[i]?=some d) (ho:PE X o (tP K p1 ds ds1 i m mp)) (hb:PE X b (tF K p2 ds1 ds2 d1 f)) (hz:dns m d≠0) (hpu:p2=true∨m=0) (hs:fF b):PE X (.Subscript o b pos) (tP K (p1 && p2) ds ds2 i (m+1) (pIx i mp f)):=by
 subst hK
 exact (rR ix_seq ho hb hs).imp fun _ _ _=>IY hpu hd hz
theorem Post.place {Ox:AS} {en en1:En} {R R1:Nat→AS} {H1:Hp} {F:AS} {t:D} {π:List Nat} {ts:List D} {v w:V} (P:Post K p ds1 Ox σ H en R en1 H1 R1 F) (hi:en1[i]?=some (some t)) (hv:σ[i]?=some (some v)) (hd:ds1[i]?=some d) (hg:cz t π=some (.list ts)) (hz:dns π.length d≠0) (pv:PathV H1 v π w) :
  ∃ l vs,∃ F1:AS,w=.ref l∧H1 l=some (.lst vs)∧R1 i l∧(∀ b,F1 b→R1 i b∧b≠l)∧Ows K (Own R1 (U F Ox)) H1 ts (dn (dns π.length d)) vs F1 ∧
   ∀ (ts':List D) (vs':List V) (G:AS),(∀ b,G b→F1 b∨F b)→(∀ O',(∀ a,O' a→Own R1 (U F Ox) a)→Ows K O' (upd H1 l (.lst vs')) ts' (dn (dns π.length d)) vs' G) →
    ∃ R',Post K false ds1 Ox σ H en R (en1.set i (some (cP t π (.list ts')))) (upd H1 l (.lst vs')) R' NoA:=by
 obtain ⟨v',d',b1,b2,b3⟩:=P.env.at_ i t hi
 rw [hv] at b1
 cases b1
 rw [hd] at b2
 cases b2
 obtain ⟨w2,F1,Fr,q1,q2,q3,q4,q5,q6⟩:=b3.zoom hg hz
 have ew:=pv.det q1
 subst ew
 obtain ⟨l,vs,el,hl,hr,F',hf',ow⟩:=q5.ownL hz
 refine ⟨l,vs,F',el,hl,q2 l hr,fun b z=>⟨q2 b (hf' b z).1,(hf' b z).2⟩,ow,fun ts' vs' G hG hO=>?_⟩
 have hlen:i < en1.length:=(List.getElem?_eq_some_iff.mp hi).1
 have gl:∀ b,F b→b≠l:=fun b z ze=>by
  subst ze
  exact P.env.dx i b (q2 b hr) (.inl z)
 have gG:∀ a,(fun b=>Fr b∨(b=l∨G b)) a→R1 i a∨F a:=fun a z=>by
  rcases z with z | z | z
  ·exact .inl (q3 a z)
  ·rw [z]; exact .inl (q2 l hr)
  ·rcases hG a z with z | z
   ·exact .inl (q2 a (hf' a z).1)
   ·exact .inr z
 have sub:=jf (i:=i) (R1:=R1) (Ox:=Ox) (G:=fun b=>Fr b∨(b=l∨G b)) (F':=NoA) (F:=F) gG (fun _ z=>z.elim)
 have Ol:Own R1 (U F Ox) l:=.inl ⟨i,q2 l hr⟩
 refine ⟨_,P.slot (G:=fun b=>Fr b∨(b=l∨G b)) (q2 l hr) hlen hv hd gG (fun _ z=>z.elim) (fun _ _ z=>z) ?_⟩
 refine q6 _ _ (.list ts') (fun b=>b=l∨G b) ⟨fun a o q z=>?_,fun a z=>.inl (sub a z)⟩ (fun b z z2=>?_) ?_
 ·rw [aM]
  ·exact q
  ·intro za
   subst za
   rcases z with z | z
   ·exact z Ol
   ·exact q4 a hr z
 ·rcases z with z | z
  ·rw [z] at z2; exact q4 l hr z2
  ·rcases hG b z with z | z
   ·exact q4 b (hf' b z).1 z2
   ·exact P.env.dx i b (q3 b z2) (.inl z)
 ·refine ⟨l,vs',el,.inr ⟨hz,aN,.inl rfl,G,fun b z=>⟨.inr z,?_⟩,hO _ sub⟩⟩
  rcases hG b z with z | z
  ·exact (hf' b z).2
  ·exact gl b z
def JZ (i:Nat) (mp:MP) (f:ME):ME:=fun en=>(mp en).bind fun r=>match (r.2[i]?).join with
 | some t=>(cz t r.1).bind fun u=>match u with
  | .list ts=>(f r.2).bind fun q=>if ts.length < sizeLine then some (.none,q.2.set i (some (cP t r.1 (.list (ts++[q.1]))))) else none
  | _=>none
 | none=>none
def jj (i:Nat) (mp:MP) (fk fe:ME):MS:=fun en=>(fe en).bind fun r=>(mp r.2).bind fun w=>(fk w.2).bind fun q=>match q.1,(q.2[i]?).join with
 | .int n,some t=>(cz t w.1).bind fun u=>match u with
  | .list ts=>(ixN ts.length n).map fun k=>.nx (q.2.set i (some (cP t w.1 (.list (ts.set k r.1)))))
  | _=>none
 | _,_=>none
end
end L2
namespace L2
open PySem PySem.Spec PyProof.Rows
end L2
namespace L2
open PySem PySem.Spec PyProof.Rows
def sd (f:Nat→Str):Nat→List Str
 | 0=>[]
 | i+1=>if (sd f i).any (· == f i)=true then sd f i else sd f i++[f i]
section
variable {P:Program} {w:World} {A:Around} {R:Result→Shared→Prop} {I:Addr} {fp wr:List Addr} {G:Array GenState→Array GenState→Prop} {n:Nat} {Pi:Nat→Value→Prop} {St:Nat→Shared→Prop}
end
section
variable {P:Program} {w:World} {A:Around} {E:Value→Shared→Prop} {s:Shared}
def Im (z:Str) (i:Nat):Str:=match z.cps[i]? with
 | some c=>mk1 c
 | none=>""
end
end L2
namespace L2
open PySem PySem.Spec PyProof.Rows
section
variable {X:Cx} {K:PySem.W.Frag} {p p1 p2:Bool} {ds ds1 ds2:List Nat} {d d1 d2:Nat} {e k:Expr} {f f1 f2:ME} {fa:MA} {sh:Sh} {σ:St} {H:Hp} {Q Q':VK} {pos pos2 px py:Pos}
def JO:D→Option D
 | .str z=>grd (z.length < 4000) (.int (sd (Im z) z.length).length)
 | _=>none
def J4:D→D→Option D
 | .list ts,.int (-1)=>some (.list ts.reverse)
 | _,_=>none
def JV:D→D→Option D
 | .tuple ts,.int (-1)=>some (.tuple ts.reverse)
 | _,_=>none
def JW:D→D→Option D
 | .str z,.int (-1)=>grd (z.length≤sizeLine) (.str ⟨z.cps.toList.reverse.toArray⟩)
 | _,_=>none
def JQ (fa:MA):MI:=fun en=>(fa en).bind fun r=>match r.1 with
 | [.inl (.str x),.inl (.str y)]=>some (iz (cc x) (cc y),r.2)
 | _=>none
def isB:D→D→Option D
 | .bool a,.bool b=>some (.bool (a == b))
 | _,_=>none
end
end L2
namespace L2
open PySem PySem.Spec PyProof.Rows
section
variable {X:Cx} {K:PySem.W.Frag} {pins:List (Addr × Obj)} {σ:St} {H:Hp} {s:Shared} {O:AS}
end
end L2
namespace L2
open PySem PySem.Spec PyProof.Rows
section
variable {X:Cx} {K:PySem.W.Frag} {p p1 p2:Bool} {ds ds1 ds2:List Nat} {d d1 d2:Nat} {a b:Expr} {f f1 f2:ME} {σ:St} {H:Hp} {Q Q':VK} {pos:Pos} {ta tb:TE} {rest:List Expr}
def Ka:D→Option Int→Option Int→Option D
 | .tuple ts,lo,hi=>grd (¬ (HT.sIx ts.length 0 lo=0∧HT.sIx ts.length ts.length hi=ts.length)) (.tuple (dk ts lo hi))
 | _,_,_=>none
def Jk:D→Option Bool
 | .none=>some false
 | .bool b=>some b
 | .list ts=>some (!ts.isEmpty)
 | .tuple ts=>some (!ts.isEmpty)
 | _=>none
def J8 (f g:ME):ME:=fun en=>(f en).bind fun r=>(Jk r.1).bind fun c=>if c then some r else g r.2
end
end L2
namespace L2
open PySem PySem.Spec PyProof.Rows
section
variable {X:Cx} {K:PySem.W.Frag} {p p1 p2:Bool} {ds ds1 ds2:List Nat} {d d1 d2:Nat} {a b:Expr} {f f1 f2:ME} {σ:St} {H:Hp} {Q Q':VK} {pos:Pos}
def lD (x:Int):List Int→List Int
 | []=>[x]
 | y :: r=>if x≤y then x :: y :: r else y :: lD x r
def db:List Int→List Int
 | []=>[]
 | x :: r=>lD x (db r)
theorem ki (x:Int):∀ l,(lD x l).Perm (x :: l)
 | []=>.refl _
 | y :: r=>by
  unfold lD
  split
  ·exact .refl _
  ·exact (List.Perm.cons y (ki x r)).trans (List.Perm.swap x y r)
theorem eT:∀ l,(db l).Perm l
 | []=>.refl _
 | x :: r=>(ki x _).trans (List.Perm.cons x (eT r))
theorem k9 (x:Int):∀ l:List Int,l.Pairwise (·≤·)→(lD x l).Pairwise (·≤·)
 | [],_=>by simp [lD]
 | y :: r,h=>by
  obtain ⟨h1,h2⟩:=List.pairwise_cons.mp h
  unfold lD
  split
  ·next hx =>
   refine List.pairwise_cons.mpr ⟨fun z hz=>?_,h⟩
   rcases List.mem_cons.mp hz with rfl | hz
   ·exact hx
   ·exact Int.le_trans hx (h1 z hz)
  ·next hx =>
   refine List.pairwise_cons.mpr ⟨fun z hz=>?_,k9 x r h2⟩
   rcases List.mem_cons.mp ((ki x r).mem_iff.mp hz) with rfl | hz
   ·omega
   ·exact h1 z hz
theorem j9:∀ l,(db l).Pairwise (·≤·)
 | []=>.nil
 | x :: r=>k9 x _ (j9 r)
theorem oV:∀ {l m:List Int},l.Perm m→l.Pairwise (·≤·)→m.Pairwise (·≤·)→l=m
 | [],m,h,_,_=>(List.nil_perm.mp h).symm
 | x :: l,m,h,hl,hm=>by
  cases m with
  | nil=>exact absurd h.length_eq (by simp)
  | cons y m =>
   obtain ⟨l1,l2⟩:=List.pairwise_cons.mp hl
   obtain ⟨m1,m2⟩:=List.pairwise_cons.mp hm
   have e:x=y:=by
    have a1:x∈y :: m:=h.mem_iff.mp List.mem_cons_self
    have a2:y∈x :: l:=h.mem_iff.mpr List.mem_cons_self
    rcases List.mem_cons.mp a1 with e | a1
    ·exact e
    ·rcases List.mem_cons.mp a2 with e | a2
     ·exact e.symm
     ·exact Int.le_antisymm (l1 y a2) (m1 x a1)
   subst e
   rw [oV (List.perm_cons x |>.mp h) l2 m2]
def rN:List D→Option D
 | [.list ts]=>(bJ ts).bind fun ns=>grd (ns.length < 64) (.list ((db ns).map .int))
 | _=>none
theorem oH {us:List Value} {ns:List Int} (h:IntsAre us ns):Vals (ns.map V.int) us:=by
 induction us generalizing ns with
 | nil=>cases ns with
  | nil=>exact .nil
  | cons n r=>exact absurd h.length (by simp)
 | cons u us ih =>
  cases ns with
  | nil=>exact absurd h.length (by simp)
  | cons n r =>
   obtain ⟨t,ht⟩:=IntsAre.int_at h 0 u rfl
   refine .cons ⟨t,ht⟩ (ih ?_)
   cases h
   assumption
theorem uI (hK:X.K=K):CallR X (.builtin "sorted") (rFn K rN 1):=by
 subst hK
 intro pins s σ H xs us Q I r ⟨O,as,t,oa,hd,hr,k⟩
 match as,hr with
 | [.list ts],hr =>
  obtain ⟨ns,h1,h2⟩:=Option.bind_eq_some_iff.mp hr
  obtain ⟨c,rfl⟩:=gZ h2
  obtain ⟨v,rfl,o⟩:=oa.one
  obtain ⟨a,vs,rfl,fz,w⟩:=o.lst0
  have e:=gX w h1
  subst e
  obtain ⟨u,rfl,ru⟩:=dA r
  cases ru
  obtain ⟨its,rv,pl,hz⟩:=I.list fz.sq
  have hi:IntsAre its ns:=sD rv
  refine sorted_ints pl.isList hi (by rw [hi.length]; exact c) fun out ns' a1 a2 a3=>?_
  obtain ⟨e,he⟩:=sortedAll_at s.heap its out
  have e1:ns'=db ns:=oV (a2.trans (eT ns).symm) a3 (j9 ns)
  subst e1
  have hl:(db ns).length=ns.length:=(eT ns).length_eq
  have rv':Vals ((db ns).map V.int) out.toList:=oH a1
  have hp:H (s.heap.objs.size+1)=none:=I.hok.fresh (Nat.le_succ _)
  have ows:Ows X.K O H ((db ns).map .int) 0 ((db ns).map V.int) NoA:=by
   have:∀ l:List Int,Ows X.K O H (l.map .int) 0 (l.map V.int) NoA:=fun l=>by
    induction l with
    | nil=>rfl
    | cons n r ih=>exact ⟨.int n,r.map V.int,NoA,NoA,rfl,fun _ z=>z,fun _ z=>z,fun _ z=>z.elim,rfl,ih⟩
   exact this _
  refine ⟨.ref _,_,I.laid (a:=s.heap.objs.size+1) (o:=.lst ((db ns).map V.int)) (t':=s.toks) (fun b o e=>sortedAll_old e) (Nat.le_succ _) ?_,rfl,k _ _ _ (cA hp hd ows).1 (cA hp hd ows).2⟩
  refine ⟨by rw [List.length_map,hl]; exact Nat.le_of_lt (tJ (by omega)),out.toList,e,rv',?_⟩
  rw [show out.toList.toArray=out from rfl]
  exact he
end
end L2
namespace L2
open PySem PySem.Spec PyProof.Rows PySem.SeqAt PySem.MeetsSeq
section
variable {A:Around} {s:Shared}
end
section
variable {X:Cx} {pins:List (Addr × Obj)} {σ:St} {H:Hp} {s:Shared} {O:AS}
end
section
variable {X:Cx} {K:PySem.W.Frag}
end
end L2
namespace L2
open PySem PySem.Spec PyProof.Rows PySem.SeqAt PySem.MeetsSeq
def J5:D→D→Option D
 | .tuple ts,.int k=>grd (1≤k∧k≤1000∧ts.length≤1000) (.tuple (List.replicate k.toNat ts).flatten)
 | _,_=>none
section
variable {X:Cx} {K:PySem.W.Frag}
def JX:D→D→Option D
 | .int k,.str z=>grd (z.length≤4000∧1≤k∧k≤4000) (.str (Txt.mul z k))
 | _,_=>none
end
section
variable {X:Cx} {K:PySem.W.Frag}
end
section
variable {X:Cx} {K:PySem.W.Frag}
end
section
variable {X:Cx} {K:PySem.W.Frag} {p p1 p2:Bool} {ds ds1 ds2:List Nat} {d d1 d2:Nat} {e:Expr} {f f1 f2:ME} {σ:St} {H:Hp} {Q Q':VK}
end
def JS:D→D→Option D
 | .tuple ts,b=>grd (aH b=true∧bg ts=true∧cy ts≤60) (.int (ts.countP fun t=>peq t b:Nat))
 | _,_=>none
section
variable {X:Cx} {K:PySem.W.Frag} {p:Bool} {ds ds1 ds2:List Nat} {d d1 d2:Nat} {e:Expr} {f f1 f2:ME} {σ:St} {H:Hp} {Q Q':VK}
end
end L2
namespace L2
open PySem PySem.Spec PyProof.Rows HT
section
variable {prog:Program} {w:World} {A:Around} {E:Value→Shared→Prop} {s:Shared}
end
def J1:D→Option Int→Option Int→Option D
 | .tuple ts,lo,hi=>some (.tuple (dk ts lo hi))
 | _,_,_=>none
section
variable {X:Cx} {K:PySem.W.Frag}
end
end L2
namespace L2
open PySem PySem.Spec PyProof.Rows
section
variable {P:Program} {w:World} {A:Around} {E:Value→Shared→Prop} {s:Shared}
end
section
variable {X:Cx} {K:PySem.W.Frag} {p p1 p2:Bool} {ds ds1 ds2:List Nat} {d d1 d2:Nat} {e k:Expr} {f f1 f2:ME} {fa:MA} {sh:Sh} {σ:St} {H:Hp} {Q Q':VK} {pos pos2 px py:Pos}
end
end L2
namespace L2
open PySem PySem.Spec PyProof.Rows PySem.SeqAt PySem.MeetsSeq
section
variable {X:Cx} {K:PySem.W.Frag}
end
section
variable {X:Cx} {K:PySem.W.Frag}
end
end L2
namespace L2
open PySem PySem.Spec PyProof.Rows PySem.SeqAt PySem.MeetsSeq
section
variable {X:Cx} {K:PySem.W.Frag} {p p1 p2:Bool} {ds ds1 ds2:List Nat} {d d1 d2:Nat} {e:Expr} {f f1 f2:ME} {σ:St} {H:Hp} {Q Q':VK} {i:Nat}
end
section
variable {X:Cx} {K:PySem.W.Frag} {p p1 p2 q:Bool} {J:Jd} {ds ds0 ds1 ds2 ds' dsi dps:List Nat} {d d' d1 d2 dr:Nat} {a b c e tg iter:Expr} {es:List Expr} {st:Stmt} {rest body bodyB:List Stmt} {f f1 f2 fk fe:ME} {c1 c2:MT} {fa:MA} {sh:Sh} {pos px:Pos} {i:Nat} {x:Str} {m m1 m2:MS} {g:MG} {gs:List D→En→Option En} {fi:MI} {lk:List Nat}
end
end L2
namespace L2
open PySem PySem.Spec PyProof.Rows
section
variable {prog:Program} {w:World} {A:Around} {E:Value→Shared→Prop} {s:Shared}
end
section
variable {prog:Program} {w:World} {A:Around} {E:Value→Shared→Prop} {s:Shared}
end
section
variable {X:Cx} {tg:Expr} {K:PySem.W.Frag}
end
section
variable {X:Cx} {K:PySem.W.Frag} {p:Bool} {ds ds1:List Nat} {d:Nat} {fa:MA} {sh:Sh} {O O1:AS} {H0 H:Hp} {ts us:List D} {vs ws:List V} {a b:Addr}
def JP (fa:MA):MI:=fun en=>(fa en).bind fun r=>match r.1 with
 | [.inl (.tuple ts),.inl (.tuple us)]=>some (iz ts us,r.2)
 | _=>none
end
end L2
namespace L2
open PySem PySem.Spec PyProof.Rows
section
variable {K:PySem.W.Frag} {p p1 p2 q:Bool} {J:Jd} {lk ds ds0 ds1 ds2 ds':List Nat} {d d' d1 d2:Nat} {f:ME} {i j:Nat} {g:MG} {gs:List D→En→Option En} {σ:St} {H:Hp} {Dn:Ends} {v:V} {vs:List V} {QS:St→Hp→Prop}
end
section
variable {X:Cx} {K:PySem.W.Frag} {J:Jd} {lk ds ds0 ds1 ds2 ds':List Nat} {e tg:Expr} {es:List Expr} {f:ME} {pos px:Pos} {i:Nat} {g:MG} {gs:List D→En→Option En}
end
end L2
namespace L2
open PySem PySem.Spec PyProof.Rows
section
variable {X:Cx} {K:PySem.W.Frag} {p:Bool} {ds:List Nat} {k v:Expr} {fk fv:ME} {pos:Pos} {σ:St} {H:Hp} {Q:VK} {O:AS}
end
end L2
namespace L2
open PySem PySem.Spec PyProof.Rows
structure QE (X:Cx) (e:Expr) (t:TE):Prop where
 h:PE X e t
structure QT (X:Cx) (e:Expr) (t:TT):Prop where
 h:PT X e t
structure QW (X:Cx) (e:Expr) (t:TT):Prop where
 h:PW X e t
structure QA (X:Cx) (e:List Expr) (t:TA):Prop where
 h:PA X e t
structure QS (X:Cx) (e:Stmt) (t:TS):Prop where
 h:PS X e t
structure QSs (X:Cx) (e:List Stmt) (t:TS):Prop where
 h:PSs X e t
structure QG (X:Cx) (e:Expr) (t:TG):Prop where
 h:PG X e t
structure QGs (X:Cx) (e:List Expr) (t:TGs):Prop where
 h:PGs X e t
structure QI (X:Cx) (tg e:Expr) (t:TI):Prop where
 h:PI X tg e t
structure QTs (X:Cx) (e:List Expr) (t:TT):Prop where
 h:PTs X e t
structure QO (X:Cx) (e:Option Expr) (t:TO):Prop where
 h:PO X e t
structure QPs (X:Cx) (pos:Pos) (ks:List (Option Expr)) (vs:List Expr) (t:List (TE × TE)):Prop where
 h:PPs X pos ks vs t
theorem qpt {X:Cx} {e:Expr} {t:TT} (h:QW X e t):QT X e t:=⟨h.h.pt⟩
section
variable {X:Cx} {K:PySem.W.Frag} {p p1 p2 q:Bool} {ds ds0 ds1 ds2 ds' dsi:List Nat} {d d' d1 d2:Nat} {a b c e:Expr} {es:List Expr} {f f1 f2:ME} {m c1 c2:MT} {fa:MA} {sh:Sh} {pos:Pos} {i:Nat} {x:Str}
theorem aa {x:Str} (hN:X.N[i]?=some x) (hv:Vis X.env.scope x) (h0:ds[i]?=some 0) (hd:(x == ("__debug__" : Str))=false) (hcd:(x == ("__classdict__" : Str))=false):QE X (.Name x pos) (tF K p ds ds 0 (ad i)):=⟨Hu hN hv h0 hd hcd⟩
theorem DM {x:Str} (hN:X.N[i]?=some x) (hv:Vis X.env.scope x) (h0:ds[i]?=some d) (hds:ds.set i 0=ds') (hd:(x == ("__debug__" : Str))=false) (hcd:(x == ("__classdict__" : Str))=false):QE X (.Name x pos) (tF K false ds ds' d (eMv i)):=⟨IM hN hv h0 hds hd hcd⟩
theorem ah {n:Int} {j}:QE X (.Constant (.int n) j pos) (tF K p ds ds 3 (eC (.int n))):=⟨HG⟩
theorem fB {n:Bool} {j}:QE X (.Constant (.bool n) j pos) (tF K p ds ds 3 (eC (.bool n))):=⟨IT⟩
theorem bE {j}:QE X (.Constant .none j pos) (tF K p ds ds 3 (eC .none)):=⟨HB⟩
theorem bd {n:Str} {j}:QE X (.Constant (.str n) j pos) (tF K p ds ds 3 (eC (.str n))):=⟨Hx⟩
theorem mB {x:Str} {n:Int} {t:Tok} (hg:Gl X x) (hm:X.mg x=some (.int n t)) (hd:(x == ("__debug__" : Str))=false):QE X (.Name x pos) (tF K p ds ds 3 (eC (.int n))):=⟨wz hg hm hd⟩
theorem aj (h:QE X e (tF K p ds ds' d f)) (hd:d'≤d):QE X e (tF K p ds ds' d' f):=⟨Hw h.h hd⟩
theorem cS (h:QE X e (tF K p ds0 ds' d f)) (hd:leD ds0 ds=true):QE X e (tF K false ds ds' d f):=⟨IR h.h hd⟩
theorem fA (h:QE X e (tF K true ds0 ds0 3 f)) (hd:leD ds0 ds=true):QE X e (tF K p ds ds 3 f):=⟨HK h.h hd⟩
theorem aw {op:Operator} {g:D→D→Option D} (ho:OpR X (binaryOp op) (rF2 K g d)) (ha:QE X a (tF K p ds ds1 d1 f1)) (hb:QE X b (tF K p ds1 ds2 d2 f2)):QE X (.BinOp a op b pos) (tF K p ds ds2 d (e2 g f1 f2)):=⟨IL ho ha.h hb.h⟩
theorem jc {op:UnaryOp} {g:D→Option D} (ho:UnR X (unaryOp op) (rF1 K g d)) (ha:QE X a (tF K p ds ds1 d1 f1)):QE X (.UnaryOp op a pos) (tF K p ds ds1 d (e1 g f1)):=⟨IJ ho ha.h⟩
theorem cv {op:CmpOp} {g:D→D→Option D} (ho:OpR X (compareOp op) (rF2 K g d)) (ha:QE X a (tF K p ds ds1 d1 f1)) (hb:QE X b (tF K p ds1 ds2 d2 f2)) (hm:behindInMarks op b=false):QE X (.Compare a [op] [b] pos) (tF K p ds ds2 d (e2 g f1 f2)):=⟨HJ ho ha.h hb.h hm⟩
theorem aI {op:CmpOp} {g:D→D→Option D} (ho:OpR X (compareOp op) (rF2 K g d)) (ha:QE X a (tF K p ds ds1 d1 f1)) (hb:QE X b (tF K p ds1 ds2 d2 f2)) (hm:behindInMarks op b=false):QT X (.Compare a [op] [b] pos) (tFT K p ds ds2 (tV (e2 g f1 f2))):=⟨Dj ho ha.h hb.h hm⟩
theorem cj (h:QE X e (tF K p ds ds' d f)) (he:∀ whole,isTrue e X.env whole=(do let v ← whole; standAt e.pos; holding [v] (truthy v))):QT X e (tFT K p ds ds' (tV f)):=⟨Dh h.h he⟩
theorem ik (ha:QT X a (tFT K p ds ds1 c1)):QW X (.BoolOp .And [a] pos) (tFT K p ds ds1 c1):=⟨Dd ha.h⟩
theorem hU (ha:QT X a (tFT K p ds ds1 c1)):QW X (.BoolOp .Or [a] pos) (tFT K p ds ds1 c1):=⟨G9 ha.h⟩
theorem ju {rest:List Expr} (ha:QT X a (tFT K p ds ds1 c1)) (hb:QW X (.BoolOp .And (b :: rest) pos) (tFT K p ds1 ds1 c2)):QW X (.BoolOp .And (a :: b :: rest) pos) (tFT K p ds ds1 (cD c1 c2)):=⟨Ha ha.h hb.h⟩
theorem ja {rest:List Expr} (ha:QT X a (tFT K p ds ds1 c1)) (hb:QW X (.BoolOp .Or (b :: rest) pos) (tFT K p ds1 ds1 c2)):QW X (.BoolOp .Or (a :: b :: rest) pos) (tFT K p ds ds1 (bOr c1 c2)):=⟨IF ha.h hb.h⟩
theorem cF (ha:QT X a (tFT K p ds ds1 c1)):QT X (.UnaryOp .Not a pos) (tFT K p ds ds1 (e9 c1)):=⟨Di ha.h⟩
theorem im (h:QT X e (tFT K true ds0 ds0 c1)) (hd:leD ds0 ds=true):QT X e (tFT K p ds ds c1):=⟨Dk h.h hd⟩
theorem jx {op} (h:QE X a (tF K p ds ds1 d f)):QE X (.BoolOp op [a] pos) (tF K p ds ds1 d f):=⟨Hz h.h⟩
theorem lG {rest:List Expr} (ha:QE X a (tF K p ds ds1 d1 f1)) (hb:QE X (.BoolOp .And (b :: rest) pos) (tF K p ds1 ds1 d f2)):QE X (.BoolOp .And (a :: b :: rest) pos) (tF K p ds ds1 d (kq f1 f2)):=⟨HM ha.h hb.h⟩
theorem DL {rest:List Expr} (ha:QE X a (tF K p ds ds1 d1 f1)) (hb:QE X (.BoolOp .Or (b :: rest) pos) (tF K p ds1 ds1 d f2)):QE X (.BoolOp .Or (a :: b :: rest) pos) (tF K p ds ds1 d (eOr f1 f2)):=⟨IK ha.h hb.h⟩
theorem wx (ha:QE X a (tF K p ds ds1 d1 f)):QE X (.UnaryOp .Not a pos) (tF K p ds ds1 3 (nc f)):=⟨HA ha.h⟩
theorem na (hc:QT X c (tFT K p ds ds1 c1)) (ha:QE X a (tF K p ds1 ds2 d f1)) (hb:QE X b (tF K p ds1 ds2 d f2)):QE X (.IfExp c a b pos) (tF K p ds ds2 d (eIf c1 f1 f2)):=⟨IQ hc.h ha.h hb.h⟩
theorem af  : QA X [] (tFA K p ds ds [] ai):=⟨DQ⟩
theorem ac (ha:QE X e (tF K p ds ds1 d f)) (hr:QA X es (tFA K p ds1 ds2 sh fa)) (hs:aP e=true):QA X (e :: es) (tFA K p ds ds2 (.inl d :: sh) (ae f fa)):=⟨wE ha.h hr.h hs⟩
theorem aJ {x:Str} (hN:X.N[i]?=some x) (hv:Vis X.env.scope x) (hr:QA X es (tFA K p ds ds2 sh fa)) (hd:(x == ("__debug__" : Str))=false) (hcd:(x == ("__classdict__" : Str))=false):QA X (.Name x pos :: es) (tFA K p ds ds2 (.inr i :: sh) (aG i fa)):=⟨wD hN hv hr.h hd hcd⟩
theorem bu {c:Nat} (h:QA X es (tFA K p ds ds1 sh fa)) (hs:ci c sh=true) (hd:dn d=c) (hz:d≠0):QE X (.List es pos) (tF K p ds ds1 d (bo fa)):=⟨HC h.h hs hd hz⟩
theorem fy {c:Nat} {x1} (h:QA X es (tFA K p ds ds1 sh fa)) (hs:ci c sh=true) (hd:dn d=c):QE X (.Tuple es x1 pos) (tF K p ds ds1 d (e8 fa)):=⟨Hv h.h hs hd⟩
theorem ay {id:String} {x:Str} {px:Pos} {g:List D→Option D} (hc:CallR X (.builtin id) (rFn K g d)) (hg:Gl X x) (hm:X.mg x=none) (hv:bootBuiltins x=some (.builtin id)) (ha:QA X (e :: es) (tFA K p ds ds1 sh fa)) (hsh:ci 0 sh=true) (hn:x≠"__name__") (hdb:(x == ("__debug__" : Str))=false) (he:aP e=true) (hpl:es.all aP=true):QE X (.Call (.Name x px) (e :: es) [] pos) (tF K p ds ds1 d (eN g fa)):=⟨wC hc hg hm hv ha.h hsh hn hdb he hpl⟩
theorem bX {T:String} {x:Str} {px:Pos} {g:List D→Option D} (hc:CallR X (.type T) (rFn K g d)) (hg:Gl X x) (hm:X.mg x=none) (hv:bootBuiltins x=some (.type T)) (ha:QA X (e :: es) (tFA K p ds ds1 sh fa)) (hsh:ci 0 sh=true) (hn:x≠"__name__") (hdb:(x == ("__debug__" : Str))=false) (he:aP e=true) (hpl:es.all aP=true):QE X (.Call (.Name x px) (e :: es) [] pos) (tF K p ds ds1 d (eN g fa)):=⟨uP hc hg hm hv ha.h hsh hn hdb he hpl⟩
theorem aL {k:Nat} {x:Str} {ps:List Str} {px:Pos} {dps:List Nat} {dr:Nat} {F:List D→Option (D × En)} (G:Kn X.prog X.w X.K X.mg X.base k x ps (spF K dps dr F)) (hr:Room k X.A) (hg:Gl X x) (ha:QA X (e :: es) (tFA K p ds ds1 sh fa)) (hns:iZ sh=true) (hcd:dF ds1 sh dps=true) (hdb:(x == ("__debug__" : Str))=false) (he:aP e=true) (hpl:es.all aP=true):QE X (.Call (.Name x px) (e :: es) [] pos) (tF K p ds ds1 dr (aq F fa)):=⟨IS G hr hg ha.h hns hcd hdb he hpl⟩
theorem aT {k:Nat} {x:Str} {ps:List Str} {px:Pos} {dps:List Nat} {dr:Nat} {F:List D→Option (D × En)} (G:Kn X.prog X.w X.K X.mg X.base k x ps (spF K dps dr F)) (hr:Room k X.A) (hg:Gl X x) (ha:QA X (e :: es) (tFA K false ds ds1 sh fa)) (hcd:dF ds1 sh dps=true) (hdb:(x == ("__debug__" : Str))=false) (he:aP e=true) (hpl:es.all aP=true):QE X (.Call (.Name x px) (e :: es) [] pos) (tF K false ds ds1 dr (aq F fa)):=⟨HH G hr hg ha.h hcd hdb he hpl⟩
theorem au {g:D→D→Option D} (ho:IxR X (rF2 K g d)) (ha:QE X a (tF K p ds ds1 d1 f1)) (hb:QE X b (tF K p ds1 ds2 d2 f2)) (hs:fF b):QE X (.Subscript a b pos) (tF K p ds ds2 d (e2 g f1 f2)):=⟨IP ho ha.h hb.h hs⟩
theorem pX {x:Str} {px:Pos} (hK:X.K=K) (hN:X.N[i]?=some x) (hv:Vis X.env.scope x) (h1:ds1[i]?=some 1) (hb:QE X b (tF K p ds ds1 d1 f)) (hs:fF b) (hd:(x == ("__debug__" : Str))=false) (hcd:(x == ("__classdict__" : Str))=false):QE X (.Subscript (.Name x px) b pos) (tF K p ds ds1 0 (da i f)):=⟨HE hK hN hv h1 hb.h hs hd hcd⟩
theorem cI {c:Nat} {x:Str} {px apos cpos:Pos} (hK:X.K=K) (hN:X.N[i]?=some x) (hv:Vis X.env.scope x) (h1:ds1[i]?=some d) (he:QE X e (tF K false ds ds1 c f)) (hz:d≠0) (hc:dn d=c) (hd:(x == ("__debug__" : Str))=false) (hcd:(x == ("__classdict__" : Str))=false) (hbase:attributeBase (.Name x px) "append" X.env (eval (.Name x px) X.env)=eval (.Name x px) X.env) (hfew:((backTo cpos (starEach [e] X.env)).all (fun x=>!x.1) && (backToKw cpos (keywordEach [] X.env)).all (fun x=>x.1.isSome) && decide (([e]:List Expr).length+([]:List Keyword).length+(if ([]:List Keyword).isEmpty then 0 else 1) < 30))=true) (hline:(apos.endLine == cpos.line)=true) (hs:starEach [e] X.env=[(false,eval e X.env)]) (hplain:(backTo cpos (starEach [] X.env)).any (·.1)=false):QE X (.Call (.Attribute (.Name x px) "append" apos) [e] [] cpos) (tF K false ds ds1 3 (bQ i f)):=⟨HL hK hN hv h1 he.h hz hc hd hcd hbase hfew hline hs hplain⟩
theorem wv {c:Nat} {x:Str} {px apos cpos:Pos} (hK:X.K=K) (hN:X.N[i]?=some x) (hv:Vis X.env.scope x) (h1:ds[i]?=some d) (hz:d≠0) (hc:dn d=c) (hd:(x == ("__debug__" : Str))=false) (hcd:(x == ("__classdict__" : Str))=false) (hbase:attributeBase (.Name x px) "pop" X.env (eval (.Name x px) X.env)=eval (.Name x px) X.env) (hline:(apos.endLine == cpos.line)=true):QE X (.Call (.Attribute (.Name x px) "pop" apos) [] [] cpos) (tF K false ds ds c (nb i)):=⟨Hy hK hN hv h1 hz hc hd hcd hbase hline⟩
theorem sH {c:Nat} {x:Str} {px apos cpos:Pos} (hK:X.K=K) (hN:X.N[i]?=some x) (hv:Vis X.env.scope x) (h1:ds1[i]?=some d) (he:QE X e (tF K false ds ds1 d1 f)) (hz:d≠0) (hc:dn d=c) (hd:(x == ("__debug__" : Str))=false) (hcd:(x == ("__classdict__" : Str))=false) (hbase:attributeBase (.Name x px) "pop" X.env (eval (.Name x px) X.env)=eval (.Name x px) X.env) (hfew:((backTo cpos (starEach [e] X.env)).all (fun x=>!x.1) && (backToKw cpos (keywordEach [] X.env)).all (fun x=>x.1.isSome) && decide (([e]:List Expr).length+([]:List Keyword).length+(if ([]:List Keyword).isEmpty then 0 else 1) < 30))=true) (hline:(apos.endLine == cpos.line)=true) (hs:starEach [e] X.env=[(false,eval e X.env)]) (hplain:(backTo cpos (starEach [] X.env)).any (·.1)=false):QE X (.Call (.Attribute (.Name x px) "pop" apos) [e] [] cpos) (tF K false ds ds1 c (hX i f)):=⟨ww hK hN hv h1 he.h hz hc hd hcd hbase hfew hline hs hplain⟩
theorem aZ  : QTs X [] (tFT K p ds ds cY):=⟨Dg⟩
theorem il (hc:QT X c (tFT K p ds ds1 c1)):QTs X [c] (tFT K p ds ds1 c1):=⟨De hc.h⟩
theorem bF {elt tg iter:Expr} {ifs:List Expr} {scope:Scope} {ns:List Str} {js:List (Option Nat)} {fi:MI} {g:MG} {lk:List Nat} {cd:Nat} (B:BlkOkC X scope ns js) (hc:X.calm=true) (hi:QI X tg iter (tFI K p ds ds1 fi)) (hg:∀ C cl s₀ H₀ fp,QG (aR X scope ns C cl s₀ H₀ fp) tg (tFG K lk dsi dsi g)) (ht:∀ C cl s₀ H₀ fp,QTs (aR X scope ns C cl s₀ H₀ fp) ifs (tFT K true dsi dsi c1)) (he:∀ C cl s₀ H₀ fp,QE (aR X scope ns C cl s₀ H₀ fp) elt (tF K true dsi dsi cd f)) (hcap:gj ds1 js dsi=true) (hd:dn d=cd) (hz:d≠0) (hlk:lk=gi js 0) (hs:∀ x,foldedSetIterable iter X.env x=pure x):QE X (.ListComp elt [⟨tg,iter,ifs,0⟩] scope pos) (tF K p ds ds1 d (eLC true fi g c1 f js)):=⟨IN B hc hi.h (fun C cl s₀ H₀ fp=>(hg C cl s₀ H₀ fp).h) (fun C cl s₀ H₀ fp=>(ht C cl s₀ H₀ fp).h) (fun C cl s₀ H₀ fp=>(he C cl s₀ H₀ fp).h) hcap hd hz hlk hs⟩
theorem wy {elt tg iter:Expr} {ifs:List Expr} {scope:Scope} {ns:List Str} {js:List (Option Nat)} {fi:MI} {g:MG} {lk:List Nat} {cd:Nat} (B:BlkOkC X scope ns js) (hc:X.calm=true) (hi:QI X tg iter (tFI K false ds ds1 fi)) (hg:∀ C cl s₀ H₀ fp,QG (aR X scope ns C cl s₀ H₀ fp) tg (tFG K lk dsi dsi g)) (ht:∀ C cl s₀ H₀ fp,QTs (aR X scope ns C cl s₀ H₀ fp) ifs (tFT K false dsi dsi c1)) (he:∀ C cl s₀ H₀ fp,QE (aR X scope ns C cl s₀ H₀ fp) elt (tF K false dsi dsi cd f)) (hcap:gj ds1 js dsi=true) (hd:dn d=cd) (hz:d≠0) (hlk:lk=gi js 0) (hs:∀ x,foldedSetIterable iter X.env x=pure x):QE X (.ListComp elt [⟨tg,iter,ifs,0⟩] scope pos) (tF K false ds ds1 d (eLC false fi g c1 f js)):=⟨HD B hc hi.h (fun C cl s₀ H₀ fp=>(hg C cl s₀ H₀ fp).h) (fun C cl s₀ H₀ fp=>(ht C cl s₀ H₀ fp).h) (fun C cl s₀ H₀ fp=>(he C cl s₀ H₀ fp).h) hcap hd hz hlk hs⟩
end
section
variable {X:Cx} {K:PySem.W.Frag} {p p1 p2 q:Bool} {J:Jd} {ds ds0 ds1 ds2 ds' dsi dps:List Nat} {d d' d1 d2 dr:Nat} {a b c e tg iter:Expr} {es:List Expr} {st:Stmt} {rest body bodyB:List Stmt} {f f1 f2 fk fe:ME} {c1 c2:MT} {fa:MA} {sh:Sh} {pos px:Pos} {i:Nat} {x:Str} {m m1 m2:MS} {g:MG} {gs:List D→En→Option En} {fi:MI} {lk:List Nat}
theorem bh  : QSs X [] (tFS K J ds ds bt):=⟨Dm⟩
theorem ag (h1:QS X st (tFS K J ds ds1 m1)) (h2:QSs X rest (tFS K J ds1 ds2 m2)):QSs X (st :: rest) (tFS K J ds ds2 (al m1 m2)):=⟨v9 h1.h h2.h⟩
theorem am (h1:QS X st (tFS K J ds ds1 m1)):QSs X [st] (tFS K J ds ds1 m1):=⟨Dl h1.h⟩
theorem bV (he:QE X e (tF K false ds ds1 d f)) (hs:swapsWith e none pos.line X.env=pure false):QS X (.Expr e pos) (tFS K J ds ds1 (bN f)):=⟨Du he.h hs⟩
theorem aA (he:QE X e (tF K false ds ds1 J.dr f)) (hd:leD J.dsr ds1=true):QS X (.Return (some e) pos) (tFS K J ds ds' (aF f)):=⟨Ds he.h hd⟩
theorem fM  : QS X st (tFS K J ds ds' fV):=⟨uG⟩
theorem bp (hc:QT X c (tFT K false ds ds1 c1)) (ha:QSs X body (tFS K J ds1 ds2 m1)) (hb:QSs X bodyB (tFS K J ds1 ds2 m2)):QS X (.If c body bodyB pos) (tFS K J ds ds2 (sIf c1 m1 m2)):=⟨Hk hc.h ha.h hb.h⟩
theorem ak {x:Str} {pos':Pos} (hN:X.N.Nodup) (hi:X.N[i]?=some x) (hx:Loc X.env.scope x) (he:QE X e (tF K false ds ds1 d f)) (hds:ds1.set i d=ds') (hl:i < ds1.length) (hk:i ∉ J.lk) (hs:swapsWith e (some (.Name x pos')) pos.line X.env=pure false) (hf:X.fn x=true∨X.env.scope.names.lookup x=some .local):QS X (.Assign [.Name x pos'] e pos) (tFS K J ds ds' (ap i f)):=⟨Dr hN hi hx he.h hds hl hk hs hf⟩
theorem cR {x:Str} {spos pos':Pos} {elt:Expr} {ifs:List Expr} {scope:Scope} {ns:List Str} {js:List (Option Nat)} {cd:Nat} (hN:X.N.Nodup) (hi':X.N[i]?=some x) (hx:X.env.scope.names.lookup x=some .local) (B:BlkOkC X scope ns js) (hc:X.calm=true) (hi:QI X tg iter (tFI K false ds ds1 fi)) (hg:∀ C cl s₀ H₀ fp,QG (aR X scope ns C cl s₀ H₀ fp) tg (tFG K lk dsi dsi g)) (ht:∀ C cl s₀ H₀ fp,QTs (aR X scope ns C cl s₀ H₀ fp) ifs (tFT K q dsi dsi c1)) (he:∀ C cl s₀ H₀ fp,QE (aR X scope ns C cl s₀ H₀ fp) elt (tF K q dsi dsi cd f)) (hds:ds1.set i d=ds') (hcap:gj ds1 js dsi=true) (hd:dn d=cd) (hz:d≠0) (hlk:lk=gi js 0) (hl:i < ds1.length) (hk:i ∉ J.lk) (hsw:swapsWith (.ListComp elt [⟨tg,iter,ifs,0⟩] scope pos) (some (.Name x pos')) spos.line X.env=pure true) (hs:∀ x,foldedSetIterable iter X.env x=pure x):QS X (.Assign [.Name x pos'] (.ListComp elt [⟨tg,iter,ifs,0⟩] scope pos) spos) (tFS K J ds ds' (ap i (eLC q fi g c1 f js))):=⟨uF hN hi' hx B hc hi.h (fun C cl s₀ H₀ fp=>(hg C cl s₀ H₀ fp).h) (fun C cl s₀ H₀ fp=>(ht C cl s₀ H₀ fp).h) (fun C cl s₀ H₀ fp=>(he C cl s₀ H₀ fp).h) hds hcap hd hz hlk hl hk hsw hs⟩
theorem sE {c:Nat} {x:Str} {spos:Pos} {k:Expr} (hN:X.N[i]?=some x) (hv:Vis X.env.scope x) (he:QE X e (tF K false ds ds1 c fe)) (hk:QE X k (tF K false ds1 ds2 d2 fk)) (h1:ds2[i]?=some d) (hz:d≠0) (hc:dn d=c) (hdb:(x == ("__debug__" : Str))=false) (hcd:(x == ("__classdict__" : Str))=false) (ha:∀ v,assign (.Subscript (.Name x px) k spos) X.env v=(do
   let ov ← holding [v] (eval (.Name x px) X.env)
   let iv ← holding [v,ov] (eval k X.env)
   standAt spos
   holding [v,ov,iv] (setItem ov iv v)
   release [v,ov,iv] [])) (hs:swapsWithSole [.Subscript (.Name x px) k spos] e pos.line X.env=pure false) (hw:swappedStores [.Subscript (.Name x px) k spos] e X.env=pure none) (h2:(assignEach [.Subscript (.Name x px) k spos] X.env).map (·.2)=[assign (.Subscript (.Name x px) k spos) X.env]):QS X (.Assign [.Subscript (.Name x px) k spos] e pos) (tFS K J ds ds2 (eV i fk fe)):=⟨we hN hv he.h hk.h h1 hz hc hdb hcd ha hs hw h2⟩
theorem ax {x:Str} (hN:X.N.Nodup) (hi:X.N[i]?=some x) (hx:Loc X.env.scope x) (hds:ds.set i 0=ds') (hl:i < ds.length) (hk:i ∉ lk) (hf:X.fn x=true∨X.env.scope.names.lookup x=some .local):QG X (.Name x pos) (tFG K lk ds ds' (gN i)):=⟨wq hN hi hx hds hl hk hf⟩
theorem gB  : QGs X [] (gb K lk ds ds gs0):=⟨wo⟩
theorem bW (h1:QG X e (tFG K lk ds ds1 g)) (h2:QGs X es (gb K lk ds1 ds2 gs)) (hs:(assignEach (e :: es) X.env).map (·.2)=assign e X.env :: (assignEach es X.env).map (·.2)):QGs X (e :: es) (gb K lk ds ds2 (gsC g gs)):=⟨uN h1.h h2.h hs⟩
theorem ip {k n:Nat} (hK:X.K=K) (hc:X.calm=true) (h:QGs X es (gb K lk ds ds1 gs)) (hl:∀ ts en,(∃ en',gs ts en=some en')→ts.length=n) (hn:(assignEach es X.env).length=n) (hst:(assignEach es X.env).findIdx? (·.1)=none):QG X (.Tuple es k pos) (tFG K lk ds ds1 (gT gs)):=⟨DI hK hc h.h hl hn hst⟩
theorem bU (hc:X.calm=true) (hi:QI X tg iter (tFI K false ds ds1 fi)) (hg:QG X tg (tFG K J.lk ds1 ds2 g)) (hb:QSs X body (tFS K { J with dsl:=ds1 } ds2 ds1 m)) (hp:PassesOwn (model X.prog X.w) X.A X.env X.xe) (hs:∀ x,foldedSetIterable iter X.env x=pure x):QS X (.For tg iter body [] pos) (tFS K J ds ds1 (c9 fi g m)):=⟨Dt hc hi.h hg.h hb.h hp hs⟩
theorem cQ (hc:QT X c (tFT K false ds ds1 c1)) (hb:QSs X body (tFS K { J with dsl:=ds } ds1 ds m)) (hp:PassesOwn (model X.prog X.w) X.A X.env X.xe):QS X (.While c body [] pos) (tFS K J ds ds1 (bq c1 m)):=⟨uD hc.h hb.h hp⟩
end
section
variable {X:Cx} {K:PySem.W.Frag} {p:Bool} {ds ds1:List Nat} {d:Nat} {e tg l:Expr} {f:ME} {fa:MA} {sh:Sh}
theorem aW (hK:X.K=K) (hl:QE X l (tF K p ds ds1 d f)):QI X tg l (tFI K p ds ds1 (bj f)):=⟨Hs hK hl.h⟩
theorem eK {a:Expr} {px pos:Pos} (hg:Gl X "range") (hm:X.mg "range"=none) (ha:QA X [a] (tFA K p ds ds1 sh fa)) (hs:aP a=true):QI X tg (.Call (.Name "range" px) [a] [] pos) (tFI K p ds ds1 (bB fa)):=⟨DF hg hm ha.h hs⟩
theorem km {px pos:Pos} {elts:List Expr} {k:Nat} {tp:Pos} (hK:X.K=K) (hg:Gl X "enumerate") (hm:X.mg "enumerate"=none) (ha:QA X [l] (tFA K p ds ds1 sh fa)) (hs:starEach [l] X.env=[(false,eval l X.env)]):QI X (.Tuple elts k tp) (.Call (.Name "enumerate" px) [l] [] pos) (tFI K p ds ds1 (gY fa)):=⟨DG hK hg hm ha.h hs⟩
end
section
variable {X:Cx} {K:PySem.W.Frag} {p:Bool} {ds ds1:List Nat} {d1:Nat} {e:Expr} {f:ME}
theorem lF {T:Str} {n:String} {px pt pos:Pos} (hK:X.K=K) (hg:Gl X "isinstance") (hm:X.mg "isinstance"=none) (hgT:Gl X T) (hmT:X.mg T=none) (hbT:bootBuiltins T=some (.type n)) (hT:n∈["int", "bool", "str", "list", "tuple", "dict"]) (he:QE X e (tF K p ds ds1 d1 f)) (hnT:T≠"__name__") (hdT:(T == ("__debug__" : Str))=false) (hs1:starEach [e,.Name T pt] X.env=(false,eval e X.env) :: starEach [.Name T pt] X.env) (hs2:starEach [.Name T pt] X.env=(false,eval (.Name T pt) X.env) :: starEach [] X.env) (hpl:(backTo pos (starEach [.Name T pt] X.env)).any (·.1)=false):QE X (.Call (.Name "isinstance" px) [e,.Name T pt] [] pos) (tF K p ds ds1 3 (e1 (aS n) f)):=⟨HF hK hg hm hgT hmT hbT hT he.h hnT hdT hs1 hs2 hpl⟩
end
section
variable {X:Cx} {K:PySem.W.Frag} {p:Bool} {J:Jd} {ds ds0 ds1 ds2 ds3 ds':List Nat} {d d' d1 d2 d3:Nat} {a b c e:Expr} {st:Stmt} {f f1 f2 f3:ME} {m:MS} {pos p2:Pos}
theorem fX (h:QS X st (tFS K J ds ds2 m)) (hd:leD ds1 ds2=true):QS X st (tFS K J ds ds1 m):=⟨Dq h.h hd⟩
theorem my {op op':CmpOp} {g g':D→D→Option D} (ho:OpR X (compareOp op) (rF2 K g 3)) (ho':OpR X (compareOp op') (rF2 K g' 3)) (ha:QE X a (tF K p ds ds0 d1 f1)) (hb:QE X b (tF K p ds0 ds1 d2 f2)) (hc:QE X c (tF K p ds1 ds1 d3 f3)) (hm:lastMarks [op,op'] [b,c]=false):QT X (.Compare a [op,op'] [b,c] pos) (tFT K p ds ds1 (tV (h9 g g' f1 f2 f3))):=⟨v8 ho ho' ha.h hb.h hc.h hm⟩
theorem eJ  : QO X none (tFO K p ds ds gz):=⟨Dz⟩
theorem eI (h:QE X e (tF K p ds ds1 d f)):QO X (some e) (tFO K p ds ds1 (fL f)):=⟨Dy h.h⟩
variable {lo hi:MO}
theorem dE {g:D→Option Int→Option Int→Option D} {elo ehi:Option Expr} (hr:SlR X (rFs K g d)) (he:QE X e (tF K p ds ds1 d1 f)) (hl:QO X elo (tFO K p ds1 ds2 lo)) (hu:QO X ehi (tFO K p ds2 ds3 hi)):QE X (.Subscript e (.Slice elo ehi none p2) pos) (tF K p ds ds3 d (eSl g f lo hi)):=⟨wu hr he.h hl.h hu.h⟩
end
section
variable {X:Cx} {K:PySem.W.Frag} {p:Bool} {J:Jd} {ds ds0 ds1 ds2 ds':List Nat} {d d' d1 d2:Nat} {a b c e o k:Expr} {f f1 f2 fk fe:ME} {pos px spos:Pos} {i:Nat} {σ:St} {H:Hp} {Q:VK} {Dn:Ends}
theorem eY {x:Str} (hu:X.A.units+1 < cLine) (hN:X.N[i]?=some x) (hv:Vis X.env.scope x) (h1:ds1[i]?=some 1) (hi:QE X k (tF K p ds ds1 d1 f)) (hs:sT k) (hd:(x == ("__debug__" : Str))=false) (hcd:(x == ("__classdict__" : Str))=false):QE X (.Subscript (.Name x px) k pos) (tF K p ds ds1 0 (bD i f)):=⟨wB hu hN hv h1 hi.h hs hd hcd⟩
theorem jv {x:Str} (hu:X.A.units+1 < cLine) (hN:X.N[i]?=some x) (hv:Vis X.env.scope x) (he:QE X e (tF K false ds ds1 0 fe)) (hk:QE X k (tF K false ds1 ds2 d2 fk)) (h1:ds2[i]?=some 1) (hdb:(x == ("__debug__" : Str))=false) (hcd:(x == ("__classdict__" : Str))=false) (hs:swapsWith e (some (.Subscript (.Name x px) k spos)) pos.line X.env=pure false):QS X (.Assign [.Subscript (.Name x px) k spos] e pos) (tFS K J ds ds2 (de i fk fe)):=⟨wf hu hN hv he.h hk.h h1 hdb hcd hs⟩
end
section
variable {X:Cx} {K:PySem.W.Frag} {p:Bool} {J:Jd} {ds ds0 ds1 ds2 ds':List Nat} {d d' d1 d2:Nat} {a b c e o k:Expr} {es:List Expr} {f f1 f2 fk fe:ME} {fa:MA} {sh:Sh} {pos px spos:Pos} {i j:Nat} {σ:St} {H:Hp} {Q:VK} {Dn:Ends}
theorem uO {keys:List (Option Expr)} {values:List Expr} {fs:List (ME × ME)} (h:QPs X pos keys values (trs K p ds fs)) (hall:keys.all (·.isSome)=true) (hl:keys.length=values.length) (h0:keys≠[]) (h15:keys.length≤15):QE X (.Dict keys values pos) (tF K p ds ds 1 (kR fs)):=⟨DN h.h hall hl h0 h15⟩
theorem wj  : QPs X pos [] [] (trs K p ds []):=⟨Hm⟩
theorem kj {k v:Expr} {ks:List (Option Expr)} {vs:List Expr} {fk fv:ME} {fs:List (ME × ME)} (hk:QE X k (tF K p ds ds 3 fk)) (hv:QE X v (tF K p ds ds 0 fv)) (hr:QPs X pos ks vs (trs K p ds fs)):QPs X pos (some k :: ks) (v :: vs) (trs K p ds ((fk,fv) :: fs)):=⟨Dw hk.h hv.h hr.h⟩
end
section
variable {X:Cx} {K:PySem.W.Frag} {p:Bool} {ds ds1:List Nat} {O:AS} {H:Hp} {σ:St} {d:Nat} {f:ME} {i:Nat} {e:Expr} {Q:VK}
end
section
variable {X:Cx} {K:PySem.W.Frag} {p:Bool} {ds ds1:List Nat} {d:Nat} {fa:MA} {sh:Sh} {O O1:AS} {H0 H:Hp} {ts us:List D} {vs ws:List V} {a b:Addr}
theorem wn {l m:Expr} {px pos:Pos} {elts:List Expr} {k:Nat} {tp:Pos} (hK:X.K=K) (hg:Gl X "zip") (hm:X.mg "zip"=none) (ha:QA X [l,m] (tFA K p ds ds1 sh fa)) (hs:aP l=true) (hs2:aP m=true):QI X (.Tuple elts k tp) (.Call (.Name "zip" px) [l,m] [] pos) (tFI K p ds ds1 (mw fa)):=⟨Hr hK hg hm ha.h hs hs2⟩
end
section
variable {X:Cx} {K:PySem.W.Frag} {p:Bool} {ds ds1:List Nat} {d1:Nat} {e:Expr} {f:ME}
end
section
variable {X:Cx} {K:PySem.W.Frag} {p p1 p2:Bool} {ds ds1 ds2:List Nat} {d d1:Nat} {e:Expr} {f:ME} {fa:MA} {sh:Sh} {σ:St} {H:Hp} {Q:VK}
theorem cG {o:Expr} {es:List Expr} {name:Str} {id:String} {apos cpos:Pos} {r:V→List V→Hp→VK→Prop} {g:Str→List D→Option D} (hK:X.K=K) (slot:Slot "str" name id) (hty:typeOf (.builtin id)=pure (.type "method_descriptor")) (hm:MtR X id r) (hr:MtF K r g) (ho:QE X o (tF K p ds ds1 d1 f)) (ha:QA X (e :: es) (tFA K p ds1 ds2 sh fa)) (hsh:ci 0 sh=true) (hbase:attributeBase o name X.env (eval o X.env)=eval o X.env) (hfew:((backTo cpos (starEach (e :: es) X.env)).all (fun x=>!x.1) && (backToKw cpos (keywordEach [] X.env)).all (fun x=>x.1.isSome)
   && decide ((e :: es).length+([]:List Keyword).length+(if ([]:List Keyword).isEmpty then 0 else 1) < 30))=true) (hline:(apos.endLine == cpos.line)=true) (hs:starEach (e :: es) X.env=(false,eval e X.env) :: starEach es X.env) (hplain:(backTo cpos (starEach es X.env)).any (·.1)=false):QE X (.Call (.Attribute o name apos) (e :: es) [] cpos) (tF K p ds ds2 3 (eM g f fa)):=⟨DK hK slot hty hm hr ho.h ha.h hsh hbase hfew hline hs hplain⟩
end
section
variable {X:Cx} {K:PySem.W.Frag} {p p1 p2:Bool} {J:Jd} {ds ds1 ds2:List Nat} {H:Hp} {σ:St} {d d1 d2 i m:Nat} {f fk fe:ME} {mp:MP} {e b o:Expr} {Q:VK}
theorem uH {x:Str} {px:Pos} (hN:X.N[i]?=some x) (hv:Vis X.env.scope x) (hd:(x == ("__debug__" : Str))=false) (hcd:(x == ("__classdict__" : Str))=false):QE X (.Name x px) (tP K true ds ds i 0 (m5 i)):=⟨Dv hN hv hd hcd⟩
theorem wg {pos:Pos} (hK:X.K=K) (hd:ds2[i]?=some d) (ho:QE X o (tP K p1 ds ds1 i m mp)) (hb:QE X b (tF K p2 ds1 ds2 d1 f)) (hz:dns m d≠0) (hpu:p2=true∨m=0) (hs:fF b):QE X (.Subscript o b pos) (tP K (p1 && p2) ds ds2 i (m+1) (pIx i mp f)):=⟨Hl hK hd ho.h hb.h hz hpu hs⟩
end
section
variable {X:Cx} {K:PySem.W.Frag} {p p1 p2:Bool} {ds ds1 ds2:List Nat} {d d1 d2:Nat} {e k:Expr} {f f1 f2:ME} {fa:MA} {sh:Sh} {σ:St} {H:Hp} {Q Q':VK} {pos pos2 px py:Pos}
end
section
variable {X:Cx} {K:PySem.W.Frag} {p p1 p2:Bool} {ds ds1 ds2:List Nat} {d d1 d2:Nat} {a b:Expr} {f f1 f2:ME} {σ:St} {H:Hp} {Q Q':VK} {pos:Pos} {ta tb:TE} {rest:List Expr}
end
section
variable {X:Cx} {K:PySem.W.Frag} {p p1 p2:Bool} {ds ds1 ds2:List Nat} {d d1 d2:Nat} {a b:Expr} {f f1 f2:ME} {σ:St} {H:Hp} {Q Q':VK} {pos:Pos}
end
section
variable {X:Cx} {K:PySem.W.Frag} {p p1 p2:Bool} {ds ds1 ds2:List Nat} {d d1 d2:Nat} {e:Expr} {f f1 f2:ME} {σ:St} {H:Hp} {Q Q':VK}
end
section
variable {X:Cx} {K:PySem.W.Frag} {p:Bool} {ds ds1 ds2:List Nat} {d d1 d2:Nat} {e:Expr} {f f1 f2:ME} {σ:St} {H:Hp} {Q Q':VK}
end
section
variable {X:Cx} {K:PySem.W.Frag} {p p1 p2:Bool} {ds ds1 ds2:List Nat} {d d1 d2:Nat} {e k:Expr} {f f1 f2:ME} {fa:MA} {sh:Sh} {σ:St} {H:Hp} {Q Q':VK} {pos pos2 px py:Pos}
end
section
variable {X:Cx} {K:PySem.W.Frag} {p p1 p2:Bool} {ds ds1 ds2:List Nat} {d d1 d2:Nat} {e:Expr} {f f1 f2:ME} {σ:St} {H:Hp} {Q Q':VK} {i:Nat}
end
section
variable {X:Cx} {K:PySem.W.Frag} {p p1 p2 q:Bool} {J:Jd} {ds ds0 ds1 ds2 ds' dsi dps:List Nat} {d d' d1 d2 dr:Nat} {a b c e tg iter:Expr} {es:List Expr} {st:Stmt} {rest body bodyB:List Stmt} {f f1 f2 fk fe:ME} {c1 c2:MT} {fa:MA} {sh:Sh} {pos px:Pos} {i:Nat} {x:Str} {m m1 m2:MS} {g:MG} {gs:List D→En→Option En} {fi:MI} {lk:List Nat}
end
section
variable {X:Cx} {K:PySem.W.Frag} {p:Bool} {ds ds1:List Nat} {d:Nat} {fa:MA} {sh:Sh} {O O1:AS} {H0 H:Hp} {ts us:List D} {vs ws:List V} {a b:Addr}
end
section
variable {X:Cx} {K:PySem.W.Frag} {J:Jd} {lk ds ds0 ds1 ds2 ds':List Nat} {e tg:Expr} {es:List Expr} {f:ME} {pos px:Pos} {i:Nat} {g:MG} {gs:List D→En→Option En}
end
section
variable {X:Cx} {K:PySem.W.Frag} {p:Bool} {ds:List Nat} {k v:Expr} {fk fv:ME} {pos:Pos} {σ:St} {H:Hp} {Q:VK} {O:AS}
end
end L2
namespace L2
open PySem PySem.Spec PyProof.Rows
theorem Fun.okQ {P:Program} {w:World} {K:PySem.W.Frag} {mg:Str→Option Value} {base:Heap} {x qual:Str} {st:Stmt} {f:Addr} {fd:FuncData} {N ps:List Str} {k n dr:Nat} {dps ds0:List Nat} {J:Jd} {b:MS}
  (F:Fun K x qual st f fd) (S:FnScope N ps (ao st)) (hl:dps.length=ps.length) (hn:N.length - dps.length=n) (hJ:J=⟨pH dps,dps++List.replicate n 0,dr,[]⟩) (hd:ds0=dps++List.replicate n 0)
  (hb:∀ (cdv:Value) (A:Around) (outer:List Env) (s:Shared) (H:Hp) (E:XK),Room k (A.deeper (envOfC qual (ao st) s.heap.objs.size f cdv)) →
   QSs (lJ CX0 P w K mg base N qual (ao st) f cdv A outer s H E).nox (cT st) (tFS K J ds0 ds0 b)):FnOk P w K mg base CX0 (k+1) f fd ps (spF K dps dr (fnF n dps b)):=by
 subst hJ hd
 exact F.ok S (fun vs H Q E h=>Cu hl h) fun cdv A outer s H vs Q E hr h=>⟨_,(hb cdv A outer s H E hr).h,DD hn h⟩
def GP (F:List D→Option (D × En)):Prop:=∀ ns:List Int,ns.length≤63→∃ outs,F [.list (ns.map .int)]=some (.bool true,outs)
def ma (K:PySem.W.Frag):Sp:=fun vs H Q _=>∃ (a:Addr) (ns:List Int),vs=[.ref a]∧SqL K H a (ns.map V.int)∧(∀ b,H b=none∨∃ o xs,H b=some (.frz o (.lst xs)))∧ns.length≤63∧∀ H':Hp,Q (.bl true) H'
theorem k8 {K:PySem.W.Frag} {O:AS} {H:Hp}:∀ ns:List Int,Ows K O H (ns.map .int) 0 (ns.map V.int) NoA
 | []=>rfl
 | n :: r=>⟨.int n,r.map V.int,NoA,NoA,rfl,fun _ z=>z,fun _ z=>z,fun _ z=>z.elim,rfl,k8 r⟩
theorem GO {K:PySem.W.Frag} {dr:Nat} {F:List D→Option (D × En)} (h:GP F) {vs:List V} {H:Hp} {Q:VK} {E:XK} (q:ma K vs H Q E):spF K [0] dr F vs H Q E:=by
 obtain ⟨a,ns,rfl,hs,_,hl,q⟩:=q
 obtain ⟨outs,e⟩:=h ns hl
 have fz:FzL K (fun _=>False) H a (ns.map V.int):=by
  rcases hs with hs | hs
  ·exact .inl ⟨hs,fun z=>z⟩
  ·exact .inr fun H'=>.inr hs
 have eO:Own (fun _=>NoA) NoA=(fun _=>False):=eo fun b=>⟨fun z=>z.elim (fun ⟨_,z⟩=>z) fun z=>z,fun z=>z.elim⟩
 refine ⟨NoA,[.list (ns.map .int)],fun _=>NoA,.bool true,outs,⟨fun i t hi=>?_,fun _ _ _ z=>z.elim,fun _ _ z=>z.elim,fun b z=>?_,rfl,rfl⟩,e,fun v H' R' Fr _ o=>?_⟩
 ·cases i with
  | zero =>
   have:t=.list (ns.map .int):=by
    have h2:some (some (PyData.list (ns.map .int)))=some (some t):=hi
    injection h2 with h3
    injection h3 with h4
    exact h4.symm
   subst this
   refine ⟨.ref a,0,rfl,rfl,?_⟩
   rw [eO]
   exact ⟨a,ns.map V.int,rfl,.inl ⟨rfl,fz,k8 ns⟩⟩
  | succ i=>simp at hi
 ·rw [eO] at z
  exact z.elim
 ·rw [show v=.bl true from o]
  exact q H'
end L2
namespace L2
open PySem PySem.Spec PyProof.Rows
inductive All2 (r:D→D→Prop):List D→List D→Prop
 | nil:All2 r [] []
 | cons {a b:D} {as bs:List D} (h:r a b) (t:All2 r as bs):All2 r (a :: as) (b :: bs)
section
variable {c:MT} {b:MS} {en en1 en2:En} {fl:Fl} {t:D}
theorem jg:∀ {n m:Nat} {en:En} {fl:Fl},whN c b n en=some fl→n≤m→whN c b m en=some fl
 | 0,_,_,_,h,_=>by cases h
 | n+1,0,_,_,_,h=>by omega
 | n+1,m+1,en,fl,h,hm=>by
  unfold whN at h ⊢
  obtain ⟨r,h1,h⟩:=Option.bind_eq_some_iff.mp h
  rw [h1]
  show (if r.1=true then _ else _)=_
  by_cases hr:r.1=true
  ·rw [if_pos hr] at h ⊢
   obtain ⟨f1,h2,h⟩:=Option.bind_eq_some_iff.mp h
   rw [h2]
   cases f1 with
   | nx e=>exact jg (n:=n) (m:=m) h (by omega)
   | ct e=>exact jg (n:=n) (m:=m) h (by omega)
   | rt t e=>exact h
  ·rw [if_neg hr] at h ⊢
   exact h
theorem ig {n:Nat} (h:whN c b n en=some fl):bq c b en=some fl:=by
 have q:∃ n fl,whN c b n en=some fl:=⟨n,fl,h⟩
 unfold bq
 rw [dif_pos q]
 have h2:=q.choose_spec.choose_spec
 have h3:=jg h (Nat.le_max_left n q.choose)
 have h4:=jg h2 (Nat.le_max_right n q.choose)
 rw [h3] at h4
 exact h4.symm
theorem k5 (h:c en=some (false,en1)):bq c b en=some (.nx en1):=by
 refine ig (n:=1) ?_
 unfold whN
 rw [h]
 rfl
theorem k6 (h:c en=some (true,en1)) (h1:b en1=some (.nx en2)) (h2:bq c b en2=some fl):bq c b en=some fl:=by
 obtain ⟨n,h3⟩:=iC h2
 refine ig (n:=n+1) ?_
 unfold whN
 rw [h]
 show (b en1).bind _=_
 rw [h1]
 exact h3
theorem q0 {g:MG} {c:MT} {f:ME} (I:Nat→En→Prop) (r:D→D→Prop) {N:Nat} (hs:∀ n t en,n < N→I n en→∃ en1 en2 q en3,g t en=some en1∧c en1=some (true,en2)∧f en2=some (q,en3)∧I (n+1) en3∧r t q) :
  ∀ (ts acc:List D) (n:Nat) (en:En),I n en→n+ts.length≤N→acc.length+ts.length≤sizeLine→∃ us en',lcF g c f ts acc en=some (acc++us,en')∧I (n+ts.length) en'∧All2 r ts us
 | [],acc,n,en,hi,_,_=>⟨[],en,by rw [List.append_nil]; rfl,hi,.nil⟩
 | t :: ts,acc,n,en,hi,hN,hl=>by
  have hN':n+(ts.length+1)≤N:=hN
  obtain ⟨en1,en2,q,en3,h1,h2,h3,h4,h5⟩:=hs n t en (by omega) hi
  have hl':acc.length+(ts.length+1)≤sizeLine:=hl
  obtain ⟨us,en',h6,h7,h8⟩:=q0 I r hs ts (acc++[q]) (n+1) en3 h4 (by omega) (by rw [List.length_append]; show acc.length+1+_≤_; omega)
  refine ⟨q :: us,en',?_,by rw [show n+(t :: ts).length=n+1+ts.length by show n+(ts.length+1)=_; omega]; exact h7,.cons h5 h8⟩
  unfold lcF
  rw [h1]
  show (c en1).bind _=_
  rw [h2]
  show (f en2).bind _=_
  rw [h3]
  show (if acc.length < sizeLine then _ else _)=_
  rw [if_pos (by omega),h6]
  simp
theorem All2.ex {α:Type} {h:α→D} {Q:α→Prop}:∀ {ts us:List D},All2 (fun _ q=>∃ o,q=h o∧Q o) ts us→∃ os:List α,us=os.map h∧os.length=ts.length∧∀ o∈os,Q o
 | _,_,.nil=>⟨[],rfl,rfl,fun _ z=>by cases z⟩
 | _,_,.cons ⟨o,e,q⟩ t=>by
  obtain ⟨os,e1,e2,e3⟩:=All2.ex t
  refine ⟨o :: os,by rw [e,e1]; rfl,by show os.length+1=_+1; rw [e2],fun x hx=>?_⟩
  rcases List.mem_cons.mp hx with rfl | hx
  ·exact q
  ·exact e3 x hx
theorem eX {c:MT} {f:ME} {p:D→Bool} {F:D→D} {rest:En}:∀ (ts acc:List D) (o:Option D),(∀ t∈ts,c (some t :: rest)=some (p t,some t :: rest))→(∀ t∈ts,p t=true→f (some t :: rest)=some (F t,some t :: rest))→acc.length+ts.length≤sizeLine →
  ∃ o',lcF (gN 0) c f ts acc (o :: rest)=some (acc++(ts.filter p).map F,o' :: rest)
 | [],acc,o,_,_,_=>⟨o,by simp [lcF]⟩
 | t :: ts,acc,o,hc,hf,hl=>by
  have hl':acc.length+(ts.length+1)≤sizeLine:=hl
  cases hp:p t with
  | true =>
   obtain ⟨o',h⟩:=eX (c:=c) (f:=f) (p:=p) (F:=F) ts (acc++[F t]) (some t) (fun x hx=>hc x (List.mem_cons_of_mem _ hx)) (fun x hx=>hf x (List.mem_cons_of_mem _ hx)) (by rw [List.length_append]; show acc.length+1+_≤_; omega)
   refine ⟨o',?_⟩
   unfold lcF
   show ((c (some t :: rest)).bind _)=_
   rw [hc t List.mem_cons_self,hp]
   show ((f (some t :: rest)).bind _)=_
   rw [hf t List.mem_cons_self hp]
   show (if acc.length < sizeLine then _ else _)=_
   rw [if_pos (by omega)]
   dsimp only
   rw [h,List.filter_cons_of_pos hp]
   simp
  | false =>
   obtain ⟨o',h⟩:=eX (c:=c) (f:=f) (p:=p) (F:=F) ts acc (some t) (fun x hx=>hc x (List.mem_cons_of_mem _ hx)) (fun x hx=>hf x (List.mem_cons_of_mem _ hx)) (by omega)
   refine ⟨o',?_⟩
   unfold lcF
   show ((c (some t :: rest)).bind _)=_
   rw [hc t List.mem_cons_self,hp]
   show lcF (gN 0) c f ts acc (some t :: rest)=_
   rw [h,List.filter_cons_of_neg (by rw [hp]; decide)]
theorem kL {f:ME} {F:D→D} {rest:En} (ts acc:List D) (o:Option D) (hf:∀ t∈ts,f (some t :: rest)=some (F t,some t :: rest)) (hl:acc.length+ts.length≤sizeLine) :
  ∃ o',lcF (gN 0) cY f ts acc (o :: rest)=some (acc++ts.map F,o' :: rest):=by
 obtain ⟨o',h⟩:=eX (c:=cY) (f:=f) (p:=fun _=>true) (F:=F) ts acc o (fun _ _=>rfl) (fun t ht _=>hf t ht) hl
 rw [List.filter_eq_self.mpr (fun _ _=>rfl)] at h
 exact ⟨o',h⟩
theorem wl {g:MG} {b:MS} (I:Nat→En→Prop) {ts:List D} (hs:∀ i t en,ts[i]?=some t→I i en→∃ en1 en2,g t en=some en1∧(b en1=some (.nx en2)∨b en1=some (.ct en2))∧I (i+1) en2) {en:En} (h0:I 0 en) :
  ∃ en',cB g b ts en=some (.nx en')∧I ts.length en':=by
 suffices ∀ (us:List D) (i:Nat) (en:En),ts.drop i=us→i≤ts.length→I i en→∃ en',cB g b us en=some (.nx en')∧I ts.length en' from this ts 0 en rfl (Nat.zero_le _) h0
 intro us
 induction us with
 | nil =>
  intro i en hu hi h
  refine ⟨en,rfl,?_⟩
  have:ts.length - i=0:=by rw [← List.length_drop,hu]; rfl
  rw [show ts.length=i by omega]
  exact h
 | cons t us ih =>
  intro i en hu hi h
  have ht:ts[i]?=some t:=by
   have:(ts.drop i)[0]?=some t:=by rw [hu]; rfl
   rw [List.getElem?_drop] at this
   exact this
  obtain ⟨en1,en2,h1,h2,h3⟩:=hs i t en ht h
  have hl:i < ts.length:=(List.getElem?_eq_some_iff.mp ht).1
  have hd:ts.drop (i+1)=us:=by rw [← List.drop_drop,hu]; rfl
  obtain ⟨en',h4,h5⟩:=ih (i+1) en2 hd hl h3
  refine ⟨en',?_,h5⟩
  unfold cB
  rw [h1]
  show (b en1).bind _=_
  rcases h2 with h2 | h2
  ·rw [h2]; exact h4
  ·rw [h2]; exact h4
end
section
variable {c c1 c2:MT} {m1 m2 b:MS} {en en1 en2:En} {fl:Fl} {t t1 t2 u:D} {f f1 f2:ME} {g:D→D→Option D} {fa:MA} {i n:Nat} {x y:Bool} {F:List D→Option (D × En)} {as:List (D ⊕ Nat)} {ts:List D} {outs:En} {dps:List Nat}
theorem aE (h1:m1 en=some (.nx en1)) (h2:m2 en1=some fl):al m1 m2 en=some fl:=by unfold al; rw [h1]; exact h2
theorem jd (h1:m1 en=some (.rt t en1)):al m1 m2 en=some (.rt t en1):=by unfold al; rw [h1]; rfl
theorem eZ {b:Bool} (h1:c en=some (b,en1)) (hb:b=true) (h2:m1 en1=some fl):sIf c m1 m2 en=some fl:=by unfold sIf; rw [h1,hb]; exact h2
theorem ko {b:Bool} (h1:c en=some (b,en1)) (hb:b=false) (h2:m2 en1=some fl):sIf c m1 m2 en=some fl:=by unfold sIf; rw [h1,hb]; exact h2
theorem b9 (h:f en=some (t,en1)) (he:en1.set i (some t)=en2):ap i f en=some (.nx en2):=by unfold ap; rw [h,← he]; rfl
theorem pZ (h:f en=some (t,en1)):bN f en=some (.nx en1):=by unfold bN; rw [h]; rfl
theorem jz (h:f en=some (t,en1)):aF f en=some (.rt t en1):=by unfold aF; rw [h]; rfl
theorem be (h1:f1 en=some (t1,en1)) (h2:f2 en1=some (t2,en2)) (h:g t1 t2=some u):e2 g f1 f2 en=some (u,en2):=by
 unfold e2
 rw [h1]
 show (f2 en1).bind _=_
 rw [h2]
 show (g t1 t2).map _=_
 rw [h]
 rfl
theorem pY {b:Bool} (h1:c1 en=some (b,en1)) (hb:b=true):bOr c1 c2 en=some (true,en1):=by unfold bOr; rw [h1,hb]; rfl
theorem mC {b:Bool} {r:Bool × En} (h1:c1 en=some (b,en1)) (hb:b=false) (h2:c2 en1=some r):bOr c1 c2 en=some r:=by unfold bOr; rw [h1,hb]; exact h2
theorem rm {b:Bool} {r:Bool × En} (h1:c1 en=some (b,en1)) (hb:b=true) (h2:c2 en1=some r):cD c1 c2 en=some r:=by unfold cD; rw [h1,hb]; exact h2
theorem rp {b:Bool} (h1:c1 en=some (b,en1)) (hb:b=false):cD c1 c2 en=some (false,en1):=by unfold cD; rw [h1,hb]; rfl
theorem iq {b:Bool} (h:f en=some (.bool b,en1)):tV f en=some (b,en1):=by unfold tV; rw [h]; rfl
theorem gP (h1:fa en=some (as,en1)) (h2:dq as en1=some ts) (h:F ts=some (t,outs)) (hw:wb as outs en1=en2):aq F fa en=some (t,en2):=by
 subst hw
 unfold aq
 rw [h1]
 show (dq as en1).bind _=_
 rw [h2]
 show (F ts).map _=_
 rw [h]
 rfl
theorem lH {g:List D→Option D} (h1:fa en=some (as,en1)) (h2:vals as=some ts) (h:g ts=some t):eN g fa en=some (t,en1):=by
 unfold eN
 rw [h1]
 show (vals as).bind _=_
 rw [h2]
 show (g ts).map _=_
 rw [h]
 rfl
theorem ee {r:MA} (h1:f en=some (t,en1)) (h2:r en1=some (as,en2)):ae f r en=some (.inl t :: as,en2):=by
 unfold ae
 rw [h1]
 show (r en1).map _=_
 rw [h2]
 rfl
theorem mD (h1:fa en=some (as,en1)) (h2:vals as=some ts) (h:ts.length≤sizeLine):bo fa en=some (.list ts,en1):=by
 unfold bo
 rw [h1]
 show (vals as).bind _=_
 rw [h2]
 exact if_pos h
theorem HU (h1:fa en=some (as,en1)) (h2:vals as=some ts) (h:ts.length≤sizeLine):e8 fa en=some (.tuple ts,en1):=by
 unfold e8
 rw [h1]
 show (vals as).bind _=_
 rw [h2]
 exact if_pos h
theorem p0 {us:List D} (h0:en[i]?=some (some (.list ts))) (h1:f en=some (t,en1)) (h2:en1[i]?=some (some (.list us))) (h:us.length < sizeLine) (he:en1.set i (some (.list (us++[t])))=en2):bQ i f en=some (.none,en2):=by
 unfold bQ
 rw [h0]
 show (f en).bind _=_
 rw [h1]
 show (match (en1[i]?).join with
  | some (.list ts)=>if ts.length < sizeLine then some (PyData.none,en1.set i (some (.list (ts++[t])))) else none
  | _=>none)=_
 rw [h2,← he]
 exact if_pos h
theorem mE {fi:MI} {g:MG} {js:List (Option Nat)} {q:Bool} {us:List D} {ex:En} (h1:fi en=some (ts,en1)) (h2:lcF g c f ts [] (ck js en1)=some (us,ex)) (he:(if q then en1 else wbB js ex en1)=en2):eLC q fi g c f js en=some (.list us,en2):=by
 unfold eLC
 rw [h1]
 show (lcF g c f ts [] (ck js en1)).map _=_
 rw [h2,← he]
 rfl
theorem HW {fi:MI} {g:MG} (h1:fi en=some (ts,en1)) (h2:cB g b ts en1=some fl):c9 fi g b en=some fl:=by
 unfold c9
 rw [h1]
 exact h2
theorem ba:100≤sizeLine:=by rw [sizeLine_eq]; decide
theorem cC (h:b (ts.map some++List.replicate n none)=some (.rt t en)):fnF n dps b ts=some (t,msk dps en):=by
 unfold fnF
 rw [h]
 rfl
end
namespace Pen2
def eS:MS:=(aF (kR [((eC (.str "script")),(ad 0)),((eC (.str "at")),(ad 1)),((eC (.str "left")),(eC (.int 0)))]))
def cr:List D→Option (D × En):=fnF 0 [0,0] eS
def dZ:MS:=(al (ap 2 (e2 bw (e2 bO (e2 a9 (e2 a9 (e2 bw (ad 0) (eC (.int 2147483629))) (e2 bO (eC (.int 40503)) (ad 1))) (eC (.int 24691))) (eC (.int 48271))) (eC (.int 2147483647))))
 (al (ap 3 (e2 bw (e2 a9 (e2 a9 (e2 bO (ad 2) (ad 2)) (e2 bO (eC (.int 69621)) (ad 2))) (ad 1)) (eC (.int 2147483629))))
 (aF (e2 cJ (e2 bw (e2 a9 (e2 a9 (e2 bO (ad 3) (ad 3)) (e2 bO (eC (.int 16807)) (ad 3))) (e2 bO (eC (.int 31)) (ad 1))) (eC (.int 1073741789))) (eC (.int 64))))))
def bZ:List D→Option (D × En):=fnF 2 [0,0] dZ
def gD:MS:=(al (ap 2 (bD 0 (eC (.str "at"))))
 (al (ap 3 (bD 0 (eC (.str "script"))))
 (al (sIf (tV (e2 eqD (bD 0 (eC (.str "left"))) (eC (.int 0)))) (al (de 0 (eC (.str "at")) (e2 a9 (ad 2) (eC (.int 1))))
 (al (ap 4 (eC (.int 0)))
 (al (sIf (tV (e2 gtI (eN bc (ae (ad 3) ai)) (eC (.int 0)))) (ap 4 (e2 ixA (ad 3) (e2 bw (ad 2) (eN bc (ae (ad 3) ai))))) bt)
 (al (sIf (bOr (tV (e2 geI (ad 2) (eN bc (ae (ad 3) ai)))) (tV (e2 ltI (eN jD (ae (ad 4) ai)) (e2 m4 (eC (.int 10)) (eC (.int 18)))))) (aF (e2 bw (aq bZ (ae (ad 4) (ae (ad 2) ai))) (ad 1))) bt)
 (de 0 (eC (.str "left")) (eN jD (ae (ad 4) ai))))))) bt)
 (al (ap 5 (e2 bw (bD 0 (eC (.str "left"))) (ad 1)))
 (al (de 0 (eC (.str "left")) (e2 cJ (bD 0 (eC (.str "left"))) (ad 1)))
 (aF (ad 5)))))))
def ar:List D→Option (D × En):=fnF 4 [1,0] gD
def penD (ns:List Int) (k l:Int):D:=.dict [(.str "script",.list (ns.map .int)),(.str "at",.int k),(.str "left",.int l)]
theorem pC {c k:Int} (h0:0≤k) (h1:k≤1000000000):∃ r,bZ [.int c,.int k]=some (.int r,[none,none])∧0≤r:=by
 have a0:0≤c % 2147483629:=by omega
 have a1:c % 2147483629 < 2147483629:=by omega
 generalize g1:(c % 2147483629+40503 * k+24691) * 48271 % 2147483647=x
 have x0:0≤x:=by omega
 have x1:x < 2147483647:=by omega
 generalize g2:(x * x+69621 * x+k) % 2147483629=y
 have y0:0≤y:=by omega
 have y1:y < 2147483629:=by omega
 refine ⟨(y * y+16807 * y+31 * k) % 1073741789 / 64,?_,by omega⟩
 have c1:CMul 40503 k:=.inl (by decide)
 have c2:CMul (c % 2147483629+40503 * k+24691) 48271:=.inr (by decide)
 have c3:CMul x x:=.inl (by constructor <;> omega)
 have c4:CMul 69621 x:=.inl (by decide)
 have c5:CMul y y:=.inl (by constructor <;> omega)
 have c6:CMul 16807 y:=.inl (by decide)
 have c7:CMul 31 k:=.inl (by decide)
 have c8:∀ z,gq z 64:=fun z=>by unfold gq; decide
 simp [bZ,fnF,dZ,al,ap,aF,e2,ad,eC,bw,bO,a9,cJ,fw,c1,c2,c3,c4,c5,c6,c7,c8,g1,g2,msk]
theorem take_ok {ns:List Int} {k l m:Int} (h0:0≤k) (h1:k≤1000000000) (h2:0≤l) (h3:0 < m) (h4:m < 1073741824) :
  ∃ r k' l',ar [penD ns k l,.int m]=some (.int r,[some (penD ns k' l'),none])∧0≤r∧r < m∧k≤k'∧k'≤k+1∧0≤l':=by
 have cd:∀ z,gq z m:=fun z=>⟨h3,h4⟩
 have cp:jQ 10 18:=by unfold jQ; decide
 have md:∀ z,bw (.int z) (.int m)=some (.int (z % m)):=fun z=>if_pos h3
 have dv:∀ z,cJ (.int z) (.int m)=some (.int (z / m)):=fun z=>if_pos (cd z)
 have last:∀ (k' b:Int) (x y z:Option D),(al (ap 5 (e2 bw (bD 0 (eC (.str "left"))) (ad 1)))
   (al (de 0 (eC (.str "left")) (e2 cJ (bD 0 (eC (.str "left"))) (ad 1)))
   (aF (ad 5)))) [some (penD ns k' b),some (.int m),x,y,z,none]=some (.rt (.int (b % m)) [some (penD ns k' (b / m)),some (.int m),x,y,z,some (.int (b % m))]):=by
  intro k' b x y z
  refine aE (en1:=[some (penD ns k' b),some (.int m),x,y,z,some (.int (b % m))]) (b9 (be (t1:=.int b) (t2:=.int m) rfl rfl (md b)) rfl) (aE (en1:=[some (penD ns k' (b / m)),some (.int m),x,y,z,some (.int (b % m))]) ?_ rfl)
  unfold de
  rw [be (t1:=.int b) (t2:=.int m) (f1:=bD 0 (eC (.str "left"))) (f2:=ad 1) (g:=cJ) (en:=[some (penD ns k' b),some (.int m),x,y,z,some (.int (b % m))]) (en1:=[some (penD ns k' b),some (.int m),x,y,z,some (.int (b % m))]) (en2:=[some (penD ns k' b),some (.int m),x,y,z,some (.int (b % m))]) rfl rfl (dv b)]
  rfl
 by_cases hl:l=0
 ·subst hl
  by_cases hn:ns.length=0
  ·have hns:ns=[]:=List.length_eq_zero_iff.mp hn
   subst hns
   obtain ⟨r,e,hr⟩:=pC (c:=0) h0 h1
   refine ⟨r % m,k+1,0,?_,Int.emod_nonneg _ (by omega),Int.emod_lt_of_pos _ h3,by omega,by omega,by omega⟩
   refine cC (en:=[some (penD [] (k+1) 0),some (.int m),some (.int k),some (.list []),some (.int 0),none]) (aE rfl (aE rfl (jd (eZ (b:=true) rfl rfl (aE (en1:=[some (penD [] (k+1) 0),some (.int m),some (.int k),some (.list []),none,none]) rfl (aE rfl (aE rfl (jd (eZ (b:=true) (pY (b:=decide ((0:Int)≤k)) rfl (decide_eq_true h0)) rfl (jz (be (en1:=[some (penD [] (k+1) 0),some (.int m),some (.int k),some (.list []),some (.int 0),none]) (t2:=.int m) (gP (as:=[.inl (.int 0),.inl (.int k)]) (en1:=[some (penD [] (k+1) 0),some (.int m),some (.int k),some (.list []),some (.int 0),none]) rfl rfl e rfl) rfl (md r))))))))))))
  ·obtain ⟨j,ej⟩:∃ j:Nat,ixN ns.length (k % ns.length)=some j∧j < ns.length:=by
    have q1:0≤k % (ns.length:Int):=Int.emod_nonneg _ (by omega)
    have q2:k % (ns.length:Int) < ns.length:=Int.emod_lt_of_pos _ (by omega)
    exact ⟨(k % (ns.length:Int)).toNat,by unfold ixN; rw [if_pos q1,if_pos q2],by omega⟩
   obtain ⟨c,ec⟩:∃ c,ns[j]?=some c:=⟨_,List.getElem?_eq_getElem ej.2⟩
   have at1:ixA (.list (ns.map .int)) (.int (k % ns.length))=some (.int c):=by
    show atI _ _=_
    unfold atI
    rw [List.length_map,ej.1]
    show (ns.map PyData.int)[j]?=_
    rw [List.getElem?_map,ec]
    rfl
   have hn1:(0:Int) < ns.length:=by omega
   have len:bc [.list (ns.map .int)]=some (.int ns.length):=by show some (PyData.int (ns.map PyData.int).length)=_; rw [List.length_map]
   have ml:bw (.int k) (.int ns.length)=some (.int (k % ns.length)):=if_pos hn1
   obtain ⟨r,e,hr⟩:=pC (c:=c) h0 h1
   obtain ⟨b,ab,b0⟩:∃ b,jD [.int c]=some (.int b)∧0≤b:=⟨if c < 0 then -c else c,rfl,by split <;> omega⟩
   have pw:m4 (.int 10) (.int 18)=some (.int 1000000000000000000):=by
    show (if jQ 10 18 then some (PyData.int (10 ^ Int.toNat 18)) else none)=_
    rw [if_pos cp]; rfl
   have ln:∀ (x y:Option D) (p:D),(eN bc (ae (ad 3) ai)) [some p,some (.int m),x,some (.list (ns.map .int)),y,none]=some (.int ns.length,[some p,some (.int m),x,some (.list (ns.map .int)),y,none]):=fun x y p=>lH rfl rfl len
   have pre:∀ (x y:Option D) {m2:MS} {fl:Fl},m2 [some (penD ns (k+1) 0),some (.int m),some (.int k),some (.list (ns.map .int)),some (.int c),none]=some fl→(al (de 0 (eC (.str "at")) (e2 a9 (ad 2) (eC (.int 1))))
 (al (ap 4 (eC (.int 0)))
 (al (sIf (tV (e2 gtI (eN bc (ae (ad 3) ai)) (eC (.int 0)))) (ap 4 (e2 ixA (ad 3) (e2 bw (ad 2) (eN bc (ae (ad 3) ai))))) bt) m2))) [some (penD ns k 0),some (.int m),some (.int k),some (.list (ns.map .int)),none,none]=some fl:=by
    intro x y m2 fl h
    refine aE (en1:=[some (penD ns (k+1) 0),some (.int m),some (.int k),some (.list (ns.map .int)),none,none]) rfl (aE (en1:=[some (penD ns (k+1) 0),some (.int m),some (.int k),some (.list (ns.map .int)),some (.int 0),none]) rfl (aE ?_ h))
    exact eZ (iq (be (ln _ _ _) rfl rfl)) (decide_eq_true hn1) (b9 (be rfl (be rfl (ln _ _ _) ml) at1) rfl)
   by_cases hq:(ns.length:Int)≤k∨b < 1000000000000000000
   ·refine ⟨r % m,k+1,0,?_,Int.emod_nonneg _ (by omega),Int.emod_lt_of_pos _ h3,by omega,by omega,by omega⟩
    refine cC (en:=[some (penD ns (k+1) 0),some (.int m),some (.int k),some (.list (ns.map .int)),some (.int c),none]) (aE rfl (aE rfl (jd (eZ (b:=true) rfl rfl (pre none none (jd (eZ (en1:=[some (penD ns (k+1) 0),some (.int m),some (.int k),some (.list (ns.map .int)),some (.int c),none]) (b:=true) ?_ rfl (jz (be (en1:=[some (penD ns (k+1) 0),some (.int m),some (.int k),some (.list (ns.map .int)),some (.int c),none]) (t2:=.int m) (gP (as:=[.inl (.int c),.inl (.int k)]) (en1:=[some (penD ns (k+1) 0),some (.int m),some (.int k),some (.list (ns.map .int)),some (.int c),none]) rfl rfl e rfl) rfl (md r))))))))))
    by_cases hq2:(ns.length:Int)≤k
    ·exact pY (iq (be rfl (ln _ _ _) rfl)) (decide_eq_true hq2)
    ·have hq3:=hq.resolve_left hq2
     exact mC (iq (be rfl (ln _ _ _) rfl)) (decide_eq_false hq2) (iq (be (lH rfl rfl ab) (be rfl rfl pw) (congrArg (fun q=>some (PyData.bool q)) (decide_eq_true hq3))))
   ·have hq1:¬ (ns.length:Int)≤k:=fun z=>hq (.inl z)
    have hq2:¬ b < 1000000000000000000:=fun z=>hq (.inr z)
    refine ⟨b % m,k+1,b / m,?_,Int.emod_nonneg _ (by omega),Int.emod_lt_of_pos _ h3,by omega,by omega,Int.ediv_nonneg b0 (by omega)⟩
    refine cC (aE rfl (aE rfl (aE (en1:=[some (penD ns (k+1) b),some (.int m),some (.int k),some (.list (ns.map .int)),some (.int c),none]) (eZ (b:=true) rfl rfl (pre none none (aE (ko (mC (iq (be rfl (ln _ _ _) rfl)) (decide_eq_false hq1) (iq (be (lH rfl rfl ab) (be rfl rfl pw) rfl))) (decide_eq_false hq2) rfl) ?_))) (last _ _ _ _ _))))
    unfold de
    rw [lH (fa:=ae (ad 4) ai) (en:=[some (penD ns (k+1) 0),some (.int m),some (.int k),some (.list (ns.map .int)),some (.int c),none]) (en1:=[some (penD ns (k+1) 0),some (.int m),some (.int k),some (.list (ns.map .int)),some (.int c),none]) rfl rfl ab]
    rfl
 ·refine ⟨l % m,k,l / m,?_,Int.emod_nonneg _ (by omega),Int.emod_lt_of_pos _ h3,Int.le_refl _,by omega,Int.ediv_nonneg h2 (by omega)⟩
  exact cC (aE rfl (aE rfl (aE (ko (b:=l == 0) rfl (beq_eq_false_iff_ne.mpr hl) rfl) (last k l _ _ _))))
theorem fC {ns:List Int} {k l m:Int} {i:Nat} {en:En} {fa:MA} (hp:en[i]?=some (some (penD ns k l))) (hf:fa en=some ([.inr i,.inl (.int m)],en)) (h0:0≤k) (h1:k≤1000000000) (h2:0≤l) (h3:0 < m) (h4:m < 1073741824) :
  ∃ r k' l',aq ar fa en=some (.int r,en.set i (some (penD ns k' l')))∧0≤r∧r < m∧k≤k'∧k'≤k+1∧0≤l':=by
 obtain ⟨r,k',l',e,q⟩:=take_ok (ns:=ns) h0 h1 h2 h3 h4
 refine ⟨r,k',l',gP hf (ts:=[penD ns k l,.int m]) ?_ e rfl,q⟩
 unfold dq
 rw [hp]
 rfl
end Pen2
end L2
namespace L2
open PySem PySem.Spec PyProof.Rows
theorem HZ (a b:Int):eqD (.int a) (.int b)=some (.bool (a == b)):=by
 show grd _ _=_
 unfold grd
 rw [if_pos ⟨rfl,rfl,Nat.zero_le _⟩]
 simp only [peq]
theorem GH (a b:Int):neD (.int a) (.int b)=some (.bool (!(a == b))):=by
 show grd _ _=_
 unfold grd
 rw [if_pos ⟨rfl,rfl,Nat.zero_le _⟩]
 simp only [peq]
end L2
namespace L2
open PySem PySem.Spec PyProof.Rows
structure Df (K:PySem.W.Frag) (x:Str) (st:Stmt) (f:Addr):Prop where
 a:PySem.W.nsIn K mainGlobals x=some (some (.ref f))
 l:∃ oc od kV dc pm an cd ct sl,K.lookup f=some ⟨oc,od,.func (PySem.W.fnOf x x (eQ st) (cT st) (ao st) .none kV dc pm an cd ct),sl⟩∧PySem.W.codeIn K cd x=true
 k:PySem.W.keepIn K (.ref f)=true
section
variable {P:Program} {w:World} {K:PySem.W.Frag} {mg:Str→Option Value} {base h:Heap} {k dr:Nat} {x:Str} {ps:List Str} {dps:List Nat} {f:Addr} {st:Stmt} {sp:Sp}
theorem Df.mk' {oc:Value} {od an:Option Addr} {sl:Array (Option Value)} {kV dc pm cd ct:Value} (a:PySem.W.nsIn K mainGlobals x=some (some (.ref f))) (l:K.lookup f=some ⟨oc,od,.func (PySem.W.fnOf x x (eQ st) (cT st) (ao st) .none kV dc pm an cd ct),sl⟩) (c:PySem.W.codeIn K cd x=true) (k:PySem.W.keepIn K (.ref f)=true):Df K x st f :=
 ⟨a,⟨oc,od,kV,dc,pm,an,cd,ct,sl,l,c⟩,k⟩
theorem Df.kn (d:Df K x st f) (X:K.In h) (G:h.Ns mainGlobals mg) (b:∀ (kV doc pm:Value) (an:Option Addr) (cdv ct:Value) (us:List Value),us.length=ps.length→bindArgs (PySem.W.fnOf x x (eQ st) (cT st) (ao st) .none kV doc pm an cdv ct) ⟨us,[]⟩=pure (ps.zip us))
  (ok:∀ fd,Fun K x x st f fd→FnOk P w K mg base CX0 k f fd ps sp):Kn P w K mg base k x ps sp:=by
 obtain ⟨_,_,_,_,_,_,_,_,_,l,c⟩:=d.l
 have F:=uB (st:=st) l c d.k
 exact ⟨_,_,ok _ F,PySem.W.mg_of X G d.a,d.k,F.binds b⟩
end
end L2
namespace L2
namespace Pen3
open PySem L2
theorem sl1000:1000≤sizeLine:=by rw [sizeLine_eq]; decide
def eS:MS:=(al (ap 2 (eC (.int 0)))
 (al (sIf (tV (e2 gtI (eN bc (ae (ad 0) ai)) (eC (.int 0)))) (ap 2 (e2 ixA (ad 0) (e2 bw (ad 1) (eN bc (ae (ad 0) ai))))) bt)
 (al (sIf (cD (tV (e2 ltI (ad 1) (eN bc (ae (ad 0) ai)))) (tV (e2 geI (eN jD (ae (ad 2) ai)) (e2 m4 (eC (.int 10)) (eC (.int 18)))))) (aF (bo (ae (eN jD (ae (ad 2) ai)) (ae (eC (.int 0)) (ae (eC (.int 0)) ai))))) bt)
 (aF (bo (ae (eC (.int 0)) (ae (e2 a9 (e2 bw (ad 2) (eC (.int 999999937))) (e2 bO (eC (.int 70001)) (ad 1))) (ae (eC (.int 0)) ai))))))))
def cr:List D→Option (D × En):=fnF 1 [0,0] eS
def jV:MS:=(al (sIf (tV (e2 gtI (da 0 (eC (.int 0))) (eC (.int 0)))) (al (ap 2 (e2 bw (da 0 (eC (.int 0))) (ad 1)))
 (al (eV 0 (eC (.int 0)) (e2 cJ (da 0 (eC (.int 0))) (ad 1)))
 (aF (ad 2)))) bt)
 (al (eV 0 (eC (.int 2)) (e2 a9 (da 0 (eC (.int 2))) (eC (.int 1))))
 (al (ap 3 (e2 bw (e2 a9 (e2 a9 (e2 bO (da 0 (eC (.int 1))) (eC (.int 48271))) (e2 bO (da 0 (eC (.int 2))) (eC (.int 39373)))) (eC (.int 11))) (eC (.int 2147483647))))
 (al (ap 3 (e2 bw (e2 bO (ad 3) (e2 a9 (e2 bw (ad 3) (eC (.int 65521))) (da 0 (eC (.int 2))))) (eC (.int 2147483629))))
 (aF (e2 bw (e2 cJ (ad 3) (eC (.int 64))) (ad 1)))))))
def F_law_draw:List D→Option (D × En):=fnF 2 [1,0] jV
def eW (a b c:Int):D:=.list [.int a,.int b,.int c]
def IsPen (t:D):Prop:=∃ a b c,t=eW a b c
theorem draw_ok {p:D} {m:Int} (hp:IsPen p) (h3:0 < m) (h4:m < 1073741824):∃ r p',F_law_draw [p,.int m]=some (.int r,[some p',none])∧0≤r∧r < m∧IsPen p':=by
 obtain ⟨a,b,c,rfl⟩:=hp
 have cd:∀ z,gq z m:=fun z=>⟨h3,h4⟩
 have md:∀ z,bw (.int z) (.int m)=some (.int (z % m)):=fun z=>if_pos h3
 have dv:∀ z,cJ (.int z) (.int m)=some (.int (z / m)):=fun z=>if_pos (cd z)
 by_cases ha:0 < a
 ·refine ⟨a % m,eW (a / m) b c,?_,Int.emod_nonneg _ (by omega),Int.emod_lt_of_pos _ h3,_,_,_,rfl⟩
  refine cC (b:=jV) (en:=[some (eW (a / m) b c),some (.int m),some (.int (a % m)),none]) (jd (eZ (b:=decide ((0:Int) < a)) rfl (decide_eq_true ha) (aE (en1:=[some (eW a b c),some (.int m),some (.int (a % m)),none]) (b9 (be (t1:=.int a) (t2:=.int m) rfl rfl (md a)) rfl) (aE (en1:=[some (eW (a / m) b c),some (.int m),some (.int (a % m)),none]) ?_ rfl))))
  unfold eV
  rw [be (t1:=.int a) (t2:=.int m) (f1:=da 0 (eC (.int 0))) (f2:=ad 1) (g:=cJ) (en:=[some (eW a b c),some (.int m),some (.int (a % m)),none]) (en1:=[some (eW a b c),some (.int m),some (.int (a % m)),none]) (en2:=[some (eW a b c),some (.int m),some (.int (a % m)),none]) rfl rfl (dv a)]
  rfl
 ·generalize g1:(b * 48271+(c+1) * 39373+11) % 2147483647=x
  have x0:0≤x:=by omega
  have x1:x < 2147483647:=by omega
  generalize g2:x * (x % 65521+(c+1)) % 2147483629=y
  refine ⟨y / 64 % m,eW a b (c+1),?_,Int.emod_nonneg _ (by omega),Int.emod_lt_of_pos _ h3,_,_,_,rfl⟩
  have c1:bO (.int b) (.int 48271)=some (.int (b * 48271)):=if_pos (.inr (by decide))
  have c2:bO (.int (c+1)) (.int 39373)=some (.int ((c+1) * 39373)):=if_pos (.inr (by decide))
  have c3:bO (.int x) (.int (x % 65521+(c+1)))=some (.int (x * (x % 65521+(c+1)))):=if_pos (.inl (by constructor <;> omega))
  have c80:gq y 64:=⟨by decide,by decide⟩
  have c8:cJ (.int y) (.int 64)=some (.int (y / 64)):=by
   show (if gq y 64 then some (PyData.int (y / 64)) else none)=_
   rw [if_pos c80]
  refine cC (b:=jV) (en:=[some (eW a b (c+1)),some (.int m),none,some (.int y)]) (aE (en1:=[some (eW a b c),some (.int m),none,none]) (ko (b:=decide ((0:Int) < a)) rfl (decide_eq_false ha) rfl)
   (aE (en1:=[some (eW a b (c+1)),some (.int m),none,none]) rfl
   (aE (en1:=[some (eW a b (c+1)),some (.int m),none,some (.int x)]) (b9 (be (t2:=.int 2147483647) (be (be (be (t1:=.int b) (t2:=.int 48271) rfl rfl c1) (be (t1:=.int (c+1)) (t2:=.int 39373) rfl rfl c2) rfl) rfl rfl) rfl (by rw [← g1]; rfl)) rfl)
   (aE (en1:=[some (eW a b (c+1)),some (.int m),none,some (.int y)]) (b9 (be (t2:=.int 2147483629) (be (t1:=.int x) (t2:=.int (x % 65521+(c+1))) rfl (be (t1:=.int (x % 65521)) (t2:=.int (c+1)) rfl rfl rfl) c3) rfl (by rw [← g2]; rfl)) rfl)
   (jz (be (t2:=.int m) (be (t1:=.int y) (t2:=.int 64) rfl rfl c8) rfl (md _)))))))
end Pen3
end L2
namespace Mch
open PySem L2 Pen2
def ca:MS:=(aF (eLC true (bj (e2 ixA (ad 0) (eC (.int 0)))) (gN 0) cY (eIf (tV (ad 0)) (eC (.int 1)) (eC (.int 0))) [none]))
def bv:List D→Option (D × En):=fnF 0 [0] ca
def bz:MS:=(aF (eLC true (bj (e2 ixA (ad 0) (eC (.int 1)))) (gN 0) cY (eN fj (ae (eLC true (bj (ad 0)) (gN 0) (tV (e2 dh (ad 0) (eC .none))) (e2 ixA (ad 1) (ad 0)) [none,some 1]) ai)) [none,some 1]))
def aY:List D→Option (D × En):=fnF 0 [0,0] bz
noncomputable def kG:MS:=(al (ap 2 (bo (ae (aq bv (ae (ad 0) ai)) ai)))
 (al (bq (tV (e2 leI (eN bc (ae (ad 2) ai)) (ad 1))) (bN (bQ 2 (aq aY (ae (ad 0) (ae (da 2 (e1 iE (eC (.int 1)))) ai))))))
 (aF (ad 2))))
noncomputable def dY:List D→Option (D × En):=fnF 1 [0,0] kG
def fT:MS:=(aF (e2 ixA (bo (ae (eC (.int 2)) (ae (eC (.int 1)) (ae (eC (.int 3)) (ae (eC (.int 2)) (ae (eC (.int 4)) (ae (eC (.int 3)) (ae (eC (.int 2)) (ae (e2 a9 (eC (.int 5)) (aq ar (aG 0 (ae (eC (.int 8)) ai)))) ai))))))))) (aq ar (aG 0 (ae (eC (.int 8)) ai)))))
def cW:List D→Option (D × En):=fnF 0 [1] fT
def dJ:MS:=(al (ap 4 (aq ar (aG 0 (ae (e2 a9 (ad 2) (eC (.int 1))) ai))))
 (al (sIf (bOr (tV (e2 eqD (ad 4) (ad 2))) (cD (tV (e2 eqD (ad 3) (eC (.int 1)))) (tV (e2 leI (ad 4) (ad 1))))) (aF (eC .none)) bt)
 (aF (ad 4))))
def bx:List D→Option (D × En):=fnF 1 [1,0,0,0] dJ
def cO:MS:=(al (ap 3 (e2 a9 (eC (.int 1)) (aq ar (aG 0 (ae (ad 2) ai)))))
 (al (ap 4 (aq ar (aG 0 (ae (eC (.int 4)) ai))))
 (al (ap 5 (e2 a9 (eC (.int 1)) (aq ar (aG 0 (ae (ad 3) ai)))))
 (al (ap 6 (bo ai))
 (al (ap 7 (bo ai))
 (al (c9 (bB (ae (ad 3) ai)) (gN 8) (al (bN (bQ 6 (e2 eqD (aq ar (aG 0 (ae (eC (.int 3)) ai))) (eC (.int 0)))))
 (al (ap 9 (eLC false (bB (ae (ad 1) ai)) (gN 0) cY (aq bx (aG 1 (ae (ad 4) (ae (ad 2) (ae (ad 3) ai))))) [none,some 0,some 3,some 4,some 8]))
 (al (sIf (cD (tV (e2 eqD (ad 4) (eC (.int 2)))) (tV (e2 ltI (ad 8) (ad 5)))) (al (eV 6 (ad 8) (eC (.bool false)))
 (ap 9 (eLC true (bj (ad 9)) (gN 0) cY (e2 ixA (bo (ae (ad 0) (ae (eC .none) ai))) (eN ge (ae (eOr (e2 isN (ad 0) (eC .none)) (e2 geI (ad 0) (ad 1))) ai))) [none,some 5]))) bt)
 (bN (bQ 7 (ad 9)))))))
 (aF (e8 (ae (ad 6) (ae (ad 7) ai))))))))))
def cg:List D→Option (D × En):=fnF 7 [1,0,0] cO
def goD:Option Nat→D
 | none=>.none
 | some j=>.int j
def aQ (r:List (Option Nat)):D:=.list (r.map goD)
def aC (es:List Bool) (gs:List (List (Option Nat))):D:=.tuple [.list (es.map .bool),.list (gs.map aQ)]
def ff (S W:Nat) (r:List (Option Nat)):Prop:=r.length=W∧∀ o∈r,∀ j,o=some j→j < S
theorem vh {ns:List Int} {k l:Int} (h0:0≤k) (h1:k≤1000) (h2:0≤l):∃ (s:Nat) (k' l':Int),cW [penD ns k l]=some (.int s,[some (penD ns k' l')])∧1≤s∧s≤12∧k≤k'∧k'≤k+2∧0≤l':=by
 obtain ⟨r1,k1,l1,e1,a1,a2,a3,a4,a5⟩:=fC (ns:=ns) (k:=k) (l:=l) (m:=8) (i:=0) (en:=[some (penD ns k l)]) (fa:=aG 0 (ae (eC (.int 8)) ai)) rfl rfl h0 (by omega) h2 (by decide) (by decide)
 obtain ⟨r2,k2,l2,e2',b1,b2,b3,b4,b5⟩:=fC (ns:=ns) (k:=k1) (l:=l1) (m:=8) (i:=0) (en:=[some (penD ns k1 l1)]) (fa:=aG 0 (ae (eC (.int 8)) ai)) rfl rfl (by omega) (by omega) a5 (by decide) (by decide)
 have hx:∃ s:Nat,ixA (.list [.int 2,.int 1,.int 3,.int 2,.int 4,.int 3,.int 2,.int (5+r1)]) (.int r2)=some (.int s)∧1≤s∧s≤12:=by
  have:r2=0∨r2=1∨r2=2∨r2=3∨r2=4∨r2=5∨r2=6∨r2=7:=by omega
  rcases this with rfl | rfl | rfl | rfl | rfl | rfl | rfl | rfl
  ·exact ⟨2,rfl,by decide,by decide⟩
  ·exact ⟨1,rfl,by decide,by decide⟩
  ·exact ⟨3,rfl,by decide,by decide⟩
  ·exact ⟨2,rfl,by decide,by decide⟩
  ·exact ⟨4,rfl,by decide,by decide⟩
  ·exact ⟨3,rfl,by decide,by decide⟩
  ·exact ⟨2,rfl,by decide,by decide⟩
  ·refine ⟨(5+r1).toNat,?_,by omega,by omega⟩
   rw [show (((5+r1).toNat:Nat):Int)=5+r1 by omega]
   rfl
 obtain ⟨s,ex,s1,s2⟩:=hx
 refine ⟨s,k2,l2,?_,s1,s2,by omega,by omega,b5⟩
 refine cC (en:=[some (penD ns k2 l2)]) (jz (be (en1:=[some (penD ns k1 l1)]) (mD (ee rfl (ee rfl (ee rfl (ee rfl (ee rfl (ee rfl (ee rfl (ee (be rfl e1 rfl) rfl)))))))) rfl ?_) e2' ex))
 exact Nat.le_trans (by show 8≤100; decide) ba
theorem Dc {ns:List Int} {k l way:Int} {i S:Nat} (hS:S≤60) (h0:0≤k) (h1:k≤10000) (h2:0≤l):∃ (o:Option Nat) (k' l':Int),bx [penD ns k l,.int i,.int S,.int way]=some (goD o,[some (penD ns k' l'),none,none,none])∧(∀ j,o=some j→j < S)∧k≤k'∧k'≤k+1∧0≤l':=by
 obtain ⟨r1,k1,l1,e1,a1,a2,a3,a4,a5⟩:=fC (ns:=ns) (k:=k) (l:=l) (m:=S+1) (i:=0) (en:=[some (penD ns k l),some (.int i),some (.int S),some (.int way),none]) (fa:=aG 0 (ae (e2 a9 (ad 2) (eC (.int 1))) ai)) rfl rfl h0 (by omega) h2 (by omega) (by omega)
 have c1:(tV (e2 eqD (ad 4) (ad 2))) [some (penD ns k1 l1),some (.int i),some (.int S),some (.int way),some (.int r1)]=some (r1 == (S:Int),[some (penD ns k1 l1),some (.int i),some (.int S),some (.int way),some (.int r1)]):=rfl
 have c2:(tV (e2 eqD (ad 3) (eC (.int 1)))) [some (penD ns k1 l1),some (.int i),some (.int S),some (.int way),some (.int r1)]=some (way == 1,[some (penD ns k1 l1),some (.int i),some (.int S),some (.int way),some (.int r1)]):=rfl
 have c3:(tV (e2 leI (ad 4) (ad 1))) [some (penD ns k1 l1),some (.int i),some (.int S),some (.int way),some (.int r1)]=some (decide (r1≤(i:Int)),[some (penD ns k1 l1),some (.int i),some (.int S),some (.int way),some (.int r1)]):=rfl
 obtain ⟨b,cb,hb⟩:∃ b,(bOr (tV (e2 eqD (ad 4) (ad 2))) (cD (tV (e2 eqD (ad 3) (eC (.int 1)))) (tV (e2 leI (ad 4) (ad 1))))) [some (penD ns k1 l1),some (.int i),some (.int S),some (.int way),some (.int r1)]=some (b,[some (penD ns k1 l1),some (.int i),some (.int S),some (.int way),some (.int r1)])∧(b=false→r1≠S):=by
  cases q1:(r1 == (S:Int)) with
  | true=>exact ⟨true,pY c1 q1,fun z=>by cases z⟩
  | false =>
   have n1:r1≠S:=by simpa using q1
   cases q2:(way == 1) with
   | true=>exact ⟨_,mC c1 q1 (rm c2 q2 c3),fun _=>n1⟩
   | false=>exact ⟨_,mC c1 q1 (rp c2 q2),fun _=>n1⟩
 cases b with
 | true=>exact ⟨none,k1,l1,cC (b:=dJ) (t:=.none) (en:=[some (penD ns k1 l1),some (.int i),some (.int S),some (.int way),some (.int r1)]) (aE (en1:=[some (penD ns k1 l1),some (.int i),some (.int S),some (.int way),some (.int r1)]) (b9 e1 rfl) (jd (eZ cb rfl rfl))),fun _ (z:none=some _)=>(by cases z),a3,a4,a5⟩
 | false =>
  have:=hb rfl
  refine ⟨some r1.toNat,k1,l1,?_,fun j hj=>by cases hj; omega,a3,a4,a5⟩
  have e:goD (some r1.toNat)=.int r1:=by show PyData.int ((r1.toNat:Nat):Int)=_; rw [Int.toNat_of_nonneg a1]
  rw [e]
  exact cC (b:=dJ) (en:=[some (penD ns k1 l1),some (.int i),some (.int S),some (.int way),some (.int r1)]) (aE (en1:=[some (penD ns k1 l1),some (.int i),some (.int S),some (.int way),some (.int r1)]) (b9 e1 rfl) (aE (ko cb rfl rfl) rfl))
theorem tL (n:Nat) (hn:n < 1000000):-(2 ^ 62)≤(n:Int)∧(n:Int) < 2 ^ 62:=by
 have:(n:Int) < 1000000:=by omega
 constructor
 ·exact Int.le_trans (by decide +kernel) (Int.natCast_nonneg n)
 ·exact Int.lt_of_lt_of_le this (by decide +kernel)
theorem HV {j:Int} (p1:-(2 ^ 62)≤j∧j < 2 ^ 62) {fa:MA} {en en1:En} (h:fa en=some ([.inl (.int j)],en1)):bB fa en=some ((List.range j.toNat).map fun k=>.int (0+(k:Nat)),en1):=by
 unfold bB
 rw [h]
 simp only [Option.bind_some]
 exact if_pos p1
theorem rl {n:Nat} {fa:MA} {en en1:En} (h:fa en=some ([.inl (.int n)],en1)) (hn:n < 1000000):bB fa en=some ((List.range n).map fun k=>.int (0+(k:Nat)),en1):=by
 have e:=HV (tL n hn) h
 rw [Int.toNat_natCast] at e
 exact e
def mEn (mo:Int) (ns:List Int) (k l:Int) (W S:Nat) (way fence:Int) (es:List Bool) (gs:List (List (Option Nat))) (x y:Option D):En :=
 [some (penD ns k l),some (.int W),some (.int mo),some (.int S),some (.int way),some (.int fence),some (.list (es.map .bool)),some (.list (gs.map aQ)),x,y]
def lK (fence:Int):Option Nat→Option Nat
 | some j=>if fence≤(j:Int) then none else some j
 | none=>none
def wI (fence:Int):D→D
 | .int j=>if fence≤j then .none else .int j
 | _=>.none
theorem Ib {fence:Int} (o:Option Nat):wI fence (goD o)=goD (lK fence o):=by
 cases o with
 | none=>rfl
 | some j =>
  show (if fence≤(j:Int) then PyData.none else .int j)=goD (if fence≤(j:Int) then none else some j)
  split <;> rfl
theorem oZ {mo:Int} {ns:List Int} {k l way fence:Int} {W S i:Nat} {es:List Bool} {gs:List (List (Option Nat))} {y:Option D} (hW:W≤12) (hS:S≤60) (h0:0≤k) (h1:k≤9000) (h2:0≤l) :
  ∃ (r:List (Option Nat)) (k' l':Int),eLC false (bB (ae (ad 1) ai)) (gN 0) cY (aq bx (aG 1 (ae (ad 4) (ae (ad 2) (ae (ad 3) ai))))) [none,some 0,some 3,some 4,some 8] (mEn mo ns k l W S way fence es gs (some (.int i)) y)
   = some (aQ r,mEn mo ns k' l' W S way fence es gs (some (.int i)) y)∧ff S W r∧k≤k'∧k'≤k+12∧0≤l':=by
 have hl:((List.range W).map fun k=>PyData.int (0+(k:Nat))).length=W:=by rw [List.length_map,List.length_range]
 obtain ⟨us,ex,e1,⟨o,k',l',rfl,q1,q2,q3⟩,a⟩:=q0 (N:=W) (g:=gN 0) (c:=cY) (f:=aq bx (aG 1 (ae (ad 4) (ae (ad 2) (ae (ad 3) ai)))))
  (fun n en=>∃ o k' l',en=[o,some (penD ns k' l'),some (.int S),some (.int way),some (.int i)]∧k≤k'∧k'≤k+n∧0≤l') (fun _ q=>∃ o,q=goD o∧∀ j,o=some j→j < S)
  (fun n t en hn ⟨o,k',l',he,q1,q2,q3⟩=>by
   subst he
   obtain ⟨o',k2,l2,e,p1,p2,p3,p4⟩:=Dc (ns:=ns) (k:=k') (l:=l') (way:=way) (i:=i) (S:=S) hS (by omega) (by omega) q3
   exact ⟨[some t,some (penD ns k' l'),some (.int S),some (.int way),some (.int i)],[some t,some (penD ns k' l'),some (.int S),some (.int way),some (.int i)],goD o',[some t,some (penD ns k2 l2),some (.int S),some (.int way),some (.int i)],rfl,rfl,gP (as:=[.inr 1,.inl (.int i),.inl (.int S),.inl (.int way)]) rfl rfl e rfl,⟨some t,k2,l2,rfl,by omega,by omega,p4⟩,⟨o',rfl,p1⟩⟩)
  ((List.range W).map fun k=>.int (0+(k:Nat))) [] 0 (ck [none,some 0,some 3,some 4,some 8] (mEn mo ns k l W S way fence es gs (some (.int i)) y)) ⟨none,k,l,rfl,Int.le_refl _,by omega,h2⟩ (by rw [hl]; omega) (by rw [hl]; show 0+W≤_; exact Nat.le_trans (by omega) ba)
 obtain ⟨os,rfl,o1,o2⟩:=a.ex
 rw [hl] at o1 q2
 refine ⟨os,k',l',mE (rl (n:=W) rfl (by omega)) e1 rfl,⟨o1,o2⟩,q1,by omega,q3⟩
theorem C9 {n:Nat} {j:Int} (h0:0≤j) (h1:j < n):ixN n j=some j.toNat:=by
 unfold ixN
 rw [if_pos h0,if_pos h1]
theorem i6 {n i:Nat} (h:i < n):ixN n (i:Int)=some i:=by
 have e:=C9 (n:=n) (j:=(i:Int)) (Int.natCast_nonneg i) (Int.ofNat_lt.mpr h)
 rw [Int.toNat_natCast] at e
 exact e
theorem DX {mo:Int} {ns:List Int} {k l way fence:Int} {W S i:Nat} {es:List Bool} {gs:List (List (Option Nat))} {r:List (Option Nat)} (hr:ff S W r) (hW:W≤12) :
  eLC true (bj (ad 9)) (gN 0) cY (e2 ixA (bo (ae (ad 0) (ae (eC .none) ai))) (eN ge (ae (eOr (e2 isN (ad 0) (eC .none)) (e2 geI (ad 0) (ad 1))) ai))) [none,some 5] (mEn mo ns k l W S way fence es gs (some (.int i)) (some (aQ r)))
   = some (aQ (r.map (lK fence)),mEn mo ns k l W S way fence es gs (some (.int i)) (some (aQ r))):=by
 obtain ⟨o',e⟩:=kL (F:=wI fence) (rest:=[some (.int fence)]) (f:=e2 ixA (bo (ae (ad 0) (ae (eC .none) ai))) (eN ge (ae (eOr (e2 isN (ad 0) (eC .none)) (e2 geI (ad 0) (ad 1))) ai))) (r.map goD) [] none (fun t ht=>by
  obtain ⟨o,ho,rfl⟩:=List.mem_map.mp ht
  have l2:bo (ae (ad 0) (ae (eC .none) ai)) [some (goD o),some (.int fence)]=some (.list [goD o,.none],[some (goD o),some (.int fence)]):=mD rfl rfl (Nat.le_trans (by show 2≤100; decide) ba)
  cases o with
  | none=>exact be l2 (t2:=.int 1) rfl rfl
  | some j =>
   by_cases hf:fence≤(j:Int)
   ·refine be l2 (t2:=.int 1) ?_ (show _=some (if fence≤(j:Int) then PyData.none else .int j) by rw [if_pos hf]; rfl)
    show some (PyData.int (if decide (fence≤(j:Int)) then 1 else 0),_)=_
    rw [decide_eq_true hf]
    rfl
   ·refine be l2 (t2:=.int 0) ?_ (show _=some (if fence≤(j:Int) then PyData.none else .int j) by rw [if_neg hf]; rfl)
    show some (PyData.int (if decide (fence≤(j:Int)) then 1 else 0),_)=_
    rw [decide_eq_false hf]
    rfl) (by rw [List.length_map,hr.1]; exact Nat.le_trans (by show 0+W≤100; omega) ba)
 have em:(r.map goD).map (wI fence)=(r.map (lK fence)).map goD:=by
  rw [List.map_map,List.map_map]
  exact List.map_congr_left fun o _=>Ib o
 rw [em] at e
 exact mE (en1:=mEn mo ns k l W S way fence es gs (some (.int i)) (some (aQ r))) rfl e rfl
theorem Ia {S W:Nat} {fence:Int} {r:List (Option Nat)} (hr:ff S W r):ff S W (r.map (lK fence)):=by
 refine ⟨by rw [List.length_map,hr.1],fun o ho j hj=>?_⟩
 obtain ⟨o',h1,h2⟩:=List.mem_map.mp ho
 cases o' with
 | none=>rw [hj] at h2; cases h2
 | some j' =>
  rw [hj] at h2
  have h3:(if fence≤(j':Int) then none else some j')=some j:=h2
  split at h3
  ·cases h3
  ·cases h3
   exact hr.2 _ h1 _ rfl
def Cc:MS:=(al (bN (bQ 6 (e2 eqD (aq ar (aG 0 (ae (eC (.int 3)) ai))) (eC (.int 0)))))
 (al (ap 9 (eLC false (bB (ae (ad 1) ai)) (gN 0) cY (aq bx (aG 1 (ae (ad 4) (ae (ad 2) (ae (ad 3) ai))))) [none,some 0,some 3,some 4,some 8]))
 (al (sIf (cD (tV (e2 eqD (ad 4) (eC (.int 2)))) (tV (e2 ltI (ad 8) (ad 5)))) (al (eV 6 (ad 8) (eC (.bool false)))
 (ap 9 (eLC true (bj (ad 9)) (gN 0) cY (e2 ixA (bo (ae (ad 0) (ae (eC .none) ai))) (eN ge (ae (eOr (e2 isN (ad 0) (eC .none)) (e2 geI (ad 0) (ad 1))) ai))) [none,some 5]))) bt)
 (bN (bQ 7 (ad 9))))))
theorem D1 {mo:Int} {ns:List Int} {k l way fence:Int} {W S i:Nat} {es:List Bool} {gs:List (List (Option Nat))} {y:Option D} (hW:W≤12) (hS:S≤60) (hi:i < 60) (h0:0≤k) (h1:k≤8000) (h2:0≤l) (he:es.length=i) (hg:gs.length=i) :
  ∃ (b:Bool) (r:List (Option Nat)) (k' l':Int) (y':Option D),Cc (mEn mo ns k l W S way fence es gs (some (.int i)) y)=some (.nx (mEn mo ns k' l' W S way fence (es++[b]) (gs++[r]) (some (.int i)) y'))∧ff S W r∧k≤k'∧k'≤k+13∧0≤l':=by
 obtain ⟨r1,k1,l1,e1,a1,a2,a3,a4,a5⟩:=fC (ns:=ns) (k:=k) (l:=l) (m:=3) (i:=0) (en:=mEn mo ns k l W S way fence es gs (some (.int i)) y) (fa:=aG 0 (ae (eC (.int 3)) ai)) rfl rfl h0 (by omega) h2 (by decide) (by decide)
 have lm:(es.map PyData.bool).length < sizeLine:=by rw [List.length_map,he]; exact Nat.lt_of_lt_of_le (by omega) ba
 have s1:bN (bQ 6 (e2 eqD (aq ar (aG 0 (ae (eC (.int 3)) ai))) (eC (.int 0)))) (mEn mo ns k l W S way fence es gs (some (.int i)) y)=some (.nx (mEn mo ns k1 l1 W S way fence (es++[r1 == 0]) gs (some (.int i)) y)):=by
  refine pZ (p0 (us:=es.map .bool) (en1:=mEn mo ns k1 l1 W S way fence es gs (some (.int i)) y) rfl (be (t2:=.int 0) e1 rfl rfl) rfl lm ?_)
  unfold mEn
  rw [List.map_append]
  rfl
 obtain ⟨r,k2,l2,e2',hr,b3,b4,b5⟩:=oZ (mo:=mo) (ns:=ns) (k:=k1) (l:=l1) (way:=way) (fence:=fence) (W:=W) (S:=S) (i:=i) (es:=es++[r1 == 0]) (gs:=gs) (y:=y) hW hS (by omega) (by omega) a5
 have s2:ap 9 (eLC false (bB (ae (ad 1) ai)) (gN 0) cY (aq bx (aG 1 (ae (ad 4) (ae (ad 2) (ae (ad 3) ai))))) [none,some 0,some 3,some 4,some 8]) (mEn mo ns k1 l1 W S way fence (es++[r1 == 0]) gs (some (.int i)) y)=some (.nx (mEn mo ns k2 l2 W S way fence (es++[r1 == 0]) gs (some (.int i)) (some (aQ r)))):=b9 e2' rfl
 have s4:∀ (es':List Bool) (r':List (Option Nat)),bN (bQ 7 (ad 9)) (mEn mo ns k2 l2 W S way fence es' gs (some (.int i)) (some (aQ r')))=some (.nx (mEn mo ns k2 l2 W S way fence es' (gs++[r']) (some (.int i)) (some (aQ r')))):=by
  intro es' r'
  refine pZ (p0 (us:=gs.map aQ) (en1:=mEn mo ns k2 l2 W S way fence es' gs (some (.int i)) (some (aQ r'))) rfl rfl rfl (by rw [List.length_map,hg]; exact Nat.lt_of_lt_of_le (by omega) ba) ?_)
  unfold mEn
  rw [List.map_append]
  rfl
 have c1:tV (e2 eqD (ad 4) (eC (.int 2))) (mEn mo ns k2 l2 W S way fence (es++[r1 == 0]) gs (some (.int i)) (some (aQ r)))=some (way == 2,mEn mo ns k2 l2 W S way fence (es++[r1 == 0]) gs (some (.int i)) (some (aQ r))):=rfl
 have c2:tV (e2 ltI (ad 8) (ad 5)) (mEn mo ns k2 l2 W S way fence (es++[r1 == 0]) gs (some (.int i)) (some (aQ r)))=some (decide ((i:Int) < fence),mEn mo ns k2 l2 W S way fence (es++[r1 == 0]) gs (some (.int i)) (some (aQ r))):=rfl
 obtain ⟨b,cb⟩:∃ b,cD (tV (e2 eqD (ad 4) (eC (.int 2)))) (tV (e2 ltI (ad 8) (ad 5))) (mEn mo ns k2 l2 W S way fence (es++[r1 == 0]) gs (some (.int i)) (some (aQ r)))=some (b,mEn mo ns k2 l2 W S way fence (es++[r1 == 0]) gs (some (.int i)) (some (aQ r))):=by
  cases q1:(way == 2) with
  | true=>exact ⟨_,rm c1 q1 c2⟩
  | false=>exact ⟨_,rp c1 q1⟩
 cases b with
 | false=>exact ⟨r1 == 0,r,k2,l2,_,aE s1 (aE s2 (aE (ko cb rfl rfl) (s4 _ _))),hr,by omega,by omega,b5⟩
 | true =>
  refine ⟨false,r.map (lK fence),k2,l2,some (aQ (r.map (lK fence))),aE s1 (aE s2 (aE (en1:=mEn mo ns k2 l2 W S way fence (es++[false]) gs (some (.int i)) (some (aQ (r.map (lK fence))))) (eZ cb rfl (aE (en1:=mEn mo ns k2 l2 W S way fence (es++[false]) gs (some (.int i)) (some (aQ r))) ?_ (b9 (DX hr hW) rfl))) (s4 _ _))),Ia hr,by omega,by omega,b5⟩
  have ix:ixN ((es++[r1 == 0]).map PyData.bool).length (i:Int)=some i:=i6 (by rw [List.length_map,List.length_append,he]; exact Nat.lt_succ_self _)
  have st:((es++[r1 == 0]).map PyData.bool).set i (.bool false)=(es++[false]).map PyData.bool:=by
   have e:(es++[r1 == 0]).set i false=es++[false]:=by
    rw [List.set_append_right _ _ (by omega),he,Nat.sub_self]
    rfl
   rw [← e,List.map_set]
  show ((ixN ((es++[r1 == 0]).map PyData.bool).length (i:Int)).map fun k=>Fl.nx ((mEn mo ns k2 l2 W S way fence (es++[r1 == 0]) gs (some (.int i)) (some (aQ r))).set 6 (some (.list (((es++[r1 == 0]).map PyData.bool).set k (.bool false))))))=_
  rw [ix]
  show some (Fl.nx ((mEn mo ns k2 l2 W S way fence (es++[r1 == 0]) gs (some (.int i)) (some (aQ r))).set 6 (some (.list (((es++[r1 == 0]).map PyData.bool).set i (.bool false))))))=_
  rw [st]
  rfl
theorem C4 {mo:Int} {ns:List Int} {k l:Int} {W:Nat} (mo1:1≤mo) (mo2:mo≤40) (hW:W≤12) (h0:0≤k) (h1:k≤1000) (h2:0≤l) :
  ∃ (es:List Bool) (gs:List (List (Option Nat))) (k' l':Int),cg [penD ns k l,.int W,.int mo]=some (aC es gs,[some (penD ns k' l'),none,none])∧1≤es.length∧(es.length:Int)≤mo∧gs.length=es.length∧(∀ r∈gs,ff es.length W r)∧k≤k'∧k'≤k+600∧0≤l':=by
 obtain ⟨r1,k1,l1,e1,a1,a2,a3,a4,a5⟩:=fC (ns:=ns) (k:=k) (l:=l) (m:=mo) (i:=0) (en:=[some (penD ns k l),some (.int W),some (.int mo),none,none,none,none,none,none,none]) (fa:=aG 0 (ae (ad 2) ai)) rfl rfl h0 (by omega) h2 (by omega) (by omega)
 obtain ⟨S,hS⟩:∃ S:Nat,(S:Int)=1+r1:=⟨(1+r1).toNat,by omega⟩
 obtain ⟨way,k2,l2,e2',b1,b2,b3,b4,b5⟩:=fC (ns:=ns) (k:=k1) (l:=l1) (m:=4) (i:=0) (en:=[some (penD ns k1 l1),some (.int W),some (.int mo),some (.int S),none,none,none,none,none,none]) (fa:=aG 0 (ae (eC (.int 4)) ai)) rfl rfl (by omega) (by omega) a5 (by decide) (by decide)
 obtain ⟨r3,k3,l3,e3,c1,c2,c3,c4,c5⟩:=fC (ns:=ns) (k:=k2) (l:=l2) (m:=S) (i:=0) (en:=[some (penD ns k2 l2),some (.int W),some (.int mo),some (.int S),some (.int way),none,none,none,none,none]) (fa:=aG 0 (ae (ad 3) ai)) rfl rfl (by omega) (by omega) b5 (by omega) (by omega)
 have hl:((List.range S).map fun k=>PyData.int (0+(k:Nat))).length=S:=by rw [List.length_map,List.length_range]
 obtain ⟨en',e4,es,gs,k',l',x,y,rfl,d1,d2,d3,d4,d5,d6⟩:=wl (g:=gN 8) (b:=Cc) (ts:=(List.range S).map fun k=>.int (0+(k:Nat)))
  (fun i en=>∃ es gs k' l' x y,en=mEn mo ns k' l' W S way (1+r3) es gs x y∧es.length=i∧gs.length=i∧(∀ r∈gs,ff S W r)∧k3≤k'∧k'≤k3+13 * i∧0≤l')
  (fun i t en ht ⟨es,gs,k',l',x,y,hen,d1,d2,d3,d4,d5,d6⟩=>by
   subst hen
   have hi:i < S:=by have:=(List.getElem?_eq_some_iff.mp ht).1; rw [hl] at this; exact this
   have et:t=.int i:=by
    rw [List.getElem?_map,List.getElem?_range hi] at ht
    injection ht with ht
    rw [← ht]
    show PyData.int (0+(i:Int))=_
    rw [Int.zero_add]
   subst et
   obtain ⟨b,r,k4,l4,y',f1,f2,f3,f4,f5⟩:=D1 (mo:=mo) (ns:=ns) (k:=k') (l:=l') (way:=way) (fence:=1+r3) (W:=W) (S:=S) (i:=i) (es:=es) (gs:=gs) (y:=y) hW (by omega) (by omega) (by omega) (by omega) d6 d1 d2
   refine ⟨mEn mo ns k' l' W S way (1+r3) es gs (some (.int i)) y,_,rfl,.inl f1,es++[b],gs++[r],k4,l4,some (.int i),y',rfl,by rw [List.length_append,d1]; rfl,by rw [List.length_append,d2]; rfl,fun q hq=>?_,by omega,by omega,f5⟩
   rcases List.mem_append.mp hq with hq | hq
   ·exact d3 q hq
   ·rw [List.mem_singleton.mp hq]
    exact f2)
  (en:=mEn mo ns k3 l3 W S way (1+r3) [] [] none none) ⟨[],[],k3,l3,none,none,rfl,rfl,rfl,fun _ z=>(by cases z),Int.le_refl _,by omega,c5⟩
 rw [hl] at d1 d2 d5
 refine ⟨es,gs,k',l',?_,by omega,by omega,by omega,by rw [d1]; exact d3,by omega,by omega,d6⟩
 have l0:∀ {en:En},bo ai en=some (.list [],en):=fun {en}=>mD rfl rfl (Nat.zero_le _)
 refine cC (b:=cO) (en:=mEn mo ns k' l' W S way (1+r3) es gs x y)
  (aE (en1:=[some (penD ns k1 l1),some (.int W),some (.int mo),some (.int S),none,none,none,none,none,none]) (b9 (be rfl e1 (show _=some (PyData.int S) by rw [hS]; rfl)) rfl)
  (aE (en1:=[some (penD ns k2 l2),some (.int W),some (.int mo),some (.int S),some (.int way),none,none,none,none,none]) (b9 e2' rfl)
  (aE (en1:=[some (penD ns k3 l3),some (.int W),some (.int mo),some (.int S),some (.int way),some (.int (1+r3)),none,none,none,none]) (b9 (be rfl e3 rfl) rfl)
  (aE (en1:=[some (penD ns k3 l3),some (.int W),some (.int mo),some (.int S),some (.int way),some (.int (1+r3)),some (.list []),none,none,none]) (b9 l0 rfl)
  (aE (en1:=[some (penD ns k3 l3),some (.int W),some (.int mo),some (.int S),some (.int way),some (.int (1+r3)),some (.list []),some (.list []),none,none]) (b9 l0 rfl)
  (aE (HW (rl (n:=S) rfl (by omega)) e4) (jz (HU rfl rfl (Nat.le_trans (by show 2≤100; decide) ba)))))))))
def aB (v:List Int):D:=.list (v.map .int)
def kd (v:List Int):D→Option Int
 | .int j=>some (v.getD j.toNat 0)
 | _=>none
def rsD (v:List Int):D→Int
 | .list xs=>(xs.filterMap (kd v)).sum
 | _=>0
def nxt (gs:List (List (Option Nat))) (v:List Int):List Int:=gs.map fun r=>rsD v (aQ r)
def base (es:List Bool):List Int:=es.map fun b=>if b then 1 else 0
def it (gs:List (List (Option Nat))) (v:List Int):Nat→List Int
 | 0=>v
 | n+1=>nxt gs (it gs v n)
def pF (v:List Int):D→D
 | .int j=>.int (v.getD j.toNat 0)
 | _=>.none
theorem kg (v:List Int):∀ r:List (Option Nat),bJ ((((r.map goD).filter fun t=>!gK t)).map (pF v))=some ((r.map goD).filterMap (kd v))
 | []=>rfl
 | none :: r=>kg v r
 | some j :: r=>by
  show (bJ ((((r.map goD).filter fun t=>!gK t)).map (pF v))).map (v.getD (j:Int).toNat 0 :: ·)=_
  rw [kg v r]
  rfl
theorem i5 {v:List Int} {j:Nat} (h:j < v.length):ixA (aB v) (.int j)=some (.int (v.getD j 0)):=by
 show atI (v.map PyData.int) (j:Int)=_
 unfold atI
 rw [i6 (by rw [List.length_map]; exact h)]
 show (v.map PyData.int)[j]?=_
 rw [List.getElem?_map,List.getElem?_eq_getElem h,List.getD_eq_getElem?_getD,List.getElem?_eq_getElem h]
 rfl
def inF:ME:=eN fj (ae (eLC true (bj (ad 0)) (gN 0) (tV (e2 dh (ad 0) (eC .none))) (e2 ixA (ad 1) (ad 0)) [none,some 1]) ai)
theorem Ck {v:List Int} {r:List (Option Nat)} {S W:Nat} (hr:ff S W r) (hv:v.length=S) (hW:W≤12):inF [some (aQ r),some (aB v)]=some (.int (rsD v (aQ r)),[some (aQ r),some (aB v)]):=by
 obtain ⟨o',e⟩:=eX (c:=tV (e2 dh (ad 0) (eC .none))) (f:=e2 ixA (ad 1) (ad 0)) (p:=fun t=>!gK t) (F:=pF v) (rest:=[some (aB v)]) (r.map goD) [] none
  (fun t ht=>by
   obtain ⟨o,ho,rfl⟩:=List.mem_map.mp ht
   cases o <;> rfl)
  (fun t ht hp=>by
   obtain ⟨o,ho,rfl⟩:=List.mem_map.mp ht
   cases o with
   | none=>cases hp
   | some j=>exact be rfl rfl (i5 (by rw [hv]; exact hr.2 _ ho _ rfl)))
  (by rw [List.length_map,hr.1]; exact Nat.le_trans (by show 0+W≤100; omega) ba)
 refine lH (ee (mE rfl e rfl) rfl) rfl ?_
 show (bJ _).map _=_
 rw [List.nil_append,kg]
 rfl
theorem Ct {i:Nat} {en:En} {es:List Bool} {gs:List (List (Option Nat))} {v:List Int} {S W:Nat} (h0:(ad 0) en=some (aC es gs,en)) (hi:(en[i]?).join=some (aB v)) (hg:∀ r∈gs,ff S W r) (hl:gs.length≤60) (hv:v.length=S) (hW:W≤12) :
  eLC true (bj (e2 ixA (ad 0) (eC (.int 1)))) (gN 0) cY inF [none,some i] en=some (aB (nxt gs v),en):=by
 obtain ⟨o',e⟩:=kL (f:=inF) (F:=fun t=>.int (rsD v t)) (rest:=[some (aB v)]) (gs.map aQ) [] none
  (fun t ht=>by
   obtain ⟨r,hr,rfl⟩:=List.mem_map.mp ht
   exact Ck (hg r hr) hv hW)
  (by rw [List.length_map]; exact Nat.le_trans (by show 0+_≤100; omega) ba)
 have e2':(gs.map aQ).map (fun t=>PyData.int (rsD v t))=(nxt gs v).map .int:=by
  unfold nxt
  rw [List.map_map,List.map_map]
  rfl
 rw [List.nil_append,e2'] at e
 refine mE (ts:=gs.map aQ) (en1:=en) (ex:=[o',some (aB v)]) ?_ ?_ rfl
 ·have:e2 ixA (ad 0) (eC (.int 1)) en=some (.list (gs.map aQ),en):=be h0 rfl rfl
  unfold bj
  rw [this]
  rfl
 ·show lcF (gN 0) cY inF (gs.map aQ) [] [none,(en[i]?).join]=_
  rw [hi]
  exact e
def b1F:D→D
 | .bool b=>.int (if b then 1 else 0)
 | _=>.none
theorem D2 {en:En} {es:List Bool} {gs:List (List (Option Nat))} {f:ME} (h0:(ad 0) en=some (aC es gs,en)) (hf:∀ b,f [some (.bool b)]=some (.int (if b then 1 else 0),[some (.bool b)])) (hl:es.length≤60) :
  eLC true (bj (e2 ixA (ad 0) (eC (.int 0)))) (gN 0) cY f [none] en=some (aB (base es),en):=by
 obtain ⟨o',e⟩:=kL (f:=f) (F:=b1F) (rest:=[]) (es.map .bool) [] none
  (fun t ht=>by
   obtain ⟨b,hb,rfl⟩:=List.mem_map.mp ht
   exact hf b)
  (by rw [List.length_map]; exact Nat.le_trans (by show 0+_≤100; omega) ba)
 have e2':(es.map PyData.bool).map b1F=(base es).map .int:=by
  unfold base
  rw [List.map_map,List.map_map]
  rfl
 rw [List.nil_append,e2'] at e
 refine mE (ts:=es.map .bool) (en1:=en) ?_ e rfl
 have:e2 ixA (ad 0) (eC (.int 0)) en=some (.list (es.map .bool),en):=be h0 rfl rfl
 unfold bj
 rw [this]
 rfl
structure MOk (S W:Nat) (es:List Bool) (gs:List (List (Option Nat))):Prop where
 s1:1≤S
 s2:S≤40
 w1:1≤W
 w2:W≤12
 le:es.length=S
 lg:gs.length=S
 ok:∀ r∈gs,ff S W r
section
variable {S W:Nat} {es:List Bool} {gs:List (List (Option Nat))}
theorem MOk.lit (M:MOk S W es gs):∀ n,(it gs (base es) n).length=S
 | 0=>by show (es.map _).length=S; rw [List.length_map,M.le]
 | n+1=>by show (gs.map _).length=S; rw [List.length_map,M.lg]
def bi (gs:List (List (Option Nat))) (es:List Bool) (n:Nat):D:=.list ((List.range (n+1)).map fun i=>aB (it gs (base es) i))
theorem gE {n:Nat}:((List.range (n+1)).map fun i=>aB (it gs (base es) i)).length=n+1:=by rw [List.length_map,List.length_range]
theorem oN {n i:Nat} (h:i≤n):ixA (bi gs es n) (.int i)=some (aB (it gs (base es) i)):=by
 show atI _ (i:Int)=_
 unfold atI
 rw [i6 (by rw [gE]; omega)]
 show ((List.range (n+1)).map fun i=>aB (it gs (base es) i))[i]?=_
 rw [List.getElem?_map,List.getElem?_range (by omega)]
 rfl
theorem oM {n:Nat}:atI ((List.range (n+1)).map fun i=>aB (it gs (base es) i)) (-1)=some (aB (it gs (base es) n)):=by
 unfold atI ixN
 rw [gE,if_neg (by decide),if_pos (by omega)]
 show ((List.range (n+1)).map fun i=>aB (it gs (base es) i))[((-1:Int)+((n+1:Nat):Int)).toNat]?=_
 rw [show ((-1:Int)+((n+1:Nat):Int)).toNat=n by omega,List.getElem?_map,List.getElem?_range (by omega)]
 rfl
theorem oK {n:Nat}:((List.range (n+1)).map fun i=>aB (it gs (base es) i))++[aB (it gs (base es) (n+1))]=(List.range (n+1+1)).map fun i=>aB (it gs (base es) i):=by
 rw [List.range_succ (n:=n+1),List.map_append]
 rfl
theorem CZ (M:MOk S W es gs):bv [aC es gs]=some (aB (base es),[none]) :=
 cC (b:=ca) (en:=[some (aC es gs)]) (jz (D2 rfl (fun b=>by cases b <;> rfl) (by rw [M.le]; have:=M.s2; omega)))
theorem C3 (M:MOk S W es gs) {v:List Int} (hv:v.length=S):aY [aC es gs,aB v]=some (aB (nxt gs v),[none,none]) :=
 cC (b:=bz) (en:=[some (aC es gs),some (aB v)]) (jz (Ct rfl rfl M.ok (by rw [M.lg]; have:=M.s2; omega) hv M.w2))
theorem oJ (M:MOk S W es gs) {N:Nat} (hN:N≤60):dY [aC es gs,.int N]=some (bi gs es N,[none,none]):=by
 have key:∀ (m n:Nat),n+m=N→bq (tV (e2 leI (eN bc (ae (ad 2) ai)) (ad 1))) (bN (bQ 2 (aq aY (ae (ad 0) (ae (da 2 (e1 iE (eC (.int 1)))) ai))))) [some (aC es gs),some (.int N),some (bi gs es n)]=some (.nx [some (aC es gs),some (.int N),some (bi gs es N)]):=by
  intro m
  induction m with
  | zero =>
   intro n hn
   have:n=N:=by omega
   subst this
   refine k5 (iq (be (lH rfl rfl rfl) rfl ?_))
   show some (PyData.bool (decide ((((List.range (n+1)).map fun i=>aB (it gs (base es) i)).length:Int)≤(n:Int))))=_
   rw [gE,decide_eq_false (by omega)]
  | succ m ih =>
   intro n hn
   refine k6 (en1:=[some (aC es gs),some (.int N),some (bi gs es n)]) (en2:=[some (aC es gs),some (.int N),some (bi gs es (n+1))]) (iq (be (lH rfl rfl rfl) rfl ?_)) ?_ (ih (n+1) (by omega))
   ·show some (PyData.bool (decide ((((List.range (n+1)).map fun i=>aB (it gs (base es) i)).length:Int)≤(N:Int))))=_
    rw [gE,decide_eq_true (by omega)]
   ·have ix:da 2 (e1 iE (eC (.int 1))) [some (aC es gs),some (.int N),some (bi gs es n)]=some (aB (it gs (base es) n),[some (aC es gs),some (.int N),some (bi gs es n)]):=by
     show (atI ((List.range (n+1)).map fun i=>aB (it gs (base es) i)) (-1)).map (fun t=>(t,[some (aC es gs),some (PyData.int N),some (bi gs es n)]))=_
     rw [oM]
     rfl
    refine pZ (p0 (ts:=(List.range (n+1)).map fun i=>aB (it gs (base es) i)) (us:=(List.range (n+1)).map fun i=>aB (it gs (base es) i)) (en1:=[some (aC es gs),some (.int N),some (bi gs es n)]) rfl (gP (ee rfl (ee ix rfl)) rfl (C3 M (M.lit n)) rfl) rfl (by rw [gE]; exact Nat.lt_of_lt_of_le (by omega) ba) ?_)
    rw [show aB (nxt gs (it gs (base es) n))=aB (it gs (base es) (n+1)) from rfl,oK]
    rfl
 refine cC (b:=kG) (en:=[some (aC es gs),some (.int N),some (bi gs es N)]) (aE (en1:=[some (aC es gs),some (.int N),some (bi gs es 0)]) (b9 (mD (ee (gP rfl rfl (CZ M) rfl) rfl) rfl (Nat.le_trans (by show 1≤100; decide) ba)) rfl) (aE (key N 0 (by omega)) rfl))
end
theorem oR {v:List Int} {B:Int} (h0:0≤B) (h:∀ x∈v,0≤x∧x≤B):∀ r:List (Option Nat),0≤((r.map goD).filterMap (kd v)).sum∧((r.map goD).filterMap (kd v)).sum≤r.length * B
 | []=>⟨Int.le_refl 0,by show (0:Int)≤(0:Nat) * B; simp⟩
 | none :: r=>by
  have:=oR h0 h r
  refine ⟨this.1,?_⟩
  show ((r.map goD).filterMap (kd v)).sum≤((r.length+1:Nat):Int) * B
  rw [Int.natCast_add,Int.add_mul]
  have:(0:Int)≤((1:Nat):Int) * B:=by omega
  omega
 | some j :: r=>by
  have q:=oR h0 h r
  have e:(((some j :: r).map goD).filterMap (kd v)).sum=v.getD j 0+((r.map goD).filterMap (kd v)).sum:=rfl
  have g:0≤v.getD j 0∧v.getD j 0≤B:=by
   rw [List.getD_eq_getElem?_getD]
   cases hj:v[j]? with
   | none=>exact ⟨by decide,h0⟩
   | some x=>exact h x (List.mem_of_getElem? hj)
  rw [e]
  refine ⟨by omega,?_⟩
  show _≤((r.length+1:Nat):Int) * B
  rw [Int.natCast_add,Int.add_mul]
  have:((1:Nat):Int) * B=B:=by simp
  omega
section
variable {S W:Nat} {es:List Bool} {gs:List (List (Option Nat))}
theorem MOk.itB (M:MOk S W es gs):∀ n,∀ x∈it gs (base es) n,0≤x∧x≤((W ^ n:Nat):Int)
 | 0=>fun x hx=>by
  obtain ⟨b,_,rfl⟩:=List.mem_map.mp hx
  cases b with
  | false=>exact ⟨Int.le_refl 0,Int.natCast_nonneg _⟩
  | true=>exact ⟨by show (0:Int)≤1; decide,by show (1:Int)≤((W ^ 0:Nat):Int); rw [Nat.pow_zero]; decide⟩
 | n+1=>fun x hx=>by
  obtain ⟨r,hr,rfl⟩:=List.mem_map.mp hx
  have:=oR (B:=((W ^ n:Nat):Int)) (Int.natCast_nonneg _) (M.itB n) r
  rw [(M.ok r hr).1,← Int.natCast_mul] at this
  rw [show W ^ (n+1)=W * W ^ n by rw [Nat.pow_succ,Nat.mul_comm]]
  exact this
end
end Mch
namespace L2
open PySem PySem.Spec PyProof.Rows
structure W {α:Type} (x:Option α) (Q:α→Prop):Prop where
 ex:∃ a,x=some a∧Q a
theorem az {α:Type} (a:α) (Q:α→Prop):W (some a) Q=Q a:=propext ⟨fun ⟨b,e,h⟩=>(Option.some.inj e) ▸ h,fun h=>⟨a,rfl,h⟩⟩
theorem bf {α:Type} (Q:α→Prop):W (none:Option α) Q=False:=propext ⟨(fun ⟨b,e,h⟩=>by cases e),(fun h=>h.elim)⟩
theorem W.use {α:Type} {x:Option α} {P Q:α→Prop} (h:W x P) (k:∀ a,P a→Q a):W x Q :=
 let ⟨a,e,h⟩:=h.ex
 ⟨a,e,k a h⟩
theorem W.of {α:Type} {x:Option α} {P:α→Prop} {a:α} (e:x=some a) (h:P a):W x P:=⟨a,e,h⟩
theorem av {α β:Type} (x:Option α) (f:α→Option β) (Q:β→Prop):W (x.bind f) Q=W x (fun a=>W (f a) Q):=by
 cases x with
 | none=>show W none _=_; rw [bf,bf]
 | some a=>show W (f a) Q=_; rw [az]
theorem br {α β:Type} (x:Option α) (f:α→β) (Q:β→Prop):W (x.map f) Q=W x (fun a=>Q (f a)):=by
 cases x with
 | none=>show W none _=_; rw [bf,bf]
 | some a=>show W (some (f a)) Q=_; rw [az,az]
theorem sQ {α:Type} (c:Prop) [Decidable c] (a:α) (Q:α→Prop):W (grd c a) Q=(c∧Q a):=by
 unfold grd
 by_cases h:c
 ·rw [if_pos h,az]; exact propext ⟨fun z=>⟨h,z⟩,fun z=>z.2⟩
 ·rw [if_neg h,bf]; exact propext ⟨fun z=>z.elim,fun z=>h z.1⟩
theorem iH {α:Type} (c:Prop) [Decidable c] (a:α) (Q:α→Prop):W (if c then some a else none) Q=(c∧Q a):=sQ c a Q
theorem sP {α:Type} (c:Prop) [Decidable c] (x:Option α) (Q:α→Prop):W (if c then x else none) Q=(c∧W x Q):=by
 by_cases h:c
 ·rw [if_pos h]; exact propext ⟨fun z=>⟨h,z⟩,fun z=>z.2⟩
 ·rw [if_neg h,bf]; exact propext ⟨fun z=>z.elim,fun z=>h z.1⟩
def gv (en:En) (i:Nat):Option D:=(en[i]?).join
def iB (ts:List D) (n:Int) (t:D):Option (List D):=(ixN ts.length n).map fun k=>ts.set k t
def rQ (ts:List D) (n:Int):Option (D × List D):=(seqIndex? n ts.length).bind fun k=>(ts[k]?).map fun t=>(t,ts.eraseIdx k)
def kb (i:Int) (n:Nat):List D:=(List.range n).map fun k=>.int (i+(k:Nat))
section
variable {α β:Type}
def sk (b:MS) (Q:Fl→Prop):Fl→Prop:=fun fl=>W (match fl with | .nx en1=>b en1 | .rt t en1=>some (.rt t en1) | .ct en1=>some (.ct en1)) Q
def GU (i:Nat) (Q:Fl→Prop):D × En→Prop:=fun r=>Q (.nx (r.2.set i (some r.1)))
def G3 (Q:Fl→Prop):D × En→Prop:=fun r=>Q (.nx r.2)
def GV (Q:Fl→Prop):D × En→Prop:=fun r=>Q (.rt r.1 r.2)
def kIf (f g:En→Option β) (Q:β→Prop):Bool × En→Prop:=fun r=>W (if r.1 then f r.2 else g r.2) Q
def G0 (g:MG) (b:MS) (Q:Fl→Prop):List D × En→Prop:=fun r=>W (cB g b r.1 r.2) Q
def mj (g:MG) (b:MS) (ts:List D) (Q:Fl→Prop):Fl→Prop:=fun fl=>W (match fl with | .nx en2=>cB g b ts en2 | .ct en2=>cB g b ts en2 | .rt r en2=>some (.rt r en2)) Q
def Cg (g:MG) (b:MS) (ts:List D) (Q:Fl→Prop):En→Prop:=fun en=>W (b en) (mj g b ts Q)
def vR (i:Nat) (en:En) (Q:Fl→Prop):List D→Prop:=fun ts=>Q (.nx (en.set i (some (.list ts))))
def mi (i:Nat) (t:D) (Q:Fl→Prop):D × En→Prop:=fun q=>W (match q.1,(q.2[i]?).join with | .int n,some (.list ts)=>(ixN ts.length n).map fun k=>.nx (q.2.set i (some (.list (ts.set k t)))) | _,_=>none) Q
def sj (i:Nat) (fk:ME) (Q:Fl→Prop):D × En→Prop:=fun r=>W (match (r.2[i]?).join with | some _=>((fk r.2).bind fun q=>(match q.1,(q.2[i]?).join with | .int n,some (.list ts)=>(ixN ts.length n).map fun k=>.nx (q.2.set i (some (.list (ts.set k r.1)))) | _,_=>none)) | none=>none) Q
def uv (i:Nat) (t:D) (fk:ME) (en:En) (Q:Fl→Prop):D→Prop:=fun _x=>W (fk en) (mi i t Q)
def pM (i:Nat) (t:D) (n:Int) (en:En) (Q:Fl→Prop):D→Prop:=fun x=>W (match x with | .list ts=>(ixN ts.length n).map fun k=>.nx (en.set i (some (.list (ts.set k t)))) | _=>none) Q
def fu (en:En) (Q:D × En→Prop):D→Prop:=fun t=>Q (t,en)
def kMv (i:Nat) (en:En) (Q:D × En→Prop):D→Prop:=fun t=>Q (t,en.set i none)
def k1 (g:D→Option D) (Q:D × En→Prop):D × En→Prop:=fun r=>W (g r.1) (fu r.2 Q)
def k2b (g:D→D→Option D) (t:D) (Q:D × En→Prop):D × En→Prop:=fun q=>W (g t q.1) (fu q.2 Q)
def k2 (g:D→D→Option D) (f:ME) (Q:D × En→Prop):D × En→Prop:=fun r=>W (f r.2) (k2b g r.1 Q)
def vV (g:ME) (Q:D × En→Prop):D × En→Prop:=fun r=>W (match r.1 with | .bool true=>g r.2 | .bool false=>some (.bool false,r.2) | _=>none) Q
def kOr (g:ME) (Q:D × En→Prop):D × En→Prop:=fun r=>W (match r.1 with | .bool true=>some (.bool true,r.2) | .bool false=>g r.2 | _=>none) Q
def GX (Q:D × En→Prop):D × En→Prop:=fun r=>W (match r.1 with | .bool b=>some (.bool (!b),r.2) | _=>none) Q
def kTV (Q:Bool × En→Prop):D × En→Prop:=fun r=>W (match r.1 with | .bool b=>some (b,r.2) | _=>none) Q
def sy (g:MT) (Q:Bool × En→Prop):Bool × En→Prop:=fun r=>W (if r.1 then g r.2 else some (false,r.2)) Q
def vU (g:MT) (Q:Bool × En→Prop):Bool × En→Prop:=fun r=>W (if r.1 then some (true,r.2) else g r.2) Q
def Ci (Q:Bool × En→Prop):Bool × En→Prop:=fun r=>Q (!r.1,r.2)
def vX (t:D) (Q:List (D ⊕ Nat) × En→Prop):List (D ⊕ Nat) × En→Prop:=fun y=>Q (.inl t :: y.1,y.2)
def kAC (r:MA) (Q:List (D ⊕ Nat) × En→Prop):D × En→Prop:=fun x=>W (r x.2) (vX x.1 Q)
def vW (i:Nat) (Q:List (D ⊕ Nat) × En→Prop):List (D ⊕ Nat) × En→Prop:=fun y=>Q (.inr i :: y.1,y.2)
def kAS (i:Nat) (r:MA) (en:En) (Q:List (D ⊕ Nat) × En→Prop):D→Prop:=fun _x=>W (r en) (vW i Q)
def kN2 (g:List D→Option D) (en:En) (Q:D × En→Prop):List D→Prop:=fun ts=>W (g ts) (fu en Q)
def kN (g:List D→Option D) (Q:D × En→Prop):List (D ⊕ Nat) × En→Prop:=fun r=>W (vals r.1) (kN2 g r.2 Q)
def ss (en:En) (Q:D × En→Prop):List D→Prop:=fun ts=>W (if ts.length≤sizeLine then some (.list ts,en) else none) Q
def GY (Q:D × En→Prop):List (D ⊕ Nat) × En→Prop:=fun r=>W (vals r.1) (ss r.2 Q)
def si (en:En) (Q:D × En→Prop):List D→Prop:=fun ts=>W (if ts.length≤sizeLine then some (.tuple ts,en) else none) Q
def GT (Q:D × En→Prop):List (D ⊕ Nat) × En→Prop:=fun r=>W (vals r.1) (si r.2 Q)
def pO (as:List (D ⊕ Nat)) (en:En) (Q:D × En→Prop):D × En→Prop:=fun q=>Q (q.1,wb as q.2 en)
def pP (F:List D→Option (D × En)) (as:List (D ⊕ Nat)) (en:En) (Q:D × En→Prop):List D→Prop:=fun ts=>W (F ts) (pO as en Q)
def Ch (F:List D→Option (D × En)) (Q:D × En→Prop):List (D ⊕ Nat) × En→Prop:=fun r=>W (dq r.1 r.2) (pP F r.1 r.2 Q)
def kFn (dps:List Nat) (Q:D × En→Prop):Fl→Prop:=fun fl=>W (match fl with | .rt t en=>some (t,msk dps en) | .nx en=>some (.none,msk dps en) | .ct _=>none) Q
def sv (q:Bool) (js:List (Option Nat)) (en:En) (Q:D × En→Prop):List D × En→Prop:=fun z=>Q (.list z.1,if q then en else wbB js z.2 en)
def kLC (q:Bool) (g:MG) (c:MT) (f:ME) (js:List (Option Nat)) (Q:D × En→Prop):List D × En→Prop:=fun r=>W (lcF g c f r.1 [] (ck js r.2)) (sv q js r.2 Q)
def kL3 (g:MG) (c:MT) (f:ME) (ts acc:List D) (Q:List D × En→Prop):D × En→Prop:=fun q=>W (if acc.length < sizeLine then lcF g c f ts (acc++[q.1]) q.2 else none) Q
def kL2 (g:MG) (c:MT) (f:ME) (ts acc:List D) (Q:List D × En→Prop):Bool × En→Prop:=fun r=>W (if r.1 then (f r.2).bind fun q=>if acc.length < sizeLine then lcF g c f ts (acc++[q.1]) q.2 else none else lcF g c f ts acc r.2) Q
def kL1 (g:MG) (c:MT) (f:ME) (ts acc:List D) (Q:List D × En→Prop):En→Prop:=fun en=>W (c en) (kL2 g c f ts acc Q)
def sB (Q:List D × En→Prop):D × En→Prop:=fun r=>W ((B5 r.1).map fun ts=>(ts,r.2)) Q
def kR1 (Q:List D × En→Prop):List (D ⊕ Nat) × En→Prop:=fun r=>W (match r.1 with | [.inl (.int j)]=>if -(2 ^ 62)≤j∧j < 2 ^ 62 then some ((List.range j.toNat).map fun k=>.int (0+(k:Nat)),r.2) else none | _=>none) Q
def kEn (Q:List D × En→Prop):List (D ⊕ Nat) × En→Prop:=fun r=>W (match r.1 with | [.inl (.list ts)]=>some (df ts,r.2) | [.inl (.tuple ts)]=>some (df ts,r.2) | _=>none) Q
def GQ (Q:List D × En→Prop):List (D ⊕ Nat) × En→Prop:=fun r=>W (match r.1 with | [.inl (.list ts),.inl (.list us)]=>some (iz ts us,r.2) | _=>none) Q
def um (n:Int) (en:En) (Q:D × En→Prop):D→Prop:=fun x=>W (match x with | .list ts=>(atI ts n).map fun t=>(t,en) | _=>none) Q
def mh (i:Nat) (Q:D × En→Prop):D × En→Prop:=fun r=>W (match r.1,(r.2[i]?).join with | .int n,some (.list ts)=>(atI ts n).map fun t=>(t,r.2) | _,_=>none) Q
def Ce (i:Nat) (f:ME) (en:En) (Q:D × En→Prop):D→Prop:=fun _x=>W (f en) (mh i Q)
def sA (i:Nat) (Q:D × En→Prop):D × En→Prop:=fun r=>W (match (r.2[i]?).join with | some (.list ts)=>if ts.length < sizeLine then some (PyData.none,r.2.set i (some (.list (ts++[r.1])))) else none | _=>none) Q
def Cj (i:Nat) (t:D) (en:En) (Q:D × En→Prop):D→Prop:=fun x=>W (match x with | .list ts=>if ts.length < sizeLine then some (PyData.none,en.set i (some (.list (ts++[t])))) else none | _=>none) Q
def G5 (i:Nat) (f:ME) (en:En) (Q:D × En→Prop):D→Prop:=fun x=>W (match x with | .list _=>((f en).bind fun r=>(match (r.2[i]?).join with | some (.list ts)=>if ts.length < sizeLine then some (PyData.none,r.2.set i (some (.list (ts++[r.1])))) else none | _=>none)) | _=>none) Q
def sx (g:D→D→Option D) (t:D) (f:ME) (en:En) (Q:D × En→Prop):D→Prop:=fun x=>W (match x with | .bool true=>(f en).bind fun z=>(g t z.1).map fun t=>(t,z.2) | .bool false=>some (.bool false,en) | _=>none) Q
def vT (g g2:D→D→Option D) (f3:ME) (t:D) (Q:D × En→Prop):D × En→Prop:=fun q=>W (g t q.1) (sx g2 q.1 f3 q.2 Q)
def kCh (g g2:D→D→Option D) (f2 f3:ME) (Q:D × En→Prop):D × En→Prop:=fun r=>W (f2 r.2) (vT g g2 f3 r.1 Q)
def kOS (Q:Option Int × En→Prop):D × En→Prop:=fun r=>W (match r.1 with | .int i=>some (some i,r.2) | _=>none) Q
def vP (g:D→Option Int→Option Int→Option D) (t:D) (lo:Option Int) (Q:D × En→Prop):Option Int × En→Prop:=fun h=>W (g t lo h.1) (fu h.2 Q)
def vQ (g:D→Option Int→Option Int→Option D) (t:D) (hi:MO) (Q:D × En→Prop):Option Int × En→Prop:=fun l=>W (hi l.2) (vP g t l.1 Q)
def kSl (g:D→Option Int→Option Int→Option D) (lo hi:MO) (Q:D × En→Prop):D × En→Prop:=fun r=>W (lo r.2) (vQ g r.1 hi Q)
def kM2 (g:Str→List D→Option D) (z:Str) (en:En) (Q:D × En→Prop):List D→Prop:=fun ts=>W (g z ts) (fu en Q)
def kM1 (g:Str→List D→Option D) (z:Str) (Q:D × En→Prop):List (D ⊕ Nat) × En→Prop:=fun q=>W (vals q.1) (kM2 g z q.2 Q)
def kM (g:Str→List D→Option D) (fa:MA) (Q:D × En→Prop):D × En→Prop:=fun r=>W (match r.1 with | .str z=>(fa r.2).bind fun q=>(vals q.1).bind fun ts=>(g z ts).map fun t=>(t,q.2) | _=>none) Q
def sw (i:Nat) (Q:D × En→Prop):D × En→Prop:=fun r=>W (match (r.2[i]?).join with | some (.dict ks)=>(kOf r.1).bind fun _=>(fN ks r.1).map fun t=>(t,r.2) | _=>none) Q
def Jv (q:D) (en:En) (Q:D × En→Prop):D→Prop:=fun x=>W (match x with | .dict ks=>(kOf q).bind fun _=>(fN ks q).map fun t=>(t,en) | _=>none) Q
def kDg (f:ME) (i:Nat) (en:En) (Q:D × En→Prop):D→Prop:=fun _x=>W (f en) (sw i Q)
def kIt (J:En→Prop) (Q:Fl→Prop):Fl→Prop:=fun fl=>match fl with | .nx e=>J e | .ct e=>J e | .rt t e=>Q (.rt t e)
def vS (us:List D) (J:List D→En→Prop):D × En→Prop:=fun r=>J (us++[r.1]) r.2
def su (f:ME) (us:List D) (J:List D→En→Prop):Bool × En→Prop:=fun r=>if r.1 then W (f r.2) (vS us J) else J us r.2
def GZ (c:MT) (f:ME) (us:List D) (J:List D→En→Prop):En→Prop:=fun en=>W (c en) (su f us J)
def kWh (b:MS) (J:En→Prop) (Q:Fl→Prop):Bool × En→Prop:=fun r=>if r.1 then W (b r.2) (kIt J Q) else Q (.nx r.2)
def kFg (b:MS) (J:En→Prop) (Q:Fl→Prop):En→Prop:=fun en=>W (b en) (kIt J Q)
def Cf (i:Nat) (en:En) (Q:D × En→Prop):D × List D→Prop:=fun r=>Q (r.1,en.set i (some (.list r.2)))
def sm (i:Nat) (n:Int) (en:En) (Q:D × En→Prop):D→Prop:=fun x=>W (match x with | .list ts=>(if -(2 ^ 63)≤n∧n < 2 ^ 63 then (seqIndex? n ts.length).bind fun k=>(ts[k]?).map fun t=>(t,en.set i (some (.list (ts.eraseIdx k)))) else none) | _=>none) Q
def sr (i:Nat) (Q:D × En→Prop):D × En→Prop:=fun r=>W (match r.1,(r.2[i]?).join with | .int n,some (.list ts)=>(if -(2 ^ 63)≤n∧n < 2 ^ 63 then (seqIndex? n ts.length).bind fun k=>(ts[k]?).map fun t=>(t,r.2.set i (some (.list (ts.eraseIdx k)))) else none) | _,_=>none) Q
def GW (i:Nat) (f:ME) (en:En) (Q:D × En→Prop):D→Prop:=fun x=>W (match x with | .list _=>(f en).bind (fun r=>match r.1,(r.2[i]?).join with | .int n,some (.list ts)=>(if -(2 ^ 63)≤n∧n < 2 ^ 63 then (seqIndex? n ts.length).bind fun k=>(ts[k]?).map fun t=>(t,r.2.set i (some (.list (ts.eraseIdx k)))) else none) | _,_=>none) | _=>none) Q
def kS1 (Q:D→Prop):Nat→Prop:=fun c=>Q (.str (mk1 c))
def kGs (q:List D→En→Option En) (ts:List D) (Q:En→Prop):En→Prop:=fun en=>W (q ts en) Q
def mq (t:D) (Q:List D→Prop):List D→Prop:=fun ts=>Q (t :: ts)
def G4 (r:List (D ⊕ Nat)) (en:En) (Q:List D→Prop):D→Prop:=fun t=>W (dq r en) (mq t Q)
theorem aX {α:Type} (ts:List α) (n:Nat):atI ts (n:Int)=ts[n]?:=by
 unfold atI ixN
 rw [if_pos (by omega)]
 by_cases h:n < ts.length
 ·rw [if_pos (by omega)]; rfl
 ·rw [if_neg (by omega),List.getElem?_eq_none (by omega)]; rfl
theorem ft {ts:List D} {t:D} (n:Nat) (h:n < ts.length):iB ts (n:Int) t=some (ts.set n t):=by
 unfold iB ixN
 rw [if_pos (by omega),if_pos (by omega)]
 rfl
theorem DY (x:D) (l:List D):dk (x :: l) (some 1) none=l:=by
 unfold dk
 rw [HT.sIx_none,show (some (1:Int))=some ((1:Nat):Int) from rfl,HT.sIx_nat,Nat.min_eq_left (by simp),List.drop_one]
 exact List.take_of_length_le (by simp)
theorem Jh (x:D) (l:List D):(HT.sIx (x :: l).length 0 (some 1)=0)=False:=by
 rw [show (some (1:Int))=some ((1:Nat):Int) from rfl,HT.sIx_nat,Nat.min_eq_left (by simp)]
 exact eq_false (by decide)
theorem rf (a b:Int):(a == b)=decide (a=b):=by
 by_cases h:a=b
 ·rw [h,decide_eq_true rfl]; exact beq_self_eq_true b
 ·rw [decide_eq_false h]; exact beq_eq_false_iff_ne.mpr h
theorem DW (a b:Bool):eqD (.bool a) (.bool b)=some (.bool (a == b)):=by
 show grd _ _=_
 unfold grd
 rw [if_pos ⟨rfl,rfl,Nat.zero_le _⟩]
 simp only [peq]
theorem C1 (a b:Bool):neD (.bool a) (.bool b)=some (.bool (!(a == b))):=by
 show grd _ _=_
 unfold grd
 rw [if_pos ⟨rfl,rfl,Nat.zero_le _⟩]
 simp only [peq]
theorem qO (a b:Str):(a == b)=decide (a=b):=by
 by_cases h:a=b
 ·rw [h,decide_eq_true rfl]; exact beq_self_eq_true b
 ·rw [decide_eq_false h]; exact beq_eq_false_iff_ne.mpr h
theorem HX (a b:Str):eqD (.str a) (.str b)=some (.bool (decide (a=b))):=by
 show grd _ _=_
 unfold grd
 rw [if_pos ⟨rfl,rfl,Nat.zero_le _⟩,← qO]
 simp only [peq]
theorem GF (a b:Str):neD (.str a) (.str b)=some (.bool (!decide (a=b))):=by
 show grd _ _=_
 unfold grd
 rw [if_pos ⟨rfl,rfl,Nat.zero_le _⟩,← qO]
 simp only [peq]
theorem HY:eqD (.list []) (.list [])=some (.bool true):=by
 show grd _ _=_
 unfold grd
 rw [if_pos ⟨rfl,rfl,by decide⟩]
 rfl
theorem GG:neD (.list []) (.list [])=some (.bool false):=by
 show grd _ _=_
 unfold grd
 rw [if_pos ⟨rfl,rfl,by decide⟩]
 rfl
variable (en:En) (Qs:Fl→Prop) (Qe:D × En→Prop) (Qb:Bool × En→Prop) (Qa:List (D ⊕ Nat) × En→Prop) (Ql:List D × En→Prop) (Qd:D→Prop) (Qt:List D→Prop) (Qn:En→Prop) (f:ME) (g:MG) (fa:MA) (c:MT) (ts:List D) (i:Nat)
theorem ws0 (α:Type) (a:α) (Q:α→Prop):W (some a) Q=Q a:=az _ _
theorem ws1 (α:Type) (Q:α→Prop):W (none:Option α) Q=False:=bf _
theorem ws2 (α:Type) (c:Prop) (_:Decidable c) (a:α) (Q:α→Prop):W (grd c a) Q=(c∧Q a):=sQ c a Q
theorem ws3 (a:Option D) (l:En):gv (a :: l) 0=a:=rfl
theorem ws4 (a:Option D) (l:En):gv (a :: l) (i+1)=gv l i:=rfl
theorem ws5 (a b:Option D) (l:En):List.set (a :: l) 0 b=b :: l:=rfl
theorem ws6 (a b:Option D) (l:En):List.set (a :: l) (i+1) b=a :: List.set l i b:=rfl
theorem ws7 (a b:MS):W (al a b en) Qs=W (a en) (sk b Qs):=av _ _ _
theorem ws8 (b:MS):sk b Qs (.nx en)=W (b en) Qs:=rfl
theorem ws9 (b:MS) (t:D):sk b Qs (.rt t en)=Qs (.rt t en):=az _ _
theorem FS (b:MS):sk b Qs (.ct en)=Qs (.ct en):=az _ _
theorem FR:W (ap i f en) Qs=W (f en) (GU i Qs):=br _ _ _
theorem FQ (t:D):GU i Qs (t,en)=Qs (.nx (en.set i (some t))):=rfl
theorem FP:W (bN f en) Qs=W (f en) (G3 Qs):=br _ _ _
theorem FO (t:D):G3 Qs (t,en)=Qs (.nx en):=rfl
theorem FN:W (aF f en) Qs=W (f en) (GV Qs):=br _ _ _
theorem FM (t:D):GV Qs (t,en)=Qs (.rt t en):=rfl
theorem FK:W (bt en) Qs=Qs (.nx en):=az _ _
theorem FJ:W (fV en) Qs=False:=bf _
theorem FI (a b:MS):W (sIf c a b en) Qs=W (c en) (kIf a b Qs):=av _ _ _
theorem FH (β:Type) (a b:En→Option β) (Q:β→Prop):kIf a b Q (true,en)=W (a en) Q:=rfl
theorem FG (β:Type) (a b:En→Option β) (Q:β→Prop):kIf a b Q (false,en)=W (b en) Q:=rfl
theorem FF (fi:MI) (b:MS):W (c9 fi g b en) Qs=W (fi en) (G0 g b Qs):=av _ _ _
theorem FE (b:MS):G0 g b Qs (ts,en)=W (cB g b ts en) Qs:=rfl
theorem FD (b:MS):W (cB g b [] en) Qs=Qs (.nx en):=az _ _
theorem FC (b:MS) (t:D):W (cB g b (t :: ts) en) Qs=W (g t en) (Cg g b ts Qs):=(av _ _ _).trans (congrArg _ (funext fun z=>av _ _ _))
theorem FB (b:MS):Cg g b ts Qs en=W (b en) (mj g b ts Qs):=rfl
theorem FA (b:MS):mj g b ts Qs (.nx en)=W (cB g b ts en) Qs:=rfl
theorem Fz (b:MS):mj g b ts Qs (.ct en)=W (cB g b ts en) Qs:=rfl
theorem Fy (b:MS) (t:D):mj g b ts Qs (.rt t en)=Qs (.rt t en):=az _ _
theorem Fx (t:D):W (gN i t en) Qn=Qn (en.set i (some t)):=az _ _
theorem Fw (g:List D→En→Option En):W (gT g (.tuple ts) en) Qn=W (g ts en) Qn:=rfl
theorem Fv (q:List D→En→Option En) (t:D):W (gsC g q (t :: ts) en) Qn=W (g t en) (kGs q ts Qn):=av _ _ _
theorem Fu (q:List D→En→Option En):kGs q ts Qn en=W (q ts en) Qn:=rfl
theorem Ft:W (gs0 [] en) Qn=Qn en:=az _ _
theorem Fs (fk fe:ME):W (eV i fk fe en) Qs=W (fe en) (sj i fk Qs):=av _ _ _
theorem Fq (fk:ME) (t:D):sj i fk Qs (t,en)=W (gv en i) (uv i t fk en Qs):=by unfold sj gv; cases h:(en[i]?).join with | none=>simp only [h,bf] | some x=>simp only [h,az]; exact av _ _ _
theorem Fp (t:D) (fk:ME) (x:D):uv i t fk en Qs x=W (fk en) (mi i t Qs):=rfl
theorem Fo (t:D) (n:Int):mi i t Qs (.int n,en)=W (gv en i) (pM i t n en Qs):=by unfold mi gv; cases h:(en[i]?).join with | none=>simp only [h,bf] | some x=>simp only [h,az]; cases x <;> first | rfl | exact (az _ _).symm | (rw [az]; rfl) | (rw [az]; exact bf _)
theorem Fm (t:D) (n:Int):pM i t n en Qs (.list ts)=W (iB ts n t) (vR i en Qs):=by unfold pM iB vR; dsimp only; rw [br,br]
theorem Fk:vR i en Qs ts=Qs (.nx (en.set i (some (.list ts)))):=rfl
theorem Fj (x0 t:D) (l:List D):iB (x0 :: l) 0 t=some (t :: l):=ft 0 (by simp only [List.length_cons]; omega)
theorem Fi (x0 x1 t:D) (l:List D):iB (x0 :: x1 :: l) 1 t=some (x0 :: t :: l):=ft 1 (by simp only [List.length_cons]; omega)
theorem Fh (x0 x1 x2 t:D) (l:List D):iB (x0 :: x1 :: x2 :: l) 2 t=some (x0 :: x1 :: t :: l):=ft 2 (by simp only [List.length_cons]; omega)
theorem Fg (x0 x1 x2 x3 t:D) (l:List D):iB (x0 :: x1 :: x2 :: x3 :: l) 3 t=some (x0 :: x1 :: x2 :: t :: l):=ft 3 (by simp only [List.length_cons]; omega)
theorem Ff (x0 x1 x2 x3 x4 t:D) (l:List D):iB (x0 :: x1 :: x2 :: x3 :: x4 :: l) 4 t=some (x0 :: x1 :: x2 :: x3 :: t :: l):=ft 4 (by simp only [List.length_cons]; omega)
theorem Fe (x0 x1 x2 x3 x4 x5 t:D) (l:List D):iB (x0 :: x1 :: x2 :: x3 :: x4 :: x5 :: l) 5 t=some (x0 :: x1 :: x2 :: x3 :: x4 :: t :: l):=ft 5 (by simp only [List.length_cons]; omega)
theorem Fd:W (ad i en) Qe=W (gv en i) (fu en Qe):=br _ _ _
theorem Fc (t:D):fu en Qe t=Qe (t,en):=rfl
theorem Fb:W (eMv i en) Qe=W (gv en i) (kMv i en Qe):=br _ _ _
theorem E9 (t:D):kMv i en Qe t=Qe (t,en.set i none):=rfl
theorem E8 (t:D):W (eC t en) Qe=Qe (t,en):=az _ _
theorem E7 (g:D→Option D):W (e1 g f en) Qe=W (f en) (k1 g Qe):=(av _ _ _).trans (congrArg _ (funext fun z=>br _ _ _))
theorem E6 (g:D→Option D) (t:D):k1 g Qe (t,en)=W (g t) (fu en Qe):=rfl
theorem E5 (g:D→D→Option D) (f1 f2:ME):W (e2 g f1 f2 en) Qe=W (f1 en) (k2 g f2 Qe):=(av _ _ _).trans (congrArg _ (funext fun z=>(av _ _ _).trans (congrArg _ (funext fun y=>br _ _ _))))
theorem E4 (g:D→D→Option D) (f2:ME) (t:D):k2 g f2 Qe (t,en)=W (f2 en) (k2b g t Qe):=rfl
theorem E3 (g:D→D→Option D) (t u:D):k2b g t Qe (u,en)=W (g t u) (fu en Qe):=rfl
theorem E2 (f g:ME):W (kq f g en) Qe=W (f en) (vV g Qe):=av _ _ _
theorem EZ (g:ME):vV g Qe (.bool true,en)=W (g en) Qe:=rfl
theorem EY (g:ME):vV g Qe (.bool false,en)=Qe (.bool false,en):=az _ _
theorem EX (f g:ME):W (eOr f g en) Qe=W (f en) (kOr g Qe):=av _ _ _
theorem EW (g:ME):kOr g Qe (.bool true,en)=Qe (.bool true,en):=az _ _
theorem EV (g:ME):kOr g Qe (.bool false,en)=W (g en) Qe:=rfl
theorem EU:W (nc f en) Qe=W (f en) (GX Qe):=av _ _ _
theorem ET (x:Bool):GX Qe (.bool x,en)=Qe (.bool (!x),en):=az _ _
theorem ES (f g:ME):W (eIf c f g en) Qe=W (c en) (kIf f g Qe):=av _ _ _
theorem ER:W (tV f en) Qb=W (f en) (kTV Qb):=av _ _ _
theorem EQ (x:Bool):kTV Qb (.bool x,en)=Qb (x,en):=az _ _
theorem EO (f g:MT):W (cD f g en) Qb=W (f en) (sy g Qb):=av _ _ _
theorem EN (g:MT):sy g Qb (true,en)=W (g en) Qb:=rfl
theorem EM (g:MT):sy g Qb (false,en)=Qb (false,en):=az _ _
theorem EL (f g:MT):W (bOr f g en) Qb=W (f en) (vU g Qb):=av _ _ _
theorem EK (g:MT):vU g Qb (true,en)=Qb (true,en):=az _ _
theorem EJ (g:MT):vU g Qb (false,en)=W (g en) Qb:=rfl
theorem EH (f:MT):W (e9 f en) Qb=W (f en) (Ci Qb):=br _ _ _
theorem EG (x:Bool):Ci Qb (x,en)=Qb (!x,en):=rfl
theorem EF:W (cY en) Qb=Qb (true,en):=az _ _
theorem EE:W (ai en) Qa=Qa ([],en):=az _ _
theorem ED (r:MA):W (ae f r en) Qa=W (f en) (kAC r Qa):=(av _ _ _).trans (congrArg _ (funext fun z=>br _ _ _))
theorem EC (r:MA) (t:D):kAC r Qa (t,en)=W (r en) (vX t Qa):=rfl
theorem EB (t:D) (as:List (D ⊕ Nat)):vX t Qa (as,en)=Qa (.inl t :: as,en):=rfl
theorem EA (r:MA):W (aG i r en) Qa=W (gv en i) (kAS i r en Qa):=(av _ _ _).trans (congrArg _ (funext fun z=>br _ _ _))
theorem Ez (r:MA) (t:D):kAS i r en Qa t=W (r en) (vW i Qa):=rfl
theorem Ey (as:List (D ⊕ Nat)):vW i Qa (as,en)=Qa (.inr i :: as,en):=rfl
theorem Ex:vals []=some []:=rfl
theorem Ew (t:D) (r:List (D ⊕ Nat)):W (vals (.inl t :: r)) Qt=W (vals r) (mq t Qt):=br _ _ _
theorem Ev (t:D):mq t Qt ts=Qt (t :: ts):=rfl
theorem Eu:dq [] en=some []:=rfl
theorem Et (t:D) (r:List (D ⊕ Nat)):W (dq (.inl t :: r) en) Qt=W (dq r en) (mq t Qt):=br _ _ _
theorem Es (r:List (D ⊕ Nat)):W (dq (.inr i :: r) en) Qt=W (gv en i) (G4 r en Qt):=(av _ _ _).trans (congrArg _ (funext fun z=>br _ _ _))
theorem Er (t:D) (r:List (D ⊕ Nat)):G4 r en Qt t=W (dq r en) (mq t Qt):=rfl
theorem Ep (r:List (D ⊕ Nat)) (o:Option D) (outs:En):wb (.inr i :: r) (o :: outs) en=wb r outs (en.set i o):=rfl
theorem Eo (t:D) (r:List (D ⊕ Nat)) (o:Option D) (outs:En):wb (.inl t :: r) (o :: outs) en=wb r outs en:=rfl
theorem Em (outs:En):wb [] outs en=en:=rfl
theorem El (g:List D→Option D):W (eN g fa en) Qe=W (fa en) (kN g Qe):=(av _ _ _).trans (congrArg _ (funext fun z=>(av _ _ _).trans (congrArg _ (funext fun y=>br _ _ _))))
theorem Ek (g:List D→Option D) (as:List (D ⊕ Nat)):kN g Qe (as,en)=W (vals as) (kN2 g en Qe):=rfl
theorem Ej (g:List D→Option D):kN2 g en Qe ts=W (g ts) (fu en Qe):=rfl
theorem Ei:W (bo fa en) Qe=W (fa en) (GY Qe):=(av _ _ _).trans (congrArg _ (funext fun z=>av _ _ _))
theorem Eh (as:List (D ⊕ Nat)):GY Qe (as,en)=W (vals as) (ss en Qe):=rfl
theorem Eg:ss en Qe ts=(ts.length≤sizeLine∧Qe (.list ts,en)):=iH _ _ _
theorem BX:W (e8 fa en) Qe=W (fa en) (GT Qe):=(av _ _ _).trans (congrArg _ (funext fun z=>av _ _ _))
theorem BW (as:List (D ⊕ Nat)):GT Qe (as,en)=W (vals as) (si en Qe):=rfl
theorem BV:si en Qe ts=(ts.length≤sizeLine∧Qe (.tuple ts,en)):=iH _ _ _
theorem BU:(([]:List D).length≤sizeLine)=True:=eq_true (Nat.le_trans (by show 0≤100; decide) ba)
theorem BT (x0:D):(([x0]:List D).length≤sizeLine)=True:=eq_true (Nat.le_trans (by show 1≤100; decide) ba)
theorem BS (x0 x1:D):(([x0,x1]:List D).length≤sizeLine)=True:=eq_true (Nat.le_trans (by show 2≤100; decide) ba)
theorem BR (x0 x1 x2:D):(([x0,x1,x2]:List D).length≤sizeLine)=True:=eq_true (Nat.le_trans (by show 3≤100; decide) ba)
theorem BQ (x0 x1 x2 x3:D):(([x0,x1,x2,x3]:List D).length≤sizeLine)=True:=eq_true (Nat.le_trans (by show 4≤100; decide) ba)
theorem BP (x0 x1 x2 x3 x4:D):(([x0,x1,x2,x3,x4]:List D).length≤sizeLine)=True:=eq_true (Nat.le_trans (by show 5≤100; decide) ba)
theorem BO (x0 x1 x2 x3 x4 x5:D):(([x0,x1,x2,x3,x4,x5]:List D).length≤sizeLine)=True:=eq_true (Nat.le_trans (by show 6≤100; decide) ba)
theorem BN (x0 x1 x2 x3 x4 x5 x6:D):(([x0,x1,x2,x3,x4,x5,x6]:List D).length≤sizeLine)=True:=eq_true (Nat.le_trans (by show 7≤100; decide) ba)
theorem BM (x0 x1 x2 x3 x4 x5 x6 x7:D):(([x0,x1,x2,x3,x4,x5,x6,x7]:List D).length≤sizeLine)=True:=eq_true (Nat.le_trans (by show 8≤100; decide) ba)
theorem BL (x0 x1 x2 x3 x4 x5 x6 x7 x8:D):(([x0,x1,x2,x3,x4,x5,x6,x7,x8]:List D).length≤sizeLine)=True:=eq_true (Nat.le_trans (by show 9≤100; decide) ba)
theorem BK (F:List D→Option (D × En)):W (aq F fa en) Qe=W (fa en) (Ch F Qe):=(av _ _ _).trans (congrArg _ (funext fun z=>(av _ _ _).trans (congrArg _ (funext fun y=>br _ _ _))))
theorem BJ (F:List D→Option (D × En)) (as:List (D ⊕ Nat)):Ch F Qe (as,en)=W (dq as en) (pP F as en Qe):=rfl
theorem BI (F:List D→Option (D × En)) (as:List (D ⊕ Nat)):pP F as en Qe ts=W (F ts) (pO as en Qe):=rfl
theorem BH (as:List (D ⊕ Nat)) (t:D) (outs:En):pO as en Qe (t,outs)=Qe (t,wb as outs en):=rfl
theorem BG (q:Bool) (fi:MI) (js:List (Option Nat)):W (eLC q fi g c f js en) Qe=W (fi en) (kLC q g c f js Qe):=(av _ _ _).trans (congrArg _ (funext fun z=>br _ _ _))
theorem BF (q:Bool) (js:List (Option Nat)):kLC q g c f js Qe (ts,en)=W (lcF g c f ts [] (ck js en)) (sv q js en Qe):=rfl
theorem BE (js:List (Option Nat)) (us:List D) (ex:En):sv true js en Qe (us,ex)=Qe (.list us,en):=rfl
theorem BD (js:List (Option Nat)) (us:List D) (ex:En):sv false js en Qe (us,ex)=Qe (.list us,wbB js ex en):=rfl
theorem BC:ck [] en=[]:=rfl
theorem BB (j:Nat) (js:List (Option Nat)):ck (some j :: js) en=gv en j :: ck js en:=rfl
theorem BA (js:List (Option Nat)):ck (none :: js) en=none :: ck js en:=rfl
theorem Bz (j:Nat) (js:List (Option Nat)) (o:Option D) (ex:En):wbB (some j :: js) (o :: ex) en=wbB js ex (en.set j o):=rfl
theorem By (js:List (Option Nat)) (o:Option D) (ex:En):wbB (none :: js) (o :: ex) en=wbB js ex en:=rfl
theorem Bx (ex:En):wbB [] ex en=en:=rfl
theorem Bw:W (lcF g c f [] acc en) Ql=Ql (acc,en):=az _ _
theorem Bv:W (bj f en) Ql=W (f en) (sB Ql):=av _ _ _
theorem Bu:sB Ql (.list ts,en)=Ql (ts,en):=az _ _
theorem Bt:sB Ql (.tuple ts,en)=Ql (ts,en):=az _ _
theorem Bs (z:Str):sB Ql (.str z,en)=Ql (cc z,en):=az _ _
theorem Br:W (bB fa en) Ql=W (fa en) (kR1 Ql):=av _ _ _
theorem Bq (j:Int):kR1 Ql ([.inl (.int j)],en)=((-(2 ^ 62)≤j∧j < 2 ^ 62)∧Ql (kb 0 j.toNat,en)):=iH _ _ _
theorem Bp:W (gY fa en) Ql=W (fa en) (kEn Ql):=av _ _ _
theorem Bo:kEn Ql ([.inl (.list ts)],en)=Ql (df ts,en):=az _ _
theorem Bn:kEn Ql ([.inl (.tuple ts)],en)=Ql (df ts,en):=az _ _
theorem Bm:W (mw fa en) Ql=W (fa en) (GQ Ql):=av _ _ _
theorem Bk (ts us:List D):GQ Ql ([.inl (.list ts),.inl (.list us)],en)=Ql (iz ts us,en):=az _ _
theorem Bj:W (da i f en) Qe=W (gv en i) (Ce i f en Qe):=(av _ _ _).trans (congrArg _ (funext fun z=>av _ _ _))
theorem Bi (x:D):Ce i f en Qe x=W (f en) (mh i Qe):=rfl
theorem Bh (n:Int):mh i Qe (.int n,en)=W (gv en i) (um n en Qe):=by unfold mh gv; cases h:(en[i]?).join with | none=>simp only [h,bf] | some x=>simp only [h,az]; cases x <;> first | rfl | exact (az _ _).symm | (rw [az]; rfl) | (rw [az]; exact bf _)
theorem Bg (n:Int):um n en Qe (.list ts)=W (atI ts n) (fu en Qe):=br _ _ _
theorem Bf:W (bQ i f en) Qe=W (gv en i) (G5 i f en Qe):=by unfold gv bQ; cases (en[i]?).join with | none=>rw [bf,bf] | some x=>cases x <;> first | rfl | exact (az _ _).symm | (rw [az]; rfl) | (rw [az]; exact bf _)
theorem Be:G5 i f en Qe (.list ts)=W (f en) (sA i Qe):=av _ _ _
theorem Bd (t:D):sA i Qe (t,en)=W (gv en i) (Cj i t en Qe):=by unfold sA gv; cases h:(en[i]?).join with | none=>simp only [h,bf] | some x=>simp only [h,az]; cases x <;> first | rfl | exact (az _ _).symm | (rw [az]; rfl) | (rw [az]; exact bf _)
theorem Bc (t:D):Cj i t en Qe (.list ts)=(ts.length < sizeLine∧Qe (.none,en.set i (some (.list (ts++[t]))))):=iH _ _ _
theorem Bb (g g2:D→D→Option D) (f1 f2 f3:ME):W (h9 g g2 f1 f2 f3 en) Qe=W (f1 en) (kCh g g2 f2 f3 Qe):=(av _ _ _).trans (congrArg _ (funext fun z=>(av _ _ _).trans (congrArg _ (funext fun y=>av _ _ _))))
theorem Ba (g g2:D→D→Option D) (f2 f3:ME) (t:D):kCh g g2 f2 f3 Qe (t,en)=W (f2 en) (vT g g2 f3 t Qe):=rfl
theorem A9 (g g2:D→D→Option D) (f3:ME) (t u:D):vT g g2 f3 t Qe (u,en)=W (g t u) (sx g2 u f3 en Qe):=rfl
theorem A8 (g:D→D→Option D) (u:D) (f3:ME):sx g u f3 en Qe (.bool true)=W (f3 en) (k2b g u Qe):=(av _ _ _).trans (congrArg _ (funext fun z=>br _ _ _))
theorem A7 (g:D→D→Option D) (u:D) (f3:ME):sx g u f3 en Qe (.bool false)=Qe (.bool false,en):=az _ _
theorem A6 (Q:Option Int × En→Prop):W (gz en) Q=Q (none,en):=az _ _
theorem A5 (Q:Option Int × En→Prop):W (fL f en) Q=W (f en) (kOS Q):=av _ _ _
theorem A4 (n:Int) (Q:Option Int × En→Prop):kOS Q (.int n,en)=Q (some n,en):=az _ _
theorem A3 (g:D→Option Int→Option Int→Option D) (lo hi:MO):W (eSl g f lo hi en) Qe=W (f en) (kSl g lo hi Qe):=(av _ _ _).trans (congrArg _ (funext fun z=>(av _ _ _).trans (congrArg _ (funext fun y=>(av _ _ _).trans (congrArg _ (funext fun y=>br _ _ _))))))
theorem A2 (g:D→Option Int→Option Int→Option D) (lo hi:MO) (t:D):kSl g lo hi Qe (t,en)=W (lo en) (vQ g t hi Qe):=rfl
theorem A1 (g:D→Option Int→Option Int→Option D) (hi:MO) (t:D) (a:Option Int):vQ g t hi Qe (a,en)=W (hi en) (vP g t a Qe):=rfl
theorem A0 (g:D→Option Int→Option Int→Option D) (t:D) (a b:Option Int):vP g t a Qe (b,en)=W (g t a b) (fu en Qe):=rfl
theorem AZ (g:Str→List D→Option D):W (eM g f fa en) Qe=W (f en) (kM g fa Qe):=av _ _ _
theorem AY (g:Str→List D→Option D) (z:Str):kM g fa Qe (.str z,en)=W (fa en) (kM1 g z Qe):=(av _ _ _).trans (congrArg _ (funext fun z=>(av _ _ _).trans (congrArg _ (funext fun y=>br _ _ _))))
theorem AX (g:Str→List D→Option D) (z:Str) (as:List (D ⊕ Nat)):kM1 g z Qe (as,en)=W (vals as) (kM2 g z en Qe):=rfl
theorem AW (g:Str→List D→Option D) (z:Str):kM2 g z en Qe ts=W (g z ts) (fu en Qe):=rfl
theorem AV:W (bD i f en) Qe=W (gv en i) (kDg f i en Qe):=(av _ _ _).trans (congrArg _ (funext fun z=>av _ _ _))
theorem AU (x:D):kDg f i en Qe x=W (f en) (sw i Qe):=rfl
theorem AT (q:D):sw i Qe (q,en)=W (gv en i) (Jv q en Qe):=by unfold sw gv; cases h:(en[i]?).join with | none=>simp only [h,bf] | some x=>simp only [h,az]; cases x <;> first | rfl | exact (az _ _).symm | (rw [az]; rfl) | (rw [az]; exact bf _)
theorem AR (J:En→Prop):kIt J Qs (.nx en)=J en:=rfl
theorem AQ (J:En→Prop):kIt J Qs (.ct en)=J en:=rfl
theorem AO (J:En→Prop) (t:D):kIt J Qs (.rt t en)=Qs (.rt t en):=rfl
theorem AN (b:MS) (J:En→Prop):kFg b J Qs en=W (b en) (kIt J Qs):=rfl
theorem AM (b:MS) (J:En→Prop):kWh b J Qs (true,en)=W (b en) (kIt J Qs):=rfl
theorem AL (b:MS) (J:En→Prop):kWh b J Qs (false,en)=Qs (.nx en):=rfl
theorem AK (us:List D) (J:List D→En→Prop):GZ c f us J en=W (c en) (su f us J):=rfl
theorem AJ (us:List D) (J:List D→En→Prop):su f us J (true,en)=W (f en) (vS us J):=rfl
theorem AI (us:List D) (J:List D→En→Prop):su f us J (false,en)=J us en:=rfl
theorem AH (us:List D) (J:List D→En→Prop) (t:D):vS us J (t,en)=J (us++[t]) en:=rfl
theorem AG (n:Nat) (dps:List Nat) (b:MS):W (fnF n dps b ts) Qe=W (b (ts.map some++List.replicate n none)) (kFn dps Qe):=av _ _ _
theorem AF (dps:List Nat) (t:D):kFn dps Qe (.rt t en)=Qe (t,msk dps en):=az _ _
theorem AE (dps:List Nat):kFn dps Qe (.nx en)=Qe (.none,msk dps en):=az _ _
theorem AD (d:Nat) (ds:List Nat) (o:Option D):msk ((d+1) :: ds) (o :: en)=o :: msk ds en:=rfl
theorem AC (ds:List Nat) (o:Option D):msk (0 :: ds) (o :: en)=none :: msk ds en:=rfl
theorem AB:msk [] en=[]:=rfl
theorem AA (t:D):List.map some (t :: ts)=some t :: List.map some ts:=rfl
theorem Az:List.map (some:D→Option D) []=[]:=rfl
theorem Ay (a:Option D) (l m:En):(a :: l)++m=a :: (l++m):=rfl
theorem Ax (m:En):([]:En)++m=m:=rfl
theorem Aw (a:Option D):List.replicate 0 a=[]:=rfl
theorem Av (a:Option D) (n:Nat):List.replicate (n+1) a=a :: List.replicate n a:=rfl
theorem Au (a b:Int):a9 (.int a) (.int b)=some (.int (a+b)):=rfl
theorem At (a b:Str):W (a9 (.str a) (.str b)) Qd=(a.length+b.length≤sizeLine∧Qd (.str (a++b))):=iH _ _ _
theorem As (a b:Int):dL (.int a) (.int b)=some (.int (a - b)):=rfl
theorem Ar (a b:Int):W (bO (.int a) (.int b)) Qd=(CMul a b∧Qd (.int (a * b))):=iH _ _ _
theorem Aq (a b:Int):W (cJ (.int a) (.int b)) Qd=(gq a b∧Qd (.int (a / b))):=iH _ _ _
theorem Ap (a b:Int):W (bw (.int a) (.int b)) Qd=(0 < b∧Qd (.int (a % b))):=iH _ _ _
theorem Ao (a b:Int):W (m4 (.int a) (.int b)) Qd=(jQ a b∧Qd (.int (a ^ b.toNat))):=iH _ _ _
theorem An (a b:Int):ltI (.int a) (.int b)=some (.bool (decide (a < b))):=rfl
theorem Am (a b:Int):leI (.int a) (.int b)=some (.bool (decide (a≤b))):=rfl
theorem Al (a b:Int):gtI (.int a) (.int b)=some (.bool (decide (b < a))):=rfl
theorem Ak (a b:Int):geI (.int a) (.int b)=some (.bool (decide (b≤a))):=rfl
theorem Aj (a b:Int):eqD (.int a) (.int b)=some (.bool (decide (a=b))):=(HZ a b).trans (congrArg (fun q=>some (PyData.bool q)) (rf a b))
theorem Ai (a b:Int):neD (.int a) (.int b)=some (.bool (!decide (a=b))):=(GH a b).trans (congrArg (fun q=>some (PyData.bool (!q))) (rf a b))
theorem Ah:isN .none .none=some (.bool true):=rfl
theorem Ag:dh .none .none=some (.bool false):=rfl
theorem Af (x:Int):isN (.int x) .none=some (.bool false):=rfl
theorem Ae (x:Int):dh (.int x) .none=some (.bool true):=rfl
theorem Ad (x:Bool):isN (.bool x) .none=some (.bool false):=rfl
theorem Ac (x:Bool):dh (.bool x) .none=some (.bool true):=rfl
theorem Ab (x:Str):isN (.str x) .none=some (.bool false):=rfl
theorem Aa (x:Str):dh (.str x) .none=some (.bool true):=rfl
theorem zZ (x:List D):isN (.list x) .none=some (.bool false):=rfl
theorem zY (x:List D):dh (.list x) .none=some (.bool true):=rfl
theorem zX (x:List D):isN (.tuple x) .none=some (.bool false):=rfl
theorem zW (x:List D):dh (.tuple x) .none=some (.bool true):=rfl
theorem zV (x:List (D × D)):isN (.dict x) .none=some (.bool false):=rfl
theorem zU (x:List (D × D)):dh (.dict x) .none=some (.bool true):=rfl
theorem zT:aS "int" (.none)=some (.bool false):=congrArg (fun b=>some (PyData.bool b)) (show aU "NoneType" "int"=false by decide)
theorem zS:aS "bool" (.none)=some (.bool false):=congrArg (fun b=>some (PyData.bool b)) (show aU "NoneType" "bool"=false by decide)
theorem zR:aS "str" (.none)=some (.bool false):=congrArg (fun b=>some (PyData.bool b)) (show aU "NoneType" "str"=false by decide)
theorem zQ:aS "list" (.none)=some (.bool false):=congrArg (fun b=>some (PyData.bool b)) (show aU "NoneType" "list"=false by decide)
theorem zP:aS "tuple" (.none)=some (.bool false):=congrArg (fun b=>some (PyData.bool b)) (show aU "NoneType" "tuple"=false by decide)
theorem zO:aS "dict" (.none)=some (.bool false):=congrArg (fun b=>some (PyData.bool b)) (show aU "NoneType" "dict"=false by decide)
theorem zN (x:Int):aS "int" (.int x)=some (.bool true):=congrArg (fun b=>some (PyData.bool b)) (show aU "int" "int"=true by decide)
theorem zM (x:Int):aS "bool" (.int x)=some (.bool false):=congrArg (fun b=>some (PyData.bool b)) (show aU "int" "bool"=false by decide)
theorem zK (x:Int):aS "str" (.int x)=some (.bool false):=congrArg (fun b=>some (PyData.bool b)) (show aU "int" "str"=false by decide)
theorem zJ (x:Int):aS "list" (.int x)=some (.bool false):=congrArg (fun b=>some (PyData.bool b)) (show aU "int" "list"=false by decide)
theorem zI (x:Int):aS "tuple" (.int x)=some (.bool false):=congrArg (fun b=>some (PyData.bool b)) (show aU "int" "tuple"=false by decide)
theorem zH (x:Int):aS "dict" (.int x)=some (.bool false):=congrArg (fun b=>some (PyData.bool b)) (show aU "int" "dict"=false by decide)
theorem zG (x:Bool):aS "int" (.bool x)=some (.bool true):=congrArg (fun b=>some (PyData.bool b)) (show aU "bool" "int"=true by decide)
theorem zF (x:Bool):aS "bool" (.bool x)=some (.bool true):=congrArg (fun b=>some (PyData.bool b)) (show aU "bool" "bool"=true by decide)
theorem zE (x:Bool):aS "str" (.bool x)=some (.bool false):=congrArg (fun b=>some (PyData.bool b)) (show aU "bool" "str"=false by decide)
theorem zC (x:Bool):aS "list" (.bool x)=some (.bool false):=congrArg (fun b=>some (PyData.bool b)) (show aU "bool" "list"=false by decide)
theorem zB (x:Bool):aS "tuple" (.bool x)=some (.bool false):=congrArg (fun b=>some (PyData.bool b)) (show aU "bool" "tuple"=false by decide)
theorem zA (x:Bool):aS "dict" (.bool x)=some (.bool false):=congrArg (fun b=>some (PyData.bool b)) (show aU "bool" "dict"=false by decide)
theorem zz (x:Str):aS "int" (.str x)=some (.bool false):=congrArg (fun b=>some (PyData.bool b)) (show aU "str" "int"=false by decide)
theorem zy (x:Str):aS "bool" (.str x)=some (.bool false):=congrArg (fun b=>some (PyData.bool b)) (show aU "str" "bool"=false by decide)
theorem zx (x:Str):aS "str" (.str x)=some (.bool true):=congrArg (fun b=>some (PyData.bool b)) (show aU "str" "str"=true by decide)
theorem zw (x:Str):aS "list" (.str x)=some (.bool false):=congrArg (fun b=>some (PyData.bool b)) (show aU "str" "list"=false by decide)
theorem zv (x:Str):aS "tuple" (.str x)=some (.bool false):=congrArg (fun b=>some (PyData.bool b)) (show aU "str" "tuple"=false by decide)
theorem zu (x:Str):aS "dict" (.str x)=some (.bool false):=congrArg (fun b=>some (PyData.bool b)) (show aU "str" "dict"=false by decide)
theorem zt (x:List D):aS "int" (.list x)=some (.bool false):=congrArg (fun b=>some (PyData.bool b)) (show aU "list" "int"=false by decide)
theorem zr (x:List D):aS "bool" (.list x)=some (.bool false):=congrArg (fun b=>some (PyData.bool b)) (show aU "list" "bool"=false by decide)
theorem zq (x:List D):aS "str" (.list x)=some (.bool false):=congrArg (fun b=>some (PyData.bool b)) (show aU "list" "str"=false by decide)
theorem zp (x:List D):aS "list" (.list x)=some (.bool true):=congrArg (fun b=>some (PyData.bool b)) (show aU "list" "list"=true by decide)
theorem zo (x:List D):aS "tuple" (.list x)=some (.bool false):=congrArg (fun b=>some (PyData.bool b)) (show aU "list" "tuple"=false by decide)
theorem zn (x:List D):aS "dict" (.list x)=some (.bool false):=congrArg (fun b=>some (PyData.bool b)) (show aU "list" "dict"=false by decide)
theorem zm (x:List D):aS "int" (.tuple x)=some (.bool false):=congrArg (fun b=>some (PyData.bool b)) (show aU "tuple" "int"=false by decide)
theorem zh (x:List D):aS "bool" (.tuple x)=some (.bool false):=congrArg (fun b=>some (PyData.bool b)) (show aU "tuple" "bool"=false by decide)
theorem zg (x:List D):aS "str" (.tuple x)=some (.bool false):=congrArg (fun b=>some (PyData.bool b)) (show aU "tuple" "str"=false by decide)
theorem zd (x:List D):aS "list" (.tuple x)=some (.bool false):=congrArg (fun b=>some (PyData.bool b)) (show aU "tuple" "list"=false by decide)
theorem zc (x:List D):aS "tuple" (.tuple x)=some (.bool true):=congrArg (fun b=>some (PyData.bool b)) (show aU "tuple" "tuple"=true by decide)
theorem zb (x:List D):aS "dict" (.tuple x)=some (.bool false):=congrArg (fun b=>some (PyData.bool b)) (show aU "tuple" "dict"=false by decide)
theorem y9 (x:List (D × D)):aS "int" (.dict x)=some (.bool false):=congrArg (fun b=>some (PyData.bool b)) (show aU "dict" "int"=false by decide)
theorem y8 (x:List (D × D)):aS "bool" (.dict x)=some (.bool false):=congrArg (fun b=>some (PyData.bool b)) (show aU "dict" "bool"=false by decide)
theorem y6 (x:List (D × D)):aS "str" (.dict x)=some (.bool false):=congrArg (fun b=>some (PyData.bool b)) (show aU "dict" "str"=false by decide)
theorem y4 (x:List (D × D)):aS "list" (.dict x)=some (.bool false):=congrArg (fun b=>some (PyData.bool b)) (show aU "dict" "list"=false by decide)
theorem y3 (x:List (D × D)):aS "tuple" (.dict x)=some (.bool false):=congrArg (fun b=>some (PyData.bool b)) (show aU "dict" "tuple"=false by decide)
theorem yZ (x:List (D × D)):aS "dict" (.dict x)=some (.bool true):=congrArg (fun b=>some (PyData.bool b)) (show aU "dict" "dict"=true by decide)
theorem yY:((([]:List D).length:Nat):Int)=0:=rfl
theorem yX (x0:D):((([x0]:List D).length:Nat):Int)=1:=rfl
theorem yW (x0 x1:D):((([x0,x1]:List D).length:Nat):Int)=2:=rfl
theorem yV (x0 x1 x2:D):((([x0,x1,x2]:List D).length:Nat):Int)=3:=rfl
theorem yU (x0 x1 x2 x3:D):((([x0,x1,x2,x3]:List D).length:Nat):Int)=4:=rfl
theorem yT (x0 x1 x2 x3 x4:D):((([x0,x1,x2,x3,x4]:List D).length:Nat):Int)=5:=rfl
theorem yS (x0 x1 x2 x3 x4 x5:D):((([x0,x1,x2,x3,x4,x5]:List D).length:Nat):Int)=6:=rfl
theorem yR (x0 x1 x2 x3 x4 x5 x6:D):((([x0,x1,x2,x3,x4,x5,x6]:List D).length:Nat):Int)=7:=rfl
theorem yQ (x0 x1 x2 x3 x4 x5 x6 x7:D):((([x0,x1,x2,x3,x4,x5,x6,x7]:List D).length:Nat):Int)=8:=rfl
theorem yP (x0 x1 x2 x3 x4 x5 x6 x7 x8:D):((([x0,x1,x2,x3,x4,x5,x6,x7,x8]:List D).length:Nat):Int)=9:=rfl
theorem yO (α β:Type) (f:α→β) (l:List α):(l.map f).length=l.length:=List.length_map f
theorem yN:bc [.list ts]=some (.int ts.length):=rfl
theorem yM:bc [.tuple ts]=some (.int ts.length):=rfl
theorem yL (z:Str):W (bc [.str z]) Qd=(z.length≤sizeLine∧Qd (.int z.length)):=sQ _ _ _
theorem yK (a:Int):jD [.int a]=some (.int (if a < 0 then -a else a)):=rfl
theorem yJ (a b:Int):se [.int a,.int b]=some (.int (if b > a then b else a)):=rfl
theorem yI (a b:Int):r9 [.int a,.int b]=some (.int (if b < a then b else a)):=rfl
theorem yH (a:Int):ge [.int a]=some (.int a):=rfl
theorem yG:ge [.bool true]=some (.int 1):=rfl
theorem yF:ge [.bool false]=some (.int 0):=rfl
theorem yE (a:Int):iE (.int a)=some (.int (-a)):=rfl
theorem yD:ii [.list ts]=some (.list ts):=rfl
theorem yC:rK [.list ts]=some (.tuple ts):=rfl
theorem yB (n:Int):ixA (.list ts) (.int n)=atI ts n:=rfl
theorem yA:ii [.tuple ts]=some (.list ts):=rfl
theorem yz:rK [.tuple ts]=some (.tuple ts):=rfl
theorem yy (n:Int):ixA (.tuple ts) (.int n)=atI ts n:=rfl
theorem yx (ts us:List D):W (qj (.list ts) (.list us)) Qd=(ts.length+us.length≤sizeLine∧Qd (.list (ts++us))):=iH _ _ _
theorem yw (lo hi:Option Int):iu (.list ts) lo hi=some (.list (dk ts lo hi)):=rfl
theorem yv:atI ts 0=ts[0]?:=aX ts _
theorem yu:atI ts 1=ts[1]?:=aX ts _
theorem yt:atI ts 2=ts[2]?:=aX ts _
theorem yr:atI ts 3=ts[3]?:=aX ts _
theorem yq:atI ts 4=ts[4]?:=aX ts _
theorem yp:atI ts 5=ts[5]?:=aX ts _
theorem yo:atI ts 6=ts[6]?:=aX ts _
theorem yn:atI ts 7=ts[7]?:=aX ts _
theorem ym:atI ts 8=ts[8]?:=aX ts _
theorem yk:atI ts 9=ts[9]?:=aX ts _
theorem yj:atI ts 10=ts[10]?:=aX ts _
theorem yi:atI ts 11=ts[11]?:=aX ts _
theorem yh:atI ts 12=ts[12]?:=aX ts _
theorem yg:atI ts 13=ts[13]?:=aX ts _
theorem yf:atI ts 14=ts[14]?:=aX ts _
theorem ye:atI ts 15=ts[15]?:=aX ts _
theorem yd:atI ts 16=ts[16]?:=aX ts _
theorem yc:atI ts 17=ts[17]?:=aX ts _
theorem yb:atI ts 18=ts[18]?:=aX ts _
theorem ya:atI ts 19=ts[19]?:=aX ts _
theorem xZ:atI ts 20=ts[20]?:=aX ts _
theorem xY (t:D):(t :: ts)[0]?=some t:=rfl
theorem xX (t:D):(t :: ts)[i+1]?=ts[i]?:=List.getElem?_cons_succ
theorem xW:W (hX i f en) Qe=W (gv en i) (GW i f en Qe):=by unfold gv hX; cases (en[i]?).join with | none=>rw [bf,bf] | some x=>cases x <;> first | rfl | exact (az _ _).symm | (rw [az]; rfl) | (rw [az]; exact bf _)
theorem xV:GW i f en Qe (.list ts)=W (f en) (sr i Qe):=av _ _ _
theorem xU (n:Int):sr i Qe (.int n,en)=W (gv en i) (sm i n en Qe):=by unfold sr gv; cases h:(en[i]?).join with | none=>simp only [h,bf] | some x=>simp only [h,az]; cases x <;> first | rfl | exact (az _ _).symm | (rw [az]; rfl) | (rw [az]; exact bf _)
theorem xT (n:Int):sm i n en Qe (.list ts)=((-(2 ^ 63)≤n∧n < 2 ^ 63)∧W (rQ ts n) (Cf i en Qe)):=by unfold sm rQ; dsimp only; rw [sP]; congr 1; rw [av,av]; congr 1; funext k; rw [br,br]; rfl
theorem xS (t:D) (us:List D):Cf i en Qe (t,us)=Qe (t,en.set i (some (.list us))):=rfl
theorem xR (z:Str) (n:Int):W (ixT (.str z) (.int n)) Qd=(z.length≤sizeLine∧W (atI (li z) n) (kS1 Qd)):=by show W (if _ then _ else _) _=_; rw [sP,br]; rfl
theorem xQ (c:Nat):kS1 Qd c=Qd (.str (mk1 c)):=rfl
theorem xP (a b:Str):v1 (.str a) (.str b)=some (.bool (i9 b a)):=rfl
theorem xO (a b:Bool):eqD (.bool a) (.bool b)=some (.bool (a == b)):=DW a b
theorem xN (a b:Bool):neD (.bool a) (.bool b)=some (.bool (!(a == b))):=C1 a b
theorem xM (a b:Str):eqD (.str a) (.str b)=some (.bool (decide (a=b))):=HX a b
theorem xL (a b:Str):neD (.str a) (.str b)=some (.bool (!decide (a=b))):=GF a b
theorem xK:neD (.list []) (.list [])=some (.bool false):=GG
theorem xJ:eqD (.list []) (.list [])=some (.bool true):=HY
theorem xI (a:Bool):(a == a)=true:=beq_self_eq_true a
theorem xH:(true == false)=false:=rfl
theorem xG:(false == true)=false:=rfl
theorem xF (t:D) (ts acc:List D):W (lcF g c f (t :: ts) acc en) Ql=W (g t en) (kL1 g c f ts acc Ql):=by unfold lcF; rw [av]; congr 1; funext z; rw [av]; rfl
theorem xE (ts acc:List D):kL1 g c f ts acc Ql en=W (c en) (kL2 g c f ts acc Ql):=rfl
theorem xD (ts acc:List D):kL2 g c f ts acc Ql (true,en)=W (f en) (kL3 g c f ts acc Ql):=av _ _ _
theorem xC (ts acc:List D):kL2 g c f ts acc Ql (false,en)=W (lcF g c f ts acc en) Ql:=rfl
theorem xB (ts acc:List D) (t:D):kL3 g c f ts acc Ql (t,en)=(acc.length < sizeLine∧W (lcF g c f ts (acc++[t]) en) Ql):=sP _ _ _
theorem xA (m:List D):([]++m:List D)=m:=rfl
theorem xz (x:D) (l m:List D):((x :: l)++m:List D)=x :: (l++m):=rfl
theorem xy:(([]:List D).length < sizeLine)=True:=eq_true (Nat.lt_of_lt_of_le (by show 0 < 100; decide) ba)
theorem xx (x0:D):(([x0]:List D).length < sizeLine)=True:=eq_true (Nat.lt_of_lt_of_le (by show 1 < 100; decide) ba)
theorem xw (x0 x1:D):(([x0,x1]:List D).length < sizeLine)=True:=eq_true (Nat.lt_of_lt_of_le (by show 2 < 100; decide) ba)
theorem xv (x0 x1 x2:D):(([x0,x1,x2]:List D).length < sizeLine)=True:=eq_true (Nat.lt_of_lt_of_le (by show 3 < 100; decide) ba)
theorem xu (x0 x1 x2 x3:D):(([x0,x1,x2,x3]:List D).length < sizeLine)=True:=eq_true (Nat.lt_of_lt_of_le (by show 4 < 100; decide) ba)
theorem xt (x0 x1 x2 x3 x4:D):(([x0,x1,x2,x3,x4]:List D).length < sizeLine)=True:=eq_true (Nat.lt_of_lt_of_le (by show 5 < 100; decide) ba)
theorem xr (x0 x1 x2 x3 x4 x5:D):(([x0,x1,x2,x3,x4,x5]:List D).length < sizeLine)=True:=eq_true (Nat.lt_of_lt_of_le (by show 6 < 100; decide) ba)
theorem xq (x0 x1 x2 x3 x4 x5 x6:D):(([x0,x1,x2,x3,x4,x5,x6]:List D).length < sizeLine)=True:=eq_true (Nat.lt_of_lt_of_le (by show 7 < 100; decide) ba)
theorem xp (x0 x1 x2 x3 x4 x5 x6 x7:D):(([x0,x1,x2,x3,x4,x5,x6,x7]:List D).length < sizeLine)=True:=eq_true (Nat.lt_of_lt_of_le (by show 8 < 100; decide) ba)
theorem xo (x0 x1 x2 x3 x4 x5 x6 x7 x8:D):(([x0,x1,x2,x3,x4,x5,x6,x7,x8]:List D).length < sizeLine)=True:=eq_true (Nat.lt_of_lt_of_le (by show 9 < 100; decide) ba)
theorem xn:kt [.list []]=some (.bool true):=rfl
theorem xm (a:Bool):kt [.list [.bool a]]=some (.bool a):=by cases a <;> rfl
theorem xl (a b:Bool):kt [.list [.bool a,.bool b]]=some (.bool (a && b)):=by cases a <;> cases b <;> rfl
theorem xk:fj [.list []]=some (.int 0):=rfl
theorem xj (a:Int):fj [.list [.int a]]=some (.int a):=by show some (PyData.int (a+0))=_; rw [Int.add_zero]
theorem xi (a b:Int):fj [.list [.int a,.int b]]=some (.int (a+b)):=by show some (PyData.int (a+(b+0)))=_; rw [Int.add_zero]
theorem xh (x:D) (l:List D):dk (x :: l) (some 1) none=l:=DY x l
theorem xg (x:D) (l:List D):(HT.sIx (x :: l).length 0 (some 1)=0)=False:=Jh x l
theorem xf (p:Prop):(False∧p)=False:=false_and p
theorem xc:(¬ False)=True:=not_false_eq_true
theorem xb:(!true)=false:=rfl
theorem xa:(!false)=true:=rfl
theorem w8 (p:Prop):(True∧p)=p:=true_and p
theorem w6 (p:Prop):(p∧True)=p:=and_true p
theorem w4 (_:Decidable True):decide True=true:=decide_eq_true trivial
theorem wZ (_:Decidable False):decide False=false:=decide_eq_false (fun z=>z)
theorem wY (α:Sort 1) (a:α):(a=a)=True:=eq_self a
end
theorem Ef:type_of% ws0∧type_of% ws1∧type_of% ws2∧type_of% ws3∧type_of% ws4∧type_of% ws5∧type_of% ws6∧type_of% ws7∧type_of% ws8∧type_of% ws9∧type_of% FS∧type_of% FR∧type_of% FQ∧type_of% FP∧type_of% FO∧type_of% FN∧type_of% FM∧type_of% FK∧type_of% FJ∧type_of% FI∧type_of% FH∧type_of% FG∧type_of% FF∧type_of% FE∧type_of% FD∧type_of% FC∧type_of% FB∧type_of% FA∧type_of% Fz∧type_of% Fy∧type_of% Fx∧type_of% Fw∧type_of% Fv∧type_of% Fu∧type_of% Ft∧type_of% Fs∧type_of% Fq∧type_of% Fp∧type_of% Fo∧type_of% Fm:=⟨ws0,ws1,ws2,ws3,ws4,ws5,ws6,ws7,ws8,ws9,FS,FR,FQ,FP,FO,FN,FM,FK,FJ,FI,FH,FG,FF,FE,FD,FC,FB,FA,Fz,Fy,Fx,Fw,Fv,Fu,Ft,Fs,Fq,Fp,Fo,Fm⟩
theorem Ee:type_of% Fk∧type_of% Fj∧type_of% Fi∧type_of% Fh∧type_of% Fg∧type_of% Ff∧type_of% Fe∧type_of% Fd∧type_of% Fc∧type_of% Fb∧type_of% E9∧type_of% E8∧type_of% E7∧type_of% E6∧type_of% E5∧type_of% E4∧type_of% E3∧type_of% E2∧type_of% EZ∧type_of% EY∧type_of% EX∧type_of% EW∧type_of% EV∧type_of% EU∧type_of% ET∧type_of% ES∧type_of% ER∧type_of% EQ∧type_of% EO∧type_of% EN∧type_of% EM∧type_of% EL∧type_of% EK∧type_of% EJ∧type_of% EH∧type_of% EG∧type_of% EF∧type_of% EE∧type_of% ED∧type_of% EC:=⟨Fk,Fj,Fi,Fh,Fg,Ff,Fe,Fd,Fc,Fb,E9,E8,E7,E6,E5,E4,E3,E2,EZ,EY,EX,EW,EV,EU,ET,ES,ER,EQ,EO,EN,EM,EL,EK,EJ,EH,EG,EF,EE,ED,EC⟩
theorem Ed:type_of% EB∧type_of% EA∧type_of% Ez∧type_of% Ey∧type_of% Ex∧type_of% Ew∧type_of% Ev∧type_of% Eu∧type_of% Et∧type_of% Es∧type_of% Er∧type_of% Ep∧type_of% Eo∧type_of% Em∧type_of% El∧type_of% Ek∧type_of% Ej∧type_of% Ei∧type_of% Eh∧type_of% Eg∧type_of% BX∧type_of% BW∧type_of% BV∧type_of% BU∧type_of% BT∧type_of% BS∧type_of% BR∧type_of% BQ∧type_of% BP∧type_of% BO∧type_of% BN∧type_of% BM∧type_of% BL∧type_of% BK∧type_of% BJ∧type_of% BI∧type_of% BH∧type_of% BG∧type_of% BF∧type_of% BE:=⟨EB,EA,Ez,Ey,Ex,Ew,Ev,Eu,Et,Es,Er,Ep,Eo,Em,El,Ek,Ej,Ei,Eh,Eg,BX,BW,BV,BU,BT,BS,BR,BQ,BP,BO,BN,BM,BL,BK,BJ,BI,BH,BG,BF,BE⟩
theorem Ec:type_of% BD∧type_of% BC∧type_of% BB∧type_of% BA∧type_of% Bz∧type_of% By∧type_of% Bx∧type_of% Bw∧type_of% Bv∧type_of% Bu∧type_of% Bt∧type_of% Bs∧type_of% Br∧type_of% Bq∧type_of% Bp∧type_of% Bo∧type_of% Bn∧type_of% Bm∧type_of% Bk∧type_of% Bj∧type_of% Bi∧type_of% Bh∧type_of% Bg∧type_of% Bf∧type_of% Be∧type_of% Bd∧type_of% Bc∧type_of% Bb∧type_of% Ba∧type_of% A9∧type_of% A8∧type_of% A7∧type_of% A6∧type_of% A5∧type_of% A4∧type_of% A3∧type_of% A2∧type_of% A1∧type_of% A0∧type_of% AZ:=⟨BD,BC,BB,BA,Bz,By,Bx,Bw,Bv,Bu,Bt,Bs,Br,Bq,Bp,Bo,Bn,Bm,Bk,Bj,Bi,Bh,Bg,Bf,Be,Bd,Bc,Bb,Ba,A9,A8,A7,A6,A5,A4,A3,A2,A1,A0,AZ⟩
theorem Eb:type_of% AY∧type_of% AX∧type_of% AW∧type_of% AV∧type_of% AU∧type_of% AT∧type_of% AR∧type_of% AQ∧type_of% AO∧type_of% AN∧type_of% AM∧type_of% AL∧type_of% AK∧type_of% AJ∧type_of% AI∧type_of% AH∧type_of% AG∧type_of% AF∧type_of% AE∧type_of% AD∧type_of% AC∧type_of% AB∧type_of% AA∧type_of% Az∧type_of% Ay∧type_of% Ax∧type_of% Aw∧type_of% Av∧type_of% Au∧type_of% At∧type_of% As∧type_of% Ar∧type_of% Aq∧type_of% Ap∧type_of% Ao∧type_of% An∧type_of% Am∧type_of% Al∧type_of% Ak∧type_of% Aj:=⟨AY,AX,AW,AV,AU,AT,AR,AQ,AO,AN,AM,AL,AK,AJ,AI,AH,AG,AF,AE,AD,AC,AB,AA,Az,Ay,Ax,Aw,Av,Au,At,As,Ar,Aq,Ap,Ao,An,Am,Al,Ak,Aj⟩
theorem Ea:type_of% Ai∧type_of% Ah∧type_of% Ag∧type_of% Af∧type_of% Ae∧type_of% Ad∧type_of% Ac∧type_of% Ab∧type_of% Aa∧type_of% zZ∧type_of% zY∧type_of% zX∧type_of% zW∧type_of% zV∧type_of% zU∧type_of% zT∧type_of% zS∧type_of% zR∧type_of% zQ∧type_of% zP∧type_of% zO∧type_of% zN∧type_of% zM∧type_of% zK∧type_of% zJ∧type_of% zI∧type_of% zH∧type_of% zG∧type_of% zF∧type_of% zE∧type_of% zC∧type_of% zB∧type_of% zA∧type_of% zz∧type_of% zy∧type_of% zx∧type_of% zw∧type_of% zv∧type_of% zu∧type_of% zt:=⟨Ai,Ah,Ag,Af,Ae,Ad,Ac,Ab,Aa,zZ,zY,zX,zW,zV,zU,zT,zS,zR,zQ,zP,zO,zN,zM,zK,zJ,zI,zH,zG,zF,zE,zC,zB,zA,zz,zy,zx,zw,zv,zu,zt⟩
theorem D9:type_of% zr∧type_of% zq∧type_of% zp∧type_of% zo∧type_of% zn∧type_of% zm∧type_of% zh∧type_of% zg∧type_of% zd∧type_of% zc∧type_of% zb∧type_of% y9∧type_of% y8∧type_of% y6∧type_of% y4∧type_of% y3∧type_of% yZ∧type_of% yY∧type_of% yX∧type_of% yW∧type_of% yV∧type_of% yU∧type_of% yT∧type_of% yS∧type_of% yR∧type_of% yQ∧type_of% yP∧type_of% yO∧type_of% yN∧type_of% yM∧type_of% yL∧type_of% yK∧type_of% yJ∧type_of% yI∧type_of% yH∧type_of% yG∧type_of% yF∧type_of% yE∧type_of% yD∧type_of% yC:=⟨zr,zq,zp,zo,zn,zm,zh,zg,zd,zc,zb,y9,y8,y6,y4,y3,yZ,yY,yX,yW,yV,yU,yT,yS,yR,yQ,yP,yO,yN,yM,yL,yK,yJ,yI,yH,yG,yF,yE,yD,yC⟩
theorem D8:type_of% yB∧type_of% yA∧type_of% yz∧type_of% yy∧type_of% yx∧type_of% yw∧type_of% yv∧type_of% yu∧type_of% yt∧type_of% yr∧type_of% yq∧type_of% yp∧type_of% yo∧type_of% yn∧type_of% ym∧type_of% yk∧type_of% yj∧type_of% yi∧type_of% yh∧type_of% yg∧type_of% yf∧type_of% ye∧type_of% yd∧type_of% yc∧type_of% yb∧type_of% ya∧type_of% xZ∧type_of% xY∧type_of% xX∧type_of% xW∧type_of% xV∧type_of% xU∧type_of% xT∧type_of% xS∧type_of% xR∧type_of% xQ∧type_of% xP∧type_of% xO∧type_of% xN∧type_of% xM:=⟨yB,yA,yz,yy,yx,yw,yv,yu,yt,yr,yq,yp,yo,yn,ym,yk,yj,yi,yh,yg,yf,ye,yd,yc,yb,ya,xZ,xY,xX,xW,xV,xU,xT,xS,xR,xQ,xP,xO,xN,xM⟩
theorem D7:type_of% xL∧type_of% xK∧type_of% xJ∧type_of% xI∧type_of% xH∧type_of% xG∧type_of% xF∧type_of% xE∧type_of% xD∧type_of% xC∧type_of% xB∧type_of% xA∧type_of% xz∧type_of% xy∧type_of% xx∧type_of% xw∧type_of% xv∧type_of% xu∧type_of% xt∧type_of% xr∧type_of% xq∧type_of% xp∧type_of% xo∧type_of% xn∧type_of% xm∧type_of% xl∧type_of% xk∧type_of% xj∧type_of% xi∧type_of% xh∧type_of% xg∧type_of% xf∧type_of% xc∧type_of% xb∧type_of% xa∧type_of% w8∧type_of% w6∧type_of% w4∧type_of% wZ∧type_of% wY:=⟨xL,xK,xJ,xI,xH,xG,xF,xE,xD,xC,xB,xA,xz,xy,xx,xw,xv,xu,xt,xr,xq,xp,xo,xn,xm,xl,xk,xj,xi,xh,xg,xf,xc,xb,xa,w8,w6,w4,wZ,wY⟩
theorem ws:type_of% Ef∧type_of% Ee∧type_of% Ed∧type_of% Ec∧type_of% Eb∧type_of% Ea∧type_of% D9∧type_of% D8∧type_of% D7:=⟨Ef,Ee,Ed,Ec,Eb,Ea,D9,D8,D7⟩
end L2
namespace L2
open PySem PySem.Spec PyProof.Rows
theorem iy {g:MG} {b:MS} {ts:List D} {en:En} {Q:Fl→Prop} (I:Nat→En→Prop) (h0:I 0 en)
  (hs:∀ i t en,ts[i]?=some t→I i en→W (g t en) (kFg b (I (i+1)) Q)) (hq:∀ en,I ts.length en→Q (.nx en)):W (cB g b ts en) Q:=by
 suffices ∀ (us:List D) (i:Nat) (en:En),ts.drop i=us→i≤ts.length→I i en→W (cB g b us en) Q from this ts 0 en rfl (Nat.zero_le _) h0
 intro us
 induction us with
 | nil =>
  intro i en hu hi h
  have:ts.length - i=0:=by rw [← List.length_drop,hu]; rfl
  simp only [ws]
  exact hq en (by rw [show ts.length=i by omega]; exact h)
 | cons t us ih =>
  intro i en hu hi h
  have ht:ts[i]?=some t:=by
   have:(ts.drop i)[0]?=some t:=by rw [hu]; rfl
   rw [List.getElem?_drop] at this
   exact this
  have hl:i < ts.length:=(List.getElem?_eq_some_iff.mp ht).1
  have hd:ts.drop (i+1)=us:=by rw [← List.drop_drop,hu]; rfl
  simp only [ws]
  refine (hs i t en ht h).use fun en1 h1=>?_
  simp only [ws] at h1 ⊢
  refine h1.use fun fl h2=>?_
  cases fl with
  | nx e=>simp only [ws] at h2 ⊢; exact ih (i+1) e hd hl h2
  | ct e=>simp only [ws] at h2 ⊢; exact ih (i+1) e hd hl h2
  | rt t e=>simp only [ws] at h2 ⊢; exact h2
theorem Ig {g:MG} {c:MT} {f:ME} {ts:List D} {en:En} {Q:List D × En→Prop} (I:Nat→List D→En→Prop) (hz:ts.length≤sizeLine) (h0:I 0 [] en)
  (hs:∀ i t us en,ts[i]?=some t→us.length≤i→I i us en→W (g t en) (GZ c f us (I (i+1)))) (hq:∀ us en,us.length≤ts.length→I ts.length us en→Q (us,en)):W (lcF g c f ts [] en) Q:=by
 suffices ∀ (vs:List D) (i:Nat) (us:List D) (en:En),ts.drop i=vs→i≤ts.length→us.length≤i→I i us en→W (lcF g c f vs us en) Q from this ts 0 [] en rfl (Nat.zero_le _) (Nat.zero_le _) h0
 intro vs
 induction vs with
 | nil =>
  intro i us en hu hi hl h
  have:ts.length - i=0:=by rw [← List.length_drop,hu]; rfl
  simp only [ws]
  exact hq us en (by omega) (by rw [show ts.length=i by omega]; exact h)
 | cons t vs ih =>
  intro i us en hu hi hl h
  have ht:ts[i]?=some t:=by
   have:(ts.drop i)[0]?=some t:=by rw [hu]; rfl
   rw [List.getElem?_drop] at this
   exact this
  have hlt:i < ts.length:=(List.getElem?_eq_some_iff.mp ht).1
  have hd:ts.drop (i+1)=vs:=by rw [← List.drop_drop,hu]; rfl
  unfold lcF
  rw [av]
  refine (hs i t us en ht hl h).use fun en1 h1=>?_
  simp only [ws] at h1
  rw [av]
  refine h1.use fun r h2=>?_
  obtain ⟨x,en2⟩:=r
  cases x with
  | true =>
   simp only [ws] at h2
   show W ((f en2).bind _) Q
   rw [av]
   refine h2.use fun q h3=>?_
   obtain ⟨u,en3⟩:=q
   simp only [ws] at h3
   show W (if us.length < sizeLine then _ else _) Q
   rw [if_pos (by omega)]
   exact ih (i+1) _ _ hd hlt (by rw [List.length_append]; show _+1≤_; omega) h3
  | false =>
   simp only [ws] at h2
   exact ih (i+1) _ _ hd hlt (by omega) h2
theorem je {c:MT} {b:MS} {en:En} {Q:Fl→Prop} (I:Nat→En→Prop) (hs:∀ n en,I n en→W (c en) (kWh b (fun e=>∃ m,m < n∧I m e) Q)) {n:Nat} (h0:I n en):W (bq c b en) Q:=by
 induction n using Nat.strongRecOn generalizing en with
 | _ n ih =>
  obtain ⟨⟨x,en1⟩,e1,h1⟩:=(hs n en h0).ex
  cases x with
  | false=>simp only [ws] at h1; exact W.of (k5 e1) h1
  | true =>
   simp only [ws] at h1
   obtain ⟨fl,e2,h2⟩:=h1.ex
   cases fl with
   | nx e =>
    obtain ⟨m,hm,hi⟩:∃ m,m < n∧I m e:=h2
    obtain ⟨fl,e3,h3⟩:=(ih m hm hi).ex
    exact W.of (k6 e1 e2 e3) h3
   | ct e =>
    obtain ⟨m,hm,hi⟩:∃ m,m < n∧I m e:=h2
    obtain ⟨fl,e3,h3⟩:=(ih m hm hi).ex
    obtain ⟨k,h4⟩:=iC e3
    refine W.of (ig (n:=k+1) ?_) h3
    unfold whN
    rw [e1]
    show (b en1).bind _=_
    rw [e2]
    exact h4
   | rt t e =>
    refine W.of (ig (n:=1) ?_) (show Q (.rt t e) from h2)
    unfold whN
    rw [e1]
    show (b en1).bind _=_
    rw [e2]
    rfl
theorem dU {f:ME} {ts:List D} {o:Option D} {rest:En} {Q:List D × En→Prop} (F:D→D) (hz:ts.length≤sizeLine) (hf:∀ t∈ts,W (f (some t :: rest)) (fun r=>r=(F t,some t :: rest))) (hq:∀ o',Q (ts.map F,o' :: rest)):W (lcF (gN 0) cY f ts [] (o :: rest)) Q:=by
 obtain ⟨o',e⟩:=kL (f:=f) (F:=F) (rest:=rest) ts [] o (fun t ht=>by
  obtain ⟨r,e,h⟩:=(hf t ht).ex
  rw [e,h]) (by simpa using hz)
 exact W.of e (hq o')
theorem u5 {c:MT} {f:ME} {ts:List D} {o:Option D} {rest:En} {Q:List D × En→Prop} (p:D→Bool) (F:D→D) (hz:ts.length≤sizeLine) (hc:∀ t∈ts,W (c (some t :: rest)) (fun r=>r=(p t,some t :: rest))) (hf:∀ t∈ts,p t=true→W (f (some t :: rest)) (fun r=>r=(F t,some t :: rest))) (hq:∀ o',Q ((ts.filter p).map F,o' :: rest)):W (lcF (gN 0) c f ts [] (o :: rest)) Q:=by
 obtain ⟨o',e⟩:=eX (c:=c) (f:=f) (p:=p) (F:=F) (rest:=rest) ts [] o (fun t ht=>by
  obtain ⟨r,e,h⟩:=(hc t ht).ex
  rw [e,h]) (fun t ht hp=>by
  obtain ⟨r,e,h⟩:=(hf t ht hp).ex
  rw [e,h]) (by simpa using hz)
 exact W.of e (hq o')
theorem fU {α:Type} {ts:List α} {i:Nat} {t:α} (h:ts[i]?=some t):ts.take (i+1)=ts.take i++[t]:=by
 rw [List.take_add_one,h]; rfl
theorem Ih {g:MG} {b:MS} {ts:List D} {en:En} {Q:Fl→Prop} (J:En→Prop) (h0:J en) (hs:∀ t∈ts,∀ en,J en→W (g t en) (kFg b J Q)) (hq:∀ en,J en→Q (.nx en)):W (cB g b ts en) Q :=
 iy (fun _=>J) h0 (fun _ t en ht hj=>hs t (List.mem_of_getElem? ht) en hj) hq
theorem kK {i:Int} {n k:Nat} {t:D} (h:(kb i n)[k]?=some t):k < n∧t=.int (i+(k:Nat)):=by
 unfold kb at h
 rw [List.getElem?_map] at h
 obtain ⟨j,hj,rfl⟩:=Option.map_eq_some_iff.mp h
 obtain ⟨hl,e⟩:=List.getElem?_eq_some_iff.mp hj
 rw [List.getElem_range] at e
 rw [List.length_range] at hl
 exact ⟨hl,by rw [e]⟩
theorem iX (i:Int) (n:Nat):(kb i n).length=n:=by unfold kb; rw [List.length_map,List.length_range]
theorem sz {n:Nat} (h:n≤1000):n≤sizeLine:=Nat.le_trans h Pen3.sl1000
theorem szl {n:Nat} (h:n < 1000):n < sizeLine:=Nat.lt_of_lt_of_le h Pen3.sl1000
theorem du {p:D} {m:Int} (hp:Pen3.IsPen p) (h3:0 < m) (h4:m < 1073741824) {Q:D × En→Prop} (h:∀ r p',0≤r→r < m→Pen3.IsPen p'→Q (.int r,[some p',none])):W (Pen3.F_law_draw [p,.int m]) Q:=by
 obtain ⟨r,p',e,h1,h2,h5⟩:=Pen3.draw_ok hp h3 h4
 exact W.of e (h r p' h1 h2 h5)
end L2
set_option maxHeartbeats 1000000
namespace L2
namespace Tg
open PySem L2 Pen3
abbrev s1 (c:Nat):D:=.str (mk1 c)
def ev:Str:=("!\"#$&'()*+,-./0123456789:;<=>?@ABCDEFGHIJKLMNOPQRSTUVWXYZ" : Str)++("[\\]^_`abcdefghijklmnopqrstuvwxyz{|}~" : Str)
theorem ir:∀ (l:List Nat) (k:Nat),(l.map s1).eraseIdx k=(l.eraseIdx k).map s1
 | [],_=>rfl
 | a :: l,0=>rfl
 | a :: l,k+1=>by
  show s1 a :: (l.map s1).eraseIdx k=s1 a :: (l.eraseIdx k).map s1
  rw [ir l k]
theorem nJ {z:Str} (h:(li z).length≤1000):ii [.str z]=some (.list ((li z).map s1)):=by
 show grd (z.cps.size≤sizeLine) _=_
 unfold grd
 rw [if_pos (Nat.le_trans (by rw [← Array.length_toList]; exact h) sl1000)]
 rfl
theorem Jp {left:List Nat} {k:Nat} (hk:k < left.length):rQ (left.map s1) (k:Int)=some (s1 left[k],(left.eraseIdx k).map s1):=by
 unfold rQ
 rw [List.length_map,Ga (by omega) (by omega),Int.toNat_natCast]
 show Option.map _ _=_
 rw [List.getElem?_map,List.getElem?_eq_getElem hk,ir]
 rfl
theorem sM {α:Type} (xs:List α) (n:Nat):dk xs (some (n:Int)) none=xs.drop n:=by
 unfold dk
 rw [HT.sIx_none,HT.sIx_nat,List.take_of_length_le (by rw [List.length_drop]; exact Nat.le_refl _)]
 by_cases h:n≤xs.length
 ·rw [Nat.min_eq_left h]
 ·rw [Nat.min_eq_right (by omega),List.drop_eq_nil_of_le (Nat.le_refl _),List.drop_eq_nil_of_le (by omega)]
theorem jB {α:Type} (xs:List α) (n:Nat):dk xs none (some (n:Int))=xs.take n:=by
 unfold dk
 rw [HT.sIx_none,HT.sIx_nat,List.drop_zero,Nat.sub_zero]
 by_cases h:n≤xs.length
 ·rw [Nat.min_eq_left h]
 ·rw [Nat.min_eq_right (by omega),List.take_of_length_le (Nat.le_refl _),List.take_of_length_le (by omega)]
theorem lq:∀ ks:List Str,joinD.strsOf (ks.map .str)=some ks
 | []=>rfl
 | c :: cs=>by
  show (joinD.strsOf (cs.map .str)).map (c :: ·)=_
  rw [lq cs]
  rfl
theorem nL {ks:List Str} (h:(a8 ks).length≤1000) (h2:ks.length≤1000):joinD "" [.tuple (ks.map .str)]=some (.str (ofL (a8 ks)))∧joinD "" [.list (ks.map .str)]=some (.str (ofL (a8 ks))):=by
 have e:ofL (a8 ks)=Txt.join "" ks:=(GL (Ic ks)).symm
 constructor
 ·show (joinD.strsOf (ks.map .str)).bind _=_
  rw [lq]
  show (if _ then _ else _)=_
  rw [if_pos ⟨by decide,by rw [qi]; omega⟩,e]
 ·show (joinD.strsOf (ks.map .str)).bind _=_
  rw [lq]
  show (if _ then _ else _)=_
  rw [if_pos ⟨by decide,by rw [qi]; omega⟩,e]
theorem m9 {cs:List Nat} (h:cs.length≤1000):joinD "" [.list (cs.map s1)]=some (.str (ofL cs)):=by
 have e:(cs.map s1)=(cs.map mk1).map PyData.str:=by rw [List.map_map]; rfl
 have h2:=(nL (ks:=cs.map mk1) (by rw [qh]; exact h) (by rw [List.length_map]; exact h)).2
 rw [qh] at h2
 rw [e]
 exact h2
def tD (ks:List Str):D:=.tuple (ks.map .str)
abbrev sgs (ks:List Str):Str:=ofL (a8 ks)
theorem qY (cs:List Nat):(ofL cs).length=cs.length:=by show cs.toArray.size=_; rw [List.size_toArray]
end Tg
end L2
namespace L2
namespace Tg
open PySem L2 Pen3
abbrev rv (z:Str):Str:=⟨z.cps.toList.reverse.toArray⟩
end Tg
end L2
set_option maxHeartbeats 4000000
namespace PySem
section
variable {prog:Program} {w:World} {A:Around} {R:Result→Shared→Prop} {I:Addr} {fp wr:List Addr} {G:Array GenState→Array GenState→Prop} {n:Nat} {P:Nat→Value→Prop} {St:Nat→Shared→Prop} {K:Type} [DecidableEq K] {knd:KeyKind prog w K}
end
end PySem
namespace PySem
end PySem
namespace L2
open PySem PySem.Spec PyProof.Rows
section
variable {X:Cx}
end
end L2
namespace L2
open PySem PySem.Spec PyProof.Rows
section
variable {X:Cx} {K:PySem.W.Frag} {O:AS} {H:Hp}
end
section
variable {X:Cx} {K:PySem.W.Frag} {p:Bool} {ds ds0 ds1 ds2:List Nat} {d d1:Nat} {k c o:Expr} {f fk fd:ME} {px apos cpos:Pos} {i:Nat} {σ:St} {H:Hp} {Q:VK}
end
end L2
namespace L2
open PySem PySem.Spec PyProof.Rows
section
variable {prog:Program} {w:World} {A:Around} {E:Value→Shared→Prop} {s:Shared}
end
section
variable {X:Cx} {K:PySem.W.Frag} {p:Bool} {ds ds1 ds2:List Nat} {d1 d2:Nat} {a b i o:Expr} {f1 f2:ME} {pos:Pos} {σ:St} {H:Hp} {Q:VK} {ty td:TE}
end
end L2
namespace PySem
def ltL:List Int→List Int→Bool
 | [],[]=>false
 | [],_ :: _=>true
 | _ :: _,[]=>false
 | a :: as,b :: bs=>if a=b then ltL as bs else decide (a < b)
theorem jn:plainId "list.__eq__.loop"=true:=by decide +kernel
theorem p9:entryFor table "list.__eq__.loop"=some Builtin.«list.__eq__.loop»:=entryFor_of_tree (by kernel_rfl)
theorem uh (l b:Addr) (items items2:Array Value) (n n2:Nat) (dd dd2:Option Addr) (sl sl2:Array (Option Value)) (X Y:List Int) (h1:items.size=X.length) (h2:items2.size=Y.length)
  (hx:∀ j (h:j < items.size),∃ t,items[j]=.int (X.getD j 0) t) (hy:∀ j (h:j < items2.size),∃ t,items2[j]=.int (Y.getD j 0) t) (k:Nat) :
  ∀ i:Nat,X.length - i=k→i≤X.length→i≤Y.length→Meets (Builtin.«list.__eq__.loop» ⟨[.ref l,.ref b,rawInt i,rawInt 0],[]⟩)
   (fun A R s=>s.heap.get? l=some { cls:=.type "list",dict:=dd,data:=.seq items n,slots:=sl }∧s.heap.get? b=some { cls:=.type "list",dict:=dd2,data:=.seq items2 n2,slots:=sl2 }∧R (.ok (.ret (.bool (ltL (X.drop i) (Y.drop i))))) s):=by
 induction k with
 | zero =>
  intro i hk a1 a2 prog w A R s h
  obtain ⟨hp,g,d,tk,os⟩:=s; obtain ⟨hl,hb,h⟩:=h
  wp_walk using wpAny_loadPart' hl,wpAny_loadPart' hb
  have hi1:items[((i:Nat):Int).toNat]?=none:=by simp; omega
  rw [hi1]
  wp_walk using wpAny_loadPart' hl,wpAny_loadPart' hb
  show R (.ok (.ret (.bool (decide (items.size < items2.size))))) _
  have e1:X.drop i=[]:=List.drop_eq_nil_of_le (by omega)
  have e2:ltL [] (Y.drop i)=decide (items.size < items2.size):=by
   cases e:Y.drop i with
   | nil =>
    have:=congrArg List.length e
    rw [List.length_drop] at this
    rw [decide_eq_false]
    ·rfl
    ·show ¬ _; have z:([]:List Int).length=0:=rfl; omega
   | cons y ys =>
    have:=congrArg List.length e
    rw [List.length_drop,List.length_cons] at this
    rw [decide_eq_true]
    ·rfl
    ·omega
  rw [← e2,← e1]
  exact h
 | succ k ih =>
  intro i hk a1 a2 prog w A R s h
  obtain ⟨hp,g,d,tk,os⟩:=s; obtain ⟨hl,hb,h⟩:=h
  wp_walk using wpAny_loadPart' hl,wpAny_loadPart' hb
  have l1:i < items.size:=by omega
  have hi1:items[((i:Nat):Int).toNat]?=some items[i]:=by simp [l1]
  have dx:X.drop i=X.getD i 0 :: X.drop (i+1):=by
   rw [List.drop_eq_getElem_cons (by omega),List.getD_eq_getElem?_getD,List.getElem?_eq_getElem (by omega)]
   rfl
  obtain ⟨t1,ex⟩:=hx i l1
  by_cases l2:i < items2.size
  ·have hi2:items2[((i:Nat):Int).toNat]?=some items2[i]:=by simp [l2]
   have dy:Y.drop i=Y.getD i 0 :: Y.drop (i+1):=by
    rw [List.drop_eq_getElem_cons (by omega),List.getD_eq_getElem?_getD,List.getElem?_eq_getElem (by omega)]
    rfl
   obtain ⟨t2,ey⟩:=hy i l2
   have hc:((i:Int)+1)=((i+1:Nat):Int):=by push_cast; rfl
   rw [dx,dy] at h
   rw [hi1,hi2,ex,ey]
   refine wpAny_bind (wpAny_eqBool_int ?_)
   by_cases q:X.getD i 0=Y.getD i 0
   ·have h':R (.ok (.ret (.bool (ltL (X.drop (i+1)) (Y.drop (i+1)))))) ⟨hp,g,d,tk,os⟩:=by
     have e:ltL (X.getD i 0 :: X.drop (i+1)) (Y.getD i 0 :: Y.drop (i+1))=ltL (X.drop (i+1)) (Y.drop (i+1)):=if_pos q
     rw [e] at h
     exact h
    rw [show (X.getD i 0 == Y.getD i 0)=true from beq_iff_eq.mpr q]
    wp_walk
    rw [hc]
    exact ⟨plainId_quiet jn _,codeAny_builtin p9 (by
     rw [Around.under_plainId jn _]
     exact ih (i+1) (by omega) (by omega) (by omega) prog w A R _ ⟨hl,hb,h'⟩)⟩
   ·have h':R (.ok (.ret (.bool (decide (X.getD i 0 < Y.getD i 0))))) ⟨hp,g,d,tk,os⟩:=by
     have e:ltL (X.getD i 0 :: X.drop (i+1)) (Y.getD i 0 :: Y.drop (i+1))=decide (X.getD i 0 < Y.getD i 0):=if_neg q
     rw [e] at h
     exact h
    rw [show (X.getD i 0 == Y.getD i 0)=false from beq_eq_false_iff_ne.mpr q]
    wp_walk using wpAny_loadPart' hl,wpAny_loadPart' hb
    rw [hi1,hi2,ex,ey]
    refine wpAny_bind (richCompare_gives (op:=.Lt) (typeIs_int _ _ t1) (typeIs_int _ _ t2) F.slot_int_lt F.entry_int_lt (F.args_int_lt_2 _ _) (gives_int_lt _ _ t1 t2) (fun x=>nomatch x) (wpAny_pure h'))
  ·have hi2:items2[((i:Nat):Int).toNat]?=none:=by simp; omega
   rw [hi1,hi2]
   wp_walk using wpAny_loadPart' hl,wpAny_loadPart' hb
   show R (.ok (.ret (.bool (decide (items.size < items2.size))))) _
   have dy:Y.drop i=[]:=List.drop_eq_nil_of_le (by omega)
   rw [dx,dy] at h
   rw [decide_eq_false (by omega)]
   exact h
theorem uj (l b:Addr) (items items2:Array Value) (n n2:Nat) (dd dd2:Option Addr) (sl sl2:Array (Option Value)) (X Y:List Int) (h1:items.size=X.length) (h2:items2.size=Y.length)
  (hx:∀ j (h:j < items.size),∃ t,items[j]=.int (X.getD j 0) t) (hy:∀ j (h:j < items2.size),∃ t,items2[j]=.int (Y.getD j 0) t) :
  Meets (Builtin.«list.__lt__» ⟨[.ref l,.ref b],[]⟩)
   (fun A R s=>s.heap.get? l=some { cls:=.type "list",dict:=dd,data:=.seq items n,slots:=sl }∧s.heap.get? b=some { cls:=.type "list",dict:=dd2,data:=.seq items2 n2,slots:=sl2 }∧R (.ok (.ret (.bool (ltL X Y)))) s):=by
 intro prog w A R s h
 obtain ⟨hp,g,d,tk,os⟩:=s; obtain ⟨hl,hb,h⟩:=h
 have f3:=AutoSeq1.sub_list_list
 wp_walk using wpAny_loadPart' hl,wpAny_loadPart' hb
 exact ⟨plainId_quiet jn _,codeAny_builtin p9 (by
  rw [Around.under_plainId jn _]
  exact uh l b items items2 n n2 dd dd2 sl sl2 X Y h1 h2 hx hy _ 0 rfl (Nat.zero_le _) (Nat.zero_le _) prog w A R _ ⟨hl,hb,h⟩)⟩
section
variable {prog:Program} {w:World} {A:Around} {E:Value→Shared→Prop} {s:Shared}
theorem vK {l b:Addr} {items items2:Array Value} {n n2:Nat} {dd dd2:Option Addr} {sl sl2:Array (Option Value)} {X Y:List Int} {Q:Value→Shared→Prop} (h1:items.size=X.length) (h2:items2.size=Y.length)
  (hx:∀ j (h:j < items.size),∃ t,items[j]=.int (X.getD j 0) t) (hy:∀ j (h:j < items2.size),∃ t,items2[j]=.int (Y.getD j 0) t)
  (hl:s.heap.get? l=some { cls:=.type "list",dict:=dd,data:=.seq items n,slots:=sl }) (hb:s.heap.get? b=some { cls:=.type "list",dict:=dd2,data:=.seq items2 n2,slots:=sl2 }) (hu:A.units < cLine)
  (h:Q (.bool (ltL X Y)) s):wpAny (model prog w) A (richCompare .Lt (.ref l) (.ref b)) Q E s :=
 richCompare_meets_room (T:="list") ⟨_,hl,rfl⟩ ⟨_,hb,rfl⟩ F.slot_list_lt F.entry_list_lt (F.args_list_lt_2 _ _) (uj l b items items2 n n2 dd dd2 sl sl2 X Y h1 h2 hx hy) ⟨hl,hb,(fun z=>nomatch z),h⟩ hu
end
end PySem
namespace PySem
open PySem.SeqAt
def goL (e r:Nat→Bool) (z:Bool):List Nat→Bool
 | []=>z
 | j :: js=>if e j then goL e r z js else r j
theorem rJ (l b:Addr) (items items2:Array Value) (n n2:Nat) (dd dd2:Option Addr) (sl sl2:Array (Option Value)) (e r:Nat→Bool) :
  Meets (Builtin.«tuple.__lt__» ⟨[.ref l,.ref b],[]⟩)
   (fun A R s=>s.heap.get? l=some { cls:=.type "tuple",dict:=dd,data:=.seq items n,slots:=sl }∧s.heap.get? b=some { cls:=.type "tuple",dict:=dd2,data:=.seq items2 n2,slots:=sl2 } ∧
    (∀ j (h1:j < items.size) (h2:j < items2.size),EqAt A.in1 s items[j] items2[j] (e j)) ∧
    (∀ j (h1:j < items.size) (h2:j < items2.size),e j=false→∀ (prog:Program) (w:World) (Q:Value→Shared→Prop) (E:Value→Shared→Prop),Q (.bool (r j)) s→wpAny (model prog w) A.in1 (richCompare .Lt items[j] items2[j]) Q E s) ∧
    R (.ok (.ret (.bool (goL e r (decide (items.size < items2.size)) (List.range (min items.size items2.size)))))) s) :=
 .of_wp fun prog w A R s h=>by
  obtain ⟨hp,g,d,tk,os⟩:=s; obtain ⟨hl,hb,he,hr,h⟩:=h
  have f2:=AutoSeq1.sub_tuple_tuple
  have hZ:(items.toList.zip items2.toList).length=min items.size items2.size:=by simp
  wp_walk using wpAny_loadPart' hl,wpAny_loadPart' hb,wpAny_forIn_list _ (fun rest b s'=>b.1=none∧s'=⟨hp,g,d,tk,os⟩∧∃ i,rest=(items.toList.zip items2.toList).drop i ∧
   R (.ok (.ret (.bool (goL e r (decide (items.size < items2.size)) ((List.range (min items.size items2.size)).drop i))))) ⟨hp,g,d,tk,os⟩) _
  case turn =>
   rintro ⟨y,x⟩ rest b s' ⟨hb',rfl,i,hz,hR⟩
   have hlt:i < (items.toList.zip items2.toList).length:=by
    rcases Nat.lt_or_ge i (items.toList.zip items2.toList).length with h' | h'
    ·exact h'
    ·rw [List.drop_of_length_le h'] at hz; cases hz
   have hm:i < min items.size items2.size:=hZ ▸ hlt
   have h1:i < items.size:=Nat.lt_of_lt_of_le hm (Nat.min_le_left _ _)
   have h2:i < items2.size:=Nat.lt_of_lt_of_le hm (Nat.min_le_right _ _)
   rw [List.drop_eq_getElem_cons hlt] at hz
   injection hz with hyx hrest
   have hy:y=items[i]:=by have:=congrArg Prod.fst hyx; simpa using this
   have hx:x=items2[i]:=by have:=congrArg Prod.snd hyx; simpa using this
   subst hy hx
   have hd:(List.range (min items.size items2.size)).drop i=i :: (List.range (min items.size items2.size)).drop (i+1):=by simp [List.drop_eq_getElem_cons,hm]
   rw [hd] at hR
   refine wpAny_bind (he i h1 h2 prog w _ _ ?_)
   cases hy:e i with
   | true =>
    have hR':R (.ok (.ret (.bool (goL e r (decide (items.size < items2.size)) ((List.range (min items.size items2.size)).drop (i+1)))))) ⟨hp,g,d,tk,os⟩:=by
     simpa [goL,hy] using hR
    wp_walk
    exact ⟨rfl,rfl,i+1,hrest,hR'⟩
   | false =>
    have hR':R (.ok (.ret (.bool (r i)))) ⟨hp,g,d,tk,os⟩:=by
     simpa [goL,hy] using hR
    wp_walk using hr i h1 h2 hy
    exact ⟨_,rfl,hR'⟩
  case fin =>
   rintro ⟨b1,b2⟩ s' ⟨hb',rfl,i,hz,hR⟩
   simp only at hb'
   subst hb'
   have hge:min items.size items2.size≤i:=by
    rcases Nat.lt_or_ge i (items.toList.zip items2.toList).length with h' | h'
    ·rw [List.drop_eq_getElem_cons h'] at hz; cases hz
    ·exact hZ ▸ h'
   rw [List.drop_of_length_le (by simpa using hge)] at hR
   wp_walk
   exact ⟨_,rfl,by simpa [goL,Builtin.Tuple.tupleCompareSizes] using hR⟩
  case h =>
   exact ⟨rfl,rfl,0,rfl,h⟩
section
variable {prog:Program} {w:World} {A:Around} {E:Value→Shared→Prop} {s:Shared}
theorem vJ {p1 p2:Addr} {a1 b1 a2 b2:Value} {n n2:Nat} {dd dd2:Option Addr} {sl sl2:Array (Option Value)} {k0 k1 l0 l1:Bool} {Q:Value→Shared→Prop}
  (hl:s.heap.get? p1=some { cls:=.type "tuple",dict:=dd,data:=.seq #[a1,b1] n,slots:=sl }) (hb:s.heap.get? p2=some { cls:=.type "tuple",dict:=dd2,data:=.seq #[a2,b2] n2,slots:=sl2 }) (hu:A.units < cLine)
  (e0:EqAt A.in1 s a1 a2 k0) (e1:EqAt A.in1 s b1 b2 k1)
  (r0:k0=false→∀ (prog:Program) (w:World) (Q:Value→Shared→Prop) (E:Value→Shared→Prop),Q (.bool l0) s→wpAny (model prog w) A.in1 (richCompare .Lt a1 a2) Q E s)
  (r1:k1=false→∀ (prog:Program) (w:World) (Q:Value→Shared→Prop) (E:Value→Shared→Prop),Q (.bool l1) s→wpAny (model prog w) A.in1 (richCompare .Lt b1 b2) Q E s)
  (h:Q (.bool (if k0 then (if k1 then false else l1) else l0)) s):wpAny (model prog w) A (richCompare .Lt (.ref p1) (.ref p2)) Q E s:=by
 refine richCompare_meets_room (op:=.Lt) (T:="tuple") ⟨_,hl,rfl⟩ ⟨_,hb,rfl⟩ F.slot_tuple_lt F.entry_tuple_lt (F.args_tuple_lt_2 _ _) (rJ p1 p2 #[a1,b1] #[a2,b2] n n2 dd dd2 sl sl2 (fun z=>if z=0 then k0 else k1) (fun z=>if z=0 then l0 else l1))
  ⟨hl,hb,?_,?_,(fun z=>nomatch z),?_⟩ hu
 ·intro z z1 z2
  have z3:z < 2:=z1
  have z4:z=0∨z=1:=by omega
  rcases z4 with rfl | rfl
  ·exact e0
  ·exact e1
 ·intro z z1 z2 ez
  have z3:z < 2:=z1
  have z4:z=0∨z=1:=by omega
  rcases z4 with rfl | rfl
  ·exact r0 ez
  ·exact r1 ez
 ·cases k0 <;> cases k1 <;> exact h
end
end PySem
namespace L2
open PySem PySem.Spec PyProof.Rows
def ltT:D→D→Option D
 | .tuple [.int i,.list xs],.tuple [.int j,.list ys]=>(bJ xs).bind fun ns=>(bJ ys).map fun ms=>.bool (if i=j then ltL ns ms else decide (i < j))
 | _,_=>none
theorem kh:∀ {ts:List D} {ns:List Int},bJ ts=some ns→ts=ns.map PyData.int
 | [],_,h=>by cases h; rfl
 | t :: ts,_,h=>by
  cases t with
  | int i =>
   obtain ⟨r,h1,h2⟩:=Option.map_eq_some_iff.mp (show (bJ ts).map (i :: ·)=_ from h)
   subst h2
   rw [kh h1]
   rfl
  | _=>cases h
theorem nF:∀ xs ys:List Int,dg (xs.map PyData.int) (ys.map PyData.int)=decide (xs=ys)
 | [],[]=>rfl
 | [],_ :: _=>rfl
 | _ :: _,[]=>rfl
 | x :: xs,y :: ys=>by
  show (peq (.int x) (.int y) && dg (xs.map PyData.int) (ys.map PyData.int))=_
  rw [nF xs ys]
  simp only [peq,List.cons.injEq,Bool.decide_and]
  rfl
theorem pE:∀ xs:List Int,ltL xs xs=false
 | []=>rfl
 | x :: xs=>(if_pos rfl).trans (pE xs)
theorem iD:∀ xs:List Int,bg (xs.map PyData.int)=true
 | []=>rfl
 | x :: xs=>iD xs
theorem nO:∀ xs:List Int,cy (xs.map PyData.int)≤1
 | []=>by decide
 | x :: xs=>by
  have:=nO xs
  show max (dM (.int x)) (cy (xs.map PyData.int))≤1
  have e:dM (.int x)=0∨dM (.int x)=1:=by first | exact .inl rfl | exact .inr rfl
  omega
theorem l5 {ns:List Int} {us:List Value} (r:Vals (ns.map V.int) us):∀ j (h:j < us.toArray.size),∃ t,us.toArray[j]=.int (ns.getD j 0) t:=fun j h=>by
 have hl:=r.length
 rw [List.length_map] at hl
 rw [List.size_toArray] at h
 obtain ⟨u,h1,h2⟩:=r.get (i:=j) (x:=.int (ns.getD j 0)) (by
  rw [List.getElem?_map,List.getElem?_eq_getElem (by omega),List.getD_eq_getElem?_getD,List.getElem?_eq_getElem (by omega)]
  rfl)
 rw [List.getElem?_eq_getElem h] at h1
 cases h1
 obtain ⟨t,ht⟩:=h2
 exact ⟨t,by simpa using ht⟩
section
variable {X:Cx} {K:PySem.W.Frag}
theorem Ho (hK:X.K=K) (hu:X.A.units+64 < cLine):OpR X (compareOp .Lt) (rF2 K ltT 3):=by
 subst hK
 intro pins s σ H x y v u Q I rx ry ⟨O,a,b,t,oa,ob,hd,hg,k⟩
 unfold ltT at hg
 split at hg
 case h_2=>cases hg
 next i xs j ys =>
 obtain ⟨ns,h1,hg⟩:=Option.bind_eq_some_iff.mp hg
 obtain ⟨ms,h2,hg⟩:=Option.map_eq_some_iff.mp hg
 subst hg
 have e1:=kh h1
 have e2:=kh h2
 subst e1 e2
 obtain ⟨p1,vs1,rfl,fz1,w1⟩:=oa.tup0
 obtain ⟨p2,vs2,rfl,fz2,w2⟩:=ob.tup0
 obtain ⟨x1,x2,rfl,o1,o2⟩:=w1.two
 obtain ⟨y1,y2,rfl,q1,q2⟩:=w2.two
 cases rx
 cases ry
 cases (show x1=V.int i from o1)
 cases (show y1=V.int j from q1)
 obtain ⟨its1,r1,pl1,_⟩:=I.tuple fz1.sq
 obtain ⟨its2,r2,pl2,_⟩:=I.tuple fz2.sq
 obtain ⟨ua,ub,rfl,ra,rb⟩:=r1.two
 obtain ⟨va,vb,rfl,sa,sb⟩:=r2.two
 have rb':=rb
 have sb':=sb
 obtain ⟨ti,rfl⟩:=ra
 obtain ⟨tj,rfl⟩:=sa
 have hla:=o2
 have hlb:=q2
 obtain ⟨l1,xs1,rfl,fl1,c1⟩:=hla.lst0
 obtain ⟨l2,xs2,rfl,fl2,c2⟩:=hlb.lst0
 cases (gX c1 h1)
 cases (gX c2 h2)
 obtain ⟨is1,g1,⟨b1,n1,hb1,hc1,hd1,hs1⟩,_⟩:=I.list fl1.sq
 obtain ⟨is2,g2,⟨b2,n2,hb2,hc2,hd2,hs2⟩,_⟩:=I.list fl2.sq
 cases rb
 cases sb
 obtain ⟨⟨cls,dd,data,sl⟩,ho,hc,m,hda⟩:=id pl1
 obtain ⟨⟨cls',dd',data',sl'⟩,ho',hc',m',hda'⟩:=id pl2
 simp only at hc hda hc' hda'
 subst hc hda hc' hda'
 obtain ⟨bcls,bdd,bdata,bsl⟩:=b1
 obtain ⟨ccls,cdd,cdata,csl⟩:=b2
 simp only at hc1 hd1 hs1 hc2 hd2 hs2
 subst hc1 hs1 hc2 hs2
 have hu1:X.A.in1.units+60+1 < cLine:=by show X.A.units+1+60+1 < cLine; omega
 have dz:dM (.list (ns.map PyData.int))≤60:=by
  have:=nO ns
  show cy (ns.map PyData.int)+1≤60
  omega
 have en:aH (.list (ns.map PyData.int))=true:=iD ns
 have em:aH (.list (ms.map PyData.int))=true:=iD ms
 have eqs:=(sI I 60 (.list (ns.map PyData.int)) (.list (ms.map PyData.int)) X.A.in1 _ _ _ _ dz en em o2 q2 rb' sb' hu1).1
 have pe:peq (.list (ns.map PyData.int)) (.list (ms.map PyData.int))=decide (ns=ms):=by simp only [peq]; exact nF ns ms
 rw [pe] at eqs
 refine vJ (k0:=i == j) (k1:=decide (ns=ms)) (l0:=decide (i < j)) (l1:=ltL ns ms) ho ho' (by omega) ((MeetsSeq.EqGives.int i j ti tj).at _ _) eqs (fun _ prog w Q' E' hq=>?_) (fun _ prog w Q' E' hq=>?_) ?_
 ·exact richCompare_gives (op:=.Lt) (typeIs_int _ _ ti) (typeIs_int _ _ tj) F.slot_int_lt F.entry_int_lt (F.args_int_lt_2 _ _) (gives_int_lt _ _ ti tj) (fun x=>nomatch x) hq
 ·exact vK (by have:=g1.length; rw [List.length_map] at this; rw [List.size_toArray]; exact this.symm) (by have:=g2.length; rw [List.length_map] at this; rw [List.size_toArray]; exact this.symm) (l5 g1) (l5 g2) hb1 hb2 (by show X.A.units+1 < cLine; omega) hq
 ·have er:(if (i == j)=true then (if decide (ns=ms)=true then false else ltL ns ms) else decide (i < j))=if i=j then ltL ns ms else decide (i < j):=by
   by_cases e:i=j
   ·subst e
    by_cases e2:ns=ms
    ·subst e2
     simp [pE]
    ·simp [e2]
   ·simp [e]
  rw [er]
  exact ⟨.bl _,H,I,rfl,k _ H NoA .refl rfl⟩
end
def tFk (K:PySem.W.Frag) (ds ds':List Nat) (d i:Nat) (f:En→Option (D × En)):TE:=fun σ H Q =>
 ∃ Ox en R t en',EnvOk K ds Ox H σ en R∧f en=some (t,en')∧∀ v H' R' F,Post K false ds' Ox σ H en R en' H' R' F→(∀ a o,H a=some o→R i a→H' a=some o)→en'[i]?=en[i]?→Ow K (Own R' (U F Ox)) H' t d v F→Q v H'
section
variable {K:PySem.W.Frag} {p p1 p2:Bool} {ds ds0 ds1 ds2 ds' dps:List Nat} {Ox Ox' O O':AS} {H H':Hp} {σ:St} {en en' en1 en2:En} {R R':Nat→AS} {d d' d1 d2 dr:Nat} {t t1 t2:D} {Q:VK} {f f1 f2:ME} {fa:MA} {sh:Sh} {QA:List V→Hp→Prop} {i:Nat}
theorem Jc {E:XK} {F:List D→Option (D × En)} {i0:Nat} (hi0:∀ j:Nat,sh[j]?≠some (.inr i0)) (hc:dF ds1 sh dps=true) (h:tFk K ds ds1 dr i0 (aq F fa) σ H Q):oz (spF K dps dr F) [] E (tFA K true ds ds1 sh fa) σ H Q:=by
 obtain ⟨Ox,en,R,t,en',e,hf,k⟩:=h
 unfold aq at hf
 obtain ⟨⟨as,en1⟩,h1,hf⟩:=Option.bind_eq_some_iff.mp hf
 obtain ⟨ts,h2,hf⟩:=Option.bind_eq_some_iff.mp hf
 obtain ⟨⟨r,outs⟩,h3,hf⟩:=Option.map_eq_some_iff.mp hf
 cases hf
 refine ⟨Ox,en,R,as,en1,e,h1,fun vs H1 R1 F0 P o=>?_⟩
 obtain ⟨cl,c1,c2,c3⟩:=iw hc
 obtain ⟨Rp,a1,a2,a3,a4⟩:=o.parts
 obtain ⟨tl,tg⟩:=jC h2
 have ol:=o.len
 have asl:∀ (j i:Nat),as[j]?=some (.inr i)→sh[j]?=some (.inr i):=fun j i z=>(a2 j i z).choose_spec.2.1
 have asr:∀ (j i:Nat),sh[j]?=some (.inr i)→as[j]?=some (.inr i):=fun j i z=>by
  cases q:as[j]? with
  | none =>
   have e1:as.length≤j:=List.getElem?_eq_none_iff.mp q
   have e2:j < sh.length:=(List.getElem?_eq_some_iff.mp z).1
   have:=o.shl
   omega
  | some x =>
   cases x with
   | inl t =>
    obtain ⟨_,_,_,e2,_⟩:=a1 j t q
    rw [z] at e2; cases e2
   | inr i' =>
    have:=asl j i' q
    rw [z] at this
    cases this
    rfl
 let Rq:Nat→AS:=fun j=>match sh[j]? with | some (.inr i)=>R1 i | _=>Rp j
 have rq1:∀ j i:Nat,sh[j]?=some (.inr i)→Rq j=R1 i:=fun j i z=>by show (match sh[j]? with | some (.inr i)=>R1 i | _=>Rp j)=R1 i; rw [z]
 have rq2:∀ j:Nat,(∀ i:Nat,sh[j]?≠some (.inr i))→Rq j=Rp j:=fun j z=>by
  show (match sh[j]? with | some (.inr i)=>R1 i | _=>Rp j)=Rp j
  split
  ·next i q=>exact absurd q (z i)
  ·rfl
 have rqc:∀ (j:Nat) a,Rq j a→(∃ i,sh[j]?=some (.inr i)∧R1 i a)∨Rp j a:=fun j a z=>by
  by_cases q:∃ i,sh[j]?=some (.inr i)
  ·obtain ⟨i,q⟩:=q
   rw [rq1 j i q] at z
   exact .inl ⟨i,q,z⟩
  ·rw [rq2 j fun i z=>q ⟨i,z⟩] at z
   exact .inr z
 let Oxp:AS:=fun a=>Ox a∨∃ i,R1 i a∧∀ j:Nat,sh[j]?≠some (.inr i)
 have sub:∀ a,Own Rq Oxp a→Own R1 (U F0 Ox) a:=fun a z=>by
  rcases z with ⟨j,z⟩ | z | ⟨i,z,_⟩
  ·rcases rqc j a z with ⟨i,_,z⟩ | z
   ·exact .inl ⟨i,z⟩
   ·exact .inr (.inl (a3 j a z))
  ·exact .inr (.inr z)
  ·exact .inl ⟨i,z⟩
 have ec:EnvOk K dps Oxp H1 (vs.map some) (ts.map some) Rq:=by
  refine ⟨fun j u hu=>?_,fun j j' a z z'=>?_,fun j a z z2=>?_,fun a z=>P.env.dom a (sub a z),by rw [List.length_map,List.length_map,tl,ol],?_⟩
  ·rw [List.getElem?_map] at hu
   obtain ⟨u',hu,eu⟩:=Option.map_eq_some_iff.mp hu
   cases eu
   rcases tg j u hu with q | ⟨i,q,qe⟩
   ·obtain ⟨v,d,b1,b2,b3⟩:=a1 j u q
    refine ⟨v,d,by rw [List.getElem?_map,b1]; rfl,c1 j d b2,?_⟩
    rw [rq2 j fun i z=>by rw [b2] at z; cases z]
    exact Ow.grow sub u (fun _ z=>z) b3
   ·obtain ⟨v,b1,b2,b3⟩:=a2 j i q
    obtain ⟨v',d,g1,g2,g3⟩:=P.env.at_ i u qe
    rw [b3] at g1
    cases g1
    obtain ⟨qd,q1,q2⟩:=c2 j i b2
    rw [g2] at q2
    cases q2
    refine ⟨v,d,by rw [List.getElem?_map,b1]; rfl,q1,?_⟩
    rw [rq1 j i b2]
    exact Ow.grow sub u (fun _ z=>z) g3
  ·rcases rqc j a z with ⟨i,q,z⟩ | z <;> rcases rqc j' a z' with ⟨i',q',z'⟩ | z'
   ·have:=P.env.dj i i' a z z'
    subst this
    exact c3 j j' i q q'
   ·exact absurd (.inl (a3 j' a z')) (P.env.dx i a z)
   ·exact absurd (.inl (a3 j a z)) (P.env.dx i' a z')
   ·exact a4 j j' a z z'
  ·rcases rqc j a z with ⟨i,q,z⟩ | z
   ·rcases z2 with z2 | ⟨i',z2,n⟩
    ·exact P.env.dx i a z (.inr z2)
    ·have:=P.env.dj i i' a z z2
     subst this
     exact n j q
   ·rcases z2 with z2 | ⟨i',z2,n⟩
    ·exact P.fx a (a3 j a z) z2
    ·exact P.env.dx i' a z2 (.inl (a3 j a z))
  ·have:=o.shl
   rw [List.length_map]
   omega
 rw [List.append_nil]
 refine ⟨Oxp,ts,Rq,r,outs,ec,h3,fun v H2 R2 Fr Pc oc=>?_⟩
 have outl:outs.length=as.length:=by rw [Pc.env.l1,List.length_map]; exact ol
 classical
 let R3:Nat→AS:=fun i=>if q:∃ j:Nat,sh[j]?=some (.inr i) then R2 q.choose else R1 i
 have r31:∀ (i j:Nat),sh[j]?=some (.inr i)→R3 i=R2 j:=fun i j z=>by
  have q:∃ j:Nat,sh[j]?=some (.inr i):=⟨j,z⟩
  have:q.choose=j:=c3 _ _ i q.choose_spec z
  show (if q:∃ j:Nat,sh[j]?=some (.inr i) then R2 q.choose else R1 i)=R2 j
  rw [dif_pos q,this]
 have r32:∀ i:Nat,(∀ j:Nat,sh[j]?≠some (.inr i))→R3 i=R1 i:=fun i z=>by
  show (if q:∃ j:Nat,sh[j]?=some (.inr i) then R2 q.choose else R1 i)=R1 i
  rw [dif_neg fun ⟨j,q⟩=>z j q]
 have r3c:∀ (i:Nat) a,R3 i a→(∃ j:Nat,sh[j]?=some (.inr i)∧R2 j a)∨((∀ j:Nat,sh[j]?≠some (.inr i))∧R1 i a):=fun i a z=>by
  by_cases q:∃ j:Nat,sh[j]?=some (.inr i)
  ·obtain ⟨j,q⟩:=q
   rw [r31 i j q] at z
   exact .inl ⟨j,q,z⟩
  ·rw [r32 i fun j z=>q ⟨j,z⟩] at z
   exact .inr ⟨fun j z=>q ⟨j,z⟩,z⟩
 have sub3:∀ a,Own R3 (U Fr Ox) a→Own R2 (U Fr Oxp) a:=fun a z=>by
  rcases z with ⟨i,z⟩ | z | z
  ·rcases r3c i a z with ⟨j,_,z⟩ | ⟨n,z⟩
   ·exact .inl ⟨j,z⟩
   ·exact .inr (.inr (.inr ⟨i,z,n⟩))
  ·exact .inr (.inl z)
  ·exact .inr (.inr (.inl z))
 have back:∀ a,(Fr a∨∃ j,R2 j a)→Own R1 (U F0 Ox) a∨H1 a=none:=fun a z=>by
  rcases Pc.own a z with ⟨j,z⟩ | z
  ·exact .inl (sub a (.inl ⟨j,z⟩))
  ·exact .inr z
 have back2:∀ a,(Fr a∨∃ j,R2 j a)→(F0 a∨∃ i,R1 i a)∨H1 a=none:=fun a z=>by
  rcases Pc.own a z with ⟨j,z⟩ | z
  ·rcases rqc j a z with ⟨i,_,z⟩ | z
   ·exact .inl (.inr ⟨i,z⟩)
   ·exact .inl (.inl (a3 j a z))
  ·exact .inr z
 have n1:∀ a,H1 a=none→H a=none:=fun a z=>by
  cases q:H a with
  | none=>rfl
  | some o =>
   obtain ⟨o',q'⟩:=P.dom a o q
   rw [z] at q'
   cases q'
 have rqsub:∀ j a,Rq j a→Own R1 (U F0 Ox) a:=fun j a z=>sub a (.inl ⟨j,z⟩)
 have env3:EnvOk K ds1 (U Fr Ox) H2 σ (wb as outs en1) R3:=by
  refine ⟨fun i u hu=>?_,fun i i' a z z'=>?_,fun i a z z2=>?_,fun a z=>Pc.env.dom a (sub3 a z),by rw [lZ]; exact P.env.l1,P.env.l2⟩
  ·by_cases q:∃ j:Nat,as[j]?=some (.inr i)
   ·obtain ⟨j,q⟩:=q
    obtain ⟨v,b1,b2,b3⟩:=a2 j i q
    have hil:i < en1.length:=by rw [P.env.l1]; exact (List.getElem?_eq_some_iff.mp b3).1
    rw [oq as outs en1 i j q (fun j' z=>c3 j' j i (asl j' i z) b2) outl hil] at hu
    obtain ⟨v',d,g1,g2,g3⟩:=Pc.env.at_ j u hu
    rw [List.getElem?_map,b1] at g1
    cases g1
    obtain ⟨qd,q1,q2⟩:=c2 j i b2
    rw [g2] at q1
    cases q1
    refine ⟨v,d,b3,q2,?_⟩
    rw [r31 i j b2]
    exact Ow.grow sub3 u (fun _ z=>z) g3
   ·rw [gW as outs en1 i fun j z=>q ⟨j,z⟩] at hu
    have ns:∀ j:Nat,sh[j]?≠some (.inr i):=fun j z=>q ⟨j,asr j i z⟩
    obtain ⟨v,d,g1,g2,g3⟩:=P.env.at_ i u hu
    refine ⟨v,d,g1,g2,?_⟩
    rw [r32 i ns]
    refine Ow.mv (G:=R1 i) ⟨fun a o q z=>Pc.keep a o q fun j zj=>?_,fun a z=>?_⟩ u (fun _ z=>z) g3
    ·rcases z with z | z
     ·exact z (rqsub j a zj)
     ·rcases rqc j a zj with ⟨i',q',z'⟩ | z'
      ·have:=P.env.dj i i' a z z'
       subst this
       exact ns j q'
      ·exact P.env.dx i a z (.inl (a3 j a z'))
    ·rcases z with ⟨i',z⟩ | z | z
     ·rcases r3c i' a z with ⟨j,_,z⟩ | ⟨n,z⟩
      ·exact back a (.inr ⟨j,z⟩)
      ·exact .inl (.inl ⟨i',z⟩)
     ·exact back a (.inl z)
     ·exact .inl (.inr (.inr z))
  ·rcases r3c i a z with ⟨j,q,z⟩ | ⟨n,z⟩ <;> rcases r3c i' a z' with ⟨j',q',z'⟩ | ⟨n',z'⟩
   ·have:=Pc.env.dj j j' a z z'
    subst this
    rw [q] at q'
    cases q'
    rfl
   ·exact absurd (.inr (.inr ⟨i',z',n'⟩)) (Pc.env.dx j a z)
   ·exact absurd (.inr (.inr ⟨i,z,n⟩)) (Pc.env.dx j' a z')
   ·exact P.env.dj i i' a z z'
  ·rcases r3c i a z with ⟨j,q,z⟩ | ⟨n,z⟩
   ·exact Pc.env.dx j a z (z2.imp id .inl)
   ·rcases z2 with z2 | z2
    ·exact Pc.fx a z2 (.inr ⟨i,z,n⟩)
    ·exact P.env.dx i a z (.inr z2)
 refine k v H2 R3 Fr ⟨env3,fun a z z2=>Pc.fx a z (.inl z2),fun a o q n=>?_,fun a z=>?_,fun a o q=>?_,fun hp=>nomatch hp⟩ (fun a o q z=>?_) ?_ (Ow.grow sub3 r (fun _ z=>z) oc)
 ·refine Pc.keep a o (P.keep a o q n) fun j z=>?_
  have nn:∀ i,¬ R1 i a:=fun i z=>by
   rcases P.own a (.inr ⟨i,z⟩) with ⟨i',z⟩ | z
   ·exact n i' z
   ·rw [q] at z; cases z
  rcases rqc j a z with ⟨i,_,z⟩ | z
  ·exact nn i z
  ·rcases P.own a (.inl (a3 j a z)) with ⟨i',z⟩ | z
   ·exact n i' z
   ·rw [q] at z; cases z
 ·have:(F0 a∨∃ i,R1 i a)∨H1 a=none:=by
   rcases z with z | ⟨i,z⟩
   ·exact back2 a (.inl z)
   ·rcases r3c i a z with ⟨j,_,z⟩ | ⟨n,z⟩
    ·exact back2 a (.inr ⟨j,z⟩)
    ·exact .inl (.inr ⟨i,z⟩)
  rcases this with z | z
  ·exact P.own a z
  ·exact .inr (n1 a z)
 ·obtain ⟨o',q'⟩:=P.dom a o q
  exact Pc.dom a o' q'
 ·obtain ⟨b1,b2,b3⟩:=P.pure rfl
  rw [← b2] at z
  refine Pc.keep a o (b3 a o q) fun j zj=>?_
  rcases rqc j a zj with ⟨i',q',z'⟩ | z'
  ·have:=P.env.dj i0 i' a z z'
   subst this
   exact hi0 j q'
  ·exact P.env.dx i0 a z (.inl (a3 j a z'))
 ·obtain ⟨b1,b2,b3⟩:=P.pure rfl
  rw [gW as outs en1 i0 fun j z=>hi0 j (asl j i0 z),b1]
theorem Ows.at1 {K:PySem.W.Frag} {O:AS} {H:Hp} {d:Nat}:∀ {ts:List D} {vs:List V} {F:AS} {k:Nat} {u:D} {x:V},Ows K O H ts d vs F→ts[k]?=some u→vs[k]?=some x→∃ F1:AS,(∀ b,F1 b→F b)∧Ow K O H u d x F1
 | [],_,_,k,u,_,_,h,_=>by simp at h
 | t :: ts,_,F,k,u,x,h,hk,hx=>by
  obtain ⟨v,r,F1,F2,e,s1,s2,s3,h4,h5⟩:=h
  subst e
  cases k with
  | zero =>
   have e1:t=u:=by simpa using hk
   have e2:v=x:=by simpa using hx
   subst e1 e2
   exact ⟨F1,s1,h4⟩
  | succ k =>
   obtain ⟨G,g1,g2⟩:=Ows.at1 (k:=k) h5 (by simpa using hk) (by simpa using hx)
   exact ⟨G,fun b z=>s2 b (g1 b z),g2⟩
theorem Ow.pathKeep {K:PySem.W.Frag} {O:AS} {H H':Hp}:∀ {π:List Nat} {t u:D} {d:Nat} {v w:V} {F:AS},Ow K O H t d v F→cz t π=some u→dns π.length d≠0→(∀ a o,H a=some o→F a→H' a=some o)→PathV H v π w→PathV H' v π w
 | [],_,_,_,_,_,_,_,_,_,_,h=>h
 | k :: π,t,u,d,v,w,F,h,hp,hz,hk,⟨a,vs,x,e,g1,g2,g3⟩=>by
  have hz1:dns π.length (dn d)≠0:=hz
  have hd0:d≠0:=uT (m:=π.length+1) hz
  subst e
  cases t with
  | list ts =>
   obtain ⟨c,p1,p2⟩:=Option.bind_eq_some_iff.mp hp
   obtain ⟨a',vs',e,⟨h0,_⟩ | ⟨_,h1,h2,F',hf,h3⟩⟩:=h
   ·exact absurd h0 hd0
   cases e
   have ev:vs=vs':=by
    rcases g1 with g1 | g1 <;> rw [h1] at g1 <;> cases g1
    rfl
   subst ev
   obtain ⟨F1,s1,s2⟩:=h3.at1 p1 g2
   exact ⟨a,vs,x,rfl,.inl (hk a _ h1 h2),g2,s2.pathKeep p2 hz1 (fun b o q z=>hk b o q (hf b (s1 b z)).1) g3⟩
  | tuple ts =>
   obtain ⟨c,p1,p2⟩:=Option.bind_eq_some_iff.mp hp
   obtain ⟨a',vs',e,⟨h0,_⟩ | ⟨_,h1,h2,F',hf,h3⟩⟩:=h
   ·exact absurd h0 hd0
   cases e
   have ev:vs=vs':=by
    rcases g1 with g1 | g1 <;> rw [h1] at g1 <;> cases g1
    rfl
   subst ev
   obtain ⟨F1,s1,s2⟩:=h3.at1 p1 g2
   exact ⟨a,vs,x,rfl,.inr (hk a _ h1 h2),g2,s2.pathKeep p2 hz1 (fun b o q z=>hk b o q (hf b (s1 b z)).1) g3⟩
  | _=>cases hp
end
section
variable {X:Cx} {K:PySem.W.Frag} {p p1 p2:Bool} {J:Jd} {ds ds1 ds2:List Nat} {H:Hp} {σ:St} {d d1 d2 i m:Nat} {f fk fe:ME} {mp:MP} {e b o:Expr} {Q:VK}
theorem wc {c:Nat} {D:Ends} (hd1:ds1[i]?=some d) (hd:ds2[i]?=some d) (hz:dns m d≠0) (hc:dn (dns m d)=c) {ds0:List Nat} (h:tFS K J ds ds2 (jj i mp fk fe) D σ H) :
  mY (tF K p ds ds0 c fe) (v7 (tP K p1 ds0 ds1 i m mp) (tFk K ds1 ds2 d2 i fk) rO) D σ H:=by
 obtain ⟨Ox,en,R,fl,e,hf,k⟩:=h
 unfold jj at hf
 obtain ⟨⟨t1,en1⟩,h1,hf⟩:=Option.bind_eq_some_iff.mp hf
 obtain ⟨⟨π,en2⟩,h2,hf⟩:=Option.bind_eq_some_iff.mp hf
 obtain ⟨⟨t3,en3⟩,h3,hf⟩:=Option.bind_eq_some_iff.mp hf
 dsimp only at hf
 split at hf
 case h_2=>cases hf
 next n t h4 =>
 obtain ⟨u,h5,hf⟩:=Option.bind_eq_some_iff.mp hf
 cases u with
 | list ts =>
  obtain ⟨kk,h6,hf⟩:=Option.map_eq_some_iff.mp hf
  cases hf
  refine ⟨Ox,en,R,t1,en1,e,h1,fun x H1 R1 F1 P1 o1=>?_⟩
  refine ⟨U F1 Ox,en1,R1,π,en2,P1.env,h2,fun v w H2 R2 P2 hl hv pv=>?_⟩
  have P12:=P1.trans P2
  have o12:=Ow.over P1.env P2 o1
  have e0:U F1 NoA=F1:=eo fun a=>⟨fun z=>z.elim id fun z=>z.elim,.inl⟩
  rw [e0] at P12 o12
  refine ⟨U F1 Ox,en2,R2,.int n,en3,P12.env,h3,fun y H3 R3 F3 P3 kp ei o3=>?_⟩
  have P:=P12.trans P3
  have o1':=Ow.over P12.env P3 o12
  have ey:y=.int n:=o3
  subst ey
  subst hl
  have pv3:PathV H3 v π w:=by
   obtain ⟨v',d',b1,b2,b3⟩:=P12.env.at_ i t (by rw [← ei]; exact aV h4)
   rw [hv] at b1
   cases b1
   rw [hd1] at b2
   cases b2
   exact b3.pathKeep h5 hz kp pv
  obtain ⟨l,vs,G1,el,hl1,hr,hf1,ow,fin⟩:=P.place (aV h4) hv hd h5 hz pv3
  subst el
  refine ⟨l,vs,n,kk,rfl,rfl,hl1,by rw [ow.len]; exact h6,?_⟩
  have Fn:∀ a,F1 a→a≠l:=fun a z z2=>by
   subst z2
   exact P.env.dx i a hr (.inl (.inl z))
  have Ol:Own R3 (U (U F1 F3) Ox) l:=.inl ⟨i,hr⟩
  obtain ⟨R',PF⟩:=fin (ts.set kk t1) (vs.set kk x) (U G1 F1) (fun _ z=>z.imp id .inl) fun O' ho=>by
   refine Ows.setAt (Ows.past ho Ol (fun b z=>(hf1 b z).2) ow) ?_ fun b z1 z2=>P.env.dx i b (hf1 b z1).1 (.inl (.inl z2))
   rw [hc]
   exact Ow.past ho Ol Fn o1'
  exact k σ _ _ PF.s
 | _=>cases hf
theorem uE {c:Nat} {ds0:List Nat} {spos pos:Pos} {k:Expr} (hd1:ds1[i]?=some d) (hd:ds2[i]?=some d) (he:PE X e (tF K p ds ds0 c fe)) (ho:PE X o (tP K p1 ds0 ds1 i m mp)) (hk:PE X k (tFk K ds1 ds2 d2 i fk)) (hz:dns m d≠0) (hc:dn (dns m d)=c)
  (ha:∀ v,assign (.Subscript o k spos) X.env v=(do
   let ov ← holding [v] (eval o X.env)
   let iv ← holding [v,ov] (eval k X.env)
   standAt spos
   holding [v,ov,iv] (setItem ov iv v)
   release [v,ov,iv] []))
  (hs:swapsWithSole [.Subscript o k spos] e pos.line X.env=pure false) (hw:swappedStores [.Subscript o k spos] e X.env=pure none)
  (h2:(assignEach [.Subscript o k spos] X.env).map (·.2)=[assign (.Subscript o k spos) X.env]) :
  PS X (.Assign [.Subscript o k spos] e pos) (tFS K J ds ds2 (jj i mp fk fe)) :=
 (tQ he (tT ho hk oY ha) hs hw h2).imp fun _ _ _=>wc hd1 hd hz hc
theorem HI {k:Nat} {x:Str} {ps:List Str} {es:List Expr} {px pos:Pos} {dps:List Nat} {dr:Nat} {sh:Sh} {fa:MA} {F:List D→Option (D × En)} (G:Kn X.prog X.w X.K X.mg X.base k x ps (spF K dps dr F)) (hr:Room k X.A) (hg:Gl X x) (ha:PA X (e :: es) (tFA K true ds ds1 sh fa)) (hi:∀ j:Nat,sh[j]?≠some (.inr i)) (hcd:dF ds1 sh dps=true) (hdb:(x == ("__debug__" : Str))=false)
  (he:aP e=true) (hpl:es.all aP=true) :
  PE X (.Call (.Name x px) (e :: es) [] pos) (tFk K ds ds1 dr i (aq F fa)):=(rS G hr hg ha hdb (bI he) (fq hpl)).imp fun _ _ _ h=>Jc hi hcd h
theorem vG {sh:Sh} {i:Nat} (h:sh.all (fun z=>match z with | .inl _=>true | .inr j=>j != i)=true):∀ j:Nat,sh[j]?≠some (.inr i):=fun j z=>by
 have:=List.all_eq_true.mp h _ (List.mem_of_getElem? z)
 simp at this
end
end L2
namespace L2
open PySem PySem.Spec PyProof.Rows
section
variable {X:Cx} {K:PySem.W.Frag} {p p1 p2:Bool} {J:Jd} {ds ds1 ds2:List Nat} {H:Hp} {σ:St} {d d1 d2 i m:Nat} {f fk fe:ME} {mp:MP} {e b o:Expr} {Q:VK}
theorem qC {c:Nat} {ds0:List Nat} {spos pos:Pos} {k:Expr} (hd1:ds1[i]?=some d) (hd:ds2[i]?=some d) (he:QE X e (tF K p ds ds0 c fe)) (ho:QE X o (tP K p1 ds0 ds1 i m mp)) (hk:QE X k (tFk K ds1 ds2 d2 i fk)) (hz:dns m d≠0) (hc:dn (dns m d)=c)
  (ha:∀ v,assign (.Subscript o k spos) X.env v=(do
   let ov ← holding [v] (eval o X.env)
   let iv ← holding [v,ov] (eval k X.env)
   standAt spos
   holding [v,ov,iv] (setItem ov iv v)
   release [v,ov,iv] []))
  (hs:swapsWithSole [.Subscript o k spos] e pos.line X.env=pure false) (hw:swappedStores [.Subscript o k spos] e X.env=pure none)
  (h2:(assignEach [.Subscript o k spos] X.env).map (·.2)=[assign (.Subscript o k spos) X.env]) :
  QS X (.Assign [.Subscript o k spos] e pos) (tFS K J ds ds2 (jj i mp fk fe)):=⟨uE hd1 hd he.h ho.h hk.h hz hc ha hs hw h2⟩
theorem wA {k:Nat} {x:Str} {ps:List Str} {es:List Expr} {px pos:Pos} {dps:List Nat} {dr:Nat} {sh:Sh} {fa:MA} {F:List D→Option (D × En)} (G:Kn X.prog X.w X.K X.mg X.base k x ps (spF K dps dr F)) (hr:Room k X.A) (hg:Gl X x) (ha:QA X (e :: es) (tFA K true ds ds1 sh fa)) (hi:∀ j:Nat,sh[j]?≠some (.inr i)) (hcd:dF ds1 sh dps=true) (hdb:(x == ("__debug__" : Str))=false)
  (he:aP e=true) (hpl:es.all aP=true) :
  QE X (.Call (.Name x px) (e :: es) [] pos) (tFk K ds ds1 dr i (aq F fa)):=⟨HI G hr hg ha.h hi hcd hdb he hpl⟩
end
end L2
namespace W31
open PySem L2
def top (i:Nat):Stmt:=PySem.Challenge.pw_wordrules_k31_whole_numbers_and_words.main.body.getD i (.Pass ⟨0,0,0,0⟩)
structure Bl (mg:Str→Option Value):Prop where
 abs0:mg "abs"=none
 all0:mg "all"=none
 bool0:mg "bool"=none
 enumerate0:mg "enumerate"=none
 int0:mg "int"=none
 isinstance0:mg "isinstance"=none
 len0:mg "len"=none
 list0:mg "list"=none
 max0:mg "max"=none
 min0:mg "min"=none
 range0:mg "range"=none
 sorted0:mg "sorted"=none
 str0:mg "str"=none
 sum0:mg "sum"=none
 tuple0:mg "tuple"=none
 zip0:mg "zip"=none
section
variable {P:Program} {w:World} {K:PySem.W.Frag} {mg:Str→Option Value} {base:Heap} {f:Addr} {fd:FuncData}
abbrev ky:Stmt:=top 3
abbrev nW:List Str:=["tongue"]
theorem scsigns_of:FnScope nW ["tongue"] (ao ky):=⟨rfl,rfl,rfl,by decide +kernel,rfl,by decide +kernel,by decide +kernel⟩
def kH:MS:=(aF (eM joinD (eC (.str "")) (ae (ad 0) ai)))
def bY:List D→Option (D × En):=fnF 0 [0] kH
theorem rX {k:Nat} (T:Bl mg)   (F:Fun K "signs_of" "signs_of" ky f fd):FnOk P w K mg base CX0 (k+1) f fd ["tongue"] (spF K [0] 3 bY):=by
 have nd:=scsigns_of.nd
 refine F.okQ (N:=nW) (b:=kH) (J:=⟨[],[0],3,[]⟩) (ds0:=[0]) scsigns_of rfl rfl rfl rfl fun cdv A outer s H E hr=>?_
 exact (am (aA (cG (K:=K) rfl PySem.F.slot_str_join PySem.F.type_str_join (gJ rfl) gM bd (ac (aa (i:=0) rfl (.inl rfl) rfl rfl rfl) af rfl) rfl rfl rfl rfl rfl rfl) rfl))
abbrev jF:Stmt:=top 2
abbrev lQ:List Str:=["tongue", "thing", "signs"]
theorem scis_word:FnScope lQ ["tongue", "thing"] (ao jF):=⟨rfl,rfl,rfl,by decide +kernel,rfl,by decide +kernel,by decide +kernel⟩
def mU:ME:=(e2 v1 (ad 0) (ad 1))
def lX:MS:=(al (sIf (bOr (e9 (tV (e1 (aS "str") (ad 1)))) (tV (e2 gtI (eN bc (ae (ad 1) ai)) (eC (.int 60))))) (aF (eC (.bool false))) bt)
 (al (ap 2 (aq bY (ae (ad 0) ai)))
 (aF (eN kt (ae (eLC true (bj (ad 1)) (gN 0) cY mU [none,some 2]) ai)))))
def fI:List D→Option (D × En):=fnF 1 [0,0] lX
theorem t9 {k:Nat} (T:Bl mg) {ce:Tok} (cu:mg "MOST_SIGNS_OF_A_WORD"=some (.int 60 ce)) (ga:Kn P w K mg base k "signs_of" ["tongue"] (spF K [0] 3 bY)) (F:Fun K "is_word" "is_word" jF f fd):FnOk P w K mg base CX0 (k+1) f fd ["tongue", "thing"] (spF K [0,0] 3 fI):=by
 have nd:=scis_word.nd
 refine F.okQ (N:=lQ) (b:=lX) (J:=⟨[],[0,0,0],3,[]⟩) (ds0:=[0,0,0]) scis_word rfl rfl rfl rfl fun cdv A outer s H E hr=>?_
 exact (ag (bp (ds2:=[0,0,0]) (qpt (ja (cF (cj (lF (K:=K) (n:="str") rfl rfl T.isinstance0 rfl T.str0 (by decide +kernel) (by decide) (aa (i:=1) rfl (.inl rfl) rfl rfl rfl) (by decide) rfl rfl rfl rfl) (fun _=>rfl))) (hU (aI sF (ay (bn (K:=K) rfl) rfl T.len0 (by decide +kernel) (ac (aa (i:=1) rfl (.inl rfl) rfl rfl rfl) af rfl) rfl (by decide) rfl rfl rfl) (mB rfl cu rfl) (aO _))))) (am (aA fB rfl)) bh)
  (ag (ak (i:=2) (d:=0) (ds':=[0,0,0]) nd rfl (.inr rfl) (aj (d':=0) (aL ga hr rfl (ac (aa (i:=0) rfl (.inl rfl) rfl rfl rfl) af rfl) rfl rfl rfl rfl rfl) (by decide)) rfl (by decide) (by decide) rfl (.inl rfl))
  (am (aA (ay (uK (K:=K) rfl rfl) rfl T.all0 (by decide +kernel) (ac (aj (d':=0) (bF (cd:=3) (d:=3) (dsi:=[0,0]) (lk:=[1]) (BlkOkC.of (ns:=["sign", "signs"]) (js:=[none,some 2]) (N0:=lQ) (sc0:=ao jF) rfl rfl (by decide +kernel)) rfl (aW (K:=K) rfl (aa (i:=1) rfl (.inl rfl) rfl rfl rfl)) (fun _ _ _ _ _=>(ax (i:=0) (ds':=[0,0]) (show (["sign", "signs"]:List Str).Nodup by decide +kernel) rfl (.inl rfl) rfl (by decide) (by decide) (.inr rfl))) (fun _ _ _ _ _=>aZ) (fun _ _ _ _ _=>(cv Hq (aa (i:=0) rfl (.inl rfl) rfl rfl rfl) (aa (i:=1) rfl (.inr (.inl rfl)) rfl rfl rfl) (by with_unfolding_all rfl))) rfl rfl (by decide) rfl (fun _=>rfl)) (by decide)) af rfl) rfl (by decide) rfl rfl rfl) rfl))))
abbrev kT:Stmt:=top 4
abbrev nv:List Str:=["tongue", "word", "signs"]
theorem scrow_of:FnScope nv ["tongue", "word"] (ao kT):=⟨rfl,rfl,rfl,by decide +kernel,rfl,by decide +kernel,by decide +kernel⟩
def n9:ME:=(eM i8 (ad 1) (ae (ad 0) ai))
def nw:MS:=(al (ap 2 (aq bY (ae (ad 0) ai)))
 (aF (eLC true (bj (ad 1)) (gN 0) cY n9 [none,some 2])))
def gS:List D→Option (D × En):=fnF 1 [0,0] nw
theorem vB {k:Nat} (T:Bl mg)  (ga:Kn P w K mg base k "signs_of" ["tongue"] (spF K [0] 3 bY)) (F:Fun K "row_of" "row_of" kT f fd):FnOk P w K mg base CX0 (k+1) f fd ["tongue", "word"] (spF K [0,0] 3 gS):=by
 have nd:=scrow_of.nd
 refine F.okQ (N:=nv) (b:=nw) (J:=⟨[],[0,0,0],3,[]⟩) (ds0:=[0,0,0]) scrow_of rfl rfl rfl rfl fun cdv A outer s H E hr=>?_
 exact (ag (ak (i:=2) (d:=0) (ds':=[0,0,0]) nd rfl (.inr rfl) (aj (d':=0) (aL ga hr rfl (ac (aa (i:=0) rfl (.inl rfl) rfl rfl rfl) af rfl) rfl rfl rfl rfl rfl) (by decide)) rfl (by decide) (by decide) rfl (.inl rfl))
  (am (aA (bF (cd:=3) (d:=3) (dsi:=[0,0]) (lk:=[1]) (BlkOkC.of (ns:=["sign", "signs"]) (js:=[none,some 2]) (N0:=nv) (sc0:=ao kT) rfl rfl (by decide +kernel)) rfl (aW (K:=K) rfl (aa (i:=1) rfl (.inl rfl) rfl rfl rfl)) (fun _ _ _ _ _=>(ax (i:=0) (ds':=[0,0]) (show (["sign", "signs"]:List Str).Nodup by decide +kernel) rfl (.inl rfl) rfl (by decide) (by decide) (.inr rfl))) (fun _ _ _ _ _=>aZ) (fun _ _ _ _ _=>(cG (K:=K) rfl PySem.F.slot_str_index PySem.F.type_str_index pB pW (aa (i:=1) rfl (.inr (.inl rfl)) rfl rfl rfl) (ac (aa (i:=0) rfl (.inl rfl) rfl rfl rfl) af rfl) rfl rfl rfl rfl rfl rfl)) rfl rfl (by decide) rfl (fun _=>rfl)) rfl)))
abbrev jE:Stmt:=top 5
abbrev lP:List Str:=["tongue", "row", "signs"]
theorem scword_of:FnScope lP ["tongue", "row"] (ao jE):=⟨rfl,rfl,rfl,by decide +kernel,rfl,by decide +kernel,by decide +kernel⟩
def mT:ME:=(e2 ixT (ad 1) (ad 0))
def lV:MS:=(al (ap 2 (aq bY (ae (ad 0) ai)))
 (aF (eM joinD (eC (.str "")) (ae (eLC true (bj (ad 1)) (gN 0) cY mT [none,some 2]) ai))))
def fH:List D→Option (D × En):=fnF 1 [0,0] lV
theorem tZ {k:Nat} (T:Bl mg)  (ga:Kn P w K mg base k "signs_of" ["tongue"] (spF K [0] 3 bY)) (F:Fun K "word_of" "word_of" jE f fd):FnOk P w K mg base CX0 (k+1) f fd ["tongue", "row"] (spF K [0,0] 3 fH):=by
 have nd:=scword_of.nd
 refine F.okQ (N:=lP) (b:=lV) (J:=⟨[],[0,0,0],3,[]⟩) (ds0:=[0,0,0]) scword_of rfl rfl rfl rfl fun cdv A outer s H E hr=>?_
 exact (ag (ak (i:=2) (d:=0) (ds':=[0,0,0]) nd rfl (.inr rfl) (aj (d':=0) (aL ga hr rfl (ac (aa (i:=0) rfl (.inl rfl) rfl rfl rfl) af rfl) rfl rfl rfl rfl rfl) (by decide)) rfl (by decide) (by decide) rfl (.inl rfl))
  (am (aA (cG (K:=K) rfl PySem.F.slot_str_join PySem.F.type_str_join (gJ rfl) gM bd (ac (aj (d':=0) (bF (cd:=3) (d:=3) (dsi:=[0,0]) (lk:=[1]) (BlkOkC.of (ns:=["number", "signs"]) (js:=[none,some 2]) (N0:=lP) (sc0:=ao jE) rfl rfl (by decide +kernel)) rfl (aW (K:=K) rfl (aa (i:=1) rfl (.inl rfl) rfl rfl rfl)) (fun _ _ _ _ _=>(ax (i:=0) (ds':=[0,0]) (show (["number", "signs"]:List Str).Nodup by decide +kernel) rfl (.inl rfl) rfl (by decide) (by decide) (.inr rfl))) (fun _ _ _ _ _=>aZ) (fun _ _ _ _ _=>(au uJ (aa (i:=1) rfl (.inr (.inl rfl)) rfl rfl rfl) (aa (i:=0) rfl (.inl rfl) rfl rfl rfl) (fun _ _=>rfl))) rfl rfl (by decide) rfl (fun _=>rfl)) (by decide)) af rfl) rfl rfl rfl rfl rfl rfl) rfl)))
abbrev kA:Stmt:=top 7
abbrev nX:List Str:=["thing"]
theorem scis_whole:FnScope nX ["thing"] (ao kA):=⟨rfl,rfl,rfl,by decide +kernel,rfl,by decide +kernel,by decide +kernel⟩
def kI:MS:=(aF (kq (e1 (aS "int") (ad 0)) (nc (e1 (aS "bool") (ad 0)))))
def eR:List D→Option (D × En):=fnF 0 [0] kI
theorem rY {k:Nat} (T:Bl mg)   (F:Fun K "is_whole" "is_whole" kA f fd):FnOk P w K mg base CX0 (k+1) f fd ["thing"] (spF K [0] 3 eR):=by
 have nd:=scis_whole.nd
 refine F.okQ (N:=nX) (b:=kI) (J:=⟨[],[0],3,[]⟩) (ds0:=[0]) scis_whole rfl rfl rfl rfl fun cdv A outer s H E hr=>?_
 exact (am (aA (lG (lF (K:=K) (n:="int") rfl rfl T.isinstance0 rfl T.int0 (by decide +kernel) (by decide) (aa (i:=0) rfl (.inl rfl) rfl rfl rfl) (by decide) rfl rfl rfl rfl) (jx (wx (lF (K:=K) (n:="bool") rfl rfl T.isinstance0 rfl T.bool0 (by decide +kernel) (by decide) (aa (i:=0) rfl (.inl rfl) rfl rfl rfl) (by decide) rfl rfl rfl rfl)))) rfl))
abbrev nr:Stmt:=top 9
abbrev rC:List Str:=["machine", "stand"]
theorem scis_end:FnScope rC ["machine", "stand"] (ao nr):=⟨rfl,rfl,rfl,by decide +kernel,rfl,by decide +kernel,by decide +kernel⟩
def kX:MS:=(aF (kq (e2 dh (ad 1) (eC .none)) (e2 ixA (e2 ixA (ad 0) (eC (.int 0))) (ad 1))))
def fJ:List D→Option (D × En):=fnF 0 [0,0] kX
theorem vD {k:Nat} (T:Bl mg)   (F:Fun K "is_end" "is_end" nr f fd):FnOk P w K mg base CX0 (k+1) f fd ["machine", "stand"] (spF K [0,0] 0 fJ):=by
 have nd:=scis_end.nd
 refine F.okQ (N:=rC) (b:=kX) (J:=⟨[],[0,0],0,[]⟩) (ds0:=[0,0]) scis_end rfl rfl rfl rfl fun cdv A outer s H E hr=>?_
 exact (am (aA (lG (cv gL (aa (i:=1) rfl (.inl rfl) rfl rfl rfl) bE (aO _)) (jx (au (aD (K:=K) rfl) (au (aD (K:=K) rfl) (aa (i:=0) rfl (.inl rfl) rfl rfl rfl) ah (fun _ _=>rfl)) (aa (i:=1) rfl (.inl rfl) rfl rfl rfl) (fun _ _=>rfl)))) rfl))
abbrev wR:Stmt:=top 10
abbrev Ij:List Str:=["machine", "stand", "sign"]
theorem scled:FnScope Ij ["machine", "stand", "sign"] (ao wR):=⟨rfl,rfl,rfl,by decide +kernel,rfl,by decide +kernel,by decide +kernel⟩
def sY:MS:=(aF (eIf (tV (e2 isN (ad 1) (eC .none))) (eC .none) (e2 ixA (e2 ixA (e2 ixA (ad 0) (eC (.int 1))) (ad 1)) (ad 2))))
def lU:List D→Option (D × En):=fnF 0 [0,0,0] sY
theorem Iz {k:Nat} (T:Bl mg)   (F:Fun K "led" "led" wR f fd):FnOk P w K mg base CX0 (k+1) f fd ["machine", "stand", "sign"] (spF K [0,0,0] 0 lU):=by
 have nd:=scled.nd
 refine F.okQ (N:=Ij) (b:=sY) (J:=⟨[],[0,0,0],0,[]⟩) (ds0:=[0,0,0]) scled rfl rfl rfl rfl fun cdv A outer s H E hr=>?_
 exact (am (aA (na (aI pT (aa (i:=1) rfl (.inl rfl) rfl rfl rfl) bE (aO _)) (aj (d':=0) bE (by decide)) (au (aD (K:=K) rfl) (au (aD (K:=K) rfl) (au (aD (K:=K) rfl) (aa (i:=0) rfl (.inl rfl) rfl rfl rfl) ah (fun _ _=>rfl)) (aa (i:=1) rfl (.inl rfl) rfl rfl rfl) (fun _ _=>rfl)) (aa (i:=2) rfl (.inl rfl) rfl rfl rfl) (fun _ _=>rfl))) rfl))
abbrev sS:Stmt:=top 11
abbrev Co:List Str:=["machine", "stand", "row", "here", "sign"]
theorem scgone:FnScope Co ["machine", "stand", "row"] (ao sS):=⟨rfl,rfl,rfl,by decide +kernel,rfl,by decide +kernel,by decide +kernel⟩
def rD:MS:=(ap 3 (aq lU (ae (ad 0) (ae (ad 3) (ae (ad 4) ai)))))
def sZ:MS:=(al (ap 3 (ad 1))
 (al (c9 (bj (ad 2)) (gN 4) rD)
 (aF (ad 3))))
def kW:List D→Option (D × En):=fnF 2 [0,0,0] sZ
theorem GD {k:Nat} (T:Bl mg)  (JJ:Kn P w K mg base k "led" ["machine", "stand", "sign"] (spF K [0,0,0] 0 lU)) (F:Fun K "gone" "gone" sS f fd):FnOk P w K mg base CX0 (k+1) f fd ["machine", "stand", "row"] (spF K [0,0,0] 0 kW):=by
 have nd:=scgone.nd
 refine F.okQ (N:=Co) (b:=sZ) (J:=⟨[],[0,0,0,0,0],0,[]⟩) (ds0:=[0,0,0,0,0]) scgone rfl rfl rfl rfl fun cdv A outer s H E hr=>?_
 exact (ag (ak (i:=3) (d:=0) (ds':=[0,0,0,0,0]) nd rfl (.inl rfl) (aa (i:=1) rfl (.inl rfl) rfl rfl rfl) rfl (by decide) (by decide) rfl (.inl rfl))
  (ag (bU (ds1:=[0,0,0,0,0]) rfl (aW (K:=K) rfl (aa (i:=2) rfl (.inl rfl) rfl rfl rfl)) (ax (i:=4) (ds':=[0,0,0,0,0]) nd rfl (.inl rfl) rfl (by decide) (by decide) (.inl rfl)) (am (ak (i:=3) (d:=0) (ds':=[0,0,0,0,0]) nd rfl (.inl rfl) (aL JJ hr rfl (ac (aa (i:=0) rfl (.inl rfl) rfl rfl rfl) (ac (aa (i:=3) rfl (.inl rfl) rfl rfl rfl) (ac (aa (i:=4) rfl (.inl rfl) rfl rfl rfl) af rfl) rfl) rfl) rfl rfl rfl rfl rfl) rfl (by decide) (by decide) rfl (.inl rfl))) PassesOwn.never (fun _=>rfl))
  (am (aA (aa (i:=3) rfl (.inl rfl) rfl rfl rfl) rfl))))
abbrev sR:Stmt:=top 12
abbrev Cn:List Str:=["machine", "row"]
theorem sclets:FnScope Cn ["machine", "row"] (ao sR):=⟨rfl,rfl,rfl,by decide +kernel,rfl,by decide +kernel,by decide +kernel⟩
def sX:MS:=(aF (aq fJ (ae (ad 0) (ae (aq kW (ae (ad 0) (ae (eC (.int 0)) (ae (ad 1) ai)))) ai))))
def kU:List D→Option (D × En):=fnF 0 [0,0] sX
theorem GC {k:Nat} (T:Bl mg)  (D6:Kn P w K mg base k "is_end" ["machine", "stand"] (spF K [0,0] 0 fJ)) (Jj:Kn P w K mg base k "gone" ["machine", "stand", "row"] (spF K [0,0,0] 0 kW)) (F:Fun K "lets" "lets" sR f fd):FnOk P w K mg base CX0 (k+1) f fd ["machine", "row"] (spF K [0,0] 0 kU):=by
 have nd:=sclets.nd
 refine F.okQ (N:=Cn) (b:=sX) (J:=⟨[],[0,0],0,[]⟩) (ds0:=[0,0]) sclets rfl rfl rfl rfl fun cdv A outer s H E hr=>?_
 exact (am (aA (aL D6 hr rfl (ac (aa (i:=0) rfl (.inl rfl) rfl rfl rfl) (ac (aL Jj hr rfl (ac (aa (i:=0) rfl (.inl rfl) rfl rfl rfl) (ac (aj (d':=0) ah (by decide)) (ac (aa (i:=1) rfl (.inl rfl) rfl rfl rfl) af rfl) rfl) rfl) rfl rfl rfl rfl rfl) af rfl) rfl) rfl rfl rfl rfl rfl) rfl))
abbrev cK:Stmt:=top 15
abbrev eF:List Str:=["machine"]
theorem scnumbers_of_none:FnScope eF ["machine"] (ao cK):=⟨rfl,rfl,rfl,by decide +kernel,rfl,by decide +kernel,by decide +kernel⟩
def kE:ME:=(eIf (tV (ad 0)) (eC (.int 1)) (eC (.int 0)))
def ca:MS:=(aF (eLC true (bj (e2 ixA (ad 0) (eC (.int 0)))) (gN 0) cY kE [none]))
def bv:List D→Option (D × En):=fnF 0 [0] ca
theorem kY {k:Nat} (T:Bl mg)   (F:Fun K "numbers_of_none" "numbers_of_none" cK f fd):FnOk P w K mg base CX0 (k+1) f fd ["machine"] (spF K [0] 3 bv):=by
 have nd:=scnumbers_of_none.nd
 refine F.okQ (N:=eF) (b:=ca) (J:=⟨[],[0],3,[]⟩) (ds0:=[0]) scnumbers_of_none rfl rfl rfl rfl fun cdv A outer s H E hr=>?_
 exact (am (aA (bF (cd:=3) (d:=3) (dsi:=[0]) (lk:=[]) (BlkOkC.of (ns:=["end"]) (js:=[none]) (N0:=eF) (sc0:=ao cK) rfl rfl (by decide +kernel)) rfl (aW (K:=K) rfl (au (aD (K:=K) rfl) (aa (i:=0) rfl (.inl rfl) rfl rfl rfl) ah (fun _ _=>rfl))) (fun _ _ _ _ _=>(ax (i:=0) (ds':=[0]) (show (["end"]:List Str).Nodup by decide +kernel) rfl (.inl rfl) rfl (by decide) (by decide) (.inr rfl))) (fun _ _ _ _ _=>aZ) (fun _ _ _ _ _=>(na (cj (aa (i:=0) rfl (.inl rfl) rfl rfl rfl) (fun _=>rfl)) ah ah)) rfl rfl (by decide) rfl (fun _=>rfl)) rfl))
abbrev bS:Stmt:=top 16
abbrev cL:List Str:=["machine", "fewer"]
theorem scnumbers_of_one_more:FnScope cL ["machine", "fewer"] (ao bS):=⟨rfl,rfl,rfl,by decide +kernel,rfl,by decide +kernel,by decide +kernel⟩
def iI:MT:=(tV (e2 dh (ad 0) (eC .none)))
def iP:ME:=(e2 ixA (ad 1) (ad 0))
def iO:ME:=(eN fj (ae (eLC true (bj (ad 0)) (gN 0) iI iP [none,some 1]) ai))
def bz:MS:=(aF (eLC true (bj (e2 ixA (ad 0) (eC (.int 1)))) (gN 0) cY iO [none,some 1]))
def aY:List D→Option (D × En):=fnF 0 [0,0] bz
theorem iY {k:Nat} (T:Bl mg)   (F:Fun K "numbers_of_one_more" "numbers_of_one_more" bS f fd):FnOk P w K mg base CX0 (k+1) f fd ["machine", "fewer"] (spF K [0,0] 3 aY):=by
 have nd:=scnumbers_of_one_more.nd
 refine F.okQ (N:=cL) (b:=bz) (J:=⟨[],[0,0],3,[]⟩) (ds0:=[0,0]) scnumbers_of_one_more rfl rfl rfl rfl fun cdv A outer s H E hr=>?_
 exact (am (aA (bF (cd:=3) (d:=3) (dsi:=[0,0]) (lk:=[1]) (BlkOkC.of (ns:=["ways", "fewer"]) (js:=[none,some 1]) (N0:=cL) (sc0:=ao bS) rfl rfl (by decide +kernel)) rfl (aW (K:=K) rfl (au (aD (K:=K) rfl) (aa (i:=0) rfl (.inl rfl) rfl rfl rfl) ah (fun _ _=>rfl))) (fun _ _ _ _ _=>(ax (i:=0) (ds':=[0,0]) (show (["ways", "fewer"]:List Str).Nodup by decide +kernel) rfl (.inl rfl) rfl (by decide) (by decide) (.inr rfl))) (fun _ _ _ _ _=>aZ) (fun _ _ _ _ _=>(ay (jb (K:=K) rfl rfl) rfl T.sum0 (by decide +kernel) (ac (aj (d':=0) (bF (cd:=0) (d:=1) (dsi:=[0,0]) (lk:=[1]) (BlkOkC.inn (ns:=["there", "fewer"]) (js:=[none,some 1]) (N0:=["ways", "fewer"]) rfl rfl (by decide +kernel)) rfl (aW (K:=K) rfl (aa (i:=0) rfl (.inl rfl) rfl rfl rfl)) (fun _ _ _ _ _=>(ax (i:=0) (ds':=[0,0]) (show (["there", "fewer"]:List Str).Nodup by decide +kernel) rfl (.inl rfl) rfl (by decide) (by decide) (.inr rfl))) (fun _ _ _ _ _=>(il (aI gL (aa (i:=0) rfl (.inl rfl) rfl rfl rfl) bE (aO _)))) (fun _ _ _ _ _=>(au (aD (K:=K) rfl) (aa (i:=1) rfl (.inr (.inl rfl)) rfl rfl rfl) (aa (i:=0) rfl (.inl rfl) rfl rfl rfl) (fun _ _=>rfl))) rfl rfl (by decide) rfl (fun _=>rfl)) (by decide)) af rfl) rfl (by decide) rfl rfl rfl)) rfl rfl (by decide) rfl (fun _=>rfl)) rfl))
abbrev qk:Stmt:=top 14
abbrev u6:List Str:=["machine", "most", "lists"]
theorem sctable:FnScope u6 ["machine", "most"] (ao qk):=⟨rfl,rfl,rfl,by decide +kernel,rfl,by decide +kernel,by decide +kernel⟩
def wU:MS:=(bN (bQ 2 (aq aY (ae (ad 0) (ae (da 2 (e1 iE (eC (.int 1)))) ai)))))
def wP:MT:=(tV (e2 leI (eN bc (ae (ad 2) ai)) (ad 1)))
noncomputable def kG:MS:=(al (ap 2 (bo (ae (aq bv (ae (ad 0) ai)) ai)))
 (al (bq wP wU)
 (aF (ad 2))))
noncomputable def dY:List D→Option (D × En):=fnF 1 [0,0] kG
theorem CU {k:Nat} (T:Bl mg)  (lT:Kn P w K mg base k "numbers_of_none" ["machine"] (spF K [0] 3 bv)) (jN:Kn P w K mg base k "numbers_of_one_more" ["machine", "fewer"] (spF K [0,0] 3 aY)) (F:Fun K "table" "table" qk f fd):FnOk P w K mg base CX0 (k+1) f fd ["machine", "most"] (spF K [0,0] 0 dY):=by
 have nd:=sctable.nd
 refine F.okQ (N:=u6) (b:=kG) (J:=⟨[],[0,0,0],0,[]⟩) (ds0:=[0,0,0]) sctable rfl rfl rfl rfl fun cdv A outer s H E hr=>?_
 exact (ag (ak (i:=2) (d:=1) (ds':=[0,0,1]) nd rfl (.inl rfl) (aj (d':=1) (bu (d:=3) (c:=3) (ac (aL lT hr rfl (ac (aa (i:=0) rfl (.inl rfl) rfl rfl rfl) af rfl) rfl rfl rfl rfl rfl) af rfl) rfl rfl (by decide)) (by decide)) rfl (by decide) (by decide) rfl (.inl rfl))
  (ag (cQ (ds:=[0,0,1]) (im (ds0:=[0,0,0]) (aI mz (ay (bn (K:=K) rfl) rfl T.len0 (by decide +kernel) (ac (aa (i:=2) rfl (.inl rfl) rfl rfl rfl) af rfl) rfl (by decide) rfl rfl rfl) (aa (i:=1) rfl (.inl rfl) rfl rfl rfl) (aO _)) rfl) (am (bV (cI (K:=K) (i:=2) (d:=1) rfl rfl (.inl rfl) rfl (aj (d':=0) (aL jN hr rfl (ac (aa (i:=0) rfl (.inl rfl) rfl rfl rfl) (ac (pX (K:=K) (i:=2) rfl rfl (.inl rfl) rfl (jc kl ah) (fun _ _=>rfl) rfl rfl) af rfl) rfl) rfl rfl rfl rfl rfl) (by decide)) (by decide) rfl rfl rfl rfl rfl rfl rfl rfl) rfl)) PassesOwn.never)
  (am (aA (cS (ds0:=[0,0,0]) (aa (p:=false) (i:=2) rfl (.inl rfl) rfl rfl rfl) rfl) rfl))))
abbrev lN:Stmt:=top 25
abbrev qo:List Str:=["machine", "stand", "sign", "behind", "there"]
theorem scrows_by:FnScope qo ["machine", "stand", "sign", "behind"] (ao lN):=⟨rfl,rfl,rfl,by decide +kernel,rfl,by decide +kernel,by decide +kernel⟩
def jR:MS:=(al (ap 4 (e2 ixA (e2 ixA (e2 ixA (ad 0) (eC (.int 1))) (ad 1)) (ad 2)))
 (aF (eIf (tV (e2 isN (ad 4) (eC .none))) (eC (.int 0)) (e2 ixA (ad 3) (ad 4)))))
def cw:List D→Option (D × En):=fnF 1 [0,0,0,0] jR
theorem t8 {k:Nat} (T:Bl mg)   (F:Fun K "rows_by" "rows_by" lN f fd):FnOk P w K mg base CX0 (k+1) f fd ["machine", "stand", "sign", "behind"] (spF K [0,0,0,0] 0 cw):=by
 have nd:=scrows_by.nd
 refine F.okQ (N:=qo) (b:=jR) (J:=⟨[],[0,0,0,0,0],0,[]⟩) (ds0:=[0,0,0,0,0]) scrows_by rfl rfl rfl rfl fun cdv A outer s H E hr=>?_
 exact (ag (ak (i:=4) (d:=0) (ds':=[0,0,0,0,0]) nd rfl (.inl rfl) (au (aD (K:=K) rfl) (au (aD (K:=K) rfl) (au (aD (K:=K) rfl) (aa (i:=0) rfl (.inl rfl) rfl rfl rfl) ah (fun _ _=>rfl)) (aa (i:=1) rfl (.inl rfl) rfl rfl rfl) (fun _ _=>rfl)) (aa (i:=2) rfl (.inl rfl) rfl rfl rfl) (fun _ _=>rfl)) rfl (by decide) (by decide) rfl (.inl rfl))
  (am (aA (na (aI pT (aa (i:=4) rfl (.inl rfl) rfl rfl rfl) bE (aO _)) (aj (d':=0) ah (by decide)) (au (aD (K:=K) rfl) (aa (i:=3) rfl (.inl rfl) rfl rfl rfl) (aa (i:=4) rfl (.inl rfl) rfl rfl rfl) (fun _ _=>rfl))) rfl)))
abbrev nq:Stmt:=top 24
abbrev rB:List Str:=["machine", "lists", "length", "number", "row", "here", "left", "behind", "sign"]
theorem scrow_at:FnScope rB ["machine", "lists", "length", "number"] (ao nq):=⟨rfl,rfl,rfl,by decide +kernel,rfl,by decide +kernel,by decide +kernel⟩
def kC:MS:=(al (ap 6 (e2 dL (ad 6) (aq cw (ae (ad 0) (ae (ad 5) (ae (ad 8) (ae (ad 7) ai)))))))
 (ap 8 (e2 a9 (ad 8) (eC (.int 1)))))
def kx:MT:=(tV (e2 geI (ad 6) (aq cw (ae (ad 0) (ae (ad 5) (ae (ad 8) (ae (ad 7) ai)))))))
noncomputable def nZ:MS:=(al (ap 7 (e2 ixA (ad 1) (e2 dL (e2 dL (ad 2) (eN bc (ae (ad 4) ai))) (eC (.int 1)))))
 (al (ap 8 (eC (.int 0)))
 (al (bq kx kC)
 (al (bN (bQ 4 (ad 8)))
 (ap 5 (e2 ixA (e2 ixA (e2 ixA (ad 0) (eC (.int 1))) (ad 5)) (ad 8)))))))
def kw:MT:=(tV (e2 ltI (eN bc (ae (ad 4) ai)) (ad 2)))
noncomputable def ny:MS:=(al (ap 4 (bo ai))
 (al (ap 5 (eC (.int 0)))
 (al (ap 6 (ad 3))
 (al (bq kw nZ)
 (aF (ad 4))))))
noncomputable def gU:List D→Option (D × En):=fnF 5 [0,0,0,0] ny
theorem vC {k:Nat} (T:Bl mg)  (jM:Kn P w K mg base k "rows_by" ["machine", "stand", "sign", "behind"] (spF K [0,0,0,0] 0 cw)) (F:Fun K "row_at" "row_at" nq f fd):FnOk P w K mg base CX0 (k+1) f fd ["machine", "lists", "length", "number"] (spF K [0,0,0,0] 0 gU):=by
 have nd:=scrow_at.nd
 refine F.okQ (N:=rB) (b:=ny) (J:=⟨[],[0,0,0,0,0,0,0,0,0],0,[]⟩) (ds0:=[0,0,0,0,0,0,0,0,0]) scrow_at rfl rfl rfl rfl fun cdv A outer s H E hr=>?_
 exact (ag (ak (i:=4) (d:=1) (ds':=[0,0,0,0,1,0,0,0,0]) nd rfl (.inl rfl) (aj (d':=1) (bu (d:=3) (c:=3) af rfl rfl (by decide)) (by decide)) rfl (by decide) (by decide) rfl (.inl rfl))
  (ag (ak (i:=5) (d:=0) (ds':=[0,0,0,0,1,0,0,0,0]) nd rfl (.inl rfl) (aj (d':=0) ah (by decide)) rfl (by decide) (by decide) rfl (.inl rfl))
  (ag (ak (i:=6) (d:=0) (ds':=[0,0,0,0,1,0,0,0,0]) nd rfl (.inl rfl) (aa (i:=3) rfl (.inl rfl) rfl rfl rfl) rfl (by decide) (by decide) rfl (.inl rfl))
  (ag (cQ (ds:=[0,0,0,0,1,0,0,0,0]) (im (ds0:=[0,0,0,0,0,0,0,0,0]) (aI io (ay (bn (K:=K) rfl) rfl T.len0 (by decide +kernel) (ac (aa (i:=4) rfl (.inl rfl) rfl rfl rfl) af rfl) rfl (by decide) rfl rfl rfl) (aa (i:=2) rfl (.inl rfl) rfl rfl rfl) (aO _)) rfl) (ag (ak (i:=7) (d:=0) (ds':=[0,0,0,0,1,0,0,0,0]) nd rfl (.inl rfl) (au (aD (K:=K) rfl) (aa (i:=1) rfl (.inl rfl) rfl rfl rfl) (fA (ds0:=[0,0,0,0,0,0,0,0,0]) (aw di (aw di (aa (i:=2) rfl (.inl rfl) rfl rfl rfl) (ay (bn (K:=K) rfl) rfl T.len0 (by decide +kernel) (ac (aa (i:=4) rfl (.inl rfl) rfl rfl rfl) af rfl) rfl (by decide) rfl rfl rfl)) ah) rfl) (fun _ _=>rfl)) rfl (by decide) (by decide) rfl (.inl rfl))
  (ag (ak (i:=8) (d:=0) (ds':=[0,0,0,0,1,0,0,0,0]) nd rfl (.inl rfl) (aj (d':=0) ah (by decide)) rfl (by decide) (by decide) rfl (.inl rfl))
  (ag (cQ (ds:=[0,0,0,0,1,0,0,0,0]) (aI sG (aa (i:=6) rfl (.inl rfl) rfl rfl rfl) (aL jM hr rfl (ac (aa (i:=0) rfl (.inl rfl) rfl rfl rfl) (ac (aa (i:=5) rfl (.inl rfl) rfl rfl rfl) (ac (aa (i:=8) rfl (.inl rfl) rfl rfl rfl) (ac (aa (i:=7) rfl (.inl rfl) rfl rfl rfl) af rfl) rfl) rfl) rfl) rfl rfl rfl rfl rfl) (aO _)) (ag (ak (i:=6) (d:=0) (ds':=[0,0,0,0,1,0,0,0,0]) nd rfl (.inl rfl) (aj (d':=0) (aw di (aa (i:=6) rfl (.inl rfl) rfl rfl rfl) (aL jM hr rfl (ac (aa (i:=0) rfl (.inl rfl) rfl rfl rfl) (ac (aa (i:=5) rfl (.inl rfl) rfl rfl rfl) (ac (aa (i:=8) rfl (.inl rfl) rfl rfl rfl) (ac (aa (i:=7) rfl (.inl rfl) rfl rfl rfl) af rfl) rfl) rfl) rfl) rfl rfl rfl rfl rfl)) (by decide)) rfl (by decide) (by decide) rfl (.inl rfl))
  (am (ak (i:=8) (d:=0) (ds':=[0,0,0,0,1,0,0,0,0]) nd rfl (.inl rfl) (aj (d':=0) (aw bC (aa (i:=8) rfl (.inl rfl) rfl rfl rfl) ah) (by decide)) rfl (by decide) (by decide) rfl (.inl rfl)))) PassesOwn.never)
  (ag (bV (cI (K:=K) (i:=4) (d:=1) rfl rfl (.inl rfl) rfl (aa (i:=8) rfl (.inl rfl) rfl rfl rfl) (by decide) rfl rfl rfl rfl rfl rfl rfl rfl) rfl)
  (am (ak (i:=5) (d:=0) (ds':=[0,0,0,0,1,0,0,0,0]) nd rfl (.inl rfl) (au (aD (K:=K) rfl) (au (aD (K:=K) rfl) (au (aD (K:=K) rfl) (aa (i:=0) rfl (.inl rfl) rfl rfl rfl) ah (fun _ _=>rfl)) (aa (i:=5) rfl (.inl rfl) rfl rfl rfl) (fun _ _=>rfl)) (aa (i:=8) rfl (.inl rfl) rfl rfl rfl) (fun _ _=>rfl)) rfl (by decide) (by decide) rfl (.inl rfl))))))) PassesOwn.never)
  (am (aA (cS (ds0:=[0,0,0,0,0,0,0,0,0]) (aa (p:=false) (i:=4) rfl (.inl rfl) rfl rfl rfl) rfl) rfl))))))
abbrev lM:Stmt:=top 23
abbrev qm:List Str:=["tongue", "machine", "number", "lists", "left", "length", "numbers"]
theorem scword_at:FnScope qm ["tongue", "machine", "number"] (ao lM):=⟨rfl,rfl,rfl,by decide +kernel,rfl,by decide +kernel,by decide +kernel⟩
noncomputable def jL:MS:=(al (sIf (tV (e2 ltI (ad 4) (e2 ixA (ad 6) (eC (.int 0))))) (aF (aq fH (ae (ad 0) (ae (aq gU (ae (ad 1) (ae (ad 3) (ae (ad 5) (ae (ad 4) ai))))) ai)))) bt)
 (ap 4 (e2 dL (ad 4) (e2 ixA (ad 6) (eC (.int 0))))))
noncomputable def lW:MS:=(al (sIf (bOr (e9 (tV (aq eR (ae (ad 2) ai)))) (tV (e2 ltI (ad 2) (eC (.int 0))))) fV bt)
 (al (ap 3 (aq dY (ae (ad 1) (ae (eC (.int 60)) ai))))
 (al (ap 4 (ad 2))
 (al (c9 (gY (ae (ad 3) ai)) (gT (gsC (gN 5) (gsC (gN 6) gs0))) jL)
 fV))))
noncomputable def dw:List D→Option (D × En):=fnF 4 [0,0,0] lW
theorem t7 {k:Nat} (T:Bl mg) {ce:Tok} (cu:mg "MOST_SIGNS_OF_A_WORD"=some (.int 60 ce)) (qp:Kn P w K mg base k "table" ["machine", "most"] (spF K [0,0] 0 dY)) (u7:Kn P w K mg base k "is_whole" ["thing"] (spF K [0] 3 eR)) (wV:Kn P w K mg base k "word_of" ["tongue", "row"] (spF K [0,0] 3 fH)) (D5:Kn P w K mg base k "row_at" ["machine", "lists", "length", "number"] (spF K [0,0,0,0] 0 gU)) (F:Fun K "word_at" "word_at" lM f fd):FnOk P w K mg base CX0 (k+1) f fd ["tongue", "machine", "number"] (spF K [0,0,0] 3 dw):=by
 have nd:=scword_at.nd
 refine F.okQ (N:=qm) (b:=lW) (J:=⟨[],[0,0,0,0,0,0,0],3,[]⟩) (ds0:=[0,0,0,0,0,0,0]) scword_at rfl rfl rfl rfl fun cdv A outer s H E hr=>?_
 exact (ag (bp (ds2:=[0,0,0,0,0,0,0]) (qpt (ja (cF (cj (aL u7 hr rfl (ac (aa (i:=2) rfl (.inl rfl) rfl rfl rfl) af rfl) rfl rfl rfl rfl rfl) (fun _=>rfl))) (hU (aI io (aa (i:=2) rfl (.inl rfl) rfl rfl rfl) ah (aO _))))) (am fM) bh)
  (ag (ak (i:=3) (d:=0) (ds':=[0,0,0,0,0,0,0]) nd rfl (.inl rfl) (aL qp hr rfl (ac (aa (i:=1) rfl (.inl rfl) rfl rfl rfl) (ac (aj (d':=0) (mB rfl cu rfl) (by decide)) af rfl) rfl) rfl rfl rfl rfl rfl) rfl (by decide) (by decide) rfl (.inl rfl))
  (ag (ak (i:=4) (d:=0) (ds':=[0,0,0,0,0,0,0]) nd rfl (.inl rfl) (aa (i:=2) rfl (.inl rfl) rfl rfl rfl) rfl (by decide) (by decide) rfl (.inl rfl))
  (ag (bU (ds1:=[0,0,0,0,0,0,0]) rfl (km (K:=K) rfl rfl T.enumerate0 (ac (aa (i:=3) rfl (.inl rfl) rfl rfl rfl) af rfl) rfl) (ip (K:=K) rfl rfl (bW (ax (i:=5) (ds':=[0,0,0,0,0,0,0]) nd rfl (.inl rfl) rfl (by decide) (by decide) (.inl rfl)) (bW (ax (i:=6) (ds':=[0,0,0,0,0,0,0]) nd rfl (.inl rfl) rfl (by decide) (by decide) (.inl rfl)) gB rfl) rfl) kP rfl rfl) (ag (bp (ds2:=[0,0,0,0,0,0,0]) (aI io (aa (i:=4) rfl (.inl rfl) rfl rfl rfl) (au (aD (K:=K) rfl) (aa (i:=6) rfl (.inl rfl) rfl rfl rfl) ah (fun _ _=>rfl)) (aO _)) (am (aA (aL wV hr rfl (ac (aa (i:=0) rfl (.inl rfl) rfl rfl rfl) (ac (aL D5 hr rfl (ac (aa (i:=1) rfl (.inl rfl) rfl rfl rfl) (ac (aa (i:=3) rfl (.inl rfl) rfl rfl rfl) (ac (aa (i:=5) rfl (.inl rfl) rfl rfl rfl) (ac (aa (i:=4) rfl (.inl rfl) rfl rfl rfl) af rfl) rfl) rfl) rfl) rfl rfl rfl rfl rfl) af rfl) rfl) rfl rfl rfl rfl rfl) rfl)) bh)
  (am (ak (i:=4) (d:=0) (ds':=[0,0,0,0,0,0,0]) nd rfl (.inl rfl) (aj (d':=0) (aw di (aa (i:=4) rfl (.inl rfl) rfl rfl rfl) (au (aD (K:=K) rfl) (aa (i:=6) rfl (.inl rfl) rfl rfl rfl) ah (fun _ _=>rfl))) (by decide)) rfl (by decide) (by decide) rfl (.inl rfl)))) PassesOwn.never (fun _=>rfl))
  (am fM)))))
abbrev fO:Stmt:=top 27
abbrev iL:List Str:=["machine", "lists", "row", "many", "here", "place", "sign", "behind"]
theorem scrows_ahead:FnScope iL ["machine", "lists", "row"] (ao fO):=⟨rfl,rfl,rfl,by decide +kernel,rfl,by decide +kernel,by decide +kernel⟩
def j4:ME:=(aq cw (ae (ad 1) (ae (ad 2) (ae (ad 0) (ae (ad 3) ai)))))
def jY:MS:=(al (ap 7 (e2 ixA (ad 1) (e2 dL (e2 dL (eN bc (ae (ad 2) ai)) (ad 5)) (eC (.int 1)))))
 (al (ap 3 (e2 a9 (ad 3) (eN fj (ae (eLC true (bB (ae (ad 6) ai)) (gN 0) cY j4 [none,some 0,some 4,some 7]) ai))))
 (ap 4 (e2 ixA (e2 ixA (e2 ixA (ad 0) (eC (.int 1))) (ad 4)) (ad 6)))))
def iQ:MS:=(al (ap 3 (eC (.int 0)))
 (al (ap 4 (eC (.int 0)))
 (al (c9 (gY (ae (ad 2) ai)) (gT (gsC (gN 5) (gsC (gN 6) gs0))) jY)
 (aF (ad 3)))))
def cU:List D→Option (D × En):=fnF 5 [0,0,0] iQ
theorem ph {k:Nat} (T:Bl mg)  (jM:Kn P w K mg base k "rows_by" ["machine", "stand", "sign", "behind"] (spF K [0,0,0,0] 0 cw)) (F:Fun K "rows_ahead" "rows_ahead" fO f fd):FnOk P w K mg base CX0 (k+1) f fd ["machine", "lists", "row"] (spF K [0,0,0] 0 cU):=by
 have nd:=scrows_ahead.nd
 refine F.okQ (N:=iL) (b:=iQ) (J:=⟨[],[0,0,0,0,0,0,0,0],0,[]⟩) (ds0:=[0,0,0,0,0,0,0,0]) scrows_ahead rfl rfl rfl rfl fun cdv A outer s H E hr=>?_
 exact (ag (ak (i:=3) (d:=0) (ds':=[0,0,0,0,0,0,0,0]) nd rfl (.inl rfl) (aj (d':=0) ah (by decide)) rfl (by decide) (by decide) rfl (.inl rfl))
  (ag (ak (i:=4) (d:=0) (ds':=[0,0,0,0,0,0,0,0]) nd rfl (.inr rfl) (aj (d':=0) ah (by decide)) rfl (by decide) (by decide) rfl (.inl rfl))
  (ag (bU (ds1:=[0,0,0,0,0,0,0,0]) rfl (km (K:=K) rfl rfl T.enumerate0 (ac (aa (i:=2) rfl (.inl rfl) rfl rfl rfl) af rfl) rfl) (ip (K:=K) rfl rfl (bW (ax (i:=5) (ds':=[0,0,0,0,0,0,0,0]) nd rfl (.inl rfl) rfl (by decide) (by decide) (.inl rfl)) (bW (ax (i:=6) (ds':=[0,0,0,0,0,0,0,0]) nd rfl (.inl rfl) rfl (by decide) (by decide) (.inl rfl)) gB rfl) rfl) kP rfl rfl) (ag (ak (i:=7) (d:=0) (ds':=[0,0,0,0,0,0,0,0]) nd rfl (.inr rfl) (au (aD (K:=K) rfl) (aa (i:=1) rfl (.inl rfl) rfl rfl rfl) (aw di (aw di (ay (bn (K:=K) rfl) rfl T.len0 (by decide +kernel) (ac (aa (i:=2) rfl (.inl rfl) rfl rfl rfl) af rfl) rfl (by decide) rfl rfl rfl) (aa (i:=5) rfl (.inl rfl) rfl rfl rfl)) ah) (fun _ _=>rfl)) rfl (by decide) (by decide) rfl (.inl rfl))
  (ag (ak (i:=3) (d:=0) (ds':=[0,0,0,0,0,0,0,0]) nd rfl (.inl rfl) (aj (d':=0) (aw bC (aa (i:=3) rfl (.inl rfl) rfl rfl rfl) (ay (jb (K:=K) rfl rfl) rfl T.sum0 (by decide +kernel) (ac (aj (d':=0) (bF (cd:=0) (d:=1) (dsi:=[0,0,0,0]) (lk:=[1,2,3]) (BlkOkC.of (ns:=["lesser", "machine", "here", "behind"]) (js:=[none,some 0,some 4,some 7]) (N0:=iL) (sc0:=ao fO) rfl rfl (by decide +kernel)) rfl (eK rfl T.range0 (ac (aa (i:=6) rfl (.inl rfl) rfl rfl rfl) af rfl) rfl) (fun _ _ _ _ _=>(ax (i:=0) (ds':=[0,0,0,0]) (show (["lesser", "machine", "here", "behind"]:List Str).Nodup by decide +kernel) rfl (.inl rfl) rfl (by decide) (by decide) (.inr rfl))) (fun _ _ _ _ _=>aZ) (fun _ _ _ _ _=>(aL jM hr rfl (ac (aa (i:=1) rfl (.inr (.inl rfl)) rfl rfl rfl) (ac (aa (i:=2) rfl (.inr (.inl rfl)) rfl rfl rfl) (ac (aa (i:=0) rfl (.inl rfl) rfl rfl rfl) (ac (aa (i:=3) rfl (.inr (.inl rfl)) rfl rfl rfl) af rfl) rfl) rfl) rfl) rfl rfl rfl rfl rfl)) rfl rfl (by decide) rfl (fun _=>rfl)) (by decide)) af rfl) rfl (by decide) rfl rfl rfl)) (by decide)) rfl (by decide) (by decide) rfl (.inl rfl))
  (am (ak (i:=4) (d:=0) (ds':=[0,0,0,0,0,0,0,0]) nd rfl (.inr rfl) (au (aD (K:=K) rfl) (au (aD (K:=K) rfl) (au (aD (K:=K) rfl) (aa (i:=0) rfl (.inr (.inl rfl)) rfl rfl rfl) ah (fun _ _=>rfl)) (aa (i:=4) rfl (.inr (.inl rfl)) rfl rfl rfl) (fun _ _=>rfl)) (aa (i:=6) rfl (.inl rfl) rfl rfl rfl) (fun _ _=>rfl)) rfl (by decide) (by decide) rfl (.inl rfl))))) PassesOwn.never (fun _=>rfl))
  (am (aA (aa (i:=3) rfl (.inl rfl) rfl rfl rfl) rfl)))))
abbrev gC:Stmt:=top 26
abbrev jK:List Str:=["tongue", "machine", "word", "row", "lists", "shorter"]
theorem scnumber_of:FnScope jK ["tongue", "machine", "word"] (ao gC):=⟨rfl,rfl,rfl,by decide +kernel,rfl,by decide +kernel,by decide +kernel⟩
noncomputable def kF:ME:=(e2 ixA (ad 0) (eC (.int 0)))
noncomputable def jS:MS:=(al (sIf (e9 (tV (aq fI (ae (ad 0) (ae (ad 2) ai))))) fV bt)
 (al (ap 3 (aq gS (ae (ad 0) (ae (ad 2) ai))))
 (al (sIf (e9 (tV (aq kU (ae (ad 1) (ae (ad 3) ai))))) fV bt)
 (al (ap 4 (aq dY (ae (ad 1) (ae (eN bc (ae (ad 3) ai)) ai))))
 (al (ap 5 (eN fj (ae (eLC true (bj (eSl iu (ad 4) gz (fL (eN bc (ae (ad 3) ai))))) (gN 0) cY kF [none]) ai)))
 (aF (e2 a9 (ad 5) (aq cU (ae (ad 1) (ae (ad 4) (ae (ad 3) ai)))))))))))
noncomputable def cq:List D→Option (D × En):=fnF 3 [0,0,0] jS
theorem qu {k:Nat} (T:Bl mg)  (D4:Kn P w K mg base k "row_of" ["tongue", "word"] (spF K [0,0] 3 gS)) (qp:Kn P w K mg base k "table" ["machine", "most"] (spF K [0,0] 0 dY)) (wW:Kn P w K mg base k "is_word" ["tongue", "thing"] (spF K [0,0] 3 fI)) (Ji:Kn P w K mg base k "lets" ["machine", "row"] (spF K [0,0] 0 kU)) (qG:Kn P w K mg base k "rows_ahead" ["machine", "lists", "row"] (spF K [0,0,0] 0 cU)) (F:Fun K "number_of" "number_of" gC f fd):FnOk P w K mg base CX0 (k+1) f fd ["tongue", "machine", "word"] (spF K [0,0,0] 3 cq):=by
 have nd:=scnumber_of.nd
 refine F.okQ (N:=jK) (b:=jS) (J:=⟨[],[0,0,0,0,0,0],3,[]⟩) (ds0:=[0,0,0,0,0,0]) scnumber_of rfl rfl rfl rfl fun cdv A outer s H E hr=>?_
 exact (ag (bp (ds2:=[0,0,0,0,0,0]) (cF (cj (aL wW hr rfl (ac (aa (i:=0) rfl (.inl rfl) rfl rfl rfl) (ac (aa (i:=2) rfl (.inl rfl) rfl rfl rfl) af rfl) rfl) rfl rfl rfl rfl rfl) (fun _=>rfl))) (am fM) bh)
  (ag (ak (i:=3) (d:=0) (ds':=[0,0,0,0,0,0]) nd rfl (.inl rfl) (aj (d':=0) (aL D4 hr rfl (ac (aa (i:=0) rfl (.inl rfl) rfl rfl rfl) (ac (aa (i:=2) rfl (.inl rfl) rfl rfl rfl) af rfl) rfl) rfl rfl rfl rfl rfl) (by decide)) rfl (by decide) (by decide) rfl (.inl rfl))
  (ag (bp (ds2:=[0,0,0,0,0,0]) (cF (cj (aL Ji hr rfl (ac (aa (i:=1) rfl (.inl rfl) rfl rfl rfl) (ac (aa (i:=3) rfl (.inl rfl) rfl rfl rfl) af rfl) rfl) rfl rfl rfl rfl rfl) (fun _=>rfl))) (am fM) bh)
  (ag (ak (i:=4) (d:=0) (ds':=[0,0,0,0,0,0]) nd rfl (.inl rfl) (aL qp hr rfl (ac (aa (i:=1) rfl (.inl rfl) rfl rfl rfl) (ac (aj (d':=0) (ay (bn (K:=K) rfl) rfl T.len0 (by decide +kernel) (ac (aa (i:=3) rfl (.inl rfl) rfl rfl rfl) af rfl) rfl (by decide) rfl rfl rfl) (by decide)) af rfl) rfl) rfl rfl rfl rfl rfl) rfl (by decide) (by decide) rfl (.inl rfl))
  (ag (ak (i:=5) (d:=0) (ds':=[0,0,0,0,0,0]) nd rfl (.inl rfl) (aj (d':=0) (ay (jb (K:=K) rfl rfl) rfl T.sum0 (by decide +kernel) (ac (aj (d':=0) (bF (cd:=0) (d:=1) (dsi:=[0]) (lk:=[]) (BlkOkC.of (ns:=["numbers"]) (js:=[none]) (N0:=jK) (sc0:=ao gC) rfl rfl (by decide +kernel)) rfl (aW (K:=K) rfl (aj (d':=0) (dE (gO (K:=K) rfl) (aa (i:=4) rfl (.inl rfl) rfl rfl rfl) eJ (eI (ay (bn (K:=K) rfl) rfl T.len0 (by decide +kernel) (ac (aa (i:=3) rfl (.inl rfl) rfl rfl rfl) af rfl) rfl (by decide) rfl rfl rfl))) (by decide))) (fun _ _ _ _ _=>(ax (i:=0) (ds':=[0]) (show (["numbers"]:List Str).Nodup by decide +kernel) rfl (.inl rfl) rfl (by decide) (by decide) (.inr rfl))) (fun _ _ _ _ _=>aZ) (fun _ _ _ _ _=>(au (aD (K:=K) rfl) (aa (i:=0) rfl (.inl rfl) rfl rfl rfl) ah (fun _ _=>rfl))) rfl rfl (by decide) rfl (fun _=>rfl)) (by decide)) af rfl) rfl (by decide) rfl rfl rfl) (by decide)) rfl (by decide) (by decide) rfl (.inl rfl))
  (am (aA (aw bC (aa (i:=5) rfl (.inl rfl) rfl rfl rfl) (aL qG hr rfl (ac (aa (i:=1) rfl (.inl rfl) rfl rfl rfl) (ac (aa (i:=4) rfl (.inl rfl) rfl rfl rfl) (ac (aa (i:=3) rfl (.inl rfl) rfl rfl rfl) af rfl) rfl) rfl) rfl rfl rfl rfl rfl)) rfl)))))))
abbrev kB:Stmt:=top 29
abbrev nY:List Str:=["_law_script", "_law_first"]
theorem sc_law_pen:FnScope nY ["_law_script", "_law_first"] (ao kB):=⟨rfl,rfl,rfl,by decide +kernel,rfl,by decide +kernel,by decide +kernel⟩
def eS:MS:=(aF (kR [((eC (.str "script")),(ad 0)),((eC (.str "at")),(ad 1)),((eC (.str "left")),(eC (.int 0)))]))
def cr:List D→Option (D × En):=fnF 0 [0,0] eS
theorem rZ {k:Nat} (T:Bl mg)   (F:Fun K "_law_pen" "_law_pen" kB f fd):FnOk P w K mg base CX0 (k+1) f fd ["_law_script", "_law_first"] (spF K [0,0] 1 cr):=by
 have nd:=sc_law_pen.nd
 refine F.okQ (N:=nY) (b:=eS) (J:=⟨[],[0,0],1,[]⟩) (ds0:=[0,0]) sc_law_pen rfl rfl rfl rfl fun cdv A outer s H E hr=>?_
 exact (am (aA (uO (fs:=[((eC (.str "script")),(ad 0)),((eC (.str "at")),(ad 1)),((eC (.str "left")),(eC (.int 0)))]) (kj bd (aa (i:=0) rfl (.inl rfl) rfl rfl rfl) (kj bd (aa (i:=1) rfl (.inl rfl) rfl rfl rfl) (kj bd (aj (d':=0) ah (by decide)) wj))) rfl rfl (fun z=>nomatch z) (by decide)) rfl))
abbrev iK:Stmt:=top 30
abbrev ld:List Str:=["_law_cell", "_law_k", "_law_one", "_law_two"]
theorem sc_law_mixed:FnScope ld ["_law_cell", "_law_k"] (ao iK):=⟨rfl,rfl,rfl,by decide +kernel,rfl,by decide +kernel,by decide +kernel⟩
def dZ:MS:=(al (ap 2 (e2 bw (e2 bO (e2 a9 (e2 a9 (e2 bw (ad 0) (eC (.int 2147483629))) (e2 bO (eC (.int 40503)) (ad 1))) (eC (.int 24691))) (eC (.int 48271))) (eC (.int 2147483647))))
 (al (ap 3 (e2 bw (e2 a9 (e2 a9 (e2 bO (ad 2) (ad 2)) (e2 bO (eC (.int 69621)) (ad 2))) (ad 1)) (eC (.int 2147483629))))
 (aF (e2 cJ (e2 bw (e2 a9 (e2 a9 (e2 bO (ad 3) (ad 3)) (e2 bO (eC (.int 16807)) (ad 3))) (e2 bO (eC (.int 31)) (ad 1))) (eC (.int 1073741789))) (eC (.int 64))))))
def bZ:List D→Option (D × En):=fnF 2 [0,0] dZ
theorem pq {k:Nat} (T:Bl mg)   (F:Fun K "_law_mixed" "_law_mixed" iK f fd):FnOk P w K mg base CX0 (k+1) f fd ["_law_cell", "_law_k"] (spF K [0,0] 3 bZ):=by
 have nd:=sc_law_mixed.nd
 refine F.okQ (N:=ld) (b:=dZ) (J:=⟨[],[0,0,0,0],3,[]⟩) (ds0:=[0,0,0,0]) sc_law_mixed rfl rfl rfl rfl fun cdv A outer s H E hr=>?_
 exact (ag (ak (i:=2) (d:=0) (ds':=[0,0,0,0]) nd rfl (.inl rfl) (aj (d':=0) (aw hV (aw fY (aw bC (aw bC (aw hV (aa (i:=0) rfl (.inl rfl) rfl rfl rfl) ah) (aw fY ah (aa (i:=1) rfl (.inl rfl) rfl rfl rfl))) ah) ah) ah) (by decide)) rfl (by decide) (by decide) rfl (.inl rfl))
  (ag (ak (i:=3) (d:=0) (ds':=[0,0,0,0]) nd rfl (.inl rfl) (aj (d':=0) (aw hV (aw bC (aw bC (aw fY (aa (i:=2) rfl (.inl rfl) rfl rfl rfl) (aa (i:=2) rfl (.inl rfl) rfl rfl rfl)) (aw fY ah (aa (i:=2) rfl (.inl rfl) rfl rfl rfl))) (aa (i:=1) rfl (.inl rfl) rfl rfl rfl)) ah) (by decide)) rfl (by decide) (by decide) rfl (.inl rfl))
  (am (aA (aw rg (aw hV (aw bC (aw bC (aw fY (aa (i:=3) rfl (.inl rfl) rfl rfl rfl) (aa (i:=3) rfl (.inl rfl) rfl rfl rfl)) (aw fY ah (aa (i:=3) rfl (.inl rfl) rfl rfl rfl))) (aw fY ah (aa (i:=1) rfl (.inl rfl) rfl rfl rfl))) ah) ah) rfl))))
abbrev jG:Stmt:=top 31
abbrev mN:List Str:=["_law_pen_here", "_law_most", "_law_k", "_law_script", "_law_cell", "_law_got"]
theorem sc_law_take:FnScope mN ["_law_pen_here", "_law_most"] (ao jG):=⟨rfl,rfl,rfl,by decide +kernel,rfl,by decide +kernel,by decide +kernel⟩
def gD:MS:=(al (ap 2 (bD 0 (eC (.str "at"))))
 (al (ap 3 (bD 0 (eC (.str "script"))))
 (al (sIf (tV (e2 eqD (bD 0 (eC (.str "left"))) (eC (.int 0)))) (al (de 0 (eC (.str "at")) (e2 a9 (ad 2) (eC (.int 1))))
 (al (ap 4 (eC (.int 0)))
 (al (sIf (tV (e2 gtI (eN bc (ae (ad 3) ai)) (eC (.int 0)))) (ap 4 (e2 ixA (ad 3) (e2 bw (ad 2) (eN bc (ae (ad 3) ai))))) bt)
 (al (sIf (bOr (tV (e2 geI (ad 2) (eN bc (ae (ad 3) ai)))) (tV (e2 ltI (eN jD (ae (ad 4) ai)) (e2 m4 (eC (.int 10)) (eC (.int 18)))))) (aF (e2 bw (aq bZ (ae (ad 4) (ae (ad 2) ai))) (ad 1))) bt)
 (de 0 (eC (.str "left")) (eN jD (ae (ad 4) ai))))))) bt)
 (al (ap 5 (e2 bw (bD 0 (eC (.str "left"))) (ad 1)))
 (al (de 0 (eC (.str "left")) (e2 cJ (bD 0 (eC (.str "left"))) (ad 1)))
 (aF (ad 5)))))))
def ar:List D→Option (D × En):=fnF 4 [1,0] gD
theorem qv {k:Nat} (T:Bl mg)  (qL:Kn P w K mg base k "_law_mixed" ["_law_cell", "_law_k"] (spF K [0,0] 3 bZ)) (F:Fun K "_law_take" "_law_take" jG f fd):FnOk P w K mg base CX0 (k+1) f fd ["_law_pen_here", "_law_most"] (spF K [1,0] 0 ar):=by
 have nd:=sc_law_take.nd
 refine F.okQ (N:=mN) (b:=gD) (J:=⟨[0],[1,0,0,0,0,0],0,[]⟩) (ds0:=[1,0,0,0,0,0]) sc_law_take rfl rfl rfl rfl fun cdv A outer s H E hr=>?_
 exact (ag (ak (i:=2) (d:=0) (ds':=[1,0,0,0,0,0]) nd rfl (.inl rfl) (eY (i:=0) (ij hr) rfl (.inl rfl) rfl bd (fun _ _=>rfl) rfl rfl) rfl (by decide) (by decide) rfl (.inl rfl))
  (ag (ak (i:=3) (d:=0) (ds':=[1,0,0,0,0,0]) nd rfl (.inl rfl) (eY (i:=0) (ij hr) rfl (.inl rfl) rfl bd (fun _ _=>rfl) rfl rfl) rfl (by decide) (by decide) rfl (.inl rfl))
  (ag (bp (ds2:=[1,0,0,0,0,0]) (aI (jw (K:=K) rfl hr.units) (eY (i:=0) (ij hr) rfl (.inl rfl) rfl bd (fun _ _=>rfl) rfl rfl) ah (aO _)) (ag (jv (i:=0) (ij hr) rfl (.inl rfl) (aj (d':=0) (aw bC (aa (i:=2) rfl (.inl rfl) rfl rfl rfl) ah) (by decide)) bd rfl rfl rfl rfl)
  (ag (ak (i:=4) (d:=0) (ds':=[1,0,0,0,0,0]) nd rfl (.inl rfl) (aj (d':=0) ah (by decide)) rfl (by decide) (by decide) rfl (.inl rfl))
  (ag (bp (ds2:=[1,0,0,0,0,0]) (aI sF (ay (bn (K:=K) rfl) rfl T.len0 (by decide +kernel) (ac (aa (i:=3) rfl (.inl rfl) rfl rfl rfl) af rfl) rfl (by decide) rfl rfl rfl) ah (aO _)) (am (ak (i:=4) (d:=0) (ds':=[1,0,0,0,0,0]) nd rfl (.inl rfl) (au (aD (K:=K) rfl) (aa (i:=3) rfl (.inl rfl) rfl rfl rfl) (aw hV (aa (i:=2) rfl (.inl rfl) rfl rfl rfl) (ay (bn (K:=K) rfl) rfl T.len0 (by decide +kernel) (ac (aa (i:=3) rfl (.inl rfl) rfl rfl rfl) af rfl) rfl (by decide) rfl rfl rfl)) (fun _ _=>rfl)) rfl (by decide) (by decide) rfl (.inl rfl))) bh)
  (ag (bp (ds2:=[1,0,0,0,0,0]) (qpt (ja (aI sG (aa (i:=2) rfl (.inl rfl) rfl rfl rfl) (ay (bn (K:=K) rfl) rfl T.len0 (by decide +kernel) (ac (aa (i:=3) rfl (.inl rfl) rfl rfl rfl) af rfl) rfl (by decide) rfl rfl rfl) (aO _)) (hU (aI io (ay uL rfl T.abs0 (by decide +kernel) (ac (aa (i:=4) rfl (.inl rfl) rfl rfl rfl) af rfl) rfl (by decide) rfl rfl rfl) (aw Hn ah ah) (aO _))))) (am (aA (aj (d':=0) (aw hV (aL qL hr rfl (ac (aa (i:=4) rfl (.inl rfl) rfl rfl rfl) (ac (aa (i:=2) rfl (.inl rfl) rfl rfl rfl) af rfl) rfl) rfl rfl rfl rfl rfl) (aa (i:=1) rfl (.inl rfl) rfl rfl rfl)) (by decide)) rfl)) bh)
  (am (jv (i:=0) (ij hr) rfl (.inl rfl) (aj (d':=0) (ay uL rfl T.abs0 (by decide +kernel) (ac (aa (i:=4) rfl (.inl rfl) rfl rfl rfl) af rfl) rfl (by decide) rfl rfl rfl) (by decide)) bd rfl rfl rfl rfl)))))) bh)
  (ag (ak (i:=5) (d:=0) (ds':=[1,0,0,0,0,0]) nd rfl (.inl rfl) (aj (d':=0) (aw hV (eY (i:=0) (ij hr) rfl (.inl rfl) rfl bd (fun _ _=>rfl) rfl rfl) (aa (i:=1) rfl (.inl rfl) rfl rfl rfl)) (by decide)) rfl (by decide) (by decide) rfl (.inl rfl))
  (ag (jv (i:=0) (ij hr) rfl (.inl rfl) (aj (d':=0) (aw rg (eY (i:=0) (ij hr) rfl (.inl rfl) rfl bd (fun _ _=>rfl) rfl rfl) (aa (i:=1) rfl (.inl rfl) rfl rfl rfl)) (by decide)) bd rfl rfl rfl rfl)
  (am (aA (aa (i:=5) rfl (.inl rfl) rfl rfl rfl) rfl)))))))
abbrev iJ:Stmt:=top 32
abbrev lb:List Str:=["_law_pen_here"]
theorem sc_law_signs:FnScope lb ["_law_pen_here"] (ao iJ):=⟨rfl,rfl,rfl,by decide +kernel,rfl,by decide +kernel,by decide +kernel⟩
def fT:MS:=(aF (e2 ixA (bo (ae (eC (.int 2)) (ae (eC (.int 1)) (ae (eC (.int 3)) (ae (eC (.int 2)) (ae (eC (.int 4)) (ae (eC (.int 3)) (ae (eC (.int 2)) (ae (e2 a9 (eC (.int 5)) (aq ar (aG 0 (ae (eC (.int 8)) ai)))) ai))))))))) (aq ar (aG 0 (ae (eC (.int 8)) ai)))))
def cW:List D→Option (D × En):=fnF 0 [1] fT
theorem pj {k:Nat} (T:Bl mg)  (aK:Kn P w K mg base k "_law_take" ["_law_pen_here", "_law_most"] (spF K [1,0] 0 ar)) (F:Fun K "_law_signs" "_law_signs" iJ f fd):FnOk P w K mg base CX0 (k+1) f fd ["_law_pen_here"] (spF K [1] 0 cW):=by
 have nd:=sc_law_signs.nd
 refine F.okQ (N:=lb) (b:=fT) (J:=⟨[0],[1],0,[]⟩) (ds0:=[1]) sc_law_signs rfl rfl rfl rfl fun cdv A outer s H E hr=>?_
 exact (am (aA (au (aD (K:=K) rfl) (bu (d:=3) (c:=3) (ac ah (ac ah (ac ah (ac ah (ac ah (ac ah (ac ah (ac (aw bC ah (aT aK hr rfl (aJ (i:=0) rfl (.inl rfl) (ac (aj (d':=0) ah (by decide)) af rfl) rfl rfl) rfl rfl rfl rfl)) af rfl) rfl) rfl) rfl) rfl) rfl) rfl) rfl) rfl rfl (by decide)) (aT aK hr rfl (aJ (i:=0) rfl (.inl rfl) (ac (aj (d':=0) ah (by decide)) af rfl) rfl rfl) rfl rfl rfl rfl) (fun _ _=>rfl)) rfl))
abbrev jJ:Stmt:=top 33
abbrev mQ:List Str:=["_law_pen_here", "_law_stand", "_law_stands", "_law_way", "_law_goal_here"]
theorem sc_law_goal:FnScope mQ ["_law_pen_here", "_law_stand", "_law_stands", "_law_way"] (ao jJ):=⟨rfl,rfl,rfl,by decide +kernel,rfl,by decide +kernel,by decide +kernel⟩
def dJ:MS:=(al (ap 4 (aq ar (aG 0 (ae (e2 a9 (ad 2) (eC (.int 1))) ai))))
 (al (sIf (bOr (tV (e2 eqD (ad 4) (ad 2))) (cD (tV (e2 eqD (ad 3) (eC (.int 1)))) (tV (e2 leI (ad 4) (ad 1))))) (aF (eC .none)) bt)
 (aF (ad 4))))
def bx:List D→Option (D × En):=fnF 1 [1,0,0,0] dJ
theorem qy {k:Nat} (T:Bl mg)  (aK:Kn P w K mg base k "_law_take" ["_law_pen_here", "_law_most"] (spF K [1,0] 0 ar)) (F:Fun K "_law_goal" "_law_goal" jJ f fd):FnOk P w K mg base CX0 (k+1) f fd ["_law_pen_here", "_law_stand", "_law_stands", "_law_way"] (spF K [1,0,0,0] 0 bx):=by
 have nd:=sc_law_goal.nd
 refine F.okQ (N:=mQ) (b:=dJ) (J:=⟨[0],[1,0,0,0,0],0,[]⟩) (ds0:=[1,0,0,0,0]) sc_law_goal rfl rfl rfl rfl fun cdv A outer s H E hr=>?_
 exact (ag (ak (i:=4) (d:=0) (ds':=[1,0,0,0,0]) nd rfl (.inl rfl) (aT aK hr rfl (aJ (i:=0) rfl (.inl rfl) (ac (aj (d':=0) (aw bC (aa (i:=2) rfl (.inl rfl) rfl rfl rfl) ah) (by decide)) af rfl) rfl rfl) rfl rfl rfl rfl) rfl (by decide) (by decide) rfl (.inl rfl))
  (ag (bp (ds2:=[1,0,0,0,0]) (qpt (ja (aI (jw (K:=K) rfl hr.units) (aa (i:=4) rfl (.inl rfl) rfl rfl rfl) (aa (i:=2) rfl (.inl rfl) rfl rfl rfl) (aO _)) (hU (qpt (ju (aI (jw (K:=K) rfl hr.units) (aa (i:=3) rfl (.inl rfl) rfl rfl rfl) ah (aO _)) (ik (aI mz (aa (i:=4) rfl (.inl rfl) rfl rfl rfl) (aa (i:=1) rfl (.inl rfl) rfl rfl rfl) (aO _)))))))) (am (aA (aj (d':=0) bE (by decide)) rfl)) bh)
  (am (aA (aa (i:=4) rfl (.inl rfl) rfl rfl rfl) rfl))))
abbrev cN:Stmt:=top 34
abbrev eB:List Str:=["_law_pen_here", "_law_signs_here", "_law_most", "_law_stands", "_law_way", "_law_fence", "_law_ends", "_law_goes", "_law_stand", "_law_row"]
theorem sc_law_machine:FnScope eB ["_law_pen_here", "_law_signs_here", "_law_most"] (ao cN):=⟨rfl,rfl,rfl,by decide +kernel,rfl,by decide +kernel,by decide +kernel⟩
def mW:ME:=(aq bx (aG 1 (ae (ad 4) (ae (ad 2) (ae (ad 3) ai)))))
def mV:ME:=(e2 ixA (bo (ae (ad 0) (ae (eC .none) ai))) (eN ge (ae (eOr (e2 isN (ad 0) (eC .none)) (e2 geI (ad 0) (ad 1))) ai)))
def mR:MS:=(al (bN (bQ 6 (e2 eqD (aq ar (aG 0 (ae (eC (.int 3)) ai))) (eC (.int 0)))))
 (al (ap 9 (eLC false (bB (ae (ad 1) ai)) (gN 0) cY mW [none,some 0,some 3,some 4,some 8]))
 (al (sIf (cD (tV (e2 eqD (ad 4) (eC (.int 2)))) (tV (e2 ltI (ad 8) (ad 5)))) (al (eV 6 (ad 8) (eC (.bool false)))
 (ap 9 (eLC true (bj (ad 9)) (gN 0) cY mV [none,some 5]))) bt)
 (bN (bQ 7 (ad 9))))))
def cO:MS:=(al (ap 3 (e2 a9 (eC (.int 1)) (aq ar (aG 0 (ae (ad 2) ai)))))
 (al (ap 4 (aq ar (aG 0 (ae (eC (.int 4)) ai))))
 (al (ap 5 (e2 a9 (eC (.int 1)) (aq ar (aG 0 (ae (ad 3) ai)))))
 (al (ap 6 (bo ai))
 (al (ap 7 (bo ai))
 (al (c9 (bB (ae (ad 3) ai)) (gN 8) mR)
 (aF (e8 (ae (ad 6) (ae (ad 7) ai))))))))))
def cg:List D→Option (D × En):=fnF 7 [1,0,0] cO
theorem m6 {k:Nat} (T:Bl mg)  (aK:Kn P w K mg base k "_law_take" ["_law_pen_here", "_law_most"] (spF K [1,0] 0 ar)) (sV:Kn P w K mg base k "_law_goal" ["_law_pen_here", "_law_stand", "_law_stands", "_law_way"] (spF K [1,0,0,0] 0 bx)) (F:Fun K "_law_machine" "_law_machine" cN f fd):FnOk P w K mg base CX0 (k+1) f fd ["_law_pen_here", "_law_signs_here", "_law_most"] (spF K [1,0,0] 0 cg):=by
 have nd:=sc_law_machine.nd
 refine F.okQ (N:=eB) (b:=cO) (J:=⟨[0],[1,0,0,0,0,0,0,0,0,0],0,[]⟩) (ds0:=[1,0,0,0,0,0,0,0,0,0]) sc_law_machine rfl rfl rfl rfl fun cdv A outer s H E hr=>?_
 exact (ag (ak (i:=3) (d:=0) (ds':=[1,0,0,0,0,0,0,0,0,0]) nd rfl (.inr rfl) (aj (d':=0) (aw bC ah (aT aK hr rfl (aJ (i:=0) rfl (.inr (.inl rfl)) (ac (aa (i:=2) rfl (.inl rfl) rfl rfl rfl) af rfl) rfl rfl) rfl rfl rfl rfl)) (by decide)) rfl (by decide) (by decide) rfl (.inl rfl))
  (ag (ak (i:=4) (d:=0) (ds':=[1,0,0,0,0,0,0,0,0,0]) nd rfl (.inr rfl) (aT aK hr rfl (aJ (i:=0) rfl (.inr (.inl rfl)) (ac (aj (d':=0) ah (by decide)) af rfl) rfl rfl) rfl rfl rfl rfl) rfl (by decide) (by decide) rfl (.inl rfl))
  (ag (ak (i:=5) (d:=0) (ds':=[1,0,0,0,0,0,0,0,0,0]) nd rfl (.inr rfl) (aj (d':=0) (aw bC ah (aT aK hr rfl (aJ (i:=0) rfl (.inr (.inl rfl)) (ac (aa (i:=3) rfl (.inr (.inl rfl)) rfl rfl rfl) af rfl) rfl rfl) rfl rfl rfl rfl)) (by decide)) rfl (by decide) (by decide) rfl (.inl rfl))
  (ag (ak (i:=6) (d:=1) (ds':=[1,0,0,0,0,0,1,0,0,0]) nd rfl (.inl rfl) (aj (d':=1) (bu (d:=3) (c:=3) af rfl rfl (by decide)) (by decide)) rfl (by decide) (by decide) rfl (.inl rfl))
  (ag (ak (i:=7) (d:=1) (ds':=[1,0,0,0,0,0,1,1,0,0]) nd rfl (.inl rfl) (aj (d':=1) (bu (d:=3) (c:=3) af rfl rfl (by decide)) (by decide)) rfl (by decide) (by decide) rfl (.inl rfl))
  (ag (bU (ds1:=[1,0,0,0,0,0,1,1,0,0]) rfl (eK rfl T.range0 (ac (aa (i:=3) rfl (.inr (.inl rfl)) rfl rfl rfl) af rfl) rfl) (ax (i:=8) (ds':=[1,0,0,0,0,0,1,1,0,0]) nd rfl (.inr rfl) rfl (by decide) (by decide) (.inl rfl)) (ag (bV (cI (K:=K) (i:=6) (d:=1) rfl rfl (.inl rfl) rfl (aj (d':=0) (cv (jw (K:=K) rfl hr.units) (aT aK hr rfl (aJ (i:=0) rfl (.inr (.inl rfl)) (ac (aj (d':=0) ah (by decide)) af rfl) rfl rfl) rfl rfl rfl rfl) ah (aO _)) (by decide)) (by decide) rfl rfl rfl rfl rfl rfl rfl rfl) rfl)
  (ag (fX (ds1:=[1,0,0,0,0,0,1,1,0,0]) (cR (i:=9) (ds':=[1,0,0,0,0,0,1,1,0,1]) (cd:=0) (d:=1) (dsi:=[0,1,0,0,0]) (lk:=[1,2,3,4]) nd rfl rfl (BlkOkC.of (ns:=["_law_number", "_law_pen_here", "_law_stands", "_law_way", "_law_stand"]) (js:=[none,some 0,some 3,some 4,some 8]) (N0:=eB) (sc0:=ao cN) rfl rfl (by decide +kernel)) rfl (eK rfl T.range0 (ac (aa (i:=1) rfl (.inl rfl) rfl rfl rfl) af rfl) rfl) (fun _ _ _ _ _=>(ax (i:=0) (ds':=[0,1,0,0,0]) (show (["_law_number", "_law_pen_here", "_law_stands", "_law_way", "_law_stand"]:List Str).Nodup by decide +kernel) rfl (.inl rfl) rfl (by decide) (by decide) (.inr rfl))) (fun _ _ _ _ _=>aZ) (fun _ _ _ _ _=>(aT sV hr rfl (aJ (i:=1) rfl (.inr (.inl rfl)) (ac (aa (i:=4) rfl (.inr (.inl rfl)) rfl rfl rfl) (ac (aa (i:=2) rfl (.inr (.inl rfl)) rfl rfl rfl) (ac (aa (i:=3) rfl (.inr (.inl rfl)) rfl rfl rfl) af rfl) rfl) rfl) rfl rfl) rfl rfl rfl rfl)) rfl rfl rfl (by decide) rfl (by decide) (by decide) rfl (fun _=>rfl)) rfl)
  (ag (bp (ds2:=[1,0,0,0,0,0,1,1,0,0]) (qpt (ju (aI (jw (K:=K) rfl hr.units) (aa (i:=4) rfl (.inr (.inl rfl)) rfl rfl rfl) ah (aO _)) (ik (aI io (aa (i:=8) rfl (.inr (.inl rfl)) rfl rfl rfl) (aa (i:=5) rfl (.inr (.inl rfl)) rfl rfl rfl) (aO _))))) (ag (sE (i:=6) (d:=1) (c:=0) rfl (.inl rfl) (aj (d':=0) fB (by decide)) (aa (i:=8) rfl (.inr (.inl rfl)) rfl rfl rfl) rfl (by decide) rfl rfl rfl (fun _=>rfl) rfl rfl rfl)
  (am (fX (ds1:=[1,0,0,0,0,0,1,1,0,0]) (cR (i:=9) (ds':=[1,0,0,0,0,0,1,1,0,1]) (cd:=0) (d:=1) (dsi:=[0,0]) (lk:=[1]) nd rfl rfl (BlkOkC.of (ns:=["_law_goal_here", "_law_fence"]) (js:=[none,some 5]) (N0:=eB) (sc0:=ao cN) rfl rfl (by decide +kernel)) rfl (aW (K:=K) rfl (aa (i:=9) rfl (.inl rfl) rfl rfl rfl)) (fun _ _ _ _ _=>(ax (i:=0) (ds':=[0,0]) (show (["_law_goal_here", "_law_fence"]:List Str).Nodup by decide +kernel) rfl (.inl rfl) rfl (by decide) (by decide) (.inr rfl))) (fun _ _ _ _ _=>aZ) (fun _ _ _ _ _=>(au (aD (K:=K) rfl) (bu (d:=1) (c:=0) (ac (aa (i:=0) rfl (.inl rfl) rfl rfl rfl) (ac bE af rfl) rfl) rfl rfl (by decide)) (bX pU rfl T.int0 (by decide +kernel) (ac (aj (d':=0) (DL (cv pT (aa (i:=0) rfl (.inl rfl) rfl rfl rfl) bE (aO _)) (jx (cv sG (aa (i:=0) rfl (.inl rfl) rfl rfl rfl) (aa (i:=1) rfl (.inr (.inl rfl)) rfl rfl rfl) (aO _)))) (by decide)) af rfl) rfl (by decide) rfl rfl rfl) (fun _ _=>rfl))) rfl rfl rfl (by decide) rfl (by decide) (by decide) rfl (fun _=>rfl)) rfl))) bh)
  (am (bV (cI (K:=K) (i:=7) (d:=1) rfl rfl (.inl rfl) rfl (aa (i:=9) rfl (.inl rfl) rfl rfl rfl) (by decide) rfl rfl rfl rfl rfl rfl rfl rfl) rfl))))) PassesOwn.never (fun _=>rfl))
  (am (aA (fy (d:=0) (c:=0) (ac (cS (ds0:=[1,0,0,0,0,0,0,1,0,0]) (aa (p:=false) (i:=6) rfl (.inl rfl) rfl rfl rfl) rfl) (ac (cS (ds0:=[1,0,0,0,0,0,0,0,0,0]) (aa (p:=false) (i:=7) rfl (.inl rfl) rfl rfl rfl) rfl) af rfl) rfl) rfl rfl) rfl))))))))
abbrev fc:Stmt:=top 35
abbrev ia:List Str:=["_law_pen_here", "_law_many", "_law_signs_here", "_law_left", "_law_kinds", "_law_size"]
theorem sc_law_tongue:FnScope ia ["_law_pen_here", "_law_many"] (ao fc):=⟨rfl,rfl,rfl,by decide +kernel,rfl,by decide +kernel,by decide +kernel⟩
def fK:ME:=(hX 2 (aq ar (aG 1 (ae (eN bc (ae (ad 2) ai)) ai))))
def fG:MS:=(al (ap 5 (e2 a9 (eC (.int 1)) (aq ar (aG 0 (ae (eN r9 (ae (eC (.int 6)) (ae (eN bc (ae (ad 3) ai)) ai))) ai)))))
 (al (ap 5 (eN se (ae (ad 5) (ae (e2 dL (eN bc (ae (ad 3) ai)) (e2 bO (eC (.int 6)) (e2 dL (eC (.int 3)) (eN bc (ae (ad 4) ai))))) ai))))
 (al (bN (bQ 4 (eM joinD (eC (.str "")) (ae (eSl iu (ad 3) gz (fL (ad 5))) ai))))
 (ap 3 (eSl iu (ad 3) (fL (ad 5)) gz)))))
def dG:MT:=(tV (e2 neD (ad 3) (bo ai)))
noncomputable def ic:MS:=(al (ap 2 (eN ii (ae (eC (.str "!\"#$&'()*+,-./0123456789:;<=>?\x40[\\]^_`{|}~")) ai)))
 (al (ap 2 (e2 qj (ad 2) (eN ii (ae (eC (.str "ABCDEFGHIJKLMNOPQRSTUVWXYZabcdefghijklmnopqrstuvwxyz")) ai))))
 (al (ap 3 (eLC false (bB (ae (ad 1) ai)) (gN 0) cY fK [none,some 0,some 2]))
 (al (ap 4 (bo ai))
 (al (bq dG fG)
 (aF (eN rK (ae (ad 4) ai))))))))
noncomputable def cE:List D→Option (D × En):=fnF 4 [1,0] ic
theorem og {k:Nat} (T:Bl mg)  (aK:Kn P w K mg base k "_law_take" ["_law_pen_here", "_law_most"] (spF K [1,0] 0 ar)) (F:Fun K "_law_tongue" "_law_tongue" fc f fd):FnOk P w K mg base CX0 (k+1) f fd ["_law_pen_here", "_law_many"] (spF K [1,0] 0 cE):=by
 have nd:=sc_law_tongue.nd
 refine F.okQ (N:=ia) (b:=ic) (J:=⟨[0],[1,0,0,0,0,0],0,[]⟩) (ds0:=[1,0,0,0,0,0]) sc_law_tongue rfl rfl rfl rfl fun cdv A outer s H E hr=>?_
 exact (ag (ak (i:=2) (d:=0) (ds':=[1,0,0,0,0,0]) nd rfl (.inr rfl) (aj (d':=0) (bX (kQ (K:=K) rfl rfl) rfl T.list0 (by decide +kernel) (ac (aj (d':=0) bd (by decide)) af rfl) rfl (by decide) rfl rfl rfl) (by decide)) rfl (by decide) (by decide) rfl (.inl rfl))
  (ag (ak (i:=2) (d:=1) (ds':=[1,0,1,0,0,0]) nd rfl (.inr rfl) (aw (rh (K:=K) rfl) (aa (i:=2) rfl (.inr (.inl rfl)) rfl rfl rfl) (bX (kQ (K:=K) rfl rfl) rfl T.list0 (by decide +kernel) (ac (aj (d':=0) bd (by decide)) af rfl) rfl (by decide) rfl rfl rfl)) rfl (by decide) (by decide) rfl (.inl rfl))
  (ag (fX (ds1:=[1,0,1,0,0,0]) (cR (i:=3) (ds':=[1,0,1,1,0,0]) (cd:=0) (d:=1) (dsi:=[0,1,1]) (lk:=[1,2]) nd rfl rfl (BlkOkC.of (ns:=["_law_k", "_law_pen_here", "_law_signs_here"]) (js:=[none,some 0,some 2]) (N0:=ia) (sc0:=ao fc) rfl rfl (by decide +kernel)) rfl (eK rfl T.range0 (ac (aa (i:=1) rfl (.inl rfl) rfl rfl rfl) af rfl) rfl) (fun _ _ _ _ _=>(ax (i:=0) (ds':=[0,1,1]) (show (["_law_k", "_law_pen_here", "_law_signs_here"]:List Str).Nodup by decide +kernel) rfl (.inl rfl) rfl (by decide) (by decide) (.inr rfl))) (fun _ _ _ _ _=>aZ) (fun _ _ _ _ _=>(sH (K:=K) (i:=2) (d:=1) rfl rfl (.inr (.inl rfl)) rfl (aT aK hr rfl (aJ (i:=1) rfl (.inr (.inl rfl)) (ac (aj (d':=0) (fA (ds0:=[0,1,0]) (ay (bn (K:=K) rfl) rfl T.len0 (by decide +kernel) (ac (aa (i:=2) rfl (.inr (.inl rfl)) rfl rfl rfl) af rfl) rfl (by decide) rfl rfl rfl) rfl) (by decide)) af rfl) rfl rfl) rfl rfl rfl rfl) (by decide) rfl rfl rfl rfl rfl rfl rfl rfl)) rfl rfl rfl (by decide) rfl (by decide) (by decide) rfl (fun _=>rfl)) rfl)
  (ag (ak (i:=4) (d:=1) (ds':=[1,0,1,0,1,0]) nd rfl (.inl rfl) (aj (d':=1) (bu (d:=3) (c:=3) af rfl rfl (by decide)) (by decide)) rfl (by decide) (by decide) rfl (.inl rfl))
  (ag (cQ (ds:=[1,0,1,0,1,0]) (aI (oD (K:=K) rfl hr.units) (aa (i:=3) rfl (.inl rfl) rfl rfl rfl) (bu (d:=3) (c:=3) af rfl rfl (by decide)) (aO _)) (ag (ak (i:=5) (d:=0) (ds':=[1,0,1,0,1,0]) nd rfl (.inl rfl) (aj (d':=0) (aw bC ah (aT aK hr rfl (aJ (i:=0) rfl (.inr (.inl rfl)) (ac (aj (d':=0) (ay (DB rfl) rfl T.min0 (by decide +kernel) (ac (aj (d':=0) ah (by decide)) (ac (aj (d':=0) (ay (bn (K:=K) rfl) rfl T.len0 (by decide +kernel) (ac (aa (i:=3) rfl (.inl rfl) rfl rfl rfl) af rfl) rfl (by decide) rfl rfl rfl) (by decide)) af rfl) rfl) rfl (by decide) rfl rfl rfl) (by decide)) af rfl) rfl rfl) rfl rfl rfl rfl)) (by decide)) rfl (by decide) (by decide) rfl (.inl rfl))
  (ag (ak (i:=5) (d:=0) (ds':=[1,0,1,0,1,0]) nd rfl (.inl rfl) (aj (d':=0) (fA (ds0:=[1,0,1,0,0,0]) (ay (DC rfl) rfl T.max0 (by decide +kernel) (ac (aa (i:=5) rfl (.inl rfl) rfl rfl rfl) (ac (aj (d':=0) (aw di (ay (bn (K:=K) rfl) rfl T.len0 (by decide +kernel) (ac (aa (i:=3) rfl (.inl rfl) rfl rfl rfl) af rfl) rfl (by decide) rfl rfl rfl) (aw fY ah (aw di ah (ay (bn (K:=K) rfl) rfl T.len0 (by decide +kernel) (ac (aa (i:=4) rfl (.inl rfl) rfl rfl rfl) af rfl) rfl (by decide) rfl rfl rfl)))) (by decide)) af rfl) rfl) rfl (by decide) rfl rfl rfl) rfl) (by decide)) rfl (by decide) (by decide) rfl (.inl rfl))
  (ag (bV (cI (K:=K) (i:=4) (d:=1) rfl rfl (.inl rfl) rfl (aj (d':=0) (cG (K:=K) rfl PySem.F.slot_str_join PySem.F.type_str_join (gJ rfl) gM bd (ac (aj (d':=0) (dE (gO (K:=K) rfl) (aa (i:=3) rfl (.inl rfl) rfl rfl rfl) eJ (eI (aa (i:=5) rfl (.inl rfl) rfl rfl rfl))) (by decide)) af rfl) rfl rfl rfl rfl rfl rfl) (by decide)) (by decide) rfl rfl rfl rfl rfl rfl rfl rfl) rfl)
  (am (ak (i:=3) (d:=0) (ds':=[1,0,1,0,1,0]) nd rfl (.inl rfl) (aj (d':=0) (dE (gO (K:=K) rfl) (aa (i:=3) rfl (.inl rfl) rfl rfl rfl) (eI (aa (i:=5) rfl (.inl rfl) rfl rfl rfl)) eJ) (by decide)) rfl (by decide) (by decide) rfl (.inl rfl)))))) PassesOwn.never)
  (am (aA (bX (wm (K:=K) rfl) rfl T.tuple0 (by decide +kernel) (ac (cS (ds0:=[1,0,1,0,0,0]) (aa (p:=false) (i:=4) rfl (.inl rfl) rfl rfl rfl) rfl) af rfl) rfl (by decide) rfl rfl rfl) rfl)))))))
abbrev dW:Stmt:=top 36
abbrev fR:List Str:=["_law_machine_here", "_law_most", "_law_lists", "_law_ahead"]
theorem sc_law_table:FnScope fR ["_law_machine_here", "_law_most"] (ao dW):=⟨rfl,rfl,rfl,by decide +kernel,rfl,by decide +kernel,by decide +kernel⟩
def j5:ME:=(eN ge (ae (ad 0) ai))
def om:MT:=(tV (e2 dh (ad 0) (eC .none)))
def oo:ME:=(e2 ixA (ad 1) (ad 0))
def gn:ME:=(eN fj (ae (eLC true (bj (ad 0)) (gN 0) om oo [none,some 1]) ai))
def jZ:MS:=(al (ap 3 (da 2 (e1 iE (eC (.int 1)))))
 (bN (bQ 2 (eLC true (bj (e2 ixA (ad 0) (eC (.int 1)))) (gN 0) cY gn [none,some 3]))))
def jX:MT:=(tV (e2 leI (eN bc (ae (ad 2) ai)) (ad 1)))
noncomputable def iR:MS:=(al (ap 2 (bo (ae (eLC true (bj (e2 ixA (ad 0) (eC (.int 0)))) (gN 0) cY j5 [none]) ai)))
 (al (bq jX jZ)
 (aF (ad 2))))
noncomputable def cV:List D→Option (D × En):=fnF 2 [0,0] iR
theorem pi {k:Nat} (T:Bl mg)   (F:Fun K "_law_table" "_law_table" dW f fd):FnOk P w K mg base CX0 (k+1) f fd ["_law_machine_here", "_law_most"] (spF K [0,0] 0 cV):=by
 have nd:=sc_law_table.nd
 refine F.okQ (N:=fR) (b:=iR) (J:=⟨[],[0,0,0,0],0,[]⟩) (ds0:=[0,0,0,0]) sc_law_table rfl rfl rfl rfl fun cdv A outer s H E hr=>?_
 exact (ag (ak (i:=2) (d:=1) (ds':=[0,0,1,0]) nd rfl (.inl rfl) (aj (d':=1) (bu (d:=3) (c:=3) (ac (bF (cd:=3) (d:=3) (dsi:=[0]) (lk:=[]) (BlkOkC.of (ns:=["_law_one"]) (js:=[none]) (N0:=fR) (sc0:=ao dW) rfl rfl (by decide +kernel)) rfl (aW (K:=K) rfl (au (aD (K:=K) rfl) (aa (i:=0) rfl (.inl rfl) rfl rfl rfl) ah (fun _ _=>rfl))) (fun _ _ _ _ _=>(ax (i:=0) (ds':=[0]) (show (["_law_one"]:List Str).Nodup by decide +kernel) rfl (.inl rfl) rfl (by decide) (by decide) (.inr rfl))) (fun _ _ _ _ _=>aZ) (fun _ _ _ _ _=>(bX pU rfl T.int0 (by decide +kernel) (ac (aa (i:=0) rfl (.inl rfl) rfl rfl rfl) af rfl) rfl (by decide) rfl rfl rfl)) rfl rfl (by decide) rfl (fun _=>rfl)) af rfl) rfl rfl (by decide)) (by decide)) rfl (by decide) (by decide) rfl (.inl rfl))
  (ag (cQ (ds:=[0,0,1,0]) (im (ds0:=[0,0,0,0]) (aI mz (ay (bn (K:=K) rfl) rfl T.len0 (by decide +kernel) (ac (aa (i:=2) rfl (.inl rfl) rfl rfl rfl) af rfl) rfl (by decide) rfl rfl rfl) (aa (i:=1) rfl (.inl rfl) rfl rfl rfl) (aO _)) rfl) (ag (ak (i:=3) (d:=0) (ds':=[0,0,1,0]) nd rfl (.inr rfl) (pX (K:=K) (i:=2) rfl rfl (.inl rfl) rfl (jc kl ah) (fun _ _=>rfl) rfl rfl) rfl (by decide) (by decide) rfl (.inl rfl))
  (am (bV (cI (K:=K) (i:=2) (d:=1) rfl rfl (.inl rfl) rfl (aj (d':=0) (bF (cd:=3) (d:=3) (dsi:=[0,0]) (lk:=[1]) (BlkOkC.of (ns:=["_law_row", "_law_ahead"]) (js:=[none,some 3]) (N0:=fR) (sc0:=ao dW) rfl rfl (by decide +kernel)) rfl (aW (K:=K) rfl (au (aD (K:=K) rfl) (aa (i:=0) rfl (.inl rfl) rfl rfl rfl) ah (fun _ _=>rfl))) (fun _ _ _ _ _=>(ax (i:=0) (ds':=[0,0]) (show (["_law_row", "_law_ahead"]:List Str).Nodup by decide +kernel) rfl (.inl rfl) rfl (by decide) (by decide) (.inr rfl))) (fun _ _ _ _ _=>aZ) (fun _ _ _ _ _=>(ay (jb (K:=K) rfl rfl) rfl T.sum0 (by decide +kernel) (ac (aj (d':=0) (bF (cd:=0) (d:=1) (dsi:=[0,0]) (lk:=[1]) (BlkOkC.inn (ns:=["_law_goal_here", "_law_ahead"]) (js:=[none,some 1]) (N0:=["_law_row", "_law_ahead"]) rfl rfl (by decide +kernel)) rfl (aW (K:=K) rfl (aa (i:=0) rfl (.inl rfl) rfl rfl rfl)) (fun _ _ _ _ _=>(ax (i:=0) (ds':=[0,0]) (show (["_law_goal_here", "_law_ahead"]:List Str).Nodup by decide +kernel) rfl (.inl rfl) rfl (by decide) (by decide) (.inr rfl))) (fun _ _ _ _ _=>(il (aI gL (aa (i:=0) rfl (.inl rfl) rfl rfl rfl) bE (aO _)))) (fun _ _ _ _ _=>(au (aD (K:=K) rfl) (aa (i:=1) rfl (.inr (.inl rfl)) rfl rfl rfl) (aa (i:=0) rfl (.inl rfl) rfl rfl rfl) (fun _ _=>rfl))) rfl rfl (by decide) rfl (fun _=>rfl)) (by decide)) af rfl) rfl (by decide) rfl rfl rfl)) rfl rfl (by decide) rfl (fun _=>rfl)) (by decide)) (by decide) rfl rfl rfl rfl rfl rfl rfl rfl) rfl))) PassesOwn.never)
  (am (aA (cS (ds0:=[0,0,0,0]) (aa (p:=false) (i:=2) rfl (.inl rfl) rfl rfl rfl) rfl) rfl))))
abbrev jI:Stmt:=top 37
abbrev mP:List Str:=["_law_machine_here", "_law_stand", "_law_row", "_law_number"]
theorem sc_law_gone:FnScope mP ["_law_machine_here", "_law_stand", "_law_row"] (ao jI):=⟨rfl,rfl,rfl,by decide +kernel,rfl,by decide +kernel,by decide +kernel⟩
def ib:MS:=(sIf (tV (e2 dh (ad 1) (eC .none))) (ap 1 (e2 ixA (e2 ixA (e2 ixA (ad 0) (eC (.int 1))) (ad 1)) (ad 3))) bt)
def jU:MS:=(al (c9 (bj (ad 2)) (gN 3) ib)
 (aF (ad 1)))
def dI:List D→Option (D × En):=fnF 1 [0,0,0] jU
theorem qx {k:Nat} (T:Bl mg)   (F:Fun K "_law_gone" "_law_gone" jI f fd):FnOk P w K mg base CX0 (k+1) f fd ["_law_machine_here", "_law_stand", "_law_row"] (spF K [0,0,0] 0 dI):=by
 have nd:=sc_law_gone.nd
 refine F.okQ (N:=mP) (b:=jU) (J:=⟨[],[0,0,0,0],0,[]⟩) (ds0:=[0,0,0,0]) sc_law_gone rfl rfl rfl rfl fun cdv A outer s H E hr=>?_
 exact (ag (bU (ds1:=[0,0,0,0]) rfl (aW (K:=K) rfl (aa (i:=2) rfl (.inl rfl) rfl rfl rfl)) (ax (i:=3) (ds':=[0,0,0,0]) nd rfl (.inl rfl) rfl (by decide) (by decide) (.inl rfl)) (am (bp (ds2:=[0,0,0,0]) (aI gL (aa (i:=1) rfl (.inl rfl) rfl rfl rfl) bE (aO _)) (am (ak (i:=1) (d:=0) (ds':=[0,0,0,0]) nd rfl (.inl rfl) (au (aD (K:=K) rfl) (au (aD (K:=K) rfl) (au (aD (K:=K) rfl) (aa (i:=0) rfl (.inl rfl) rfl rfl rfl) ah (fun _ _=>rfl)) (aa (i:=1) rfl (.inl rfl) rfl rfl rfl) (fun _ _=>rfl)) (aa (i:=3) rfl (.inl rfl) rfl rfl rfl) (fun _ _=>rfl)) rfl (by decide) (by decide) rfl (.inl rfl))) bh)) PassesOwn.never (fun _=>rfl))
  (am (aA (aa (i:=1) rfl (.inl rfl) rfl rfl rfl) rfl)))
abbrev jH:Stmt:=top 38
abbrev mO:List Str:=["_law_machine_here", "_law_row", "_law_stand"]
theorem sc_law_lets:FnScope mO ["_law_machine_here", "_law_row"] (ao jH):=⟨rfl,rfl,rfl,by decide +kernel,rfl,by decide +kernel,by decide +kernel⟩
def jT:MS:=(al (ap 2 (aq dI (ae (ad 0) (ae (eC (.int 0)) (ae (ad 1) ai)))))
 (aF (kq (e2 dh (ad 2) (eC .none)) (e2 ixA (e2 ixA (ad 0) (eC (.int 0))) (ad 2)))))
def bT:List D→Option (D × En):=fnF 1 [0,0] jT
theorem qw {k:Nat} (T:Bl mg)  (sU:Kn P w K mg base k "_law_gone" ["_law_machine_here", "_law_stand", "_law_row"] (spF K [0,0,0] 0 dI)) (F:Fun K "_law_lets" "_law_lets" jH f fd):FnOk P w K mg base CX0 (k+1) f fd ["_law_machine_here", "_law_row"] (spF K [0,0] 0 bT):=by
 have nd:=sc_law_lets.nd
 refine F.okQ (N:=mO) (b:=jT) (J:=⟨[],[0,0,0],0,[]⟩) (ds0:=[0,0,0]) sc_law_lets rfl rfl rfl rfl fun cdv A outer s H E hr=>?_
 exact (ag (ak (i:=2) (d:=0) (ds':=[0,0,0]) nd rfl (.inl rfl) (aL sU hr rfl (ac (aa (i:=0) rfl (.inl rfl) rfl rfl rfl) (ac (aj (d':=0) ah (by decide)) (ac (aa (i:=1) rfl (.inl rfl) rfl rfl rfl) af rfl) rfl) rfl) rfl rfl rfl rfl rfl) rfl (by decide) (by decide) rfl (.inl rfl))
  (am (aA (lG (cv gL (aa (i:=2) rfl (.inl rfl) rfl rfl rfl) bE (aO _)) (jx (au (aD (K:=K) rfl) (au (aD (K:=K) rfl) (aa (i:=0) rfl (.inl rfl) rfl rfl rfl) ah (fun _ _=>rfl)) (aa (i:=2) rfl (.inl rfl) rfl rfl rfl) (fun _ _=>rfl)))) rfl)))
abbrev fQ:Stmt:=top 39
abbrev iN:List Str:=["_law_pen_here", "_law_machine_here", "_law_size", "_law_row", "_law_stand", "_law_turn", "_law_onward", "_law_number"]
theorem sc_law_drawn:FnScope iN ["_law_pen_here", "_law_machine_here", "_law_size"] (ao fQ):=⟨rfl,rfl,rfl,by decide +kernel,rfl,by decide +kernel,by decide +kernel⟩
def eA:MT:=(tV (e2 dh (ad 1) (eC .none)))
def gp:ME:=(ad 0)
def j3:MS:=(al (ap 6 (eLC true (gY (ae (e2 ixA (e2 ixA (ad 1) (eC (.int 1))) (ad 4)) ai)) (gT (gsC (gN 0) (gsC (gN 1) gs0))) eA gp [none,none]))
 (sIf (tV (e2 neD (ad 6) (bo ai))) (al (ap 7 (e2 ixA (ad 6) (aq ar (aG 0 (ae (eN bc (ae (ad 6) ai)) ai)))))
 (al (bN (bQ 3 (ad 7)))
 (ap 4 (e2 ixA (e2 ixA (e2 ixA (ad 1) (eC (.int 1))) (ad 4)) (ad 7))))) bt))
def iU:MS:=(al (ap 3 (bo ai))
 (al (ap 4 (eC (.int 0)))
 (al (c9 (bB (ae (ad 2) ai)) (gN 5) j3)
 (aF (eMv 3)))))
def cZ:List D→Option (D × En):=fnF 5 [1,0,0] iU
theorem pr {k:Nat} (T:Bl mg)  (aK:Kn P w K mg base k "_law_take" ["_law_pen_here", "_law_most"] (spF K [1,0] 0 ar)) (F:Fun K "_law_drawn" "_law_drawn" fQ f fd):FnOk P w K mg base CX0 (k+1) f fd ["_law_pen_here", "_law_machine_here", "_law_size"] (spF K [1,0,0] 1 cZ):=by
 have nd:=sc_law_drawn.nd
 refine F.okQ (N:=iN) (b:=iU) (J:=⟨[0],[1,0,0,0,0,0,0,0],1,[]⟩) (ds0:=[1,0,0,0,0,0,0,0]) sc_law_drawn rfl rfl rfl rfl fun cdv A outer s H E hr=>?_
 exact (ag (ak (i:=3) (d:=1) (ds':=[1,0,0,1,0,0,0,0]) nd rfl (.inl rfl) (aj (d':=1) (bu (d:=3) (c:=3) af rfl rfl (by decide)) (by decide)) rfl (by decide) (by decide) rfl (.inl rfl))
  (ag (ak (i:=4) (d:=0) (ds':=[1,0,0,1,0,0,0,0]) nd rfl (.inl rfl) (aj (d':=0) ah (by decide)) rfl (by decide) (by decide) rfl (.inl rfl))
  (ag (bU (ds1:=[1,0,0,1,0,0,0,0]) rfl (eK rfl T.range0 (ac (aa (i:=2) rfl (.inl rfl) rfl rfl rfl) af rfl) rfl) (ax (i:=5) (ds':=[1,0,0,1,0,0,0,0]) nd rfl (.inl rfl) rfl (by decide) (by decide) (.inl rfl)) (ag (fX (ds1:=[1,0,0,1,0,0,0,0]) (cR (i:=6) (ds':=[1,0,0,1,0,0,1,0]) (cd:=0) (d:=1) (dsi:=[0,0]) (lk:=[]) nd rfl rfl (BlkOkC.of (ns:=["_law_number", "_law_goal_here"]) (js:=[none,none]) (N0:=iN) (sc0:=ao fQ) rfl rfl (by decide +kernel)) rfl (km (K:=K) rfl rfl T.enumerate0 (ac (au (aD (K:=K) rfl) (au (aD (K:=K) rfl) (aa (i:=1) rfl (.inl rfl) rfl rfl rfl) ah (fun _ _=>rfl)) (aa (i:=4) rfl (.inl rfl) rfl rfl rfl) (fun _ _=>rfl)) af rfl) rfl) (fun _ _ _ _ _=>(ip (K:=K) rfl rfl (bW (ax (i:=0) (ds':=[0,0]) (show (["_law_number", "_law_goal_here"]:List Str).Nodup by decide +kernel) rfl (.inl rfl) rfl (by decide) (by decide) (.inr rfl)) (bW (ax (i:=1) (ds':=[0,0]) (show (["_law_number", "_law_goal_here"]:List Str).Nodup by decide +kernel) rfl (.inl rfl) rfl (by decide) (by decide) (.inr rfl)) gB rfl) rfl) kP rfl rfl)) (fun _ _ _ _ _=>(il (aI gL (aa (i:=1) rfl (.inl rfl) rfl rfl rfl) bE (aO _)))) (fun _ _ _ _ _=>(aa (i:=0) rfl (.inl rfl) rfl rfl rfl)) rfl rfl rfl (by decide) rfl (by decide) (by decide) rfl (fun _=>rfl)) rfl)
  (am (bp (ds2:=[1,0,0,1,0,0,0,0]) (aI (oD (K:=K) rfl hr.units) (aa (i:=6) rfl (.inl rfl) rfl rfl rfl) (bu (d:=3) (c:=3) af rfl rfl (by decide)) (aO _)) (ag (ak (i:=7) (d:=0) (ds':=[1,0,0,1,0,0,0,0]) nd rfl (.inl rfl) (au (aD (K:=K) rfl) (aa (i:=6) rfl (.inl rfl) rfl rfl rfl) (aT aK hr rfl (aJ (i:=0) rfl (.inl rfl) (ac (aj (d':=0) (ay (bn (K:=K) rfl) rfl T.len0 (by decide +kernel) (ac (aa (i:=6) rfl (.inl rfl) rfl rfl rfl) af rfl) rfl (by decide) rfl rfl rfl) (by decide)) af rfl) rfl rfl) rfl rfl rfl rfl) (fun _ _=>rfl)) rfl (by decide) (by decide) rfl (.inl rfl))
  (ag (bV (cI (K:=K) (i:=3) (d:=1) rfl rfl (.inl rfl) rfl (aa (i:=7) rfl (.inl rfl) rfl rfl rfl) (by decide) rfl rfl rfl rfl rfl rfl rfl rfl) rfl)
  (am (ak (i:=4) (d:=0) (ds':=[1,0,0,1,0,0,0,0]) nd rfl (.inl rfl) (au (aD (K:=K) rfl) (au (aD (K:=K) rfl) (au (aD (K:=K) rfl) (aa (i:=1) rfl (.inl rfl) rfl rfl rfl) ah (fun _ _=>rfl)) (aa (i:=4) rfl (.inl rfl) rfl rfl rfl) (fun _ _=>rfl)) (aa (i:=7) rfl (.inl rfl) rfl rfl rfl) (fun _ _=>rfl)) rfl (by decide) (by decide) rfl (.inl rfl))))) bh))) PassesOwn.never (fun _=>rfl))
  (am (aA (DM (i:=3) (ds':=[1,0,0,0,0,0,0,0]) rfl (.inl rfl) rfl rfl rfl rfl) rfl)))))
abbrev dX:Stmt:=top 40
abbrev fS:List Str:=["_law_tongue_here", "_law_machine_here", "_law_lists", "_law_row", "_law_letters", "_law_word", "_law_number", "_law_first"]
theorem sc_law_right:FnScope fS ["_law_tongue_here", "_law_machine_here", "_law_lists", "_law_row"] (ao dX):=⟨rfl,rfl,rfl,by decide +kernel,rfl,by decide +kernel,by decide +kernel⟩
noncomputable def j7:ME:=(e2 ixT (ad 1) (ad 0))
noncomputable def j6:ME:=(e2 ixA (ad 0) (eC (.int 0)))
noncomputable def iS:MS:=(al (ap 4 (eM joinD (eC (.str "")) (ae (ad 0) ai)))
 (al (ap 5 (eM joinD (eC (.str "")) (ae (eLC true (bj (ad 3)) (gN 0) cY j7 [none,some 4]) ai)))
 (al (ap 6 (aq cq (ae (ad 0) (ae (ad 1) (ae (ad 5) ai)))))
 (al (ap 7 (eN fj (ae (eLC true (bj (eSl iu (ad 2) gz (fL (eN bc (ae (ad 3) ai))))) (gN 0) cY j6 [none]) ai)))
 (al (sIf (e9 (tV (h9 leI ltI (ad 7) (ad 6) (e2 a9 (ad 7) (e2 ixA (e2 ixA (ad 2) (eN bc (ae (ad 3) ai))) (eC (.int 0))))))) (aF (eC (.bool false))) bt)
 (aF (e2 eqD (aq dw (ae (ad 0) (ae (ad 1) (ae (ad 6) ai)))) (ad 5))))))))
noncomputable def cx:List D→Option (D × En):=fnF 4 [0,0,0,0] iS
theorem pk {k:Nat} (T:Bl mg)  (jO:Kn P w K mg base k "number_of" ["tongue", "machine", "word"] (spF K [0,0,0] 3 cq)) (lR:Kn P w K mg base k "word_at" ["tongue", "machine", "number"] (spF K [0,0,0] 3 dw)) (F:Fun K "_law_right" "_law_right" dX f fd):FnOk P w K mg base CX0 (k+1) f fd ["_law_tongue_here", "_law_machine_here", "_law_lists", "_law_row"] (spF K [0,0,0,0] 3 cx):=by
 have nd:=sc_law_right.nd
 refine F.okQ (N:=fS) (b:=iS) (J:=⟨[],[0,0,0,0,0,0,0,0],3,[]⟩) (ds0:=[0,0,0,0,0,0,0,0]) sc_law_right rfl rfl rfl rfl fun cdv A outer s H E hr=>?_
 exact (ag (ak (i:=4) (d:=0) (ds':=[0,0,0,0,0,0,0,0]) nd rfl (.inr rfl) (aj (d':=0) (cG (K:=K) rfl PySem.F.slot_str_join PySem.F.type_str_join (gJ rfl) gM bd (ac (aa (i:=0) rfl (.inl rfl) rfl rfl rfl) af rfl) rfl rfl rfl rfl rfl rfl) (by decide)) rfl (by decide) (by decide) rfl (.inl rfl))
  (ag (ak (i:=5) (d:=0) (ds':=[0,0,0,0,0,0,0,0]) nd rfl (.inl rfl) (aj (d':=0) (cG (K:=K) rfl PySem.F.slot_str_join PySem.F.type_str_join (gJ rfl) gM bd (ac (aj (d':=0) (bF (cd:=3) (d:=3) (dsi:=[0,0]) (lk:=[1]) (BlkOkC.of (ns:=["_law_number", "_law_letters"]) (js:=[none,some 4]) (N0:=fS) (sc0:=ao dX) rfl rfl (by decide +kernel)) rfl (aW (K:=K) rfl (aa (i:=3) rfl (.inl rfl) rfl rfl rfl)) (fun _ _ _ _ _=>(ax (i:=0) (ds':=[0,0]) (show (["_law_number", "_law_letters"]:List Str).Nodup by decide +kernel) rfl (.inl rfl) rfl (by decide) (by decide) (.inr rfl))) (fun _ _ _ _ _=>aZ) (fun _ _ _ _ _=>(au uJ (aa (i:=1) rfl (.inr (.inl rfl)) rfl rfl rfl) (aa (i:=0) rfl (.inl rfl) rfl rfl rfl) (fun _ _=>rfl))) rfl rfl (by decide) rfl (fun _=>rfl)) (by decide)) af rfl) rfl rfl rfl rfl rfl rfl) (by decide)) rfl (by decide) (by decide) rfl (.inl rfl))
  (ag (ak (i:=6) (d:=0) (ds':=[0,0,0,0,0,0,0,0]) nd rfl (.inl rfl) (aj (d':=0) (aL jO hr rfl (ac (aa (i:=0) rfl (.inl rfl) rfl rfl rfl) (ac (aa (i:=1) rfl (.inl rfl) rfl rfl rfl) (ac (aa (i:=5) rfl (.inl rfl) rfl rfl rfl) af rfl) rfl) rfl) rfl rfl rfl rfl rfl) (by decide)) rfl (by decide) (by decide) rfl (.inl rfl))
  (ag (ak (i:=7) (d:=0) (ds':=[0,0,0,0,0,0,0,0]) nd rfl (.inl rfl) (aj (d':=0) (ay (jb (K:=K) rfl rfl) rfl T.sum0 (by decide +kernel) (ac (aj (d':=0) (bF (cd:=0) (d:=1) (dsi:=[0]) (lk:=[]) (BlkOkC.of (ns:=["_law_some"]) (js:=[none]) (N0:=fS) (sc0:=ao dX) rfl rfl (by decide +kernel)) rfl (aW (K:=K) rfl (aj (d':=0) (dE (gO (K:=K) rfl) (aa (i:=2) rfl (.inl rfl) rfl rfl rfl) eJ (eI (ay (bn (K:=K) rfl) rfl T.len0 (by decide +kernel) (ac (aa (i:=3) rfl (.inl rfl) rfl rfl rfl) af rfl) rfl (by decide) rfl rfl rfl))) (by decide))) (fun _ _ _ _ _=>(ax (i:=0) (ds':=[0]) (show (["_law_some"]:List Str).Nodup by decide +kernel) rfl (.inl rfl) rfl (by decide) (by decide) (.inr rfl))) (fun _ _ _ _ _=>aZ) (fun _ _ _ _ _=>(au (aD (K:=K) rfl) (aa (i:=0) rfl (.inl rfl) rfl rfl rfl) ah (fun _ _=>rfl))) rfl rfl (by decide) rfl (fun _=>rfl)) (by decide)) af rfl) rfl (by decide) rfl rfl rfl) (by decide)) rfl (by decide) (by decide) rfl (.inl rfl))
  (ag (bp (ds2:=[0,0,0,0,0,0,0,0]) (cF (my mz io (aa (i:=7) rfl (.inl rfl) rfl rfl rfl) (aa (i:=6) rfl (.inl rfl) rfl rfl rfl) (aw bC (aa (i:=7) rfl (.inl rfl) rfl rfl rfl) (au (aD (K:=K) rfl) (au (aD (K:=K) rfl) (aa (i:=2) rfl (.inl rfl) rfl rfl rfl) (ay (bn (K:=K) rfl) rfl T.len0 (by decide +kernel) (ac (aa (i:=3) rfl (.inl rfl) rfl rfl rfl) af rfl) rfl (by decide) rfl rfl rfl) (fun _ _=>rfl)) ah (fun _ _=>rfl))) (by with_unfolding_all rfl))) (am (aA fB rfl)) bh)
  (am (aA (cv (jw (K:=K) rfl hr.units) (aL lR hr rfl (ac (aa (i:=0) rfl (.inl rfl) rfl rfl rfl) (ac (aa (i:=1) rfl (.inl rfl) rfl rfl rfl) (ac (aa (i:=6) rfl (.inl rfl) rfl rfl rfl) af rfl) rfl) rfl) rfl rfl rfl rfl rfl) (aa (i:=5) rfl (.inl rfl) rfl rfl rfl) (aO _)) rfl)))))))
abbrev bL:Stmt:=top 41
abbrev cm:List Str:=["_law_pen_here", "_law_tongue_here", "_law_machine_here", "_law_letters", "_law_lists", "_law_total", "_law_numbers", "_law_k", "_law_rows", "_law_number", "_law_word", "_law_row", "_law_one", "_law_other_here", "_law_size"]
theorem sc_law_all_right:FnScope cm ["_law_pen_here", "_law_tongue_here", "_law_machine_here"] (ao bL):=⟨rfl,rfl,rfl,by decide +kernel,rfl,by decide +kernel,by decide +kernel⟩
noncomputable def gy:ME:=(e2 ixA (ad 0) (eC (.int 0)))
noncomputable def gw:MS:=(bN (bQ 6 (e2 a9 (e2 oE (e2 vH (aq ar (aG 0 (ae (eC (.int 1000)) ai))) (ad 5)) (eC (.int 1000))) (aq ar (aG 0 (ae (eC (.int 97)) ai))))))
noncomputable def bR:MT:=(tV (h9 leI ltI (eC (.int 0)) (ad 0) (ad 1)))
noncomputable def gx:ME:=(ad 0)
noncomputable def dQ:ME:=(eM i8 (ad 1) (ae (ad 0) ai))
noncomputable def dP:MS:=(al (ap 10 (aq dw (ae (ad 1) (ae (ad 2) (ae (ad 9) ai)))))
 (al (ap 11 (eLC true (bj (ad 10)) (gN 0) cY dQ [none,some 3]))
 (al (sIf (bOr (e9 (tV (aq bT (ae (ad 2) (ae (ad 11) ai))))) (tV (e2 neD (aq cq (ae (ad 1) (ae (ad 2) (ae (ad 10) ai)))) (ad 9)))) (aF (eC (.bool false))) bt)
 (bN (bQ 8 (e8 (ae (ad 9) (ae (e8 (ae (eN bc (ae (ad 11) ai)) (ae (ad 11) ai))) ai))))))))
noncomputable def dO:MS:=(sIf (tV (e2 neD (e2 ltI (e2 ixA (ad 12) (eC (.int 0))) (e2 ixA (ad 13) (eC (.int 0)))) (e2 ltT (e2 ixA (ad 12) (eC (.int 1))) (e2 ixA (ad 13) (eC (.int 1)))))) (aF (eC (.bool false))) bt)
noncomputable def gu:MS:=(bN (nb 11))
noncomputable def gt:MT:=(cD (tV (e2 gtI (eN bc (ae (ad 11) ai)) (eC (.int 0)))) (e9 (tV (aq bT (ae (ad 2) (ae (ad 11) ai))))))
noncomputable def dN:MS:=(al (ap 11 (aq cZ (aG 0 (ae (ad 2) (ae (ad 14) ai)))))
 (al (bq gt gu)
 (sIf (cD (tV (aq bT (ae (ad 2) (ae (ad 11) ai)))) (e9 (tV (aq cx (ae (ad 1) (ae (ad 2) (ae (ad 4) (ae (ad 11) ai)))))))) (aF (eC (.bool false))) bt)))
noncomputable def fg:MS:=(al (ap 3 (eM joinD (eC (.str "")) (ae (ad 1) ai)))
 (al (ap 4 (aq cV (ae (ad 2) (ae (eC (.int 60)) ai))))
 (al (ap 5 (eN fj (ae (eLC true (bj (ad 4)) (gN 0) cY gy [none]) ai)))
 (al (ap 6 (bo (ae (eC (.int 0)) (ae (eC (.int 1)) (ae (e2 dL (ad 5) (eC (.int 2))) (ae (e2 dL (ad 5) (eC (.int 1))) ai))))))
 (al (c9 (bB (ae (eC (.int 4)) ai)) (gN 7) gw)
 (al (ap 8 (bo ai))
 (al (c9 (bj (eN rN (ae (eLC true (bj (e2 qj (ad 6) (bo (ae (e2 a9 (e2 ixA (ad 6) (e1 iE (eC (.int 1)))) (eC (.int 1))) (ae (e2 oE (e2 ixA (ad 6) (e1 iE (eC (.int 2)))) (eC (.int 1000))) ai))))) (gN 0) bR gx [none,some 5]) ai))) (gN 9) dP)
 (al (c9 (mw (ae (eSl iu (ad 8) gz (fL (e1 iE (eC (.int 1))))) (ae (eSl iu (ad 8) (fL (eC (.int 1))) gz) ai))) (gT (gsC (gN 12) (gsC (gN 13) gs0))) dO)
 (al (c9 (bj (e8 (ae (eC (.int 1)) (ae (eC (.int 3)) (ae (eC (.int 7)) (ae (eC (.int 60)) (ae (e2 dL (eC (.int 59)) (aq ar (aG 0 (ae (eC (.int 40)) ai)))) ai))))))) (gN 14) dN)
 (aF (eC (.bool true))))))))))))
noncomputable def bM:List D→Option (D × En):=fnF 12 [1,0,0] fg
theorem lB {k:Nat} (T:Bl mg)  (qH:Kn P w K mg base k "_law_table" ["_law_machine_here", "_law_most"] (spF K [0,0] 0 cV)) (lR:Kn P w K mg base k "word_at" ["tongue", "machine", "number"] (spF K [0,0,0] 3 dw)) (qM:Kn P w K mg base k "_law_drawn" ["_law_pen_here", "_law_machine_here", "_law_size"] (spF K [1,0,0] 1 cZ)) (aK:Kn P w K mg base k "_law_take" ["_law_pen_here", "_law_most"] (spF K [1,0] 0 ar)) (jP:Kn P w K mg base k "_law_lets" ["_law_machine_here", "_law_row"] (spF K [0,0] 0 bT)) (jO:Kn P w K mg base k "number_of" ["tongue", "machine", "word"] (spF K [0,0,0] 3 cq)) (qJ:Kn P w K mg base k "_law_right" ["_law_tongue_here", "_law_machine_here", "_law_lists", "_law_row"] (spF K [0,0,0,0] 3 cx)) (F:Fun K "_law_all_right" "_law_all_right" bL f fd):FnOk P w K mg base CX0 (k+1) f fd ["_law_pen_here", "_law_tongue_here", "_law_machine_here"] (spF K [1,0,0] 3 bM):=by
 have nd:=sc_law_all_right.nd
 refine F.okQ (N:=cm) (b:=fg) (J:=⟨[0],[1,0,0,0,0,0,0,0,0,0,0,0,0,0,0],3,[]⟩) (ds0:=[1,0,0,0,0,0,0,0,0,0,0,0,0,0,0]) sc_law_all_right rfl rfl rfl rfl fun cdv A outer s H E hr=>?_
 exact (ag (ak (i:=3) (d:=0) (ds':=[1,0,0,0,0,0,0,0,0,0,0,0,0,0,0]) nd rfl (.inr rfl) (aj (d':=0) (cG (K:=K) rfl PySem.F.slot_str_join PySem.F.type_str_join (gJ rfl) gM bd (ac (aa (i:=1) rfl (.inl rfl) rfl rfl rfl) af rfl) rfl rfl rfl rfl rfl rfl) (by decide)) rfl (by decide) (by decide) rfl (.inl rfl))
  (ag (ak (i:=4) (d:=0) (ds':=[1,0,0,0,0,0,0,0,0,0,0,0,0,0,0]) nd rfl (.inl rfl) (aL qH hr rfl (ac (aa (i:=2) rfl (.inl rfl) rfl rfl rfl) (ac (aj (d':=0) ah (by decide)) af rfl) rfl) rfl rfl rfl rfl rfl) rfl (by decide) (by decide) rfl (.inl rfl))
  (ag (ak (i:=5) (d:=0) (ds':=[1,0,0,0,0,0,0,0,0,0,0,0,0,0,0]) nd rfl (.inr rfl) (aj (d':=0) (ay (jb (K:=K) rfl rfl) rfl T.sum0 (by decide +kernel) (ac (aj (d':=0) (bF (cd:=0) (d:=1) (dsi:=[0]) (lk:=[]) (BlkOkC.of (ns:=["_law_some"]) (js:=[none]) (N0:=cm) (sc0:=ao bL) rfl rfl (by decide +kernel)) rfl (aW (K:=K) rfl (aa (i:=4) rfl (.inl rfl) rfl rfl rfl)) (fun _ _ _ _ _=>(ax (i:=0) (ds':=[0]) (show (["_law_some"]:List Str).Nodup by decide +kernel) rfl (.inl rfl) rfl (by decide) (by decide) (.inr rfl))) (fun _ _ _ _ _=>aZ) (fun _ _ _ _ _=>(au (aD (K:=K) rfl) (aa (i:=0) rfl (.inl rfl) rfl rfl rfl) ah (fun _ _=>rfl))) rfl rfl (by decide) rfl (fun _=>rfl)) (by decide)) af rfl) rfl (by decide) rfl rfl rfl) (by decide)) rfl (by decide) (by decide) rfl (.inl rfl))
  (ag (ak (i:=6) (d:=1) (ds':=[1,0,0,0,0,0,1,0,0,0,0,0,0,0,0]) nd rfl (.inl rfl) (aj (d':=1) (bu (d:=3) (c:=3) (ac ah (ac ah (ac (aw di (aa (i:=5) rfl (.inr (.inl rfl)) rfl rfl rfl) ah) (ac (aw di (aa (i:=5) rfl (.inr (.inl rfl)) rfl rfl rfl) ah) af rfl) rfl) rfl) rfl) rfl rfl (by decide)) (by decide)) rfl (by decide) (by decide) rfl (.inl rfl))
  (ag (bU (ds1:=[1,0,0,0,0,0,1,0,0,0,0,0,0,0,0]) rfl (eK rfl T.range0 (ac (aj (d':=0) ah (by decide)) af rfl) rfl) (ax (i:=7) (ds':=[1,0,0,0,0,0,1,0,0,0,0,0,0,0,0]) nd rfl (.inl rfl) rfl (by decide) (by decide) (.inl rfl)) (am (bV (cI (K:=K) (i:=6) (d:=1) rfl rfl (.inl rfl) rfl (aj (d':=0) (aw bC (aw pV (aw DA (aT aK hr rfl (aJ (i:=0) rfl (.inl rfl) (ac (aj (d':=0) ah (by decide)) af rfl) rfl rfl) rfl rfl rfl rfl) (aa (i:=5) rfl (.inr (.inl rfl)) rfl rfl rfl)) ah) (aT aK hr rfl (aJ (i:=0) rfl (.inl rfl) (ac (aj (d':=0) ah (by decide)) af rfl) rfl rfl) rfl rfl rfl rfl)) (by decide)) (by decide) rfl rfl rfl rfl rfl rfl rfl rfl) rfl)) PassesOwn.never (fun _=>rfl))
  (ag (ak (i:=8) (d:=1) (ds':=[1,0,0,0,0,0,1,0,1,0,0,0,0,0,0]) nd rfl (.inl rfl) (aj (d':=1) (bu (d:=3) (c:=3) af rfl rfl (by decide)) (by decide)) rfl (by decide) (by decide) rfl (.inl rfl))
  (ag (bU (ds1:=[1,0,0,0,0,0,0,0,1,0,0,0,0,0,0]) rfl (aW (K:=K) rfl (aj (d':=0) (ay (uI (K:=K) rfl) rfl T.sorted0 (by decide +kernel) (ac (aj (d':=0) (bF (cd:=0) (d:=1) (dsi:=[0,0]) (lk:=[1]) (BlkOkC.of (ns:=["_law_one", "_law_total"]) (js:=[none,some 5]) (N0:=cm) (sc0:=ao bL) rfl rfl (by decide +kernel)) rfl (aW (K:=K) rfl (aj (d':=0) (aw (rh (K:=K) rfl) (cS (ds0:=[1,0,0,0,0,0,0,0,1,0,0,0,0,0,0]) (aa (p:=false) (i:=6) rfl (.inl rfl) rfl rfl rfl) rfl) (bu (d:=3) (c:=3) (ac (aw bC (au (aD (K:=K) rfl) (aa (i:=6) rfl (.inl rfl) rfl rfl rfl) (jc kl ah) (fun _ _=>rfl)) ah) (ac (aw pV (au (aD (K:=K) rfl) (aa (i:=6) rfl (.inl rfl) rfl rfl rfl) (jc kl ah) (fun _ _=>rfl)) ah) af rfl) rfl) rfl rfl (by decide))) (by decide))) (fun _ _ _ _ _=>(ax (i:=0) (ds':=[0,0]) (show (["_law_one", "_law_total"]:List Str).Nodup by decide +kernel) rfl (.inl rfl) rfl (by decide) (by decide) (.inr rfl))) (fun _ _ _ _ _=>(il (my mz io ah (aa (i:=0) rfl (.inl rfl) rfl rfl rfl) (aa (i:=1) rfl (.inr (.inl rfl)) rfl rfl rfl) (by with_unfolding_all rfl)))) (fun _ _ _ _ _=>(aa (i:=0) rfl (.inl rfl) rfl rfl rfl)) rfl rfl (by decide) rfl (fun _=>rfl)) (by decide)) af rfl) rfl (by decide) rfl rfl rfl) (by decide))) (ax (i:=9) (ds':=[1,0,0,0,0,0,0,0,1,0,0,0,0,0,0]) nd rfl (.inl rfl) rfl (by decide) (by decide) (.inl rfl)) (ag (ak (i:=10) (d:=0) (ds':=[1,0,0,0,0,0,0,0,1,0,0,0,0,0,0]) nd rfl (.inl rfl) (aj (d':=0) (aL lR hr rfl (ac (aa (i:=1) rfl (.inl rfl) rfl rfl rfl) (ac (aa (i:=2) rfl (.inl rfl) rfl rfl rfl) (ac (aa (i:=9) rfl (.inl rfl) rfl rfl rfl) af rfl) rfl) rfl) rfl rfl rfl rfl rfl) (by decide)) rfl (by decide) (by decide) rfl (.inl rfl))
  (ag (fX (ds1:=[1,0,0,0,0,0,0,0,1,0,0,0,0,0,0]) (cR (i:=11) (ds':=[1,0,0,0,0,0,0,0,1,0,0,3,0,0,0]) (cd:=3) (d:=3) (dsi:=[0,0]) (lk:=[1]) nd rfl rfl (BlkOkC.of (ns:=["_law_sign", "_law_letters"]) (js:=[none,some 3]) (N0:=cm) (sc0:=ao bL) rfl rfl (by decide +kernel)) rfl (aW (K:=K) rfl (aa (i:=10) rfl (.inl rfl) rfl rfl rfl)) (fun _ _ _ _ _=>(ax (i:=0) (ds':=[0,0]) (show (["_law_sign", "_law_letters"]:List Str).Nodup by decide +kernel) rfl (.inl rfl) rfl (by decide) (by decide) (.inr rfl))) (fun _ _ _ _ _=>aZ) (fun _ _ _ _ _=>(cG (K:=K) rfl PySem.F.slot_str_index PySem.F.type_str_index pB pW (aa (i:=1) rfl (.inr (.inl rfl)) rfl rfl rfl) (ac (aa (i:=0) rfl (.inl rfl) rfl rfl rfl) af rfl) rfl rfl rfl rfl rfl rfl)) rfl rfl rfl (by decide) rfl (by decide) (by decide) rfl (fun _=>rfl)) rfl)
  (ag (bp (ds2:=[1,0,0,0,0,0,0,0,1,0,0,0,0,0,0]) (qpt (ja (cF (cj (aL jP hr rfl (ac (aa (i:=2) rfl (.inl rfl) rfl rfl rfl) (ac (aa (i:=11) rfl (.inl rfl) rfl rfl rfl) af rfl) rfl) rfl rfl rfl rfl rfl) (fun _=>rfl))) (hU (aI (oD (K:=K) rfl hr.units) (aL jO hr rfl (ac (aa (i:=1) rfl (.inl rfl) rfl rfl rfl) (ac (aa (i:=2) rfl (.inl rfl) rfl rfl rfl) (ac (aa (i:=10) rfl (.inl rfl) rfl rfl rfl) af rfl) rfl) rfl) rfl rfl rfl rfl rfl) (aa (i:=9) rfl (.inl rfl) rfl rfl rfl) (aO _))))) (am (aA fB rfl)) bh)
  (am (bV (cI (K:=K) (i:=8) (d:=1) rfl rfl (.inl rfl) rfl (fy (d:=0) (c:=0) (ac (aa (i:=9) rfl (.inl rfl) rfl rfl rfl) (ac (fy (d:=0) (c:=0) (ac (ay (bn (K:=K) rfl) rfl T.len0 (by decide +kernel) (ac (aa (i:=11) rfl (.inl rfl) rfl rfl rfl) af rfl) rfl (by decide) rfl rfl rfl) (ac (aa (i:=11) rfl (.inl rfl) rfl rfl rfl) af rfl) rfl) rfl rfl) af rfl) rfl) rfl rfl) (by decide) rfl rfl rfl rfl rfl rfl rfl rfl) rfl))))) PassesOwn.never (fun _=>rfl))
  (ag (bU (ds1:=[1,0,0,0,0,0,0,0,0,0,0,0,0,0,0]) rfl (wn (K:=K) rfl rfl T.zip0 (ac (aj (d':=0) (dE (gO (K:=K) rfl) (cS (ds0:=[1,0,0,0,0,0,0,0,0,0,0,0,0,0,0]) (aa (p:=false) (i:=8) rfl (.inl rfl) rfl rfl rfl) rfl) eJ (eI (jc kl ah))) (by decide)) (ac (aj (d':=0) (dE (gO (K:=K) rfl) (aa (i:=8) rfl (.inl rfl) rfl rfl rfl) (eI ah) eJ) (by decide)) af rfl) rfl) rfl rfl) (ip (K:=K) rfl rfl (bW (ax (i:=12) (ds':=[1,0,0,0,0,0,0,0,0,0,0,0,0,0,0]) nd rfl (.inl rfl) rfl (by decide) (by decide) (.inl rfl)) (bW (ax (i:=13) (ds':=[1,0,0,0,0,0,0,0,0,0,0,0,0,0,0]) nd rfl (.inl rfl) rfl (by decide) (by decide) (.inl rfl)) gB rfl) rfl) kP rfl rfl) (am (bp (ds2:=[1,0,0,0,0,0,0,0,0,0,0,0,0,0,0]) (aI (oD (K:=K) rfl hr.units) (cv io (au (aD (K:=K) rfl) (aa (i:=12) rfl (.inl rfl) rfl rfl rfl) ah (fun _ _=>rfl)) (au (aD (K:=K) rfl) (aa (i:=13) rfl (.inl rfl) rfl rfl rfl) ah (fun _ _=>rfl)) (aO _)) (cv (Ho (K:=K) rfl hr.units) (au (aD (K:=K) rfl) (aa (i:=12) rfl (.inl rfl) rfl rfl rfl) ah (fun _ _=>rfl)) (au (aD (K:=K) rfl) (aa (i:=13) rfl (.inl rfl) rfl rfl rfl) ah (fun _ _=>rfl)) (aO _)) (aO _)) (am (aA fB rfl)) bh)) PassesOwn.never (fun _=>rfl))
  (ag (bU (ds1:=[1,0,0,0,0,0,0,0,0,0,0,0,0,0,0]) rfl (aW (K:=K) rfl (aj (d':=0) (fy (d:=3) (c:=3) (ac ah (ac ah (ac ah (ac ah (ac (aw di ah (aT aK hr rfl (aJ (i:=0) rfl (.inl rfl) (ac (aj (d':=0) ah (by decide)) af rfl) rfl rfl) rfl rfl rfl rfl)) af rfl) rfl) rfl) rfl) rfl) rfl rfl) (by decide))) (ax (i:=14) (ds':=[1,0,0,0,0,0,0,0,0,0,0,0,0,0,0]) nd rfl (.inl rfl) rfl (by decide) (by decide) (.inl rfl)) (ag (ak (i:=11) (d:=1) (ds':=[1,0,0,0,0,0,0,0,0,0,0,1,0,0,0]) nd rfl (.inl rfl) (aT qM hr rfl (aJ (i:=0) rfl (.inl rfl) (ac (aa (i:=2) rfl (.inl rfl) rfl rfl rfl) (ac (aa (i:=14) rfl (.inl rfl) rfl rfl rfl) af rfl) rfl) rfl rfl) rfl rfl rfl rfl) rfl (by decide) (by decide) rfl (.inl rfl))
  (ag (cQ (ds:=[1,0,0,0,0,0,0,0,0,0,0,1,0,0,0]) (im (ds0:=[1,0,0,0,0,0,0,0,0,0,0,0,0,0,0]) (qpt (ju (aI sF (ay (bn (K:=K) rfl) rfl T.len0 (by decide +kernel) (ac (aa (i:=11) rfl (.inl rfl) rfl rfl rfl) af rfl) rfl (by decide) rfl rfl rfl) ah (aO _)) (ik (cF (cj (aL jP hr rfl (ac (aa (i:=2) rfl (.inl rfl) rfl rfl rfl) (ac (aa (i:=11) rfl (.inl rfl) rfl rfl rfl) af rfl) rfl) rfl rfl rfl rfl rfl) (fun _=>rfl)))))) rfl) (am (bV (wv (K:=K) (i:=11) (d:=1) rfl rfl (.inl rfl) rfl (by decide) rfl rfl rfl rfl rfl) rfl)) PassesOwn.never)
  (am (bp (ds2:=[1,0,0,0,0,0,0,0,0,0,0,0,0,0,0]) (qpt (ju (cj (aL jP hr rfl (ac (aa (i:=2) rfl (.inl rfl) rfl rfl rfl) (ac (cS (ds0:=[1,0,0,0,0,0,0,0,0,0,0,0,0,0,0]) (aa (p:=false) (i:=11) rfl (.inl rfl) rfl rfl rfl) rfl) af rfl) rfl) rfl rfl rfl rfl rfl) (fun _=>rfl)) (ik (cF (cj (aL qJ hr rfl (ac (aa (i:=1) rfl (.inl rfl) rfl rfl rfl) (ac (aa (i:=2) rfl (.inl rfl) rfl rfl rfl) (ac (aa (i:=4) rfl (.inl rfl) rfl rfl rfl) (ac (aa (i:=11) rfl (.inl rfl) rfl rfl rfl) af rfl) rfl) rfl) rfl) rfl rfl rfl rfl rfl) (fun _=>rfl)))))) (am (aA fB rfl)) bh)))) PassesOwn.never (fun _=>rfl))
  (am (aA fB rfl)))))))))))
abbrev fP:Stmt:=top 42
abbrev iM:List Str:=["_law_pen_here", "_law_machine_here", "_law_goes", "_law_stand"]
theorem sc_law_other:FnScope iM ["_law_pen_here", "_law_machine_here"] (ao fP):=⟨rfl,rfl,rfl,by decide +kernel,rfl,by decide +kernel,by decide +kernel⟩
def j8:ME:=(eN ii (ae (ad 0) ai))
def iT:MS:=(al (ap 2 (eLC true (bj (e2 ixA (ad 1) (eC (.int 1)))) (gN 0) cY j8 [none]))
 (al (ap 3 (aq ar (aG 0 (ae (eN bc (ae (ad 2) ai)) ai))))
 (al (jj 2 (pIx 2 (m5 2) (ad 3)) (aq ar (aG 0 (ae (eN bc (ae (e2 ixA (ad 2) (ad 3)) ai)) ai))) (e2 ixA (bo (ae (aq ar (aG 0 (ae (eN bc (ae (ad 2) ai)) ai))) (ae (eC .none) ai))) (eN ge (ae (e2 eqD (aq ar (aG 0 (ae (eC (.int 4)) ai))) (eC (.int 0))) ai))))
 (aF (e8 (ae (eN ii (ae (e2 ixA (ad 1) (eC (.int 0))) ai)) (ae (ad 2) ai)))))))
def cX:List D→Option (D × En):=fnF 2 [1,0] iT
theorem pp {k:Nat} (T:Bl mg)  (aK:Kn P w K mg base k "_law_take" ["_law_pen_here", "_law_most"] (spF K [1,0] 0 ar)) (F:Fun K "_law_other" "_law_other" fP f fd):FnOk P w K mg base CX0 (k+1) f fd ["_law_pen_here", "_law_machine_here"] (spF K [1,0] 0 cX):=by
 have nd:=sc_law_other.nd
 refine F.okQ (N:=iM) (b:=iT) (J:=⟨[0],[1,0,0,0],0,[]⟩) (ds0:=[1,0,0,0]) sc_law_other rfl rfl rfl rfl fun cdv A outer s H E hr=>?_
 exact (ag (cR (i:=2) (ds':=[1,0,2,0]) (cd:=1) (d:=2) (dsi:=[0]) (lk:=[]) nd rfl rfl (BlkOkC.of (ns:=["_law_row"]) (js:=[none]) (N0:=iM) (sc0:=ao fP) rfl rfl (by decide +kernel)) rfl (aW (K:=K) rfl (au (aD (K:=K) rfl) (aa (i:=1) rfl (.inl rfl) rfl rfl rfl) ah (fun _ _=>rfl))) (fun _ _ _ _ _=>(ax (i:=0) (ds':=[0]) (show (["_law_row"]:List Str).Nodup by decide +kernel) rfl (.inl rfl) rfl (by decide) (by decide) (.inr rfl))) (fun _ _ _ _ _=>aZ) (fun _ _ _ _ _=>(bX (kQ (K:=K) rfl rfl) rfl T.list0 (by decide +kernel) (ac (aa (i:=0) rfl (.inl rfl) rfl rfl rfl) af rfl) rfl (by decide) rfl rfl rfl)) rfl rfl rfl (by decide) rfl (by decide) (by decide) rfl (fun _=>rfl))
  (ag (ak (i:=3) (d:=0) (ds':=[1,0,2,0]) nd rfl (.inl rfl) (aT aK hr rfl (aJ (i:=0) rfl (.inl rfl) (ac (aj (d':=0) (fA (ds0:=[1,0,0,0]) (ay (bn (K:=K) rfl) rfl T.len0 (by decide +kernel) (ac (aa (i:=2) rfl (.inl rfl) rfl rfl rfl) af rfl) rfl (by decide) rfl rfl rfl) rfl) (by decide)) af rfl) rfl rfl) rfl rfl rfl rfl) rfl (by decide) (by decide) rfl (.inl rfl))
  (ag (qC (p:=false) (i:=2) (d:=2) rfl rfl (au (aD (K:=K) rfl) (bu (d:=1) (c:=0) (ac (aT aK hr rfl (aJ (i:=0) rfl (.inl rfl) (ac (aj (d':=0) (fA (ds0:=[1,0,0,0]) (ay (bn (K:=K) rfl) rfl T.len0 (by decide +kernel) (ac (aa (i:=2) rfl (.inl rfl) rfl rfl rfl) af rfl) rfl (by decide) rfl rfl rfl) rfl) (by decide)) af rfl) rfl rfl) rfl rfl rfl rfl) (ac bE af rfl) rfl) rfl rfl (by decide)) (bX pU rfl T.int0 (by decide +kernel) (ac (aj (d':=0) (cv (jw (K:=K) rfl hr.units) (aT aK hr rfl (aJ (i:=0) rfl (.inl rfl) (ac (aj (d':=0) ah (by decide)) af rfl) rfl rfl) rfl rfl rfl rfl) ah (aO _)) (by decide)) af rfl) rfl (by decide) rfl rfl rfl) (fun _ _=>rfl)) (wg (i:=2) (d:=2) rfl rfl (uH (i:=2) rfl (.inl rfl) rfl rfl) (aa (i:=3) rfl (.inl rfl) rfl rfl rfl) (by decide) (by first | exact .inl rfl | exact .inr rfl) (fun _ _=>rfl)) (wA aK hr rfl (aJ (i:=0) rfl (.inl rfl) (ac (aj (d':=0) (fA (ds0:=[1,0,0,0]) (ay (bn (K:=K) rfl) rfl T.len0 (by decide +kernel) (ac (au (aD (K:=K) rfl) (aa (i:=2) rfl (.inl rfl) rfl rfl rfl) (aa (i:=3) rfl (.inl rfl) rfl rfl rfl) (fun _ _=>rfl)) af rfl) rfl (by decide) rfl rfl rfl) rfl) (by decide)) af rfl) rfl rfl) (vG rfl) rfl rfl rfl rfl) (by decide) rfl (fun _=>rfl) rfl rfl rfl)
  (am (aA (fy (d:=0) (c:=0) (ac (bX (kQ (K:=K) rfl rfl) rfl T.list0 (by decide +kernel) (ac (au (aD (K:=K) rfl) (aa (i:=1) rfl (.inl rfl) rfl rfl rfl) ah (fun _ _=>rfl)) af rfl) rfl (by decide) rfl rfl rfl) (ac (cS (ds0:=[1,0,0,0]) (aa (p:=false) (i:=2) rfl (.inl rfl) rfl rfl rfl) rfl) af rfl) rfl) rfl rfl) rfl)))))
abbrev kz:Stmt:=top 43
abbrev wT:List Str:=["_law_script", "_law_pen_here", "_law_signs_here", "_law_machine_here", "_law_tongue_here", "_law_other_here"]
theorem sclaw:FnScope wT ["_law_script"] (ao kz):=⟨rfl,rfl,rfl,by decide +kernel,rfl,by decide +kernel,by decide +kernel⟩
noncomputable def qt:ME:=(aq bM (aG 1 (ae (ad 2) (ae (ad 0) ai))))
noncomputable def wX:MS:=(al (ap 1 (aq cr (ae (ad 0) (ae (eC (.int 0)) ai))))
 (al (ap 2 (aq cW (aG 1 ai)))
 (al (ap 3 (aq cg (aG 1 (ae (ad 2) (ae (eC (.int 9)) ai)))))
 (al (ap 1 (aq cr (ae (ad 0) (ae (eC (.int 40)) ai))))
 (al (ap 4 (aq cE (aG 1 (ae (ad 2) ai))))
 (al (ap 5 (aq cX (aG 1 (ae (ad 3) ai))))
 (aF (eN kt (ae (eLC false (bj (e8 (ae (ad 3) (ae (ad 5) (ae (ad 3) ai))))) (gN 0) cY qt [none,some 1,some 4]) ai)))))))))
noncomputable def sW:List D→Option (D × En):=fnF 5 [0] wX
theorem IA {k:Nat} (T:Bl mg)  (n8:Kn P w K mg base k "_law_pen" ["_law_script", "_law_first"] (spF K [0,0] 1 cr)) (qI:Kn P w K mg base k "_law_signs" ["_law_pen_here"] (spF K [1] 0 cW)) (on:Kn P w K mg base k "_law_machine" ["_law_pen_here", "_law_signs_here", "_law_most"] (spF K [1,0,0] 0 cg)) (qr:Kn P w K mg base k "_law_tongue" ["_law_pen_here", "_law_many"] (spF K [1,0] 0 cE)) (qK:Kn P w K mg base k "_law_other" ["_law_pen_here", "_law_machine_here"] (spF K [1,0] 0 cX)) (mS:Kn P w K mg base k "_law_all_right" ["_law_pen_here", "_law_tongue_here", "_law_machine_here"] (spF K [1,0,0] 3 bM)) (F:Fun K "law" "law" kz f fd):FnOk P w K mg base CX0 (k+1) f fd ["_law_script"] (spF K [0] 3 sW):=by
 have nd:=sclaw.nd
 refine F.okQ (N:=wT) (b:=wX) (J:=⟨[],[0,0,0,0,0,0],3,[]⟩) (ds0:=[0,0,0,0,0,0]) sclaw rfl rfl rfl rfl fun cdv A outer s H E hr=>?_
 exact (ag (ak (i:=1) (d:=1) (ds':=[0,1,0,0,0,0]) nd rfl (.inr rfl) (aL n8 hr rfl (ac (aa (i:=0) rfl (.inl rfl) rfl rfl rfl) (ac (aj (d':=0) ah (by decide)) af rfl) rfl) rfl rfl rfl rfl rfl) rfl (by decide) (by decide) rfl (.inl rfl))
  (ag (ak (i:=2) (d:=0) (ds':=[0,1,0,0,0,0]) nd rfl (.inl rfl) (aT qI hr rfl (aJ (i:=1) rfl (.inr (.inl rfl)) af rfl rfl) rfl rfl rfl rfl) rfl (by decide) (by decide) rfl (.inl rfl))
  (ag (ak (i:=3) (d:=0) (ds':=[0,1,0,0,0,0]) nd rfl (.inl rfl) (aT on hr rfl (aJ (i:=1) rfl (.inr (.inl rfl)) (ac (aa (i:=2) rfl (.inl rfl) rfl rfl rfl) (ac (aj (d':=0) ah (by decide)) af rfl) rfl) rfl rfl) rfl rfl rfl rfl) rfl (by decide) (by decide) rfl (.inl rfl))
  (ag (ak (i:=1) (d:=1) (ds':=[0,1,0,0,0,0]) nd rfl (.inr rfl) (aL n8 hr rfl (ac (aa (i:=0) rfl (.inl rfl) rfl rfl rfl) (ac (aj (d':=0) ah (by decide)) af rfl) rfl) rfl rfl rfl rfl rfl) rfl (by decide) (by decide) rfl (.inl rfl))
  (ag (ak (i:=4) (d:=0) (ds':=[0,1,0,0,0,0]) nd rfl (.inr rfl) (aT qr hr rfl (aJ (i:=1) rfl (.inr (.inl rfl)) (ac (aa (i:=2) rfl (.inl rfl) rfl rfl rfl) af rfl) rfl rfl) rfl rfl rfl rfl) rfl (by decide) (by decide) rfl (.inl rfl))
  (ag (ak (i:=5) (d:=0) (ds':=[0,1,0,0,0,0]) nd rfl (.inl rfl) (aT qK hr rfl (aJ (i:=1) rfl (.inr (.inl rfl)) (ac (aa (i:=3) rfl (.inl rfl) rfl rfl rfl) af rfl) rfl rfl) rfl rfl rfl rfl) rfl (by decide) (by decide) rfl (.inl rfl))
  (am (aA (ay (uK (K:=K) rfl rfl) rfl T.all0 (by decide +kernel) (ac (aj (d':=0) (wy (cd:=3) (d:=3) (dsi:=[0,1,0]) (lk:=[1,2]) (BlkOkC.of (ns:=["_law_one", "_law_pen_here", "_law_tongue_here"]) (js:=[none,some 1,some 4]) (N0:=wT) (sc0:=ao kz) rfl rfl (by decide +kernel)) rfl (aW (K:=K) rfl (fy (d:=0) (c:=0) (ac (aa (i:=3) rfl (.inl rfl) rfl rfl rfl) (ac (aa (i:=5) rfl (.inl rfl) rfl rfl rfl) (ac (aa (i:=3) rfl (.inl rfl) rfl rfl rfl) af rfl) rfl) rfl) rfl rfl)) (fun _ _ _ _ _=>(ax (i:=0) (ds':=[0,1,0]) (show (["_law_one", "_law_pen_here", "_law_tongue_here"]:List Str).Nodup by decide +kernel) rfl (.inl rfl) rfl (by decide) (by decide) (.inr rfl))) (fun _ _ _ _ _=>aZ) (fun _ _ _ _ _=>(aT mS hr rfl (aJ (i:=1) rfl (.inr (.inl rfl)) (ac (aa (i:=2) rfl (.inr (.inl rfl)) rfl rfl rfl) (ac (aa (i:=0) rfl (.inl rfl) rfl rfl rfl) af rfl) rfl) rfl rfl) rfl rfl rfl rfl)) rfl rfl (by decide) rfl (fun _=>rfl)) (by decide)) af rfl) rfl (by decide) rfl rfl rfl) rfl))))))))
end
end W31
set_option maxHeartbeats 1000000
namespace W31
open PySem L2 Pen2 Mch
def stp (gs:List (List (Option Nat))) (t:Option Nat) (a:Nat):Option Nat:=t.bind fun s=>((gs[s]?).bind fun r=>r[a]?).join
def gne (gs:List (List (Option Nat))) (t:Option Nat) (r:List Nat):Option Nat:=r.foldl (stp gs) t
def bm (r:List Nat):D:=.list (r.map fun a:Nat=>.int a)
def Val (S:Nat) (t:Option Nat):Prop:=∀ s,t=some s→s < S
def wt (gs:List (List (Option Nat))) (es:List Bool) (k:Nat):Option Nat→Int
 | none=>0
 | some s=>(it gs (base es) k).getD s 0
section
variable {S W:Nat} {es:List Bool} {gs:List (List (Option Nat))}
theorem oS (M:MOk S W es gs) {s a:Nat} (hs:s < S) (ha:a < W):∃ r o,gs[s]?=some r∧r[a]?=some o∧stp gs (some s) a=o∧Val S o∧ff S W r:=by
 have h1:s < gs.length:=by rw [M.lg]; exact hs
 have hr:=M.ok _ (List.getElem_mem h1)
 have h2:a < (gs[s]).length:=by rw [hr.1]; exact ha
 refine ⟨gs[s],(gs[s])[a],List.getElem?_eq_getElem h1,List.getElem?_eq_getElem h2,?_,fun j hj=>hr.2 _ (List.getElem_mem h2) j hj,hr⟩
 show ((gs[s]?).bind fun r=>r[a]?).join=_
 rw [List.getElem?_eq_getElem h1]
 show ((gs[s])[a]?).join=_
 rw [List.getElem?_eq_getElem h2]
 rfl
theorem gH (M:MOk S W es gs) {t:Option Nat} {a:Nat} (ht:Val S t) (ha:a < W):Val S (stp gs t a):=by
 cases t with
 | none=>exact fun s z=>by cases z
 | some s =>
  obtain ⟨r,o,_,_,e,v,_⟩:=oS M (ht s rfl) ha
  rw [e]
  exact v
theorem eG (M:MOk S W es gs):∀ (r:List Nat) {t:Option Nat},Val S t→(∀ a∈r,a < W)→Val S (gne gs t r)
 | [],_,ht,_=>ht
 | a :: r,_,ht,h=>eG M r (gH M ht (h a List.mem_cons_self)) fun x hx=>h x (List.mem_cons_of_mem _ hx)
end
theorem lj {v:List Int} (G:Option Nat→Int) (h0:G none=0) (h1:∀ j,G (some j)=v.getD j 0):∀ r:List (Option Nat),(r.map G).sum=((r.map goD).filterMap (kd v)).sum
 | []=>rfl
 | none :: r=>by
  rw [List.map_cons,List.sum_cons,h0,Int.zero_add]
  exact lj G h0 h1 r
 | some j :: r=>by
  rw [List.map_cons,List.sum_cons,h1,lj G h0 h1 r]
  rfl
section
variable {S W:Nat} {es:List Bool} {gs:List (List (Option Nat))}
theorem qP (M:MOk S W es gs) (k:Nat) {t:Option Nat} (ht:Val S t):((List.range W).map fun a=>wt gs es k (stp gs t a)).sum=wt gs es (k+1) t:=by
 cases t with
 | none =>
  have:∀ l:List Nat,(l.map fun a=>wt gs es k (stp gs none a)).sum=0:=by
   intro l
   induction l with
   | nil=>rfl
   | cons a l ih=>rw [List.map_cons,List.sum_cons,ih]; rfl
  exact this _
 | some s =>
  have hs:=ht s rfl
  have h1:s < gs.length:=by rw [M.lg]; exact hs
  have hr:=M.ok _ (List.getElem_mem h1)
  have e1:wt gs es (k+1) (some s)=rsD (it gs (base es) k) (aQ gs[s]):=by
   show (gs.map fun r=>rsD (it gs (base es) k) (aQ r)).getD s 0=_
   rw [List.getD_eq_getElem?_getD,List.getElem?_map,List.getElem?_eq_getElem h1]
   rfl
  have e2':((List.range W).map fun a=>wt gs es k (stp gs (some s) a))=(gs[s]).map (wt gs es k):=by
   refine List.ext_getElem (by rw [List.length_map,List.length_range,List.length_map,hr.1]) fun i q1 q2=>?_
   have hi:i < W:=by rw [List.length_map,List.length_range] at q1; exact q1
   rw [List.getElem_map,List.getElem_map,List.getElem_range]
   obtain ⟨r,o,a1,a2,a3,_,_⟩:=oS M hs hi
   rw [a3]
   rw [List.getElem?_eq_getElem h1] at a1
   cases a1
   have h2:i < (gs[s]).length:=by rw [hr.1]; exact hi
   rw [List.getElem?_eq_getElem h2] at a2
   cases a2
   rfl
  rw [e1,e2']
  exact lj (v:=it gs (base es) k) (wt gs es k) rfl (fun _=>rfl) gs[s]
end
section
variable {S W:Nat} {es:List Bool} {gs:List (List (Option Nat))}
def ra (gs:List (List (Option Nat))) (es:List Bool) (k:Nat):Option Nat→List Nat→Int
 | _,[]=>0
 | t,a :: r=>((List.range a).map fun b=>wt gs es (r.length+k) (stp gs t b)).sum+ra gs es k (stp gs t a) r
end
end W31
namespace W31
open PySem L2 Pen2 Mch Tg
def Pn (n:Nat) (t:D):Prop:=∃ ns k l,t=Pen2.penD ns k l∧0≤k∧k≤(n:Int)∧0≤l
theorem Pn.mono {n m:Nat} {t:D} (h:Pn n t) (e:n≤m):Pn m t:=by
 obtain ⟨ns,k,l,rfl,h1,h2,h3⟩:=h
 exact ⟨ns,k,l,rfl,h1,by omega,h3⟩
theorem du {p:D} {m:Int} {n:Nat} (hp:Pn n p) (hn:n≤1000000) (h3:0 < m) (h4:m < 1073741824) {Q:D × En→Prop} (h:∀ r p',0≤r→r < m→Pn (n+1) p'→Q (.int r,[some p',none])):W (ar [p,.int m]) Q:=by
 obtain ⟨ns,k,l,rfl,k0,k1,l0⟩:=hp
 obtain ⟨r,k',l',e,e1,e2,e3,e4,e5⟩:=Pen2.take_ok (ns:=ns) (k:=k) (l:=l) (m:=m) k0 (by omega) l0 h3 h4
 exact W.of (show ar _=_ from e) (h r _ e1 e2 ⟨ns,k',l',rfl,by omega,by omega,e5⟩)
def pool:List Nat:=li "!\"#$&'()*+,-./0123456789:;<=>?\x40[\\]^_`{|}~"++li "ABCDEFGHIJKLMNOPQRSTUVWXYZabcdefghijklmnopqrstuvwxyz"
theorem vq:pool.length=93:=by decide +kernel
theorem CJ:pool.Nodup:=by decide +kernel
theorem CI {n m:Nat} {left:List Nat} {p:D} {Q:List D × En→Prop} (hp:Pn n p) (hn:n≤1000) (h1:m≤12) (hl:left.length=93) (hc:left.Nodup)
  (hq:∀ (cs:List Nat) o' p' l',cs.length=m→cs.Nodup→Pn (n+12) p'→Q (cs.map s1,[o',some p',l'])):W (lcF (gN 0) cY fK (kb 0 m) [] [none,some p,some (.list (left.map s1))]) Q:=by
 refine Ig (fun i us en=>∃ (cs lf:List Nat) (o:Option D) (p:D),us=cs.map s1∧en=[o,some p,some (.list (lf.map s1))]∧cs.length=i∧lf.length+i=93∧(cs++lf).Perm left∧Pn (n+i) p) (by rw [iX]; exact sz (by omega)) ⟨[],left,none,p,rfl,rfl,rfl,hl,List.Perm.refl _,hp⟩ ?_ ?_
 ·rintro i t us en ht hu ⟨cs,lf,o,p,rfl,rfl,g1,g2,g3,hp⟩
  obtain ⟨hi,rfl⟩:=kK ht
  simp only [ws,fK]
  refine du hp (by omega) (by omega) (by omega) fun r p' r0 r1 hp'=>?_
  obtain ⟨k,rfl⟩:=Int.eq_ofNat_of_zero_le r0
  have hk:k < lf.length:=by omega
  simp only [ws,Jp hk]
  refine ⟨by omega,cs++[lf[k]],lf.eraseIdx k,_,p',by rw [List.map_append]; rfl,rfl,by rw [List.length_append,g1]; rfl,by rw [List.length_eraseIdx_of_lt hk]; omega,?_,hp'⟩
  rw [List.append_assoc]
  exact (List.Perm.append_left cs (mF lf k hk)).trans g3
 ·rintro us en hu ⟨cs,lf,o,p,rfl,rfl,g1,g2,g3,hp⟩
  rw [iX] at g1 g2 hp
  exact hq cs o p _ g1 (List.nodup_append.mp (g3.nodup_iff.mpr hc)).1 (hp.mono (by omega))
theorem Cb:∀ cs:List Nat,bg (cs.map s1)=true∧cy (cs.map s1)=0
 | []=>⟨rfl,rfl⟩
 | c :: cs=>by
  obtain ⟨h1,h2⟩:=Cb cs
  refine ⟨?_,?_⟩
  ·rw [List.map_cons]; simp only [bg,aH,h1]; rfl
  ·rw [List.map_cons]; simp only [cy,dM,h2]; rfl
theorem IC (cs:List Nat):neD (.list (cs.map s1)) (.list [])=some (.bool (!decide (cs=[]))):=by
 obtain ⟨h1,h2⟩:=Cb cs
 show grd _ _=_
 unfold grd
 rw [if_pos ⟨by simp only [aH]; exact h1,rfl,by simp only [dM,h2]; decide⟩]
 cases cs with
 | nil=>rfl
 | cons c cs=>rfl
structure TX (m:Nat) (ks:List Str):Prop where
 n4:ks.length≤4
 l:(a8 ks).length=m
 m12:m≤12
 nd:(a8 ks).Nodup
theorem vO {n m:Nat} {cs:List Nat} {p:D} {x1 x2 x5:Option D} (hp:Pn n p) (hn:n≤1000) (hm:cs.length=m) (h1:1≤m) (h12:m≤12) (hc:cs.Nodup) {Q:Fl→Prop}
  (h:∀ ks p' o3 o5,TX m ks→Pn (n+12) p'→Q (.nx [some p',x1,x2,o3,some (.list (ks.map .str)),o5])) :
  W (bq dG fG [some p,x1,x2,some (.list (cs.map s1)),some (.list []),x5]) Q:=by
 refine je (fun d en=>∃ p' left ks o5,en=[some p',x1,x2,some (.list (left.map s1)),some (.list (ks.map .str)),o5]∧left.length=d∧(a8 ks).length+left.length=m∧left.length+6 * ks.length≤24∧ks.length≤4∧Pn (n+ks.length) p'∧a8 ks++left=cs) (fun d en ⟨p',left,ks,o5,e,g1,g2,g3,g4,g5,g6⟩=>?_) (n:=cs.length) ⟨p,cs,[],x5,rfl,rfl,by simp [a8,hm],by simp; omega,by simp,hp,by simp [a8]⟩
 subst e
 have e0:=IC left
 by_cases hl:left=[]
 ·have q:decide (left=[])=true:=decide_eq_true hl
  simp only [ws,dG,e0,q]
  have l0:left.length=0:=by rw [hl]; rfl
  rw [hl,List.append_nil] at g6
  exact h ks p' _ _ ⟨g4,by omega,h12,by rw [g6]; exact hc⟩ (g5.mono (by omega))
 ·have q:decide (left=[])=false:=decide_eq_false hl
  have lp:0 < left.length:=List.length_pos_iff.mpr hl
  simp only [ws,dG,e0,q,fG]
  obtain ⟨mo,hmo⟩:∃ mo:Int,(if (left.length:Int) < 6 then (left.length:Int) else 6)=mo:=⟨_,rfl⟩
  have hm':1≤mo∧mo≤left.length∧mo≤6:=by rw [← hmo]; split <;> omega
  rw [hmo]
  refine du g5 (by omega) (by omega) (by omega) fun r p1 r0 r1 hp1=>?_
  simp only [ws,gt_iff_lt]
  refine ⟨.inl (by decide),?_⟩
  obtain ⟨z,hz⟩:∃ z:Nat,(if 1+r < (left.length:Int) - 6 * (3 - (ks.length:Int)) then (left.length:Int) - 6 * (3 - (ks.length:Int)) else 1+r)=(z:Int)∧1≤z∧z≤left.length∧(left.length:Int) - 6 * (3 - (ks.length:Int))≤z:=by
   split
   ·exact ⟨((left.length:Int) - 6 * (3 - (ks.length:Int))).toNat,by omega,by omega,by omega,by omega⟩
   ·exact ⟨(1+r).toNat,by omega,by omega,by omega,by omega⟩
  obtain ⟨hz,z1,zl,z3⟩:=hz
  have st:left.take z++left.drop z=left:=List.take_append_drop z left
  have tl:(left.take z).length=z:=by rw [List.length_take]; omega
  have dl:(left.drop z).length=left.length - z:=List.length_drop
  simp only [ws,hz,jB,sM,← List.map_take,← List.map_drop,m9 (cs:=left.take z) (by omega)]
  refine ⟨szl (by omega),(left.drop z).length,by omega,p1,left.drop z,ks++[ofL (left.take z)],_,by rw [List.map_append]; rfl,rfl,?_,?_,?_,hp1.mono (by rw [List.length_append]; show _≤n+(_+1); omega),?_⟩
  ·rw [nV,uk,List.length_append,tl,dl]
   omega
  ·rw [List.length_append,dl]
   show _+6 * (_+1)≤24
   omega
  ·rw [List.length_append]
   show _+1≤4
   omega
  ·rw [nV,uk,List.append_assoc,st,g6]
theorem tE {p:D} {n m:Nat} (hp:Pn n p) (hn:n≤900) (h1:1≤m) (h12:m≤12):W (cE [p,.int (m:Nat)]) (fun r=>∃ ks p',r=(tD ks,[some p',none])∧TX m ks∧Pn (n+24) p'):=by
 have e1:=nJ (z:="!\"#$&'()*+,-./0123456789:;<=>?\x40[\\]^_`{|}~") (by decide +kernel)
 have e2:=nJ (z:="ABCDEFGHIJKLMNOPQRSTUVWXYZabcdefghijklmnopqrstuvwxyz") (by decide +kernel)
 have ep:(li "!\"#$&'()*+,-./0123456789:;<=>?\x40[\\]^_`{|}~").map s1++(li "ABCDEFGHIJKLMNOPQRSTUVWXYZabcdefghijklmnopqrstuvwxyz").map s1=pool.map s1:=by rw [← List.map_append]; rfl
 simp only [cE,ic,ws,e1,e2,ep,Int.toNat_natCast]
 refine ⟨sz (by decide +kernel),by omega,CI hp (by omega) h12 vq CJ fun cs o' p' l' hl hc hp'=>?_⟩
 simp only [ws]
 refine vO hp' (by omega) hl h1 h12 hc fun ks p2 o3 o5 hT hp2=>?_
 simp only [ws]
 exact ⟨ks,p2,rfl,hT,hp2.mono (by omega)⟩
end W31
namespace W31
open PySem L2 Pen2 Mch Tg
section
variable {m:Nat} {ks:List Str}
theorem nQ {α:Type} (f:α→Bool):∀ l:List α,gQ (l.map fun a=>.bool (f a))=some (l.map f)
 | []=>rfl
 | a :: l=>by
  show (gQ (l.map fun a=>.bool (f a))).map (f a :: ·)=_
  rw [nQ f l]
  rfl
theorem all_map {α:Type} (f:α→Bool) (l:List α):kt [.list (l.map fun a=>.bool (f a))]=some (.bool (l.all f)):=by
 show (gQ _).map _=_
 rw [nQ]
 show some (PyData.bool ((l.map f).all id))=_
 rw [List.all_map]
 rfl
theorem m8 (T:TX m ks):joinD "" [tD ks]=some (.str (sgs ks)):=(nL (by have:=T.l; have:=T.m12; omega) (by have:=T.n4; omega)).1
theorem oX (T:TX m ks):W (bY [tD ks]) (fun r=>r=(.str (sgs ks),[none])):=by
 simp only [bY,kH,ws,m8 T]
def spl (ks:List Str) (r:List Nat):List Nat:=r.map fun n=>(a8 ks).getD n 0
theorem m3 (T:TX m ks) {r:List Nat} (hr:∀ a∈r,a < m):∀ c∈spl ks r,c∈a8 ks:=fun c hc=>by
 obtain ⟨a,ha,rfl⟩:=List.mem_map.mp hc
 have h:=hr a ha
 rw [← T.l] at h
 rw [List.getD_eq_getElem?_getD,List.getElem?_eq_getElem h]
 exact List.getElem_mem h
theorem mZ (T:TX m ks):∀ {r:List Nat},(∀ a∈r,a < m)→((spl ks r).map fun c=>(a8 ks).idxOf c)=r
 | [],_=>rfl
 | a :: r,hr=>by
  have h:=hr a List.mem_cons_self
  rw [← T.l] at h
  show (a8 ks).idxOf ((a8 ks).getD a 0) :: ((spl ks r).map fun c=>(a8 ks).idxOf c)=_
  rw [mZ T fun x hx=>hr x (List.mem_cons_of_mem _ hx),List.getD_eq_getElem?_getD,List.getElem?_eq_getElem h]
  show (a8 ks).idxOf (a8 ks)[a] :: r=_
  rw [T.nd.idxOf_getElem]
theorem oU (T:TX m ks) {r:List Nat} (hr:∀ a∈r,a < m) (hl:r.length≤60) {Q:List D × En→Prop} (hq:∀ o,Q ((spl ks r).map s1,o :: [some (.str (sgs ks))])) :
  W (lcF (gN 0) cY (e2 ixT (ad 1) (ad 0)) (r.map fun a:Nat=>.int a) [] [none,some (.str (sgs ks))]) Q:=by
 let F:D→D:=fun t=>match t with
  | .int n=>s1 ((a8 ks).getD n.toNat 0)
  | _=>.none
 refine dU F (by rw [List.length_map]; exact sz (by omega)) (fun t ht=>?_) fun o'=>?_
 ·obtain ⟨a,ha,rfl⟩:=List.mem_map.mp ht
  have h:=hr a ha
  rw [← T.l] at h
  have lz:(sgs ks).length=(a8 ks).length:=qY _
  have e:atI (li (sgs ks)) (a:Int)=some ((a8 ks).getD a 0):=by
   rw [aX]
   show (a8 ks)[a]?=_
   rw [List.getD_eq_getElem?_getD,List.getElem?_eq_getElem h]
   rfl
  simp only [ws,e]
  have:=T.l; have:=T.m12
  exact ⟨sz (by omega),rfl⟩
 ·have em:(r.map fun a:Nat=>PyData.int a).map F=(spl ks r).map s1:=by
   unfold spl
   rw [List.map_map,List.map_map]
   rfl
  rw [em]
  exact hq o'
theorem uw (T:TX m ks) {cs:List Nat} (hz:cs.length≤60) (hm:∀ c∈cs,c∈a8 ks):W (fI [tD ks,.str (ofL cs)]) (fun r=>r=(.bool true,[none,none])):=by
 have hl0:(ofL cs).length=cs.length:=qY cs
 have h1:¬ (60:Int) < ((ofL cs).length:Nat):=by omega
 simp only [fI,lX,ws,h1]
 refine ⟨sz (by omega),?_⟩
 refine W.use (oX T) ?_
 rintro _ rfl
 simp only [ws]
 have hl:(cc (ofL cs)).length=cs.length:=by unfold cc; rw [List.length_map]; rfl
 refine dU (fun _=>.bool true) (by rw [hl]; exact sz (by omega)) (fun t ht=>?_) fun o'=>?_
 ·obtain ⟨c,hc,rfl⟩:=List.mem_map.mp ht
  have e:i9 (sgs ks) (mk1 c)=true:=(StrLaws.found_one (sgs ks) c).trans (decide_eq_true (hm c hc))
  simp only [mU,ws,e]
 ·have e:=all_map (fun _:D=>true) (cc (ofL cs))
  simp only [ws,e]
  simp
theorem oZ (T:TX m ks) {cs:List Nat} (hw:∀ c∈cs,c∈a8 ks) (hl:cs.length≤60):W (gS [tD ks,.str (ofL cs)]) (fun r=>r=(bm (cs.map fun c=>(a8 ks).idxOf c),[none,none])):=by
 let F:D→D:=fun t=>match t with
  | .str z=>.int (((a8 ks).idxOf ((li z).headD 0):Nat):Int)
  | _=>.none
 simp only [gS,nw,ws]
 refine W.use (oX T) ?_
 rintro _ rfl
 simp only [ws]
 have hl:(cc (ofL cs)).length=cs.length:=by unfold cc; rw [List.length_map]; rfl
 refine dU F (by rw [hl]; exact sz (by omega)) (fun t ht=>?_) fun o'=>?_
 ·obtain ⟨c,hc,rfl⟩:=List.mem_map.mp ht
  obtain ⟨rest,hr⟩:=nN (z:=sgs ks) (c:=c) T.nd (hw c hc)
  have e:i8 (sgs ks) [.str (mk1 c)]=some (.int (((a8 ks).idxOf c:Nat):Int)):=by
   show (match Builtin.Str.occurrences (sgs ks) (mk1 c) 0 (sgs ks).length 1 with
    | i :: _=>some (PyData.int (i:Nat))
    | []=>none)=_
   rw [hr]
   rfl
  simp only [n9,ws,e]
  rfl
 ·simp only [ws]
  show (PyData.list _,_)=_
  have em:(cc (ofL cs)).map F=(cs.map fun c=>(a8 ks).idxOf c).map fun a:Nat=>.int a:=by
   unfold cc
   rw [List.map_map,List.map_map]
   rfl
  rw [em]
  rfl
theorem s0 (T:TX m ks) {r:List Nat} (hr:∀ a∈r,a < m) (hl:r.length≤60):W (fH [tD ks,bm r]) (fun q=>q=(.str (ofL (spl ks r)),[none,none])):=by
 have ls:(spl ks r).length=r.length:=List.length_map _
 simp only [fH,lV,ws]
 refine W.use (oX T) ?_
 rintro _ rfl
 simp only [ws,bm,mT]
 refine oU T hr hl fun o=>?_
 simp only [ws,m9 (cs:=spl ks r) (by omega)]
end
end W31
namespace W31
open PySem L2 Pen2 Mch Tg
section
variable {S W0:Nat} {es:List Bool} {gs:List (List (Option Nat))}
theorem mK (M:MOk S W0 es gs) {s a:Nat} (hs:s < S) (ha:a < W0):∃ (rr:List (Option Nat)) (o:Option Nat),atI (gs.map aQ) (s:Int)=some (.list (rr.map goD))∧atI (rr.map goD) (a:Int)=some (goD o)∧stp gs (some s) a=o∧Val S o:=by
 obtain ⟨rr,o,h1,h2,h3,h4,_⟩:=oS M hs ha
 refine ⟨rr,o,?_,?_,h3,h4⟩
 ·rw [aX,List.getElem?_map,h1]
  rfl
 ·rw [aX,List.getElem?_map,h2]
  rfl
def bP (es:List Bool):Option Nat→Bool
 | none=>false
 | some j=>es.getD j false
theorem u3 (M:MOk S W0 es gs) {s:Nat} (hs:s < S):atI (es.map PyData.bool) (s:Int)=some (.bool (es.getD s false)):=by
 have h1:s < es.length:=by rw [M.le]; exact hs
 rw [aX,List.getElem?_map,List.getElem?_eq_getElem h1,List.getD_eq_getElem?_getD,List.getElem?_eq_getElem h1]
 rfl
theorem qN (M:MOk S W0 es gs) {t:Option Nat} (ht:Val S t):wt gs es 0 t=if bP es t then 1 else 0:=by
 cases t with
 | none=>rfl
 | some j =>
  have h1:j < es.length:=by rw [M.le]; exact ht j rfl
  show (es.map _).getD j 0=if es.getD j false=true then 1 else 0
  rw [List.getD_eq_getElem?_getD,List.getElem?_map,List.getElem?_eq_getElem h1,List.getD_eq_getElem?_getD,List.getElem?_eq_getElem h1]
  rfl
theorem jr (t:Option Nat) (q:List Nat) (a:Nat):gne gs t (q++[a])=stp gs (gne gs t q) a:=by
 show (q++[a]).foldl (stp gs) t=_
 rw [List.foldl_append]
 rfl
theorem lE:∀ r:List Nat,gne gs none r=none
 | []=>rfl
 | a :: r=>lE r
theorem lr {r:List Nat} {i:Nat} {t:D} (h:(r.map fun a:Nat=>PyData.int a)[i]?=some t):∃ a,r[i]?=some a∧t=.int (a:Nat):=by
 rw [List.getElem?_map] at h
 obtain ⟨a,h1,h2⟩:=Option.map_eq_some_iff.mp h
 exact ⟨a,h1,h2.symm⟩
theorem GM (M:MOk S W0 es gs) {t:Option Nat} (ht:Val S t) {a:Nat} (ha:a < W0):W (lU [aC es gs,goD t,.int (a:Nat)]) (fun r=>r=(goD (stp gs t a),[none,none,none])):=by
 cases t with
 | none=>simp only [lU,sY,ws,goD]; rfl
 | some s =>
  obtain ⟨rr,o,h1,h2,h3,h4⟩:=mK M (ht s rfl) ha
  rw [h3]
  simp only [lU,sY,ws,goD,aC,h1,h2]
theorem iA (M:MOk S W0 es gs):Val S (some 0):=fun s e=>by cases e; exact M.s1
theorem Db (M:MOk S W0 es gs) {r:List Nat} (hr:∀ a∈r,a < W0):W (kW [aC es gs,.int 0,bm r]) (fun q=>q=(goD (gne gs (some 0) r),[none,none,none])):=by
 simp only [kW,sZ,ws,bm]
 refine iy (fun i en=>∃ o,en=[some (aC es gs),some (.int 0),some (bm r),some (goD (gne gs (some 0) (r.take i))),o]) ⟨none,rfl⟩ (fun i t en ht ⟨o,e⟩=>?_) fun en ⟨o,e⟩=>?_
 ·subst e
  obtain ⟨a,h1,rfl⟩:=lr ht
  simp only [ws,rD]
  refine W.use (GM M (eG M _ (iA M) fun x hx=>hr x (List.mem_of_mem_take hx)) (hr a (List.mem_of_getElem? h1))) ?_
  rintro _ rfl
  simp only [ws]
  rw [fU h1,jr]
  exact ⟨_,rfl⟩
 ·subst e
  simp only [ws]
  rw [List.take_length]
theorem vY (M:MOk S W0 es gs) {t:Option Nat} (ht:Val S t):W (fJ [aC es gs,goD t]) (fun r=>r=(.bool (bP es t),[none,none])):=by
 cases t with
 | none=>simp only [fJ,kX,ws,goD]; rfl
 | some s=>simp only [fJ,kX,ws,goD,aC,u3 M (ht s rfl),bP]
theorem C6 (M:MOk S W0 es gs) {r:List Nat} (hr:∀ a∈r,a < W0):W (kU [aC es gs,bm r]) (fun q=>q=(.bool (bP es (gne gs (some 0) r)),[none,none])):=by
 simp only [kU,sX,ws]
 refine W.use (Db M hr) ?_
 rintro _ rfl
 simp only [ws]
 refine W.use (vY M (eG M _ (iA M) hr)) ?_
 rintro _ rfl
 simp only [ws]
theorem vL (M:MOk S W0 es gs) {r:List Nat} (hr:∀ a∈r,a < W0):W (dI [aC es gs,.int 0,bm r]) (fun q=>q=(goD (gne gs (some 0) r),[none,none,none])):=by
 simp only [dI,jU,ws,bm]
 refine iy (fun i en=>∃ o,en=[some (aC es gs),some (goD (gne gs (some 0) (r.take i))),some (bm r),o]) ⟨none,rfl⟩ (fun i t en ht ⟨o,e⟩=>?_) fun en ⟨o,e⟩=>?_
 ·subst e
  obtain ⟨a,h1,rfl⟩:=lr ht
  have hv:=eG M (r.take i) (iA M) fun x hx=>hr x (List.mem_of_mem_take hx)
  have hs:gne gs (some 0) (r.take (i+1))=stp gs (gne gs (some 0) (r.take i)) a:=by rw [fU h1,jr]
  generalize gne gs (some 0) (r.take i)=t at hv hs
  rw [hs]
  cases t with
  | none=>simp only [ws,ib,goD]; exact ⟨_,rfl⟩
  | some s =>
   obtain ⟨rr,o,g1,g2,g3,g4⟩:=mK M (hv s rfl) (hr a (List.mem_of_getElem? h1))
   rw [g3]
   simp only [ws,ib,goD,aC,g1,g2]
   exact ⟨_,rfl⟩
 ·subst e
  simp only [ws]
  rw [List.take_length]
theorem lC (M:MOk S W0 es gs) {r:List Nat} (hr:∀ a∈r,a < W0):W (bT [aC es gs,bm r]) (fun q=>q=(.bool (bP es (gne gs (some 0) r)),[none,none])):=by
 simp only [bT,jT,ws]
 refine W.use (vL M hr) ?_
 rintro _ rfl
 simp only [ws]
 have hv:=eG M r (iA M) hr
 generalize gne gs (some 0) r=t at hv
 cases t with
 | none=>simp only [ws,goD]; rfl
 | some s=>simp only [ws,goD,aC,u3 M (hv s rfl),bP]
theorem ka (M:MOk S W0 es gs) {s a k:Nat} (hs:s < S) (ha:a < W0):W (cw [aC es gs,.int (s:Nat),.int (a:Nat),aB (it gs (base es) k)]) (fun r=>r=(.int (wt gs es k (stp gs (some s) a)),[none,none,none,none])):=by
 obtain ⟨rr,o,g1,g2,g3,g4⟩:=mK M hs ha
 rw [g3]
 cases o with
 | none =>
  simp only [cw,jR,ws,aC,g1,g2,goD]
  rfl
 | some j =>
  have e:atI ((it gs (base es) k).map PyData.int) (j:Int)=some (.int ((it gs (base es) k).getD j 0)):=i5 (by rw [M.lit]; exact g4 j rfl)
  simp only [cw,jR,ws,aC,g1,g2,goD,aB,e]
  rfl
theorem i7:∀ v:List Int,bJ (v.map PyData.int)=some v
 | []=>rfl
 | x :: v=>by
  show (bJ (v.map PyData.int)).map (x :: ·)=_
  rw [i7 v]
  rfl
theorem l8 (v:List Int):fj [.list (v.map PyData.int)]=some (.int v.sum):=by
 show (bJ _).map _=_
 rw [i7]
 rfl
theorem u4 (M:MOk S W0 es gs) {r:List Nat} (hr:∀ a∈r,a < W0) (hl:r.length≤60) (hf:gne gs (some 0) r≠none):W (cU [aC es gs,bi gs es r.length,bm r]) (fun q=>q=(.int (ra gs es 0 (some 0) r),[none,none,none])):=by
 simp only [cU,iQ,ws,bm]
 refine iy (fun i en=>∃ (c:Int) (s:Nat) (o5 o6 o7:Option D),en=[some (aC es gs),some (bi gs es r.length),some (bm r),some (.int c),some (.int (s:Nat)),o5,o6,o7]∧gne gs (some 0) (r.take i)=some s∧c+ra gs es 0 (some s) (r.drop i)=ra gs es 0 (some 0) r) ⟨0,0,none,none,none,rfl,rfl,by rw [List.drop_zero,Int.zero_add]⟩ (fun i t en ht ⟨c,s,o5,o6,o7,e,g1,g2⟩=>?_) fun en ⟨c,s,o5,o6,o7,e,g1,g2⟩=>?_
 ·subst e
  obtain ⟨t,ht2,rfl⟩:=fZ ht
  obtain ⟨a,h1,rfl⟩:=lr ht2
  obtain ⟨hi,ea⟩:=List.getElem?_eq_some_iff.mp h1
  have ha:a < W0:=hr a (List.mem_of_getElem? h1)
  have hs:s < S:=eG M (r.take i) (iA M) (fun x hx=>hr x (List.mem_of_mem_take hx)) s g1
  have ed:r.drop i=a :: r.drop (i+1):=by rw [List.drop_eq_getElem_cons hi,ea]
  have dl:(r.drop (i+1)).length=r.length - i - 1:=by rw [List.length_drop]; omega
  have en:((r.length:Int) - (i:Nat) - 1)=((r.length - i - 1:Nat):Int):=by omega
  have e7:atI ((List.range (r.length+1)).map fun i=>aB (it gs (base es) i)) ((r.length - i - 1:Nat):Int)=some (aB (it gs (base es) (r.length - i - 1))):=oN (n:=r.length) (by omega)
  obtain ⟨rr,o,q1,q2,q3,q4⟩:=mK M hs ha
  have ne:stp gs (some s) a≠none:=fun z=>hf (by
   have e1:r=r.take i++a :: r.drop (i+1):=by rw [← ed,List.take_append_drop]
   have e2:gne gs (some 0) r=gne gs (stp gs (gne gs (some 0) (r.take i)) a) (r.drop (i+1)):=by
    conv=>lhs; rw [e1]
    show (r.take i++a :: r.drop (i+1)).foldl (stp gs) (some 0)=_
    rw [List.foldl_append]
    rfl
   rw [e2,g1,z,lE])
  simp only [ws,jY,bm,bi,List.length_map,en,e7,Int.toNat_natCast]
  have w2:=M.w2
  refine ⟨by omega,dU (fun t=>match t with
   | .int b=>.int (wt gs es (r.length - i - 1) (stp gs (some s) b.toNat))
   | _=>.none) (by rw [iX]; exact sz (by have:=M.w2; omega)) (fun t ht=>?_) fun o'=>?_⟩
  ·obtain ⟨j,hj,ej⟩:=List.mem_iff_getElem.mp ht
   obtain ⟨b1,rfl⟩:=kK (List.getElem?_eq_some_iff.mpr ⟨hj,ej⟩)
   simp only [ws,j4,Int.zero_add]
   refine W.use (ka M hs (a:=j) (by omega)) ?_
   rintro _ rfl
   simp only [ws]
   rfl
  ·have em:(kb 0 a).map (fun t=>match t with
     | PyData.int b=>PyData.int (wt gs es (r.length - i - 1) (stp gs (some s) b.toNat))
     | _=>.none)=((List.range a).map fun b=>wt gs es (r.length - i - 1) (stp gs (some s) b)).map PyData.int:=by
    unfold kb
    rw [List.map_map,List.map_map]
    refine List.map_congr_left fun b _=>?_
    show PyData.int (wt gs es _ (stp gs (some s) (0+(b:Int)).toNat))=_
    rw [Int.zero_add,Int.toNat_natCast]
    rfl
   rw [em]
   simp only [ws,l8,aC,q1,q2]
   rw [q3] at ne
   cases o with
   | none=>exact absurd rfl ne
   | some j =>
    refine ⟨_,j,_,_,_,rfl,by rw [fU h1,jr,g1,q3],?_⟩
    rw [← g2,ed]
    show _=c+(((List.range a).map fun b=>wt gs es ((r.drop (i+1)).length+0) (stp gs (some s) b)).sum+ra gs es 0 (stp gs (some s) a) (r.drop (i+1)))
    rw [q3,dl,Int.add_assoc]
    rfl
 ·subst e
  rw [eP,List.length_map,List.drop_length] at g2
  simp only [ws]
  rw [← g2]
  show _=(PyData.int (c+0),_)
  rw [Int.add_zero]
end
end W31
namespace W31
open PySem L2 Pen2 Mch Tg
section
variable {S W0:Nat} {es:List Bool} {gs:List (List (Option Nat))} {ks:List Str}
theorem lY (M:MOk S W0 es gs) (k:Nat) (t:Option Nat):0≤wt gs es k t:=by
 cases t with
 | none=>exact Int.le_refl 0
 | some s =>
  show 0≤(it gs (base es) k).getD s 0
  rw [List.getD_eq_getElem?_getD]
  cases h:(it gs (base es) k)[s]? with
  | none=>exact Int.le_refl 0
  | some x=>exact (M.itB k x (List.mem_of_getElem? h)).1
theorem oQ {f:Nat→Int} (h:∀ b,0≤f b):∀ l:List Nat,0≤(l.map f).sum
 | []=>Int.le_refl 0
 | a :: l=>by
  rw [List.map_cons,List.sum_cons]
  have:=oQ h l
  have:=h a
  omega
def Sg (f:Nat→Int) (j:Nat):Int:=((List.range j).map f).sum
theorem dH (f:Nat→Int) (j:Nat):Sg f (j+1)=Sg f j+f j:=by
 unfold Sg
 rw [List.range_succ,List.map_append,List.sum_append]
 show _+(f j+0)=_
 rw [Int.add_zero]
theorem gR {f:Nat→Int} (h:∀ b,0≤f b) {i:Nat}:∀ {j:Nat},i≤j→Sg f i≤Sg f j
 | 0,hj=>by rw [show i=0 by omega]; exact Int.le_refl _
 | j+1,hj=>by
  by_cases e:i=j+1
  ·rw [e]; exact Int.le_refl _
  ·have:=gR h (i:=i) (j:=j) (by omega)
   have:=h j
   rw [dH]
   omega
theorem me (M:MOk S W0 es gs):∀ (r:List Nat) (t:Option Nat),0≤ra gs es 0 t r
 | [],_=>Int.le_refl 0
 | a :: r,t=>by
  have h1:=oQ (f:=fun b=>wt gs es (r.length+0) (stp gs t b)) (fun b=>lY M _ _) (List.range a)
  have h2:=me M r (stp gs t a)
  show 0≤((List.range a).map fun b=>wt gs es (r.length+0) (stp gs t b)).sum+ra gs es 0 (stp gs t a) r
  omega
theorem B8 (M:MOk S W0 es gs):∀ (r:List Nat) (t:Option Nat),Val S t→(∀ a∈r,a < W0)→ra gs es 0 t r+wt gs es 0 (gne gs t r)≤wt gs es r.length t
 | [],t,_,_=>by show 0+wt gs es 0 t≤_; rw [Int.zero_add]; exact Int.le_refl _
 | a :: r,t,ht,hr=>by
  have ha:=hr a List.mem_cons_self
  have ih:=B8 M r (stp gs t a) (gH M ht ha) fun x hx=>hr x (List.mem_cons_of_mem _ hx)
  have e:=qP M r.length ht
  have m:=gR (f:=fun b=>wt gs es r.length (stp gs t b)) (fun b=>lY M _ _) (i:=a+1) (j:=W0) (by omega)
  rw [dH] at m
  have e':Sg (fun b=>wt gs es r.length (stp gs t b)) W0=wt gs es (r.length+1) t:=e
  show Sg (fun b=>wt gs es r.length (stp gs t b)) a+ra gs es 0 (stp gs t a) r+wt gs es 0 (gne gs (stp gs t a) r)≤wt gs es (r.length+1) t
  omega
theorem DE {t:Option Nat} (h:bP es t=true):t≠none:=fun z=>by rw [z] at h; cases h
theorem oA (M:MOk S W0 es gs) {r:List Nat} {t:Option Nat} (ht:Val S t) (hr:∀ a∈r,a < W0) (hf:bP es (gne gs t r)=true):ra gs es 0 t r < wt gs es r.length t:=by
 have h:=B8 M r t ht hr
 rw [qN M (eG M r ht hr),hf] at h
 have:(if true=true then (1:Int) else 0)=1:=rfl
 omega
theorem Cw (M:MOk S W0 es gs) {s a k:Nat} (hs:s < S) (ha:a < W0) {L:Int} (l0:0≤L) (l1:L < wt gs es k (stp gs (some s) a)) {x1 x2 x3 x4:Option D} {Q:Fl→Prop}
  (h:Q (.nx [some (aC es gs),x1,x2,x3,x4,some (.int (s:Nat)),some (.int L),some (aB (it gs (base es) k)),some (.int (a:Nat))])) :
  W (bq kx kC [some (aC es gs),x1,x2,x3,x4,some (.int (s:Nat)),some (.int (Sg (fun b=>wt gs es k (stp gs (some s) b)) a+L)),some (aB (it gs (base es) k)),some (.int 0)]) Q:=by
 have nn:∀ b,0≤wt gs es k (stp gs (some s) b):=fun b=>lY M _ _
 refine je (fun d en=>∃ j:Nat,j≤a∧a - j=d∧en=[some (aC es gs),x1,x2,x3,x4,some (.int (s:Nat)),some (.int (Sg (fun b=>wt gs es k (stp gs (some s) b)) a - Sg (fun b=>wt gs es k (stp gs (some s) b)) j+L)),some (aB (it gs (base es) k)),some (.int (j:Nat))]) (fun d en ⟨j,j1,j2,e⟩=>?_) (n:=a) ⟨0,Nat.zero_le _,rfl,by show _=[_,_,_,_,_,_,some (PyData.int (_ - 0+L)),_,_]; rw [Int.sub_zero]; rfl⟩
 subst e
 simp only [ws,kx]
 refine W.use (ka M hs (a:=j) (by omega)) ?_
 rintro _ rfl
 by_cases hj:j=a
 ·subst hj
  have q:¬ (Sg (fun b=>wt gs es k (stp gs (some s) b)) j - Sg (fun b=>wt gs es k (stp gs (some s) b)) j+L ≥ wt gs es k (stp gs (some s) j)):=by omega
  simp only [ws,ge_iff_le] at q ⊢
  simp only [ws,q]
  rw [Int.sub_self,Int.zero_add]
  exact h
 ·have m:=gR (f:=fun b=>wt gs es k (stp gs (some s) b)) nn (i:=j+1) (j:=a) (by omega)
  rw [dH] at m
  have q:Sg (fun b=>wt gs es k (stp gs (some s) b)) a - Sg (fun b=>wt gs es k (stp gs (some s) b)) j+L ≥ wt gs es k (stp gs (some s) j):=by
   have m':Sg (fun b=>wt gs es k (stp gs (some s) b)) j+wt gs es k (stp gs (some s) j)≤Sg (fun b=>wt gs es k (stp gs (some s) b)) a:=m
   omega
  simp only [ws,ge_iff_le] at q ⊢
  simp only [ws,q,kC]
  refine W.use (ka M hs (a:=j) (by omega)) ?_
  rintro _ rfl
  simp only [ws]
  refine ⟨a - (j+1),by omega,j+1,by omega,rfl,?_⟩
  rw [dH]
  congr 7
  ·congr 2
   omega
theorem vi (M:MOk S W0 es gs) {r:List Nat} (hr:∀ a∈r,a < W0) (hl:r.length≤60) (hf:bP es (gne gs (some 0) r)=true):W (gU [aC es gs,bi gs es 60,.int (r.length:Nat),.int (ra gs es 0 (some 0) r)]) (fun q=>q=(bm r,[none,none,none,none])):=by
 simp only [gU,ny,ws]
 refine je (fun d en=>∃ (i s:Nat) (o7 o8:Option D),r.length - i=d∧i≤r.length∧gne gs (some 0) (r.take i)=some s∧en=[some (aC es gs),some (bi gs es 60),some (.int (r.length:Nat)),some (.int (ra gs es 0 (some 0) r)),some (bm (r.take i)),some (.int (s:Nat)),some (.int (ra gs es 0 (some s) (r.drop i))),o7,o8]) (fun d en ⟨i,s,o7,o8,d1,d2,d3,e⟩=>?_) (n:=r.length) ⟨0,0,none,none,rfl,Nat.zero_le _,rfl,rfl⟩
 subst e
 have tl:(r.take i).length=i:=by rw [List.length_take]; omega
 by_cases hi:i < r.length
 ·have q:((i:Nat):Int) < (r.length:Nat):=by omega
  obtain ⟨a,ea⟩:∃ a,r[i]?=some a:=⟨_,List.getElem?_eq_getElem hi⟩
  obtain ⟨_,eg⟩:=List.getElem?_eq_some_iff.mp ea
  have ha:a < W0:=hr a (List.mem_of_getElem? ea)
  have vs:=eG M (r.take i) (iA M) fun x hx=>hr x (List.mem_of_mem_take hx)
  have hs:s < S:=vs s d3
  have ed:r.drop i=a :: r.drop (i+1):=by rw [List.drop_eq_getElem_cons hi,eg]
  have dl:(r.drop (i+1)).length=r.length - i - 1:=by rw [List.length_drop]; omega
  have hr':∀ x∈r.drop (i+1),x < W0:=fun x hx=>hr x (List.mem_of_mem_drop hx)
  have e1:r=r.take i++a :: r.drop (i+1):=by rw [← ed,List.take_append_drop]
  have e2:gne gs (some 0) r=gne gs (stp gs (some s) a) (r.drop (i+1)):=by
   conv=>lhs; rw [e1]
   show (r.take i++a :: r.drop (i+1)).foldl (stp gs) (some 0)=_
   rw [List.foldl_append]
   show gne gs (stp gs (gne gs (some 0) (r.take i)) a) (r.drop (i+1))=_
   rw [d3]
  have hf':bP es (gne gs (stp gs (some s) a) (r.drop (i+1)))=true:=by rw [← e2]; exact hf
  have vv:Val S (stp gs (some s) a):=gH M (fun x e=>by cases e; exact hs) ha
  have lt:=oA M vv hr' hf'
  rw [dl] at lt
  have en:((r.length:Int) - (i:Nat) - 1)=((r.length - i - 1:Nat):Int):=by omega
  have e7:atI ((List.range (60+1)).map fun i=>aB (it gs (base es) i)) ((r.length - i - 1:Nat):Int)=some (aB (it gs (base es) (r.length - i - 1))):=oN (n:=60) (by omega)
  have er:ra gs es 0 (some s) (r.drop i)=Sg (fun b=>wt gs es (r.length - i - 1) (stp gs (some s) b)) a+ra gs es 0 (stp gs (some s) a) (r.drop (i+1)):=by
   rw [ed]
   show ((List.range a).map fun b=>wt gs es ((r.drop (i+1)).length+0) (stp gs (some s) b)).sum+_=_
   rw [dl]
   rfl
  obtain ⟨rr,o,q1,q2,q3,q4⟩:=mK M hs ha
  simp only [ws,kw,bm,List.length_map,tl,q,nZ,bi,en,e7,er]
  refine Cw M hs ha (me M _ _) lt ?_
  simp only [ws,aC,q1,q2,List.length_map,tl]
  rw [q3] at hf' ⊢
  cases o with
  | none=>rw [lE] at hf'; cases hf'
  | some j =>
   refine ⟨szl (by omega),r.length - (i+1),by omega,i+1,j,some (aB (it gs (base es) (r.length - i - 1))),some (.int (a:Nat)),rfl,by omega,by rw [fU ea,jr,d3,q3],?_⟩
   rw [fU ea]
   show _=[_,_,_,_,some (PyData.list ((r.take i++[a]).map fun a:Nat=>PyData.int a)),_,_,_,_]
   rw [List.map_append]
   rfl
 ·have ei:i=r.length:=by omega
  subst ei
  have q:¬ ((r.length:Nat):Int) < (r.length:Nat):=by omega
  simp only [ws,kw,bm,List.length_map,tl,q]
  rw [List.take_length]
end
end W31
namespace W31
open PySem L2 Pen2 Mch Tg
section
variable {S W0:Nat} {es:List Bool} {gs:List (List (Option Nat))} {ks:List Str}
def cn (gs:List (List (Option Nat))) (es:List Bool) (l:Nat):Int:=wt gs es l (some 0)
def num (gs:List (List (Option Nat))) (es:List Bool) (r:List Nat):Int:=Sg (cn gs es) r.length+ra gs es 0 (some 0) r
theorem sN (M:MOk S W0 es gs) (l:Nat):0≤cn gs es l:=lY M _ _
theorem u8 (n:Int):W (eR [.int n]) (fun r=>r=(.bool true,[none])):=by
 simp only [eR,kI,ws]
theorem Cq {l:Nat} {u:D} (h:(df ((List.range (60+1)).map fun i=>aB (it gs (base es) i)))[l]?=some u):l≤60∧u=.tuple [.int (l:Nat),aB (it gs (base es) l)]:=by
 obtain ⟨t,h1,rfl⟩:=fZ h
 have hl:=(List.getElem?_eq_some_iff.mp h1).1
 rw [List.length_map,List.length_range] at hl
 rw [List.getElem?_map,List.getElem?_range hl] at h1
 cases h1
 exact ⟨by omega,rfl⟩
theorem at0 (M:MOk S W0 es gs) (l:Nat):ixA (aB (it gs (base es) l)) (.int 0)=some (.int (cn gs es l)):=i5 (j:=0) (by rw [M.lit]; exact M.s1)
theorem nz (M:MOk S W0 es gs) (T:TX W0 ks) {r:List Nat} (hr:∀ a∈r,a < W0) (hl:r.length≤60) (hf:bP es (gne gs (some 0) r)=true):W (dw [tD ks,aC es gs,.int (num gs es r)]) (fun q=>q=(.str (ofL (spl ks r)),[none,none,none])):=by
 have lt:=oA M (iA M) hr hf
 have rn:=me M r (some 0)
 have sn:0≤Sg (cn gs es) r.length:=oQ (sN M) _
 have nn:¬ num gs es r < 0:=by unfold num; omega
 simp only [dw,lW,ws]
 refine W.use (u8 _) ?_
 rintro _ rfl
 simp only [ws,nn]
 refine W.of (show dY [aC es gs,.int (60:Nat)]=_ from oJ M (by decide)) ?_
 simp only [ws,bi]
 refine iy (fun l en=>l≤r.length∧∃ o5 o6,en=[some (tD ks),some (aC es gs),some (.int (num gs es r)),some (bi gs es 60),some (.int (num gs es r - Sg (cn gs es) l)),o5,o6]) ⟨Nat.zero_le _,none,none,by show _=[_,_,_,_,some (PyData.int (_ - 0)),_,_]; rw [Int.sub_zero]; rfl⟩ (fun l t en ht ⟨h1,o5,o6,e⟩=>?_) fun en ⟨h1,_⟩=>?_
 ·subst e
  obtain ⟨l60,rfl⟩:=Cq ht
  have e0:=at0 M l
  by_cases hl':l=r.length
  ·subst hl'
   have q:num gs es r - Sg (cn gs es) r.length < cn gs es r.length:=by
    unfold num
    show _ < wt gs es r.length (some 0)
    omega
   have e1:num gs es r - Sg (cn gs es) r.length=ra gs es 0 (some 0) r:=by unfold num; omega
   simp only [ws,jL,e0,q]
   rw [e1]
   refine W.use (vi M hr hl hf) ?_
   rintro _ rfl
   simp only [ws]
   refine W.use (s0 T hr hl) ?_
   rintro _ rfl
   simp only [ws]
  ·have m:=gR (sN M) (i:=l+1) (j:=r.length) (by omega)
   rw [dH] at m
   have q:¬ num gs es r - Sg (cn gs es) l < cn gs es l:=by unfold num; omega
   simp only [ws,jL,e0,q]
   refine ⟨by omega,?_⟩
   rw [dH,← Int.sub_sub]
   exact ⟨_,_,rfl⟩
 ·rw [eP,List.length_map,List.length_range] at h1
  omega
theorem nH (M:MOk S W0 es gs) (T:TX W0 ks) {r:List Nat} (hr:∀ a∈r,a < W0) (hl:r.length≤60) (hf:bP es (gne gs (some 0) r)=true):W (cq [tD ks,aC es gs,.str (ofL (spl ks r))]) (fun q=>q=(.int (num gs es r),[none,none,none])):=by
 have ls:(spl ks r).length=r.length:=List.length_map _
 simp only [cq,jS,ws]
 refine W.use (uw T (by omega) (m3 T hr)) ?_
 rintro _ rfl
 simp only [ws]
 refine W.use (oZ T (m3 T hr) (by omega)) ?_
 rintro _ rfl
 rw [mZ T hr]
 simp only [ws]
 refine W.use (C6 M hr) ?_
 rintro _ rfl
 rw [hf]
 simp only [ws,bm,List.length_map]
 refine W.of (show dY _=_ from oJ M hl) ?_
 have e1:dk ((List.range (r.length+1)).map fun i=>aB (it gs (base es) i)) none (some (r.length:Int))=(List.range r.length).map fun i=>aB (it gs (base es) i):=by
  rw [jB,← List.map_take,List.take_range,Nat.min_eq_left (by omega)]
 simp only [ws,bi,e1,List.length_map]
 refine dU (fun t=>(ixA t (.int 0)).getD .none) (by rw [List.length_map,List.length_range]; exact sz (by omega)) (fun t ht=>?_) fun o=>?_
 ·obtain ⟨i,_,rfl⟩:=List.mem_map.mp ht
  have e:ixA (aB (it gs (base es) i)) (.int 0)=some (.int (wt gs es i (some 0))):=i5 (j:=0) (by rw [M.lit]; exact M.s1)
  simp only [kF,ws,e]
  rfl
 ·have em:((List.range r.length).map fun i=>aB (it gs (base es) i)).map (fun t=>(ixA t (.int 0)).getD .none)=((List.range r.length).map fun l=>wt gs es l (some 0)).map PyData.int:=by
   rw [List.map_map,List.map_map]
   refine List.map_congr_left fun i _=>?_
   have e:ixA (aB (it gs (base es) i)) (.int 0)=some (.int (wt gs es i (some 0))):=i5 (j:=0) (by rw [M.lit]; exact M.s1)
   show (ixA _ _).getD _=_
   rw [e]
   rfl
  rw [em]
  simp only [ws,l8]
  refine W.use (u4 M hr hl (DE hf)) ?_
  rintro _ rfl
  simp only [ws]
  rfl
end
end W31
namespace W31
open PySem L2 Pen2 Mch Tg
section
variable {S W0:Nat} {es:List Bool} {gs:List (List (Option Nat))} {ks:List Str}
theorem nu {f:Nat→Int}:∀ {n:Nat} {L:Int},0≤L→L < Sg f n→∃ a,a < n∧Sg f a≤L∧L < Sg f a+f a
 | 0,L,h0,h1=>by
  have:Sg f 0=0:=rfl
  omega
 | n+1,L,h0,h1=>by
  by_cases hc:L < Sg f n
  ·obtain ⟨a,ha,h2⟩:=nu h0 hc
   exact ⟨a,by omega,h2⟩
  ·rw [dH] at h1
   exact ⟨n,by omega,by omega,h1⟩
theorem pb (M:MOk S W0 es gs):∀ (k:Nat) {t:Option Nat} {L:Int},Val S t→0≤L→L < wt gs es k t→∃ r:List Nat,r.length=k∧(∀ a∈r,a < W0)∧bP es (gne gs t r)=true∧ra gs es 0 t r=L
 | 0,t,L,ht,h0,h1=>by
  rw [qN M ht] at h1
  cases hf:bP es t with
  | true =>
   rw [hf,if_pos rfl] at h1
   exact ⟨[],rfl,(fun _ z=>nomatch z),hf,by show (0:Int)=L; omega⟩
  | false =>
   rw [hf,if_neg Bool.false_ne_true] at h1
   omega
 | k+1,t,L,ht,h0,h1=>by
  have e:Sg (fun b=>wt gs es k (stp gs t b)) W0=wt gs es (k+1) t:=qP M k ht
  rw [← e] at h1
  obtain ⟨a,ha,h2,h3⟩:=nu h0 h1
  obtain ⟨r,r1,r2,r3,r4⟩:=pb M k (t:=stp gs t a) (L:=L - Sg (fun b=>wt gs es k (stp gs t b)) a) (gH M ht ha) (by omega) (by omega)
  refine ⟨a :: r,by rw [List.length_cons,r1],fun x hx=>?_,r3,?_⟩
  ·rcases List.mem_cons.mp hx with e | hx
   ·rw [e]; exact ha
   ·exact r2 x hx
  ·show Sg (fun b=>wt gs es (r.length+0) (stp gs t b)) a+ra gs es 0 (stp gs t a) r=L
   rw [r1,r4]
   show Sg (fun b=>wt gs es k (stp gs t b)) a+_=_
   omega
theorem vE (M:MOk S W0 es gs) {n:Int} (h0:0≤n) (h1:n < Sg (cn gs es) 61):∃ r:List Nat,r.length≤60∧(∀ a∈r,a < W0)∧bP es (gne gs (some 0) r)=true∧num gs es r=n:=by
 obtain ⟨l,hl,h2,h3⟩:=nu h0 h1
 obtain ⟨r,r1,r2,r3,r4⟩:=pb M l (t:=some 0) (L:=n - Sg (cn gs es) l) (iA M) (by omega) (by show _ < cn gs es l; omega)
 refine ⟨r,by omega,r2,r3,?_⟩
 show Sg (cn gs es) r.length+ra gs es 0 (some 0) r=n
 rw [r1,r4]
 omega
theorem ue (M:MOk S W0 es gs) (r:List Nat):Sg (cn gs es) r.length≤num gs es r:=by
 have:=me M r (some 0)
 show _≤Sg (cn gs es) r.length+ra gs es 0 (some 0) r
 omega
theorem uf (M:MOk S W0 es gs) {r:List Nat} (hr:∀ a∈r,a < W0) (hf:bP es (gne gs (some 0) r)=true):num gs es r < Sg (cn gs es) r.length+cn gs es r.length:=by
 have:=oA M (iA M) hr hf
 show Sg (cn gs es) r.length+ra gs es 0 (some 0) r < _+wt gs es r.length (some 0)
 omega
def lw (r q:List Nat):Bool:=ltL (r.map fun a:Nat=>(a:Int)) (q.map fun a:Nat=>(a:Int))
theorem qX (a b:Nat) (r q:List Nat):lw (a :: r) (b :: q)=if a=b then lw r q else decide (a < b):=by
 show (if (a:Int)=(b:Int) then lw r q else decide ((a:Int) < (b:Int)))=_
 by_cases e:a=b
 ·rw [if_pos e,if_pos (by rw [e])]
 ·rw [if_neg e,if_neg (by omega)]
  exact decide_eq_decide.mpr (by omega)
theorem qQ (M:MOk S W0 es gs):∀ {r q:List Nat} {t:Option Nat},Val S t→r.length=q.length→(∀ a∈r,a < W0)→(∀ a∈q,a < W0)→bP es (gne gs t r)=true→lw r q=true→ra gs es 0 t r < ra gs es 0 t q
 | [],[],_,_,_,_,_,_,h=>nomatch h
 | [],_ :: _,_,_,h,_,_,_,_=>nomatch h
 | _ :: _,[],_,_,h,_,_,_,_=>nomatch h
 | a :: r,b :: q,t,ht,hl,hr,hq,hf,h=>by
  have hl':r.length=q.length:=by simpa using hl
  have ha:=hr a List.mem_cons_self
  have hb:=hq b List.mem_cons_self
  rw [qX] at h
  show Sg (fun c=>wt gs es (r.length+0) (stp gs t c)) a+ra gs es 0 (stp gs t a) r < Sg (fun c=>wt gs es (q.length+0) (stp gs t c)) b+ra gs es 0 (stp gs t b) q
  rw [← hl']
  by_cases e:a=b
  ·subst e
   rw [if_pos rfl] at h
   have:=qQ M (gH M ht ha) hl' (fun x hx=>hr x (List.mem_cons_of_mem _ hx)) (fun x hx=>hq x (List.mem_cons_of_mem _ hx)) hf h
   omega
  ·rw [if_neg e] at h
   have hab:a < b:=of_decide_eq_true h
   have h1:=oA M (r:=r) (gH M ht ha) (fun x hx=>hr x (List.mem_cons_of_mem _ hx)) hf
   have h2:=me M q (stp gs t b)
   have m:=gR (f:=fun c=>wt gs es (r.length+0) (stp gs t c)) (fun c=>lY M _ _) (i:=a+1) (j:=b) (by omega)
   rw [dH] at m
   have e2:wt gs es (r.length+0) (stp gs t a)=wt gs es r.length (stp gs t a):=rfl
   omega
theorem ug:∀ {r q:List Nat},r.length=q.length→lw r q=false→r≠q→lw q r=true
 | [],[],_,_,h=>absurd rfl h
 | [],_ :: _,h,_,_=>nomatch h
 | _ :: _,[],h,_,_=>nomatch h
 | a :: r,b :: q,hl,h,hn=>by
  rw [qX] at h ⊢
  by_cases e:a=b
  ·subst e
   rw [if_pos rfl] at h ⊢
   exact ug (by simpa using hl) h fun z=>hn (by rw [z])
  ·rw [if_neg e] at h
   rw [if_neg (Ne.symm e)]
   have:=of_decide_eq_false h
   exact decide_eq_true (by omega)
def lo (r q:List Nat):Bool:=if r.length=q.length then lw r q else decide (r.length < q.length)
theorem pz (M:MOk S W0 es gs) {r q:List Nat} (hr:∀ a∈r,a < W0) (hq:∀ a∈q,a < W0) (hf:bP es (gne gs (some 0) r)=true) (h:lo r q=true):num gs es r < num gs es q:=by
 unfold lo at h
 by_cases e:r.length=q.length
 ·rw [if_pos e] at h
  have:=qQ M (iA M) e hr hq hf h
  show Sg (cn gs es) r.length+ra gs es 0 (some 0) r < Sg (cn gs es) q.length+ra gs es 0 (some 0) q
  rw [e]
  omega
 ·rw [if_neg e] at h
  have hl:r.length < q.length:=of_decide_eq_true h
  have h1:=uf M hr hf
  have h2:=ue M q
  have m:=gR (f:=cn gs es) (sN M) (i:=r.length+1) (j:=q.length) (by omega)
  rw [dH] at m
  omega
theorem GK {r q:List Nat} (h:lo r q=false) (hn:r≠q):lo q r=true:=by
 unfold lo at h ⊢
 by_cases e:r.length=q.length
 ·rw [if_pos e] at h
  rw [if_pos e.symm]
  exact ug e h hn
 ·rw [if_neg e] at h
  rw [if_neg (Ne.symm e)]
  have:=of_decide_eq_false h
  exact decide_eq_true (by omega)
theorem CY (M:MOk S W0 es gs) {r q:List Nat} (hr:∀ a∈r,a < W0) (hq:∀ a∈q,a < W0) (hf:bP es (gne gs (some 0) r)=true) (hg:bP es (gne gs (some 0) q)=true):decide (num gs es r < num gs es q)=lo r q:=by
 cases h:lo r q with
 | true=>exact decide_eq_true (pz M hr hq hf h)
 | false =>
  refine decide_eq_false fun z=>?_
  by_cases e:r=q
  ·subst e; omega
  ·have:=pz M hq hr hg (GK h e)
   omega
theorem C5 (r q:List Nat):ltT (.tuple [.int (r.length:Nat),bm r]) (.tuple [.int (q.length:Nat),bm q])=some (.bool (lo r q)):=by
 have e:∀ l:List Nat,(l.map fun a:Nat=>PyData.int a)=(l.map fun a:Nat=>(a:Int)).map PyData.int:=fun l=>by rw [List.map_map]; rfl
 show (bJ (r.map fun a:Nat=>PyData.int a)).bind (fun ns=>(bJ (q.map fun a:Nat=>PyData.int a)).map fun ms=>PyData.bool (if (r.length:Int)=(q.length:Int) then ltL ns ms else decide ((r.length:Int) < (q.length:Int))))=_
 rw [e r,e q,i7,i7]
 show some (PyData.bool (if (r.length:Int)=(q.length:Int) then lw r q else _))=_
 unfold lo
 by_cases h:r.length=q.length
 ·rw [if_pos h,if_pos (by rw [h])]
 ·rw [if_neg h,if_neg (by omega)]
  rw [decide_eq_decide.mpr (show ((r.length:Int) < (q.length:Int))↔r.length < q.length by omega)]
end
end W31
namespace W31
open PySem L2 Pen2 Mch Tg
section
variable {S W0:Nat} {es:List Bool} {gs:List (List (Option Nat))} {ks:List Str}
theorem CW (v:List Int):(gs.map aQ).map (fun t=>(.int (rsD v t):D))=(nxt gs v).map .int:=by
 rw [nxt,List.map_map,List.map_map]; rfl
theorem wO:(es.map PyData.bool).map b1F=(base es).map .int:=by
 rw [base,List.map_map,List.map_map]; rfl
theorem Gc (M:MOk S W0 es gs) {v:List Int} (hv:v.length=S) {t:D} (ht:t∈gs.map aQ):W (gn [some t,some (aB v)]) (fun r=>r=(.int (rsD v t),[some t,some (aB v)])):=by
 obtain ⟨r,hr,rfl⟩:=List.mem_map.mp ht
 exact W.of (show gn _=_ from Ck (M.ok r hr) hv M.w2) rfl
def oP (gs:List (List (Option Nat))) (es:List Bool) (n:Nat):List D:=(List.range (n+1)).map fun i=>aB (it gs (base es) i)
theorem oO (n:Nat):(oP gs es n).length=n+1:=gE
theorem pK (M:MOk S W0 es gs) {N:Nat} (hN:N≤100):W (cV [aC es gs,.int (N:Int)]) (fun r=>r=(bi gs es N,[none,none])):=by
 simp only [ws,cV,iR,aC]
 refine dU b1F (by rw [List.length_map,M.le]; exact sz (by have:=M.s2; omega)) (fun t ht=>?_) fun o=>?_
 ·obtain ⟨b,_,rfl⟩:=List.mem_map.mp ht
  cases b <;> simp only [ws,j5,b1F] <;> rfl
 ·simp only [ws]
  rw [wO]
  refine je (fun d en=>∃ n x,n+d=N∧en=[some (aC es gs),some (.int (N:Int)),some (.list (oP gs es n)),x]) (fun d en ⟨n,x,hd,e⟩=>?_) (n:=N) ⟨0,none,by omega,rfl⟩
  subst e
  simp only [ws,jX]
  rw [oO]
  by_cases hn:n < N
  ·have q:decide (((n+1:Nat):Int)≤(N:Int))=true:=decide_eq_true (by omega)
   have a1:atI (oP gs es n) (-1)=some (aB (it gs (base es) n)):=oM
   simp only [ws,q,jZ,a1,aC]
   refine dU (fun t=>.int (rsD (it gs (base es) n) t)) (by rw [List.length_map,M.lg]; exact sz (by have:=M.s2; omega)) (fun t ht=>Gc M (M.lit n) ht) fun o=>?_
   rw [CW]
   simp only [ws]
   refine ⟨?_,?_⟩
   ·rw [oO]; exact szl (by omega)
   ·exact ⟨d - 1,by omega,n+1,_,by omega,by
     have e:oP gs es n++[aB (it gs (base es) (n+1))]=oP gs es (n+1):=oK
     rw [← e]; rfl⟩
  ·have q:decide (((n+1:Nat):Int)≤(N:Int))=false:=decide_eq_false (by omega)
   simp only [ws,q]
   rw [show n=N by omega]
   rfl
theorem JE {α:Type} {l:List α} {r:Int} {Q:α→Prop} (h0:0≤r) (h1:r < l.length) (h:∀ x∈l,Q x):W (atI l r) Q:=by
 obtain ⟨n,rfl⟩:=Int.eq_ofNat_of_zero_le h0
 have hn:n < l.length:=by omega
 exact W.of (show atI l (n:Int)=some l[n] by rw [aX,List.getElem?_eq_getElem hn]) (h _ (List.getElem_mem hn))
theorem vZ (T:TX W0 ks) {r:List Nat} (hr:∀ a∈r,a < W0) (hl:r.length≤60) {Q:List D × En→Prop} (hq:∀ o,Q (r.map (fun a:Nat=>PyData.int a),o :: [some (.str (sgs ks))])) :
  W (lcF (gN 0) cY dQ (cc (ofL (spl ks r))) [] [none,some (.str (sgs ks))]) Q:=by
 let F:D→D:=fun t=>match t with
  | .str z=>.int (((a8 ks).idxOf ((li z).headD 0):Nat):Int)
  | _=>.none
 have ls:(spl ks r).length=r.length:=List.length_map _
 have hl:(cc (ofL (spl ks r))).length=(spl ks r).length:=by unfold cc; rw [List.length_map]; rfl
 refine dU F (by rw [hl]; exact sz (by omega)) (fun t ht=>?_) fun o'=>?_
 ·obtain ⟨c,hc,rfl⟩:=List.mem_map.mp ht
  obtain ⟨rest,hr⟩:=nN (z:=sgs ks) (c:=c) T.nd (m3 T hr c hc)
  have e:i8 (sgs ks) [.str (mk1 c)]=some (.int (((a8 ks).idxOf c:Nat):Int)):=by
   show (match Builtin.Str.occurrences (sgs ks) (mk1 c) 0 (sgs ks).length 1 with
    | i :: _=>some (PyData.int (i:Nat))
    | []=>none)=_
   rw [hr]
   rfl
  simp only [dQ,ws,e]
  rfl
 ·have em:(cc (ofL (spl ks r))).map F=((spl ks r).map fun c=>(a8 ks).idxOf c).map fun a:Nat=>.int a:=by
   unfold cc
   rw [List.map_map,List.map_map]
   rfl
  rw [em,mZ T hr]
  exact hq o'
theorem C0 (l:List Nat):neD (.list (l.map fun a:Nat=>PyData.int a)) (.list [])=some (.bool (!decide (l=[]))):=by
 have h1:∀ l:List Nat,bg (l.map fun a:Nat=>PyData.int a)=true∧cy (l.map fun a:Nat=>PyData.int a)=0:=fun l=>by
  induction l with
  | nil=>exact ⟨rfl,rfl⟩
  | cons a l ih=>exact ⟨ih.1,by show max 0 (cy (l.map fun a:Nat=>PyData.int a))=0; rw [ih.2]; rfl⟩
 have h2:dM (.list (l.map fun a:Nat=>PyData.int a))≤60:=by
  show cy _+1≤60
  rw [(h1 l).2]
  decide
 have h3:aH (.list (l.map fun a:Nat=>PyData.int a))=true:=(h1 l).1
 unfold neD grd
 rw [if_pos ⟨h3,rfl,h2⟩]
 cases l <;> rfl
theorem tY {rr:List (Option Nat)} (hl:rr.length≤100) {Q:List D × En→Prop} (hq:∀ (os:List Nat) (en:En),(∀ a∈os,∃ j,rr[a]?=some (some j))→os.length≤100→Q (os.map (fun a:Nat=>PyData.int a),en)) :
  W (lcF (gT (gsC (gN 0) (gsC (gN 1) gs0))) eA gp (df (rr.map goD)) [] [none,none]) Q:=by
 refine Ig (fun i us en=>∃ (os:List Nat) (o1 o2:Option D),us=os.map (fun a:Nat=>PyData.int a)∧en=[o1,o2]∧∀ a∈os,∃ j,rr[a]?=some (some j)) (by rw [eP,List.length_map]; exact sz (by omega)) ⟨[],none,none,rfl,rfl,(fun _ z=>nomatch z)⟩ (fun i t us en ht hu ⟨os,o1,o2,e1,e2,h⟩=>?_) fun us en hl2 ⟨os,o1,o2,e1,e2,h⟩=>?_
 ·subst e1 e2
  obtain ⟨u,hu,rfl⟩:=fZ ht
  rw [List.getElem?_map] at hu
  obtain ⟨o,ho,rfl⟩:=Option.map_eq_some_iff.mp hu
  cases o with
  | none =>
   simp only [ws,eA,goD]
   exact ⟨os,_,_,rfl,rfl,h⟩
  | some j =>
   simp only [ws,eA,gp,goD]
   refine ⟨os++[i],_,_,by rw [List.map_append]; rfl,rfl,fun a ha=>?_⟩
   rcases List.mem_append.mp ha with ha | ha
   ·exact h a ha
   ·rw [List.mem_singleton.mp ha]; exact ⟨j,ho⟩
 ·subst e1
  rw [List.length_map,eP,List.length_map] at hl2
  exact hq os en h (by omega)
theorem wG (M:MOk S W0 es gs) {p:D} {n z:Nat} (hp:Pn n p) (hn:n≤900000) (hz:z≤60) :
  W (cZ [p,aC es gs,.int (z:Nat)]) (fun q=>∃ r p',q=(bm r,[some p',none,none])∧r.length≤60∧(∀ a∈r,a < W0)∧Pn (n+60) p'):=by
 have hz':((z:Nat):Int).toNat=z:=rfl
 simp only [ws,cZ,iU,hz']
 refine ⟨tL z (by omega),?_⟩
 refine iy (fun i en=>∃ (r:List Nat) (s:Nat) (p':D) (o5 o6 o7:Option D),en=[some p',some (aC es gs),some (.int (z:Nat)),some (bm r),some (.int (s:Nat)),o5,o6,o7]∧r.length≤i∧(∀ a∈r,a < W0)∧s < S∧Pn (n+i) p') ⟨[],0,p,none,none,none,rfl,Nat.le_refl _,(fun _ z=>nomatch z),M.s1,hp⟩ (fun i t en ht ⟨r,s,p',o5,o6,o7,e,h1,h2,h3,h4⟩=>?_) fun en ⟨r,s,p',o5,o6,o7,e,h1,h2,h3,h4⟩=>?_
 ·subst e
  obtain ⟨hi,rfl⟩:=kK ht
  have hgl:s < gs.length:=by rw [M.lg]; exact h3
  have hro:=M.ok _ (List.getElem_mem hgl)
  have ea:atI (gs.map aQ) (s:Int)=some (aQ gs[s]):=by
   rw [aX,List.getElem?_map,List.getElem?_eq_getElem hgl]
   rfl
  simp only [ws,j3,aC,ea,aQ]
  refine tY (by rw [hro.1]; have:=M.w2; omega) fun os en1 ho hol=>?_
  simp only [ws]
  rw [C0]
  cases os with
  | nil =>
   simp only [ws]
   exact ⟨r,s,p',_,_,_,rfl,by omega,h2,h3,h4.mono (by omega)⟩
  | cons a0 os' =>
   generalize hos:a0 :: os'=os at ho hol
   have hne:os≠[]:=by rw [← hos]; exact List.cons_ne_nil _ _
   have hpos:0 < os.length:=List.length_pos_iff.mpr hne
   have dz:decide (os=[])=false:=decide_eq_false hne
   simp only [ws,dz,Bool.not_false,List.length_map]
   refine du h4 (by omega) (by omega) (by omega) fun x p2 x0 x1 hp2=>?_
   simp only [ws]
   refine JE x0 (by rw [List.length_map]; exact x1) fun y hy=>?_
   obtain ⟨a,ha,rfl⟩:=List.mem_map.mp hy
   obtain ⟨j,hj⟩:=ho a ha
   have haW:a < W0:=by rw [← hro.1]; exact (List.getElem?_eq_some_iff.mp hj).1
   have eb:atI ((gs[s]).map goD) (a:Int)=some (.int (j:Nat)):=by
    rw [aX,List.getElem?_map,hj]
    rfl
   simp only [ws,bm,ea,aQ,eb,List.length_map]
   refine ⟨szl (by omega),r++[a],j,p2,some (.int (0+(i:Nat))),some (.list (os.map fun a:Nat=>PyData.int a)),some (.int (a:Nat)),by rw [List.map_append]; rfl,by rw [List.length_append]; show _+1≤_; omega,fun y hy=>?_,hro.2 _ (List.mem_of_getElem? hj) j rfl,hp2.mono (by omega)⟩
   ·rcases List.mem_append.mp hy with hy | hy
    ·exact h2 y hy
    ·rw [List.mem_singleton.mp hy]; exact haW
 ·subst e
  rw [iX] at h1 h4
  simp only [ws]
  exact ⟨r,p',rfl,by omega,h2,h4.mono (by omega)⟩
theorem nC (M:MOk S W0 es gs) {n:Nat} (C:ME) (hC:∀ i,W (C [some (aB (it gs (base es) i))]) (fun r=>r=(.int (cn gs es i),[some (aB (it gs (base es) i))]))) (hn:n≤100) {Q:List D × En→Prop}
  (hq:∀ o,Q (((List.range n).map (cn gs es)).map PyData.int,[o])):W (lcF (gN 0) cY C ((List.range n).map fun i=>aB (it gs (base es) i)) [] [none]) Q:=by
 refine dU (fun t=>(ixA t (.int 0)).getD .none) (by rw [List.length_map,List.length_range]; exact sz (by omega)) (fun t ht=>?_) fun o=>?_
 ·obtain ⟨i,_,rfl⟩:=List.mem_map.mp ht
  rw [at0 M i]
  exact hC i
 ·have em:((List.range n).map fun i=>aB (it gs (base es) i)).map (fun t=>(ixA t (.int 0)).getD .none)=((List.range n).map (cn gs es)).map PyData.int:=by
   rw [List.map_map,List.map_map]
   refine List.map_congr_left fun i _=>?_
   show (ixA _ _).getD _=_
   rw [at0 M i]
   rfl
  rw [em]
  exact hq o
theorem vj (M:MOk S W0 es gs) (T:TX W0 ks) {r:List Nat} (hr:∀ a∈r,a < W0) (hl:r.length≤60) (hf:bP es (gne gs (some 0) r)=true):W (cx [tD ks,aC es gs,bi gs es 60,bm r]) (fun q=>q=(.bool true,[none,none,none,none])):=by
 have ls:(spl ks r).length=r.length:=List.length_map _
 simp only [ws,cx,iS,m8 T,bm,j7]
 refine oU T hr hl fun o=>?_
 simp only [ws,m9 (cs:=spl ks r) (by omega),List.length_map]
 refine W.use (nH M T hr hl hf) ?_
 rintro _ rfl
 have e1:dk ((List.range (60+1)).map fun i=>aB (it gs (base es) i)) none (some (r.length:Int))=(List.range r.length).map fun i=>aB (it gs (base es) i):=by
  rw [jB,← List.map_take,List.take_range,Nat.min_eq_left (by omega)]
 simp only [ws,bi,e1]
 refine nC M _ (fun i=>by simp only [j6,ws,at0 M i]) (by omega) fun o=>?_
 have e2:ixA (bi gs es 60) (.int (r.length:Nat))=some (aB (it gs (base es) r.length)):=oN hl
 have n1:=ue M r
 have n2:=uf M hr hf
 have n3:((List.range r.length).map (cn gs es)).sum=Sg (cn gs es) r.length:=rfl
 have e3:atI ((List.range (60+1)).map fun i=>aB (it gs (base es) i)) (r.length:Int)=some (aB (it gs (base es) r.length)):=e2
 simp only [ws,l8,n3,n1,e3,at0 M r.length,n2]
 refine W.use (nz M T hr hl hf) ?_
 rintro _ rfl
 simp only [ws]
theorem iV (M:MOk S W0 es gs) (T:TX W0 ks) {p:D} {n z:Nat} (hp:Pn n p) (hn:n≤900000) (hz:z≤60) {x3 x5 x6 x7 x8 x9 x10 x11 x12 x13:Option D} :
  W (dN [some p,some (tD ks),some (aC es gs),x3,some (bi gs es 60),x5,x6,x7,x8,x9,x10,x11,x12,x13,some (.int (z:Nat))]) (fun fl=>∃ p' r',fl=.nx [some p',some (tD ks),some (aC es gs),x3,some (bi gs es 60),x5,x6,x7,x8,x9,x10,r',x12,x13,some (.int (z:Nat))]∧Pn (n+60) p'):=by
 simp only [ws,dN]
 refine W.use (wG M hp hn hz) ?_
 rintro _ ⟨r,p',rfl,h1,h2,hp'⟩
 simp only [ws]
 refine je (fun d en=>∃ r:List Nat,r.length=d∧en=[some p',some (tD ks),some (aC es gs),x3,some (bi gs es 60),x5,x6,x7,x8,x9,x10,some (bm r),x12,x13,some (.int (z:Nat))]∧r.length≤60∧∀ a∈r,a < W0) (fun d en ⟨r,hd,e,l1,l2⟩=>?_) (n:=r.length) ⟨r,rfl,rfl,h1,h2⟩
 subst e
 have fin:∀ (b:Bool),bP es (gne gs (some 0) r)=b→W (sIf (cD (tV (aq bT (ae (ad 2) (ae (ad 11) ai)))) (e9 (tV (aq cx (ae (ad 1) (ae (ad 2) (ae (ad 4) (ae (ad 11) ai)))))))) (aF (eC (.bool false))) bt [some p',some (tD ks),some (aC es gs),x3,some (bi gs es 60),x5,x6,x7,x8,x9,x10,some (bm r),x12,x13,some (.int (z:Nat))]) (fun fl=>∃ p' r',fl=.nx [some p',some (tD ks),some (aC es gs),x3,some (bi gs es 60),x5,x6,x7,x8,x9,x10,r',x12,x13,some (.int (z:Nat))]∧Pn (n+60) p'):=fun b hb=>by
  simp only [ws]
  refine W.use (lC M l2) ?_
  rintro _ rfl
  rw [hb]
  cases b with
  | false =>
   simp only [ws]
   exact ⟨p',_,rfl,hp'⟩
  | true =>
   simp only [ws]
   refine W.use (vj M T l2 l1 hb) ?_
   rintro _ rfl
   simp only [ws]
   exact ⟨p',_,rfl,hp'⟩
 simp only [ws,gt,bm,List.length_map]
 by_cases h0:(0:Int) < (r.length:Nat)
 ·simp only [ws,h0]
  refine W.use (lC M l2) ?_
  rintro _ rfl
  cases hf:bP es (gne gs (some 0) r) with
  | true =>
   simp only [ws]
   have z:=fin true hf
   simp only [ws,bm] at z
   exact z
  | false =>
   simp only [ws,gu]
   have hpos:0 < r.length:=by omega
   have hp:nb 11 [some p',some (tD ks),some (aC es gs),x3,some (bi gs es 60),x5,x6,x7,x8,x9,x10,some (.list (r.map fun a:Nat=>PyData.int a)),x12,x13,some (.int (z:Nat))]=some (.int ((r.getD (r.length - 1) 0:Nat):Int),[some p',some (tD ks),some (aC es gs),x3,some (bi gs es 60),x5,x6,x7,x8,x9,x10,some (bm r.dropLast),x12,x13,some (.int (z:Nat))]):=by
    show (((r.map fun a:Nat=>PyData.int a)[(r.map fun a:Nat=>PyData.int a).length - 1]?).map fun t=>(t,[some p',some (tD ks),some (aC es gs),x3,some (bi gs es 60),x5,x6,x7,x8,x9,x10,some (PyData.list (r.map fun a:Nat=>PyData.int a).dropLast),x12,x13,some (PyData.int (z:Nat))]))=_
    rw [List.length_map,List.getElem?_map,List.getElem?_eq_getElem (by omega),← List.map_dropLast,List.getD_eq_getElem?_getD,List.getElem?_eq_getElem (by omega)]
    rfl
   refine W.of hp ?_
   simp only [ws]
   exact ⟨r.dropLast.length,by rw [List.length_dropLast]; omega,r.dropLast,rfl,rfl,by rw [List.length_dropLast]; omega,fun a ha=>l2 a (List.dropLast_subset _ ha)⟩
 ·simp only [ws,h0]
  cases hf:bP es (gne gs (some 0) r) with
  | true =>
   have z:=fin true hf
   simp only [ws,bm] at z
   exact z
  | false =>
   have z:=fin false hf
   simp only [ws,bm] at z
   exact z
end
end W31
namespace W31
open PySem L2 Pen2 Mch Tg
section
variable {S W0:Nat} {es:List Bool} {gs:List (List (Option Nat))} {ks:List Str}
theorem C2 {r x:Int} (h0:0≤r) (h1:r < 1000):vH (.int r) (.int x)=some (.int (r * x)):=by
 have hb:Builtin.Int.intBits r≤64:=by
  obtain ⟨n,rfl⟩:=Int.eq_ofNat_of_zero_le h0
  have hn:n < 1000:=by omega
  have:n.log2 < 64:=by
   rcases Nat.eq_zero_or_pos n with e | e
   ·rw [e]; decide
   ·exact (Nat.log2_lt (by omega)).mpr (by omega)
  unfold Builtin.Int.intBits
  simp
  split <;> omega
 exact if_pos (IntMulOk.of_left hb)
theorem rq (x:Int):oE (.int x) (.int 1000)=some (.int (x.fdiv 1000)):=by
 show (if (1000:Int)≠0∧Builtin.divisionGoesByPylong x 1000=false then some (PyData.int (x.fdiv 1000)) else none)=_
 exact if_pos ⟨by decide,PyProof.noPylong_small (by decide)⟩
def ent (gs:List (List (Option Nat))) (es:List Bool) (r:List Nat):D:=.tuple [.int (num gs es r),.tuple [.int (r.length:Nat),bm r]]
structure Gd (gs:List (List (Option Nat))) (es:List Bool) (W0:Nat) (r:List Nat):Prop where
 l:r.length≤60
 w:∀ a∈r,a < W0
 f:bP es (gne gs (some 0) r)=true
theorem rz {α:Type} {xs:List α} {lo hi:Option Int} {x:α} (h:x∈dk xs lo hi):x∈xs:=by
 unfold dk at h
 first
  | exact List.mem_of_mem_drop (List.mem_of_mem_take h)
  | exact List.mem_of_mem_take (List.mem_of_mem_drop h)
theorem Cp {ts us:List D} {t:D} (h:t∈iz ts us):∃ x y,x∈ts∧y∈us∧t=.tuple [x,y]:=by
 unfold iz at h
 induction ts generalizing us with
 | nil=>cases h
 | cons a ts ih =>
  cases us with
  | nil=>cases h
  | cons b us =>
   rw [List.zipWith_cons_cons] at h
   rcases List.mem_cons.mp h with h | h
   ·exact ⟨a,b,List.mem_cons_self,List.mem_cons_self,h⟩
   ·obtain ⟨x,y,h1,h2,h3⟩:=ih h
    exact ⟨x,y,List.mem_cons_of_mem _ h1,List.mem_cons_of_mem _ h2,h3⟩
theorem qz (M:MOk S W0 es gs) (T:TX W0 ks) {n:Int} (h0:0≤n) (h1:n < Sg (cn gs es) 61) {rs:List (List Nat)} (hl:rs.length < 100) {x0 x4 x5 x6 x7 x10 x11 x12 x13 x14:Option D} {Q:Fl→Prop}
  (hq:∀ r o10 o11,Gd gs es W0 r→Q (.nx [x0,some (tD ks),some (aC es gs),some (.str (sgs ks)),x4,x5,x6,x7,some (.list ((rs++[r]).map (ent gs es))),some (.int n),o10,o11,x12,x13,x14])) :
  W (dP [x0,some (tD ks),some (aC es gs),some (.str (sgs ks)),x4,x5,x6,x7,some (.list (rs.map (ent gs es))),some (.int n),x10,x11,x12,x13,x14]) Q:=by
 obtain ⟨r,l,w,f,e⟩:=vE M h0 h1
 have ls:(spl ks r).length=r.length:=List.length_map _
 subst e
 simp only [ws,dP]
 refine W.use (nz M T w l f) ?_
 rintro _ rfl
 simp only [ws]
 refine vZ T w l fun o=>?_
 simp only [ws]
 refine W.use (lC M w) ?_
 rintro _ rfl
 rw [f]
 simp only [ws]
 refine W.use (nH M T w l f) ?_
 rintro _ rfl
 simp only [ws,List.length_map]
 have:=hq r (some (.str (ofL (spl ks r)))) (some (bm r)) ⟨l,w,f⟩
 rw [List.map_append] at this
 exact ⟨szl (by omega),this⟩
theorem tX (M:MOk S W0 es gs) {r q:List Nat} (hr:Gd gs es W0 r) (hq:Gd gs es W0 q) {x0 x1 x2 x3 x4 x5 x6 x7 x8 x9 x10 x11 x14:Option D} {Q:Fl→Prop}
  (h:Q (.nx [x0,x1,x2,x3,x4,x5,x6,x7,x8,x9,x10,x11,some (ent gs es r),some (ent gs es q),x14])) :
  W (dO [x0,x1,x2,x3,x4,x5,x6,x7,x8,x9,x10,x11,some (ent gs es r),some (ent gs es q),x14]) Q:=by
 have e:=CY M hr.w hq.w hr.f hq.f
 simp only [ws,dO,ent,C5,e,beq_self_eq_true]
 exact h
def inB (N:Int):D→Bool
 | .int x=>decide (0≤x∧x < N)
 | _=>false
theorem qF (M:MOk S W0 es gs) (T:TX W0 ks) {p:D} {n:Nat} (hp:Pn n p) (hn:n≤100000):W (bM [p,tD ks,aC es gs]) (fun q=>∃ p',q=(.bool true,[some p',none,none])∧Pn (n+400) p'):=by
 simp only [ws,bM,fg,m8 T]
 refine W.use (pK M (N:=60) (by decide)) ?_
 rintro _ rfl
 simp only [ws,bi]
 refine nC M _ (fun i=>by simp only [gy,ws,at0 M i]) (n:=60+1) (by decide) fun o=>?_
 have eN:((List.range (60+1)).map (cn gs es)).sum=Sg (cn gs es) 61:=rfl
 generalize hN:Sg (cn gs es) 61=N at eN
 simp only [ws,l8,eN]
 have t4:Int.toNat 4=4:=rfl
 rw [t4]
 refine ⟨by decide,?_⟩
 refine iy (fun i en=>∃ (ns:List Int) (p':D) (o7:Option D),en=[some p',some (tD ks),some (aC es gs),some (.str (sgs ks)),some (bi gs es 60),some (.int N),some (.list (ns.map .int)),o7,none,none,none,none,none,none,none]∧ns.length=4+i∧Pn (n+2 * i) p') ⟨[0,1,N - 2,N - 1],p,none,rfl,rfl,hp⟩ (fun i t en ht ⟨ns,p',o7,e,h1,h2⟩=>?_) fun en ⟨ns,p',o7,e,h1,h2⟩=>?_
 ·subst e
  obtain ⟨hi,rfl⟩:=kK ht
  simp only [ws,gw]
  refine du h2 (by omega) (by decide) (by decide) fun x p2 x0 x1 hp2=>?_
  simp only [ws,C2 x0 x1,rq]
  refine du hp2 (by omega) (by decide) (by decide) fun y p3 y0 y1 hp3=>?_
  simp only [ws,List.length_map]
  exact ⟨szl (by omega),ns++[(x * N).fdiv 1000+y],p3,some (.int (0+(i:Nat))),by rw [List.map_append]; rfl,by rw [List.length_append,h1]; rfl,hp3.mono (by omega)⟩
 ·subst e
  rw [iX] at h1 h2
  obtain ⟨n0,n1,n2,n3,n4,n5,n6,n7,rfl⟩:∃ a b c d e f g h,ns=[a,b,c,d,e,f,g,h]:=by
   match ns,h1 with
   | [a,b,c,d,e,f,g,h],_=>exact ⟨a,b,c,d,e,f,g,h,rfl⟩
  clear h1
  have a1:atI (([n0,n1,n2,n3,n4,n5,n6,n7]:List Int).map PyData.int) (-1)=some (.int n7):=rfl
  have a2:atI (([n0,n1,n2,n3,n4,n5,n6,n7]:List Int).map PyData.int) (-2)=some (.int n6):=rfl
  simp only [ws,a1,a2,rq]
  generalize hL:([n0,n1,n2,n3,n4,n5,n6,n7]:List Int).map PyData.int++[PyData.int (n7+1),PyData.int (n6.fdiv 1000)]=L
  have eL:L=([n0,n1,n2,n3,n4,n5,n6,n7,n7+1,n6.fdiv 1000]:List Int).map PyData.int:=by rw [← hL]; rfl
  subst eL
  generalize hM:([n0,n1,n2,n3,n4,n5,n6,n7,n7+1,n6.fdiv 1000]:List Int)=ms
  have ml:ms.length=10:=by rw [← hM]; rfl
  refine ⟨sz (by show 10≤1000; decide),?_⟩
  have hin:∀ x:Int,W (bR [some (.int x),some (.int N)]) (fun r=>r=(inB N (.int x),[some (.int x),some (.int N)])):=fun x=>by
   by_cases g0:0≤x
   ·by_cases g1:x < N
    ·simp only [ws,bR,g0,g1,inB]
    ·simp only [ws,bR,g0,g1,inB]
   ·simp only [ws,bR,g0,inB]
  refine u5 (inB N) (fun t=>t) (by rw [List.length_map,ml]; exact sz (by decide)) (fun t ht=>?_) (fun t ht _=>?_) fun o'=>?_
  ·obtain ⟨x,_,rfl⟩:=List.mem_map.mp ht
   exact hin x
  ·simp only [ws,gx]
  ·have ef:((ms.map PyData.int).filter (inB N)).map (fun t=>t)=(ms.filter fun x=>decide (0≤x∧x < N)).map PyData.int:=by
    rw [List.map_id',List.filter_map]
    rfl
   rw [ef]
   have fl:(ms.filter fun x=>decide (0≤x∧x < N)).length≤10:=by rw [← ml]; exact List.length_filter_le _ _
   have fm:∀ x∈db (ms.filter fun x=>decide (0≤x∧x < N)),0≤x∧x < N:=fun x hx=>by
    have:=(eT _).mem_iff.mp hx
    exact of_decide_eq_true (List.mem_filter.mp this).2
   have sl:(db (ms.filter fun x=>decide (0≤x∧x < N))).length≤10:=by rw [(eT _).length_eq]; exact fl
   have es':rN [.list ((ms.filter fun x=>decide (0≤x∧x < N)).map PyData.int)]=some (.list ((db (ms.filter fun x=>decide (0≤x∧x < N))).map PyData.int)):=by
    show (bJ _).bind _=_
    rw [i7]
    show grd _ _=_
    unfold grd
    rw [if_pos (by omega)]
   generalize db (ms.filter fun x=>decide (0≤x∧x < N))=so at fm sl es'
   simp only [ws,es']
   refine iy (fun i en=>∃ (rs:List (List Nat)) (o9 o10 o11:Option D),en=[some p',some (tD ks),some (aC es gs),some (.str (sgs ks)),some (bi gs es 60),some (.int N),some (.list (([n0,n1,n2,n3,n4,n5,n6,n7]:List Int).map PyData.int)),o7,some (.list (rs.map (ent gs es))),o9,o10,o11,none,none,none]∧rs.length≤i∧∀ r∈rs,Gd gs es W0 r) ⟨[],none,none,none,?_,Nat.le_refl _,(fun _ z=>nomatch z)⟩ (fun i t en ht ⟨rs,o9,o10,o11,e,h3,h4⟩=>?_) fun en ⟨rs,o9,o10,o11,e,h3,h4⟩=>?_
   ·rfl
   ·subst e
    have hi:=(List.getElem?_eq_some_iff.mp ht).1
    rw [List.length_map] at hi
    obtain ⟨x,hx,rfl⟩:=List.mem_map.mp (List.mem_of_getElem? ht)
    obtain ⟨x0,x1⟩:=fm x hx
    simp only [ws]
    refine qz M T x0 (by rw [hN]; exact x1) (by omega) fun r o10' o11' g=>?_
    simp only [ws]
    refine ⟨rs++[r],_,_,_,rfl,by rw [List.length_append]; show _+1≤_; omega,fun q hq=>?_⟩
    rcases List.mem_append.mp hq with hq | hq
    ·exact h4 q hq
    ·rw [List.mem_singleton.mp hq]; exact g
   ·subst e
    simp only [ws]
    refine Ih (fun en=>∃ o12 o13:Option D,en=[some p',some (tD ks),some (aC es gs),some (.str (sgs ks)),some (bi gs es 60),some (.int N),some (.list (([n0,n1,n2,n3,n4,n5,n6,n7]:List Int).map PyData.int)),o7,some (.list (rs.map (ent gs es))),o9,o10,o11,o12,o13,none]) ⟨none,none,rfl⟩ (fun t ht en hJ=>?_) fun en hJ=>?_
    ·obtain ⟨o12,o13,rfl⟩:=hJ
     obtain ⟨x,y,hx,hy,rfl⟩:=Cp ht
     obtain ⟨r,hr,rfl⟩:=List.mem_map.mp (rz hx)
     obtain ⟨q,hq,rfl⟩:=List.mem_map.mp (rz hy)
     simp only [ws]
     refine tX M (h4 r hr) (h4 q hq) ?_
     simp only [ws]
     exact ⟨_,_,rfl⟩
    ·obtain ⟨o12,o13,rfl⟩:=hJ
     simp only [ws]
     refine du h2 (by omega) (by decide) (by decide) fun y p3 y0 y1 hp3=>?_
     simp only [ws]
     refine W.use (iV M T (z:=1) hp3 (by omega) (by decide)) ?_
     rintro _ ⟨p4,r4,rfl,hp4⟩
     simp only [ws]
     refine W.use (iV M T (z:=3) hp4 (by omega) (by decide)) ?_
     rintro _ ⟨p5,r5,rfl,hp5⟩
     simp only [ws]
     refine W.use (iV M T (z:=7) hp5 (by omega) (by decide)) ?_
     rintro _ ⟨p6,r6,rfl,hp6⟩
     simp only [ws]
     refine W.use (iV M T (z:=60) hp6 (by omega) (by decide)) ?_
     rintro _ ⟨p7,r7,rfl,hp7⟩
     simp only [ws]
     obtain ⟨w,hw⟩:=Int.eq_ofNat_of_zero_le (show 0≤59 - y by omega)
     rw [hw]
     refine W.use (iV M T (z:=w) hp7 (by omega) (by omega)) ?_
     rintro _ ⟨p8,r8,rfl,hp8⟩
     simp only [ws]
     exact ⟨p8,rfl,hp8.mono (by omega)⟩
end
end W31
namespace W31
open PySem L2 Pen2 Mch Tg
section
variable {S W0:Nat} {es:List Bool} {gs:List (List (Option Nat))} {ks:List Str}
theorem Ie {i:Nat} {mp:MP} {fk fe:ME} {en:En} {Q:Fl→Prop} (h:W (fe en) (fun r=>W (mp r.2) (fun w=>W (fk w.2) (fun q=>∃ n t ts k,q.1=.int n∧(q.2[i]?).join=some t∧cz t w.1=some (.list ts)∧ixN ts.length n=some k∧Q (.nx (q.2.set i (some (cP t w.1 (.list (ts.set k r.1)))))))))):W (jj i mp fk fe en) Q:=by
 unfold jj
 rw [av]
 refine h.use fun r h=>?_
 rw [av]
 refine h.use fun w h=>?_
 rw [av]
 refine h.use fun q h=>?_
 obtain ⟨n,t,ts,k,e1,e2,e3,e4,hq⟩:=h
 refine W.of ?_ hq
 rw [e1,e2]
 show (cz t w.1).bind _=_
 rw [e3]
 show (ixN ts.length n).map _=_
 rw [e4]
 rfl
theorem vt {rows:List D} {s:Nat} {p m:Option D} (hs:s < rows.length):pIx 2 (m5 2) (ad 3) [p,m,some (.list rows),some (.int (s:Nat))]=some ([s],[p,m,some (.list rows),some (.int (s:Nat))]):=by
 show ((ixN rows.length (s:Int)).bind fun k=>if k < rows.length then some (([]:List Nat)++[k],[p,m,some (PyData.list rows),some (PyData.int (s:Nat))]) else none)=_
 rw [i6 hs]
 show (if s < rows.length then _ else _)=_
 rw [if_pos hs]
 rfl
theorem vA (M:MOk S W0 es gs) {p:D} {n:Nat} (hp:Pn n p) (hn:n≤900000):W (cX [p,aC es gs]) (fun q=>∃ gs' p',q=(aC es gs',[some p',none])∧MOk S W0 es gs'∧Pn (n+4) p'):=by
 have s2:=M.s2
 have w1:=M.w1
 have w2:=M.w2
 have lg:=M.lg
 have s1:=M.s1
 simp only [ws,cX,iT,aC]
 refine dU (fun t=>t) (by rw [List.length_map,lg]; exact sz (by omega)) (fun t ht=>?_) fun o=>?_
 ·obtain ⟨r,_,rfl⟩:=List.mem_map.mp ht
  simp only [ws,j8,aQ]
 ·rw [List.map_id']
  simp only [ws,List.length_map]
  refine du hp (by omega) (by omega) (by omega) fun x p2 x0 x1 hp2=>?_
  obtain ⟨s,rfl⟩:=Int.eq_ofNat_of_zero_le x0
  have hs:s < gs.length:=by omega
  have hro:=M.ok _ (List.getElem_mem hs)
  simp only [ws]
  refine Ie ?_
  simp only [ws,List.length_map]
  refine du hp2 (by omega) (by omega) (by omega) fun y p3 y0 y1 hp3=>?_
  obtain ⟨j,rfl⟩:=Int.eq_ofNat_of_zero_le y0
  simp only [ws]
  refine du hp3 (by omega) (by omega) (by omega) fun z p4 z0 z1 hp4=>?_
  simp only [ws]
  obtain ⟨v,ev,hv⟩:∃ v:Option Nat,atI [PyData.int (j:Nat),.none] (if decide (z=0) then (1:Int) else 0)=some (goD v)∧Val S v:=by
   by_cases hz:z=0
   ·exact ⟨none,by rw [decide_eq_true hz]; rfl,fun _ e=>nomatch e⟩
   ·exact ⟨some j,by rw [decide_eq_false hz]; rfl,fun _ e=>by cases e; omega⟩
  refine W.of (show ge [PyData.bool (decide (z=0))]=some (.int (if decide (z=0) then (1:Int) else 0)) by cases decide (z=0) <;> rfl) ?_
  simp only [ws,ev]
  refine W.of (vt (by rw [List.length_map]; exact hs)) ?_
  have ea:atI (gs.map aQ) (s:Int)=some (aQ gs[s]):=by
   rw [aX,List.getElem?_map,List.getElem?_eq_getElem hs]
   rfl
  simp only [ws,ea,aQ,List.length_map]
  refine du hp4 (by omega) (by rw [hro.1]; omega) (by rw [hro.1]; omega) fun c p5 c0 c1 hp5=>?_
  obtain ⟨k,rfl⟩:=Int.eq_ofNat_of_zero_le c0
  have hk:k < (gs[s]).length:=by omega
  have eg:cz (.list (gs.map aQ)) [s]=some (.list ((gs[s]).map goD)):=by
   show ((gs.map aQ)[s]?).bind _=_
   rw [List.getElem?_map,List.getElem?_eq_getElem hs]
   rfl
  have es':cP (.list (gs.map aQ)) [s] (.list (((gs[s]).map goD).set k (goD v)))=.list ((gs.set s ((gs[s]).set k v)).map aQ):=by
   show PyData.list ((gs.map aQ).set s (((gs.map aQ)[s]?).elim .none fun c=>.list (((gs[s]).map goD).set k (goD v))))=_
   rw [List.getElem?_map,List.getElem?_eq_getElem hs,List.map_set]
   show PyData.list ((gs.map aQ).set s (.list (((gs[s]).map goD).set k (goD v))))=_
   rw [← List.map_set]
   rfl
  simp only [ws]
  refine ⟨(k:Int),.list (gs.map aQ),(gs[s]).map goD,k,rfl,rfl,eg,i6 (by rw [List.length_map]; exact hk),?_⟩
  rw [es']
  refine ⟨gs.set s ((gs[s]).set k v),p5,rfl,⟨M.s1,M.s2,M.w1,M.w2,M.le,by rw [List.length_set]; exact lg,fun r hr=>?_⟩,hp5⟩
  rcases List.mem_or_eq_of_mem_set hr with hr | rfl
  ·exact M.ok r hr
  ·refine ⟨by rw [List.length_set]; exact hro.1,fun o ho=>?_⟩
   rcases List.mem_or_eq_of_mem_set ho with ho | rfl
   ·exact hro.2 o ho
   ·exact hv
end
theorem vM:GP sW:=by
 intro ns hn
 suffices W (sW [.list (ns.map .int)]) (fun r=>∃ o,r=(.bool true,o)) by
  obtain ⟨_,e,o,rfl⟩:=this.ex
  exact ⟨o,e⟩
 obtain ⟨s,k1,l1,e1,a1,a2,a3,a4,a5⟩:=vh (ns:=ns) (k:=0) (l:=0) (by decide) (by decide) (by decide)
 obtain ⟨es,gs,k2,l2,e2,b1,b2,b3,b4,b5,b6,b7⟩:=C4 (mo:=9) (ns:=ns) (k:=k1) (l:=l1) (W:=s) (by decide) (by decide) a2 (by omega) (by omega) a5
 have M:MOk es.length s es gs:=⟨b1,by omega,a1,a2,rfl,b3,b4⟩
 simp only [ws,sW,wX]
 refine W.of (show cr [.list (ns.map .int),.int 0]=some (penD ns 0 0,[none,none]) from rfl) ?_
 simp only [ws]
 refine W.of e1 ?_
 simp only [ws]
 refine W.of e2 ?_
 simp only [ws]
 refine W.of (show cr [.list (ns.map .int),.int 40]=some (penD ns 40 0,[none,none]) from rfl) ?_
 simp only [ws]
 refine W.use (tE (n:=40) ⟨ns,40,0,rfl,by decide,by decide,by decide⟩ (by decide) a1 a2) ?_
 rintro _ ⟨ks,p',rfl,T,hp'⟩
 simp only [ws]
 refine W.use (vA M hp' (by decide)) ?_
 rintro _ ⟨gs',p2,rfl,M',hp2⟩
 simp only [ws]
 have one:∀ {gg:List (List (Option Nat))} {p:D} {n:Nat},MOk es.length s es gg→Pn n p→n≤100000→W (qt [some (aC es gg),some p,some (tD ks)]) (fun q=>∃ p',q=(.bool true,[some (aC es gg),some p',some (tD ks)])∧Pn (n+400) p'):=fun G hp h=>by
  simp only [ws,qt]
  refine W.use (qF G T hp h) ?_
  rintro _ ⟨p3,rfl,hp3⟩
  simp only [ws]
  exact ⟨p3,rfl,hp3⟩
 refine W.use (one M hp2 (by decide)) ?_
 rintro _ ⟨p3,rfl,hp3⟩
 simp only [ws]
 refine W.use (one M' hp3 (by decide)) ?_
 rintro _ ⟨p4,rfl,hp4⟩
 simp only [ws]
 refine W.use (one M hp4 (by decide)) ?_
 rintro _ ⟨p5,rfl,hp5⟩
 simp only [ws]
 refine W.of (show kt [.list [PyData.bool true,.bool true,.bool true]]=some (.bool true) from rfl) ?_
 simp only [ws]
 exact ⟨_,rfl⟩
end W31
set_option maxHeartbeats 4000000
namespace W31
open PySem L2
theorem pI {α β:Type} {us:List α} {x0:β} (h:us.length=[x0].length):∃ a0,us=[a0]:=by
 cases us with
 | nil=>cases h
 | cons a0 r=>exact ⟨a0,by rw [List.length_eq_zero_iff.mp (show r.length=0 from Nat.succ.inj h)]⟩
theorem eE {α β:Type} {us:List α} {x0 x1:β} (h:us.length=[x0,x1].length):∃ a0 a1,us=[a0,a1]:=by
 cases us with
 | nil=>cases h
 | cons a0 r=>obtain ⟨a1,rfl⟩:=pI (us:=r) (x0:=x1) (Nat.succ.inj h); exact ⟨a0,a1,rfl⟩
theorem iG {α β:Type} {us:List α} {x0 x1 x2:β} (h:us.length=[x0,x1,x2].length):∃ a0 a1 a2,us=[a0,a1,a2]:=by
 cases us with
 | nil=>cases h
 | cons a0 r=>obtain ⟨a1,a2,rfl⟩:=eE (us:=r) (x0:=x1) (x1:=x2) (Nat.succ.inj h); exact ⟨a0,a1,a2,rfl⟩
theorem sg {α β:Type} {us:List α} {x0 x1 x2 x3:β} (h:us.length=[x0,x1,x2,x3].length):∃ a0 a1 a2 a3,us=[a0,a1,a2,a3]:=by
 cases us with
 | nil=>cases h
 | cons a0 r=>obtain ⟨a1,a2,a3,rfl⟩:=iG (us:=r) (x0:=x1) (x1:=x2) (x2:=x3) (Nat.succ.inj h); exact ⟨a0,a1,a2,a3,rfl⟩
theorem all_mk {l:PySem.W.OpenLaw} {w:World} {K:PySem.W.Frag} {h:Heap} {mg:Str→Option Value} {fa f0 f1 f2 f3 f4 f5 f6 f7 f8 f9 f10 f11 f12 f13 f14 f15 f16 f17 f18 f19 f20 f21 f22 f23 f24 f25 f26 f27 f28 f29 f30 f31:Addr} {tk0:Tok} (X:K.In h) (G:h.Ns mainGlobals mg) (hfa:mg "law"=some (.ref fa))
  (d0:Df K "signs_of" ky f0)
  (d1:Df K "is_word" jF f1)
  (d2:Df K "row_of" kT f2)
  (d3:Df K "word_of" jE f3)
  (d4:Df K "is_whole" kA f4)
  (d5:Df K "is_end" nr f5)
  (d6:Df K "led" wR f6)
  (d7:Df K "gone" sS f7)
  (d8:Df K "lets" sR f8)
  (d9:Df K "numbers_of_none" cK f9)
  (d10:Df K "numbers_of_one_more" bS f10)
  (d11:Df K "table" qk f11)
  (d12:Df K "rows_by" lN f12)
  (d13:Df K "row_at" nq f13)
  (d14:Df K "word_at" lM f14)
  (d15:Df K "rows_ahead" fO f15)
  (d16:Df K "number_of" gC f16)
  (d17:Df K "_law_pen" kB f17)
  (d18:Df K "_law_mixed" iK f18)
  (d19:Df K "_law_take" jG f19)
  (d20:Df K "_law_signs" iJ f20)
  (d21:Df K "_law_goal" jJ f21)
  (d22:Df K "_law_machine" cN f22)
  (d23:Df K "_law_tongue" fc f23)
  (d24:Df K "_law_table" dW f24)
  (d25:Df K "_law_gone" jI f25)
  (d26:Df K "_law_lets" jH f26)
  (d27:Df K "_law_drawn" fQ f27)
  (d28:Df K "_law_right" dX f28)
  (d29:Df K "_law_all_right" bL f29)
  (d30:Df K "_law_other" fP f30)
  (d31:Df K "law" kz f31)
  (y0:PySem.W.nsIn K mainGlobals "MOST_SIGNS_OF_A_WORD"=some (some (.int 60 tk0)))
  (z0:PySem.W.nsIn K mainGlobals "abs"=some none)
  (z1:PySem.W.nsIn K mainGlobals "all"=some none)
  (z2:PySem.W.nsIn K mainGlobals "bool"=some none)
  (z3:PySem.W.nsIn K mainGlobals "enumerate"=some none)
  (z4:PySem.W.nsIn K mainGlobals "int"=some none)
  (z5:PySem.W.nsIn K mainGlobals "isinstance"=some none)
  (z6:PySem.W.nsIn K mainGlobals "len"=some none)
  (z7:PySem.W.nsIn K mainGlobals "list"=some none)
  (z8:PySem.W.nsIn K mainGlobals "max"=some none)
  (z9:PySem.W.nsIn K mainGlobals "min"=some none)
  (z10:PySem.W.nsIn K mainGlobals "range"=some none)
  (z11:PySem.W.nsIn K mainGlobals "sorted"=some none)
  (z12:PySem.W.nsIn K mainGlobals "str"=some none)
  (z13:PySem.W.nsIn K mainGlobals "sum"=some none)
  (z14:PySem.W.nsIn K mainGlobals "tuple"=some none)
  (z15:PySem.W.nsIn K mainGlobals "zip"=some none) :
  ∃ fd:FuncData,(∀ (s:Shared) (v:Value),BindsTo s fd ⟨[v],[]⟩ [("_law_script",v)])∧∀ base:Heap,K.In base→base.Ns mainGlobals mg→FnOk l.prog w K mg base CX0 7 fa fd ["_law_script"] (ma K):=by
 have e:=hfa.symm.trans (PySem.W.mg_of X G d31.a)
 cases e
 have v0:=PySem.W.mg_of X G y0
 have T:Bl mg:=⟨PySem.W.mg_none_of X G z0,PySem.W.mg_none_of X G z1,PySem.W.mg_none_of X G z2,PySem.W.mg_none_of X G z3,PySem.W.mg_none_of X G z4,PySem.W.mg_none_of X G z5,PySem.W.mg_none_of X G z6,PySem.W.mg_none_of X G z7,PySem.W.mg_none_of X G z8,PySem.W.mg_none_of X G z9,PySem.W.mg_none_of X G z10,PySem.W.mg_none_of X G z11,PySem.W.mg_none_of X G z12,PySem.W.mg_none_of X G z13,PySem.W.mg_none_of X G z14,PySem.W.mg_none_of X G z15⟩
 obtain ⟨oc,od,kV,dc,pm,an,cd,ct,sl,ll,lc⟩:=d31.l
 have FL:=uB (st:=kz) ll lc d31.k
 refine ⟨PySem.W.fnOf "law" "law" (eQ kz) (cT kz) (ao kz) .none kV dc pm an cd ct,fun s v=>.of_eq rfl,fun base _ _=>?_⟩
 have g0:Kn l.prog w K mg base 1 "signs_of" ["tongue"] (spF K [0] 3 bY):=d0.kn X G (fun _ _ _ _ _ _ us hl=>by obtain ⟨a0,rfl⟩:=pI hl; rfl) fun _ F=>rX (k:=0) T    F
 have g1:Kn l.prog w K mg base 2 "is_word" ["tongue", "thing"] (spF K [0,0] 3 fI):=d1.kn X G (fun _ _ _ _ _ _ us hl=>by obtain ⟨a0,a1,rfl⟩:=eE hl; rfl) fun _ F=>t9 (k:=1) T v0 (g0.mono (by decide))  F
 have g2:Kn l.prog w K mg base 2 "row_of" ["tongue", "word"] (spF K [0,0] 3 gS):=d2.kn X G (fun _ _ _ _ _ _ us hl=>by obtain ⟨a0,a1,rfl⟩:=eE hl; rfl) fun _ F=>vB (k:=1) T  (g0.mono (by decide))  F
 have g3:Kn l.prog w K mg base 2 "word_of" ["tongue", "row"] (spF K [0,0] 3 fH):=d3.kn X G (fun _ _ _ _ _ _ us hl=>by obtain ⟨a0,a1,rfl⟩:=eE hl; rfl) fun _ F=>tZ (k:=1) T  (g0.mono (by decide))  F
 have g4:Kn l.prog w K mg base 1 "is_whole" ["thing"] (spF K [0] 3 eR):=d4.kn X G (fun _ _ _ _ _ _ us hl=>by obtain ⟨a0,rfl⟩:=pI hl; rfl) fun _ F=>rY (k:=0) T    F
 have g5:Kn l.prog w K mg base 1 "is_end" ["machine", "stand"] (spF K [0,0] 0 fJ):=d5.kn X G (fun _ _ _ _ _ _ us hl=>by obtain ⟨a0,a1,rfl⟩:=eE hl; rfl) fun _ F=>vD (k:=0) T    F
 have g6:Kn l.prog w K mg base 1 "led" ["machine", "stand", "sign"] (spF K [0,0,0] 0 lU):=d6.kn X G (fun _ _ _ _ _ _ us hl=>by obtain ⟨a0,a1,a2,rfl⟩:=iG hl; rfl) fun _ F=>Iz (k:=0) T    F
 have g7:Kn l.prog w K mg base 2 "gone" ["machine", "stand", "row"] (spF K [0,0,0] 0 kW):=d7.kn X G (fun _ _ _ _ _ _ us hl=>by obtain ⟨a0,a1,a2,rfl⟩:=iG hl; rfl) fun _ F=>GD (k:=1) T  (g6.mono (by decide))  F
 have g8:Kn l.prog w K mg base 3 "lets" ["machine", "row"] (spF K [0,0] 0 kU):=d8.kn X G (fun _ _ _ _ _ _ us hl=>by obtain ⟨a0,a1,rfl⟩:=eE hl; rfl) fun _ F=>GC (k:=2) T  (g5.mono (by decide)) (g7.mono (by decide))  F
 have g9:Kn l.prog w K mg base 1 "numbers_of_none" ["machine"] (spF K [0] 3 bv):=d9.kn X G (fun _ _ _ _ _ _ us hl=>by obtain ⟨a0,rfl⟩:=pI hl; rfl) fun _ F=>kY (k:=0) T    F
 have g10:Kn l.prog w K mg base 1 "numbers_of_one_more" ["machine", "fewer"] (spF K [0,0] 3 aY):=d10.kn X G (fun _ _ _ _ _ _ us hl=>by obtain ⟨a0,a1,rfl⟩:=eE hl; rfl) fun _ F=>iY (k:=0) T    F
 have g11:Kn l.prog w K mg base 2 "table" ["machine", "most"] (spF K [0,0] 0 dY):=d11.kn X G (fun _ _ _ _ _ _ us hl=>by obtain ⟨a0,a1,rfl⟩:=eE hl; rfl) fun _ F=>CU (k:=1) T  (g9.mono (by decide)) (g10.mono (by decide))  F
 have g12:Kn l.prog w K mg base 1 "rows_by" ["machine", "stand", "sign", "behind"] (spF K [0,0,0,0] 0 cw):=d12.kn X G (fun _ _ _ _ _ _ us hl=>by obtain ⟨a0,a1,a2,a3,rfl⟩:=sg hl; rfl) fun _ F=>t8 (k:=0) T    F
 have g13:Kn l.prog w K mg base 2 "row_at" ["machine", "lists", "length", "number"] (spF K [0,0,0,0] 0 gU):=d13.kn X G (fun _ _ _ _ _ _ us hl=>by obtain ⟨a0,a1,a2,a3,rfl⟩:=sg hl; rfl) fun _ F=>vC (k:=1) T  (g12.mono (by decide))  F
 have g14:Kn l.prog w K mg base 3 "word_at" ["tongue", "machine", "number"] (spF K [0,0,0] 3 dw):=d14.kn X G (fun _ _ _ _ _ _ us hl=>by obtain ⟨a0,a1,a2,rfl⟩:=iG hl; rfl) fun _ F=>t7 (k:=2) T v0 (g11.mono (by decide)) (g4.mono (by decide)) (g3.mono (by decide)) (g13.mono (by decide))  F
 have g15:Kn l.prog w K mg base 2 "rows_ahead" ["machine", "lists", "row"] (spF K [0,0,0] 0 cU):=d15.kn X G (fun _ _ _ _ _ _ us hl=>by obtain ⟨a0,a1,a2,rfl⟩:=iG hl; rfl) fun _ F=>ph (k:=1) T  (g12.mono (by decide))  F
 have g16:Kn l.prog w K mg base 4 "number_of" ["tongue", "machine", "word"] (spF K [0,0,0] 3 cq):=d16.kn X G (fun _ _ _ _ _ _ us hl=>by obtain ⟨a0,a1,a2,rfl⟩:=iG hl; rfl) fun _ F=>qu (k:=3) T  (g2.mono (by decide)) (g11.mono (by decide)) (g1.mono (by decide)) (g8.mono (by decide)) (g15.mono (by decide))  F
 have g17:Kn l.prog w K mg base 1 "_law_pen" ["_law_script", "_law_first"] (spF K [0,0] 1 cr):=d17.kn X G (fun _ _ _ _ _ _ us hl=>by obtain ⟨a0,a1,rfl⟩:=eE hl; rfl) fun _ F=>rZ (k:=0) T    F
 have g18:Kn l.prog w K mg base 1 "_law_mixed" ["_law_cell", "_law_k"] (spF K [0,0] 3 bZ):=d18.kn X G (fun _ _ _ _ _ _ us hl=>by obtain ⟨a0,a1,rfl⟩:=eE hl; rfl) fun _ F=>pq (k:=0) T    F
 have g19:Kn l.prog w K mg base 2 "_law_take" ["_law_pen_here", "_law_most"] (spF K [1,0] 0 ar):=d19.kn X G (fun _ _ _ _ _ _ us hl=>by obtain ⟨a0,a1,rfl⟩:=eE hl; rfl) fun _ F=>qv (k:=1) T  (g18.mono (by decide))  F
 have g20:Kn l.prog w K mg base 3 "_law_signs" ["_law_pen_here"] (spF K [1] 0 cW):=d20.kn X G (fun _ _ _ _ _ _ us hl=>by obtain ⟨a0,rfl⟩:=pI hl; rfl) fun _ F=>pj (k:=2) T  (g19.mono (by decide))  F
 have g21:Kn l.prog w K mg base 3 "_law_goal" ["_law_pen_here", "_law_stand", "_law_stands", "_law_way"] (spF K [1,0,0,0] 0 bx):=d21.kn X G (fun _ _ _ _ _ _ us hl=>by obtain ⟨a0,a1,a2,a3,rfl⟩:=sg hl; rfl) fun _ F=>qy (k:=2) T  (g19.mono (by decide))  F
 have g22:Kn l.prog w K mg base 4 "_law_machine" ["_law_pen_here", "_law_signs_here", "_law_most"] (spF K [1,0,0] 0 cg):=d22.kn X G (fun _ _ _ _ _ _ us hl=>by obtain ⟨a0,a1,a2,rfl⟩:=iG hl; rfl) fun _ F=>m6 (k:=3) T  (g19.mono (by decide)) (g21.mono (by decide))  F
 have g23:Kn l.prog w K mg base 3 "_law_tongue" ["_law_pen_here", "_law_many"] (spF K [1,0] 0 cE):=d23.kn X G (fun _ _ _ _ _ _ us hl=>by obtain ⟨a0,a1,rfl⟩:=eE hl; rfl) fun _ F=>og (k:=2) T  (g19.mono (by decide))  F
 have g24:Kn l.prog w K mg base 1 "_law_table" ["_law_machine_here", "_law_most"] (spF K [0,0] 0 cV):=d24.kn X G (fun _ _ _ _ _ _ us hl=>by obtain ⟨a0,a1,rfl⟩:=eE hl; rfl) fun _ F=>pi (k:=0) T    F
 have g25:Kn l.prog w K mg base 1 "_law_gone" ["_law_machine_here", "_law_stand", "_law_row"] (spF K [0,0,0] 0 dI):=d25.kn X G (fun _ _ _ _ _ _ us hl=>by obtain ⟨a0,a1,a2,rfl⟩:=iG hl; rfl) fun _ F=>qx (k:=0) T    F
 have g26:Kn l.prog w K mg base 2 "_law_lets" ["_law_machine_here", "_law_row"] (spF K [0,0] 0 bT):=d26.kn X G (fun _ _ _ _ _ _ us hl=>by obtain ⟨a0,a1,rfl⟩:=eE hl; rfl) fun _ F=>qw (k:=1) T  (g25.mono (by decide))  F
 have g27:Kn l.prog w K mg base 3 "_law_drawn" ["_law_pen_here", "_law_machine_here", "_law_size"] (spF K [1,0,0] 1 cZ):=d27.kn X G (fun _ _ _ _ _ _ us hl=>by obtain ⟨a0,a1,a2,rfl⟩:=iG hl; rfl) fun _ F=>pr (k:=2) T  (g19.mono (by decide))  F
 have g28:Kn l.prog w K mg base 5 "_law_right" ["_law_tongue_here", "_law_machine_here", "_law_lists", "_law_row"] (spF K [0,0,0,0] 3 cx):=d28.kn X G (fun _ _ _ _ _ _ us hl=>by obtain ⟨a0,a1,a2,a3,rfl⟩:=sg hl; rfl) fun _ F=>pk (k:=4) T  (g16.mono (by decide)) (g14.mono (by decide))  F
 have g29:Kn l.prog w K mg base 6 "_law_all_right" ["_law_pen_here", "_law_tongue_here", "_law_machine_here"] (spF K [1,0,0] 3 bM):=d29.kn X G (fun _ _ _ _ _ _ us hl=>by obtain ⟨a0,a1,a2,rfl⟩:=iG hl; rfl) fun _ F=>lB (k:=5) T  (g24.mono (by decide)) (g14.mono (by decide)) (g27.mono (by decide)) (g19.mono (by decide)) (g26.mono (by decide)) (g16.mono (by decide)) (g28.mono (by decide))  F
 have g30:Kn l.prog w K mg base 3 "_law_other" ["_law_pen_here", "_law_machine_here"] (spF K [1,0] 0 cX):=d30.kn X G (fun _ _ _ _ _ _ us hl=>by obtain ⟨a0,a1,rfl⟩:=eE hl; rfl) fun _ F=>pp (k:=2) T  (g19.mono (by decide))  F
 exact (IA (k:=6) T  (g17.mono (by decide)) (g20.mono (by decide)) (g22.mono (by decide)) (g23.mono (by decide)) (g30.mono (by decide)) (g29.mono (by decide))  FL).imp fun vs H Q E h=>GO vM h
theorem walk {l:PySem.W.OpenLaw} {q:Program} {loose:List Str} {XP:(Str→Option Value)→Heap→Prop} {YP:World→Heap→Prop} {d:DefRec} {K:Params→PySem.W.Frag} (hn:l.most=some 63) (hdf:d.params.defaults=[]) (hq:PyProof.Rows.importsNone q=true)
  (hY:∀ (w:World) (h:Heap),YP w h→(K w.params).In h)
  (F:∀ (w:World) (mg:Str→Option Value) (fa:Addr) (h:Heap),(K w.params).In h→h.Ns mainGlobals mg→mg d.name=some (.ref fa) →
   ∃ fd:FuncData,(∀ (s:Shared) (u:Value),BindsTo s fd ⟨[u],[]⟩ [("_law_script",u)])∧∀ base:Heap,(K w.params).In base→base.Ns mainGlobals mg→FnOk l.prog w (K w.params) mg base CX0 7 fa fd ["_law_script"] (ma (K w.params))) :
  PySem.W.WalkO q loose XP YP l.row.toRowW d [] (fun f vs=>PySem.call f vs) :=
 L2.walk_of (n:=63) (k:=7) (x:="_law_script") (CX:=fun _=>CX0) (sp:=fun w=>ma (K w.params)) hn (by decide) hdf ⟨rfl,by decide,by decide,rfl⟩ hq hY F (fun _ _ a ns hl hO hS=>⟨a,ns,rfl,hS,hO,hl,fun _=>rfl⟩) fun _ _ _ _ _ z=>z
end W31
open PySem PySem.W PyProof.Rows
set_option maxRecDepth 100000 in
set_option maxHeartbeats 0 in
theorem PySem.Challenge.cw_wordrules_k31_whole_numbers_and_words_holds : PySem.Challenge.rw_wordrules_k31_whole_numbers_and_words.Holds := by
 w_on; o_law; k_head; (case hw=>w_witness2)
 k_fill
 refine W31.walk (l:=PySem.Challenge.rw_wordrules_k31_whole_numbers_and_words) rfl rfl rfl (fun w h Y=>PySem.W.kIn_of Y) ?F
 case F =>
  intro w mg fa h KX G hmg
  refine' W31.all_mk KX G hmg (.mk' ?_ ?_ ?_ ?_) (.mk' ?_ ?_ ?_ ?_) (.mk' ?_ ?_ ?_ ?_) (.mk' ?_ ?_ ?_ ?_) (.mk' ?_ ?_ ?_ ?_) (.mk' ?_ ?_ ?_ ?_) (.mk' ?_ ?_ ?_ ?_) (.mk' ?_ ?_ ?_ ?_) (.mk' ?_ ?_ ?_ ?_) (.mk' ?_ ?_ ?_ ?_) (.mk' ?_ ?_ ?_ ?_) (.mk' ?_ ?_ ?_ ?_) (.mk' ?_ ?_ ?_ ?_) (.mk' ?_ ?_ ?_ ?_) (.mk' ?_ ?_ ?_ ?_) (.mk' ?_ ?_ ?_ ?_) (.mk' ?_ ?_ ?_ ?_) (.mk' ?_ ?_ ?_ ?_) (.mk' ?_ ?_ ?_ ?_) (.mk' ?_ ?_ ?_ ?_) (.mk' ?_ ?_ ?_ ?_) (.mk' ?_ ?_ ?_ ?_) (.mk' ?_ ?_ ?_ ?_) (.mk' ?_ ?_ ?_ ?_) (.mk' ?_ ?_ ?_ ?_) (.mk' ?_ ?_ ?_ ?_) (.mk' ?_ ?_ ?_ ?_) (.mk' ?_ ?_ ?_ ?_) (.mk' ?_ ?_ ?_ ?_) (.mk' ?_ ?_ ?_ ?_) (.mk' ?_ ?_ ?_ ?_) (.mk' ?_ ?_ ?_ ?_) ?_ ?_ ?_ ?_ ?_ ?_ ?_ ?_ ?_ ?_ ?_ ?_ ?_ ?_ ?_ ?_ ?_
  all_goals (try k_is)
