import PyProof.Rows.All
import Wide.All
import OpenK.AllK
import Wide.FinOn
import Lean
import PyProof.EqAt
import PyProof.EqKinds
import PyProof.TupleCall
import KE.KTabLook
import PyProof.StrLawsChain
import PyProof.StrLawsFirst
import PyProof.StrLawsJoin
import PyProof.MeetsStr2
import PyProof.ReprLen
import KE.KIntText
import PySem.Syntax
import PySem.Value
import PyProof.StrOps2
import PySem.Eval
import PyProof.NeKinds
import PyProof.StrLawsIn
import KE.KEqDict
import PyProof.DictTable
import KE.KDictList
import PyProof.DictItems
import PyProof.SliceStr2
import PyProof.ReprRoads
import PyProof.CallFns
import KE.KSortTup
import PyProof.Rows.SortWalk
import PyProof.Dict
import PyProof.DictKinds
import PyProof.StrOps
import KE.KLam
import PyProof.FitsInt
import PyProof.ListRange
import PyProof.TupleOfSeq
import PyProof.Rows.FactsT2
import PyProof.ZipIter
import PyProof.WalksEnum
import PyProof.EnumMake
import KE.KPairComp
import KE.KRevIter
import PyProof.CollectIter
import PyProof.EnumStmt
import KE.KTryMore
import OpenK.KMake
import PyProof.AttrMiss
import PyProof.FactsAll.enumerate
import KE.KDictOf
import PyProof.Rows.SeqMore2
import PyProof.FactsAll.str_0
import PyProof.FactsAll.str_5
import PyProof.FactsAll.str_7
import PyProof.FactsAll.tuple_2
import PyProof.FactsAll.tuple_3
import PyProof.MinMaxWalk
import PyProof.MeetsSeq
import PyProof.Rows.FStr
import PyProof.Rows.SetFrom
import PyProof.WalksMore
import PyProof.TupleIter
import PyProof.FactsAll.tuple_0
import PySem.Challenge.RW_pourwright_k36_whole_led_and_led_back
set_option autoImplicit false
set_option linter.all false
set_option maxRecDepth 100000
set_option exponentiation.threshold 1000
set_option Elab.async false
set_option genSizeOf false
namespace PySem.W.Fast
def tw18317871344303980479:=0
def tw16434215134314153887:=0
def tw4343961902434399135:=0
def tw6462187776592327583:=0
def tw12456186400335677247:=0
def tw6690445346784045855:=0
def tw8623801064811941631:=0
def tw17429232508240448255:=0
def tw6678035403575617087:=0
def tw10901372141032432095:=0
def tw13567643326243383711:=0
def tw10543640986760018303:=0
def tw17491321598530148735:=0
def tw16543769471712900447:=0
def tw16198704398801183071:=0
def tw13849534199875633503:=0
def tw2779871647265979679:=0
def tw13690146668052288799:=0
def tw2861650152693616895:=0
def tw18315195178414703775:=0
def tw5618908292153703551:=0
def tw1194308514533618815:=0
def tw14626910193761089599:=0
def tw6411580831046385727:=0
def tw17911159563261455423:=0
def tw9037516490047928351:=0
def tw192985683298616351:=0
def tw9071927903231672351:=0
def tw8315300260819255294:=0
def tw4204570168366539710:=0
def tw11665203251310521214:=0
def tw11825686566163209086:=0
def tw14038187986229880638:=0
def tw7116181478896113374:=0
def tw5964453813307574974:=0
def tw6953554234709413502:=0
def tw14902830901600996798:=0
def tw4779759708278130046:=0
def tw5012412607552095582:=0
def tw5582993733913666846:=0
def tw5292350295719291134:=0
def tw6086609697200526558:=0
def tw9118860306522353790:=0
def tw14207364530590968926:=0
def tw3531521312395350110:=0
def tw10418714436918540189:=0
def tw15764285604617956157:=0
def tw6284554535330490173:=0
def tw1466127921405490877:=0
def tw111465217756460701:=0
def tw11117406196373066397:=0
def tw12899259805855581853:=0
def tw10254463612006398461:=0
def tw6418436717171793181:=0
def tw7377718888379539645:=0
def tw16408698266975991901:=0
def tw2220205248444583965:=0
def tw11961158357607039836:=0
def tw7176653521375297340:=0
def tw3429452983148403516:=0
def tw12828193563474491068:=0
def tw10703720760998836924:=0
def tw2164447036181469724:=0
def tw15150516088440597020:=0
def tw3078334351664569820:=0
def tw5922076023554036124:=0
def tw1634803297537780092:=0
def tw8999242974491257180:=0
def tw6615310012115528988:=0
def tw15571696537527250172:=0
def tw17354607561531679932:=0
def tw12361422291347374108:=0
def tw2413046244723899387:=0
def tw3095974065989074875:=0
def tw4789343211161942875:=0
def tw3631239699225889435:=0
def tw5310762090265957947:=0
def tw13658998842276770331:=0
def tw13053781453594832379:=0
def tw6867877620043801819:=0
def tw9243121767374208027:=0
def tw13053091610359470074:=0
def tw4677556441175713754:=0
def tw6408444101618150330:=0
def tw1113462226501970842:=0
def tw7469715306075647834:=0
def tw18240123588520218330:=0
def tw3601648527453648570:=0
def tw17215448078394409626:=0
def tw108531138079036026:=0
def tw17857761758899231322:=0
def tw11842633601887868506:=0
def tw9610269337943706202:=0
def tw15929818296900570682:=0
def tw9315583307103072570:=0
def tw16677799415689793786:=0
def tw13925222100643577018:=0
def tw16948518504449224890:=0
def tw17969925826793254074:=0
def tw15479757699096635353:=0
def tw1885888851578345401:=0
def tw10349264952247571353:=0
def tw821177599819553625:=0
def tw4217344081188096857:=0
def tw7911236578772059865:=0
def tw9474398368216413849:=0
def tw5183595675801645721:=0
def tw4019575609781199417:=0
def tw10369366332453449241:=0
def tw12362877798473467353:=0
def tw14936488515311647129:=0
def tw15036447568516547993:=0
def tw9328848817757829465:=0
def tw13568072753014806841:=0
def tw1986652532666275097:=0
def tw3865226757710470361:=0
def tw10025006026518917305:=0
def tw3587336150591867993:=0
def tw5647963346535955481:=0
def tw10649292621251346360:=0
def tw14371171608130104120:=0
def tw563747803324869368:=0
def tw16105910000787869432:=0
def tw7186222175646920376:=0
def tw12612521778898786968:=0
def tw16932939407100464600:=0
def tw4406184081435320760:=0
def tw10328954538028012984:=0
def tw14899835243798960440:=0
def tw8430443075118769432:=0
def tw8378771972373439736:=0
def tw4729686698248684568:=0
def tw3339288571253553143:=0
def tw14833609007782650743:=0
def tw2682684452506748727:=0
def tw6564766217181854359:=0
def tw15757357218375698967:=0
def tw1034023969672266135:=0
def tw9343708757177205111:=0
def tw1451993097429704983:=0
def tw18256892335392168215:=0
def tw3382924874757569751:=0
def tw1828240645973267671:=0
def tw15668637119665782967:=0
def tw11857111246096236727:=0
def tw11652855849646789719:=0
def tw5484409966233147415:=0
def tw7081683557517931446:=0
def tw2735777677078108086:=0
def tw16812290538342996790:=0
def tw16684999594609677110:=0
def tw16094479550596657942:=0
def tw11607678528337669846:=0
def tw5404897035500501430:=0
def tw13703197614221754806:=0
def tw15741074706290456918:=0
def tw7342500652946165046:=0
def tw2585540902951381238:=0
def tw6068551309032167606:=0
def tw2983985883442018454:=0
def tw306163253841026198:=0
def tw11324741645091297366:=0
def tw11214364121733141558:=0
def tw729143036433527830:=0
def tw8318011676088748917:=0
def tw1246293318039366389:=0
def tw9804409133527978709:=0
def tw7787581112080021013:=0
def tw3361714326262329877:=0
def tw217597483389639157:=0
def tw6011756904586201525:=0
def tw11709066981016686901:=0
def tw16190177392527808500:=0
def tw9282848042325087156:=0
def tw4250424044308263636:=0
def tw6406308105132201588:=0
def tw13971843613322034772:=0
def tw3925869333479710228:=0
def tw2352882617143575028:=0
def tw4450378918554601972:=0
def tw11289851631540407732:=0
def tw2261468258834591124:=0
def tw3441283017261428:=0
def tw4096855508342729044:=0
def tw16391071294974112084:=0
def tw10421259522773451060:=0
def tw17825475929393876180:=0
def tw13737174072552325268:=0
def tw1187058632698871924:=0
def tw982362775673274452:=0
def tw4055568808514013236:=0
def tw11014578700834450484:=0
def tw12459633358657458163:=0
def tw7512181202012560243:=0
def tw943841044712854387:=0
def tw3497518632895936307:=0
def tw15079762664211799827:=0
def tw6475543481321432787:=0
def tw12156830004288211:=0
def tw4509248614696604211:=0
def tw4480979365358547507:=0
def tw6953829577030131123:=0
def tw1545880221611735475:=0
def tw10284145135904034227:=0
def tw17695417556082289939:=0
def tw15861342966310121683:=0
def tw7429464349808117907:=0
def tw16811387649863869491:=0
def tw15710545629767218227:=0
def tw12043701206485545011:=0
def tw15916543021092150323:=0
def tw7277166086473143315:=0
def tw1236589703319453554:=0
def tw10840137284495865586:=0
def tw4786156136473498258:=0
def tw11398861317156122194:=0
def tw16249733475744299570:=0
def tw12709401796239889938:=0
def tw4709624166461053394:=0
def tw10016921255734659346:=0
def tw13828924661113431282:=0
def tw1046480188833025170:=0
def tw16346933497009122450:=0
def tw15560506321295731826:=0
def tw10899390464197322866:=0
def tw7181457114665694193:=0
def tw11100752469660988369:=0
def tw11366552557188955953:=0
def tw2453239359027267281:=0
def tw14349936950273612465:=0
def tw4070792033389169105:=0
def tw3378520569709711793:=0
def tw13814731376856968593:=0
def tw7237321487249036561:=0
def tw14259654871826388113:=0
def tw16110144937559827408:=0
def tw1024144839342822288:=0
def tw10156525105008105328:=0
def tw10873045517943754576:=0
def tw14141872650897313584:=0
def tw13302341740226039472:=0
def tw11226181041226095248:=0
def tw13617576143756397200:=0
def tw6860952208449785424:=0
def tw10333740581725896240:=0
def tw1854379095184978448:=0
def tw1551008451796098288:=0
def tw11300484980816771248:=0
def tw6797848336109677744:=0
def tw203828979492051024:=0
def tw343398813710188624:=0
def tw16319732998800835535:=0
def tw17010423881865995183:=0
def tw2759994503432180655:=0
def tw15583067403951431535:=0
def tw10078859230035836623:=0
def tw10743542303889051343:=0
def tw2004500765518447279:=0
def tw6916856925720129999:=0
def tw5762031855272988111:=0
def tw14029350408364131759:=0
def tw6324343917713650959:=0
def tw13802781129721038063:=0
def tw4399131417074000047:=0
def tw5845470266083554415:=0
def tw8901210571275908111:=0
def tw4736558664677359566:=0
def tw2402065348529698766:=0
def tw12745618447689754542:=0
def tw5381332935758224302:=0
def tw8846854500217170830:=0
def tw16374039680698547982:=0
def tw11341755185118221038:=0
def tw11896209725834058414:=0
def tw6391895935105440302:=0
def tw9732212644722511342:=0
def tw15321559244855554510:=0
def tw7498539688042508622:=0
def tw9107747102921978158:=0
def tw2103743058524873998:=0
def tw4868828981500636366:=0
def tw17797263208374325422:=0
def tw12301361163022722158:=0
def tw15091357299230010317:=0
def tw1591277497410361293:=0
def tw11470792730818990989:=0
def tw2573652174291626829:=0
def tw9613102293393665805:=0
def tw9062923864502391469:=0
def tw770675307118625453:=0
def tw6951061251889033805:=0
def tw9138763533779695149:=0
def tw17475282788269759981:=0
def tw15043085887012393389:=0
def tw8635406485669037453:=0
def tw15193296924434184589:=0
def tw4311881496936643885:=0
def tw526177276959420685:=0
def tw5535035878315563213:=0
def tw17227112730689595501:=0
def tw9589226175621937036:=0
def tw4931847492292054892:=0
def tw16733451548646320844:=0
def tw4740132849686871596:=0
def tw7917369337493624332:=0
def tw14607178906203765196:=0
def tw2720083300310814124:=0
def tw8438624810584912236:=0
def tw14722337939188019532:=0
def tw17768455104647222540:=0
def tw11479575991338276940:=0
def tw10642966761122005995:=0
def tw11662925376832244427:=0
def tw5496952327481783979:=0
def tw1903540552094633643:=0
def tw3743562970425287275:=0
def tw11014872158224277099:=0
def tw11251920732236983915:=0
def tw7963564502905796171:=0
def tw15644171445013003819:=0
def tw3516634337196724299:=0
def tw3725255916304549866:=0
def tw1313654360502774730:=0
def tw142438796608055146:=0
def tw15091376920948916010:=0
def tw6404704189572051722:=0
def tw16984424623023493866:=0
def tw4648390767859875498:=0
def tw11717707617625722506:=0
def tw7007942915243517482:=0
def tw8648480655578592778:=0
def tw5057848739239443946:=0
def tw8142431529949482314:=0
def tw14786772050154809642:=0
def tw17834322929057739018:=0
def tw1649013041092820170:=0
def tw18137031659732266154:=0
def tw2389664094981707946:=0
def tw9907188328740990090:=0
def tw5006587522333122634:=0
def tw15031218536029579274:=0
def tw718928930840287177:=0
def tw15662570768094717865:=0
def tw5302484679488200617:=0
def tw15622666683532157865:=0
def tw13639833126889278345:=0
def tw225166859269712745:=0
def tw18117561831754509065:=0
def tw15553156761173012201:=0
def tw3486539720837958345:=0
def tw11649985863320366697:=0
def tw1755315184665783625:=0
def tw12987425874541287689:=0
def tw14218024047466432681:=0
def tw13668523343279840329:=0
def tw7374539830818351145:=0
def tw13920051611440115656:=0
def tw1920184212255925192:=0
def tw11815589976386282216:=0
def tw15300064046774171336:=0
def tw17128860472920363688:=0
def tw16853113741982998184:=0
def tw17430856153813379624:=0
def tw5559914090809314856:=0
def tw8527206035938774568:=0
def tw4529740597158274504:=0
def tw6960331525921910056:=0
def tw10381199074284898600:=0
def tw13462246402659462312:=0
def tw8531271746805953576:=0
def tw7880649698315913256:=0
def tw3712323274774836039:=0
def tw5468363108936396615:=0
def tw5741051941443102503:=0
def tw2580989159118362343:=0
def tw2494730726674979495:=0
def tw5325779143764354695:=0
def tw13170895937428303463:=0
def tw13661051875262357991:=0
def tw15039077663652054471:=0
def tw7227222256161538407:=0
def tw7393210629831025799:=0
def tw7273279554551460999:=0
def tw9813513873605646407:=0
def tw4039346730670915655:=0
def tw3539772245875559463:=0
def tw4240030534736232455:=0
def tw4451935260815790087:=0
def tw7304229723465835462:=0
def tw6198363893847780198:=0
def tw5353065155472891654:=0
def tw3301627970745913062:=0
def tw10930673773501114054:=0
def tw2161090125839426150:=0
def tw5382776363963705862:=0
def tw3496695291844238854:=0
def tw9379272624023288294:=0
def tw747570942269136326:=0
def tw10731722199640392070:=0
def tw17019665006596982150:=0
def tw7520974238144282982:=0
def tw12263061407365275974:=0
def tw11478008550068559142:=0
def tw5383222581084483782:=0
def tw3172186472638496902:=0
def tw7234176525372195878:=0
def tw11075625446025570213:=0
def tw2833019690605396869:=0
def tw17084562020805981061:=0
def tw6035525360583939877:=0
def tw3135544846984387301:=0
def tw6198914477244049957:=0
def tw15981708250924937701:=0
def tw17332810616893887877:=0
def tw15460618482785247557:=0
def tw8287316837646061669:=0
def tw10120110963109630981:=0
def tw7541488923828873124:=0
def tw600351535400493988:=0
def tw7352725466792873860:=0
def tw10733932941740292932:=0
def tw16218495748235881188:=0
def tw12820558980418437700:=0
def tw17950120721323124164:=0
def tw14048795319830997220:=0
def tw11999119319307177156:=0
def tw11874023450061520036:=0
def tw6247043844065061956:=0
def tw5865260097260902339:=0
def tw7392623605995327427:=0
def tw12641200942776301411:=0
def tw8049292573522118467:=0
def tw6640311755571870403:=0
def tw11408115134172267971:=0
def tw4501245906783431043:=0
def tw17025529666811561251:=0
def tw5571129838752872386:=0
def tw14979908960988724066:=0
def tw16643809080070139714:=0
def tw7229447790525121282:=0
def tw6585492030968526530:=0
def tw3489801044915746466:=0
def tw1525069928763998722:=0
def tw1047801310669880770:=0
def tw14311592460333687202:=0
def tw15437350609764880578:=0
def tw14826964779282233442:=0
def tw13403975113736028258:=0
def tw9557264714205845506:=0
def tw6332927851951654817:=0
def tw3638764572872735553:=0
def tw7930188172113791809:=0
def tw6116275199342908097:=0
def tw11420209617391014401:=0
def tw16277712947524222465:=0
def tw7681635345651231073:=0
def tw12882868865954977089:=0
def tw17642488401865956641:=0
def tw7323088328303105217:=0
def tw347199945009916033:=0
def tw3974969883523068961:=0
def tw11581978100364800001:=0
def tw8021929919528889248:=0
def tw3194780430419992384:=0
def tw10950184102612272928:=0
def tw983191926835043072:=0
def tw14647576380575614496:=0
def tw7162082174730068448:=0
def tw13256406479753229472:=0
def tw11412605403304462400:=0
def tw92695575526133221:=0
def tw1869140356797381538:=0
end PySem.W.Fast
section
set_option Elab.async false
namespace L2
open PySem PySem.Spec PyProof.Rows
noncomputable abbrev Key:=Sum Int Str
noncomputable def xY:Key->Value->Bool
 | .inl k,v=>Value.isInt k v
 | .inr x,v=>Value.isStrOf x v
noncomputable def abx (w:World):Key->Int
 | .inl k=>hashInt k
 | .inr x=>hashStr w x
theorem bQ:∀ {k:Key} {v:Value},xY k v=true->(∃ i t,k=Sum.inl i/\v=Value.int i t)∨(∃ x t,k=Sum.inr x/\v=Value.str x t)
 | .inl i,v,h=>by
  obtain ⟨t,e⟩:=Value.isInt_shape (k:=i) (v:=v) h
  exact .inl ⟨i,t,rfl,e⟩
 | .inr x,v,h=>by
  obtain ⟨t,e⟩:=Value.isStrOf_shape (x:=x) (v:=v) h
  exact .inr ⟨x,t,rfl,e⟩
theorem Jk (i:Int) (t:Tok):xY (.inl i) (.int i t)=true:=by simp [xY,Value.isInt]
theorem Jj (x:Str) (t:Tok):xY (.inr x) (.str x t)=true:=by simp [xY,Value.isStrOf]
theorem Ws (a b:Int):decide ((Sum.inl a:Key)=Sum.inl b)=(a == b):=by
 by_cases e:a=b
 ·subst e; simp
 ·have h:¬ (Sum.inl a:Key)=Sum.inl b:=fun q=>e (Sum.inl.inj q)
  rw [decide_eq_false h]
  exact (beq_eq_false_iff_ne.mpr e).symm
theorem Wo (a b:Str):decide ((Sum.inr a:Key)=Sum.inr b)=decide (a=b):=by
 by_cases e:a=b
 ·subst e; simp
 ·have h:¬ (Sum.inr a:Key)=Sum.inr b:=fun q=>e (Sum.inr.inj q)
  rw [decide_eq_false h,decide_eq_false e]
theorem Wr (a:Int) (b:Str):decide ((Sum.inl a:Key)=Sum.inr b)=false:=decide_eq_false (fun q=>nomatch q)
theorem Wq (a:Str) (b:Int):decide ((Sum.inr a:Key)=Sum.inl b)=false:=decide_eq_false (fun q=>nomatch q)
noncomputable def cP (prog:Program) (w:World):PySem.KeyKind prog w Key where
 is:=xY
 hash:=abx w
 inj:=fun v a b ha hb=>by
  rcases bQ ha with ⟨i,t,rfl,rfl⟩ | ⟨x,t,rfl,rfl⟩
  ·rcases bQ hb with ⟨j,u,rfl,e⟩ | ⟨y,u,rfl,e⟩
   ·injection e with e1 _; rw [e1]
   ·exact nomatch e
  ·rcases bQ hb with ⟨j,u,rfl,e⟩ | ⟨y,u,rfl,e⟩
   ·exact nomatch e
   ·injection e with e1 _; rw [e1]
 byValue:=fun k v h=>by
  rcases bQ h with ⟨i,t,rfl,rfl⟩ | ⟨x,t,rfl,rfl⟩ <;> rfl
 pyHash:=fun hv h=>by
  rcases bQ hv with ⟨i,t,rfl,rfl⟩ | ⟨x,t,rfl,rfl⟩
  ·exact wpAny_pyHash_int h
  ·exact wpAny_pyHash_str h
 eqBool:=fun hu hv h=>by
  rcases bQ hu with ⟨i,t,rfl,rfl⟩ | ⟨x,t,rfl,rfl⟩
  ·rcases bQ hv with ⟨j,u,rfl,rfl⟩ | ⟨y,u,rfl,rfl⟩
   ·rw [Ws] at h; exact wpAny_eqBool_int h
   ·rw [Wr] at h; exact SeqAt.EqAt.int_str i t y u _ _ _ _ h
  ·rcases bQ hv with ⟨j,u,rfl,rfl⟩ | ⟨y,u,rfl,rfl⟩
   ·rw [Wq] at h; exact SeqAt.EqAt.str_int x t j u _ _ _ _ h
   ·rw [Wo] at h; exact wpAny_eqBool_str h
 «strs»:=fun k x t v h=>by
  rcases bQ h with ⟨i,u,rfl,e⟩ | ⟨y,u,rfl,e⟩
  ·exact nomatch e
  ·injection e with e1 _
   subst e1
   cases v <;> rfl
theorem Cd (prog:Program) (w:World) (i:Int) (t:Tok):(cP prog w).is (.inl i) (.int i t)=true:=Jk i t
theorem BZ (prog:Program) (w:World) (x:Str) (t:Tok):(cP prog w).is (.inr x) (.str x t)=true:=Jj x t
end L2
namespace L2
open PySem PySem.Spec PyProof.Rows
inductive V where
 | non | bl (b:Bool) | int (i:Int) | str (x:Str) | Uv (b:Array UInt8) | flt (b:UInt64) | ref (a:Addr) | ty (n:String)
 deriving DecidableEq
noncomputable def RelV:V->Value->Prop
 | .non,u=>u=Value.none
 | .bl b,u=>u=Value.bool b
 | .int i,u=>∃ t,u=Value.int i t
 | .str x,u=>∃ t,u=Value.str x t
 | .Uv b,u=>∃ t,u=Value.bytes b t
 | .flt b,u=>∃ t,u=Value.float b t
 | .ref a,u=>u=Value.ref a
 | .ty n,u=>u=Value.type n
noncomputable abbrev Vals:List V->List Value->Prop:=Paired RelV
theorem Vals.length {xs:List V} {us:List Value} (r:Vals xs us):xs.length=us.length:=Paired.length r
theorem Vals.get:∀ {xs:List V} {us:List Value} {i:Nat} {x:V},Vals xs us->xs[i]? = some x->∃ u,us[i]? = some u/\RelV x u
 | _,_,_,_,.nil,e=>by simp at e
 | _,_,0,_,.cons r _,e=>by simp at e; subst e; exact ⟨_,rfl,r⟩
 | _,_,i + 1,x,.cons _ t,e=>by
  obtain ⟨u,h1,h2⟩:=Vals.get (i:=i) (x:=x) t (by simpa using e)
  exact ⟨u,by simpa using h1,h2⟩
theorem Vals.set {x:V} {u:Value} (r:RelV x u):∀ {xs:List V} {us:List Value} (i:Nat),Vals xs us->Vals (xs.set i x) (us.set i u)
 | _,_,_,.nil=>.nil
 | _,_,0,.cons _ t=>.cons r t
 | _,_,i + 1,.cons q t=>.cons q (Vals.set r i t)
theorem Vals.append:∀ {xs ys:List V} {us ws:List Value},Vals xs us->Vals ys ws->Vals (xs ++ ys) (us ++ ws)
 | _,_,_,_,.nil,s=>s
 | _,_,_,_,.cons r t,s=>.cons r (Vals.append t s)
theorem Vals.take:∀ {xs:List V} {us:List Value} (n:Nat),Vals xs us->Vals (xs.take n) (us.take n)
 | _,_,0,_=>.nil
 | _,_,_ + 1,.nil=>.nil
 | _,_,n + 1,.cons r t=>.cons r (Vals.take n t)
theorem Vals.drop:∀ {xs:List V} {us:List Value} (n:Nat),Vals xs us->Vals (xs.drop n) (us.drop n)
 | _,_,0,r=>r
 | _,_,_ + 1,.nil=>.nil
 | _,_,n + 1,.cons _ t=>Vals.drop n t
theorem Vals.none_of:∀ {xs:List V} {us:List Value} {i:Nat},Vals xs us->xs[i]? = none->us[i]? = none:=fun {xs us i} r e=>by
 have h1:=r.length
 have h2:xs.length<=i:=List.getElem?_eq_none_iff.mp e
 exact List.getElem?_eq_none_iff.mpr (by lia)
noncomputable def jP:Option V->Option Value->Prop
 | some v,some u=>RelV v u
 | none,none=>True
 | _,_=>False
noncomputable def KV {κ:Type}:List (κ×V)->List (κ×Value)->Prop:=Paired fun (p:κ×V) (q:κ×Value)=>p.1=q.1/\RelV p.2 q.2
noncomputable def kV:Key->V
 | .inl i=>.int i
 | .inr x=>.str x
structure Tab where
 q:Str
 ps:Array Value
instance:HAppend Tab (Array Value) Tab:=⟨fun t m=>⟨t.q,t.ps ++ m⟩⟩
theorem Tab.assoc (t:Tab) (a b:Array Value):t ++ a ++ b=t ++ (a ++ b):=by show Tab.mk t.q (t.ps ++ a ++ b)=Tab.mk t.q (t.ps ++ (a ++ b)); rw [Array.append_assoc]
@[simp] theorem Tab.nil (t:Tab):t ++ (#[]:Array Value)=t:=by show Tab.mk t.q (t.ps ++ #[])=t; rw [Array.append_empty]
inductive HO where
  | lst (xs:List V)
  | tup (xs:List V)
  | dK (kvs:List (Key×V)) | dT (kvs:List (List Key×V))
  | set (S:Int->Bool) (n:Nat)
  | ins (C dx:Addr) (fs:List (Str×V))
  | own (x:Addr)
  | xd (fs:List (Str×V))
  | met (f x:Addr)
  | rng (lo hi:Int)
  | iz (o:Obj) (u:HO)
  | J4 (t:Tab)
  | ext (φ:Heap->Prop)
noncomputable abbrev Hp:=Addr->Option HO
noncomputable def upd (H:Hp) (a:Addr) (o:HO):Hp:=fun b=>if b=a then some o else H b
theorem aN {H:Hp} {a:Addr} {o:HO}:upd H a o a=some o:=by unfold upd; rw [if_pos rfl]
theorem aL {H:Hp} {a b:Addr} {o:HO} (h:b≠a):upd H a o b=H b:=by unfold upd; rw [if_neg h]
theorem Y4 {H:Hp} {a b:Addr} {o u:HO} (h:H a=some o) (h':H b=some u) (d:o≠u):a≠b:=by
 intro e; subst e; rw [h] at h'; exact d (Option.some.inj h')
theorem bf {H:Hp} {a b:Addr} {o:HO} (h:H a=some o) (h':H b=none):a≠b:=by
 intro e; subst e; rw [h] at h'; cases h'
noncomputable def lX (h:Heap) (a:Addr) (items:Array Value):Prop:=∃ o,h.get? a=some o/\o.cls = .type "tuple"/\∃ n,o.data = .seq items n/\o.dict=none
theorem lX.is {h:Heap} {a:Addr} {items:Array Value} (x:lX h a items):IsTup h a items:=by obtain ⟨o,e,c,n,d,_⟩:=x; exact ⟨o,e,c,n,d⟩
theorem lX.lt {h:Heap} {a:Addr} {items:Array Value} (x:lX h a items):a < h.objs.size:=by obtain ⟨o,e,_⟩:=x; exact Heap.lt_size e
theorem lX.new (h:Heap) (items:Array Value):lX (h.push { cls:=.type "tuple",data:=.seq items }) h.objs.size items:=⟨_,Heap.get?_push_size _ rfl,rfl,_,rfl,rfl⟩
section
variable (P:Program) (w:World)
noncomputable def bR (H:Hp) (h:Heap) (a:Addr):HO->Prop
 | .lst xs=>xs.length<=sizeLine/\∃ (its:List Value) (n:Nat),Vals xs its/\h.get? a=some { cls:=.type "list",data:=.seq its.toArray n }
 | .tup xs=>xs.length<=sizeLine/\∃ its:List Value,Vals xs its/\lX h a its.toArray
 | .dK kvs=>kvs.length<=sizeLine/\(a == sysModules)=false/\∃ vs,KV kvs vs/\h.DictOf (cP P w) a vs
 | .dT kvs=>kvs.length<=sizeLine/\(a == sysModules)=false/\∃ xs:List (List Key×Addr×Value),
   Paired (fun (p:List Key×V) (q:List Key×Addr×Value)=>p.1=q.1/\H q.2.1=some (.tup (p.1.map kV))/\RelV p.2 q.2.2) kvs xs /\
   ∃ o es ep,h.get? a=some o/\o.ExactDict/\o.data = .dict es ep/\es.toList=xs.map (entryOfKey (tupleKind (cP P w)))/\(xs.map (·.1)).Nodup
 | .set S n=>h.SetOf (intKind P w) a S n
 | .ins C dx fs=>H dx=some (.own a)/\fs.length<=1000/\dx≠a/\h.get? a=some (PySem.W.instObj C dx) /\
   ∃ mA,h.Ns1 dx mA/\(∀ f,jP (fs.lookup f) (mA f))/\PySem.Within mA (fs.map (·.1))
 | .own _=>∃ o,h.get? a=some o
 | .xd fs=>∃ mA,h.Ns1 a mA/\∀ f,jP (fs.lookup f) (mA f)
 | .rng lo hi=>∃ t u v,h.get? a=some { cls:=.type "range",data:=.fields #[.int lo t,.int hi u,.int 1 v] }
 | .iz o u=>h.get? a=some o/\bR H h a u
 | .J4 t=>h.get? a=some { cls:=.none,data:=.fields t.ps }/\TriplesOk t.ps.toList/\∀ pos cv,codeAmong pos t.ps.toList=some cv->∃ c oc vs tq,cv = .ref c/\H c=some (.own a)/\h.get? c=some oc/\oc.data = .fields vs/\vs[1]? = some (.str t.q tq)
 | .met f x=>h.get? a=some (PySem.W.methodObj (.ref f) (.ref x))
 | .ext φ=>φ h/\(∃ o,h.get? a=some o)/\∀ h1 h2:Heap,φ h1->(∀ o,h1.get? a=some o->h2.get? a=some o)->φ h2
noncomputable def mR (H:Hp) (h:Heap):Prop:=∀ a o,H a=some o->bR P w H h a o
end
section
variable {P:Program} {w:World} {H H':Hp} {h h':Heap} {a:Addr} {o:HO}
theorem bR.lt (x:bR P w H h a o):a < h.objs.size:=by
 cases o with
 | lst xs=>obtain ⟨_,_,_,_,e⟩:=x; exact Heap.lt_size e
 | tup xs=>obtain ⟨_,_,_,p⟩:=x; exact p.lt
 | dK kvs=>obtain ⟨_,_,_,_,o,_,_,e,_⟩:=x; exact Heap.lt_size e
 | dT kvs=>obtain ⟨_,_,_,_,o,_,_,e,_⟩:=x; exact Heap.lt_size e
 | set S n=>obtain ⟨o,_,_,_,e,_⟩:=x; exact Heap.lt_size e
 | ins C dx fs=>obtain ⟨_,_,_,e,_⟩:=x; exact Heap.lt_size e
 | own y=>obtain ⟨_,e⟩:=x; exact Heap.lt_size e
 | xd fs=>obtain ⟨_,⟨_,_,_,e,_⟩,_⟩:=x; exact Heap.lt_size e
 | rng lo hi=>obtain ⟨_,_,_,e⟩:=x; exact Heap.lt_size e
 | iz ob u=>obtain ⟨e,_⟩:=x; exact Heap.lt_size e
 | J4 t=>exact Heap.lt_size (show h.get? a=some _ from x.1)
 | met f y=>exact Heap.lt_size (show h.get? a=some _ from x)
 | ext φ=>obtain ⟨_,⟨_,e⟩,_⟩:=x; exact Heap.lt_size e
theorem Paired.Wc {α β:Type} {F G:α->β->Prop}:∀ {l₁:List α} {l₂:List β},Paired F l₁ l₂->(∀ a b,F a b->G a b)->Paired G l₁ l₂
 | _,_,.nil,_=>.nil
 | _,_,.cons r t,f=>.cons (f _ _ r) (Paired.Wc t f)
theorem bR.stay (x:bR P w H h a o) (k:∀ b u,(b=a∨H b=some (.own a))->h.get? b=some u->h'.get? b=some u)
  (ho:∀ b,H b=some (.own a)->H' b=some (.own a)) (ht:∀ b xs,H b=some (.tup xs)->H' b=some (.tup xs)):bR P w H' h' a o:=by
 induction o with
 | lst xs=>obtain ⟨z,its,n,r,e⟩:=x; exact ⟨z,its,n,r,k _ _ (.inl rfl) e⟩
 | tup xs=>obtain ⟨z,its,r,ob,e,c⟩:=x; exact ⟨z,its,r,ob,k _ _ (.inl rfl) e,c⟩
 | dK kvs=>obtain ⟨z,y,vs,r,ob,es,ep,e,c⟩:=x; exact ⟨z,y,vs,r,ob,es,ep,k _ _ (.inl rfl) e,c⟩
 | dT kvs =>
  obtain ⟨z,y,xs,r,ob,es,ep,e,c⟩:=x
  exact ⟨z,y,xs,Paired.Wc r fun p q z=>⟨z.1,ht _ _ z.2.1,z.2.2⟩,ob,es,ep,k _ _ (.inl rfl) e,c⟩
 | set S n=>obtain ⟨ob,es,ep,t,e,c⟩:=x; exact ⟨ob,es,ep,t,k _ _ (.inl rfl) e,c⟩
 | ins C dx fs =>
  obtain ⟨d,z,ne,e,mA,⟨od,es,ep,e2,c⟩,r⟩:=x
  exact ⟨ho _ d,z,ne,k _ _ (.inl rfl) e,mA,⟨od,es,ep,k _ _ (.inr d) e2,c⟩,r⟩
 | own y=>obtain ⟨ob,e⟩:=x; exact ⟨ob,k _ _ (.inl rfl) e⟩
 | xd fs=>obtain ⟨mA,⟨od,es,ep,e,c⟩,r⟩:=x; exact ⟨mA,⟨od,es,ep,k _ _ (.inl rfl) e,c⟩,r⟩
 | rng lo hi=>obtain ⟨t,u,v,e⟩:=x; exact ⟨t,u,v,k _ _ (.inl rfl) e⟩
 | iz ob u ih=>obtain ⟨e,q⟩:=x; exact ⟨k _ _ (.inl rfl) e,ih q⟩
 | J4 t =>
  obtain ⟨e,z,q⟩:=x
  refine ⟨k a _ (.inl rfl) e,z,fun pos cv y=>?_⟩
  obtain ⟨c,oc,vs,tq,r1,r2,r3,r4⟩:=q pos cv y
  exact ⟨c,oc,vs,tq,r1,ho _ r2,k _ _ (.inr r2) r3,r4⟩
 | met f y =>
  have e:h.get? a=some (PySem.W.methodObj (.ref f) (.ref y)):=x
  show h'.get? a=some (PySem.W.methodObj (.ref f) (.ref y))
  exact k a _ (.inl rfl) e
 | ext φ=>obtain ⟨p,⟨o,e⟩,st⟩:=x; exact ⟨st _ _ p fun o q=>k _ _ (.inl rfl) q,⟨o,k _ _ (.inl rfl) e⟩,st⟩
theorem mR.lt (x:mR P w H h) (e:H a=some o):a < h.objs.size:=(x a o e).lt
theorem mR.fresh (x:mR P w H h) (e:h.objs.size<=a):H a=none:=by
 cases q:H a with
 | none=>rfl
 | some u=>exact absurd (Nat.lt_of_lt_of_le (x.lt q) e) (Nat.lt_irrefl _)
theorem mR.kept (x:mR P w H h) (k:∀ b u,h.get? b=some u->h'.get? b=some u):mR P w H h':=fun a o e =>
 (x a o e).stay (fun b u _ q=>k b u q) (fun _ q=>q) fun _ _ q=>q
theorem mR.laid (x:mR P w H h) (k:∀ b u,h.get? b=some u->h'.get? b=some u) (hp:h.objs.size<=a) (new:bR P w (upd H a o) h' a o):mR P w (upd H a o) h':=fun b u e=>by
 have hn:=x.fresh hp
 by_cases hb:b=a
 ·subst hb; rw [aN] at e; cases e; exact new
 ·rw [aL hb] at e
  exact (x b u e).stay (fun c v _ q=>k c v q) (fun c q=>by rw [aL (bf q hn)]; exact q) fun c xs q=>by rw [aL (bf q hn)]; exact q
end
noncomputable def Rd (H:Hp) (a:Addr) (u:HO):Prop:=H a=some u∨∃ o,H a=some (.iz o u)
theorem Rd.of {H:Hp} {a:Addr} {u:HO} (h:H a=some u):Rd H a u:=.inl h
theorem Rd.ok {P:Program} {w:World} {H:Hp} {h:Heap} {a:Addr} {u:HO} (r:Rd H a u) (x:mR P w H h):bR P w H h a u:=by
 rcases r with r | ⟨o,r⟩
 ·exact x a u r
 ·obtain ⟨_,q⟩:=x a _ r
  exact q
noncomputable def ZW:Option HO->Prop
 | some (.lst _)=>True
 | some (.dK _)=>True
 | some (.dT _)=>True
 | some (.set _ _)=>True
 | some (.ins _ _ _)=>True
 | some (.ext _)=>True
 | _=>False
section
variable {P:Program} {w:World} {H:Hp} {h h':Heap} {x e:Addr} {o':HO}
theorem mR.write (ok:mR P w H h) (mu:ZW (H x)) (he:e=x∨H e=some (.own x)) (k:∀ b u,b≠e->h.get? b=some u->h'.get? b=some u) (heo:∃ u,h'.get? e=some u)
  (new:bR P w (upd H x o') h' x o'):mR P w (upd H x o') h':=fun b u q=>by
 have YX:∀ c y,H c=some (.own y)->c≠x:=fun c y r z=>by subst z; rw [r] at mu; exact mu
 have abo:∀ c xs,H c=some (.tup xs)->c≠x:=fun c xs r z=>by subst z; rw [r] at mu; exact mu
 by_cases hb:b=x
 ·subst hb; rw [aN] at q; cases q; exact new
 ·rw [aL hb] at q
  by_cases hbe:b=e
  ·have q':H b=some (.own x):=by
    rcases he with z | z
    ·exact absurd (hbe.trans z) hb
    ·rw [hbe]; exact z
   rw [q] at q'; cases q'
   obtain ⟨v,hv⟩:=heo
   exact ⟨v,by rw [hbe]; exact hv⟩
  ·refine (ok b u q).stay (fun c v hc r=>k c v ?_ r) (fun c r=>by rw [aL (YX c b r)]; exact r) fun c xs r=>by rw [aL (abo c xs r)]; exact r
   rcases hc with rfl | hc
   ·exact hbe
   ·rintro rfl
    rcases he with z | z
    ·exact YX c b hc z
    ·rw [hc] at z; cases z; exact hb rfl
end
structure Un (fs ex:List Addr) (H H':Hp) (h h':Heap):Prop where
 keep:∀ b o,h.get? b=some o->H b=none->b ∉ fs->b ∉ ex->h'.get? b=some o
 slot:∀ b o,h.get? b=some o->H b=none->b∈fs->b ∉ ex->∃ sl,h'.get? b=some { o with slots:=sl }
 free:∀ b o,h.get? b=some o->H b=none->b ∉ ex->H' b=none
 there:∀ b o,h.get? b=some o->b ∉ ex->∃ o',h'.get? b=some o'
 tups:∀ b xs,H b=some (.tup xs)->H' b=some (.tup xs)
 lR:∀ b o u,H b=some (.iz o u)->H' b=some (.iz o u)
 nF:∀ b ps,H b=some (.J4 ps)->∃ more:Array Value,H' b=some (.J4 (ps ++ more))
section
variable {fs fs' ex ex':List Addr} {H H1 H2:Hp} {h h1 h2 h':Heap} {a x e:Addr} {o:HO}
theorem Un.any (u:Un fs ex H H1 h h1) {b:Addr} {ob:Obj} (q:h.get? b=some ob) (n:H b=none) (hx:b ∉ ex):∃ sl,h1.get? b=some { ob with slots:=sl }:=by
 by_cases hb:b∈fs
 ·exact u.slot b ob q n hb hx
 ·exact ⟨ob.slots,u.keep b ob q n hb hx⟩
theorem Un.trans (a:Un fs ex H H1 h h1) (b:Un fs ex H1 H2 h1 h2):Un fs ex H H2 h h2 where
 keep:=fun c ob q n hc hx=>b.keep c ob (a.keep c ob q n hc hx) (a.free c ob q n hx) hc hx
 slot:=fun c ob q n hc hx=>by
  obtain ⟨sl,e1⟩:=a.slot c ob q n hc hx
  obtain ⟨sl',e2⟩:=b.slot c _ e1 (a.free c ob q n hx) hc hx
  exact ⟨sl',e2⟩
 free:=fun c ob q n hx=>by
  obtain ⟨o',e1⟩:=a.there c ob q hx
  exact b.free c o' e1 (a.free c ob q n hx) hx
 there:=fun c ob q hx=>by
  obtain ⟨o',e1⟩:=a.there c ob q hx
  exact b.there c o' e1 hx
 tups:=fun c xs q=>b.tups c xs (a.tups c xs q)
 lR:=fun c ob xs q=>b.lR c ob xs (a.lR c ob xs q)
 nF:=fun c ps q=>by
  obtain ⟨m1,e1⟩:=a.nF c ps q
  obtain ⟨m2,e2⟩:=b.nF c _ e1
  exact ⟨m1 ++ m2,by rw [e2,Tab.assoc]⟩
theorem Un.kept (k:∀ b u,h.get? b=some u->h'.get? b=some u):Un fs ex H H h h' :=
 ⟨fun b ob q _ _ _=>k b ob q,fun b ob q _ _ _=>⟨ob.slots,k b ob q⟩,fun _ _ _ n _=>n,fun b ob q _=>⟨ob,k b ob q⟩,fun _ _ q=>q,fun _ _ _ q=>q,fun _ ps q=>⟨#[],by rw [q,Tab.nil]⟩⟩
theorem Un.refl:Un fs ex H H h h:=Un.kept fun _ _ q=>q
theorem Un.laid (k:∀ b u,h.get? b=some u->h'.get? b=some u) (hp:h.objs.size<=a) (hn:H a=none):Un fs ex H (upd H a o) h h' where
 keep:=fun b u q _ _ _=>k b u q
 slot:=fun b u q _ _ _=>⟨u.slots,k b u q⟩
 free:=fun b u q n _=>by rw [aL (Nat.ne_of_lt (Nat.lt_of_lt_of_le (Heap.lt_size q) hp))]; exact n
 there:=fun b u q _=>⟨u,k b u q⟩
 tups:=fun b xs q=>by rw [aL (bf q hn)]; exact q
 lR:=fun b u xs q=>by rw [aL (bf q hn)]; exact q
 nF:=fun b ps q=>⟨#[],by rw [aL (bf q hn),q,Tab.nil]⟩
theorem Un.write (mu:ZW (H x)) (he:e=x∨H e=some (.own x)) (k:∀ b u,b≠e->h.get? b=some u->h'.get? b=some u) (heo:∃ u,h'.get? e=some u):Un fs ex H (upd H x o) h h':=by
 have hx:∀ b,H b=none->b≠x:=fun b n z=>by subst z; rw [n] at mu; exact mu
 have hb:∀ b,H b=none->b≠e:=fun b n z=>by
  subst z
  rcases he with r | r
  ·exact hx b n r
  ·rw [n] at r; cases r
 have hm:∀ b u,H b=some u->¬ ZW (some u)->b≠x:=fun b u q nm z=>by subst z; rw [q] at mu; exact nm mu
 refine ⟨fun b u q n _ _=>k b u (hb b n) q,fun b u q n _ _=>⟨u.slots,k b u (hb b n) q⟩,fun b u q n _=>by rw [aL (hx b n)]; exact n,fun b u q _=>?_,
  fun b xs q=>by rw [aL (hm b _ q fun z=>z)]; exact q,fun b u xs q=>by rw [aL (hm b _ q fun z=>z)]; exact q,fun b ps q=>⟨#[],by rw [aL (hm b _ q fun z=>z),q,Tab.nil]⟩⟩
 by_cases hbe:b=e
 ·subst hbe; exact heo
 ·exact ⟨u,k b u hbe q⟩
theorem Un.mono (u:Un fs ex H H1 h h1) (hs:∀ b∈fs,b∈fs') (hx:∀ b∈ex,b∈ex'):Un fs' ex' H H1 h h1 :=
 ⟨fun b ob q n hb he=>u.keep b ob q n (fun z=>hb (hs b z)) fun z=>he (hx b z),fun _ _ q n _ he=>u.any q n fun z=>he (hx _ z),fun b ob q n he=>u.free b ob q n fun z=>he (hx b z),fun b ob q he=>u.there b ob q fun z=>he (hx b z),u.tups,u.lR,u.nF⟩
end
noncomputable def Vl (h:Heap) (H:Hp):List Addr:=(List.range h.objs.size).filter fun a=>(H a).isSome
noncomputable def zF (h:Heap) (H:Hp):Heap:=PySem.W.hideAll h (Vl h H)
theorem Jv (h:Heap) (H:Hp):(zF h H).objs.size=h.objs.size:=PySem.W.hideAll_size _ _
theorem Oi {h:Heap} {H:Hp} {b:Addr} {o:Obj} (e:h.get? b=some o) (n:H b=none):(zF h H).get? b=some o :=
 PySem.W.hideAll_get _ e fun hm=>by
  have q:(H b).isSome=true:=(List.mem_filter.mp hm).2
  rw [n] at q; simp at q
theorem RG {h:Heap} {H:Hp} {b:Addr} {o:Obj} (e:(zF h H).get? b=some o):h.get? b=some o/\H b=none:=by
 have e':h.get? b=some o:=PySem.W.of_hideAll (Vl h H) e
 refine ⟨e',?_⟩
 cases q:H b with
 | none=>rfl
 | some x =>
  have hm:b∈Vl h H:=List.mem_filter.mpr ⟨List.mem_range.mpr (Heap.lt_size e'),by simp [q]⟩
  have z:(zF h H).get? b=none:=PySem.W.hideAll_none (Vl h H) hm
  rw [z] at e; cases e
noncomputable def TJ (g h:Heap) (L:Addr):List (Addr×Obj):=(List.range h.objs.size).filterMap fun a=>if a=L∨(g.get? a).isSome=true then none else (h.get? a).map fun o=>(a,o)
noncomputable def rest (g h:Heap) (L d:Addr):List (Addr×Obj):=(TJ g h L).filter fun p=>decide (p.1≠d)
end L2
namespace L2
open PySem PySem.Spec PyProof.Rows
noncomputable def HdS (A:Around) (h:Heap):Prop:=∀ v,A.handled=some v->∃ x o vs,v = .ref x/\h.get? x=some o/\o.data = .fields vs/\vs[2]? = some .none
section
variable {prog:Program} {w:World} {A:Around} {E:Value->Shared->Prop} {s:Shared}
theorem wW:entryFor table "proto.unchain" = some Builtin.«proto.unchain»:=entryFor_of_tree (by kernel_rfl)
theorem Lf {α:Type} {a:Addr} {o:Obj} {vs:Array Value} {Q:α->Shared->Prop} (hh:HdS A s.heap) (ho:s.heap.get? a=some o) (hd:o.data = .fields vs) (hz:2 < vs.size)
  (hE:∀ h' o',h'.get? a=some o'->o'.cls=o.cls->Heap.SameBut a s.heap h'->E (.ref a) { s with heap:=h' }):wpAny (model prog w) A (raiseNew (.ref a)) Q E s:=by
 obtain ⟨oc,od,dt,sl⟩:=o
 cases hd
 unfold raiseNew
 refine wpAny_bind (wpAny_handled ?_)
 cases q:A.handled with
 | none=>exact wpAny_throw (hE s.heap _ ho rfl (Heap.SameBut.refl ..))
 | some v =>
  obtain ⟨x,ox,ws,rfl,hx,hxd,hx2⟩:=hh v q
  show wpAny _ _ (if (Value.ref x != Value.ref a)=true then _ else _) _ _ s
  by_cases e:(Value.ref x != Value.ref a)=true
  ·rw [if_pos e]
   refine wpAny_bind (wpAny_holding (wpAny_runValue (codeAny_builtin wW ?_)))
   unfold Builtin.«proto.unchain»
   refine wpAny_bind (wpAny_field hx hxd hx2 ?_)
   refine wpAny_pure ?_
   show wpAny _ _ (updateField a 2 (.ref x) >>= _) _ _ s
   unfold updateField
   refine wpAny_bind (wpAny_bind (wpAny_load ho ?_))
   show wpAny _ _ (if 2 < vs.size then _ else _) _ _ s
   rw [if_pos hz]
   refine wpAny_update ho (wpAny_throw ?_)
   exact hE _ _ (Heap.get?_update_self _ ho rfl) rfl (Heap.SameBut.update ..)
  ·rw [if_neg e]
   exact wpAny_throw (hE s.heap _ ho rfl (Heap.SameBut.refl ..))
theorem Ii {α:Type} {it:Addr} {Q:α->Shared->Prop} (hh:HdS A s.heap) (k:∀ h' a o,h'.get? a=some o->o.cls = .type "StopIteration"->Heap.ExtBut it s.heap h'->E (.ref a) { s with heap:=h' }) :
  wpAny (model prog w) A (do let e <- newExc (.type "StopIteration") []; raiseNew e) Q E s:=by
 refine wpAny_bind ?_
 simp only [newExc,newTuple]
 refine wpAny_bind (wpAny_newObj_type (wpAny_bind (m:=firstArgMember _ _) (wpAny_of_eq (a:=Value.none) (by first | rfl | (simp only [firstArgMember]; rfl)) (wpAny_newObj_type ?_ (by size_fits)))) (by size_fits))
 refine Lf (vs:=#[.ref s.heap.objs.size,.none,.none,.none,.bool false,.none] ++ ownMembersOf (.type "StopIteration") []) (fun v q=>?_) (Heap.get?_push_size _ rfl) rfl (by simp [ownMembersOf]) fun h' o' e1 e2 sb=>k _ _ _ e1 e2 fun b o hb e=>?_
 ·obtain ⟨x,o,vs,e,h1,h2,h3⟩:=hh v q
  exact ⟨x,o,vs,e,Heap.get?_push_of_some _ (Heap.get?_push_of_some _ h1),h2,h3⟩
 ·refine (sb.2 b ?_).trans (Heap.get?_push_of_some _ (Heap.get?_push_of_some _ e))
  have h2:(s.heap.push { cls:=.type "tuple",data:=.seq #[] }).objs.size=s.heap.objs.size + 1:=by simp [Heap.push]
  have h3:s.heap.objs.size<=(s.heap.push { cls:=.type "tuple",data:=.seq #[] }).objs.size:=by lia
  rintro rfl
  exact absurd (Nat.lt_of_lt_of_le (Heap.lt_size e) h3) (Nat.lt_irrefl _)
theorem Em {it:Addr} {x left c:Int} {Q:Option Value->Shared->Prop} (hh:HdS A s.heap) (hI:IsRangeIter s.heap it x left c) (z:left<=0) (k:∀ h',Heap.ExtBut it s.heap h'->Q none { s with heap:=h' }):wpAny (model prog w) A (pyNext (.ref it)) Q E s:=by
 have ty:s.TypeIs (.ref it) "range_iterator":=⟨_,hI,rfl⟩
 unfold pyNext
 refine wpAny_bind (wpAny_attempt (wpAny_callSpecial?_slot (name:=Str.ofString "__next__") ty F.slot_range_iterator_next (wpAny_call_entry F.slot_range_iterator_next ty F.entry_range_iterator_next ?_ (F.args_range_iterator_next_1 _))))
 refine (show wpAny _ _ (do let a <- field (.ref it) 0; _) _ _ s from wpAny_bind (wpAny_field hI rfl (x:=rawInt x) rfl ?_))
 refine (show wpAny _ _ (do let a <- field (.ref it) 1; _) _ _ s from wpAny_bind (wpAny_field hI rfl (x:=rawInt left) rfl ?_))
 refine (show wpAny _ _ (do let a <- field (.ref it) 2; _) _ _ s from wpAny_bind (wpAny_field hI rfl (x:=rawInt c) rfl ?_))
 show wpAny _ _ (ite (left<=0) _ _) _ _ s
 rw [if_pos z]
 refine wpAny_bind (wpAny_rule (wpAny_bind (Ii (it:=it) hh fun h' a o e1 e2 eb=>?_)))
 exact wpAny_bind (wpAny_isInstance (T:="StopIteration") (b:=true) ⟨_,e1,e2⟩ isSubtype_stop (wpAny_pure (k _ eb)))
end
end L2
namespace L2
open PySem PySem.Spec PyProof.Rows
structure Mod (K:PySem.W.Frag) (mg:Str->Option Value) (base:Heap):Prop where
 Ze:K.In base
 glob:base.Ns mainGlobals mg
 blt:∃ mb,base.Ns builtinsNs mb/\∀ x:Str,x≠"__name__"->mb x=bootBuiltins x
 nolimit:base.NoLimit
 adq:∃ mm,base.Ns sysModules mm
noncomputable def Gm (A:Around) (H:Hp):Prop:=∀ v,A.handled=some v->∃ x o u vs,v = .ref x/\H x=some (.iz o u)/\o.data = .fields vs/\vs[2]? = some .none
theorem Gm.mono {A:Around} {H H':Hp} (x:Gm A H) (f:∀ b o u,H b=some (.iz o u)->H' b=some (.iz o u)):Gm A H':=fun v q =>
 let ⟨x,o,u,vs,e,h,r⟩:=x v q; ⟨x,o,u,vs,e,f _ _ _ h,r⟩
theorem Gm.hds {P:Program} {w:World} {A:Around} {H:Hp} {h:Heap} (x:Gm A H) (k:mR P w H h):HdS A h:=fun v q =>
 let ⟨x,o,u,vs,e,y,r⟩:=x v q; ⟨x,o,vs,e,(show bR P w H h x (.iz o u) from k _ _ y).1,r⟩
structure Cx where
 prog:Program
 w:World
 K:PySem.W.Frag
 mg:Str->Option Value
 base:Heap
 A:Around
 N:List Str
 s₀:Shared
 H₀:Hp
 env:Env
 outer:List Env
 stack:List Env
 ex:List Addr
 fn:Str->Bool
 calm:Bool
 pn:List (Addr×Obj)
 xe:Value->Shared->Prop
noncomputable def frs (l:List Env):List Addr:=l.filterMap (·.frame)
noncomputable abbrev Cx.fs (X:Cx):List Addr:=frs X.outer
noncomputable def ZR (sc:Scope) (x:Str):Prop:=sc.names.lookup x=some .local∨sc.names.lookup x=some .cell∨sc.names.lookup x=some .free
noncomputable def Loc (sc:Scope) (x:Str):Prop:=sc.names.lookup x=some .local∨sc.names.lookup x=some .cell
noncomputable def Look (env:Env) (h:Heap) (m:Str->Option Value) (x:Str) (u:Value):Prop :=
 (env.kindOf x=some .local/\m x=some u)∨((env.kindOf x=some .cell∨env.kindOf x=some .free)/\∃ c,env.cells.lookup x=some c/\h.IsCell c (some u))
structure Cx.Ok (X:Cx):Prop where
 mod:Mod X.K X.mg X.base
 kind:X.env.scope.kind = .function
 glob:X.env.globals=mainGlobals
 blt:X.env.builtins=builtinsNs
 above:X.s₀.heap.objs.size<=X.env.locals
 inj:∀ x y c,X.env.cells.lookup x=some c->X.env.cells.lookup y=some c->x=y
 has:∀ x,(X.env.kindOf x=some .cell∨X.env.kindOf x=some .free)->∃ c,X.env.cells.lookup x=some c
 cab:∀ x c,X.fn x=true->X.env.cells.lookup x=some c->X.s₀.heap.objs.size<=c
 hd:X.calm=true->X.A.handled=none
 frames:X.A.frames=some X.stack
 stk:X.stack=X.outer∨(X.stack=X.env :: X.outer/\X.env.frame=some X.env.locals)
 exf:∀ b∈X.ex,b≠X.env.locals/\∀ x c,X.env.cells.lookup x=some c->c≠b
 bs:∀ b o,X.base.get? b=some o->X.s₀.heap.get? b=some o/\X.H₀ b=none
 Pb:X.base.objs.size<=X.s₀.heap.objs.size
 MJ:∀ b o,X.base.get? b=some o->b ∉ X.ex
 SJ:∀ b∈X.ex,b ∉ X.fs
 qM:X.s₀.heap.FunFrames X.base X.outer
 Ur:∀ b∈X.fs,X.H₀ b=none
structure Inv (X:Cx) (pins:List (Addr×Obj)) (σ:List (Option V)) (H:Hp) (s:Shared):Prop where
 ok:X.Ok
 os:s.os=X.s₀.os
 bare:AllBare s.gens
 base:Un X.fs X.ex X.H₀ H X.s₀.heap s.heap
 loc:∃ m,s.heap.Ns X.env.locals m/\∀ (i:Nat) (x:Str) (v:V),X.N[i]? = some x->σ[i]? = some (some v)->ZR X.env.scope x->∃ u,RelV v u/\Look X.env s.heap m x u
 cell:∀ x c,X.env.cells.lookup x=some c->∃ v,s.heap.IsCell c v
 free:H X.env.locals=none
 jY:∀ x c,X.env.cells.lookup x=some c->H c=none
 pin:∀ p∈X.pn ++ pins,s.heap.get? p.1=some p.2/\H p.1=none/\p.1≠X.env.locals/\p.1 ∉ X.fs/\∀ v,p.2.data≠.cell v
 hok:mR X.prog X.w H s.heap
 len:σ.length=X.N.length
 hh:Gm X.A H
section
variable {X:Cx} {pins:List (Addr×Obj)} {σ:List (Option V)} {H H':Hp} {s:Shared} {h':Heap}
theorem Cx.Ok.abr (ok:X.Ok) {b:Addr} {o:Obj} (e:X.base.get? b=some o):b ∉ X.fs:=fun hb=>by
 have:=(ok.qM.mem hb).1
 rw [e] at this; cases this
theorem Inv.bs (I:Inv X pins σ H s):∀ b o,X.base.get? b=some o->s.heap.get? b=some o/\H b=none:=fun b o e =>
 ⟨I.base.keep b o (I.ok.bs b o e).1 (I.ok.bs b o e).2 (I.ok.abr e) (I.ok.MJ b o e),I.base.free b o (I.ok.bs b o e).1 (I.ok.bs b o e).2 (I.ok.MJ b o e)⟩
theorem Inv.bk (I:Inv X pins σ H s):∀ b o,X.base.get? b=some o->s.heap.get? b=some o:=fun b o e=>(I.bs b o e).1
theorem Inv.mod (I:Inv X pins σ H s):Mod X.K X.mg X.base:=I.ok.mod
theorem Inv.qJ (I:Inv X pins σ H s):X.K.In s.heap:=I.ok.mod.Ze.keeps I.bk
theorem Inv.nolimit (I:Inv X pins σ H s):s.heap.NoLimit:=I.ok.mod.nolimit.keeps I.bk
theorem Inv.fr (I:Inv X pins σ H s):∃ m,Fr X.base X.env.locals s.heap m :=
 let ⟨m,hn,_⟩:=I.loc
 ⟨m,hn,I.bk,Nat.le_trans I.ok.Pb I.ok.above⟩
theorem Inv.lt (I:Inv X pins σ H s):X.env.locals < s.heap.objs.size:=let ⟨_,hn,_⟩:=I.loc; hn.lt
theorem Inv.sz (I:Inv X pins σ H s):X.s₀.heap.objs.size<=s.heap.objs.size:=Nat.le_trans I.ok.above (Nat.le_of_lt I.lt)
theorem Inv.abq (I:Inv X pins σ H s) {a:Addr} (h:s.heap.objs.size<=a):a ∉ X.fs:=fun hb=>by
 obtain ⟨_,o,ho,_⟩:=I.ok.qM.mem hb
 exact absurd (Nat.lt_of_lt_of_le (Heap.lt_size ho) (Nat.le_trans I.sz h)) (Nat.lt_irrefl _)
theorem Inv.Xi (I:Inv X pins σ H s):∀ x c,X.env.cells.lookup x=some c->c≠X.env.locals:=fun x c e z=>by
 obtain ⟨v,o,ho,hd⟩:=I.cell x c e
 obtain ⟨m,⟨o',es,ep,ho',hd',_⟩,_⟩:=I.loc
 rw [z,ho'] at ho; cases ho; rw [hd'] at hd; cases hd
theorem Inv.qM (I:Inv X pins σ H s):s.heap.FunFrames X.base X.outer:=by
 have all:∀ (l:List Env),(∀ b∈frs l,b∈X.fs)->X.s₀.heap.FunFrames X.base l->s.heap.FunFrames X.base l:=by
  intro l
  induction l with
  | nil=>intro _ _; trivial
  | cons env r ih =>
   intro hs hl
   obtain ⟨hk,⟨L,o,hf,hn,ho,hd⟩,hr⟩:=hl
   have hL:L∈X.fs:=hs L (by unfold frs; rw [List.filterMap_cons,hf]; exact List.mem_cons_self)
   obtain ⟨sl,e⟩:=I.base.slot L o ho (I.ok.Ur L hL) hL fun z=>I.ok.SJ L z hL
   exact ⟨hk,⟨L,_,hf,hn,e,hd⟩,ih (fun b hb=>hs b (by unfold frs; rw [List.filterMap_cons,hf]; exact List.mem_cons_of_mem _ hb)) hr⟩
 exact all X.outer (fun _ hb=>hb) I.ok.qM
theorem Inv.stack (I:Inv X pins σ H s):s.heap.FunFrames X.base X.stack:=by
 rcases I.ok.stk with e | ⟨e,hf⟩
 ·rw [e]; exact I.qM
 ·rw [e]
  obtain ⟨m,hn,_⟩:=I.loc
  refine .cons (by rw [I.ok.kind]; decide) hf hn ?_ I.qM
  exact Heap.get?_none_of_le (Nat.le_trans I.ok.Pb I.ok.above)
theorem Inv.yM (I:Inv X pins σ H s):∀ b∈frs X.stack,b∈X.env.locals :: X.fs:=fun b hb=>by
 rcases I.ok.stk with e | ⟨e,hf⟩
 ·rw [e] at hb; exact List.mem_cons_of_mem _ hb
 ·rw [e] at hb
  unfold frs at hb
  rw [List.filterMap_cons,hf] at hb
  exact hb
theorem Inv.Gx (I:Inv X pins σ H s):∀ b∈frs X.stack,H b=none:=fun b hb=>by
 rcases List.mem_cons.mp (I.yM b hb) with e | hb
 ·rw [e]; exact I.free
 ·obtain ⟨_,o,ho,_⟩:=I.ok.qM.mem hb
  exact I.base.free b o ho (I.ok.Ur b hb) fun z=>I.ok.SJ b z hb
theorem Inv.step {g':Array GenState} {t':Nat} {d':Drawn} {ch:List Addr} (I:Inv X pins σ H s)
  (hch:∀ b∈ch,(b∈X.ex∨X.s₀.heap.objs.size<=b)/\b≠X.env.locals/\(∀ x c,X.env.cells.lookup x=some c->c≠b)/\∀ p∈X.pn ++ pins,p.1≠b)
  (keep:∀ b o,b≠X.env.locals->b ∉ X.fs->b ∉ ch->s.heap.get? b=some o->H b=none->h'.get? b=some o)
  (slot:∀ b o,b≠X.env.locals->b∈X.fs->b ∉ ch->s.heap.get? b=some o->H b=none->∃ sl,h'.get? b=some { o with slots:=sl }) (free:∀ b o,b ∉ ch->s.heap.get? b=some o->H b=none->H' b=none)
  (there:∀ b o,b ∉ ch->s.heap.get? b=some o->∃ o',h'.get? b=some o')
  (tups:∀ b xs,H b=some (.tup xs)->H' b=some (.tup xs)) (lR:∀ b o u,H b=some (.iz o u)->H' b=some (.iz o u)) (nF:∀ b ps,H b=some (.J4 ps)->∃ more:Array Value,H' b=some (.J4 (ps ++ more)))
  (ns:∀ m,s.heap.Ns X.env.locals m->h'.Ns X.env.locals m) (hok:mR X.prog X.w H' h') (hg:AllBare g') :
  Inv X pins σ H' { s with heap:=h',gens:=g',drawn:=d',toks:=t' }:=by
 have neL:∀ b o,X.s₀.heap.get? b=some o->b≠X.env.locals:=fun b o e=>Nat.ne_of_lt (Nat.lt_of_lt_of_le (Heap.lt_size e) I.ok.above)
 have neC:∀ b o,X.s₀.heap.get? b=some o->b ∉ X.ex->b ∉ ch:=fun b o e hx hb=>by
  rcases (hch b hb).1 with z | z
  ·exact hx z
  ·exact absurd (Nat.lt_of_lt_of_le (Heap.lt_size e) z) (Nat.lt_irrefl _)
 have cellK:∀ x c,X.env.cells.lookup x=some c->∀ v,s.heap.IsCell c v->h'.IsCell c v:=fun x c e v ⟨o,ho,hd⟩=>by
  have Ug:c ∉ ch:=fun z=>(hch c z).2.2.1 x c e rfl
  by_cases hc:c∈X.fs
  ·obtain ⟨sl,q⟩:=slot c o (I.Xi x c e) hc Ug ho (I.jY x c e)
   exact ⟨_,q,hd⟩
  ·exact ⟨o,keep c o (I.Xi x c e) hc Ug ho (I.jY x c e),hd⟩
 refine ⟨I.ok,I.os,hg,⟨fun b o e n hb hx=>?_,fun b o e n hb hx=>?_,fun b o e n hx=>?_,fun b o e hx=>?_,fun b xs e=>tups b xs (I.base.tups b xs e),fun b o xs e=>lR b o xs (I.base.lR b o xs e),fun b ps e=>?_⟩,?_,fun x c e=>?_,?_,fun x c e=>?_,fun p hp=>?_,hok,I.len,I.hh.mono lR⟩
 ·exact keep b o (neL b o e) hb (neC b o e hx) (I.base.keep b o e n hb hx) (I.base.free b o e n hx)
 ·obtain ⟨sl,e1⟩:=I.base.slot b o e n hb hx
  obtain ⟨sl',e2⟩:=slot b _ (neL b o e) hb (neC b o e hx) e1 (I.base.free b o e n hx)
  exact ⟨sl',e2⟩
 ·obtain ⟨o',e1⟩:=I.base.there b o e hx
  exact free b o' (neC b o e hx) e1 (I.base.free b o e n hx)
 ·obtain ⟨o',e1⟩:=I.base.there b o e hx
  exact there b o' (neC b o e hx) e1
 ·obtain ⟨m1,e1⟩:=I.base.nF b ps e
  obtain ⟨m2,e2⟩:=nF b _ e1
  exact ⟨m1 ++ m2,by rw [e2,Tab.assoc]⟩
 ·obtain ⟨m,hn,hl⟩:=I.loc
  refine ⟨m,ns m hn,fun i x v e1 e2 e3=>?_⟩
  obtain ⟨u,r,l⟩:=hl i x v e1 e2 e3
  refine ⟨u,r,?_⟩
  rcases l with l | ⟨k,c,e,z⟩
  ·exact .inl l
  ·exact .inr ⟨k,c,e,cellK x c e _ z⟩
 ·obtain ⟨v,z⟩:=I.cell x c e
  exact ⟨v,cellK x c e v z⟩
 ·obtain ⟨m,⟨o,_,_,ho,_⟩,_⟩:=I.loc
  exact free _ o (fun z=>(hch _ z).2.1 rfl) ho I.free
 ·obtain ⟨v,o,ho,hd⟩:=I.cell x c e
  exact free c o (fun z=>(hch c z).2.2.1 x c e rfl) ho (I.jY x c e)
 ·obtain ⟨e,n,ne,nf,d⟩:=I.pin p hp
  have Ug:p.1 ∉ ch:=fun z=>(hch p.1 z).2.2.2 p hp rfl
  exact ⟨keep p.1 p.2 ne nf Ug e n,free p.1 p.2 Ug e n,ne,nf,d⟩
theorem Inv.un {t':Nat} (I:Inv X pins σ H s) (u:Un X.fs [] H H' s.heap h') (hok:mR X.prog X.w H' h'):Inv X pins σ H' { s with heap:=h',toks:=t' }:=by
 obtain ⟨m,⟨o,es,ep,ho,r⟩,_⟩:=id I.loc
 obtain ⟨sl,hL⟩:=u.any ho I.free (by simp)
 exact I.step (g':=s.gens) (d':=s.drawn) (ch:=[]) (fun _ z=>nomatch z) (fun b o _ hb _ e n=>u.keep b o e n hb (by simp)) (fun b o _ hb _ e n=>u.slot b o e n hb (by simp)) (fun b o _ e n=>u.free b o e n (by simp)) (fun b o _ e=>u.there b o e (by simp)) u.tups u.lR u.nF (fun m' hm=>by
  obtain ⟨o',es',ep',ho',r'⟩:=hm
  rw [ho] at ho'; cases ho'
  exact ⟨_,es',ep',hL,r'⟩) hok I.bare
theorem Inv.call {g':Array GenState} {t':Nat} {d':Drawn} {ch:List Addr} (I:Inv X pins σ H s) (u:Un (frs X.stack) ch H H' s.heap h') (hok:mR X.prog X.w H' h') (hg:AllBare g')
  (hch:∀ b∈ch,(b∈X.ex∨X.s₀.heap.objs.size<=b)/\b≠X.env.locals/\(∀ x c,X.env.cells.lookup x=some c->c≠b)/\∀ p∈X.pn ++ pins,p.1≠b) :
  Inv X pins σ H' { s with heap:=h',gens:=g',drawn:=d',toks:=t' }:=by
 obtain ⟨m,⟨o,es,ep,ho,r⟩,_⟩:=id I.loc
 obtain ⟨sl,hL⟩:=u.any ho I.free fun z=>(hch _ z).2.1 rfl
 exact I.step (ch:=ch) hch (fun b o hL hb hc e n=>u.keep b o e n (fun z=>(List.mem_cons.mp (I.yM b z)).elim hL hb) hc) (fun b o _ _ hc e n=>u.any e n hc) (fun b o hc e n=>u.free b o e n hc) (fun b o hc e=>u.there b o e hc) u.tups u.lR u.nF (fun m' hm=>by
  obtain ⟨o',es',ep',ho',r'⟩:=hm
  rw [ho] at ho'; cases ho'
  exact ⟨_,es',ep',hL,r'⟩) hok hg
theorem Inv.turned {t':Nat} {it:Addr} (I:Inv X pins σ H s) (k:∀ b o,b≠it->s.heap.get? b=some o->h'.get? b=some o) (hn:H it=none) (hL:it≠X.env.locals)
  (h1:it∈X.ex∨X.s₀.heap.objs.size<=it) (h2:∀ x c,X.env.cells.lookup x=some c->c≠it) (h3:∀ p∈X.pn ++ pins,p.1≠it):Inv X pins σ H { s with heap:=h',toks:=t' }:=by
 have nit:∀ b u,H b=some u->b≠it:=fun b u e z=>by rw [z,hn] at e; cases e
 refine I.step (g':=s.gens) (d':=s.drawn) (ch:=[it]) (fun b hb=>?_) (fun b o _ _ hc e _=>k b o (fun z=>hc (by simp [z])) e) (fun b o _ _ hc e _=>⟨o.slots,k b o (fun z=>hc (by simp [z])) e⟩) (fun _ _ _ _ n=>n)
  (fun b o hc e=>⟨o,k b o (fun z=>hc (by simp [z])) e⟩) (fun _ _ e=>e) (fun _ _ _ e=>e) (fun b ps e=>⟨#[],by rw [e,Tab.nil]⟩) (fun m hm=>?_) (fun b u e=>?_) I.bare
 ·have e:b=it:=by simpa using hb
  subst e
  exact ⟨h1,hL,h2,h3⟩
 ·obtain ⟨o,es,ep,ho,r⟩:=hm
  exact ⟨o,es,ep,k _ o (Ne.symm hL) ho,r⟩
 ·refine (I.hok b u e).stay (fun c v hc q=>k c v ?_ q) (fun _ q=>q) fun _ _ q=>q
  rcases hc with z | z
  ·rw [z]; exact nit b u e
  ·exact nit c _ z
theorem Inv.tok (I:Inv X pins σ H s) (t:Nat):Inv X pins σ H { s with toks:=t }:=I.un (h':=s.heap) (t':=t) Un.refl I.hok
theorem Inv.kept {t':Nat} (I:Inv X pins σ H s) (k:∀ b u,s.heap.get? b=some u->h'.get? b=some u):Inv X pins σ H { s with heap:=h',toks:=t' }:=I.un (Un.kept k) (I.hok.kept k)
theorem Inv.laid {a:Addr} {o:HO} {t':Nat} (I:Inv X pins σ H s) (k:∀ b u,s.heap.get? b=some u->h'.get? b=some u) (hp:s.heap.objs.size<=a) (new:bR X.prog X.w (upd H a o) h' a o) :
  Inv X pins σ (upd H a o) { s with heap:=h',toks:=t' }:=I.un (Un.laid k hp (I.hok.fresh hp)) (I.hok.laid k hp new)
theorem Inv.write {x e:Addr} {o:HO} {t':Nat} (I:Inv X pins σ H s) (mu:ZW (H x)) (he:e=x∨H e=some (.own x)) (k:∀ b u,b≠e->s.heap.get? b=some u->h'.get? b=some u) (heo:∃ u,h'.get? e=some u)
  (new:bR X.prog X.w (upd H x o) h' x o):Inv X pins σ (upd H x o) { s with heap:=h',toks:=t' }:=I.un (Un.write mu he k heo) (I.hok.write mu he k heo new)
theorem Inv.oY {rm:List (Addr×Obj)} (I:Inv X pins σ H s) (h:∀ p∈rm,s.heap.get? p.1=some p.2/\H p.1=none/\p.1≠X.env.locals/\p.1 ∉ X.fs/\∀ v,p.2.data≠.cell v):Inv X rm σ H s :=
 ⟨I.ok,I.os,I.bare,I.base,I.loc,I.cell,I.free,I.jY,fun p hp=>(List.mem_append.mp hp).elim (fun z=>I.pin p (List.mem_append_left _ z)) (h p),I.hok,I.len,I.hh⟩
theorem BR {N:List Str} (hN:N.Nodup) {i j:Nat} {x:Str} (a:N[i]? = some x) (b:N[j]? = some x):i=j:=by
 obtain ⟨h1,e1⟩:=List.getElem?_eq_some_iff.mp a
 obtain ⟨h2,e2⟩:=List.getElem?_eq_some_iff.mp b
 exact (List.getElem_inj hN).mp (e1.trans e2.symm)
theorem xH {M:Model} {A:Around} {E:Value->Shared->Prop} {i:Nat} {x:Str} {v:V} {u:Value} {Q:Unit->Shared->Prop} (I:Inv X pins σ H s) (hN:X.N.Nodup) (hi:X.N[i]? = some x) (hx:Loc X.env.scope x) (r:RelV v u)
  (h:∀ s',Inv X pins (σ.set i (some v)) H s'->(∃ a,Heap.SameBut a s.heap s'.heap/\(a=X.env.locals∨X.env.cells.lookup x=some a))->Q () s') (hf:X.fn x=true∨X.env.scope.names.lookup x=some .local:=by first | exact .inl rfl | exact .inr rfl | assumption):wpAny M A (storeName X.env x u) Q E s:=by
 obtain ⟨m,hn,hl⟩:=id I.loc
 have hcls:(X.env.scope.kind == .class || (X.env.scope.kind == .module && X.env.locals != X.env.globals))=false:=by rw [I.ok.kind]; rfl
 have Zk:i < σ.length:=by rw [I.len]; exact (List.getElem?_eq_some_iff.mp hi).1
 have Xi:=I.Xi
 have tracked:∀ {a:Addr} {h':Heap},(∃ o,s.heap.get? a=some o/\H a=none)->Heap.SameBut a s.heap h'->mR X.prog X.w H h':=fun {a h'} ha hs b ob e=>by
  obtain ⟨_,_,hfree⟩:=ha
  refine (I.hok b ob e).stay (fun c w' hc q=>(hs.2 c ?_).trans q) (fun _ q=>q) fun _ _ q=>q
  rintro rfl
  rcases hc with rfl | hc
  ·rw [hfree] at e; cases e
  ·rw [hfree] at hc; cases hc
 rcases hx with hk | hk
 ·refine wpAny_storeName_local hk hn (fun h' hn' hs=>?_) hcls
  obtain ⟨oL,_,_,hoL,_⟩:=id hn
  refine h _ ⟨I.ok,I.os,I.bare,⟨fun b o e n hb hx=>?_,fun b o e n hb hx=>?_,I.base.free,fun b o e hx=>?_,I.base.tups,I.base.lR,I.base.nF⟩,⟨_,hn',fun j y v' e1 e2 e3=>?_⟩,fun y c e=>?_,I.free,I.jY,fun p hp=>?_,tracked ⟨oL,hoL,I.free⟩ hs,by simpa using I.len,I.hh⟩ ⟨_,hs,.inl rfl⟩
  ·exact (hs.2 b (Nat.ne_of_lt (Nat.lt_of_lt_of_le (Heap.lt_size e) I.ok.above))).trans (I.base.keep b o e n hb hx)
  ·obtain ⟨sl,e1⟩:=I.base.slot b o e n hb hx
   exact ⟨sl,(hs.2 b (Nat.ne_of_lt (Nat.lt_of_lt_of_le (Heap.lt_size e) I.ok.above))).trans e1⟩
  ·obtain ⟨o',e1⟩:=I.base.there b o e hx
   exact ⟨o',(hs.2 b (Nat.ne_of_lt (Nat.lt_of_lt_of_le (Heap.lt_size e) I.ok.above))).trans e1⟩
  ·by_cases hj:j=i
   ·subst hj
    rw [hi] at e1; cases e1
    rw [List.getElem?_set_self Zk] at e2
    cases e2
    exact ⟨u,r,.inl ⟨hk,by simp⟩⟩
   ·rw [List.getElem?_set_ne (Ne.symm hj)] at e2
    obtain ⟨u',r',q⟩:=hl j y v' e1 e2 e3
    refine ⟨u',r',?_⟩
    rcases q with ⟨k,e⟩ | ⟨k,c,e,z⟩
    ·refine .inl ⟨k,?_⟩
     have:y≠x:=fun e=>hj (BR hN e1 (e ▸ hi))
     simp [this,e]
    ·exact .inr ⟨k,c,e,z.sameBut hs (Xi y c e)⟩
  ·obtain ⟨w',z⟩:=I.cell y c e
   exact ⟨w',z.sameBut hs (Xi y c e)⟩
  ·obtain ⟨e,n,ne,nf,d⟩:=I.pin p hp
   exact ⟨(hs.2 p.1 ne).trans e,n,ne,nf,d⟩
 ·have hfn:X.fn x=true:=by
   rcases hf with z | z
   ·exact z
   ·rw [z] at hk; cases hk
  obtain ⟨c,hc⟩:=I.ok.has x (.inl hk)
  obtain ⟨w',z⟩:=I.cell x c hc
  refine wpAny_storeName_cell I.ok.kind hk hc z (fun h' hc' hs=>?_)
  obtain ⟨oc,hoc,abG⟩:=id z
  refine h { s with heap:=h' } ⟨I.ok,I.os,I.bare,⟨fun b o e n hb hx=>?_,fun b o e n hb hx=>?_,I.base.free,fun b o e hx=>?_,I.base.tups,I.base.lR,I.base.nF⟩,⟨m,hn.sameBut hs (Ne.symm (Xi x c hc)),fun j y v' e1 e2 e3=>?_⟩,fun y c' e=>?_,I.free,I.jY,fun p hp=>?_,tracked ⟨oc,hoc,I.jY x c hc⟩ hs,by simpa using I.len,I.hh⟩ ⟨c,hs,.inr hc⟩
  ·exact (hs.2 b (Nat.ne_of_lt (Nat.lt_of_lt_of_le (Heap.lt_size e) (I.ok.cab x c hfn hc)))).trans (I.base.keep b o e n hb hx)
  ·obtain ⟨sl,e1⟩:=I.base.slot b o e n hb hx
   exact ⟨sl,(hs.2 b (Nat.ne_of_lt (Nat.lt_of_lt_of_le (Heap.lt_size e) (I.ok.cab x c hfn hc)))).trans e1⟩
  ·obtain ⟨o',e1⟩:=I.base.there b o e hx
   exact ⟨o',(hs.2 b (Nat.ne_of_lt (Nat.lt_of_lt_of_le (Heap.lt_size e) (I.ok.cab x c hfn hc)))).trans e1⟩
  ·by_cases hj:j=i
   ·subst hj
    rw [hi] at e1; cases e1
    rw [List.getElem?_set_self Zk] at e2
    cases e2
    exact ⟨u,r,.inr ⟨.inl hk,c,hc,hc'⟩⟩
   ·rw [List.getElem?_set_ne (Ne.symm hj)] at e2
    obtain ⟨u',r',q⟩:=hl j y v' e1 e2 e3
    refine ⟨u',r',?_⟩
    rcases q with q | ⟨k,c',e,z'⟩
    ·exact .inl q
    ·refine .inr ⟨k,c',e,z'.sameBut hs ?_⟩
     rintro rfl
     exact hj (BR hN e1 (I.ok.inj _ _ _ e hc ▸ hi))
  ·by_cases hcc:c'=c
   ·subst hcc; exact ⟨_,hc'⟩
   ·obtain ⟨w2,z2⟩:=I.cell y c' e
    exact ⟨w2,z2.sameBut hs hcc⟩
  ·obtain ⟨e,n,ne,nf,d⟩:=I.pin p hp
   refine ⟨(hs.2 p.1 ?_).trans e,n,ne,nf,d⟩
   intro q
   rw [q,hoc] at e
   have q':oc=p.2:=Option.some.inj e
   exact d w' (by rw [<- q']; exact abG)
theorem Bm {M:Model} {A:Around} {E:Value->Shared->Prop} {i:Nat} {x:Str} {v:V} {u:Value} {Q:Unit->Shared->Prop} (I:Inv X pins σ H s) (hN:X.N.Nodup) (hi:X.N[i]? = some x) (hx:Loc X.env.scope x) (r:RelV v u)
  (h:∀ s',Inv X pins (σ.set i (some v)) H s'->Q () s') (hf:X.fn x=true∨X.env.scope.names.lookup x=some .local:=by first | exact .inl rfl | exact .inr rfl | assumption):wpAny M A (storeName X.env x u) Q E s :=
 xH I hN hi hx r (fun s' I' _=>h s' I') hf
theorem Inv.call' {s':Shared} {ch:List Addr} (I:Inv X pins σ H s) (ho:s'.os=s.os) (u:Un (frs X.stack) ch H H' s.heap s'.heap) (hok:mR X.prog X.w H' s'.heap) (hg:AllBare s'.gens)
  (hch:∀ b∈ch,(b∈X.ex∨X.s₀.heap.objs.size<=b)/\b≠X.env.locals/\(∀ x c,X.env.cells.lookup x=some c->c≠b)/\∀ p∈X.pn ++ pins,p.1≠b):Inv X pins σ H' s':=by
 obtain ⟨h',g',d',t',o'⟩:=s'
 have e:o'=s.os:=ho
 subst e
 exact I.call (g':=g') (t':=t') (d':=d') u hok hg hch
end
noncomputable abbrev XK:=Value->Option Addr->Hp->Prop
noncomputable abbrev St:=List (Option V)
noncomputable abbrev VK:=V->Hp->Prop
noncomputable abbrev TE:=St->Hp->VK->Prop
noncomputable abbrev TT:=St->Hp->(Bool->Hp->Prop)->Prop
noncomputable abbrev TA:=St->Hp->(List V->Hp->Prop)->Prop
structure Ends where
 nx:St->Hp->Prop
 rt:VK
 bk:St->Hp->Prop:=fun _ _=>False
 ct:St->Hp->Prop:=fun _ _=>False
noncomputable abbrev TS:=Ends->St->Hp->Prop
noncomputable def EP (X:Cx) (pins:List (Addr×Obj)) (σ:St) (Q:VK) (u:Value) (s':Shared):Prop:=∃ v H',Inv X pins σ H' s'/\RelV v u/\Q v H'
noncomputable def TP (X:Cx) (pins:List (Addr×Obj)) (σ:St) (Q:Bool->Hp->Prop) (b:Bool) (s':Shared):Prop:=∃ H',Inv X pins σ H' s'/\Q b H'
noncomputable def AP (X:Cx) (pins:List (Addr×Obj)) (σ:St) (Q:List V->Hp->Prop) (us:List Value) (s':Shared):Prop:=∃ vs H',Inv X pins σ H' s'/\Vals vs us/\Q vs H'
noncomputable def SP (X:Cx) (pins:List (Addr×Obj)) (D:Ends) (f:Flow) (s':Shared):Prop :=
 match f with
 | .next=>∃ σ' H',Inv X pins σ' H' s'/\D.nx σ' H'
 | .brk=>∃ σ' H',Inv X pins σ' H' s'/\D.bk σ' H'
 | .cont=>∃ σ' H',Inv X pins σ' H' s'/\D.ct σ' H'
 | .ret u=>∃ v σ' H',Inv X pins σ' H' s'/\RelV v u/\D.rt v H'
noncomputable def PE (X:Cx) (e:Expr) (t:TE):Prop :=
 ∀ (pins:List (Addr×Obj)) (s:Shared) (σ:St) (H:Hp) (Q:VK),Inv X pins σ H s->t σ H Q->wpAny (model X.prog X.w) X.A (eval e X.env) (EP X pins σ Q) X.xe s
noncomputable def PT (X:Cx) (e:Expr) (t:TT):Prop :=
 ∀ (pins:List (Addr×Obj)) (s:Shared) (σ:St) (H:Hp) (Q:Bool->Hp->Prop),Inv X pins σ H s->t σ H Q->wpAny (model X.prog X.w) X.A (isTrue e X.env (eval e X.env)) (TP X pins σ Q) X.xe s
noncomputable def PW (X:Cx) (e:Expr) (t:TT):Prop :=
 ∀ (whole:Sem Value) (pins:List (Addr×Obj)) (s:Shared) (σ:St) (H:Hp) (Q:Bool->Hp->Prop),Inv X pins σ H s->t σ H Q->wpAny (model X.prog X.w) X.A (isTrue e X.env whole) (TP X pins σ Q) X.xe s
theorem PW.pt {X:Cx} {e:Expr} {t:TT} (h:PW X e t):PT X e t:=h _
noncomputable def PA (X:Cx) (es:List Expr) (t:TA):Prop :=
 ∀ (pos:Pos) (pins:List (Addr×Obj)) (s:Shared) (σ:St) (H:Hp) (Q:List V->Hp->Prop),Inv X pins σ H s->t σ H Q->wpAny (model X.prog X.w) X.A (spliced (backTo pos (starEach es X.env))) (AP X pins σ Q) X.xe s
noncomputable def PS (X:Cx) (st:Stmt) (t:TS):Prop :=
 ∀ (pins:List (Addr×Obj)) (s:Shared) (σ:St) (H:Hp) (D:Ends),Inv X pins σ H s->t D σ H->wpAny (model X.prog X.w) X.A (exec st X.env) (SP X pins D) X.xe s
noncomputable def yF (X:Cx) (st:List Stmt) (t:TS):Prop :=
 ∀ (pins:List (Addr×Obj)) (s:Shared) (σ:St) (H:Hp) (D:Ends),Inv X pins σ H s->t D σ H->wpAny (model X.prog X.w) X.A (execs st X.env) (SP X pins D) X.xe s
theorem bG {α:Type} {t:Sem α} {Q Q':α->Shared->Prop} {M:Model} {A:Around} {E:Value->Shared->Prop} {s:Shared} (h:wpAny M A t Q E s) (hQ:∀ a s,Q a s->Q' a s):wpAny M A t Q' E s:=wpAny_mono h hQ fun _ _ x=>x
end L2
namespace L2
open PySem PySem.Spec PyProof.Rows
section
variable {X:Cx}
theorem bin {a b:Expr} {ta tb:TE} (ha:PE X a ta) (hb:PE X b tb) {pins:List (Addr×Obj)} {s:Shared} {σ:St} {H:Hp} {R:V->V->Hp->Prop} (I:Inv X pins σ H s) (h:ta σ H fun x H1=>tb σ H1 fun y H2=>R x y H2)
  {α:Type} {Q:α->Shared->Prop} {f:Value->Value->Sem α}
  (hf:∀ v u s2 x y H2,Inv X pins σ H2 s2->RelV x v->RelV y u->R x y H2->wpAny (model X.prog X.w) X.A (f v u) Q X.xe s2) :
  wpAny (model X.prog X.w) X.A (eval a X.env) (fun v s₁=>wpAny (model X.prog X.w) X.A (eval b X.env) (fun u s₂=>wpAny (model X.prog X.w) X.A (f v u) Q X.xe s₂) X.xe s₁) X.xe s:=by
 refine bG (ha pins s σ H _ I h) fun v s1 ⟨x,H1,I1,r1,q1⟩=>?_
 refine bG (hb pins s1 σ H1 _ I1 q1) fun u s2 ⟨y,H2,I2,r2,q2⟩=>?_
 exact hf v u s2 x y H2 I2 r1 r2 q2
noncomputable def aa2 (i:Nat):TE:=fun σ H Q=>∃ v,σ[i]? = some (some v)/\Q v H
noncomputable def tC (v:V):TE:=fun _ H Q=>Q v H
theorem VD {i:Nat} {x:Str} {pos:Pos} (hN:X.N[i]? = some x) (hv:ZR X.env.scope x) (hd:(x == ("__debug__" : Str))=false:=by decide) (hcd:(x == ("__classdict__" : Str))=false:=by decide):PE X (.Name x pos) (aa2 i):=by
 intro pins s σ H Q I h
 obtain ⟨v,e,h⟩:=h
 obtain ⟨m,hn,hl⟩:=I.loc
 obtain ⟨u,r,l⟩:=hl i x v hN e hv
 have fin:EP X pins σ Q u s:=⟨v,H,I,r,h⟩
 rcases l with ⟨hk,hm⟩ | ⟨hk,c,hc,hcell⟩
 ·exact wpAny_Name (wpAny_loadName_local I.ok.kind hk hn hm fin) hd
 ·rcases hk with hk | hk
  ·exact wpAny_Name (wpAny_loadName_cell I.ok.kind hk hc hcell fin) hd
  ·exact wpAny_Name (wpAny_loadName_free I.ok.kind hk hc hcell fin hcd) hd
theorem VP {i j pos}:PE X (.Constant (.int i) j pos) (tC (.int i)):=fun _ _ _ H _ I h=>wpAny_Constant_int ⟨.int i,H,I.tok _,⟨_,rfl⟩,h⟩
theorem YK {b j pos}:PE X (.Constant (.bool b) j pos) (tC (.bl b)):=fun _ _ _ H _ I h=>Constant_bool ⟨.bl b,H,I,rfl,h⟩
theorem VJ {j pos}:PE X (.Constant .none j pos) (tC .non):=fun _ _ _ H _ I h=>Constant_none ⟨.non,H,I,rfl,h⟩
theorem VG {x j pos}:PE X (.Constant (.str x) j pos) (tC (.str x)):=fun _ _ _ H _ I h=>Calls.Constant_str ⟨.str x,H,I.tok _,⟨_,rfl⟩,h⟩
noncomputable def Gl (X:Cx) (x:Str):Prop:=X.env.kindOf x=some .globalImplicit
theorem s8 {E:Value->Shared->Prop} {pins:List (Addr×Obj)} {s:Shared} {σ:St} {H:Hp} {x:Str} {u:Value} {pos:Pos} {Q:Value->Shared->Prop} (I:Inv X pins σ H s) (hg:Gl X x) (hm:X.mg x=some u) (h:Q u s)
  (hd:(x == ("__debug__" : Str))=false:=by decide):wpAny (model X.prog X.w) X.A (eval (.Name x pos) X.env) Q E s :=
 Calls.Name_function_global I.ok.kind hg (Calls.loadGlobal_global (by rw [I.ok.glob]; exact I.mod.glob.keeps I.bk) hm h) hd
theorem lG {E:Value->Shared->Prop} {pins:List (Addr×Obj)} {s:Shared} {σ:St} {H:Hp} {x:Str} {u:Value} {pos:Pos} {Q:Value->Shared->Prop} (I:Inv X pins σ H s) (hg:Gl X x) (hm:X.mg x=none) (hv:bootBuiltins x=some u) (h:Q u s)
  (hn:x≠"__name__":=by decide) (hd:(x == ("__debug__" : Str))=false:=by decide):wpAny (model X.prog X.w) X.A (eval (.Name x pos) X.env) Q E s:=by
 obtain ⟨mb,h1,h2⟩:=I.mod.blt
 exact Calls.Name_function_global I.ok.kind hg (Calls.loadGlobal_builtin (by rw [I.ok.glob]; exact I.mod.glob.keeps I.bk) hm (by rw [I.ok.blt]; exact h1.keeps I.bk) ((h2 x hn).trans hv) h) hd
theorem Rv {x:Str} {v:V} {u:Value} {pos:Pos} (hg:Gl X x) (hm:X.mg x=none) (hv:bootBuiltins x=some u) (r:RelV v u) (hn:x≠"__name__":=by decide) (hd:(x == ("__debug__" : Str))=false:=by decide):PE X (.Name x pos) (tC v) :=
 fun _ _ _ H _ I h=>lG I hg hm hv ⟨v,H,I,r,h⟩ hn hd
variable {a b:Expr} {ta tb:TE} {pos:Pos}
variable {tA tB':TT} {rest:List Expr}
noncomputable def Yp (t u:TT):TT:=fun σ H Q=>t σ H fun c H1=>if c=true then u σ H1 Q else Q false H1
noncomputable def tOr (t u:TT):TT:=fun σ H Q=>t σ H fun c H1=>if c=true then Q true H1 else u σ H1 Q
noncomputable def aa6 (t:TT):TT:=fun σ H Q=>t σ H fun c H1=>Q (!c) H1
theorem pw_and1 (ha:PT X a tA):PW X (.BoolOp .And [a] pos) tA:=by
 intro wh pins s σ H Q I h
 refine isTrue_and (bG (ha pins s σ H Q I h) fun c s1 e=>?_)
 cases c with
 | true=>exact isTrue_and_nil e
 | false=>exact e
theorem pw_or1 (ha:PT X a tA):PW X (.BoolOp .Or [a] pos) tA:=by
 intro wh pins s σ H Q I h
 refine isTrue_or (bG (ha pins s σ H Q I h) fun c s1 e=>?_)
 cases c with
 | false=>exact isTrue_or_nil e
 | true=>exact e
theorem pw_and (ha:PT X a tA) (hb:PW X (.BoolOp .And (b :: rest) pos) tB'):PW X (.BoolOp .And (a :: b :: rest) pos) (Yp tA tB'):=by
 intro wh pins s σ H Q I h
 refine isTrue_and (bG (ha pins s σ H _ I h) fun c s1 ⟨H1,I1,q1⟩=>?_)
 cases c with
 | true=>exact hb wh pins s1 σ H1 Q I1 q1
 | false=>exact ⟨H1,I1,q1⟩
theorem pw_or (ha:PT X a tA) (hb:PW X (.BoolOp .Or (b :: rest) pos) tB'):PW X (.BoolOp .Or (a :: b :: rest) pos) (tOr tA tB'):=by
 intro wh pins s σ H Q I h
 refine isTrue_or (bG (ha pins s σ H _ I h) fun c s1 ⟨H1,I1,q1⟩=>?_)
 cases c with
 | true=>exact ⟨H1,I1,q1⟩
 | false=>exact hb wh pins s1 σ H1 Q I1 q1
theorem Vv (ha:PT X a tA):PT X (.UnaryOp .Not a pos) (aa6 tA):=by
 intro pins s σ H Q I h
 exact isTrue_not (ha pins s σ H (fun c H1=>Q (!c) H1) I h)
noncomputable def T6 (ta tb:TE):TE:=fun σ H Q=>ta σ H fun x H1=>∃ c,x = .bl c/\if c=true then tb σ H1 Q else Q (.bl false) H1
noncomputable def Yj (ta tb:TE):TE:=fun σ H Q=>ta σ H fun x H1=>∃ c,x = .bl c/\if c=true then Q (.bl true) H1 else tb σ H1 Q
noncomputable def Yl (ta:TE):TE:=fun σ H Q=>ta σ H fun x H1=>∃ c,x = .bl c/\Q (.bl (!c)) H1
theorem LK {op} {t:TE} (h:PE X a t):PE X (.BoolOp op [a] pos) t:=fun pins s σ H Q I hw=>BoolOp_one (h pins s σ H Q I hw)
theorem Mt (ha:PE X a ta) (hb:PE X (.BoolOp .And (b :: rest) pos) tb):PE X (.BoolOp .And (a :: b :: rest) pos) (T6 ta tb):=by
 intro pins s σ H Q I h
 refine BoolOp_and (bG (ha pins s σ H _ I h) fun v s1 ⟨x,H1,I1,r1,q1⟩=>?_)
 obtain ⟨c,rfl,q1⟩:=q1
 cases r1
 refine wpAny_truthy_bool ?_
 cases c with
 | true=>exact hb pins s1 σ H1 Q I1 q1
 | false=>exact ⟨.bl false,H1,I1,rfl,q1⟩
theorem Ub (ha:PE X a ta) (hb:PE X (.BoolOp .Or (b :: rest) pos) tb):PE X (.BoolOp .Or (a :: b :: rest) pos) (Yj ta tb):=by
 intro pins s σ H Q I h
 refine BoolOp_or (bG (ha pins s σ H _ I h) fun v s1 ⟨x,H1,I1,r1,q1⟩=>?_)
 obtain ⟨c,rfl,q1⟩:=q1
 cases r1
 refine wpAny_truthy_bool ?_
 cases c with
 | false=>exact hb pins s1 σ H1 Q I1 q1
 | true=>exact ⟨.bl true,H1,I1,rfl,q1⟩
theorem VH (ha:PE X a ta):PE X (.UnaryOp .Not a pos) (Yl ta):=by
 intro pins s σ H Q I h
 refine UnaryOp_ (bG (ha pins s σ H _ I h) fun v s1 ⟨x,H1,I1,r1,q1⟩=>?_)
 obtain ⟨c,rfl,q1⟩:=q1
 cases r1
 exact not_of (wpAny_truthy_bool ⟨.bl (!c),H1,I1,rfl,q1⟩)
noncomputable def tIf (t:TT) (ta tb:TE):TE:=fun σ H Q=>t σ H fun c H1=>if c=true then ta σ H1 Q else tb σ H1 Q
theorem Mh {c:Expr} (hc:PT X c tA) (ha:PE X a ta) (hb:PE X b tb):PE X (.IfExp c a b pos) (tIf tA ta tb):=by
 intro pins s σ H Q I h
 refine wpAny_IfExp (bG (hc pins s σ H _ I h) fun d s1 ⟨H1,I1,q1⟩=>?_)
 cases d with
 | true=>exact ha pins s1 σ H1 Q I1 q1
 | false=>exact hb pins s1 σ H1 Q I1 q1
end
end L2
namespace L2
open PySem PySem.Spec PyProof.Rows
noncomputable def f9 (K:PySem.W.Frag) (H:Hp) (a:Addr) (xs:List V):Prop :=
 Rd H a (.lst xs) ∨
  ∃ (o:Obj) (its:Array Value) (n:Nat),K.lookup a=some o/\o.cls = .type "list"/\o.dict=none/\o.data = .seq its n/\its.size<=sizeLine/\Vals xs its.toList
noncomputable def p7 (K:PySem.W.Frag) (H:Hp) (a:Addr) (xs:List V):Prop :=
 Rd H a (.tup xs) ∨
  ∃ (o:Obj) (its:Array Value) (n:Nat),K.lookup a=some o/\o.cls = .type "tuple"/\o.data = .seq its n/\its.size<=sizeLine/\Vals xs its.toList
noncomputable def abX:Value->Option V
 | .none=>some .non
 | .bool b=>some (.bl b)
 | .int i _=>some (.int i)
 | .str x _=>some (.str x)
 | .bytes b _=>some (.Uv b)
 | .float b _=>some (.flt b)
 | .ref a=>some (.ref a)
 | .type n=>some (.ty n)
 | _=>none
theorem RelV.abs {x:V} {u:Value} (r:RelV x u):abX u=some x:=by
 cases x with
 | non=>cases r; rfl
 | bl _=>cases r; rfl
 | int _=>obtain ⟨t,rfl⟩:=r; rfl
 | str _=>obtain ⟨t,rfl⟩:=r; rfl
 | Uv _=>obtain ⟨t,rfl⟩:=r; rfl
 | flt _=>obtain ⟨t,rfl⟩:=r; rfl
 | ref _=>cases r; rfl
 | ty _=>cases r; rfl
theorem RelV.inj {x y:V} {u:Value} (r:RelV x u) (q:RelV y u):x=y:=Option.some.inj (r.abs.symm.trans q.abs)
theorem Vals.inj:∀ {xs ys:List V} {us:List Value},Vals xs us->Vals ys us->xs=ys
 | _,_,_,.nil,.nil=>rfl
 | _,_,_,.cons r t,.cons r' t'=>by rw [r.inj r',Vals.inj t t']
section
variable {X:Cx} {pins:List (Addr×Obj)} {σ:St} {H:Hp} {s:Shared} {a:Addr} {xs ys:List V}
theorem f9.of {K:PySem.W.Frag} (h:H a=some (.lst xs)):f9 K H a xs:=.inl (.inl h)
theorem p7.of {K:PySem.W.Frag} (h:H a=some (.tup xs)):p7 K H a xs:=.inl (.inl h)
theorem Inv.list (I:Inv X pins σ H s) (h:f9 X.K H a xs):∃ its:List Value,Vals xs its/\PlainL s.heap a its.toArray/\xs.length<=sizeLine:=by
 rcases h with h | ⟨o,its,n,hk,hc,hd,hs,hz,r⟩
 ·obtain ⟨z,its,n,r,e⟩:=h.ok I.hok
  exact ⟨its,r,⟨_,n,e,rfl,rfl,rfl⟩,z⟩
 ·refine ⟨its.toList,r,⟨o,n,I.qJ a o hk,hc,hd,by simpa using hs⟩,?_⟩
  have e:=r.length
  simp only [Array.length_toList] at e
  lia
theorem Inv.tuple (I:Inv X pins σ H s) (h:p7 X.K H a xs):∃ its:List Value,Vals xs its/\IsTup s.heap a its.toArray/\xs.length<=sizeLine:=by
 rcases h with h | ⟨o,its,n,hk,hc,hs,hz,r⟩
 ·obtain ⟨z,its,r,p⟩:=h.ok I.hok
  exact ⟨its,r,p.is,z⟩
 ·refine ⟨its.toList,r,⟨o,I.qJ a o hk,hc,n,by simpa using hs⟩,?_⟩
  have e:=r.length
  simp only [Array.length_toList] at e
  lia
theorem Inv.lF (I:Inv X pins σ H s) (h:f9 X.K H a xs) (h':f9 X.K H a ys):xs=ys:=by
 obtain ⟨its,r,⟨o,n,e,_,_,d⟩,_⟩:=I.list h
 obtain ⟨its',r',⟨o',n',e',_,_,d'⟩,_⟩:=I.list h'
 rw [e] at e'; cases e'
 rw [d] at d'
 injection d' with d1 _
 have:its=its':=by simpa using congrArg Array.toList d1
 subst this
 exact r.inj r'
theorem Inv.Ig (I:Inv X pins σ H s) (h:p7 X.K H a xs) (h':p7 X.K H a ys):xs=ys:=by
 obtain ⟨its,r,⟨o,e,_,n,d⟩,_⟩:=I.tuple h
 obtain ⟨its',r',⟨o',e',_,n',d'⟩,_⟩:=I.tuple h'
 rw [e] at e'; cases e'
 rw [d] at d'
 injection d' with d1 _
 have:its=its':=by simpa using congrArg Array.toList d1
 subst this
 exact r.inj r'
end
noncomputable abbrev Cx.wish (X:Cx) (E:Value->Shared->Prop):Cx:={ X with xe:=E }
noncomputable abbrev Cx.Ue (X:Cx):Cx:=X.wish fun _ _=>False
theorem Cx.Ok.wish {X:Cx} (ok:X.Ok) (E:Value->Shared->Prop):(X.wish E).Ok :=
 ⟨ok.mod,ok.kind,ok.glob,ok.blt,ok.above,ok.inj,ok.has,ok.cab,ok.hd,ok.frames,ok.stk,ok.exf,ok.bs,ok.Pb,ok.MJ,ok.SJ,ok.qM,ok.Ur⟩
theorem Cx.Ok.iW {X:Cx} {E:Value->Shared->Prop} (ok:(X.wish E).Ok):X.Ok :=
 ⟨ok.mod,ok.kind,ok.glob,ok.blt,ok.above,ok.inj,ok.has,ok.cab,ok.hd,ok.frames,ok.stk,ok.exf,ok.bs,ok.Pb,ok.MJ,ok.SJ,ok.qM,ok.Ur⟩
section
variable {X:Cx} {pins:List (Addr×Obj)} {σ:St} {H:Hp} {s:Shared} {E:Value->Shared->Prop}
theorem Inv.wish (I:Inv X pins σ H s) (E:Value->Shared->Prop):Inv (X.wish E) pins σ H s:=⟨I.ok.wish E,I.os,I.bare,I.base,I.loc,I.cell,I.free,I.jY,I.pin,I.hok,I.len,I.hh⟩
theorem Inv.iW (I:Inv (X.wish E) pins σ H s):Inv X pins σ H s:=⟨I.ok.iW,I.os,I.bare,I.base,I.loc,I.cell,I.free,I.jY,I.pin,I.hok,I.len,I.hh⟩
theorem SP.iW {D:Ends} {f:Flow} {s':Shared} (h:SP (X.wish E) pins D f s'):SP X pins D f s':=by
 cases f with
 | next=>obtain ⟨σ',H',I,q⟩:=h; exact ⟨σ',H',I.iW,q⟩
 | brk=>obtain ⟨σ',H',I,q⟩:=h; exact ⟨σ',H',I.iW,q⟩
 | cont=>obtain ⟨σ',H',I,q⟩:=h; exact ⟨σ',H',I.iW,q⟩
 | ret u=>obtain ⟨v,σ',H',I,r,q⟩:=h; exact ⟨v,σ',H',I.iW,r,q⟩
theorem PE.Ue {e:Expr} {t:TE} (h:PE X.Ue e t):PE X e t:=fun pins s σ H Q I hw =>
 wpAny_mono (h pins s σ H Q (I.wish _) hw) (fun _ _ ⟨v,H',I',r,q⟩=>⟨v,H',I'.iW,r,q⟩) fun _ _ z=>False.elim z
theorem PT.Ue {e:Expr} {t:TT} (h:PT X.Ue e t):PT X e t:=fun pins s σ H Q I hw =>
 wpAny_mono (h pins s σ H Q (I.wish _) hw) (fun _ _ ⟨H',I',q⟩=>⟨H',I'.iW,q⟩) fun _ _ z=>False.elim z
theorem yF.Ue {st:List Stmt} {t:TS} (h:yF X.Ue st t):yF X st t:=fun pins s σ H D I hw =>
 wpAny_mono (h pins s σ H D (I.wish _) hw) (fun _ _ q=>q.iW) fun _ _ z=>False.elim z
end
section
variable {X:Cx} {st:Stmt} {rest:List Stmt} {t u:TS} {e:Expr} {te:TE} {pos:Pos}
noncomputable def Ym:TS:=fun D σ H=>D.nx σ H
noncomputable def aa4 (t u:TS):TS:=fun D σ H=>t { D with nx:=u D } σ H
theorem QV:yF X [] Ym:=fun _ _ σ H _ I h=>wpAny_execs_nil ⟨σ,H,I,h⟩
theorem Lj (h1:PS X st t) (h2:yF X rest u):yF X (st :: rest) (aa4 t u):=by
 intro pins s σ H D I h
 refine wpAny_execs_cons (bG (h1 pins s σ H { D with nx:=u D } I h) fun f s1 q=>?_)
 cases f with
 | next =>
  obtain ⟨σ',H',I',q⟩:=q
  exact h2 pins s1 σ' H' D I' q
 | ret v=>exact q
 | brk=>exact q
 | cont=>exact q
theorem Inv.quiet {pins:List (Addr×Obj)} {σ:St} {H:Hp} {s:Shared} (I:Inv X pins σ H s):interactive X.env=false:=by simp [interactive,I.ok.kind]
noncomputable def Yn (te:TE):TS:=fun D σ H=>te σ H fun _ H1=>D.nx σ H1
theorem Q5 (he:PE X e te) (hs:swapsWith e none pos.line X.env=pure false:=by rfl):PS X (.Expr e pos) (Yn te):=by
 intro pins s σ H D I h
 exact wpAny_Expr_any (bG (he pins s σ H _ I h) fun v s1 ⟨x,H1,I1,r1,q1⟩=>⟨σ,H1,I1,q1⟩) I.quiet hs
noncomputable def aa5 (te:TE):TS:=fun D σ H=>te σ H D.rt
theorem Vw (he:PE X e te):PS X (.Return (some e) pos) (aa5 te):=by
 intro pins s σ H D I h
 exact wpAny_Return_some (bG (he pins s σ H _ I h) fun v s1 ⟨x,H1,I1,r1,q1⟩=>⟨x,σ,H1,I1,r1,q1⟩)
noncomputable def aa8 (c:TT) (t u:TS):TS:=fun D σ H=>c σ H fun b H1=>if b=true then t D σ H1 else u D σ H1
theorem YG {c:Expr} {a b:List Stmt} {tc:TT} (hc:PT X c tc) (ha:yF X a t) (hb:yF X b u):PS X (.If c a b pos) (aa8 tc t u):=by
 intro pins s σ H D I h
 refine wpAny_If (bG (hc pins s σ H _ I h) fun d s1 ⟨H1,I1,q1⟩=>?_)
 cases d with
 | true=>exact ha pins s1 σ H1 D I1 q1
 | false=>exact hb pins s1 σ H1 D I1 q1
end
noncomputable abbrev TG:=V->St->Hp->(St->Hp->Prop)->Prop
noncomputable abbrev Uy:=List V->St->Hp->(St->Hp->Prop)->Prop
noncomputable def PG (X:Cx) (target:Expr) (t:TG):Prop :=
 ∀ (pins:List (Addr×Obj)) (s:Shared) (σ:St) (H:Hp) (v:V) (u:Value) (Q:St->Hp->Prop),Inv X pins σ H s->RelV v u->t v σ H Q ->
  wpAny (model X.prog X.w) X.A (assign target X.env u) (fun _ s'=>∃ σ' H',Inv X pins σ' H' s'/\Q σ' H') X.xe s
noncomputable def X8 (X:Cx) (ts:List Expr) (t:Uy):Prop :=
 ∀ (pins:List (Addr×Obj)) (s:Shared) (σ:St) (H:Hp) (vs:List V) (us:List Value) (Q:St->Hp->Prop),Inv X pins σ H s->Vals vs us->t vs σ H Q ->
  wpAny (model X.prog X.w) X.A (assignInOrder ((assignEach ts X.env).map (·.2)) us) (fun _ s'=>∃ σ' H',Inv X pins σ' H' s'/\Q σ' H') X.xe s
noncomputable abbrev PB:=V->V->V->Hp->(Hp->Prop)->Prop
noncomputable def TQ (X:Cx) (t:PB):Prop :=
 ∀ (pins:List (Addr×Obj)) (s:Shared) (σ:St) (H:Hp) (o i v:V) (ov iv u:Value) (Q:Hp->Prop),Inv X pins σ H s->RelV o ov->RelV i iv->RelV v u->t o i v H Q ->
  wpAny (model X.prog X.w) X.A (setItem ov iv u) (fun _ s'=>∃ H',Inv X pins σ H' s'/\Q H') X.xe s
noncomputable abbrev TIp:=V->V->Hp->VK->Prop
noncomputable def PIp (X:Cx) (op:Operator) (t:TIp):Prop :=
 ∀ (pins:List (Addr×Obj)) (s:Shared) (σ:St) (H:Hp) (x y:V) (v u:Value) (Q:VK),Inv X pins σ H s->RelV x v->RelV y u->t x y H Q ->
  wpAny (model X.prog X.w) X.A (inplaceOp op v u) (EP X pins σ Q) X.xe s
section
variable {X:Cx} {pos:Pos}
noncomputable def CK (i:Nat):TG:=fun v σ H Q=>Q (σ.set i (some v)) H
theorem GK {i:Nat} {x:Str} (hN:X.N.Nodup) (hi:X.N[i]? = some x) (hx:Loc X.env.scope x) (hf:X.fn x=true∨X.env.scope.names.lookup x=some .local:=by first | exact .inl rfl | exact .inr rfl | assumption):PG X (.Name x pos) (CK i):=by
 intro pins s σ H v u Q I r h
 exact wpAny_assign_Name (Bm I hN hi hx r (fun s' I'=>⟨_,H,I',h⟩) hf)
noncomputable def Zr:Uy:=fun vs σ H Q=>vs=[]/\Q σ H
noncomputable def Uq (t:TG) (u:Uy):Uy:=fun vs σ H Q=>∃ v r,vs=v :: r/\t v σ H fun σ' H'=>u r σ' H' Q
theorem Rc:X8 X [] Zr:=by
 intro pins s σ H vs us Q I r h
 obtain ⟨e,h⟩:=h
 subst e
 cases r
 exact assignInOrder_nil ⟨σ,H,I,h⟩
theorem Lz {e:Expr} {es:List Expr} {t:TG} {u:Uy} (h1:PG X e t) (h2:X8 X es u)
  (hs:(assignEach (e :: es) X.env).map (·.2)=assign e X.env :: (assignEach es X.env).map (·.2):=by rfl):X8 X (e :: es) (Uq t u):=by
 intro pins s σ H vs us Q I r h
 obtain ⟨v,vr,e1,h⟩:=h
 subst e1
 cases r with
 | cons r rr =>
  rw [hs]
  refine assignInOrder_cons (bG (h1 pins s σ H _ _ _ I r h) fun _ s1 ⟨σ1,H1,I1,q1⟩=>?_)
  exact h2 pins s1 σ1 H1 _ _ Q I1 rr q1
noncomputable def abM (K:PySem.W.Frag) (n:Nat) (t:Uy):TG:=fun v σ H Q=>∃ a xs,v = .ref a/\p7 K H a xs/\xs.length=n/\t xs σ H Q
theorem Vz {es:List Expr} {k:Nat} {t:Uy} {n:Nat} (hc:X.calm=true) (h:X8 X es t)
  (hn:(assignEach es X.env).length=n:=by rfl) (hst:(assignEach es X.env).findIdx? (·.1)=none:=by rfl):PG X (.Tuple es k pos) (abM X.K n t):=by
 intro pins s σ H v u Q I r hw
 obtain ⟨a,xs,e1,hq,hl,hw⟩:=hw
 subst e1
 cases r
 obtain ⟨its,rv,ht,hz⟩:=I.tuple hq
 refine assign_Tuple_tuple (I.ok.hd hc) ht (by simp [hn,<- hl,rv.length]) hst fun h' hx=>?_
 have I1:Inv X pins σ H { s with heap:=h' }:=I.kept (t':=s.toks) fun b o e=>hx b o (Nat.ne_of_lt (Heap.lt_size e)) e
 exact h pins _ σ H xs _ Q I1 (by simpa using rv) hw
noncomputable def Zq (to ti:TE) (t:PB):TG:=fun v σ H Q=>to σ H fun o H1=>ti σ H1 fun i H2=>t o i v H2 fun H3=>Q σ H3
theorem VB {o i:Expr} {to ti:TE} {t:PB} (ho:PE X o to) (hi:PE X i ti) (hs:TQ X t)
  (ha:∀ v,assign (.Subscript o i pos) X.env v=(do
   let ov <- holding [v] (eval o X.env)
   let iv <- holding [v,ov] (eval i X.env)
   standAt pos
   holding [v,ov,iv] (setItem ov iv v)
   release [v,ov,iv] []):=by intro _; rfl):PG X (.Subscript o i pos) (Zq to ti t):=by
 intro pins s σ H v u Q I r h
 rw [ha]
 refine wpAny_bind (wpAny_holding (bG (ho pins s σ H _ I h) fun ov s1 ⟨x,H1,I1,r1,q1⟩=>?_))
 refine wpAny_bind (wpAny_holding (bG (hi pins s1 σ H1 _ I1 q1) fun iv s2 ⟨y,H2,I2,r2,q2⟩=>?_))
 refine wpAny_bind (wpAny_standAt (wpAny_bind (wpAny_holding (bG (hs pins s2 σ H2 x y v ov iv u _ I2 r1 r2 r q2) fun _ s3 ⟨H3,I3,q3⟩=>?_))))
 exact wpAny_release ⟨σ,H3,I3,q3⟩
noncomputable def Ih (te:TE) (g:TG):TS:=fun D σ H=>te σ H fun x H1=>g x σ H1 D.nx
theorem Ls {tg e:Expr} {te:TE} {g:TG} (he:PE X e te) (hg:PG X tg g) (hs:swapsWithSole [tg] e pos.line X.env=pure false:=by rfl) (hw:swappedStores [tg] e X.env=pure none:=by rfl)
  (h1:(assignEach [tg] X.env).map (·.2)=[assign tg X.env]:=by rfl):PS X (.Assign [tg] e pos) (Ih te g):=by
 intro pins s σ H D I h
 refine wpAny_Assign_stores (bG (he pins s σ H _ I h) fun v s1 ⟨x,H1,I1,r1,q1⟩=>?_) hs hw
 rw [h1]
 exact bG (hg pins s1 σ H1 x v _ I1 r1 q1) fun _ s2 q=>q
theorem Ln {i:Nat} {x:Str} {e:Expr} {te:TE} {pos':Pos} (hN:X.N.Nodup) (hi:X.N[i]? = some x) (hx:Loc X.env.scope x) (he:PE X e te) (hs:swapsWith e (some (.Name x pos')) pos.line X.env=pure false:=by rfl) (hf:X.fn x=true∨X.env.scope.names.lookup x=some .local:=by first | exact .inl rfl | exact .inr rfl | assumption) :
  PS X (.Assign [.Name x pos'] e pos) (Ih te (CK i)):=by
 intro pins s σ H D I h
 refine wpAny_Assign_Name (bG (he pins s σ H _ I h) fun v s1 ⟨y,H1,I1,r1,q1⟩=>?_) hs
 exact Bm I1 hN hi hx r1 (fun s2 I2=>⟨_,H1,I2,q1⟩) hf
noncomputable def T5 (to ti te:TE) (QF:V->V->Hp->VK->Prop) (tip:TIp) (Qv:PB):TS:=fun D σ H=>to σ H fun o H1=>ti σ H1 fun i H2=>QF o i H2 fun x H3=>te σ H3 fun y H4=>tip x y H4 fun z H5=>Qv o i z H5 fun H6=>D.nx σ H6
noncomputable def ZS (X:Cx) (t:V->V->Hp->VK->Prop):Prop :=
 ∀ (pins:List (Addr×Obj)) (s:Shared) (σ:St) (H:Hp) (o i:V) (ov iv:Value) (Q:VK),Inv X pins σ H s->RelV o ov->RelV i iv->t o i H Q ->
  wpAny (model X.prog X.w) X.A (getItem ov iv) (EP X pins σ Q) X.xe s
theorem GF {o i e:Expr} {to ti te:TE} {QF:V->V->Hp->VK->Prop} {tip:TIp} {Qv:PB} {op:Operator} {tpos:Pos} (ho:PE X o to) (hi:PE X i ti) (hg:ZS X QF) (he:PE X e te) (hp:PIp X op tip) (hs:TQ X Qv)
  (ha:∀ ov iv new,augStore i ov iv new=(do holding [new,ov,iv] (setItem ov iv new); release [new,ov,iv] []; pure .next):=by intros; rfl):PS X (.AugAssign (.Subscript o i tpos) op e pos) (T5 to ti te QF tip Qv):=by
 intro pins s σ H D I h
 refine wpAny_AugAssign_SubscriptAny (bG (ho pins s σ H _ I h) fun ov s1 ⟨x1,H1,I1,r1,q1⟩=>?_) ha
 refine bG (hi pins s1 σ H1 _ I1 q1) fun iv s2 ⟨x2,H2,I2,r2,q2⟩=>?_
 refine bG (hg pins s2 σ H2 x1 x2 ov iv _ I2 r1 r2 q2) fun old s3 ⟨x3,H3,I3,r3,q3⟩=>?_
 refine bG (he pins s3 σ H3 _ I3 q3) fun v s4 ⟨x4,H4,I4,r4,q4⟩=>?_
 refine bG (hp pins s4 σ H4 x3 x4 old v _ I4 r3 r4 q4) fun new s5 ⟨x5,H5,I5,r5,q5⟩=>?_
 exact bG (hs pins s5 σ H5 x1 x2 x5 ov iv new _ I5 r1 r2 r5 q5) fun _ s6 ⟨H6,I6,q6⟩=>⟨σ,H6,I6,q6⟩
noncomputable def ipI (f:Int->Int->Int):TIp:=fun x y H Q=>∃ i j,x = .int i/\y = .int j/\Q (.int (f i j)) H
theorem WW:PIp X .Add (ipI fun i j=>i + j):=by
 intro pins s σ H x y v u Q I r1 r2 h
 obtain ⟨i,j,e1,e2,q⟩:=h
 subst e1; subst e2
 obtain ⟨t,rfl⟩:=r1
 obtain ⟨t',rfl⟩:=r2
 exact iadd_int ⟨.int _,H,I.tok _,⟨_,rfl⟩,q⟩
theorem WR:PIp X .Sub (ipI fun i j=>i - j):=by
 intro pins s σ H x y v u Q I r1 r2 h
 obtain ⟨i,j,e1,e2,q⟩:=h
 subst e1; subst e2
 obtain ⟨t,rfl⟩:=r1
 obtain ⟨t',rfl⟩:=r2
 exact isub_int ⟨.int _,H,I.tok _,⟨_,rfl⟩,q⟩
end
section
variable {X:Cx} {pos:Pos}
noncomputable def Vo (c:TT) (tb:TS):TS:=fun D σ H=>∃ W:Nat->St->Hp->Prop,(∃ m,W m σ H)/\∀ m σ H,W m σ H ->
 c σ H fun b H1=>if b=true then ∃ N:St->Hp->Prop,(∀ σ' H',N σ' H'->∃ m',m' < m/\W m' σ' H')/\tb { D with nx:=N,ct:=N,bk:=D.nx } σ H1 else D.nx σ H1
theorem Lk {c:Expr} {body:List Stmt} {tc:TT} {tb:TS} (hp:PassesOwn (model X.prog X.w) X.A X.env X.xe) (hc:PT X c tc) (hb:yF X body tb):PS X (.While c body [] pos) (Vo tc tb):=by
 intro pins s σ H D I h
 obtain ⟨W,⟨m0,w0⟩,turn⟩:=h
 refine wpAny_While (codeAny_whileLoop (fun n s'=>∃ σ' H',Inv X pins σ' H' s'/\W n σ' H') ?_ m0 ⟨σ,H,I,w0⟩)
 rintro n s1 ⟨σ1,H1,I1,w1⟩
 refine wpAny_passesOwn hp (bG (hc pins s1 σ1 H1 _ I1 (turn n σ1 H1 w1)) fun b s2 ⟨H2,I2,q2⟩=>?_)
 cases b with
 | true =>
  obtain ⟨N,hN,q2⟩:=q2
  rw [if_pos rfl]
  refine wpAny_passesOwn hp (bG (hb pins s2 σ1 H2 _ I2 q2) fun f s3 q3=>?_)
  cases f with
  | next =>
   obtain ⟨σ3,H3,I3,n3⟩:=q3
   obtain ⟨m',hm,w3⟩:=hN σ3 H3 n3
   exact ⟨m',hm,σ3,H3,I3,w3⟩
  | cont =>
   obtain ⟨σ3,H3,I3,n3⟩:=q3
   obtain ⟨m',hm,w3⟩:=hN σ3 H3 n3
   exact ⟨m',hm,σ3,H3,I3,w3⟩
  | brk=>exact q3
  | ret v=>exact q3
 | false =>
  rw [if_neg Bool.false_ne_true]
  exact wpAny_execs_nil ⟨σ1,H2,I2,q2⟩
end
structure It where
 go:Nat->Hp->Prop
 Yd:Nat->Hp->V->Hp->Prop
 stop:Nat->Hp->Prop
noncomputable def wD (X:Cx) (pins:List (Addr×Obj)) (H:Hp) (b:Addr):Prop :=
 H b=none/\b≠X.env.locals/\b ∉ X.fs/\(b∈X.ex∨X.s₀.heap.objs.size<=b)/\(∀ x c,X.env.cells.lookup x=some c->c≠b)/\∀ p∈X.pn ++ pins,p.1≠b
theorem Inv.Jz {X:Cx} {pins:List (Addr×Obj)} {σ:St} {H H':Hp} {s:Shared} {b:Addr} (I:Inv X pins σ H s) (hb:s.heap.objs.size<=b) (hn:H' b=none):wD X pins H' b:=by
 refine ⟨hn,Nat.ne_of_gt (Nat.lt_of_lt_of_le I.lt hb),I.abq hb,.inr (Nat.le_trans I.sz hb),fun x c e z=>?_,fun p hp z=>?_⟩
 ·obtain ⟨v,q⟩:=I.cell x c e
  exact absurd (Nat.lt_of_lt_of_le q.lt (by rw [z]; exact hb)) (Nat.lt_irrefl _)
 ·exact absurd (Nat.lt_of_lt_of_le (Heap.lt_size (I.pin p hp).1) (by rw [z]; exact hb)) (Nat.lt_irrefl _)
structure Turn (cb:Bool) (P:Program) (w:World) (K:PySem.W.Frag) (tg:Expr) (J:It) (fp:List Addr) (it:Addr) (tn:Nat->Heap->Prop):Prop where
 mem:it∈fp
 obj:∀ i h,tn i h->∀ b∈fp,∃ o,h.get? b=some o/\∀ v,o.data≠.cell v
 keep:∀ i h h',tn i h->(∀ b∈fp,∀ o,h.get? b=some o->h'.get? b=some o)->tn i h'
 item:∀ (X:Cx),X.prog=P->X.w=w->X.K=K->X.calm=cb->∀ (i:Nat) (pins:List (Addr×Obj)) (s:Shared) (σ:St) (H:Hp) (E:Value->Shared->Prop),Inv X pins σ H s->(∀ b∈fp,wD X pins H b)->tn i s.heap->J.go i H ->
  wpAny (model P w) X.A (pyNext (.ref it)) (fun r s1=>∃ u,r=some u /\
   wpAny (model P w) X.A (letOwnedTupleGo tg (.ref it) u) (fun _ s2=>∃ x H',Inv X pins σ H' s2/\RelV x u/\J.Yd i H x H'/\tn (i + 1) s2.heap/\∀ b∈fp,H' b=none) E s1) E s
 done:∀ (X:Cx),X.prog=P->X.w=w->X.K=K->X.calm=cb->∀ (i:Nat) (pins:List (Addr×Obj)) (s:Shared) (σ:St) (H:Hp) (E:Value->Shared->Prop),Inv X pins σ H s->(∀ b∈fp,wD X pins H b)->tn i s.heap->J.stop i H ->
  wpAny (model P w) X.A (pyNext (.ref it)) (fun r s1=>r=none/\Inv X pins σ H s1) E s
 self:∀ (A:Around) (i:Nat) (s:Shared) (Q:Value->Shared->Prop) (E:Value->Shared->Prop),tn i s.heap->Q (.ref it) s->wpAny (model P w) A (pyIter (.ref it)) Q E s
noncomputable abbrev TI:=St->Hp->(It->Hp->Prop)->Prop
noncomputable def PIE (X:Cx) (pins:List (Addr×Obj)) (σ:St) (tg:Expr) (R:It->Hp->Prop) (itv:Value) (s2:Shared):Prop :=
 ∃ (it:Addr) (fp:List Addr) (tn:Nat->Heap->Prop) (J:It) (H':Hp),itv = .ref it/\Inv X pins σ H' s2/\Turn X.calm X.prog X.w X.K tg J fp it tn/\tn 0 s2.heap/\(∀ b∈fp,wD X pins H' b)/\R J H'
noncomputable def PI (X:Cx) (tg iter:Expr) (wi:TI):Prop :=
 ∀ (pins:List (Addr×Obj)) (s:Shared) (σ:St) (H:Hp) (R:It->Hp->Prop),Inv X pins σ H s->wi σ H R ->
  wpAny (model X.prog X.w) X.A (eval iter X.env) (fun v s1=>wpAny (model X.prog X.w) X.A (pyIter v) (PIE X pins σ tg R) X.xe s1) X.xe s
theorem Ht {M : Model} {A : Around} {E : Value -> Shared -> Prop} {s : Shared} {tg : Expr} {it : Addr} {u : Value} {o : Obj} {n : String} {vs : Array Value} {Q : Unit -> Shared -> Prop} (ho : s.heap.get? it = some o) (hc : o.cls = .type n) (hd : o.data = .fields vs)
    (hn : ["enumerate", "zip", "dict_itemiterator", "dict_reverseitemiterator", "odict_iterator", "itertools.zip_longest", "itertools.pairwise"].contains n = false) (hQ : Q () s) : wpAny M A (letOwnedTupleGo tg (.ref it) u) Q E s := by
  unfold letOwnedTupleGo
  cases tg <;> first
    | exact wpAny_pure hQ
    | (cases u <;> first
        | exact wpAny_pure hQ
        | (refine wpAny_bind (wpAny_load ho ?_)
           rw [hc, hd]
           show wpAny M A (if (["enumerate", "zip", "dict_itemiterator", "dict_reverseitemiterator", "odict_iterator", "itertools.zip_longest", "itertools.pairwise"].contains n && vs[0]? == some (rawInt _)) = true then _ else _) Q E s
           rw [if_neg (by intro h; rw [hn, Bool.false_and] at h; cases h)]
           exact wpAny_pure hQ))
noncomputable def Itl (K:PySem.W.Frag) (a:Addr):It :=
 ⟨fun i H=>∃ xs x,f9 K H a xs/\xs[i]? = some x,fun i H x H'=>H'=H/\∀ xs,f9 K H a xs->xs[i]? = some x,fun i H=>∃ xs,f9 K H a xs/\xs.length<=i⟩
noncomputable def Itt (K:PySem.W.Frag) (a:Addr):It :=
 ⟨fun i H=>∃ xs x,p7 K H a xs/\xs[i]? = some x,fun i H x H'=>H'=H/\∀ xs,p7 K H a xs->xs[i]? = some x,fun i H=>∃ xs,p7 K H a xs/\xs.length<=i⟩
noncomputable def Z1 (lo:Int) (n:Nat):It:=⟨fun i _=>i < n,fun i H x H'=>H'=H/\x = .int (lo + i),fun i _=>n<=i⟩
theorem Ib {cb:Bool} (hcb:cb=true) {P:Program} {w:World} {K:PySem.W.Frag} {tg:Expr} (a it:Addr):Turn cb P w K tg (Itl K a) [it] it (fun i h=>h.IsListIter it a i) where
 mem:=by simp
 obj:=fun i h st b hb=>by
  have e:b=it:=by simpa using hb
  subst e
  obtain ⟨o,e,c,d⟩:=st
  exact ⟨o,e,fun v z=>by rw [d] at z; cases z⟩
 keep:=fun i h h' st k=>st.at fun o e=>k it (by simp) o e
 item:=by
  intro X hP hw hK hc i pins s σ H E I hf st hg
  subst hP hw hK
  obtain ⟨xs,x,hq,hx⟩:=hg
  obtain ⟨its,rv,p,hz⟩:=I.list hq
  obtain ⟨u,hu,ru⟩:=rv.get hx
  obtain ⟨f0,f1,f2,f3,f4,f5⟩:=hf it (by simp)
  refine wpAny_pyNext_list_item st p.isList (x:=u) (by simpa using hu) fun h' st' sb=>?_
  have I1:Inv X pins σ H { s with heap:=h' }:=I.turned (t':=s.toks) (fun b o hb e=>(sb.2 b hb).trans e) f0 f1 f3 f4 f5
  obtain ⟨o,e,c,d⟩:=id st'
  exact ⟨u,rfl,Ht (s:={ s with heap:=h' }) e c d (by decide) ⟨x,H,I1,ru,⟨rfl,fun ys hy=>by rw [I.lF hy hq]; exact hx⟩,st',fun b hb=>(hf b hb).1⟩⟩
 done:=by
  intro X hP hw hK hc i pins s σ H E I hf st hg
  subst hP hw hK
  obtain ⟨xs,hq,hx⟩:=hg
  obtain ⟨its,rv,p,hz⟩:=I.list hq
  obtain ⟨f0,f1,f2,f3,f4,f5⟩:=hf it (by simp)
  have hl:=rv.length
  exact wpAny_pyNext_list_end (I.ok.hd (hc.trans hcb)) st p.isList (by simp; lia) fun h' eb=>⟨rfl,I.turned (t':=s.toks) (fun b o hb e=>eb b o hb e) f0 f1 f3 f4 f5⟩
 self:=fun _ _ _ _ _ st h=>wpAny_pyIter_listiter st h
theorem Ea {cb:Bool} (hcb:cb=true) {P:Program} {w:World} {K:PySem.W.Frag} {tg:Expr} (a it:Addr):Turn cb P w K tg (Itt K a) [it] it (fun i h=>h.IsTupleIter it a i) where
 mem:=by simp
 obj:=fun i h st b hb=>by
  have e:b=it:=by simpa using hb
  subst e
  obtain ⟨o,e,c,d⟩:=st
  exact ⟨o,e,fun v z=>by rw [d] at z; cases z⟩
 keep:=fun i h h' st k=>st.at fun o e=>k it (by simp) o e
 item:=by
  intro X hP hw hK hc i pins s σ H E I hf st hg
  subst hP hw hK
  obtain ⟨xs,x,hq,hx⟩:=hg
  obtain ⟨its,rv,p,hz⟩:=I.tuple hq
  obtain ⟨u,hu,ru⟩:=rv.get hx
  obtain ⟨f0,f1,f2,f3,f4,f5⟩:=hf it (by simp)
  refine wpAny_pyNext_tuple_item st (show s.heap.IsTuple a its.toArray from p) (x:=u) (by simpa using hu) fun h' st' sb=>?_
  have I1:Inv X pins σ H { s with heap:=h' }:=I.turned (t':=s.toks) (fun b o hb e=>(sb.2 b hb).trans e) f0 f1 f3 f4 f5
  obtain ⟨o,e,c,d⟩:=id st'
  exact ⟨u,rfl,Ht (s:={ s with heap:=h' }) e c d (by decide) ⟨x,H,I1,ru,⟨rfl,fun ys hy=>by rw [I.Ig hy hq]; exact hx⟩,st',fun b hb=>(hf b hb).1⟩⟩
 done:=by
  intro X hP hw hK hc i pins s σ H E I hf st hg
  subst hP hw hK
  obtain ⟨xs,hq,hx⟩:=hg
  obtain ⟨its,rv,p,hz⟩:=I.tuple hq
  obtain ⟨f0,f1,f2,f3,f4,f5⟩:=hf it (by simp)
  have hl:=rv.length
  exact wpAny_pyNext_tuple_end (I.ok.hd (hc.trans hcb)) st (show s.heap.IsTuple a its.toArray from p) (by simp; lia) fun h' eb=>⟨rfl,I.turned (t':=s.toks) (fun b o hb e=>eb b o hb e) f0 f1 f3 f4 f5⟩
 self:=fun _ _ _ _ _ st h=>wpAny_pyIter_tupleiter st h
theorem Eb {cb:Bool} {P:Program} {w:World} {K:PySem.W.Frag} {tg:Expr} (it:Addr) (lo:Int) (n:Nat):Turn cb P w K tg (Z1 lo n) [it] it (fun i h=>IsRangeIter h it (lo + (i:Nat) * 1) ((n:Int) - (i:Nat)) 1) where
 mem:=by simp
 obj:=fun i h st b hb=>by
  have e:b=it:=by simpa using hb
  subst e
  exact ⟨_,st,fun v z=>by
   have z':Data.fields _=Data.cell v:=z
   cases z'⟩
 keep:=fun i h h' st k=>k it (by simp) _ st
 item:=by
  intro X hP hw hK hc i pins s σ H E I hf st hg
  subst hP hw hK
  obtain ⟨f0,f1,f2,f3,f4,f5⟩:=hf it (by simp)
  refine wpAny_pyNext_range_item st (by have:i < n:=hg; lia) fun h' st' sb=>?_
  have I1:Inv X pins σ H { s with heap:=h',toks:=s.toks + 1 }:=I.turned (fun b o hb e=>(sb.2 b hb).trans e) f0 f1 f3 f4 f5
  have e1:lo + ((i + 1:Nat):Int) * 1=lo + (i:Int) * 1 + 1:=by push_cast; lia
  have e2:(n:Int) - ((i + 1:Nat):Int)=(n:Int) - (i:Int) - 1:=by push_cast; lia
  refine ⟨_,rfl,Ht (s:={ s with heap:=h',toks:=s.toks + 1 }) (n:="range_iterator") st' rfl rfl (by decide) ⟨.int (lo + i),H,I1,⟨s.toks,?_⟩,⟨rfl,rfl⟩,by rw [e1,e2]; exact st',fun b hb=>(hf b hb).1⟩⟩
  rw [Int.mul_one]
 done:=by
  intro X hP hw hK hc i pins s σ H E I hf st hg
  subst hP hw hK
  obtain ⟨f0,f1,f2,f3,f4,f5⟩:=hf it (by simp)
  exact Em (I.hh.hds I.hok) st (by have:n<=i:=hg; lia) fun h' eb=>⟨rfl,I.turned (t':=s.toks) (fun b o hb e=>eb b o hb e) f0 f1 f3 f4 f5⟩
 self:=fun _ _ _ _ _ st h=>wpAny_pyIter_rangeiter st h
end L2
namespace L2
open PySem PySem.Spec PyProof.Rows
section
variable {X:Cx} {tg:Expr}
theorem Bw {pins:List (Addr×Obj)} {σ:St} {H:Hp} {s:Shared} {R:It->Hp->Prop} {E:Value->Shared->Prop} {lo hi:Int} {t u v:Tok} {tk:Nat} (I:Inv X pins σ H s) (h1 : -(2 ^ 62)<=lo) (h2:lo < 2 ^ 62) (h3 : -(2 ^ 62)<=hi) (h4:hi < 2 ^ 62)
  (q:R (Z1 lo (hi - lo).toNat) H):wpAny (model X.prog X.w) X.A (pyIter (.ref s.heap.objs.size)) (PIE X pins σ tg R) E { s with heap:=s.heap.push { cls:=.type "range",data:=.fields #[.int lo t,.int hi u,.int 1 v] },toks:=tk }:=by
 refine wpAny_pyIter_range (IsRange.new ..) (small_one h1 h2 h3 h4) ?_
 have I1:Inv X pins σ H { s with heap:=s.heap.push { cls:=.type "range",data:=.fields #[.int lo t,.int hi u,.int 1 v] },toks:=tk }:=I.kept fun b o e=>Heap.get?_push_of_some _ e
 refine ⟨(s.heap.push { cls:=.type "range",data:=.fields #[.int lo t,.int hi u,.int 1 v] }).objs.size,[(s.heap.push { cls:=.type "range",data:=.fields #[.int lo t,.int hi u,.int 1 v] }).objs.size],_,_,H,rfl,
  I1.kept (t':=tk) fun b o e=>Heap.get?_push_of_some _ e,Eb _ lo (hi - lo).toNat,?_,fun b hb=>?_,q⟩
 ·have e1:lo + ((0:Nat):Int) * 1=lo:=by simp
  have e2:(((hi - lo).toNat:Nat):Int) - ((0:Nat):Int)=Builtin.Range.rangeSize lo hi 1:=by rw [rangeSize_one]; split <;> lia
  show IsRangeIter _ _ (lo + ((0:Nat):Int) * 1) ((((hi - lo).toNat:Nat):Int) - ((0:Nat):Int)) 1
  rw [e1,e2]
  exact Heap.get?_push_size _ rfl
 ·have e:b=(s.heap.push { cls:=.type "range",data:=.fields #[.int lo t,.int hi u,.int 1 v] }).objs.size:=by simpa using hb
  subst e
  exact I1.Jz (Nat.le_refl _) (I1.hok.fresh (Nat.le_refl _))
noncomputable def Zi (ta:TA):TI:=fun σ H R=>ta σ H fun vs H1=>∃ j:Int,vs=[.int j]/\-(2 ^ 62)<=j/\j < 2 ^ 62/\R (Z1 0 j.toNat) H1
noncomputable def Zh (ta:TA):TI:=fun σ H R=>ta σ H fun vs H1=>∃ i j:Int,vs=[.int i,.int j]/\(-(2 ^ 62)<=i/\i < 2 ^ 62/\-(2 ^ 62)<=j/\j < 2 ^ 62)/\R (Z1 i (j - i).toNat) H1
theorem Iv {a:Expr} {ta:TA} {p pos:Pos} (hg:Gl X "range") (hm:X.mg "range" = none) (ha:PA X [a] ta) (hs:starEach [a] X.env=[(false,eval a X.env)]:=by rfl):PI X tg (.Call (.Name "range" p) [a] [] pos) (Zi ta):=by
 intro pins s σ H R I h
 refine Call_ (lG I hg hm boot_range (PyProof.Rows.callWith_type1 (bG (ha pos pins s σ H _ I h) fun us s1 ⟨vs,H1,I1,r1,q1⟩=>?_) hs rfl))
 obtain ⟨j,e,q1,q2,q⟩:=q1
 subst e
 cases r1 with
 | cons r rr =>
  cases rr
  obtain ⟨t,rfl⟩:=r
  exact call_range_1 (Bw I1 (by lia) (by lia) q1 q2 (by simpa using q))
theorem Iu {a b:Expr} {ta:TA} {p pos:Pos} (hg:Gl X "range") (hm:X.mg "range" = none) (ha:PA X [a,b] ta) (hs:starEach [a,b] X.env=[(false,eval a X.env),(false,eval b X.env)]:=by rfl) (hs2:starEach [b] X.env=[(false,eval b X.env)]:=by rfl) :
  PI X tg (.Call (.Name "range" p) [a,b] [] pos) (Zh ta):=by
 intro pins s σ H R I h
 refine Call_ (lG I hg hm boot_range (PyProof.Rows.callWith_type1 (bG (ha pos pins s σ H _ I h) fun us s1 ⟨vs,H1,I1,r1,q1⟩=>?_) (by rw [hs,hs2]) (by rw [hs2]; rfl)))
 obtain ⟨i,j,e,⟨q1,q2,q3,q4⟩,q⟩:=q1
 subst e
 cases r1 with
 | cons r rr =>
  cases rr with
  | cons r' rr =>
   cases rr
   obtain ⟨t,rfl⟩:=r
   obtain ⟨t',rfl⟩:=r'
   exact call_range_2 (Bw I1 q1 q2 q3 q4 q)
noncomputable def aa9 (wi:TI) (g:TG) (tb:TS):TS:=fun D σ H=>wi σ H fun J H1=>∃ W:Nat->Nat->St->Hp->Prop,(∃ m,W 0 m σ H1)/\∀ i m σ H,W i m σ H ->
 (J.stop i H/\D.nx σ H)∨(J.go i H/\∃ N:St->Hp->Prop,(∀ σ' H',N σ' H'->∃ m',m' < m/\W (i + 1) m' σ' H')/\∀ x H',J.Yd i H x H'->g x σ H' fun σ2 H2=>tb { D with nx:=N,ct:=N,bk:=D.nx } σ2 H2)
noncomputable def uN (fp:List Addr) (h:Heap):List (Addr×Obj):=fp.filterMap fun b=>(h.get? b).map fun o=>(b,o)
theorem jG {fp:List Addr} {h:Heap} {b:Addr} {o:Obj} (hb:b∈fp) (e:h.get? b=some o):(b,o)∈uN fp h:=List.mem_filterMap.mpr ⟨b,hb,by rw [e]; rfl⟩
theorem Ja {fp:List Addr} {h:Heap} {p:Addr×Obj} (hp:p∈uN fp h):p.1∈fp/\h.get? p.1=some p.2:=by
 obtain ⟨b,hb,e⟩:=List.mem_filterMap.mp hp
 cases q:h.get? b with
 | none=>rw [q] at e; cases e
 | some o =>
  rw [q] at e
  have e':(b,o)=p:=Option.some.inj e
  subst e'
  exact ⟨hb,q⟩
theorem Inv.pinned {pins:List (Addr×Obj)} {σ:St} {H:Hp} {s:Shared} {fp:List Addr} (I:Inv X pins σ H s) (hf:∀ b∈fp,wD X pins H b) (ho:∀ b∈fp,∃ o,s.heap.get? b=some o/\∀ v,o.data≠.cell v):Inv X (pins ++ uN fp s.heap) σ H s :=
 I.oY fun p hp=>(List.mem_append.mp hp).elim (fun z=>I.pin p (List.mem_append_right _ z)) fun z=>by
  obtain ⟨hb,e⟩:=Ja z
  obtain ⟨f0,f1,f2,_⟩:=hf p.1 hb
  obtain ⟨o,e',d⟩:=ho p.1 hb
  rw [e] at e'; cases e'
  exact ⟨e,f0,f1,f2,d⟩
theorem Inv.uc {pins pl:List (Addr×Obj)} {σ:St} {H:Hp} {s:Shared} (I:Inv X (pins ++ pl) σ H s):Inv X pins σ H s:=I.oY fun p hp=>I.pin p (List.mem_append_right _ (List.mem_append_left _ hp))
theorem Vx {iter:Expr} {body:List Stmt} {wi:TI} {g:TG} {tb:TS} {pos:Pos} (hp:PassesOwn (model X.prog X.w) X.A X.env X.xe) (hc:X.calm=true) (hi:PI X tg iter wi) (hg:PG X tg g) (hb:yF X body tb)
  (hs:∀ x,foldedSetIterable iter X.env x=pure x:=by intro _; rfl):PS X (.For tg iter body [] pos) (aa9 wi g tb):=by
 intro pins s σ H D I h
 refine wpAny_For (bG (hi pins s σ H _ I h) fun v s1 h1=>bG h1 fun itv s2 h2=>?_) hs
 obtain ⟨it,fp,tn,J,H2,e,I2,T,st2,f2,W,⟨m0,w0⟩,turn⟩:=h2
 subst e
 have stat:∀ {H':Hp},(∀ b∈fp,H' b=none)->∀ b∈fp,wD X pins H' b:=fun hn b hb=>⟨hn b hb,(f2 b hb).2⟩
 refine codeAny_forLoop_any (fun n s'=>∃ i σ' H',Inv X pins σ' H' s'/\tn i s'.heap/\(∀ b∈fp,H' b=none)/\W i n σ' H') ?_ m0 ⟨0,σ,H2,I2,st2,fun b hb=>(f2 b hb).1,w0⟩
 rintro n s3 ⟨i,σ3,H3,I3,st3,fr3,w3⟩
 rcases turn i n σ3 H3 w3 with ⟨stop,qn⟩ | ⟨go,N,hN,step⟩
 ·refine wpAny_passesOwn hp (bG (T.done X rfl rfl rfl rfl i pins s3 σ3 H3 X.xe I3 (stat fr3) st3 stop) fun r s4 ⟨hr,I4⟩=>?_)
  subst hr
  exact wpAny_execs_nil ⟨σ3,H3,I4,qn⟩
 ·refine wpAny_passesOwn hp (bG (T.item X rfl rfl rfl rfl i pins s3 σ3 H3 X.xe I3 (stat fr3) st3 go) fun r s4 ⟨u,hr,h4⟩=>?_)
  subst hr
  refine wpAny_passesOwn hp (bG h4 fun _ s5 ⟨x,H5,I5,r5,y5,Yt,fr5⟩=>?_)
  have I5':=I5.pinned (stat fr5) (T.obj _ _ Yt)
  refine wpAny_passesOwn hp (bG (hg _ s5 σ3 H5 x u _ I5' r5 (step x H5 y5)) fun _ s6 ⟨σ6,H6,I6,q6⟩=>?_)
  refine wpAny_passesOwn hp (bG (hb _ s6 σ6 H6 _ I6 q6) fun f s7 q7=>?_)
  have again:∀ {σ7:St} {H7:Hp},Inv X (pins ++ uN fp s5.heap) σ7 H7 s7->N σ7 H7->∃ m,m < n/\∃ i σ' H',Inv X pins σ' H' s7/\tn i s7.heap/\(∀ b∈fp,H' b=none)/\W i m σ' H':=fun {σ7 H7} I7 n7=>by
   obtain ⟨m',hm,w7⟩:=hN σ7 H7 n7
   refine ⟨m',hm,i + 1,σ7,H7,I7.uc,T.keep _ _ _ Yt fun b hb o e=>(I7.pin (b,o) (List.mem_append_right _ (List.mem_append_right _ (jG hb e)))).1,fun b hb=>?_,w7⟩
   obtain ⟨o,e,d⟩:=T.obj _ _ Yt b hb
   exact (I7.pin (b,o) (List.mem_append_right _ (List.mem_append_right _ (jG hb e)))).2.1
  cases f with
  | next=>obtain ⟨σ7,H7,I7,n7⟩:=q7; exact again I7 n7
  | cont=>obtain ⟨σ7,H7,I7,n7⟩:=q7; exact again I7 n7
  | brk=>obtain ⟨σ7,H7,I7,q7⟩:=q7; exact ⟨σ7,H7,I7.uc,q7⟩
  | ret v=>obtain ⟨x7,σ7,H7,I7,r7,q7⟩:=q7; exact ⟨x7,σ7,H7,I7.uc,r7,q7⟩
end
end L2
namespace L2
open PySem PySem.Spec PyProof.Rows
noncomputable abbrev R2:=V->V->Hp->VK->Prop
noncomputable def mQ (X:Cx) (f:Value->Value->Sem Value) (r:R2):Prop :=
 ∀ (pins:List (Addr×Obj)) (s:Shared) (σ:St) (H:Hp) (x y:V) (v u:Value) (Q:VK),Inv X pins σ H s->RelV x v->RelV y u->r x y H Q ->
  wpAny (model X.prog X.w) X.A (f v u) (EP X pins σ Q) X.xe s
noncomputable def UnR (X:Cx) (f:Value->Sem Value) (r:V->Hp->VK->Prop):Prop :=
 ∀ (pins:List (Addr×Obj)) (s:Shared) (σ:St) (H:Hp) (x:V) (v:Value) (Q:VK),Inv X pins σ H s->RelV x v->r x H Q ->
  wpAny (model X.prog X.w) X.A (f v) (EP X pins σ Q) X.xe s
noncomputable def cR (X:Cx) (f:Value) (r:List V->Hp->VK->Prop):Prop :=
 ∀ (pins:List (Addr×Obj)) (s:Shared) (σ:St) (H:Hp) (xs:List V) (us:List Value) (Q:VK),Inv X pins σ H s->Vals xs us->r xs H Q ->
  wpAny (model X.prog X.w) X.A (call f us) (EP X pins σ Q) X.xe s
noncomputable def ab0 (X:Cx) (r:V->Hp->(Bool->Hp->Prop)->Prop):Prop :=
 ∀ (pins:List (Addr×Obj)) (s:Shared) (σ:St) (H:Hp) (x:V) (v:Value) (Q:Bool->Hp->Prop),Inv X pins σ H s->RelV x v->r x H Q ->
  wpAny (model X.prog X.w) X.A (truthy v) (TP X pins σ Q) X.xe s
noncomputable def Yk (r:R2) (ta tb:TE):TE:=fun σ H Q=>ta σ H fun x H1=>tb σ H1 fun y H2=>r x y H2 Q
noncomputable def tUn (r:V->Hp->VK->Prop) (ta:TE):TE:=fun σ H Q=>ta σ H fun x H1=>r x H1 Q
noncomputable def rI (C:Int->Int->Prop) (g:Int->Int->V):R2:=fun x y H Q=>∃ i j,x = .int i/\y = .int j/\C i j/\Q (g i j) H
noncomputable def T9 (g:Int->Int->V):R2:=fun x y H Q=>∃ i j,x = .int i/\y = .int j/\Q (g i j) H
noncomputable def rU (g:Int->V):V->Hp->VK->Prop:=fun x H Q=>∃ i,x = .int i/\Q (g i) H
section
variable {X:Cx} {a b c:Expr} {ta tb tc:TE} {pos:Pos}
theorem Xn (ha:PE X a ta) (hb:PE X b tb) {pins:List (Addr×Obj)} {s:Shared} {σ:St} {H:Hp} {R:V->V->Hp->Prop} (I:Inv X pins σ H s)
  (h:ta σ H fun x H1=>tb σ H1 fun y H2=>R x y H2) {Q:Value->Shared->Prop} {f:Value->Value->Sem Value}
  (hf:∀ v u s2 x y H2,Inv X pins σ H2 s2->RelV x v->RelV y u->R x y H2->wpAny (model X.prog X.w) X.A (f v u) Q X.xe s2) :
  wpAny (model X.prog X.w) X.A (eval a X.env) (fun v s₁=>wpAny (model X.prog X.w) X.A (eval b X.env) (fun u s₂=>wpAny (model X.prog X.w) X.A (f v u) Q X.xe s₂) X.xe s₁) X.xe s:=by
 refine bG (ha pins s σ H _ I h) fun v s1 ⟨x,H1,I1,r1,q1⟩=>?_
 refine bG (hb pins s1 σ H1 _ I1 q1) fun u s2 ⟨y,H2,I2,r2,q2⟩=>?_
 exact hf v u s2 x y H2 I2 r1 r2 q2
theorem Uc {op:Operator} {r:R2} (ho:mQ X (binaryOp op) r) (ha:PE X a ta) (hb:PE X b tb):PE X (.BinOp a op b pos) (Yk r ta tb):=by
 intro pins s σ H Q I h
 exact wpAny_BinOp (Xn ha hb I h fun v u s2 x y H2 I2 rx ry q=>ho pins s2 σ H2 x y v u Q I2 rx ry q)
theorem YH {op:UnaryOp} {r:V->Hp->VK->Prop} (ho:UnR X (unaryOp op) r) (ha:PE X a ta):PE X (.UnaryOp op a pos) (tUn r ta):=by
 intro pins s σ H Q I h
 exact UnaryOp_ (bG (ha pins s σ H _ I h) fun v s1 ⟨x,H1,I1,r1,q1⟩=>ho pins s1 σ H1 x v Q I1 r1 q1)
theorem opI {f:Value->Value->Sem Value} {C:Int->Int->Prop} {g:Int->Int->Int}
  (rule:∀ (i j:Int) (t u:Tok) (s:Shared) (Q:Value->Shared->Prop) (E:Value->Shared->Prop),C i j->Q (.int (g i j) s.toks) { s with toks:=s.toks + 1 }->wpAny (model X.prog X.w) X.A (f (.int i t) (.int j u)) Q E s) :
  mQ X f (rI C fun i j=>.int (g i j)):=by
 intro pins s σ H x y v u Q I rx ry h
 obtain ⟨i,j,rfl,rfl,hc,q⟩:=h
 obtain ⟨t,rfl⟩:=rx
 obtain ⟨t',rfl⟩:=ry
 exact rule i j t t' s _ _ hc ⟨.int (g i j),H,I.tok _,⟨_,rfl⟩,q⟩
theorem YT {f:Value->Value->Sem Value} {g:Int->Int->Int}
  (rule:∀ (i j:Int) (t u:Tok) (s:Shared) (Q:Value->Shared->Prop) (E:Value->Shared->Prop),Q (.int (g i j) s.toks) { s with toks:=s.toks + 1 }->wpAny (model X.prog X.w) X.A (f (.int i t) (.int j u)) Q E s) :
  mQ X f (T9 fun i j=>.int (g i j)):=by
 intro pins s σ H x y v u Q I rx ry h
 obtain ⟨i,j,rfl,rfl,q⟩:=h
 obtain ⟨t,rfl⟩:=rx
 obtain ⟨t',rfl⟩:=ry
 exact rule i j t t' s _ _ ⟨.int (g i j),H,I.tok _,⟨_,rfl⟩,q⟩
theorem RB {f:Value->Value->Sem Value} {g:Int->Int->Bool}
  (rule:∀ (i j:Int) (t u:Tok) (s:Shared) (Q:Value->Shared->Prop) (E:Value->Shared->Prop),Q (.bool (g i j)) s->wpAny (model X.prog X.w) X.A (f (.int i t) (.int j u)) Q E s) :
  mQ X f (T9 fun i j=>.bl (g i j)):=by
 intro pins s σ H x y v u Q I rx ry h
 obtain ⟨i,j,rfl,rfl,q⟩:=h
 obtain ⟨t,rfl⟩:=rx
 obtain ⟨t',rfl⟩:=ry
 exact rule i j t t' s _ _ ⟨.bl (g i j),H,I,rfl,q⟩
noncomputable def ab7 (i j:Int):Prop:=0<=j/\j<=1000000/\i.natAbs < 2 ^ 64
noncomputable def XH (i j:Int):Prop:=(-(2 ^ 64) < i/\i < 2 ^ 64)∨(-(2 ^ 64) < j/\j < 2 ^ 64)
theorem XH.ok {i j:Int} (h:XH i j):IntMulOk i j:=by
 rcases h with ⟨h1,h2⟩ | ⟨h1,h2⟩
 ·exact .of_left (intBits_le_64 h1 h2)
 ·exact .of_right (intBits_le_64 h1 h2)
theorem V6:mQ X (binaryOp .Add) (T9 fun i j=>.int (i + j)):=YT fun _ _ _ _ _ _ _ q=>add_int q
theorem V1:mQ X (binaryOp .Sub) (T9 fun i j=>.int (i - j)):=YT fun _ _ _ _ _ _ _ q=>sub_int q
theorem V3:mQ X (binaryOp .Mult) (rI XH fun i j=>.int (i * j)):=opI fun _ _ _ _ _ _ _ hc q=>mul_int q hc.ok
theorem V4:mQ X (binaryOp .Mod) (rI (fun _ j=>0 < j) fun i j=>.int (i % j)):=opI fun i j _ _ _ _ _ hc q=>by
 have h1:(0:Int) < j:=hc
 exact mod_int' (by lia) (by rw [Int.fmod_eq_emod_of_nonneg i (by lia)]; exact q)
theorem V2:mQ X (binaryOp .Pow) (rI ab7 fun i j=>.int (i ^ j.toNat)):=opI fun _ _ _ _ _ _ _ hc q=>pow_int_small hc.1 hc.2.1 hc.2.2 q
theorem unI {f:Value->Sem Value} {g:Int->Int}
  (rule:∀ (i:Int) (t:Tok) (s:Shared) (Q:Value->Shared->Prop) (E:Value->Shared->Prop),Q (.int (g i) s.toks) { s with toks:=s.toks + 1 }->wpAny (model X.prog X.w) X.A (f (.int i t)) Q E s) :
  UnR X f (rU fun i=>.int (g i)):=by
 intro pins s σ H x v Q I rx h
 obtain ⟨i,rfl,q⟩:=h
 obtain ⟨t,rfl⟩:=rx
 exact rule i t s _ _ ⟨.int (g i),H,I.tok _,⟨_,rfl⟩,q⟩
theorem U9:UnR X (unaryOp .USub) (rU fun i=>.int (-i)):=unI fun _ _ _ _ _ q=>neg_int q
end
section
variable {X:Cx} {a b c:Expr} {ta tb tc:TE} {pos:Pos}
theorem Fz {pins:List (Addr×Obj)} {σ:St} {H:Hp} {s:Shared} {Q:VK} {k k':Bool} (I:Inv X pins σ H s) (q:Q (.bl k) H) (e:k=k'):EP X pins σ Q (.bool k') s:=by
 subst e
 exact ⟨.bl k,H,I,rfl,q⟩
theorem YL:mQ X (compareOp .Lt) (T9 fun i j=>.bl (decide (i < j))):=RB fun _ _ _ _ _ _ _ q=>lt_int q
theorem YM:mQ X (compareOp .LtE) (T9 fun i j=>.bl (decide (i<=j))):=RB fun _ _ _ _ _ _ _ q=>le_int q
theorem YQ:mQ X (compareOp .Gt) (T9 fun i j=>.bl (decide (j < i))):=RB fun _ _ _ _ _ _ _ q=>gt_int q
theorem YS:mQ X (compareOp .GtE) (T9 fun i j=>.bl (decide (j<=i))):=RB fun _ _ _ _ _ _ _ q=>ge_int q
theorem I9:mQ X (compareOp .Lt) (fun x y H Q=>∃ i j,x = .str i/\y = .str j/\Q (.bl (decide (i.cps.toList < j.cps.toList))) H):=by
 intro pins s σ H x y v u Q I rx ry h
 obtain ⟨i,j,rfl,rfl,q⟩:=h
 obtain ⟨t,rfl⟩:=rx
 obtain ⟨t',rfl⟩:=ry
 exact lt_str (Fz I q rfl)
theorem V5:mQ X (compareOp .Is) (fun x y H Q=>y = .non/\Q (.bl (decide (x = .non))) H):=by
 intro pins s σ H x y v u Q I rx ry h
 obtain ⟨rfl,q⟩:=h
 cases ry
 refine is_none_gen (Fz I q ?_)
 cases x <;> first
  | (cases rx; rfl)
  | (obtain ⟨t,rfl⟩:=rx; rfl)
theorem Ry:mQ X (compareOp .IsNot) (fun x y H Q=>y = .non/\Q (.bl (!decide (x = .non))) H):=by
 intro pins s σ H x y v u Q I rx ry h
 obtain ⟨rfl,q⟩:=h
 cases ry
 refine isnot_none_gen (Fz I q ?_)
 cases x <;> first
  | (cases rx; rfl)
  | (obtain ⟨t,rfl⟩:=rx; rfl)
theorem mQ.or {f:Value->Value->Sem Value} {r r':R2} (h:mQ X f r) (h':mQ X f r'):mQ X f (fun x y H Q=>r x y H Q∨r' x y H Q):=by
 intro pins s σ H x y v u Q I rx ry q
 rcases q with q | q
 ·exact h pins s σ H x y v u Q I rx ry q
 ·exact h' pins s σ H x y v u Q I rx ry q
theorem abp (b:Expr) {op:CmpOp} (h:op≠.In:=by decide) (h2:op≠.NotIn:=by decide):behindInMarks op b=false:=by
 have e1:(op == CmpOp.In)=false:=by cases op <;> first | rfl | exact absurd rfl h
 have e2:(op == CmpOp.NotIn)=false:=by cases op <;> first | rfl | exact absurd rfl h2
 cases b <;> simp [behindInMarks,e1,e2]
theorem GP {op:CmpOp} {r:R2} (ho:mQ X (compareOp op) r) (ha:PE X a ta) (hb:PE X b tb) (hm:behindInMarks op b=false):PE X (.Compare a [op] [b] pos) (Yk r ta tb):=by
 intro pins s σ H Q I h
 exact wpAny_Compare1 (Xn ha hb I h fun v u s2 x y H2 I2 rx ry q=>ho pins s2 σ H2 x y v u Q I2 rx ry q) hm
noncomputable def Gu (t:TE):TT:=fun σ H Q=>t σ H fun x H'=>∃ k,x = .bl k/\Q k H'
theorem GD {op:CmpOp} {r:R2} (ho:mQ X (compareOp op) r) (ha:PE X a ta) (hb:PE X b tb) (hm:behindInMarks op b=false):PT X (.Compare a [op] [b] pos) (Gu (Yk r ta tb)):=by
 intro pins s σ H Q I h
 refine wpAny_isTrue_Compare1 (bG (ha pins s σ H _ I h) fun v s1 ⟨x,H1,I1,r1,q1⟩=>bG (hb pins s1 σ H1 _ I1 q1) fun u s2 ⟨y,H2,I2,r2,q2⟩ =>
  bG (ho pins s2 σ H2 x y v u _ I2 r1 r2 q2) fun c s3 ⟨z,H3,I3,r3,k,e,q3⟩=>?_) hm
 subst e
 cases r3
 exact wpAny_truthy_bool ⟨H3,I3,q3⟩
noncomputable def yK (r r':R2) (ta tb tc:TE):TE:=fun σ H Q=>ta σ H fun x H1=>tb σ H1 fun y H2=>r x y H2 fun z H3=>∃ k,z = .bl k /\
 (if k=true then tc σ H3 fun w' H4=>r' y w' H4 Q else Q (.bl false) H3)
theorem Mq {op op':CmpOp} {r r':R2} (ho:mQ X (compareOp op) r) (ho':mQ X (compareOp op') r') (ha:PE X a ta) (hb:PE X b tb) (hc:PE X c tc)
  (hm:lastMarks [op,op'] [b,c]=false:=by with_unfolding_all rfl):PE X (.Compare a [op,op'] [b,c] pos) (yK r r' ta tb tc):=by
 intro pins s σ H Q I h
 refine Compare_chain (bG (ha pins s σ H _ I h) fun v s1 ⟨x,H1,I1,r1,q1⟩=>chain_link (bG (hb pins s1 σ H1 _ I1 q1) fun u s2 ⟨y,H2,I2,r2,q2⟩ =>
  bG (ho pins s2 σ H2 x y v u _ I2 r1 r2 q2) fun d s3 ⟨z,H3,I3,r3,k,e,q3⟩=>?_)) hm
 subst e
 cases r3
 refine wpAny_truthy_bool ?_
 cases k with
 | false=>exact ite_ff ⟨.bl false,H3,I3,rfl,q3⟩
 | true=>exact ite_tt (chain_last (bG (hc pins s3 σ H3 _ I3 q3) fun w' s4 ⟨z',H4,I4,r4,q4⟩=>ho' pins s4 σ H4 y z' u w' Q I4 r2 r4 q4))
theorem Li {op op':CmpOp} {r r':R2} (ho:mQ X (compareOp op) r) (ho':mQ X (compareOp op') r') (ha:PE X a ta) (hb:PE X b tb) (hc:PE X c tc)
  (hm:lastMarks [op,op'] [b,c]=false:=by with_unfolding_all rfl):PT X (.Compare a [op,op'] [b,c] pos) (Gu (yK r r' ta tb tc)):=by
 intro pins s σ H Q I h
 refine isTrue_chain (bG (ha pins s σ H _ I h) fun v s1 ⟨x,H1,I1,r1,q1⟩=>test_link (bG (hb pins s1 σ H1 _ I1 q1) fun u s2 ⟨y,H2,I2,r2,q2⟩ =>
  bG (ho pins s2 σ H2 x y v u _ I2 r1 r2 q2) fun d s3 ⟨z,H3,I3,r3,k,e,q3⟩=>?_)) hm
 subst e
 cases r3
 refine wpAny_truthy_bool ?_
 cases k with
 | false =>
  obtain ⟨k',e',q'⟩:=q3
  cases e'
  exact ite_ff ⟨H3,I3,q'⟩
 | true =>
  refine ite_tt (test_last (bG (hc pins s3 σ H3 _ I3 q3) fun w' s4 ⟨z',H4,I4,r4,q4⟩=>bG (ho' pins s4 σ H4 y z' u w' _ I4 r2 r4 q4) fun d' s5 ⟨z2,H5,I5,r5,k2,e2,q5⟩=>?_))
  subst e2
  cases r5
  exact wpAny_truthy_bool ⟨H5,I5,q5⟩
noncomputable def Xu (K:PySem.W.Frag) (x:V) (H:Hp) (k:Bool):Prop :=
 match x with
 | .non=>k=false
 | .bl b=>k=b
 | .int i=>k=(i != 0)
 | .str y=>y.length<=sizeLine/\k=((y.length:Int) != 0)
 | .Uv y=>y.size<=sizeLine/\k=((y.size:Int) != 0)
 | .ref p=>(∃ xs,f9 K H p xs/\k = !xs.isEmpty)∨(∃ xs,p7 K H p xs/\k = !xs.isEmpty)∨∃ kvs,H p=some (.dK kvs)/\k = !kvs.isEmpty
 | _=>False
theorem Fq {κ:Type} {kvs:List (κ×V)} {vs:List (κ×Value)} (r:KV kvs vs):(!vs.isEmpty) = !kvs.isEmpty:=by
 cases r <;> rfl
theorem vH {xs:List V} {its:List Value} (r:Vals xs its):(!its.toArray.isEmpty) = !xs.isEmpty:=by
 cases r <;> simp
theorem qy:(sizeLine:Nat) < 2 ^ 63:=by rw [sizeLine_eq]; decide
theorem Vk:ab0 X (fun x H Q=>∃ k,Xu X.K x H k/\Q k H):=by
 intro pins s σ H x v Q I rx h
 obtain ⟨k,e,q⟩:=h
 have hl:=qy
 have hs:sizeLine=16777216:=sizeLine_eq
 cases x with
 | non =>
  cases rx
  have e':k=false:=e
  subst e'
  exact truthy_none ⟨H,I,q⟩
 | bl b =>
  cases rx
  have e':k=b:=e
  subst e'
  exact wpAny_truthy_bool ⟨H,I,q⟩
 | int i =>
  obtain ⟨t,rfl⟩:=rx
  have e':k=(i != 0):=e
  subst e'
  exact PySem.P.truthy_int ⟨H,I,q⟩
 | str y =>
  obtain ⟨t,rfl⟩:=rx
  obtain ⟨hy,e'⟩:y.length<=sizeLine/\k=((y.length:Int) != 0):=e
  subst e'
  exact PySem.P.truthy_str (by lia) ⟨H,I.tok _,q⟩
 | Uv y =>
  obtain ⟨t,rfl⟩:=rx
  obtain ⟨hy,e'⟩:y.size<=sizeLine/\k=((y.size:Int) != 0):=e
  subst e'
  exact PySem.W.truthy_bytes (by lia) ⟨H,I.tok _,q⟩
 | ref p =>
  cases rx
  have e':(∃ xs,f9 X.K H p xs/\k = !xs.isEmpty)∨(∃ xs,p7 X.K H p xs/\k = !xs.isEmpty)∨∃ kvs,H p=some (.dK kvs)/\k = !kvs.isEmpty:=e
  rcases e' with ⟨xs,hx,e'⟩ | ⟨xs,hx,e'⟩ | ⟨kvs,hx,e'⟩
  ·subst e'
   obtain ⟨its,r,pl,hz⟩:=I.list hx
   have hlen:=r.length
   exact wpAny_truthy_list pl.isList (by simp only [List.size_toArray]; lia) ⟨H,I.tok _,by rw [vH r]; exact q⟩
  ·subst e'
   obtain ⟨its,r,pl,hz⟩:=I.tuple hx
   have hlen:=r.length
   exact truthy_tuple pl (by simp only [List.size_toArray]; lia) ⟨H,I.tok _,by rw [vH r]; exact q⟩
  ·subst e'
   obtain ⟨hz,hS,vs,r,m⟩:kvs.length<=sizeLine/\(p == sysModules)=false/\∃ vs,KV kvs vs/\s.heap.DictOf (cP X.prog X.w) p vs:=I.hok p _ hx
   have hlen:kvs.length=vs.length:=Paired.length r
   exact wpAny_truthy_dict hS m (by lia) ⟨H,I.tok _,by rw [Fq r]; exact q⟩
 | _=>exact (show False from e).elim
theorem Lh (ha:PE X a ta) (he:∀ whole,isTrue a X.env whole=(do let v <- whole; standAt a.pos; holding [v] (truthy v))) :
  PT X a (fun σ H Q=>ta σ H fun x H'=>∃ k,Xu X.K x H' k/\Q k H'):=by
 intro pins s σ H Q I h
 exact isTrue_plain (bG (ha pins s σ H _ I h) fun v s1 ⟨x,H1,I1,r1,q1⟩=>Vk pins s1 σ H1 x v Q I1 r1 q1) (he _)
theorem Et:mQ X (binaryOp .Add) (fun x y H Q=>∃ i j,x = .str i/\y = .str j/\i.length + j.length<=sizeLine/\Q (.str (i ++ j)) H):=by
 intro pins s σ H x y v u Q I rx ry h
 obtain ⟨i,j,rfl,rfl,hz,q⟩:=h
 obtain ⟨t,rfl⟩:=rx
 obtain ⟨t',rfl⟩:=ry
 exact add_str (fun t' tk=>⟨.str (i ++ j),H,I.tok _,⟨_,rfl⟩,q⟩) hz
theorem vals1 {x:V} {us:List Value} (r:Vals [x] us):∃ u,us=[u]/\RelV x u:=by
 cases r with
 | cons r1 r2=>cases r2; exact ⟨_,rfl,r1⟩
theorem vals2 {x y:V} {us:List Value} (r:Vals [x,y] us):∃ u w',us=[u,w']/\RelV x u/\RelV y w':=by
 cases r with
 | cons r1 r2 =>
  cases r2 with
  | cons r3 r4=>cases r4; exact ⟨_,_,rfl,r1,r3⟩
theorem Pa:cR X (.builtin "abs") (fun xs H Q=>∃ i,xs=[.int i]/\Q (.int (if i < 0 then -i else i)) H):=by
 intro pins s σ H xs us Q I r h
 obtain ⟨i,rfl,q⟩:=h
 obtain ⟨u,rfl,t,rfl⟩:=vals1 r
 exact call_abs_int fun u tk=>⟨.int (if i < 0 then -i else i),H,I.tok _,⟨_,rfl⟩,q⟩
theorem JV (hc:X.calm=true):cR X (.builtin "max") (fun xs H Q=>∃ i j,xs=[.int i,.int j]/\Q (.int (if j > i then j else i)) H):=by
 intro pins s σ H xs us Q I r h
 obtain ⟨i,j,rfl,q⟩:=h
 obtain ⟨u,w',rfl,⟨t,rfl⟩,⟨t',rfl⟩⟩:=vals2 r
 refine max_two_ints (I.ok.hd hc) fun h' tk k=>⟨_,H,I.kept k,?_,q⟩
 by_cases hj:j > i
 ·rw [if_pos hj,if_pos hj]; exact ⟨_,rfl⟩
 ·rw [if_neg hj,if_neg hj]; exact ⟨_,rfl⟩
theorem JR (hc:X.calm=true):cR X (.builtin "min") (fun xs H Q=>∃ i j,xs=[.int i,.int j]/\Q (.int (if j < i then j else i)) H):=by
 intro pins s σ H xs us Q I r h
 obtain ⟨i,j,rfl,q⟩:=h
 obtain ⟨u,w',rfl,⟨t,rfl⟩,⟨t',rfl⟩⟩:=vals2 r
 refine min_two_ints (I.ok.hd hc) fun h' tk k=>⟨_,H,I.kept k,?_,q⟩
 by_cases hj:j < i
 ·rw [if_pos hj,if_pos hj]; exact ⟨_,rfl⟩
 ·rw [if_neg hj,if_neg hj]; exact ⟨_,rfl⟩
noncomputable def ZX (K:PySem.W.Frag) (x:V) (H:Hp) (n:Nat):Prop :=
 match x with
 | .str y=>y.length<=sizeLine/\n=y.length
 | .Uv y=>y.size<=sizeLine/\n=y.size
 | .ref p=>(∃ xs,f9 K H p xs/\n=xs.length)∨∃ xs,p7 K H p xs/\n=xs.length
 | _=>False
theorem O9:cR X (.builtin "len") (fun xs H Q=>∃ x n,xs=[x]/\ZX X.K x H n/\Q (.int n) H):=by
 intro pins s σ H xs us Q I r h
 obtain ⟨x,n,rfl,e,q⟩:=h
 obtain ⟨u,rfl,rx⟩:=vals1 r
 have hl:=qy
 have hs:sizeLine=16777216:=sizeLine_eq
 cases x with
 | str y =>
  obtain ⟨t,rfl⟩:=rx
  obtain ⟨hy,e'⟩:y.length<=sizeLine/\n=y.length:=e
  subst e'
  exact len_str (by lia) ⟨.int _,H,I.tok _,⟨_,rfl⟩,q⟩
 | Uv y =>
  obtain ⟨t,rfl⟩:=rx
  obtain ⟨hy,e'⟩:y.size<=sizeLine/\n=y.size:=e
  subst e'
  exact PySem.W.len_bytes (by lia) ⟨.int _,H,I.tok _,⟨_,rfl⟩,q⟩
 | ref p =>
  cases rx
  have e':(∃ xs,f9 X.K H p xs/\n=xs.length)∨∃ xs,p7 X.K H p xs/\n=xs.length:=e
  rcases e' with ⟨xs,hx,e'⟩ | ⟨xs,hx,e'⟩
  ·subst e'
   obtain ⟨its,r',pl,hz⟩:=I.list hx
   have hlen:=r'.length
   exact Calls.call_len_list pl.isList (by simp only [List.size_toArray]; lia) ⟨.int xs.length,H,I.tok _,⟨_,by simp only [List.size_toArray]; rw [hlen]⟩,q⟩
  ·subst e'
   obtain ⟨its,r',pl,hz⟩:=I.tuple hx
   have hlen:=r'.length
   exact len_tuple pl (by simp only [List.size_toArray]; lia) ⟨.int xs.length,H,I.tok _,⟨_,by simp only [List.size_toArray]; rw [hlen]⟩,q⟩
 | _=>exact (show False from e).elim
end
end L2
namespace L2
open PySem PySem.Spec PyProof.Rows
structure Gk (h:Heap) (x dx C:Addr) (mA:Str->Option Value):Prop where
 obj:h.get? x=some (PySem.W.instObj C dx)
 ns:h.Ns1 dx mA
 ne:dx≠x
theorem Jf {h:Heap} {dx:Addr} {mA:Str->Option Value} (n:h.Ns1 dx mA):∃ od,h.get? dx=some od/\∀ name,PySem.W.lookIn name od=some (mA name):=by
 obtain ⟨o,es,ep,ho,hd,hk,_,hm⟩:=n
 refine ⟨o,ho,fun name=>?_⟩
 have e:=hm name
 unfold nsFind findBy at e
 rw [<- Array.find?_toList] at e
 unfold PySem.W.lookIn
 rw [hd]
 dsimp only
 split
 ·rename_i y q
  rw [q] at e
  exact congrArg some e
 ·rename_i q
  rw [q] at e
  have a:es.toList.any (·.refKey)=false:=by
   rw [List.any_eq_false]
   intro y hy
   obtain ⟨z,t,hkey⟩:=hk y (Array.mem_toList_iff.mp hy)
   simp [DictEntry.refKey,hkey]
  have a':¬ es.toList.any (·.refKey)=true:=by rw [a]; exact Bool.false_ne_true
  rw [if_neg a']
  exact congrArg some e
theorem Gk.look {h:Heap} {x dx C:Addr} {mA:Str->Option Value} (I:Gk h x dx C mA):∃ od,PySem.W.InstAt h x (PySem.W.instObj C dx) C (some od)/\∀ name,PySem.W.lookIn name od=some (mA name) :=
 let ⟨od,ho,hl⟩:=Jf I.ns
 ⟨od,⟨I.obj,rfl,rfl,ho⟩,hl⟩
section
variable {prog:Program} {w:World} {A:Around} {E:Value->Shared->Prop} {s:Shared} {K:PySem.W.Frag} {x dx C f:Addr} {mA:Str->Option Value} {name:Str} {v:Value}
theorem get_map {expr:Bool} {Q:Value->Shared->Prop} (X:K.In s.heap) (I:Gk s.heap x dx C mA) (hg:PySem.W.plainGet K C name=true) (hh:PySem.W.hasDictIn K C=true)
  (ha:PySem.W.findIn K (.ref C) name=some none) (hv:mA name=some v) (hv':PySem.W.handedIn v=true) (h:Q v { s with toks:=s.toks + 1 }) :
  wpAny (model prog w) A (getAttr (.ref x) name expr) Q E s:=by
 obtain ⟨od,J,hl⟩:=I.look
 exact PySem.W.get_value X J (PySem.W.plainGet_of hg).1 (PySem.W.findObj_own hh ha rfl (by rw [hl,hv])) hv' h
theorem Om {pl:Sem Bool} {Q:Value×List Value->Shared->Prop} (X:K.In s.heap) (I:Gk s.heap x dx C mA) (hg:PySem.W.plainGet K C name=true)
  (hf:PySem.W.findIn K (.ref C) name=some (some (.ref f))) (ht:PySem.W.isFn K (.ref f)=true) (hv:mA name=none) (h:Q (.ref f,[.ref x]) s) :
  wpAny (model prog w) A (getMethod (.ref x) name pl) Q E s:=by
 obtain ⟨od,J,hl⟩:=I.look
 exact PySem.W.method_fn X J (PySem.W.plainGet_of hg).1 (PySem.W.plainGet_of hg).2 hf (beq_iff_eq.mp ht) (by show (PySem.W.lookIn name od).map (·.isSome)=some false; rw [hl,hv]; rfl) h
theorem QJ {ns:List Str} {Q:Unit->Shared->Prop} (X:K.In s.heap) (I:Gk s.heap x dx C mA)
  (hs:PySem.W.findIn K (.ref C) "__setattr__" = some (some (.builtin "object.__setattr__"))) (hp:PySem.W.plainOver K C=true) (ht:PySem.W.takerIn K C name=some none) (hh:PySem.W.hasDictIn K C=true)
  (hw:PySem.Within mA ns) (hsz:ns.length<=sizeLine)
  (h:∀ h',Gk h' x dx C (fun y=>if y=name then some v else mA y)->Heap.SameBut dx s.heap h'->Q () { s with heap:=h',toks:=s.toks + 2 }) :
  wpAny (model prog w) A (setAttr (.ref x) name v) Q E s:=by
 obtain ⟨od,J,hl⟩:=I.look
 refine PySem.W.set_plain X J hs (PySem.W.osa_open (s:={ s with toks:=s.toks + 1 }) (r:=none) X J hp ht fun b=>?_)
 obtain ⟨cd,hc,hd'⟩:=PySem.W.any_some hh
 have hx:s.heap.get? x=some ⟨.ref C,some dx,.plain,#[]⟩:=I.obj
 refine wpAny_bind (wpAny_pure (wpAny_bind (wpAny_bind (wpAny_loadPart hx (wpAny_bind (PySem.W.Looks.here (s:={ s with toks:=s.toks + 1 }) (PySem.W.looks_clsIn X hc) ?_))))))
 rw [hd']
 refine wpAny_pure (a:=some dx) (wpAny_bind (wpAny_pure (wpAny_bind ?_)))
 refine wpAny_nsSet1 (s:={ s with toks:=s.toks + 1 }) I.ns fun h' hn2 hs2=>?_
 obtain ⟨oD,esD,epD,hoD,hdD,hcD⟩:=hn2.count (PySem.Within.cons name v hw)
 refine wpAny_bind (wpAny_lookBehind hoD (by rw [hdD]; exact pastItsLine_dict (Nat.le_trans hcD (by rw [List.length_cons]; lia))) ?_)
 exact wpAny_pure (h _ ⟨(hs2.2 _ (Ne.symm I.ne)).trans I.obj,hn2,I.ne⟩ hs2)
theorem Ni {R:Result->Shared->Prop} {vs:List Value} {kw:List (Str×Value)} (X:K.In s.heap) (hm:PySem.W.makesIn K C=true)
  (hi:PySem.W.findIn K (.ref C) "__init__" = some (some (.ref f))) (hf:PySem.W.typeIn K (.ref f)=some (.type "function"))
  (h:codeAny (model prog w) (A.under (.builtin "type.__call__" ⟨.ref C :: vs,kw⟩)) (.call (.ref f) ⟨.ref (s.heap.objs.size + 1) :: vs,kw⟩) (PySem.W.InitBack (s.heap.objs.size + 1) R)
   { s with heap:=(s.heap.push PySem.W.emptyDict).push (PySem.W.instObj C s.heap.objs.size) }) :
  codeAny (model prog w) A (.call (.ref C) ⟨vs,kw⟩) R s:=by
 obtain ⟨hh,g,d,t,os⟩:=s
 exact PySem.W.make_core (PySem.W.makes_of X hm) (PySem.W.looks_findIn X hi) (fun self=>PySem.W.bind_fn X self hf) (.inl rfl) h
end
noncomputable def jc (f:Str) (v:V):List (Str×V)->List (Str×V)
 | []=>[(f,v)]
 | (g,x) :: r=>if g=f then (g,v) :: r else (g,x) :: jc f v r
theorem rD (f g:Str) (v:V):∀ fs:List (Str×V),(jc f v fs).lookup g=if g=f then some v else fs.lookup g
 | []=>by
  show List.lookup g [(f,v)]=_
  by_cases h:g=f
  ·have hb:(g == f)=true:=beq_iff_eq.mpr h
   simp only [List.lookup,hb,if_pos h]
  ·have hb:(g == f)=false:=beq_eq_false_iff_ne.mpr h
   simp only [List.lookup,hb,if_neg h]
 | (k,x) :: r=>by
  have ih:=rD f g v r
  rw [show jc f v ((k,x) :: r)=(if k=f then (k,v) :: r else (k,x) :: jc f v r) from rfl]
  by_cases hk:k=f
  ·rw [if_pos hk]
   by_cases h:g=k
   ·have hb:(g == k)=true:=beq_iff_eq.mpr h
    simp only [List.lookup,hb,if_pos (h.trans hk)]
   ·have hb:(g == k)=false:=beq_eq_false_iff_ne.mpr h
    simp only [List.lookup,hb,if_neg (fun e:g=f=>h (e.trans hk.symm))]
  ·rw [if_neg hk]
   by_cases h:g=k
   ·have hb:(g == k)=true:=beq_iff_eq.mpr h
    simp only [List.lookup,hb,if_neg (fun e:g=f=>hk (h.symm.trans e))]
   ·have hb:(g == k)=false:=beq_eq_false_iff_ne.mpr h
    simp only [List.lookup,hb]
    exact ih
theorem qz (f:Str) (v:V):∀ fs:List (Str×V),f∈(jc f v fs).map (·.1)/\∀ g,g∈fs.map (·.1)->g∈(jc f v fs).map (·.1)
 | []=>⟨by simp [jc],fun g h=>by simp at h⟩
 | (k,x) :: r=>by
  obtain ⟨i1,i2⟩:=qz f v r
  rw [show jc f v ((k,x) :: r)=(if k=f then (k,v) :: r else (k,x) :: jc f v r) from rfl]
  by_cases hk:k=f
  ·rw [if_pos hk]
   subst hk
   exact ⟨by simp,fun g h=>by simpa using h⟩
  ·rw [if_neg hk]
   refine ⟨?_,fun g h=>?_⟩
   ·rw [List.map_cons]
    exact List.mem_cons_of_mem _ i1
   ·rw [List.map_cons] at h ⊢
    rcases List.mem_cons.mp h with e | e
    ·exact List.mem_cons.mpr (.inl e)
    ·exact List.mem_cons_of_mem _ (i2 g e)
theorem rF (f:Str) (v:V):∀ fs:List (Str×V),(jc f v fs).length<=fs.length + 1
 | []=>by simp [jc]
 | (k,x) :: r=>by
  have ih:=rF f v r
  rw [show jc f v ((k,x) :: r)=(if k=f then (k,v) :: r else (k,x) :: jc f v r) from rfl]
  by_cases hk:k=f
  ·rw [if_pos hk,List.length_cons,List.length_cons]; lia
  ·rw [if_neg hk,List.length_cons,List.length_cons]; lia
theorem jP.some_of {v:V} {o:Option Value} (r:jP (some v) o):∃ u,o=some u/\RelV v u:=by
 cases o with
 | none=>exact (show False from r).elim
 | some u=>exact ⟨u,rfl,r⟩
theorem jP.none_of {o:Option Value} (r:jP none o):o=none:=by
 cases o with
 | none=>rfl
 | some u=>exact (show False from r).elim
theorem Jx {v:V} {u:Value} (r:RelV v u):PySem.W.handedIn u=true:=by
 cases v with
 | non=>cases (show u=Value.none from r); rfl
 | bl b=>cases (show u=Value.bool b from r); rfl
 | int i=>obtain ⟨t,e⟩:=(show ∃ t,u=Value.int i t from r); cases e; rfl
 | str x=>obtain ⟨t,e⟩:=(show ∃ t,u=Value.str x t from r); cases e; rfl
 | Uv b=>obtain ⟨t,e⟩:=(show ∃ t,u=Value.bytes b t from r); cases e; rfl
 | flt b=>obtain ⟨t,e⟩:=(show ∃ t,u=Value.float b t from r); cases e; rfl
 | ref a=>cases (show u=Value.ref a from r); rfl
 | ty n=>cases (show u=Value.type n from r); rfl
section
variable {P:Program} {w:World} {H H':Hp} {h h':Heap} {a C dx:Addr} {fs fs':List (Str×V)}
theorem tD (hok:mR P w H h) (e:H a=some (.ins C dx fs)):∃ mA,Gk h a dx C mA/\(∀ f,jP (fs.lookup f) (mA f))/\PySem.Within mA (fs.map (·.1))/\fs.length<=1000/\H dx=some (.own a):=by
 obtain ⟨d,z,ne,ob,mA,n,r,q⟩:=(show bR P w H h a (.ins C dx fs) from hok a _ e)
 exact ⟨mA,⟨ob,n,ne⟩,r,q,z,d⟩
end
structure Cls (K:PySem.W.Frag) (C:Addr):Prop where
 pg:PySem.W.plainGet K C Str.empty=true
 hd:PySem.W.hasDictIn K C=true
 po:PySem.W.plainOver K C=true
 sa:PySem.W.findIn K (.ref C) "__setattr__" = some (some (.builtin "object.__setattr__"))
theorem Cls.get {K:PySem.W.Frag} {C:Addr} (c:Cls K C) (f:Str):PySem.W.plainGet K C f=true:=c.pg
noncomputable def gw (K:PySem.W.Frag) (C:Addr) (f:Str):Prop:=PySem.W.findIn K (.ref C) f=some none
theorem gw.taker {K:PySem.W.Frag} {C:Addr} {f:Str} (n:gw K C f):PySem.W.takerIn K C f=some none:=by
 unfold PySem.W.takerIn
 rw [show PySem.W.findIn K (.ref C) f=some none from n]
 rfl
structure p8 (K:PySem.W.Frag) (C:Addr) (f:Str) (v:V) (u:Value):Prop where
 at_:PySem.W.findIn K (.ref C) f=some (some u)
 rel:RelV v u
 get:PySem.W.specialIn K u "__get__" = some none
 cp:PySem.W.copiedNames.contains f=false
structure Meth (K:PySem.W.Frag) (C:Addr) (m:Str) (f:Addr):Prop where
 at_:PySem.W.findIn K (.ref C) m=some (some (.ref f))
 fn:PySem.W.isFn K (.ref f)=true
 kp:PySem.W.keepIn K (.ref f)=true
section
variable {X:Cx} {pins:List (Addr×Obj)} {σ:St} {H:Hp} {s:Shared} {a C dx:Addr} {fs:List (Str×V)} {f:Str} {v:V} {A:Around} {E:Value->Shared->Prop}
theorem vM {b:Bool} {Q:Value->Shared->Prop} (I:Inv X pins σ H s) (e:H a=some (.ins C dx fs)) (c:Cls X.K C) (n:gw X.K C f) (l:fs.lookup f=some v)
  (h:∀ u s',Inv X pins σ H s'->RelV v u->Q u s'):wpAny (model X.prog X.w) A (getAttr (.ref a) f b) Q E s:=by
 obtain ⟨mA,O,r,_,_,_⟩:=tD I.hok e
 obtain ⟨u,hu,ru⟩:=jP.some_of (v:=v) (o:=mA f) (by rw [<- l]; exact r f)
 exact get_map I.qJ O (c.get f) c.hd n hu (Jx ru) (h u _ (I.tok _) ru)
theorem vL {m:Str} {g:Addr} {pl:Sem Bool} {Q:Value×List Value->Shared->Prop} (I:Inv X pins σ H s) (e:H a=some (.ins C dx fs)) (c:Cls X.K C) (k:Meth X.K C m g) (l:fs.lookup m=none)
  (h:Q (.ref g,[.ref a]) s):wpAny (model X.prog X.w) A (getMethod (.ref a) m pl) Q E s:=by
 obtain ⟨mA,O,r,_,_,_⟩:=tD I.hok e
 have hn:mA m=none:=jP.none_of (by rw [<- l]; exact r m)
 exact Om I.qJ O (c.get m) k.at_ k.fn hn h
theorem uD {y:V} {u:Value} {Q:Unit->Shared->Prop} (I:Inv X pins σ H s) (e:H a=some (.ins C dx fs)) (c:Cls X.K C) (n:gw X.K C f) (hl:fs.length < 1000) (ry:RelV y u)
  (h:∀ s',Inv X pins σ (upd H a (.ins C dx (jc f y fs))) s'->Q () s'):wpAny (model X.prog X.w) A (setAttr (.ref a) f u) Q E s:=by
 obtain ⟨mA,O,r,wi,_,ho⟩:=tD I.hok e
 have hz:(fs.map (·.1)).length<=sizeLine:=by rw [List.length_map,sizeLine_eq]; lia
 refine QJ I.qJ O c.sa c.po n.taker c.hd wi hz fun h' O' sb=>h _ ?_
 have hd:∃ o,h'.get? dx=some o:=let ⟨o,_,_,e',_⟩:=O'.ns; ⟨o,e'⟩
 refine I.write (x:=a) (e:=dx) (by rw [e]; exact True.intro) (.inr ho) (fun b q hb z=>(sb.2 b hb).trans z) hd ?_
 refine ⟨by rw [aL O.ne]; exact ho,?_,O.ne,O'.obj,_,O'.ns,fun g=>?_,fun g hg=>?_⟩
 ·have:=rF f y fs; lia
 ·show jP ((jc f y fs).lookup g) (if g=f then some u else mA g)
  rw [rD]
  by_cases q:g=f
  ·rw [if_pos q,if_pos q]; exact ry
  ·rw [if_neg q,if_neg q]; exact r g
 ·by_cases q:g=f
  ·rw [q]; exact (qz f y fs).1
  ·refine (qz f y fs).2 g (wi g fun z=>hg ?_)
   show (if g=f then some u else mA g)=none
   rw [if_neg q]; exact z
theorem Inv.made (I:Inv X pins σ H s):Inv X pins σ (upd (upd H s.heap.objs.size (.own (s.heap.objs.size + 1))) (s.heap.objs.size + 1) (.ins C s.heap.objs.size []))
  { s with heap:=(s.heap.push PySem.W.emptyDict).push (PySem.W.instObj C s.heap.objs.size) }:=by
 have e1:(s.heap.push PySem.W.emptyDict).get? s.heap.objs.size=some PySem.W.emptyDict:=Heap.get?_push_size s.heap rfl
 have e2:((s.heap.push PySem.W.emptyDict).push (PySem.W.instObj C s.heap.objs.size)).get? (s.heap.objs.size + 1)=some (PySem.W.instObj C s.heap.objs.size):=by
  have:=Heap.get?_push_size (s.heap.push PySem.W.emptyDict) (o:=PySem.W.instObj C s.heap.objs.size) rfl
  rwa [Heap.size_push] at this
 have e3:(s.heap.push PySem.W.emptyDict).Ns s.heap.objs.size (fun _=>none):=⟨PySem.W.emptyDict,#[],_,e1,rfl,(fun e he=>absurd he (by simp)),fun _=>rfl⟩
 have I1:=I.laid (a:=s.heap.objs.size) (o:=.own (s.heap.objs.size + 1)) (h':=s.heap.push PySem.W.emptyDict) (t':=s.toks) (fun b u q=>Heap.get?_push_of_some _ q) (Nat.le_refl _) ⟨_,e1⟩
 refine I1.laid (a:=s.heap.objs.size + 1) (o:=.ins C s.heap.objs.size []) (t':=s.toks) (fun b u q=>Heap.get?_push_of_some _ q) (Nat.le_of_eq (Heap.size_push _ _)) ?_
 have ne:s.heap.objs.size≠s.heap.objs.size + 1:=Nat.ne_of_lt (Nat.lt_succ_self _)
 refine ⟨by rw [aL ne,aN],Nat.zero_le _,ne,e2,fun _=>none,(Heap.Ns1.of_empty e3).at fun o q=>Heap.get?_push_of_some _ q,fun _=>True.intro,fun y hy=>absurd rfl hy⟩
theorem Tq {prog:Program} {w:World} {env:Env} {e:Expr} {f:Str} {pos:Pos} {s:Shared} {Q:Value->Shared->Prop} (hb:attributeBase e f env (eval e env)=eval e env)
  (h:wpAny (model prog w) A (eval e env) (fun o s₁=>wpAny (model prog w) A (getAttr o f true) Q E s₁) E s):wpAny (model prog w) A (eval (.Attribute e f pos) env) Q E s :=
 Attribute_any_ h (by rw [arm_eval_Attribute,hb])
end
noncomputable def abb (K:PySem.W.Frag) (ta:TE) (f:Str):TE:=fun σ H Q=>ta σ H fun x H1=>∃ a C dx fs v,x = .ref a/\H1 a=some (.ins C dx fs)/\Cls K C/\gw K C f/\fs.lookup f=some v/\Q v H1
noncomputable def abg (K:PySem.W.Frag) (ta tv:TE) (f:Str):TS:=fun D σ H=>tv σ H fun y H1=>ta σ H1 fun x H2=>∃ a C dx fs,x = .ref a/\H2 a=some (.ins C dx fs)/\Cls K C/\gw K C f/\fs.length < 1000 /\
 D.nx σ (upd H2 a (.ins C dx (jc f y fs)))
noncomputable def TV (X:Cx) (op:Operator) (rd:V->V->Hp->VK->Prop):Prop :=
 ∀ (pins:List (Addr×Obj)) (s:Shared) (σ:St) (H:Hp) (x y:V) (u v:Value) (Q:VK),Inv X pins σ H s->RelV x u->RelV y v->rd x y H Q->wpAny (model X.prog X.w) X.A (inplaceOp op u v) (EP X pins σ Q) X.xe s
noncomputable def QK (K:PySem.W.Frag) (ta tv:TE) (rd:V->V->Hp->VK->Prop) (f:Str):TS:=fun D σ H=>ta σ H fun x H1=>∃ a C dx fs v,x = .ref a/\H1 a=some (.ins C dx fs)/\Cls K C/\gw K C f/\fs.lookup f=some v /\
 tv σ H1 fun y H2=>rd v y H2 fun z H3=>∃ dx' fs',H3 a=some (.ins C dx' fs')/\fs'.length < 1000/\D.nx σ (upd H3 a (.ins C dx' (jc f z fs')))
section
variable {X:Cx} {o e value:Expr} {f:Str} {pos pos' tpos:Pos} {ta tv:TE}
theorem VR (he:PE X e ta) (hb:attributeBase e f X.env (eval e X.env)=eval e X.env):PE X (.Attribute e f pos) (abb X.K ta f):=by
 intro pins s σ H Q I h
 refine Tq hb (bG (he pins s σ H _ I h) fun u s1 ⟨x,H1,I1,rx,a,C,dx,fs,v,ex,ea,c,n,l,q⟩=>?_)
 subst ex
 obtain rfl:u=Value.ref a:=rx
 exact vM I1 ea c n l fun u' s2 I2 ru=>⟨v,H1,I2,ru,q⟩
theorem Vy (ha:PE X o ta) (hv:PE X value tv) (hs:swapsWith value (some (.Attribute o f pos')) pos.line X.env=pure false):PS X (.Assign [.Attribute o f pos'] value pos) (abg X.K ta tv f):=by
 intro pins s σ H D I h
 refine plainObj_wpAny_Assign_Attribute (bG (hv pins s σ H _ I h) fun u s1 ⟨y,H1,I1,ry,q⟩=>bG (ha pins s1 σ H1 _ I1 q) fun ov s2 ⟨x,H2,I2,rx,a,C,dx,fs,ex,ea,c,n,l,q2⟩=>?_) hs
 subst ex
 obtain rfl:ov=Value.ref a:=rx
 exact uD I2 ea c n l ry fun s3 I3=>⟨σ,_,I3,q2⟩
theorem Ip {op:Operator} {rd:V->V->Hp->VK->Prop} (ha:PE X o ta) (hv:PE X value tv) (hop:TV X op rd):PS X (.AugAssign (.Attribute o f tpos) op value pos) (QK X.K ta tv rd f):=by
 intro pins s σ H D I h
 refine wpAny_AugAssign_AttributeAny (bG (ha pins s σ H _ I h) fun ov s1 ⟨x,H1,I1,rx,a,C,dx,fs,v,ex,ea,c,n,l,q⟩=>?_)
 subst ex
 obtain rfl:ov=Value.ref a:=rx
 refine vM I1 ea c n l fun u s2 I2 ru=>bG (hv pins s2 σ H1 _ I2 q) fun w3 s3 ⟨y,H2,I3,ry,q3⟩=>bG (hop pins s3 σ H2 v y u w3 _ I3 ru ry q3) fun w4 s4 ⟨z,H3,I4,rz,dx',fs',wG,l',q4⟩=>?_
 exact uD I4 wG c n l' rz fun s5 I5=>⟨σ,_,I5,q4⟩
noncomputable def YF:V->V->Hp->VK->Prop:=fun x y H Q=>∃ i j,x = .int i/\y = .int j/\Q (.int (i + j)) H
noncomputable def YB:V->V->Hp->VK->Prop:=fun x y H Q=>∃ i j,x = .int i/\y = .int j/\Q (.int (i - j)) H
theorem WY:TV X .Add YF:=by
 rintro pins s σ H x y u v Q I rx ry ⟨i,j,rfl,rfl,q⟩
 obtain ⟨t,rfl⟩:=(show ∃ t,u=Value.int i t from rx)
 obtain ⟨t',rfl⟩:=(show ∃ t',v=Value.int j t' from ry)
 exact PyProof.Rows.iadd_int ⟨.int (i + j),H,I.tok _,⟨_,rfl⟩,q⟩
theorem WX:TV X .Sub YB:=by
 rintro pins s σ H x y u v Q I rx ry ⟨i,j,rfl,rfl,q⟩
 obtain ⟨t,rfl⟩:=(show ∃ t,u=Value.int i t from rx)
 obtain ⟨t',rfl⟩:=(show ∃ t',v=Value.int j t' from ry)
 exact PyProof.Rows.isub_int ⟨.int (i - j),H,I.tok _,⟨_,rfl⟩,q⟩
end
section
variable {X:Cx} {pins:List (Addr×Obj)} {σ:St} {H:Hp} {s:Shared} {A:Around} {E:Value->Shared->Prop} {Q:Value->Shared->Prop} {c:Value} {b:Bool}
inductive pX (K:PySem.W.Frag) (H:Hp):V->Value->Prop where
 | non:pX K H .non (.type "NoneType")
 | bl (x:Bool):pX K H (.bl x) (.type "bool")
 | int (i:Int):pX K H (.int i) (.type "int")
 | str (x:Str):pX K H (.str x) (.type "str")
 | flt (x:UInt64):pX K H (.flt x) (.type "float")
 | lst {a:Addr} {xs:List V} (e:H a=some (.lst xs)):pX K H (.ref a) (.type "list")
 | iz {a:Addr} {o:Obj} {xs:List V} (e:H a=some (.iz o (.lst xs))):pX K H (.ref a) (.type "list")
 | tup {a:Addr} {xs:List V} (e:H a=some (.tup xs)):pX K H (.ref a) (.type "tuple")
 | dK {a:Addr} {kvs:List (Key×V)} (e:H a=some (.dK kvs)):pX K H (.ref a) (.type "dict")
 | dT {a:Addr} {kvs:List (List Key×V)} (e:Rd H a (.dT kvs)):pX K H (.ref a) (.type "dict")
 | ins {a C dx:Addr} {fs:List (Str×V)} (e:H a=some (.ins C dx fs)) (cl:Cls K C) (ha:PySem.W.findIn K (.ref C) "__class__" = some (some (.builtin "object.__class__")))
   (hn:PySem.W.specialIn K (.builtin "object.__class__") "__get__" = some (some (.builtin "getset_descriptor.__get__"))) (htk:PySem.W.takesIn K (.builtin "object.__class__")=some true)
   (hm:PySem.W.mroIn K C (.type "object")=some true):pX K H (.ref a) (.ref C)
theorem Jp {x:V} {u t:Value} (I:Inv X pins σ H s) (rx:RelV x u) (ty:pX X.K H x t) (e:PySem.W.kitOne X.K t c=some b) (h:∀ tk,Q (.bool b) { s with toks:=tk }) :
  wpAny (model X.prog X.w) A (call (.builtin "isinstance") [u,c]) Q E s:=by
 cases ty with
 | non=>cases (show u=Value.none from rx); exact PySem.W.kia_one PySem.W.kitx_none I.qJ True.intro e (fun z=>nomatch z) h
 | bl y=>cases (show u=Value.bool y from rx); exact PySem.W.kia_one PySem.W.kitx_bool I.qJ True.intro e (fun z=>nomatch z) h
 | int i=>obtain ⟨t,q⟩:=(show ∃ t,u=Value.int i t from rx); cases q; exact PySem.W.kia_one PySem.W.kitx_int I.qJ True.intro e (fun z=>nomatch z) h
 | str y=>obtain ⟨t,q⟩:=(show ∃ t,u=Value.str y t from rx); cases q; exact PySem.W.kia_one PySem.W.kitx_str I.qJ True.intro e (fun z=>nomatch z) h
 | flt y=>obtain ⟨t,q⟩:=(show ∃ t,u=Value.float y t from rx); cases q; exact PySem.W.kia_one PySem.W.kitx_float I.qJ True.intro e (fun z=>nomatch z) h
 | @lst a xs ea =>
  cases (show u=Value.ref a from rx)
  obtain ⟨_,_,n,_,h1⟩:=(show bR X.prog X.w H s.heap a (.lst xs) from I.hok a _ ea)
  exact PySem.W.kia_one PySem.W.kitx_list I.qJ ⟨_,h1,rfl⟩ e (fun z=>nomatch z) h
 | @iz a ob xs ea =>
  cases (show u=Value.ref a from rx)
  obtain ⟨_,_,_,n,_,h1⟩:=(show bR X.prog X.w H s.heap a (.iz ob (.lst xs)) from I.hok a _ ea)
  exact PySem.W.kia_one PySem.W.kitx_list I.qJ ⟨_,h1,rfl⟩ e (fun z=>nomatch z) h
 | @tup a xs ea =>
  cases (show u=Value.ref a from rx)
  obtain ⟨_,_,_,p⟩:=(show bR X.prog X.w H s.heap a (.tup xs) from I.hok a _ ea)
  obtain ⟨o,h1,h2,_⟩:=p
  exact PySem.W.kia_one PySem.W.kitx_tuple I.qJ ⟨o,h1,h2⟩ e (fun z=>nomatch z) h
 | @dK a kvs ea =>
  cases (show u=Value.ref a from rx)
  obtain ⟨_,_,vs,_,p⟩:=(show bR X.prog X.w H s.heap a (.dK kvs) from I.hok a _ ea)
  obtain ⟨o,es,ep,h1,h2,_⟩:=p
  exact PySem.W.kia_one PySem.W.kitx_dict I.qJ ⟨o,h1,h2.1⟩ e (fun z=>nomatch z) h
 | @dT a kvs ea =>
  cases (show u=Value.ref a from rx)
  obtain ⟨_,_,xs,_,o,es,ep,h1,h2,_⟩:=(show bR X.prog X.w H s.heap a (.dT kvs) from ea.ok I.hok)
  exact PySem.W.kia_one PySem.W.kitx_dict I.qJ ⟨o,h1,h2.1⟩ e (fun z=>nomatch z) h
 | @ins a C dx fs ea cl ha hn htk hm =>
  cases (show u=Value.ref a from rx)
  obtain ⟨mA,O,_⟩:=tD I.hok ea
  obtain ⟨od,J,_⟩:=O.look
  exact PySem.W.kia_one (PySem.W.kitx_own (cl.get _) cl.hd ha hn htk hm) I.qJ J e (fun z=>nomatch z) h
end
end L2
namespace L2
open PySem PySem.Spec PyProof.Rows
structure bM (k:Nat) (A:Around):Prop where
 hd:16<=k->A.handled=none
 dp:A.depth + 3 * k + 5 < recursionLimit
 un:A.units + 16 * k + 200 < cLine
 gd:A.guards=some []
theorem bM.mono {j k:Nat} {A:Around} (r:bM k A) (h:j<=k):bM j A:=⟨fun z=>r.hd (Nat.le_trans z h),by have:=r.dp; lia,by have:=r.un; lia,r.gd⟩
theorem bM.deeper {k:Nat} {A:Around} (r:bM (k + 1) A) (env:Env):bM k (A.deeper env) :=
 ⟨fun z=>r.hd (Nat.le_succ_of_le z),by have:=r.dp; show A.depth + 1 + 3 * k + 5 < _; lia,by have:=r.un; show A.units + 3 + 16 * k + 200 < _; lia,r.gd⟩
theorem bM.in1 {k:Nat} {A:Around} (r:bM (k + 1) A):bM k A.in1 :=
 ⟨fun z=>r.hd (Nat.le_succ_of_le z),by have:=r.dp; show A.depth + 3 * k + 5 < _; lia,by have:=r.un; show A.units + 1 + 16 * k + 200 < _; lia,r.gd⟩
theorem Fb {A:Around} {C:Addr} {us:List Value} {kw:List (Str×Value)}:(A.under (.builtin "type.__call__" ⟨.ref C :: us,kw⟩)).depth=A.depth + 1:=by
 first | rfl | simp [Around.under,Code.weight,Code.isCreation,Code.isGuard,Code.isCaller,Code.frames,Code.isFrame,guardIds]
theorem EY {A:Around} {C:Addr} {us:List Value} {kw:List (Str×Value)}:(A.under (.builtin "type.__call__" ⟨.ref C :: us,kw⟩)).units=A.units + 1:=by
 first | rfl | simp [Around.under,Code.cUnits,Code.frames,Code.isFrame]
theorem bM.make {k:Nat} {A:Around} (r:bM (k + 1) A) (C:Addr) (us:List Value) (kw:List (Str×Value)):bM k (A.under (.builtin "type.__call__" ⟨.ref C :: us,kw⟩)) :=
 ⟨fun z=>r.hd (Nat.le_succ_of_le z),by have:=r.dp; rw [Fb]; lia,by have:=r.un; rw [EY]; lia,r.gd⟩
theorem bM.depth {k:Nat} {A:Around} (r:bM k A):A.depth < recursionLimit:=by have:=r.dp; lia
theorem bM.units {k:Nat} {A:Around} (r:bM k A):A.units + 64 < cLine:=by have:=r.un; lia
noncomputable def Bh:TA:=fun _ H Q=>Q [] H
noncomputable def xG (ta:TE) (tr:TA):TA:=fun σ H Q=>ta σ H fun x H1=>tr σ H1 fun xs H2=>Q (x :: xs) H2
section
variable {X:Cx} {e:Expr} {es:List Expr} {te:TE} {t:TA} {pos:Pos}
theorem uO:PA X [] Bh:=fun _ _ _ _ H Q I h=>Calls.spliced_nil ⟨[],H,I,.nil,h⟩
theorem jE (ha:PE X e te) (hr:PA X es t) (hs:starEach (e :: es) X.env=(false,eval e X.env) :: starEach es X.env:=by rfl):PA X (e :: es) (xG te t):=by
 intro pos pins s σ H Q I h
 rw [hs]
 show wpAny _ _ (spliced ((false,eval e X.env) :: backTo pos (starEach es X.env))) _ _ s
 refine Calls.spliced_cons (bG (ha pins s σ H _ I h) fun u s1 ⟨x,H1,I1,r1,q1⟩=>?_)
 exact bG (hr pos pins s1 σ H1 _ I1 q1) fun us s2 ⟨xs,H2,I2,r2,q2⟩=>⟨x :: xs,H2,I2,.cons r1 r2,q2⟩
noncomputable def aa3 (t:TA):TE:=fun σ H Q=>t σ H fun xs H1=>xs.length<=sizeLine/\∀ p,H1 p=none->Q (.ref p) (upd H1 p (.tup xs))
noncomputable def aa7 (t:TA):TE:=fun σ H Q=>t σ H fun xs H1=>xs.length<=sizeLine/\∀ p,H1 p=none->Q (.ref p) (upd H1 p (.lst xs))
theorem VF {x1} (h:PA X es t):PE X (.Tuple es x1 pos) (aa3 t):=by
 intro pins s σ H Q I hq
 refine wpAny_Tuple_spliced (bG (h pos pins s σ H _ I hq) fun us s1 ⟨xs,H1,I1,r,z,q⟩=>⟨by rw [<- r.length]; exact z,?_⟩)
 have hf:H1 s1.heap.objs.size=none:=I1.hok.fresh (Nat.le_refl _)
 refine ⟨.ref s1.heap.objs.size,upd H1 s1.heap.objs.size (.tup xs),I1.laid (t':=s1.toks) (fun b u e=>Heap.get?_push_of_some _ e) (Nat.le_refl _) ?_,rfl,q _ hf⟩
 exact ⟨z,us,r,⟨_,Heap.get?_push_size _ rfl,rfl,_,rfl,rfl⟩⟩
theorem VN (h:PA X es t):PE X (.List es pos) (aa7 t):=by
 intro pins s σ H Q I hq
 refine wpAny_List_spliced (bG (h pos pins s σ H _ I hq) fun us s1 ⟨xs,H1,I1,r,z,q⟩=>⟨by rw [<- r.length]; exact z,?_⟩)
 have hf:H1 s1.heap.objs.size=none:=I1.hok.fresh (Nat.le_refl _)
 refine ⟨.ref s1.heap.objs.size,upd H1 s1.heap.objs.size (.lst xs),I1.laid (t':=s1.toks) (fun b u e=>Heap.get?_push_of_some _ e) (Nat.le_refl _) ?_,rfl,q _ hf⟩
 exact ⟨z,us,0,r,Heap.get?_push_size _ rfl⟩
end
noncomputable abbrev Sp:=List V->Hp->VK->XK->Prop
noncomputable abbrev HS:=List Env->Hp->Shared->XK->Value->Shared->Prop
structure wZ (P:Program) (w:World) (K:PySem.W.Frag) (mg:Str->Option Value) (base:Heap) (A:Around) (outer:List Env) (s:Shared) (H:Hp):Prop where
 frames:A.frames=some outer
 mod:Mod K mg base
 bs:∀ b o,base.get? b=some o->s.heap.get? b=some o/\H b=none
 Pb:base.objs.size<=s.heap.objs.size
 qM:s.heap.FunFrames base outer
 Ur:∀ b∈frs outer,H b=none
 hok:mR P w H s.heap
 bare:AllBare s.gens
 hh:Gm A H
noncomputable def CE (outer:List Env) (P:Program) (w:World) (H:Hp) (s:Shared) (Q:VK) (u:Value) (s':Shared):Prop :=
 ∃ v H',s'.os=s.os/\AllBare s'.gens/\Un (frs outer) [] H H' s.heap s'.heap/\mR P w H' s'.heap/\RelV v u/\Q v H'
noncomputable def CR (CX:HS) (outer:List Env) (P:Program) (w:World) (H:Hp) (s:Shared) (Q:VK) (E:XK) (r:Result) (s':Shared):Prop :=
 match r with
 | .ok (.ret u)=>CE outer P w H s Q u s'
 | .ok _=>False
 | .error e=>CX outer H s E e s'
structure cD (P:Program) (w:World) (K:PySem.W.Frag) (mg:Str->Option Value) (base:Heap) (CX:HS) (k:Nat) (f:Addr) (fd:FuncData) (ps:List Str) (sp:Sp):Prop where
 len:∀ vs H Q E,sp vs H Q E->vs.length=ps.length
 run:∀ (A:Around) (outer:List Env) (s:Shared) (H:Hp) (args:Args) (us:List Value) (vs:List V) (Q:VK) (E:XK),bM k A->wZ P w K mg base A outer s H->BindsTo s fd args (ps.zip us)->Vals vs us->sp vs H Q E ->
  codeAny (model P w) A (.call (.ref f) args) (CR CX outer P w H s Q E) s
theorem cD.mono {P:Program} {w:World} {K:PySem.W.Frag} {mg:Str->Option Value} {base:Heap} {CX:HS} {j k:Nat} {f:Addr} {fd:FuncData} {ps:List Str} {sp:Sp} (F:cD P w K mg base CX j f fd ps sp) (h:j<=k) :
  cD P w K mg base CX k f fd ps sp:=⟨F.len,fun A outer s H args us vs Q E hr=>F.run A outer s H args us vs Q E (hr.mono h)⟩
theorem cD.imp {P:Program} {w:World} {K:PySem.W.Frag} {mg:Str->Option Value} {base:Heap} {CX:HS} {k:Nat} {f:Addr} {fd:FuncData} {ps:List Str} {sp Du:Sp} (F:cD P w K mg base CX k f fd ps sp)
  (h:∀ vs H Q E,Du vs H Q E->sp vs H Q E):cD P w K mg base CX k f fd ps Du :=
 ⟨fun vs H Q E q=>F.len vs H Q E (h _ _ _ _ q),fun A outer s H args us vs Q E hr he hb hv hs=>F.run A outer s H args us vs Q E hr he hb hv (h _ _ _ _ hs)⟩
theorem wZ.make {P:Program} {w:World} {K:PySem.W.Frag} {mg:Str->Option Value} {base:Heap} {A:Around} {outer:List Env} {s:Shared} {H:Hp} (e:wZ P w K mg base A outer s H) (C:Addr) (us:List Value) (kw:List (Str×Value)) :
  wZ P w K mg base (A.under (.builtin "type.__call__" ⟨.ref C :: us,kw⟩)) outer s H:=⟨by first | exact e.frames | (simpa [Around.under,Code.envs,Code.isFrame,pushEnvs] using e.frames),e.mod,e.bs,e.Pb,e.qM,e.Ur,e.hok,e.bare,e.hh⟩
theorem wZ.in1 {P:Program} {w:World} {K:PySem.W.Frag} {mg:Str->Option Value} {base:Heap} {A:Around} {outer:List Env} {s:Shared} {H:Hp} (e:wZ P w K mg base A outer s H) :
  wZ P w K mg base A.in1 outer s H:=⟨e.frames,e.mod,e.bs,e.Pb,e.qM,e.Ur,e.hok,e.bare,e.hh⟩
section
variable {X:Cx} {pins:List (Addr×Obj)} {σ:St} {H:Hp} {s s':Shared}
theorem Inv.env0 (I:Inv X pins σ H s):wZ X.prog X.w X.K X.mg X.base X.A X.stack s H :=
 ⟨I.ok.frames,I.ok.mod,I.bs,Nat.le_trans I.ok.Pb I.sz,I.stack,I.Gx,I.hok,I.bare,I.hh⟩
theorem Inv.after {Q:VK} {u:Value} (I:Inv X pins σ H s) (h:CE X.stack X.prog X.w H s Q u s'):EP X pins σ Q u s':=by
 obtain ⟨v,H',os,bare,un,hok,r,q⟩:=h
 obtain ⟨hh,g,d,t,os'⟩:=s'
 obtain rfl:os'=s.os:=os
 exact ⟨v,H',I.call (h':=hh) (g':=g) (d':=d) (t':=t) (ch:=[]) un hok bare (fun b z=>absurd z (by simp)),r,q⟩
end
noncomputable def T4 (sp:Sp) (rQ:List V) (E:XK) (t:TA):TE:=fun σ H Q=>t σ H fun vs H1=>sp (vs ++ rQ) H1 Q E
noncomputable def Gv (C:Addr) (m:Str) (sp:Sp) (rQ:List V) (E:XK) (ta:TE) (t:TA):TE:=fun σ H Q=>ta σ H fun x H1=>∃ a dx fs,x = .ref a/\H1 a=some (.ins C dx fs)/\fs.lookup m=none /\
 t σ H1 fun vs H2=>sp (x :: (vs ++ rQ)) H2 Q E
noncomputable def T3 (C:Addr) (sp:Sp) (rQ:List V) (E:XK) (t:TA):TE:=fun σ H Q=>t σ H fun vs H1=>∀ x dx,H1 x=none->H1 dx=none->dx≠x ->
 sp (.ref x :: (vs ++ rQ)) (upd (upd H1 dx (.own x)) x (.ins C dx [])) (fun v H2=>v = .non/\Q (.ref x) H2) E
noncomputable def Binds (K:PySem.W.Frag) (fd:FuncData) (ps:List Str) (ds:List Value):Prop :=
 ∀ (s:Shared) (us:List Value),K.In s.heap->(us ++ ds).length=ps.length->BindsTo s fd ⟨us,[]⟩ (ps.zip (us ++ ds))
theorem Binds.all {K:PySem.W.Frag} {fd:FuncData} {ps:List Str} (h:∀ us:List Value,us.length=ps.length->bindArgs fd ⟨us,[]⟩=pure (ps.zip us)):Binds K fd ps []:=fun s us _ hl=>by
 rw [List.append_nil] at hl ⊢
 exact .of_eq (h us hl)
noncomputable def Passes (CX:HS) (X:Cx) (E:XK):Prop:=∀ (pins:List (Addr×Obj)) (σ:St) (H:Hp) (s:Shared) (e:Value) (s':Shared),Inv X pins σ H s->CX X.stack H s E e s'->X.xe e s'
section
variable {X:Cx} {CX:HS} {k:Nat} {f C:Addr} {fd:FuncData} {ps:List Str} {sp:Sp} {rQ:List V} {ds:List Value} {E:XK} {x m:Str} {p pos apos:Pos} {e o:Expr} {es:List Expr} {ta:TE} {t:TA}
theorem yO {pins:List (Addr×Obj)} {σ:St} {H:Hp} {s:Shared} {Q:VK} {us:List Value} {vs:List V} (F:cD X.prog X.w X.K X.mg X.base CX k f fd ps sp) (hr:bM k X.A) (hb:Binds X.K fd ps ds) (hd:Vals rQ ds) (hx:Passes CX X E)
  (I:Inv X pins σ H s) (r:Vals vs us) (h:sp (vs ++ rQ) H Q E):wpAny (model X.prog X.w) X.A (call (.ref f) us) (EP X pins σ Q) X.xe s:=by
 have r2:Vals (vs ++ rQ) (us ++ ds):=r.append hd
 have hl:(us ++ ds).length=ps.length:=by rw [<- r2.length]; exact F.len _ _ _ _ h
 refine wpAny_call (codeAny_mono (F.run X.A X.stack s H ⟨us,[]⟩ (us ++ ds) (vs ++ rQ) Q E hr I.env0 (hb s us I.qJ hl) r2 h) fun r s' hq=>?_)
 cases r with
 | error e=>exact hx pins σ H s e s' I hq
 | ok fl =>
  cases fl with
  | ret u=>exact I.after hq
  | next=>exact False.elim hq
  | brk=>exact False.elim hq
  | cont=>exact False.elim hq
theorem Ru (F:cD X.prog X.w X.K X.mg X.base CX k f fd ps sp) (hr:bM k X.A) (hg:Gl X x) (hm:X.mg x=some (.ref f)) (hk:PySem.W.keepIn X.K (.ref f)=true) (hb:Binds X.K fd ps ds) (hd:Vals rQ ds) (hx:Passes CX X E)
  (ha:PA X (e :: es) t) (hdb:(x == ("__debug__" : Str))=false:=by decide) (he:starEach (e :: es) X.env=(false,eval e X.env) :: starEach es X.env:=by rfl) (hpl:(backTo pos (starEach es X.env)).any (·.1)=false:=by rfl) :
  PE X (.Call (.Name x p) (e :: es) [] pos) (T4 sp rQ E t):=by
 intro pins s σ H Q I h
 refine wpAny_Call_Name_kw (s8 I hg hm ?_ hdb)
 refine PySem.W.callWith_K (h₀:=X.base) I.ok.mod.Ze hk (bG (ha pos pins s σ H _ I h) fun us s1 ⟨vs,H1,I1,r,q⟩=>⟨I1.qJ,?_⟩) he hpl
 exact yO F hr hb hd hx I1 r q
theorem Ms (F:cD X.prog X.w X.K X.mg X.base CX k f fd ps sp) (hr:bM k X.A) (hg:Gl X x) (hm:X.mg x=some (.ref f)) (hk:PySem.W.keepIn X.K (.ref f)=true) (hb:Binds X.K fd ps ds) (hd:Vals rQ ds) (hx:Passes CX X E)
  (hdb:(x == ("__debug__" : Str))=false:=by decide):PE X (.Call (.Name x p) [] [] pos) (T4 sp rQ E Bh):=by
 intro pins s σ H Q I h
 refine wpAny_Call_Name_kw (s8 I hg hm ?_ hdb)
 exact PySem.W.callWith_K0 I.qJ hk (yO (us:=[]) F hr hb hd hx I .nil h)
theorem Rj {pl:Sem Bool} (he:PE X o ta) (c:Cls X.K C) (hm:Meth X.K C m f) (F:cD X.prog X.w X.K X.mg X.base CX k f fd ps sp) (hr:bM k X.A) (hb:Binds X.K fd ps ds) (hd:Vals rQ ds) (hx:Passes CX X E) (ha:PA X (e :: es) t)
  (hst:starEach (e :: es) X.env=(false,eval e X.env) :: starEach es X.env:=by rfl) (hpl:(backTo pos (starEach es X.env)).any (·.1)=false:=by rfl)
  (ht:eval (.Call (.Attribute o m apos) (e :: es) [] pos) X.env=(do
   let ov <- eval o X.env
   standAt apos.atName
   let (f,first) <- holding [ov] (getMethod ov m pl)
   callWith pos f first (backTo pos (starEach (e :: es) X.env)) (backToKw pos (keywordEach [] X.env))):=by rfl) :
  PE X (.Call (.Attribute o m apos) (e :: es) [] pos) (Gv C m sp rQ E ta t):=by
 intro pins s σ H Q I h
 refine PySem.W.methodCall_KW (pl:=pl) (bG (he pins s σ H _ I h) fun u s1 ⟨x,H1,I1,rx,a,dx,fs,ex,ea,l,q⟩=>?_) ht
 subst ex
 obtain rfl:u=Value.ref a:=rx
 refine vL I1 ea c hm l ?_
 refine PySem.W.callWith_K (first:=[.ref a]) (h₀:=X.base) I.ok.mod.Ze hm.kp (bG (ha pos pins s1 σ H1 _ I1 q) fun us s2 ⟨vs,H2,I2,r,q2⟩=>⟨I2.qJ,?_⟩) hst hpl
 exact yO (us:=.ref a :: us) (vs:=.ref a :: vs) F hr hb hd hx I2 (.cons rfl r) q2
theorem LR {pl:Sem Bool} (he:PE X o ta) (c:Cls X.K C) (hm:Meth X.K C m f) (F:cD X.prog X.w X.K X.mg X.base CX k f fd ps sp) (hr:bM k X.A) (hb:Binds X.K fd ps ds) (hd:Vals rQ ds) (hx:Passes CX X E)
  (ht:eval (.Call (.Attribute o m apos) [] [] pos) X.env=(do
   let ov <- eval o X.env
   standAt apos.atName
   let (f,first) <- holding [ov] (getMethod ov m pl)
   callWith pos f first (backTo pos (starEach [] X.env)) (backToKw pos (keywordEach [] X.env))):=by rfl) :
  PE X (.Call (.Attribute o m apos) [] [] pos) (Gv C m sp rQ E ta Bh):=by
 intro pins s σ H Q I h
 refine PySem.W.methodCall_KW (pl:=pl) (bG (he pins s σ H _ I h) fun u s1 ⟨x,H1,I1,rx,a,dx,fs,ex,ea,l,q⟩=>?_) ht
 subst ex
 obtain rfl:u=Value.ref a:=rx
 refine vL I1 ea c hm l ?_
 exact PySem.W.callWith_K0 (first:=[.ref a]) I1.qJ hm.kp (yO (us:=[.ref a]) (vs:=[.ref a]) F hr hb hd hx I1 (.cons rfl .nil) q)
structure Mk (K:PySem.W.Frag) (C f:Addr):Prop where
 makes:PySem.W.makesIn K C=true
 init:PySem.W.findIn K (.ref C) "__init__" = some (some (.ref f))
 fn:PySem.W.isFn K (.ref f)=true
 kp:PySem.W.keepIn K (.ref C)=true
theorem Bu {pins:List (Addr×Obj)} {σ:St} {H:Hp} {s:Shared} {Q:VK} {us:List Value} {vs:List V} (M:Mk X.K C f) (F:cD X.prog X.w X.K X.mg X.base CX k f fd ps sp) (hr:bM (k + 1) X.A) (hb:Binds X.K fd ps ds) (hd:Vals rQ ds)
  (hx:Passes CX X E) (I:Inv X pins σ H s) (r:Vals vs us)
  (h:∀ x dx,H x=none->H dx=none->dx≠x->sp (.ref x :: (vs ++ rQ)) (upd (upd H dx (.own x)) x (.ins C dx [])) (fun v H2=>v = .non/\Q (.ref x) H2) E) :
  wpAny (model X.prog X.w) X.A (call (.ref C) us) (EP X pins σ Q) X.xe s:=by
 have hq:=h (s.heap.objs.size + 1) s.heap.objs.size (I.hok.fresh (Nat.le_succ _)) (I.hok.fresh (Nat.le_refl _)) (Nat.ne_of_lt (Nat.lt_succ_self _))
 have I2:=Inv.made (C:=C) I
 have r2:Vals (V.ref (s.heap.objs.size + 1) :: (vs ++ rQ)) (Value.ref (s.heap.objs.size + 1) :: (us ++ ds)):=.cons rfl (r.append hd)
 have hl:(Value.ref (s.heap.objs.size + 1) :: us ++ ds).length=ps.length:=by
  have e:=r2.length
  rw [F.len _ _ _ _ hq] at e
  exact e.symm
 refine wpAny_call (Ni (f:=f) I.qJ M.makes M.init (beq_iff_eq.mp M.fn) (codeAny_mono (F.run _ X.stack _ _ ⟨Value.ref (s.heap.objs.size + 1) :: us,[]⟩ (Value.ref (s.heap.objs.size + 1) :: (us ++ ds)) _ _ E (hr.make C us [])
  (I2.env0.make C us []) (hb _ (Value.ref (s.heap.objs.size + 1) :: us) I2.qJ hl) r2 hq) fun r s' hq'=>?_))
 cases r with
 | error e=>exact hx pins σ _ _ e s' I2 hq'
 | ok fl =>
  cases fl with
  | ret u =>
   obtain ⟨v,H',I3,rv,ev,q3⟩:=I2.after hq'
   subst ev
   exact ⟨rv,⟨V.ref (s.heap.objs.size + 1),H',I3,rfl,q3⟩⟩
  | next=>exact False.elim hq'
  | brk=>exact False.elim hq'
  | cont=>exact False.elim hq'
theorem Rk (M:Mk X.K C f) (F:cD X.prog X.w X.K X.mg X.base CX k f fd ps sp) (hr:bM (k + 1) X.A) (hg:Gl X x) (hm:X.mg x=some (.ref C)) (hb:Binds X.K fd ps ds) (hd:Vals rQ ds) (hx:Passes CX X E)
  (ha:PA X (e :: es) t) (hdb:(x == ("__debug__" : Str))=false:=by decide) (he:starEach (e :: es) X.env=(false,eval e X.env) :: starEach es X.env:=by rfl) (hpl:(backTo pos (starEach es X.env)).any (·.1)=false:=by rfl) :
  PE X (.Call (.Name x p) (e :: es) [] pos) (T3 C sp rQ E t):=by
 intro pins s σ H Q I h
 refine wpAny_Call_Name_kw (s8 I hg hm ?_ hdb)
 refine PySem.W.callWith_K (h₀:=X.base) I.ok.mod.Ze M.kp (bG (ha pos pins s σ H _ I h) fun us s1 ⟨vs,H1,I1,r,q⟩=>⟨I1.qJ,?_⟩) he hpl
 exact Bu M F hr hb hd hx I1 r q
theorem Ma (M:Mk X.K C f) (F:cD X.prog X.w X.K X.mg X.base CX k f fd ps sp) (hr:bM (k + 1) X.A) (hg:Gl X x) (hm:X.mg x=some (.ref C)) (hb:Binds X.K fd ps ds) (hd:Vals rQ ds) (hx:Passes CX X E)
  (hdb:(x == ("__debug__" : Str))=false:=by decide):PE X (.Call (.Name x p) [] [] pos) (T3 C sp rQ E Bh):=by
 intro pins s σ H Q I h
 refine wpAny_Call_Name_kw (s8 I hg hm ?_ hdb)
 exact PySem.W.callWith_K0 I.qJ M.kp (Bu (us:=[]) M F hr hb hd hx I .nil h)
end
section
variable {X:Cx} {CX:HS} {k:Nat} {f C:Addr} {fd:FuncData} {ps ks:List Str} {sp:Sp} {E:XK} {x m:Str} {p pos apos kpos:Pos} {e o:Expr} {es:List Expr} {kws:List Keyword} {te ta:TE} {t tk:TA} {nm:Option Str}
variable {g:List Value->List Value->List Value} {gV:List V->List V->List V}
end
structure dz (N P:List Str) (sc:Scope):Prop where
 kind:sc.kind = .function
 co:sc.isCoroutine=false
 gen:sc.isGenerator=false
 nd:N.Nodup
 pre:N.take P.length=P
 par:∀ x∈P,sc.names.lookup x=some .local∨sc.names.lookup x=some .cell
 Wa:∀ y∈sc.names,y.2≠.free
theorem yt {kindOf:Str->Option NameKind} {x:Str}:∀ {binds:List (Str×Value)} {m:Str->Option Value},(∀ v,(x,v) ∉ binds)->bindL kindOf binds m x=m x
 | [],_,_=>rfl
 | (n,v) :: r,m,h=>by
  unfold bindL
  rw [yt fun w hw=>h w (List.mem_cons_of_mem _ hw)]
  split
  ·have:x≠n:=by rintro rfl; exact h v List.mem_cons_self
   simp [this]
  ·rfl
theorem yw {kindOf:Str->Option NameKind} {x:Str}:∀ {binds:List (Str×Value)} {m:Str->Option Value},(∀ v,(x,v) ∉ binds)->bindC kindOf binds m x=m x
 | [],_,_=>rfl
 | (n,v) :: r,m,h=>by
  unfold bindC
  rw [yw fun w hw=>h w (List.mem_cons_of_mem _ hw)]
  split
  ·rfl
  ·have:x≠n:=by rintro rfl; exact h v List.mem_cons_self
   simp [this]
theorem yu {kindOf:Str->Option NameKind} {x:Str} {v:Value}:∀ {P:List Str} {vs:List Value} {i:Nat} {m:Str->Option Value},P.Nodup->P[i]? = some x->vs[i]? = some v->kindOf x=some .local ->
  bindL kindOf (P.zip vs) m x=some v
 | [],_,_,_,_,h,_,_=>by simp at h
 | _ :: _,[],_,_,_,_,h,_=>by simp at h
 | p :: P,w :: vs,0,m,nd,h1,h2,hk=>by
  simp at h1 h2; subst h1; subst h2
  show bindL kindOf ((p,w) :: P.zip vs) m p=_
  unfold bindL
  rw [yt fun v hv=>(List.nodup_cons.mp nd).1 (List.of_mem_zip hv).1,if_pos hk]
  simp
 | p :: P,w :: vs,i + 1,m,nd,h1,h2,hk=>by
  show bindL kindOf ((p,w) :: P.zip vs) m x=_
  unfold bindL
  exact yu (i:=i) (List.nodup_cons.mp nd).2 (by simpa using h1) (by simpa using h2) hk
theorem yC {kindOf:Str->Option NameKind} {x:Str} {v:Value}:∀ {P:List Str} {vs:List Value} {i:Nat} {m:Str->Option Value},P.Nodup->P[i]? = some x->vs[i]? = some v->kindOf x≠some .local ->
  bindC kindOf (P.zip vs) m x=some v
 | [],_,_,_,_,h,_,_=>by simp at h
 | _ :: _,[],_,_,_,_,h,_=>by simp at h
 | p :: P,w :: vs,0,m,nd,h1,h2,hk=>by
  simp at h1 h2; subst h1; subst h2
  show bindC kindOf ((p,w) :: P.zip vs) m p=_
  unfold bindC
  rw [yw fun v hv=>(List.nodup_cons.mp nd).1 (List.of_mem_zip hv).1,if_neg hk]
  simp
 | p :: P,w :: vs,i + 1,m,nd,h1,h2,hk=>by
  show bindC kindOf ((p,w) :: P.zip vs) m x=_
  unfold bindC
  exact yC (i:=i) (List.nodup_cons.mp nd).2 (by simpa using h1) (by simpa using h2) hk
noncomputable def start (N:List Str) (vs:List V):St:=vs.map some ++ List.replicate (N.length - vs.length) none
noncomputable def wX (CX:HS) (P:Program) (w:World) (K:PySem.W.Frag) (mg:Str->Option Value) (base:Heap) (N:List Str) (qual:Str) (scope:Scope) (f:Addr) (cd:Value) (A:Around) (outer:List Env) (s:Shared) (H:Hp) (E:XK):Cx where
 prog:=P
 w:=w
 K:=K
 mg:=mg
 base:=base
 A:=A.deeper (envOfC qual scope s.heap.objs.size f cd)
 N:=N
 s₀:=s
 H₀:=H
 env:=envOfC qual scope s.heap.objs.size f cd
 outer:=outer
 stack:=envOfC qual scope s.heap.objs.size f cd :: outer
 ex:=[]
 calm:=A.handled.isNone
 fn:=fun _=>true
 pn:=[]
 xe:=fun e s'=>wpAny (model P w) (A.deeper (envOfC qual scope s.heap.objs.size f cd)) (leaving (envOfC qual scope s.heap.objs.size f cd) e) (fun _ s''=>CX outer H s E e s'') (fun e' s''=>CX outer H s E e' s'') s'
theorem Dj {sc:Scope} {n:Nat} {x:Str} (h:sc.names.lookup x=some .cell):∃ c,(cellsFrom n sc.names []).lookup x=some c:=by
 have q:=PySem.W.cellsFrom_some sc.names n [] (.inl h)
 exact Option.isSome_iff_exists.mp q
theorem Jt {CX:HS} {P:Program} {w:World} {K:PySem.W.Frag} {mg:Str->Option Value} {base:Heap} {N ps:List Str} {qual:Str} {scope:Scope} {f:Addr} {cd:Value} {A:Around} {outer:List Env} {s s1:Shared} {H:Hp} {E:XK} {us:List Value} {vs:List V}
  (S:dz N ps scope) (e0:wZ P w K mg base A outer s H) (hl:vs.length=ps.length) (r:Vals vs us)
  (x:InCallC s s.heap.objs.size (bindL (envOfC qual scope s.heap.objs.size f cd).kindOf (ps.zip us) fun _=>none) (cellsFrom (s.heap.objs.size + 1) scope.names []) (bindC (envOfC qual scope s.heap.objs.size f cd).kindOf (ps.zip us) fun _=>none) s1) :
  Inv (wX CX P w K mg base N qual scope f cd A outer s H E) [] (start N vs) H s1:=by
 have hpl:ps.length<=N.length:=by have:=congrArg List.length S.pre; rw [List.length_take] at this; lia
 obtain ⟨h1,tk,rfl,hk⟩:=x.done
 have Y0:∀ b:Addr,b ∉ (wX CX P w K mg base N qual scope f cd A outer s H E).ex:=fun b z=>absurd (show b∈([]:List Addr) from z) (by simp)
 refine ⟨⟨e0.mod,S.kind,rfl,rfl,Nat.le_refl _,fun y z c h1 h2=>?_,fun y hy=>?_,fun y c _ h=>?_,fun z=>Option.isNone_iff_eq_none.mp z,Around.frames_deeper e0.frames,.inr ⟨rfl,rfl⟩,fun b z=>absurd z (Y0 b),e0.bs,e0.Pb,fun b _ _=>Y0 b,fun b z=>absurd z (Y0 b),e0.qM,e0.Ur⟩,
  rfl,e0.bare,Un.kept hk,⟨_,x.toInCall.ns,fun i y v h1 h2 h3=>?_⟩,fun y c h=>⟨_,x.cell y c h⟩,e0.hok.fresh (Nat.le_refl _),fun y c h=>?_,fun p hp=>absurd (show p∈([]:List (Addr×Obj)) from hp) (by simp),e0.hok.kept hk,?_,e0.hh⟩
 ·exact name_of_addr x.apart (PySem.mem_of_lookup h1) (PySem.mem_of_lookup h2)
 ·have hy:scope.names.lookup y=some .cell∨scope.names.lookup y=some .free:=hy
  rcases hy with hy | hy
  ·exact Dj hy
  ·exact absurd rfl (S.Wa _ (PySem.mem_of_lookup hy))
 ·exact Nat.le_of_lt (x.above y c (PySem.mem_of_lookup h))
 ·have hi:i < vs.length:=by
   unfold start at h2
   by_cases hi:i < vs.length
   ·exact hi
   ·rw [List.getElem?_append_right (by simpa using hi)] at h2
    rw [List.getElem?_replicate] at h2
    split at h2 <;> cases h2
  have ha:vs[i]? = some v:=by
   unfold start at h2
   rw [List.getElem?_append_left (by simpa using hi),List.getElem?_map] at h2
   cases e:vs[i]? with
   | none=>rw [e] at h2; cases h2
   | some a=>rw [e] at h2; cases h2; rfl
  obtain ⟨u,hu,rv⟩:=r.get ha
  have hp:ps[i]? = some y:=by
   rw [<- S.pre,List.getElem?_take_of_lt (by lia)]; exact h1
  have ndP:ps.Nodup:=by rw [<- S.pre]; exact S.nd.sublist (List.take_sublist _ _)
  refine ⟨u,rv,?_⟩
  rcases S.par y (List.mem_of_getElem? hp) with k | k
  ·exact .inl ⟨k,yu ndP hp hu k⟩
  ·obtain ⟨c,e⟩:=Dj (n:=s.heap.objs.size + 1) k
   refine .inr ⟨.inl k,c,e,?_⟩
   have q:=x.cell y c e
   rw [yC ndP hp hu (by show scope.names.lookup y≠_; rw [k]; decide)] at q
   exact q
 ·exact e0.hok.fresh (Nat.le_of_lt (x.above y c (PySem.mem_of_lookup h)))
 ·unfold start
  show _=N.length
  rw [List.length_append,List.length_map,List.length_replicate]
  lia
theorem Us {CX:HS} {P:Program} {w:World} {K:PySem.W.Frag} {mg:Str->Option Value} {base:Heap} {k:Nat} {f:Addr} {name qual:Str} {params:Arguments} {body:List Stmt} {scope:Scope} {dV kV doc pm cdv ct oc:Value} {an od:Option Addr}
  {osl:Array (Option Value)} {N ps:List Str} {sp:Sp} (lk:K.lookup f=some ⟨oc,od,.func (PySem.W.fnOf name qual params body scope dV kV doc pm an cdv ct),osl⟩) (hcd:PySem.W.codeIn K cdv qual=true) (S:dz N ps scope)
  (len:∀ vs H Q E,sp vs H Q E->vs.length=ps.length)
  (hbody:∀ (A:Around) (outer:List Env) (s:Shared) (H:Hp) (vs:List V) (Q:VK) (E:XK),bM k (A.deeper (envOfC qual scope s.heap.objs.size f cdv))->sp vs H Q E ->
   ∃ t,yF (wX CX P w K mg base N qual scope f cdv A outer s H E) body t/\t { nx:=fun _ H'=>Q .non H',rt:=Q } (start N vs) H) :
  cD P w K mg base CX (k + 1) f (PySem.W.fnOf name qual params body scope dV kV doc pm an cdv ct) ps sp:=by
 refine ⟨len,fun A outer s H args us vs Q E hr e0 hb r hsp=>?_⟩
 have hl:=len _ _ _ _ hsp
 have KX:K.In s.heap:=e0.mod.Ze.keeps fun b o e=>(e0.bs b o e).1
 have lim:s.heap.NoLimit:=e0.mod.nolimit.keeps fun b o e=>(e0.bs b o e).1
 have hkind:∀ y∈ps.zip us,scope.names.lookup y.1=some .local∨(scope.names.lookup y.1=some .cell/\((cellsFrom (s.heap.objs.size + 1) scope.names []).lookup y.1).isSome=true):=fun ⟨n,v⟩ hy=>by
  rcases S.par n (List.of_mem_zip hy).1 with q | q
  ·exact .inl q
  ·exact .inr ⟨q,PySem.W.cellsFrom_some _ _ _ (.inl q)⟩
 refine codeAny_call_function hr.depth (KX _ _ lk) rfl S.co S.gen rfl (PySem.W.codeRec_of KX hcd) (hb _ _ _ _ ?_)
 refine wpAny_newFunctionEnv_cells S.kind hkind fun env he s1 x=>?_
 subst he
 refine ⟨lim.keeps x.toInCall.keep,codeAny_func ?_⟩
 obtain ⟨t,ht,hq⟩:=hbody A outer s H vs Q E (hr.deeper _) hsp
 have I:Inv (wX CX P w K mg base N qual scope f cdv A outer s H E) [] (start N vs) H s1:=Jt S e0 hl r x
 refine wpAny_mono (ht [] s1 (start N vs) H _ I hq) (fun fl s' hs=>?_) fun e s' hs=>hs
 have fin:∀ {σ':St} {H':Hp} {v:V} {u:Value},Inv (wX CX P w K mg base N qual scope f cdv A outer s H E) [] σ' H' s'->RelV v u->Q v H'->CE outer P w H s Q u s' :=
  fun {σ' H' v u} J rv q=>⟨v,H',J.os,J.bare,J.base,J.hok,rv,q⟩
 cases fl with
 | ret u =>
  obtain ⟨v,σ',H',J,rv,q⟩:=hs
  exact fin J rv q
 | next =>
  obtain ⟨σ',H',J,q⟩:=hs
  exact fin (v:=V.non) (u:=Value.none) J rfl q
 | brk =>
  obtain ⟨_,_,_,q⟩:=hs
  exact False.elim q
 | cont =>
  obtain ⟨_,_,_,q⟩:=hs
  exact False.elim q
end L2
namespace L2
open PySem PySem.Spec PyProof.Rows
section
variable {X:Cx} {x:Str} {p pos:Pos} {e:Expr} {es:List Expr} {t:TA} {id T:String} {r:List V->Hp->VK->Prop}
noncomputable def tCB (r:List V->Hp->VK->Prop) (t:TA):TE:=fun σ H Q=>t σ H fun vs H1=>r vs H1 Q
theorem fW (hc:cR X (.builtin id) r) (hg:Gl X x) (hm:X.mg x=none) (hv:bootBuiltins x=some (.builtin id)) (ha:PA X (e :: es) t) (hn:x≠"__name__":=by decide) (hdb:(x == ("__debug__" : Str))=false:=by decide)
  (he:starEach (e :: es) X.env=(false,eval e X.env) :: starEach es X.env:=by rfl) (hpl:(backTo pos (starEach es X.env)).any (·.1)=false:=by rfl):PE X (.Call (.Name x p) (e :: es) [] pos) (tCB r t):=by
 intro pins s σ H Q I h
 refine wpAny_Call_Name_kw (lG I hg hm hv ?_ hn hdb)
 exact PyProof.Rows.callWith_builtin1 (bG (ha pos pins s σ H _ I h) fun us s1 ⟨vs,H1,I1,r1,q1⟩=>hc pins s1 σ H1 vs us Q I1 r1 q1) he hpl
theorem IK (hc:cR X (.type T) r) (hg:Gl X x) (hm:X.mg x=none) (hv:bootBuiltins x=some (.type T)) (ha:PA X (e :: es) t) (hn:x≠"__name__":=by decide) (hdb:(x == ("__debug__" : Str))=false:=by decide)
  (he:starEach (e :: es) X.env=(false,eval e X.env) :: starEach es X.env:=by rfl) (hpl:(backTo pos (starEach es X.env)).any (·.1)=false:=by rfl):PE X (.Call (.Name x p) (e :: es) [] pos) (tCB r t):=by
 intro pins s σ H Q I h
 refine wpAny_Call_Name_kw (lG I hg hm hv ?_ hn hdb)
 exact PyProof.Rows.callWith_type1 (bG (ha pos pins s σ H _ I h) fun us s1 ⟨vs,H1,I1,r1,q1⟩=>hc pins s1 σ H1 vs us Q I1 r1 q1) he hpl
end
end L2
namespace HT
open PySem PyProof.Rows
section
open PySem.SeqAt
open PySem.AutoSeq1 (wpAny_loadPart')
open PySem.MeetsSeq PySem.MeetsSeq2 PySem.MeetsSeq3
end
section
variable {prog:Program} {w:World} {A:Around} {E:Value->Shared->Prop} {s:Shared}
theorem S5 {t b:Addr} {vs ws:List Value} {Q:Value->Shared->Prop} (ht:IsTup s.heap t vs.toArray) (hb:IsTup s.heap b ws.toArray) (hv:vs≠[])
  (h1:ws=[]->Q (.ref t) s) (h2:ws≠[]->Q (.ref s.heap.objs.size) { s with heap:=s.heap.push { cls:=.type "tuple",data:=.seq (vs ++ ws).toArray } })
  (hsz:vs.length + ws.length<=sizeLine):wpAny (model prog w) A (binaryOp .Add (.ref t) (.ref b)) Q E s:=by
 obtain ⟨⟨cls,dd,data,sl⟩,ho,hc,n,hd⟩:=id ht
 obtain ⟨⟨cls2,dd2,data2,sl2⟩,ho2,hc2,n2,hd2⟩:=id hb
 simp only at hc hd hc2 hd2
 subst hc hd hc2 hd2
 have e:vs.toArray ++ ws.toArray=(vs ++ ws).toArray:=by simp
 by_cases hw:ws=[]
 ·exact concat_meets ⟨_,ho,rfl⟩ ⟨_,ho2,rfl⟩ noFill_tuple_add seq_tuple_add PySem.F.slot_tuple_add PySem.F.entry_tuple_add (PySem.F.args_tuple_add_2 _ _)
   (tuple_addW1 t b vs.toArray ws.toArray n n2 dd dd2 sl sl2 (by simpa using hv) (by simp [hw])) ⟨ho,ho2,h1 hw⟩
 ·refine concat_meets ⟨_,ho,rfl⟩ ⟨_,ho2,rfl⟩ noFill_tuple_add seq_tuple_add PySem.F.slot_tuple_add PySem.F.entry_tuple_add (PySem.F.args_tuple_add_2 _ _)
   (tuple_addW2 t b vs.toArray ws.toArray n n2 dd dd2 sl sl2 (by simpa using hv) (by simpa using hw) (by rw [List.size_toArray,List.size_toArray]; exact hsz)) ⟨ho,ho2,?_⟩
  rw [e]
  exact h2 hw
end
end HT
namespace L2
open PySem PySem.Spec PyProof.Rows
noncomputable abbrev TO:=St->Hp->(Option Int->Hp->Prop)->Prop
section
variable {X:Cx} {e:Expr} {te:TE} {lo hi:Option Expr} {tl th:TO} {pos p2:Pos}
noncomputable def SlR (X:Cx) (r:V->Option Int->Option Int->Hp->VK->Prop):Prop :=
 ∀ (pins:List (Addr×Obj)) (s:Shared) (σ:St) (H:Hp) (x:V) (v vl vu:Value) (lo hi:Option Int) (sl:Addr) (Q:VK),Inv X pins σ H s->RelV x v->s.heap.IsSliceOf sl vl vu .none->IsPart vl lo->IsPart vu hi->r x lo hi H Q ->
  ∃ T id,typeLookup (.type T) "__getitem__" = pure (some (.builtin id))/\s.TypeIs v T/\wpAny (model X.prog X.w) X.A (getItem v (.ref sl)) (EP X pins σ Q) X.xe s
theorem SlR.or {r r':V->Option Int->Option Int->Hp->VK->Prop} (h:SlR X r) (h':SlR X r'):SlR X (fun x lo hi H Q=>r x lo hi H Q∨r' x lo hi H Q):=by
 intro pins s σ H x v vl vu lo hi sl Q I rx hs pl pu q
 rcases q with q | q
 ·exact h pins s σ H x v vl vu lo hi sl Q I rx hs pl pu q
 ·exact h' pins s σ H x v vl vu lo hi sl Q I rx hs pl pu q
noncomputable def YD (K:PySem.W.Frag):R2:=fun x y H Q=>∃ a b xs ys,x = .ref a/\y = .ref b/\p7 K H a xs/\p7 K H b ys/\xs≠[]/\xs.length + ys.length<=sizeLine /\
 (ys=[]->Q (.ref a) H)/\(ys≠[]->∀ p,H p=none->Q (.ref p) (upd H p (.tup (xs ++ ys))))
theorem Vals.yU {xs:List V} {us:List Value} (r:Vals xs us):us=[]<->xs=[]:=by
 cases r with
 | nil=>simp
 | cons _ _=>simp
theorem Rz:mQ X (binaryOp .Add) (YD X.K):=by
 intro pins s σ H x y v u Q I rx ry h
 obtain ⟨a,b,xs,ys,rfl,rfl,ha,hb,hx,hz,q1,q2⟩:=h
 cases rx
 cases ry
 obtain ⟨its,r1,p1,_⟩:=I.tuple ha
 obtain ⟨its2,r2,p2,_⟩:=I.tuple hb
 refine HT.S5 p1 p2 (fun z=>hx (r1.yU.mp z)) (fun z=>⟨.ref a,H,I,rfl,q1 (r2.yU.mp z)⟩) (fun z=>?_) (by rw [<- r1.length,<- r2.length]; exact hz)
 refine ⟨.ref s.heap.objs.size,_,I.laid (t':=s.toks) (o:=.tup (xs ++ ys)) (fun b ob q=>Heap.get?_push_of_some _ q) (Nat.le_refl _) ?_,rfl,q2 (fun w=>z (r2.yU.mpr w)) _ (I.hok.fresh (Nat.le_refl _))⟩
 exact ⟨by rw [List.length_append]; exact hz,_,r1.append r2,lX.new _ _⟩
end
end L2
namespace L2
open PySem PySem.Spec PyProof.Rows
noncomputable def WM (n:Nat) (i:Int):Option Nat:=if 0<=i then (if i < n then some i.toNat else none) else if -(n:Int)<=i then some (i + n).toNat else none
noncomputable def X6 {α:Type} (xs:List α) (i:Int):Option α:=(WM xs.length i).bind fun j=>xs[j]?
theorem Hi {n:Nat} {i:Int} {j:Nat} (h:WM n i=some j):seqIndex? i n=some j/\j < n/\-(n:Int)<=i/\i < n:=by
 unfold WM at h
 by_cases h0:0<=i
 ·rw [if_pos h0] at h
  by_cases h1:i < n
  ·rw [if_pos h1] at h
   have e:i.toNat=j:=Option.some.inj h
   exact ⟨by rw [seqIndex_of h0 h1,e],by lia,by lia,h1⟩
  ·rw [if_neg h1] at h; cases h
 ·rw [if_neg h0] at h
  by_cases h1 : -(n:Int)<=i
  ·rw [if_pos h1] at h
   have e:(i + n).toNat=j:=Option.some.inj h
   exact ⟨by rw [seqIndex_neg (by lia) h1,e],by lia,h1,by lia⟩
  ·rw [if_neg h1] at h; cases h
theorem HJ {α:Type} {xs:List α} {i:Int} {v:α} (h:X6 xs i=some v):∃ j,seqIndex? i xs.length=some j/\xs[j]? = some v/\j < xs.length/\-(xs.length:Int)<=i/\i < xs.length:=by
 unfold X6 at h
 cases e:WM xs.length i with
 | none=>rw [e] at h; cases h
 | some j =>
  rw [e] at h
  obtain ⟨h1,h2,h3,h4⟩:=Hi e
  exact ⟨j,h1,h,h2,h3,h4⟩
noncomputable def Ae (b:Expr):Prop:=∀ o i,subscripted b false o i=operate [o,i] (getItem o i)
noncomputable def UG (X:Cx) (r:R2):Prop :=
 ∀ (value slice:Expr) (pins:List (Addr×Obj)) (s:Shared) (σ:St) (H:Hp) (x y:V) (v u:Value) (Q:VK),Inv X pins σ H s->RelV x v->RelV y u->r x y H Q ->
  subscripted slice false v u=operate [v,u] (getItem v u)->wpAny (model X.prog X.w) X.A (subscriptTail value slice v u) (EP X pins σ Q) X.xe s
noncomputable def Uz (X:Cx) (id:String) (r:V->List V->Hp->VK->Prop):Prop :=
 ∀ (pins:List (Addr×Obj)) (s:Shared) (σ:St) (H:Hp) (x:V) (xs:List V) (v:Value) (us:List Value) (Q:VK),Inv X pins σ H s->RelV x v->Vals xs us->r x xs H Q ->
  wpAny (model X.prog X.w) X.A (call (.builtin id) (v :: us)) (EP X pins σ Q) X.xe s
section
variable {X:Cx} {a b:Expr} {ta tb:TE} {pos:Pos}
theorem UG.or {r r':R2} (h:UG X r) (h':UG X r'):UG X (fun x y H Q=>r x y H Q∨r' x y H Q):=by
 intro value slice pins s σ H x y v u Q I rx ry q hs
 rcases q with q | q
 ·exact h value slice pins s σ H x y v u Q I rx ry q hs
 ·exact h' value slice pins s σ H x y v u Q I rx ry q hs
theorem Uz.or {id:String} {r r':V->List V->Hp->VK->Prop} (h:Uz X id r) (h':Uz X id r'):Uz X id (fun x xs H Q=>r x xs H Q∨r' x xs H Q):=by
 intro pins s σ H x xs v us Q I rx rs q
 rcases q with q | q
 ·exact h pins s σ H x xs v us Q I rx rs q
 ·exact h' pins s σ H x xs v us Q I rx rs q
theorem YJ {r:R2} (hr:UG X r) (ha:PE X a ta) (hb:PE X b tb) (hs:Ae b):PE X (.Subscript a b pos) (Yk r ta tb):=by
 intro pins s σ H Q I h
 exact Subscript_ (Xn ha hb I h fun v u s2 x y H2 I2 rx ry q=>hr a b pins s2 σ H2 x y v u Q I2 rx ry q (hs _ _))
noncomputable def abm (K:PySem.W.Frag):R2:=fun x y H Q=>∃ p xs i v,x = .ref p/\y = .int i/\f9 K H p xs/\X6 xs i=some v/\Q v H
noncomputable def abk (K:PySem.W.Frag):R2:=fun x y H Q=>∃ p xs i v,x = .ref p/\y = .int i/\p7 K H p xs/\X6 xs i=some v/\Q v H
theorem R8:UG X (abm X.K):=by
 intro value slice pins s σ H x y v u Q I rx ry h hs
 obtain ⟨p,xs,i,z,rfl,rfl,hq,he,q⟩:=h
 cases rx
 obtain ⟨t,rfl⟩:=ry
 obtain ⟨its,r,pl,hz⟩:=I.list hq
 obtain ⟨j,h1,h2,h3,h4,h5⟩:=HJ he
 obtain ⟨w,ew,QL⟩:=r.get h2
 have hl:=r.length
 have hn:=qy
 have fin:EP X pins σ Q w s:=⟨z,H,I,QL,q⟩
 by_cases h0:0<=i
 ·have hj:i.toNat=j:=by
   rw [seqIndex_of h0 h5] at h1
   exact Option.some.inj h1
  exact item_listR pl.isList h0 (by lia) (by rw [hj]; simpa using ew) fin hs
 ·have hj:(i + (its.toArray.size:Int)).toNat=j:=by
   rw [seqIndex_neg (by lia) h4] at h1
   rw [List.size_toArray,<- hl]
   exact Option.some.inj h1
  exact subscriptTail_builtinR (x:=w) pl.isList.typeIs slot_list_getitem.lookup
   (wpAny_getItem_list_neg (Q:=fun r s'=>r=w/\EP X pins σ Q r s') pl.isList (by lia) (by rw [List.size_toArray] <;> lia) (by lia) (by rw [hj]; simpa using ew) ⟨rfl,fin⟩) hs
theorem WL:UG X (abk X.K):=by
 intro value slice pins s σ H x y v u Q I rx ry h hs
 obtain ⟨p,xs,i,z,rfl,rfl,hq,he,q⟩:=h
 cases rx
 obtain ⟨t,rfl⟩:=ry
 obtain ⟨its,r,pl,hz⟩:=I.tuple hq
 obtain ⟨j,h1,h2,h3,h4,h5⟩:=HJ he
 obtain ⟨w,ew,QL⟩:=r.get h2
 have hl:=r.length
 have hn:=qy
 have fin:EP X pins σ Q w s:=⟨z,H,I,QL,q⟩
 exact subscriptTail_builtinR (x:=w) pl.typeIs slot_tuple_getitem.lookup
  (getItem_tuple (j:=j) (Q:=fun r s'=>r=w/\EP X pins σ Q r s') pl (by lia) (by lia) (by rw [List.size_toArray,<- hl]; exact h1) (by simpa using ew) ⟨rfl,fin⟩) hs
theorem Ez (its:List Value) (n j:Nat) (u:Value):Obj.mapSeq (·.setIfInBounds j u) { cls:=.type "list",data:=.seq its.toArray n }={ cls:=.type "list",data:=.seq (its.set j u).toArray n }:=by
 simp [Obj.mapSeq]
theorem Inv.lst {pins:List (Addr×Obj)} {σ:St} {H:Hp} {s:Shared} {p:Addr} {xs:List V} (I:Inv X pins σ H s) (h:H p=some (.lst xs)) :
  ∃ (its:List Value) (n:Nat),Vals xs its/\s.heap.get? p=some { cls:=.type "list",data:=.seq its.toArray n }/\xs.length<=sizeLine:=by
 obtain ⟨z,its,n,r,e⟩:=I.hok p _ h
 exact ⟨its,n,r,e,z⟩
theorem Inv.Wg {pins:List (Addr×Obj)} {σ:St} {H:Hp} {s:Shared} {p:Addr} {xs ys:List V} {its its':List Value} {n n':Nat} {f:Obj->Obj} (I:Inv X pins σ H s) (h:H p=some (.lst xs))
  (ho:s.heap.get? p=some { cls:=.type "list",data:=.seq its.toArray n }) (hf:f { cls:=.type "list",data:=.seq its.toArray n }={ cls:=.type "list",data:=.seq its'.toArray n' }) (r:Vals ys its') (hz:ys.length<=sizeLine) (t:Nat) :
  Inv X pins σ (upd H p (.lst ys)) { s with heap:=s.heap.update p f,toks:=t }:=by
 have e:(s.heap.update p f).get? p=some { cls:=.type "list",data:=.seq its'.toArray n' }:=by
  rw [Heap.get?_update_self f ho (by rw [hf] <;> rfl),hf]
 refine I.write (x:=p) (e:=p) (by rw [h]; trivial) (.inl rfl) (fun b u hb q=>(Heap.get?_update_other _ _ (Ne.symm hb)).trans q) ⟨_,e⟩ ?_
 exact ⟨hz,its',n',r,e⟩
noncomputable def YC:V->V->V->Hp->(Hp->Prop)->Prop:=fun o i v H Q=>∃ p xs k j,o = .ref p/\i = .int k/\H p=some (.lst xs)/\WM xs.length k=some j/\Q (upd H p (.lst (xs.set j v)))
theorem set_list:TQ X YC:=by
 intro pins s σ H o i v ov iv u Q I ro ri rv h
 obtain ⟨p,xs,k,j,rfl,rfl,hp,hj,q⟩:=h
 cases ro
 obtain ⟨t,rfl⟩:=ri
 obtain ⟨its,n,r,ho,hz⟩:=I.lst hp
 obtain ⟨h1,h2,h3,h4⟩:=Hi hj
 have hl:=r.length
 have hn:=qy
 have I':Inv X pins σ (upd H p (.lst (xs.set j v))) { s with heap:=s.heap.update p (Obj.mapSeq (·.setIfInBounds j u)) } :=
  I.Wg hp ho (Ez its n j u) (r.set rv j) (by rw [List.length_set]; exact hz) s.toks
 by_cases h0:0<=k
 ·have hk:k.toNat=j:=by
   rw [seqIndex_of h0 h4] at h1
   exact Option.some.inj h1
  exact PySem.W.ki_setAt ho h0 (by lia) (by rw [List.size_toArray,<- hl]; exact h4) (by rw [hk]; exact ⟨_,I',q⟩)
 ·have hk:(k + (its.toArray.size:Int)).toNat=j:=by
   rw [seqIndex_neg (by lia) h3] at h1
   rw [List.size_toArray,<- hl]
   exact Option.some.inj h1
  exact PySem.W.ki_setBack ho (by lia) (by rw [List.size_toArray,<- hl]; exact h3) (by lia) (by rw [hk]; exact ⟨_,I',q⟩)
theorem cR.or {f:Value} {r r':List V->Hp->VK->Prop} (h:cR X f r) (h':cR X f r'):cR X f (fun xs H Q=>r xs H Q∨r' xs H Q):=by
 intro pins s σ H xs us Q I rs q
 rcases q with q | q
 ·exact h pins s σ H xs us Q I rs q
 ·exact h' pins s σ H xs us Q I rs q
theorem zY:cR X (.type "list") (fun xs H Q=>∃ p ys,xs=[.ref p]/\(f9 X.K H p ys∨p7 X.K H p ys)/\∀ l,H l=none->Q (.ref l) (upd H l (.lst ys))):=by
 intro pins s σ H xs us Q I r h
 obtain ⟨p,ys,rfl,hq,q⟩:=h
 obtain ⟨u,rfl,rx⟩:=vals1 r
 cases rx
 have fin:∀ (its:List Value),Vals ys its->ys.length<=sizeLine->∀ (h':Heap) (c':Nat),(∀ b o',s.heap.get? b=some o'->h'.get? b=some o') ->
   h'.get? s.heap.objs.size=some { cls:=.type "list",dict:=none,data:=.seq its.toArray c',slots:=#[] }->EP X pins σ Q (.ref s.heap.objs.size) { s with heap:=h' }:=fun its r' hz h' c' kp e =>
  ⟨.ref s.heap.objs.size,_,I.laid (t':=s.toks) kp (Nat.le_refl _) (show bR X.prog X.w _ h' _ (.lst ys) from ⟨hz,its,c',r',e⟩),rfl,q _ (I.hok.fresh (Nat.le_refl _))⟩
 rcases hq with hq | hq
 ·obtain ⟨its,r',pl,hz⟩:=I.list hq
  have hlen:=r'.length
  obtain ⟨o,ho,hc,n,hd⟩:=pl.isList
  exact call_list_seq p (.inl rfl) ho hc hd (fun h' c' kp e=>fin its r' hz h' c' kp e) (by simp only [List.size_toArray] <;> lia)
 ·obtain ⟨its,r',pl,hz⟩:=I.tuple hq
  have hlen:=r'.length
  obtain ⟨o,ho,hc,n,hd⟩:=pl
  exact call_list_seq p (.inr rfl) ho hc hd (fun h' c' kp e=>fin its r' hz h' c' kp e) (by simp only [List.size_toArray] <;> lia)
noncomputable def tyV (K:PySem.W.Frag) (T:String) (x:V) (H:Hp):Prop:=match x with
 | .str _=>T = "str"
 | .int _=>T = "int"
 | .ref p=>(T = "list"/\∃ xs,f9 K H p xs)∨(T = "tuple"/\((∃ o,K.lookup p=some o/\o.cls = .type "tuple"/\o.dict=none)∨∃ xs,H p=some (.tup xs))) ∨
   (T = "dict"/\((∃ kvs,Rd H p (.dK kvs))∨∃ kvs,Rd H p (.dT kvs)))∨(T = "set"/\∃ S n,H p=some (.set S n))
 | _=>False
theorem Vi {pins:List (Addr×Obj)} {σ:St} {H:Hp} {s:Shared} {T:String} {x:V} {v:Value} (I:Inv X pins σ H s) (r:RelV x v) (ty:tyV X.K T x H) :
  s.TypeIs v T/\∀ a,v = .ref a->∃ ob,s.heap.get? a=some ob/\ob.dict=none:=by
 cases x with
 | str z =>
  obtain ⟨t,rfl⟩:=r
  cases (show T = "str" from ty)
  exact ⟨typeIs_str s z t,fun _ e=>nomatch e⟩
 | int i =>
  obtain ⟨t,rfl⟩:=r
  cases (show T = "int" from ty)
  exact ⟨typeIs_int s i t,fun _ e=>nomatch e⟩
 | ref p =>
  cases r
  rcases ty with ⟨rfl,xs,hq⟩ | ⟨rfl,⟨o,hk,hc,hd⟩ | ⟨xs,hk⟩⟩ | ⟨rfl,hk⟩ | ⟨rfl,S,n,hk⟩
  ·obtain ⟨its,_,pl,_⟩:=I.list hq
   refine ⟨pl.isList.typeIs,fun a e=>?_⟩
   cases e
   obtain ⟨o,n,e,c,hd,_⟩:=pl
   exact ⟨o,e,hd⟩
  ·refine ⟨⟨o,I.qJ p o hk,hc⟩,fun a e=>?_⟩
   cases e
   exact ⟨o,I.qJ _ o hk,hd⟩
  ·obtain ⟨_,_,_,o,e,c,_,_,hd⟩:=I.hok p _ hk
   refine ⟨⟨o,e,c⟩,fun a e2=>?_⟩
   cases e2
   exact ⟨o,e,hd⟩
  ·have z:∃ o,s.heap.get? p=some o/\o.ExactDict:=by
    rcases hk with ⟨kvs,hk⟩ | ⟨kvs,hk⟩
    ·obtain ⟨_,_,_,_,o,_,_,e,ex,_⟩:=hk.ok I.hok
     exact ⟨o,e,ex⟩
    ·obtain ⟨_,_,_,_,o,_,_,e,ex,_⟩:=hk.ok I.hok
     exact ⟨o,e,ex⟩
   obtain ⟨o,e,ex⟩:=z
   refine ⟨⟨o,e,ex.1⟩,fun a e2=>?_⟩
   cases e2
   exact ⟨o,e,ex.2.1⟩
  ·obtain ⟨o,_,_,_,e,ex,_⟩:=I.hok p _ hk
   refine ⟨⟨o,e,ex.1⟩,fun a e2=>?_⟩
   cases e2
   exact ⟨o,e,ex.2.1⟩
 | _=>exact False.elim ty
noncomputable def tBM (K:PySem.W.Frag) (T:String) (r:V->List V->Hp->VK->Prop) (to:TE) (t:TA):TE:=fun σ H Q=>to σ H fun x H1=>tyV K T x H1/\t σ H1 fun xs H2=>r x xs H2 Q
variable {o e:Expr} {es:List Expr} {to:TE} {t:TA} {name:Str} {apos cpos:Pos} {T id:String} {r:V->List V->Hp->VK->Prop}
theorem Ud (pa:PlainAttrs T) (slot:Slot T name id) (hty:typeOf (.builtin id)=pure (.type "method_descriptor")) (hm:Uz X id r) (ho:PE X o to) (ha:PA X (e :: es) t)
  (hbase:attributeBase o name X.env (eval o X.env)=eval o X.env:=by rfl)
  (hfew:((backTo cpos (starEach (e :: es) X.env)).all (fun x=>!x.1) && (backToKw cpos (keywordEach [] X.env)).all (fun x=>x.1.isSome)
   && decide ((e :: es).length + ([]:List Keyword).length + (if ([]:List Keyword).isEmpty then 0 else 1) < 30))=true:=by rfl)
  (hline:(apos.endLine == cpos.line)=true:=by rfl) (hs:starEach (e :: es) X.env=(false,eval e X.env) :: starEach es X.env:=by rfl) (hplain:(backTo cpos (starEach es X.env)).any (·.1)=false:=by rfl) :
  PE X (.Call (.Attribute o name apos) (e :: es) [] cpos) (tBM X.K T r to t):=by
 intro pins s σ H Q I h
 refine wpAny_Call_method_late hbase hfew hline rfl (bG (ho pins s σ H _ I h) fun v s1 ⟨x,H1,I1,r1,ty,q1⟩=>?_)
 obtain ⟨h1,h2⟩:=Vi I1 r1 ty
 refine ⟨T,id,pa,slot,hty,h1,h2,?_⟩
 have hA:=ha cpos pins s1 σ H1 _ I1 q1
 rw [hs] at hA ⊢
 refine Calls.callWith_builtin (by show (false || (backTo cpos (starEach es X.env)).any (·.1))=false; rw [hplain] <;> rfl) (Calls.evalArgs_plain ?_)
 exact bG hA fun us s2 ⟨vs,H2,I2,r2,q2⟩=>hm pins s2 σ H2 x vs v us Q I2 r1 r2 q2
/- xs.append(e),list.index on a module's tuple .. are Uz facts of 06m -/
end
end L2
namespace L2
open PySem PySem.Spec PyProof.Rows
noncomputable def MtM (X:Cx) (id:String) (r:V->List V->Hp->VK->Prop):Prop :=
 ∀ (pins:List (Addr×Obj)) (s:Shared) (σ:St) (H:Hp) (x:V) (xs:List V) (v:Value) (us:List Value) (Q:VK),Inv X pins σ H s->RelV x v->Vals xs us->r x xs H Q ->
  wpAny (model X.prog X.w) X.A (call (.builtin id) (v :: us)) (EP X pins σ Q) X.xe s
theorem Vals.one:∀ {x:V} {us:List Value},Vals [x] us->∃ u,us=[u]/\RelV x u
 | _,_,.cons r .nil=>⟨_,rfl,r⟩
theorem Vals.two:∀ {x y:V} {us:List Value},Vals [x,y] us->∃ u v,us=[u,v]/\RelV x u/\RelV y v
 | _,_,_,.cons r (.cons q .nil)=>⟨_,_,rfl,r,q⟩
theorem Vals.dropLast {xs:List V} {us:List Value} (h:Vals xs us):Vals xs.dropLast us.dropLast:=by
 induction h with
 | nil=>exact .nil
 | cons r t ih =>
  cases t with
  | nil=>exact .nil
  | cons q t'=>exact .cons r ih
theorem Vals.reverse {xs:List V} {us:List Value} (h:Vals xs us):Vals xs.reverse us.reverse:=by
 induction h with
 | nil=>exact .nil
 | cons r t ih=>rw [List.reverse_cons,List.reverse_cons]; exact Vals.append ih (.cons r .nil)
theorem Vals.rep {xs:List V} {us:List Value} (h:Vals xs us):∀ k:Nat,Vals (List.replicate k xs).flatten (List.replicate k us).flatten
 | 0=>.nil
 | k + 1=>by
  rw [List.replicate_succ,List.replicate_succ,List.flatten_cons,List.flatten_cons]
  exact Vals.append h (Vals.rep h k)
section
variable {X:Cx} {pins:List (Addr×Obj)} {σ:St} {H:Hp} {s:Shared} {l b:Addr} {xs ys zs:List V}
theorem Inv.Za {its its':List Value} {n:Nat} {f:Array Value->Array Value} {t':Nat} (I:Inv X pins σ H s) (hH:H l=some (.lst xs))
  (e:s.heap.get? l=some { cls:=.type "list",data:=.seq its.toArray n }) (hf:f its.toArray=its'.toArray) (hv:Vals ys its') (hz:ys.length<=sizeLine) :
  Inv X pins σ (upd H l (.lst ys)) { s with heap:=s.heap.update l (Obj.mapSeq f),toks:=t' }:=by
 have q:=PySem.IsL.update e f
 rw [hf] at q
 refine I.write (x:=l) (e:=l) (by rw [hH]; exact trivial) (.inl rfl) (fun b' u hb hu=>(Heap.get?_update_other s.heap (Obj.mapSeq f) (Ne.symm hb)).trans hu) ⟨_,q⟩ ?_
 exact ⟨hz,its',_,hv,q⟩
theorem Inv.abw {its:List Value} {t':Nat} (I:Inv X pins σ H s) (hv:Vals ys its) (hz:ys.length<=sizeLine) :
  Inv X pins σ (upd H s.heap.objs.size (.lst ys)) { s with heap:=s.heap.push { cls:=.type "list",data:=.seq its.toArray },toks:=t' } :=
 I.laid (fun _ _ q=>Heap.get?_push_of_some _ q) (Nat.le_refl _) ⟨hz,its,0,hv,Heap.get?_push_size _ rfl⟩
theorem Inv.fresh (I:Inv X pins σ H s):H s.heap.objs.size=none:=I.hok.fresh (Nat.le_refl _)
theorem Inv.RQ (I:Inv X pins σ H s) (hH:H l=some (.lst xs)):xs.length<=sizeLine/\∃ (its:List Value) (n:Nat),Vals xs its/\xs.length=its.length/\s.heap.get? l=some { cls:=.type "list",data:=.seq its.toArray n }:=by
 obtain ⟨z,its,n,r,e⟩:=I.hok l _ hH
 exact ⟨z,its,n,r,r.length,e⟩
end
section
variable {X:Cx}
noncomputable def QT:V->List V->Hp->VK->Prop:=fun x vs H Q=>∃ l xs y,x = .ref l/\vs=[y]/\H l=some (.lst xs)/\xs.length < sizeLine/\Q .non (upd H l (.lst (xs ++ [y])))
theorem Jc:MtM X "list.append" QT:=by
 intro pins s σ H x vs v us Q I rx rv h
 obtain ⟨l,xs,y,rfl,rfl,hH,hz,q⟩:=h
 cases rx
 obtain ⟨u,rfl,ru⟩:=rv.one
 obtain ⟨z,its,n,r,hl,e⟩:=I.RQ hH
 refine call_meets F.slot_list_append ⟨_,e,rfl⟩ F.entry_list_append (F.args_list_append_2 _ _) (PySem.list_append l its.toArray n u (by rw [List.size_toArray]; lia)) ⟨e,?_⟩
 refine ⟨.non,_,I.Za (its':=its ++ [u]) hH e (by simp) (r.append (.cons ru .nil)) ?_,rfl,q⟩
 rw [List.length_append,List.length_singleton]
 lia
noncomputable def abn:R2:=fun x y H Q=>∃ l b xs zs,x = .ref l/\y = .ref b/\H l=some (.lst xs)/\H b=some (.lst zs)/\xs.length + zs.length<=sizeLine/\∀ p,H p=none->Q (.ref p) (upd H p (.lst (xs ++ zs)))
theorem Mz:mQ X (binaryOp .Add) abn:=by
 intro pins s σ H x y v u Q I rx ry h
 obtain ⟨l,b,xs,zs,rfl,rfl,hH,hB,hz,q⟩:=h
 cases rx
 cases ry
 obtain ⟨z,its,n,r,hl,e⟩:=I.RQ hH
 obtain ⟨z2,its2,n2,r2,hl2,e2⟩:=I.RQ hB
 refine PySem.P.add_list e e2 ?_ (by rw [List.size_toArray,List.size_toArray]; lia)
 have ea:its.toArray ++ its2.toArray=(its ++ its2).toArray:=by simp
 rw [ea]
 exact ⟨.ref _,_,I.abw (t':=s.toks) (r.append r2) (by rw [List.length_append]; lia),rfl,q _ I.fresh⟩
end
section
variable {prog:Program} {w:World} {A:Around} {E:Value->Shared->Prop} {s:Shared}
end
section
variable {X:Cx}
end
end L2
namespace Att
open PySem PySem.W PySem.Calls PyProof.Rows
theorem rP {P:Params} {h:Heap}:∀ (ns:List Int) (vs:List Value),WellAll P h vs (ns.map WData.int)->IntsAre vs ns:=by
 intro ns
 induction ns with
 | nil =>
  intro vs w
  rw [List.map_nil] at w
  cases w
  exact .nil
 | cons n ns ih =>
  intro vs w
  rw [List.map_cons] at w
  cases w with
  | cons a b =>
   cases a
   exact .cons _ _ (ih _ b)
theorem Ik {l:OpenLaw} {n:Nat} (hn:l.most=some n) {P:Params} {h:Heap} {args:List WData} {vals:List Value}
  (hpre:l.row.toRowW.claim.pre args=true) (hwl:WellAll P h vals args) :
  ∃ a vs ns,vals=[Value.ref a]/\args=[WData.list (ns.map WData.int)]/\h.get? a=some { cls:=.type "list",data:=.seq vs.toArray }/\IntsAre vs ns/\ns.length<=n:=by
 have hsh:WShape.hasAll [] args [.list .int]=true:=(pre_splitW hpre).1
 have hc:l.pre.holds [] { args:=args }=true:=(pre_splitW hpre).2
 obtain ⟨d,r,rfl,h1,h2⟩:=hasAllW_cons hsh
 obtain rfl:=hasAllW_nil h2
 obtain ⟨xs,rfl,h3⟩:=hasW_list h1
 obtain ⟨ns,rfl⟩:=items_int h3
 have hlen:ns.length<=n:=by
  unfold OpenLaw.pre at hc
  have h4:(WTm.not (.lt (.lit (.int (n:Int))) (.len (.arg 0)))).holds [] { args:=[.list (ns.map .int)] }=true:=by
   have h4:=(holds_andW hc).1
   rw [hn] at h4
   exact h4
  have h5:=condW_of h4 (w_not (w_lt w_lit (w_len_list (w_arg rfl))))
  rw [List.length_map] at h5
  refine Nat.le_of_not_lt fun q=>?_
  have q':(n:Int) < ((ns.length:Nat):Int):=by lia
  first
   | (rw [decide_eq_true q'] at h5; exact absurd h5 (by decide))
   | (simp at h5; lia)
 cases hwl with
 | cons w1 w2 =>
  cases w2
  cases w1 with
  | list ho hall=>exact ⟨_,_,ns,rfl,rfl,ho,rP ns _ hall,hlen⟩
theorem Ir (l:OpenLaw) (args:List WData):l.row.toRowW.claim.post args (.bool true) args=true :=
 postW_of (r:=l.row.toRowW) (X:=(true == true))
  (show WShape.has [] (.bool true) .bool=true by first | rfl | decide | simp [WShape.has,WShape.arms,WShape.armsAll])
  (show (WTm.eq .res (.lit (.bool true))).value [] { args:=args,res:=some (.bool true),after:=args }=some (.bool (true == true)) from w_eq_bool (w_res rfl) w_lit) rfl
theorem Dn {l:OpenLaw} {n:Nat} {q:Program} {loose:List Str} {XP:(Str->Option Value)->Heap->Prop} {YP:World->Heap->Prop} {d:DefRec}
  (hn:l.most=some n) (hdf:d.params.defaults=[])
  (call:∀ (w:World) (s₀ s₁:Shared) (mg mb:Str->Option Value) (fa:Addr) (o:Obj) (pm cd doc:Value) (a:Addr) (vs:List Value) (ns:List Int),
   Ground q loose [] XP w s₀ mg mb s₁.heap->YP w s₁.heap ->
   s₁.heap.get? fa=some o->o.data = .func (docDef d.name d.params d.body d.scope pm cd doc)->s₁.heap.CodeRec cd d.name->mg d.name=some (.ref fa) ->
   s₁.heap.get? a=some { cls:=.type "list",data:=.seq vs.toArray }->IntsAre vs ns->ns.length<=n->s₁.gens = #[] ->
   codeAny (model l.prog w) callerA (.call (.ref fa) ⟨[.ref a],[]⟩) (fun r s'=>r = .ok (.ret (.bool true))/\OldK s₁.heap s'.heap/\s'.os=s₁.os/\AllBare s'.gens) s₁) :
  WalkO q loose XP YP l.row.toRowW d [] (fun f vs=>PySem.call f vs):=by
 intro w s₀ s₁ mg mb G Y fa o pm cd doc dV kV ho hd hcd hD hmg hg args vals as hpre hlay hrd hwl hlo
 obtain rfl:dV = .none:=Dflts.none hD hdf
 obtain rfl:kV = .none:=Dflts.noKw hD
 obtain ⟨a,vs,ns,rfl,rfl,hobj,hints,hlen⟩:=Ik hn hpre hwl
 refine enter_call (codeAny_mono (call w s₀ s₁ mg mb fa o pm cd doc a vs ns G Y ho (fd_plain hd) hcd hmg hobj hints hlen hg) fun r s' hq=>?_)
 obtain ⟨rfl,h2,h3,h4⟩:=hq
 exact ⟨.inl ⟨.bool true,.bool true,[],rfl,fun _=>rfl,.bool true,Ir l _,fun _=>⟨List.Pairwise.nil,fun _ hm=>(nomatch hm)⟩⟩,h2,h3,h4⟩
section
variable {prog:Program} {w:World} {A:Around} {E:Value->Shared->Prop} {s:Shared} {K:Frag}
noncomputable def ledger (h:Heap) (L d:Addr):List (Addr×Obj):=(List.range h.objs.size).filterMap fun a=>if a=L∨a=d then none else (h.get? a).map fun o=>(a,o)
end
end Att
namespace L2
open PySem PySem.Spec PyProof.Rows
theorem xq:∀ {vs:List Value} {ns:List Int},IntsAre vs ns->Vals (ns.map V.int) vs
 | _,_,.nil=>.nil
 | _,_,.cons n t h=>.cons ⟨t,rfl⟩ (xq h)
noncomputable def Only (H:Hp):Prop:=∀ b,H b=none∨∃ o xs,H b=some (.iz o (.lst xs))
theorem NK {P:Program} {w:World} {K:PySem.W.Frag} {mg mb:Str->Option Value} {CX:HS} {k:Nat} {fa a:Addr} {fd:FuncData} {x:Str} {sp:Sp} {s₁:Shared} {vs:List Value} {ns:List Int}
  (KX:K.In s₁.heap) (hns:s₁.heap.Ns mainGlobals mg) (hb:s₁.heap.Ns builtinsNs mb) (hbb:∀ x:Str,x≠"__name__"->mb x=bootBuiltins x) (hlim:s₁.heap.NoLimit) (hsy:∃ mm,s₁.heap.Ns sysModules mm) (hg:s₁.gens = #[])
  (ha:s₁.heap.get? a=some { cls:=.type "list",data:=.seq vs.toArray }) (hi:IntsAre vs ns) (hl:ns.length<=sizeLine) (hr:bM k callerA)
  (F:∀ base:Heap,K.In base->base.Ns mainGlobals mg->cD P w K mg base CX k fa fd [x] sp) (hbind:∀ (s:Shared) (u:Value),BindsTo s fd ⟨[u],[]⟩ [(x,u)])
  (hsp:∀ H:Hp,Only H->f9 K H a (ns.map V.int)->sp [.ref a] H (fun v _=>v = .bl true) fun _ _ _=>False)
  (hCX:∀ H e s',CX [] H s₁ (fun _ _ _=>False) e s'->False) :
  codeAny (model P w) callerA (.call (.ref fa) ⟨[.ref a],[]⟩) (fun r s'=>r = .ok (.ret (.bool true))/\OldK s₁.heap s'.heap/\s'.os=s₁.os/\AllBare s'.gens) s₁:=by
 have rv:=xq hi
 have lenV:=hi.length
 have core:∀ H:Hp,Only H->f9 K H a (ns.map V.int)->mR P w H s₁.heap->(∀ b,H b≠none->b=a)->(H a≠none->K.lookup a=none) ->
   codeAny (model P w) callerA (.call (.ref fa) ⟨[.ref a],[]⟩) (fun r s'=>r = .ok (.ret (.bool true))/\OldK s₁.heap s'.heap/\s'.os=s₁.os/\AllBare s'.gens) s₁:=by
  intro H hO hS hok hA hK
  have Aa:∀ {b:Addr} {o:Obj},s₁.heap.get? b=some o->H b=none->(zF s₁.heap H).get? b=some o:=fun e n=>Oi e n
  have Y0:∀ {b:Addr} {o:Obj} {es:Array DictEntry} {ep:Nat},s₁.heap.get? b=some o->o.data = .dict es ep->H b=none:=fun {b o es ep} e d=>by
   cases q:H b with
   | none=>rfl
   | some u =>
    have e':b=a:=hA b (by rw [q]; simp)
    subst e'
    rw [ha] at e; cases e
    have d':Data.seq vs.toArray _=Data.dict es ep:=d
    cases d'
  have YW:∀ {b:Addr} {m:Str->Option Value},s₁.heap.Ns b m->(zF s₁.heap H).Ns b m:=fun {b m} ⟨o,es,ep,e,d,r⟩=>⟨o,es,ep,Aa e (Y0 e d),d,r⟩
  have hKb:K.In (zF s₁.heap H):=fun b o e=>Aa (KX b o e) (by
   cases q:H b with
   | none=>rfl
   | some u =>
    have e':b=a:=hA b (by rw [q]; simp)
    subst e'
    rw [hK (by rw [q]; simp)] at e; cases e)
  have hM:Mod K mg (zF s₁.heap H):=⟨hKb,YW hns,⟨mb,YW hb,hbb⟩,let ⟨mc,h1,h2⟩:=hlim; ⟨mc,YW h1,h2⟩,let ⟨mm,h1⟩:=hsy; ⟨mm,YW h1⟩⟩
  have e0:wZ P w K mg (zF s₁.heap H) callerA [] s₁ H:=⟨rfl,hM,fun b o e=>RG e,Nat.le_of_eq (Jv _ _),trivial,fun b hb=>absurd (show b∈([]:List Addr) from hb) (by simp),hok,.of_eq hg,fun v q=>nomatch q⟩
  refine codeAny_mono ((F _ hKb (YW hns)).run callerA [] s₁ H ⟨[.ref a],[]⟩ [.ref a] [.ref a] _ _ hr e0 (hbind s₁ (.ref a)) (.cons rfl .nil) (hsp H hO hS)) fun r s' h=>?_
  cases r with
  | error e=>exact (hCX H e s' h).elim
  | ok fl =>
   cases fl with
   | next=>exact False.elim h
   | brk=>exact False.elim h
   | cont=>exact False.elim h
   | ret u =>
    obtain ⟨v,H',os,bare,un,hok',r',q⟩:=h
    have q':v = .bl true:=q
    subst q'
    obtain rfl:u=Value.bool true:=r'
    refine ⟨rfl,OldK.of_keep fun b o e=>?_,os,bare⟩
    cases q:H b with
    | none=>exact un.keep b o e q (by intro z; exact absurd (show b∈([]:List Addr) from z) (by simp)) (by simp)
    | some u =>
     rcases hO b with z | ⟨ob,xs,z⟩
     ·rw [q] at z; cases z
     ·have z2:=un.lR b ob _ z
      obtain ⟨e1,_⟩:=hok b _ z
      obtain ⟨e2,_⟩:=hok' b _ z2
      rw [e] at e1; cases e1
      exact e2
 cases hk:K.lookup a with
 | some o =>
  have e:=KX a o hk
  rw [ha] at e
  cases e
  refine core (fun _=>none) (fun _=>.inl rfl) (.inr ⟨_,vs.toArray,_,hk,rfl,rfl,rfl,by rw [List.size_toArray,lenV]; exact hl,by simpa using rv⟩) (fun b u z=>by have z':(none:Option HO)=some u:=z; cases z') (fun b z=>absurd rfl z) fun z=>absurd rfl z
 | none =>
  refine core (fun b=>if b=a then some (.iz { cls:=.type "list",data:=.seq vs.toArray } (.lst (ns.map V.int))) else none) (fun b=>?_) (.inl (.inr ⟨{ cls:=.type "list",data:=.seq vs.toArray },if_pos rfl⟩)) (fun b u z=>?_) (fun b z=>?_) fun _=>hk
  ·by_cases hb:b=a
   ·exact .inr ⟨_,_,if_pos hb⟩
   ·exact .inl (if_neg hb)
  ·by_cases hb:b=a
   ·have z':=(if_pos hb).symm.trans z
    cases z'
    subst hb
    exact ⟨ha,by rw [List.length_map]; exact hl,vs,_,rv,ha⟩
   ·have z':=(if_neg hb).symm.trans z
    cases z'
  ·by_cases hb:b=a
   ·exact hb
   ·exact absurd (if_neg hb) z
end L2
namespace L2
open PySem PySem.Spec PyProof.Rows
noncomputable abbrev KOf {K:PySem.W.Frag} {h:Heap} (_:K.In h):PySem.W.Frag:=K
theorem Gp {l:PySem.W.OpenLaw} {n k:Nat} {q:Program} {loose:List Str} {XP:(Str->Option Value)->Heap->Prop} {YP:World->Heap->Prop} {d:DefRec} {K:Params->PySem.W.Frag} {CX:World->HS} {sp:World->Sp} {x:Str}
  (hI:importsNone q=true) (hn:l.most=some n) (hn2:n<=sizeLine) (hdf:d.params.defaults=[]) (hr:bM k callerA)
  (hY:∀ (w:World) (h:Heap),YP w h->(K w.params).In h)
  (F:∀ (w:World) (mg:Str->Option Value) (fa:Addr) (h:Heap),(K w.params).In h->h.Ns mainGlobals mg->mg d.name=some (.ref fa) ->
   ∃ fd:FuncData,(∀ (s:Shared) (u:Value),BindsTo s fd ⟨[u],[]⟩ [(x,u)]) /\
    ∀ base:Heap,(K w.params).In base->base.Ns mainGlobals mg->cD l.prog w (K w.params) mg base (CX w) k fa fd [x] (sp w))
  (hsp:∀ (w:World) (H:Hp) (a:Addr) (ns:List Int),ns.length<=n->Only H->f9 (K w.params) H a (ns.map V.int)->sp w [.ref a] H (fun v _=>v = .bl true) fun _ _ _=>False)
  (hCX:∀ (w:World) (H:Hp) (s:Shared) (e:Value) (s':Shared),CX w [] H s (fun _ _ _=>False) e s'->False) :
  PySem.W.WalkO q loose XP YP l.row.toRowW d [] (fun f vs=>PySem.call f vs):=by
 refine Att.Dn hn hdf fun w s₀ s₁ mg mb fa o pm cd doc a vs ns G Y ho hd hcd hmg hobj hints hlen hg=>?_
 have KX:=hY w _ Y
 obtain ⟨fd,hb,hF⟩:=F w mg fa _ KX G.T.g hmg
 exact NK KX G.T.g G.T.b G.T.builtins G.T.nolimit (let ⟨mm,z,_⟩:=(G.T.seer hI).mods; ⟨mm,z⟩) hg hobj hints (Nat.le_trans hlen hn2) hr hF hb (fun H hO hS=>hsp w H a ns hlen hO hS) fun H e s'=>hCX w H s₁ e s'
end L2
/- THE LAST THEOREM (shape; LID, My.* are ab8):
   My.Adr: a structure of the addresses that your layer names (classes, functions); My.Txt K t: a structure (Prop) of the equations over K;
   My.Vj : {K} {implicit addresses ..} (e1 : nsIn K mainGlobals "law" = some (some (.ref f))) (e2 : K.lookup f = some ⟨oc, od, .func (fnOf "law" "law" params body scope dV kV doc pm an cdv ct), sl⟩) (e3 : codeIn K cdv "law" = true) .. : ∃ t, My.Txt K t
set_option maxRecDepth 100000 in
set_option maxHeartbeats 0 in
theorem PySem.Challenge.cw_LID_holds : PySem.Challenge.rw_LID.Holds := by
 w_on; o_law; k_head; (case hw=>w_witness2)
 k_fill
 refine L2.Gp (l:=PySem.Challenge.rw_LID) (n:=63) (k:=40) (x:="script") (CX:=fun w=>..) (sp:=fun _=>My.abf) rfl (by decide) rfl ⟨rfl,by decide,by decide⟩ (fun w h Y=>PySem.W.kIn_of Y) ?F ?S ?C
 case F =>
  intro w mg fa h KX G hmg
  have T:∃ t,My.Txt (L2.KOf KX) t:=by
   dsimp only [L2.KOf] -- K must stand as «<heap const> w.params» for k_is
   refine' My.Vj ?e1 ?e2 ?e3 ..
   (case e1=>PySem.W.k_is) -- in the order: a name -> its address -> its object -> its parts
   (case e2=>PySem.W.k_is)
   ..
  obtain ⟨t,T⟩:=T
  have e0:=hmg.symm.trans (PySem.W.mg_of KX G T.law)
  cases e0 -- fa is the law's own address
  exact ⟨_,fun s u=>.of_eq rfl,fun base kb nb=>My.Fe T kb nb⟩ -- if «.of_eq rfl» comes too early: refine' ⟨_,?b,fun base kb nb=>My.Fe T kb nb⟩; exact fun s u=>.of_eq rfl
 case S=>exact fun w H a ns hl hO hS=>..
 case C=>exact ..
(the tactic k_is has no namespace: write k_is) -/
namespace L2
open PySem PySem.Spec PyProof.Rows
noncomputable def inClass (s:Stmt) (j:Nat):Stmt:=match s with
 | .ClassDef _ _ _ body _ _ _ _ _ _ _=>body.getD j (.Pass ⟨0,0,0,0⟩)
 | _=>.Pass ⟨0,0,0,0⟩
noncomputable def eZ (s:Stmt):Arguments:=match s with
 | .FunctionDef _ a _ _ _ _ _ _ _ _=>a
 | _=>{ posonlyargs:=[],args:=[],vararg:=none,kwonlyargs:=[],kw_defaults:=[],kwarg:=none,defaults:=[] }
noncomputable def aU (s:Stmt):List Stmt:=match s with
 | .FunctionDef _ _ b _ _ _ _ _ _ _=>b
 | _=>[]
noncomputable def aB (s:Stmt):Scope:=match s with
 | .FunctionDef _ _ _ _ _ _ sc _ _ _=>sc
 | _=>{ kind:=.function,names:=[],isGenerator:=false,isCoroutine:=false }
noncomputable abbrev CX0:HS:=fun _ _ _ _ _ _=>False
noncomputable abbrev E0:XK:=fun _ _ _=>False
structure J5 (K:PySem.W.Frag) (x qual:Str) (st:Stmt) (f:Addr) (fd:FuncData):Prop where
 ex:∃ (oc:Value) (od:Option Addr) (kV doc pm:Value) (an:Option Addr) (cdv ct:Value) (osl:Array (Option Value)),
  fd=PySem.W.fnOf x qual (eZ st) (aU st) (aB st) .none kV doc pm an cdv ct/\K.lookup f=some ⟨oc,od,.func fd,osl⟩/\PySem.W.codeIn K cdv qual=true
 kp:PySem.W.keepIn K (.ref f)=true
section
variable {P:Program} {w:World} {K:PySem.W.Frag} {mg:Str->Option Value} {base:Heap}
theorem J5.ok {x qual:Str} {st:Stmt} {f:Addr} {fd:FuncData} {N ps:List Str} {k:Nat} {sp:Sp} (F:J5 K x qual st f fd) (S:dz N ps (aB st)) (len:∀ vs H Q E,sp vs H Q E->vs.length=ps.length)
  (hbody:∀ (cdv:Value) (A:Around) (outer:List Env) (s:Shared) (H:Hp) (vs:List V) (Q:VK) (E:XK),bM k (A.deeper (envOfC qual (aB st) s.heap.objs.size f cdv))->sp vs H Q E ->
   ∃ t,yF (wX CX0 P w K mg base N qual (aB st) f cdv A outer s H E).Ue (aU st) t/\t { nx:=fun _ H'=>Q .non H',rt:=Q } (start N vs) H):cD P w K mg base CX0 (k + 1) f fd ps sp:=by
 obtain ⟨oc,od,kV,doc,pm,an,cdv,ct,osl,rfl,lk,hcd⟩:=F.ex
 refine Us lk hcd S len fun A outer s H vs Q E hr hsp=>?_
 obtain ⟨t,h,q⟩:=hbody cdv A outer s H vs Q E hr hsp
 exact ⟨t,h.Ue,q⟩
theorem J5.binds {x qual:Str} {st:Stmt} {f:Addr} {fd:FuncData} {ps:List Str} (F:J5 K x qual st f fd)
  (h:∀ (kV doc pm:Value) (an:Option Addr) (cdv ct:Value) (us:List Value),us.length=ps.length->bindArgs (PySem.W.fnOf x qual (eZ st) (aU st) (aB st) .none kV doc pm an cdv ct) ⟨us,[]⟩=pure (ps.zip us)):Binds K fd ps []:=by
 obtain ⟨oc,od,kV,doc,pm,an,cdv,ct,osl,rfl,lk,hcd⟩:=F.ex
 exact .all (h kV doc pm an cdv ct)
theorem Oq {x qual:Str} {st:Stmt} {f:Addr} {oc:Value} {od an:Option Addr} {osl:Array (Option Value)} {kV doc pm cdv ct:Value} (l:K.lookup f=some ⟨oc,od,.func (PySem.W.fnOf x qual (eZ st) (aU st) (aB st) .none kV doc pm an cdv ct),osl⟩)
  (c:PySem.W.codeIn K cdv qual=true) (k:PySem.W.keepIn K (.ref f)=true):J5 K x qual st f (PySem.W.fnOf x qual (eZ st) (aU st) (aB st) .none kV doc pm an cdv ct):=⟨⟨oc,od,kV,doc,pm,an,cdv,ct,osl,rfl,l,c⟩,k⟩
end
section
variable {X:Cx}
end
noncomputable def Same (H H':Hp):Prop:=∀ b o,H b=some o->H' b=some o
theorem Same.refl (H:Hp):Same H H:=fun _ _ h=>h
theorem Same.trans {H H1 H2:Hp} (a:Same H H1) (b:Same H1 H2):Same H H2:=fun c o h=>b c o (a c o h)
theorem Same.free {H H':Hp} (e:Same H H') {l:Addr} (h:H' l=Option.none):H l=Option.none:=by
 cases q:H l with
 | none=>rfl
 | some o =>
  rw [e l o q] at h
  cases h
theorem Same.seq {K:PySem.W.Frag} {H H':Hp} {a:Addr} {xs:List V} (e:Same H H') (h:f9 K H a xs):f9 K H' a xs:=by
 rcases h with (h | ⟨o,h⟩) | h
 ·exact .inl (.inl (e _ _ h))
 ·exact .inl (.inr ⟨o,e _ _ h⟩)
 ·exact .inr h
end L2
end
section
namespace L2
open PySem PySem.Spec PyProof.Rows
section
variable {κ:Type} [DecidableEq κ]
noncomputable def qe (kvs:List (κ×V)) (k:κ):Option V:=(kvs.find? fun kv=>decide (kv.1=k)).map (·.2)
noncomputable def putK (kvs:List (κ×V)) (k:κ) (v:V):List (κ×V) :=
 if (kvs.any fun kv=>decide (kv.1=k))=true then kvs.map (fun kv=>if kv.1=k then (kv.1,v) else kv) else kvs ++ [(k,v)]
noncomputable def Ut (kvs:List (κ×V)) (k:κ):List (κ×V):=kvs.filter fun kv=>decide (kv.1≠k)
theorem oM {p:κ×V} {r:List (κ×V)} {k:κ} (e:p.1=k):qe (p :: r) k=some p.2:=by simp [qe,List.find?_cons,e]
theorem oN {p:κ×V} {r:List (κ×V)} {k:κ} (e:¬ p.1=k):qe (p :: r) k=qe r k:=by simp [qe,List.find?_cons,e]
theorem Ar (k:κ):∀ kvs:List (κ×V),(kvs.any fun kv=>decide (kv.1=k))=(qe kvs k).isSome
 | []=>rfl
 | p :: r=>by
  rw [List.any_cons]
  by_cases e:p.1=k
  ·simp only [oM e,decide_eq_true e,Bool.true_or,Option.isSome_some]
  ·rw [oN e,decide_eq_false e,Bool.false_or]; exact Ar k r
theorem rE (kvs:List (κ×V)) (k:κ) (v:V):(putK kvs k v).length<=kvs.length + 1:=by
 unfold putK
 split
 ·rw [List.length_map]; lia
 ·rw [List.length_append,List.length_cons,List.length_nil]; lia
theorem jP.Jr {o:Option V} {u:Option Value} (r:jP o u):o.isSome=u.isSome:=by
 cases o with
 | none=>cases u with
  | none=>rfl
  | some _=>exact (show False from r).elim
 | some _=>cases u with
  | none=>exact (show False from r).elim
  | some _=>rfl
theorem jP.getD {o:Option V} {u:Option Value} {d:V} {d':Value} (r:jP o u) (rd:RelV d d'):RelV (o.getD d) (u.getD d'):=by
 cases o with
 | none=>cases u with
  | none=>exact rd
  | some _=>exact (show False from r).elim
 | some _=>cases u with
  | none=>exact (show False from r).elim
  | some _=>exact r
theorem KV.val {kvs:List (κ×V)} {vs:List (κ×Value)} (r:KV kvs vs) (k:κ):jP (qe kvs k) (valueAt vs k):=by
 unfold KV at r
 induction r with
 | nil=>exact True.intro
 | @cons p q ps qs h t ih =>
  obtain ⟨h1,h2⟩:=h
  by_cases e:p.1=k
  ·have e':q.1=k:=h1.symm.trans e
   have b:valueAt (q :: qs) k=some q.2:=by simp [valueAt,List.find?_cons,e']
   rw [oM e,b]; exact h2
  ·have e':¬ q.1=k:=fun z=>e (h1.trans z)
   have b:valueAt (q :: qs) k=valueAt qs k:=by simp [valueAt,List.find?_cons,e']
   rw [oN e,b]; exact ih
theorem KV.any {kvs:List (κ×V)} {vs:List (κ×Value)} (r:KV kvs vs) (k:κ):(kvs.any fun kv=>decide (kv.1=k))=vs.any fun kv=>decide (kv.1=k):=by
 unfold KV at r
 induction r with
 | nil=>rfl
 | cons h t ih=>rw [List.any_cons,List.any_cons,ih,h.1]
theorem KV.repl {kvs:List (κ×V)} {vs:List (κ×Value)} (r:KV kvs vs) (k:κ) {y:V} {u:Value} (ry:RelV y u) :
  KV (kvs.map fun kv=>if kv.1=k then (kv.1,y) else kv) (vs.map fun kv=>if kv.1=k then (kv.1,u) else kv):=by
 unfold KV at r ⊢
 induction r with
 | nil=>exact .nil
 | @cons p q ps qs h t ih =>
  rw [List.map_cons,List.map_cons]
  refine .cons ?_ ih
  obtain ⟨h1,h2⟩:=h
  by_cases e:p.1=k
  ·rw [if_pos e,if_pos (h1.symm.trans e)]; exact ⟨h1,ry⟩
  ·rw [if_neg e,if_neg (fun z=>e (h1.trans z))]; exact ⟨h1,h2⟩
theorem KV.put {kvs:List (κ×V)} {vs:List (κ×Value)} (r:KV kvs vs) (k:κ) {y:V} {u:Value} (ry:RelV y u):KV (putK kvs k y) (stored vs k u):=by
 unfold putK stored
 rw [r.any k]
 by_cases e:(vs.any fun kv=>decide (kv.1=k))=true
 ·rw [if_pos e,if_pos e]; exact r.repl k ry
 ·rw [if_neg e,if_neg e]; exact Paired.snoc r ⟨rfl,ry⟩
theorem KV.drop {kvs:List (κ×V)} {vs:List (κ×Value)} (r:KV kvs vs) (k:κ):KV (Ut kvs k) (without vs k):=by
 unfold KV at r ⊢
 unfold Ut without
 induction r with
 | nil=>exact .nil
 | @cons p q ps qs h t ih =>
  obtain ⟨h1,h2⟩:=h
  rw [List.filter_cons,List.filter_cons]
  by_cases e:p.1=k
  ·have a:¬ decide (p.1≠k)=true:=by simp [e]
   have b:¬ decide (q.1≠k)=true:=by simp [h1.symm.trans e]
   rw [if_neg a,if_neg b]; exact ih
  ·have e':¬ q.1=k:=fun z=>e (h1.trans z)
   have a:decide (p.1≠k)=true:=by simp [e]
   have b:decide (q.1≠k)=true:=by simp [e']
   rw [if_pos a,if_pos b]; exact .cons ⟨h1,h2⟩ ih
theorem KV.length {kvs:List (κ×V)} {vs:List (κ×Value)} (r:KV kvs vs):kvs.length=vs.length:=Paired.length r
end
theorem NT {P:Program} {w:World} {k:Key} {u:Value} (r:RelV (kV k) u):(cP P w).is k u=true:=by
 cases k with
 | inl i=>obtain ⟨t,e⟩:=(show ∃ t,u=Value.int i t from r); subst e; exact Cd P w i t
 | inr x=>obtain ⟨t,e⟩:=(show ∃ t,u=Value.str x t from r); subst e; exact BZ P w x t
theorem xZ {P:Program} {w:World}:∀ {ks:List Key} {us:List Value},Vals (ks.map kV) us->ItemsAre (cP P w) ks us
 | [],_,r=>by rw [List.map_nil] at r; cases r; exact .nil
 | k :: ks,_,r=>by
  rw [List.map_cons] at r
  cases r with
  | cons h t=>exact .cons (NT h) (xZ t)
noncomputable abbrev KT (H:Hp):List (List Key×V)->List (List Key×Addr×Value)->Prop:=Paired fun p q=>p.1=q.1/\H q.2.1=some (.tup (p.1.map kV))/\RelV p.2 q.2.2
theorem KT.val {H:Hp} {kvs:List (List Key×V)} {xs:List (List Key×Addr×Value)} (r:KT H kvs xs) (k:List Key):jP (qe kvs k) ((atKey xs k).map (·.2)):=by
 induction r with
 | nil=>exact True.intro
 | @cons p q ps qs h t ih =>
  obtain ⟨h1,_,h2⟩:=h
  by_cases e:p.1=k
  ·have e':q.1=k:=h1.symm.trans e
   have b:atKey (q :: qs) k=some q.2:=by simp [atKey,List.find?_cons,e']
   rw [oM e,b]; exact h2
  ·have e':¬ q.1=k:=fun z=>e (h1.trans z)
   have b:atKey (q :: qs) k=atKey qs k:=by simp [atKey,List.find?_cons,e']
   rw [oN e,b]; exact ih
theorem KT.repl {H:Hp} {kvs:List (List Key×V)} {xs:List (List Key×Addr×Value)} (r:KT H kvs xs) (k:List Key) {y:V} {u:Value} (ry:RelV y u) :
  KT H (kvs.map fun kv=>if kv.1=k then (kv.1,y) else kv) (xs.map (putAt k u)):=by
 induction r with
 | nil=>exact .nil
 | @cons p q ps qs h t ih =>
  rw [List.map_cons,List.map_cons]
  refine .cons ?_ ih
  obtain ⟨h1,h2,h3⟩:=h
  unfold putAt
  by_cases e:p.1=k
  ·rw [if_pos e,if_pos (h1.symm.trans e)]; exact ⟨h1,h2,ry⟩
  ·rw [if_neg e,if_neg (fun z=>e (h1.trans z))]; exact ⟨h1,h2,h3⟩
theorem KT.put {H:Hp} {kvs:List (List Key×V)} {xs:List (List Key×Addr×Value)} (r:KT H kvs xs) (k:List Key) {b:Addr} {y:V} {u:Value} (hb:H b=some (.tup (k.map kV))) (ry:RelV y u) :
  KT H (putK kvs k y) (storedH xs k b u):=by
 have e:(kvs.any fun kv=>decide (kv.1=k))=(atKey xs k).isSome:=by
  rw [Ar,(r.val k).Jr,Option.isSome_map]
 unfold putK storedH
 rw [e]
 by_cases q:(atKey xs k).isSome=true
 ·rw [if_pos q,if_pos q]; exact r.repl k ry
 ·rw [if_neg q,if_neg q]; exact Paired.snoc r ⟨rfl,hb,ry⟩
theorem KT.keeps {H H':Hp} {kvs:List (List Key×V)} {xs:List (List Key×Addr×Value)} (r:KT H kvs xs) (ht:∀ b ys,H b=some (.tup ys)->H' b=some (.tup ys)):KT H' kvs xs :=
 Paired.Wc r fun _ _ z=>⟨z.1,ht _ _ z.2.1,z.2.2⟩
section
variable {P:Program} {w:World} {H:Hp} {h:Heap} {a:Addr}
theorem T8 {u:HO} (ok:mR P w H h) (e:Rd H a u):bR P w H h a u:=e.ok ok
theorem OJ {kvs:List (Key×V)} (ok:mR P w H h) (e:Rd H a (.dK kvs)):kvs.length<=sizeLine/\(a == sysModules)=false/\∃ vs,KV kvs vs/\h.DictOf (cP P w) a vs :=
 show bR P w H h a (.dK kvs) from T8 ok e
theorem ZD {kvs:List (Key×V)} (ok:mR P w H h) (e:H a=some (.dK kvs)):kvs.length<=sizeLine/\(a == sysModules)=false/\∃ vs,KV kvs vs/\h.DictOf (cP P w) a vs:=OJ ok (.inl e)
theorem Fg {ks:List Key} (ok:mR P w H h) (e:H a=some (.tup (ks.map kV))):(tupleKind (cP P w)).is h ks a:=by
 obtain ⟨_,its,r,o,h1,h2,n,h3,_⟩:=(show bR P w H h a (.tup (ks.map kV)) from ok a _ e)
 exact ⟨o,its.toArray,n,h1,h2,h3,by simpa using xZ r⟩
theorem Ov {kvs:List (List Key×V)} (ok:mR P w H h) (e:Rd H a (.dT kvs)):kvs.length<=sizeLine/\(a == sysModules)=false /\
  ∃ xs,KT H kvs xs/\h.DictOfH (tupleKind (cP P w)) a xs:=by
 obtain ⟨z,y,xs,r,o,es,ep,h1,h2,h3,h4,h5⟩:=(show bR P w H h a (.dT kvs) from T8 ok e)
 refine ⟨z,y,xs,r,o,es,ep,h1,h2,h3,h4,fun x hx=>?_,h5⟩
 have all:∀ {l:List (List Key×V)} {m:List (List Key×Addr×Value)},KT H l m->∀ x∈m,(tupleKind (cP P w)).is h x.1 x.2.1:=by
  intro l m q
  induction q with
  | nil=>intro x hx; exact nomatch hx
  | @cons p q ps qs hq t ih =>
   intro x hx
   rcases List.mem_cons.mp hx with e | hx
   ·subst e
    exact Fg ok (by rw [<- hq.1]; exact hq.2.1)
   ·exact ih x hx
 exact all r x hx
theorem Zz {kvs:List (List Key×V)} (ok:mR P w H h) (e:H a=some (.dT kvs)):kvs.length<=sizeLine/\(a == sysModules)=false /\
  ∃ xs,KT H kvs xs/\h.DictOfH (tupleKind (cP P w)) a xs:=Ov ok (.inl e)
end
noncomputable def Aj (H:Hp) (a:Addr) (y:V) (r:Option V):Prop :=
 (∃ kvs k,Rd H a (.dK kvs)/\y=kV k/\r=qe kvs k)∨∃ kvs k b,Rd H a (.dT kvs)/\y = .ref b/\H b=some (.tup (k.map kV))/\r=qe kvs k
noncomputable def Ai (H:Hp) (a:Addr) (y v:V) (H':Hp):Prop :=
 (∃ kvs k,H a=some (.dK kvs)/\y=kV k/\kvs.length < sizeLine/\H'=upd H a (.dK (putK kvs k v))) ∨
 ∃ kvs k b,H a=some (.dT kvs)/\y = .ref b/\H b=some (.tup (k.map kV))/\kvs.length < sizeLine/\H'=upd H a (.dT (putK kvs k v))
theorem Aj.k {H:Hp} {a:Addr} {kvs:List (Key×V)} {k:Key} (e:H a=some (.dK kvs)):Aj H a (kV k) (qe kvs k):=.inl ⟨kvs,k,.inl e,rfl,rfl⟩
theorem Aj.t {H:Hp} {a b:Addr} {kvs:List (List Key×V)} {k:List Key} (e:H a=some (.dT kvs)) (eb:H b=some (.tup (k.map kV))):Aj H a (.ref b) (qe kvs k):=.inr ⟨kvs,k,b,.inl e,rfl,eb,rfl⟩
theorem Ai.k {H:Hp} {a:Addr} {kvs:List (Key×V)} {k:Key} {v:V} (e:H a=some (.dK kvs)) (hl:kvs.length < sizeLine):Ai H a (kV k) v (upd H a (.dK (putK kvs k v))):=.inl ⟨kvs,k,e,rfl,hl,rfl⟩
theorem Ai.t {H:Hp} {a b:Addr} {kvs:List (List Key×V)} {k:List Key} {v:V} (e:H a=some (.dT kvs)) (eb:H b=some (.tup (k.map kV))) (hl:kvs.length < sizeLine) :
  Ai H a (.ref b) v (upd H a (.dT (putK kvs k v))):=.inr ⟨kvs,k,b,e,rfl,eb,hl,rfl⟩
section
variable {X:Cx} {pins:List (Addr×Obj)} {σ:St} {H:Hp} {s:Shared} {a:Addr} {y v:V} {u r:Value} {o:Option V} {A:Around} {E:Value->Shared->Prop}
theorem Inv.big (I:Inv X pins σ H s):sysModules < s.heap.objs.size:=by
 have h:mainGlobals < s.heap.objs.size:=(I.mod.glob.keeps I.bk).lt
 exact Nat.lt_trans (by decide) h
theorem JL {Q:Value->Shared->Prop} (hu:A.units + 1 < cLine) (I:Inv X pins σ H s) (g:Aj H a y (some v)) (ry:RelV y u) (h:∀ w' s',Inv X pins σ H s'->RelV v w'->Q w' s') :
  wpAny (model X.prog X.w) A (getItem (.ref a) u) Q E s:=by
 rcases g with ⟨kvs,k,e,ey,l⟩ | ⟨kvs,k,b,e,ey,eb,l⟩
 ·subst ey
  obtain ⟨z,hd,vs,rel,dd⟩:=OJ I.hok e
  obtain ⟨w',hw,QL⟩:=jP.some_of (v:=v) (o:=valueAt vs k) (by rw [l]; exact rel.val k)
  exact wpAny_getItem_of (NT ry) dd.mapOf hw (h w' _ (I.tok _) QL)
 ·subst ey
  cases (show u=Value.ref b from ry)
  obtain ⟨z,hd,xs,rel,dd⟩:=Ov I.hok e
  obtain ⟨w',hw,QL⟩:=jP.some_of (v:=v) (o:=(atKey xs k).map (·.2)) (by rw [l]; exact rel.val k)
  obtain ⟨p,hp,hp2⟩:=Option.map_eq_some_iff.mp hw
  refine wpAny_getItem_heap (tupleKind_room_in1 hu) (Fg I.hok eb) dd hp ?_
  rw [hp2]
  exact h w' _ (I.tok _) QL
theorem HD {h':Heap} {t':Nat} {ob:HO} (I:Inv X pins σ H s) (mu:ZW (H a)) (hs:Heap.SameBut a s.heap h') (he:∃ q,h'.get? a=some q) (new:bR X.prog X.w (upd H a ob) h' a ob) :
  Inv X pins σ (upd H a ob) { s with heap:=h',toks:=t' } :=
 I.write (x:=a) (e:=a) mu (.inl rfl) (fun b q hb z=>(hs.2 b hb).trans z) he new
theorem Xg {P:Program} {w:World} {H':Hp} {h':Heap} {kvs:List (Key×V)} {vs:List (Key×Value)} (z:kvs.length<=sizeLine) (hd:(a == sysModules)=false) (rel:KV kvs vs) (dd:h'.DictOf (cP P w) a vs) :
  bR P w H' h' a (.dK kvs):=⟨z,hd,vs,rel,dd⟩
theorem JK {H':Hp} {Q:Unit->Shared->Prop} (hu:A.units + 1 < cLine) (I:Inv X pins σ H s) (g:Ai H a y v H') (ry:RelV y u) (rv:RelV v r) (h:∀ s',Inv X pins σ H' s'->Q () s') :
  wpAny (model X.prog X.w) A (setItem (.ref a) u r) Q E s:=by
 rcases g with ⟨kvs,k,e,ey,l,eH⟩ | ⟨kvs,k,b,e,ey,eb,l,eH⟩
 ·subst ey eH
  obtain ⟨z,hd,vs,rel,dd⟩:=ZD I.hok e
  have hz:vs.length<=sizeLine:=by rw [<- rel.length]; exact z
  have hl:(putK kvs k v).length<=sizeLine:=by have:=rE kvs k v; lia
  refine wpAny_setItem_pairs (hsz:=hz) (NT ry) dd fun h' dd' hs=>h _ ?_
  have he:∃ q,h'.get? a=some q:=let ⟨q,_,_,hq,_⟩:=dd'; ⟨q,hq⟩
  exact HD I (by rw [e]; exact True.intro) hs he (Xg hl hd (rel.put k rv) dd')
 ·subst ey eH
  cases (show u=Value.ref b from ry)
  obtain ⟨z,hd,xs,rel,dd⟩:=Zz I.hok e
  have hz:xs.length<=sizeLine:=by rw [<- Paired.length rel]; exact z
  have hl:(putK kvs k v).length<=sizeLine:=by have:=rE kvs k v; lia
  refine wpAny_setItem_heap (hsz:=hz) (tupleKind_room_in1 hu) (Fg I.hok eb) dd fun h' dd' hs=>h _ ?_
  obtain ⟨q,es,ep,hq,h2,h3,h4,_,h5⟩:=dd'
  refine HD I (by rw [e]; exact True.intro) hs ⟨q,hq⟩ ⟨hl,hd,_,(rel.put k eb rv).keeps fun c ys ec=>?_,q,es,ep,hq,h2,h3,h4,h5⟩
  rw [aL (Y4 ec e (fun z=>nomatch z))]
  exact ec
end
section
variable {X:Cx} {pins:List (Addr×Obj)} {σ:St} {H:Hp} {s:Shared} {a:Addr} {kvs:List (Key×V)} {k:Key} {u:Value} {A:Around} {E:Value->Shared->Prop}
end
noncomputable def ZV (i:Expr):Prop:=∀ ov iv,subscripted i false ov iv=operate [ov,iv] (getItem ov iv)
theorem QG {prog:Program} {w:World} {A:Around} {E:Value->Shared->Prop} {s:Shared} {env:Env} {value slice:Expr} {pos:Pos} {T id:String} {Q:Value->Shared->Prop}
  (hl:typeLookup (.type T) "__getitem__" = pure (some (.builtin id))) (hs:ZV slice)
  (h:wpAny (model prog w) A (eval value env) (fun o s₁=>wpAny (model prog w) A (eval slice env) (fun i s₂=>s₂.TypeIs o T/\wpAny (model prog w) A (getItem o i) Q E s₂) E s₁) E s) :
  wpAny (model prog w) A (eval (.Subscript value slice pos) env) Q E s:=by
 refine Subscript_ (wpAny_mono h (fun o s₁ h₁=>wpAny_mono h₁ (fun i s₂ h₂=>?_) fun _ _ x=>x) fun _ _ x=>x)
 obtain ⟨hT,h₂⟩:=h₂
 unfold subscriptTail
 refine wpAny_bind ?_
 rw [getitemInPython_of_ne hT.not_modules]
 refine wpAny_bind (wpAny_specialOf hT hl ?_)
 have fin:wpAny (model prog w) A (subscripted slice false o i) (fun r s₃=>wpAny (model prog w) A (letTemporaryGo value o r >>= fun _=>pure r) Q E s₃) E s₂:=by
  rw [hs o i]
  exact wpAny_operating (wpAny_mono h₂ (fun r s₃ h₃=>wpAny_bind (wpAny_letTemporaryGo (wpAny_pure h₃))) fun _ _ x=>x)
 first
  | exact wpAny_pure (wpAny_bind fin)
  | exact wpAny_bind (wpAny_pure (wpAny_bind fin))
  | exact wpAny_bind fin
theorem Dc {X:Cx} {pins:List (Addr×Obj)} {σ:St} {H:Hp} {s:Shared} {a:Addr} {y:V} {o:Option V} (I:Inv X pins σ H s) (g:Aj H a y o):s.TypeIs (.ref a) "dict":=by
 rcases g with ⟨kvs,k,e,_,_⟩ | ⟨kvs,k,b,e,_,_,_⟩
 ·obtain ⟨_,_,vs,_,dd⟩:=OJ I.hok e
  exact dd.typeIs
 ·obtain ⟨_,_,xs,_,dd⟩:=Ov I.hok e
  exact dd.typeIs
noncomputable def Yo (td ty:TE):TE:=fun σ H Q=>td σ H fun x H1=>ty σ H1 fun y H2=>∃ a v,x = .ref a/\Aj H2 a y (some v)/\Q v H2
noncomputable def Yw (td ty tv:TE):TS:=fun D σ H=>tv σ H fun v H1=>td σ H1 fun x H2=>ty σ H2 fun y H3=>∃ a H4,x = .ref a/\Ai H3 a y v H4/\D.nx σ H4
section
variable {X:Cx} {o i e value:Expr} {pos pos' tpos:Pos} {td ty tv:TE}
theorem Ro (hu:X.A.units + 1 < cLine) (ho:PE X o td) (hi:PE X i ty) (hs:ZV i):PE X (.Subscript o i pos) (Yo td ty):=by
 intro pins s σ H Q I h
 refine QG PySem.F.slot_dict_getitem.lookup hs (bG (ho pins s σ H _ I h) fun u s1 ⟨x,H1,I1,rx,q1⟩=>bG (hi pins s1 σ H1 _ I1 q1) fun iv s2 ⟨y,H2,I2,ry,a,v,ex,g,q2⟩=>?_)
 subst ex
 obtain rfl:u=Value.ref a:=rx
 exact ⟨Dc I2 g,JL hu I2 g ry fun w' s3 I3 QL=>⟨v,H2,I3,QL,q2⟩⟩
theorem Q6 (hu:X.A.units + 1 < cLine) (ho:PE X o td) (hi:PE X i ty) (hv:PE X value tv) (hs:swapsWith value (some (.Subscript o i pos')) pos.line X.env=pure false) :
  PS X (.Assign [.Subscript o i pos'] value pos) (Yw td ty tv):=by
 intro pins s σ H D I h
 refine wpAny_Assign_Subscript (bG (hv pins s σ H _ I h) fun r s1 ⟨v,H1,I1,rv,q1⟩=>bG (ho pins s1 σ H1 _ I1 q1) fun u s2 ⟨x,H2,I2,rx,q2⟩=>bG (hi pins s2 σ H2 _ I2 q2) fun iv s3 ⟨y,H3,I3,ry,a,H4,ex,g,q3⟩=>?_) hs
 subst ex
 obtain rfl:u=Value.ref a:=rx
 exact JK hu I3 g ry rv fun s4 I4=>⟨σ,H4,I4,q3⟩
end
theorem O1 {P:Program} {w:World} {H:Hp} (h:Heap) (hb:sysModules < h.objs.size):bR P w H (h.push { cls:=.type "dict",data:=.dict #[] }) h.objs.size (.dK []) :=
 ⟨Nat.zero_le _,beq_eq_false_iff_ne.mpr (Ne.symm (Nat.ne_of_lt hb)),[],.nil,Heap.DictOf.new h⟩
theorem Ow {P:Program} {w:World} {H:Hp} (h:Heap) (hb:sysModules < h.objs.size):bR P w H (h.push { cls:=.type "dict",data:=.dict #[] }) h.objs.size (.dT []) :=
 ⟨Nat.zero_le _,beq_eq_false_iff_ne.mpr (Ne.symm (Nat.ne_of_lt hb)),[],.nil,_,#[],0,Heap.get?_push_size _ rfl,⟨rfl,rfl,rfl⟩,rfl,rfl,List.nodup_nil⟩
noncomputable def Vq:TE:=fun _ H Q=>∀ p,H p=none->Q (.ref p) (upd H p (.dK []))
noncomputable def Vp:TE:=fun _ H Q=>∀ p,H p=none->Q (.ref p) (upd H p (.dT []))
section
variable {X:Cx} {pos:Pos}
theorem Mj:PE X (.Dict [] [] pos) Vq:=fun pins s σ H Q I h =>
 wpAny_Dict_empty ⟨.ref s.heap.objs.size,_,I.laid (a:=s.heap.objs.size) (o:=.dK []) (t':=s.toks) (fun _ _ q=>Heap.get?_push_of_some _ q) (Nat.le_refl _) (O1 s.heap I.big),rfl,h _ (I.hok.fresh (Nat.le_refl _))⟩
theorem Mi:PE X (.Dict [] [] pos) Vp:=fun pins s σ H Q I h =>
 wpAny_Dict_empty ⟨.ref s.heap.objs.size,_,I.laid (a:=s.heap.objs.size) (o:=.dT []) (t':=s.toks) (fun _ _ q=>Heap.get?_push_of_some _ q) (Nat.le_refl _) (Ow s.heap I.big),rfl,h _ (I.hok.fresh (Nat.le_refl _))⟩
end
noncomputable def Wb (kvs more:List (Key×V)):List (Key×V):=more.foldl (fun acc kv=>putK acc kv.1 kv.2) kvs
theorem KV.merge:∀ {more:List (Key×V)} {rs:List (Key×Value)} {kvs:List (Key×V)} {vs:List (Key×Value)},KV more rs->KV kvs vs->KV (Wb kvs more) (merged vs rs):=by
 intro more rs kvs vs r
 unfold KV at r
 induction r generalizing kvs vs with
 | nil=>intro q; exact q
 | @cons p q ps qs h t ih =>
  intro r0
  have e:KV (putK kvs p.1 p.2) (stored vs q.1 q.2):=by
   have:=r0.put p.1 h.2
   rw [<- h.1]; exact this
  exact ih e
section
variable {X:Cx} {pins:List (Addr×Obj)} {σ:St} {H:Hp} {s:Shared} {a:Addr} {y d:V} {u r:Value} {o:Option V} {A:Around} {E:Value->Shared->Prop}
end
section
variable {X:Cx} {o e f:Expr} {apos cpos:Pos} {td ty tx:TE}
end
section
variable {X:Cx} {pins:List (Addr×Obj)} {σ:St} {H:Hp} {s:Shared} {a:Addr} {kvs:List (Key×V)} {A:Around} {E:Value->Shared->Prop}
end
section
variable {X:Cx} {pins:List (Addr×Obj)} {σ:St} {H:Hp} {s:Shared} {a:Addr} {y:V} {u:Value} {A:Around} {E:Value->Shared->Prop}
end
end L2
end
section
namespace DW
open PySem PySem.Spec PyProof.Rows PyProof.Rows.KTD L2
noncomputable def Dd (K:PySem.W.Frag) (a:Addr):List (Str×Addr):=match K.lookup a with
 | some o=>(match o.data with
  | .dict es _=>es.toList.filterMap fun e=>(match e.key with | .str x _=>(match e.val with | .ref f=>some (x,f) | _=>none) | _=>none)
  | _=>[])
 | none=>[]
noncomputable def abj (f:Addr) (v:Value):Bool:=v == .ref f
noncomputable def Uu (K:PySem.W.Frag) (a:Addr):Bool:=tabLook abj (fun b=>K.lookup b) a (Dd K a) && (Dd K a).all fun p=>PySem.W.keepIn K (.ref p.2)
section
variable {prog:Program} {w:World} {A:Around} {E:Value->Shared->Prop} {s:Shared} {K:PySem.W.Frag} {a:Addr} {k:Str} {tk:Tok}
end
section
variable {X:Cx} {x:Str} {a:Addr} {i:Expr} {p pos:Pos} {ti:TE}
end
end DW
end
section
set_option maxHeartbeats 2000000
namespace DW
open PySem PySem.Spec PyProof.Rows L2
noncomputable def X7 (B:Heap) (e:Addr) (ob:Obj) (vs:Array Value) (fl:Value) (h:Heap):Prop :=
 ∃ T oT ts,h.get? e=some { ob with data:=.fields (vs.setIfInBounds 1 (.ref T)) }/\B.get? T=none/\T≠e/\h.get? T=some oT/\oT.data = .fields ts/\ts[3]? = some fl
structure wF (B:Heap) (l:List Env) (e:Addr) (ob:Obj) (vs:Array Value) (fl:Value) (h:Heap):Prop where
 stay:B.StaysIn h
 new:B.get? e=none
 Sx:h.FunFrames B l
 tr:X7 B e ob vs fl h
 two:2 < vs.size
theorem X7.there {B h:Heap} {e:Addr} {ob:Obj} {vs:Array Value} {fl:Value} (x:X7 B e ob vs fl h):∃ T,h.get? e=some { ob with data:=.fields (vs.setIfInBounds 1 (.ref T)) }:=let ⟨T,_,_,q,_⟩:=x; ⟨T,q⟩
theorem qp {h:Heap} {b e:Addr} {o oe:Obj} {vs:Array Value} (hb:h.get? b=some o) (hn:∀ vs,o.data≠.fields vs) (he:h.get? e=some oe) (hd:oe.data = .fields vs):b≠e:=fun z=>by
 subst z; rw [hb] at he; cases he; exact hn vs hd
theorem Er {B:Heap} {b e:Addr} {o:Obj} (hb:B.get? b=some o) (he:B.get? e=none):b≠e:=fun z=>by subst z; rw [hb] at he; cases he
section
variable {M:Model} {A:Around} {E:Value->Shared->Prop} {s:Shared} {B:Heap} {env:Env} {outer:List Env} {L e:Addr} {ob:Obj} {ws vs:Array Value} {Q:Unit->Shared->Prop}
theorem dH {h:Heap} {a:Addr} {f:Obj->Obj}:∀ b,b≠a->(h.update a f).get? b=h.get? b:=fun b hb=>Heap.get?_update_other _ _ (Ne.symm hb)
theorem Hz {hd:Value} {hn:Bool} (fr:A.frames=some (env :: outer)) (F:s.heap.FunFrames B (env :: outer)) (hf:env.frame=some L) (he:s.heap.get? e=some { ob with data:=.fields ws }) (st:B.StaysIn s.heap) (new:B.get? e=none)
  (z:2 < ws.size) (k:∀ h',wF B (env :: outer) e ob ws (rawInt L) h'->s.heap.UpToSlots h'->Q () { s with heap:=h' }) :
  wpAny M A (do let a <- frameOf env; let pl <- entryPlaceOf L hn; let b <- EntryCells.newEntry hd a .none (rawInt L) .none pl; setField (.ref e) 1 b) Q E s:=by
 have eo:e ∉ (env :: outer).filterMap (·.frame):=fun m=>let ⟨_,o,ho,nf⟩:=F.mem m; by rw [he] at ho; cases ho; exact nf ws rfl
 refine wpAny_bind (wpAny_frameOf_fun fr F hf fun g1 sl1=>wpAny_bind (wpAny_entryPlaceOf fun pl ip=>?_))
 unfold EntryCells.newEntry newFields
 refine wpAny_bind (wpAny_newObj_type ?_ (ip.sizeOk5 _ _ _ _ _))
 have e1:g1.get? e=some { ob with data:=.fields ws }:=by rw [sl1.2.1 e eo]; exact he
 have st1:B.StaysIn g1:=fun b o q=>by
  rw [sl1.2.1 b fun m=>(by rw [(F.mem m).1] at q; cases q)]; exact st b o q
 generalize hN:({ cls:=.type "traceback",dict:=none,data:=.fields ([hd,.ref L,.none,rawInt L,.none] ++ (if pl.isEmpty then List.replicate 6 Value.none else pl)).toArray }:Obj)=N
 have dN:N.data = .fields ([hd,.ref L,.none,rawInt L,.none] ++ (if pl.isEmpty then List.replicate 6 Value.none else pl)).toArray:=by rw [<- hN]
 have nN:N.isFreed=false:=by rw [<- hN]; rfl
 have lt:=Heap.lt_size e1
 have Te:g1.objs.size≠e:=Nat.ne_of_gt lt
 refine wpAny_setField (Heap.get?_push_of_some (h:=g1) N e1) rfl (by lia) (k _ ⟨?_,new,?_,?_,z⟩ ?_)
 ·intro b o q
  rw [dH b (Er q new)]
  exact Heap.get?_push_of_some _ (st1 b o q)
 ·refine F.of_keeps fun b o hb nf=>?_
  obtain ⟨sl,q⟩:=sl1.2.2 b o hb
  exact ⟨{ o with slots:=sl },by rw [dH b (qp hb nf he rfl)]; exact Heap.get?_push_of_some _ q,rfl⟩
 ·refine ⟨g1.objs.size,N,_,Heap.get?_update_self _ (Heap.get?_push_of_some (h:=g1) N e1) rfl,st1.fresh,Te,?_,dN,?_⟩
  ·rw [dH _ Te]; exact Heap.get?_push_size g1 nN
  ·rcases ip with rfl | ⟨_,_,_,_,_,_,_,rfl⟩ <;> simp
 ·intro b o hb nf
  obtain ⟨sl,q⟩:=sl1.2.2 b o hb
  exact ⟨sl,by rw [dH b (qp hb nf he rfl)]; exact Heap.get?_push_of_some _ q⟩
theorem La {x:Value} (z:2 < ws.size):(ws.setIfInBounds 1 x)[1]? = some x:=by
 rw [Array.getElem?_setIfInBounds]
 simp; lia
theorem set_same {x y:Value}:(ws.setIfInBounds 1 x).setIfInBounds 1 y=ws.setIfInBounds 1 y:=by simp
theorem V9 (fr:A.frames=some (env :: outer)) (F:s.heap.FunFrames B (env :: outer)) (hf:env.frame=some L) (he:s.heap.get? e=some { ob with data:=.fields ws }) (st:B.StaysIn s.heap) (new:B.get? e=none) (z:2 < ws.size)
  (h1:ws[1]? = some .none∨∃ T oT ts,ws[1]? = some (.ref T)/\B.get? T=none/\T≠e/\s.heap.get? T=some oT/\oT.data = .fields ts/\ts[3]? = some .none)
  (k:∀ h',wF B (env :: outer) e ob ws (rawInt L) h'->s.heap.UpToSlots h'->Q () { s with heap:=h' }):wpAny M A (noteFrame (.ref e) env) Q E s:=by
 unfold noteFrame
 simp only [hf]
 rcases h1 with h1 | ⟨T,oT,ts,h1,nT,ne,hT,dT,h3⟩
 ·refine wpAny_bind (wpAny_field he rfl h1 ?_)
  rw [if_neg (by decide)]
  exact Hz fr F hf he st new z k
 ·refine wpAny_bind (wpAny_field he rfl h1 ?_)
  rw [if_pos (by simp:(Value.ref T != Value.none)=true)]
  refine wpAny_bind (wpAny_field hT dT h3 ?_)
  rw [if_neg (by simp [rawInt]:¬ (Value.none == rawInt L)=true)]
  refine wpAny_bind (wpAny_setField hT dT (Array.getElem?_eq_some_iff.mp h3).1 ?_)
  refine Hz (s:={ s with heap:=s.heap.update T _ }) fr (F.of_keeps fun b o hb nf=>⟨o,by rw [dH b (qp hb nf hT dT)]; exact hb,rfl⟩) hf (by rw [dH e (Ne.symm ne)]; exact he) (fun b o q=>by rw [dH b (Er q nT)]; exact st b o q) new z fun h' x u=>k h' x ?_
  intro b o hb nf
  exact u b o (by rw [dH b (qp hb nf hT dT)]; exact hb) nf
theorem Wn {l:List Env} {fl:Value} (x:wF B l e ob vs fl s.heap) (k:∀ h',wF B l e ob vs .none h'->s.heap.UpToSlots h'->Q () { s with heap:=h' }):wpAny M A (setFlight (.ref e) none) Q E s:=by
 obtain ⟨st,new,F,⟨T,oT,ts,he,nT,ne,hT,dT,h3⟩,z⟩:=x
 unfold setFlight
 have z3:=(Array.getElem?_eq_some_iff.mp h3).1
 refine wpAny_bind (wpAny_field he rfl (x:=.ref T) (La z) ?_)
 rw [if_pos (by simp:(Value.ref T != Value.none)=true)]
 obtain ⟨c,d,dt,sl⟩:=oT
 cases dT
 refine wpAny_setField hT rfl z3 (k _ ⟨fun b o q=>by rw [dH b (Er q nT)]; exact st b o q,new,F.of_keeps fun b o hb nf=>⟨o,by rw [dH b (qp hb nf hT rfl)]; exact hb,rfl⟩,⟨T,_,_,by rw [dH e (Ne.symm ne)]; exact he,nT,ne,Heap.get?_update_self _ hT rfl,rfl,by simp [z3]⟩,z⟩ fun b o hb nf=>⟨o.slots,by rw [dH b (qp hb nf hT rfl)]; exact hb⟩)
theorem RV (fr:A.frames=some (env :: outer)) (F:s.heap.FunFrames B (env :: outer)) (hf:env.frame=some L) (he:s.heap.get? e=some { ob with data:=.fields ws }) (st:B.StaysIn s.heap) (new:B.get? e=none) (z:2 < ws.size)
  (h1:ws[1]? = some .none∨∃ T oT ts,ws[1]? = some (.ref T)/\B.get? T=none/\T≠e/\s.heap.get? T=some oT/\oT.data = .fields ts/\ts[3]? = some .none)
  (k:∀ h',wF B outer e ob ws .none h'->s.heap.UpToSlots h'->Q () { s with heap:=h' }):wpAny M A (leaving env (.ref e)) Q E s:=by
 unfold leaving
 refine wpAny_bind (V9 fr F hf he st new z h1 fun h' x u=>Wn (s:={ s with heap:=h' }) x fun h2 y v=>k h2 ⟨y.stay,y.new,?_,y.tr,y.two⟩ (u.trans v))
 obtain ⟨_,_,q⟩:=y.Sx
 exact q
theorem X7.re {x:Value} {h:Heap} {fl:Value} (y:X7 B e ob (vs.setIfInBounds 1 x) fl h):X7 B e ob vs fl h:=by
 obtain ⟨T,oT,ts,he,r⟩:=y
 rw [set_same] at he
 exact ⟨T,oT,ts,he,r⟩
theorem wF.re {l:List Env} {x:Value} {h:Heap} {fl:Value} (y:wF B l e ob (vs.setIfInBounds 1 x) fl h):wF B l e ob vs fl h:=⟨y.stay,y.new,y.Sx,y.tr.re,by have:=y.two; simpa using this⟩
theorem Nx (fr:A.frames=some (env :: outer)) (hf:env.frame=some L) (x:wF B (env :: outer) e ob vs .none s.heap) (k:∀ h',wF B outer e ob vs .none h'->s.heap.UpToSlots h'->Q () { s with heap:=h' }) :
  wpAny M A (leaving env (.ref e)) Q E s:=by
 obtain ⟨T,oT,ts,he,r⟩:=x.tr
 have z:=x.two
 exact RV fr x.Sx hf he x.stay x.new (by simpa using z) (.inr ⟨T,oT,ts,La z,r⟩) fun h' y u=>k h' y.re u
end
end DW
end
section
namespace DW
open PySem PySem.StrLaws PySem.Builtin PySem.Builtin.Str
end DW
end
section
namespace DW
open PySem
noncomputable abbrev j8:=Sum Int (List Nat)
inductive D where
 | non | bl (b:Bool) | int (i:Int) | str (x:List Nat)
 | tup (ds:List D) | lst (ds:List D) | ro (ds:List D) | loc (n:Nat) | j9 (ks:List j8) (ds:List D) | Dw (ks:List j8) (ds:List D)
inductive Cell where
 | lst (ds:List D) | ins (c:String) (fs:List (String×D)) | j9 (ks:List j8) (ds:List D) | yq (ks:List (List j8)) (ds:List D) | fdt (o:Obj) (ks:List (List j8)) (ds:List D) | exc (c:String) (ks:List String) (ds:List D) | gone | J4 | Xe (o:Obj) (ks:List j8) (ds:List D)
noncomputable abbrev Mem:=List Cell
noncomputable abbrev dM:=List (Option D)
noncomputable abbrev QD:=D->Mem->Prop
noncomputable abbrev cU:=List D->Mem->QD->Prop
noncomputable abbrev QX:=String->List String->List D->Mem->Prop
noncomputable abbrev rY:=List D->Mem->QD->QX->Prop
set_option genInjectivity false
mutual
inductive E where
 | var (i:Nat) | cst (d:D)
 | bin (op:Operator) (a b:E) | neg (a:E) | not (a:E)
 | cmp (op:CmpOp) (a b:E) | rR (neg:Bool) (a b:E) | chain (p q:CmpOp) (a b c:E)
 | and (a b:E) | or (a b:E) | Sh (c a b:E)
 | call (x:Str) (sp:cU) (as:Es) | blt (x:String) (as:Es)
 | isin (a:E) (t:String) (ks:Option (List (List Nat)):=none)
 | meth (m:String) (o:E) (as:Es)
 | idx (a b:E)
 | tup (as:Es) | lst (m:Bool) (as:Es)
 | comp (m:Bool) (tg:Nat) (tt:Bool) (cap:List Nat) (elt:E) (it:It) (cond:Es)
 | iz (a:E) (th:Option Nat:=none)
 | OD (t:Bool) | JH (o i:E)
 | cat (m:Bool) (a b:E)
 | fld (c f:String) (o:E) | lD (c m:String) (sp:cU) (o:E) (as:Es) | mk (c:String) (sp:cU) (as:Es)
inductive Es where
 | nil | cons (e:E) (es:Es)
inductive It where
 | seq (e:E) | rng (as:Es) | zip (a b:E) | enum (a:E) (t:Bool:=false) | X3 (a:E)
end
set_option genInjectivity true
set_option genInjectivity false
mutual
inductive S where
 | set (i:Nat) (e:E) | Ei (is:List Nat) (e:E)
 | dput (o i e:E) | rG (op:Operator) (o i e:E) | uG (o i e:E)
 | exp (e:E) | ret (e:E)
 | ite (c:E) (a b:Ss) | for_ (tg:List Nat) (tt:Bool) (it:It) (b:Ss) | whl (c:E) (b:Ss)
 | Br (c f:String) (o e:E) | JZ (c f:String) (op:Operator) (o e:E) | Qj
inductive Ss where
 | nil | cons (s:S) (r:Ss)
end
set_option genInjectivity true
noncomputable def b2i (b:Bool):Int:=if b then 1 else 0
mutual
noncomputable def flat:Nat->D->Bool
 | _,.non=>true
 | _,.bl _=>true
 | _,.int _=>true
 | _,.str x=>x.all (· < 1114112)
 | n + 1,.tup ds=>flats n ds
 | n + 1,.lst ds=>flats n ds
 | _,_=>false
noncomputable def flats:Nat->List D->Bool
 | _,[]=>true
 | n,d :: ds=>flat n d && flats n ds
end
mutual
noncomputable def jz:D->D->Bool
 | .non,e=>match e with | .non=>true | _=>false
 | .bl a,e=>match e with | .bl b=>a == b | .int j=>b2i a == j | _=>false
 | .int i,e=>match e with | .int j=>i == j | .bl b=>i == b2i b | _=>false
 | .str x,e=>match e with | .str y=>x == y | _=>false
 | .tup ds,e=>match e with | .tup es=>wV ds es | _=>false
 | .lst ds,e=>match e with | .lst es=>wV ds es | _=>false
 | .ro ds,_=>false
 | .loc _,_=>false
 | .j9 ks ds,e=>match e with | .j9 ls es=>decide (ks=ls) && wV ds es | _=>false
 | .Dw _ _,_=>false
noncomputable def wV:List D->List D->Bool
 | [],es=>es.isEmpty
 | d :: ds,es=>match es with | []=>false | e :: es=>jz d e && wV ds es
end
noncomputable def cT:List Nat->List Nat->Bool
 | _,[]=>false
 | [],_ :: _=>true
 | x :: xs,y :: ys=>if x=y then cT xs ys else decide (x < y)
noncomputable def XR:D->Bool
 | .int _=>true
 | .str _=>true
 | _=>false
mutual
noncomputable def sX:D->D->Option Bool
 | .int i,e=>match e with | .int j=>some (decide (i < j)) | _=>none
 | .str x,e=>match e with | .str y=>some (cT x y) | _=>none
 | .tup ds,e=>match e with | .tup es=>if (ds.all XR && es.all XR)=true then rM ds es else none | _=>none
 | _,_=>none
noncomputable def rM:List D->List D->Option Bool
 | [],es=>some (!es.isEmpty)
 | d :: ds,es=>match es with
  | []=>some false
  | e :: es=>if jz d e then rM ds es else sX d e
end
noncomputable abbrev Itm:=Int×List Nat
noncomputable def aQ (x:Itm):D:=.tup [.int x.1,.str x.2]
noncomputable def eE (x y:Itm):Bool:=if x.1=y.1 then cT x.2 y.2 else decide (x.1 < y.1)
noncomputable abbrev aY (l:List Itm):Prop:=l.Pairwise fun a b=>eE b a=false
noncomputable def aq (μ:Mem):D->Option (List D)
 | .lst ds=>some ds
 | .tup ds=>some ds
 | .ro ds=>some ds
 | .loc n=>match μ[n]? with | some (.lst ds)=>some ds | _=>none
 | _=>none
noncomputable def lenOf (μ:Mem):D->Option Nat
 | .str x=>some x.length
 | d=>(aq μ d).map (·.length)
noncomputable def bA (μ:Mem):D->Option (List D)
 | .tup _=>none
 | d=>aq μ d
noncomputable def truth (μ:Mem):D->Option Bool
 | .non=>some false
 | .bl b=>some b
 | .int i=>some (i != 0)
 | .j9 ks _=>some (ks.length != 0)
 | d=>(lenOf μ d).map (· != 0)
noncomputable def Jq (have_ want:String):Bool:=have_ == want || (have_ == "bool" && want == "int")
noncomputable def tyOf (μ:Mem):D->Option String
 | .non=>some "NoneType" | .bl _=>some "bool" | .int _=>some "int" | .str _=>some "str"
 | .tup _=>some "tuple" | .lst _=>some "list" | .j9 _ _=>some "dict" | .ro _=>none | .Dw _ _=>none
 | .loc n=>match μ[n]? with | some (.lst _)=>some "list" | some (.j9 _ _)=>some "dict" | some (.yq _ _)=>some "dict" | _=>none
noncomputable def tV (t:String) (d:D) (μ:Mem) (Q:QD):Prop:=match tyOf μ d with
 | some h=>Q (.bl (Jq h t)) μ
 | none=>False
noncomputable def Yg (ks:List (List Nat)) (d:D) (μ:Mem) (Q:QD):Prop:=match d with
 | .str t=>Q (.bl (ks.contains t)) μ
 | _=>False
noncomputable def dD (lo:Int) (n:Nat):List D:=(List.range n).map fun (k:Nat)=>D.int (lo + (k:Int))
noncomputable def n6 (n:Nat) (i:Int):Option Nat:=if 0<=i then (if i < n then some i.toNat else none) else if -(n:Int)<=i then some (i + n).toNat else none
noncomputable def lim:Nat:=16777216
noncomputable def newL (m:Bool) (ds:List D) (μ:Mem) (Q:QD):Prop:=match m with
 | true=>Q (.loc μ.length) (μ ++ [.lst ds])
 | false=>Q (.lst ds) μ
noncomputable def rH (i j:Int):Prop:=(-(2 ^ 64) < i/\i < 2 ^ 64)∨(-(2 ^ 64) < j/\j < 2 ^ 64)
noncomputable def rJ (j:Int):Prop:=0 < j/\j < 2 ^ 500
noncomputable def U0 (i j:Int):Prop:=0<=j/\j<=1000000/\i.natAbs < 2 ^ 64
noncomputable def gB (op:Operator) (x y:D) (μ:Mem) (Q:QD):Prop :=
 match x,y with
 | .int i,.int j=>match op with
  | .Add=>Q (.int (i + j)) μ
  | .Sub=>Q (.int (i - j)) μ
  | .Mult=>rH i j/\Q (.int (i * j)) μ
  | .FloorDiv=>rJ j/\Q (.int (i / j)) μ
  | .Mod=>0 < j/\Q (.int (i % j)) μ
  | .Pow=>U0 i j/\Q (.int (i ^ j.toNat)) μ
  | _=>False
 | .str a,.str b=>match op with
  | .Add=>a.length + b.length<=lim/\Q (.str (a ++ b)) μ
  | _=>False
 | .str a,.int k=>match op with
  | .Mult=>(0<=k/\k<=1000/\1<=a.length/\a.length<=1000)/\Q (.str (List.replicate k.toNat a).flatten) μ
  | _=>False
 | .lst a,.lst b=>match op with
  | .Add=>a.length + b.length<=lim/\Q (.lst (a ++ b)) μ
  | _=>False
 | .tup a,.tup b=>match op with
  | .Add=>a.length + b.length<=lim/\Q (.tup (a ++ b)) μ
  | _=>False
 | _,_=>False
noncomputable def bW (μ:Mem):Nat->D->D
 | 0,d=>d
 | n + 1,d=>match d with
  | .tup ds=>.tup (ds.map (bW μ n))
  | .lst ds=>.lst (ds.map (bW μ n))
  | .loc k=>match μ[k]? with | some (.lst ds)=>.lst (ds.map (bW μ n)) | _=>.loc k
  | d=>d
noncomputable def Kf (neg:Bool) (x y:D) (μ:Mem) (Q:QD):Prop:=flat 60 (bW μ 8 x)=true/\flat 60 (bW μ 8 y)=true/\Q (.bl (neg != jz (bW μ 8 x) (bW μ 8 y))) μ
noncomputable def gA:D->Bool
 | .non=>true
 | _=>false
noncomputable def zf:D->Option j8
 | .int i=>some (.inl i)
 | .str x=>some (.inr x)
 | _=>none
noncomputable def pA:List D->Option (List j8)
 | []=>some []
 | d :: ds=>match zf d with | some k=>(pA ds).map (k :: ·) | none=>none
noncomputable def dZ {κ:Type} [DecidableEq κ]:List κ->List D->κ->Option D
 | k' :: ks,d :: ds,k=>if k'=k then some d else dZ ks ds k
 | _,_,_=>none
noncomputable def Ye (d:D) (μ:Mem) (Q:QD):Prop:=False
noncomputable def U3 (n:Nat) (y:D) (μ:Mem) (Q:QD):Prop:=match μ[n]? with
 | some (.lst ds)=>(match y with | .lst []=>Q (.bl (!ds.isEmpty)) μ | _=>False)
 | _=>False
noncomputable def bK (op:CmpOp) (x y:D) (μ:Mem) (Q:QD):Prop :=
 match op with
 | .Eq=>flat 60 x=true/\flat 60 y=true/\Q (.bl (jz x y)) μ
 | .NotEq=>match x with
  | .loc n=>U3 n y μ Q
  | x=>flat 60 x=true/\flat 60 y=true/\Q (.bl (!jz x y)) μ
 | .Lt=>match sX x y with | some b=>Q (.bl b) μ | none=>False
 | .LtE=>match x,y with
  | .int i,.int j=>Q (.bl (decide (i<=j))) μ
  | .str a,.str b=>Q (.bl (!cT b a)) μ
  | _,_=>False
 | .Gt=>match x,y with
  | .int i,.int j=>Q (.bl (decide (j < i))) μ
  | _,_=>False
 | .GtE=>match x,y with
  | .int i,.int j=>Q (.bl (decide (j<=i))) μ
  | _,_=>False
 | .Is=>match y with | .non=>Q (.bl (gA x)) μ | .bl b=>(match x with | .bl a=>Q (.bl (a == b)) μ | _=>False) | _=>False
 | .IsNot=>match y with | .non=>Q (.bl (!gA x)) μ | .bl b=>(match x with | .bl a=>Q (.bl (a != b)) μ | _=>False) | _=>False
 | .In=>False
 | .NotIn=>False
noncomputable def lH:List D->Option (List Int)
 | []=>some []
 | .int i :: ds=>(lH ds).map (i :: ·)
 | _ :: _=>none
noncomputable def za:List String:=["len","abs","sum","max","min","mlist","divmod","dsorted"]
noncomputable def wB3 (b:String) (d e f:D) (μ:Mem) (Q:QD):Prop:=match b with
 | "min3"=>(match d,e,f with | .int i,.int j,.int k=>Q (.int (min (min i j) k)) μ | _,_,_=>False)
 | _=>False
theorem U4 {b:String} {d e f:D} {μ:Mem} {Q:QD} (hb:b≠"min3"):¬ wB3 b d e f μ Q:=by
 unfold wB3
 split
 ·exact absurd rfl hb
 ·exact id
noncomputable def aX (b:String) (ds:List D) (μ:Mem) (Q:QD):Prop :=
 match ds with
 | [d]=>match b with
  | "len"=>match lenOf μ d with | some n=>Q (.int n) μ | none=>Ye d μ Q
  | "abs"=>match d with | .int i=>Q (.int (if i < 0 then -i else i)) μ | _=>False
  | "sum"=>match (aq μ d).bind lH with | some r=>Q (.int r.sum) μ | none=>False
  | "max"=>match (bA μ d).bind lH with | some (i :: is)=>Q (.int (is.foldl max i)) μ | _=>False
  | "min"=>match (bA μ d).bind lH with | some (i :: is)=>Q (.int (is.foldl min i)) μ | _=>False
  | "mlist"=>match aq μ d with | some es=>newL true es μ Q | none=>False
  | "dsorted"=>match bA μ d with | some es=>∃ r:List Itm,es=r.map aQ/\r.length < 300/\∀ r':List Itm,r'.Perm r->aY r'->Q (.lst (r'.map aQ)) μ | none=>False
  | _=>False
 | [d,e]=>match b with
  | "divmod"=>match d,e with | .int i,.int j=>rJ j/\Q (.tup [.int (i / j),.int (i % j)]) μ | _,_=>False
  | "max"=>match d,e with | .int i,.int j=>Q (.int (if j > i then j else i)) μ | _,_=>False
  | "min"=>match d,e with | .int i,.int j=>Q (.int (if j < i then j else i)) μ | _,_=>False
  | _=>False
 | [d,e,f]=>wB3 b d e f μ Q
 | _=>False
noncomputable def eY {κ:Type} [DecidableEq κ] (ks:List κ) (k:κ):List κ:=if k∈ks then ks else ks ++ [k]
noncomputable def fD {κ:Type} [DecidableEq κ] (ks:List κ) (ds:List D) (k:κ) (d:D):List D:=if k∈ks then List.zipWith (fun k' d'=>if k'=k then d else d') ks ds else ds ++ [d]
noncomputable def Gq (x y:D) (μ:Mem) (Q:QD):Prop:=match x with
 | .loc n=>match μ[n]? with
  | some (.j9 ks ds)=>(match zf y with | some k=>(match dZ ks ds k with | some d=>Q d μ | none=>False) | none=>False)
  | some (.yq ks ds)=>(match y with | .tup es=>(match pA es with | some k=>(match dZ ks ds k with | some d=>Q d μ | none=>False) | none=>False) | _=>False)
  | _=>False
 | _=>False
noncomputable def Aq (x y v:D) (μ:Mem) (k:Mem->Prop):Prop:=match x with
 | .loc n=>match μ[n]? with
  | some (.j9 ks ds)=>(match zf y with | some q=>ks.length < lim/\k (μ.set n (.j9 (eY ks q) (fD ks ds q v))) | none=>False)
  | some (.yq ks ds)=>(match y with | .tup es=>(match pA es with | some q=>ks.length < lim/\k (μ.set n (.yq (eY ks q) (fD ks ds q v))) | none=>False) | _=>False)
  | _=>False
 | _=>False
noncomputable def DG (μ:Mem):D->Option (List D)
 | .lst ds=>some ds
 | .loc n=>match μ[n]? with | some (.lst ds)=>some ds | _=>none
 | _=>none
noncomputable def Qn (m:Bool) (x y:D) (μ:Mem) (Q:QD):Prop:=match DG μ x with
 | some as=>(match DG μ y with | some bs=>as.length + bs.length<=lim/\newL m (as ++ bs) μ Q | none=>False)
 | none=>False
noncomputable def lJ (μ:Mem) (c:String) (d:D):Option (Nat×List (String×D)):=match d with
 | .loc n=>match μ[n]? with | some (.ins c' fs)=>if c'=c then some (n,fs) else none | _=>none
 | _=>none
noncomputable def aR (f:String):List (String×D)->Option D
 | []=>none
 | (g,d) :: r=>if g=f then some d else aR f r
noncomputable def putD (f:String) (d:D):List (String×D)->List (String×D)
 | []=>[(f,d)]
 | (g,e) :: r=>if g=f then (g,d) :: r else (g,e) :: putD f d r
noncomputable def jB (c f:String) (x:D) (μ:Mem) (Q:QD):Prop:=match lJ μ c x with
 | some (_,fs)=>match aR f fs with | some d=>Q d μ | none=>False
 | none=>False
noncomputable def oG (c f:String) (x v:D) (μ:Mem) (k:Mem->Prop):Prop:=match lJ μ c x with
 | some (n,fs)=>fs.length < 1000/\k (μ.set n (.ins c (putD f v fs)))
 | none=>False
noncomputable def dY (μ:Mem) (c m:String) (x:D):Prop:=match lJ μ c x with
 | some (_,fs)=>aR m fs=none
 | none=>False
noncomputable def gO (op:Operator) (p q:D) (k:D->Prop):Prop:=match p,q with
 | .int i,.int j=>match op with | .Add=>k (.int (i + j)) | .Sub=>k (.int (i - j)) | _=>False
 | _,_=>False
noncomputable def isCell (μ:Mem):D->Bool
 | .loc n=>match μ[n]? with | some (.lst _)=>true | _=>false
 | _=>false
noncomputable def cV (m:String) (n:Nat) (xs:List D) (ds:List D) (μ:Mem) (Q:QD):Prop :=
 match ds with
 | []=>match m with
  | _=>False
 | [d]=>match m with
  | "append"=>xs.length < lim/\Q .non (μ.set n (.lst (xs ++ [d])))
  | _=>False
 | [.int k,d]=>match m with
  | "insert"=>0<=k/\k<=xs.length/\xs.length < lim/\Q .non (μ.set n (.lst (xs.take k.toNat ++ d :: xs.drop k.toNat)))
  | _=>False
 | _=>False
noncomputable def fP (m:String) (o:D) (ds:List D) (μ:Mem) (Q:QD):Prop :=
 match o with
 | .loc n=>match μ[n]? with
  | some (.lst xs)=>cV m n xs ds μ Q
  | _=>False
 | _=>False
noncomputable def cL (x y:D) (μ:Mem) (Q:QD):Prop :=
 match x,y with
 | x,.int i=>match aq μ x with
  | some ds=>match (n6 ds.length i).bind (ds[·]?) with | some d=>Q d μ | none=>False
  | none=>False
 | _,_=>False
noncomputable def DK (d:D) (μ:Mem) (Q:QD):Prop :=
 match d with
 | .loc n=>match μ[n]? with | some (.lst ds)=>Q (.lst ds) (μ.set n .gone) | _=>False
 | d=>Q d μ
noncomputable def iB (d:D) (μ:Mem) (Q:Bool->Mem->Prop):Prop:=match truth μ d with | some b=>Q b μ | none=>False
noncomputable def fU (d:D) (μ:Mem) (Q:Bool->Mem->Prop):Prop:=match d with | .bl b=>Q b μ | _=>False
noncomputable abbrev QI:=List D->(Mem->Prop)->Mem->Prop
noncomputable def yI (d:D) (μ:Mem) (Q:QI):Prop :=
 match d with
 | .lst ds=>Q ds (fun _=>True) μ
 | .tup ds=>Q ds (fun _=>True) μ
 | .ro ds=>Q ds (fun _=>True) μ
 | .loc n=>match μ[n]? with
  | some (.lst ds)=>Q ds (fun μ'=>μ'[n]? = some (.lst ds)) μ
  | _=>False
 | _=>False
noncomputable def rK (n:Nat) (ds:List D) (μ:Mem) (Q:QI):Prop :=
 match n,ds with
 | 1,[.int j]=>j<=lim/\-(2 ^ 62)<=j/\Q (dD 0 j.toNat) (fun _=>True) μ
 | 2,[.int i,.int j]=>(j - i<=lim/\-(2 ^ 62)<=i/\i < 2 ^ 62/\-(2 ^ 62)<=j/\j < 2 ^ 62)/\Q (dD i (j - i).toNat) (fun _=>True) μ
 | _,_=>False
noncomputable def jA:List D->List D->List D
 | a :: as,b :: bs=>.tup [a,b] :: jA as bs
 | _,_=>[]
noncomputable def Kd (x y:D) (μ:Mem) (Q:QI):Prop :=
 match bA μ x,bA μ y with
 | some as,some bs=>Q (jA as bs) (fun μ'=>bA μ' x=some as/\bA μ' y=some bs) μ
 | _,_=>False
noncomputable def cY (k:Nat):List D->List D
 | []=>[]
 | d :: ds=>.tup [.int (k:Int),d] :: cY (k + 1) ds
noncomputable def oK (x:D) (μ:Mem) (Q:QI):Prop:=match bA μ x with
 | some as=>Q (cY 0 as) (fun μ'=>bA μ' x=some as) μ
 | none=>False
noncomputable def Ke (x:D) (μ:Mem) (Q:QI):Prop:=match bA μ x with
 | some as=>Q as.reverse (fun μ'=>bA μ' x=some as) μ
 | none=>False
noncomputable def cZ (is:List Nat) (tt:Bool) (d:D) (ρ:dM) (k:dM->Prop):Prop :=
 match tt with
 | false=>match is with | [i]=>k (ρ.set i (some d)) | _=>False
 | true=>match d with | .tup ds=>ds.length=is.length/\k ((is.zip ds).foldl (fun r p=>r.set p.1 (some p.2)) ρ) | _=>False
noncomputable def bindC (n:Nat) (tt:Bool) (d:D) (r:dM) (k:dM->Prop):Prop :=
 match tt with
 | false=>k (some d :: r)
 | true=>match d with | .tup ds=>ds.length=n/\k (ds.map some ++ r) | _=>False
noncomputable def fQ (bnd:D->(dM->Prop)->Prop) (cw:dM->Mem->(Bool->Mem->Prop)->Prop) (ew:dM->Mem->QD->Prop) (g:Mem->Prop):List D->List D->Mem->(List D->Mem->Prop)->Prop
 | [],acc,μ,Q=>g μ/\Q acc μ
 | d :: ds,acc,μ,Q=>g μ/\bnd d fun ρ=>cw ρ μ fun b μ1=>if b=true then ew ρ μ1 fun v μ2=>fQ bnd cw ew g ds (acc ++ [v]) μ2 Q else fQ bnd cw ew g ds acc μ1 Q
noncomputable def j4:Es->Nat
 | .nil=>0
 | .cons _ es=>j4 es + 1
noncomputable def isB:E->Bool
 | .blt _ _=>true
 | _=>false
mutual
noncomputable def wE:E->dM->Mem->QD->Prop
 | .var i,ρ,μ,Q=>match ρ[i]? with | some (some d)=>Q d μ | _=>False
 | .cst d,_,μ,Q=>Q d μ
 | .bin op a b,ρ,μ,Q=>wE a ρ μ fun x μ1=>wE b ρ μ1 fun y μ2=>gB op x y μ2 Q
 | .neg a,ρ,μ,Q=>wE a ρ μ fun x μ1=>match x with | .int i=>Q (.int (-i)) μ1 | _=>False
 | .not a,ρ,μ,Q=>wE a ρ μ fun x μ1=>fU x μ1 fun b μ2=>Q (.bl (!b)) μ2
 | .cmp op a b,ρ,μ,Q=>wE a ρ μ fun x μ1=>wE b ρ μ1 fun y μ2=>bK op x y μ2 Q
 | .rR n a b,ρ,μ,Q=>wE a ρ μ fun x μ1=>wE b ρ μ1 fun y μ2=>Kf n x y μ2 Q
 | .chain p q a b c,ρ,μ,Q=>wE a ρ μ fun x μ1=>wE b ρ μ1 fun y μ2=>bK p x y μ2 fun r μ3=>fU r μ3 fun t μ3 =>
   if t=true then wE c ρ μ3 fun z μ4=>bK q y z μ4 Q else Q (.bl false) μ3
 | .and a b,ρ,μ,Q=>wE a ρ μ fun x μ1=>fU x μ1 fun t μ2=>if t=true then wE b ρ μ2 Q else Q (.bl false) μ2
 | .or a b,ρ,μ,Q=>wE a ρ μ fun x μ1=>fU x μ1 fun t μ2=>if t=true then Q (.bl true) μ2 else wE b ρ μ2 Q
 | .Sh c a b,ρ,μ,Q=>wT c ρ μ fun t μ1=>if t=true then wE a ρ μ1 Q else wE b ρ μ1 Q
 | .call _ sp as,ρ,μ,Q=>wEs as ρ μ fun ds μ1=>sp ds μ1 Q
 | .blt x as,ρ,μ,Q=>wEs as ρ μ fun ds μ1=>aX x ds μ1 Q
 | .isin a t,ρ,μ,Q=>wE a ρ μ fun d μ1=>tV t d μ1 Q
 | .isin a _ (some ks),ρ,μ,Q=>wE a ρ μ fun d μ1=>Yg ks d μ1 Q
 | .meth m o as,ρ,μ,Q=>wE o ρ μ fun x μ1=>isCell μ1 x=true/\wEs as ρ μ1 fun ds μ2=>fP m x ds μ2 Q
 | .idx a b,ρ,μ,Q=>wE a ρ μ fun x μ1=>wE b ρ μ1 fun y μ2=>cL x y μ2 Q
 | .tup as,ρ,μ,Q=>wEs as ρ μ fun ds μ1=>ds.length<=lim/\Q (.tup ds) μ1
 | .lst m as,ρ,μ,Q=>wEs as ρ μ fun ds μ1=>ds.length<=lim/\newL m ds μ1 Q
 | .comp m n tt cap elt it cond,ρ,μ,Q=>wI it ρ μ fun ds g μ1 =>
   fQ (fun d k=>bindC n tt d (cap.map fun i=>(ρ[i]?).join) k) (fun ρ' μ' Q'=>wTs cond ρ' μ' Q') (fun ρ' μ' Q'=>wE elt ρ' μ' Q') g ds [] μ1 fun vs μ2=>newL m vs μ2 Q
 | .iz a,ρ,μ,Q=>wE a ρ μ fun d μ1=>DK d μ1 Q
 | .iz a (some i),ρ,μ,Q=>match ρ[i]? with
  | some (some (.loc n))=>(match μ[n]? with
   | some (.j9 ks ds)=>∀ o,wE a ρ (μ.set n (.Xe o ks ds)) fun d μ1=>μ1[n]? = some (.Xe o ks ds)/\Q d (μ1.set n (.j9 ks ds))
   | _=>False)
  | _=>False
 | .OD t,_,μ,Q=>Q (.loc μ.length) (μ ++ [if t=true then .yq [] [] else .j9 [] []])
 | .JH o i,ρ,μ,Q=>wE o ρ μ fun x μ1=>wE i ρ μ1 fun y μ2=>Gq x y μ2 Q
 | .cat m a b,ρ,μ,Q=>wE a ρ μ fun x μ1=>wE b ρ μ1 fun y μ2=>Qn m x y μ2 Q
 | .fld c f o,ρ,μ,Q=>wE o ρ μ fun x μ1=>jB c f x μ1 Q
 | .lD c m sp o as,ρ,μ,Q=>wE o ρ μ fun x μ1=>dY μ1 c m x/\wEs as ρ μ1 fun ds μ2=>sp (x :: ds) μ2 Q
 | .mk c sp as,ρ,μ,Q=>wEs as ρ μ fun ds μ1=>sp (.loc μ1.length :: ds) (μ1 ++ [.ins c []]) fun v μ2=>v = .non/\Q (.loc μ1.length) μ2
noncomputable def wEs:Es->dM->Mem->(List D->Mem->Prop)->Prop
 | .nil,_,μ,Q=>Q [] μ
 | .cons e es,ρ,μ,Q=>wE e ρ μ fun d μ1=>wEs es ρ μ1 fun ds μ2=>Q (d :: ds) μ2
noncomputable def wT:E->dM->Mem->(Bool->Mem->Prop)->Prop
 | .not a,ρ,μ,Q=>wT a ρ μ fun b μ1=>Q (!b) μ1
 | .and a b,ρ,μ,Q=>wT a ρ μ fun t μ1=>if t=true then wT b ρ μ1 Q else Q false μ1
 | .or a b,ρ,μ,Q=>wT a ρ μ fun t μ1=>if t=true then Q true μ1 else wT b ρ μ1 Q
 | .var i,ρ,μ,Q=>match ρ[i]? with | some (some d)=>iB d μ Q | _=>False
 | .cst d,_,μ,Q=>iB d μ Q
 | .cmp op a b,ρ,μ,Q=>wE a ρ μ fun x μ1=>wE b ρ μ1 fun y μ2=>bK op x y μ2 fun r μ3=>fU r μ3 Q
 | .rR n a b,ρ,μ,Q=>wE a ρ μ fun x μ1=>wE b ρ μ1 fun y μ2=>Kf n x y μ2 fun r μ3=>fU r μ3 Q
 | .chain p q a b c,ρ,μ,Q=>wE a ρ μ fun x μ1=>wE b ρ μ1 fun y μ2=>bK p x y μ2 fun r μ3=>fU r μ3 fun t μ3 =>
   if t=true then wE c ρ μ3 fun z μ4=>bK q y z μ4 fun r μ5=>fU r μ5 Q else Q false μ3
 | .call _ sp as,ρ,μ,Q=>wEs as ρ μ fun ds μ1=>sp ds μ1 fun d μ2=>iB d μ2 Q
 | .lD c m sp o as,ρ,μ,Q=>wE o ρ μ fun x μ1=>dY μ1 c m x/\wEs as ρ μ1 fun ds μ2=>sp (x :: ds) μ2 fun d μ3=>iB d μ3 Q
 | .fld c f o,ρ,μ,Q=>wE o ρ μ fun x μ1=>jB c f x μ1 fun d μ2=>iB d μ2 Q
 | .idx a b,ρ,μ,Q=>wE a ρ μ fun x μ1=>wE b ρ μ1 fun y μ2=>cL x y μ2 fun d μ3=>iB d μ3 Q
 | .blt x as,ρ,μ,Q=>wEs as ρ μ fun ds μ1=>aX x ds μ1 fun d μ2=>iB d μ2 Q
 | .isin a t,ρ,μ,Q=>wE a ρ μ fun d μ1=>tV t d μ1 fun r μ2=>fU r μ2 Q
 | .isin a _ (some ks),ρ,μ,Q=>wE a ρ μ fun d μ1=>Yg ks d μ1 fun r μ2=>fU r μ2 Q
 | .iz a (some i),ρ,μ,Q=>isB a=true/\(match ρ[i]? with
  | some (some (.loc n))=>(match μ[n]? with
   | some (.j9 ks ds)=>∀ o,wE a ρ (μ.set n (.Xe o ks ds)) fun d μ1=>μ1[n]? = some (.Xe o ks ds)/\iB d (μ1.set n (.j9 ks ds)) Q
   | _=>False)
  | _=>False)
 | _,_,_,_=>False
noncomputable def wTs:Es->dM->Mem->(Bool->Mem->Prop)->Prop
 | .nil,_,μ,Q=>Q true μ
 | .cons e es,ρ,μ,Q=>wT e ρ μ fun b μ1=>match es with | .nil=>Q b μ1 | _=>False
noncomputable def wI:It->dM->Mem->QI->Prop
 | .seq e,ρ,μ,Q=>wE e ρ μ fun d μ1=>yI d μ1 Q
 | .rng as,ρ,μ,Q=>wEs as ρ μ fun ds μ1=>rK (j4 as) ds μ1 Q
 | .zip a b,ρ,μ,Q=>wE a ρ μ fun x μ1=>wE b ρ μ1 fun y μ2=>Kd x y μ2 Q
 | .enum a,ρ,μ,Q=>wE a ρ μ fun x μ1=>oK x μ1 Q
 | .enum a true,ρ,μ,Q=>False
 | .X3 a,ρ,μ,Q=>wE a ρ μ fun x μ1=>Ke x μ1 Q
end
structure jx where
 nx:dM->Mem->Prop
 rt:QD
 bk:dM->Mem->Prop:=fun _ _=>False
 ct:dM->Mem->Prop:=fun _ _=>False
 xc:dM->QX:=fun _ _ _ _ _=>False
noncomputable def tU (bnd:D->dM->(dM->Prop)->Prop) (bw:jx->dM->Mem->Prop) (g:Mem->Prop) (Z:jx):List D->dM->Mem->Prop
 | [],ρ,μ=>g μ/\Z.nx ρ μ
 | d :: ds,ρ,μ=>g μ/\bnd d ρ fun ρ'=>bw { Z with nx:=tU bnd bw g Z ds,ct:=tU bnd bw g Z ds,bk:=Z.nx } ρ' μ
noncomputable def fH (o i v:D) (μ:Mem) (k:Mem->Prop):Prop :=
 match o,i with
 | .loc n,.int j=>match μ[n]? with
  | some (.lst xs)=>match n6 xs.length j with | some p=>k (μ.set n (.lst (xs.set p v))) | none=>False
  | _=>False
 | _,_=>False
noncomputable def qZ (x y:D) (μ:Mem) (Q:QD):Prop:=match x,y with
 | .loc n,.int j=>(match μ[n]? with
  | some (.lst xs)=>0<=j/\(match xs[j.toNat]? with | some d=>Q d μ | none=>False)
  | _=>False)
 | _,_=>False
mutual
noncomputable def wS:S->jx->dM->Mem->Prop
 | .set i e,Z,ρ,μ=>wE e ρ μ fun d μ1=>Z.nx (ρ.set i (some d)) μ1
 | .Ei is e,Z,ρ,μ=>wE e ρ μ fun d μ1=>cZ is true d ρ fun ρ'=>Z.nx ρ' μ1
 | .dput o i e,Z,ρ,μ=>wE e ρ μ fun v μ1=>wE o ρ μ1 fun x μ2=>wE i ρ μ2 fun y μ3=>Aq x y v μ3 fun μ4=>Z.nx ρ μ4
 | .rG op o i e,Z,ρ,μ=>wE o ρ μ fun x μ1=>wE i ρ μ1 fun y μ2=>qZ x y μ2 fun p μ3=>wE e ρ μ3 fun q μ4=>gO op p q fun v=>fH x y v μ4 fun μ5=>Z.nx ρ μ5
 | .uG o i e,Z,ρ,μ=>wE e ρ μ fun v μ1=>wE o ρ μ1 fun x μ2=>wE i ρ μ2 fun y μ3=>fH x y v μ3 fun μ4=>Z.nx ρ μ4
 | .exp e,Z,ρ,μ=>wE e ρ μ fun _ μ1=>Z.nx ρ μ1
 | .ret e,Z,ρ,μ=>wE e ρ μ Z.rt
 | .ite c a b,Z,ρ,μ=>wT c ρ μ fun t μ1=>if t=true then wSs a Z ρ μ1 else wSs b Z ρ μ1
 | .for_ tg tt it b,Z,ρ,μ=>wI it ρ μ fun ds g μ1=>tU (fun d r k=>cZ tg tt d r k) (fun Z' r m=>wSs b Z' r m) g Z ds ρ μ1
 | .whl c b,Z,ρ,μ=>∃ W:Nat->dM->Mem->Prop,(∃ m,W m ρ μ)/\∀ m ρ μ,W m ρ μ->wT c ρ μ fun t μ1 =>
   if t=true then wSs b { Z with nx:=fun ρ' μ'=>∃ m',m' < m/\W m' ρ' μ',ct:=fun ρ' μ'=>∃ m',m' < m/\W m' ρ' μ',bk:=Z.nx } ρ μ1 else Z.nx ρ μ1
 | .Br c f o e,Z,ρ,μ=>wE e ρ μ fun v μ1=>wE o ρ μ1 fun x μ2=>oG c f x v μ2 fun μ3=>Z.nx ρ μ3
 | .JZ c f op o e,Z,ρ,μ=>wE o ρ μ fun x μ1=>jB c f x μ1 fun p J6=>wE e ρ J6 fun q μ2=>gO op p q fun v=>oG c f x v μ2 fun μ3=>Z.nx ρ μ3
 | .Qj,_,_,_=>False
noncomputable def wSs:Ss->jx->dM->Mem->Prop
 | .nil,Z,ρ,μ=>Z.nx ρ μ
 | .cons s r,Z,ρ,μ=>wS s { Z with nx:=fun ρ' μ'=>wSs r Z ρ' μ' } ρ μ
end
end DW
end
section
namespace DW
open PySem
noncomputable def aH (N:List Str) (ds:List D):dM:=ds.map some ++ List.replicate (N.length - ds.length) none
noncomputable def bO (Q:QD):jx:=⟨fun _ μ=>Q .non μ,Q,fun _ _=>False,fun _ _=>False,fun _ _ _ _ _=>False⟩
noncomputable def Keeps (N:List Str) (i:Ss) (sp:cU):Prop:=∀ ds μ Q,sp ds μ Q->wSs i (bO Q) (aH N ds) μ
noncomputable def O8 (sp:rY):cU:=fun ds μ Q=>sp ds μ Q fun _ _ _ _=>False
def uy:cU:=fun ds μ Q=>∃ ns:List Int,ds=[.ro (ns.map D.int)]/\ns.length<=63/\∀ μ',Q (.bl true) μ'
theorem bF {bnd:D->dM->(dM->Prop)->Prop} {bw:jx->dM->Mem->Prop} {g:Mem->Prop} {Z:jx} (Inv:List D->dM->Mem->Prop)
  (hs:∀ d ds ρ μ N,(∀ ρ μ,Inv ds ρ μ->N ρ μ)->Inv (d :: ds) ρ μ->g μ/\bnd d ρ fun ρ'=>bw { Z with nx:=N,ct:=N,bk:=Z.nx } ρ' μ)
  (he:∀ ρ μ,Inv [] ρ μ->g μ/\Z.nx ρ μ):∀ (ds:List D) (ρ:dM) (μ:Mem),Inv ds ρ μ->tU bnd bw g Z ds ρ μ
 | [],ρ,μ,h=>he ρ μ h
 | d :: ds,ρ,μ,h=>hs d ds ρ μ _ (fun ρ μ q=>bF Inv hs he ds ρ μ q) h
theorem gH {bnd:D->(dM->Prop)->Prop} {cw:dM->Mem->(Bool->Mem->Prop)->Prop} {ew:dM->Mem->QD->Prop} {g:Mem->Prop} {Q:List D->Mem->Prop} (Inv:List D->List D->Mem->Prop)
  (hs:∀ d ds acc μ (Y:D->Mem->Prop) (N:Mem->Prop),(∀ v μ,Inv ds (acc ++ [v]) μ->Y v μ)->(∀ μ,Inv ds acc μ->N μ)->Inv (d :: ds) acc μ->g μ/\bnd d fun ρ=>cw ρ μ fun b μ1=>if b=true then ew ρ μ1 (fun v μ2=>Y v μ2) else N μ1)
  (he:∀ acc μ,Inv [] acc μ->g μ/\Q acc μ):∀ (ds acc:List D) (μ:Mem),Inv ds acc μ->fQ bnd cw ew g ds acc μ Q
 | [],acc,μ,h=>he acc μ h
 | d :: ds,acc,μ,h=>hs d ds acc μ (fun v μ2=>fQ bnd cw ew g ds (acc ++ [v]) μ2 Q) (fun μ1=>fQ bnd cw ew g ds acc μ1 Q) (fun v μ q=>gH Inv hs he ds (acc ++ [v]) μ q) (fun μ q=>gH Inv hs he ds acc μ q) h
theorem jj {bnd:D->(dM->Prop)->Prop} {cw:dM->Mem->(Bool->Mem->Prop)->Prop} {ew:dM->Mem->QD->Prop} {g:Mem->Prop} {Q:List D->Mem->Prop} {μ:Mem} (p:D->Bool) (f:D->D) (hg:g μ) :
  ∀ (ds acc:List D),(∀ d∈ds,∀ (Y:D->Mem->Prop) (N:Mem->Prop),(if p d=true then Y (f d) μ else N μ)->bnd d fun ρ=>cw ρ μ fun b μ1=>if b=true then ew ρ μ1 (fun v μ2=>Y v μ2) else N μ1) ->
   Q (acc ++ (ds.filter p).map f) μ->fQ bnd cw ew g ds acc μ Q
 | [],acc,_,h=>⟨hg,by simpa using h⟩
 | d :: ds,acc,hs,h=>by
  refine ⟨hg,hs d (by simp) (fun v μ2=>fQ bnd cw ew g ds (acc ++ [v]) μ2 Q) (fun μ1=>fQ bnd cw ew g ds acc μ1 Q) ?_⟩
  by_cases q:p d=true
  ·rw [if_pos q]
   refine jj p f hg ds _ (fun e he=>hs e (by simp [he])) ?_
   rw [List.filter_cons_of_pos q] at h
   simpa using h
  ·rw [if_neg q]
   refine jj p f hg ds _ (fun e he=>hs e (by simp [he])) ?_
   rw [List.filter_cons_of_neg q] at h
   exact h
theorem nC {α:Type} {bnd:D->(dM->Prop)->Prop} {cw:dM->Mem->(Bool->Mem->Prop)->Prop} {ew:dM->Mem->QD->Prop} {g:Mem->Prop} {Q:List D->Mem->Prop} {μ:Mem} (c:α->D) (p:α->Bool) (f:α->D) (hg:g μ) :
  ∀ (l:List α) (acc:List D),(∀ x∈l,∀ (Y:D->Mem->Prop) (N:Mem->Prop),(if p x=true then Y (f x) μ else N μ)->bnd (c x) fun ρ=>cw ρ μ fun b μ1=>if b=true then ew ρ μ1 (fun v μ2=>Y v μ2) else N μ1) ->
   Q (acc ++ (l.filter p).map f) μ->fQ bnd cw ew g (l.map c) acc μ Q
 | [],acc,_,h=>⟨hg,by simpa using h⟩
 | d :: ds,acc,hs,h=>by
  refine ⟨hg,hs d (by simp) (fun v μ2=>fQ bnd cw ew g (ds.map c) (acc ++ [v]) μ2 Q) (fun μ1=>fQ bnd cw ew g (ds.map c) acc μ1 Q) ?_⟩
  by_cases q:p d=true
  ·rw [if_pos q]
   refine nC c p f hg ds _ (fun e he=>hs e (by simp [he])) ?_
   rw [List.filter_cons_of_pos q] at h
   simpa using h
  ·rw [if_neg q]
   refine nC c p f hg ds _ (fun e he=>hs e (by simp [he])) ?_
   rw [List.filter_cons_of_neg q] at h
   exact h
theorem tW {α:Type} {bnd:D->(dM->Prop)->Prop} {cw:dM->Mem->(Bool->Mem->Prop)->Prop} {ew:dM->Mem->QD->Prop} {g:Mem->Prop} {Q:List D->Mem->Prop} {μ:Mem} (c:α->D) (f:α->D) (hg:g μ)
  (l:List α) (acc:List D) (hs:∀ x∈l,∀ (Y:D->Mem->Prop) (N:Mem->Prop),Y (f x) μ->bnd (c x) fun ρ=>cw ρ μ fun b μ1=>if b=true then ew ρ μ1 (fun v μ2=>Y v μ2) else N μ1)
  (h:Q (acc ++ l.map f) μ):fQ bnd cw ew g (l.map c) acc μ Q :=
 nC c (fun _=>true) f hg l acc (fun x hx Y N q=>hs x hx Y N (by simpa using q)) (by rw [List.filter_eq_self.mpr (by simp)]; exact h)
theorem yc {α:Type} (g:α->Int):∀ l:List α,lH (l.map fun x=>D.int (g x))=some (l.map g)
 | []=>rfl
 | x :: l=>by simp [lH,yc g l]
theorem cu {n k:Nat} (h:k < n):n6 n (k:Int)=some k:=by
 have:(k:Int) < n:=by lia
 simp [n6,this]
theorem En {lo:Int} {n:Nat} {d:D} (h:d∈dD lo n):∃ i:Int,d = .int i/\lo<=i/\i < lo + n:=by
 simp only [dD,List.mem_map,List.mem_range] at h
 obtain ⟨j,hj,rfl⟩:=h
 exact ⟨_,rfl,by lia,by lia⟩
end DW
end
section
namespace DW
theorem vf:∀ x:List Nat,cT x x=false
 | []=>rfl
 | a :: x=>by simp [cT,vf x]
theorem xX:∀ x y:List Nat,cT x y=true->cT y x=false
 | [],[],h=>by simp [cT] at h
 | [],_ :: _,_=>rfl
 | _ :: _,[],h=>by simp [cT] at h
 | a :: x,b :: y,h=>by
  unfold cT at h ⊢
  by_cases e:a=b
  ·rw [if_pos e] at h
   rw [if_pos e.symm]
   exact xX x y h
  ·rw [if_neg e] at h
   rw [if_neg (fun z=>e z.symm)]
   simp at h ⊢; lia
theorem Cp:∀ x y:List Nat,cT x y=false->cT y x=false->x=y
 | [],[],_,_=>rfl
 | [],_ :: _,h,_=>by simp [cT] at h
 | _ :: _,[],_,h=>by simp [cT] at h
 | a :: x,b :: y,h,k=>by
  unfold cT at h k
  by_cases e:a=b
  ·rw [if_pos e] at h
   rw [if_pos e.symm] at k
   rw [e,Cp x y h k]
  ·rw [if_neg e] at h
   rw [if_neg (fun z=>e z.symm)] at k
   simp at h k; lia
theorem vd:∀ x y z:List Nat,cT y x=false->cT z y=false->cT z x=false
 | x,y,[],h,k=>by
  cases x with
  | nil=>rfl
  | cons a x =>
   cases y with
   | nil=>simp [cT] at h
   | cons b y=>simp [cT] at k
 | [],y,c :: z,h,k=>by simp [cT]
 | a :: x,[],c :: z,h,k=>by simp [cT] at h
 | a :: x,b :: y,c :: z,h,k=>by
  unfold cT at h k ⊢
  by_cases e:b=a
  ·by_cases f:c=b
   ·rw [if_pos e] at h; rw [if_pos f] at k; rw [if_pos (f.trans e)]
    exact vd x y z h k
   ·rw [if_neg f] at k; subst e; rw [if_neg f]; exact k
  ·rw [if_neg e] at h
   by_cases f:c=b
   ·subst f; rw [if_neg e]; exact h
   ·rw [if_neg f] at k
    simp at h k
    rw [if_neg (by lia)]
    simp; lia
theorem lE (x y:Itm) (h:eE x y=true):eE y x=false:=by
 unfold eE at h ⊢
 by_cases e:x.1=y.1
 ·rw [if_pos e] at h; rw [if_pos e.symm]; exact xX _ _ h
 ·rw [if_neg e] at h; rw [if_neg (fun z=>e z.symm)]; simp at h ⊢; lia
theorem RP (x y:Itm) (h:eE x y=false) (k:eE y x=false):x=y:=by
 unfold eE at h k
 by_cases e:x.1=y.1
 ·rw [if_pos e] at h; rw [if_pos e.symm] at k
  exact Prod.ext e (Cp _ _ h k)
 ·rw [if_neg e] at h; rw [if_neg (fun z=>e z.symm)] at k; simp at h k; lia
theorem fK (x y z:Itm) (h:eE y x=false) (k:eE z y=false):eE z x=false:=by
 unfold eE at h k ⊢
 by_cases e:y.1=x.1
 ·by_cases f:z.1=y.1
  ·rw [if_pos e] at h; rw [if_pos f] at k; rw [if_pos (f.trans e)]; exact vd _ _ _ h k
  ·rw [if_neg f] at k; rw [<- e,if_neg f]; exact k
 ·rw [if_neg e] at h
  by_cases f:z.1=y.1
  ·rw [f,if_neg e]; exact h
  ·rw [if_neg f] at k
   simp at h k
   rw [if_neg (by lia)]; simp; lia
theorem sZ (x:Itm):eE x x=false:=by simp [eE,vf]
theorem kZ:∀ {a b:List Itm},a.Perm b->aY a->aY b->a=b
 | [],b,p,_,_=>(List.nil_perm.mp p).symm
 | x :: a,[],p,_,_=>by have:=p.length_eq; simp at this
 | x :: a,y :: b,p,h,k=>by
  have hx:=List.pairwise_cons.mp h
  have hy:=List.pairwise_cons.mp k
  have e:x=y:=by
   have m1:x∈y :: b:=p.subset (by simp)
   have m2:y∈x :: a:=p.symm.subset (by simp)
   simp at m1 m2
   rcases m1 with e | m1
   ·exact e
   ·rcases m2 with e | m2
    ·exact e.symm
    ·exact RP x y (hy.1 x m1) (hx.1 y m2)
  subst e
  rw [kZ ((List.perm_cons x).mp p) hx.2 hy.2]
end DW
end
section
namespace DW
open PySem PySem.Spec PyProof.Rows L2
noncomputable def keyOf:j8->Key
 | .inl i=>.inl i
 | .inr x=>.inr ⟨x.toArray⟩
noncomputable def KL (K:PySem.W.Frag) (a:Addr) (xs:List V):Prop :=
 ∃ (o:Obj) (its:Array Value) (n:Nat),K.lookup a=some o/\o.cls = .type "list"/\o.dict=none/\o.data = .seq its n/\its.size<=sizeLine/\Vals xs its.toList
section
variable (K:PySem.W.Frag) (H:Hp) (θ:List Addr) (L:Addr->Prop)
mutual
noncomputable def Rep:D->V->Prop
 | .non,v=>v = .non
 | .bl b,v=>v = .bl b
 | .int i,v=>v = .int i
 | .str x,v=>v = .str ⟨x.toArray⟩/\x.length<=sizeLine
 | .tup ds,v=>∃ a xs,v = .ref a/\H a=some (.tup xs)/\¬ L a/\aG ds xs
 | .lst ds,v=>∃ a xs,v = .ref a/\H a=some (.lst xs)/\¬ L a/\aG ds xs
 | .ro ds,v=>∃ a xs,v = .ref a/\((∃ o,H a=some (.iz o (.lst xs))/\¬ L a)∨KL K a xs)/\aG ds xs
 | .loc n,v=>∃ a,v = .ref a/\θ[n]? = some a
 | .j9 ks ds,v=>∃ a kvs,v = .ref a/\H a=some (.dK kvs)/\¬ L a/\kvs.map (·.1)=ks.map keyOf/\aG ds (kvs.map (·.2))
 | .Dw ks ds,v=>∃ a o kvs,v = .ref a/\H a=some (.iz o (.dK kvs))/\¬ L a/\kvs.map (·.1)=ks.map keyOf/\aG ds (kvs.map (·.2))
noncomputable def aG:List D->List V->Prop
 | [],vs=>vs=[]
 | d :: ds,vs=>∃ v r,vs=v :: r/\Rep d v/\aG ds r
end
end
section
variable {K:PySem.W.Frag} {H H':Hp} {θ θ':List Addr} {L L':Addr->Prop}
mutual
theorem Rep.mono (hp:∀ (n:Nat) (a:Addr),θ[n]? = some a->θ'[n]? = some a) (hk:∀ a o,H a=some o->¬ L a->H' a=some o/\¬ L' a) :
  ∀ (d:D) (v:V),Rep K H θ L d v->Rep K H' θ' L' d v
 | .non,v,h=>by unfold Rep at *; exact h
 | .bl b,v,h=>by unfold Rep at *; exact h
 | .int i,v,h=>by unfold Rep at *; exact h
 | .str x,v,h=>by unfold Rep at *; exact h
 | .tup ds,v,h=>by
  unfold Rep at *
  obtain ⟨a,xs,e,h1,h2,h3⟩:=h
  exact ⟨a,xs,e,(hk a _ h1 h2).1,(hk a _ h1 h2).2,aG.mono hp hk ds xs h3⟩
 | .lst ds,v,h=>by
  unfold Rep at *
  obtain ⟨a,xs,e,h1,h2,h3⟩:=h
  exact ⟨a,xs,e,(hk a _ h1 h2).1,(hk a _ h1 h2).2,aG.mono hp hk ds xs h3⟩
 | .ro ds,v,h=>by
  unfold Rep at *
  obtain ⟨a,xs,e,h1,h3⟩:=h
  refine ⟨a,xs,e,?_,aG.mono hp hk ds xs h3⟩
  rcases h1 with ⟨o,h1,h2⟩ | h1
  ·exact .inl ⟨o,(hk a _ h1 h2).1,(hk a _ h1 h2).2⟩
  ·exact .inr h1
 | .loc n,v,h=>by
  unfold Rep at *
  obtain ⟨a,e,h1⟩:=h
  exact ⟨a,e,hp n a h1⟩
 | .j9 ks ds,v,h=>by
  unfold Rep at *
  obtain ⟨a,kvs,e,h1,h2,h3,h4⟩:=h
  exact ⟨a,kvs,e,(hk a _ h1 h2).1,(hk a _ h1 h2).2,h3,aG.mono hp hk ds _ h4⟩
 | .Dw ks ds,v,h=>by
  unfold Rep at *
  obtain ⟨a,o,kvs,e,h1,h2,h3,h4⟩:=h
  exact ⟨a,o,kvs,e,(hk a _ h1 h2).1,(hk a _ h1 h2).2,h3,aG.mono hp hk ds _ h4⟩
theorem aG.mono (hp:∀ (n:Nat) (a:Addr),θ[n]? = some a->θ'[n]? = some a) (hk:∀ a o,H a=some o->¬ L a->H' a=some o/\¬ L' a) :
  ∀ (ds:List D) (vs:List V),aG K H θ L ds vs->aG K H' θ' L' ds vs
 | [],vs,h=>by unfold aG at *; exact h
 | d :: ds,vs,h=>by
  unfold aG at *
  obtain ⟨v,r,e,h1,h2⟩:=h
  exact ⟨v,r,e,Rep.mono hp hk d v h1,aG.mono hp hk ds r h2⟩
end
theorem aG.nil:aG K H θ L [] []:=by unfold aG; rfl
theorem aG.cons {d:D} {ds:List D} {v:V} {vs:List V} (h:Rep K H θ L d v) (r:aG K H θ L ds vs):aG K H θ L (d :: ds) (v :: vs):=by
 unfold aG; exact ⟨v,vs,rfl,h,r⟩
theorem aG.nil_inv {vs:List V} (h:aG K H θ L [] vs):vs=[]:=by unfold aG at h; exact h
theorem aG.cons_inv {d:D} {ds:List D} {vs:List V} (h:aG K H θ L (d :: ds) vs):∃ v r,vs=v :: r/\Rep K H θ L d v/\aG K H θ L ds r:=by
 unfold aG at h; exact h
theorem aG.length:∀ {ds:List D} {vs:List V},aG K H θ L ds vs->ds.length=vs.length
 | [],vs,h=>by rw [h.nil_inv]; rfl
 | d :: ds,vs,h=>by
  obtain ⟨v,r,rfl,_,h2⟩:=h.cons_inv
  simp [h2.length]
theorem aG.get:∀ {ds:List D} {vs:List V} {i:Nat} {d:D},aG K H θ L ds vs->ds[i]? = some d->∃ v,vs[i]? = some v/\Rep K H θ L d v
 | [],_,_,_,_,e=>by simp at e
 | d :: ds,vs,i,d',h,e=>by
  obtain ⟨v,r,rfl,h1,h2⟩:=h.cons_inv
  cases i with
  | zero=>simp at e; subst e; exact ⟨v,rfl,h1⟩
  | succ i =>
   obtain ⟨w,e1,e2⟩:=aG.get (i:=i) h2 (by simpa using e)
   exact ⟨w,by simpa using e1,e2⟩
theorem aG.append:∀ {ds es:List D} {vs ws:List V},aG K H θ L ds vs->aG K H θ L es ws->aG K H θ L (ds ++ es) (vs ++ ws)
 | [],_,_,_,h,k=>by rw [h.nil_inv]; exact k
 | d :: ds,_,_,_,h,k=>by
  obtain ⟨v,r,rfl,h1,h2⟩:=h.cons_inv
  exact aG.cons h1 (h2.append k)
theorem aG.take:∀ {ds:List D} {vs:List V} (n:Nat),aG K H θ L ds vs->aG K H θ L (ds.take n) (vs.take n)
 | _,_,0,_=>by simpa using aG.nil
 | [],_,n + 1,h=>by rw [h.nil_inv]; simpa using aG.nil
 | d :: ds,_,n + 1,h=>by
  obtain ⟨v,r,rfl,h1,h2⟩:=h.cons_inv
  exact aG.cons h1 (h2.take n)
theorem aG.drop:∀ {ds:List D} {vs:List V} (n:Nat),aG K H θ L ds vs->aG K H θ L (ds.drop n) (vs.drop n)
 | _,_,0,h=>h
 | [],_,n + 1,h=>by rw [h.nil_inv]; simpa using aG.nil
 | d :: ds,_,n + 1,h=>by
  obtain ⟨v,r,rfl,h1,h2⟩:=h.cons_inv
  exact h2.drop n
theorem aG.set {d':D} {v':V} (hd:Rep K H θ L d' v'):∀ {ds:List D} {vs:List V} (n:Nat),aG K H θ L ds vs->aG K H θ L (ds.set n d') (vs.set n v')
 | [],_,n,h=>by rw [h.nil_inv]; simpa using aG.nil
 | d :: ds,_,0,h=>by
  obtain ⟨v,r,rfl,h1,h2⟩:=h.cons_inv
  exact aG.cons hd h2
 | d :: ds,_,n + 1,h=>by
  obtain ⟨v,r,rfl,h1,h2⟩:=h.cons_inv
  exact aG.cons h1 (h2.set hd n)
theorem aG.one {d:D} {v:V} (h:Rep K H θ L d v):aG K H θ L [d] [v]:=aG.cons h aG.nil
theorem aG.reverse:∀ {ds:List D} {vs:List V},aG K H θ L ds vs->aG K H θ L ds.reverse vs.reverse
 | [],_,h=>by rw [h.nil_inv]; simpa using aG.nil
 | d :: ds,_,h=>by
  obtain ⟨v,r,rfl,h1,h2⟩:=h.cons_inv
  rw [List.reverse_cons,List.reverse_cons]
  exact h2.reverse.append (aG.one h1)
end
noncomputable def dw (θ:List Addr) (μ:Mem) (a:Addr):Prop:=∃ (n:Nat) (c:Cell),θ[n]? = some a/\μ[n]? = some c/\c≠.gone
noncomputable abbrev Rp (K:PySem.W.Frag) (H:Hp) (θ:List Addr) (μ:Mem):D->V->Prop:=Rep K H θ (dw θ μ)
noncomputable abbrev eF (K:PySem.W.Frag) (H:Hp) (θ:List Addr) (μ:Mem):List D->List V->Prop:=aG K H θ (dw θ μ)
noncomputable def ExcAt (x C:Addr) (h:Heap):Prop:=∃ o,h.get? x=some o/\o.cls = .ref C
noncomputable def DcO (a:Addr) (fs:List (Str×V)):HO:=.ext fun h=>∃ mA,h.Ns1 a mA/\(∀ f,jP (fs.lookup f) (mA f))/\PySem.Within mA (fs.map (·.1))
noncomputable def P0 (K:PySem.W.Frag) (H:Hp) (θ:List Addr) (μ:Mem) (ks:List String) (ds:List D) (dx:Option Addr):Prop :=
 (ks=[]/\dx=none)∨(ks≠[]/\∃ x fs,dx=some x/\H x=some (DcO x fs)/\¬ dw θ μ x/\fs.map (·.1)=ks.map (fun k=>Str.ofString k)/\eF K H θ μ ds (fs.map (·.2)))
noncomputable def NP:Str:="shortest"
noncomputable def Zd:Str:="shortest" ++ ".<locals>." ++ "<lambda>"
noncomputable def iy (K:PySem.W.Frag) (H:Hp) (θ:List Addr) (μ:Mem) (a:Addr):Cell->Prop
 | .lst ds=>∃ xs,H a=some (.lst xs)/\eF K H θ μ ds xs
 | .ins c fs=>∃ C dx fs',PySem.W.nsIn K mainGlobals (Str.ofString c)=some (some (.ref C))/\H a=some (.ins C dx fs')/\fs'.map (·.1)=fs.map (fun p=>Str.ofString p.1)/\eF K H θ μ (fs.map (·.2)) (fs'.map (·.2))
 | .j9 ks ds=>∃ kvs,H a=some (.dK kvs)/\kvs.map (·.1)=ks.map keyOf/\eF K H θ μ ds (kvs.map (·.2))
 | .yq ks ds=>∃ kvs,H a=some (.dT kvs)/\kvs.map (·.1)=ks.map (·.map keyOf)/\eF K H θ μ ds (kvs.map (·.2))
 | .fdt o ks ds=>∃ kvs,H a=some (.iz o (.dT kvs))/\kvs.map (·.1)=ks.map (·.map keyOf)/\eF K H θ μ ds (kvs.map (·.2))
 | .Xe o ks ds=>∃ kvs,H a=some (.iz o (.dK kvs))/\kvs.map (·.1)=ks.map keyOf/\eF K H θ μ ds (kvs.map (·.2))
 | .exc c ks ds=>∃ C o u,PySem.W.nsIn K mainGlobals (Str.ofString c)=some (some (.ref C))/\H a=some (.iz o u)/\o.cls = .ref C/\PySem.W.notCls o=true/\P0 K H θ μ ks ds o.dict
 | .gone=>True
 | .J4=>∃ (tc:Addr) (t:Tab),PySem.W.tabIn K NP=some (tc,a)/\H a=some (.J4 t)/\t.q=Zd
structure bY (K:PySem.W.Frag) (H:Hp) (θ:List Addr) (μ:Mem):Prop where
 len:θ.length=μ.length
 inj:∀ (m n:Nat) (a:Addr),θ[m]? = some a->θ[n]? = some a->m=n
 bnd:∀ (n:Nat) (a:Addr),θ[n]? = some a->H a≠none
 cell:∀ (n:Nat) (c:Cell) (a:Addr),μ[n]? = some c->θ[n]? = some a->iy K H θ μ a c
structure aD (H:Hp) (θ:List Addr) (μ:Mem) (H':Hp) (θ':List Addr) (μ':Mem):Prop where
 pre:∀ (n:Nat) (a:Addr),θ[n]? = some a->θ'[n]? = some a
 keep:∀ a o,H a=some o->¬ dw θ μ a->H' a=some o/\¬ dw θ' μ' a
section
variable {K:PySem.W.Frag} {H H' Gn:Hp} {θ θ' J7:List Addr} {μ μ' Am:Mem} {p a:Addr} {n:Nat} {ds:List D} {xs:List V} {d:D} {v:V}
theorem aD.refl:aD H θ μ H θ μ:=⟨fun _ _ h=>h,fun _ _ h k=>⟨h,k⟩⟩
theorem aD.trans (g:aD H θ μ H' θ' μ') (g':aD H' θ' μ' Gn J7 Am):aD H θ μ Gn J7 Am :=
 ⟨fun n a h=>g'.pre n a (g.pre n a h),fun a o h k=>let ⟨x,y⟩:=g.keep a o h k; g'.keep a o x y⟩
theorem aD.rep (g:aD H θ μ H' θ' μ') (h:Rp K H θ μ d v):Rp K H' θ' μ' d v:=Rep.mono g.pre g.keep d v h
theorem aD.reps (g:aD H θ μ H' θ' μ') (h:eF K H θ μ ds xs):eF K H' θ' μ' ds xs:=aG.mono g.pre g.keep ds xs h
theorem bY.MF (w:bY K H θ μ) (hp:H p=none) (n:Nat):θ[n]?≠some p:=fun e=>w.bnd n p e hp
theorem bY.sV (w:bY K H θ μ) (hp:H p=none):¬ dw θ μ p:=fun ⟨n,_,e,_⟩=>w.MF hp n e
theorem aD.ext (e:∀ a o,H a=some o->H' a=some o):aD H θ μ H' θ μ:=⟨fun _ _ h=>h,fun a o h k=>⟨e a o h,k⟩⟩
theorem P0.mono {ks:List String} {dx:Option Addr} (kp:aD H θ μ H' θ' μ') (h:P0 K H θ μ ks ds dx):P0 K H' θ' μ' ks ds dx:=by
 rcases h with h | ⟨h0,x,fs,h1,h2,h3,h4,h5⟩
 ·exact .inl h
 ·exact .inr ⟨h0,x,fs,h1,(kp.keep x _ h2 h3).1,(kp.keep x _ h2 h3).2,h4,kp.reps h5⟩
theorem iy.mono {c:Cell} (kp:aD H θ μ H' θ' μ') (e:∀ o,H a=some o->H' a=some o) (h:iy K H θ μ a c):iy K H' θ' μ' a c:=by
 cases c with
 | lst ds=>obtain ⟨xs,h1,h2⟩:=h; exact ⟨xs,e _ h1,kp.reps h2⟩
 | ins c fs=>obtain ⟨C,dx,fs',h0,h1,h2,h3⟩:=h; exact ⟨C,dx,fs',h0,e _ h1,h2,kp.reps h3⟩
 | j9 ks ds=>obtain ⟨kvs,h1,h2,h3⟩:=h; exact ⟨kvs,e _ h1,h2,kp.reps h3⟩
 | yq ks ds=>obtain ⟨kvs,h1,h2,h3⟩:=h; exact ⟨kvs,e _ h1,h2,kp.reps h3⟩
 | fdt o ks ds=>obtain ⟨kvs,h1,h2,h3⟩:=h; exact ⟨kvs,e _ h1,h2,kp.reps h3⟩
 | Xe o ks ds=>obtain ⟨kvs,h1,h2,h3⟩:=h; exact ⟨kvs,e _ h1,h2,kp.reps h3⟩
 | exc c ks ds=>obtain ⟨C,o,u,h1,h2,h3,h5,h4⟩:=h; exact ⟨C,o,u,h1,e _ h2,h3,h5,h4.mono kp⟩
 | gone=>trivial
 | J4=>obtain ⟨tc,t,h1,h2,h3⟩:=h; exact ⟨tc,t,h1,e _ h2,h3⟩
theorem bY.ext (w:bY K H θ μ) (e:∀ a o,H a=some o->H' a=some o):bY K H' θ μ where
 len:=w.len
 inj:=w.inj
 bnd:=fun n a h k=>by
  cases q:H a with
  | none=>exact w.bnd n a h q
  | some o=>rw [e a o q] at k; cases k
 cell:=fun n c a h k=>(w.cell n c a h k).mono (aD.ext e) (e a)
theorem dI {o:HO} (hp:H p=none):∀ a u,H a=some u->(upd H p o) a=some u:=fun a u h=>by
 rw [aL (bf h hp)]; exact h
theorem CJ {α:Type} {l:List α} {x y:α} {n:Nat} (h:l[n]? = some y):(l ++ [x])[n]? = some y:=by
 have hl:n < l.length:=(List.getElem?_eq_some_iff.mp h).1
 rw [List.getElem?_append_left hl]; exact h
theorem eV {α:Type} {l:List α} {x y:α} {n:Nat} (h:(l ++ [x])[n]? = some y):l[n]? = some y∨(n=l.length/\x=y):=by
 by_cases hn:n < l.length
 ·rw [List.getElem?_append_left hn] at h; exact .inl h
 ·rw [List.getElem?_append_right (by lia)] at h
  have:n - l.length=0:=by
   cases e:n - l.length with
   | zero=>rfl
   | succ k=>rw [e] at h; simp at h
  rw [this] at h
  simp at h
  exact .inr ⟨by lia,h⟩
theorem aD.new {c:Cell} {o:HO} (w:bY K H θ μ) (hp:H p=none):aD H θ μ (upd H p o) (θ ++ [p]) (μ ++ [c]) where
 pre:=fun n a h=>CJ h
 keep:=fun a u h k=>by
  refine ⟨dI hp a u h,?_⟩
  rintro ⟨n,c',e1,e2,e3⟩
  rcases eV e1 with e1 | ⟨e1,rfl⟩
  ·rcases eV e2 with e2 | ⟨e2,_⟩
   ·exact k ⟨n,c',e1,e2,e3⟩
   ·have:=(List.getElem?_eq_some_iff.mp e1).1
    have:=w.len
    lia
  ·rw [hp] at h; cases h
theorem bY.new {c:Cell} {o:HO} (w:bY K H θ μ) (hp:H p=none) (hc:iy K (upd H p o) (θ ++ [p]) (μ ++ [c]) p c):bY K (upd H p o) (θ ++ [p]) (μ ++ [c]) where
 len:=by simp [w.len]
 inj:=fun m n a h k=>by
  rcases eV h with h1 | ⟨h1,rfl⟩
  ·rcases eV k with k1 | ⟨k1,rfl⟩
   ·exact w.inj m n a h1 k1
   ·exact absurd h1 (w.MF hp m)
  ·rcases eV k with k1 | ⟨k1,_⟩
   ·exact absurd k1 (w.MF hp n)
   ·rw [h1,k1]
 bnd:=fun n a h=>by
  rcases eV h with h | ⟨h,rfl⟩
  ·intro k
   cases q:H a with
   | none=>exact w.bnd n a h q
   | some u=>rw [dI hp a u q] at k; cases k
  ·rw [aN]; simp
 cell:=fun n c' a h k=>by
  rcases eV k with k | ⟨k,rfl⟩
  ·rcases eV h with h | ⟨h,rfl⟩
   ·exact (w.cell n c' a h k).mono (aD.new w hp) (dI hp a)
   ·have:=(List.getElem?_eq_some_iff.mp k).1
    have:=w.len
    lia
  ·rcases eV h with h | ⟨h,rfl⟩
   ·have:=(List.getElem?_eq_some_iff.mp h).1
    have:=w.len
    lia
   ·exact hc
theorem Nv {c c':Cell} (hn:μ[n]? = some c) (h1:c≠.gone) (h2:c'≠.gone):dw θ (μ.set n c') a<->dw θ μ a:=by
 constructor
 ·rintro ⟨m,e,k1,k2,k3⟩
  by_cases q:m=n
  ·subst q; exact ⟨m,c,k1,hn,h1⟩
  ·rw [List.getElem?_set_ne (Ne.symm q)] at k2; exact ⟨m,e,k1,k2,k3⟩
 ·rintro ⟨m,e,k1,k2,k3⟩
  by_cases q:m=n
  ·subst q
   refine ⟨m,c',k1,?_,h2⟩
   rw [List.getElem?_set_self (List.getElem?_eq_some_iff.mp hn).1]
  ·exact ⟨m,e,k1,by rw [List.getElem?_set_ne (Ne.symm q)]; exact k2,k3⟩
theorem aD.write {c c':Cell} {o:HO} (hn:μ[n]? = some c) (ha:θ[n]? = some a) (h1:c≠.gone) (h2:c'≠.gone):aD H θ μ (upd H a o) θ (μ.set n c') where
 pre:=fun _ _ h=>h
 keep:=fun b u h k=>by
  have:b≠a:=by rintro rfl; exact k ⟨n,c,ha,hn,h1⟩
  exact ⟨by rw [aL this]; exact h,fun z=>k ((Nv hn h1 h2).mp z)⟩
theorem bY.write {c c':Cell} {o:HO} (w:bY K H θ μ) (hn:μ[n]? = some c) (ha:θ[n]? = some a) (h1:c≠.gone) (h2:c'≠.gone) (hc:iy K (upd H a o) θ (μ.set n c') a c'):bY K (upd H a o) θ (μ.set n c') where
 len:=by simp [w.len]
 inj:=w.inj
 bnd:=fun m b h k=>by
  unfold upd at k
  split at k
  ·cases k
  ·exact w.bnd m b h k
 cell:=fun m c1 b h k=>by
  by_cases q:m=n
  ·subst q
   rw [List.getElem?_set_self (List.getElem?_eq_some_iff.mp hn).1] at h
   cases h
   rw [ha] at k; cases k
   exact hc
  ·rw [List.getElem?_set_ne (Ne.symm q)] at h
   have hb:b≠a:=fun z=>q (w.inj m n b k (by rw [z]; exact ha))
   exact (w.cell m c1 b h k).mono (aD.write hn ha h1 h2) fun u e=>by rw [aL hb]; exact e
theorem aD.iz:aD H θ μ H θ (μ.set n .gone) where
 pre:=fun _ _ h=>h
 keep:=fun b u h k=>⟨h,fun ⟨m,c,k1,k2,k3⟩=>by
  by_cases q:m=n
  ·subst q
   by_cases hl:m < μ.length
   ·rw [List.getElem?_set_self hl] at k2; cases k2; exact k3 rfl
   ·rw [List.set_eq_of_length_le (by lia)] at k2; exact k ⟨m,c,k1,k2,k3⟩
  ·rw [List.getElem?_set_ne (Ne.symm q)] at k2; exact k ⟨m,c,k1,k2,k3⟩⟩
theorem bY.iz (w:bY K H θ μ):bY K H θ (μ.set n .gone) where
 len:=by simp [w.len]
 inj:=w.inj
 bnd:=w.bnd
 cell:=fun m c1 b h k=>by
  by_cases q:m=n
  ·subst q
   by_cases hl:m < μ.length
   ·rw [List.getElem?_set_self hl] at h; cases h; trivial
   ·rw [List.set_eq_of_length_le (by lia)] at h ⊢; exact w.cell m c1 b h k
  ·rw [List.getElem?_set_ne (Ne.symm q)] at h
   exact (w.cell m c1 b h k).mono aD.iz fun _ e=>e
theorem zG (w:bY K H θ μ) (ha:θ[n]? = some a):¬ dw θ (μ.set n .gone) a:=by
 rintro ⟨m,c,k1,k2,k3⟩
 have:=w.inj m n a k1 ha
 subst this
 by_cases hl:m < μ.length
 ·rw [List.getElem?_set_self hl] at k2; cases k2; exact k3 rfl
 ·rw [List.getElem?_eq_none (by simp; lia)] at k2; cases k2
theorem bY.list (w:bY K H θ μ) (hn:μ[n]? = some (.lst ds)) (ha:θ[n]? = some a):∃ xs,H a=some (.lst xs)/\eF K H θ μ ds xs:=w.cell n _ a hn ha
end
structure qY (K:PySem.W.Frag) (σ:L2.St) (H:Hp) (ρ:dM) (θ:List Addr) (μ:Mem):Prop where
 yH:bY K H θ μ
 len:ρ.length=σ.length
 val:∀ (i:Nat) (d:D),ρ[i]? = some (some d)->∃ v,σ[i]? = some (some v)/\Rp K H θ μ d v
noncomputable def Fin (K:PySem.W.Frag) (H:Hp) (θ:List Addr) (μ:Mem) (Qd:QD) (Q:VK):Prop :=
 ∀ (d:D) (v:V) (H':Hp) (θ':List Addr) (μ':Mem),bY K H' θ' μ'->aD H θ μ H' θ' μ'->Rp K H' θ' μ' d v->Qd d μ'->Q v H'
noncomputable abbrev WE:=dM->Mem->QD->Prop
noncomputable def LE (K:PySem.W.Frag) (w:WE):TE:=fun σ H Q=>∃ ρ θ μ Qd,qY K σ H ρ θ μ/\w ρ μ Qd/\Fin K H θ μ Qd Q
noncomputable abbrev WT:=dM->Mem->(Bool->Mem->Prop)->Prop
noncomputable def LT (K:PySem.W.Frag) (w:WT):TT:=fun σ H Q=>∃ ρ θ μ Qd,qY K σ H ρ θ μ/\w ρ μ Qd /\
 ∀ (b:Bool) (H':Hp) (θ':List Addr) (μ':Mem),bY K H' θ' μ'->aD H θ μ H' θ' μ'->Qd b μ'->Q b H'
noncomputable abbrev WA:=dM->Mem->(List D->Mem->Prop)->Prop
noncomputable def LA (K:PySem.W.Frag) (w:WA):TA:=fun σ H Q=>∃ ρ θ μ Qd,qY K σ H ρ θ μ/\w ρ μ Qd /\
 ∀ (ds:List D) (vs:List V) (H':Hp) (θ':List Addr) (μ':Mem),bY K H' θ' μ'->aD H θ μ H' θ' μ'->eF K H' θ' μ' ds vs->Qd ds μ'->Q vs H'
noncomputable abbrev WS:=jx->dM->Mem->Prop
noncomputable def Uw (K:PySem.W.Frag) (E:XK) (H:Hp) (θ:List Addr) (μ:Mem) (c:String) (ks:List String) (ds:List D):Prop:=∃ C,PySem.W.nsIn K mainGlobals (Str.ofString c)=some (some (.ref C))/\∀ dx,P0 K H θ μ ks ds dx->E (.ref C) dx H
structure J2 (K:PySem.W.Frag) (EX:L2.St->XK) (H:Hp) (θ:List Addr) (μ:Mem) (Z:jx) (D:Ends):Prop where
 nx:∀ σ' H' ρ' θ' μ',qY K σ' H' ρ' θ' μ'->aD H θ μ H' θ' μ'->Z.nx ρ' μ'->D.nx σ' H'
 rt:Fin K H θ μ Z.rt D.rt
 bk:∀ σ' H' ρ' θ' μ',qY K σ' H' ρ' θ' μ'->aD H θ μ H' θ' μ'->Z.bk ρ' μ'->D.bk σ' H'
 ct:∀ σ' H' ρ' θ' μ',qY K σ' H' ρ' θ' μ'->aD H θ μ H' θ' μ'->Z.ct ρ' μ'->D.ct σ' H'
 xc:∀ σ' H' ρ' θ' μ' c ks ds,qY K σ' H' ρ' θ' μ'->aD H θ μ H' θ' μ'->Z.xc ρ' c ks ds μ'->Uw K (EX σ') H' θ' μ' c ks ds
noncomputable def LS (K:PySem.W.Frag) (EX:L2.St->XK) (w:WS):TS:=fun D σ H=>∃ ρ θ μ Z,qY K σ H ρ θ μ/\w Z ρ μ/\J2 K EX H θ μ Z D
section
variable {K:PySem.W.Frag} {H H' Gn:Hp} {θ θ' J7:List Addr} {μ μ' Am:Mem} {σ:L2.St} {ρ:dM} {i:Nat} {d:D} {v:V} {Qd:QD} {Q:VK}
theorem qY.grow (s:qY K σ H ρ θ μ) (w:bY K H' θ' μ') (g:aD H θ μ H' θ' μ'):qY K σ H' ρ θ' μ' :=
 ⟨w,s.len,fun i d h=>let ⟨v,e,r⟩:=s.val i d h; ⟨v,e,g.rep r⟩⟩
theorem qY.set (s:qY K σ H ρ θ μ) (r:Rp K H θ μ d v) (i:Nat):qY K (σ.set i (some v)) H (ρ.set i (some d)) θ μ :=
 ⟨s.yH,by simp [s.len],fun j e h=>by
  by_cases q:j=i
  ·subst q
   by_cases hl:j < ρ.length
   ·rw [List.getElem?_set_self hl] at h
    cases h
    exact ⟨v,by rw [List.getElem?_set_self (by rw [<- s.len]; exact hl)],r⟩
   ·rw [List.getElem?_eq_none (by simp; lia)] at h; cases h
  ·rw [List.getElem?_set_ne (Ne.symm q)] at h ⊢
   exact s.val j e h⟩
theorem Fin.mono (f:Fin K H θ μ Qd Q) (g:aD H θ μ H' θ' μ'):Fin K H' θ' μ' Qd Q:=fun d v Gn J7 Am w g' r q=>f d v Gn J7 Am w (g.trans g') r q
theorem Fin.at (f:Fin K H θ μ Qd Q) (w:bY K H θ μ) (r:Rp K H θ μ d v) (q:Qd d μ):Q v H:=f d v H θ μ w aD.refl r q
theorem J2.mono {EX:L2.St->XK} {Z:jx} {D:Ends} (f:J2 K EX H θ μ Z D) (g:aD H θ μ H' θ' μ'):J2 K EX H' θ' μ' Z D :=
 ⟨fun σ' H' ρ' θ' μ' s g' z=>f.nx σ' H' ρ' θ' μ' s (g.trans g') z,f.rt.mono g,fun σ' H' ρ' θ' μ' s g' z=>f.bk σ' H' ρ' θ' μ' s (g.trans g') z,fun σ' H' ρ' θ' μ' s g' z=>f.ct σ' H' ρ' θ' μ' s (g.trans g') z,fun σ' H' ρ' θ' μ' c ks ds s g' z=>f.xc σ' H' ρ' θ' μ' c ks ds s (g.trans g') z⟩
end
end DW
end
section
namespace DW
open PySem PySem.Spec PyProof.Rows L2
section
variable {X:Cx}
theorem PE.wk {e:Expr} {t t':TE} (h:PE X e t) (m:∀ σ H Q,t' σ H Q->t σ H Q):PE X e t':=fun pins s σ H Q I hw=>h pins s σ H Q I (m σ H Q hw)
theorem PT.wk {e:Expr} {t t':TT} (h:PT X e t) (m:∀ σ H Q,t' σ H Q->t σ H Q):PT X e t':=fun pins s σ H Q I hw=>h pins s σ H Q I (m σ H Q hw)
theorem PW.wk {e:Expr} {t t':TT} (h:PW X e t) (m:∀ σ H Q,t' σ H Q->t σ H Q):PW X e t':=fun wh pins s σ H Q I hw=>h wh pins s σ H Q I (m σ H Q hw)
theorem PA.wk {es:List Expr} {t t':TA} (h:PA X es t) (m:∀ σ H Q,t' σ H Q->t σ H Q):PA X es t':=fun pos pins s σ H Q I hw=>h pos pins s σ H Q I (m σ H Q hw)
theorem PS.wk {st:Stmt} {t t':TS} (h:PS X st t) (m:∀ D σ H,t' D σ H->t D σ H):PS X st t':=fun pins s σ H D I hw=>h pins s σ H D I (m D σ H hw)
theorem yF.wk {st:List Stmt} {t t':TS} (h:yF X st t) (m:∀ D σ H,t' D σ H->t D σ H):yF X st t':=fun pins s σ H D I hw=>h pins s σ H D I (m D σ H hw)
end
theorem jH:lim=sizeLine:=by rw [sizeLine_eq]; rfl
noncomputable def rN (K:PySem.W.Frag) (w:D->D->Mem->QD->Prop):R2:=fun x y H Q=>∃ d e θ μ Qd,bY K H θ μ/\Rp K H θ μ d x/\Rp K H θ μ e y/\w d e μ Qd/\Fin K H θ μ Qd Q
noncomputable def vh (K:PySem.W.Frag) (w:List D->Mem->QD->Prop):List V->Hp->VK->Prop:=fun vs H Q=>∃ ds θ μ Qd,bY K H θ μ/\eF K H θ μ ds vs/\w ds μ Qd/\Fin K H θ μ Qd Q
noncomputable def Wi (K:PySem.W.Frag) (w:D->List D->Mem->QD->Prop):V->List V->Hp->VK->Prop:=fun x vs H Q=>∃ d ds θ μ Qd,bY K H θ μ/\Rp K H θ μ d x/\eF K H θ μ ds vs/\w d ds μ Qd/\Fin K H θ μ Qd Q
section
variable {K:PySem.W.Frag} {H H':Hp} {θ θ':List Addr} {μ μ':Mem} {σ:L2.St} {ρ:dM} {Qd:QD} {Q:VK} {ds:List D} {xs:List V} {p a:Addr}
theorem yP:Rp K H θ μ .non .non:=by unfold Rep; rfl
theorem gR {b:Bool}:Rp K H θ μ (.bl b) (.bl b):=by unfold Rep; rfl
theorem bL {i:Int}:Rp K H θ μ (.int i) (.int i):=by unfold Rep; rfl
theorem uI {x:List Nat} (h:x.length<=sizeLine):Rp K H θ μ (.str x) (.str ⟨x.toArray⟩):=by unfold Rep; exact ⟨rfl,h⟩
theorem jK {v:V} (h:Rp K H θ μ .non v):v = .non:=by unfold Rep at h; exact h
theorem dR {b:Bool} {v:V} (h:Rp K H θ μ (.bl b) v):v = .bl b:=by unfold Rep at h; exact h
theorem aC {i:Int} {v:V} (h:Rp K H θ μ (.int i) v):v = .int i:=by unfold Rep at h; exact h
theorem cB {x:List Nat} {v:V} (h:Rp K H θ μ (.str x) v):v = .str ⟨x.toArray⟩/\x.length<=sizeLine:=by unfold Rep at h; exact h
theorem cA {v:V} (h:Rp K H θ μ (.tup ds) v):∃ a xs,v = .ref a/\H a=some (.tup xs)/\¬ dw θ μ a/\eF K H θ μ ds xs:=by unfold Rep at h; exact h
theorem eU {v:V} (h:Rp K H θ μ (.lst ds) v):∃ a xs,v = .ref a/\H a=some (.lst xs)/\¬ dw θ μ a/\eF K H θ μ ds xs:=by unfold Rep at h; exact h
theorem zA {v:V} (h:Rp K H θ μ (.ro ds) v):∃ a xs,v = .ref a/\((∃ o,H a=some (.iz o (.lst xs))/\¬ dw θ μ a)∨KL K a xs)/\eF K H θ μ ds xs:=by unfold Rep at h; exact h
theorem bT {n:Nat} {v:V} (h:Rp K H θ μ (.loc n) v):∃ a,v = .ref a/\θ[n]? = some a:=by unfold Rep at h; exact h
theorem zB {ks:List j8} {v:V} (h:Rp K H θ μ (.j9 ks ds) v):∃ a kvs,v = .ref a/\H a=some (.dK kvs)/\¬ dw θ μ a/\kvs.map (·.1)=ks.map keyOf/\eF K H θ μ ds (kvs.map (·.2)):=by unfold Rep at h; exact h
theorem Sg {ks:List j8} {v:V} (h:Rp K H θ μ (.Dw ks ds) v):∃ a o kvs,v = .ref a/\H a=some (.iz o (.dK kvs))/\¬ dw θ μ a/\kvs.map (·.1)=ks.map keyOf/\eF K H θ μ ds (kvs.map (·.2)):=by unfold Rep at h; exact h
theorem Ad (h:(∃ o,H a=some (.iz o (.lst xs))/\¬ dw θ μ a)∨KL K a xs):f9 K H a xs:=by
 rcases h with ⟨o,h,_⟩ | h
 ·exact .inl (.inr ⟨o,h⟩)
 ·exact .inr h
theorem gQ {d:D} {v:V} (wk:bY K H θ μ) (r:Rp K H θ μ d v) (h:aq μ d=some ds):∃ a xs,v = .ref a/\(f9 K H a xs∨p7 K H a xs)/\eF K H θ μ ds xs:=by
 cases d with
 | lst es=>simp only [aq,Option.some.injEq] at h; subst h; obtain ⟨a,xs,e,h1,_,h3⟩:=eU r; exact ⟨a,xs,e,.inl (.of h1),h3⟩
 | tup es=>simp only [aq,Option.some.injEq] at h; subst h; obtain ⟨a,xs,e,h1,_,h3⟩:=cA r; exact ⟨a,xs,e,.inr (.of h1),h3⟩
 | ro es=>simp only [aq,Option.some.injEq] at h; subst h; obtain ⟨a,xs,e,h1,h3⟩:=zA r; exact ⟨a,xs,e,.inl (Ad h1),h3⟩
 | loc n =>
  obtain ⟨a,e,h1⟩:=bT r
  simp only [aq] at h
  split at h
  ·rename_i es hn
   simp only [Option.some.injEq] at h; subst h
   obtain ⟨xs,h2,h3⟩:=wk.list hn h1
   exact ⟨a,xs,e,.inl (.of h2),h3⟩
  ·cases h
 | _=>simp [aq] at h
theorem yV (wk:bY K H θ μ) (f:Fin K H θ μ Qd Q) (r:eF K H θ μ ds xs) (h:Qd (.tup ds) μ) (hp:H p=none):Q (.ref p) (upd H p (.tup xs)):=by
 refine f (.tup ds) (.ref p) _ θ μ (wk.ext (dI hp)) (aD.ext (dI hp)) ?_ h
 unfold Rep
 exact ⟨p,xs,rfl,aN,wk.sV hp,(aD.ext (dI hp)).reps r⟩
theorem yW (wk:bY K H θ μ) (f:Fin K H θ μ Qd Q) (r:eF K H θ μ ds xs) (h:Qd (.lst ds) μ) (hp:H p=none):Q (.ref p) (upd H p (.lst xs)):=by
 refine f (.lst ds) (.ref p) _ θ μ (wk.ext (dI hp)) (aD.ext (dI hp)) ?_ h
 unfold Rep
 exact ⟨p,xs,rfl,aN,wk.sV hp,(aD.ext (dI hp)).reps r⟩
theorem MK (wk:bY K H θ μ) (f:Fin K H θ μ Qd Q) (r:eF K H θ μ ds xs) (h:Qd (.loc μ.length) (μ ++ [.lst ds])) (hp:H p=none):Q (.ref p) (upd H p (.lst xs)):=by
 have g:aD H θ μ (upd H p (.lst xs)) (θ ++ [p]) (μ ++ [.lst ds]):=aD.new wk hp
 refine f (.loc μ.length) (.ref p) _ (θ ++ [p]) (μ ++ [.lst ds]) (wk.new (c:=.lst ds) hp (show iy K _ _ _ p (.lst ds) from ⟨xs,aN,g.reps r⟩)) g ?_ h
 unfold Rep
 exact ⟨p,rfl,by rw [<- wk.len]; simp⟩
theorem sW {m:Bool} (wk:bY K H θ μ) (f:Fin K H θ μ Qd Q) (r:eF K H θ μ ds xs) (h:newL m ds μ Qd) (hp:H p=none):Q (.ref p) (upd H p (.lst xs)):=by
 cases m with
 | true=>exact MK wk f r h hp
 | false=>exact yW wk f r h hp
end
section
variable {K:PySem.W.Frag} {σ:L2.St} {H:Hp} {Q:VK} {wa wb wc:WE}
theorem nU {w:D->D->Mem->QD->Prop} (h:LE K (fun ρ μ Q=>wa ρ μ fun x μ1=>wb ρ μ1 fun y μ2=>w x y μ2 Q) σ H Q):Yk (rN K w) (LE K wa) (LE K wb) σ H Q:=by
 obtain ⟨ρ,θ,μ,Qd,s,h,f⟩:=h
 refine ⟨ρ,θ,μ,_,s,h,fun x v H1 θ1 μ1 w1 g1 r1 h1=>⟨ρ,θ1,μ1,_,s.grow w1 g1,h1,fun y v2 H2 θ2 μ2 w2 g2 r2 h2=>?_⟩⟩
 exact ⟨x,y,θ2,μ2,Qd,w2,g2.rep r1,r2,h2,f.mono (g1.trans g2)⟩
theorem RW {w:List D->Mem->QD->Prop} {ws:WA} (h:LE K (fun ρ μ Q=>ws ρ μ fun ds μ1=>w ds μ1 Q) σ H Q):LA K ws σ H (fun vs H1=>vh K w vs H1 Q):=by
 obtain ⟨ρ,θ,μ,Qd,s,h,f⟩:=h
 exact ⟨ρ,θ,μ,_,s,h,fun ds vs H1 θ1 μ1 w1 g1 r1 h1=>⟨ds,θ1,μ1,Qd,w1,r1,h1,f.mono g1⟩⟩
theorem RX {ws:WA} {Q:List V->Hp->Prop} (h:LA K (fun ρ μ Q=>wa ρ μ fun d μ1=>ws ρ μ1 fun ds μ2=>Q (d :: ds) μ2) σ H Q):xG (LE K wa) (LA K ws) σ H Q:=by
 obtain ⟨ρ,θ,μ,Qd,s,h,f⟩:=h
 refine ⟨ρ,θ,μ,_,s,h,fun x v H1 θ1 μ1 w1 g1 r1 h1=>⟨ρ,θ1,μ1,_,s.grow w1 g1,h1,fun ds vs H2 θ2 μ2 w2 g2 r2 h2=>?_⟩⟩
 exact f (x :: ds) (v :: vs) H2 θ2 μ2 w2 (g1.trans g2) (.cons (g2.rep r1) r2) h2
end
section
variable {X:Cx}
theorem Rx:PA X [] (LA X.K (fun _ μ Q=>Q [] μ)):=PA.wk uO fun σ H Q h=>by
 obtain ⟨ρ,θ,μ,Qd,s,h,f⟩:=h
 exact f [] [] H θ μ s.yH aD.refl aG.nil h
theorem Mu {e:Expr} {es:List Expr} {wa:WE} {ws:WA} (h1:PE X e (LE X.K wa)) (h2:PA X es (LA X.K ws)) (hs:starEach (e :: es) X.env=(false,eval e X.env) :: starEach es X.env) :
  PA X (e :: es) (LA X.K (fun ρ μ Q=>wa ρ μ fun d μ1=>ws ρ μ1 fun ds μ2=>Q (d :: ds) μ2)):=PA.wk (jE h1 h2 hs) fun σ H Q h=>RX h
theorem Rh {i:Nat} {x:Str} {pos:Pos} (hN:X.N[i]? = some x) (hv:ZR X.env.scope x) (hd:(x == ("__debug__" : Str))=false) (hcd:(x == ("__classdict__" : Str))=false) :
  PE X (.Name x pos) (LE X.K (fun ρ μ Q=>match ρ[i]? with | some (some d)=>Q d μ | _=>False)):=PE.wk (VD hN hv hd hcd) fun σ H Q h=>by
 obtain ⟨ρ,θ,μ,Qd,s,h,f⟩:=h
 split at h
 ·rename_i d e
  obtain ⟨v,e1,r⟩:=s.val i d e
  exact ⟨v,e1,f.at s.yH r h⟩
 ·exact h.elim
theorem pq {v:V} {d:D} (r:∀ H θ μ,Rp X.K H θ μ d v) {σ:L2.St} {H:Hp} {Q:VK} (h:LE X.K (fun _ μ Q=>Q d μ) σ H Q):tC v σ H Q:=by
 obtain ⟨ρ,θ,μ,Qd,s,h,f⟩:=h
 exact f.at s.yH (r H θ μ) h
theorem Mx:mQ X (binaryOp .FloorDiv) (rI (fun _ j=>rJ j) fun i j=>.int (i / j)):=opI fun i j _ _ _ _ _ hc q=>by
 have h1:(0:Int) < j:=hc.1
 have h2:j < 2 ^ 500:=hc.2
 refine floordiv_int (by lia) ?_ (.inl (PyProof.noPylong_of_log2 ?_))
 ·rw [Int.fdiv_eq_ediv_of_nonneg i (by lia)]; exact q
 ·have h3:j.natAbs < 2 ^ 500:=by lia
  have h4:j.natAbs≠0:=by lia
  have:=(Nat.log2_lt h4).mpr h3
  lia
theorem KR {prog:Program} {w:World} {A:Around} {E:Value->Shared->Prop} {s:Shared} {t b:Addr} {vs ws:List Value} {Q:Value->Shared->Prop} (ht:IsTup s.heap t vs.toArray) (hb:IsTup s.heap b ws.toArray) (hv:vs=[]) (h:Q (.ref b) s) :
  wpAny (model prog w) A (binaryOp .Add (.ref t) (.ref b)) Q E s:=by
 obtain ⟨⟨c1,d1,a1,s1⟩,g1,e1,n1,f1⟩:=id ht
 obtain ⟨⟨c2,d2,a2,s2⟩,g2,e2,n2,f2⟩:=id hb
 cases e1
 cases f1
 cases e2
 cases f2
 refine concat_meets ⟨_,g1,rfl⟩ ⟨_,g2,rfl⟩ noFill_tuple_add seq_tuple_add
  PySem.F.slot_tuple_add PySem.F.entry_tuple_add (PySem.F.args_tuple_add_2 _ _) (tuple_addW0 t b vs.toArray ws.toArray n1 n2 d1 d2 s1 s2 ?_) ⟨g1,g2,h⟩
 rw [hv]; rfl
theorem Xm (op:Operator):mQ X (binaryOp op) (rN X.K (gB op)):=by
 intro pins s σ H x y v u Q I rx ry h
 obtain ⟨d,e,θ,μ,Qd,wk,rd,re,hw,f⟩:=h
 unfold gB at hw
 split at hw
 ·rename_i i j
  have ex:=aC rd
  have ey:=aC re
  split at hw
  ·exact V6 pins s σ H x y v u Q I rx ry ⟨i,j,ex,ey,f.at wk bL hw⟩
  ·exact V1 pins s σ H x y v u Q I rx ry ⟨i,j,ex,ey,f.at wk bL hw⟩
  ·exact V3 pins s σ H x y v u Q I rx ry ⟨i,j,ex,ey,hw.1,f.at wk bL hw.2⟩
  ·exact Mx pins s σ H x y v u Q I rx ry ⟨i,j,ex,ey,hw.1,f.at wk bL hw.2⟩
  ·exact V4 pins s σ H x y v u Q I rx ry ⟨i,j,ex,ey,hw.1,f.at wk bL hw.2⟩
  ·exact V2 pins s σ H x y v u Q I rx ry ⟨i,j,ex,ey,hw.1,f.at wk bL hw.2⟩
  ·exact hw.elim
 ·rename_i a b
  obtain ⟨ex,hx⟩:=cB rd
  obtain ⟨ey,hy⟩:=cB re
  split at hw
  ·have hl:(a ++ b).length<=sizeLine:=by rw [List.length_append,<- jH]; exact hw.1
   have hq:=f.at wk (uI hl) hw.2
   refine Et pins s σ H x y v u Q I rx ry ⟨_,_,ex,ey,?_,?_⟩
   ·show a.toArray.size + b.toArray.size<=_
    rw [<- jH]; simpa using hw.1
   ·have e:(⟨a.toArray⟩ ++ ⟨b.toArray⟩:Str)=⟨(a ++ b).toArray⟩:=by
     show Str.mk (a.toArray ++ b.toArray)=_
     simp
    rw [e]; exact hq
  ·exact hw.elim
 ·rename_i a n
  obtain ⟨rfl,hx⟩:=cB rd
  cases aC re
  split at hw
  ·obtain ⟨⟨n2,n3,a1,a2⟩,hq⟩:=hw
   obtain ⟨t,rfl⟩:=rx
   obtain ⟨u',rfl⟩:=ry
   have hal:(⟨a.toArray⟩:Str).length=a.length:=by simp [Str.length]
   have Zo:∀ (m:Nat) (acc:Array Nat),((List.replicate m a.toArray).foldl (· ++ ·) acc).toList=acc.toList ++ (List.replicate m a).flatten:=by
    intro m
    induction m with
    | zero=>intro acc; simp
    | succ m ih=>intro acc; rw [List.replicate_succ,List.foldl_cons,ih]; simp [List.replicate_succ]
   have hlen:(List.replicate n.toNat a).flatten.length=n.toNat * a.length:=by simp
   have hle:n.toNat * a.length<=1000 * 1000:=Nat.mul_le_mul (by lia) a2
   have Oh:(List.replicate n.toNat a).flatten.length<=sizeLine:=by rw [hlen,sizeLine_eq]; lia
   have e:(⟨(List.replicate n.toNat (⟨a.toArray⟩:Str).cps).foldl (· ++ ·) #[]⟩:Str)=⟨(List.replicate n.toNat a).flatten.toArray⟩:=by
    have:=Zo n.toNat #[]
    congr 1
    apply Array.toList_inj.mp
    simpa using this
   refine PySem.P.mul_str (by rw [decide_eq_false (by lia),decide_eq_false (by lia)]; rfl) (fun _ _=>?_) (fun _ _=>?_) ?_
   ·rw [hal]
    have:(1000:Int)<=(2 ^ 63 - 1) / n:=(Int.le_ediv_iff_mul_le (by lia)).mpr (by lia)
    lia
   ·rw [hal]
    have h3:a.length * n.toNat<=1000000:=by rw [Nat.mul_comm]; lia
    unfold Builtin.Str.tooLong
    exact decide_eq_false (Nat.not_lt.mpr (Nat.le_trans h3 (by rw [sizeLine_eq]; decide)))
   ·by_cases n0:n=0
    ·subst n0
     exact ⟨by decide,.str _,H,I.tok _,⟨_,rfl⟩,f.at wk (uI Oh) hq⟩
    by_cases n1:n=1
    ·subst n1
     have e1:(List.replicate (1:Int).toNat a).flatten=a:=by simp
     rw [e1] at hq Oh
     exact ⟨.str _,H,I,⟨_,rfl⟩,f.at wk (uI Oh) hq⟩
    rw [if_neg (by lia),if_neg (by rw [hal]; simp only [Bool.or_eq_true,beq_iff_eq]; lia),e]
    exact ⟨by simpa [Str.length] using Oh,.str _,H,I.tok _,⟨_,rfl⟩,f.at wk (uI Oh) hq⟩
  ·exact hw.elim
 ·rename_i a b
  obtain ⟨p,xs,ex,hx,_,r1⟩:=eU rd
  obtain ⟨q,ys,ey,hy,_,r2⟩:=eU re
  split at hw
  ·have l1:=r1.length
   have l2:=r2.length
   refine Mz pins s σ H x y v u Q I rx ry ⟨p,q,xs,ys,ex,ey,hx,hy,by have h1:=hw.1; rw [l1,l2,jH] at h1; exact h1,fun z hz=>?_⟩
   exact yW wk f (r1.append r2) hw.2 hz
  ·exact hw.elim
 ·rename_i a b
  obtain ⟨p,xs,ex,hx,nx,r1⟩:=cA rd
  obtain ⟨q,ys,ey,hy,_,r2⟩:=cA re
  split at hw
  ·obtain ⟨h2,h3⟩:=hw
   have l1:=r1.length
   have l2:=r2.length
   by_cases h1:a=[]
   ·subst h1
    rw [List.nil_append] at h3
    subst ex ey
    cases rx
    cases ry
    obtain ⟨its,q1,p1,_⟩:=I.tuple (p7.of hx)
    obtain ⟨its2,q2,p2,_⟩:=I.tuple (p7.of hy)
    have e1:its=[]:=List.length_eq_zero_iff.mp (by rw [<- q1.length,<- l1]; rfl)
    exact KR p1 p2 e1 ⟨.ref q,H,I,rfl,f.at wk re h3⟩
   refine Rz pins s σ H x y v u Q I rx ry ⟨p,q,xs,ys,ex,ey,.of hx,.of hy,?_,by rw [l1,l2,jH] at h2; exact h2,fun z=>?_,fun z w hw'=>yV wk f (r1.append r2) h3 hw'⟩
   ·intro z; rw [z] at l1; exact h1 (List.length_eq_zero_iff.mp l1)
   ·rw [z] at l2
    have e:b=[]:=List.length_eq_zero_iff.mp l2
    rw [e,List.append_nil] at h3
    rw [<- ex]
    exact f.at wk rd h3
  ·exact hw.elim
 ·exact hw.elim
end
end DW
end
section
namespace DW
open PySem
structure Ctx where
 N:List Str
 names:List (Str×NameKind)
 dW:List Str
 calm:Bool
 rs:Bool
noncomputable abbrev Ctx.Ql (c:Ctx) (N:List Str) (names:List (Str×NameKind)):Ctx:=⟨N,names,c.dW,c.calm,true⟩
noncomputable abbrev Ctx.of (N:List Str) (names:List (Str×NameKind)) (dW:List Str):Ctx:=⟨N,names,dW,true,true⟩
noncomputable def Ctx.vis (c:Ctx) (x:Str):Bool:=match c.names.lookup x with
 | some .local=>true
 | some .cell=>true
 | some .free=>true
 | _=>false
noncomputable def Ctx.loc (c:Ctx) (x:Str):Bool:=match c.names.lookup x with
 | some .local=>true
 | some .cell=>true
 | _=>false
noncomputable def Ctx.wU (c:Ctx) (x:Str):Bool:=match c.names.lookup x with
 | some .globalImplicit=>true
 | _=>false
noncomputable def Ctx.at_ (c:Ctx) (i:Nat) (x:Str):Bool:=match c.N[i]? with
 | some y=>decide (y=x)
 | none=>false
noncomputable def iI (x:Str):Bool:=(x == ("__debug__" : Str)) || (x == ("__classdict__" : Str))
noncomputable def mC:Const->D->Bool
 | .none,.non=>true
 | .bool a,.bl b=>a == b
 | .int i,.int j=>i == j
 | .str s,.str x=>decide (s.cps.toList=x) && decide (x.length<=16777216)
 | _,_=>false
noncomputable def notStar:Expr->Bool
 | .Starred ..=>false
 | _=>true
noncomputable def eG:Expr->Bool
 | .Set ..=>false
 | _=>true
noncomputable def c7:Expr->Bool
 | .ListComp ..=>false
 | .SetComp ..=>false
 | .DictComp ..=>false
 | _=>true
noncomputable def bV:Expr->Bool
 | .Name ..=>true
 | .Constant ..=>true
 | .BinOp ..=>true
 | .UnaryOp ..=>true
 | .Call ..=>true
 | .Subscript ..=>true
 | .Attribute ..=>true
 | .Tuple ..=>true
 | _=>false
noncomputable def j6:Expr->Bool
 | .Name ..=>true
 | .Subscript ..=>true
 | .Attribute ..=>true
 | .Constant ..=>true
 | .Call (.Name ..) (_ :: _) _ _=>true
 | .Call (.Attribute ..) _ _ _=>true
 | _=>false
theorem wj {f:Expr} {as:List Expr} {ks:List Keyword} {p:Pos} (h:j6 (.Call f as ks p)=true):(∃ x q a r,f = .Name x q/\as=a :: r)∨∃ o m q,f = .Attribute o m q:=by
 cases f with
 | Name x q=>cases as with
  | nil=>exact (Bool.false_ne_true h).elim
  | cons a r=>exact .inl ⟨x,q,a,r,rfl,rfl⟩
 | Attribute o m q=>exact .inr ⟨o,m,q,rfl⟩
 | _=>exact (Bool.false_ne_true h).elim
noncomputable def Pn (x:String):Str:=if x = "mlist" then "list" else if x = "msorted" then "sorted" else if x = "isorted" then "sorted" else if x = "dsorted" then "sorted" else if x = "min3" then "min" else if x = "tsorted" then "sorted" else if x = "mtsorted" then "sorted" else Str.ofString x
noncomputable def aZ (c:Ctx) (x:Str):Bool:=c.wU x && c.dW.contains x
noncomputable def fY (c:Ctx):List Nat->Option (List Str)
 | []=>some []
 | i :: is=>match c.N[i]?,fY c is with
  | some x,some r=>some (x :: r)
  | _,_=>none
noncomputable def vW (c:Ctx) (scope:Scope) (Nc:List Str) (cap:List Str):Bool :=
 (scope.kind == .function) && scope.names.all (fun y=>y.2 != .cell || (scope.names.lookup y.1 == some .cell)) && scope.names.all (fun y=>y.2 != .local || (scope.names.lookup y.1 == some .local)) &&
 decide (Nc.Nodup) && cap.all (fun y=>scope.names.lookup y == some .free) && scope.names.all (fun y=>y.2 != .free || (c.names.lookup y.1 == some .cell || c.names.lookup y.1 == some .free))
noncomputable def namesOf:List Expr->Option (List Str)
 | []=>some []
 | .Name x _ :: as=>(namesOf as).map (x :: ·)
 | _ :: _=>none
noncomputable def rZ (tt:Bool) (a:Expr):Option (List Str):=match tt with
 | false=>match a with | .Name x _=>some [x] | _=>none
 | true=>match a with | .Tuple ts _ _=>namesOf ts | _=>none
noncomputable def eO (c:Ctx):List Nat->List Expr->Bool
 | [],[]=>true
 | i :: is,a :: as=>(match a with | .Name x _=>c.at_ i x && c.loc x | _=>false) && eO c is as
 | _,_=>false
noncomputable def Wf (c:Ctx) (is:List Nat) (tt:Bool) (a:Expr):Bool :=
 match tt with
 | false=>eO c is [a]
 | true=>match a with | .Tuple ts _ _=>eO c is ts | _=>false
noncomputable def jR (tt:Bool):It->Bool
 | .zip _ _=>tt
 | .enum _ _=>tt
 | _=>true
noncomputable def opt {α:Type} (o:Option α) (f:α->Bool):Bool:=match o with
 | some x=>f x
 | none=>false
theorem au {α:Type} {o:Option α} {f:α->Bool} (h:opt o f=true):∃ x,o=some x/\f x=true:=by
 cases o with
 | none=>exact (Bool.false_ne_true h).elim
 | some x=>exact ⟨x,rfl,h⟩
theorem ao {α:Type} {x:α} {P:Prop} (h:none=some x):P:=(Option.some_ne_none x h.symm).elim
noncomputable def tY:Expr->Option Str
 | .Name x _=>some x
 | _=>none
theorem qg {a:Expr} {t:Str} (h:tY a=some t):∃ p,a = .Name t p:=by
 cases a with
 | Name x p=>cases Option.some.inj (show some x=some t from h); exact ⟨p,rfl⟩
 | _=>exact ao h
noncomputable def DX:Expr->Option Const
 | .Constant k _ _=>some k
 | _=>none
theorem DR {a:Expr} {t:Const} (h:DX a=some t):∃ j p,a = .Constant t j p:=by
 cases a with
 | Constant k j p=>cases Option.some.inj (show some k=some t from h); exact ⟨j,p,rfl⟩
 | _=>exact ao h
noncomputable def Ks:Expr->Option (Expr×Operator×Expr)
 | .BinOp l o r _=>some (l,o,r)
 | _=>none
theorem Az {a:Expr} {t:(Expr×Operator×Expr)} (h:Ks a=some t):∃ p,a = .BinOp t.1 t.2.1 t.2.2 p:=by
 cases a with
 | BinOp l o r p=>cases Option.some.inj (show some (l,o,r)=some t from h); exact ⟨p,rfl⟩
 | _=>exact ao h
noncomputable def vIf:Expr->Option (Expr×Expr×Expr)
 | .IfExp x y z _=>some (x,y,z)
 | _=>none
theorem Qp {a:Expr} {t:(Expr×Expr×Expr)} (h:vIf a=some t):∃ p,a = .IfExp t.1 t.2.1 t.2.2 p:=by
 cases a with
 | IfExp x y z p=>cases Option.some.inj (show some (x,y,z)=some t from h); exact ⟨p,rfl⟩
 | _=>exact ao h
noncomputable def tX:Expr->Option (Expr×Expr)
 | .Subscript x y _=>some (x,y)
 | _=>none
theorem kh {a:Expr} {t:(Expr×Expr)} (h:tX a=some t):∃ p,a = .Subscript t.1 t.2 p:=by
 cases a with
 | Subscript x y p=>cases Option.some.inj (show some (x,y)=some t from h); exact ⟨p,rfl⟩
 | _=>exact ao h
noncomputable def Kh:Expr->Option (List Expr)
 | .Tuple x _ _=>some x
 | _=>none
theorem Aw {a:Expr} {t:(List Expr)} (h:Kh a=some t):∃ k p,a = .Tuple t k p:=by
 cases a with
 | Tuple x k p=>cases Option.some.inj (show some x=some t from h); exact ⟨k,p,rfl⟩
 | _=>exact ao h
noncomputable def U7:Expr->Option (List Expr)
 | .List x _=>some x
 | _=>none
theorem Ko {a:Expr} {t:(List Expr)} (h:U7 a=some t):∃ p,a = .List t p:=by
 cases a with
 | List x p=>cases Option.some.inj (show some x=some t from h); exact ⟨p,rfl⟩
 | _=>exact ao h
noncomputable def tZ:Expr->Option (Expr×Str)
 | .Attribute x y _=>some (x,y)
 | _=>none
theorem qj {a:Expr} {t:(Expr×Str)} (h:tZ a=some t):∃ p,a = .Attribute t.1 t.2 p:=by
 cases a with
 | Attribute x y p=>cases Option.some.inj (show some (x,y)=some t from h); exact ⟨p,rfl⟩
 | _=>exact ao h
noncomputable def U6:Expr->Option Expr
 | .UnaryOp .USub l _=>some l
 | _=>none
theorem Km {a:Expr} {t:Expr} (h:U6 a=some t):∃ p,a = .UnaryOp .USub t p:=by
 cases a with
 | UnaryOp o l p =>
  cases o with
  | USub=>cases Option.some.inj (show some l=some t from h); exact ⟨p,rfl⟩
  | _=>exact ao h
 | _=>exact ao h
noncomputable def U5:Expr->Option Expr
 | .UnaryOp .Not l _=>some l
 | _=>none
theorem Kl {a:Expr} {t:Expr} (h:U5 a=some t):∃ p,a = .UnaryOp .Not t p:=by
 cases a with
 | UnaryOp o l p =>
  cases o with
  | Not=>cases Option.some.inj (show some l=some t from h); exact ⟨p,rfl⟩
  | _=>exact ao h
 | _=>exact ao h
noncomputable def Kr:Expr->Option (Expr×CmpOp×Expr)
 | .Compare l [o] [r] _=>some (l,o,r)
 | _=>none
theorem Ay {a:Expr} {t:(Expr×CmpOp×Expr)} (h:Kr a=some t):∃ p,a = .Compare t.1 [t.2.1] [t.2.2] p:=by
 cases a with
 | Compare l os rs p =>
  match os,rs,h with
  | [o],[r],h=>cases Option.some.inj (show some (l,o,r)=some t from h); exact ⟨p,rfl⟩
  | [],_,h=>exact ao h
  | _ :: _ :: _,_,h=>exact ao h
  | [_],[],h=>exact ao h
  | [_],_ :: _ :: _,h=>exact ao h
 | _=>exact ao h
noncomputable def Kq:Expr->Option (Expr×CmpOp×CmpOp×Expr×Expr)
 | .Compare l [o,q] [m,r] _=>some (l,o,q,m,r)
 | _=>none
theorem HX {a:Expr} {t:(Expr×CmpOp×CmpOp×Expr×Expr)} (h:Kq a=some t):∃ p,a = .Compare t.1 [t.2.1,t.2.2.1] [t.2.2.2.1,t.2.2.2.2] p:=by
 cases a with
 | Compare l os rs p =>
  match os,rs,h with
  | [o,q],[m,r],h=>cases Option.some.inj (show some (l,o,q,m,r)=some t from h); exact ⟨p,rfl⟩
  | [],_,h=>exact ao h
  | [_],_,h=>exact ao h
  | _ :: _ :: _ :: _,_,h=>exact ao h
  | [_,_],[],h=>exact ao h
  | [_,_],[_],h=>exact ao h
  | [_,_],_ :: _ :: _ :: _,h=>exact ao h
 | _=>exact ao h
noncomputable def U8:Expr->Option (Expr×Expr)
 | .BoolOp .And (v :: w :: rest) p=>some (v,match rest with | []=>w | _ :: _=>.BoolOp .And (w :: rest) p)
 | _=>none
theorem Ku {a:Expr} {t:Expr×Expr} (h:U8 a=some t):(∃ p,a = .BoolOp .And [t.1,t.2] p)∨∃ w z rest p,a = .BoolOp .And (t.1 :: w :: z :: rest) p/\t.2 = .BoolOp .And (w :: z :: rest) p:=by
 cases a with
 | BoolOp o vs p =>
  cases o with
  | And =>
   match vs,h with
   | [v,w],h=>cases Option.some.inj (show some (v,w)=some t from h); exact .inl ⟨p,rfl⟩
   | v :: w :: z :: rest,h=>cases Option.some.inj (show some (v,.BoolOp .And (w :: z :: rest) p)=some t from h); exact .inr ⟨w,z,rest,p,rfl,rfl⟩
   | [],h=>exact ao h
   | [_],h=>exact ao h
  | _=>exact ao h
 | _=>exact ao h
noncomputable def vOr:Expr->Option (Expr×Expr)
 | .BoolOp .Or (v :: w :: rest) p=>some (v,match rest with | []=>w | _ :: _=>.BoolOp .Or (w :: rest) p)
 | _=>none
theorem Qo {a:Expr} {t:Expr×Expr} (h:vOr a=some t):(∃ p,a = .BoolOp .Or [t.1,t.2] p)∨∃ w z rest p,a = .BoolOp .Or (t.1 :: w :: z :: rest) p/\t.2 = .BoolOp .Or (w :: z :: rest) p:=by
 cases a with
 | BoolOp o vs p =>
  cases o with
  | Or =>
   match vs,h with
   | [v,w],h=>cases Option.some.inj (show some (v,w)=some t from h); exact .inl ⟨p,rfl⟩
   | v :: w :: z :: rest,h=>cases Option.some.inj (show some (v,.BoolOp .Or (w :: z :: rest) p)=some t from h); exact .inr ⟨w,z,rest,p,rfl,rfl⟩
   | [],h=>exact ao h
   | [_],h=>exact ao h
  | _=>exact ao h
 | _=>exact ao h
noncomputable def fV:Expr->Option (Str×List Expr)
 | .Call (.Name y _) as [] _=>some (y,as)
 | _=>none
theorem cJ {a:Expr} {t:(Str×List Expr)} (h:fV a=some t):∃ p q,a = .Call (.Name t.1 p) t.2 [] q:=by
 cases a with
 | Call f as ks q =>
  cases f with
  | Name y p =>
   cases ks with
   | nil=>cases Option.some.inj (show some (y,as)=some t from h); exact ⟨p,q,rfl⟩
   | cons _ _=>exact ao h
  | _=>exact ao h
 | _=>exact ao h
noncomputable def Ax:Expr->Option (Expr×Str×List Expr×Bool)
 | .Call (.Attribute o m p) as [] q=>some (o,m,as,p.endLine == q.line)
 | _=>none
theorem xr {a:Expr} {t:(Expr×Str×List Expr×Bool)} (h:Ax a=some t):∃ p q,a = .Call (.Attribute t.1 t.2.1 p) t.2.2.1 [] q/\t.2.2.2=(p.endLine == q.line):=by
 cases a with
 | Call f as ks q =>
  cases f with
  | Attribute o m p =>
   cases ks with
   | nil=>cases Option.some.inj (show some (o,m,as,p.endLine == q.line)=some t from h); exact ⟨p,q,rfl,rfl⟩
   | cons _ _=>exact ao h
  | _=>exact ao h
 | _=>exact ao h
noncomputable def Kg:List Expr->Option (Expr×Expr)
 | [x,y]=>some (x,y)
 | _=>none
theorem Av {a:List Expr} {t:Expr×Expr} (h:Kg a=some t):a=[t.1,t.2]:=by
 match a,h with
 | [x,y],h=>cases Option.some.inj (show some (x,y)=some t from h); rfl
 | [],h=>exact ao h
 | [_],h=>exact ao h
 | _ :: _ :: _ :: _,h=>exact ao h
noncomputable def DQ:Expr->Bool
 | .Dict [] [] _=>true
 | _=>false
theorem DP {a:Expr} (h:DQ a=true):∃ p,a = .Dict [] [] p:=by
 unfold DQ at h
 split at h
 ·exact ⟨_,rfl⟩
 ·cases h
noncomputable def Kp:Expr->Option (Expr×Expr×Expr×List Expr×Scope)
 | .ListComp e [g] s _=>if g.is_async=0 then some (e,g.target,g.iter,g.ifs,s) else none
 | _=>none
theorem xu {a:Expr} {t:Expr×Expr×Expr×List Expr×Scope} (h:Kp a=some t):∃ p,a = .ListComp t.1 [⟨t.2.1,t.2.2.1,t.2.2.2.1,0⟩] t.2.2.2.2 p:=by
 cases a with
 | ListComp e gs s p =>
  match gs,h with
  | [⟨tg,it,ifs,k⟩],h =>
   have h:(if k=0 then some (e,tg,it,ifs,s) else none)=some t:=h
   by_cases q:k=0
   ·rw [if_pos q] at h; cases Option.some.inj h; exact ⟨p,by rw [q]⟩
   ·rw [if_neg q] at h; exact ao h
  | [],h=>exact ao h
  | _ :: _ :: _,h=>exact ao h
 | _=>exact ao h
noncomputable def uJ:It->Bool
 | .rng as=>decide (j4 as<=2)
 | _=>false
mutual
noncomputable def mE (c:Ctx):E->Expr->Bool
 | .var i,a=>opt (tY a) fun x=>c.at_ i x && c.vis x && !iI x
 | .cst d,a=>opt (DX a) fun k=>mC k d
 | .bin op l r,a=>opt (Ks a) fun t=>op == t.2.1 && mE c l t.1 && mE c r t.2.2
 | .neg l,a=>opt (U6 a) fun t=>mE c l t
 | .not l,a=>opt (U5 a) fun t=>mE c l t
 | .cmp op l r,a=>opt (Kr a) fun t=>op == t.2.1 && mE c l t.1 && mE c r t.2.2 && eG t.2.2
 | .rR n l r,a=>opt (Kr a) fun t=>(t.2.1 == (if n then CmpOp.NotEq else CmpOp.Eq)) && mE c l t.1 && mE c r t.2.2 && eG t.2.2
 | .chain p q l m r,a=>opt (Kq a) fun t=>p == t.2.1 && q == t.2.2.1 && mE c l t.1 && mE c m t.2.2.2.1 && mE c r t.2.2.2.2 && eG t.2.2.2.2 && eG t.2.2.2.1
 | .and x y,a=>opt (U8 a) fun t=>mE c x t.1 && mE c y t.2
 | .or x y,a=>opt (vOr a) fun t=>mE c x t.1 && mE c y t.2
 | .Sh t x y,a=>opt (vIf a) fun q=>mE c t q.1 && mE c x q.2.1 && mE c y q.2.2
 | .call x _ as,a=>opt (fV a) fun t=>x == t.1 && c.wU x && !iI x && jo c as t.2
 | .blt x as,a=>opt (fV a) fun t=>c.calm && za.contains x && Pn x == t.1 && aZ c t.1 && jo c as t.2 && !t.2.isEmpty
 | .isin l t,a=>opt (fV a) fun q=>opt (Kg q.2) fun w=>opt (tY w.2) fun z=>(q.1 == Str.ofString "isinstance") && aZ c q.1 && ["int","bool","str","tuple","list","dict"].contains t && (z == Str.ofString t) && aZ c z && mE c l w.1 && notStar w.1
 | .isin l t (some _),a=>false
 | .meth m o as,a=>opt (Ax a) fun t=>(if t.2.2.1.isEmpty then false else ["append","insert"].contains m) && t.2.1 == Str.ofString m && j6 t.1 && t.2.2.2 && mE c o t.1 && jo c as t.2.2.1 && decide (t.2.2.1.length < 30)
 | .idx x y,a=>opt (tX a) fun t=>mE c x t.1 && mE c y t.2 && bV t.2
 | .tup as,a=>opt (Kh a) fun es=>jo c as es && decide (es.length<=16777216)
 | .lst _ as,a=>opt (U7 a) fun es=>jo c as es && decide (es.length<=16777216)
 | .comp _ n tt cap elt it cond,a=>opt (Kp a) fun t=>(c.calm || (uJ it && !tt)) && opt (rZ tt t.2.1) fun xs=>opt (fY c cap) fun cs=>n == xs.length && vW c t.2.2.2.2 (xs ++ cs) cs && jR tt it && mI c it t.2.2.1 && Wf (c.Ql (xs ++ cs) t.2.2.2.2.names) (List.range n) tt t.2.1 && mE (c.Ql (xs ++ cs) t.2.2.2.2.names) elt t.1 && jo (c.Ql (xs ++ cs) t.2.2.2.2.names) cond t.2.2.2.1 && decide (t.2.2.2.1.length<=1)
 | .iz x none,a=>mE c x a
 | .iz x (some _),a=>false
 | .OD _,a=>DQ a
 | .JH x y,a=>opt (tX a) fun t=>c.calm && mE c x t.1 && mE c y t.2 && bV t.2
 | .cat _ l r,a=>opt (Ks a) fun t=>t.2.1 == .Add && mE c l t.1 && mE c r t.2.2
 | .fld _ f o,a=>opt (tZ a) fun t=>t.2 == Str.ofString f && j6 t.1 && mE c o t.1
 | .lD _ m _ o as,a=>opt (Ax a) fun t=>t.2.1 == Str.ofString m && j6 t.1 && t.2.2.2 && mE c o t.1 && jo c as t.2.2.1 && decide (t.2.2.1.length < 30)
 | .mk x _ as,a=>opt (fV a) fun t=>Str.ofString x == t.1 && c.wU t.1 && !iI t.1 && jo c as t.2
noncomputable def jo (c:Ctx):Es->List Expr->Bool
 | .nil,as=>as.isEmpty
 | .cons e es,as=>match as with | []=>false | a :: as=>mE c e a && notStar a && jo c es as
noncomputable def mI (c:Ctx):It->Expr->Bool
 | .seq e,a=>mE c e a && eG a
 | .rng as,a=>opt (fV a) fun t=>(t.1 == Str.ofString "range") && aZ c t.1 && jo c as t.2 && (t.2.length == 1 || t.2.length == 2)
 | .zip l r,a=>opt (fV a) fun t=>opt (Kg t.2) fun w=>(t.1 == Str.ofString "zip") && aZ c t.1 && mE c l w.1 && mE c r w.2 && notStar w.1 && notStar w.2
 | .enum l,a=>opt (fV a) fun t=>match t.2 with | [l']=>(t.1 == Str.ofString "enumerate") && aZ c t.1 && mE c l l' && notStar l' | _=>false
 | .enum o true,a=>false
 | .X3 l,a=>opt (fV a) fun t=>match t.2 with | [l']=>(t.1 == Str.ofString "reversed") && aZ c t.1 && mE c l l' && notStar l' | _=>false
end
noncomputable def qu:Expr->Bool
 | .Tuple ..=>false
 | .List ..=>false
 | _=>true
noncomputable def isLocal (c:Ctx) (x:Str):Bool:=c.names.lookup x == some .local
noncomputable def zu:E->Bool
 | .comp ..=>true
 | _=>false
noncomputable def uf:Stmt->Option (Expr×Expr)
 | .Assign [t] v _=>some (t,v)
 | _=>none
theorem kj {a:Stmt} {t:Expr×Expr} (h:uf a=some t):∃ p,a = .Assign [t.1] t.2 p:=by
 cases a with
 | Assign ts v p =>
  match ts,h with
  | [x],h=>cases Option.some.inj (show some (x,v)=some t from h); exact ⟨p,rfl⟩
  | [],h=>exact ao h
  | _ :: _ :: _,h=>exact ao h
 | _=>exact ao h
noncomputable def KJ:Stmt->Option (Expr×Operator×Expr)
 | .AugAssign t o v _=>some (t,o,v)
 | _=>none
theorem Ba {a:Stmt} {t:Expr×Operator×Expr} (h:KJ a=some t):∃ p,a = .AugAssign t.1 t.2.1 t.2.2 p:=by
 cases a with
 | AugAssign x o v p=>cases Option.some.inj (show some (x,o,v)=some t from h); exact ⟨p,rfl⟩
 | _=>exact ao h
noncomputable def Vh:Stmt->Option Expr
 | .Expr v _=>some v
 | _=>none
theorem KH {a:Stmt} {t:Expr} (h:Vh a=some t):∃ p,a = .Expr t p:=by
 cases a with
 | Expr v p=>cases Option.some.inj (show some v=some t from h); exact ⟨p,rfl⟩
 | _=>exact ao h
noncomputable def Vf:Stmt->Option (Option Expr)
 | .Return v _=>some v
 | _=>none
theorem KC {a:Stmt} {t:Option Expr} (h:Vf a=some t):∃ p,a = .Return t p:=by
 cases a with
 | Return v p=>cases Option.some.inj (show some v=some t from h); exact ⟨p,rfl⟩
 | _=>exact ao h
noncomputable def uIf:Stmt->Option (Expr×List Stmt×List Stmt)
 | .If t x y _=>some (t,x,y)
 | _=>none
theorem Qu {a:Stmt} {t:Expr×List Stmt×List Stmt} (h:uIf a=some t):∃ p,a = .If t.1 t.2.1 t.2.2 p:=by
 cases a with
 | If u x y p=>cases Option.some.inj (show some (u,x,y)=some t from h); exact ⟨p,rfl⟩
 | _=>exact ao h
noncomputable def Vg:Stmt->Option (Expr×Expr×List Stmt)
 | .For t i b [] _=>some (t,i,b)
 | _=>none
theorem KD {a:Stmt} {t:Expr×Expr×List Stmt} (h:Vg a=some t):∃ p,a = .For t.1 t.2.1 t.2.2 [] p:=by
 cases a with
 | For u i b e p =>
  cases e with
  | nil=>cases Option.some.inj (show some (u,i,b)=some t from h); exact ⟨p,rfl⟩
  | cons _ _=>exact ao h
 | _=>exact ao h
noncomputable def Ve:Stmt->Option (Expr×List Stmt)
 | .While t b [] _=>some (t,b)
 | _=>none
theorem Kz {a:Stmt} {t:Expr×List Stmt} (h:Ve a=some t):∃ p,a = .While t.1 t.2 [] p:=by
 cases a with
 | While u b e p =>
  cases e with
  | nil=>cases Option.some.inj (show some (u,b)=some t from h); exact ⟨p,rfl⟩
  | cons _ _=>exact ao h
 | _=>exact ao h
mutual
noncomputable def mS (c:Ctx):S->Stmt->Bool
 | .set i e,a=>opt (uf a) fun t=>opt (tY t.1) fun x=>c.at_ i x && c.loc x && mE c e t.2 && (c7 t.2 || zu e)
 | .Ei is e,a=>opt (uf a) fun t=>opt (Kh t.1) fun ts=>c.calm && eO c is ts && mE c e t.2 && c7 t.2 && qu t.2
 | .dput o i e,a=>opt (uf a) fun t=>opt (tX t.1) fun u=>c.calm && mE c o u.1 && mE c i u.2 && bV u.2 && mE c e t.2 && c7 t.2
 | .rG op o i e,a=>opt (KJ a) fun t=>opt (tX t.1) fun u=>op == t.2.1 && (op == .Add || op == .Sub) && mE c o u.1 && mE c i u.2 && bV u.2 && mE c e t.2.2
 | .uG o i e,a=>opt (uf a) fun t=>opt (tX t.1) fun u=>mE c o u.1 && mE c i u.2 && bV u.2 && mE c e t.2 && c7 t.2
 | .exp e,a=>opt (Vh a) fun v=>mE c e v && c7 v
 | .ret e,a=>opt (Vf a) fun o=>opt o fun v=>mE c e v
 | .ite t x y,a=>opt (uIf a) fun u=>mE c t u.1 && u5 c x u.2.1 && u5 c y u.2.2
 | .for_ is tt it b,a=>opt (Vg a) fun u=>c.calm && Wf c is tt u.1 && mI c it u.2.1 && u5 c b u.2.2 && eG u.2.1 && jR tt it
 | .whl t b,a=>opt (Ve a) fun u=>mE c t u.1 && u5 c b u.2
 | .Br cn f o e,a=>opt (uf a) fun t=>opt (tZ t.1) fun u=>u.2 == Str.ofString f && mE c o u.1 && mE c e t.2
 | .JZ cn f op o e,a=>opt (KJ a) fun t=>opt (tZ t.1) fun u=>u.2 == Str.ofString f && op == t.2.1 && (op == .Add || op == .Sub) && mE c o u.1 && mE c e t.2.2
 | .Qj,_=>true
noncomputable def u5 (c:Ctx):Ss->List Stmt->Bool
 | .nil,as=>as.isEmpty
 | .cons s r,as=>match as with | []=>false | a :: as=>mS c s a && u5 c r as
end
inductive Rf where
 | fn (x:Str) | lD (c m:String) | mk (c:String) | fld (c f:String)
 | ZF (x:Str) (ks:List (List Nat)) | dsp (x:Str) (ks:List (List Nat)) (sp:rY)
 | lam
 | fnM (x:Str) | rsi (c:String) (ks:List String) | efl (f:String) (tab:List String)
 | fnX (x:Str) (sp:rY) | RK (c m:String) (sp:rY) | mkX (c:String) (sp:rY) | rse (c:String) | hdl (P:String) (tab:List String) | isx (tt:Bool) (ts:List String) (tab:List (String×Bool))
def K7:cU:=fun _ _ _=>False
mutual
noncomputable def aP (P:Rf->cU->Prop) (G:Str->D->Prop):E->Prop
 | .bin _ a b=>aP P G a/\aP P G b
 | .neg a=>aP P G a
 | .not a=>aP P G a
 | .cmp _ a b=>aP P G a/\aP P G b
 | .rR _ a b=>aP P G a/\aP P G b
 | .chain _ _ a b c=>aP P G a/\aP P G b/\aP P G c
 | .and a b=>aP P G a/\aP P G b
 | .or a b=>aP P G a/\aP P G b
 | .Sh a b c=>aP P G a/\aP P G b/\aP P G c
 | .call x sp as=>P (.fn x) sp/\fX P G as
 | .blt _ as=>fX P G as
 | .isin a _=>aP P G a
 | .isin a t (some ks)=>P (.ZF (Str.ofString t) ks) K7/\aP P G a
 | .meth _ o as=>aP P G o/\fX P G as
 | .idx a b=>aP P G a/\aP P G b
 | .tup as=>fX P G as
 | .lst _ as=>fX P G as
 | .comp _ _ _ _ elt it cond=>aP P G elt/\RD P G it/\fX P G cond
 | .iz a _=>aP P G a
 | .JH a b=>aP P G a/\aP P G b
 | .cat _ a b=>aP P G a/\aP P G b
 | .fld c f o=>P (.fld c f) K7/\aP P G o
 | .lD c m sp o as=>P (.lD c m) sp/\aP P G o/\fX P G as
 | .mk c sp as=>P (.mk c) sp/\fX P G as
 | _=>True
noncomputable def fX (P:Rf->cU->Prop) (G:Str->D->Prop):Es->Prop
 | .nil=>True
 | .cons e es=>aP P G e/\fX P G es
noncomputable def RD (P:Rf->cU->Prop) (G:Str->D->Prop):It->Prop
 | .seq e=>aP P G e
 | .rng as=>fX P G as
 | .zip a b=>aP P G a/\aP P G b
 | .enum a _=>aP P G a
 | .X3 a=>aP P G a
end
mutual
noncomputable def X5 (P:Rf->cU->Prop) (G:Str->D->Prop):S->Prop
 | .set _ e=>aP P G e
 | .Ei _ e=>aP P G e
 | .dput o i e=>aP P G o/\aP P G i/\aP P G e
 | .rG _ o i e=>aP P G o/\aP P G i/\aP P G e
 | .uG o i e=>aP P G o/\aP P G i/\aP P G e
 | .exp e=>aP P G e
 | .ret e=>aP P G e
 | .ite c a b=>aP P G c/\gk P G a/\gk P G b
 | .for_ _ _ it b=>RD P G it/\gk P G b
 | .whl c b=>aP P G c/\gk P G b
 | .Br c f o e=>P (.fld c f) K7/\aP P G o/\aP P G e
 | .JZ c f _ o e=>P (.fld c f) K7/\aP P G o/\aP P G e
 | _=>True
noncomputable def gk (P:Rf->cU->Prop) (G:Str->D->Prop):Ss->Prop
 | .nil=>True
 | .cons s r=>X5 P G s/\gk P G r
end
end DW
end
section
namespace DW
open PySem
section
variable {P P':Rf->cU->Prop} {G G':Str->D->Prop} (hp:∀ x sp,P x sp->P' x sp) (hg:∀ x d,G x d->G' x d)
include hp hg
mutual
theorem aP.mono:∀ e:E,aP P G e->aP P' G' e
 | .var _,h=>trivial
 | .cst _,h=>trivial
 | .bin _ a b,h=>⟨aP.mono a h.1,aP.mono b h.2⟩
 | .neg a,h=>aP.mono a h
 | .not a,h=>aP.mono a h
 | .cmp _ a b,h=>⟨aP.mono a h.1,aP.mono b h.2⟩
 | .rR _ a b,h=>⟨aP.mono a h.1,aP.mono b h.2⟩
 | .chain _ _ a b c,h=>⟨aP.mono a h.1,aP.mono b h.2.1,aP.mono c h.2.2⟩
 | .and a b,h=>⟨aP.mono a h.1,aP.mono b h.2⟩
 | .or a b,h=>⟨aP.mono a h.1,aP.mono b h.2⟩
 | .Sh a b c,h=>⟨aP.mono a h.1,aP.mono b h.2.1,aP.mono c h.2.2⟩
 | .call x sp as,h=>⟨hp (.fn x) sp h.1,fX.mono as h.2⟩
 | .blt _ as,h=>fX.mono as h
 | .isin a _,h=>aP.mono a h
 | .isin a _ (some _),h=>⟨hp _ _ h.1,aP.mono a h.2⟩
 | .meth _ o as,h=>⟨aP.mono o h.1,fX.mono as h.2⟩
 | .idx a b,h=>⟨aP.mono a h.1,aP.mono b h.2⟩
 | .tup as,h=>fX.mono as h
 | .lst _ as,h=>fX.mono as h
 | .comp _ _ _ _ elt it cond,h=>⟨aP.mono elt h.1,RD.mono it h.2.1,fX.mono cond h.2.2⟩
 | .iz a _,h=>aP.mono a h
 | .JH a b,h=>⟨aP.mono a h.1,aP.mono b h.2⟩
 | .OD _,h=>trivial
 | .cat _ a b,h=>⟨aP.mono a h.1,aP.mono b h.2⟩
 | .fld c f o,h=>⟨hp _ _ h.1,aP.mono o h.2⟩
 | .lD c m sp o as,h=>⟨hp _ _ h.1,aP.mono o h.2.1,fX.mono as h.2.2⟩
 | .mk c sp as,h=>⟨hp _ _ h.1,fX.mono as h.2⟩
theorem fX.mono:∀ e:Es,fX P G e->fX P' G' e
 | .nil,_=>trivial
 | .cons e es,h=>⟨aP.mono e h.1,fX.mono es h.2⟩
theorem RD.mono:∀ e:It,RD P G e->RD P' G' e
 | .seq e,h=>aP.mono e h
 | .rng as,h=>fX.mono as h
 | .zip a b,h=>⟨aP.mono a h.1,aP.mono b h.2⟩
 | .enum a _,h=>aP.mono a h
 | .X3 a,h=>aP.mono a h
end
end
mutual
theorem X5.mono:∀ (s:S) {P P':Rf->cU->Prop} {G G':Str->D->Prop} (hp:∀ x sp,P x sp->P' x sp) (hg:∀ x d,G x d->G' x d),X5 P G s->X5 P' G' s
 | .set _ e,_,_,_,_,hp,hg,h=>aP.mono hp hg e h
 | .Ei _ e,_,_,_,_,hp,hg,h=>aP.mono hp hg e h
 | .dput o i e,_,_,_,_,hp,hg,h=>⟨aP.mono hp hg o h.1,aP.mono hp hg i h.2.1,aP.mono hp hg e h.2.2⟩
 | .rG _ o i e,_,_,_,_,hp,hg,h=>⟨aP.mono hp hg o h.1,aP.mono hp hg i h.2.1,aP.mono hp hg e h.2.2⟩
 | .uG o i e,_,_,_,_,hp,hg,h=>⟨aP.mono hp hg o h.1,aP.mono hp hg i h.2.1,aP.mono hp hg e h.2.2⟩
 | .exp e,_,_,_,_,hp,hg,h=>aP.mono hp hg e h
 | .ret e,_,_,_,_,hp,hg,h=>aP.mono hp hg e h
 | .ite c a b,_,_,_,_,hp,hg,h=>⟨aP.mono hp hg c h.1,gk.mono a hp hg h.2.1,gk.mono b hp hg h.2.2⟩
 | .for_ _ _ it b,_,_,_,_,hp,hg,h=>⟨RD.mono hp hg it h.1,gk.mono b hp hg h.2⟩
 | .whl c b,_,_,_,_,hp,hg,h=>⟨aP.mono hp hg c h.1,gk.mono b hp hg h.2⟩
 | .Br c f o e,_,_,_,_,hp,hg,h=>⟨hp _ _ h.1,aP.mono hp hg o h.2.1,aP.mono hp hg e h.2.2⟩
 | .JZ c f _ o e,_,_,_,_,hp,hg,h=>⟨hp _ _ h.1,aP.mono hp hg o h.2.1,aP.mono hp hg e h.2.2⟩
 | .Qj,_,_,_,_,_,_,_=>trivial
theorem gk.mono:∀ (s:Ss) {P P':Rf->cU->Prop} {G G':Str->D->Prop} (hp:∀ x sp,P x sp->P' x sp) (hg:∀ x d,G x d->G' x d),gk P G s->gk P' G' s
 | .nil,_,_,_,_,_,_,_=>trivial
 | .cons s r,_,_,_,_,hp,hg,h=>⟨X5.mono s hp hg h.1,gk.mono r hp hg h.2⟩
end
end DW
end
section
set_option maxHeartbeats 2000000
namespace DW
open PySem PySem.Spec PyProof.Rows L2
section
variable {X:Cx} {pos:Pos}
end
end DW
end
section
namespace DW
open PySem PySem.Spec PyProof.Rows L2
mutual
noncomputable def pd:D->PyData
 | .non=>.none
 | .bl b=>.bool b
 | .int i=>.int i
 | .str x=>.str ⟨x.toArray⟩
 | .tup ds=>.tuple (xO ds)
 | .lst ds=>.list (xO ds)
 | _=>.none
noncomputable def xO:List D->List PyData
 | []=>[]
 | d :: ds=>pd d :: xO ds
end
mutual
theorem dj:∀ (n:Nat) (d:D),flat n d=true->(pd d).canLay0=true
 | _,.non,_=>by simp [pd,PyData.canLay0]
 | _,.bl _,_=>by simp [pd,PyData.canLay0]
 | _,.int _,_=>by simp [pd,PyData.canLay0]
 | _,.str x,h=>by
  simp only [pd,PyData.canLay0,PyData.strOk]
  simpa [flat] using h
 | n + 1,.tup ds,h=>by simp only [pd,PyData.canLay0]; exact oA n ds (by simpa [flat] using h)
 | n + 1,.lst ds,h=>by simp only [pd,PyData.canLay0]; exact oA n ds (by simpa [flat] using h)
 | 0,.tup _,h=>by simp [flat] at h
 | 0,.lst _,h=>by simp [flat] at h
 | _,.ro _,h=>by simp [flat] at h
 | _,.loc _,h=>by simp [flat] at h
 | _,.j9 _ _,h=>by simp [flat] at h
 | _,.Dw _ _,h=>by simp [flat] at h
theorem oA:∀ (n:Nat) (ds:List D),flats n ds=true->PyData.canLayAll0 (xO ds)=true
 | _,[],_=>by simp [xO,PyData.canLayAll0]
 | n,d :: ds,h=>by
  have h':flat n d=true/\flats n ds=true:=by simpa [flats] using h
  simp only [xO,PyData.canLayAll0,dj n d h'.1,oA n ds h'.2,Bool.and_self]
end
mutual
theorem pQ:∀ (n:Nat) (d:D),flat n d=true->(pd d).depth<=n
 | _,.non,_=>by simp [pd,PyData.depth]
 | _,.bl _,_=>by simp [pd,PyData.depth]
 | _,.int _,_=>by simp [pd,PyData.depth]
 | _,.str x,h=>by simp [pd,PyData.depth]
 | n + 1,.tup ds,h=>by simp only [pd,PyData.depth]; have:=qQ n ds (by simpa [flat] using h); lia
 | n + 1,.lst ds,h=>by simp only [pd,PyData.depth]; have:=qQ n ds (by simpa [flat] using h); lia
 | 0,.tup _,h=>by simp [flat] at h
 | 0,.lst _,h=>by simp [flat] at h
 | _,.ro _,h=>by simp [flat] at h
 | _,.loc _,h=>by simp [flat] at h
 | _,.j9 _ _,h=>by simp [flat] at h
 | _,.Dw _ _,h=>by simp [flat] at h
theorem qQ:∀ (n:Nat) (ds:List D),flats n ds=true->PyData.depthAll (xO ds)<=n
 | _,[],_=>by simp [xO,PyData.depthAll]
 | n,d :: ds,h=>by
  have h':flat n d=true/\flats n ds=true:=by simpa [flats] using h
  simp only [xO,PyData.depthAll]
  have h1:=pQ n d h'.1
  have h2:=qQ n ds h'.2
  lia
end
theorem Bk (x y:List Nat):((⟨x.toArray⟩:Str) == ⟨y.toArray⟩)=(x == y):=by
 by_cases h:x=y
 ·subst h; simp
 ·have h1:¬ (⟨x.toArray⟩:Str)=⟨y.toArray⟩:=fun e=>h (by injection e with e; simpa using congrArg Array.toList e)
  rw [beq_eq_false_iff_ne.mpr h1,beq_eq_false_iff_ne.mpr h]
mutual
theorem vP:∀ (n m:Nat) (d e:D),flat n d=true->flat m e=true->PyData.eqv (pd d) (pd e)=jz d e
 | _,_,.non,e,_,he=>by cases e <;> simp_all [pd,PyData.eqv,jz,flat]
 | _,_,.bl a,e,_,he=>by cases e <;> simp_all [pd,PyData.eqv,jz,flat,b2i]
 | _,_,.int i,e,_,he=>by cases e <;> simp_all [pd,PyData.eqv,jz,flat,b2i]
 | _,_,.str x,e,_,he=>by cases e <;> simp_all [pd,PyData.eqv,jz,flat,Bk]
 | n + 1,m,.tup ds,e,hd,he=>by
  cases e with
  | tup es =>
   cases m with
   | zero=>simp [flat] at he
   | succ m =>
    simp only [pd,PyData.eqv,jz]
    exact zN n m ds es (by simpa [flat] using hd) (by simpa [flat] using he)
  | _=>simp_all [pd,PyData.eqv,jz,flat]
 | n + 1,m,.lst ds,e,hd,he=>by
  cases e with
  | lst es =>
   cases m with
   | zero=>simp [flat] at he
   | succ m =>
    simp only [pd,PyData.eqv,jz]
    exact zN n m ds es (by simpa [flat] using hd) (by simpa [flat] using he)
  | _=>simp_all [pd,PyData.eqv,jz,flat]
 | 0,_,.tup _,_,h,_=>by simp [flat] at h
 | 0,_,.lst _,_,h,_=>by simp [flat] at h
 | _,_,.ro _,_,h,_=>by simp [flat] at h
 | _,_,.loc _,_,h,_=>by simp [flat] at h
 | _,_,.j9 _ _,_,h,_=>by simp [flat] at h
 | _,_,.Dw _ _,_,h,_=>by simp [flat] at h
theorem zN:∀ (n m:Nat) (ds es:List D),flats n ds=true->flats m es=true->PyData.eqvAll (xO ds) (xO es)=wV ds es
 | _,_,[],es,_,_=>by cases es <;> simp [xO,PyData.eqvAll,wV]
 | n,m,d :: ds,es,hd,he=>by
  cases es with
  | nil=>simp [xO,PyData.eqvAll,wV]
  | cons e es =>
   have hd':flat n d=true/\flats n ds=true:=by simpa [flats] using hd
   have he':flat m e=true/\flats m es=true:=by simpa [flats] using he
   simp only [xO,PyData.eqvAll,wV]
   rw [vP n m d e hd'.1 he'.1,zN n m ds es hd'.2 he'.2]
end
section
variable {X:Cx} {pins:List (Addr×Obj)} {σ:L2.St} {H:Hp} {s:Shared} {θ:List Addr} {μ:Mem}
mutual
theorem bU (I:Inv X pins σ H s):∀ (n:Nat) (d:D) (v:V) (u:Value),Rp X.K H θ μ d v->RelV v u->flat n d=true->∃ as,Reads s.heap u (pd d) as
 | _,.non,v,u,r,ru,_=>by cases jK r; cases ru; exact ⟨_,by unfold pd; exact .none⟩
 | _,.bl b,v,u,r,ru,_=>by cases dR r; cases ru; exact ⟨_,by unfold pd; exact .bool b⟩
 | _,.int i,v,u,r,ru,_=>by cases aC r; obtain ⟨t,rfl⟩:=ru; exact ⟨_,by unfold pd; exact .int i t⟩
 | _,.str x,v,u,r,ru,_=>by cases (cB r).1; obtain ⟨t,rfl⟩:=ru; exact ⟨_,by unfold pd; exact .str _ t⟩
 | n + 1,.tup ds,v,u,r,ru,h=>by
  obtain ⟨a,xs,rfl,hH,_,rs⟩:=cA r
  cases ru
  obtain ⟨its,rv,⟨o,ho,hc,k,hd⟩,_⟩:=I.tuple (p7.of hH)
  obtain ⟨as,ra⟩:=lg I n ds xs its rs rv (by simpa [flat] using h)
  exact ⟨as,by unfold pd; exact .tuple ho hc hd (by simpa using ra)⟩
 | n + 1,.lst ds,v,u,r,ru,h=>by
  obtain ⟨a,xs,rfl,hH,_,rs⟩:=eU r
  cases ru
  obtain ⟨its,rv,⟨o,k,ho,hc,_,hd⟩,_⟩:=I.list (f9.of hH)
  obtain ⟨as,ra⟩:=lg I n ds xs its rs rv (by simpa [flat] using h)
  exact ⟨a :: as,by unfold pd; exact .list ho hc hd (by simpa using ra)⟩
 | 0,.tup _,_,_,_,_,h=>by simp [flat] at h
 | 0,.lst _,_,_,_,_,h=>by simp [flat] at h
 | _,.ro _,_,_,_,_,h=>by simp [flat] at h
 | _,.loc _,_,_,_,_,h=>by simp [flat] at h
 | _,.j9 _ _,_,_,_,_,h=>by simp [flat] at h
 | _,.Dw _ _,_,_,_,_,h=>by simp [flat] at h
theorem lg (I:Inv X pins σ H s):∀ (n:Nat) (ds:List D) (vs:List V) (us:List Value),eF X.K H θ μ ds vs->Vals vs us->flats n ds=true->∃ as,ReadsAll s.heap us (xO ds) as
 | _,[],vs,us,r,rv,_=>by cases r.nil_inv; cases rv; exact ⟨_,by unfold xO; exact .nil⟩
 | n,d :: ds,vs,us,r,rv,h=>by
  obtain ⟨v,vr,rfl,h1,h2⟩:=r.cons_inv
  have h':flat n d=true/\flats n ds=true:=by simpa [flats] using h
  cases rv with
  | cons ru rr =>
   obtain ⟨as,ra⟩:=bU I n d v _ h1 ru h'.1
   obtain ⟨bs,rb⟩:=lg I n ds vr _ h2 rr h'.2
   exact ⟨as ++ bs,by unfold xO; exact .cons ra rb⟩
end
end
theorem sY:∀ (x y:List Nat),cT x y=decide (x < y)
 | [],[]=>by simp [cT]
 | [],_ :: _=>by simp [cT]
 | _ :: _,[]=>by simp [cT]
 | a :: x,b :: y=>by
  unfold cT
  by_cases h:a=b
  ·subst h
   rw [if_pos rfl,sY x y]
   simp [List.cons_lt_cons_iff]
  ·rw [if_neg h]
   simp [List.cons_lt_cons_iff,h]
noncomputable def SV (u:Value) (d:D):Prop:=(∃ i t,u = .int i t/\d = .int i)∨∃ x t,u = .str ⟨x.toArray⟩ t/\d = .str x
noncomputable abbrev Xv:List Value->List D->Prop:=Paired SV
theorem Ys {A:Around} {s:Shared} {u v:Value} {d e:D} (h:SV u d) (k:SV v e):SeqAt.EqAt A s u v (jz d e):=by
 rcases h with ⟨i,t,rfl,rfl⟩ | ⟨x,t,rfl,rfl⟩
 ·rcases k with ⟨j,t',rfl,rfl⟩ | ⟨y,t',rfl,rfl⟩
  ·simp only [jz]; exact SeqAt.EqAt.int_int i t j t'
  ·simp only [jz]; exact SeqAt.EqAt.int_str i t _ t'
 ·rcases k with ⟨j,t',rfl,rfl⟩ | ⟨y,t',rfl,rfl⟩
  ·simp only [jz]; exact SeqAt.EqAt.str_int _ t j t'
  ·simp only [jz]; rw [<- Bk]; exact SeqAt.EqAt.str_str _ t _ t'
theorem Yr {A:Around} {s:Shared} {u v:Value} {d e:D} {b:Bool} (h:SV u d) (k:SV v e) (hb:sX d e=some b) (prog:Program) (w:World) (E:Value->Shared->Prop) (Q:Value->Shared->Prop) (q:Q (.bool b) s) :
  wpAny (model prog w) A (richCompare .Lt u v) Q E s:=by
 rcases h with ⟨i,t,rfl,rfl⟩ | ⟨x,t,rfl,rfl⟩
 ·rcases k with ⟨j,t',rfl,rfl⟩ | ⟨y,t',rfl,rfl⟩
  ·simp only [sX,Option.some.injEq] at hb
   subst hb
   exact (PyProof.Rows.lt_int q:wpAny (model prog w) A (compareOp .Lt (.int i t) (.int j t')) Q E s)
  ·simp [sX] at hb
 ·rcases k with ⟨j,t',rfl,rfl⟩ | ⟨y,t',rfl,rfl⟩
  ·simp [sX] at hb
  ·simp only [sX,Option.some.injEq] at hb
   subst hb
   rw [sY] at q
   exact (PySem.P.lt_str (by simpa using q):wpAny (model prog w) A (compareOp .Lt (.str ⟨x.toArray⟩ t) (.str ⟨y.toArray⟩ t')) Q E s)
section
open PySem.SeqAt
open PySem.AutoSeq1 (wpAny_loadPart')
open PySem.MeetsSeq PySem.MeetsSeq2 PySem.MeetsSeq3
theorem Jd (d e:D) (ds es:List D):rM (d :: ds) (e :: es)=if jz d e then rM ds es else sX d e:=by rw [rM]
theorem Bb (l b:Addr) (items items2:Array Value) (n n2:Nat) (dd dd2:Option Addr) (sl sl2:Array (Option Value)) (ns ms:List D) (r:Bool) (hi:Xv items.toList ns) (hj:Xv items2.toList ms) (hr:rM ns ms=some r) :
  Meets (Builtin.«tuple.__lt__» ⟨[.ref l,.ref b],[]⟩)
   (fun _ R s=>s.heap.get? l=some { cls:=.type "tuple",dict:=dd,data:=.seq items n,slots:=sl }/\s.heap.get? b=some { cls:=.type "tuple",dict:=dd2,data:=.seq items2 n2,slots:=sl2 } /\
    R (.ok (.ret (.bool r))) s) :=
 .of_wp fun prog w A R s h=>by
  obtain ⟨hp,g,d,tk,os⟩:=s; obtain ⟨hl,hb,h⟩:=h
  have f2:=AutoSeq1.sub_tuple_tuple
  have z1:items.size=ns.length:=by rw [<- Paired.length hi]; simp
  have z2:items2.size=ms.length:=by rw [<- Paired.length hj]; simp
  wp_walk using wpAny_loadPart' hl,wpAny_loadPart' hb,wpAny_forIn_list _ (fun rest b s'=>b.1=none/\s'=⟨hp,g,d,tk,os⟩/\∃ (vs ws:List Value) (ns' Y6:List D),rest=vs.zip ws /\
   Xv vs ns'/\Xv ws Y6/\ns'.length + items2.size=Y6.length + items.size/\rM ns' Y6=some r) _
  case turn =>
   rintro ⟨y,x⟩ rest b s' ⟨hb',rfl,vs,ws,ns',Y6,hz,hvi,hwi,hlen,hR⟩
   cases hvi with
   | nil=>rw [List.zip_nil_left] at hz; cases hz
   | @cons u du vs' adI hu abC =>
    cases hwi with
    | nil=>rw [List.zip_nil_right] at hz; cases hz
    | @cons v dv ws' adK hv abB =>
     rw [List.zip_cons_cons] at hz
     injection hz with hyx hrest
     injection hyx with hy hx
     subst hy hx
     rw [Jd] at hR
     simp only [List.length_cons] at hlen
     have he:=Ys (A:=A.in1) (s:=⟨hp,g,d,tk,os⟩) hu hv
     refine wpAny_bind (he prog w _ _ ?_)
     cases e:jz du dv with
     | true =>
      rw [e,if_pos rfl] at hR
      wp_walk
      exact ⟨rfl,rfl,_,_,_,_,hrest,abC,abB,by lia,hR⟩
     | false =>
      rw [e,if_neg Bool.false_ne_true] at hR
      have hri:=Yr (A:=A.in1) (s:=⟨hp,g,d,tk,os⟩) hu hv hR prog w
      wp_walk using hri
      exact ⟨_,rfl,by simpa using h⟩
  case fin =>
   rintro ⟨b1,b2⟩ s' ⟨hb',rfl,vs,ws,ns',Y6,hz,hvi,hwi,hlen,hR⟩
   simp only at hb'
   subst hb'
   have hv:r=decide (items.size < items2.size):=by
    cases hvi with
    | nil =>
     cases hwi with
     | nil =>
      simp only [List.length_nil] at hlen
      simp [rM] at hR
      rw [hR]
      exact (decide_eq_false (by lia)).symm
     | cons hu hw =>
      simp only [List.length_nil,List.length_cons] at hlen
      simp [rM] at hR
      rw [hR]
      exact (decide_eq_true (by lia)).symm
    | cons hu hv =>
     cases hwi with
     | nil =>
      simp only [List.length_nil,List.length_cons] at hlen
      simp [rM] at hR
      rw [hR]
      exact (decide_eq_false (by lia)).symm
     | cons hu' hw =>
      rw [List.zip_cons_cons] at hz
      cases hz
   rw [hv] at h
   wp_walk
   exact ⟨_,rfl,by simpa [Builtin.Tuple.tupleCompareSizes] using h⟩
  case h =>
   exact ⟨rfl,rfl,items.toList,items2.toList,ns,ms,rfl,hi,hj,by lia,hr⟩
end
theorem Nk {prog:Program} {w:World} {A:Around} {E:Value->Shared->Prop} {s:Shared} {l b:Addr} {items items2:Array Value} {ns ms:List D} {r:Bool} {Q:Value->Shared->Prop} (hl:IsTup s.heap l items) (hb:IsTup s.heap b items2) (hi:Xv items.toList ns) (hj:Xv items2.toList ms)
  (hr:rM ns ms=some r) (hu:A.units < cLine) (h:Q (.bool r) s):wpAny (model prog w) A (compareOp .Lt (.ref l) (.ref b)) Q E s:=by
 obtain ⟨⟨cls,dd,data,sl⟩,ho,hc,n,hd⟩:=id hl
 obtain ⟨⟨cls2,dd2,data2,sl2⟩,ho2,hc2,n2,hd2⟩:=id hb
 simp only at hc hd hc2 hd2
 subst hc hd hc2 hd2
 exact richCompare_meets_room (op:=.Lt) ⟨_,ho,rfl⟩ ⟨_,ho2,rfl⟩ PySem.F.slot_tuple_lt PySem.F.entry_tuple_lt (PySem.F.args_tuple_lt_2 _ _) (Bb l b items items2 n n2 dd dd2 sl sl2 ns ms r hi hj hr)
  ⟨ho,ho2,show Value.bool r≠Value.notImplemented/\Q (.bool r) s from ⟨(fun x=>nomatch x),h⟩⟩ hu
end DW
end
section
namespace DW
open PySem PySem.Spec PyProof.Rows L2
theorem qC {a b:j8} (h:keyOf a=keyOf b):a=b:=by
 cases a with
 | inl i=>cases b with
  | inl j=>simp only [keyOf,Sum.inl.injEq] at h; rw [h]
  | inr y=>cases h
 | inr x=>cases b with
  | inl j=>cases h
  | inr y =>
   simp only [keyOf,Sum.inr.injEq,Str.mk.injEq] at h
   have:x=y:=by simpa using congrArg Array.toList h
   rw [this]
theorem vA {a b:List j8} (h:a.map keyOf=b.map keyOf):a=b:=List.map_inj_right (fun _ _=>qC) |>.mp h
section
variable {κ κ':Type} [DecidableEq κ] [DecidableEq κ']
theorem NQ (f:κ->κ') (inj:∀ a b,f a=f b->a=b) {ks:List κ} {kvs:List (κ'×V)} {k:κ} (h1:kvs.map (·.1)=ks.map f):(kvs.any fun kv=>decide (kv.1=f k))=true<->k∈ks:=by
 have e:(kvs.any fun kv=>decide (kv.1=f k))=(kvs.map (·.1)).any fun q=>decide (q=f k):=by rw [List.any_map]; rfl
 rw [e,h1,List.any_eq_true]
 constructor
 ·rintro ⟨q,hq,e⟩
  obtain ⟨k',hk,rfl⟩:=List.mem_map.mp hq
  have:=inj _ _ (of_decide_eq_true e)
  subst this
  exact hk
 ·intro hk
  exact ⟨f k,List.mem_map.mpr ⟨k,hk,rfl⟩,by simp⟩
end
section
variable {K:PySem.W.Frag} {H:Hp} {θ:List Addr} {μ:Mem}
theorem zc {d:D} {k:j8} {v:V} (h:zf d=some k) (r:Rp K H θ μ d v):v=kV (keyOf k):=by
 cases d with
 | int i=>simp only [zf,Option.some.injEq] at h; subst h; exact aC r
 | str x=>simp only [zf,Option.some.injEq] at h; subst h; exact (cB r).1
 | _=>simp [zf] at h
theorem vo:∀ {ds:List D} {ks:List j8} {vs:List V},pA ds=some ks->eF K H θ μ ds vs->vs=(ks.map keyOf).map kV
 | [],ks,vs,h,r=>by simp only [pA,Option.some.injEq] at h; subst h; rw [r.nil_inv]; rfl
 | d :: ds,ks,vs,h,r=>by
  obtain ⟨v,vr,rfl,r1,r2⟩:=r.cons_inv
  simp only [pA] at h
  split at h
  ·rename_i k hk
   cases e:pA ds with
   | none=>rw [e] at h; cases h
   | some ks' =>
    rw [e] at h
    simp only [Option.map_some,Option.some.injEq] at h
    subst h
    rw [List.map_cons,List.map_cons,zc hk r1,vo e r2]
  ·cases h
end
section
variable {K:PySem.W.Frag} {H:Hp} {θ:List Addr} {μ:Mem} {κ κ':Type} [DecidableEq κ] [DecidableEq κ']
theorem qP (f:κ->κ') (inj:∀ a b,f a=f b->a=b):∀ (ks:List κ) (ds:List D) (kvs:List (κ'×V)) (k:κ) (d:D),kvs.map (·.1)=ks.map f->eF K H θ μ ds (kvs.map (·.2))->dZ ks ds k=some d->∃ v,qe kvs (f k)=some v/\Rp K H θ μ d v
 | [],ds,kvs,k,d,_,_,h=>by simp [dZ] at h
 | k' :: ks,[],kvs,k,d,_,_,h=>by simp [dZ] at h
 | k' :: ks,d' :: ds,[],k,d,h1,_,_=>by simp at h1
 | k' :: ks,d' :: ds,(q,v) :: kvs,k,d,h1,h2,h=>by
  simp only [List.map_cons,List.cons.injEq] at h1
  obtain ⟨rfl,h1⟩:=h1
  rw [List.map_cons] at h2
  obtain ⟨v',r,e,r1,r2⟩:=h2.cons_inv
  cases e
  simp only [dZ] at h
  by_cases c:k'=k
  ·rw [if_pos c] at h; cases h
   subst c
   exact ⟨v,oM rfl,r1⟩
  ·rw [if_neg c] at h
   obtain ⟨w,w1,w2⟩:=qP f inj ks ds kvs k d h1 r2 h
   exact ⟨w,by rw [oN (fun e=>c (inj _ _ e))]; exact w1,w2⟩
end
end DW
end
section
namespace DW
open PySem PySem.Spec PyProof.Rows L2
end DW
end
section
namespace DW
open PySem PySem.Spec PyProof.Rows L2
section
variable {X:Cx}
theorem Yq {H:Hp} {θ:List Addr} {μ:Mem} {d e:D} {v:V} {u:Value} {b:Bool} (r:Rp X.K H θ μ d v) (ru:RelV v u) (h:(∃ i,d = .int i)∨∃ x,d = .str x):SV u d:=by
 rcases h with ⟨i,rfl⟩ | ⟨x,rfl⟩
 ·cases aC r; obtain ⟨t,rfl⟩:=ru; exact .inl ⟨i,t,rfl,rfl⟩
 ·cases (cB r).1; obtain ⟨t,rfl⟩:=ru; exact .inr ⟨x,t,rfl,rfl⟩
theorem Il {d:D} (h:XR d=true):(∃ i,d = .int i)∨∃ x,d = .str x:=by
 cases d <;> simp [XR] at h
 ·exact .inl ⟨_,rfl⟩
 ·exact .inr ⟨_,rfl⟩
theorem Ef {H:Hp} {θ:List Addr} {μ:Mem}:∀ {ds:List D} {vs:List V} {us:List Value},eF X.K H θ μ ds vs->Vals vs us->ds.all XR=true->Xv us ds
 | [],vs,us,r,rv,_=>by cases r.nil_inv; cases rv; exact .nil
 | d :: ds,vs,us,r,rv,h=>by
  obtain ⟨v,vr,rfl,h1,h2⟩:=r.cons_inv
  simp only [List.all_cons,Bool.and_eq_true] at h
  cases rv with
  | cons ru rr=>exact .cons (Yq (e:=.non) (b:=true) h1 ru (Il h.1)) (Ef h2 rr h.2)
theorem YZ {K:PySem.W.Frag} {H:Hp} {θ:List Addr} {μ:Mem} {d:D} {x:V} (r:Rp K H θ μ d x):decide (x = .non)=gA d:=by
 cases d with
 | non=>cases jK r; rfl
 | bl b=>cases dR r; rfl
 | int b=>cases aC r; rfl
 | str b=>cases (cB r).1; rfl
 | tup ds=>obtain ⟨a,xs,rfl,_⟩:=cA r; rfl
 | lst ds=>obtain ⟨a,xs,rfl,_⟩:=eU r; rfl
 | ro ds=>obtain ⟨a,xs,rfl,_⟩:=zA r; rfl
 | loc n=>obtain ⟨a,rfl,_⟩:=bT r; rfl
 | j9 ks ds=>obtain ⟨a,xs,rfl,_⟩:=zB r; rfl
 | Dw ks ds=>obtain ⟨a,o,xs,rfl,_⟩:=Sg r; rfl
theorem qW {k:Nat} (hr:bM k X.A) (op:CmpOp):mQ X (compareOp op) (rN X.K (bK op)):=by
 intro pins s σ H x y v u Q I rx ry h
 obtain ⟨d,e,θ,μ,Qd,wk,rd,re,hw,f⟩:=h
 have hu:X.A.units + 64 < cLine:=hr.units
 have bl:∀ {b:Bool} {s':Shared},Inv X pins σ H s'->Qd (.bl b) μ->EP X pins σ Q (.bool b) s':=fun I' q=>⟨.bl _,H,I',rfl,f.at wk gR q⟩
 cases op with
 | Eq =>
  obtain ⟨f1,f2,q⟩:=hw
  obtain ⟨as,ra⟩:=bU I 60 d x v rd rx f1
  obtain ⟨bs,rb⟩:=bU I 60 e y u re ry f2
  refine SeqAt.compareEq_reads ra rb (dj _ _ f1) (dj _ _ f2) ?_ ?_
  ·have:=pQ _ _ f1
   lia
  ·rw [vP _ _ _ _ f1 f2]; exact bl I q
 | NotEq =>
  by_cases hd:∃ n,d = .loc n
  ·obtain ⟨n,rfl⟩:=hd
   have hw:U3 n e μ Qd:=hw
   unfold U3 at hw
   split at hw
   ·rename_i ds hn
    split at hw
    ·obtain ⟨a,rfl,ha⟩:=bT rd
     cases rx
     obtain ⟨xs,hx,rs⟩:=wk.list hn ha
     obtain ⟨its,vi,pl,hz⟩:=I.list (f9.of hx)
     obtain ⟨b,ys,rfl,hy,_,r2⟩:=eU re
     cases ry
     cases r2.nil_inv
     obtain ⟨its2,vi2,pl2,hz2⟩:=I.list (f9.of hy)
     have e2:its2=[]:=List.length_eq_zero_iff.mp vi2.length.symm
     subst e2
     have l1:its.length=ds.length:=by rw [<- vi.length,<- rs.length]
     cases ds with
     | nil =>
      have e1:its=[]:=List.length_eq_zero_iff.mp (by rw [l1]; rfl)
      subst e1
      exact SeqAt.RcNeAt.lists (e:=fun _=>true) pl.isList pl2.isList rfl (by lia) (fun j h1 h2=>absurd h1 (by simp)) _ _ _ _ (bl I hw)
     | cons d0 ds =>
      exact SeqAt.RcNeAt.lists_lengths pl.isList pl2.isList (by simp at l1 ⊢; rw [<- List.length_eq_zero_iff,l1]; simp) (by lia) _ _ _ _ (bl I hw)
    ·exact hw.elim
   ·exact hw.elim
  have hw:flat 60 d=true/\flat 60 e=true/\Qd (.bl (!jz d e)) μ:=by
   cases d with
   | loc n=>exact absurd ⟨n,rfl⟩ hd
   | _=>exact hw
  obtain ⟨f1,f2,q⟩:=hw
  obtain ⟨as,ra⟩:=bU I 60 d x v rd rx f1
  obtain ⟨bs,rb⟩:=bU I 60 e y u re ry f2
  refine SeqAt.compareNe_reads ra rb (dj _ _ f1) (dj _ _ f2) ?_ ?_
  ·have:=pQ _ _ f1
   lia
  ·rw [vP _ _ _ _ f1 f2]; exact bl I q
 | Lt =>
  simp only [bK] at hw
  cases d with
  | int i =>
   cases e with
   | int j=>simp only [sX] at hw; exact YL pins s σ H x y v u Q I rx ry ⟨i,j,aC rd,aC re,f.at wk gR hw⟩
   | _=>simp [sX] at hw
  | str a =>
   cases e with
   | str b =>
    simp only [sX] at hw
    refine I9 pins s σ H x y v u Q I rx ry ⟨_,_,(cB rd).1,(cB re).1,f.at wk gR ?_⟩
    rw [sY] at hw
    simpa using hw
   | _=>simp [sX] at hw
  | tup ds =>
   cases e with
   | tup es =>
    simp only [sX] at hw
    split at hw
    ·rename_i r hl
     split at hl
     ·rename_i hsc
      rw [Bool.and_eq_true] at hsc
      obtain ⟨a,xs,rfl,h1,_,r1⟩:=cA rd
      obtain ⟨b,ys,rfl,h2,_,r2⟩:=cA re
      cases rx; cases ry
      obtain ⟨its,QM,p1,_⟩:=I.tuple (p7.of h1)
      obtain ⟨jts,Yx,p2,_⟩:=I.tuple (p7.of h2)
      exact Nk p1 p2 (by simpa using Ef r1 QM hsc.1) (by simpa using Ef r2 Yx hsc.2) hl (by lia) (bl I hw)
     ·cases hl
    ·exact hw.elim
   | _=>simp [sX] at hw
  | _=>simp [sX] at hw
 | LtE =>
  cases d with
  | int i =>
   cases e with
   | int j=>exact YM pins s σ H x y v u Q I rx ry ⟨i,j,aC rd,aC re,f.at wk gR hw⟩
   | _=>exact hw.elim
  | str a =>
   cases e with
   | str b =>
    have hw:Qd (.bl (!cT b a)) μ:=hw
    cases (cB rd).1
    cases (cB re).1
    obtain ⟨t,rfl⟩:=rx
    obtain ⟨t',rfl⟩:=ry
    refine PySem.P.le_str ?_
    rw [sY] at hw
    refine bl I ?_
    simpa using hw
   | _=>exact hw.elim
  | _=>exact hw.elim
 | Gt =>
  cases d with
  | int i =>
   cases e with
   | int j=>exact YQ pins s σ H x y v u Q I rx ry ⟨i,j,aC rd,aC re,f.at wk gR hw⟩
   | _=>exact hw.elim
  | _=>exact hw.elim
 | GtE =>
  cases d with
  | int i =>
   cases e with
   | int j=>exact YS pins s σ H x y v u Q I rx ry ⟨i,j,aC rd,aC re,f.at wk gR hw⟩
   | _=>exact hw.elim
  | _=>exact hw.elim
 | Is =>
  cases e with
  | non =>
   refine V5 pins s σ H x y v u Q I rx ry ⟨jK re,f.at wk gR ?_⟩
   have hw:Qd (.bl (gA d)) μ:=hw
   rw [YZ rd]; exact hw
  | bl b =>
   cases d with
   | bl a =>
    cases dR rd; cases dR re
    cases rx; cases ry
    exact is_bool (bl I hw)
   | _=>exact hw.elim
  | _=>exact hw.elim
 | IsNot =>
  cases e with
  | non =>
   refine Ry pins s σ H x y v u Q I rx ry ⟨jK re,f.at wk gR ?_⟩
   have hw:Qd (.bl (!gA d)) μ:=hw
   rw [YZ rd]; exact hw
  | bl b =>
   cases d with
   | bl a =>
    cases dR rd; cases dR re
    cases rx; cases ry
    exact isnot_bool (bl I hw)
   | _=>exact hw.elim
  | _=>exact hw.elim
 | In=>exact hw.elim
 | NotIn=>exact hw.elim
end
end DW
end
section
set_option maxHeartbeats 2000000
namespace DW
open PySem PySem.Spec PyProof.Rows L2
section
variable {X:Cx} {pins:List (Addr×Obj)} {σ:L2.St} {H:Hp} {s:Shared} {θ:List Addr} {μ:Mem}
theorem vO {μ:Mem} {n m:Nat}:∀ (ds:List D),flats m (ds.map (bW μ n))=true->∀ d∈ds,flat m (bW μ n d)=true
 | [],_,d,h=>by simp at h
 | e :: ds,h,d,hd=>by
  have h':flat m (bW μ n e)=true/\flats m (ds.map (bW μ n))=true:=by simpa [flats] using h
  rcases List.mem_cons.mp hd with rfl | hd
  ·exact h'.1
  ·exact vO ds h'.2 d hd
theorem readsAll_map (μ:Mem) (n:Nat) {K:PySem.W.Frag} {H:Hp} {θ:List Addr} {h:Heap}:∀ (ds:List D) (vs:List V) (us:List Value),eF K H θ μ ds vs->Vals vs us->(∀ d∈ds,∀ v u,Rp K H θ μ d v->RelV v u->∃ as,Reads h u (pd (bW μ n d)) as)->∃ as,ReadsAll h us (xO (ds.map (bW μ n))) as
 | [],vs,us,r,rv,_=>by cases r.nil_inv; cases rv; exact ⟨_,by rw [List.map_nil]; unfold xO; exact .nil⟩
 | d :: ds,vs,us,r,rv,hh=>by
  obtain ⟨v,vr,rfl,h1,h2⟩:=r.cons_inv
  cases rv with
  | cons ru rr =>
   obtain ⟨as,ra⟩:=hh d (by simp) v _ h1 ru
   obtain ⟨bs,rb⟩:=readsAll_map μ n ds vr _ h2 rr fun e he=>hh e (by simp [he])
   exact ⟨as ++ bs,by rw [List.map_cons]; unfold xO; exact .cons ra rb⟩
theorem jD (I:Inv X pins σ H s) (wk:bY X.K H θ μ):∀ (n m:Nat) (d:D) (v:V) (u:Value),Rp X.K H θ μ d v->RelV v u->flat m (bW μ n d)=true->∃ as,Reads s.heap u (pd (bW μ n d)) as
 | 0,m,d,v,u,r,ru,h=>bU I m d v u r ru h
 | n + 1,m,d,v,u,r,ru,h=>by
  have ls:∀ {a:Addr} {xs:List V} {ds:List D} {u:Value},H a=some (.lst xs)->eF X.K H θ μ ds xs->RelV (.ref a) u->flat m (.lst (ds.map (bW μ n)))=true->∃ as,Reads s.heap u (pd (.lst (ds.map (bW μ n)))) as:=by
   intro a xs ds u hH rs ru h
   cases ru
   cases m with
   | zero=>simp [flat] at h
   | succ m =>
    obtain ⟨its,rv,⟨o,k,ho,hc,_,hd⟩,_⟩:=I.list (f9.of hH)
    obtain ⟨as,ra⟩:=readsAll_map μ n ds xs its rs rv fun d hd v u r ru=>jD I wk n m d v u r ru (vO ds (by simpa [flat] using h) d hd)
    exact ⟨a :: as,by unfold pd; exact .list ho hc hd (by simpa using ra)⟩
  cases d with
  | tup ds =>
   replace h:flat m (.tup (ds.map (bW μ n)))=true:=h
   obtain ⟨a,xs,rfl,hH,_,rs⟩:=cA r
   cases ru
   cases m with
   | zero=>simp [flat] at h
   | succ m =>
    obtain ⟨its,rv,⟨o,ho,hc,k,hd⟩,_⟩:=I.tuple (p7.of hH)
    obtain ⟨as,ra⟩:=readsAll_map μ n ds xs its rs rv fun d hd v u r ru=>jD I wk n m d v u r ru (vO ds (by simpa [flat] using h) d hd)
    exact ⟨as,by show Reads _ _ (pd (.tup (ds.map (bW μ n)))) _; unfold pd; exact .tuple ho hc hd (by simpa using ra)⟩
  | lst ds =>
   obtain ⟨a,xs,rfl,hH,_,rs⟩:=eU r
   exact ls hH rs ru h
  | loc k =>
   obtain ⟨a,rfl,h1⟩:=bT r
   have e:bW μ (n + 1) (.loc k)=match μ[k]? with | some (.lst ds)=>.lst (ds.map (bW μ n)) | _=>.loc k:=rfl
   rw [e] at h ⊢
   cases hk:μ[k]? with
   | none=>rw [hk] at h; simp [flat] at h
   | some c =>
    rw [hk] at h
    cases c with
    | lst ds =>
     obtain ⟨xs,hH,rs⟩:=wk.cell k _ a hk h1
     exact ls hH rs ru h
    | ins _ _=>simp [flat] at h
    | j9 _ _=>simp [flat] at h
    | yq _ _=>simp [flat] at h
    | fdt _ _ _=>simp [flat] at h
    | Xe _ _ _=>simp [flat] at h
    | exc _ _ _=>simp [flat] at h
    | gone=>simp [flat] at h
    | J4=>simp [flat] at h
  | non=>exact bU I m _ v u r ru h
  | bl _=>exact bU I m _ v u r ru h
  | int _=>exact bU I m _ v u r ru h
  | str _=>exact bU I m _ v u r ru h
  | ro _=>exact bU I m _ v u r ru h
  | j9 _ _=>exact bU I m _ v u r ru h
  | Dw _ _=>exact bU I m _ v u r ru h
theorem Ou {k:Nat} (hr:bM k X.A) (neg:Bool):mQ X (compareOp (if neg then .NotEq else .Eq)) (rN X.K (Kf neg)):=by
 intro pins s σ H x y v u Q I rx ry h
 obtain ⟨d,e,θ,μ,Qd,wk,rd,re,⟨f1,f2,q⟩,f⟩:=h
 have hu:X.A.units + 64 < cLine:=hr.units
 obtain ⟨as,ra⟩:=jD I wk 8 60 d x v rd rx f1
 obtain ⟨bs,rb⟩:=jD I wk 8 60 e y u re ry f2
 have dp:=pQ _ _ f1
 have bl:∀ {b:Bool},Qd (.bl b) μ->EP X pins σ Q (.bool b) s:=fun q=>⟨.bl _,H,I,rfl,f.at wk gR q⟩
 cases neg with
 | true =>
  refine SeqAt.compareNe_reads ra rb (dj _ _ f1) (dj _ _ f2) (by lia) ?_
  rw [vP _ _ _ _ f1 f2]; exact bl (by simpa using q)
 | false =>
  refine SeqAt.compareEq_reads ra rb (dj _ _ f1) (dj _ _ f2) (by lia) ?_
  rw [vP _ _ _ _ f1 f2]; exact bl (by simpa using q)
end
end DW
end
section
namespace DW
open PySem PySem.Spec PyProof.Rows L2
section
variable {prog:Program} {w:World} {A:Around} {E:Value->Shared->Prop} {s:Shared} {d it:Addr} {od:Obj} {es:Array DictEntry} {ep i:Nat}
end
end DW
end
section
namespace DW
open PySem PySem.Spec PyProof.Rows L2
section
variable {prog:Program} {w:World} {A:Around} {E:Value->Shared->Prop} {s:Shared} {d it:Addr} {od:Obj} {es:Array DictEntry} {ep i:Nat}
end
section
variable {prog:Program} {w:World} {K:Type} [DecidableEq K] {knd:HeapKind prog w K} {A:Around} {E:Value->Shared->Prop} {s:Shared}
end
section
variable {X:Cx} {pins:List (Addr×Obj)} {σ:L2.St} {H:Hp} {s:Shared} {a:Addr} {A:Around} {E:Value->Shared->Prop} {kvs:List (List Key×V)}
end
end DW
end
section
namespace DW
open PySem PySem.Spec PyProof.Rows L2
section
variable {X:Cx}
end
end DW
end
section
namespace DW
open PySem PySem.Spec PyProof.Rows L2
section
variable {X:Cx}
end
end DW
end
section
namespace DW
open PySem PySem.Spec PyProof.Rows L2
section
variable {X:Cx}
theorem Qw {K:PySem.W.Frag} {H:Hp} {θ:List Addr} {μ:Mem} {d:D} {x:V} {b:Bool} (wk:bY K H θ μ) (r:Rp K H θ μ d x) (h:truth μ d=some b):Xu K x H b:=by
 cases d with
 | non=>cases jK r; simp only [truth,Option.some.injEq] at h; exact h.symm
 | bl c=>cases dR r; simp only [truth,Option.some.injEq] at h; exact h.symm
 | int i=>cases aC r; simp only [truth,Option.some.injEq] at h; exact h.symm
 | str y =>
  obtain ⟨rfl,hy⟩:=cB r
  simp only [truth,lenOf,Option.map_some,Option.some.injEq] at h
  refine ⟨by simpa [Str.length] using hy,?_⟩
  rw [<- h]
  simp [Str.length]
  cases y <;> simp <;> lia
 | Dw ks ds=>simp [truth,lenOf,aq] at h
 | j9 ks ds =>
  obtain ⟨a,kvs,rfl,h1,_,h2,h3⟩:=zB r
  simp only [truth,Option.some.injEq] at h
  refine .inr (.inr ⟨kvs,h1,?_⟩)
  have:=congrArg List.length h2
  simp at this
  rw [<- h,<- this]
  cases kvs <;> simp
 | tup ds =>
  simp only [truth,lenOf,aq,Option.map_some,Option.some.injEq] at h
  obtain ⟨a,xs,rfl,hs,rs⟩:=gQ wk r (show aq μ (.tup ds)=some ds from rfl)
  have e:b = !xs.isEmpty:=by rw [<- h,rs.length]; cases xs <;> simp
  rcases hs with hs | hs
  ·exact .inl ⟨xs,hs,e⟩
  ·exact .inr (.inl ⟨xs,hs,e⟩)
 | lst ds =>
  simp only [truth,lenOf,aq,Option.map_some,Option.some.injEq] at h
  obtain ⟨a,xs,rfl,hs,rs⟩:=gQ wk r (show aq μ (.lst ds)=some ds from rfl)
  have e:b = !xs.isEmpty:=by rw [<- h,rs.length]; cases xs <;> simp
  rcases hs with hs | hs
  ·exact .inl ⟨xs,hs,e⟩
  ·exact .inr (.inl ⟨xs,hs,e⟩)
 | ro ds =>
  simp only [truth,lenOf,aq,Option.map_some,Option.some.injEq] at h
  obtain ⟨a,xs,rfl,hs,rs⟩:=gQ wk r (show aq μ (.ro ds)=some ds from rfl)
  have e:b = !xs.isEmpty:=by rw [<- h,rs.length]; cases xs <;> simp
  rcases hs with hs | hs
  ·exact .inl ⟨xs,hs,e⟩
  ·exact .inr (.inl ⟨xs,hs,e⟩)
 | loc n =>
  simp only [truth,lenOf] at h
  cases q:aq μ (.loc n) with
  | none=>rw [q] at h; cases h
  | some ds =>
   rw [q] at h
   simp only [Option.map_some,Option.some.injEq] at h
   obtain ⟨a,xs,rfl,hs,rs⟩:=gQ wk r q
   have e:b = !xs.isEmpty:=by rw [<- h,rs.length]; cases xs <;> simp
   rcases hs with hs | hs
   ·exact .inl ⟨xs,hs,e⟩
   ·exact .inr (.inl ⟨xs,hs,e⟩)
theorem iG {a:Expr} {wa:WE} (ha:PE X a (LE X.K wa)) (he:∀ whole,isTrue a X.env whole=(do let v <- whole; standAt a.pos; holding [v] (truthy v))) :
  PT X a (LT X.K fun ρ μ Q=>wa ρ μ fun d μ1=>iB d μ1 Q):=PT.wk (Lh ha he) fun σ H Q h=>by
 obtain ⟨ρ,θ,μ,Qd,s,h,f⟩:=h
 refine ⟨ρ,θ,μ,_,s,h,fun d v H1 θ1 μ1 w1 g1 r1 h1=>?_⟩
 unfold iB at h1
 split at h1
 ·rename_i b e
  exact ⟨b,Qw w1 r1 e,f b H1 θ1 μ1 w1 g1 h1⟩
 ·exact h1.elim
theorem RZ (K:PySem.W.Frag):∀ a∈["NoneType","bool","int","str","tuple","list","dict"],∀ b∈["int","bool","str","tuple","list","dict"],PySem.W.kitOne K (.type a) (.type b)=some (Jq a b):=by
 intro a ha b hb
 simp only [List.mem_cons,List.not_mem_nil,or_false] at ha hb
 rcases ha with rfl | rfl | rfl | rfl | rfl | rfl | rfl <;> rcases hb with rfl | rfl | rfl | rfl | rfl | rfl <;> first | rfl | decide
theorem Ia {K:PySem.W.Frag} {H:Hp} {θ:List Addr} {μ:Mem} {d:D} {x:V} {t:String} (wk:bY K H θ μ) (r:Rp K H θ μ d x) (h:tyOf μ d=some t):pX K H x (.type t)/\t∈["NoneType","bool","int","str","tuple","list","dict"]:=by
 cases d with
 | non=>cases jK r; cases h; exact ⟨.non,by simp⟩
 | bl c=>cases dR r; cases h; exact ⟨.bl _,by simp⟩
 | int i=>cases aC r; cases h; exact ⟨.int _,by simp⟩
 | str y=>cases (cB r).1; cases h; exact ⟨.str _,by simp⟩
 | j9 ks ds=>obtain ⟨a,kvs,rfl,h1,_⟩:=zB r; cases h; exact ⟨.dK h1,by simp⟩
 | Dw ks ds=>cases h
 | tup ds=>obtain ⟨a,kvs,rfl,h1,_⟩:=cA r; cases h; exact ⟨.tup h1,by simp⟩
 | lst ds=>obtain ⟨a,kvs,rfl,h1,_⟩:=eU r; cases h; exact ⟨.lst h1,by simp⟩
 | ro ds=>cases h
 | loc n =>
  obtain ⟨a,rfl,h1⟩:=bT r
  simp only [tyOf] at h
  split at h
  ·rename_i es hn
   cases h
   obtain ⟨xs,h2,_⟩:=wk.list hn h1
   exact ⟨.lst h2,by simp⟩
  ·rename_i ks es hn
   cases h
   obtain ⟨kvs,h2,_⟩:=wk.cell n _ a hn h1
   exact ⟨.dK h2,by simp⟩
  ·rename_i ks es hn
   cases h
   obtain ⟨kvs,h2,_⟩:=wk.cell n _ a hn h1
   exact ⟨.dT (.inl h2),by simp⟩
  ·cases h
theorem Ph:∀ b∈["int","bool","str","tuple","list","dict"],bootBuiltins (Str.ofString b)=some (.type b)/\Str.ofString b≠"__name__"/\(Str.ofString b == ("__debug__" : Str))=false:=by
 intro b hb
 simp only [List.mem_cons,List.not_mem_nil,or_false] at hb
 rcases hb with rfl | rfl | rfl | rfl | rfl | rfl <;> exact ⟨by decide +kernel,by decide +kernel,by decide +kernel⟩
theorem Dl:bootBuiltins "isinstance" = some (.builtin "isinstance"):=by decide +kernel
theorem Dk:cR X (.builtin "isinstance") (fun xs H Q=>∃ x t c,xs=[x,.ty c]/\pX X.K H x (.type t)/\t∈["NoneType","bool","int","str","tuple","list","dict"]/\c∈["int","bool","str","tuple","list","dict"]/\Q (.bl (Jq t c)) H):=by
 intro pins s σ H xs us Q I r h
 obtain ⟨x,t,c,rfl,ty,ht,hc,q⟩:=h
 obtain ⟨u,w',rfl,rx,ry⟩:=vals2 r
 cases ry
 exact Jp I rx ty (RZ X.K t ht c hc) fun tk=>⟨.bl _,H,I.tok tk,rfl,q⟩
theorem Mf {a:Expr} {wa:WE} {t:String} {y z:Str} {p p2 pos:Pos} (ha:PE X a (LE X.K wa)) (ey:y=Str.ofString "isinstance") (ht:t∈["int","bool","str","tuple","list","dict"]) (ez:z=Str.ofString t) (g1:Gl X y) (g2:Gl X z) (m1:X.mg y=none) (m2:X.mg z=none)
  (hs:starEach [a,.Name z p2] X.env=(false,eval a X.env) :: starEach [.Name z p2] X.env) :
  PE X (.Call (.Name y p) [a,.Name z p2] [] pos) (LE X.K fun ρ μ Q=>wa ρ μ fun d μ1=>tV t d μ1 Q):=by
 subst ey ez
 obtain ⟨b1,b2,b3⟩:=Ph t ht
 have hz:PE X (.Name (Str.ofString t) p2) (tC (.ty t)):=Rv g2 m2 b1 rfl b2 b3
 refine PE.wk (fW (x:=Str.ofString "isinstance") Dk g1 m1 Dl (jE ha (jE hz uO) hs) (by decide +kernel) (by decide +kernel) hs rfl) fun σ H Q h=>?_
 obtain ⟨ρ,θ,μ,Qd,s,h,f⟩:=h
 refine ⟨ρ,θ,μ,_,s,h,fun d v H1 θ1 μ1 w1 g1 r1 h1=>?_⟩
 unfold tV at h1
 split at h1
 ·rename_i ty e
  obtain ⟨k1,k2⟩:=Ia w1 r1 e
  exact ⟨v,ty,t,rfl,k1,k2,ht,f _ _ H1 θ1 μ1 w1 g1 gR h1⟩
 ·exact h1.elim
theorem N6 (n:Nat) (i:Int):n6 n i=WM n i:=rfl
theorem QS {K:PySem.W.Frag} {H:Hp} {θ:List Addr} {μ:Mem} {ds:List D} {xs:List V} {i:Int} {d:D} (r:eF K H θ μ ds xs) (h:(n6 ds.length i).bind (ds[·]?)=some d):∃ v,X6 xs i=some v/\Rp K H θ μ d v:=by
 rw [r.length,N6] at h
 cases q:WM xs.length i with
 | none=>rw [q] at h; cases h
 | some j =>
  rw [q] at h
  obtain ⟨v,e1,e2⟩:=r.get (i:=j) h
  exact ⟨v,by unfold X6; rw [q]; exact e1,e2⟩
theorem W2:UG X (rN X.K cL):=by
 intro value slice pins s σ H x y v u Q I rx ry h hs
 obtain ⟨d,e,θ,μ,Qd,wk,rd,re,hw,f⟩:=h
 unfold cL at hw
 split at hw
 ·rename_i x' i
  cases aC re
  split at hw
  ·rename_i ds hq
   obtain ⟨a,xs,rfl,hx,r⟩:=gQ wk rd hq
   split at hw
   ·rename_i d' hd
    obtain ⟨w',e1,e2⟩:=QS r hd
    rcases hx with hx | hx
    ·exact R8 value slice pins s σ H _ _ v u Q I rx ry ⟨a,xs,i,w',rfl,rfl,hx,e1,f.at wk e2 hw⟩ hs
    ·exact WL value slice pins s σ H _ _ v u Q I rx ry ⟨a,xs,i,w',rfl,rfl,hx,e1,f.at wk e2 hw⟩ hs
   ·exact hw.elim
  ·exact hw.elim
 ·exact hw.elim
theorem uF:TQ X (fun o i v H Q=>∃ x y z θ μ k,bY X.K H θ μ/\Rp X.K H θ μ x o/\Rp X.K H θ μ y i/\Rp X.K H θ μ z v/\fH x y z μ k/\∀ H' μ',bY X.K H' θ μ'->aD H θ μ H' θ μ'->k μ'->Q H'):=by
 intro pins s σ H o i v ov iv u Q I ro ri rv h
 obtain ⟨x,y,z,θ,μ,k,wk,rx,ry,rz,hw,f⟩:=h
 unfold fH at hw
 split at hw
 ·rename_i n j
  obtain ⟨a,rfl,ha⟩:=bT rx
  cases aC ry
  split at hw
  ·rename_i xs hn
   split at hw
   ·rename_i p hp
    obtain ⟨vs,h2,r⟩:=wk.list hn ha
    have g:aD H θ μ (upd H a (.lst (vs.set p v))) θ (μ.set n (.lst (xs.set p z))):=aD.write hn ha (by simp) (by simp)
    refine set_list pins s σ H _ _ v ov iv u Q I ro ri rv ⟨a,vs,j,p,rfl,rfl,h2,by rw [<- N6,<- r.length]; exact hp,?_⟩
    exact f _ _ (wk.write (c':=.lst (xs.set p z)) hn ha (by simp) (by simp) (show iy X.K _ _ _ a (.lst (xs.set p z)) from ⟨_,aN,(g.reps r).set (g.rep rz) p⟩)) g hw
   ·exact hw.elim
  ·exact hw.elim
 ·exact hw.elim
theorem xg {m:String} {x:V} {d:D} {ds:List D} {H:Hp} {θ:List Addr} {μ:Mem} {Qd:QD} (wk:bY X.K H θ μ) (rd:Rp X.K H θ μ d x) (hw:fP m d ds μ Qd) :
  ∃ n a xs ys,d = .loc n/\x = .ref a/\θ[n]? = some a/\μ[n]? = some (.lst xs)/\H a=some (.lst ys)/\eF X.K H θ μ xs ys/\cV m n xs ds μ Qd:=by
 cases d with
 | loc n =>
  obtain ⟨a,rfl,ha⟩:=bT rd
  simp only [fP] at hw
  split at hw
  ·rename_i xs hn
   obtain ⟨ys,h2,r⟩:=wk.list hn ha
   exact ⟨n,a,xs,ys,rfl,rfl,ha,hn,h2,r,hw⟩
  ·exact hw.elim
 | _=>exact hw.elim
theorem Hx {H:Hp} {θ:List Addr} {μ:Mem} {Qd:QD} {Q:VK} {n:Nat} {a:Addr} {xs xs':List D} {ys':List V} {e:D} {v:V} (wk:bY X.K H θ μ) (f:Fin X.K H θ μ Qd Q) (ha:θ[n]? = some a) (hn:μ[n]? = some (.lst xs)) (r:eF X.K H θ μ xs' ys')
  (re:Rp X.K H θ μ e v) (h:Qd e (μ.set n (.lst xs'))):Q v (upd H a (.lst ys')):=by
 have g:aD H θ μ (upd H a (.lst ys')) θ (μ.set n (.lst xs')):=aD.write hn ha (by simp) (by simp)
 exact f e v _ _ _ (wk.write (c':=.lst xs') hn ha (by simp) (by simp) (show iy X.K _ _ _ a (.lst xs') from ⟨_,aN,g.reps r⟩)) g (g.rep re) h
theorem Cg:Uz X "list.append" (Wi X.K (fP "append")):=by
 intro pins s σ H x vs v us Q I rx rv h
 obtain ⟨d,ds,θ,μ,Qd,wk,rd,rs,hw,f⟩:=h
 obtain ⟨n,a,xs,ys,rfl,rfl,ha,hn,h2,r,hw⟩:=xg wk rd hw
 match ds,hw with
 | [e],hw =>
  obtain ⟨w',vr,rfl,r1,r2⟩:=rs.cons_inv
  cases r2.nil_inv
  have hw:xs.length < lim/\Qd .non (μ.set n (.lst (xs ++ [e]))):=hw
  exact Jc pins s σ H _ _ v us Q I rx rv ⟨a,ys,w',rfl,rfl,h2,by rw [<- r.length,<- jH]; exact hw.1,Hx wk f ha hn (r.append (aG.one r1)) yP hw.2⟩
 | [],hw=>simp [cV] at hw
 | e1 :: e2 :: er,hw=>cases e1 <;> cases er <;> simp [cV] at hw
theorem Ce:Uz X "list.insert" (Wi X.K (fP "insert")):=by
 intro pins s σ H x vs v us Q I rx rv h
 obtain ⟨d,ds,θ,μ,Qd,wk,rd,rs,hw,f⟩:=h
 obtain ⟨n,a,xs,ys,rfl,rfl,ha,hn,h2,r,hw⟩:=xg wk rd hw
 match ds,hw with
 | [],hw=>simp [cV] at hw
 | [e],hw=>simp [cV] at hw
 | [e0,e],hw =>
  cases e0 with
  | int k =>
   obtain ⟨w0,vr,rfl,r1,r2⟩:=rs.cons_inv
   obtain ⟨w',vr,rfl,r3,r4⟩:=r2.cons_inv
   cases r4.nil_inv
   cases aC r1
   have hw:0<=k/\k<=xs.length/\xs.length < lim/\Qd .non (μ.set n (.lst (xs.take k.toNat ++ e :: xs.drop k.toNat))):=hw
   obtain ⟨k0,k1,k2,hq⟩:=hw
   have fin:=Hx wk f ha hn ((r.take k.toNat).append (aG.cons r3 (r.drop k.toNat))) yP hq
   cases rx
   obtain ⟨u0,u1,rfl,ru0,Yy⟩:=vals2 rv
   obtain ⟨t,rfl⟩:=ru0
   obtain ⟨z,its,m,rv',hl,e1⟩:=I.RQ h2
   have hxl:=r.length
   rw [jH] at k2
   refine call_meets F.slot_list_insert ⟨_,e1,rfl⟩ F.entry_list_insert (F.args_list_insert_3 _ _ _) (AutoSeq1.list_insert_list_int_val_1 a its.toArray m k t u1 ?_ (by rw [List.size_toArray]; lia)) ⟨e1,?_⟩
   ·have:Builtin.List.listFitsIndex k=true:=by
     have hs:sizeLine=16777216:=sizeLine_eq
     unfold Builtin.List.listFitsIndex
     simp
     lia
    rw [this]; simp
   ·refine ⟨.non,_,I.Za (its':=its.take k.toNat ++ u1 :: its.drop k.toNat) h2 e1 ?_ ((rv'.take _).append (.cons Yy (rv'.drop _))) ?_,rfl,fin⟩
    ·dsimp only
     have hk:(if k < 0 then (k + (its.toArray.size:Int)).toNat else min k.toNat its.toArray.size)=k.toNat:=by
      rw [if_neg (by lia),List.size_toArray]
      lia
     rw [hk]
     apply Array.toList_inj.mp
     simp
     rw [List.take_of_length_le (by simp)]
    ·simp; lia
  | _=>simp [cV] at hw
 | e1 :: e2 :: e3 :: er,hw=>cases e1 <;> simp [cV] at hw
theorem J8 {H:Hp} {θ:List Addr} {μ:Mem} {d:D} {v:V} {ds:List D} (wk:bY X.K H θ μ) (r:Rp X.K H θ μ d v) (h:DG μ d=some ds):∃ a xs,v = .ref a/\H a=some (.lst xs)/\eF X.K H θ μ ds xs:=by
 cases d with
 | lst l=>simp only [DG,Option.some.injEq] at h; subst h; obtain ⟨b,zs,e1,e2,_,e3⟩:=eU r; exact ⟨b,zs,e1,e2,e3⟩
 | loc k =>
  obtain ⟨b,rfl,hb⟩:=bT r
  simp only [DG] at h
  split at h
  ·rename_i l hl
   cases h
   obtain ⟨zs,e1,e2⟩:=wk.list hl hb
   exact ⟨b,zs,rfl,e1,e2⟩
  ·cases h
 | _=>simp [DG] at h
theorem Xj (m:Bool):mQ X (binaryOp .Add) (rN X.K (Qn m)):=by
 intro pins s σ H x y v u Q I rx ry h
 obtain ⟨d,e,θ,μ,Qd,wk,rd,re,hw,f⟩:=h
 unfold Qn at hw
 split at hw
 ·rename_i as ha
  split at hw
  ·rename_i bs hb
   obtain ⟨a,xs,rfl,h1,r1⟩:=J8 wk rd ha
   obtain ⟨b,ys,rfl,h2,r2⟩:=J8 wk re hb
   have l1:=r1.length
   have l2:=r2.length
   exact Mz pins s σ H _ _ v u Q I rx ry ⟨a,b,xs,ys,rfl,rfl,h1,h2,by rw [<- l1,<- l2,<- jH]; exact hw.1,fun p hp=>sW wk f (r1.append r2) hw.2 hp⟩
  ·exact hw.elim
 ·exact hw.elim
end
end DW
end
section
namespace DW
open PySem PySem.Spec PyProof.Rows L2
section
variable {X:Cx}
theorem cG {K:PySem.W.Frag} {H:Hp} {θ:List Addr} {μ:Mem} {ds:List D} {d:D} {v:V} (wk:bY K H θ μ) (r:Rp K H θ μ d v) (h:bA μ d=some ds):∃ a xs,v = .ref a/\f9 K H a xs/\eF K H θ μ ds xs:=by
 cases d with
 | lst es=>simp only [bA,aq,Option.some.injEq] at h; subst h; obtain ⟨a,xs,e,h1,_,h3⟩:=eU r; exact ⟨a,xs,e,.of h1,h3⟩
 | ro es=>simp only [bA,aq,Option.some.injEq] at h; subst h; obtain ⟨a,xs,e,h1,h3⟩:=zA r; exact ⟨a,xs,e,Ad h1,h3⟩
 | loc n =>
  obtain ⟨a,e,h1⟩:=bT r
  simp only [bA,aq] at h
  split at h
  ·rename_i es hn
   simp only [Option.some.injEq] at h; subst h
   obtain ⟨xs,h2,h3⟩:=wk.list hn h1
   exact ⟨a,xs,e,.of h2,h3⟩
  ·cases h
 | _=>simp [bA,aq] at h
theorem vI {K:PySem.W.Frag} {H:Hp} {θ:List Addr} {μ:Mem}:∀ {ds:List D} {xs:List V} {ns:List Int},eF K H θ μ ds xs->lH ds=some ns->xs=ns.map V.int
 | [],xs,ns,r,h=>by
  cases r.nil_inv
  simp only [lH,Option.some.injEq] at h
  subst h; rfl
 | d :: ds,xs,ns,r,h=>by
  obtain ⟨v,vr,rfl,h1,h2⟩:=r.cons_inv
  cases d with
  | int i =>
   simp only [lH] at h
   cases q:lH ds with
   | none=>rw [q] at h; cases h
   | some ms =>
    rw [q] at h
    simp only [Option.map_some,Option.some.injEq] at h
    subst h
    cases aC h1
    rw [vI h2 q]; rfl
  | _=>simp [lH] at h
theorem dG:∀ {ns:List Int} {its:List Value},Vals (ns.map V.int) its->∃ xs:Array (Int×Tok),its.toArray=intItems xs/\xs.toList.map (·.1)=ns
 | [],its,h=>by cases h; exact ⟨#[],by simp [intItems],rfl⟩
 | n :: ns,its,h=>by
  cases h with
  | cons r rr =>
   obtain ⟨t,rfl⟩:=r
   obtain ⟨xs,e1,e2⟩:=dG rr
   refine ⟨((n,t) :: xs.toList).toArray,?_,by simp [e2]⟩
   have e1':=congrArg Array.toList e1
   simp only [intItems,Array.toList_map] at e1'
   apply Array.toList_inj.mp
   simp only [intItems,Array.toList_map]
   simpa using e1'
theorem uL (xs:Array (Int×Tok)):preSum (numAt xs) xs.size=(xs.toList.map (·.1)).sum:=by
 rw [preSum_eq,List.take_of_length_le (by simp)]
theorem JN (hc:X.calm=true):cR X (.builtin "sum") (fun xs H Q=>∃ p,∃ ns:List Int,xs=[.ref p]/\f9 X.K H p (ns.map V.int)/\Q (.int ns.sum) H):=by
 intro pins s σ H xs us Q I r h
 obtain ⟨p,ns,rfl,hx,q⟩:=h
 obtain ⟨u,rfl,rx⟩:=vals1 r
 cases rx
 obtain ⟨its,rv,pl,hz⟩:=I.list hx
 obtain ⟨zs,e1,e2⟩:=dG rv
 have hl:=pl.isList
 rw [e1] at hl
 refine sum_intListG (I.ok.hd hc) hl fun h' tk t' hk=>⟨.int ns.sum,H,I.kept hk,⟨t',?_⟩,q⟩
 rw [uL,e2]
theorem JM (hc:X.calm=true):cR X (.builtin "sum") (fun xs H Q=>∃ p,∃ ns:List Int,xs=[.ref p]/\p7 X.K H p (ns.map V.int)/\Q (.int ns.sum) H):=by
 intro pins s σ H xs us Q I r h
 obtain ⟨p,ns,rfl,hx,q⟩:=h
 obtain ⟨u,rfl,rx⟩:=vals1 r
 cases rx
 obtain ⟨its,rv,pl,hz⟩:=I.tuple hx
 obtain ⟨zs,e1,e2⟩:=dG rv
 have hl:s.heap.IsTuple p its.toArray:=pl
 rw [e1] at hl
 refine PySem.W.ktm_sumG (I.ok.hd hc) hl fun h' tk t' hk=>⟨.int ns.sum,H,I.kept hk,⟨t',?_⟩,q⟩
 rw [uL,e2]
theorem RL (xs:Array (Int×Tok)) (n:Int) (ns:List Int) (h:xs.toList.map (·.1)=n :: ns):numAt xs (argBest (fun i j=>decide (numAt xs i < numAt xs j)) (xs.size - 1))=ns.foldl min n:=by
 have key:∀ k,k < (n :: ns).length->numAt xs (argBest (fun i j=>decide (numAt xs i < numAt xs j)) k)=(ns.take k).foldl min n:=by
  intro k
  have at_:∀ i,numAt xs i=((n :: ns)[i]?).getD 0:=fun i=>by
   rw [<- h]; simp [numAt]
  induction k with
  | zero=>intro _; simp [argBest,at_]
  | succ k ih =>
   intro hk
   have ih':=ih (by lia)
   have hk':k < ns.length:=by simpa using hk
   have e:ns.take (k + 1)=ns.take k ++ [ns[k]]:=by rw [List.take_succ_eq_append_getElem hk']
   rw [e,List.foldl_append]
   simp only [List.foldl_cons,List.foldl_nil]
   rw [<- ih']
   simp only [argBest]
   have a1:numAt xs (k + 1)=ns[k]:=by rw [at_]; simp [hk']
   split
   ·rename_i hgt
    have hgt:=of_decide_eq_true hgt
    rw [a1] at hgt ⊢
    lia
   ·rename_i hgt
    have hgt:¬ (numAt xs (k + 1) < _):=fun z=>hgt (decide_eq_true z)
    rw [a1] at hgt
    lia
 have hs:xs.size=(n :: ns).length:=by rw [<- h]; simp
 have:=key (xs.size - 1) (by rw [hs]; simp)
 rw [this,hs,List.take_of_length_le (by simp)]
theorem JQ (hc:X.calm=true):cR X (.builtin "min") (fun xs H Q=>∃ p,∃ n:Int,∃ ns:List Int,xs=[.ref p]/\f9 X.K H p ((n :: ns).map V.int)/\Q (.int (ns.foldl min n)) H):=by
 intro pins s σ H xs us Q I r h
 obtain ⟨p,n,ns,rfl,hx,q⟩:=h
 obtain ⟨u,rfl,rx⟩:=vals1 r
 cases rx
 obtain ⟨its,rv,pl,hz⟩:=I.list hx
 obtain ⟨zs,e1,e2⟩:=dG rv
 have hl:=pl.isList
 rw [e1] at hl
 have hs:zs.size=(n :: ns).length:=by rw [<- e2]; simp
 refine min_intList (I.ok.hd hc) hl (by rw [hs]; simp) fun v h' tk hv hk=>?_
 obtain ⟨t,rfl⟩:=intItems_at hv
 exact ⟨.int _,H,I.kept hk,⟨t,by rw [RL zs n ns e2]⟩,q⟩
theorem RN (xs:Array (Int×Tok)) (n:Int) (ns:List Int) (h:xs.toList.map (·.1)=n :: ns):numAt xs (argBest (fun i j=>decide (numAt xs i > numAt xs j)) (xs.size - 1))=ns.foldl max n:=by
 have key:∀ k,k < (n :: ns).length->numAt xs (argBest (fun i j=>decide (numAt xs i > numAt xs j)) k)=(ns.take k).foldl max n:=by
  intro k
  have at_:∀ i,numAt xs i=((n :: ns)[i]?).getD 0:=fun i=>by
   rw [<- h]; simp [numAt]
  induction k with
  | zero=>intro _; simp [argBest,at_]
  | succ k ih =>
   intro hk
   have ih':=ih (by lia)
   have hk':k < ns.length:=by simpa using hk
   have e:ns.take (k + 1)=ns.take k ++ [ns[k]]:=by rw [List.take_succ_eq_append_getElem hk']
   rw [e,List.foldl_append]
   simp only [List.foldl_cons,List.foldl_nil]
   rw [<- ih']
   simp only [argBest]
   have a1:numAt xs (k + 1)=ns[k]:=by rw [at_]; simp [hk']
   split
   ·rename_i hgt
    have hgt:=of_decide_eq_true hgt
    rw [a1] at hgt ⊢
    lia
   ·rename_i hgt
    have hgt:¬ (numAt xs (k + 1) > _):=fun z=>hgt (decide_eq_true z)
    rw [a1] at hgt
    lia
 have hs:xs.size=(n :: ns).length:=by rw [<- h]; simp
 have:=key (xs.size - 1) (by rw [hs]; simp)
 rw [this,hs,List.take_of_length_le (by simp)]
theorem JT (hc:X.calm=true):cR X (.builtin "max") (fun xs H Q=>∃ p,∃ n:Int,∃ ns:List Int,xs=[.ref p]/\f9 X.K H p ((n :: ns).map V.int)/\Q (.int (ns.foldl max n)) H):=by
 intro pins s σ H xs us Q I r h
 obtain ⟨p,n,ns,rfl,hx,q⟩:=h
 obtain ⟨u,rfl,rx⟩:=vals1 r
 cases rx
 obtain ⟨its,rv,pl,hz⟩:=I.list hx
 obtain ⟨zs,e1,e2⟩:=dG rv
 have hl:=pl.isList
 rw [e1] at hl
 have hs:zs.size=(n :: ns).length:=by rw [<- e2]; simp
 refine max_intList (I.ok.hd hc) hl (by rw [hs]; simp) fun v h' tk hv hk=>?_
 obtain ⟨t,rfl⟩:=intItems_at hv
 exact ⟨.int _,H,I.kept hk,⟨t,by rw [RN zs n ns e2]⟩,q⟩
end
end DW
end
section
namespace DW
open PySem PySem.Spec PyProof.Rows L2
section
variable {X:Cx}
end
end DW
end
section
namespace DW
open PySem PySem.W PyProof.Rows
noncomputable abbrev at' (p:Array Nat) (k:Nat):Nat:=p.getD k 0
theorem Dp (p:Array Nat) (k:Nat):at' p k=p[k]?.getD 0:=by simp [at']
section
variable {lt:Nat->Nat->Bool} (hA:∀ a b,lt a b=true->lt b a=false) (hT:∀ a b c,lt b a=false->lt c b=false->lt c a=false)
noncomputable def Up (lt:Nat->Nat->Bool) (p:Array Nat) (m:Nat):Prop:=∀ i,i + 1 < m->lt (at' p (i + 1)) (at' p i)=false
noncomputable def Down (lt:Nat->Nat->Bool) (p:Array Nat) (m:Nat):Prop:=∀ i,i + 1 < m->lt (at' p i) (at' p (i + 1))=false
noncomputable def Ux (lt:Nat->Nat->Bool) (a b:Nat):Prop:=lt a b=false/\lt b a=false
include hT in
theorem Up.le {p:Array Nat} {m:Nat} (h:Up lt p m) (Zm:∀ a,lt a a=false):∀ (d i:Nat),i + d < m->lt (at' p (i + d)) (at' p i)=false
 | 0,i,_=>Zm _
 | d + 1,i,hd=>hT _ _ _ (Up.le h Zm d i (by lia)) (h (i + d) (by lia))
include hT in
theorem Ux.trans {a b c:Nat} (h:Ux lt a b) (k:Ux lt b c):Ux lt a c:=⟨hT c b a k.1 h.1,hT a b c h.2 k.2⟩
theorem Ux.symm {a b:Nat} (h:Ux lt a b):Ux lt b a:=⟨h.2,h.1⟩
include hT in
theorem Down.like {p p':Array Nat} {n:Nat} (h:Down lt p n) (k:∀ i,i < n->Ux lt (at' p' i) (at' p i)):Down lt p' n:=fun i hi =>
 hT _ _ _ (hT _ _ _ (k (i + 1) hi).2 (h i hi)) (k i (by lia)).1
end
noncomputable def Asks {α:Type} (n:Nat) (R:α->Prop):KasT α->Prop
 | .ret a=>R a
 | .ask i j k=>i < n/\j < n/\∀ b,Asks n R (k b)
theorem Asks.bind {α β:Type} {n:Nat} {R:α->Prop} {R':β->Prop} {f:α->KasT β}:∀ {t:KasT α},Asks n R t->(∀ a,R a->Asks n R' (f a))->Asks n R' (t.bind f)
 | .ret a,h,k=>k a h
 | .ask i j t,h,k=>⟨h.1,h.2.1,fun b=>Asks.bind (h.2.2 b) k⟩
noncomputable def Z4 (n:Nat) (p:Array Nat):Prop:=0 < n/\∀ x∈p,x < n
theorem Z4.at {n:Nat} {p:Array Nat} (h:Z4 n p) (k:Nat):at' p k < n:=by
 rw [Dp]
 cases e:p[k]? with
 | none=>exact h.1
 | some x=>exact h.2 x (Array.mem_of_getElem? e)
theorem Z4.perm {n:Nat} {p q:Array Nat} (h:Z4 n p) (k:q.Perm p):Z4 n q:=⟨h.1,fun x hx=>h.2 x (k.mem_iff.mp hx)⟩
end DW
end
section
set_option maxHeartbeats 4000000
namespace DW
open PySem PySem.W PySem.Calls PyProof.Rows
section
variable {prog:Program} {w:World} {A:Around} {E:Value->Shared->Prop} {s:Shared} {vs:List Value} {lt:Nat->Nat->Bool}
noncomputable def Comp (prog:Program) (w:World) (A:Around) (h:Heap) (vs:List Value) (lt:Nat->Nat->Bool):Prop :=
 2<=vs.length->∀ s':Shared,(∀ b o,h.get? b=some o->s'.heap.get? b=some o)->∃ κ,(∀ R:SortKind->Shared->Prop,R κ s'->wpAny (model prog w) A (keyKind' vs.toArray) R (fun _ _=>False) s') /\
  ∀ i j (C:Bool->Shared->Prop),i < vs.length->j < vs.length->C (lt i j) s'->kas_ask prog w A κ vs i j C s'
noncomputable def rA (vs:List Value) (p:Array Nat):List Value:=p.toList.map fun i=>vs.getD i Value.none
theorem IW (vs:List Value):rA vs (List.toArray (List.range vs.length))=vs:=by
 apply List.ext_getElem?
 intro i
 unfold rA
 by_cases h:i < vs.length
 ·simp [h]
 ·simp [Nat.le_of_not_lt h,h]
noncomputable def Ac (vs:List Value) (lt:Nat->Nat->Bool):Prop:=∀ (prog:Program) (w:World) (A:Around) (E:Value->Shared->Prop) (s:Shared) (κ:SortKind),(∀ i j (C:Bool->Shared->Prop),i < vs.length->j < vs.length->C (lt i j) s->kas_ask prog w A κ vs i j C s) ->
 ∀ Q:SortSt->Shared->Prop,(∀ (p:Array Nat) (st':SortSt),p.Perm (List.toArray (List.range vs.length))->Up lt p vs.length->arrOf st'=p.map (kas_item (vs.toArray.zip vs.toArray))->failedOf st'=none->Q st' s) ->
 wpAny (model prog w) A ((sortRuns').run (SortSt.mk' κ (vs.toArray.zip vs.toArray) #[] 7 none)) (fun r s'=>Q r.2 s') E s
theorem wM {a:Addr} {n:Nat} {P:PySem.Fin->Shared->Prop} (ob:s.heap.get? a=some (seqObj "list" vs.toArray n)) (Sw:vs.length < 300) (ho:2<=vs.length->Ac vs lt)
  (hc:2<=vs.length->∀ s':Shared,(∀ b o,b≠a->s.heap.get? b=some o->s'.heap.get? b=some o)->∃ κ,(∀ R:SortKind->Shared->Prop,R κ s'->wpAny (model prog w) A (keyKind' vs.toArray) R (fun _ _=>False) s') /\
   ∀ i j (C:Bool->Shared->Prop),i < vs.length->j < vs.length->C (lt i j) s'->kas_ask prog w A κ vs i j C s')
  (h:∀ p:Array Nat,p.Perm (List.toArray (List.range vs.length))->Up lt p vs.length->P (.done (.ret .none)) { s with heap:=sortedHeap s.heap a vs (List.toArray (rA vs p)) }) :
  wpAny (model prog w) A (Builtin.«list.sort» ⟨[.ref a],[]⟩) P E s:=by
 have sz:vs.toArray.size=vs.length:=by simp
 have lz:∀ {p:Array Nat},p.size=vs.length->(List.toArray (rA vs p)).size<=sizeLine + 1:=fun hp=>by
  unfold rA
  rw [List.size_toArray,List.length_map,Array.length_toList,hp,sizeLine_eq]; lia
 rw [list_sort_plain]
 refine wpAny_bind (listItems_at ob rfl ?_)
 refine wpAny_bind (listUpdate_at ob rfl ?_ (by rw [List.size_toArray,sizeLine_eq]; lia) (Nat.zero_le _))
 obtain ⟨ep,ob1⟩:∃ ep,(s.heap.update a (Obj.mapSeq fun _=>(#[]:Array Value))).get? a=some (seqObj "list" #[] ep):=⟨_,get?_update_seq ob fun _=>#[]⟩
 refine wpAny_bind (seqEpoch_at ob1 rfl ?_)
 refine wpAny_bind (wpAny_newTuple ?_ (by show vs.length<=_; rw [sizeLine_eq]; lia))
 refine wpAny_bind (wpAny_newList ?_ (Nat.zero_le _))
 refine wpAny_holding ?_
 have ob6:(((s.heap.update a (Obj.mapSeq fun _=>(#[]:Array Value))).push (seqObj "tuple" vs.toArray 0)).push (seqObj "list" #[] 0)).get? a=some (seqObj "list" #[] ep):=Heap.get?_push_of_some _ (Heap.get?_push_of_some _ ob1)
 have kp:∀ b o,b≠a->s.heap.get? b=some o->(((s.heap.update a (Obj.mapSeq fun _=>(#[]:Array Value))).push (seqObj "tuple" vs.toArray 0)).push (seqObj "list" #[] 0)).get? b=some o:=fun b o nb e =>
  Heap.get?_push_of_some _ (Heap.get?_push_of_some _ (by rw [Heap.get?_update_ne _ _ _ _ nb]; exact e))
 show wpAny (model prog w) A _ P E { s with heap:=((s.heap.update a (Obj.mapSeq fun _=>(#[]:Array Value))).push (seqObj "tuple" vs.toArray 0)).push (seqObj "list" #[] 0) }
 dsimp only
 by_cases z:vs.toArray.size < 2
 ·rw [if_pos z,if_pos z]
  refine wpAny_bind (wpAny_pure ?_)
  rw [StateT.run_pure]
  refine wpAny_bind (wpAny_pure ?_)
  dsimp only
  have eo:(arrOf (SortSt.mk' general' (vs.toArray.zip vs.toArray) #[] 7 none)).map (·.2)=List.toArray (rA vs (List.toArray (List.range vs.length))):=by
   rw [IW]
   show (vs.toArray.zip vs.toArray).map (·.2)=vs.toArray
   apply Array.toList_inj.mp
   simp [List.map_snd_zip]
  rw [eo]
  refine wpAny_bind (seqEpoch_at ob6 rfl ?_)
  refine wpAny_bind (listUpdate_at ob6 rfl ?_ (Nat.zero_le _) (lz (by simp)))
  simp only [if_false,bne_self_eq_false,Bool.false_eq_true]
  refine wpAny_pure (h _ (.refl _) fun i hi=>?_)
  rw [sz] at z; lia
 ·rw [if_neg z,if_neg z]
  rw [sz] at z
  obtain ⟨κ,k1,k2⟩:=hc (by lia) { s with heap:=((s.heap.update a (Obj.mapSeq fun _=>(#[]:Array Value))).push (seqObj "tuple" vs.toArray 0)).push (seqObj "list" #[] 0) } kp
  refine wpAny_bind (wpAny_mono (k1 (fun κ' s'=>κ'=κ/\s'=_) ⟨rfl,rfl⟩) (fun κ' s0 e0=>?_) fun _ _ x=>x.elim)
  obtain ⟨rfl,rfl⟩:=e0
  refine wpAny_bind (wpAny_mono (ho (by lia) _ _ _ _ _ _ k2 (fun st' s'=>s'={ s with heap:=((s.heap.update a (Obj.mapSeq fun _=>(#[]:Array Value))).push (seqObj "tuple" vs.toArray 0)).push (seqObj "list" #[] 0) }/\∃ p:Array Nat,p.Perm (List.toArray (List.range vs.length))/\Up lt p vs.length/\arrOf st'=p.map (kas_item (vs.toArray.zip vs.toArray))/\failedOf st'=none) fun p st' q1 q2 har hf=>⟨rfl,p,q1,q2,har,hf⟩) ?_ fun _ _ e=>e)
  rintro ⟨⟨⟩,st'⟩ s' ⟨rfl,p,q1,q2,har,hf⟩
  have hp:p.size=vs.length:=by have:=q1.size_eq; simpa using this
  dsimp only
  have hs:=kat_snds (vs:=vs) rfl har
  rw [hs]
  refine wpAny_bind (seqEpoch_at ob6 rfl ?_)
  refine wpAny_bind (listUpdate_at ob6 rfl ?_ (Nat.zero_le _) (lz hp))
  rw [hf]
  simp only [if_false,bne_self_eq_false,Bool.false_eq_true]
  exact wpAny_pure (h _ q1 q2)
theorem Eh {l:Addr} {Q:Value->Shared->Prop} (hl:s.heap.IsList l vs.toArray) (Sw:vs.length < 300) (ho:2<=vs.length->Ac vs lt)
  (hc:Comp prog w A.in1.in1 s.heap vs lt)
  (h:∀ p:Array Nat,p.Perm (List.toArray (List.range vs.length))->Up lt p vs.length->Q (.ref (s.heap.objs.size + 1)) { s with heap:=sortedAll s.heap vs (List.toArray (rA vs p)) }) :
  wpAny (model prog w) A (call (.builtin "sorted") [.ref l]) Q E s:=by
 refine call_function_entry kind_sorted plain_sorted entry_sorted (args_sorted1 _) ?_
 unfold Builtin.«sorted»
 refine wpAny_bind (m:=checkCount "sorted" 1 1 _) (wpAny_pure ?_)
 refine wpAny_bind (collect_list hl ?_ (by rw [sizeLine_eq]; lia))
 refine wpAny_bind (wpAny_newList ?_ (by show vs.length<=_; rw [sizeLine_eq]; lia))
 have zs:((s.heap.push (seqObj "list" #[] 0)).update s.heap.objs.size (Obj.mapSeq (· ++ vs.toArray))).objs.size=s.heap.objs.size + 1:=by rw [Heap.size_update,size_push']
 have obL:(((s.heap.push (seqObj "list" #[] 0)).update s.heap.objs.size (Obj.mapSeq (· ++ vs.toArray))).push (seqObj "list" vs.toArray 0)).get? (s.heap.objs.size + 1)=some (seqObj "list" vs.toArray 0):=by rw [<- zs]; exact Heap.get?_push_size _ rfl
 have kp:∀ b o,s.heap.get? b=some o->(((s.heap.push (seqObj "list" #[] 0)).update s.heap.objs.size (Obj.mapSeq (· ++ vs.toArray))).push (seqObj "list" vs.toArray 0)).get? b=some o:=fun b o q=>by
  have hb:b < s.heap.objs.size:=Heap.lt_size q
  rw [Heap.get?_push_ne _ _ _ (by rw [zs]; exact Nat.ne_of_lt (Nat.lt_succ_of_lt hb)),Heap.get?_update_ne _ _ _ _ (Nat.ne_of_lt hb),Heap.get?_push_ne _ _ _ (Nat.ne_of_lt hb)]; exact q
 show wpAny _ _ _ _ _ { s with heap:=((s.heap.push (seqObj "list" #[] 0)).update s.heap.objs.size (Obj.mapSeq (· ++ vs.toArray))).push (seqObj "list" vs.toArray 0) }
 rw [zs]
 refine wpAny_bind (wpAny_holding (wpAny_call_entry slot_list_sort ⟨_,obL,rfl⟩ entry_list_sort (wM (lt:=lt) obL Sw ho (fun h2 s' k=>hc h2 s' fun b o e=>k b o ?_ (kp b o e)) fun p q1 q2=>⟨_,rfl,?_⟩) (args_list_sort _)))
 ·exact Nat.ne_of_lt (Nat.lt_succ_of_lt (Heap.lt_size e))
 ·exact wpAny_pure ⟨_,rfl,h p q1 q2⟩
end
end DW
end
section
set_option maxHeartbeats 4000000
namespace DW
open PySem PySem.W PySem.Calls PyProof.Rows
theorem yZ:∀ (x y:List Nat),cT x y=decide (x < y)
 | [],[]=>by simp [cT]
 | [],_ :: _=>by simp [cT]
 | _ :: _,[]=>by simp [cT]
 | a :: x,b :: y=>by
  unfold cT
  by_cases h:a=b
  ·subst h
   rw [if_pos rfl,yZ x y]
   simp [List.cons_lt_cons_iff]
  ·rw [if_neg h]
   simp [List.cons_lt_cons_iff,h]
noncomputable def IsItem (h:Heap) (v:Value) (x:Itm):Prop:=∃ (a:Addr) (o:Obj) (t u:Tok) (n:Nat),v = .ref a/\h.get? a=some o/\o.cls = .type "tuple"/\o.data = .seq #[.int x.1 t,.str ⟨x.2.toArray⟩ u] n
noncomputable def ltAt (r:List Itm) (i j:Nat):Bool:=eE (r[i]?.getD (0,[])) (r[j]?.getD (0,[]))
section
variable {prog:Program} {w:World} {A:Around} {E:Value->Shared->Prop}
theorem Pu {s:Shared} {v u:Value} {x y:Itm} {C:Bool->Shared->Prop} (hv:IsItem s.heap v x) (hu:IsItem s.heap u y) (h:C (eE x y) s):wpAny (model prog w) A (keyLt' (tuples' true) v u) C E s:=by
 obtain ⟨a,oa,t1,t2,n,rfl,ga,_,da⟩:=hv
 obtain ⟨b,ob,t3,t4,m,rfl,gb,_,db⟩:=hu
 refine kat_lt ga da gb db ?_
 refine kat_cons (wpAny_eqBool_int ?_)
 unfold eE at h
 by_cases e:x.1=y.1
 ·rw [if_pos e] at h
  have e':(x.1 == y.1)=true:=by simp [e]
  rw [e']
  refine kat_yes (kat_cons (wpAny_eqBool_str ?_))
  by_cases e2:x.2=y.2
  ·have q:cT x.2 y.2=false:=by rw [e2,yZ]; simp
   rw [q] at h
   rw [e2,decide_eq_true rfl]
   exact kat_yes (kat_nil h)
  ·have ne:¬ (⟨x.2.toArray⟩:Str)=⟨y.2.toArray⟩:=fun z=>e2 (by
    have:=congrArg (fun q:Str=>q.cps.toList) z
    simpa using this)
   rw [decide_eq_false ne]
   refine kat_no (kat_one _ _ (lt_str ?_))
   rw [yZ] at h
   exact h
 ·rw [if_neg e] at h
  have e':(x.1 == y.1)=false:=by simp [e]
  rw [e']
  exact kat_no (oneLt_int h)
theorem Gf {h:Heap} {vs:List Value} {r:List Itm} (hl:vs.length=r.length) (hi:∀ (i:Nat) (v:Value) (x:Itm),vs[i]? = some v->r[i]? = some x->IsItem h v x):Comp prog w A h vs (ltAt r):=by
 intro h2 s' keep
 have hi':∀ (i:Nat) (v:Value) (x:Itm),vs[i]? = some v->r[i]? = some x->IsItem s'.heap v x:=fun i v x e1 e2=>by
  obtain ⟨a,o,t,u,n,q1,q2,q3⟩:=hi i v x e1 e2
  exact ⟨a,o,t,u,n,q1,keep _ _ q2,q3⟩
 refine ⟨tuples' true,fun R hR=>?_,fun i j C hi1 hj1 hC=>?_⟩
 ·have tups:∀ (vs:List Value) (r:List Itm),vs.length=r.length->(∀ (i:Nat) (v:Value) (x:Itm),vs[i]? = some v->r[i]? = some x->IsItem s'.heap v x)->∃ fs:List Value,KatTups s'.heap vs fs/\fs.length=vs.length/\∀ f∈fs,∃ i t,f=Value.int i t:=by
   intro vs
   induction vs with
   | nil=>intro r _ _; exact ⟨[],.nil,rfl,by simp⟩
   | cons v vs ih =>
    intro r hl hi
    cases r with
    | nil=>simp at hl
    | cons x r =>
     obtain ⟨fs,k1,k2,k3⟩:=ih r (by simpa using hl) fun i v' x' e1 e2=>hi (i + 1) v' x' (by simpa using e1) (by simpa using e2)
     obtain ⟨a,o,t,u,n,rfl,q2,q3,q4⟩:=hi 0 v x rfl rfl
     refine ⟨.int x.1 t :: fs,.cons q2 q3 q4 rfl k1,by simp [k2],fun f hf=>?_⟩
     rcases List.mem_cons.mp hf with rfl | hf
     ·exact ⟨_,_,rfl⟩
     ·exact k3 f hf
  obtain ⟨fs,k1,k2,k3⟩:=tups vs r hl hi'
  refine kat_kind (T:=.type "int") k1 (by lia) (fun v hv=>?_) rfl hR
  obtain ⟨i,t,rfl⟩:=k3 v hv
  exact Looks.of_pure rfl
 ·have hir:i < r.length:=by lia
  have hjr:j < r.length:=by lia
  have ei:vs.getD i Value.none=vs[i]:=by simp [hi1]
  have ej:vs.getD j Value.none=vs[j]:=by simp [hj1]
  have el:ltAt r i j=eE r[i] r[j]:=by simp [ltAt,hir,hjr]
  unfold kas_ask
  rw [ei,ej]
  rw [el] at hC
  exact Pu (hi' i _ _ (List.getElem?_eq_getElem hi1) (List.getElem?_eq_getElem hir)) (hi' j _ _ (List.getElem?_eq_getElem hj1) (List.getElem?_eq_getElem hjr)) hC
end
end DW
end
section
namespace DW
open PySem PySem.W PyProof.Rows
theorem Je (r:List Itm):∀ a b,ltAt r a b=true->ltAt r b a=false:=fun a b h=>lE _ _ h
theorem vg (r:List Itm):∀ a b c,ltAt r b a=false->ltAt r c b=false->ltAt r c a=false:=fun a b c h k=>fK _ _ _ h k
noncomputable def outI (r:List Itm) (p:Array Nat):List Itm:=p.toList.map fun i=>r[i]?.getD (0,[])
theorem I8 {r:List Itm} {p:Array Nat} (h:p.Perm (List.toArray (List.range r.length))):(outI r p).Perm r:=by
 have h1:p.toList.Perm (List.range r.length):=by simpa using Array.perm_iff_toList_perm.mp h
 refine (h1.map fun i=>r[i]?.getD (0,[])).trans (List.Perm.of_eq ?_)
 apply List.ext_getElem?
 intro i
 by_cases q:i < r.length
 ·simp [q]
 ·simp [q,Nat.le_of_not_lt q]
theorem BP {r:List Itm} {p:Array Nat} {n:Nat} (hn:p.size=n) (h:Up (ltAt r) p n):aY (outI r p):=by
 refine List.pairwise_iff_getElem.mpr fun i j h1 h2 hij=>?_
 have le:=Up.le (vg r) h (fun a=>sZ _) (j - i) i (by simp [outI] at h2; lia)
 rw [show i + (j - i)=j by lia] at le
 have e1:i < p.size:=by simpa [outI] using h1
 have e2:j < p.size:=by simpa [outI] using h2
 have f1:at' p i=p[i]:=by simp [Dp,e1]
 have f2:at' p j=p[j]:=by simp [Dp,e2]
 rw [f1,f2] at le
 simpa [outI,ltAt] using le
end DW
namespace DW
open PySem PySem.W PySem.Calls PyProof.Rows
section
variable {prog:Program} {w:World} {A:Around} {E:Value->Shared->Prop}
end
end DW
end
section
set_option maxHeartbeats 4000000
namespace DW
open PySem PySem.W PySem.Calls PyProof.Rows
section
variable {prog:Program} {w:World} {A:Around} {E:Value->Shared->Prop} {s:Shared} {d:Addr} {od:Obj} {es:Array DictEntry} {ep:Nat}
end
section
variable {prog:Program} {w:World} {A:Around} {E:Value->Shared->Prop}
end
end DW
end
section
set_option maxHeartbeats 4000000
namespace DW.TS
open PySem PySem.W PySem.Calls PyProof.Rows
noncomputable def iQ:Bool->Keyed->Array Keyed->Nat->Nat->Nat->StateT SortSt Sem (Option Nat):=sortPriv% PySem.Builtin.gallop
noncomputable def xK:Nat->StateT SortSt Sem Unit:=sortPriv% PySem.Builtin.setMinGallop
noncomputable def uX:Array Keyed->Array Keyed->StateT SortSt Sem (Array Keyed):=sortPriv% PySem.Builtin.mergeLo
noncomputable def uY:Array Keyed->Array Keyed->StateT SortSt Sem (Array Keyed):=sortPriv% PySem.Builtin.mergeHi
theorem Fy (left:Bool) (key:Keyed) (arr:Array Keyed) (base n hint:Nat):iQ left key arr base n hint=(do
 let beyond (i:Nat):StateT SortSt Sem (Option Bool):=do
  let x <- elem' arr (base + i)
  if left then lt' x key else return (<- lt' key x).map (!·)
 let mut lastofs:=0
 let mut ofs:=1
 let mut lo:=0
 let mut hi:=0
 let some right <- beyond hint | return none
 if right then
  let maxofs:=n - hint
  for _ in [0:n] do
   if ofs ≥ maxofs then break
   let some more <- beyond (hint + ofs) | return none
   if !more then break
   lastofs:=ofs
   ofs:=2 * ofs + 1
  lo:=hint + lastofs + 1
  hi:=hint + min ofs maxofs
 else
  let maxofs:=hint + 1
  for _ in [0:n] do
   if ofs ≥ maxofs then break
   let some found <- beyond (hint - ofs) | return none
   if found then break
   lastofs:=ofs
   ofs:=2 * ofs + 1
  lo:=hint + 1 - min ofs maxofs
  hi:=hint - lastofs
 for _ in [0:n] do
  if lo ≥ hi then break
  let m:=lo + (hi - lo) / 2
  let some more <- beyond m | return none
  if more then lo:=m + 1 else hi:=m
 return some hi):=rfl
theorem Lb (g:Nat):xK g=modify fun s=>SortSt.mk' (kindOf s) (arrOf s) (pendingOf s) g (failedOf s):=rfl
section
variable {prog:Program} {w:World} {A:Around} {E:Value->Shared->Prop} {s:Shared} {κ:SortKind} {c:Keyed->Keyed->Bool} {M:Keyed->Prop}
noncomputable def kc (prog:Program) (w:World) (A:Around) (E:Value->Shared->Prop) (s:Shared) {α:Type} (m:StateT SortSt Sem α) (Q:α->SortSt->Prop) (st:SortSt):Prop:=kasC (model prog w) A E m (fun a st' s'=>s'=s/\Q a st') st s
theorem ak {α:Type} {a:α} {Q:α->SortSt->Prop} {st:SortSt} (h:Q a st):kc prog w A E s (pure a) Q st:=kasC_pure ⟨rfl,h⟩
theorem aj {α β:Type} {m:StateT SortSt Sem α} {f:α->StateT SortSt Sem β} {Q:β->SortSt->Prop} {st:SortSt} (h:kc prog w A E s m (fun a st'=>kc prog w A E s (f a) Q st') st):kc prog w A E s (m >>= f) Q st :=
 kasC_bind (wpAny_mono h (fun r s' q=>by obtain ⟨e,q⟩:=q; subst e; exact q) fun _ _ e=>e)
theorem aF {α:Type} {m:StateT SortSt Sem α} {Q Q':α->SortSt->Prop} {st:SortSt} (h:kc prog w A E s m Q st) (q:∀ a st',Q a st'->Q' a st'):kc prog w A E s m Q' st :=
 wpAny_mono h (fun r s' z=>⟨z.1,q _ _ z.2⟩) fun _ _ e=>e
theorem jJ {Q:SortSt->SortSt->Prop} {st:SortSt} (h:Q st st):kc prog w A E s get Q st:=kasC_get ⟨rfl,h⟩
theorem nY {f:SortSt->SortSt} {Q:PUnit->SortSt->Prop} {st:SortSt} (h:Q ⟨⟩ (f st)):kc prog w A E s (modify f) Q st:=kasC_modify ⟨rfl,h⟩
theorem mG {x:String} {Q:Unit->SortSt->Prop} {st:SortSt} (h:Q () st):kc prog w A E s (liftM (rule x)) Q st:=kasC_lift (wpAny_rule ⟨rfl,h⟩)
theorem aO {a:Array Keyed} {i:Nat} {x:Keyed} {Q:Keyed->SortSt->Prop} {st:SortSt} (e:a[i]? = some x) (h:Q x st):kc prog w A E s (elem' a i) Q st:=by
 rw [elem'_eq,e]; exact ak h
noncomputable def qb (prog:Program) (w:World) (A:Around) (s:Shared) (κ:SortKind) (M:Keyed->Prop) (c:Keyed->Keyed->Bool):Prop:=∀ x y,M x->M y->∀ C:Bool->Shared->Prop,C (c x y) s->wpAny (model prog w) A (keyLt' κ x.1 y.1) C (fun _ _=>False) s
theorem Cv (hc:qb prog w A s κ M c) {x y:Keyed} {a:Array Keyed} {p:Array (Nat×Nat×Nat)} {g:Nat} {Q:Option Bool->SortSt->Prop} (hx:M x) (hy:M y) (h:Q (some (c x y)) (SortSt.mk' κ a p g none)):kc prog w A E s (lt' x y) Q (SortSt.mk' κ a p g none):=by
 unfold kc
 rw [lt'_eq]
 refine kasC_bind (kasC_get ?_)
 refine kasC_bind (kasC_lift (wpAny_attempt (wpAny_mono (hc x y hx hy (fun b s'=>b=c x y/\s'=s) ⟨rfl,rfl⟩) (fun b s' q=>?_) fun _ _ hF=>hF.elim)))
 obtain ⟨rfl,rfl⟩:=q
 exact kasC_pure ⟨rfl,h⟩
theorem Fi {β:Type} {f:Nat->β->StateT SortSt Sem (ForInStep β)} {Q:β->SortSt->Prop} (I:Nat->β->SortSt->Prop)
  (hs:∀ k x b st,I (k + 1) b st->kc prog w A E s (f x b) (fun r st'=>match r with | .done b'=>Q b' st' | .yield b'=>I k b' st') st)
  (he:∀ b st,I 0 b st->Q b st):∀ (l:List Nat) (b:β) (st:SortSt),I l.length b st->kc prog w A E s (forIn l b f) Q st
 | [],b,st,h=>by rw [List.forIn_nil]; exact ak (he b st h)
 | x :: l,b,st,h=>by
  rw [List.forIn_cons]
  refine aj (aF (hs l.length x b st h) fun r st' q=>?_)
  cases r with
  | done b'=>exact ak q
  | yield b'=>exact Fi I hs he l b' st' q
theorem cH {β:Type} {n:Nat} {f:Nat->β->StateT SortSt Sem (ForInStep β)} {Q:β->SortSt->Prop} (I:Nat->β->SortSt->Prop)
  (hs:∀ k x b st,I (k + 1) b st->kc prog w A E s (f x b) (fun r st'=>match r with | .done b'=>Q b' st' | .yield b'=>I k b' st') st)
  (he:∀ b st,I 0 b st->Q b st) (b:β) (st:SortSt) (h:I n b st):kc prog w A E s (forIn [0:n] b f) Q st:=by
 rw [Std.Legacy.Range.forIn_eq_forIn_range']
 have hsz:([0:n]:Std.Legacy.Range).size=n:=by simp [Std.Legacy.Range.size]
 rw [hsz]
 exact Fi I hs he _ b st (by rw [List.length_range']; exact h)
noncomputable def HF (c:Keyed->Keyed->Bool) (left:Bool) (key:Keyed) (x:Keyed):Bool:=if left then c x key else !c key x
noncomputable def bd (c:Keyed->Keyed->Bool) (left:Bool) (key:Keyed) (arr:Array Keyed) (base i:Nat):Bool:=match arr[base + i]? with | some x=>HF c left key x | none=>false
theorem mO (hc:qb prog w A s κ M c) {left:Bool} {key:Keyed} {arr:Array Keyed} {base i:Nat} {a:Array Keyed} {p:Array (Nat×Nat×Nat)} {g:Nat} {Q:Option Bool->SortSt->Prop} (hk:M key) (hM:∀ x∈arr,M x) (hi:base + i < arr.size)
  (h:Q (some (bd c left key arr base i)) (SortSt.mk' κ a p g none)) :
  kc prog w A E s (do
   let x <- elem' arr (base + i)
   if left=true then lt' x key
    else do
     let d <- lt' key x
     pure (Option.map (fun x=>!x) d)) Q (SortSt.mk' κ a p g none):=by
 have e:arr[base + i]? = some arr[base + i]:=Array.getElem?_eq_getElem hi
 have hx:M arr[base + i]:=hM _ (Array.getElem_mem hi)
 refine aj (aO e ?_)
 unfold bd HF at h
 rw [e] at h
 cases left with
 | true=>exact Cv hc hx hk h
 | false=>exact aj (Cv hc hk hx (ak h))
theorem vZ (hc:qb prog w A s κ M c) {left:Bool} {key:Keyed} {arr:Array Keyed} {base n lo hi:Nat} {a:Array Keyed} {p:Array (Nat×Nat×Nat)} {g:Nat} (hk:M key) (hM:∀ x∈arr,M x) (hb:base + n<=arr.size)
  (mono:∀ i j,i < j->j < n->bd c left key arr base j=true->bd c left key arr base i=true) (l1:lo<=hi) (l2:hi<=n) (l3:∀ i,i < lo->bd c left key arr base i=true) (l4:∀ i,hi<=i->i < n->bd c left key arr base i=false) :
  kc prog w A E s (forIn [0:n] ((none,lo,hi):Option (Option Nat)×Nat×Nat) fun x r =>
    if r.snd.fst ≥ r.snd.snd then pure (ForInStep.done (none,r.snd.fst,r.snd.snd))
    else do
     let y <- (do
      let x <- elem' arr (base + (r.snd.fst + (r.snd.snd - r.snd.fst) / 2))
      if left=true then lt' x key
       else do
        let d <- lt' key x
        pure (Option.map (fun x=>!x) d))
     match y with
      | some more =>
       if more=true then pure (ForInStep.yield (none,r.snd.fst + (r.snd.snd - r.snd.fst) / 2 + 1,r.snd.snd))
       else pure (ForInStep.yield (none,r.snd.fst,r.snd.fst + (r.snd.snd - r.snd.fst) / 2))
      | x=>pure (ForInStep.done (some none,r.snd.fst,r.snd.snd)))
   (fun b st=>b.1=none/\st=SortSt.mk' κ a p g none/\b.2.2<=n/\(∀ i,i < b.2.2->bd c left key arr base i=true)/\∀ i,b.2.2<=i->i < n->bd c left key arr base i=false) (SortSt.mk' κ a p g none):=by
 refine cH
  (fun k b st=>b.1=none/\st=SortSt.mk' κ a p g none/\b.2.1<=b.2.2/\b.2.2 - b.2.1<=k/\b.2.2<=n/\(∀ i,i < b.2.1->bd c left key arr base i=true)/\∀ i,b.2.2<=i->i < n->bd c left key arr base i=false) ?_ ?_ _ _ ⟨rfl,rfl,l1,by show hi - lo<=n; lia,l2,l3,l4⟩
 ·rintro k x ⟨o,l,h⟩ st ⟨rfl,rfl,q1,q2,q3,q4,q5⟩
  simp only at q1 q2 q3 q4 q5 ⊢
  by_cases z:l ≥ h
  ·rw [if_pos z]
   have:l=h:=by lia
   subst this
   exact ak ⟨rfl,rfl,q3,q4,q5⟩
  ·rw [if_neg z]
   have m1:l<=l + (h - l) / 2:=by lia
   have m2:l + (h - l) / 2 < h:=by lia
   generalize l + (h - l) / 2=m at m1 m2
   refine aj (mO hc hk hM (by lia) ?_)
   cases e:bd c left key arr base m with
   | true =>
    simp only [if_true]
    refine ak ⟨rfl,rfl,by show m + 1<=h; lia,by show h - (m + 1)<=k; lia,q3,fun i hi=>?_,q5⟩
    have hi:i < m + 1:=hi
    by_cases y:i=m
    ·rw [y]; exact e
    ·exact mono i m (by lia) (by lia) e
   | false =>
    simp only [Bool.false_eq_true,if_false]
    refine ak ⟨rfl,rfl,m1,by show m - l<=k; lia,by show m<=n; lia,q4,fun i hi hn=>?_⟩
    have hi:m<=i:=hi
    by_cases y:i=m
    ·rw [y]; exact e
    ·cases f:bd c left key arr base i with
     | false=>rfl
     | true=>rw [mono m i (by lia) hn f] at e; cases e
 ·rintro ⟨o,l,h⟩ st ⟨rfl,rfl,q1,q2,q3,q4,q5⟩
  simp only at q1 q2 q3 q4 q5
  have:l=h:=by lia
  subst this
  exact ⟨rfl,rfl,q3,q4,q5⟩
theorem gJ (hc:qb prog w A s κ M c) {left:Bool} {key:Keyed} {arr:Array Keyed} {base n hint:Nat} {a:Array Keyed} {p:Array (Nat×Nat×Nat)} {g:Nat} {Q:Option Nat->SortSt->Prop} (hk:M key) (hM:∀ x∈arr,M x) (hb:base + n<=arr.size) (hh:hint < n)
  (mono:∀ i j,i < j->j < n->bd c left key arr base j=true->bd c left key arr base i=true)
  (h:∀ k,k<=n->(∀ i,i < k->bd c left key arr base i=true)->(∀ i,k<=i->i < n->bd c left key arr base i=false)->Q (some k) (SortSt.mk' κ a p g none)) :
  kc prog w A E s (iQ left key arr base n hint) Q (SortSt.mk' κ a p g none):=by
 have Ui:∀ i j,i<=j->j < n->bd c left key arr base i=false->bd c left key arr base j=false:=fun i j hij hj e=>by
  by_cases y:i=j
  ·rw [<- y]; exact e
  ·cases f:bd c left key arr base j with
   | false=>rfl
   | true=>rw [mono i j (by lia) hj f] at e; cases e
 have Uh:∀ i j,i<=j->j < n->bd c left key arr base j=true->bd c left key arr base i=true:=fun i j hij hj e=>by
  by_cases y:i=j
  ·rw [y]; exact e
  ·exact mono i j (by lia) hj e
 rw [Fy]
 dsimp only
 refine aj (mO hc hk hM (by lia) ?_)
 cases e0:bd c left key arr base hint with
 | true =>
  simp only [if_true]
  refine aj (aF (cH (Q:=fun b st=>b.1=none/\st=SortSt.mk' κ a p g none/\b.2.1 < b.2.2/\hint + b.2.1 < n/\bd c left key arr base (hint + b.2.1)=true/\(b.2.2 ≥ n - hint∨bd c left key arr base (hint + b.2.2)=false))
   (fun k b st=>b.1=none/\st=SortSt.mk' κ a p g none/\b.2.1 < b.2.2/\hint + b.2.1 < n/\bd c left key arr base (hint + b.2.1)=true/\n + 1<=b.2.2 + k) ?_ ?_ _ _ ⟨rfl,rfl,by show 0 < 1; lia,by show hint + 0 < n; lia,(show bd c left key arr base (hint + 0)=true from e0),by show n + 1<=1 + n; lia⟩) fun b st q=>?_)
  ·rintro k x ⟨o,l,h⟩ st ⟨rfl,rfl,q1,q2,q3,q4⟩
   simp only at q1 q2 q3 q4 ⊢
   by_cases z:h ≥ n - hint
   ·rw [if_pos z]
    exact ak ⟨rfl,rfl,q1,q2,q3,.inl z⟩
   ·rw [if_neg z]
    refine aj (mO hc hk hM (by lia) ?_)
    cases e:bd c left key arr base (hint + h) with
    | true =>
     simp only [Bool.not_true,Bool.false_eq_true,if_false]
     exact ak ⟨rfl,rfl,by show h < 2 * h + 1; lia,by show hint + h < n; lia,e,by show n + 1<=2 * h + 1 + k; lia⟩
    | false =>
     simp only [Bool.not_false,if_true]
     exact ak ⟨rfl,rfl,q1,q2,q3,.inr e⟩
  ·rintro ⟨o,l,h⟩ st ⟨rfl,rfl,q1,q2,q3,q4⟩
   exact ⟨rfl,rfl,q1,q2,q3,.inl (by simp only at q4 ⊢; lia)⟩
  ·obtain ⟨o,l,hh⟩:=b
   obtain ⟨rfl,rfl,q1,q2,q3,q4⟩:=q
   simp only at q1 q2 q3 q4 ⊢
   refine aj (aF (vZ (E:=E) (lo:=hint + l + 1) (hi:=hint + min hh (n - hint)) hc hk hM hb mono ?_ ?_ (fun i hi=>Uh i (hint + l) (by lia) q2 q3) (fun i hi hn=>?_)) fun b st q=>by obtain ⟨o,l2,h2⟩:=b; obtain ⟨rfl,rfl,z1,z2,z3⟩:=q; exact ak (h _ z1 z2 z3))
   ·lia
   ·lia
   ·by_cases z:hh ≥ n - hint
    ·lia
    ·rcases q4 with q4 | q4
     ·lia
     ·exact Ui (hint + hh) i (by lia) hn q4
 | false =>
  simp only [Bool.false_eq_true,if_false]
  refine aj (aF (cH (Q:=fun b st=>b.1=none/\st=SortSt.mk' κ a p g none/\b.2.1 < b.2.2/\b.2.1<=hint/\bd c left key arr base (hint - b.2.1)=false/\(b.2.2 ≥ hint + 1∨bd c left key arr base (hint - b.2.2)=true))
   (fun k b st=>b.1=none/\st=SortSt.mk' κ a p g none/\b.2.1 < b.2.2/\b.2.1<=hint/\bd c left key arr base (hint - b.2.1)=false/\n + 1<=b.2.2 + k) ?_ ?_ _ _ ⟨rfl,rfl,by show 0 < 1; lia,by show 0<=hint; lia,(show bd c left key arr base (hint - 0)=false from e0),by show n + 1<=1 + n; lia⟩) fun b st q=>?_)
  ·rintro k x ⟨o,l,h⟩ st ⟨rfl,rfl,q1,q2,q3,q4⟩
   simp only at q1 q2 q3 q4 ⊢
   by_cases z:h ≥ hint + 1
   ·rw [if_pos z]
    exact ak ⟨rfl,rfl,q1,q2,q3,.inl z⟩
   ·rw [if_neg z]
    refine aj (mO hc hk hM (by lia) ?_)
    cases e:bd c left key arr base (hint - h) with
    | false =>
     simp only [Bool.false_eq_true,if_false]
     exact ak ⟨rfl,rfl,by show h < 2 * h + 1; lia,by show h<=hint; lia,e,by show n + 1<=2 * h + 1 + k; lia⟩
    | true =>
     simp only [if_true]
     exact ak ⟨rfl,rfl,q1,q2,q3,.inr e⟩
  ·rintro ⟨o,l,h⟩ st ⟨rfl,rfl,q1,q2,q3,q4⟩
   exact ⟨rfl,rfl,q1,q2,q3,.inl (by simp only at q4 ⊢; lia)⟩
  ·obtain ⟨o,l,hh⟩:=b
   obtain ⟨rfl,rfl,q1,q2,q3,q4⟩:=q
   simp only at q1 q2 q3 q4 ⊢
   refine aj (aF (vZ (E:=E) (lo:=hint + 1 - min hh (hint + 1)) (hi:=hint - l) hc hk hM hb mono ?_ ?_ (fun i hi=>?_) (fun i hi hn=>Ui (hint - l) i hi hn q3)) fun b st q=>by obtain ⟨o,l2,h2⟩:=b; obtain ⟨rfl,rfl,z1,z2,z3⟩:=q; exact ak (h _ z1 z2 z3))
   ·lia
   ·lia
   ·by_cases z:hh ≥ hint + 1
    ·lia
    ·rcases q4 with q4 | q4
     ·lia
     ·exact Uh i (hint - hh) (by lia) (by lia) q4
end
end DW.TS
end
section
set_option maxHeartbeats 4000000
namespace DW.TS
open PySem PySem.W PySem.Calls PyProof.Rows
noncomputable abbrev GS:=Option (Array Keyed)×Array Keyed×Nat×Nat×Nat×Nat×Nat
noncomputable abbrev PS:=Option (Array Keyed)×Array Keyed×Nat×Nat×Nat×Nat
noncomputable abbrev OS:=Option (Array Keyed)×Array Keyed×Nat×Nat×Nat
section
variable (a b:Array Keyed)
noncomputable def wL (out:Array Keyed) (ia ib:Nat):Array Keyed:=out ++ a.extract ia a.size ++ b.extract ib b.size
noncomputable def Jg (out:Array Keyed) (ia ib:Nat):Array Keyed:=out ++ b.extract ib b.size ++ a.extract ia a.size
noncomputable def loD (out:Array Keyed) (ia ib mg ac bc:Nat):StateT SortSt Sem (ForInStep GS):=do
 let x <- elem' a ia
 if (ia + 1 + 1 == a.size)=true then pure (.done (some (Jg a b (out.push x) (ia + 1) ib),out.push x,ia + 1,ib,mg,ac,bc))
 else if (decide (ac < 7) && decide (bc < 7))=true then pure (.done (none,out.push x,ia + 1,ib,mg,ac,bc)) else pure (.yield (none,out.push x,ia + 1,ib,mg,ac,bc))
noncomputable def loC (out:Array Keyed) (ia ib mg ac bc:Nat):StateT SortSt Sem (ForInStep GS):=do
 let y <- elem' b ib
 if (ib + 1 == b.size)=true then pure (.done (some (wL a b (out.push y) ia (ib + 1)),out.push y,ia,ib + 1,mg,ac,bc))
 else do
  let x <- elem' a ia
  let k <- iQ true x b (ib + 1) (b.size - (ib + 1)) 0
  match k with
  | some k=>if k > 0 then (if (ib + 1 + k == b.size)=true then pure (.done (some (wL a b (out.push y ++ b.extract (ib + 1) (ib + 1 + k)) ia (ib + 1 + k)),out.push y ++ b.extract (ib + 1) (ib + 1 + k),ia,ib + 1 + k,mg,ac,k)) else loD a b (out.push y ++ b.extract (ib + 1) (ib + 1 + k)) ia (ib + 1 + k) mg ac k) else loD a b (out.push y) ia (ib + 1) mg ac k
  | _=>pure (.done (some (wL a b (out.push y) ia (ib + 1)),out.push y,ia,ib + 1,mg,ac,bc))
noncomputable def loG (out:Array Keyed) (ia ib mg ac bc:Nat):StateT SortSt Sem (ForInStep GS):=do
 xK mg
 let y <- elem' b ib
 let k <- iQ false y a ia (a.size - ia) 0
 match k with
 | some k=>if k > 0 then (if (ia + k + 1 == a.size)=true then pure (.done (some (Jg a b (out ++ a.extract ia (ia + k)) (ia + k) ib),out ++ a.extract ia (ia + k),ia + k,ib,mg,k,bc)) else if (ia + k == a.size)=true then pure (.done (some (wL a b (out ++ a.extract ia (ia + k)) (ia + k) ib),out ++ a.extract ia (ia + k),ia + k,ib,mg,k,bc)) else loC a b (out ++ a.extract ia (ia + k)) (ia + k) ib mg k bc) else loC a b out ia ib mg k bc
 | _=>pure (.done (some (wL a b out ia ib),out,ia,ib,mg,ac,bc))
noncomputable def loP (mg:Nat) (r:PS):StateT SortSt Sem (ForInStep PS):=do
 let y <- elem' b r.2.2.2.1
 let x <- elem' a r.2.2.1
 let z <- lt' y x
 match z with
 | some bWins =>
  if bWins=true then do
   let y <- elem' b r.2.2.2.1
   if (r.2.2.2.1 + 1 == b.size)=true then pure (.done (some (wL a b (r.2.1.push y) r.2.2.1 (r.2.2.2.1 + 1)),r.2.1.push y,r.2.2.1,r.2.2.2.1 + 1,0,r.2.2.2.2.2 + 1))
   else if r.2.2.2.2.2 + 1 ≥ mg then pure (.done (none,r.2.1.push y,r.2.2.1,r.2.2.2.1 + 1,0,r.2.2.2.2.2 + 1)) else pure (.yield (none,r.2.1.push y,r.2.2.1,r.2.2.2.1 + 1,0,r.2.2.2.2.2 + 1))
  else do
   let x <- elem' a r.2.2.1
   if (r.2.2.1 + 1 + 1 == a.size)=true then pure (.done (some (Jg a b (r.2.1.push x) (r.2.2.1 + 1) r.2.2.2.1),r.2.1.push x,r.2.2.1 + 1,r.2.2.2.1,r.2.2.2.2.1 + 1,0))
   else if r.2.2.2.2.1 + 1 ≥ mg then pure (.done (none,r.2.1.push x,r.2.2.1 + 1,r.2.2.2.1,r.2.2.2.2.1 + 1,0)) else pure (.yield (none,r.2.1.push x,r.2.2.1 + 1,r.2.2.2.1,r.2.2.2.2.1 + 1,0))
 | _=>pure (.done (some (wL a b r.2.1 r.2.2.1 r.2.2.2.1),r.2.1,r.2.2.1,r.2.2.2.1,r.2.2.2.2.1,r.2.2.2.2.2))
noncomputable def loO (r:OS):StateT SortSt Sem (ForInStep OS):=do
 let q <- forIn [0:a.size + b.size] ((none,r.2.1,r.2.2.1,r.2.2.2.1,0,0):PS) fun _ q=>loP a b r.2.2.2.2 q
 match q.1 with
 | some z=>pure (.done (some z,q.2.1,q.2.2.1,q.2.2.2.1,r.2.2.2.2))
 | none=>do
  liftM (rule "list.sort.gallop")
  let t <- forIn [0:a.size + b.size] ((none,q.2.1,q.2.2.1,q.2.2.2.1,r.2.2.2.2 + 1,q.2.2.2.2.1,q.2.2.2.2.2):GS) fun _ t =>
   if t.2.2.2.2.1 > 1 then loG a b t.2.1 t.2.2.1 t.2.2.2.1 (t.2.2.2.2.1 - 1) t.2.2.2.2.2.1 t.2.2.2.2.2.2 else loG a b t.2.1 t.2.2.1 t.2.2.2.1 t.2.2.2.2.1 t.2.2.2.2.2.1 t.2.2.2.2.2.2
  match t.1 with
  | some z=>pure (.done (some z,t.2.1,t.2.2.1,t.2.2.2.1,t.2.2.2.2.1))
  | none=>do
   xK (t.2.2.2.2.1 + 1)
   pure (.yield (none,t.2.1,t.2.2.1,t.2.2.2.1,t.2.2.2.2.1 + 1))
noncomputable def lo:StateT SortSt Sem (Array Keyed):=do
 liftM (rule "list.sort.merge-lo")
 let y <- elem' b 0
 if (1 == b.size)=true then pure (wL a b #[y] 0 1)
 else if (0 + 1 == a.size)=true then pure (Jg a b #[y] 0 1)
 else do
  let s <- get
  let r <- forIn [0:a.size + b.size] ((none,#[y],0,1,gallopOf s):OS) fun _ r=>loO a b r
  match r.1 with
  | some z=>pure z
  | none=>liftM (unsupported "internal:list.sort.merge-bound" : Sem (Array Keyed))
end
theorem Ci (a b:Array Keyed):uX a b=lo a b:=by kernel_rfl
noncomputable abbrev pZ (c:Keyed->Keyed->Bool) (l:List Keyed):Prop:=l.Pairwise fun x y=>c y x=false
structure MI (c:Keyed->Keyed->Bool) (la lb out:List Keyed) (ia ib:Nat):Prop where
 p1:pZ c (out ++ la.drop ia)
 p2:pZ c (out ++ lb.drop ib)
 pm:(out ++ (la.drop ia ++ lb.drop ib)).Perm (la ++ lb)
 i1:ia<=la.length
 i2:ib<=lb.length
 sz:out.length=ia + ib
noncomputable def Good (c:Keyed->Keyed->Bool) (la lb:List Keyed) (r:Array Keyed):Prop:=pZ c r.toList/\r.toList.Perm (la ++ lb)
section
variable {c:Keyed->Keyed->Bool} {la lb out:List Keyed} {ia ib:Nat}
theorem MI.swap (h:MI c la lb out ia ib):MI c lb la out ib ia :=
 ⟨h.p2,h.p1,((List.perm_append_comm.append_left out).trans h.pm).trans List.perm_append_comm,h.i2,h.i1,by rw [h.sz]; lia⟩
theorem MI.Dt {k:Nat} (h:MI c la lb out ia ib) (hk:ia + k<=la.length) (hx:∀ x∈(la.drop ia).take k,∀ y∈lb.drop ib,c y x=false):MI c la lb (out ++ (la.drop ia).take k) (ia + k) ib:=by
 have e:(la.drop ia).take k ++ la.drop (ia + k)=la.drop ia:=by rw [<- List.drop_drop]; exact List.take_append_drop k _
 refine ⟨?_,?_,?_,hk,h.i2,?_⟩
 ·rw [List.append_assoc,e]; exact h.p1
 ·have q:=h.p1
  rw [<- e,<- List.append_assoc] at q
  have q1:=(List.pairwise_append.mp q).1
  obtain ⟨_,q2,q3⟩:=List.pairwise_append.mp h.p2
  refine List.pairwise_append.mpr ⟨q1,q2,fun x hx' y hy=>?_⟩
  rcases List.mem_append.mp hx' with z | z
  ·exact q3 x z y hy
  ·exact hx x z y hy
 ·rw [List.append_assoc,<- List.append_assoc ((la.drop ia).take k),e]; exact h.pm
 ·rw [List.length_append,List.length_take,List.length_drop,h.sz]; lia
theorem MI.Gi {k:Nat} (h:MI c la lb out ia ib) (hk:ib + k<=lb.length) (hx:∀ x∈(lb.drop ib).take k,∀ y∈la.drop ia,c y x=false):MI c la lb (out ++ (lb.drop ib).take k) ia (ib + k):=(h.swap.Dt hk hx).swap
theorem MI.Zy (h:MI c la lb out ia ib) (hi:ib=lb.length):pZ c (out ++ la.drop ia ++ lb.drop ib)/\(out ++ la.drop ia ++ lb.drop ib).Perm (la ++ lb):=by
 have e:lb.drop ib=[]:=List.drop_eq_nil_of_le (by lia)
 have:=h.pm
 rw [e] at this ⊢
 rw [List.append_nil] at this ⊢
 exact ⟨h.p1,this⟩
theorem MI.Zx (h:MI c la lb out ia ib) (hi:ia=la.length):pZ c (out ++ la.drop ia ++ lb.drop ib)/\(out ++ la.drop ia ++ lb.drop ib).Perm (la ++ lb):=by
 have e:la.drop ia=[]:=List.drop_eq_nil_of_le (by lia)
 have:=h.pm
 rw [e] at this ⊢
 rw [List.append_nil]
 exact ⟨h.p2,this⟩
theorem MI.endL (h:MI c la lb out ia ib) (hl:∀ x∈la.drop ia,∀ y∈lb,c x y=false):pZ c (out ++ lb.drop ib ++ la.drop ia)/\(out ++ lb.drop ib ++ la.drop ia).Perm (la ++ lb):=by
 refine ⟨List.pairwise_append.mpr ⟨h.p2,(List.pairwise_append.mp h.p1).2.1,fun x hx y hy=>?_⟩,?_⟩
 ·rcases List.mem_append.mp hx with z | z
  ·exact (List.pairwise_append.mp h.p1).2.2 x z y hy
  ·exact hl y hy x (List.mem_of_mem_drop z)
 ·rw [List.append_assoc]
  exact (List.perm_append_comm.append_left out).trans h.pm
end
theorem tK (a:Array Keyed) (i:Nat):(a.extract i a.size).toList=a.toList.drop i:=by
 rw [Array.toList_extract,List.extract_eq_drop_take]
 exact List.take_of_length_le (by simp)
theorem pP (a:Array Keyed) (i k:Nat):(a.extract i (i + k)).toList=(a.toList.drop i).take k:=by
 rw [Array.toList_extract,List.extract_eq_drop_take,Nat.add_sub_cancel_left]
theorem take_one {l:List Keyed} {i:Nat} {x:Keyed} (h:l[i]? = some x):(l.drop i).take 1=[x]:=by
 obtain ⟨hi,e⟩:=List.getElem?_eq_some_iff.mp h
 rw [List.drop_eq_getElem_cons hi,List.take_succ_cons,List.take_zero,e]
section
variable {prog:Program} {w:World} {A:Around} {E:Value->Shared->Prop} {s:Shared} {κ:SortKind} {c:Keyed->Keyed->Bool} {M:Keyed->Prop} {a b:Array Keyed} {arr:Array Keyed} {p:Array (Nat×Nat×Nat)}
structure lV (M:Keyed->Prop) (c:Keyed->Keyed->Bool) (a b:Array Keyed):Prop where
 hA:∀ x y,c x y=true->c y x=false
 hT:∀ x y z,c y x=false->c z y=false->c z x=false
 ma:∀ x∈a,M x
 mb:∀ x∈b,M x
 sa:pZ c a.toList
 sb:pZ c b.toList
 la:∀ x∈a.toList.drop (a.size - 1),∀ y∈b.toList,c x y=false
noncomputable def dw (c:Keyed->Keyed->Bool) (a b out:Array Keyed) (ia ib:Nat):Prop:=MI c a.toList b.toList out.toList ia ib/\ia + 1 < a.size/\ib < b.size
noncomputable def GQ (κ:SortKind) (arr:Array Keyed) (p:Array (Nat×Nat×Nat)) (c:Keyed->Keyed->Bool) (a b:Array Keyed) (n:Nat) (r:ForInStep GS) (st:SortSt):Prop:=(∃ g,st=SortSt.mk' κ arr p g none)/\match r with
 | .done q=>(match q.1 with | some z=>Good c a.toList b.toList z | none=>dw c a b q.2.1 q.2.2.1 q.2.2.2.1/\n<=q.2.1.size)
 | .yield q=>q.1=none/\dw c a b q.2.1 q.2.2.1 q.2.2.2.1/\n<=q.2.1.size
theorem lV.ge (T:lV M c a b) {i:Nat} {x:Keyed} (h:a.toList[i]? = some x):∀ y∈a.toList.drop i,c y x=false:=by
 obtain ⟨hi,e⟩:=List.getElem?_eq_some_iff.mp h
 intro y hy
 rw [List.drop_eq_getElem_cons hi,e] at hy
 rcases List.mem_cons.mp hy with rfl | hy
 ·cases q:c y y with
  | false=>rfl
  | true=>have:=T.hA _ _ q; rw [q] at this; cases this
 ·have:=T.sa
  rw [<- List.take_append_drop i a.toList,List.drop_eq_getElem_cons hi,e] at this
  exact (List.pairwise_cons.mp (List.pairwise_append.mp this).2.1).1 y hy
theorem lV.geB (T:lV M c a b) {i:Nat} {x:Keyed} (h:b.toList[i]? = some x):∀ y∈b.toList.drop i,c y x=false:=by
 obtain ⟨hi,e⟩:=List.getElem?_eq_some_iff.mp h
 intro y hy
 rw [List.drop_eq_getElem_cons hi,e] at hy
 rcases List.mem_cons.mp hy with rfl | hy
 ·cases q:c y y with
  | false=>rfl
  | true=>have:=T.hA _ _ q; rw [q] at this; cases this
 ·have:=T.sb
  rw [<- List.take_append_drop i b.toList,List.drop_eq_getElem_cons hi,e] at this
  exact (List.pairwise_cons.mp (List.pairwise_append.mp this).2.1).1 y hy
theorem pO {out:Array Keyed} {ia ib:Nat} (h:MI c a.toList b.toList out.toList ia ib) (hi:ib=b.size∨ia=a.size):Good c a.toList b.toList (wL a b out ia ib):=by
 unfold Good wL
 rw [Array.toList_append,Array.toList_append,tK,tK]
 rcases hi with hi | hi
 ·exact h.Zy (by simpa using hi)
 ·exact h.Zx (by simpa using hi)
theorem tG (T : lV M c a b) {out : Array Keyed} {ia ib : Nat} (h : MI c a.toList b.toList out.toList ia ib) (hi : ia + 1 = a.size) : Good c a.toList b.toList (Jg a b out ia ib) := by
  unfold Good Jg
  rw [Array.toList_append, Array.toList_append, tK, tK]
  exact h.endL (by have : ia = a.size - 1 := by lia
                   rw [this]; exact T.la)
theorem Nt (T:lV M c a b) {out:Array Keyed} {ia ib mg ac bc n g:Nat} (h:dw c a b out ia ib) (hn:n<=out.size) (hx:∀ x,a.toList[ia]? = some x->∀ y∈b.toList.drop ib,c y x=false) :
  kc prog w A E s (loD a b out ia ib mg ac bc) (GQ κ arr p c a b n) (SortSt.mk' κ arr p g none):=by
 obtain ⟨m,i1,i2⟩:=h
 have hi:ia < a.size:=by lia
 have e:a[ia]? = some a[ia]:=Array.getElem?_eq_getElem hi
 have e':a.toList[ia]? = some a[ia]:=by rw [Array.getElem?_toList]; exact e
 have m2:=m.Dt (k:=1) (by rw [Array.length_toList]; lia) (fun x hx' y hy=>by rw [take_one e'] at hx'; rw [List.mem_singleton.mp hx']; exact hx _ e' y hy)
 rw [take_one e',<- Array.toList_push] at m2
 unfold loD
 refine aj (aO e ?_)
 by_cases z:ia + 1 + 1=a.size
 ·rw [if_pos (by simpa using z)]
  exact ak ⟨⟨_,rfl⟩,tG T m2 z⟩
 ·rw [if_neg (by simpa using z)]
  have lv:dw c a b (out.push a[ia]) (ia + 1) ib:=⟨m2,by lia,i2⟩
  split
  ·exact ak ⟨⟨_,rfl⟩,lv,by rw [Array.size_push]; lia⟩
  ·exact ak ⟨⟨_,rfl⟩,rfl,lv,by rw [Array.size_push]; lia⟩
theorem zE {l:List Keyed} {i:Nat} {y:Keyed} (h:y∈l.drop i):∃ j,l[i + j]? = some y/\i + j < l.length:=by
 obtain ⟨j,hj,e⟩:=List.mem_iff_getElem.mp h
 rw [List.length_drop] at hj
 exact ⟨j,by rw [<- e,List.getElem_drop]; exact List.getElem?_eq_getElem _,by lia⟩
theorem tE {l:List Keyed} {i k:Nat} {y:Keyed} (h:y∈(l.drop i).take k):∃ j,j < k/\l[i + j]? = some y:=by
 obtain ⟨j,hj,e⟩:=List.mem_iff_getElem.mp h
 rw [List.length_take,List.length_drop] at hj
 exact ⟨j,by lia,by rw [<- e,List.getElem_take,List.getElem_drop]; exact List.getElem?_eq_getElem _⟩
theorem ur {l:List Keyed} (h:pZ c l) {i j:Nat} {x y:Keyed} (hij:i < j) (hx:l[i]? = some x) (hy:l[j]? = some y):c y x=false:=by
 obtain ⟨h1,e1⟩:=List.getElem?_eq_some_iff.mp hx
 obtain ⟨h2,e2⟩:=List.getElem?_eq_some_iff.mp hy
 rw [<- e1,<- e2]
 exact List.pairwise_iff_getElem.mp h i j h1 h2 hij
theorem j5 {left:Bool} {key x:Keyed} {a:Array Keyed} {base i:Nat} (h:a.toList[base + i]? = some x):bd c left key a base i=HF c left key x:=by
 unfold bd
 rw [Array.getElem?_toList] at h
 rw [h]
theorem Ng (hT:∀ x y z,c y x=false->c z y=false->c z x=false) (sb:pZ c b.toList) (x:Keyed) (base n:Nat) (hb:base + n<=b.size):∀ i j,i < j->j < n->bd c true x b base j=true->bd c true x b base i=true:=fun i j hij hj h=>by
 have e1:b.toList[base + i]? = some b[base + i]:=by rw [Array.getElem?_toList]; exact Array.getElem?_eq_getElem _
 have e2:b.toList[base + j]? = some b[base + j]:=by rw [Array.getElem?_toList]; exact Array.getElem?_eq_getElem _
 rw [j5 e1]
 rw [j5 e2] at h
 simp only [HF,if_true] at h ⊢
 cases q:c b[base + i] x with
 | true=>rfl
 | false=>rw [hT _ _ _ q (ur sb (by lia) e1 e2)] at h; cases h
theorem Nf (hT:∀ x y z,c y x=false->c z y=false->c z x=false) (sa:pZ c a.toList) (y:Keyed) (base n:Nat) (hb:base + n<=a.size):∀ i j,i < j->j < n->bd c false y a base j=true->bd c false y a base i=true:=fun i j hij hj h=>by
 have e1:a.toList[base + i]? = some a[base + i]:=by rw [Array.getElem?_toList]; exact Array.getElem?_eq_getElem _
 have e2:a.toList[base + j]? = some a[base + j]:=by rw [Array.getElem?_toList]; exact Array.getElem?_eq_getElem _
 rw [j5 e1]
 rw [j5 e2] at h
 simp only [HF,Bool.false_eq_true,if_false,Bool.not_eq_true'] at h ⊢
 exact hT _ _ _ (ur sa (by lia) e1 e2) h
theorem tu {mg g:Nat} {Q:Unit->SortSt->Prop} (h:Q () (SortSt.mk' κ arr p mg none)):kc prog w A E s (xK mg) Q (SortSt.mk' κ arr p g none):=by
 rw [Lb]; exact nY h
theorem Nu (T:lV M c a b) (hc:qb prog w A s κ M c) {out:Array Keyed} {ia ib mg ac bc n g:Nat} (h:dw c a b out ia ib) (hn:n<=out.size) (hy:∀ y,b.toList[ib]? = some y->∀ x∈a.toList.drop ia,c x y=false) :
  kc prog w A E s (loC a b out ia ib mg ac bc) (GQ κ arr p c a b n) (SortSt.mk' κ arr p g none):=by
 obtain ⟨m,i1,i2⟩:=h
 have hi:ia < a.size:=by lia
 have eb:b[ib]? = some b[ib]:=Array.getElem?_eq_getElem i2
 have eb':b.toList[ib]? = some b[ib]:=by rw [Array.getElem?_toList]; exact eb
 have ea:a[ia]? = some a[ia]:=Array.getElem?_eq_getElem hi
 have wG:a.toList[ia]? = some a[ia]:=by rw [Array.getElem?_toList]; exact ea
 have m2:=m.Gi (k:=1) (by rw [Array.length_toList]; lia) (fun x hx' y hy'=>by rw [take_one eb'] at hx'; rw [List.mem_singleton.mp hx']; exact hy _ eb' y hy')
 rw [take_one eb',<- Array.toList_push] at m2
 unfold loC
 refine aj (aO eb ?_)
 by_cases z:ib + 1=b.size
 ·rw [if_pos (by simpa using z)]
  exact ak ⟨⟨_,rfl⟩,pO m2 (.inl z)⟩
 ·rw [if_neg (by simpa using z)]
  have i3:ib + 1 < b.size:=by lia
  refine aj (aO ea (aj (gJ hc (T.ma _ (Array.getElem_mem hi)) T.mb (by lia) (by lia) (Ng T.hT T.sb _ _ _ (by lia)) fun k hk k1 k2=>?_)))
  have after:∀ y∈b.toList.drop (ib + 1 + k),c y a[ia]=false:=fun y hy'=>by
   obtain ⟨j,e,hj⟩:=zE hy'
   rw [Array.length_toList] at hj
   have:=k2 (k + j) (by lia) (by lia)
   rw [j5 (x:=y) (by rw [<- e]; congr 1; lia)] at this
   simpa [HF] using this
  dsimp only
  by_cases k0:k > 0
  ·rw [if_pos k0]
   have m3:=m2.Gi (k:=k) (by rw [Array.length_toList]; lia) (fun z hz x hx=>by
    obtain ⟨j,hj,e⟩:=tE hz
    have:=k1 j hj
    rw [j5 e] at this
    simp only [HF,if_true] at this
    exact T.hT _ _ _ (T.hA _ _ this) (T.ge wG x hx))
   rw [<- pP,<- Array.toList_append] at m3
   by_cases z2:ib + 1 + k=b.size
   ·rw [if_pos (by simpa using z2)]
    exact ak ⟨⟨_,rfl⟩,pO m3 (.inl z2)⟩
   ·rw [if_neg (by simpa using z2)]
    refine Nt T ⟨m3,i1,by lia⟩ (by rw [Array.size_append,Array.size_push]; lia) fun x hx=>?_
    rw [wG] at hx; cases hx
    exact after
  ·rw [if_neg k0]
   obtain rfl:k=0:=by lia
   refine Nt T ⟨m2,i1,i3⟩ (by rw [Array.size_push]; lia) fun x hx=>?_
   rw [wG] at hx; cases hx
   exact after
theorem Nr (T:lV M c a b) (hc:qb prog w A s κ M c) {out:Array Keyed} {ia ib mg ac bc n g:Nat} (h:dw c a b out ia ib) (hn:n<=out.size) :
  kc prog w A E s (loG a b out ia ib mg ac bc) (GQ κ arr p c a b n) (SortSt.mk' κ arr p g none):=by
 obtain ⟨m,i1,i2⟩:=h
 have eb:b[ib]? = some b[ib]:=Array.getElem?_eq_getElem i2
 have eb':b.toList[ib]? = some b[ib]:=by rw [Array.getElem?_toList]; exact eb
 unfold loG
 refine aj (tu ?_)
 refine aj (aO eb (aj (gJ hc (T.mb _ (Array.getElem_mem i2)) T.ma (by lia) (by lia) (Nf T.hT T.sa _ _ _ (by lia)) fun k hk k1 k2=>?_)))
 have after:∀ y,b.toList[ib]? = some y->∀ x∈a.toList.drop (ia + k),c x y=false:=fun y hy x hx=>by
  rw [eb'] at hy; cases hy
  obtain ⟨j,e,hj⟩:=zE hx
  rw [Array.length_toList] at hj
  have:=k2 (k + j) (by lia) (by lia)
  rw [j5 (x:=x) (by rw [<- e]; congr 1; lia)] at this
  simp only [HF,Bool.false_eq_true,if_false,Bool.not_eq_false'] at this
  exact T.hA _ _ this
 dsimp only
 by_cases k0:k > 0
 ·rw [if_pos k0]
  have m2:=m.Dt (k:=k) (by rw [Array.length_toList]; lia) (fun x hx y hy=>by
   obtain ⟨j,hj,e⟩:=tE hx
   have:=k1 j hj
   rw [j5 e] at this
   simp only [HF,Bool.false_eq_true,if_false,Bool.not_eq_true'] at this
   exact T.hT _ _ _ this (T.geB eb' y hy))
  rw [<- pP,<- Array.toList_append] at m2
  by_cases z:ia + k + 1=a.size
  ·rw [if_pos (by simpa using z)]
   exact ak ⟨⟨_,rfl⟩,tG T m2 z⟩
  ·rw [if_neg (by simpa using z)]
   by_cases z2:ia + k=a.size
   ·rw [if_pos (by simpa using z2)]
    exact ak ⟨⟨_,rfl⟩,pO m2 (.inr z2)⟩
   ·rw [if_neg (by simpa using z2)]
    exact Nu T hc ⟨m2,by lia,i2⟩ (by rw [Array.size_append]; lia) after
 ·rw [if_neg k0]
  obtain rfl:k=0:=by lia
  exact Nu T hc ⟨m,i1,i2⟩ hn after
noncomputable def PQ (κ:SortKind) (arr:Array Keyed) (p:Array (Nat×Nat×Nat)) (c:Keyed->Keyed->Bool) (a b:Array Keyed) (n m:Nat) (r:ForInStep PS) (st:SortSt):Prop:=(∃ g,st=SortSt.mk' κ arr p g none)/\match r with
 | .done q=>(match q.1 with | some z=>Good c a.toList b.toList z | none=>dw c a b q.2.1 q.2.2.1 q.2.2.2.1/\n<=q.2.1.size)
 | .yield q=>q.1=none/\dw c a b q.2.1 q.2.2.1 q.2.2.2.1/\m<=q.2.1.size
theorem Wj (T:lV M c a b) (hc:qb prog w A s κ M c) {out:Array Keyed} {ia ib mg ac bc n m g:Nat} (h:dw c a b out ia ib) (hn:n<=out.size + 1) (hm:m<=out.size + 1) :
  kc prog w A E s (loP a b mg (none,out,ia,ib,ac,bc)) (PQ κ arr p c a b n m) (SortSt.mk' κ arr p g none):=by
 obtain ⟨mi,i1,i2⟩:=h
 have hi:ia < a.size:=by lia
 have eb:b[ib]? = some b[ib]:=Array.getElem?_eq_getElem i2
 have eb':b.toList[ib]? = some b[ib]:=by rw [Array.getElem?_toList]; exact eb
 have ea:a[ia]? = some a[ia]:=Array.getElem?_eq_getElem hi
 have wG:a.toList[ia]? = some a[ia]:=by rw [Array.getElem?_toList]; exact ea
 unfold loP
 refine aj (aO eb (aj (aO ea (aj (Cv hc (T.mb _ (Array.getElem_mem i2)) (T.ma _ (Array.getElem_mem hi)) ?_)))))
 dsimp only
 cases q:c b[ib] a[ia] with
 | true =>
  rw [if_pos rfl]
  have m2:=mi.Gi (k:=1) (by rw [Array.length_toList]; lia) (fun x hx' y hy'=>by rw [take_one eb'] at hx'; rw [List.mem_singleton.mp hx']; exact T.hT _ _ _ (T.hA _ _ q) (T.ge wG y hy'))
  rw [take_one eb',<- Array.toList_push] at m2
  refine aj (aO eb ?_)
  by_cases z:ib + 1=b.size
  ·rw [if_pos (by simpa using z)]
   exact ak ⟨⟨_,rfl⟩,pO m2 (.inl z)⟩
  ·rw [if_neg (by simpa using z)]
   have lv:dw c a b (out.push b[ib]) ia (ib + 1):=⟨m2,i1,by lia⟩
   split
   ·exact ak ⟨⟨_,rfl⟩,lv,by rw [Array.size_push]; lia⟩
   ·exact ak ⟨⟨_,rfl⟩,rfl,lv,by rw [Array.size_push]; lia⟩
 | false =>
  rw [if_neg Bool.false_ne_true]
  have m2:=mi.Dt (k:=1) (by rw [Array.length_toList]; lia) (fun x hx' y hy'=>by rw [take_one wG] at hx'; rw [List.mem_singleton.mp hx']; exact T.hT _ _ _ q (T.geB eb' y hy'))
  rw [take_one wG,<- Array.toList_push] at m2
  refine aj (aO ea ?_)
  by_cases z:ia + 1 + 1=a.size
  ·rw [if_pos (by simpa using z)]
   exact ak ⟨⟨_,rfl⟩,tG T m2 z⟩
  ·rw [if_neg (by simpa using z)]
   have lv:dw c a b (out.push a[ia]) (ia + 1) ib:=⟨m2,by lia,i2⟩
   split
   ·exact ak ⟨⟨_,rfl⟩,lv,by rw [Array.size_push]; lia⟩
   ·exact ak ⟨⟨_,rfl⟩,rfl,lv,by rw [Array.size_push]; lia⟩
theorem Wk (T:lV M c a b) (hc:qb prog w A s κ M c) {out:Array Keyed} {ia ib mg g:Nat} (h:dw c a b out ia ib) :
  kc prog w A E s (loO a b (none,out,ia,ib,mg)) (fun r st=>(∃ g,st=SortSt.mk' κ arr p g none)/\match r with
   | .done q=>(match q.1 with | some z=>Good c a.toList b.toList z | none=>False)
   | .yield q=>q.1=none/\dw c a b q.2.1 q.2.2.1 q.2.2.2.1/\out.size + 1<=q.2.1.size) (SortSt.mk' κ arr p g none):=by
 unfold loO
 have hpos:1<=a.size + b.size:=by have:=h.2.2; lia
 refine aj (aF (cH (Q:=fun q st=>(∃ g,st=SortSt.mk' κ arr p g none)/\match q.1 with | some z=>Good c a.toList b.toList z | none=>dw c a b q.2.1 q.2.2.1 q.2.2.2.1/\out.size + 1<=q.2.1.size)
  (fun k q st=>(∃ g,st=SortSt.mk' κ arr p g none)/\q.1=none/\dw c a b q.2.1 q.2.2.1 q.2.2.2.1/\out.size<=q.2.1.size/\out.size + (a.size + b.size)<=q.2.1.size + k) ?_ ?_ _ _ ⟨⟨g,rfl⟩,rfl,h,Nat.le_refl _,Nat.le_refl _⟩) fun q st hq=>?_)
 ·rintro k x ⟨o,out',ia',ib',ac,bc⟩ st ⟨⟨g',rfl⟩,rfl,lv,l1,l2⟩
  simp only at lv l1 l2
  refine aF (Wj T hc (n:=out.size + 1) (m:=out'.size + 1) lv (by lia) (Nat.le_refl _)) fun r st' hr=>?_
  obtain ⟨hg,hr⟩:=hr
  cases r with
  | done q=>exact ⟨hg,hr⟩
  | yield q=>exact ⟨hg,hr.1,hr.2.1,by have:=hr.2.2; lia,by have:=hr.2.2; lia⟩
 ·rintro ⟨o,out',ia',ib',ac,bc⟩ st ⟨hg,rfl,lv,l1,l2⟩
  exact ⟨hg,lv,by simp only at l2 ⊢; lia⟩
 ·obtain ⟨o,out',ia',ib',ac,bc⟩:=q
  obtain ⟨⟨g',rfl⟩,hq⟩:=hq
  cases o with
  | some z=>exact ak ⟨⟨_,rfl⟩,hq⟩
  | none =>
   obtain ⟨lv,l1⟩:=hq
   simp only at lv l1
   refine aj (mG ?_)
   refine aj (aF (cH (Q:=fun q st=>(∃ g,st=SortSt.mk' κ arr p g none)/\match q.1 with | some z=>Good c a.toList b.toList z | none=>dw c a b q.2.1 q.2.2.1 q.2.2.2.1/\out.size + 1<=q.2.1.size)
    (fun k q st=>(∃ g,st=SortSt.mk' κ arr p g none)/\q.1=none/\dw c a b q.2.1 q.2.2.1 q.2.2.2.1/\out.size + 1<=q.2.1.size) ?_ ?_ _ _ ⟨⟨g',rfl⟩,rfl,lv,l1⟩) fun q st hq=>?_)
   ·rintro k x ⟨o,Mw,ia2,ib2,Y8,ZQ,ZM⟩ st ⟨⟨g2,rfl⟩,rfl,Qk,l2⟩
    simp only at Qk l2
    dsimp only
    split
    ·refine aF (Nr T hc (n:=out.size + 1) Qk l2) fun r st' hr=>?_
     obtain ⟨hg,hr⟩:=hr
     cases r with
     | done q=>exact ⟨hg,hr⟩
     | yield q=>exact ⟨hg,hr⟩
    ·refine aF (Nr T hc (n:=out.size + 1) Qk l2) fun r st' hr=>?_
     obtain ⟨hg,hr⟩:=hr
     cases r with
     | done q=>exact ⟨hg,hr⟩
     | yield q=>exact ⟨hg,hr⟩
   ·rintro ⟨o,Mw,ia2,ib2,Y8,ZQ,ZM⟩ st ⟨hg,rfl,Qk,l2⟩
    exact ⟨hg,Qk,l2⟩
   ·obtain ⟨o,Mw,ia2,ib2,Y8,ZQ,ZM⟩:=q
    obtain ⟨⟨g2,rfl⟩,hq⟩:=hq
    cases o with
    | some z=>exact ak ⟨⟨_,rfl⟩,hq⟩
    | none=>exact aj (tu (ak ⟨⟨_,rfl⟩,rfl,hq.1,hq.2⟩))
theorem Zb (T:lV M c a b) (hc:qb prog w A s κ M c) {g:Nat} (ha:1<=a.size) (hb:1<=b.size) (h0:∀ x y,a.toList[0]? = some x->b.toList[0]? = some y->c y x=true) :
  kc prog w A E s (uX a b) (fun r st=>(∃ g,st=SortSt.mk' κ arr p g none)/\Good c a.toList b.toList r) (SortSt.mk' κ arr p g none):=by
 rw [Ci]
 unfold lo
 have eb:b[0]? = some b[0]:=Array.getElem?_eq_getElem hb
 have eb':b.toList[0]? = some b[0]:=by rw [Array.getElem?_toList]; exact eb
 have wG:a.toList[0]? = some a[0]:=by rw [Array.getElem?_toList]; exact Array.getElem?_eq_getElem ha
 have m0:MI c a.toList b.toList [] 0 0:=⟨by simpa using T.sa,by simpa using T.sb,by simp,Nat.zero_le _,Nat.zero_le _,rfl⟩
 have m1:=m0.Gi (k:=1) (by rw [Array.length_toList]; lia) (fun x hx' y hy'=>by rw [take_one eb'] at hx'; rw [List.mem_singleton.mp hx']; exact T.hT _ _ _ (T.hA _ _ (h0 _ _ wG eb')) (T.ge wG y hy'))
 rw [take_one eb',List.nil_append] at m1
 have m1:MI c a.toList b.toList (#[b[0]]:Array Keyed).toList 0 1:=m1
 refine aj (mG (aj (aO eb ?_)))
 by_cases z:1=b.size
 ·rw [if_pos (by simpa using z)]
  exact ak ⟨⟨_,rfl⟩,pO m1 (.inl z)⟩
 ·rw [if_neg (by simpa using z)]
  by_cases z2:0 + 1=a.size
  ·rw [if_pos (by simpa using z2)]
   exact ak ⟨⟨_,rfl⟩,tG T m1 z2⟩
  ·rw [if_neg (by simpa using z2)]
   refine aj (jJ ?_)
   refine aj (aF (cH (Q:=fun q st=>(∃ g,st=SortSt.mk' κ arr p g none)/\match q.1 with | some z=>Good c a.toList b.toList z | none=>False)
    (fun k q st=>(∃ g,st=SortSt.mk' κ arr p g none)/\q.1=none/\dw c a b q.2.1 q.2.2.1 q.2.2.2.1/\1 + (a.size + b.size)<=q.2.1.size + k) ?_ ?_ _ _ ⟨⟨g,rfl⟩,rfl,⟨m1,by show 0 + 1 < a.size; lia,by show 1 < b.size; lia⟩,Nat.le_refl _⟩) fun q st hq=>?_)
   ·rintro k x ⟨o,out,ia,ib,mg⟩ st ⟨⟨g2,rfl⟩,rfl,lv,l1⟩
    simp only at lv l1
    refine aF (Wk T hc lv) fun r st' hr=>?_
    obtain ⟨hg,hr⟩:=hr
    cases r with
    | done q=>exact ⟨hg,hr⟩
    | yield q=>exact ⟨hg,hr.1,hr.2.1,by have:=hr.2.2; lia⟩
   ·rintro ⟨o,out,ia,ib,mg⟩ st ⟨hg,rfl,lv,l1⟩
    simp only at lv l1
    have:=lv.1.sz
    rw [Array.length_toList] at this
    have:=lv.2.1
    have:=lv.2.2
    lia
   ·obtain ⟨o,out,ia,ib,mg⟩:=q
    obtain ⟨hg,hq⟩:=hq
    cases o with
    | some z=>exact ak ⟨hg,hq⟩
    | none=>exact hq.elim
end
end DW.TS
end
section
set_option maxHeartbeats 4000000
namespace DW.TS
open PySem PySem.W PySem.Calls PyProof.Rows
noncomputable abbrev GH:=Option (Array Keyed)×Nat×Nat×Array Keyed×Nat×Nat×Nat
noncomputable abbrev PH:=Option (Array Keyed)×Nat×Nat×Array Keyed×Nat×Nat
noncomputable abbrev OH:=Option (Array Keyed)×Nat×Nat×Array Keyed×Nat
section
variable (a b:Array Keyed)
noncomputable def wR (out:Array Keyed) (na nb:Nat):Array Keyed:=a.extract 0 na ++ b.extract 0 nb ++ out.reverse
noncomputable def Jw (out:Array Keyed) (na nb:Nat):Array Keyed:=b.extract 0 nb ++ a.extract 0 na ++ out.reverse
noncomputable def hiD (out:Array Keyed) (na nb mg ac bc:Nat):StateT SortSt Sem (ForInStep GH):=do
 let x <- elem' a (na - 1)
 if (na - 1 == 0)=true then pure (.done (some (wR a b (out.push x) (na - 1) nb),na - 1,nb,out.push x,mg,ac,bc))
 else if (decide (ac < 7) && decide (bc < 7))=true then pure (.done (none,na - 1,nb,out.push x,mg,ac,bc)) else pure (.yield (none,na - 1,nb,out.push x,mg,ac,bc))
noncomputable def hiC (out:Array Keyed) (na nb mg ac bc:Nat):StateT SortSt Sem (ForInStep GH):=do
 let y <- elem' b (nb - 1)
 if (nb - 1 == 1)=true then pure (.done (some (Jw a b (out.push y) na (nb - 1)),na,nb - 1,out.push y,mg,ac,bc))
 else do
  let x <- elem' a (na - 1)
  let k <- iQ true x b 0 (nb - 1) (nb - 1 - 1)
  match k with
  | some k=>if nb - 1 - k > 0 then (if (k == 1)=true then pure (.done (some (Jw a b (out.push y ++ (b.extract k (nb - 1)).reverse) na k),na,k,out.push y ++ (b.extract k (nb - 1)).reverse,mg,ac,nb - 1 - k)) else if (k == 0)=true then pure (.done (some (wR a b (out.push y ++ (b.extract k (nb - 1)).reverse) na k),na,k,out.push y ++ (b.extract k (nb - 1)).reverse,mg,ac,nb - 1 - k)) else hiD a b (out.push y ++ (b.extract k (nb - 1)).reverse) na k mg ac (nb - 1 - k)) else hiD a b (out.push y) na (nb - 1) mg ac (nb - 1 - k)
  | _=>pure (.done (some (wR a b (out.push y) na (nb - 1)),na,nb - 1,out.push y,mg,ac,bc))
noncomputable def hiG (out:Array Keyed) (na nb mg ac bc:Nat):StateT SortSt Sem (ForInStep GH):=do
 xK mg
 let y <- elem' b (nb - 1)
 let k <- iQ false y a 0 na (na - 1)
 match k with
 | some k=>if na - k > 0 then (if (k == 0)=true then pure (.done (some (wR a b (out ++ (a.extract k na).reverse) k nb),k,nb,out ++ (a.extract k na).reverse,mg,na - k,bc)) else hiC a b (out ++ (a.extract k na).reverse) k nb mg (na - k) bc) else hiC a b out na nb mg (na - k) bc
 | _=>pure (.done (some (wR a b out na nb),na,nb,out,mg,ac,bc))
noncomputable def hiP (mg:Nat) (r:PH):StateT SortSt Sem (ForInStep PH):=do
 let y <- elem' b (r.2.2.1 - 1)
 let x <- elem' a (r.2.1 - 1)
 let z <- lt' y x
 match z with
 | some aWins =>
  if aWins=true then do
   let x <- elem' a (r.2.1 - 1)
   if (r.2.1 - 1 == 0)=true then pure (.done (some (wR a b (r.2.2.2.1.push x) (r.2.1 - 1) r.2.2.1),r.2.1 - 1,r.2.2.1,r.2.2.2.1.push x,r.2.2.2.2.1 + 1,0))
   else if r.2.2.2.2.1 + 1 ≥ mg then pure (.done (none,r.2.1 - 1,r.2.2.1,r.2.2.2.1.push x,r.2.2.2.2.1 + 1,0)) else pure (.yield (none,r.2.1 - 1,r.2.2.1,r.2.2.2.1.push x,r.2.2.2.2.1 + 1,0))
  else do
   let y <- elem' b (r.2.2.1 - 1)
   if (r.2.2.1 - 1 == 1)=true then pure (.done (some (Jw a b (r.2.2.2.1.push y) r.2.1 (r.2.2.1 - 1)),r.2.1,r.2.2.1 - 1,r.2.2.2.1.push y,0,r.2.2.2.2.2 + 1))
   else if r.2.2.2.2.2 + 1 ≥ mg then pure (.done (none,r.2.1,r.2.2.1 - 1,r.2.2.2.1.push y,0,r.2.2.2.2.2 + 1)) else pure (.yield (none,r.2.1,r.2.2.1 - 1,r.2.2.2.1.push y,0,r.2.2.2.2.2 + 1))
 | _=>pure (.done (some (wR a b r.2.2.2.1 r.2.1 r.2.2.1),r.2.1,r.2.2.1,r.2.2.2.1,r.2.2.2.2.1,r.2.2.2.2.2))
noncomputable def hiO (r:OH):StateT SortSt Sem (ForInStep OH):=do
 let q <- forIn [0:a.size + b.size] ((none,r.2.1,r.2.2.1,r.2.2.2.1,0,0):PH) fun _ q=>hiP a b r.2.2.2.2 q
 match q.1 with
 | some z=>pure (.done (some z,q.2.1,q.2.2.1,q.2.2.2.1,r.2.2.2.2))
 | none=>do
  liftM (rule "list.sort.gallop")
  let t <- forIn [0:a.size + b.size] ((none,q.2.1,q.2.2.1,q.2.2.2.1,r.2.2.2.2 + 1,q.2.2.2.2.1,q.2.2.2.2.2):GH) fun _ t =>
   if t.2.2.2.2.1 > 1 then hiG a b t.2.2.2.1 t.2.1 t.2.2.1 (t.2.2.2.2.1 - 1) t.2.2.2.2.2.1 t.2.2.2.2.2.2 else hiG a b t.2.2.2.1 t.2.1 t.2.2.1 t.2.2.2.2.1 t.2.2.2.2.2.1 t.2.2.2.2.2.2
  match t.1 with
  | some z=>pure (.done (some z,t.2.1,t.2.2.1,t.2.2.2.1,t.2.2.2.2.1))
  | none=>do
   xK (t.2.2.2.2.1 + 1)
   pure (.yield (none,t.2.1,t.2.2.1,t.2.2.2.1,t.2.2.2.2.1 + 1))
noncomputable def hi:StateT SortSt Sem (Array Keyed):=do
 liftM (rule "list.sort.merge-hi")
 let x <- elem' a (a.size - 1)
 if (a.size - 1 == 0)=true then pure (wR a b #[x] (a.size - 1) b.size)
 else if (b.size == 1)=true then pure (Jw a b #[x] (a.size - 1) b.size)
 else do
  let s <- get
  let r <- forIn [0:a.size + b.size] ((none,a.size - 1,b.size,#[x],gallopOf s):OH) fun _ r=>hiO a b r
  match r.1 with
  | some z=>pure z
  | none=>liftM (unsupported "internal:list.sort.merge-bound" : Sem (Array Keyed))
end
theorem Cj (a b:Array Keyed):uY a b=hi a b:=by kernel_rfl
noncomputable abbrev rv (c:Keyed->Keyed->Bool):Keyed->Keyed->Bool:=fun x y=>c y x
theorem q9 {l:List Keyed} {n:Nat} (h:n<=l.length):l.reverse.drop (l.length - n)=(l.take n).reverse:=by
 rw [List.drop_reverse]; congr 2; lia
theorem MI.ZP {c:Keyed->Keyed->Bool} {la lb out:List Keyed} {na ib k:Nat} (h:MI (rv c) la.reverse lb out (la.length - na) ib) (hn:na<=la.length) (hk:k<=na) (hx:∀ x∈(la.take na).drop k,∀ y∈lb.drop ib,c x y=false):MI (rv c) la.reverse lb (out ++ ((la.take na).drop k).reverse) (la.length - k) ib:=by
 have e:(la.reverse.drop (la.length - na)).take (na - k)=((la.take na).drop k).reverse:=by
  rw [q9 hn,List.take_reverse]
  congr 2
  rw [List.length_take]; lia
 have:=h.Dt (k:=na - k) (by rw [List.length_reverse]; lia) (fun x hx' y hy=>by rw [e,List.mem_reverse] at hx'; exact hx x hx' y hy)
 rw [e] at this
 rw [show la.length - k=la.length - na + (na - k) by lia]
 exact this
theorem Bv {c:Keyed->Keyed->Bool} {la lb l:List Keyed} (h:pZ (rv c) l.reverse/\l.reverse.Perm (la.reverse ++ lb.reverse)):pZ c l/\l.Perm (la ++ lb) :=
 ⟨List.pairwise_reverse.mp h.1,((List.reverse_perm l).symm.trans h.2).trans ((List.reverse_perm la).append (List.reverse_perm lb))⟩
theorem zL (a:Array Keyed) (n:Nat):(a.extract 0 n).toList=a.toList.take n:=by
 rw [Array.toList_extract,List.extract_eq_drop_take]; simp
theorem zM (a:Array Keyed) (k n:Nat):(a.extract k n).reverse.toList=((a.toList.take n).drop k).reverse:=by
 rw [Array.toList_reverse,Array.toList_extract,List.extract_eq_drop_take,List.drop_take]
theorem mK {l:List Keyed} {n:Nat} {x:Keyed} (hn:1<=n) (h:l[n - 1]? = some x):(l.take n).drop (n - 1)=[x]:=by
 obtain ⟨hi,e⟩:=List.getElem?_eq_some_iff.mp h
 rw [List.drop_take,show n - (n - 1)=1 by lia]
 exact take_one h
theorem su {l:List Keyed} {n:Nat} {y:Keyed} (h:y∈l.take n):∃ j,j < n/\l[j]? = some y:=by
 obtain ⟨j,hj,e⟩:=List.mem_iff_getElem.mp h
 rw [List.length_take] at hj
 exact ⟨j,by lia,by rw [<- e,List.getElem_take]; exact List.getElem?_eq_getElem _⟩
theorem Nh {l:List Keyed} {k n:Nat} {y:Keyed} (h:y∈(l.take n).drop k):∃ j,k<=j/\j < n/\l[j]? = some y:=by
 rw [List.drop_take] at h
 obtain ⟨j,hj,e⟩:=tE h
 exact ⟨k + j,by lia,by lia,e⟩
section
variable {prog:Program} {w:World} {A:Around} {E:Value->Shared->Prop} {s:Shared} {κ:SortKind} {c:Keyed->Keyed->Bool} {M:Keyed->Prop} {a b:Array Keyed} {arr:Array Keyed} {p:Array (Nat×Nat×Nat)}
structure wB (M:Keyed->Prop) (c:Keyed->Keyed->Bool) (a b:Array Keyed):Prop where
 hA:∀ x y,c x y=true->c y x=false
 hT:∀ x y z,c y x=false->c z y=false->c z x=false
 ma:∀ x∈a,M x
 mb:∀ x∈b,M x
 sa:pZ c a.toList
 sb:pZ c b.toList
 fb:∀ x∈a.toList,∀ y∈b.toList.take 1,c x y=false
noncomputable def MR (c:Keyed->Keyed->Bool) (a b out:Array Keyed) (na nb:Nat):Prop:=MI (rv c) a.toList.reverse b.toList.reverse out.toList (a.toList.length - na) (b.toList.length - nb)/\na<=a.toList.length/\nb<=b.toList.length
theorem MR.Dt {out:Array Keyed} {na nb k:Nat} (h:MR c a b out na nb) (hk:k<=na) (hx:∀ x∈(a.toList.take na).drop k,∀ y∈b.toList.take nb,c x y=false):MR c a b (out ++ (a.extract k na).reverse) k nb:=by
 obtain ⟨m,h1,h2⟩:=h
 refine ⟨?_,by lia,h2⟩
 rw [Array.toList_append,zM]
 exact m.ZP h1 hk fun x hx' y hy=>hx x hx' y (by rw [q9 h2,List.mem_reverse] at hy; exact hy)
theorem MR.Gi {out:Array Keyed} {na nb k:Nat} (h:MR c a b out na nb) (hk:k<=nb) (hx:∀ x∈(b.toList.take nb).drop k,∀ y∈a.toList.take na,c x y=false):MR c a b (out ++ (b.extract k nb).reverse) na k:=by
 obtain ⟨m,h1,h2⟩:=h
 refine ⟨?_,h1,by lia⟩
 rw [Array.toList_append,zM]
 exact (m.swap.ZP h2 hk fun x hx' y hy=>hx x hx' y (by rw [q9 h1,List.mem_reverse] at hy; exact hy)).swap
theorem MR.Lg {out:Array Keyed} {na nb:Nat} {x:Keyed} (h:MR c a b out na nb) (hk:1<=na) (e:a.toList[na - 1]? = some x) (hx:∀ y∈b.toList.take nb,c x y=false):MR c a b (out.push x) (na - 1) nb:=by
 have:=h.Dt (k:=na - 1) (by lia) (fun z hz y hy=>by rw [mK hk e] at hz; rw [List.mem_singleton.mp hz]; exact hx y hy)
 unfold MR at this ⊢
 rw [Array.toList_append,zM,mK hk e] at this
 rw [Array.toList_push]
 exact this
theorem MR.Ua {out:Array Keyed} {na nb:Nat} {x:Keyed} (h:MR c a b out na nb) (hk:1<=nb) (e:b.toList[nb - 1]? = some x) (hx:∀ y∈a.toList.take na,c x y=false):MR c a b (out.push x) na (nb - 1):=by
 have:=h.Gi (k:=nb - 1) (by lia) (fun z hz y hy=>by rw [mK hk e] at hz; rw [List.mem_singleton.mp hz]; exact hx y hy)
 unfold MR at this ⊢
 rw [Array.toList_append,zM,mK hk e] at this
 rw [Array.toList_push]
 exact this
theorem pN {out:Array Keyed} {na nb:Nat} (h:MR c a b out na nb) (hi:na=0∨nb=0):Good c a.toList b.toList (wR a b out na nb):=by
 obtain ⟨m,h1,h2⟩:=h
 unfold Good wR
 rw [Array.toList_append,Array.toList_append,zL,zL,Array.toList_reverse]
 refine Bv ?_
 rw [List.reverse_append,List.reverse_append,List.reverse_reverse,<- q9 h1,<- q9 h2,<- List.append_assoc]
 have key:∀ {q:pZ (rv c) (out.toList ++ b.toList.reverse.drop (b.toList.length - nb) ++ a.toList.reverse.drop (a.toList.length - na))/\(out.toList ++ b.toList.reverse.drop (b.toList.length - nb) ++ a.toList.reverse.drop (a.toList.length - na)).Perm (b.toList.reverse ++ a.toList.reverse)},pZ (rv c) (out.toList ++ b.toList.reverse.drop (b.toList.length - nb) ++ a.toList.reverse.drop (a.toList.length - na))/\(out.toList ++ b.toList.reverse.drop (b.toList.length - nb) ++ a.toList.reverse.drop (a.toList.length - na)).Perm (a.toList.reverse ++ b.toList.reverse):=fun {q}=>⟨q.1,q.2.trans List.perm_append_comm⟩
 rcases hi with hi | hi
 ·exact key (q:=m.swap.Zy (by rw [hi,List.length_reverse]; lia))
 ·exact key (q:=m.swap.Zx (by rw [hi,List.length_reverse]; lia))
theorem tH (T:wB M c a b) {out:Array Keyed} {na nb:Nat} (h:MR c a b out na nb) (hi:nb=1):Good c a.toList b.toList (Jw a b out na nb):=by
 obtain ⟨m,h1,h2⟩:=h
 unfold Good Jw
 rw [Array.toList_append,Array.toList_append,zL,zL,Array.toList_reverse]
 refine Bv ?_
 rw [List.reverse_append,List.reverse_append,List.reverse_reverse,<- q9 h1,<- q9 h2,<- List.append_assoc]
 have q:=m.swap.endL (fun x hx y hy=>by
  rw [q9 h2,List.mem_reverse,hi] at hx
  exact T.fb y (by simpa using hy) x hx)
 exact ⟨q.1,q.2.trans List.perm_append_comm⟩
theorem le_last {l:List Keyed} (hA:∀ x y,c x y=true->c y x=false) (h:pZ c l) {n:Nat} {x:Keyed} (e:l[n - 1]? = some x):∀ y∈l.take n,c x y=false:=fun y hy=>by
 obtain ⟨j,hj,ej⟩:=su hy
 by_cases z:j=n - 1
 ·rw [z,e] at ej; cases ej
  cases q:c x x with
  | false=>rfl
  | true=>have:=hA _ _ q; rw [q] at this; cases this
 ·exact ur h (by lia) ej e
noncomputable def fG (c:Keyed->Keyed->Bool) (a b out:Array Keyed) (na nb:Nat):Prop:=MR c a b out na nb/\1<=na/\2<=nb
theorem MR.sz {out:Array Keyed} {na nb:Nat} (h:MR c a b out na nb):out.size + na + nb=a.size + b.size:=by
 have:=h.1.sz
 have h1:=h.2.1
 have h2:=h.2.2
 rw [Array.length_toList] at this h1 h2
 rw [Array.length_toList,Array.length_toList] at this
 lia
noncomputable def HQ (κ:SortKind) (arr:Array Keyed) (p:Array (Nat×Nat×Nat)) (c:Keyed->Keyed->Bool) (a b:Array Keyed) (n:Nat) (r:ForInStep GH) (st:SortSt):Prop:=(∃ g,st=SortSt.mk' κ arr p g none)/\match r with
 | .done q=>(match q.1 with | some z=>Good c a.toList b.toList z | none=>fG c a b q.2.2.2.1 q.2.1 q.2.2.1/\n<=q.2.2.2.1.size)
 | .yield q=>q.1=none/\fG c a b q.2.2.2.1 q.2.1 q.2.2.1/\n<=q.2.2.2.1.size
theorem Oj (T:wB M c a b) {out:Array Keyed} {na nb mg ac bc n g:Nat} (h:fG c a b out na nb) (hn:n<=out.size) (hx:∀ x,a.toList[na - 1]? = some x->∀ y∈b.toList.take nb,c x y=false) :
  kc prog w A E s (hiD a b out na nb mg ac bc) (HQ κ arr p c a b n) (SortSt.mk' κ arr p g none):=by
 obtain ⟨m,i1,i2⟩:=h
 have hi:na - 1 < a.size:=by have:=m.2.1; rw [Array.length_toList] at this; lia
 have e:a[na - 1]? = some a[na - 1]:=Array.getElem?_eq_getElem hi
 have e':a.toList[na - 1]? = some a[na - 1]:=by rw [Array.getElem?_toList]; exact e
 have m2:=m.Lg i1 e' (hx _ e')
 unfold hiD
 refine aj (aO e ?_)
 by_cases z:na - 1=0
 ·rw [if_pos (by simpa using z)]
  exact ak ⟨⟨_,rfl⟩,pN m2 (.inl z)⟩
 ·rw [if_neg (by simpa using z)]
  have lv:fG c a b (out.push a[na - 1]) (na - 1) nb:=⟨m2,by lia,i2⟩
  split
  ·exact ak ⟨⟨_,rfl⟩,lv,by rw [Array.size_push]; lia⟩
  ·exact ak ⟨⟨_,rfl⟩,rfl,lv,by rw [Array.size_push]; lia⟩
theorem Ol (T:wB M c a b) (hc:qb prog w A s κ M c) {out:Array Keyed} {na nb mg ac bc n g:Nat} (h:fG c a b out na nb) (hn:n<=out.size) (hy:∀ y,b.toList[nb - 1]? = some y->∀ x∈a.toList.take na,c y x=false) :
  kc prog w A E s (hiC a b out na nb mg ac bc) (HQ κ arr p c a b n) (SortSt.mk' κ arr p g none):=by
 obtain ⟨m,i1,i2⟩:=h
 have ha:na - 1 < a.size:=by have:=m.2.1; rw [Array.length_toList] at this; lia
 have hb:nb - 1 < b.size:=by have:=m.2.2; rw [Array.length_toList] at this; lia
 have eb:b[nb - 1]? = some b[nb - 1]:=Array.getElem?_eq_getElem hb
 have eb':b.toList[nb - 1]? = some b[nb - 1]:=by rw [Array.getElem?_toList]; exact eb
 have ea:a[na - 1]? = some a[na - 1]:=Array.getElem?_eq_getElem ha
 have wG:a.toList[na - 1]? = some a[na - 1]:=by rw [Array.getElem?_toList]; exact ea
 have m2:=m.Ua (by lia) eb' (hy _ eb')
 unfold hiC
 refine aj (aO eb ?_)
 by_cases z:nb - 1=1
 ·rw [if_pos (by simpa using z)]
  exact ak ⟨⟨_,rfl⟩,tH T m2 z⟩
 ·rw [if_neg (by simpa using z)]
  refine aj (aO ea (aj (gJ hc (T.ma _ (Array.getElem_mem ha)) T.mb (by lia) (by lia) (Ng T.hT T.sb _ _ _ (by lia)) fun k hk k1 k2=>?_)))
  have below:∀ y∈b.toList.take k,c a[na - 1] y=false:=fun y hy'=>by
   obtain ⟨j,hj,e⟩:=su hy'
   have:=k1 j hj
   rw [j5 (x:=y) (by rw [Nat.zero_add]; exact e)] at this
   simp only [HF,if_true] at this
   exact T.hA _ _ this
  dsimp only
  by_cases k0:nb - 1 - k > 0
  ·rw [if_pos k0]
   have m3:=m2.Gi (k:=k) hk (fun z hz x hx=>by
    obtain ⟨j,h1,h2,e⟩:=Nh hz
    have:=k2 j h1 h2
    rw [j5 (x:=z) (by rw [Nat.zero_add]; exact e)] at this
    simp only [HF,if_true] at this
    exact T.hT _ _ _ (le_last T.hA T.sa wG x hx) this)
   by_cases z2:k=1
   ·rw [if_pos (by simpa using z2)]
    exact ak ⟨⟨_,rfl⟩,tH T m3 z2⟩
   ·rw [if_neg (by simpa using z2)]
    by_cases z3:k=0
    ·rw [if_pos (by simpa using z3)]
     exact ak ⟨⟨_,rfl⟩,pN m3 (.inr z3)⟩
    ·rw [if_neg (by simpa using z3)]
     refine Oj T ⟨m3,i1,by lia⟩ (by rw [Array.size_append,Array.size_push]; lia) fun x hx=>?_
     rw [wG] at hx; cases hx
     exact below
  ·rw [if_neg k0]
   obtain rfl:k=nb - 1:=by lia
   refine Oj T ⟨m2,i1,by lia⟩ (by rw [Array.size_push]; lia) fun x hx=>?_
   rw [wG] at hx; cases hx
   exact below
theorem W5 (T:wB M c a b) (hc:qb prog w A s κ M c) {out:Array Keyed} {na nb mg ac bc n g:Nat} (h:fG c a b out na nb) (hn:n<=out.size) :
  kc prog w A E s (hiG a b out na nb mg ac bc) (HQ κ arr p c a b n) (SortSt.mk' κ arr p g none):=by
 obtain ⟨m,i1,i2⟩:=h
 have ha:na<=a.size:=by have:=m.2.1; rw [Array.length_toList] at this; lia
 have hb:nb - 1 < b.size:=by have:=m.2.2; rw [Array.length_toList] at this; lia
 have eb:b[nb - 1]? = some b[nb - 1]:=Array.getElem?_eq_getElem hb
 have eb':b.toList[nb - 1]? = some b[nb - 1]:=by rw [Array.getElem?_toList]; exact eb
 unfold hiG
 refine aj (tu ?_)
 refine aj (aO eb (aj (gJ hc (T.mb _ (Array.getElem_mem hb)) T.ma (by lia) (by lia) (Nf T.hT T.sa _ _ _ (by lia)) fun k hk k1 k2=>?_)))
 have below:∀ y,b.toList[nb - 1]? = some y->∀ x∈a.toList.take k,c y x=false:=fun y hy x hx=>by
  rw [eb'] at hy; cases hy
  obtain ⟨j,hj,e⟩:=su hx
  have:=k1 j hj
  rw [j5 (x:=x) (by rw [Nat.zero_add]; exact e)] at this
  simpa only [HF,Bool.false_eq_true,if_false,Bool.not_eq_true'] using this
 dsimp only
 by_cases k0:na - k > 0
 ·rw [if_pos k0]
  have m2:=m.Dt (k:=k) hk (fun x hx y hy=>by
   obtain ⟨j,h1,h2,e⟩:=Nh hx
   have:=k2 j h1 h2
   rw [j5 (x:=x) (by rw [Nat.zero_add]; exact e)] at this
   simp only [HF,Bool.false_eq_true,if_false,Bool.not_eq_false'] at this
   exact T.hT _ _ _ (le_last T.hA T.sb eb' y hy) (T.hA _ _ this))
  by_cases z:k=0
  ·rw [if_pos (by simpa using z)]
   exact ak ⟨⟨_,rfl⟩,pN m2 (.inl z)⟩
  ·rw [if_neg (by simpa using z)]
   exact Ol T hc ⟨m2,by lia,i2⟩ (by rw [Array.size_append]; lia) below
 ·rw [if_neg k0]
  obtain rfl:k=na:=by lia
  exact Ol T hc ⟨m,i1,i2⟩ hn below
noncomputable def PR (κ:SortKind) (arr:Array Keyed) (p:Array (Nat×Nat×Nat)) (c:Keyed->Keyed->Bool) (a b:Array Keyed) (n m:Nat) (r:ForInStep PH) (st:SortSt):Prop:=(∃ g,st=SortSt.mk' κ arr p g none)/\match r with
 | .done q=>(match q.1 with | some z=>Good c a.toList b.toList z | none=>fG c a b q.2.2.2.1 q.2.1 q.2.2.1/\n<=q.2.2.2.1.size)
 | .yield q=>q.1=none/\fG c a b q.2.2.2.1 q.2.1 q.2.2.1/\m<=q.2.2.2.1.size
theorem W3 (T:wB M c a b) (hc:qb prog w A s κ M c) {out:Array Keyed} {na nb mg ac bc n m g:Nat} (h:fG c a b out na nb) (hn:n<=out.size + 1) (hm:m<=out.size + 1) :
  kc prog w A E s (hiP a b mg (none,na,nb,out,ac,bc)) (PR κ arr p c a b n m) (SortSt.mk' κ arr p g none):=by
 obtain ⟨mi,i1,i2⟩:=h
 have ha:na - 1 < a.size:=by have:=mi.2.1; rw [Array.length_toList] at this; lia
 have hb:nb - 1 < b.size:=by have:=mi.2.2; rw [Array.length_toList] at this; lia
 have eb:b[nb - 1]? = some b[nb - 1]:=Array.getElem?_eq_getElem hb
 have eb':b.toList[nb - 1]? = some b[nb - 1]:=by rw [Array.getElem?_toList]; exact eb
 have ea:a[na - 1]? = some a[na - 1]:=Array.getElem?_eq_getElem ha
 have wG:a.toList[na - 1]? = some a[na - 1]:=by rw [Array.getElem?_toList]; exact ea
 unfold hiP
 refine aj (aO eb (aj (aO ea (aj (Cv hc (T.mb _ (Array.getElem_mem hb)) (T.ma _ (Array.getElem_mem ha)) ?_)))))
 dsimp only
 cases q:c b[nb - 1] a[na - 1] with
 | true =>
  rw [if_pos rfl]
  have m2:=mi.Lg i1 wG (fun y hy=>T.hT _ _ _ (le_last T.hA T.sb eb' y hy) (T.hA _ _ q))
  refine aj (aO ea ?_)
  by_cases z:na - 1=0
  ·rw [if_pos (by simpa using z)]
   exact ak ⟨⟨_,rfl⟩,pN m2 (.inl z)⟩
  ·rw [if_neg (by simpa using z)]
   have lv:fG c a b (out.push a[na - 1]) (na - 1) nb:=⟨m2,by lia,i2⟩
   split
   ·exact ak ⟨⟨_,rfl⟩,lv,by rw [Array.size_push]; lia⟩
   ·exact ak ⟨⟨_,rfl⟩,rfl,lv,by rw [Array.size_push]; lia⟩
 | false =>
  rw [if_neg Bool.false_ne_true]
  have m2:=mi.Ua (by lia) eb' (fun x hx=>T.hT _ _ _ (le_last T.hA T.sa wG x hx) q)
  refine aj (aO eb ?_)
  by_cases z:nb - 1=1
  ·rw [if_pos (by simpa using z)]
   exact ak ⟨⟨_,rfl⟩,tH T m2 z⟩
  ·rw [if_neg (by simpa using z)]
   have lv:fG c a b (out.push b[nb - 1]) na (nb - 1):=⟨m2,i1,by lia⟩
   split
   ·exact ak ⟨⟨_,rfl⟩,lv,by rw [Array.size_push]; lia⟩
   ·exact ak ⟨⟨_,rfl⟩,rfl,lv,by rw [Array.size_push]; lia⟩
theorem W4 (T:wB M c a b) (hc:qb prog w A s κ M c) {out:Array Keyed} {na nb mg g:Nat} (h:fG c a b out na nb) :
  kc prog w A E s (hiO a b (none,na,nb,out,mg)) (fun r st=>(∃ g,st=SortSt.mk' κ arr p g none)/\match r with
   | .done q=>(match q.1 with | some z=>Good c a.toList b.toList z | none=>False)
   | .yield q=>q.1=none/\fG c a b q.2.2.2.1 q.2.1 q.2.2.1/\out.size + 1<=q.2.2.2.1.size) (SortSt.mk' κ arr p g none):=by
 unfold hiO
 have hpos:1<=a.size + b.size:=by have:=h.1.sz; have:=h.2.1; lia
 refine aj (aF (cH (Q:=fun q st=>(∃ g,st=SortSt.mk' κ arr p g none)/\match q.1 with | some z=>Good c a.toList b.toList z | none=>fG c a b q.2.2.2.1 q.2.1 q.2.2.1/\out.size + 1<=q.2.2.2.1.size)
  (fun k q st=>(∃ g,st=SortSt.mk' κ arr p g none)/\q.1=none/\fG c a b q.2.2.2.1 q.2.1 q.2.2.1/\out.size<=q.2.2.2.1.size/\out.size + (a.size + b.size)<=q.2.2.2.1.size + k) ?_ ?_ _ _ ⟨⟨g,rfl⟩,rfl,h,Nat.le_refl _,Nat.le_refl _⟩) fun q st hq=>?_)
 ·rintro k x ⟨o,na',nb',out',ac,bc⟩ st ⟨⟨g',rfl⟩,rfl,lv,l1,l2⟩
  simp only at lv l1 l2
  refine aF (W3 T hc (n:=out.size + 1) (m:=out'.size + 1) lv (by lia) (Nat.le_refl _)) fun r st' hr=>?_
  obtain ⟨hg,hr⟩:=hr
  cases r with
  | done q=>exact ⟨hg,hr⟩
  | yield q=>exact ⟨hg,hr.1,hr.2.1,by have:=hr.2.2; lia,by have:=hr.2.2; lia⟩
 ·rintro ⟨o,na',nb',out',ac,bc⟩ st ⟨hg,rfl,lv,l1,l2⟩
  exact ⟨hg,lv,by simp only at l2 ⊢; lia⟩
 ·obtain ⟨o,na',nb',out',ac,bc⟩:=q
  obtain ⟨⟨g',rfl⟩,hq⟩:=hq
  cases o with
  | some z=>exact ak ⟨⟨_,rfl⟩,hq⟩
  | none =>
   obtain ⟨lv,l1⟩:=hq
   simp only at lv l1
   refine aj (mG ?_)
   refine aj (aF (cH (Q:=fun q st=>(∃ g,st=SortSt.mk' κ arr p g none)/\match q.1 with | some z=>Good c a.toList b.toList z | none=>fG c a b q.2.2.2.1 q.2.1 q.2.2.1/\out.size + 1<=q.2.2.2.1.size)
    (fun k q st=>(∃ g,st=SortSt.mk' κ arr p g none)/\q.1=none/\fG c a b q.2.2.2.1 q.2.1 q.2.2.1/\out.size + 1<=q.2.2.2.1.size) ?_ ?_ _ _ ⟨⟨g',rfl⟩,rfl,lv,l1⟩) fun q st hq=>?_)
   ·rintro k x ⟨o,na2,nb2,Mw,Y8,ZQ,ZM⟩ st ⟨⟨g2,rfl⟩,rfl,Qk,l2⟩
    simp only at Qk l2
    dsimp only
    split
    all_goals
     refine aF (W5 T hc (n:=out.size + 1) Qk l2) fun r st' hr=>?_
     obtain ⟨hg,hr⟩:=hr
     cases r with
     | done q=>exact ⟨hg,hr⟩
     | yield q=>exact ⟨hg,hr⟩
   ·rintro ⟨o,na2,nb2,Mw,Y8,ZQ,ZM⟩ st ⟨hg,rfl,Qk,l2⟩
    exact ⟨hg,Qk,l2⟩
   ·obtain ⟨o,na2,nb2,Mw,Y8,ZQ,ZM⟩:=q
    obtain ⟨⟨g2,rfl⟩,hq⟩:=hq
    cases o with
    | some z=>exact ak ⟨⟨_,rfl⟩,hq⟩
    | none=>exact aj (tu (ak ⟨⟨_,rfl⟩,rfl,hq.1,hq.2⟩))
theorem Zn (T:wB M c a b) (hc:qb prog w A s κ M c) {g:Nat} (ha:1<=a.size) (hb:1<=b.size) (h0:∀ x,a.toList[a.size - 1]? = some x->∀ y∈b.toList,c x y=false) :
  kc prog w A E s (uY a b) (fun r st=>(∃ g,st=SortSt.mk' κ arr p g none)/\Good c a.toList b.toList r) (SortSt.mk' κ arr p g none):=by
 rw [Cj]
 unfold hi
 have hl:a.size - 1 < a.size:=by lia
 have ea:a[a.size - 1]? = some a[a.size - 1]:=Array.getElem?_eq_getElem hl
 have wG:a.toList[a.size - 1]? = some a[a.size - 1]:=by rw [Array.getElem?_toList]; exact ea
 have m0:MR c a b #[] a.size b.size:=⟨⟨by rw [Array.length_toList,Nat.sub_self]; exact List.pairwise_reverse.mpr T.sa,by rw [Array.length_toList,Nat.sub_self]; exact List.pairwise_reverse.mpr T.sb,by simp,by simp,by simp,by simp⟩,by simp,by simp⟩
 have m1:=m0.Lg ha wG (fun y hy=>h0 _ wG y (List.mem_of_mem_take hy))
 have m1:MR c a b #[a[a.size - 1]] (a.size - 1) b.size:=m1
 refine aj (mG (aj (aO ea ?_)))
 by_cases z:a.size - 1=0
 ·rw [if_pos (by simpa using z)]
  exact ak ⟨⟨_,rfl⟩,pN m1 (.inl z)⟩
 ·rw [if_neg (by simpa using z)]
  by_cases z2:b.size=1
  ·rw [if_pos (by simpa using z2)]
   exact ak ⟨⟨_,rfl⟩,tH T m1 z2⟩
  ·rw [if_neg (by simpa using z2)]
   refine aj (jJ ?_)
   refine aj (aF (cH (Q:=fun q st=>(∃ g,st=SortSt.mk' κ arr p g none)/\match q.1 with | some z=>Good c a.toList b.toList z | none=>False)
    (fun k q st=>(∃ g,st=SortSt.mk' κ arr p g none)/\q.1=none/\fG c a b q.2.2.2.1 q.2.1 q.2.2.1/\1 + (a.size + b.size)<=q.2.2.2.1.size + k) ?_ ?_ _ _ ⟨⟨g,rfl⟩,rfl,⟨m1,by show 1<=a.size - 1; lia,by show 2<=b.size; lia⟩,Nat.le_refl _⟩) fun q st hq=>?_)
   ·rintro k x ⟨o,na,nb,out,mg⟩ st ⟨⟨g2,rfl⟩,rfl,lv,l1⟩
    simp only at lv l1
    refine aF (W4 T hc lv) fun r st' hr=>?_
    obtain ⟨hg,hr⟩:=hr
    cases r with
    | done q=>exact ⟨hg,hr⟩
    | yield q=>exact ⟨hg,hr.1,hr.2.1,by have:=hr.2.2; lia⟩
   ·rintro ⟨o,na,nb,out,mg⟩ st ⟨hg,rfl,lv,l1⟩
    simp only at lv l1
    have:=lv.1.sz
    have:=lv.2.1
    have:=lv.2.2
    lia
   ·obtain ⟨o,na,nb,out,mg⟩:=q
    obtain ⟨hg,hq⟩:=hq
    cases o with
    | some z=>exact ak ⟨hg,hq⟩
    | none=>exact hq.elim
end
end DW.TS
end
section
set_option maxHeartbeats 4000000
namespace DW.TS
open PySem PySem.W PySem.Calls PyProof.Rows
noncomputable abbrev AS:=Option (Option Nat)×Nat
noncomputable abbrev DS:=Option (Option Nat)×Nat×Nat
section
variable (lo nrem:Nat)
noncomputable def Tr (r:AS):StateT SortSt Sem (ForInStep AS):=do
 let x <- ltAt' (lo + r.2) (lo + r.2 - 1)
 match x with
 | some smaller=>if smaller=true then pure (.done (none,r.2)) else pure (.yield (none,r.2 + 1))
 | _=>pure (.done (some none,r.2))
noncomputable def ZC (r:DS):StateT SortSt Sem (ForInStep DS):=do
 let x <- ltAt' (lo + r.2.1) (lo + r.2.1 - 1)
 match x with
 | some smaller =>
  if smaller=true then (if r.2.2 > 0 then do
    reverseSlice' (lo + r.2.1 - (r.2.2 + 1)) (lo + r.2.1)
    pure (.yield (none,r.2.1 + 1,0))
   else pure (.yield (none,r.2.1 + 1,0)))
  else do
   let y <- ltAt' (lo + r.2.1 - 1) (lo + r.2.1)
   match y with
   | some larger=>if larger=true then pure (.done (none,r.2.1,r.2.2)) else pure (.yield (none,r.2.1 + 1,r.2.2 + 1))
   | _=>pure (.done (some none,r.2.1,r.2.2))
 | _=>pure (.done (some none,r.2.1,r.2.2))
noncomputable def t3 (n:Nat):StateT SortSt Sem (Option Nat):=do
 reverseSlice' lo (lo + n)
 let r <- forIn [n:nrem] ((none,n):AS) fun _ r=>Tr lo r
 match r.1 with
 | some z=>pure z
 | none=>pure (some r.2)
noncomputable def dsP (n:Nat):StateT SortSt Sem (Option Nat):=do
 liftM (rule "list.sort.descending-run")
 let r <- forIn [n + 1:nrem] ((none,n + 1,0):DS) fun _ r=>ZC lo r
 match r.1 with
 | some z=>pure z
 | none=>if r.2.2 > 0 then (reverseSlice' (lo + r.2.1 - (r.2.2 + 1)) (lo + r.2.1) >>= fun _=>t3 lo nrem r.2.1) else t3 lo nrem r.2.1
noncomputable def cr:StateT SortSt Sem (Option Nat):=do
 let r <- forIn [1:nrem] ((none,1):AS) fun _ r=>Tr lo r
 match r.1 with
 | some z=>pure z
 | none =>
  if (r.2 == nrem)=true then pure (some r.2)
  else if r.2 > 1 then do
   let x <- ltAt' lo (lo + r.2 - 1)
   match x with
   | some rose=>if rose=true then pure (some r.2) else do
     reverseSlice' lo (lo + r.2)
     dsP lo nrem r.2
   | _=>pure none
  else dsP lo nrem r.2
end
theorem zX (lo nrem:Nat):countRun' lo nrem=cr lo nrem:=by kernel_rfl
noncomputable def bsI (lo k:Nat) (r:Option Bool×Nat×Nat):StateT SortSt Sem (ForInStep (Option Bool×Nat×Nat)) :=
 if r.2.1 ≥ r.2.2 then pure (.done (none,r.2.1,r.2.2))
 else do
  let x <- ltAt' (lo + k) (lo + (r.2.1 + r.2.2) / 2)
  match x with
  | some less=>if less=true then pure (.yield (none,r.2.1,(r.2.1 + r.2.2) / 2)) else pure (.yield (none,(r.2.1 + r.2.2) / 2 + 1,r.2.2))
  | _=>pure (.done (some false,r.2.1,r.2.2))
noncomputable def bsO (lo k:Nat) (r:Option Bool×PUnit):StateT SortSt Sem (ForInStep (Option Bool×PUnit)):=do
 let q <- forIn [0:k] ((none,0,k):Option Bool×Nat×Nat) fun _ q=>bsI lo k q
 match q.1 with
 | some z=>pure (.done (some z,⟨⟩))
 | none=>do
  moveDown' (lo + k) (lo + q.2.1)
  pure (.yield (none,⟨⟩))
noncomputable def bs (lo n ok:Nat):StateT SortSt Sem Bool:=do
 let r <- forIn [max ok 1:n] ((none,⟨⟩):Option Bool×PUnit) fun k r=>bsO lo k r
 match r.1 with
 | some z=>pure z
 | none=>pure true
theorem wg (lo n ok:Nat):binarySort' lo n ok=bs lo n ok:=by kernel_rfl
noncomputable def ka (arr:Array Keyed) (k:Nat):Keyed:=(arr[k]?).getD (Value.none,Value.none)
theorem qF {arr:Array Keyed} {i j:Nat} (hj:j<=arr.size) (k:Nat):ka (mirror arr i j ((j - i) / 2)) k=if i<=k/\k < j then ka arr (i + j - 1 - k) else ka arr k:=by
 unfold ka
 rw [getElem?_mirror_all hj]
 split <;> rfl
theorem Fj {arr:Array Keyed} {s d:Nat} (hs:s < arr.size) (hd:d<=s) (k:Nat):ka (bubble arr s d) k=if k=s - d then ka arr s else if s - d < k/\k<=s then ka arr (k - 1) else ka arr k:=by
 unfold ka
 rw [getElem?_bubble hs d hd]
 by_cases h1:k=s - d
 ·rw [if_pos h1,if_pos h1]
 ·rw [if_neg h1,if_neg h1]
  by_cases h2:s - d < k/\k<=s
  ·rw [if_pos h2,if_pos h2]
  ·rw [if_neg h2,if_neg h2]
section
variable {prog:Program} {w:World} {A:Around} {E:Value->Shared->Prop} {s:Shared} {κ:SortKind} {c:Keyed->Keyed->Bool} {M:Keyed->Prop} {arr aV:Array Keyed} {p:Array (Nat×Nat×Nat)} {g lo nrem:Nat}
theorem pC {i:Nat} (h:i < arr.size):arr[i]? = some (ka arr i):=by unfold ka; rw [Array.getElem?_eq_getElem h]; rfl
theorem zj {i:Nat} (h:i < arr.size):ka arr i∈arr:=by unfold ka; rw [Array.getElem?_eq_getElem h]; exact Array.getElem_mem h
theorem pB (hc:qb prog w A s κ M c) (hM:∀ x∈arr,M x) {i j:Nat} {Q:Option Bool->SortSt->Prop} (hi:i < arr.size) (hj:j < arr.size) (h:Q (some (c (ka arr i) (ka arr j))) (SortSt.mk' κ arr p g none)):kc prog w A E s (ltAt' i j) Q (SortSt.mk' κ arr p g none):=by
 rw [ltAt'_eq]
 refine aj (jJ ?_)
 exact aj (aO (pC hi) (aj (aO (pC hj) (Cv hc (hM _ (zj hi)) (hM _ (zj hj)) h))))
theorem tB {i j:Nat} {Q:Unit->SortSt->Prop} (h:Q () (SortSt.mk' κ (mirror arr i j ((j - i) / 2)) p g none)):kc prog w A E s (reverseSlice' i j) Q (SortSt.mk' κ arr p g none):=by
 rw [reverseSlice'_eq]; exact nY h
theorem Wu {i j:Nat} {Q:Unit->SortSt->Prop} (h:Q () (SortSt.mk' κ (bubble arr i (i - j)) p g none)):kc prog w A E s (moveDown' i j) Q (SortSt.mk' κ arr p g none):=by
 rw [moveDown'_eq]; exact nY h
theorem qD {β:Type} {n0 n:Nat} {f:Nat->β->StateT SortSt Sem (ForInStep β)} {Q:β->SortSt->Prop} (I:Nat->β->SortSt->Prop)
  (hs:∀ k x b st,I (k + 1) b st->kc prog w A E s (f x b) (fun r st'=>match r with | .done b'=>Q b' st' | .yield b'=>I k b' st') st)
  (he:∀ b st,I 0 b st->Q b st) (b:β) (st:SortSt) (h:I (n - n0) b st):kc prog w A E s (forIn [n0:n] b f) Q st:=by
 rw [Std.Legacy.Range.forIn_eq_forIn_range']
 have hsz:([n0:n]:Std.Legacy.Range).size=n - n0:=by simp [Std.Legacy.Range.size]
 rw [hsz]
 exact Fi I hs he _ b st (by rw [List.length_range']; exact h)
structure Rq (aV:Array Keyed) (lo:Nat) (arr:Array Keyed):Prop where
 perm:arr.Perm aV
 same:∀ k,k < lo->ka arr k=ka aV k
theorem Rq.size (h:Rq aV lo arr):arr.size=aV.size:=h.perm.size_eq
theorem Rq.mem (h:Rq aV lo arr) (hM:∀ x∈aV,M x):∀ x∈arr,M x:=fun x hx=>hM x (h.perm.mem_iff.mp hx)
theorem Rq.rev (h:Rq aV lo arr) {i j:Nat} (hi:lo<=i) (hj:j<=arr.size):Rq aV lo (mirror arr i j ((j - i) / 2)) :=
 ⟨(mirror_perm _ _ _ _).trans h.perm,fun k hk=>by rw [qF hj,if_neg (by lia)]; exact h.same k hk⟩
noncomputable def Ab (c:Keyed->Keyed->Bool) (arr:Array Keyed) (lo m:Nat):Prop:=∀ i,i + 1 < m->c (ka arr (lo + i + 1)) (ka arr (lo + i))=false
noncomputable def Qm (c:Keyed->Keyed->Bool) (arr:Array Keyed) (lo m:Nat):Prop:=∀ i,i + 1 < m->c (ka arr (lo + i)) (ka arr (lo + i + 1))=false
noncomputable def Ti (c:Keyed->Keyed->Bool) (a b:Keyed):Prop:=c a b=false/\c b a=false
structure Ord (c:Keyed->Keyed->Bool):Prop where
 hA:∀ x y,c x y=true->c y x=false
 hT:∀ x y z,c y x=false->c z y=false->c z x=false
theorem Ord.irr (O:Ord c) (x:Keyed):c x x=false:=by
 cases h:c x x with
 | false=>rfl
 | true=>have:=O.hA _ _ h; rw [h] at this; cases this
theorem Ti.trans (O:Ord c) {x y z:Keyed} (h:Ti c x y) (k:Ti c y z):Ti c x z:=⟨O.hT _ _ _ k.1 h.1,O.hT _ _ _ h.2 k.2⟩
theorem Ti.symm {x y:Keyed} (h:Ti c x y):Ti c y x:=⟨h.2,h.1⟩
theorem Ti.refl (O:Ord c) (x:Keyed):Ti c x x:=⟨O.irr x,O.irr x⟩
theorem Ab.le (O:Ord c) {m:Nat} (h:Ab c arr lo m):∀ (d i:Nat),i + d < m->c (ka arr (lo + (i + d))) (ka arr (lo + i))=false
 | 0,i,_=>O.irr _
 | d + 1,i,hd=>O.hT _ _ _ (Ab.le O h d i (by lia)) (h (i + d) (by lia))
theorem Qm.like (O:Ord c) {arr':Array Keyed} {n:Nat} (h:Qm c arr lo n) (k:∀ i,i < n->Ti c (ka arr' (lo + i)) (ka arr (lo + i))):Qm c arr' lo n:=fun i hi =>
 O.hT _ _ _ (O.hT _ _ _ (k (i + 1) hi).2 (h i hi)) (k i (by lia)).1
theorem El (O:Ord c) {n q:Nat} (hn:lo + n<=arr.size) (hq:q + 1<=n) (ht:∀ i,n - (q + 1)<=i->i < n->Ti c (ka arr (lo + i)) (ka arr (lo + (n - 1)))) (k:Nat) :
  Ti c (ka (mirror arr (lo + n - (q + 1)) (lo + n) ((lo + n - (lo + n - (q + 1))) / 2)) (lo + k)) (ka arr (lo + k)):=by
 rw [qF hn]
 split
 ·rename_i h
  have e:lo + n - (q + 1) + (lo + n) - 1 - (lo + k)=lo + (n - (q + 1) + n - 1 - k):=by lia
  rw [e]
  exact Ti.trans O (ht _ (by lia) (by lia)) (Ti.symm (ht k (by lia) (by lia)))
 ·exact Ti.refl O _
theorem Px (O:Ord c) (hc:qb prog w A s κ M c) (hM:∀ x∈arr,M x) {n0:Nat} (h1:1<=n0) (hn:n0<=nrem) (hz:lo + nrem<=arr.size) (up:Ab c arr lo n0) :
  kc prog w A E s (forIn [n0:nrem] ((none,n0):AS) fun _ r=>Tr lo r) (fun q st=>q.1=none/\st=SortSt.mk' κ arr p g none/\n0<=q.2/\q.2<=nrem/\Ab c arr lo q.2/\(q.2 < nrem->c (ka arr (lo + q.2)) (ka arr (lo + (q.2 - 1)))=true)) (SortSt.mk' κ arr p g none):=by
 refine qD (fun k q st=>q.1=none/\st=SortSt.mk' κ arr p g none/\n0<=q.2/\q.2 + k=nrem/\Ab c arr lo q.2) ?_ ?_ _ _ ⟨rfl,rfl,Nat.le_refl _,by show n0 + (nrem - n0)=nrem; lia,up⟩
 ·rintro k x ⟨o,n⟩ st ⟨rfl,rfl,q1,q2,q3⟩
  simp only at q1 q2 q3
  unfold Tr
  dsimp only
  have e:lo + n - 1=lo + (n - 1):=by lia
  rw [e]
  refine aj (pB hc hM (by lia) (by lia) ?_)
  cases f:c (ka arr (lo + n)) (ka arr (lo + (n - 1))) with
  | true=>exact ak ⟨rfl,rfl,q1,by show n<=nrem; lia,q3,fun _=>f⟩
  | false =>
   refine ak ⟨rfl,rfl,by show n0<=n + 1; lia,by show n + 1 + k=nrem; lia,fun i hi=>?_⟩
   have hi:i + 1 < n + 1:=hi
   by_cases z:i + 1 < n
   ·exact q3 i z
   ·have e1:lo + i + 1=lo + n:=by lia
    have e2:lo + i=lo + (n - 1):=by lia
    rw [e1,e2]; exact f
 ·rintro ⟨o,n⟩ st ⟨rfl,rfl,q1,q2,q3⟩
  simp only at q1 q2 q3
  exact ⟨rfl,rfl,q1,by show n<=nrem; lia,q3,fun h=>by have h:n < nrem:=h; lia⟩
noncomputable def CQ (κ:SortKind) (p:Array (Nat×Nat×Nat)) (g:Nat) (c:Keyed->Keyed->Bool) (aV:Array Keyed) (lo nrem:Nat) (r:Option Nat) (st:SortSt):Prop:=∃ m arr,r=some m/\st=SortSt.mk' κ arr p g none/\Rq aV lo arr/\1<=m/\m<=nrem/\Ab c arr lo m
theorem T7 (O:Ord c) (hc:qb prog w A s κ M c) (hM:∀ x∈aV,M x) (R:Rq aV lo arr) {n:Nat} (h1:1<=n) (hn:n<=nrem) (hz:lo + nrem<=aV.size) (dn:Qm c arr lo n) :
  kc prog w A E s (t3 lo nrem n) (CQ κ p g c aV lo nrem) (SortSt.mk' κ arr p g none):=by
 have hs:=R.size
 have hj:lo + n<=arr.size:=by lia
 have R2:=R.rev (Nat.le_refl lo) hj
 unfold t3
 refine aj (tB ?_)
 have up:Ab c (mirror arr lo (lo + n) ((lo + n - lo) / 2)) lo n:=fun i hi=>by
  rw [qF hj,qF hj,if_pos (by lia),if_pos (by lia)]
  have:=dn (n - 1 - (i + 1)) (by lia)
  have e1:lo + (lo + n) - 1 - (lo + i + 1)=lo + (n - 1 - (i + 1)):=by lia
  have e2:lo + (lo + n) - 1 - (lo + i)=lo + (n - 1 - (i + 1)) + 1:=by lia
  rw [e1,e2]
  exact this
 refine aj (aF (Px O hc (R2.mem hM) h1 hn (by rw [R2.size]; exact hz) up) fun q st hq=>?_)
 obtain ⟨o,m⟩:=q
 obtain ⟨rfl,rfl,q1,q2,q3,_⟩:=hq
 exact ak ⟨m,_,rfl,rfl,R2,by have:n<=m:=q1; lia,q2,q3⟩
theorem Ox (O:Ord c) (hc:qb prog w A s κ M c) (hM:∀ x∈aV,M x) (R:Rq aV lo arr) {n:Nat} (hn:n + 1<=nrem) (hz:lo + nrem<=aV.size) (dn:Qm c arr lo (n + 1)) :
  kc prog w A E s (dsP lo nrem n) (CQ κ p g c aV lo nrem) (SortSt.mk' κ arr p g none):=by
 unfold dsP
 refine aj (mG ?_)
 refine aj (aF (qD (Q:=fun q st=>∃ arr',q.1=none/\st=SortSt.mk' κ arr' p g none/\Rq aV lo arr'/\q.2.1<=nrem/\q.2.2 + 1<=q.2.1/\Qm c arr' lo q.2.1/\∀ i,q.2.1 - (q.2.2 + 1)<=i->i < q.2.1->Ti c (ka arr' (lo + i)) (ka arr' (lo + (q.2.1 - 1))))
  (fun k q st=>∃ arr',q.1=none/\st=SortSt.mk' κ arr' p g none/\Rq aV lo arr'/\q.2.1 + k=nrem/\q.2.2 + 1<=q.2.1/\Qm c arr' lo q.2.1/\∀ i,q.2.1 - (q.2.2 + 1)<=i->i < q.2.1->Ti c (ka arr' (lo + i)) (ka arr' (lo + (q.2.1 - 1)))) ?_ ?_ _ _ ⟨arr,rfl,rfl,R,by show n + 1 + (nrem - (n + 1))=nrem; lia,by show 0 + 1<=n + 1; lia,dn,fun i a1 a2=>?_⟩) fun q st hq=>?_)
 ·rintro k x ⟨o,n',q⟩ st ⟨arr',rfl,rfl,R',q2,q3,q4,q5⟩
  simp only at q2 q3 q4 q5
  have hs:=R'.size
  unfold ZC
  dsimp only
  have e:lo + n' - 1=lo + (n' - 1):=by lia
  rw [e]
  refine aj (pB hc (R'.mem hM) (by lia) (by lia) ?_)
  have dn2:∀ gG:Array Keyed,(∀ i,Ti c (ka gG (lo + i)) (ka arr' (lo + i)))->ka gG (lo + n')=ka arr' (lo + n')->c (ka arr' (lo + (n' - 1))) (ka arr' (lo + n'))=false->Qm c gG lo (n' + 1):=fun gG t1 t2 t3 i hi=>by
   by_cases z:i + 1 < n'
   ·exact Qm.like O q4 (fun i _=>t1 i) i z
   ·have e1:lo + i + 1=lo + n':=by lia
    have e2:lo + i=lo + (n' - 1):=by lia
    rw [e1,t2,e2]
    exact O.hT _ _ _ t3 (t1 (n' - 1)).1
  have ti0:∀ gG:Array Keyed,∀ i,n' + 1 - (0 + 1)<=i->i < n' + 1->Ti c (ka gG (lo + i)) (ka gG (lo + (n' + 1 - 1))):=fun gG i a1 a2=>by
   have:i=n' + 1 - 1:=by lia
   rw [this]; exact Ti.refl O _
  cases f:c (ka arr' (lo + n')) (ka arr' (lo + (n' - 1))) with
  | true =>
   dsimp only
   rw [if_pos rfl]
   by_cases hq:q > 0
   ·rw [if_pos hq]
    have rt:=El O (by lia) q3 q5
    refine aj (tB (ak ⟨_,rfl,rfl,R'.rev (by lia) (by lia),by show n' + 1 + k=nrem; lia,by show 0 + 1<=n' + 1; lia,dn2 _ rt ?_ (O.hA _ _ f),ti0 _⟩))
    rw [qF (by lia),if_neg (by lia)]
   ·rw [if_neg hq]
    exact ak ⟨_,rfl,rfl,R',by show n' + 1 + k=nrem; lia,by show 0 + 1<=n' + 1; lia,dn2 _ (fun i=>Ti.refl O _) rfl (O.hA _ _ f),ti0 _⟩
  | false =>
   dsimp only
   rw [if_neg Bool.false_ne_true]
   refine aj (pB hc (R'.mem hM) (by lia) (by lia) ?_)
   cases f2:c (ka arr' (lo + (n' - 1))) (ka arr' (lo + n')) with
   | true=>exact ak ⟨_,rfl,rfl,R',by show n'<=nrem; lia,q3,q4,q5⟩
   | false =>
    refine ak ⟨_,rfl,rfl,R',by show n' + 1 + k=nrem; lia,by show q + 1 + 1<=n' + 1; lia,dn2 _ (fun i=>Ti.refl O _) rfl f2,fun i a1 a2=>?_⟩
    have a1:n' + 1 - (q + 1 + 1)<=i:=a1
    have a2:i < n' + 1:=a2
    show Ti c (ka arr' (lo + i)) (ka arr' (lo + (n' + 1 - 1)))
    rw [Nat.add_sub_cancel]
    by_cases z:i=n'
    ·rw [z]; exact Ti.refl O _
    ·exact Ti.trans O (q5 i (by lia) (by lia)) ⟨f2,f⟩
 ·rintro ⟨o,n',q⟩ st ⟨arr',rfl,rfl,R',q2,q3,q4,q5⟩
  simp only at q2 q3 q4 q5
  exact ⟨arr',rfl,rfl,R',by show n'<=nrem; lia,q3,q4,q5⟩
 ·have a1:n + 1 - (0 + 1)<=i:=a1
  have a2:i < n + 1:=a2
  have:i=n + 1 - 1:=by lia
  rw [this]; exact Ti.refl O _
 ·obtain ⟨o,m,q⟩:=q
  obtain ⟨arr',rfl,rfl,R',q2,q3,q4,q5⟩:=hq
  simp only at q2 q3 q4 q5
  have hs:=R'.size
  dsimp only
  by_cases hq:q > 0
  ·rw [if_pos hq]
   refine aj (tB ?_)
   exact T7 O hc hM (R'.rev (by lia) (by lia)) (by lia) q2 hz (Qm.like O q4 fun i _=>El O (by lia) q3 q5 i)
  ·rw [if_neg hq]
   exact T7 O hc hM R' (by lia) q2 hz q4
theorem O4 (O:Ord c) (hc:qb prog w A s κ M c) (hM:∀ x∈arr,M x) (h1:1<=nrem) (hz:lo + nrem<=arr.size) :
  kc prog w A E s (countRun' lo nrem) (CQ κ p g c arr lo nrem) (SortSt.mk' κ arr p g none):=by
 rw [zX]
 unfold cr
 have R:Rq arr lo arr:=⟨.refl _,fun _ _=>rfl⟩
 refine aj (aF (Px O hc hM (Nat.le_refl 1) h1 hz (fun i hi=>by lia)) fun q st hq=>?_)
 obtain ⟨o,m⟩:=q
 obtain ⟨rfl,rfl,q1,q2,q3,q4⟩:=hq
 simp only at q1 q2 q3 q4
 dsimp only
 by_cases z:m=nrem
 ·rw [if_pos (by simpa using z)]
  exact ak ⟨m,_,rfl,rfl,R,q1,q2,q3⟩
 ·rw [if_neg (by simpa using z)]
  have st:=q4 (by lia)
  by_cases z2:m > 1
  ·rw [if_pos z2]
   have e:lo + m - 1=lo + (m - 1):=by lia
   rw [e]
   refine aj (pB hc hM (by lia) (by lia) ?_)
   cases f:c (ka arr lo) (ka arr (lo + (m - 1))) with
   | true=>exact ak ⟨m,_,rfl,rfl,R,q1,q2,q3⟩
   | false =>
    dsimp only
    rw [if_neg Bool.false_ne_true]
    have tie:∀ i,m - (m - 1 + 1)<=i->i < m->Ti c (ka arr (lo + i)) (ka arr (lo + (m - 1))):=fun i _ hi=>by
     have b1:=Ab.le O q3 (m - 1 - i) i (by lia)
     have b2:=Ab.le O q3 i 0 (by lia)
     rw [show i + (m - 1 - i)=m - 1 by lia] at b1
     rw [Nat.zero_add,Nat.add_zero] at b2
     exact ⟨O.hT _ _ _ f b2,b1⟩
    have rt:=El O (by lia) (by lia:m - 1 + 1<=m) tie
    rw [show lo + m - (m - 1 + 1)=lo by lia] at rt
    refine aj (tB (Ox O hc hM (R.rev (Nat.le_refl _) (by lia)) (by lia) hz fun i hi=>?_))
    by_cases y:i + 1=m
    ·have e1:lo + i + 1=lo + m:=by lia
     have e2:lo + i=lo + (m - 1):=by lia
     have e3:ka (mirror arr lo (lo + m) ((lo + m - lo) / 2)) (lo + m)=ka arr (lo + m):=by rw [qF (by lia),if_neg (by lia)]
     rw [e1,e2,e3]
     exact O.hT _ _ _ (O.hA _ _ st) (rt (m - 1)).1
    ·have t1:=Ti.trans O (Ti.trans O (rt i) (tie i (by lia) (by lia))) (Ti.symm (Ti.trans O (rt (i + 1)) (tie (i + 1) (by lia) (by lia))))
     exact t1.1
  ·rw [if_neg z2]
   have m1:m=1:=by lia
   subst m1
   refine Ox O hc hM R (by lia) hz fun i hi=>?_
   have:i=0:=by lia
   subst this
   exact O.hA _ _ st
end
end DW.TS
end
section
set_option maxHeartbeats 4000000
namespace DW.TS
open PySem PySem.W PySem.Calls PyProof.Rows
section
variable {prog:Program} {w:World} {A:Around} {E:Value->Shared->Prop} {s:Shared} {κ:SortKind} {c:Keyed->Keyed->Bool} {M:Keyed->Prop} {arr aV:Array Keyed} {p:Array (Nat×Nat×Nat)} {g lo nrem:Nat}
theorem Hh {β:Type} {f:Nat->β->StateT SortSt Sem (ForInStep β)} {Q:β->SortSt->Prop} (I:Nat->β->SortSt->Prop) (top:Nat)
  (hs:∀ x b st,x < top->I x b st->kc prog w A E s (f x b) (fun r st'=>match r with | .done b'=>Q b' st' | .yield b'=>I (x + 1) b' st') st)
  (he:∀ b st,I top b st->Q b st):∀ (m x:Nat) (b:β) (st:SortSt),x + m=top->I x b st->kc prog w A E s (forIn (List.range' x m) b f) Q st
 | 0,x,b,st,e,h=>by
  have:x=top:=by lia
  subst this
  show kc prog w A E s (forIn [] b f) Q st
  rw [List.forIn_nil]; exact ak (he b st h)
 | m + 1,x,b,st,e,h=>by
  rw [List.range'_succ,List.forIn_cons]
  refine aj (aF (hs x b st (by lia) h) fun r st' q=>?_)
  cases r with
  | done b'=>exact ak q
  | yield b'=>exact Hh I top hs he m (x + 1) b' st' (by lia) q
theorem Jl {β:Type} {n0 n:Nat} {f:Nat->β->StateT SortSt Sem (ForInStep β)} {Q:β->SortSt->Prop} (I:Nat->β->SortSt->Prop) (hn:n0<=n)
  (hs:∀ x b st,x < n->I x b st->kc prog w A E s (f x b) (fun r st'=>match r with | .done b'=>Q b' st' | .yield b'=>I (x + 1) b' st') st)
  (he:∀ b st,I n b st->Q b st) (b:β) (st:SortSt) (h:I n0 b st):kc prog w A E s (forIn [n0:n] b f) Q st:=by
 rw [Std.Legacy.Range.forIn_eq_forIn_range']
 have hsz:([n0:n]:Std.Legacy.Range).size=n - n0:=by simp [Std.Legacy.Range.size]
 rw [hsz]
 exact Hh I n hs he _ n0 b st (show n0 + (n - n0)=n by lia) h
theorem Xl (O:Ord c) (hc:qb prog w A s κ M c) (hM:∀ x∈arr,M x) {k:Nat} (hk:lo + k < arr.size) (up:Ab c arr lo k) :
  kc prog w A E s (forIn [0:k] ((none,0,k):Option Bool×Nat×Nat) fun _ q=>bsI lo k q) (fun q st=>q.1=none/\st=SortSt.mk' κ arr p g none/\q.2.1<=k/\(∀ i,i < q.2.1->c (ka arr (lo + k)) (ka arr (lo + i))=false)/\∀ i,q.2.1<=i->i < k->c (ka arr (lo + k)) (ka arr (lo + i))=true) (SortSt.mk' κ arr p g none):=by
 refine qD (fun f q st=>q.1=none/\st=SortSt.mk' κ arr p g none/\q.2.1<=q.2.2/\q.2.2<=k/\q.2.2 - q.2.1<=f/\(∀ i,i < q.2.1->c (ka arr (lo + k)) (ka arr (lo + i))=false)/\∀ i,q.2.2<=i->i < k->c (ka arr (lo + k)) (ka arr (lo + i))=true) ?_ ?_ _ _ ⟨rfl,rfl,Nat.zero_le _,Nat.le_refl _,Nat.le_refl _,fun i hi=>absurd hi (Nat.not_lt_zero _),fun i a1 a2=>by have a1:k<=i:=a1; lia⟩
 ·rintro f x ⟨o,l,r⟩ st ⟨rfl,rfl,q1,q2,q3,q4,q5⟩
  simp only at q1 q2 q3 q4 q5
  unfold bsI
  dsimp only
  by_cases z:l ≥ r
  ·rw [if_pos z]
   have:l=r:=by lia
   subst this
   exact ak ⟨rfl,rfl,q2,q4,q5⟩
  ·rw [if_neg z]
   have m1:l<=(l + r) / 2:=by lia
   have m2:(l + r) / 2 < r:=by lia
   generalize (l + r) / 2=m at m1 m2
   refine aj (pB hc hM hk (by lia) ?_)
   cases e:c (ka arr (lo + k)) (ka arr (lo + m)) with
   | true =>
    refine ak ⟨rfl,rfl,m1,by show m<=k; lia,by show m - l<=f; lia,q4,fun i b1 b2=>?_⟩
    have b1:m<=i:=b1
    cases q:c (ka arr (lo + k)) (ka arr (lo + i)) with
    | true=>rfl
    | false =>
     have b3:=Ab.le O up (i - m) m (by lia)
     rw [show m + (i - m)=i by lia] at b3
     have:=O.hT _ _ _ b3 q
     rw [e] at this; cases this
   | false =>
    refine ak ⟨rfl,rfl,by show m + 1<=r; lia,q2,by show r - (m + 1)<=f; lia,fun i b1=>?_,q5⟩
    have b1:i < m + 1:=b1
    have b3:=Ab.le O up (m - i) i (by lia)
    rw [show i + (m - i)=m by lia] at b3
    exact O.hT _ _ _ b3 e
 ·rintro ⟨o,l,r⟩ st ⟨rfl,rfl,q1,q2,q3,q4,q5⟩
  simp only at q1 q2 q3 q4 q5
  have:l=r:=by lia
  subst this
  exact ⟨rfl,rfl,q2,q4,q5⟩
theorem ZL (O:Ord c) (hc:qb prog w A s κ M c) (hM:∀ x∈aV,M x) (R:Rq aV lo arr) {n m:Nat} (h1:1<=m) (hm:m<=n) (hz:lo + n<=aV.size) (up:Ab c arr lo m) :
  kc prog w A E s (binarySort' lo n m) (fun b st=>b=true/\∃ arr',st=SortSt.mk' κ arr' p g none/\Rq aV lo arr'/\Ab c arr' lo n) (SortSt.mk' κ arr p g none):=by
 rw [wg]
 unfold bs
 have e1:max m 1=m:=by lia
 rw [e1]
 refine aj (aF (Jl (Q:=fun r st=>r.1=none/\∃ arr',st=SortSt.mk' κ arr' p g none/\Rq aV lo arr'/\Ab c arr' lo n) (fun k r st=>r.1=none/\∃ arr',st=SortSt.mk' κ arr' p g none/\Rq aV lo arr'/\Ab c arr' lo k) hm ?_ (fun _ _ h=>h) _ _ ⟨rfl,arr,rfl,R,up⟩) fun r st hr=>?_)
 ·rintro k ⟨o,_⟩ st hk ⟨rfl,arr',rfl,R',up'⟩
  have hs:=R'.size
  unfold bsO
  refine aj (aF (Xl O hc (R'.mem hM) (by lia) up') fun q st hq=>?_)
  obtain ⟨o,t,t2⟩:=q
  obtain ⟨rfl,rfl,b1,b2,b3⟩:=hq
  simp only at b1 b2 b3
  refine aj (Wu (ak ⟨rfl,_,rfl,⟨(bubble_perm _ _ _).trans R'.perm,fun j hj=>?_⟩,fun i hi=>?_⟩))
  ·rw [Fj (by lia) (by lia),if_neg (by lia),if_neg (by lia)]
   exact R'.same j hj
  ·have hi:i + 1 < k + 1:=hi
   have hb:lo + k < arr'.size:=by lia
   show c (ka (bubble arr' (lo + k) (lo + k - (lo + t))) (lo + i + 1)) (ka (bubble arr' (lo + k) (lo + k - (lo + t))) (lo + i))=false
   rw [Fj hb (by lia),Fj hb (by lia),show lo + k - (lo + k - (lo + t))=lo + t by lia]
   by_cases z1:i + 1=t
   ·rw [if_pos (show lo + i + 1=lo + t by lia),if_neg (show ¬ lo + i=lo + t by lia),if_neg (show ¬ (lo + t < lo + i/\lo + i<=lo + k) by lia)]
    exact b2 i (by lia)
   ·rw [if_neg (show ¬ lo + i + 1=lo + t by lia)]
    by_cases z2:i=t
    ·subst z2
     rw [if_pos (show lo + i=lo + i from rfl),if_pos (show lo + i < lo + i + 1/\lo + i + 1<=lo + k by lia),Nat.add_sub_cancel]
     exact O.hA _ _ (b3 i (Nat.le_refl _) (by lia))
    ·rw [if_neg (show ¬ lo + i=lo + t by lia)]
     by_cases z3:t < i
     ·rw [if_pos (show lo + t < lo + i + 1/\lo + i + 1<=lo + k by lia),if_pos (show lo + t < lo + i/\lo + i<=lo + k by lia)]
      have:=up' (i - 1) (by lia)
      rw [show lo + (i - 1) + 1=lo + i by lia,show lo + (i - 1)=lo + i - 1 by lia] at this
      rw [show lo + i + 1 - 1=lo + i by lia]
      exact this
     ·rw [if_neg (show ¬ (lo + t < lo + i + 1/\lo + i + 1<=lo + k) by lia),if_neg (show ¬ (lo + t < lo + i/\lo + i<=lo + k) by lia)]
      exact up' i (by lia)
 ·obtain ⟨o,_⟩:=r
  obtain ⟨rfl,h⟩:=hr
  exact ak ⟨rfl,h⟩
end
end DW.TS
end
section
set_option maxHeartbeats 4000000
namespace DW.TS
open PySem PySem.W PySem.Calls PyProof.Rows
noncomputable def maE (sa:Nat) (r:Array Keyed):StateT SortSt Sem Bool:=do
 modify fun s=>SortSt.mk' (kindOf s) (r.toList.zipIdx.foldl (fun a (x:Keyed×Nat)=>a.setIfInBounds (sa + x.2) x.1) (arrOf s)) (pendingOf s) (gallopOf s) (failedOf s)
 let s <- get
 pure (failedOf s).isNone
noncomputable def maC (arr:Array Keyed) (sa na sb nb:Nat):StateT SortSt Sem Bool:=do
 let y <- elem' arr sb
 let k <- iQ false y arr sa na 0
 match k with
 | some k=>if (na - k == 0)=true then pure true else do
  let x <- elem' arr (sa + k + (na - k) - 1)
  let m <- iQ true x arr sb nb (nb - 1)
  match m with
  | some m=>if (m == 0)=true then pure true else (if na - k<=m then (uX (arr.extract (sa + k) sb) (arr.extract sb (sb + m)) >>= maE (sa + k)) else (uY (arr.extract (sa + k) sb) (arr.extract sb (sb + m)) >>= maE (sa + k)))
  | _=>pure false
 | _=>pure false
noncomputable def ma (i:Nat):StateT SortSt Sem Bool:=do
 let s <- get
 match (pendingOf s)[i]?,(pendingOf s)[i + 1]? with
 | some t,some u=>do
  set (SortSt.mk' (kindOf s) (arrOf s) (((pendingOf s).setIfInBounds i (t.1,t.2.1 + u.2.1,t.2.2)).eraseIdxIfInBounds (i + 1)) (gallopOf s) (failedOf s))
  maC (arrOf s) t.1 t.2.1 u.1 u.2.1
 | _,_=>liftM (unsupported "internal:list.sort.pending" : Sem Bool)
theorem Ck (i:Nat):mergeAt' i=ma i:=by kernel_rfl
noncomputable def srW (pw:Nat) (_:Option Unit×Unit):StateT SortSt Sem (ForInStep (Option Unit×Unit)):=do
 let st <- get
 match (if (pendingOf st).size > 1 then (pendingOf st)[(pendingOf st).size - 2]? else none) with
 | some (_,_,older)=>if older<=pw then pure (.done (none,())) else do
  let b <- mergeAt' ((pendingOf st).size - 2)
  if (!b)=true then pure (.done (some (),())) else pure (.yield (none,()))
 | _=>pure (.done (none,()))
noncomputable def srP (lo n:Nat):StateT SortSt Sem (ForInStep (Option Unit×Nat)):=do
 modify fun s=>setPending s ((pendingOf s).push (lo,n,0))
 pure (.yield (none,lo + n))
noncomputable def srT (size lo n:Nat):StateT SortSt Sem (ForInStep (Option Unit×Nat)):=do
 let st <- get
 match (pendingOf st).back? with
 | some (s1,n1,_)=>do
  let r <- forIn [0:size] ((none,()):Option Unit×Unit) fun _ q=>srW (power' size (2 * s1 + n1) (2 * s1 + n1 + n1 + n) size) q
  match r.1 with
  | some z=>pure (.done (some z,lo))
  | none=>do
   modify fun s=>setPending s ((pendingOf s).modify ((pendingOf s).size - 1) fun u=>(u.1,u.2.1,power' size (2 * s1 + n1) (2 * s1 + n1 + n1 + n) size))
   srP lo n
 | _=>srP lo n
noncomputable def Yv (size mr:Nat) (r:Option Unit×Nat):StateT SortSt Sem (ForInStep (Option Unit×Nat)) :=
 if r.2 ≥ size then pure (.done (none,r.2)) else do
  let x <- countRun' r.2 (size - r.2)
  match x with
  | some found=>if found < mr then (do
    liftM (rule "list.sort.binary-insertion")
    let b <- binarySort' r.2 (min (size - r.2) mr) found
    if (!b)=true then pure (.done (some (),r.2)) else srT size r.2 (min (size - r.2) mr)) else srT size r.2 found
  | _=>pure (.done (some (),r.2))
noncomputable def srF (_:Option Unit×Unit):StateT SortSt Sem (ForInStep (Option Unit×Unit)):=do
 let st <- get
 if (pendingOf st).size<=1 then pure (.done (none,())) else do
  let b <- mergeAt' (if (if (pendingOf st).size - 2 > 0 then (pendingOf st)[(pendingOf st).size - 2 - 1]?.map (·.2.1) else none).any (· < ((pendingOf st)[(pendingOf st).size - 2 + 1]?.elim 0 (·.2.1))) then (pendingOf st).size - 2 - 1 else (pendingOf st).size - 2)
  if (!b)=true then pure (.done (some (),())) else pure (.yield (none,()))
noncomputable def sr:StateT SortSt Sem Unit:=do
 let st <- get
 let r <- forIn [0:(arrOf st).size] ((none,0):Option Unit×Nat) fun _ r=>Yv (arrOf st).size (minRun' (arrOf st).size (arrOf st).size 0) r
 match r.1 with
 | some z=>pure z
 | none=>do
  let q <- forIn [0:(arrOf st).size] ((none,()):Option Unit×Unit) fun _ q=>srF q
  match q.1 with
  | some z=>pure z
  | none=>pure ()
theorem yN:sortRuns'=sr:=by kernel_rfl
noncomputable abbrev seg (l:List Keyed) (s n:Nat):List Keyed:=(l.drop s).take n
theorem sO (l:List Keyed) (s a b:Nat):seg l s (a + b)=seg l s a ++ seg l (s + a) b:=by
 unfold seg
 rw [List.take_add,List.drop_drop]
theorem Bg (l:List Keyed) (s a:Nat):l.take (s + a)=l.take s ++ seg l s a:=List.take_add
theorem Oz (l:List Keyed) (s a:Nat):l.drop s=seg l s a ++ l.drop (s + a):=by
 unfold seg
 rw [<- List.drop_drop,List.take_append_drop]
theorem GC (l:List Keyed) (s a:Nat):l=l.take s ++ seg l s a ++ l.drop (s + a):=by
 rw [<- Bg,List.take_append_drop]
theorem seg_at {arr:Array Keyed} {s n i:Nat} (hz:s + n<=arr.size) (hi:i < n):(seg arr.toList s n)[i]? = some (ka arr (s + i)):=by
 rw [List.getElem?_take_of_lt hi,List.getElem?_drop,Array.getElem?_toList,pC (by lia)]
theorem iD {arr:Array Keyed} {s n:Nat} (hz:s + n<=arr.size):(seg arr.toList s n).length=n:=by
 rw [List.length_take,List.length_drop,Array.length_toList]; lia
theorem gC {arr:Array Keyed} {s n:Nat} {x:Keyed} (hz:s + n<=arr.size) (h:x∈seg arr.toList s n):∃ j,j < n/\x=ka arr (s + j):=by
 obtain ⟨j,hj,e⟩:=tE h
 rw [Array.getElem?_toList,pC (by lia)] at e
 exact ⟨j,hj,(Option.some.inj e).symm⟩
theorem CT (sa:Nat):∀ (r:List Keyed) (j:Nat) (a:Array Keyed),sa + j + r.length<=a.size ->
  ((r.zipIdx j).foldl (fun a (x:Keyed×Nat)=>a.setIfInBounds (sa + x.2) x.1) a).toList=a.toList.take (sa + j) ++ r ++ a.toList.drop (sa + j + r.length)
 | [],j,a,_=>by
  show a.toList=_
  rw [List.append_nil]; exact (List.take_append_drop _ _).symm
 | x :: r,j,a,h=>by
  rw [List.length_cons] at h
  have hl:sa + j < a.toList.length:=by rw [Array.length_toList]; lia
  rw [List.zipIdx_cons,List.foldl_cons,CT sa r (j + 1) _ (by rw [Array.size_setIfInBounds]; lia),Array.toList_setIfInBounds,List.set_eq_take_append_cons_drop,if_pos hl]
  have e1:(a.toList.take (sa + j) ++ x :: a.toList.drop (sa + j + 1)).take (sa + (j + 1))=a.toList.take (sa + j) ++ [x]:=by
   rw [List.take_append,List.length_take,Nat.min_eq_left (by lia),List.take_of_length_le (by rw [List.length_take]; lia),show sa + (j + 1) - (sa + j)=1 by lia]
   rfl
  have e2:(a.toList.take (sa + j) ++ x :: a.toList.drop (sa + j + 1)).drop (sa + (j + 1) + r.length)=a.toList.drop (sa + j + (x :: r).length):=by
   rw [List.drop_append,List.length_take,Nat.min_eq_left (by lia),List.drop_eq_nil_of_le (by rw [List.length_take]; lia),show sa + (j + 1) + r.length - (sa + j)=r.length + 1 by lia,List.drop_succ_cons,List.drop_drop,List.nil_append,List.length_cons]
   rw [show sa + j + 1 + r.length=sa + j + (r.length + 1) by lia]
  show (List.take _ _ ++ r ++ List.drop _ _)=_
  rw [e1,e2,List.append_assoc _ [x] r]
  rfl
section
variable {prog:Program} {w:World} {A:Around} {E:Value->Shared->Prop} {s:Shared} {κ:SortKind} {c:Keyed->Keyed->Bool} {M:Keyed->Prop} {arr aV:Array Keyed} {p:Array (Nat×Nat×Nat)} {g lo nrem:Nat}
theorem Gr (O:Ord c) {n:Nat} (hz:lo + n<=arr.size) (up:Ab c arr lo n):pZ c (seg arr.toList lo n):=by
 refine List.pairwise_iff_getElem.mpr fun i j hi hj hij=>?_
 have hj':j < n:=by rw [iD hz] at hj; exact hj
 have ei:=seg_at hz (show i < n by lia)
 have ej:=seg_at hz hj'
 rw [List.getElem?_eq_getElem hi] at ei
 rw [List.getElem?_eq_getElem hj] at ej
 rw [Option.some.inj ei,Option.some.inj ej]
 have:=Ab.le O up (j - i) i (by lia)
 rw [show i + (j - i)=j by lia] at this
 exact this
theorem Ld (O:Ord c) {n i j:Nat} (hz:lo + n<=arr.size) (h:pZ c (seg arr.toList lo n)) (hij:i<=j) (hj:j < n):c (ka arr (lo + j)) (ka arr (lo + i))=false:=by
 by_cases z:i=j
 ·rw [z]; exact O.irr _
 ·exact ur h (by lia) (seg_at hz (by lia)) (seg_at hz hj)
noncomputable def Mg (c:Keyed->Keyed->Bool) (arr:Array Keyed) (s n:Nat) (arr':Array Keyed):Prop:=∃ Z,arr'.toList=arr.toList.take s ++ Z ++ arr.toList.drop (s + n)/\pZ c Z/\Z.Perm (seg arr.toList s n)
theorem yD {left:Bool} {key:Keyed} {base i:Nat} (h:base + i < arr.size):bd c left key arr base i=HF c left key (ka arr (base + i)):=by
 unfold bd
 rw [pC h]
theorem Wd (O:Ord c) (hc:qb prog w A s κ M c) (hM:∀ x∈arr,M x) {sa na sb nb:Nat} (e:sb=sa + na) (h1:1<=na) (h2:1<=nb) (hz:sb + nb<=arr.size) (s1:pZ c (seg arr.toList sa na)) (s2:pZ c (seg arr.toList sb nb)) :
  kc prog w A E s (maC arr sa na sb nb) (fun b st=>b=true/\∃ arr' g',st=SortSt.mk' κ arr' p g' none/\Mg c arr sa (na + nb) arr') (SortSt.mk' κ arr p g none):=by
 have z1:sa + na<=arr.size:=by lia
 have le1:∀ i j,i<=j->j < na->c (ka arr (sa + j)) (ka arr (sa + i))=false:=fun i j a b=>Ld O z1 s1 a b
 have le2:∀ i j,i<=j->j < nb->c (ka arr (sb + j)) (ka arr (sb + i))=false:=fun i j a b=>Ld O hz s2 a b
 have same:(∀ i j,i < na->j < nb->c (ka arr (sb + j)) (ka arr (sa + i))=false)->Mg c arr sa (na + nb) arr:=fun h=>by
  refine ⟨seg arr.toList sa (na + nb),GC _ _ _,?_,.refl _⟩
  rw [sO,<- e]
  refine List.pairwise_append.mpr ⟨s1,s2,fun x hx y hy=>?_⟩
  obtain ⟨i,hi,rfl⟩:=gC z1 hx
  obtain ⟨j,hj,rfl⟩:=gC hz hy
  exact h i j hi hj
 unfold maC
 refine aj (aO (pC (by lia)) ?_)
 refine aj (gJ hc (hM _ (zj (by lia))) hM z1 (by lia) (fun i j hij hj h=>?_) fun k hk f1 f2=>?_)
 ·rw [yD (by lia)] at h ⊢
  have h:(!c (ka arr sb) (ka arr (sa + j)))=true:=h
  show (!c (ka arr sb) (ka arr (sa + i)))=true
  rw [Bool.not_eq_true'] at h ⊢
  exact O.hT _ _ _ (le1 i j (by lia) hj) h
 have F1:∀ i,i < k->c (ka arr sb) (ka arr (sa + i))=false:=fun i hi=>by
  have:=f1 i hi
  rw [yD (by lia)] at this
  have h:(!c (ka arr sb) (ka arr (sa + i)))=true:=this
  simpa using h
 have F2:∀ i,k<=i->i < na->c (ka arr sb) (ka arr (sa + i))=true:=fun i hi hn=>by
  have:=f2 i hi hn
  rw [yD (by lia)] at this
  have h:(!c (ka arr sb) (ka arr (sa + i)))=false:=this
  simpa using h
 dsimp only
 by_cases y1:na - k=0
 ·rw [if_pos (by simpa using y1)]
  exact ak ⟨rfl,arr,g,rfl,same fun i j hi hj=>O.hT _ _ _ (F1 i (by lia)) (by have:=le2 0 j (by lia) hj; rwa [Nat.add_zero] at this)⟩
 rw [if_neg (by simpa using y1)]
 have el:sa + k + (na - k) - 1=sa + (na - 1):=by lia
 rw [el]
 refine aj (aO (pC (by lia)) ?_)
 refine aj (gJ hc (hM _ (zj (by lia))) hM hz (by lia) (fun i j hij hj h=>?_) fun m hm f3 f4=>?_)
 ·rw [yD (by lia)] at h ⊢
  have h:c (ka arr (sb + j)) (ka arr (sa + (na - 1)))=true:=h
  show c (ka arr (sb + i)) (ka arr (sa + (na - 1)))=true
  cases q:c (ka arr (sb + i)) (ka arr (sa + (na - 1))) with
  | true=>rfl
  | false =>
   have:=O.hT _ _ _ q (le2 i j (by lia) hj)
   rw [h] at this; cases this
 have F3:∀ i,i < m->c (ka arr (sb + i)) (ka arr (sa + (na - 1)))=true:=fun i hi=>by
  have:=f3 i hi
  rw [yD (by lia)] at this
  exact this
 have F4:∀ i,m<=i->i < nb->c (ka arr (sb + i)) (ka arr (sa + (na - 1)))=false:=fun i hi hn=>by
  have:=f4 i hi hn
  rw [yD (by lia)] at this
  exact this
 dsimp only
 by_cases y2:m=0
 ·rw [if_pos (by simpa using y2)]
  exact ak ⟨rfl,arr,g,rfl,same fun i j hi hj=>O.hT _ _ _ (le1 i (na - 1) (by lia) (by lia)) (F4 j (by lia) hj)⟩
 rw [if_neg (by simpa using y2)]
 have ex:(arr.extract (sa + k) sb).toList=seg arr.toList (sa + k) (na - k):=by
  rw [show sb=sa + k + (na - k) by lia]; exact pP _ _ _
 have ey:(arr.extract sb (sb + m)).toList=seg arr.toList sb m:=pP _ _ _
 have zx:sa + k + (na - k)<=arr.size:=by lia
 have zy:sb + m<=arr.size:=by lia
 have d1:seg arr.toList sa na=seg arr.toList sa k ++ seg arr.toList (sa + k) (na - k):=by rw [<- sO,show k + (na - k)=na by lia]
 have d2:seg arr.toList sb nb=seg arr.toList sb m ++ seg arr.toList (sb + m) (nb - m):=by rw [<- sO,show m + (nb - m)=nb by lia]
 rw [d1] at s1
 rw [d2] at s2
 obtain ⟨s1p,s1x,s1c⟩:=List.pairwise_append.mp s1
 obtain ⟨s2y,s2t,s2c⟩:=List.pairwise_append.mp s2
 have mx:∀ x∈arr.extract (sa + k) sb,M x:=fun x hx=>by
  rw [<- Array.mem_toList_iff,ex] at hx
  exact hM _ (Array.mem_toList_iff.mp (List.mem_of_mem_drop (List.mem_of_mem_take hx)))
 have my:∀ x∈arr.extract sb (sb + m),M x:=fun x hx=>by
  rw [<- Array.mem_toList_iff,ey] at hx
  exact hM _ (Array.mem_toList_iff.mp (List.mem_of_mem_drop (List.mem_of_mem_take hx)))
 have nx:(arr.extract (sa + k) sb).size=na - k:=by rw [<- Array.length_toList,ex,iD zx]
 have ny:(arr.extract sb (sb + m)).size=m:=by rw [<- Array.length_toList,ey,iD zy]
 have fin:∀ (r:Array Keyed) (g':Nat),Good c (arr.extract (sa + k) sb).toList (arr.extract sb (sb + m)).toList r->kc prog w A E s (maE (sa + k) r) (fun b st=>b=true/\∃ arr' g',st=SortSt.mk' κ arr' p g' none/\Mg c arr sa (na + nb) arr') (SortSt.mk' κ arr p g' none):=fun r g' hg=>by
  obtain ⟨gs,gp⟩:=hg
  rw [ex,ey] at gp
  have rl:r.toList.length=na - k + m:=by rw [gp.length_eq,List.length_append,iD zx,iD zy]
  unfold maE
  refine aj (nY (aj (jJ (ak ⟨rfl,_,g',rfl,seg arr.toList sa k ++ r.toList ++ seg arr.toList (sb + m) (nb - m),?_,?_,?_⟩))))
  ·show (List.foldl _ arr r.toList.zipIdx).toList=_
   rw [CT (sa + k) r.toList 0 arr (by lia),Nat.add_zero,Bg,rl,show sa + k + (na - k + m)=sb + m by lia,Oz arr.toList (sb + m) (nb - m),show sb + m + (nb - m)=sa + (na + nb) by lia]
   simp only [List.append_assoc]
  ·refine List.pairwise_append.mpr ⟨List.pairwise_append.mpr ⟨s1p,gs,fun x hx y hy=>?_⟩,s2t,fun x hx y hy=>?_⟩
   ·rcases List.mem_append.mp (gp.mem_iff.mp hy) with hy | hy
    ·exact s1c x hx y hy
    ·obtain ⟨i,hi,rfl⟩:=gC (by lia) hx
     obtain ⟨j,hj,rfl⟩:=gC zy hy
     exact O.hT _ _ _ (F1 i hi) (by have:=le2 0 j (by lia) (by lia); rwa [Nat.add_zero] at this)
   ·obtain ⟨j,hj,rfl⟩:=gC (by lia) hy
    have tt:=F4 (m + j) (by lia) (by lia)
    rw [<- Nat.add_assoc] at tt
    rcases List.mem_append.mp hx with hx | hx
    ·obtain ⟨i,hi,rfl⟩:=gC (by lia) hx
     exact O.hT _ _ _ (le1 i (na - 1) (by lia) (by lia)) tt
    ·rcases List.mem_append.mp (gp.mem_iff.mp hx) with hx | hx
     ·obtain ⟨i,hi,rfl⟩:=gC zx hx
      have:=le1 (k + i) (na - 1) (by lia) (by lia)
      rw [<- Nat.add_assoc] at this
      exact O.hT _ _ _ this tt
     ·exact s2c x hx _ hy
  ·rw [sO,<- e,d1,d2]
   refine ((gp.append_left _).append_right _).trans ?_
   simp only [List.append_assoc]
   exact .refl _
 have xy:∀ x∈(arr.extract (sa + k) sb).toList,c (ka arr sb) x=true:=fun x hx=>by
  rw [ex] at hx
  obtain ⟨i,hi,rfl⟩:=gC zx hx
  have:=F2 (k + i) (by lia) (by lia)
  rwa [<- Nat.add_assoc] at this
 have lst:∀ y∈(arr.extract sb (sb + m)).toList,c (ka arr (sa + (na - 1))) y=false:=fun y hy=>by
  rw [ey] at hy
  obtain ⟨i,hi,rfl⟩:=gC zy hy
  exact O.hA _ _ (F3 i hi)
 split
 ·refine aj (aF (Zb ⟨O.hA,O.hT,mx,my,ex ▸ s1x,ey ▸ s2y,fun x hx y hy=>?_⟩ hc (by lia) (by lia) fun x y hx hy=>?_) fun r st hr=>?_)
  ·rw [ex,nx] at hx
   obtain ⟨j,hj,hlt⟩:=zE hx
   rw [iD zx] at hlt
   rw [seg_at zx (by lia)] at hj
   have:x=ka arr (sa + (na - 1)):=by rw [<- Option.some.inj hj]; congr 1; lia
   rw [this]
   exact lst y hy
  ·rw [ey] at hy
   rw [seg_at zy (by lia),Nat.add_zero] at hy
   rw [<- Option.some.inj hy]
   exact xy x (List.mem_of_getElem? hx)
  ·obtain ⟨⟨g',rfl⟩,hg⟩:=hr
   exact fin r g' hg
 ·refine aj (aF (Zn ⟨O.hA,O.hT,mx,my,ex ▸ s1x,ey ▸ s2y,fun x hx y hy=>?_⟩ hc (by lia) (by lia) fun x hx y hy=>?_) fun r st hr=>?_)
  ·rw [ey] at hy
   obtain ⟨j,hj,e2⟩:=su hy
   have j0:j=0:=by lia
   subst j0
   rw [seg_at zy (by lia),Nat.add_zero] at e2
   rw [<- Option.some.inj e2]
   exact O.hA _ _ (xy x hx)
  ·rw [ex,nx,seg_at zx (by lia)] at hx
   have:x=ka arr (sa + (na - 1)):=by rw [<- Option.some.inj hx]; congr 1; lia
   rw [this]
   exact lst y hy
  ·obtain ⟨⟨g',rfl⟩,hg⟩:=hr
   exact fin r g' hg
end
end DW.TS
end
section
set_option maxHeartbeats 4000000
namespace DW.TS
open PySem PySem.W PySem.Calls PyProof.Rows
noncomputable def ps (p:Array (Nat×Nat×Nat)):List (Nat×Nat):=p.toList.map fun t=>(t.1,t.2.1)
noncomputable def lW (c:Keyed->Keyed->Bool) (l:List Keyed):Nat->List (Nat×Nat)->Nat->Prop
 | a,[],e=>a=e
 | a,t :: q,e=>t.1=a/\1<=t.2/\pZ c (seg l t.1 t.2)/\lW c l (t.1 + t.2) q e
section
variable {prog:Program} {w:World} {A:Around} {E:Value->Shared->Prop} {s:Shared} {κ:SortKind} {c:Keyed->Keyed->Bool} {M:Keyed->Prop} {arr aV:Array Keyed} {p:Array (Nat×Nat×Nat)} {g lo nrem:Nat}
theorem Wt {st' st:SortSt} {Q:PUnit->SortSt->Prop} (h:Q ⟨⟩ st'):kc prog w A E s (set st') Q st:=nY (f:=fun _=>st') h
theorem kY {l:List Keyed}:∀ (q1:List (Nat×Nat)) {q2:List (Nat×Nat)} {a e:Nat},lW c l a (q1 ++ q2) e<->∃ m,lW c l a q1 m/\lW c l m q2 e
 | [],q2,a,e=>⟨fun h=>⟨a,rfl,h⟩,fun ⟨m,h1,h2⟩=>by have h1:a=m:=h1; subst h1; exact h2⟩
 | t :: q1,q2,a,e=>⟨fun ⟨h1,h2,h3,h4⟩=>by
   obtain ⟨m,h5,h6⟩:=(kY q1).mp h4
   exact ⟨m,⟨h1,h2,h3,h5⟩,h6⟩,fun ⟨m,⟨h1,h2,h3,h4⟩,h5⟩=>⟨h1,h2,h3,(kY q1).mpr ⟨m,h4,h5⟩⟩⟩
theorem sJ {l:List Keyed}:∀ {q:List (Nat×Nat)} {a e:Nat},lW c l a q e->a + q.length<=e
 | [],a,e,h=>by have h:a=e:=h; simp [h]
 | t :: q,a,e,⟨h1,h2,h3,h4⟩=>by have:=sJ h4; rw [List.length_cons]; lia
theorem jC {l l':List Keyed}:∀ {q:List (Nat×Nat)} {a e:Nat},lW c l a q e->(∀ s n,a<=s->s + n<=e->seg l' s n=seg l s n)->lW c l' a q e
 | [],a,e,h,_=>h
 | t :: q,a,e,⟨h1,h2,h3,h4⟩,k=>⟨h1,h2,by rw [k _ _ (by lia) (by have:=sJ h4; lia)]; exact h3,jC h4 fun s n a1 a2=>k s n (by lia) a2⟩
theorem mz {l l':List Keyed} {a b:Nat} (h:∀ k,a<=k->k < a + b->l'[k]? = l[k]?):seg l' a b=seg l a b:=by
 apply List.ext_getElem?
 intro i
 by_cases z:i < b
 ·rw [List.getElem?_take_of_lt z,List.getElem?_take_of_lt z,List.getElem?_drop,List.getElem?_drop]
  exact h _ (by lia) (by lia)
 ·rw [List.getElem?_take_eq_none (by lia),List.getElem?_take_eq_none (by lia)]
section
variable {arr':Array Keyed} {sa n:Nat}
theorem Mg.at (h:Mg c arr sa n arr') (hz:sa + n<=arr.size) {k:Nat} (hk:k < sa∨sa + n<=k):arr'.toList[k]? = arr.toList[k]?:=by
 obtain ⟨Z,e,_,h3⟩:=h
 have l1:(arr.toList.take sa).length=sa:=by rw [List.length_take,Array.length_toList]; lia
 have l2:Z.length=n:=by rw [h3.length_eq,iD hz]
 rw [e]
 rcases hk with hk | hk
 ·rw [List.getElem?_append_left (by rw [List.length_append]; lia),List.getElem?_append_left (by lia),List.getElem?_take_of_lt hk]
 ·rw [List.getElem?_append_right (by rw [List.length_append]; lia),List.length_append,l1,l2,List.getElem?_drop,show sa + n + (k - (sa + n))=k by lia]
theorem Mg.Gy (h:Mg c arr sa n arr') (hz:sa + n<=arr.size):pZ c (seg arr'.toList sa n):=by
 obtain ⟨Z,e,h2,h3⟩:=h
 have l1:(arr.toList.take sa).length=sa:=by rw [List.length_take,Array.length_toList]; lia
 have l2:Z.length=n:=by rw [h3.length_eq,iD hz]
 have:seg arr'.toList sa n=Z:=by
  unfold seg
  rw [e,List.append_assoc]
  conv=>lhs; arg 2; arg 1; rw [<- l1]
  rw [List.drop_left,<- l2,List.take_left]
 rw [this]; exact h2
theorem Mg.perm (h:Mg c arr sa n arr'):arr'.Perm arr:=by
 obtain ⟨Z,e,_,h3⟩:=h
 refine Array.perm_iff_toList_perm.mpr ?_
 rw [e]
 conv=>rhs; rw [GC arr.toList sa n]
 exact (h3.append_left _).append_right _
end
theorem JD {α:Type} (p:Array α) (i:Nat) (p1 p2:List α) (t u v:α) (e:p.toList=p1 ++ t :: u :: p2) (hi:p1.length=i):((p.setIfInBounds i v).eraseIdxIfInBounds (i + 1)).toList=p1 ++ v :: p2:=by
 subst hi
 obtain ⟨l⟩:=p
 have e:l=p1 ++ t :: u :: p2:=e
 subst e
 simp [Array.eraseIdxIfInBounds,List.eraseIdx_append_of_length_le]
theorem uZ (O:Ord c) (hc:qb prog w A s κ M c) (hM:∀ x∈arr,M x) {i e:Nat} (hi:i + 1 < p.size) (he:e<=arr.size) (sg:lW c arr.toList 0 (ps p) e) :
  kc prog w A E s (mergeAt' i) (fun b st=>b=true/\∃ arr' p' g',st=SortSt.mk' κ arr' p' g' none/\p'.size + 1=p.size/\lW c arr'.toList 0 (ps p') e/\arr'.Perm arr/\∀ k,e<=k->arr'.toList[k]? = arr.toList[k]?) (SortSt.mk' κ arr p g none):=by
 rw [Ck]
 have hl:i + 1 < p.toList.length:=by rw [Array.length_toList]; exact hi
 have ep:p.toList=p.toList.take i ++ p.toList[i] :: p.toList[i + 1] :: p.toList.drop (i + 1 + 1):=by
  rw [List.getElem_cons_drop,List.getElem_cons_drop,List.take_append_drop]
 have hn:(p.toList.take i).length=i:=by rw [List.length_take]; lia
 have e1:p[i]? = some p.toList[i]:=by rw [<- Array.getElem?_toList]; exact List.getElem?_eq_getElem (by lia)
 have e2:p[i + 1]? = some p.toList[i + 1]:=by rw [<- Array.getElem?_toList]; exact List.getElem?_eq_getElem hl
 generalize p.toList[i]=t at ep e1
 generalize p.toList[i + 1]=u at ep e2
 generalize p.toList.take i=p1 at ep hn
 generalize p.toList.drop (i + 1 + 1)=p2 at ep
 obtain ⟨sa,na,pw⟩:=t
 obtain ⟨sb,nb,pw2⟩:=u
 have en:=JD p i p1 p2 (sa,na,pw) (sb,nb,pw2) (sa,na + nb,pw) ep hn
 unfold ps at sg
 rw [ep,List.map_append,List.map_cons,List.map_cons] at sg
 obtain ⟨m,g1,a1,a2,a3,b1,b2,b3,b4⟩:=(kY _).mp sg
 simp only at a1 a2 a3 b1 b2 b3 b4
 subst a1 b1
 have le1:=sJ b4
 unfold ma
 refine aj (jJ ?_)
 show kc prog w A E s (match p[i]?,p[i + 1]? with | some t,some u=>_ | _,_=>_) _ _
 rw [e1,e2]
 refine aj (Wt ?_)
 show kc prog w A E s (maC arr sa na (sa + na) nb) _ (SortSt.mk' κ arr ((p.setIfInBounds i (sa,na + nb,pw)).eraseIdxIfInBounds (i + 1)) g none)
 refine aF (Wd O hc hM rfl a2 b2 (by lia) a3 b3) fun b st hb=>?_
 obtain ⟨rfl,arr',g',rfl,mg⟩:=hb
 have hz:sa + (na + nb)<=arr.size:=by lia
 refine ⟨rfl,arr',_,g',rfl,?_,?_,mg.perm,fun k hk=>mg.at hz (by lia)⟩
 ·have x1:=congrArg List.length en
  have x2:=congrArg List.length ep
  simp only [Array.length_toList,List.length_append,List.length_cons] at x1 x2
  lia
 ·unfold ps
  rw [en,List.map_append,List.map_cons]
  refine (kY _).mpr ⟨sa,jC g1 fun s n c1 c2=>mz fun k d1 d2=>mg.at hz (by lia),rfl,by show 1<=na + nb; lia,mg.Gy hz,?_⟩
  rw [show sa + na + nb=sa + (na + nb) by lia] at b4
  exact jC b4 fun s n c1 c2=>mz fun k d1 d2=>mg.at hz (by have c1:sa + (na + nb)<=s:=c1; lia)
theorem Io {f:Nat×Nat×Nat->Nat×Nat×Nat} (hf:∀ t,(f t).1=t.1/\(f t).2.1=t.2.1) (i:Nat):ps (p.modify i f)=ps p:=by
 unfold ps
 apply List.ext_getElem?
 intro k
 rw [List.getElem?_map,List.getElem?_map,Array.getElem?_toList,Array.getElem?_toList,Array.getElem?_modify]
 split
 ·cases p[k]? with
  | none=>rfl
  | some t=>show some ((f t).1,(f t).2.1)=some (t.1,t.2.1); rw [(hf t).1,(hf t).2]
 ·rfl
theorem Lp (p:Array (Nat×Nat×Nat)):(ps p).length=p.size:=by unfold ps; rw [List.length_map,Array.length_toList]
noncomputable def Mid (κ:SortKind) (c:Keyed->Keyed->Bool) (aV:Array Keyed) (lo n:Nat) (st:SortSt):Prop:=∃ arr p g,st=SortSt.mk' κ arr p g none/\arr.Perm aV/\lW c arr.toList 0 (ps p) lo/\pZ c (seg arr.toList lo n)
theorem K6 {n:Nat} {st:SortSt} (hn:1<=n) (h:Mid κ c aV lo n st):kc prog w A E s (srP lo n) (fun r st=>r = .yield (none,lo + n)/\Mid κ c aV (lo + n) 0 st) st:=by
 obtain ⟨arr,p,g,rfl,h1,h2,h3⟩:=h
 unfold srP
 refine aj (nY (ak ⟨rfl,arr,_,g,rfl,h1,?_,by simp [seg]⟩))
 show lW c arr.toList 0 (ps (p.push (lo,n,0))) (lo + n)
 unfold ps
 rw [Array.toList_push,List.map_append]
 exact (kY _).mpr ⟨lo,h2,rfl,hn,h3,rfl⟩
theorem Vr (O:Ord c) (hc:qb prog w A s κ M c) (hM:∀ x∈aV,M x) {n pw:Nat} (hz:lo + n<=aV.size) {st:SortSt} {q:Option Unit×Unit} (h:Mid κ c aV lo n st) :
  kc prog w A E s (srW pw q) (fun r st=>Mid κ c aV lo n st/\match r with | .done q=>q.1=none | .yield q=>q.1=none) st:=by
 obtain ⟨arr,p,g,rfl,h1,h2,h3⟩:=h
 unfold srW
 refine aj (jJ ?_)
 show kc prog w A E s (match (if p.size > 1 then p[p.size - 2]? else none) with | some (_,_,older)=>_ | _=>_) _ _
 by_cases z:p.size > 1
 ·rw [if_pos z]
  have e1:p[p.size - 2]? = some p[p.size - 2]:=Array.getElem?_eq_getElem (by lia)
  rw [e1]
  obtain ⟨t1,t2,older⟩:=p[p.size - 2]
  dsimp only
  by_cases y:older<=pw
  ·rw [if_pos y]
   exact ak ⟨⟨arr,p,g,rfl,h1,h2,h3⟩,rfl⟩
  ·rw [if_neg y]
   have hs:=h1.size_eq
   refine aj (aF (uZ O hc (fun x hx=>hM x (h1.mem_iff.mp hx)) (by lia:p.size - 2 + 1 < p.size) (by lia:lo<=arr.size) h2) fun b st hb=>?_)
   obtain ⟨rfl,arr',p',g',rfl,_,k2,k3,k4⟩:=hb
   refine ak ⟨⟨arr',p',g',rfl,k3.trans h1,k2,?_⟩,rfl⟩
   rw [mz fun k a1 _=>k4 k a1]
   exact h3
 ·rw [if_neg z]
  exact ak ⟨⟨arr,p,g,rfl,h1,h2,h3⟩,rfl⟩
theorem K5 (O:Ord c) (hc:qb prog w A s κ M c) (hM:∀ x∈aV,M x) {n size:Nat} (hn:1<=n) (hz:lo + n<=aV.size) {st:SortSt} (h:Mid κ c aV lo n st) :
  kc prog w A E s (srT size lo n) (fun r st=>r = .yield (none,lo + n)/\Mid κ c aV (lo + n) 0 st) st:=by
 unfold srT
 refine aj (jJ ?_)
 split
 ·rename_i s1 n1 _ _
  refine aj (aF (cH (Q:=fun q st=>q.1=none/\Mid κ c aV lo n st) (fun _ q st=>q.1=none/\Mid κ c aV lo n st) (fun k x q st hq=>aF (Vr O hc hM hz hq.2) fun r st hr=>?_) (fun _ _ h=>h) _ _ ⟨rfl,h⟩) fun q st hq=>?_)
  ·cases r with
   | done q=>exact ⟨hr.2,hr.1⟩
   | yield q=>exact ⟨hr.2,hr.1⟩
  ·obtain ⟨o,_⟩:=q
   obtain ⟨rfl,hm⟩:=hq
   obtain ⟨arr,p,g,rfl,h1,h2,h3⟩:=hm
   refine aj (nY (K6 hn ⟨arr,_,g,rfl,h1,?_,h3⟩))
   have e:=Io (p:=p) (f:=fun u=>(u.1,u.2.1,power' size (2 * s1 + n1) (2 * s1 + n1 + n1 + n) size)) (fun _=>⟨rfl,rfl⟩) (p.size - 1)
   exact e ▸ h2
 ·exact K6 hn h
theorem Vs (O:Ord c) (hc:qb prog w A s κ M c) (hM:∀ x∈aV,M x) {mr:Nat} (hl:lo < aV.size) {o:Option Unit} {st:SortSt} (h:Mid κ c aV lo 0 st) :
  kc prog w A E s (Yv aV.size mr (o,lo)) (fun r st=>∃ n,1<=n/\lo + n<=aV.size/\r = .yield (none,lo + n)/\Mid κ c aV (lo + n) 0 st) st:=by
 unfold Yv
 dsimp only
 rw [if_neg (by lia)]
 obtain ⟨arr,p,g,rfl,h1,h2,_⟩:=h
 have hs:=h1.size_eq
 refine aj (aF (O4 O hc (fun x hx=>hM x (h1.mem_iff.mp hx)) (by lia:1<=aV.size - lo) (by lia)) fun r st hr=>?_)
 obtain ⟨m,Xo,rfl,rfl,R,m1,m2,up⟩:=hr
 have same:∀ {gG:Array Keyed},Rq arr lo gG->lW c gG.toList 0 (ps p) lo:=fun {gG} R=>jC h2 fun s n a1 a2=>mz fun k b1 b2=>by
  rw [Array.getElem?_toList,Array.getElem?_toList,pC (by rw [R.size]; lia),pC (by lia),R.same k (by lia)]
 dsimp only
 by_cases z:m < mr
 ·rw [if_pos z]
  refine aj (mG (aj (aF (ZL O hc (fun x hx=>hM x (h1.mem_iff.mp hx)) R m1 (by lia:m<=min (aV.size - lo) mr) (by lia) up) fun b st hb=>?_)))
  obtain ⟨rfl,gG,rfl,R2,up2⟩:=hb
  have hn:1<=min (aV.size - lo) mr:=by lia
  have hz:lo + min (aV.size - lo) mr<=aV.size:=by lia
  refine aF (K5 O hc hM hn hz ⟨gG,p,g,rfl,R2.perm.trans h1,same R2,Gr O (by rw [R2.size]; lia) up2⟩) fun r st hr=>⟨_,hn,hz,hr.1,hr.2⟩
 ·rw [if_neg z]
  have hz:lo + m<=aV.size:=by lia
  exact aF (K5 O hc hM m1 hz ⟨Xo,p,g,rfl,R.perm.trans h1,same R,Gr O (by rw [R.size]; lia) up⟩) fun r st hr=>⟨_,m1,hz,hr.1,hr.2⟩
theorem Yu (O:Ord c) (hc:qb prog w A s κ M c) (hM:∀ x∈arr,M x) (h1:1<=arr.size) :
  kc prog w A E s sortRuns' (fun _ st=>∃ arr' p' g',st=SortSt.mk' κ arr' p' g' none/\arr'.Perm arr/\pZ c arr'.toList) (SortSt.mk' κ arr #[] g none):=by
 rw [yN]
 unfold sr
 refine aj (jJ ?_)
 show kc prog w A E s (forIn [0:arr.size] ((none,0):Option Unit×Nat) (fun _ r=>Yv arr.size (minRun' arr.size arr.size 0) r) >>= _) _ _
 refine aj (aF (cH (Q:=fun q st=>q.1=none/\Mid κ c arr arr.size 0 st) (fun k q st=>q.1=none/\q.2<=arr.size/\arr.size<=q.2 + k/\Mid κ c arr q.2 0 st) ?_ ?_ _ _ ⟨rfl,Nat.zero_le _,by show arr.size<=0 + arr.size; lia,(show Mid κ c arr 0 0 (SortSt.mk' κ arr #[] g none) from ⟨arr,#[],g,rfl,.refl _,(show lW c arr.toList 0 [] 0 from rfl),by simp [seg]⟩)⟩) fun q st hq=>?_)
 ·rintro k x ⟨o,lo⟩ st ⟨rfl,q1,q2,q3⟩
  simp only at q1 q2 q3
  by_cases z:lo=arr.size
  ·subst z
   unfold Yv
   dsimp only
   rw [if_pos (Nat.le_refl _)]
   exact ak ⟨rfl,q3⟩
  ·refine aF (Vs O hc hM (by lia) q3) fun r st hr=>?_
   obtain ⟨n,n1,n2,rfl,n3⟩:=hr
   exact ⟨rfl,n2,by show arr.size<=lo + n + k; lia,n3⟩
 ·rintro ⟨o,lo⟩ st ⟨rfl,q1,q2,q3⟩
  simp only at q1 q2 q3
  have:lo=arr.size:=by lia
  subst this
  exact ⟨rfl,q3⟩
 ·obtain ⟨o,_⟩:=q
  obtain ⟨rfl,Xo,p1,g1,rfl,k1,k2,_⟩:=hq
  have hp:=sJ k2
  rw [Lp] at hp
  refine aj (aF (cH (Q:=fun q st=>q.1=none/\∃ arr' p' g',st=SortSt.mk' κ arr' p' g' none/\arr'.Perm arr/\lW c arr'.toList 0 (ps p') arr.size/\p'.size<=1) (fun k q st=>q.1=none/\∃ arr' p' g',st=SortSt.mk' κ arr' p' g' none/\arr'.Perm arr/\lW c arr'.toList 0 (ps p') arr.size/\p'.size<=k + 1) ?_ ?_ _ _ ⟨rfl,Xo,p1,g1,rfl,k1,k2,by show p1.size<=arr.size + 1; lia⟩) fun q st hq=>?_)
  ·rintro k x ⟨o,_⟩ st ⟨rfl,gG,p2,g2,rfl,l1,l2,l3⟩
   unfold srF
   refine aj (jJ ?_)
   by_cases z:p2.size<=1
   ·rw [if_pos (show (pendingOf (SortSt.mk' κ gG p2 g2 none)).size<=1 from z)]
    exact ak ⟨rfl,gG,p2,g2,rfl,l1,l2,z⟩
   ·rw [if_neg (show ¬ (pendingOf (SortSt.mk' κ gG p2 g2 none)).size<=1 from z)]
    have hs:=l1.size_eq
    have fin:∀ i,i + 1 < p2.size->kc prog w A E s (mergeAt' i >>= fun b=>if (!b)=true then pure (ForInStep.done ((some (),()):Option Unit×Unit)) else pure (ForInStep.yield (none,()))) (fun r st=>match r with | .done q=>q.1=none/\∃ arr' p' g',st=SortSt.mk' κ arr' p' g' none/\arr'.Perm arr/\lW c arr'.toList 0 (ps p') arr.size/\p'.size<=1 | .yield q=>q.1=none/\∃ arr' p' g',st=SortSt.mk' κ arr' p' g' none/\arr'.Perm arr/\lW c arr'.toList 0 (ps p') arr.size/\p'.size<=k + 1) (SortSt.mk' κ gG p2 g2 none):=fun i hi=>by
     refine aj (aF (uZ O hc (fun x hx=>hM x (l1.mem_iff.mp hx)) hi (by lia) l2) fun b st hb=>?_)
     obtain ⟨rfl,arr',p',g',rfl,j1,j2,j3,_⟩:=hb
     exact ak ⟨rfl,arr',p',g',rfl,j3.trans l1,j2,by lia⟩
    have bnd:∀ {P:Prop} [Decidable P],(if P then p2.size - 2 - 1 else p2.size - 2) + 1 < p2.size:=fun {P} _=>by split <;> lia
    refine aF (fin _ ?_) fun r st h=>?_
    ·exact bnd
    ·cases r <;> exact h
  ·rintro ⟨o,_⟩ st ⟨rfl,gG,p2,g2,rfl,l1,l2,l3⟩
   exact ⟨rfl,gG,p2,g2,rfl,l1,l2,by lia⟩
  ·obtain ⟨o,_⟩:=q
   obtain ⟨rfl,gG,p2,g2,rfl,l1,l2,l3⟩:=hq
   refine ak ⟨gG,p2,g2,rfl,l1,?_⟩
   have hs:=l1.size_eq
   have hl:=Lp p2
   match hq:ps p2,l2 with
   | [],l2=>have l2:0=arr.size:=l2; lia
   | [(a,n)],⟨a1,_,a3,a4⟩ =>
    have a1:a=0:=a1
    have a4:a + n=arr.size:=a4
    subst a1
    have a3:pZ c (seg gG.toList 0 n):=a3
    unfold seg at a3
    rwa [List.drop_zero,List.take_of_length_le (by rw [Array.length_toList]; lia)] at a3
   | _ :: _ :: _,_=>rw [hq] at hl; simp only [List.length_cons] at hl; lia
end
end DW.TS
end
section
set_option maxHeartbeats 4000000
namespace DW
open PySem PySem.W PySem.Calls PyProof.Rows DW.TS
theorem Iw {α β:Type} {f:α->β} {l m:List β} (h:l.Perm m):∀ q:List α,m=q.map f->∃ q':List α,q'.Perm q/\q'.map f=l:=by
 induction h with
 | nil=>intro q e; exact ⟨q,.refl _,e.symm⟩
 | cons x _ ih =>
  intro q e
  cases q with
  | nil=>cases e
  | cons a q =>
   rw [List.map_cons] at e
   injection e with e1 e2
   obtain ⟨q',h1,h2⟩:=ih q e2
   exact ⟨a :: q',h1.cons a,by rw [List.map_cons,h2,e1]⟩
 | swap x y l =>
  intro q e
  match q,e with
  | a :: b :: q,e =>
   rw [List.map_cons,List.map_cons] at e
   injection e with e1 e2
   injection e2 with e2 e3
   exact ⟨b :: a :: q,.swap _ _ _,by rw [List.map_cons,List.map_cons,<- e1,<- e2,<- e3]⟩
  | [_],e=>simp at e
  | [],e=>simp at e
 | trans _ _ ih1 ih2 =>
  intro q e
  obtain ⟨q1,h1,h2⟩:=ih2 q e
  obtain ⟨q2,h3,h4⟩:=ih1 q1 h2.symm
  exact ⟨q2,h3.trans h1,h4⟩
noncomputable def Same (vs:List Value) (lt:Nat->Nat->Bool):Prop:=∀ i i' j j':Nat,i < vs.length->j < vs.length->vs[i]? = vs[i']?->vs[j]? = vs[j']?->lt i j=lt i' j'
theorem Im {vs:List Value} {lt:Nat->Nat->Bool} (h2:2<=vs.length) (sm:Same vs lt) (hA:∀ a b,lt a b=true->lt b a=false) (hT:∀ a b c,lt b a=false->lt c b=false->lt c a=false):Ac vs lt:=by
 classical
 intro prog w A E s κ hc Q h
 let idx:Keyed->Nat:=fun x=>if e:∃ i,vs[i]? = some x.1 then Classical.choose e else 0
 have hidx:∀ x:Keyed,(∃ i,vs[i]? = some x.1)->vs[idx x]? = some x.1:=fun x e=>by
  show vs[if e:∃ i,vs[i]? = some x.1 then Classical.choose e else 0]? = _
  rw [dif_pos e]; exact Classical.choose_spec e
 have Uk:∀ {i:Nat} {v:Value},vs[i]? = some v->i < vs.length:=fun e=>(List.getElem?_eq_some_iff.mp e).1
 have O:Ord fun x y=>lt (idx x) (idx y):=⟨fun x y=>hA _ _,fun x y z=>hT _ _ _⟩
 have cm:qb prog w A s κ (fun x:Keyed=>∃ i,vs[i]? = some x.1) fun x y=>lt (idx x) (idx y):=fun x y hx hy C hC=>by
  have e1:=hidx x hx
  have e2:=hidx y hy
  have:=hc (idx x) (idx y) C (Uk e1) (Uk e2) hC
  unfold kas_ask at this
  rwa [List.getD_eq_getElem?_getD,List.getD_eq_getElem?_getD,e1,e2] at this
 have sz:(vs.toArray.zip vs.toArray).size=vs.length:=by simp
 have at0:∀ i,i < vs.length->kas_item (vs.toArray.zip vs.toArray) i=(vs.getD i Value.none,vs.getD i Value.none):=fun i hi=>by
  simp [kas_item,Array.getD,hi]
 have el:(vs.toArray.zip vs.toArray).toList=(List.range vs.length).map (kas_item (vs.toArray.zip vs.toArray)):=by
  have:=congrArg Array.toList (kas_range (vs.toArray.zip vs.toArray))
  rw [sz] at this
  simpa using this.symm
 have hM:∀ x∈vs.toArray.zip vs.toArray,∃ i,vs[i]? = some x.1:=fun x hx=>by
  rw [<- Array.mem_toList_iff,el] at hx
  obtain ⟨i,hi,rfl⟩:=List.mem_map.mp hx
  have hi:i < vs.length:=by simpa using hi
  exact ⟨i,by rw [at0 i hi]; show vs[i]? = some (vs.getD i Value.none); rw [List.getD_eq_getElem?_getD,List.getElem?_eq_getElem hi]; rfl⟩
 have run:=Yu (E:=E) (g:=7) O cm hM (by rw [sz]; lia)
 unfold kc at run
 refine wpAny_mono run ?_ fun _ _ e=>e
 rintro ⟨⟨⟩,st'⟩ s' ⟨rfl,arr',p',g',rfl,hp,hs⟩
 have hp':=Array.perm_iff_toList_perm.mp hp
 obtain ⟨q,q1,q2⟩:=Iw hp' _ el
 have ql:q.length=vs.length:=by rw [q1.length_eq,List.length_range]
 refine h q.toArray _ (Array.perm_iff_toList_perm.mpr (by simpa using q1)) (fun i hi=>?_) ?_ rfl
 ·have hi0:i < q.length:=by lia
  have hi1:i + 1 < q.length:=by lia
  have b0:q[i] < vs.length:=by simpa using q1.mem_iff.mp (List.getElem_mem hi0)
  have b1:q[i + 1] < vs.length:=by simpa using q1.mem_iff.mp (List.getElem_mem hi1)
  have r0:arr'.toList[i]? = some (vs[q[i]],vs[q[i]]):=by rw [<- q2,List.getElem?_map,List.getElem?_eq_getElem hi0,Option.map_some,at0 _ b0]; simp [b0]
  have r1:arr'.toList[i + 1]? = some (vs[q[i + 1]],vs[q[i + 1]]):=by rw [<- q2,List.getElem?_map,List.getElem?_eq_getElem hi1,Option.map_some,at0 _ b1]; simp [b1]
  have:=ur hs (Nat.lt_succ_self i) r0 r1
  have f0:at' q.toArray i=q[i]:=by simp [Dp,hi0]
  have f1:at' q.toArray (i + 1)=q[i + 1]:=by simp [Dp,hi1]
  rw [f0,f1,<- this]
  refine sm _ _ _ _ b1 b0 ?_ ?_
  ·rw [hidx _ ⟨q[i + 1],List.getElem?_eq_getElem b1⟩]; exact List.getElem?_eq_getElem b1
  ·rw [hidx _ ⟨q[i],List.getElem?_eq_getElem b0⟩]; exact List.getElem?_eq_getElem b0
 ·show arr'=_
  apply Array.toList_inj.mp
  rw [<- q2]; simp
theorem N7 {h:Heap} {v:Value} {x y:Itm} (a:IsItem h v x) (b:IsItem h v y):x=y:=by
 obtain ⟨a1,o,t,u,n,rfl,ga,_,da⟩:=a
 obtain ⟨b1,o',t',u',n',e,gb,_,db⟩:=b
 cases e
 rw [ga] at gb
 cases gb
 rw [da] at db
 injection db with e1 e2
 have e1:=congrArg Array.toList e1
 simp only [List.cons.injEq,Value.int.injEq,Value.str.injEq] at e1
 obtain ⟨⟨e1,_⟩,⟨e2,_⟩,_⟩:=e1
 have e2:=congrArg (fun q:Str=>q.cps.toList) e2
 obtain ⟨x1,x2⟩:=x
 obtain ⟨y1,y2⟩:=y
 simp at e1 e2
 rw [e1,e2]
theorem Ej {h:Heap} {vs:List Value} {r:List Itm} (hl:vs.length=r.length) (hi:∀ (i:Nat) (v:Value) (x:Itm),vs[i]? = some v->r[i]? = some x->IsItem h v x):Same vs (ltAt r):=by
 have key:∀ i i':Nat,i < vs.length->vs[i]? = vs[i']?->r[i]? = r[i']?:=fun i i' h1 e=>by
  have e1:vs[i]? = some vs[i]:=List.getElem?_eq_getElem h1
  have h2:i' < vs.length:=(List.getElem?_eq_some_iff.mp (e.symm.trans e1)).1
  rw [List.getElem?_eq_getElem (show i < r.length by lia),List.getElem?_eq_getElem (show i' < r.length by lia)]
  exact congrArg some (N7 (hi i _ _ e1 (List.getElem?_eq_getElem (by lia))) (hi i' _ _ (e.symm.trans e1) (List.getElem?_eq_getElem (by lia))))
 intro i i' j j' h1 h2 e1 e2
 unfold ltAt
 rw [key i i' h1 e1,key j j' h2 e2]
end DW
end
section
set_option maxHeartbeats 4000000
namespace DW
open PySem PySem.W PySem.Calls PyProof.Rows
section
variable {prog:Program} {w:World} {A:Around} {E:Value->Shared->Prop} {s:Shared} {vs:List Value} {lt:Nat->Nat->Bool}
end
end DW
end
section
namespace L2
open PySem PySem.Spec PyProof.Rows
end L2
end
section
namespace L2
open PySem PySem.Spec PyProof.Rows
section
variable {X:Cx} {pins:List (Addr×Obj)} {σ:List (Option V)} {H:Hp} {s:Shared}
end
end L2
end
section
namespace L2
open PySem PySem.Spec PyProof.Rows
section
variable {X:Cx} {pins:List (Addr×Obj)} {σ:List (Option V)} {H:Hp} {s:Shared}
end
end L2
end
section
set_option maxHeartbeats 2000000
namespace L2
open PySem PySem.Spec PyProof.Rows
section
variable {X:Cx} {pins:List (Addr×Obj)} {σ:List (Option V)} {H:Hp} {s:Shared}
end
end L2
end
section
namespace DW
open PySem PySem.Spec PyProof.Rows L2
section
variable {X:Cx}
theorem lq {K:PySem.W.Frag} {b:String} {vs:List V} {H:Hp} {Q:VK} (h:vh K (aX b) vs H Q) (hb:b≠"min3":=by decide):(∃ d v θ μ Qd,vs=[v]/\bY K H θ μ/\Rp K H θ μ d v/\aX b [d] μ Qd/\Fin K H θ μ Qd Q)∨∃ d e v w θ μ Qd,vs=[v,w]/\bY K H θ μ/\Rp K H θ μ d v/\Rp K H θ μ e w/\aX b [d,e] μ Qd/\Fin K H θ μ Qd Q:=by
 obtain ⟨ds,θ,μ,Qd,wk,rs,hw,f⟩:=h
 match ds,hw with
 | [],hw=>exact hw.elim
 | [d],hw =>
  obtain ⟨v,r,rfl,r1,r2⟩:=rs.cons_inv
  cases r2.nil_inv
  exact .inl ⟨d,v,θ,μ,Qd,rfl,wk,r1,hw,f⟩
 | [d,e],hw =>
  obtain ⟨v,r,rfl,r1,r2⟩:=rs.cons_inv
  obtain ⟨w,r,rfl,r3,r4⟩:=r2.cons_inv
  cases r4.nil_inv
  exact .inr ⟨d,e,v,w,θ,μ,Qd,rfl,wk,r1,r3,hw,f⟩
 | [d,e,g],hw=>exact (U4 hb hw).elim
 | _ :: _ :: _ :: _ :: _,hw=>exact hw.elim
theorem Tf : cR X (.builtin "len") (vh X.K (aX "len")) := by
  intro pins s σ H xs us Q I r h
  rcases lq h with ⟨d, v, θ, μ, Qd, rfl, wk, rd, hw, f⟩ | ⟨d, e, v, w, θ, μ, Qd, rfl, wk, rd, re, hw, f⟩
  . simp only [aX] at hw
    split at hw
    . rename_i n hn
      refine O9 pins s σ H _ us Q I r ⟨v, n, rfl, ?_, f.at wk bL hw⟩
      have seq : ∀ {ds : List D}, aq μ d = some ds -> n = ds.length -> ZX X.K v H n := fun {ds} hq hl => by
        obtain ⟨a, xs, rfl, hx, r'⟩ := gQ wk rd hq
        rcases hx with hx | hx
        . exact .inl ⟨xs, hx, hl.trans r'.length⟩
        . exact .inr ⟨xs, hx, hl.trans r'.length⟩
      cases d with
      | str x =>
        obtain ⟨rfl, hx⟩ := cB rd
        simp only [lenOf, Option.some.injEq] at hn
        exact ⟨by simpa [Str.length] using hx, by rw [<- hn]; simp [Str.length]⟩
      | _ =>
        simp only [lenOf] at hn
        first
          | (simp [aq] at hn; done)
          | (cases q : aq μ _ with
             | none => rw [q] at hn; cases hn
             | some ds => rw [q] at hn; simp only [Option.map_some, Option.some.injEq] at hn; exact seq q hn.symm)
    . exact (show False from hw).elim
  . simp [aX] at hw
theorem Tg:cR X (.builtin "abs") (vh X.K (aX "abs")):=by
 intro pins s σ H xs us Q I r h
 rcases lq h with ⟨d,v,θ,μ,Qd,rfl,wk,rd,hw,f⟩ | ⟨d,e,v,w,θ,μ,Qd,rfl,wk,rd,re,hw,f⟩
 ·cases d with
  | int i=>cases aC rd; exact Pa pins s σ H _ us Q I r ⟨i,rfl,f.at wk bL hw⟩
  | _=>simp [aX] at hw
 ·simp [aX] at hw
theorem S9 (hc:X.calm=true):cR X (.builtin "sum") (vh X.K (aX "sum")):=by
 intro pins s σ H xs us Q I r h
 rcases lq h with ⟨d,v,θ,μ,Qd,rfl,wk,rd,hw,f⟩ | ⟨d,e,v,w,θ,μ,Qd,rfl,wk,rd,re,hw,f⟩
 ·simp only [aX] at hw
  split at hw
  ·rename_i ns hb
   cases q:aq μ d with
   | none=>rw [q] at hb; cases hb
   | some ds =>
    rw [q] at hb
    cases d with
    | tup es =>
     simp only [aq,Option.some.injEq] at q
     subst q
     obtain ⟨a,ys,rfl,hx,nl,rs⟩:=cA rd
     cases vI rs hb
     exact JM hc pins s σ H _ us Q I r ⟨a,ns,rfl,.of hx,f.at wk bL hw⟩
    | _ =>
     obtain ⟨a,ys,rfl,hx,rs⟩:=cG (ds:=ds) wk rd (by simpa [bA] using q)
     cases vI rs hb
     exact JN hc pins s σ H _ us Q I r ⟨a,ns,rfl,hx,f.at wk bL hw⟩
  ·exact hw.elim
 ·simp [aX] at hw
theorem Td (hc:X.calm=true):cR X (.builtin "max") (vh X.K (aX "max")):=by
 intro pins s σ H xs us Q I r h
 rcases lq h with ⟨d,v,θ,μ,Qd,rfl,wk,rd,hw,f⟩ | ⟨d,e,v,w,θ,μ,Qd,rfl,wk,rd,re,hw,f⟩
 ·simp only [aX] at hw
  split at hw
  ·rename_i n ns hb
   cases q:bA μ d with
   | none=>rw [q] at hb; cases hb
   | some ds =>
    rw [q] at hb
    obtain ⟨a,ys,rfl,hx,rs⟩:=cG wk rd q
    cases vI rs hb
    exact JT hc pins s σ H _ us Q I r ⟨a,n,ns,rfl,hx,f.at wk bL hw⟩
  ·exact hw.elim
 ·cases d with
  | int i =>
   cases e with
   | int j =>
    cases aC rd; cases aC re
    exact JV hc pins s σ H _ us Q I r ⟨i,j,rfl,f.at wk bL hw⟩
   | _=>simp [aX] at hw
  | _=>simp [aX] at hw
theorem Tc (hc:X.calm=true):cR X (.builtin "min") (vh X.K (aX "min")):=by
 intro pins s σ H xs us Q I r h
 rcases lq h with ⟨d,v,θ,μ,Qd,rfl,wk,rd,hw,f⟩ | ⟨d,e,v,w,θ,μ,Qd,rfl,wk,rd,re,hw,f⟩
 ·simp only [aX] at hw
  split at hw
  ·rename_i n ns hb
   cases q:bA μ d with
   | none=>rw [q] at hb; cases hb
   | some ds =>
    rw [q] at hb
    obtain ⟨a,ys,rfl,hx,rs⟩:=cG wk rd q
    cases vI rs hb
    exact JQ hc pins s σ H _ us Q I r ⟨a,n,ns,rfl,hx,f.at wk bL hw⟩
  ·exact hw.elim
 ·cases d with
  | int i =>
   cases e with
   | int j =>
    cases aC rd; cases aC re
    exact JR hc pins s σ H _ us Q I r ⟨i,j,rfl,f.at wk bL hw⟩
   | _=>simp [aX] at hw
  | _=>simp [aX] at hw
theorem JX:cR X (.type "list") (vh X.K (aX "mlist")):=by
 intro pins s σ H xs us Q I r h
 rcases lq h with ⟨d,v,θ,μ,Qd,rfl,wk,rd,hw,f⟩ | ⟨d,e,v,w,θ,μ,Qd,rfl,wk,rd,re,hw,f⟩
 ·simp only [aX] at hw
  split at hw
  ·rename_i ds hq
   obtain ⟨a,ys,rfl,hx,rs⟩:=gQ wk rd hq
   exact zY pins s σ H _ us Q I r ⟨a,ys,rfl,hx,fun l hl=>sW wk f rs hw hl⟩
  ·exact hw.elim
 ·simp [aX] at hw
theorem Gg:cR X (.builtin "divmod") (vh X.K (aX "divmod")):=by
 intro pins s σ H xs us Q I r h
 rcases lq h with ⟨d,v,θ,μ,Qd,rfl,wk,rd,hw,f⟩ | ⟨d,e,v,w,θ,μ,Qd,rfl,wk,rd,re,hw,f⟩
 ·simp [aX] at hw
 ·cases d with
  | int i =>
   cases e with
   | int j =>
    cases aC rd; cases aC re
    have hw:rJ j/\Qd (.tup [.int (i / j),.int (i % j)]) μ:=hw
    obtain ⟨⟨h1,h2⟩,hq⟩:=hw
    obtain ⟨u,w',rfl,⟨t,rfl⟩,⟨t',rfl⟩⟩:=vals2 r
    have h3:j.natAbs < 2 ^ 500:=by lia
    have h4:j.natAbs≠0:=by lia
    have h5:=(Nat.log2_lt h4).mpr h3
    refine divmod_int (by lia) ?_ (.inl (PyProof.noPylong_of_log2 (by lia)))
    rw [Int.fdiv_eq_ediv_of_nonneg i (by lia),Int.fmod_eq_emod_of_nonneg i (by lia)]
    have hn:H s.heap.objs.size=none:=I.hok.fresh (Nat.le_refl _)
    refine ⟨.ref s.heap.objs.size,_,?_,rfl,yV wk f (xs:=[.int (i / j),.int (i % j)]) (.cons bL (.cons bL .nil)) hq hn⟩
    refine I.laid (fun b o e=>Heap.get?_push_of_some _ e) (Nat.le_refl _) ⟨by simp only [List.length_cons,List.length_nil]; rw [sizeLine_eq]; decide,[.int (i / j) s.toks,.int (i % j) (s.toks + 1)],.cons ⟨_,rfl⟩ (.cons ⟨_,rfl⟩ .nil),?_⟩
    exact ⟨_,Heap.get?_push_size s.heap rfl,rfl,0,rfl,rfl⟩
   | _=>simp [aX] at hw
  | _=>simp [aX] at hw
theorem Sd {pins:List (Addr×Obj)} {σ:L2.St} {H:Hp} {s:Shared} {θ:List Addr} {μ:Mem} {x:Itm} {v:V} {u:Value} (I:Inv X pins σ H s) (r:Rp X.K H θ μ (aQ x) v) (ru:RelV v u):IsItem s.heap u x:=by
 obtain ⟨b,zs,rfl,hb,_,rs⟩:=cA r
 cases ru
 obtain ⟨v1,r1,rfl,e1,rs1⟩:=rs.cons_inv
 obtain ⟨v2,r2,rfl,e2,rs2⟩:=rs1.cons_inv
 cases rs2.nil_inv
 cases aC e1
 cases (cB e2).1
 obtain ⟨_,its,rv,ob,e,c,n,d⟩:=I.hok b _ hb
 cases rv with
 | cons ra rr =>
  cases rr with
  | cons rb rr =>
   cases rr
   obtain ⟨t,rfl⟩:=ra
   obtain ⟨t',rfl⟩:=rb
   exact ⟨b,ob,t,t',n,rfl,e,c,d.1⟩
theorem outs {H:Hp} {θ:List Addr} {μ:Mem} {r:List Itm} {ys:List V} {its:List Value} (rs:eF X.K H θ μ (r.map aQ) ys) (rv:Vals ys its):∀ l:List Nat,(∀ i∈l,i < r.length) ->
  eF X.K H θ μ ((l.map fun i=>r[i]?.getD (0,[])).map aQ) (l.map fun i=>ys[i]?.getD .non)/\Vals (l.map fun i=>ys[i]?.getD .non) (l.map fun i=>its.getD i Value.none)
 | [],_=>⟨aG.nil,.nil⟩
 | i :: l,h=>by
  obtain ⟨h1,h2⟩:=outs rs rv l fun j hj=>h j (by simp [hj])
  have hi:i < r.length:=h i (by simp)
  have e0:(r.map aQ)[i]? = some (aQ r[i]):=by simp [hi]
  obtain ⟨v,e1,e2⟩:=rs.get e0
  obtain ⟨u,f1,f2⟩:=rv.get e1
  have g1:ys[i]?.getD .non=v:=by rw [e1]; rfl
  have g2:its.getD i Value.none=u:=by simp [f1]
  have g3:r[i]?.getD (0,[])=r[i]:=by simp [hi]
  simp only [List.map_cons,g1,g2,g3]
  exact ⟨aG.cons e2 h1,.cons f2 h2⟩
theorem Bp {pins:List (Addr×Obj)} {s:Shared} {σ:L2.St} {H:Hp} {us:List Value} {Q:VK} {a:Addr} {ys:List V} {θ:List Addr} {μ:Mem} {r:List Itm} (I:Inv X pins σ H s) (rv:Vals [.ref a] us) (hx:f9 X.K H a ys) (rs:eF X.K H θ μ (r.map aQ) ys) (Sw:r.length < 300) (ho:∀ its:List Value,its.length=r.length->(∀ (i:Nat) (v:Value) (x:Itm),its[i]? = some v->r[i]? = some x->IsItem s.heap v x)->2<=its.length->Ac its (ltAt r))
  (h:∀ (r':List Itm) (zs:List V) (p:Addr),r'.Perm r->aY r'->eF X.K H θ μ (r'.map aQ) zs->H p=none->Q (.ref p) (upd H p (.lst zs))):wpAny (model X.prog X.w) X.A (call (.builtin "sorted") us) (EP X pins σ Q) X.xe s:=by
 cases rv with
 | cons ra rr =>
  cases rr
  cases ra
  obtain ⟨its,vi,pl,hz⟩:=I.list hx
  have len1:ys.length=r.length:=by have:=rs.length; simpa using this.symm
  have len2:its.length=r.length:=by rw [<- len1]; exact vi.length.symm
  have Zg:∀ (i:Nat) (v:Value) (x:Itm),its[i]? = some v->r[i]? = some x->IsItem s.heap v x:=fun i v x e1 e2=>by
   have e0:(r.map aQ)[i]? = some (aQ x):=by rw [List.getElem?_map,e2]; rfl
   obtain ⟨y,f1,f2⟩:=rs.get e0
   obtain ⟨u,g1,g2⟩:=vi.get f1
   rw [e1] at g1; cases g1
   exact Sd I f2 g2
  refine Eh (lt:=ltAt r) pl.isList (by rw [len2]; exact Sw) (ho its len2 Zg) (Gf len2 Zg) fun p q1 q2=>?_
  ·rw [len2] at q1 q2
   have hp:∀ i∈p.toList,i < r.length:=fun i hi=>by
    have:=q1.mem_iff.mp (Array.mem_toList_iff.mp hi)
    simpa using this
   have hs:p.size=r.length:=by have:=q1.size_eq; simpa using this
   obtain ⟨o1,o2⟩:=outs rs vi p.toList hp
   have hn:H (s.heap.objs.size + 1)=none:=I.hok.fresh (Nat.le_succ _)
   obtain ⟨ep,hat⟩:=sortedAll_at s.heap its (List.toArray (rA its p))
   refine ⟨.ref (s.heap.objs.size + 1),upd H (s.heap.objs.size + 1) (.lst (p.toList.map fun i=>ys[i]?.getD .non)),I.laid (t':=s.toks) (fun b o e=>sortedAll_old e) (Nat.le_succ _) ?_,rfl,?_⟩
   ·exact ⟨by rw [List.length_map,Array.length_toList,hs,sizeLine_eq]; lia,_,ep,o2,hat⟩
   ·exact h (outI r p) _ _ (I8 q1) (BP hs q2) o1 hn
theorem Dm:cR X (.builtin "sorted") (vh X.K (aX "dsorted")):=by
 intro pins s σ H xs us Q I r h
 rcases lq h with ⟨d,v,θ,μ,Qd,rfl,wk,rd,hw,f⟩ | ⟨d,e,v,w,θ,μ,Qd,rfl,wk,rd,re,hw,f⟩
 ·simp only [aX] at hw
  split at hw
  ·rename_i ds hq
   obtain ⟨a,ys,rfl,hx,rs⟩:=cG wk rd hq
   obtain ⟨it,rfl,hl,hw⟩:=hw
   exact Bp I r hx rs hl (fun its e hi h2=>Im h2 (Ej e hi) (Je it) (vg it)) fun r' zs p p1 p2 p3 hn=>yW wk f p3 (hw r' p1 p2) hn
  ·exact hw.elim
 ·simp [aX] at hw
theorem Rw {x:String} {as:List Expr} {ws:WA} {y:Str} {p pos:Pos} {e:Expr} {es:List Expr} (hx:x∈za) (ey:y=Pn x) (hc:X.calm=true) (hrm:∃ k,bM k X.A) (g:Gl X y) (m:X.mg y=none) (ha:PA X (e :: es) (LA X.K ws))
  (hs:starEach (e :: es) X.env=(false,eval e X.env) :: starEach es X.env) (hpl:(backTo pos (starEach es X.env)).any (·.1)=false) :
  PE X (.Call (.Name y p) (e :: es) [] pos) (LE X.K fun ρ μ Q=>ws ρ μ fun ds μ1=>aX x ds μ1 Q):=by
 have wk:∀ {f:Value},PE X (.Call (.Name y p) (e :: es) [] pos) (tCB (vh X.K (aX x)) (LA X.K ws))->PE X (.Call (.Name y p) (e :: es) [] pos) (LE X.K fun ρ μ Q=>ws ρ μ fun ds μ1=>aX x ds μ1 Q):=fun h=>PE.wk h fun σ H Q z=>RW z
 subst ey
 simp only [za,List.mem_cons,List.not_mem_nil,or_false] at hx
 rcases hx with rfl | rfl | rfl | rfl | rfl | rfl | rfl | rfl
 ·exact wk (f:=.none) (fW Tf g m (by decide +kernel) ha (by decide +kernel) (by decide +kernel) hs hpl)
 ·exact wk (f:=.none) (fW Tg g m (by decide +kernel) ha (by decide +kernel) (by decide +kernel) hs hpl)
 ·exact wk (f:=.none) (fW (S9 hc) g m (by decide +kernel) ha (by decide +kernel) (by decide +kernel) hs hpl)
 ·exact wk (f:=.none) (fW (Td hc) g m (by decide +kernel) ha (by decide +kernel) (by decide +kernel) hs hpl)
 ·exact wk (f:=.none) (fW (Tc hc) g m (by decide +kernel) ha (by decide +kernel) (by decide +kernel) hs hpl)
 ·exact wk (f:=.none) (IK JX g m (by decide +kernel) ha (by decide +kernel) (by decide +kernel) hs hpl)
 ·exact wk (f:=.none) (fW Gg g m (by decide +kernel) ha (by decide +kernel) (by decide +kernel) hs hpl)
 ·exact wk (f:=.none) (fW Dm g m (by decide +kernel) ha (by decide +kernel) (by decide +kernel) hs hpl)
end
end DW
end
section
namespace L2
open PySem PySem.Spec PyProof.Rows
theorem jh {env:Env}:∀ (names:List (Str×NameKind)) (acc:List (Str×Addr)),(∀ y∈names,y.2 = .free->∃ c,env.cells.lookup y.1=some c) ->
  (∀ y c,acc.lookup y=some c->env.cells.lookup y=some c) ->
  ∃ cl:List (Str×Addr),(forIn names acc fun (x:Str×NameKind) (r:List (Str×Addr))=>match x with
   | (name,kind)=>if (kind == .free)=true then (do let c <- cellOf env name; pure (ForInStep.yield ((name,c) :: r))) else pure (ForInStep.yield r))=(pure cl:Sem (List (Str×Addr))) /\
   (∀ y c,cl.lookup y=some c->env.cells.lookup y=some c)/\(∀ y,(acc.lookup y).isSome=true->(cl.lookup y).isSome=true)/\∀ y∈names,y.2 = .free->(cl.lookup y.1).isSome=true
 | [],acc,_,h2=>⟨acc,by simp,h2,fun _ h=>h,fun y hy=>nomatch hy⟩
 | (n,k) :: r,acc,h1,h2=>by
  by_cases hk:k = .free
  ·subst hk
   obtain ⟨c,hc⟩:=h1 (n,.free) List.mem_cons_self rfl
   obtain ⟨cl,e1,e2,e3,e4⟩:=jh r ((n,c) :: acc) (fun y hy=>h1 y (List.mem_cons_of_mem _ hy)) (fun y d hy=>by
    rw [List.lookup_cons] at hy
    split at hy
    ·rename_i hb
     rw [eq_of_beq hb]; cases hy; exact hc
    ·exact h2 y d hy)
   refine ⟨cl,?_,e2,fun y hy=>e3 y ?_,fun y hy hf=>?_⟩
   ·rw [List.forIn_cons]
    simp only [beq_self_eq_true,if_true]
    have:cellOf env n=pure c:=by unfold cellOf; rw [hc]
    rw [this,pure_bind,pure_bind]
    exact e1
   ·rw [List.lookup_cons]; split <;> simp_all
   ·rcases List.mem_cons.mp hy with rfl | hy
    ·exact e3 n (by simp [List.lookup_cons])
    ·exact e4 y hy hf
  ·obtain ⟨cl,e1,e2,e3,e4⟩:=jh r acc (fun y hy=>h1 y (List.mem_cons_of_mem _ hy)) h2
   refine ⟨cl,?_,e2,e3,fun y hy hf=>?_⟩
   ·rw [List.forIn_cons]
    have hb:(k == NameKind.free)=false:=by simpa using hk
    simp only [hb,Bool.false_eq_true,if_false]
    rw [pure_bind]
    exact e1
   ·rcases List.mem_cons.mp hy with rfl | hy
    ·exact absurd hf hk
    ·exact e4 y hy hf
theorem rT {scope:Scope} {env:Env} (h:∀ y∈scope.names,y.2 = .free->∃ c,env.cells.lookup y.1=some c) :
  ∃ cl,closureFor scope env=pure cl/\(∀ y c,cl.lookup y=some c->env.cells.lookup y=some c)/\∀ y∈scope.names,y.2 = .free->(cl.lookup y.1).isSome=true:=by
 obtain ⟨cl,e1,e2,_,e4⟩:=jh scope.names [] h (fun y c hy=>by simp at hy)
 refine ⟨cl,?_,e2,e4⟩
 unfold closureFor
 simp only [bind_pure]
 exact e1
noncomputable def iU (X:Cx) (Nc:List Str) (scope:Scope) (cl:List (Str×Addr)) (C:Addr) (s:Shared) (H:Hp) (ex:List Addr):Cx :=
 { X with N:=Nc,s₀:=s,H₀:=H,env:=compEnvC scope cl C X.env,outer:=X.stack,ex:=ex,fn:=fun y=>scope.names.lookup y == some .cell,pn:=[],xe:=fun _ _=>False }
noncomputable def Xz (X:Cx) (ifs:List Expr) (t:TT):Prop :=
 ∀ (pins:List (Addr×Obj)) (s:Shared) (σ:St) (H:Hp) (Q:Bool->Hp->Prop),Inv X pins σ H s->t σ H Q ->
  wpAny (model X.prog X.w) X.A (forIn ifs true fun c r=>if r=true then do let ok <- isTrue c X.env (eval c X.env); pure (ForInStep.yield ok) else pure (ForInStep.yield r)) (TP X pins σ Q) X.xe s
theorem Q8 {X:Cx}:Xz X [] (fun σ H Q=>Q true H):=fun pins s σ H Q I h=>by
 rw [List.forIn_nil]; exact wpAny_pure ⟨H,I,h⟩
theorem Q7 {X:Cx} {c:Expr} {t:TT} (hc:PT X c t):Xz X [c] t:=fun pins s σ H Q I h=>by
 rw [List.forIn_cons]
 simp only [if_true]
 refine wpAny_bind (wpAny_bind (bG (hc pins s σ H Q I h) fun b s1 q=>wpAny_pure ?_))
 show wpAny _ _ (forIn ([]:List Expr) b _) _ _ _
 rw [List.forIn_nil]; exact wpAny_pure q
noncomputable def wY (cap:List Nat) (σ:St):St:=cap.map fun i=>(σ[i]?).join
noncomputable def K3 (n:Nat) (gt:TG) (cap:List Nat) (wi:TI) (tt:TT) (te:TE):TE:=fun σ H Q=>wi σ H fun J H1=>∃ W:Nat->Nat->List V->St->Hp->Prop,(∃ m,W 0 m [] (List.replicate n none ++ wY cap σ) H1)/\∀ i m vs σc H,W i m vs σc H ->
 (vs.length<=sizeLine/\J.stop i H/\∀ p,H p=none->Q (.ref p) (upd H p (.lst vs))) ∨
 (J.go i H/\vs.length < sizeLine/\∀ x H',J.Yd i H x H'->gt x σc H' fun σ2 H2=>tt σ2 H2 fun b H3 =>
  if b=true then te σ2 H3 fun v H4=>∃ m',m' < m/\W (i + 1) m' (vs ++ [v]) σ2 H4 else ∃ m',m' < m/\W (i + 1) m' vs σ2 H3)
structure mU (X:Cx) (xs:List Str) (scope:Scope) (Nc:List Str) (cap:List Nat):Prop where
 kind:scope.kind = .function
 cells:∀ y∈scope.names,y.2 = .cell->scope.names.lookup y.1=some .cell
 names:∀ y∈scope.names,y.2 = .local->scope.names.lookup y.1=some .local
 nd:Nc.Nodup
 caps:∀ (j:Nat) (y:Str),Nc[xs.length + j]? = some y->∃ i,cap[j]? = some i/\X.N[i]? = some y/\scope.names.lookup y=some .free
 len:Nc.length=xs.length + cap.length
 free:∀ y∈scope.names,y.2 = .free->X.env.kindOf y.1=some .cell∨X.env.kindOf y.1=some .free
theorem gD {env:Env}:∀ {names:List (Str×NameKind)} {x:Str},names.lookup x=some .free ->
  (names.map fun (n,k)=>if (k == NameKind.free && env.scope.kind == .function && env.kindOf n == some .cell) then (n,NameKind.cell) else (n,k)).lookup x=some .free ∨
  (names.map fun (n,k)=>if (k == NameKind.free && env.scope.kind == .function && env.kindOf n == some .cell) then (n,NameKind.cell) else (n,k)).lookup x=some .cell
 | [],_,h=>by simp at h
 | (n,k) :: r,x,h=>by
  have ih:=@gD env r x
  show List.lookup x ((if (k == NameKind.free && env.scope.kind == .function && env.kindOf n == some .cell)=true then (n,NameKind.cell) else (n,k)) :: _)=_∨List.lookup x ((if (k == NameKind.free && env.scope.kind == .function && env.kindOf n == some .cell)=true then (n,NameKind.cell) else (n,k)) :: _)=_
  by_cases hc:(k == NameKind.free && env.scope.kind == .function && env.kindOf n == some .cell)=true
  ·rw [if_pos hc]
   cases hx:x == n with
   | true=>right; simp only [List.lookup_cons,hx]
   | false =>
    simp only [List.lookup_cons,hx] at h ⊢
    exact ih h
  ·rw [if_neg hc]
   cases hx:x == n with
   | true =>
    simp only [List.lookup_cons,hx] at h ⊢
    exact .inl h
   | false =>
    simp only [List.lookup_cons,hx] at h ⊢
    exact ih h
theorem mX {env:Env}:∀ {names:List (Str×NameKind)} {x:Str},names.lookup x=some .globalImplicit ->
  (names.map fun (n,k)=>if (k == NameKind.free && env.scope.kind == .function && env.kindOf n == some .cell) then (n,NameKind.cell) else (n,k)).lookup x=some .globalImplicit
 | [],_,h=>by simp at h
 | (n,k) :: r,x,h=>by
  have ih:=@mX env r x
  show List.lookup x ((if (k == NameKind.free && env.scope.kind == .function && env.kindOf n == some .cell)=true then (n,NameKind.cell) else (n,k)) :: _)=_
  by_cases hc:(k == NameKind.free && env.scope.kind == .function && env.kindOf n == some .cell)=true
  ·rw [if_pos hc]
   cases hx:x == n with
   | true =>
    simp only [List.lookup_cons,hx] at h
    have:k = .free:=by
     rw [Bool.and_eq_true,Bool.and_eq_true] at hc
     simpa using hc.1.1
    rw [this] at h; cases h
   | false =>
    simp only [List.lookup_cons,hx] at h ⊢
    exact ih h
  ·rw [if_neg hc]
   cases hx:x == n with
   | true =>
    simp only [List.lookup_cons,hx] at h ⊢
    exact h
   | false =>
    simp only [List.lookup_cons,hx] at h ⊢
    exact ih h
theorem yQ {scope:Scope} {env:Env} {x:Str} (h:scope.names.lookup x=some .globalImplicit):(relabel scope env).names.lookup x=some .globalImplicit:=mX h
theorem oW {env:Env}:∀ {names:List (Str×NameKind)} {x:Str},names.lookup x=some .cell ->
  (names.map fun (n,k)=>if (k == NameKind.free && env.scope.kind == .function && env.kindOf n == some .cell) then (n,NameKind.cell) else (n,k)).lookup x=some .cell
 | [],_,h=>by simp at h
 | (n,k) :: r,x,h=>by
  have ih:=@oW env r x
  show List.lookup x ((if (k == NameKind.free && env.scope.kind == .function && env.kindOf n == some .cell)=true then (n,NameKind.cell) else (n,k)) :: _)=_
  by_cases hc:(k == NameKind.free && env.scope.kind == .function && env.kindOf n == some .cell)=true
  ·rw [if_pos hc]
   cases hx:x == n with
   | true=>simp only [List.lookup_cons,hx]
   | false =>
    simp only [List.lookup_cons,hx] at h ⊢
    exact ih h
  ·rw [if_neg hc]
   cases hx:x == n with
   | true =>
    simp only [List.lookup_cons,hx] at h ⊢
    exact h
   | false =>
    simp only [List.lookup_cons,hx] at h ⊢
    exact ih h
theorem fO:∀ (names:List (Str×NameKind)) (n:Nat) (acc:List (Str×Addr)),cellsFrom n names acc=cellsFrom n names [] ++ acc
 | [],n,acc=>rfl
 | (x,k) :: r,n,acc=>by
  unfold cellsFrom
  split
  ·rw [fO r (n + 1) ((x,n) :: acc),fO r (n + 1) [(x,n)]]; simp
  ·exact fO r n acc
theorem qX:∀ (names:List (Str×NameKind)) (n:Nat) (y:Str) (c:Addr),(y,c)∈cellsFrom n names []->(y,NameKind.cell)∈names
 | [],n,y,c,h=>by simp [cellsFrom] at h
 | (x,k) :: r,n,y,c,h=>by
  unfold cellsFrom at h
  split at h
  ·rename_i hk
   rw [fO] at h
   rcases List.mem_append.mp h with z | z
   ·exact List.mem_cons_of_mem _ (qX r _ y c z)
   ·simp only [List.mem_cons,List.not_mem_nil,or_false,Prod.mk.injEq] at z
    obtain ⟨rfl,_⟩:=z
    rw [eq_of_beq hk]; exact List.mem_cons_self
  ·exact List.mem_cons_of_mem _ (qX r _ y c h)
theorem mL:∀ (names:List (Str×NameKind)) (n:Nat) (y:Str),(y,NameKind.cell)∈names->((cellsFrom n names []).lookup y).isSome=true
 | [],n,y,h=>by simp at h
 | (x,k) :: r,n,y,h=>by
  unfold cellsFrom
  rcases List.mem_cons.mp h with z | z
  ·cases z
   rw [if_pos (by rfl),fO,List.lookup_append]
   cases q:(cellsFrom (n + 1) r []).lookup x with
   | some c=>rfl
   | none=>simp [List.lookup_cons]
  ·split
   ·rw [fO,List.lookup_append]
    have:=mL r (n + 1) y z
    obtain ⟨c,e⟩:=Option.isSome_iff_exists.mp this
    rw [e]; rfl
   ·exact mL r n y z
theorem BW {M:Model} {A:Around} {E:Value->Shared->Prop} {s:Shared} {scope:Scope} {globals:Addr} {cl:List (Str×Addr)} {qual:Str} {env:Env} {Q:Env->Shared->Prop}
  (hQ:Q (newEnv scope s.heap.objs.size globals (cellsFrom (s.heap.objs.size + 1) scope.names cl) qual none .none (some env) builtinsNs) { s with heap:=pushCells (s.heap.push { cls:=.type "dict",data:=.dict #[] }) scope.names }) :
  wpAny M A (newFunctionEnv scope globals cl [] qual none .none (some env)) Q E s:=by
 simp only [newFunctionEnv,Option.isSome_some,if_true]
 refine wpAny_bind (wpAny_alloc ?_)
 refine wpAny_bind (wpAny_layCells _ (fun name kind cells=>by cases hkc:kind == NameKind.cell <;> simp [hkc]) _ _ _ _ ?_)
 rw [show ({ s with heap:=s.heap.push { cls:=.type "dict",data:=.dict #[] } }:Shared).heap.objs.size=s.heap.objs.size + 1 from Heap.size_push ..]
 rw [List.forIn_nil]
 exact wpAny_bind (wpAny_pure (wpAny_pure hQ))
theorem gU {env:Env}:∀ {names:List (Str×NameKind)} {x:Str} {k:NameKind},
  (names.map fun (n,k)=>if (k == NameKind.free && env.scope.kind == .function && env.kindOf n == some .cell) then (n,NameKind.cell) else (n,k)).lookup x=some k ->
  names.lookup x=some k∨(k = .cell/\names.lookup x=some .free)
 | [],_,_,h=>by simp at h
 | (n,k0) :: r,x,k,h=>by
  have ih:=@gU env r x k
  have h':List.lookup x ((if (k0 == NameKind.free && env.scope.kind == .function && env.kindOf n == some .cell)=true then (n,NameKind.cell) else (n,k0)) :: (r.map fun (n,k)=>if (k == NameKind.free && env.scope.kind == .function && env.kindOf n == some .cell) then (n,NameKind.cell) else (n,k)))=some k:=h
  by_cases hc:(k0 == NameKind.free && env.scope.kind == .function && env.kindOf n == some .cell)=true
  ·rw [if_pos hc] at h'
   cases hx:x == n with
   | true =>
    simp only [List.lookup_cons,hx] at h' ⊢
    cases h'
    have:k0 = .free:=by
     rw [Bool.and_eq_true,Bool.and_eq_true] at hc
     simpa using hc.1.1
    exact .inr ⟨rfl,by rw [this]⟩
   | false =>
    simp only [List.lookup_cons,hx] at h' ⊢
    exact ih h'
  ·rw [if_neg hc] at h'
   cases hx:x == n with
   | true =>
    simp only [List.lookup_cons,hx] at h' ⊢
    exact .inl h'
   | false =>
    simp only [List.lookup_cons,hx] at h' ⊢
    exact ih h'
end L2
namespace L2
open PySem PySem.Spec PyProof.Rows
section
variable {X:Cx} {elt iter tg:Expr} {xs:List Str} {gt:TG} {ifs:List Expr} {scope:Scope} {pos:Pos} {Nc:List Str} {cap:List Nat} {tt:TT} {te:TE} {cl:List (Str×Addr)}
 {pins:List (Addr×Obj)} {s2:Shared} {σ:St} {H2:Hp} {it:Addr} {fp:List Addr} {tn:Nat->Heap->Prop} {J:It}
noncomputable abbrev listAt (h:Heap) (D:Addr) (vs:List V):Prop:=∃ (its:List Value) (n:Nat),Vals vs its/\h.get? D=some { cls:=.type "list",data:=.seq its.toArray n }
theorem Ge {prog:Program} {w:World} {A:Around} {R:Result->Shared->Prop} {s:Shared} {elt tg iter:Expr} {ifs:List Expr} {scope:Scope} {pos:Pos} {it acc:Value} {env:Env} (J:Nat->Shared->Prop)
  (turn:∀ m s0,J m s0->wpAny (model prog w) A (pyNext it) (fun r s1=>match r with
   | none=>R (.ok .next) s1
   | some v=>wpAny (model prog w) A (letOwnedTupleGo tg it v) (fun _ s2=>wpAny (model prog w) A (assign tg env v) (fun _ s3 =>
     wpAny (model prog w) A (forIn ifs true fun c r=>if r=true then do let ok <- isTrue c env (eval c env); pure (ForInStep.yield ok) else pure (ForInStep.yield r)) (fun b s4 =>
      if b=true then wpAny (model prog w) A (eval elt env) (fun x s5 =>
       wpAny (model prog w) A (call (.builtin "list.append") [acc,x]) (fun _ s6=>∃ k,k < m/\J k s6) (notedBy (model prog w) A env fun e z=>R (.error e) z) s5) (notedBy (model prog w) A env fun e z=>R (.error e) z) s4
      else ∃ k,k < m/\J k s4) (notedBy (model prog w) A env fun e z=>R (.error e) z) s3) (notedBy (model prog w) A env fun e z=>R (.error e) z) s2) (notedBy (model prog w) A env fun e z=>R (.error e) z) s1) (notedBy (model prog w) A env fun e z=>R (.error e) z) s0)
  (m:Nat) (h:J m s):codeAny (model prog w) A (.compLoop (.ListComp elt [⟨tg,iter,ifs,0⟩] scope pos) 0 it acc env) R s:=by
 refine codeAny_loop rfl J ?_ m h
 intro m s0 h0
 have q:=turn m s0 h0
 show wpAny _ A (Sem.onRaise (compTurn (.ListComp elt [⟨tg,iter,ifs,0⟩] scope pos) 0 it acc env) _) _ _ s0
 apply wpAny_noted
 rw [compTurn_list]
 apply wpAny_bind
 apply wpAny_standAt
 refine wpAny_bind (bG q ?_)
 rintro (_ | v) s1 q
 ·exact wpAny_pure q
 refine wpAny_bind (bG q ?_)
 intro _ s2 q
 refine wpAny_bind (bG q ?_)
 intro _ s3 q
 refine wpAny_bind (bG q ?_)
 rintro (_ | _) s4 q
 ·exact wpAny_pure ⟨rfl,q⟩
 refine wpAny_bind (wpAny_bind (bG q ?_))
 intro x s5 q
 refine wpAny_bind (bG q ?_)
 intro _ s6 q
 exact wpAny_pure (wpAny_pure ⟨rfl,q⟩)
theorem Gd (T:mU X xs scope Nc cap) {h₁:Heap} {o:Obj} (hcl:∀ y c,cl.lookup y=some c->(scope.names.lookup y≠some .cell/\X.env.cells.lookup y=some c)∨(scope.names.lookup y=some .cell/\(s2.heap.push o).objs.size < c/\h₁.IsCell c none)) (W7:∀ y z c,cl.lookup y=some c->cl.lookup z=some c->y=z) (Fx:∀ y∈scope.names,(y.2 = .free∨y.2 = .cell)->(cl.lookup y.1).isSome=true)
  (I2:Inv X pins σ H2 s2) (st2:tn 0 s2.heap) (Tn:Turn X.calm X.prog X.w X.K tg J fp it tn) (f2:∀ b∈fp,wD X pins H2 b) {m:Str->Option Value} {tk:Nat}
  (ho:∀ v,o.data≠.cell v)
  (hns:h₁.Ns (s2.heap.push o).objs.size m) (old:∀ b ob,(s2.heap.push o).get? b=some ob->h₁.get? b=some ob) :
  Inv (iU X Nc scope cl (s2.heap.push o).objs.size { s2 with heap:=s2.heap.push o } H2 (s2.heap.objs.size :: fp)) [] (List.replicate xs.length none ++ wY cap σ) H2 { s2 with heap:=h₁,toks:=tk }:=by
 have hC:(s2.heap.push o).objs.size=s2.heap.objs.size + 1:=Heap.size_push ..
 have V8:∀ b ob,s2.heap.get? b=some ob->h₁.get? b=some ob:=fun b ob e=>old b ob (Heap.get?_push_of_some _ e)
 have hfr:∀ b,s2.heap.objs.size<=b->H2 b=none:=fun b hb=>I2.hok.fresh hb
 have vX:∀ y c,X.env.cells.lookup y=some c->c < s2.heap.objs.size:=fun y c e=>let ⟨v,q⟩:=I2.cell y c e; q.lt
 have Zv:∀ b∈fp,b < s2.heap.objs.size:=fun b hb=>let ⟨ob,e,_⟩:=Tn.obj 0 s2.heap st2 b hb; Heap.lt_size e
 have kinds:∀ y,((compEnvC scope cl (s2.heap.push o).objs.size X.env).kindOf y=some .cell∨(compEnvC scope cl (s2.heap.push o).objs.size X.env).kindOf y=some .free)->scope.names.lookup y=some .free∨scope.names.lookup y=some .cell:=fun y hy=>by
  rcases hy with hy | hy
  ·rcases gU (env:=X.env) (show (scope.names.map _).lookup y=some .cell from hy) with z | ⟨_,z⟩
   ·exact .inr z
   ·exact .inl z
  ·rcases gU (env:=X.env) (show (scope.names.map _).lookup y=some .free from hy) with z | ⟨z,_⟩
   ·exact .inl z
   ·cases z
 refine ⟨⟨I2.ok.mod,T.kind,I2.ok.glob,I2.ok.blt,Nat.le_refl _,W7,fun y hy=>?_,fun y c h h2=>?cab,I2.ok.hd,I2.ok.frames,.inl rfl,fun b hb=>?_,fun b ob e=>?_,?_,fun b ob e hb=>?_,fun b hb hf=>?_,?_,fun b hb=>I2.Gx b hb⟩,
  rfl,I2.bare,Un.kept old,⟨m,hns,fun i y v h1 h2 h3=>?_⟩,fun y c h=>?_,hfr _ (by show s2.heap.objs.size<=(s2.heap.push o).objs.size; lia),fun y c h=>?jY,fun p hp=>absurd (show p∈([]:List (Addr×Obj)) from hp) (by simp),I2.hok.kept V8,?_,I2.hh⟩
 case cab =>
  have h:scope.names.lookup y=some .cell:=eq_of_beq h
  rcases hcl y c h2 with ⟨z,_⟩ | ⟨_,z,_⟩
  ·exact absurd h z
  ·exact Nat.le_of_lt z
 case jY =>
  rcases hcl y c h with ⟨_,z⟩ | ⟨_,z,_⟩
  ·exact I2.jY y c z
  ·exact hfr c (by lia)
 ·rcases kinds y hy with z | z
  ·exact Option.isSome_iff_exists.mp (Fx _ (PySem.mem_of_lookup z) (.inl rfl))
  ·exact Option.isSome_iff_exists.mp (Fx _ (PySem.mem_of_lookup z) (.inr rfl))
 ·refine ⟨?_,fun y c h z=>?_⟩
  ·show b≠(s2.heap.push o).objs.size
   rcases List.mem_cons.mp hb with rfl | hb
   ·exact Nat.ne_of_lt (by rw [hC]; exact Nat.lt_succ_self _)
   ·exact Nat.ne_of_lt (by rw [hC]; exact Nat.lt_succ_of_lt (Zv b hb))
  ·rcases hcl y c h with ⟨_,w⟩ | ⟨_,w,_⟩
   ·have hc:=vX y c w
    subst z
    rcases List.mem_cons.mp hb with rfl | hb
    ·exact Nat.lt_irrefl _ hc
    ·exact (f2 _ hb).2.2.2.2.1 y _ w rfl
   ·subst z
    rcases List.mem_cons.mp hb with rfl | hb
    ·lia
    ·exact Nat.lt_irrefl _ (Nat.lt_trans (Zv _ hb) (Nat.lt_trans (by rw [hC]; exact Nat.lt_succ_self _) w))
 ·have:=I2.bs b ob e
  exact ⟨Heap.get?_push_of_some _ this.1,this.2⟩
 ·show X.base.objs.size<=(s2.heap.push o).objs.size
  have:=Nat.le_trans I2.ok.Pb I2.sz
  lia
 ·have h1:=(I2.bs b ob e).1
  rcases List.mem_cons.mp hb with rfl | hb
  ·exact Nat.lt_irrefl _ (Heap.lt_size h1)
  ·rcases (f2 b hb).2.2.2.1 with z | z
   ·exact I2.ok.MJ b ob e z
   ·have h3:b < X.base.objs.size:=Heap.lt_size e
    have h4:=I2.ok.Pb
    exact absurd (Nat.lt_of_lt_of_le h3 (Nat.le_trans h4 z)) (Nat.lt_irrefl _)
 ·show False
  rcases List.mem_cons.mp hb with rfl | hb
  ·obtain ⟨_,ob,e,_⟩:=I2.stack.mem hf
   exact Nat.lt_irrefl _ (Heap.lt_size e)
  ·rcases List.mem_cons.mp (I2.yM b hf) with z | z
   ·exact (f2 b hb).2.1 z
   ·exact (f2 b hb).2.2.1 z
 ·exact (I2.stack:s2.heap.FunFrames X.base X.stack).of_keeps (fun b ob e _=>⟨ob,Heap.get?_push_of_some _ e,rfl⟩)
 ·by_cases hix:i < xs.length
  ·rw [List.getElem?_append_left (by simpa using hix),List.getElem?_replicate] at h2
   split at h2 <;> cases h2
  ·obtain ⟨j,rfl⟩:∃ j,i=xs.length + j:=⟨i - xs.length,by lia⟩
   obtain ⟨i',e1,e2,e3⟩:=T.caps j y h1
   have hv:σ[i']? = some (some v):=by
    have h2':(wY cap σ)[j]? = some (some v):=by
     rw [List.getElem?_append_right (by simp)] at h2
     simpa using h2
    unfold wY at h2'
    rw [List.getElem?_map,e1] at h2'
    simp only [Option.map_some,Option.some.injEq] at h2'
    cases q:σ[i']? with
    | none=>rw [q] at h2'; cases h2'
    | some w'=>rw [q] at h2'; simp only [Option.join_some] at h2'; rw [h2']
   obtain ⟨mo,hno,hlo⟩:=I2.loc
   have hk:=T.free _ (PySem.mem_of_lookup e3) rfl
   have vis:ZR X.env.scope y:=by rcases hk with k | k; exact .inr (.inl k); exact .inr (.inr k)
   obtain ⟨u,r,l⟩:=hlo i' y v e2 hv vis
   refine ⟨u,r,.inr ⟨?_,?_⟩⟩
   ·exact (gD (env:=X.env) e3).symm
   ·rcases l with ⟨k,_⟩ | ⟨_,c,e,z⟩
    ·rcases hk with k' | k' <;> (rw [k] at k'; cases k')
    ·obtain ⟨c',ec⟩:=Option.isSome_iff_exists.mp (Fx _ (PySem.mem_of_lookup e3) (.inl rfl))
     have ew:X.env.cells.lookup y=some c':=by
      rcases hcl y c' ec with ⟨_,w⟩ | ⟨w,_⟩
      ·exact w
      ·rw [e3] at w; cases w
     have e':some c=some c':=e.symm.trans ew
     cases e'
     obtain ⟨oc,q1,q2⟩:=z
     exact ⟨c,ec,oc,V8 _ _ q1,q2⟩
 ·rcases hcl y c h with ⟨_,w⟩ | ⟨_,_,w⟩
  ·obtain ⟨v,oc,q1,q2⟩:=I2.cell y c w
   exact ⟨v,oc,V8 _ _ q1,q2⟩
  ·exact ⟨none,w⟩
 ·show (List.replicate xs.length none ++ wY cap σ).length=Nc.length
  rw [T.len]
  simp [wY]
theorem comp_back (I2:Inv X pins σ H2 s2) (f2:∀ b∈fp,wD X pins H2 b) {o:Obj} {σ':St} {H:Hp} {s':Shared} {rm:List (Addr×Obj)} {vs:List V} {h':Heap}
  (I:Inv (iU X Nc scope cl (s2.heap.push o).objs.size { s2 with heap:=s2.heap.push o } H2 (s2.heap.objs.size :: fp)) rm σ' H s') (hD:H s2.heap.objs.size=none) (hz:vs.length<=sizeLine) (hl:listAt s'.heap s2.heap.objs.size vs)
  (hs:Heap.SameBut (s2.heap.push o).objs.size s'.heap h'):Inv X pins σ (upd H s2.heap.objs.size (.lst vs)) { s' with heap:=h' }:=by
 have hC:(s2.heap.push o).objs.size=s2.heap.objs.size + 1:=Heap.size_push ..
 have hk:∀ b ob,b≠(s2.heap.push o).objs.size->s'.heap.get? b=some ob->h'.get? b=some ob:=fun b ob hb e=>(hs.2 b hb).trans e
 have B:Un (frs X.stack) (s2.heap.objs.size :: fp) H2 H (s2.heap.push o) s'.heap:=I.base
 have low:∀ b ob,s2.heap.get? b=some ob->b≠s2.heap.objs.size/\b≠(s2.heap.push o).objs.size:=fun b ob e=>by
  have:=Heap.lt_size e
  exact ⟨Nat.ne_of_lt this,Nat.ne_of_lt (by rw [hC]; exact Nat.lt_succ_of_lt this)⟩
 have nin:∀ b ob,s2.heap.get? b=some ob->b ∉ fp->b ∉ s2.heap.objs.size :: fp:=fun b ob e h z=>(List.mem_cons.mp z).elim (low b ob e).1 h
 refine I2.call' (ch:=fp) I.os ⟨fun b ob e n hf he=>?_,fun b ob e n hf he=>?_,fun b ob e n he=>?_,fun b ob e he=>?_,fun b xs e=>?_,fun b ob u e=>?_,fun b ps e=>?_⟩ ?_ I.bare fun b hb=>⟨(f2 b hb).2.2.2.1,(f2 b hb).2.1,(f2 b hb).2.2.2.2.1,(f2 b hb).2.2.2.2.2⟩
 ·exact hk b ob (low b ob e).2 (B.keep b ob (Heap.get?_push_of_some _ e) n hf (nin b ob e he))
 ·obtain ⟨sl,q⟩:=B.slot b ob (Heap.get?_push_of_some _ e) n hf (nin b ob e he)
  exact ⟨sl,hk b _ (low b ob e).2 q⟩
 ·rw [aL (low b ob e).1]
  exact B.free b ob (Heap.get?_push_of_some _ e) n (nin b ob e he)
 ·obtain ⟨o',q⟩:=B.there b ob (Heap.get?_push_of_some _ e) (nin b ob e he)
  exact ⟨o',hk b _ (low b ob e).2 q⟩
 ·have q:=B.tups b xs e
  rw [aL (bf q hD)]; exact q
 ·have q:=B.lR b ob u e
  rw [aL (bf q hD)]; exact q
 ·obtain ⟨more,q⟩:=B.nF b ps e
  exact ⟨more,by rw [aL (bf q hD)]; exact q⟩
 ·intro b ob e
  have hCn:H (s2.heap.push o).objs.size=none:=I.free
  by_cases hb:b=s2.heap.objs.size
  ·subst hb
   rw [aN] at e
   cases e
   obtain ⟨its,n,r,q⟩:=hl
   exact ⟨hz,its,n,r,hk _ _ (Nat.ne_of_lt (by rw [hC]; exact Nat.lt_succ_self _)) q⟩
  ·rw [aL hb] at e
   refine (I.hok b ob e).stay (fun c u hc q=>hk c u ?_ q) (fun c q=>?_) fun c xs q=>?_
   ·rintro rfl
    rcases hc with rfl | hc
    ·rw [hCn] at e; cases e
    ·rw [hCn] at hc; cases hc
   ·rw [aL (bf q hD)]; exact q
   ·rw [aL (bf q hD)]; exact q
theorem Dg (T:mU X xs scope Nc cap) (hcl:∀ y c,cl.lookup y=some c->X.env.cells.lookup y=some c) (Fx:∀ y∈scope.names,y.2 = .free->(cl.lookup y.1).isSome=true)
  (I2:Inv X pins σ H2 s2) (st2:tn 0 s2.heap) (Tn:Turn X.calm X.prog X.w X.K tg J fp it tn) (f2:∀ b∈fp,wD X pins H2 b)
  (hG:∀ cl C s H ex,PG (iU X Nc scope cl C s H ex) tg gt) (hT:∀ cl C s H ex,Xz (iU X Nc scope cl C s H ex) ifs tt) (hE:∀ cl C s H ex,PE (iU X Nc scope cl C s H ex) elt te)
  (W:Nat->Nat->List V->St->Hp->Prop) {m0:Nat} (w0:W 0 m0 [] (List.replicate xs.length none ++ wY cap σ) H2) {Fn:List V->Hp->Prop}
  (turn:∀ i m vs σc H,W i m vs σc H->(vs.length<=sizeLine/\J.stop i H/\Fn vs H) ∨
   (J.go i H/\vs.length < sizeLine/\∀ x H',J.Yd i H x H'->gt x σc H' fun σ2 H2=>tt σ2 H2 fun b H3 =>
    if b=true then te σ2 H3 fun v H4=>∃ m',m' < m/\W (i + 1) m' (vs ++ [v]) σ2 H4 else ∃ m',m' < m/\W (i + 1) m' vs σ2 H3))
  {E:Value->Shared->Prop} {RR:Value->Addr->Result->Shared->Prop}
  (fin:∀ (C:Addr) (vs:List V) (H:Hp) (s':Shared) (m:Str->Option Value),s2.heap.objs.size < C->H C=none->s'.heap.Ns C m->H s2.heap.objs.size=none->Fn vs H ->
   (∀ h',Heap.SameBut C s'.heap h'->Inv X pins σ (upd H s2.heap.objs.size (.lst vs)) { s' with heap:=h' })->RR (.ref s2.heap.objs.size) C (.ok .next) s') :
  wpAny (model X.prog X.w) X.A (newList []) (fun acc s₃=>wpAny (model X.prog X.w) X.A (newFunctionEnv scope X.env.globals cl [] X.env.qual none .none (some X.env)) (fun cenv s₄ =>
   codeAny (model X.prog X.w) X.A (.compStart (.ListComp elt [⟨tg,iter,ifs,0⟩] scope pos) 0 (.ref it) acc { cenv with scope:=relabel scope X.env }) (RR acc cenv.locals) s₄) E s₃) E s2:=by
 refine wpAny_newObj_type (BW ?_)
 generalize hcf:cellsFrom ((s2.heap.push { cls:=.type "list",dict:=none,data:=.seq ([]:List Value).toArray }).objs.size + 1) scope.names cl=cf
 generalize hh₁:pushCells ((s2.heap.push { cls:=.type "list",dict:=none,data:=.seq ([]:List Value).toArray }).push { cls:=.type "dict",data:=.dict #[] }) scope.names=h₁
 have hns₁:h₁.Ns (s2.heap.push { cls:=.type "list",dict:=none,data:=.seq ([]:List Value).toArray }).objs.size (fun _=>none):=by
  rw [<- hh₁]; exact (Heap.Ns.new _ (.type "dict")).keeps (pushCells_keeps _ _)
 have hsz:(s2.heap.push { cls:=.type "list",dict:=none,data:=.seq ([]:List Value).toArray }).objs.size=s2.heap.objs.size + 1:=Heap.size_push ..
 have V7:∀ b ob,(s2.heap.push { cls:=.type "list",dict:=none,data:=.seq ([]:List Value).toArray }).get? b=some ob->h₁.get? b=some ob:=fun b ob e=>by
  rw [<- hh₁]; exact pushCells_keeps _ _ b ob (Heap.get?_push_of_some _ e)
 have e2s:((s2.heap.push { cls:=.type "list",dict:=none,data:=.seq ([]:List Value).toArray }).push { cls:=.type "dict",data:=.dict #[] }).objs.size=(s2.heap.push { cls:=.type "list",dict:=none,data:=.seq ([]:List Value).toArray }).objs.size + 1:=Heap.size_push ..
 have own:=cellsFrom_ok scope.names ((s2.heap.push { cls:=.type "list",dict:=none,data:=.seq ([]:List Value).toArray }).push { cls:=.type "dict",data:=.dict #[] }) ((s2.heap.push { cls:=.type "list",dict:=none,data:=.seq ([]:List Value).toArray }).objs.size + 1) [] ⟨fun _ _ hm=>(nomatch hm),List.Pairwise.nil⟩ (by rw [e2s]; exact Nat.le_refl _)
 rw [e2s,hh₁] at own
 rw [fO] at hcf
 generalize how:cellsFrom ((s2.heap.push { cls:=.type "list",dict:=none,data:=.seq ([]:List Value).toArray }).objs.size + 1) scope.names []=ow at own hcf
 have lk:∀ y c,cf.lookup y=some c->(scope.names.lookup y≠some .cell/\cl.lookup y=some c)∨(ow.lookup y=some c):=fun y c h=>by
  rw [<- hcf,List.lookup_append] at h
  cases q:ow.lookup y with
  | some c'=>rw [q] at h; exact .inr h
  | none =>
   rw [q] at h
   refine .inl ⟨fun z=>?_,h⟩
   have:=mL scope.names ((s2.heap.push { cls:=.type "list",dict:=none,data:=.seq ([]:List Value).toArray }).objs.size + 1) y (PySem.mem_of_lookup z)
   rw [how,q] at this
   cases this
 have owC:∀ y c,ow.lookup y=some c->scope.names.lookup y=some .cell/\(s2.heap.push { cls:=.type "list",dict:=none,data:=.seq ([]:List Value).toArray }).objs.size < c/\h₁.IsCell c none:=fun y c h=>by
  have hm:=PySem.mem_of_lookup h
  have h2:=qX scope.names _ y c (by rw [how]; exact hm)
  exact ⟨T.cells _ h2 rfl,(own.empty y c hm).2,(own.empty y c hm).1⟩
 have vX:∀ y c,X.env.cells.lookup y=some c->c < s2.heap.objs.size:=fun y c e=>let ⟨v,q⟩:=I2.cell y c e; q.lt
 have hcl:∀ y c,cf.lookup y=some c->(scope.names.lookup y≠some .cell/\X.env.cells.lookup y=some c)∨(scope.names.lookup y=some .cell/\(s2.heap.push { cls:=.type "list",dict:=none,data:=.seq ([]:List Value).toArray }).objs.size < c/\h₁.IsCell c none):=fun y c h =>
  (lk y c h).imp (fun z=>⟨z.1,hcl y c z.2⟩) (owC y c)
 have W7:∀ y z c,cf.lookup y=some c->cf.lookup z=some c->y=z:=fun y z c h1 h2=>by
  rcases lk y c h1 with ⟨a1,a2⟩ | a <;> rcases lk z c h2 with ⟨b1,b2⟩ | b
  ·rcases hcl y c h1 with ⟨_,w1⟩ | ⟨w1,_⟩
   ·rcases hcl z c h2 with ⟨_,w2⟩ | ⟨w2,_⟩
    ·exact I2.ok.inj y z c w1 w2
    ·exact absurd w2 b1
   ·exact absurd w1 a1
  ·rcases hcl y c h1 with ⟨_,w1⟩ | ⟨w1,_⟩
   ·exact (Nat.lt_irrefl _ (Nat.lt_trans (vX y c w1) (Nat.lt_trans (by rw [hsz]; exact Nat.lt_succ_self _) (owC z c b).2.1))).elim
   ·exact absurd w1 a1
  ·rcases hcl z c h2 with ⟨_,w1⟩ | ⟨w1,_⟩
   ·exact (Nat.lt_irrefl _ (Nat.lt_trans (vX z c w1) (Nat.lt_trans (by rw [hsz]; exact Nat.lt_succ_self _) (owC y c a).2.1))).elim
   ·exact absurd w1 b1
  ·exact PySem.name_of_addr own.apart (PySem.mem_of_lookup a) (PySem.mem_of_lookup b)
 have Fx:∀ y∈scope.names,(y.2 = .free∨y.2 = .cell)->(cf.lookup y.1).isSome=true:=fun y hy hk=>by
  rw [<- hcf,List.lookup_append]
  rcases hk with hk | hk
  ·obtain ⟨c,e⟩:=Option.isSome_iff_exists.mp (Fx y hy hk)
   rw [e]
   cases ow.lookup y.1 <;> rfl
  ·have:=mL scope.names ((s2.heap.push { cls:=.type "list",dict:=none,data:=.seq ([]:List Value).toArray }).objs.size + 1) y.1 (by rw [<- hk]; exact hy)
   rw [how] at this
   obtain ⟨c,e⟩:=Option.isSome_iff_exists.mp this
   rw [e]; rfl
 clear lk owC own how hcf
 dsimp only at hns₁ ⊢
 have I0:=Gd (o:={ cls:=.type "list",dict:=none,data:=.seq ([]:List Value).toArray }) (tk:=s2.toks) T hcl W7 Fx I2 st2 Tn f2 (by intro v z; cases z) hns₁ V7
 have st1:tn 0 h₁:=Tn.keep 0 _ _ st2 fun b _ ob e=>V7 b ob (Heap.get?_push_of_some _ e)
 have hD0:listAt h₁ s2.heap.objs.size []:=⟨[],0,.nil,V7 _ _ (Heap.get?_push_size _ rfl)⟩
 have fpF:∀ {H:Hp} {pn:List (Addr×Obj)},(∀ b∈fp,H b=none)->(∀ p∈pn,p.1 ∉ fp)->∀ b∈fp,wD (iU X Nc scope cf (s2.heap.push { cls:=.type "list",dict:=none,data:=.seq ([]:List Value).toArray }).objs.size { s2 with heap:=s2.heap.push { cls:=.type "list",dict:=none,data:=.seq ([]:List Value).toArray } } H2 (s2.heap.objs.size :: fp)) pn H b:=fun {H pn} hn hp b hb=>by
  have hlt:b < s2.heap.objs.size:=let ⟨ob,e,_⟩:=Tn.obj 0 s2.heap st2 b hb; Heap.lt_size e
  refine ⟨hn b hb,?_,fun z=>?_,.inl (List.mem_cons_of_mem _ hb),fun y c h=>?_,fun p hpp=>?_⟩
  ·exact Nat.ne_of_lt (by show b < (s2.heap.push _).objs.size; rw [hsz]; exact Nat.lt_succ_of_lt hlt)
  ·rcases List.mem_cons.mp (I2.yM b z) with z | z
   ·exact (f2 b hb).2.1 z
   ·exact (f2 b hb).2.2.1 z
  ·rcases hcl y c h with ⟨_,w⟩ | ⟨_,w,_⟩
   ·exact (f2 b hb).2.2.2.2.1 y c w
   ·exact Nat.ne_of_gt (Nat.lt_trans hlt (by lia))
  ·rcases List.mem_append.mp hpp with q | q
   ·exact absurd (show p∈([]:List (Addr×Obj)) from q) (by simp)
   ·exact fun z=>hp p q (z ▸ hb)
 have loop:codeAny (model X.prog X.w) X.A (.compLoop (.ListComp elt [⟨tg,iter,ifs,0⟩] scope pos) 0 (.ref it) (.ref s2.heap.objs.size) (compEnvC scope cf (s2.heap.push { cls:=.type "list",dict:=none,data:=.seq ([]:List Value).toArray }).objs.size X.env))
   (RR (.ref s2.heap.objs.size) (s2.heap.push { cls:=.type "list",dict:=none,data:=.seq ([]:List Value).toArray }).objs.size) { s2 with heap:=h₁,toks:=s2.toks }:=by
  generalize hX:iU X Nc scope cf (s2.heap.push { cls:=.type "list",dict:=none,data:=.seq ([]:List Value).toArray }).objs.size { s2 with heap:=s2.heap.push { cls:=.type "list",dict:=none,data:=.seq ([]:List Value).toArray } } H2 (s2.heap.objs.size :: fp)=X' at I0 fpF
  have eP:X'.prog=X.prog:=by rw [<- hX]; rfl
  have ew:X'.w=X.w:=by rw [<- hX]; rfl
  have eK:X'.K=X.K:=by rw [<- hX]; rfl
  have eA:X'.A=X.A:=by rw [<- hX]; rfl
  have ec:X'.calm=X.calm:=by rw [<- hX]; rfl
  have eN:X'.N=Nc:=by rw [<- hX]; rfl
  have ee:X'.env=compEnvC scope cf (s2.heap.push { cls:=.type "list",dict:=none,data:=.seq ([]:List Value).toArray }).objs.size X.env:=by rw [<- hX]; rfl
  have ex:X'.xe=fun _ _=>False:=by rw [<- hX]; rfl
  have eX:X'.ex=s2.heap.objs.size :: fp:=by rw [<- hX]; rfl
  have hT':Xz X' ifs tt:=by rw [<- hX]; exact hT _ _ _ _ _
  have hE':PE X' elt te:=by rw [<- hX]; exact hE _ _ _ _ _
  have hG':PG X' tg gt:=by rw [<- hX]; exact hG _ _ _ _ _
  have back:∀ {σ':St} {H:Hp} {s':Shared} {rm:List (Addr×Obj)} {vs:List V} {h':Heap},Inv X' rm σ' H s'->H s2.heap.objs.size=none->vs.length<=sizeLine->listAt s'.heap s2.heap.objs.size vs ->
    Heap.SameBut (s2.heap.push { cls:=.type "list",dict:=none,data:=.seq ([]:List Value).toArray }).objs.size s'.heap h'->Inv X pins σ (upd H s2.heap.objs.size (.lst vs)) { s' with heap:=h' }:=by
   intro σ' H s' rm vs h' I
   rw [<- hX] at I
   exact comp_back I2 f2 I
  have Dex:s2.heap.objs.size∈X'.ex∨X'.s₀.heap.objs.size<=s2.heap.objs.size:=.inl (by rw [eX]; exact List.mem_cons_self)
  have DnL:s2.heap.objs.size≠X'.env.locals:=by rw [ee]; exact Nat.ne_of_lt (by show _ < (s2.heap.push _).objs.size; rw [hsz]; exact Nat.lt_succ_self _)
  have DnC:∀ y c,X'.env.cells.lookup y=some c->c≠s2.heap.objs.size:=fun y c h=>by
   rw [ee] at h
   rcases hcl y c h with ⟨_,w⟩ | ⟨_,w,_⟩
   ·exact Nat.ne_of_lt (vX y c w)
   ·exact Nat.ne_of_gt (by lia)
  have DnF:s2.heap.objs.size ∉ X'.fs:=fun z=>by
   rw [<- hX] at z
   obtain ⟨_,ob,e,_⟩:=I2.stack.mem (show s2.heap.objs.size∈frs X.stack from z)
   exact Nat.lt_irrefl _ (Heap.lt_size e)
  have Dfp:s2.heap.objs.size ∉ fp:=fun hb=>by
   obtain ⟨ob,e,_⟩:=Tn.obj 0 s2.heap st2 _ hb
   exact Nat.lt_irrefl _ (Heap.lt_size e)
  have pn0:X'.pn=[]:=by rw [<- hX]; rfl
  rw [<- ee]
  refine Ge (fun n s=>∃ i vs H σ0,Inv X' [] σ0 H s/\tn i s.heap/\(∀ b∈fp,H b=none)/\H s2.heap.objs.size=none/\listAt s.heap s2.heap.objs.size vs/\W i n vs σ0 H) ?_ m0
   ⟨0,[],H2,_,I0,st1,fun b hb=>(f2 b hb).1,I2.hok.fresh (Nat.le_refl _),hD0,w0⟩
  rintro n s ⟨i,vs,H,σ0,I,st,hf,hDn,⟨its,k,rv,eD⟩,w1⟩
  have pinned:Inv X' [(s2.heap.objs.size,({ cls:=.type "list",data:=.seq its.toArray k }:Obj))] σ0 H s:=I.oY fun p hp=>by
   obtain rfl:=List.mem_singleton.mp hp
   exact ⟨eD,hDn,DnL,DnF,fun v z=>by cases z⟩
  have fpp:∀ p∈[(s2.heap.objs.size,({ cls:=.type "list",data:=.seq its.toArray k }:Obj))],p.1 ∉ fp:=fun p hp=>by
   obtain rfl:=List.mem_singleton.mp hp
   exact Dfp
  rcases turn i n vs σ0 H w1 with ⟨hz,stop,fn⟩ | ⟨go,hz,step⟩
  ·have dn:=Tn.done X' eP ew eK ec i _ s _ H (notedBy (model X.prog X.w) X.A X'.env fun e s'=>RR (.ref s2.heap.objs.size) (s2.heap.push { cls:=.type "list",dict:=none,data:=.seq ([]:List Value).toArray }).objs.size (.error e) s') pinned (fpF hf fpp) st stop
   rw [eA] at dn
   refine bG dn fun r s1 ⟨hr,J1⟩=>?_
   subst hr
   have pD:=J1.pin (s2.heap.objs.size,({ cls:=.type "list",data:=.seq its.toArray k }:Obj)) (by rw [pn0]; simp)
   obtain ⟨mC,hnC,_⟩:=J1.loc
   rw [ee] at hnC
   have fC:=J1.free
   rw [ee] at fC
   refine fin _ vs H s1 mC (by rw [hsz]; exact Nat.lt_succ_self _) fC hnC hDn fn fun h' hs=>back J1 hDn hz ⟨its,k,rv,pD.1⟩ hs
  ·have im:=Tn.item X' eP ew eK ec i _ s _ H (notedBy (model X.prog X.w) X.A X'.env fun e s'=>RR (.ref s2.heap.objs.size) (s2.heap.push { cls:=.type "list",dict:=none,data:=.seq ([]:List Value).toArray }).objs.size (.error e) s') pinned (fpF hf fpp) st go
   rw [eA] at im
   refine bG im fun r s1 ⟨u,hr,h1⟩=>?_
   subst hr
   dsimp only
   refine bG h1 fun _ s3 ⟨y,H3,I3,r3,y3,st3,fr3⟩=>?_
   have I3':=I3.pinned (fpF fr3 fpp) (Tn.obj _ _ st3)
   have g:=hG' _ s3 _ H3 y u _ I3' r3 (step y H3 y3)
   rw [eP,ew,eA,ex] at g
   refine wpAny_mono g (fun _ s4 ⟨σ4,H4,I4,q4⟩=>?_) fun _ _ z=>z.elim
   have t:=hT' _ s4 _ H4 _ I4 q4
   rw [eP,ew,eA,ex] at t
   have tk':∀ {pl:List (Addr×Obj)} {σ':St} {H':Hp} {s':Shared},Inv X' (pl ++ uN fp s3.heap) σ' H' s'->tn (i + 1) s'.heap/\∀ b∈fp,H' b=none:=fun {pl σ' H' s'} J=>by
    refine ⟨Tn.keep _ _ _ st3 fun b hb o e=>(J.pin (b,o) (List.mem_append_right _ (List.mem_append_right _ (jG hb e)))).1,fun b hb=>?_⟩
    obtain ⟨o,e,d⟩:=Tn.obj _ _ st3 b hb
    exact (J.pin (b,o) (List.mem_append_right _ (List.mem_append_right _ (jG hb e)))).2.1
   refine wpAny_mono t (fun b s5 ⟨H5,I5,q5⟩=>?_) fun _ _ z=>z.elim
   cases b with
   | false =>
    rw [if_neg Bool.false_ne_true] at q5 ⊢
    obtain ⟨m',hm,w5⟩:=q5
    obtain ⟨Yt,fr5⟩:=tk' I5
    have pD:=I5.pin (s2.heap.objs.size,({ cls:=.type "list",data:=.seq its.toArray k }:Obj)) (by simp)
    exact ⟨m',hm,i + 1,vs,H5,σ4,I5.oY (fun p hp=>nomatch hp),Yt,fr5,pD.2.1,⟨its,k,rv,pD.1⟩,w5⟩
   | true =>
    rw [if_pos rfl] at q5 ⊢
    have ev:=hE' _ s5 _ H5 _ I5 q5
    rw [eP,ew,eA,ex] at ev
    refine wpAny_mono ev (fun z s6 ⟨v,H6,I6,r6,q6⟩=>?_) fun _ _ z=>z.elim
    obtain ⟨m',hm,w6⟩:=q6
    obtain ⟨st6,fr6⟩:=tk' I6
    have pD:=I6.pin (s2.heap.objs.size,({ cls:=.type "list",data:=.seq its.toArray k }:Obj)) (by simp)
    have hlen:=rv.length
    refine call_meets F.slot_list_append ⟨_,pD.1,rfl⟩ F.entry_list_append (F.args_list_append_2 _ _) (PySem.list_append s2.heap.objs.size its.toArray k z (by rw [List.size_toArray]; lia)) ⟨pD.1,?_⟩
    have q:=PySem.IsL.update pD.1 (fun a=>a.push z)
    dsimp only at q
    rw [show its.toArray.push z=(its ++ [z]).toArray by simp] at q
    have kk:∀ b o,b≠s2.heap.objs.size->s6.heap.get? b=some o->(s6.heap.update s2.heap.objs.size (Obj.mapSeq fun a=>a.push z)).get? b=some o:=fun b o hb e=>(Heap.get?_update_other s6.heap _ (Ne.symm hb)).trans e
    have I7:Inv X' [] σ4 H6 { s6 with heap:=s6.heap.update s2.heap.objs.size (Obj.mapSeq fun a=>a.push z),toks:=s6.toks }:=(I6.oY (rm:=[]) (fun p hp=>nomatch hp)).turned kk pD.2.1 DnL Dex DnC (fun p hp=>by
     rw [pn0] at hp; exact absurd hp (by simp))
    refine ⟨m',hm,i + 1,vs ++ [v],H6,σ4,I7,Tn.keep _ _ _ st6 (fun b hb o e=>kk b o (fun zz=>Dfp (zz ▸ hb)) e),fr6,pD.2.1,⟨its ++ [z],_,rv.append (.cons r6 .nil),q⟩,w6⟩
 exact codeAny_compStart_list loop (Tn.self _ 0 _ _ _ st1 loop)
end
end L2
namespace L2
open PySem PySem.Spec PyProof.Rows
section
variable {X:Cx} {elt iter tg:Expr} {xs:List Str} {gt:TG} {ifs:List Expr} {scope:Scope} {pos:Pos} {Nc:List Str} {cap:List Nat} {tt:TT} {te:TE} {wi:TI}
theorem yr {pins:List (Addr×Obj)} {s:Shared} {σ:St} {H:Hp} (T:mU X xs scope Nc cap) (I:Inv X pins σ H s):∃ cl,closureFor scope X.env=pure cl/\(∀ y c,cl.lookup y=some c->X.env.cells.lookup y=some c)/\∀ y∈scope.names,y.2 = .free->(cl.lookup y.1).isSome=true :=
 rT fun y hy hf=>I.ok.has y.1 (T.free y hy hf)
theorem Rt (T:mU X xs scope Nc cap) (hi:PI X tg iter wi) (hG:∀ cl C s H ex,PG (iU X Nc scope cl C s H ex) tg gt) (hT:∀ cl C s H ex,Xz (iU X Nc scope cl C s H ex) ifs tt) (hE:∀ cl C s H ex,PE (iU X Nc scope cl C s H ex) elt te)
  (hs:∀ v,foldedSetIterable iter X.env v=pure v):PE X (.ListComp elt [⟨tg,iter,ifs,0⟩] scope pos) (K3 xs.length gt cap wi tt te):=by
 intro pins s σ H Q I h
 rw [eval_ListComp]
 obtain ⟨cl,e1,e2,e3⟩:=yr T I
 refine wpAny_comprehension_free (use:=none) rfl hs e1 T.kind T.names (bG (hi pins s σ H _ I h) fun v s1 h1=>bG h1 fun itv s2 h2=>?_)
 obtain ⟨it,fp,tn,J,H2,rfl,I2,Tn,st2,f2,W,⟨m0,w0⟩,turn⟩:=h2
 refine Dg (RR:=fun acc C=>compPost (model X.prog X.w) X.A X.xe none (EP X pins σ Q) acc C) T e2 e3 I2 st2 Tn f2 hG hT hE W w0 turn fun C vs H' s' m hC hHC hn hD fn back=>?_
 exact ⟨m,hn,fun h' hs'=>⟨.ref _,_,back h' hs',rfl,fn _ hD⟩⟩
theorem Ep {i:Nat} {t:Str} {pt pos2:Pos} (T:mU X xs scope Nc cap) (hi:PI X tg iter wi) (hG:∀ cl C s H ex,PG (iU X Nc scope cl C s H ex) tg gt) (hT:∀ cl C s H ex,Xz (iU X Nc scope cl C s H ex) ifs tt) (hE:∀ cl C s H ex,PE (iU X Nc scope cl C s H ex) elt te)
  (hs:∀ v,foldedSetIterable iter X.env v=pure v) (hN:X.N.Nodup) (hti:X.N[i]? = some t) (htl:X.env.scope.names.lookup t=some .local)
  (hsw:swapsWith (.ListComp elt [⟨tg,iter,ifs,0⟩] scope pos) (some (.Name t pt)) pos2.line X.env=pure true) :
  PS X (.Assign [.Name t pt] (.ListComp elt [⟨tg,iter,ifs,0⟩] scope pos) pos2) (Ih (K3 xs.length gt cap wi tt te) (CK i)):=by
 intro pins s σ H D I h
 rw [exec_Assign_Name_used _ _ _ _ hsw]
 obtain ⟨cl,e1,e2,e3⟩:=yr T I
 refine wpAny_bind (wpAny_standAt (wpAny_bind ?_))
 show wpAny _ X.A (do let _ <- comprehension (.ListComp elt [⟨tg,iter,ifs,0⟩] scope pos) scope X.env _ (newList []) false (eval iter X.env) (some (assign (.Name t pt) X.env))) _ _ s
 refine wpAny_bind (wpAny_mono (wpAny_comprehension_free (use:=some (assign (.Name t pt) X.env)) (Q:=fun _ s'=>SP X pins D .next s') rfl hs e1 T.kind T.names
  (bG (hi pins s σ H _ I h) fun v s1 h1=>bG h1 fun itv s2 h2=>?_)) (fun _ s' q=>wpAny_pure (wpAny_pure q)) fun _ _ e=>e)
 obtain ⟨it,fp,tn,J,H2,rfl,I2,Tn,st2,f2,W,⟨m0,w0⟩,turn⟩:=h2
 refine Dg (RR:=fun acc C=>compPost (model X.prog X.w) X.A X.xe (some (assign (.Name t pt) X.env)) (fun _ s'=>SP X pins D .next s') acc C) T e2 e3 I2 st2 Tn f2 hG hT hE W w0 turn fun C vs H' s' m hC hHC hn hD fn back=>?_
 have I3:Inv X pins σ (upd H' s2.heap.objs.size (.lst vs)) s':=back s'.heap (.refl ..)
 have hLC:X.env.locals≠C:=Nat.ne_of_lt (Nat.lt_trans I2.lt hC)
 have hDC:C≠s2.heap.objs.size:=Nat.ne_of_gt hC
 show wpAny _ X.A (assign (.Name t pt) X.env (.ref s2.heap.objs.size)) _ _ s'
 refine wpAny_assign_Name (xH I3 hN hti (.inl htl) (v:=.ref s2.heap.objs.size) rfl (fun s4 I4 ⟨a,sb,ha⟩=>?_) (.inr htl))
 have hCa:C≠a:=by
  rcases ha with rfl | ha
  ·exact Ne.symm hLC
  ·obtain ⟨v,q⟩:=I2.cell t a ha
   exact Nat.ne_of_gt (Nat.lt_trans q.lt hC)
 refine ⟨m,hn.sameBut sb hCa,fun h' sb'=>⟨_,_,I4.turned (t':=s4.toks) (it:=C) (fun b o hb e=>(sb'.2 b hb).trans e) (by rw [aL hDC]; exact hHC) (Ne.symm hLC) (.inr ?_) (fun y c e=>?_) (fun p hp=>?_),fn _ hD⟩⟩
 ·exact Nat.le_trans I2.sz (Nat.le_of_lt hC)
 ·obtain ⟨v,q⟩:=I2.cell y c e
  exact Nat.ne_of_lt (Nat.lt_trans q.lt hC)
 ·exact Nat.ne_of_lt (Nat.lt_trans (Heap.lt_size (I2.pin p hp).1) hC)
end
end L2
end
section
namespace DW
open PySem PySem.Spec PyProof.Rows L2
noncomputable def oE (K:PySem.W.Frag) (J:L2.It) (ds:List D) (g:Mem->Prop) (H0:Hp) (θ0:List Addr) (μ0:Mem):Prop :=
 ds.length<=sizeLine/\∀ (i:Nat) (H:Hp) (θ:List Addr) (μ:Mem),bY K H θ μ->aD H0 θ0 μ0 H θ μ->g μ ->
  (i < ds.length->J.go i H/\∀ x H',J.Yd i H x H'->bY K H' θ μ/\aD H θ μ H' θ μ/\∃ d,ds[i]? = some d/\Rp K H' θ μ d x)/\(i=ds.length->J.stop i H)
noncomputable abbrev WI:=dM->Mem->QI->Prop
noncomputable def LI (K:PySem.W.Frag) (w:WI):TI:=fun σ H R=>∃ ρ θ μ Qi,qY K σ H ρ θ μ/\w ρ μ Qi /\
 ∀ ds g (J:L2.It) H' θ' μ',bY K H' θ' μ'->aD H θ μ H' θ' μ'->oE K J ds g H' θ' μ'->Qi ds g μ'->R J H'
section
variable {K:PySem.W.Frag} {H:Hp} {θ:List Addr} {μ:Mem} {ds:List D} {a:Addr} {xs:List V}
theorem qd (hl:ds.length<=sizeLine) (g:Mem->Prop) (h:∀ (H':Hp) (θ':List Addr) (μ':Mem),bY K H' θ' μ'->aD H θ μ H' θ' μ'->g μ'->∃ xs,f9 K H' a xs/\eF K H' θ' μ' ds xs):oE K (Itl K a) ds g H θ μ:=by
 refine ⟨hl,fun i H' θ' μ' w' gr hg=>?_⟩
 obtain ⟨xs,hx,rs⟩:=h H' θ' μ' w' gr hg
 refine ⟨fun hi=>?_,fun hi=>⟨xs,hx,by rw [hi,rs.length]; exact Nat.le_refl _⟩⟩
 obtain ⟨v,e1,e2⟩:=rs.get (i:=i) (List.getElem?_eq_getElem hi)
 refine ⟨⟨xs,v,hx,e1⟩,fun x Gn y=>?_⟩
 obtain ⟨rfl,y⟩:=y
 have:=y xs hx
 rw [e1] at this; cases this
 exact ⟨w',aD.refl,_,List.getElem?_eq_getElem hi,e2⟩
theorem Ka (hl:ds.length<=sizeLine) (g:Mem->Prop) (h:∀ (H':Hp) (θ':List Addr) (μ':Mem),bY K H' θ' μ'->aD H θ μ H' θ' μ'->g μ'->∃ xs,p7 K H' a xs/\eF K H' θ' μ' ds xs):oE K (Itt K a) ds g H θ μ:=by
 refine ⟨hl,fun i H' θ' μ' w' gr hg=>?_⟩
 obtain ⟨xs,hx,rs⟩:=h H' θ' μ' w' gr hg
 refine ⟨fun hi=>?_,fun hi=>⟨xs,hx,by rw [hi,rs.length]; exact Nat.le_refl _⟩⟩
 obtain ⟨v,e1,e2⟩:=rs.get (i:=i) (List.getElem?_eq_getElem hi)
 refine ⟨⟨xs,v,hx,e1⟩,fun x Gn y=>?_⟩
 obtain ⟨rfl,y⟩:=y
 have:=y xs hx
 rw [e1] at this; cases this
 exact ⟨w',aD.refl,_,List.getElem?_eq_getElem hi,e2⟩
theorem tR {lo:Int} {n:Nat} (hn:n<=sizeLine):oE K (Z1 lo n) (dD lo n) (fun _=>True) H θ μ:=by
 refine ⟨by simpa [dD] using hn,fun i H' θ' μ' w' gr _=>⟨fun hi=>?_,fun hi=>?_⟩⟩
 ·have hi':i < n:=by simpa [dD] using hi
  refine ⟨hi',fun x Gn y=>?_⟩
  obtain ⟨rfl,rfl⟩:=y
  exact ⟨w',aD.refl,.int (lo + (i:Int)),by simp [dD,hi'],bL⟩
 ·have hi':i=n:=by simpa [dD] using hi
  show n<=i
  lia
end
section
variable {X:Cx} {tg:Expr}
theorem Ra {l:Expr} {wl:WE} (hcl:X.calm=true) (hl:PE X l (LE X.K wl)):PI X tg l (LI X.K fun ρ μ Q=>wl ρ μ fun d μ1=>yI d μ1 Q):=by
 intro pins s σ H R I h
 have big:∀ (x:V) (H1:Hp) (s1:Shared),Inv X pins σ H1 s1->True:=fun _ _ _ _=>trivial
 obtain ⟨ρ,θ,μ,Qi,sm,h,f⟩:=h
 refine bG (hl pins s σ H (fun x H1=>∃ d θ1 μ1,bY X.K H1 θ1 μ1/\aD H θ μ H1 θ1 μ1/\Rp X.K H1 θ1 μ1 d x/\yI d μ1 Qi) I ⟨ρ,θ,μ,_,sm,h,fun d v H1 θ1 μ1 w1 g1 r1 h1=>⟨d,θ1,μ1,w1,g1,r1,h1⟩⟩) fun v s1 ⟨x,H1,I1,r1,d,θ1,μ1,w1,g1,rd,hq⟩=>?_
 have pe:∀ (R':L2.It->Hp->Prop),((∃ a,x = .ref a/\(∃ xs,f9 X.K H1 a xs)/\R' (Itl X.K a) H1)∨(∃ a,x = .ref a/\(∃ xs,p7 X.K H1 a xs)/\R' (Itt X.K a) H1)) ->
   wpAny (model X.prog X.w) X.A (pyIter v) (PIE X pins σ tg R') X.xe s1:=fun R' q1=>by
  rcases q1 with ⟨a,rfl,⟨xs,hq⟩,q⟩ | ⟨a,rfl,⟨xs,hq⟩,q⟩
  ·cases r1
   obtain ⟨its,rv,p,hz⟩:=I1.list hq
   refine wpAny_pyIter_list p.isList ?_
   refine ⟨s1.heap.objs.size,[s1.heap.objs.size],_,_,H1,rfl,I1.kept (t':=s1.toks) fun b o e=>Heap.get?_push_of_some _ e,Ib hcl a _,⟨_,Heap.get?_push_size _ rfl,rfl,rfl⟩,fun b hb=>?_,q⟩
   obtain rfl:=List.mem_singleton.mp hb
   exact I1.Jz (Nat.le_refl _) (I1.hok.fresh (Nat.le_refl _))
  ·cases r1
   obtain ⟨its,rv,p,hz⟩:=I1.tuple hq
   refine wpAny_pyIter_tuple (show s1.heap.IsTuple a its.toArray from p) ?_
   refine ⟨s1.heap.objs.size,[s1.heap.objs.size],_,_,H1,rfl,I1.kept (t':=s1.toks) fun b o e=>Heap.get?_push_of_some _ e,Ea hcl a _,⟨_,Heap.get?_push_size _ rfl,rfl,rfl⟩,fun b hb=>?_,q⟩
   obtain rfl:=List.mem_singleton.mp hb
   exact I1.Jz (Nat.le_refl _) (I1.hok.fresh (Nat.le_refl _))
 unfold yI at hq
 split at hq
 ·rename_i ds
  obtain ⟨a,xs,rfl,h1,nl,rs⟩:=eU rd
  have hz:ds.length<=sizeLine:=by obtain ⟨_,_,_,hz⟩:=I1.list (f9.of h1); rw [rs.length]; exact hz
  exact pe R (.inl ⟨a,rfl,⟨xs,.of h1⟩,f ds _ _ H1 θ1 μ1 w1 g1 (qd hz _ fun H' θ' μ' w' gr _=>⟨xs,.of (gr.keep a _ h1 nl).1,gr.reps rs⟩) hq⟩)
 ·rename_i ds
  obtain ⟨a,xs,rfl,h1,nl,rs⟩:=cA rd
  have hz:ds.length<=sizeLine:=by obtain ⟨_,_,_,hz⟩:=I1.tuple (p7.of h1); rw [rs.length]; exact hz
  exact pe R (.inr ⟨a,rfl,⟨xs,.of h1⟩,f ds _ _ H1 θ1 μ1 w1 g1 (Ka hz _ fun H' θ' μ' w' gr _=>⟨xs,.of (gr.keep a _ h1 nl).1,gr.reps rs⟩) hq⟩)
 ·rename_i ds
  obtain ⟨a,xs,rfl,h1,rs⟩:=zA rd
  have hz:ds.length<=sizeLine:=by obtain ⟨_,_,_,hz⟩:=I1.list (Ad h1); rw [rs.length]; exact hz
  refine pe R (.inl ⟨a,rfl,⟨xs,Ad h1⟩,f ds _ _ H1 θ1 μ1 w1 g1 (qd hz _ fun H' θ' μ' w' gr _=>⟨xs,?_,gr.reps rs⟩) hq⟩)
  rcases h1 with ⟨o,h1,h2⟩ | h1
  ·exact .inl (.inr ⟨o,(gr.keep a _ h1 h2).1⟩)
  ·exact .inr h1
 ·rename_i n
  obtain ⟨a,rfl,ha⟩:=bT rd
  split at hq
  ·rename_i ds hn
   obtain ⟨xs,h1,rs⟩:=w1.list hn ha
   have hz:ds.length<=sizeLine:=by obtain ⟨_,_,_,hz⟩:=I1.list (f9.of h1); rw [rs.length]; exact hz
   refine pe R (.inl ⟨a,rfl,⟨xs,.of h1⟩,f ds _ _ H1 θ1 μ1 w1 g1 (qd hz _ fun H' θ' μ' w' gr hg=>?_) hq⟩)
   obtain ⟨ys,h2,rs2⟩:=w'.list hg (gr.pre n a ha)
   exact ⟨ys,.of h2,rs2⟩
  ·exact hq.elim
 ·exact hq.elim
theorem Lx {a:Expr} {ws:WA} {y:Str} {p pos:Pos} (ey:y=Str.ofString "range") (hg:Gl X y) (hm:X.mg y=none) (ha:PA X [a] (LA X.K ws)) (hs:starEach [a] X.env=[(false,eval a X.env)]) :
  PI X tg (.Call (.Name y p) [a] [] pos) (LI X.K fun ρ μ Q=>ws ρ μ fun ds μ1=>rK 1 ds μ1 Q):=by
 subst ey
 intro pins s σ H R I h
 refine Iv (tg:=tg) hg hm ha hs pins s σ H R I ?_
 obtain ⟨ρ,θ,μ,Qi,sm,h,f⟩:=h
 refine ⟨ρ,θ,μ,_,sm,h,fun ds vs H1 θ1 μ1 w1 g1 r1 h1=>?_⟩
 have hl:lim=16777216:=rfl
 unfold rK at h1
 split at h1
 ·rename_i j _
  obtain ⟨v,r,rfl,r2,r3⟩:=r1.cons_inv
  cases r3.nil_inv
  cases aC r2
  obtain ⟨k1,k2,k3⟩:=h1
  refine ⟨j,rfl,k2,by rw [hl] at k1; lia,f _ _ _ H1 θ1 μ1 w1 g1 (tR ?_) k3⟩
  rw [hl] at k1; rw [sizeLine_eq]; lia
 ·rename_i h2; cases h2
 ·exact h1.elim
theorem Lw {a b:Expr} {ws:WA} {y:Str} {p pos:Pos} (ey:y=Str.ofString "range") (hg:Gl X y) (hm:X.mg y=none) (ha:PA X [a,b] (LA X.K ws)) (hs:starEach [a,b] X.env=[(false,eval a X.env),(false,eval b X.env)]) (hs2:starEach [b] X.env=[(false,eval b X.env)]) :
  PI X tg (.Call (.Name y p) [a,b] [] pos) (LI X.K fun ρ μ Q=>ws ρ μ fun ds μ1=>rK 2 ds μ1 Q):=by
 subst ey
 intro pins s σ H R I h
 refine Iu (tg:=tg) hg hm ha hs hs2 pins s σ H R I ?_
 obtain ⟨ρ,θ,μ,Qi,sm,h,f⟩:=h
 refine ⟨ρ,θ,μ,_,sm,h,fun ds vs H1 θ1 μ1 w1 g1 r1 h1=>?_⟩
 have hl:lim=16777216:=rfl
 unfold rK at h1
 split at h1
 ·rename_i h2; cases h2
 ·rename_i i j _
  obtain ⟨v,r,rfl,r2,r3⟩:=r1.cons_inv
  obtain ⟨w,r,rfl,r4,r5⟩:=r3.cons_inv
  cases r5.nil_inv
  cases aC r2
  cases aC r4
  obtain ⟨⟨k0,k1⟩,k3⟩:=h1
  refine ⟨i,j,rfl,k1,f _ _ _ H1 θ1 μ1 w1 g1 (tR ?_) k3⟩
  rw [hl] at k0; rw [sizeLine_eq]; lia
 ·exact h1.elim
noncomputable def LG (K:PySem.W.Frag) (bnd:D->dM->(dM->Prop)->Prop):TG:=fun v σ H Q=>∃ d ρ θ μ k,qY K σ H ρ θ μ/\Rp K H θ μ d v/\bnd d ρ k/\∀ σ' ρ',qY K σ' H ρ' θ μ->k ρ'->Q σ' H
theorem PG.wk {t t':TG} (h:PG X tg t) (m:∀ v σ H Q,t' v σ H Q->t v σ H Q):PG X tg t':=fun pins s σ H v u Q I r hw=>h pins s σ H v u Q I r (m v σ H Q hw)
theorem LC {i:Nat} {x:Str} {pos:Pos} (hN:X.N.Nodup) (hi:X.N[i]? = some x) (hx:Loc X.env.scope x) (hf:X.fn x=true∨X.env.scope.names.lookup x=some .local):PG X (.Name x pos) (LG X.K (cZ [i] false)) :=
 PG.wk (GK hN hi hx hf) fun v σ H Q h=>by
  obtain ⟨d,ρ,θ,μ,k,sm,rd,hb,f⟩:=h
  exact f _ _ (sm.set rd i) hb
noncomputable def zH:List Nat->Uy
 | []=>Zr
 | i :: is=>Uq (CK i) (zH is)
theorem yj {K:PySem.W.Frag} {H:Hp} {θ:List Addr} {μ:Mem} {Q:L2.St->Hp->Prop}:∀ (is:List Nat) (ds:List D) (vs:List V) (σ:L2.St) (ρ:dM),qY K σ H ρ θ μ->eF K H θ μ ds vs->ds.length=is.length ->
  (∀ σ',qY K σ' H ((is.zip ds).foldl (fun r p=>r.set p.1 (some p.2)) ρ) θ μ->Q σ' H)->zH is vs σ H Q
 | [],ds,vs,σ,ρ,sm,rs,hl,f=>by
  have:ds=[]:=by simpa using hl
  subst this
  cases rs.nil_inv
  exact ⟨rfl,f σ (by simpa using sm)⟩
 | i :: is,ds,vs,σ,ρ,sm,rs,hl,f=>by
  cases ds with
  | nil=>simp at hl
  | cons d ds =>
   obtain ⟨v,r,rfl,r1,r2⟩:=rs.cons_inv
   exact ⟨v,r,rfl,yj is ds r (σ.set i (some v)) (ρ.set i (some d)) (sm.set r1 i) r2 (by simpa using hl) (by simpa using f)⟩
theorem Rg {is:List Nat} {es:List Expr} {k:Nat} {pos:Pos} (hc:X.calm=true) (h:X8 X es (zH is)) (hn:(assignEach es X.env).length=is.length) (hst:(assignEach es X.env).findIdx? (·.1)=none):PG X (.Tuple es k pos) (LG X.K (cZ is true)) :=
 PG.wk (Vz hc h hn hst) fun v σ H Q q=>by
  obtain ⟨d,ρ,θ,μ,k,sm,rd,hb,f⟩:=q
  unfold cZ at hb
  split at hb
  ·rename_i h2; cases h2
  ·split at hb
   ·rename_i ds
    obtain ⟨a,xs,rfl,h1,_,rs⟩:=cA rd
    exact ⟨a,xs,rfl,.of h1,by rw [<- rs.length]; exact hb.1,yj is ds xs σ ρ sm rs hb.1 fun σ' s'=>f σ' _ s' hb.2⟩
   ·exact hb.elim
theorem QZ {EX:L2.St->XK} {iter:Expr} {body:List Stmt} {wi:WI} {bnd:D->dM->(dM->Prop)->Prop} {wb:WS} {pos:Pos} (hp:PassesOwn (model X.prog X.w) X.A X.env X.xe) (hc:X.calm=true) (hi:PI X tg iter (LI X.K wi)) (hg:PG X tg (LG X.K bnd)) (hb:yF X body (LS X.K EX wb))
  (hs:∀ x,foldedSetIterable iter X.env x=pure x):PS X (.For tg iter body [] pos) (LS X.K EX fun Z ρ μ=>wi ρ μ fun ds g μ1=>tU bnd wb g Z ds ρ μ1):=by
 refine PS.wk (Vx hp hc hi hg hb hs) fun E σ H h=>?_
 obtain ⟨ρ,θ,μ,Z,sm,h,f⟩:=h
 refine ⟨ρ,θ,μ,_,sm,h,fun ds g J H1 θ1 μ1 w1 g1 wk h1=>?_⟩
 have f1:=f.mono g1
 refine ⟨fun i m σ' H'=>m=ds.length - i/\i<=ds.length/\∃ ρ' θ' μ',qY X.K σ' H' ρ' θ' μ'/\aD H1 θ1 μ1 H' θ' μ'/\tU bnd wb g Z (ds.drop i) ρ' μ',⟨ds.length,by simp,Nat.zero_le _,ρ,θ1,μ1,sm.grow w1 g1,aD.refl,by simpa using h1⟩,?_⟩
 rintro i m σ' H' ⟨rfl,hi',ρ',θ',μ',sm',gr,hl⟩
 by_cases hlt:i < ds.length
 ·right
  have e:ds.drop i=ds[i] :: ds.drop (i + 1):=List.drop_eq_getElem_cons hlt
  rw [e] at hl
  obtain ⟨Fv,hl⟩:=hl
  obtain ⟨go,y⟩:=(wk.2 i H' θ' μ' sm'.yH gr Fv).1 hlt
  refine ⟨go,fun σ2 H2=>∃ ρ2 θ2 μ2,qY X.K σ2 H2 ρ2 θ2 μ2/\aD H1 θ1 μ1 H2 θ2 μ2/\tU bnd wb g Z (ds.drop (i + 1)) ρ2 μ2,fun σ2 H2 ⟨ρ2,θ2,μ2,s2,g2,l2⟩=>⟨ds.length - (i + 1),by lia,rfl,hlt,ρ2,θ2,μ2,s2,g2,l2⟩,fun x Gn yx=>?_⟩
  obtain ⟨w2,g2,d,ed,rd⟩:=y x Gn yx
  rw [List.getElem?_eq_getElem hlt] at ed
  cases ed
  refine ⟨ds[i],ρ',θ',μ',_,sm'.grow w2 g2,rd,hl,fun σ3 ρ3 s3 q3=>⟨ρ3,θ',μ',_,s3,q3,?_⟩⟩
  have g3:=gr.trans g2
  have f3:=f1.mono g3
  exact ⟨fun σ4 H4 ρ4 θ4 μ4 s4 g4 z4=>⟨ρ4,θ4,μ4,s4,g3.trans g4,z4⟩,f3.rt,fun σ4 H4 ρ4 θ4 μ4 s4 g4 z4=>f3.nx σ4 H4 ρ4 θ4 μ4 s4 g4 z4,fun σ4 H4 ρ4 θ4 μ4 s4 g4 z4=>⟨ρ4,θ4,μ4,s4,g3.trans g4,z4⟩,f3.xc⟩
 ·left
  have e:i=ds.length:=by lia
  subst e
  rw [List.drop_length] at hl
  obtain ⟨Fv,hl⟩:=hl
  exact ⟨(wk.2 _ H' θ' μ' sm'.yH gr Fv).2 rfl,f1.nx σ' H' ρ' θ' μ' sm' gr hl⟩
theorem QW {EX:L2.St->XK} {c:Expr} {body:List Stmt} {wt:WT} {wb:WS} {pos:Pos} (hp:PassesOwn (model X.prog X.w) X.A X.env X.xe) (hc:PT X c (LT X.K wt)) (hb:yF X body (LS X.K EX wb)) :
  PS X (.While c body [] pos) (LS X.K EX fun Z ρ μ=>∃ W:Nat->dM->Mem->Prop,(∃ m,W m ρ μ)/\∀ m ρ μ,W m ρ μ->wt ρ μ fun t μ1 =>
   if t=true then wb { Z with nx:=fun ρ' μ'=>∃ m',m' < m/\W m' ρ' μ',ct:=fun ρ' μ'=>∃ m',m' < m/\W m' ρ' μ',bk:=Z.nx } ρ μ1 else Z.nx ρ μ1):=by
 refine PS.wk (Lk hp hc hb) fun E σ H h=>?_
 obtain ⟨ρ,θ,μ,Z,sm,⟨W,⟨m0,w0⟩,turn⟩,f⟩:=h
 refine ⟨fun m σ' H'=>∃ ρ' θ' μ',qY X.K σ' H' ρ' θ' μ'/\aD H θ μ H' θ' μ'/\W m ρ' μ',⟨m0,ρ,θ,μ,sm,aD.refl,w0⟩,?_⟩
 rintro m σ1 H1 ⟨ρ1,θ1,μ1,s1,g1,w1⟩
 refine ⟨ρ1,θ1,μ1,_,s1,turn m ρ1 μ1 w1,fun b H2 θ2 μ2 wk2 g2 q=>?_⟩
 have f2:=f.mono (g1.trans g2)
 cases b with
 | true =>
  rw [if_pos rfl] at q
  dsimp only
  rw [if_pos rfl]
  refine ⟨fun σ3 H3=>∃ ρ3 θ3 μ3 m',m' < m/\qY X.K σ3 H3 ρ3 θ3 μ3/\aD H θ μ H3 θ3 μ3/\W m' ρ3 μ3,fun σ3 H3 ⟨ρ3,θ3,μ3,m',hm,s3,g3,w3⟩=>⟨m',hm,ρ3,θ3,μ3,s3,g3,w3⟩,ρ1,θ2,μ2,_,s1.grow wk2 g2,q,?_⟩
  exact ⟨fun σ4 H4 ρ4 θ4 μ4 s4 g4 ⟨m',hm,w4⟩=>⟨ρ4,θ4,μ4,m',hm,s4,(g1.trans g2).trans g4,w4⟩,f2.rt,f2.nx,fun σ4 H4 ρ4 θ4 μ4 s4 g4 ⟨m',hm,w4⟩=>⟨ρ4,θ4,μ4,m',hm,s4,(g1.trans g2).trans g4,w4⟩,f2.xc⟩
 | false =>
  rw [if_neg Bool.false_ne_true] at q
  dsimp only
  rw [if_neg Bool.false_ne_true]
  exact f2.nx σ1 H2 ρ1 θ2 μ2 (s1.grow wk2 g2) aD.refl q
theorem QH {K:PySem.W.Frag} {H:Hp} {θ:List Addr} {μ:Mem} {σ:L2.St} {ρ:dM} {cap:List Nat} (n:Nat) (sm:qY K σ H ρ θ μ):qY K (List.replicate n none ++ wY cap σ) H (List.replicate n none ++ cap.map fun i=>(ρ[i]?).join) θ μ:=by
 refine ⟨sm.yH,by simp [wY],fun i e h=>?_⟩
 by_cases hi:i < n
 ·rw [List.getElem?_append_left (by simpa using hi),List.getElem?_replicate] at h
  split at h <;> cases h
 ·obtain ⟨j,rfl⟩:∃ j,i=n + j:=⟨i - n,by lia⟩
  rw [List.getElem?_append_right (by simp)] at h ⊢
  simp only [List.length_replicate,Nat.add_sub_cancel_left,List.getElem?_map] at h ⊢
  cases q:cap[j]? with
  | none=>rw [q] at h; cases h
  | some k =>
   rw [q] at h
   simp only [Option.map_some,Option.some.injEq] at h
   have hj:ρ[k]? = some (some e):=by
    cases z:ρ[k]? with
    | none=>rw [z] at h; cases h
    | some w=>rw [z] at h; simp only [Option.join_some] at h; rw [h]
   obtain ⟨w,e1,e2⟩:=sm.val k e hj
   refine ⟨w,?_,e2⟩
   simp only [wY,List.getElem?_map,q,Option.map_some,e1,Option.join_some]
theorem vN (caps:dM):∀ (ds:List D) (pre ρs:dM),ρs.length=ds.length->((List.range' pre.length ds.length).zip ds).foldl (fun r p=>r.set p.1 (some p.2)) (pre ++ ρs ++ caps)=pre ++ ds.map some ++ caps
 | [],pre,ρs,h=>by
  have:ρs=[]:=by simpa using h
  subst this; simp
 | d :: ds,pre,ρs,h=>by
  cases ρs with
  | nil=>simp at h
  | cons r ρs =>
   have ih:=vN caps ds (pre ++ [some d]) ρs (by simpa using h)
   simp only [List.length_append,List.length_cons,List.length_nil,Nat.zero_add] at ih
   simp only [List.length_cons,List.range'_succ,List.zip_cons_cons,List.foldl_cons]
   have e:(pre ++ r :: ρs ++ caps).set pre.length (some d)=pre ++ [some d] ++ ρs ++ caps:=by simp
   rw [e,ih]
   simp
theorem Tj {n:Nat} {tt:Bool} {d:D} {ρs caps:dM} {k:dM->Prop} (hn:tt=false->n=1) (hl:ρs.length=n) (h:bindC n tt d caps k):cZ (List.range n) tt d (ρs ++ caps) fun ρ'=>(∃ ρt:dM,ρt.length=n/\ρ'=ρt ++ caps)/\k ρ':=by
 cases tt with
 | false =>
  cases hn rfl
  match ρs,hl with
  | [r],_=>exact ⟨⟨[some d],rfl,rfl⟩,h⟩
 | true =>
  cases d with
  | tup ds =>
   obtain ⟨h1,h2⟩:=(show ds.length=n/\k (ds.map some ++ caps) from h)
   show ds.length=(List.range n).length/\_
   have e:=vN caps ds [] ρs (by rw [hl,h1])
   simp only [List.length_nil,List.nil_append] at e
   rw [List.range_eq_range',<- h1,e]
   refine ⟨by simp,⟨⟨ds.map some,by simp,rfl⟩,h2⟩⟩
  | _=>exact False.elim h
theorem Hg {m:Bool} {n:Nat} {tt:Bool} {cap:List Nat} {wi:WI} {cw:WT} {ew:WE} {σ:L2.St} {H:Hp} {Q:VK} (hn:tt=false->n=1)
  (h:LE X.K (fun ρ μ Q=>wi ρ μ fun ds g μ1=>fQ (fun d k=>bindC n tt d (cap.map fun i=>(ρ[i]?).join) k) cw ew g ds [] μ1 fun vs μ2=>newL m vs μ2 Q) σ H Q):K3 n (LG X.K fun d r k=>cZ (List.range n) tt d r k) cap (LI X.K wi) (LT X.K cw) (LE X.K ew) σ H Q:=by
 obtain ⟨ρ,θ,μ,Qd,sm,h,f⟩:=h
 refine ⟨ρ,θ,μ,_,sm,h,fun ds g J H1 θ1 μ1 w1 g1 wk h1=>?_⟩
 have f1:=f.mono g1
 have sm1:=sm.grow w1 g1
 refine ⟨fun i k vs σc H'=>k=ds.length - i/\i<=ds.length/\vs.length<=i/\∃ acc θ' μ' ρs,ρs.length=n/\qY X.K σc H' (ρs ++ cap.map fun i=>(ρ[i]?).join) θ' μ'/\aD H1 θ1 μ1 H' θ' μ'/\eF X.K H' θ' μ' acc vs/\fQ (fun d k=>bindC n tt d (cap.map fun i=>(ρ[i]?).join) k) cw ew g (ds.drop i) acc μ' fun vs μ2=>newL m vs μ2 Qd,
  ⟨ds.length,by simp,Nat.zero_le _,Nat.le_refl _,[],θ1,μ1,List.replicate n none,by simp,QH n sm1,aD.refl,aG.nil,by simpa using h1⟩,?_⟩
 rintro i k vs σc H' ⟨rfl,hi,hv,acc,θ',μ',ρs,hρ,sc,gr,rs,hl⟩
 have w':=sc.yH
 have hz:=wk.1
 by_cases hlt:i < ds.length
 ·right
  have e:ds.drop i=ds[i] :: ds.drop (i + 1):=List.drop_eq_getElem_cons hlt
  rw [e] at hl
  obtain ⟨Fv,hl⟩:=hl
  obtain ⟨go,y⟩:=(wk.2 i H' θ' μ' w' gr Fv).1 hlt
  refine ⟨go,by lia,fun x Gn yx=>?_⟩
  obtain ⟨w2,g2,d,ed,rd⟩:=y x Gn yx
  rw [List.getElem?_eq_getElem hlt] at ed
  cases ed
  refine ⟨ds[i],_,θ',μ',_,sc.grow w2 g2,rd,Tj hn hρ hl,fun σ2 ρ2 s2 q2=>?_⟩
  obtain ⟨⟨ρt,ht,rfl⟩,q2⟩:=q2
  refine ⟨_,θ',μ',_,s2,q2,fun b H3 θ3 μ3 w3 g3 q3=>?_⟩
  have g23:=g2.trans g3
  cases b with
  | true =>
   rw [if_pos rfl] at q3
   dsimp only
   rw [if_pos rfl]
   refine ⟨_,θ3,μ3,_,s2.grow w3 g3,q3,fun d4 v4 H4 θ4 μ4 w4 g4 r4 q4=>?_⟩
   have g24:=g23.trans g4
   exact ⟨ds.length - (i + 1),by lia,rfl,hlt,by simp; lia,acc ++ [d4],θ4,μ4,ρt,ht,s2.grow w4 (g3.trans g4),gr.trans g24,(g24.reps rs).append (aG.one r4),q4⟩
  | false =>
   rw [if_neg Bool.false_ne_true] at q3
   dsimp only
   rw [if_neg Bool.false_ne_true]
   exact ⟨ds.length - (i + 1),by lia,rfl,hlt,by lia,acc,θ3,μ3,ρt,ht,s2.grow w3 g3,gr.trans g23,g23.reps rs,q3⟩
 ·left
  have e:i=ds.length:=by lia
  subst e
  rw [List.drop_length] at hl
  obtain ⟨Fv,hl⟩:=hl
  exact ⟨by lia,(wk.2 _ H' θ' μ' w' gr Fv).2 rfl,fun p hp=>sW w' (f1.mono gr) rs hl hp⟩
end
end DW
end
section
set_option maxHeartbeats 2000000
namespace DW
open PySem PySem.Spec PyProof.Rows L2
section
variable {X:Cx}
end
end DW
end
section
set_option maxHeartbeats 2000000
namespace DW
open PySem PySem.Spec PyProof.Rows L2
section
variable {prog:Program} {w:World} {A:Around} {E:Value->Shared->Prop} {s:Shared}
end
section
variable {X:Cx}
end
end DW
end
section
namespace DW
open PySem PySem.Spec PyProof.Rows L2
section
variable {prog:Program} {w:World} {A:Around} {E:Value->Shared->Prop} {s:Shared}
end
section
variable {prog:Program} {w:World} {A:Around} {E:Value->Shared->Prop} {s:Shared}
end
end DW
end
section
set_option maxHeartbeats 2000000
namespace DW
open PySem PySem.Spec PyProof.Rows L2
theorem Cw {X:Cx} {pins:List (Addr×Obj)} {σ:L2.St} {H:Hp} {s:Shared} {h':Heap} {ch:List Addr} {p:Addr} {x y:V} {u v:Value} (I:Inv X pins σ H s) (hf:∀ b∈ch,wD X pins H b)
  (k:∀ b o,b ∉ ch->s.heap.get? b=some o->h'.get? b=some o) (hp:s.heap.objs.size<=p) (np:IsPair h' p u v) (ru:RelV x u) (rv:RelV y v):Inv X pins σ (upd H p (.tup [x,y])) { s with heap:=h' }:=by
 have hn:H p=none:=I.hok.fresh hp
 have up:∀ b u,H b=some u->(upd H p (.tup [x,y])) b=some u:=fun b u e=>by rw [aL (bf e hn)]; exact e
 have Ug:∀ b u,H b=some u->b ∉ ch:=fun b u e z=>by
  have:=(hf b z).1
  rw [e] at this; cases this
 refine I.step (t':=s.toks) (g':=s.gens) (d':=s.drawn) (ch:=ch) (fun b hb=>?_) (fun b o _ _ hc e _=>k b o hc e) (fun b o _ _ hc e _=>⟨o.slots,k b o hc e⟩) (fun b o hc e n=>?_) (fun b o hc e=>⟨o,k b o hc e⟩)
  (fun b xs e=>up b _ e) (fun b o u e=>up b _ e) (fun b ps e=>⟨#[],by rw [up b _ e]; simp⟩) (fun m hm=>?_) (fun b u e=>?_) I.bare
 ·obtain ⟨_,f1,_,f3,f4,f5⟩:=hf b hb
  exact ⟨f3,f1,f4,f5⟩
 ·rw [aL (Nat.ne_of_lt (Nat.lt_of_lt_of_le (Heap.lt_size e) hp))]; exact n
 ·obtain ⟨o,es,ep,ho,r⟩:=hm
  exact ⟨o,es,ep,k _ o (fun z=>(hf _ z).2.1 rfl) ho,r⟩
 ·by_cases hb:b=p
  ·subst hb
   rw [aN] at e; cases e
   exact ⟨by rw [sizeLine_eq]; simp,[u,v],.cons ru (.cons rv .nil),⟨_,np,rfl,_,rfl,rfl⟩⟩
  ·rw [aL hb] at e
   refine (I.hok b u e).stay (fun c w hc q=>k c w ?_ q) (fun c q=>up c _ q) fun c xs q=>up c _ q
   rcases hc with z | z
   ·rw [z]; exact Ug b u e
   ·exact Ug c _ z
noncomputable def Itz (K : PySem.W.Frag) (a b : Addr) : L2.It :=
  ⟨fun i H => ∃ xs ys x y, f9 K H a xs /\ f9 K H b ys /\ xs[i]? = some x /\ ys[i]? = some y,
   fun i H v H' => ∃ p x y, H p = none /\ v = .ref p /\ H' = upd H p (.tup [x, y]) /\ (∀ xs, f9 K H a xs -> xs[i]? = some x) /\ ∀ ys, f9 K H b ys -> ys[i]? = some y,
   fun i H => ∃ xs ys, f9 K H a xs /\ f9 K H b ys /\ (xs.length <= i ∨ ys.length <= i)⟩
theorem KN {cb:Bool} (hcb:cb=true) {P:Program} {w:World} {K:PySem.W.Frag} {es:List Expr} {k:Nat} {pos:Pos} (a b z TI TO i1 i2:Addr) (D:ZipApart z TI TO i1 i2 a b) :
  Turn cb P w K (.Tuple es k pos) (Itz K a b) [z,TI,TO,i1,i2] z (fun i h=>IsZip h z TI TO .none/\IsPair h TI (.ref i1) (.ref i2)/\(∃ c d,IsPair h TO c d)/\h.IsListIter i1 a i/\h.IsListIter i2 b i) where
 mem:=by simp
 obj:=fun i h st c hc=>by
  obtain ⟨hz,hTI,⟨_,_,hTO⟩,⟨o1,e1,_,d1⟩,⟨o2,e2,_,d2⟩⟩:=st
  simp only [List.mem_cons,List.not_mem_nil,or_false] at hc
  rcases hc with rfl | rfl | rfl | rfl | rfl
  ·exact ⟨_,hz,fun v q=>by cases q⟩
  ·exact ⟨_,hTI,fun v q=>by cases q⟩
  ·exact ⟨_,hTO,fun v q=>by cases q⟩
  ·exact ⟨_,e1,fun v q=>by rw [d1] at q; cases q⟩
  ·exact ⟨_,e2,fun v q=>by rw [d2] at q; cases q⟩
 keep:=fun i h h' st kk=>by
  obtain ⟨hz,hTI,⟨c,d,hTO⟩,h1,h2⟩:=st
  exact ⟨kk z (by simp) _ hz,kk TI (by simp) _ hTI,⟨c,d,kk TO (by simp) _ hTO⟩,h1.at fun o e=>kk i1 (by simp) o e,h2.at fun o e=>kk i2 (by simp) o e⟩
 item:=by
  intro X hP hw hK hc i pins s σ H E I hf st hg
  subst hP hw hK
  obtain ⟨xs,ys,x,y,hq1,hq2,hx,hy⟩:=hg
  obtain ⟨hz,hTI,⟨c,d,hTO⟩,h1,h2⟩:=st
  obtain ⟨WQ,QM,p1,_⟩:=I.list hq1
  obtain ⟨its2,Yx,p2,_⟩:=I.list hq2
  obtain ⟨u1,hu1,Yy⟩:=QM.get hx
  obtain ⟨u2,hu2,ru2⟩:=Yx.get hy
  refine wpAny_pyNext_zip_item D hz hTI hTO h1 h2 p1.isList p2.isList (x:=u1) (y:=u2) (by simpa using hu1) (by simpa using hu2) fun h' a1 a2 a3 a4 a5 a6 a7=>⟨_,rfl,?_⟩
  refine wpAny_letOwnedTupleGo_zip (s:={ s with heap:=h' }) a1 fun h2' hz2 hs2=>?_
  have hzl:z < s.heap.objs.size:=Heap.lt_size hz
  have nz:s.heap.objs.size≠z:=Nat.ne_of_gt hzl
  have I2:Inv X pins σ (upd H s.heap.objs.size (.tup [x,y])) { s with heap:=h2' }:=Cw (ch:=[z,TO,i1,i2]) I (fun q hq=>hf q (by simp only [List.mem_cons,List.not_mem_nil,or_false] at hq ⊢; rcases hq with rfl | rfl | rfl | rfl <;> simp))
   (fun q o hq e=>by
    simp only [List.mem_cons,List.not_mem_nil,or_false,not_or] at hq
    exact hs2.extBut _ _ hq.1 (a7 q o hq.1 hq.2.1 hq.2.2.1 hq.2.2.2 e)) (Nat.le_refl _) (hs2.extBut _ _ nz a5) Yy ru2
  refine ⟨.ref s.heap.objs.size,_,I2,rfl,⟨s.heap.objs.size,x,y,I.hok.fresh (Nat.le_refl _),rfl,rfl,fun xs' h'=>by rw [I.lF h' hq1]; exact hx,fun ys' h'=>by rw [I.lF h' hq2]; exact hy⟩,?_,fun q hq=>?_⟩
  ·exact ⟨hz2,hs2.extBut _ _ D.TIz (a7 _ _ D.TIz D.TITO D.TIi1 D.TIi2 hTI),⟨_,_,hs2.extBut _ _ D.TOz a2⟩,a3.extBut hs2.extBut D.i1z,a4.extBut hs2.extBut D.i2z⟩
  ·have hn:=(hf q hq).1
   rw [aL]
   ·exact hn
   ·intro e
    subst e
    obtain ⟨_,_,⟨_,_,_⟩,⟨o1,e1,_⟩,⟨o2,e2,_⟩⟩:IsZip s.heap z TI TO .none/\IsPair s.heap TI (.ref i1) (.ref i2)/\(∃ c d,IsPair s.heap TO c d)/\s.heap.IsListIter i1 a i/\s.heap.IsListIter i2 b i:=⟨hz,hTI,⟨c,d,hTO⟩,h1,h2⟩
    simp only [List.mem_cons,List.not_mem_nil,or_false] at hq
    rcases hq with q | q | q | q | q
    ·exact nz q
    ·exact Nat.ne_of_gt (Heap.lt_size hTI) q
    ·exact Nat.ne_of_gt (Heap.lt_size hTO) q
    ·exact Nat.ne_of_gt (Heap.lt_size e1) q
    ·exact Nat.ne_of_gt (Heap.lt_size e2) q
 done:=by
  intro X hP hw hK hc i pins s σ H E I hf st hg
  subst hP hw hK
  obtain ⟨xs,ys,hq1,hq2,hl⟩:=hg
  obtain ⟨hz,hTI,⟨c,d,hTO⟩,h1,h2⟩:=st
  obtain ⟨WQ,QM,p1,_⟩:=I.list hq1
  obtain ⟨its2,Yx,p2,_⟩:=I.list hq2
  have l1:=QM.length
  have l2:=Yx.length
  refine wpAny_pyNext_zip_end (I.ok.hd (hc.trans hcb)) D hz hTI hTO h1 h2 p1.isList p2.isList ?_ fun h' kk=>⟨rfl,?_⟩
  ·rcases hl with hl | hl
   ·left; simp; lia
   ·right; simp; lia
  ·refine I.step (t':=s.toks) (g':=s.gens) (d':=s.drawn) (ch:=[z,TO,i1,i2]) (fun q hq=>?_) (fun q o _ _ hc e _=>?_) (fun q o _ _ hc e _=>⟨o.slots,?_⟩) (fun _ _ _ _ n=>n) (fun q o hc e=>⟨o,?_⟩)
    (fun _ _ e=>e) (fun _ _ _ e=>e) (fun q ps e=>⟨#[],by rw [e]; simp⟩) (fun m hm=>?_) (fun q u e=>?_) I.bare
   ·obtain ⟨_,f1,_,f3,f4,f5⟩:=hf q (by simp only [List.mem_cons,List.not_mem_nil,or_false] at hq ⊢; rcases hq with rfl | rfl | rfl | rfl <;> simp)
    exact ⟨f3,f1,f4,f5⟩
   ·simp only [List.mem_cons,List.not_mem_nil,or_false,not_or] at hc
    exact kk q o hc.1 hc.2.1 hc.2.2.1 hc.2.2.2 e
   ·simp only [List.mem_cons,List.not_mem_nil,or_false,not_or] at hc
    exact kk q o hc.1 hc.2.1 hc.2.2.1 hc.2.2.2 e
   ·simp only [List.mem_cons,List.not_mem_nil,or_false,not_or] at hc
    exact kk q o hc.1 hc.2.1 hc.2.2.1 hc.2.2.2 e
   ·obtain ⟨o,es',ep,ho,r⟩:=hm
    exact ⟨o,es',ep,kk _ o (Ne.symm (hf z (by simp)).2.1) (Ne.symm (hf TO (by simp)).2.1) (Ne.symm (hf i1 (by simp)).2.1) (Ne.symm (hf i2 (by simp)).2.1) ho,r⟩
   ·have nh:∀ c v,H c=some v->c≠z/\c≠TO/\c≠i1/\c≠i2:=fun c v e=>by
     refine ⟨?_,?_,?_,?_⟩
     ·rintro rfl; have:=(hf c (by simp)).1; rw [e] at this; cases this
     ·rintro rfl; have:=(hf c (by simp)).1; rw [e] at this; cases this
     ·rintro rfl; have:=(hf c (by simp)).1; rw [e] at this; cases this
     ·rintro rfl; have:=(hf c (by simp)).1; rw [e] at this; cases this
    refine (I.hok q u e).stay (fun c v hc q'=>?_) (fun _ q=>q) fun _ _ q=>q
    have:c≠z/\c≠TO/\c≠i1/\c≠i2:=by
     rcases hc with rfl | hc
     ·exact nh _ _ e
     ·exact nh _ _ hc
    exact kk c v this.1 this.2.1 this.2.2.1 this.2.2.2 q'
 self:=fun _ _ _ _ _ st h=>wpAny_pyIter_zip st.1 h
section
variable {K:PySem.W.Frag} {H:Hp} {θ:List Addr} {μ:Mem} {ds es:List D} {a b:Addr}
theorem tQ:∀ (ds es:List D),(jA ds es).length=min ds.length es.length
 | [],es=>by simp [jA]
 | _ :: _,[]=>by simp [jA]
 | d :: ds,e :: es=>by simp [jA,tQ ds es]
theorem Ao:∀ (ds es:List D) (i:Nat),i < (jA ds es).length->∃ d e,ds[i]? = some d/\es[i]? = some e/\(jA ds es)[i]? = some (.tup [d,e])
 | [],es,i,h=>by simp [jA] at h
 | _ :: _,[],i,h=>by simp [jA] at h
 | d :: ds,e :: es,0,h=>⟨d,e,rfl,rfl,rfl⟩
 | d :: ds,e :: es,i + 1,h=>by
  obtain ⟨x,y,h1,h2,h3⟩:=Ao ds es i (by simpa [jA] using h)
  exact ⟨x,y,by simpa using h1,by simpa using h2,by simpa [jA] using h3⟩
theorem J9 (hl:ds.length<=sizeLine) (g:Mem->Prop) (h:∀ (H':Hp) (θ':List Addr) (μ':Mem),bY K H' θ' μ'->aD H θ μ H' θ' μ'->g μ'->∃ xs ys,f9 K H' a xs/\eF K H' θ' μ' ds xs/\f9 K H' b ys/\eF K H' θ' μ' es ys) :
  oE K (Itz K a b) (jA ds es) g H θ μ:=by
 refine ⟨by rw [tQ]; lia,fun i H' θ' μ' w' gr hg=>?_⟩
 obtain ⟨xs,ys,hx,rx,hy,ry⟩:=h H' θ' μ' w' gr hg
 refine ⟨fun hi=>?_,fun hi=>⟨xs,ys,hx,hy,?_⟩⟩
 ·obtain ⟨d,e,h1,h2,h3⟩:=Ao ds es i hi
  obtain ⟨v,e1,e2⟩:=rx.get h1
  obtain ⟨u,f1,f2⟩:=ry.get h2
  refine ⟨⟨xs,ys,v,u,hx,hy,e1,f1⟩,fun x Gn y=>?_⟩
  obtain ⟨p,x',y',hn,rfl,rfl,y1,y2⟩:=y
  have:=y1 xs hx
  rw [e1] at this; cases this
  have:=y2 ys hy
  rw [f1] at this; cases this
  have ext:∀ a o,H' a=some o->(upd H' p (.tup [v,u])) a=some o:=dI hn
  refine ⟨w'.ext ext,aD.ext ext,_,h3,?_⟩
  unfold Rep
  exact ⟨p,[v,u],rfl,aN,w'.sV hn,aG.cons ((aD.ext ext).rep e2) (aG.one ((aD.ext ext).rep f2))⟩
 ·rw [tQ] at hi
  have:=rx.length
  have:=ry.length
  lia
end
section
variable {X:Cx}
theorem Q9 {l r:Expr} {wl wr:WE} {y:Str} {p pos tp:Pos} {es:List Expr} {k:Nat} (hcl:X.calm=true) (ey:y=Str.ofString "zip") (hg:Gl X y) (hm:X.mg y=none) (hl:PE X l (LE X.K wl)) (hr:PE X r (LE X.K wr)) (hs:starEach [l,r] X.env=[(false,eval l X.env),(false,eval r X.env)]) (hs2:starEach [r] X.env=[(false,eval r X.env)]) :
  PI X (.Tuple es k tp) (.Call (.Name y p) [l,r] [] pos) (LI X.K fun ρ μ Q=>wl ρ μ fun a μ1=>wr ρ μ1 fun b μ2=>Kd a b μ2 Q):=by
 subst ey
 intro pins s σ H R I h
 obtain ⟨ρ,θ,μ,Qi,sm,h,f⟩:=h
 have hA:PA X [l,r] (xG (LE X.K wl) (xG (LE X.K wr) Bh)):=jE hl (jE hr uO (by rw [hs2]; rfl)) (by rw [hs,hs2])
 refine Call_ (lG I hg hm boot_zip (PyProof.Rows.callWith_type1 (bG (hA pos pins s σ H (fun vs H2=>∃ d e v w θ2 μ2,vs=[v,w]/\bY X.K H2 θ2 μ2/\aD H θ μ H2 θ2 μ2/\Rp X.K H2 θ2 μ2 d v/\Rp X.K H2 θ2 μ2 e w/\Kd d e μ2 Qi) I
  ⟨ρ,θ,μ,_,sm,h,fun d v H1 θ1 μ1 w1 g1 r1 h1=>⟨ρ,θ1,μ1,_,sm.grow w1 g1,h1,fun e w H2 θ2 μ2 w2 g2 r2 h2=>⟨d,e,v,w,θ2,μ2,rfl,w2,g1.trans g2,g2.rep r1,r2,h2⟩⟩⟩) fun us s1 ⟨vs,H2,I2,rv,d,e,v,w,θ2,μ2,ev,w2,g2,rd,re,hq⟩=>?_) (by rw [hs,hs2]) (by rw [hs2]; rfl)))
 subst ev
 unfold Kd at hq
 split at hq
 ·rename_i as bs ha hb
  obtain ⟨a,xs,rfl,sa,ra⟩:=cG w2 rd ha
  obtain ⟨b,ys,rfl,sb,rb⟩:=cG w2 re hb
  cases rv with
  | cons r1 rr =>
   cases rr with
   | cons r2 rr =>
    cases rr
    cases r1
    cases r2
    obtain ⟨i1,v1,p1,z1⟩:=I2.list sa
    obtain ⟨i2,v2,p2,z2⟩:=I2.list sb
    have la:as.length<=sizeLine:=by rw [ra.length]; exact z1
    obtain ⟨oa,ga,_⟩:=p1.isList
    obtain ⟨ob,gb,_⟩:=p2.isList
    have ha':a < s1.heap.objs.size:=Heap.lt_size ga
    have hb':b < s1.heap.objs.size:=Heap.lt_size gb
    refine call_zip_2 p1.isList p2.isList fun h' a1 a2 a3 a4 a5 a6 kk=>?_
    have I3:Inv X pins σ H2 { s1 with heap:=h' }:=I2.kept (t':=s1.toks) kk
    have D:ZipApart (s1.heap.objs.size + 4) (s1.heap.objs.size + 2) (s1.heap.objs.size + 3) s1.heap.objs.size (s1.heap.objs.size + 1) a b:=by
     have na:∀ j,a≠s1.heap.objs.size + j:=fun j=>Nat.ne_of_lt (Nat.lt_of_lt_of_le ha' (Nat.le_add_right _ _))
     have nb:∀ j,b≠s1.heap.objs.size + j:=fun j=>Nat.ne_of_lt (Nat.lt_of_lt_of_le hb' (Nat.le_add_right _ _))
     refine ⟨?_,?_,?_,?_,?_,?_,?_,?_,?_,?_,na 4,na 3,na 0,na 1,nb 4,nb 3,nb 0,nb 1⟩ <;> (intro q; have q':(_:Nat)=_:=q; lia)
    refine wpAny_pyIter_zip a1 ⟨_,_,_,Itz X.K a b,H2,rfl,I3,KN hcl a b _ _ _ _ _ D,⟨a1,a2,⟨_,_,a3⟩,a4,a5⟩,fun q hq'=>?_,?_⟩
    ·have:s1.heap.objs.size<=q:=by
      simp only [List.mem_cons,List.not_mem_nil,or_false] at hq'
      rcases hq' with rfl | rfl | rfl | rfl | rfl
      ·exact Nat.le_add_right _ _
      ·exact Nat.le_add_right _ _
      ·exact Nat.le_add_right _ _
      ·exact Nat.le_refl _
      ·exact Nat.le_add_right _ _
     exact I2.Jz this (I2.hok.fresh this)
    ·refine f _ _ _ H2 θ2 μ2 w2 g2 (J9 la _ fun H' θ' μ' w' gr hg=>?_) hq
     obtain ⟨a',xs',e1,s1',r1'⟩:=cG w' (gr.rep rd) hg.1
     obtain ⟨b',ys',e2,s2',r2'⟩:=cG w' (gr.rep re) hg.2
     cases e1; cases e2
     exact ⟨xs',ys',s1',r1',s2',r2'⟩
 ·exact hq.elim
end
end DW
end
section
set_option maxHeartbeats 2000000
namespace DW
open PySem PySem.Spec PyProof.Rows L2
theorem JW:bootBuiltins (Str.ofString "enumerate")=some (.type "enumerate"):=by decide +kernel
noncomputable def Ite (K : PySem.W.Frag) (a : Addr) : L2.It :=
  ⟨fun i H => ∃ xs x, f9 K H a xs /\ xs[i]? = some x,
   fun i H v H' => ∃ p x, H p = none /\ v = .ref p /\ H' = upd H p (.tup [.int (i : Int), x]) /\ ∀ xs, f9 K H a xs -> xs[i]? = some x,
   fun i H => ∃ xs, f9 K H a xs /\ xs.length <= i⟩
theorem Ie {cb:Bool} (hcb:cb=true) {P:Program} {w:World} {K:PySem.W.Frag} {es:List Expr} {k:Nat} {pos:Pos} (a z i1:Addr) (hzi:z≠i1) (haz:a≠z) (hai:a≠i1) :
  Turn cb P w K (.Tuple es k pos) (Ite K a) [z,i1] z (fun i h=>(∃ old,IsEnum h z i1 i old)/\h.IsListIter i1 a i) where
 mem:=by simp
 obj:=fun i h st c hc=>by
  obtain ⟨⟨old,hz⟩,⟨o1,e1,_,d1⟩⟩:=st
  simp only [List.mem_cons,List.not_mem_nil,or_false] at hc
  rcases hc with rfl | rfl
  ·exact ⟨_,hz,fun v q=>by cases q⟩
  ·exact ⟨_,e1,fun v q=>by rw [d1] at q; cases q⟩
 keep:=fun i h h' st kk=>by
  obtain ⟨⟨old,hz⟩,h1⟩:=st
  exact ⟨⟨old,kk z (by simp) _ hz⟩,h1.at fun o e=>kk i1 (by simp) o e⟩
 item:=by
  intro X hP hw hK hc i pins s σ H E I hf st hg
  subst hP hw hK
  obtain ⟨xs,x,hq1,hx⟩:=hg
  obtain ⟨⟨old,hz⟩,h1⟩:=st
  obtain ⟨WQ,QM,p1,_⟩:=I.list hq1
  obtain ⟨u1,hu1,Yy⟩:=QM.get hx
  refine wpAny_pyNext_enum_item hz h1 p1.isList (x:=u1) (by simpa using hu1) hzi fun h' ho hit' hT hsz kk=>⟨_,rfl,?_⟩
  refine wpAny_letOwnedTupleGo_enum (s:={ s with heap:=h',toks:=s.toks + 1 }) ho fun h2' hz2 hs2=>?_
  have hzl:z < s.heap.objs.size:=Heap.lt_size hz
  have nz:s.heap.objs.size≠z:=Nat.ne_of_gt hzl
  have hil:i1 < s.heap.objs.size:=by obtain ⟨_,e,_⟩:=h1; exact Heap.lt_size e
  have I2:Inv X pins σ (upd H s.heap.objs.size (.tup [.int (i:Int),x])) { s with heap:=h2' }:=Cw (ch:=[z,i1]) I (fun q hq=>hf q hq)
   (fun q o hq e=>by
    simp only [List.mem_cons,List.not_mem_nil,or_false,not_or] at hq
    exact (hs2.2 q hq.1).trans (kk q o hq.1 hq.2 e)) (Nat.le_refl _) ((hs2.2 _ nz).trans hT) ⟨_,rfl⟩ Yy
  refine ⟨.ref s.heap.objs.size,_,I2.tok _,rfl,⟨s.heap.objs.size,x,I.hok.fresh (Nat.le_refl _),rfl,rfl,fun xs' h'=>by rw [I.lF h' hq1]; exact hx⟩,?_,fun q hq=>?_⟩
  ·exact ⟨⟨u1,by simpa using hz2⟩,hit'.at fun o y=>(hs2.2 i1 (Ne.symm hzi)).trans y⟩
  ·have hn:=(hf q hq).1
   rw [aL]
   ·exact hn
   ·intro e
    subst e
    simp only [List.mem_cons,List.not_mem_nil,or_false] at hq
    rcases hq with q | q
    ·exact nz q
    ·exact Nat.ne_of_gt hil q
 done:=by
  intro X hP hw hK hc i pins s σ H E I hf st hg
  subst hP hw hK
  obtain ⟨xs,hq1,hl⟩:=hg
  obtain ⟨⟨old,hz⟩,h1⟩:=st
  obtain ⟨WQ,QM,p1,_⟩:=I.list hq1
  have l1:=QM.length
  obtain ⟨f0,f1,f2,f3,f4,f5⟩:=hf i1 (by simp)
  exact wpAny_pyNext_enum_end (I.ok.hd (hc.trans hcb)) hz h1 p1.isList (by simp; lia) fun h' eb=>⟨rfl,I.turned (t':=s.toks) (fun b o hb e=>eb b o hb e) f0 f1 f3 f4 f5⟩
 self:=fun _ _ _ _ _ st h=>by
  obtain ⟨⟨old,hz⟩,_⟩:=st
  exact wpAny_pyIter_enum hz h
section
variable {K:PySem.W.Frag} {H:Hp} {θ:List Addr} {μ:Mem} {ds:List D} {a:Addr}
theorem mJ:∀ (k:Nat) (ds:List D),(cY k ds).length=ds.length
 | _,[]=>rfl
 | k,d :: ds=>by simp [cY,mJ (k + 1) ds]
theorem yp:∀ (k:Nat) (ds:List D) (i:Nat) (d:D),ds[i]? = some d->(cY k ds)[i]? = some (.tup [.int ((k + i:Nat):Int),d])
 | _,[],i,d,h=>by simp at h
 | k,e :: ds,0,d,h=>by simp at h; subst h; simp [cY]
 | k,e :: ds,i + 1,d,h=>by
  have:=yp (k + 1) ds i d (by simpa using h)
  simp only [cY,List.getElem?_cons_succ]
  rw [this]
  congr 4
  lia
theorem HW (hl:ds.length<=sizeLine) (g:Mem->Prop) (h:∀ (H':Hp) (θ':List Addr) (μ':Mem),bY K H' θ' μ'->aD H θ μ H' θ' μ'->g μ'->∃ xs,f9 K H' a xs/\eF K H' θ' μ' ds xs):oE K (Ite K a) (cY 0 ds) g H θ μ:=by
 refine ⟨by rw [mJ]; exact hl,fun i H' θ' μ' w' gr hg=>?_⟩
 obtain ⟨xs,hx,rx⟩:=h H' θ' μ' w' gr hg
 refine ⟨fun hi=>?_,fun hi=>⟨xs,hx,?_⟩⟩
 ·rw [mJ] at hi
  have h1:ds[i]? = some ds[i]:=List.getElem?_eq_getElem hi
  obtain ⟨v,e1,e2⟩:=rx.get h1
  refine ⟨⟨xs,v,hx,e1⟩,fun x Gn y=>?_⟩
  obtain ⟨p,x',hn,rfl,rfl,y1⟩:=y
  have:=y1 xs hx
  rw [e1] at this; cases this
  have ext:∀ b o,H' b=some o->(upd H' p (.tup [.int (i:Int),v])) b=some o:=dI hn
  refine ⟨w'.ext ext,aD.ext ext,_,yp 0 ds i _ h1,?_⟩
  unfold Rep
  refine ⟨p,[.int (i:Int),v],rfl,aN,w'.sV hn,aG.cons ?_ (aG.one ((aD.ext ext).rep e2))⟩
  rw [Nat.zero_add]; exact bL
 ·rw [mJ] at hi
  have:=rx.length
  lia
end
end DW
end
section
set_option maxHeartbeats 2000000
namespace DW
open PySem PySem.Spec PyProof.Rows L2
open AutoSeq1 (wpAny_loadPart')
section
variable {prog:Program} {w:World} {A:Around} {E:Value->Shared->Prop} {s:Shared}
end
section
variable {X:Cx}
theorem Ly {l:Expr} {wl:WE} {y:Str} {p pos tp:Pos} {es:List Expr} {k:Nat} (hcl:X.calm=true) (ey:y=Str.ofString "enumerate") (hg:Gl X y) (hm:X.mg y=none) (hl:PE X l (LE X.K wl)) (hs:starEach [l] X.env=[(false,eval l X.env)]) :
  PI X (.Tuple es k tp) (.Call (.Name y p) [l] [] pos) (LI X.K fun ρ μ Q=>wl ρ μ fun a μ1=>oK a μ1 Q):=by
 subst ey
 intro pins s σ H R I h
 obtain ⟨ρ,θ,μ,Qi,sm,h,f⟩:=h
 have hA:PA X [l] (xG (LE X.K wl) Bh):=jE hl uO (by rw [hs]; rfl)
 refine Call_ (lG I hg hm JW (PyProof.Rows.callWith_type1 (bG (hA pos pins s σ H (fun vs H2=>∃ d v θ2 μ2,vs=[v]/\bY X.K H2 θ2 μ2/\aD H θ μ H2 θ2 μ2/\Rp X.K H2 θ2 μ2 d v/\oK d μ2 Qi) I
  ⟨ρ,θ,μ,_,sm,h,fun d v H1 θ1 μ1 w1 g1 r1 h1=>⟨d,v,θ1,μ1,rfl,w1,g1,r1,h1⟩⟩) fun us s1 ⟨vs,H2,I2,rv,d,v,θ2,μ2,ev,w2,g2,rd,hq⟩=>?_) (by rw [hs]; rfl) rfl))
 subst ev
 unfold oK at hq
 split at hq
 ·rename_i as ha
  obtain ⟨a,xs,rfl,sa,ra⟩:=cG w2 rd ha
  cases rv with
  | cons r1 rr =>
   cases rr
   cases r1
   obtain ⟨i1,v1,p1,z1⟩:=I2.list sa
   have la:as.length<=sizeLine:=by rw [ra.length]; exact z1
   obtain ⟨oa,ga,_⟩:=p1.isList
   have ha':a < s1.heap.objs.size:=Heap.lt_size ga
   refine call_enumerate_list p1.isList fun h' a1 a2 a3 kk=>?_
   have I3:Inv X pins σ H2 { s1 with heap:=h' }:=I2.kept (t':=s1.toks) kk
   refine wpAny_pyIter_enum a1 ⟨_,_,_,Ite X.K a,H2,rfl,I3,Ie hcl a _ _ (Nat.ne_of_gt (Nat.lt_succ_self _)) (Nat.ne_of_lt (Nat.lt_succ_of_lt ha')) (Nat.ne_of_lt ha'),⟨⟨_,a1⟩,a2⟩,fun q hq'=>?_,?_⟩
   ·have:s1.heap.objs.size<=q:=by
     simp only [List.mem_cons,List.not_mem_nil,or_false] at hq'
     rcases hq' with rfl | rfl
     ·exact Nat.le_succ _
     ·exact Nat.le_refl _
    exact I2.Jz this (I2.hok.fresh this)
   ·refine f _ _ _ H2 θ2 μ2 w2 g2 (HW la _ fun H' θ' μ' w' gr hg=>?_) hq
    obtain ⟨a',xs',e1,s1',r1'⟩:=cG w' (gr.rep rd) hg
    cases e1
    exact ⟨xs',s1',r1'⟩
 ·exact hq.elim
end
end DW
end
section
set_option maxHeartbeats 2000000
namespace DW
open PySem PySem.Spec PyProof.Rows L2
section
variable {X:Cx}
end
end DW
end
section
set_option maxHeartbeats 2000000
namespace DW
open PySem PySem.Spec PyProof.Rows L2
theorem Pj:bootBuiltins (Str.ofString "reversed")=some (.type "reversed"):=by decide +kernel
noncomputable def Itv (K : PySem.W.Frag) (a : Addr) (n : Nat) : L2.It :=
  ⟨fun i H => ∃ xs x, f9 K H a xs /\ xs.length = n /\ i < n /\ xs[n - 1 - i]? = some x,
   fun i H x H' => H' = H /\ ∀ xs, f9 K H a xs -> xs.length = n -> xs[n - 1 - i]? = some x,
   fun i H => i = n⟩
theorem KQ {cb:Bool} (hcb:cb=true) {P:Program} {w:World} {K:PySem.W.Frag} {tg:Expr} (a it:Addr) (n:Nat):Turn cb P w K tg (Itv K a n) [it] it (fun i h=>h.IsRevIter it a ((n:Int) - 1 - (i:Int))) where
 mem:=by simp
 obj:=fun i h st b hb=>by
  have e:b=it:=by simpa using hb
  subst e
  obtain ⟨o,e,c,d⟩:=st
  exact ⟨o,e,fun v z=>by rw [d] at z; cases z⟩
 keep:=fun i h h' st k=>st.at fun o e=>k it (by simp) o e
 item:=by
  intro X hP hw hK hc i pins s σ H E I hf st hg
  subst hP hw hK
  obtain ⟨xs,x,hq,hn,hi,hx⟩:=hg
  obtain ⟨its,rv,p,hz⟩:=I.list hq
  obtain ⟨u,hu,ru⟩:=rv.get hx
  obtain ⟨f0,f1,f2,f3,f4,f5⟩:=hf it (by simp)
  have e1:(n:Int) - 1 - (i:Int)=((n - 1 - i:Nat):Int):=by lia
  rw [e1] at st
  refine wpAny_pyNext_rev_item st p.isList (x:=u) (by simpa using hu) fun h' st' sb=>?_
  have I1:Inv X pins σ H { s with heap:=h' }:=I.turned (t':=s.toks) (fun b o hb e=>(sb.2 b hb).trans e) f0 f1 f3 f4 f5
  have e2:((n - 1 - i:Nat):Int) - 1=(n:Int) - 1 - ((i + 1:Nat):Int):=by lia
  rw [e2] at st'
  obtain ⟨o,e,c,d⟩:=id st'
  exact ⟨u,rfl,Ht (s:={ s with heap:=h' }) e c d (by decide) ⟨x,H,I1,ru,⟨rfl,fun ys hy _=>by rw [I.lF hy hq]; exact hx⟩,st',fun b hb=>(hf b hb).1⟩⟩
 done:=by
  intro X hP hw hK hc i pins s σ H E I hf st hg
  subst hP hw hK
  have hg:i=n:=hg
  subst hg
  obtain ⟨f0,f1,f2,f3,f4,f5⟩:=hf it (by simp)
  have e1:(i:Int) - 1 - (i:Int) = -1:=by lia
  rw [e1] at st
  exact wpAny_pyNext_rev_end (I.ok.hd (hc.trans hcb)) st fun h' eb=>⟨rfl,I.turned (t':=s.toks) (fun b o hb e=>eb b o hb e) f0 f1 f3 f4 f5⟩
 self:=fun _ _ _ _ _ st h=>wpAny_pyIter_revIter st h
section
variable {K:PySem.W.Frag} {H:Hp} {θ:List Addr} {μ:Mem} {ds:List D} {a:Addr}
theorem Kc (hl:ds.length<=sizeLine) (g:Mem->Prop) (h:∀ (H':Hp) (θ':List Addr) (μ':Mem),bY K H' θ' μ'->aD H θ μ H' θ' μ'->g μ'->∃ xs,f9 K H' a xs/\eF K H' θ' μ' ds xs):oE K (Itv K a ds.length) ds.reverse g H θ μ:=by
 refine ⟨by simpa using hl,fun i H' θ' μ' w' gr hg=>?_⟩
 obtain ⟨xs,hx,rs⟩:=h H' θ' μ' w' gr hg
 refine ⟨fun hi=>?_,fun hi=>show i=ds.length by simpa using hi⟩
 have hi':i < ds.length:=by simpa using hi
 have hj:ds.length - 1 - i < ds.length:=by lia
 obtain ⟨v,e1,e2⟩:=rs.get (i:=ds.length - 1 - i) (List.getElem?_eq_getElem hj)
 refine ⟨⟨xs,v,hx,rs.length.symm,hi',e1⟩,fun x Gn y=>?_⟩
 obtain ⟨rfl,y⟩:=y
 have:=y xs hx rs.length.symm
 rw [e1] at this; cases this
 exact ⟨w',aD.refl,_,by rw [List.getElem?_reverse hi']; exact List.getElem?_eq_getElem hj,e2⟩
end
section
variable {X:Cx} {tg:Expr}
theorem Rb {l:Expr} {wl:WE} {y:Str} {p pos:Pos} (hcl:X.calm=true) (ey:y=Str.ofString "reversed") (hg:Gl X y) (hm:X.mg y=none) (hl:PE X l (LE X.K wl)) (hs:starEach [l] X.env=[(false,eval l X.env)]) :
  PI X tg (.Call (.Name y p) [l] [] pos) (LI X.K fun ρ μ Q=>wl ρ μ fun a μ1=>Ke a μ1 Q):=by
 subst ey
 intro pins s σ H R I h
 obtain ⟨ρ,θ,μ,Qi,sm,h,f⟩:=h
 have hA:PA X [l] (xG (LE X.K wl) Bh):=jE hl uO (by rw [hs]; rfl)
 refine Call_ (lG I hg hm Pj (PyProof.Rows.callWith_type1 (bG (hA pos pins s σ H (fun vs H2=>∃ d v θ2 μ2,vs=[v]/\bY X.K H2 θ2 μ2/\aD H θ μ H2 θ2 μ2/\Rp X.K H2 θ2 μ2 d v/\Ke d μ2 Qi) I
  ⟨ρ,θ,μ,_,sm,h,fun d v H1 θ1 μ1 w1 g1 r1 h1=>⟨d,v,θ1,μ1,rfl,w1,g1,r1,h1⟩⟩) fun us s1 ⟨vs,H2,I2,rv,d,v,θ2,μ2,ev,w2,g2,rd,hq⟩=>?_) (by rw [hs]; rfl) rfl))
 subst ev
 unfold Ke at hq
 split at hq
 ·rename_i as ha
  obtain ⟨a,xs,rfl,sa,ra⟩:=cG w2 rd ha
  cases rv with
  | cons r1 rr =>
   cases rr
   cases r1
   obtain ⟨i1,v1,p1,z1⟩:=I2.list sa
   have la:as.length<=sizeLine:=by rw [ra.length]; exact z1
   have hlen:i1.toArray.size=as.length:=by rw [ra.length,v1.length]; simp
   refine call_reversed_list p1.isList ?_
   have I3:Inv X pins σ H2 { s1 with heap:=s1.heap.push (revObj a ((i1.toArray.size:Int) - 1)) }:=I2.kept (t':=s1.toks) fun b o e=>Heap.get?_push_of_some _ e
   have st:(s1.heap.push (revObj a ((i1.toArray.size:Int) - 1))).IsRevIter s1.heap.objs.size a ((as.length:Int) - 1 - ((0:Nat):Int)):=⟨_,Heap.get?_push_size _ rfl,rfl,by rw [hlen]; simp [revObj]⟩
   refine wpAny_pyIter_revIter st ⟨s1.heap.objs.size,[s1.heap.objs.size],_,Itv X.K a as.length,H2,rfl,I3,KQ hcl a _ as.length,st,fun q hq'=>?_,?_⟩
   ·have e:q=s1.heap.objs.size:=by simpa using hq'
    subst e
    exact I2.Jz (Nat.le_refl _) (I2.hok.fresh (Nat.le_refl _))
   ·refine f _ _ _ H2 θ2 μ2 w2 g2 (Kc la _ fun H' θ' μ' w' gr hg=>?_) hq
    obtain ⟨a',xs',e1,s1',r1'⟩:=cG w' (gr.rep rd) hg
    cases e1
    exact ⟨xs',s1',r1'⟩
 ·exact hq.elim
end
end DW
end
section
set_option maxHeartbeats 2000000
namespace DW
open PySem PySem.Spec PyProof.Rows L2
section
variable {prog:Program} {w:World} {A:Around} {E:Value->Shared->Prop} {s:Shared}
end
end DW
namespace DW
open PySem PySem.Spec PyProof.Rows L2
section
variable {prog:Program} {w:World} {A:Around} {E:Value->Shared->Prop} {s:Shared}
end
end DW
namespace DW
open PySem PySem.Spec PyProof.Rows L2
section
variable {X:Cx}
end
end DW
end
section
set_option maxHeartbeats 2000000
namespace DW
open PySem PySem.Spec PyProof.Rows L2
section
variable {prog:Program} {w:World} {A:Around} {E:Value->Shared->Prop} {s:Shared}
end
end DW
end
section
set_option maxHeartbeats 2000000
namespace DW
open PySem PySem.Spec PyProof.Rows L2
section
variable {prog:Program} {w:World} {A:Around} {E:Value->Shared->Prop} {s:Shared}
end
section
variable {X:Cx}
end
end DW
end
section
namespace DW
open PySem PySem.Spec PyProof.Rows L2
section
variable {X:Cx}
end
set_option maxHeartbeats 1000000
section
variable {prog:Program} {w:World} {A:Around} {R:Result->Shared->Prop} {I l S:Addr} {items:Array Value} {val:Nat->Int} {dv:Value}
end
section
variable {X:Cx}
end
end DW
end
section
set_option maxHeartbeats 2000000
namespace DW
open PySem PySem.W PySem.Spec PySem.Calls PyProof.Rows Builtin.Getset_descriptor
structure Ah (K:Frag) (C:Addr):Prop where
 ga:findIn K (.ref C) "__getattribute__" = some (some (.builtin "BaseException.__getattribute__"))
 hk:findIn K (.ref C) "__getattr__" = some none
 ex:mroIn K C (.type "BaseException")=some true
 ob:mroIn K C (.type "object")=some true
 ca:findIn K (.ref C) "__class__" = some (some (.builtin "object.__class__"))
 cg:specialIn K (.builtin "object.__class__") "__get__" = some (some (.builtin "getset_descriptor.__get__"))
 ct:takesIn K (.builtin "object.__class__")=some true
 cl:(clsIn K C).isSome=true
theorem ExcAt.ty {M:Model} {h:Heap} {x C:Addr} (p:ExcAt x C h):Looks M h (typeOf (.ref x)) (.ref C):=by
 obtain ⟨o,h1,h2⟩:=p
 exact h2 ▸ (Looks.ld h1).andThen .now
section
variable {prog:Program} {w:World} {A:Around} {E:Value->Shared->Prop} {s:Shared} {K:Frag} {x C:Addr} {name:Str}
end
end DW
end
section
set_option maxHeartbeats 2000000
namespace DW
open PySem PySem.W PySem.Spec PyProof.Rows L2
structure Fly (outer:List Env) (H H':Hp) (h h':Heap) (B:Heap) (ea:Addr) (ob:Obj) (vs:Array Value) (P:Program) (w:World):Prop where
 un:Un (frs outer) [] H H' h h'
 hok:mR P w H' h'
 fl:wF B outer ea ob vs .none h'
 ctx:vs[2]? = some .none
 old:∀ b o,h.get? b=some o->b ∉ frs outer->∃ o',B.get? b=some o'
 Vl:∀ b u,H' b=some u->∃ o,B.get? b=some o
noncomputable def oF (P:Program) (w:World):HS:=fun outer H s E e s' =>
 ∃ (ea:Addr) (ob:Obj) (vs:Array Value) (B:Heap) (H':Hp),e = .ref ea/\s'.os=s.os/\AllBare s'.gens/\Fly outer H H' s.heap s'.heap B ea ob vs P w/\E ob.cls ob.dict H'
structure Leaves (X:Cx) (E:XK):Prop where
 stk:X.stack=X.env :: X.outer
 fr:X.env.frame=some X.env.locals
 ex:X.ex=[]
 xe:X.xe=fun e s'=>wpAny (model X.prog X.w) X.A (leaving X.env e) (fun _ s''=>oF X.prog X.w X.outer X.H₀ X.s₀ E e s'') (fun e' s''=>oF X.prog X.w X.outer X.H₀ X.s₀ E e' s'') s'
theorem Jh {P:Program} {w:World} {K:Frag} {mg:Str->Option Value} {base:Heap} {N:List Str} {qual:Str} {scope:Scope} {f:Addr} {cd:Value} {A:Around} {outer:List Env} {s:Shared} {H:Hp} {E:XK} :
  Leaves (wX (oF P w) P w K mg base N qual scope f cd A outer s H E) E:=⟨rfl,rfl,rfl,rfl⟩
theorem Va {fs:List Addr} {H0 H:Hp} {h0 h h' B:Heap} {fr:List Addr} (u:Un fs [] H0 H h0 h) (hB:∀ b o,(∃ o0,h0.get? b=some o0)->h.get? b=some o->b ∉ fr->B.get? b=some o) (st:B.StaysIn h')
  (up:∀ b∈fr,∀ o,h.get? b=some o->∃ sl,h'.get? b=some { o with slots:=sl }) (nl:∀ b o,h0.get? b=some o->b∈fr->b∈fs):Un fs [] H0 H h0 h' where
 keep:=fun b o q n hb hx=>by
  have e:=u.keep b o q n hb hx
  exact st b o (hB b o ⟨o,q⟩ e fun z=>hb (nl b o q z))
 slot:=fun b o q n hb hx=>by
  obtain ⟨sl,e⟩:=u.slot b o q n hb hx
  by_cases z:b∈fr
  ·obtain ⟨sl',e'⟩:=up b z _ e
   exact ⟨sl',e'⟩
  ·exact ⟨sl,st b _ (hB b _ ⟨o,q⟩ e z)⟩
 free:=u.free
 there:=fun b o q hx=>by
  obtain ⟨o',e⟩:=u.there b o q hx
  by_cases z:b∈fr
  ·obtain ⟨sl',e'⟩:=up b z _ e
   exact ⟨_,e'⟩
  ·exact ⟨o',st b _ (hB b _ ⟨o,q⟩ e z)⟩
 tups:=u.tups
 lR:=u.lR
 nF:=u.nF
theorem Sq {P:Program} {w:World} {H:Hp} {h h' B:Heap} (hok:mR P w H h) (hB:∀ b u,H b=some u->∃ o,B.get? b=some o) (s1:B.StaysIn h) (st:B.StaysIn h'):mR P w H h':=fun a o e=>by
 have k:∀ b v,H b≠none->h.get? b=some v->h'.get? b=some v:=fun b v hb hv=>by
  cases q:H b with
  | none=>exact absurd q hb
  | some u =>
   obtain ⟨o',e'⟩:=hB b u q
   have:=s1 b o' e'
   rw [hv] at this; cases this
   exact st b _ e'
 refine (hok a o e).stay (fun b u hb q=>k b u ?_ q) (fun _ q=>q) fun _ _ q=>q
 rcases hb with rfl | z
 ·rw [e]; simp
 ·rw [z]; simp
section
variable {X:Cx} {E E':XK} {pins:List (Addr×Obj)} {σ:L2.St} {H:Hp} {s s':Shared} {e:Value}
theorem Zu {l:List Env} {base h h':Heap} (F:h.FunFrames base l) (up:h.UpToSlots h'):∀ b∈frs l,∀ o,h.get? b=some o->∃ sl,h'.get? b=some { o with slots:=sl }:=fun b hb o ho=>by
 obtain ⟨_,o',e',nf⟩:=F.mem hb
 rw [ho] at e'; cases e'
 exact up b o ho nf
theorem Xb (L:Leaves X E):frs X.stack=X.env.locals :: X.fs:=by rw [L.stk]; unfold frs; rw [List.filterMap_cons,L.fr]; rfl
theorem GR (L:Leaves X E) (I:Inv X pins σ H s) {b:Addr} {o:Obj} (q:X.s₀.heap.get? b=some o) (z:b∈frs X.stack):b∈X.fs:=by
 rw [Xb L] at z
 rcases List.mem_cons.mp z with z | z
 ·exact absurd (Heap.lt_size q) (by rw [z]; exact Nat.not_lt.mpr I.ok.above)
 ·exact z
theorem Sy {H':Hp} {B:Heap} {ea:Addr} {ob:Obj} {vs:Array Value} (I:Inv X pins σ H s) (ho:s'.os=s.os) (hg:AllBare s'.gens) (F:Fly X.stack H H' s.heap s'.heap B ea ob vs X.prog X.w):Inv X pins σ H' s' :=
 I.call' (ch:=[]) ho F.un F.hok hg fun b z=>absurd z (by simp)
theorem S6 (L:Leaves X E) (I:Inv X pins σ H s) (hE:∀ cls dx H',E' cls dx H'->E cls dx H') (h:oF X.prog X.w X.stack H s E' e s'):X.xe e s':=by
 obtain ⟨ea,ob,vs,B,H',rfl,ho,hg,F,q⟩:=h
 have I':=Sy I ho hg F
 rw [L.xe]
 have hfr:X.A.frames=some (X.env :: X.outer):=by rw [I.ok.frames,L.stk]
 have fl:=F.fl
 have F0:s'.heap.FunFrames B X.stack:=fl.Sx
 rw [L.stk] at fl
 have hbase:Un X.fs [] X.H₀ H' X.s₀.heap s'.heap:=by have:=I'.base; rw [L.ex] at this; exact this
 have W8:Un X.fs [] X.H₀ H X.s₀.heap s.heap:=by have:=I.base; rw [L.ex] at this; exact this
 refine Nx hfr L.fr fl fun h2 fl2 up=>?_
 have inB:∀ b,(∃ o0,X.s₀.heap.get? b=some o0)->b ∉ frs X.stack->∃ o',B.get? b=some o':=fun b ⟨o0,q0⟩ z=>by
  obtain ⟨o1,e1⟩:=W8.there b o0 q0 (by simp)
  exact F.old b o1 e1 z
 refine ⟨ea,ob,vs,B,H',rfl,I'.os,I'.bare,⟨?_,?_,fl2,F.ctx,?_,F.Vl⟩,hE _ _ H' q⟩
 ·refine Va hbase (fun b o hb q0 z=>?_) fl2.stay (Zu F0 up) fun b o q0 z=>GR L I q0 z
  obtain ⟨o',e'⟩:=inB b hb z
  have:=fl.stay b o' e'
  rw [q0] at this; cases this
  exact e'
 ·exact Sq F.hok F.Vl fl.stay fl2.stay
 ·intro b o q0 z
  exact inB b ⟨o,q0⟩ fun y=>z (GR L I q0 y)
end
end DW
end
section
set_option maxHeartbeats 2000000
namespace DW
open PySem PySem.W PySem.Spec PyProof.Rows L2
abbrev S8:List Value:=[.type "ValueError",.type "Exception",.type "BaseException",.type "object"]
section
variable {X:Cx} {E:XK} {x:Str} {C:Addr} {np cpos pos:Pos} {args:List Expr} {t:TA}
end
noncomputable def Meets (X:Cx) (EX:L2.St->XK):Prop:=∀ (pins:List (Addr×Obj)) (σ:L2.St) (H:Hp) (s:Shared) (E':XK) (e:Value) (s':Shared),Inv X pins σ H s->(∀ cls dx H',E' cls dx H'->EX σ cls dx H')->oF X.prog X.w X.stack H s E' e s'->X.xe e s'
theorem meets_of {X:Cx} {E:XK} (L:Leaves X E):Meets X fun _=>E:=fun pins σ H s E' e s' I hE h=>S6 L I hE h
section
variable {X:Cx} {EX:L2.St->XK} {k:Nat} {f C:Addr} {fd:FuncData} {ps:List Str} {sp:Sp} {x m:Str} {p pos apos:Pos} {e o:Expr} {es:List Expr} {ta:TE} {t:TA}
end
end DW
end
section
set_option maxHeartbeats 2000000
namespace DW
open PySem PySem.W PySem.Spec PyProof.Rows L2
section
variable {X:Cx} {pins:List (Addr×Obj)} {σ:L2.St} {H H':Hp} {s s':Shared} {ea:Addr} {oe:Obj}
end
section
variable {X:Cx} {pins pn:List (Addr×Obj)} {σ:L2.St} {H:Hp} {s:Shared} {ξ:Value->Shared->Prop}
end
section
variable {X:Cx} {i:Nat} {n P:Str} {np hpos pos:Pos} {b₀:Stmt} {suite body:List Stmt} {CP:Addr} {tb:(L2.St->XK)->TS} {th:TS}
noncomputable def takes (X:Cx) (CP:Addr) (i:Nat) (th:TS) (D:Ends):L2.St->XK:=fun σ' cls dx H'=>∃ C,cls = .ref C/\exmOne X.K (.ref C) (.ref CP)=some true /\
 ∀ ea oe u,H' ea=none->oe.cls = .ref C->PySem.W.notCls oe=true->oe.dict=dx->th { nx:=fun _ _=>False,rt:=D.rt } (σ'.set i (some (.ref ea))) (upd H' ea (.iz oe u))
end
end DW
end
section
set_option maxHeartbeats 2000000
namespace DW
open PySem PySem.W PySem.Spec PyProof.Rows L2 Builtin.ObjectAttr
noncomputable def Hy:List Value->Bool
 | .ref _ :: r=>Hy r
 | l=>l == S8
noncomputable def SM (K:Frag) (C:Addr):Bool:=(clsIn K C).any fun cd=>Hy cd.mro && !cd.mro.isEmpty
section
variable {prog:Program} {w:World} {A:Around} {E:Value->Shared->Prop} {s:Shared} {K:Frag} {x C:Addr} {R:Result->Shared->Prop}
end
end DW
end
section
set_option maxHeartbeats 2000000
namespace DW
open PySem PySem.W PySem.Spec PyProof.Rows L2
section
variable {prog:Program} {w:World} {A:Around} {E:Value->Shared->Prop} {h:Heap} {g:Array GenState} {d:Drawn} {t:Nat} {os:OsState}
variable {nm q:Str} {C N:Addr} {bs bm bmB:List Value} {hdct:Bool} {sn:List Str} {sub:List Value} {ab:Bool} {col:Option Bool} {dd:Option Addr} {k0 k1 k2 k3 k5:Option Value} {B newId initId:String}
end
section
variable {prog:Program} {w:World} {A:Around} {E:Value->Shared->Prop} {s:Shared} {env:Env}
variable {nm q:Str} {C N:Addr} {bs bm bmB:List Value} {hdct:Bool} {sn:List Str} {sub:List Value} {ab:Bool} {col:Option Bool} {dd:Option Addr} {k0 k1 k2 k3 k5:Option Value} {B newId initId:String}
end
end DW
end
section
set_option maxHeartbeats 2000000
namespace DW
open PySem PySem.W PySem.Spec PyProof.Rows L2
noncomputable abbrev errObj (C t:Addr) (d:Option Addr):Obj:={ cls:=.ref C,dict:=d,data:=.fields #[.ref t,.none,.none,.none,.bool false,.none] }
noncomputable def Z2 (a C:Addr) (d:Option Addr):HO:=.ext fun h=>∃ t,h.get? a=some (errObj C t d)
section
variable {P:Program} {w:World} {H:Hp} {h h':Heap} {a C t:Addr} {d:Option Addr} {o:HO} {fs:List (Str×V)} {mA:Str->Option Value}
noncomputable def drop (H:Hp) (a:Addr):Hp:=fun b=>if b=a then none else H b
end
structure TX (K:Frag) (C:Addr):Prop where
 ov:SM K C=true
 ob:mroIn K C (.type "object")=some true
 hd:hasDictIn K C=true
 sa:findIn K (.ref C) "__setattr__" = some (some (.builtin "object.__setattr__"))
section
variable {X:Cx} {pins:List (Addr×Obj)} {σ:L2.St} {H:Hp} {s:Shared} {a C dx:Addr} {fs:List (Str×V)} {f:Str} {E:Value->Shared->Prop}
theorem TX.has (c:TX X.K C):(clsIn X.K C).any (·.hasDict)=true:=c.hd
end
def spI (K:Frag) (xs:List Str):Sp:=fun vs H Q E=>∃ a C ys,vs = .ref a :: ys/\ys.length=xs.length/\H a=some (Z2 a C none)/\TX K C/\(∀ x∈xs,gw K C x) /\
 ∀ dx,H dx=none->dx≠a->Q .non (upd (upd H dx (DcO dx (xs.zip ys))) a (Z2 a C (some dx)))
noncomputable def Xf (K:Frag) (C:Addr) (bmB:List Value) (newId:String) (fa:Addr):Bool:=match K.lookup C with
 | some ⟨.type "type",_,.cls cd,sl⟩=>(match cd.mro,sl.toList with
  | .ref C' :: bm,[_,_,_,_,some (.builtin n),_]=>C' == C && n == newId && !cd.hasDel && tailIn K bmB bm && nsOkIn K cd.ns && nsIn K cd.ns "__init__" == some (some (.ref fa))
  | _,_=>false)
 | _=>false
section
variable {X:Cx} {E:XK} {x:Str} {C fa:Addr} {np cpos pos:Pos} {args:List Expr} {t:TA} {k:Nat} {fd:FuncData} {sf:Str} {xs:List Str}
end
end DW
end
section
set_option maxHeartbeats 2000000
namespace DW
open PySem PySem.Spec PyProof.Rows L2
noncomputable def low (K:PySem.W.Frag) (sp:cU):Sp:=fun vs H Q _=>∃ ds θ μ Qd,bY K H θ μ/\eF K H θ μ ds vs/\sp ds μ Qd/\Fin K H θ μ Qd Q
noncomputable def ab6 (K:PySem.W.Frag) (H:Hp) (θ:List Addr) (μ:Mem) (Xd:QX) (E:XK):Prop:=∀ (H':Hp) (θ':List Addr) (μ':Mem) (c:String) (ks:List String) (ds:List D),bY K H' θ' μ'->aD H θ μ H' θ' μ'->Xd c ks ds μ'->Uw K E H' θ' μ' c ks ds
noncomputable def Cr (K:PySem.W.Frag) (sp:rY):Sp:=fun vs H Q E=>∃ ds θ μ Qd Xd,bY K H θ μ/\eF K H θ μ ds vs/\sp ds μ Qd Xd/\Fin K H θ μ Qd Q/\ab6 K H θ μ Xd E
theorem xP {X:Cx}:Passes (oF X.prog X.w) X E0:=fun _ _ _ _ _ _ _ h=>by
 obtain ⟨_,_,_,_,_,_,_,_,_,q⟩:=h
 exact q.elim
noncomputable def XF (mg:Str->Option Value) (t:String) (v:V):Prop :=
 (∃ C,v = .ref C/\mg (Str.ofString t)=some (.ref C))∨(v = .ty t/\mg (Str.ofString t)=none/\bootBuiltins (Str.ofString t)=some (.type t)/\Str.ofString t≠"__name__")
noncomputable def Ak (mg:Str->Option Value):List String->List V->Prop
 | [],[]=>True
 | t :: ts,v :: vs=>XF mg t v/\Ak mg ts vs
 | _,_=>False
noncomputable def SX:V->Value
 | .ref a=>.ref a
 | .ty n=>.type n
 | _=>.none
noncomputable def PN (K:PySem.W.Frag) (mg:Str->Option Value) (tt:Bool) (ts:List String) (tab:List (String×Bool)):Prop:=∃ vs,Ak mg ts vs/\∀ p∈tab,∃ C,PySem.W.nsIn K mainGlobals (Str.ofString p.1)=some (some (.ref C))/\Ah K C /\
 (if tt=true then PySem.W.kitAny K (.ref C) (vs.map SX)=some p.2 else ∃ v,vs=[v]/\PySem.W.kitOne K (.ref C) (SX v)=some p.2)
noncomputable def PX (K:PySem.W.Frag) (mg:Str->Option Value) (P:String) (tab:List String):Prop:=∃ CP,mg (Str.ofString P)=some (.ref CP)/\∀ c∈tab,∃ C,PySem.W.nsIn K mainGlobals (Str.ofString c)=some (some (.ref C))/\PySem.W.exmOne K (.ref C) (.ref CP)=some true
noncomputable def PK (K:PySem.W.Frag) (mg:Str->Option Value) (c:String):Prop:=∃ C,PySem.W.nsIn K mainGlobals (Str.ofString c)=some (some (.ref C))/\mg (Str.ofString c)=some (.ref C)/\PySem.W.excIn K C S8 "ValueError.__new__" = true
noncomputable def UJ (P:Program) (w:World) (K:PySem.W.Frag) (mg:Str->Option Value) (base:Heap) (c:String) (ks:List String):Prop:=∃ (C fa:Addr) (fd:FuncData) (sf:Str),PySem.W.nsIn K mainGlobals (Str.ofString c)=some (some (.ref C))/\mg (Str.ofString c)=some (.ref C) /\
 Xf K C S8 "ValueError.__new__" fa=true/\PySem.W.isFn K (.ref fa)=true/\TX K C/\(∀ y∈ks.map (fun k=>Str.ofString k),gw K C y)/\Binds K fd (sf :: ks.map (fun k=>Str.ofString k)) []/\ks≠[]/\ks.length<=9 /\
 cD P w K mg base (oF P w) 1 fa fd (sf :: ks.map (fun k=>Str.ofString k)) (spI K (ks.map (fun k=>Str.ofString k)))
noncomputable def Qc (K:PySem.W.Frag) (f:String) (tab:List String):Prop:=∀ c∈tab,∃ C,PySem.W.nsIn K mainGlobals (Str.ofString c)=some (some (.ref C))/\Ah K C/\gw K C (Str.ofString f)/\PySem.W.hasDictIn K C=true
noncomputable def UW (K:PySem.W.Frag) (mg:Str->Option Value) (x:Str) (ks:List (List Nat)):Prop:=∃ a,mg x=some (.ref a)/\Uu K a=true/\(Dd K a).map (fun p=>p.1.cps.toList)=ks
noncomputable def UL (P:Program) (w:World) (K:PySem.W.Frag) (mg:Str->Option Value) (base:Heap) (k:Nat) (x:Str) (ks:List (List Nat)) (sp:rY):Prop:=∃ a,mg x=some (.ref a)/\Uu K a=true/\(Dd K a).map (fun p=>p.1.cps.toList)=ks /\
 ∀ ds μ Q Xq,sp ds μ Q Xq->∃ t r fa fd ps Du,ds = .str t :: r/\KTD.datumAt (⟨t.toArray⟩:Str) (Dd K a)=some fa/\Binds K fd ps []/\cD P w K mg base (oF P w) k fa fd ps (Cr K Du)/\Du r μ Q Xq
noncomputable def d9 (X:Cx):Rf->cU->Prop
 | .fn x,sp=>∃ (fa:Addr) (fd:FuncData) (ps:List Str) (k:Nat),X.mg x=some (.ref fa)/\PySem.W.keepIn X.K (.ref fa)=true/\Binds X.K fd ps []/\cD X.prog X.w X.K X.mg X.base (oF X.prog X.w) k fa fd ps (low X.K sp)/\bM k X.A
 | .lD c m,sp=>∃ (C fa:Addr) (fd:FuncData) (ps:List Str) (k:Nat),PySem.W.nsIn X.K mainGlobals (Str.ofString c)=some (some (.ref C))/\Cls X.K C/\Meth X.K C (Str.ofString m) fa/\Binds X.K fd ps []/\cD X.prog X.w X.K X.mg X.base (oF X.prog X.w) k fa fd ps (low X.K sp)/\bM k X.A
 | .mk c,sp=>∃ (C fa:Addr) (fd:FuncData) (ps:List Str) (k:Nat),PySem.W.nsIn X.K mainGlobals (Str.ofString c)=some (some (.ref C))/\X.mg (Str.ofString c)=some (.ref C)/\Mk X.K C fa/\Binds X.K fd ps []/\cD X.prog X.w X.K X.mg X.base (oF X.prog X.w) k fa fd ps (low X.K sp)/\bM (k + 1) X.A
 | .fld c f,_=>∃ C:Addr,PySem.W.nsIn X.K mainGlobals (Str.ofString c)=some (some (.ref C))/\Cls X.K C/\gw X.K C (Str.ofString f)
 | .fnX x sp,_=>∃ (fa:Addr) (fd:FuncData) (ps:List Str) (k:Nat),X.mg x=some (.ref fa)/\PySem.W.keepIn X.K (.ref fa)=true/\Binds X.K fd ps []/\cD X.prog X.w X.K X.mg X.base (oF X.prog X.w) k fa fd ps (Cr X.K sp)/\bM k X.A
 | .RK c m sp,_=>∃ (C fa:Addr) (fd:FuncData) (ps:List Str) (k:Nat),PySem.W.nsIn X.K mainGlobals (Str.ofString c)=some (some (.ref C))/\Cls X.K C/\Meth X.K C (Str.ofString m) fa/\Binds X.K fd ps []/\cD X.prog X.w X.K X.mg X.base (oF X.prog X.w) k fa fd ps (Cr X.K sp)/\bM k X.A
 | .mkX c sp,_=>∃ (C fa:Addr) (fd:FuncData) (ps:List Str) (k:Nat),PySem.W.nsIn X.K mainGlobals (Str.ofString c)=some (some (.ref C))/\X.mg (Str.ofString c)=some (.ref C)/\Mk X.K C fa/\Binds X.K fd ps []/\cD X.prog X.w X.K X.mg X.base (oF X.prog X.w) k fa fd ps (Cr X.K sp)/\bM (k + 1) X.A
 | .rse c,_=>PK X.K X.mg c
 | .lam,_=>∃ tc tP:Addr,PySem.W.tabIn X.K NP=some (tc,tP)/\X.env.code = .ref tc/\X.env.qual ++ "<lambda>" = Zd/\PySem.W.CodeHd X.base tc tP/\X.base.BuiltinsAt X.mg tP/\mainGlobals≠tP
 | .ZF x ks,_=>UW X.K X.mg x ks
 | .dsp x ks sp,_=>∃ k:Nat,bM k X.A/\UL X.prog X.w X.K X.mg X.base k x ks sp
 | .fnM x,sp=>∃ (fa:Addr) (fd:FuncData) (ps:List Str),X.mg x=some (.ref fa)/\PySem.W.keepIn X.K (.ref fa)=true/\Binds X.K fd ps []/\cD X.prog X.w X.K X.mg X.base (oF X.prog X.w) 15 fa fd ps (low X.K sp)/\bM 15 X.A
 | .rsi c ks,_=>UJ X.prog X.w X.K X.mg X.base c ks/\bM 2 X.A
 | .efl f tab,_=>Qc X.K f tab
 | .hdl P tab,_=>PX X.K X.mg P tab
 | .isx tt ts tab,_=>PN X.K X.mg tt ts tab
noncomputable def jQ (X:Cx) (x:Str) (d:D):Prop:=∃ (u:Value) (v:V),X.mg x=some u/\RelV v u/\∀ H θ μ,Rp X.K H θ μ d v
structure CtxOk (X:Cx) (c:Ctx):Prop where
 N:X.N=c.N
 nd:c.N.Nodup
 vis:∀ x,c.vis x=true->ZR X.env.scope x
 loc:∀ x,c.loc x=true->Loc X.env.scope x/\(X.fn x=true∨X.env.scope.names.lookup x=some .local)
 isl:∀ x,isLocal c x=true->X.env.scope.names.lookup x=some .local
 wU:∀ x,c.wU x=true->Gl X x
 clo:∀ x,(c.names.lookup x=some .cell∨c.names.lookup x=some .free)->(X.env.kindOf x=some .cell∨X.env.kindOf x=some .free)
 blt:∀ x,c.dW.contains x=true->X.mg x=none
 calm:c.calm=true->X.calm=true
 room:∃ k,bM k X.A
 pas:PassesOwn (model X.prog X.w) X.A X.env X.xe
theorem tL {c:Ctx} {i:Nat} {x:Str} (h:c.at_ i x=true):c.N[i]? = some x:=by
 unfold Ctx.at_ at h
 split at h
 ·rename_i y e; rw [e,of_decide_eq_true h]
 ·cases h
theorem bJ {e:Expr} {es:List Expr} {env:Env} (h:notStar e=true):starEach (e :: es) env=(false,eval e env) :: starEach es env:=by
 cases e <;> first | rfl | exact (Bool.false_ne_true h).elim
theorem fZ {c:Ctx} {pos:Pos} {env:Env}:∀ {es:Es} {as:List Expr},jo c es as=true->(backTo pos (starEach as env)).any (·.1)=false
 | .nil,as,h=>by
  have:as=[]:=by simpa [jo] using h
  subst this; rfl
 | .cons e es,as,h=>by
  cases as with
  | nil=>simp [jo] at h
  | cons a as =>
   simp only [jo,Bool.and_eq_true] at h
   rw [bJ h.1.2]
   show (false || (backTo pos (starEach as env)).any (·.1))=false
   rw [fZ h.2]; rfl
theorem CV {c:Ctx}:∀ {es:Es} {as:List Expr},jo c es as=true->j4 es=as.length
 | .nil,as,h=>by
  have:as=[]:=by simpa [jo] using h
  subst this; rfl
 | .cons e es,as,h=>by
  cases as with
  | nil=>simp [jo] at h
  | cons a as =>
   simp only [jo,Bool.and_eq_true] at h
   simp [j4,CV h.2]
theorem gZ {x:Str} (h:iI x=false):(x == ("__debug__" : Str))=false/\(x == ("__classdict__" : Str))=false:=by
 unfold iI at h
 exact Bool.or_eq_false_iff.mp h
theorem uE {op:CmpOp} {e:Expr} (h:eG e=true):behindInMarks op e=false:=by
 cases e <;> first | rfl | exact (Bool.false_ne_true h).elim
theorem qN {e:Expr} {env:Env} (h:eG e=true):∀ v,foldedSetIterable e env v=pure v:=by
 intro v
 cases e <;> first | rfl | exact (Bool.false_ne_true h).elim
theorem uM {e:Expr} (h:bV e=true):Ae e:=by
 intro o i
 cases e <;> first | rfl | exact (Bool.false_ne_true h).elim
theorem sy {e:Expr} {t:Option Expr} {n:Nat} {env:Env} (h:c7 e=true):swapsWith e t n env=pure false:=by
 cases e <;> first | rfl | exact (Bool.false_ne_true h).elim
structure Snd (X:Cx) (e:E) (a:Expr):Prop where
 pe:PE X a (LE X.K (wE e))
 pt:PT X a (LT X.K (wT e))
 pw:∀ op vs pos,a = .BoolOp op vs pos->PW X a (LT X.K (wT e))
section
variable {X:Cx}
theorem cF {a:Expr}:PT X a (LT X.K fun _ _ _=>False):=fun pins s σ H Q I h=>by obtain ⟨_,_,_,_,_,h,_⟩:=h; exact h.elim
theorem Ul {t:TE} {w:WE} {σ:L2.St} {H:Hp} {Q:Bool->Hp->Prop} (ht:∀ σ H Q,LE X.K w σ H Q->t σ H Q) (h:LT X.K (fun ρ μ Q=>w ρ μ fun r μ1=>fU r μ1 Q) σ H Q):Gu t σ H Q:=by
 obtain ⟨ρ,θ,μ,Qd,s,h,f⟩:=h
 refine ht σ H _ ⟨ρ,θ,μ,_,s,h,fun r v H1 θ1 μ1 w1 g1 r1 h1=>?_⟩
 cases r with
 | bl b=>exact ⟨b,dR r1,f b H1 θ1 μ1 w1 g1 h1⟩
 | _=>exact h1.elim
theorem Cu {p q:CmpOp} {wa wb wc:WE} {σ:L2.St} {H:Hp} {Q:VK}
  (h:LE X.K (fun ρ μ Q=>wa ρ μ fun x μ1=>wb ρ μ1 fun y μ2=>bK p x y μ2 fun r μ3=>fU r μ3 fun t μ3=>if t=true then wc ρ μ3 fun z μ4=>bK q y z μ4 Q else Q (.bl false) μ3) σ H Q) :
  yK (rN X.K (bK p)) (rN X.K (bK q)) (LE X.K wa) (LE X.K wb) (LE X.K wc) σ H Q:=by
 obtain ⟨ρ,θ,μ,Qd,s,h,f⟩:=h
 refine ⟨ρ,θ,μ,_,s,h,fun x v H1 θ1 μ1 w1 g1 r1 h1=>⟨ρ,θ1,μ1,_,s.grow w1 g1,h1,fun y v2 H2 θ2 μ2 w2 g2 r2 h2=>⟨x,y,θ2,μ2,_,w2,g2.rep r1,r2,h2,fun r v3 H3 θ3 μ3 w3 g3 r3 h3=>?_⟩⟩⟩
 cases r with
 | bl b =>
  refine ⟨b,dR r3,?_⟩
  have g13:=(g1.trans g2).trans g3
  cases b with
  | true =>
   exact ⟨ρ,θ3,μ3,_,s.grow w3 g13,h3,fun z v4 H4 θ4 μ4 w4 g4 r4 h4=>⟨y,z,θ4,μ4,Qd,w4,(g3.trans g4).rep r2,r4,h4,f.mono (g13.trans g4)⟩⟩
  | false=>exact (f.mono g13).at w3 gR h3
 | _=>exact h3.elim
theorem Ny {wa wb:WE} {σ:L2.St} {H:Hp} {Q:VK} (h:LE X.K (fun ρ μ Q=>wa ρ μ fun x μ1=>fU x μ1 fun t μ2=>if t=true then wb ρ μ2 Q else Q (.bl false) μ2) σ H Q):T6 (LE X.K wa) (LE X.K wb) σ H Q:=by
 obtain ⟨ρ,θ,μ,Qd,s,h,f⟩:=h
 refine ⟨ρ,θ,μ,_,s,h,fun x v H1 θ1 μ1 w1 g1 r1 h1=>?_⟩
 cases x with
 | bl b =>
  refine ⟨b,dR r1,?_⟩
  cases b with
  | true=>exact ⟨ρ,θ1,μ1,Qd,s.grow w1 g1,h1,f.mono g1⟩
  | false=>exact (f.mono g1).at w1 gR h1
 | _=>exact h1.elim
theorem Um {wa wb:WE} {σ:L2.St} {H:Hp} {Q:VK} (h:LE X.K (fun ρ μ Q=>wa ρ μ fun x μ1=>fU x μ1 fun t μ2=>if t=true then Q (.bl true) μ2 else wb ρ μ2 Q) σ H Q):Yj (LE X.K wa) (LE X.K wb) σ H Q:=by
 obtain ⟨ρ,θ,μ,Qd,s,h,f⟩:=h
 refine ⟨ρ,θ,μ,_,s,h,fun x v H1 θ1 μ1 w1 g1 r1 h1=>?_⟩
 cases x with
 | bl b =>
  refine ⟨b,dR r1,?_⟩
  cases b with
  | false=>exact ⟨ρ,θ1,μ1,Qd,s.grow w1 g1,h1,f.mono g1⟩
  | true=>exact (f.mono g1).at w1 gR h1
 | _=>exact h1.elim
theorem Nm {wa wb:WT} {σ:L2.St} {H:Hp} {Q:Bool->Hp->Prop} (h:LT X.K (fun ρ μ Q=>wa ρ μ fun t μ1=>if t=true then wb ρ μ1 Q else Q false μ1) σ H Q):Yp (LT X.K wa) (LT X.K wb) σ H Q:=by
 obtain ⟨ρ,θ,μ,Qd,s,h,f⟩:=h
 refine ⟨ρ,θ,μ,_,s,h,fun b H1 θ1 μ1 w1 g1 h1=>?_⟩
 cases b with
 | true=>exact ⟨ρ,θ1,μ1,Qd,s.grow w1 g1,h1,fun b H2 θ2 μ2 w2 g2 q=>f b H2 θ2 μ2 w2 (g1.trans g2) q⟩
 | false=>exact f false H1 θ1 μ1 w1 g1 h1
theorem Uj {wa wb:WT} {σ:L2.St} {H:Hp} {Q:Bool->Hp->Prop} (h:LT X.K (fun ρ μ Q=>wa ρ μ fun t μ1=>if t=true then Q true μ1 else wb ρ μ1 Q) σ H Q):tOr (LT X.K wa) (LT X.K wb) σ H Q:=by
 obtain ⟨ρ,θ,μ,Qd,s,h,f⟩:=h
 refine ⟨ρ,θ,μ,_,s,h,fun b H1 θ1 μ1 w1 g1 h1=>?_⟩
 cases b with
 | false=>exact ⟨ρ,θ1,μ1,Qd,s.grow w1 g1,h1,fun b H2 θ2 μ2 w2 g2 q=>f b H2 θ2 μ2 w2 (g1.trans g2) q⟩
 | true=>exact f true H1 θ1 μ1 w1 g1 h1
theorem Wm {wt:WT} {wa wb:WE} {σ:L2.St} {H:Hp} {Q:VK} (h:LE X.K (fun ρ μ Q=>wt ρ μ fun t μ1=>if t=true then wa ρ μ1 Q else wb ρ μ1 Q) σ H Q):tIf (LT X.K wt) (LE X.K wa) (LE X.K wb) σ H Q:=by
 obtain ⟨ρ,θ,μ,Qd,s,h,f⟩:=h
 refine ⟨ρ,θ,μ,_,s,h,fun b H1 θ1 μ1 w1 g1 h1=>?_⟩
 cases b with
 | true=>exact ⟨ρ,θ1,μ1,Qd,s.grow w1 g1,h1,f.mono g1⟩
 | false=>exact ⟨ρ,θ1,μ1,Qd,s.grow w1 g1,h1,f.mono g1⟩
theorem Rm {a:Expr} {wa:WE} (h:PE X a (LE X.K wa)):PE X a (LE X.K fun ρ μ Q=>wa ρ μ fun d μ1=>DK d μ1 Q):=fun pins s0 σ H Q I q=>by
 obtain ⟨ρ,θ,μ,Qd,s,hw,f⟩:=q
 refine bG (h pins s0 σ H (fun x H1=>∃ d θ1 μ1,bY X.K H1 θ1 μ1/\aD H θ μ H1 θ1 μ1/\Rp X.K H1 θ1 μ1 d x/\DK d μ1 Qd) I ⟨ρ,θ,μ,_,s,hw,fun d v H1 θ1 μ1 w1 g1 r1 h1=>⟨d,θ1,μ1,w1,g1,r1,h1⟩⟩) fun vv s1 ⟨v,H1,I1,rv,d,θ1,μ1,w1,g1,r1,h1⟩=>?_
 have f1:=f.mono g1
 cases d with
 | loc n =>
  simp only [DK] at h1
  split at h1
  ·rename_i ds hn
   obtain ⟨a,rfl,ha⟩:=bT r1
   obtain ⟨xs,hx,rs⟩:=w1.list hn ha
   refine ⟨.ref a,H1,I1,rv,f1 (.lst ds) (.ref a) H1 θ1 (μ1.set n .gone) w1.iz aD.iz ?_ h1⟩
   unfold Rep
   exact ⟨a,xs,rfl,hx,zG w1 ha,aD.iz.reps rs⟩
  ·exact h1.elim
 | _=>exact ⟨v,H1,I1,rv,f1.at w1 r1 h1⟩
theorem Mr {x:Str} {sp:cU} {ws:WA} {p pos:Pos} {e:Expr} {es:List Expr} (R:d9 X (.fn x) sp) (hg:Gl X x) (ha:PA X (e :: es) (LA X.K ws)) (hdb:(x == ("__debug__" : Str))=false) (hs:starEach (e :: es) X.env=(false,eval e X.env) :: starEach es X.env)
  (hpl:(backTo pos (starEach es X.env)).any (·.1)=false):PE X (.Call (.Name x p) (e :: es) [] pos) (LE X.K fun ρ μ Q=>ws ρ μ fun ds μ1=>sp ds μ1 Q):=by
 obtain ⟨fa,fd,ps,k,hm,hk,hb,F,hr⟩:=R
 refine PE.wk (Ru F hr hg hm hk hb .nil xP ha hdb hs hpl) fun σ H Q h=>?_
 obtain ⟨ρ,θ,μ,Qd,s,h,f⟩:=h
 refine ⟨ρ,θ,μ,_,s,h,fun ds vs H1 θ1 μ1 w1 g1 r1 h1=>?_⟩
 dsimp only
 rw [List.append_nil]
 exact ⟨ds,θ1,μ1,Qd,w1,r1,h1,f.mono g1⟩
theorem IV {x:Str} {sp:cU} {p pos:Pos} (R:d9 X (.fn x) sp) (hg:Gl X x) (hdb:(x == ("__debug__" : Str))=false):PE X (.Call (.Name x p) [] [] pos) (LE X.K fun ρ μ Q=>sp [] μ Q):=by
 obtain ⟨fa,fd,ps,k,hm,hk,hb,F,hr⟩:=R
 refine PE.wk (Ms F hr hg hm hk hb .nil xP hdb) fun σ H Q h=>?_
 obtain ⟨ρ,θ,μ,Qd,s,h,f⟩:=h
 exact ⟨[],θ,μ,Qd,s.yH,aG.nil,h,f⟩
end
theorem pR {c:Ctx}:∀ {cap:List Nat} {cs:List Str},fY c cap=some cs->cs.length=cap.length/\∀ (j:Nat) (y:Str),cs[j]? = some y->∃ i,cap[j]? = some i/\c.N[i]? = some y
 | [],cs,h=>by simp only [fY,Option.some.injEq] at h; subst h; exact ⟨rfl,fun j y e=>by simp at e⟩
 | i :: is,cs,h=>by
  simp only [fY] at h
  split at h
  ·rename_i x r e1 e2
   simp only [Option.some.injEq] at h
   subst h
   obtain ⟨h1,h2⟩:=pR e2
   refine ⟨by simp [h1],fun j y e=>?_⟩
   cases j with
   | zero=>simp at e; subst e; exact ⟨i,rfl,e1⟩
   | succ j =>
    obtain ⟨i',a1,a2⟩:=h2 j y (by simpa using e)
    exact ⟨i',by simpa using a1,a2⟩
  ·cases h
theorem vV {X:Cx} {c:Ctx} {scope:Scope} {xs:List Str} {cap:List Nat} {cs:List Str} (C:CtxOk X c) (h1:fY c cap=some cs) (h:vW c scope (xs ++ cs) cs=true):mU X xs scope (xs ++ cs) cap:=by
 simp only [vW,Bool.and_eq_true,List.all_eq_true] at h
 obtain ⟨⟨⟨⟨⟨k1,k2⟩,k3⟩,k5⟩,k6⟩,k7⟩:=h
 obtain ⟨hl,hg⟩:=pR h1
 refine ⟨by simpa using k1,fun y hy hc=>?_,fun y hy hloc=>?_,of_decide_eq_true k5,fun j y e=>?_,by simp [hl],fun y hy hf=>?_⟩
 ·have:=k2 y hy
  rw [hc] at this
  simpa using this
 ·have:=k3 y hy
  rw [hloc] at this
  simpa using this
 ·have e':cs[j]? = some y:=by
   rw [List.getElem?_append_right (by lia)] at e
   simpa using e
  obtain ⟨i,a1,a2⟩:=hg j y e'
  refine ⟨i,a1,by rw [C.N]; exact a2,?_⟩
  have:=k6 y (List.mem_of_getElem? e')
  simpa using this
 ·have:=k7 y hy
  rw [hf] at this
  refine C.clo y.1 ?_
  simpa using this
theorem ju {X:Cx} {c:Ctx} {scope:Scope} {xs:List Str} {cs:List Str} (C:CtxOk X c) (h:vW c scope (xs ++ cs) cs=true) (cl:List (Str×Addr)) (Ca:Addr) (s:Shared) (H:Hp) (ex:List Addr) :
  CtxOk (iU X (xs ++ cs) scope cl Ca s H ex) (c.Ql (xs ++ cs) scope.names):=by
 simp only [vW,Bool.and_eq_true,List.all_eq_true] at h
 obtain ⟨⟨⟨⟨⟨k1,k2⟩,k3⟩,k5⟩,k6⟩,k7⟩:=h
 have cel:∀ y,scope.names.lookup y=some .cell->(relabel scope X.env).names.lookup y=some .cell:=fun y z=>oW z
 have lk:∀ y,scope.names.lookup y=some .local->(relabel scope X.env).names.lookup y=some .local:=fun y z=>lookup_relabel_local z
 refine ⟨rfl,of_decide_eq_true k5,fun y hy=>?_,fun y hy=>?_,fun y hy=>?_,fun y hy=>?_,fun y hy=>?_,C.blt,C.calm,C.room,PassesOwn.never⟩
 ·unfold Ctx.vis at hy
  split at hy
  ·rename_i z; exact .inl (lk y z)
  ·rename_i z; exact .inr (.inl (cel y z))
  ·rename_i z
   rcases gD (env:=X.env) z with q | q
   ·exact .inr (.inr q)
   ·exact .inr (.inl q)
  ·cases hy
 ·unfold Ctx.loc at hy
  split at hy
  ·rename_i z; exact ⟨.inl (lk y z),.inr (lk y z)⟩
  ·rename_i z; exact ⟨.inr (cel y z),.inl (by show (scope.names.lookup y == some .cell)=true; rw [z]; rfl)⟩
  ·cases hy
 ·exact lk y (by simpa [isLocal] using hy)
 ·unfold Ctx.wU at hy
  split at hy
  ·rename_i z
   show (relabel scope X.env).names.lookup y=some .globalImplicit
   exact yQ z
  ·cases hy
 ·rcases hy with hy | hy
  ·exact .inl (cel y hy)
  ·exact (gD (env:=X.env) hy).symm
section
variable {X:Cx}
theorem u6 {c:Ctx} (C:CtxOk X c):∀ {is:List Nat} {ts:List Expr},eO c is ts=true->X8 X ts (zH is)/\(assignEach ts X.env).length=is.length/\(assignEach ts X.env).findIdx? (·.1)=none
 | [],[],_=>⟨Rc,rfl,rfl⟩
 | [],_ :: _,h=>by simp [eO] at h
 | _ :: _,[],h=>by simp [eO] at h
 | i :: is,t :: ts,h=>by
  simp only [eO,Bool.and_eq_true] at h
  obtain ⟨h1,h2⟩:=h
  cases t with
  | Name x p =>
   simp only [Bool.and_eq_true] at h1
   obtain ⟨k1,k2,k3⟩:=u6 C h2
   obtain ⟨l1,l2⟩:=C.loc x h1.2
   refine ⟨Lz (GK (by rw [C.N]; exact C.nd) (by rw [C.N]; exact tL h1.1) l1 l2) k1 rfl,?_,?_⟩
   ·show (assignEach ts X.env).length + 1=_
    rw [k2]; rfl
   ·show List.findIdx? (fun x=>x.1) ((false,assign (.Name x p) X.env) :: assignEach ts X.env)=none
    rw [List.findIdx?_cons]
    simp [k3]
  | _=>simp at h1
theorem GJ {c:Ctx} (C:CtxOk X c) {is:List Nat} {tt:Bool} (hcm:tt=true->c.calm=true) {a:Expr} (h:Wf c is tt a=true):PG X a (LG X.K fun d r k=>cZ is tt d r k):=by
 cases tt with
 | false =>
  have h:eO c is [a]=true:=h
  match is,h with
  | [i],h =>
   cases a with
   | Name x p =>
    simp only [eO,Bool.and_eq_true] at h
    obtain ⟨⟨h1,h2⟩,_⟩:=h
    obtain ⟨l1,l2⟩:=C.loc x h2
    exact LC (by rw [C.N]; exact C.nd) (by rw [C.N]; exact tL h1) l1 l2
   | _=>exact (Bool.false_ne_true h).elim
  | [],h=>simp [eO] at h
  | _ :: _ :: _,h=>simp [eO] at h
 | true =>
  cases a with
  | Tuple ts k p =>
   obtain ⟨k1,k2,k3⟩:=u6 C (show eO c is ts=true from h)
   exact Rg (C.calm (hcm rfl)) k1 k2 k3
  | _=>exact (Bool.false_ne_true h).elim
end
theorem tgn {tt:Bool} {a:Expr} {xs:List Str} (h:rZ tt a=some xs):tt=false->xs.length=1:=by
 rintro rfl
 cases a <;> first | (cases h; rfl) | cases h
end DW
end
section
set_option maxHeartbeats 2000000
namespace DW
open PySem PySem.Spec PyProof.Rows L2
section
variable {X:Cx}
theorem Hv:ZS X (rN X.K qZ):=by
 intro pins s σ H o i ov iv Q I ro ri h
 obtain ⟨d,e,θ,μ,Qd,wk,rd,re,hw,f⟩:=h
 unfold qZ at hw
 split at hw
 ·rename_i n j
  obtain ⟨a,rfl,ha⟩:=bT rd
  cases aC re
  cases ro
  obtain ⟨t,rfl⟩:=ri
  split at hw
  ·rename_i xs hn
   obtain ⟨ys,hH,rs⟩:=wk.cell n _ a hn ha
   obtain ⟨h0,hw⟩:=hw
   split at hw
   ·rename_i d hd
    obtain ⟨v,e1,e2⟩:=rs.get hd
    obtain ⟨its,rv,pl,hz⟩:=I.list (f9.of hH)
    obtain ⟨u,eu,ru⟩:=rv.get e1
    have hl:=(List.getElem?_eq_some_iff.mp e1).1
    have hn:=qy
    exact wpAny_getItem_list pl.isList h0 (by lia) (by simpa using eu) ⟨v,H,I,ru,f.at wk e2 hw⟩
   ·exact hw.elim
  ·exact hw.elim
 ·exact hw.elim
theorem yE {i:Expr} (h:bV i=true):∀ ov iv new,augStore i ov iv new=(do holding [new,ov,iv] (setItem ov iv new); release [new,ov,iv] []; pure .next):=by
 intro ov iv new
 cases i <;> first | rfl | exact (Bool.false_ne_true h).elim
theorem Cq {EX:L2.St->XK} {op:Operator} {g:Int->Int->Int} {wo wi we:WE} {D:Ends} {σ:L2.St} {H:Hp} (hg:∀ p q k,gO op p q k->∃ i j,p = .int i/\q = .int j/\k (.int (g i j)))
  (h:LS X.K EX (fun Z ρ μ=>wo ρ μ fun x μ1=>wi ρ μ1 fun y μ2=>qZ x y μ2 fun p μ3=>we ρ μ3 fun q μ4=>gO op p q fun v=>fH x y v μ4 fun μ5=>Z.nx ρ μ5) D σ H) :
  T5 (LE X.K wo) (LE X.K wi) (LE X.K we) (rN X.K qZ) (ipI g) (fun o i v H Q=>∃ x y z θ μ k,bY X.K H θ μ/\Rp X.K H θ μ x o/\Rp X.K H θ μ y i/\Rp X.K H θ μ z v/\fH x y z μ k/\∀ H' μ',bY X.K H' θ μ'->aD H θ μ H' θ μ'->k μ'->Q H') D σ H:=by
 obtain ⟨ρ,θ,μ,Z,s,h,f⟩:=h
 refine ⟨ρ,θ,μ,_,s,h,fun x vx H1 θ1 μ1 w1 g1 r1 h1=>⟨ρ,θ1,μ1,_,s.grow w1 g1,h1,fun y vy H2 θ2 μ2 w2 g2 r2 h2=>?_⟩⟩
 refine ⟨x,y,θ2,μ2,_,w2,g2.rep r1,r2,h2,fun p vp H3 θ3 μ3 w3 g3 r3 h3=>⟨ρ,θ3,μ3,_,s.grow w3 ((g1.trans g2).trans g3),h3,fun q vq H4 θ4 μ4 w4 g4 r4 h4=>?_⟩⟩
 obtain ⟨i,j,rfl,rfl,hk⟩:=hg _ _ _ h4
 cases aC r3
 cases aC r4
 refine ⟨i,j,rfl,rfl,x,y,.int (g i j),θ4,μ4,_,w4,((g2.trans g3).trans g4).rep r1,(g3.trans g4).rep r2,bL,hk,fun H5 μ5 w5 g5 z=>?_⟩
 exact f.nx σ H5 ρ θ4 μ5 (s.grow w5 ((((g1.trans g2).trans g3).trans g4).trans g5)) ((((g1.trans g2).trans g3).trans g4).trans g5) z
theorem Pr (p q:D) (k:D->Prop) (h:gO .Add p q k):∃ i j,p = .int i/\q = .int j/\k (.int (i + j)):=by
 unfold gO at h
 split at h
 ·exact ⟨_,_,rfl,rfl,h⟩
 ·exact h.elim
theorem Pq (p q:D) (k:D->Prop) (h:gO .Sub p q k):∃ i j,p = .int i/\q = .int j/\k (.int (i - j)):=by
 unfold gO at h
 split at h
 ·exact ⟨_,_,rfl,rfl,h⟩
 ·exact h.elim
end
end DW
end
section
set_option maxHeartbeats 2000000
namespace DW
open PySem PySem.Spec PyProof.Rows L2
section
variable {K:PySem.W.Frag} {H:Hp} {θ:List Addr} {μ:Mem} {κ κ':Type} [DecidableEq κ] [DecidableEq κ']
theorem HB (f:κ->κ') (inj:∀ a b,f a=f b->a=b) {ks:List κ} {ds:List D} {kvs:List (κ'×V)} {k:κ} {d:D} {v:V} (h1:kvs.map (·.1)=ks.map f) (h2:eF K H θ μ ds (kvs.map (·.2))) (hd:Rp K H θ μ d v) :
  (putK kvs (f k) v).map (·.1)=(eY ks k).map f/\eF K H θ μ (fD ks ds k d) ((putK kvs (f k) v).map (·.2)):=by
 have hm:=NQ (k:=k) f inj h1
 unfold putK eY fD
 by_cases c:k∈ks
 ·rw [if_pos (hm.mpr c),if_pos c,if_pos c]
  refine ⟨?_,?_⟩
  ·rw [<- h1,List.map_map]
   refine List.map_congr_left fun p _=>?_
   show (if p.1=f k then (p.1,v) else p).1=p.1
   split <;> rfl
  ·clear hm c
   induction kvs generalizing ks ds with
   | nil =>
    cases ds with
    | nil=>cases ks <;> simpa using aG.nil
    | cons _ _=>have:=h2.length; simp at this
   | cons p kvs ih =>
    cases ks with
    | nil=>simp at h1
    | cons k' ks =>
     cases ds with
     | nil=>have:=h2.length; simp at this
     | cons d' ds =>
      simp only [List.map_cons,List.cons.injEq] at h1
      rw [List.map_cons] at h2
      obtain ⟨v',r,e,r1,r2⟩:=h2.cons_inv
      cases e
      rw [List.map_cons,List.map_cons,List.zipWith_cons_cons]
      refine aG.cons ?_ (ih h1.2 r2)
      by_cases c:k'=k
      ·rw [if_pos c,if_pos (by rw [h1.1,c])]; exact hd
      ·rw [if_neg c,if_neg (fun e=>c (inj _ _ (h1.1.symm.trans e)))]; exact r1
 ·rw [if_neg (fun e=>c (hm.mp e)),if_neg c,if_neg c]
  refine ⟨by rw [List.map_append,List.map_append,h1]; rfl,?_⟩
  rw [List.map_append]
  exact h2.append (aG.one hd)
end
section
variable {K:PySem.W.Frag} {H:Hp} {θ:List Addr} {μ:Mem}
theorem GX {t:Bool} {Qd:QD} {Q:VK} {p:Addr} (wk:bY K H θ μ) (f:Fin K H θ μ Qd Q) (h:Qd (.loc μ.length) (μ ++ [if t=true then .yq [] [] else .j9 [] []])) (hp:H p=none):Q (.ref p) (upd H p (if t=true then .dT [] else .dK [])):=by
 have g:aD H θ μ (upd H p (if t=true then .dT [] else .dK [])) (θ ++ [p]) (μ ++ [if t=true then Cell.yq [] [] else Cell.j9 [] []]):=aD.new wk hp
 refine f (.loc μ.length) (.ref p) _ (θ ++ [p]) _ (wk.new hp ?_) g ?_ h
 ·cases t with
  | true=>exact ⟨[],by rw [aN]; rfl,rfl,aG.nil⟩
  | false=>exact ⟨[],by rw [aN]; rfl,rfl,aG.nil⟩
 ·unfold Rep
  exact ⟨p,rfl,by rw [<- wk.len]; simp⟩
end
section
variable {X:Cx}
theorem Ml {t:Bool} {pos:Pos}:PE X (.Dict [] [] pos) (LE X.K fun _ μ Q=>Q (.loc μ.length) (μ ++ [if t=true then .yq [] [] else .j9 [] []])):=by
 intro pins s σ H Q I h
 obtain ⟨ρ,θ,μ,Qd,sm,h,f⟩:=h
 cases t with
 | true=>exact Mi pins s σ H Q I fun p hp=>GX (t:=true) sm.yH f h hp
 | false=>exact Mj pins s σ H Q I fun p hp=>GX (t:=false) sm.yH f h hp
theorem Mp {o i:Expr} {wo wi:WE} {pos:Pos} (hu:X.A.units + 1 < cLine) (ho:PE X o (LE X.K wo)) (hi:PE X i (LE X.K wi)) (hs:Ae i):PE X (.Subscript o i pos) (LE X.K fun ρ μ Q=>wo ρ μ fun x μ1=>wi ρ μ1 fun y μ2=>Gq x y μ2 Q):=by
 intro pins s σ H Q I h
 refine Ro hu ho hi hs pins s σ H Q I ?_
 obtain ⟨ρ,θ,μ,Qd,sm,h,f⟩:=h
 refine ⟨ρ,θ,μ,_,sm,h,fun x vx H1 θ1 μ1 w1 g1 r1 h1=>⟨ρ,θ1,μ1,_,sm.grow w1 g1,h1,fun y vy H2 θ2 μ2 w2 g2 r2 h2=>?_⟩⟩
 have r1':=g2.rep r1
 unfold Gq at h2
 split at h2
 ·rename_i n
  obtain ⟨a,rfl,ha⟩:=bT r1'
  split at h2
  ·rename_i ks ds hn
   obtain ⟨kvs,e1,e2,e3⟩:=w2.cell n _ a hn ha
   split at h2
   ·rename_i k hk
    split at h2
    ·rename_i d hd
     obtain ⟨v,v1,v2⟩:=qP keyOf (fun _ _=>qC) ks ds kvs k d e2 e3 hd
     exact ⟨a,v,rfl,by rw [zc hk r2,<- v1]; exact Aj.k e1,f.mono (g1.trans g2) d v H2 θ2 μ2 w2 aD.refl v2 h2⟩
    ·exact h2.elim
   ·exact h2.elim
  ·rename_i ks ds hn
   obtain ⟨kvs,e1,e2,e3⟩:=w2.cell n _ a hn ha
   split at h2
   ·rename_i es
    split at h2
    ·rename_i k hk
     split at h2
     ·rename_i d hd
      obtain ⟨v,v1,v2⟩:=qP (fun l:List j8=>l.map keyOf) (fun _ _=>vA) ks ds kvs k d e2 e3 hd
      obtain ⟨b,xs,rfl,hb,_,rs⟩:=cA r2
      exact ⟨a,v,rfl,by rw [<- v1]; exact Aj.t e1 (by rw [hb,vo hk rs]),f.mono (g1.trans g2) d v H2 θ2 μ2 w2 aD.refl v2 h2⟩
     ·exact h2.elim
    ·exact h2.elim
   ·exact h2.elim
  ·exact h2.elim
 ·exact h2.elim
theorem JF {n:Nat} {x y v:D} {H:Hp} {θ:List Addr} {μ:Mem} {vx vy vv:V} {k:Mem->Prop} (w:bY X.K H θ μ) (rx:Rp X.K H θ μ x vx) (ry:Rp X.K H θ μ y vy) (rv:Rp X.K H θ μ v vv) (h:Aq x y v μ k) :
  ∃ a H4 μ4,vx = .ref a/\Ai H a vy vv H4/\bY X.K H4 θ μ4/\aD H θ μ H4 θ μ4/\k μ4:=by
 unfold Aq at h
 split at h
 ·rename_i n
  obtain ⟨a,rfl,ha⟩:=bT rx
  split at h
  ·rename_i ks ds hn
   obtain ⟨kvs,e1,e2,e3⟩:=w.cell n _ a hn ha
   split at h
   ·rename_i q hq
    have hl:kvs.length < sizeLine:=by
     have:kvs.length=ks.length:=by simpa using congrArg List.length e2
     rw [this,sizeLine_eq]; exact h.1
    have g:aD H θ μ (upd H a (.dK (putK kvs (keyOf q) vv))) θ (μ.set n (.j9 (eY ks q) (fD ks ds q v))):=aD.write hn ha (by simp) (by simp)
    obtain ⟨p1,p2⟩:=HB (K:=X.K) (k:=q) keyOf (fun _ _=>qC) e2 (g.reps e3) (g.rep rv)
    have w4:bY X.K (upd H a (.dK (putK kvs (keyOf q) vv))) θ (μ.set n (.j9 (eY ks q) (fD ks ds q v))):=w.write (c':=.j9 (eY ks q) (fD ks ds q v)) hn ha (by simp) (by simp) ⟨_,aN,p1,p2⟩
    exact ⟨a,_,_,rfl,by rw [zc hq ry]; exact Ai.k e1 hl,w4,g,h.2⟩
   ·exact h.elim
  ·rename_i ks ds hn
   obtain ⟨kvs,e1,e2,e3⟩:=w.cell n _ a hn ha
   split at h
   ·rename_i es
    split at h
    ·rename_i q hq
     have hl:kvs.length < sizeLine:=by
      have:kvs.length=ks.length:=by simpa using congrArg List.length e2
      rw [this,sizeLine_eq]; exact h.1
     obtain ⟨b,xs,rfl,hb,_,rs⟩:=cA ry
     have g:aD H θ μ (upd H a (.dT (putK kvs (q.map keyOf) vv))) θ (μ.set n (.yq (eY ks q) (fD ks ds q v))):=aD.write hn ha (by simp) (by simp)
     obtain ⟨p1,p2⟩:=HB (K:=X.K) (k:=q) (fun l:List j8=>l.map keyOf) (fun _ _=>vA) e2 (g.reps e3) (g.rep rv)
     have w4:bY X.K (upd H a (.dT (putK kvs (q.map keyOf) vv))) θ (μ.set n (.yq (eY ks q) (fD ks ds q v))):=w.write (c':=.yq (eY ks q) (fD ks ds q v)) hn ha (by simp) (by simp) ⟨_,aN,p1,p2⟩
     exact ⟨a,_,_,rfl,Ai.t e1 (by rw [hb,vo hq rs]) hl,w4,g,h.2⟩
    ·exact h.elim
   ·exact h.elim
  ·exact h.elim
 ·exact h.elim
theorem Lq {EX:L2.St->XK} {o i value:Expr} {wo wi we:WE} {pos pos':Pos} (hu:X.A.units + 1 < cLine) (ho:PE X o (LE X.K wo)) (hi:PE X i (LE X.K wi)) (hv:PE X value (LE X.K we)) (hs:swapsWith value (some (.Subscript o i pos')) pos.line X.env=pure false) :
  PS X (.Assign [.Subscript o i pos'] value pos) (LS X.K EX fun Z ρ μ=>we ρ μ fun v μ1=>wo ρ μ1 fun x μ2=>wi ρ μ2 fun y μ3=>Aq x y v μ3 fun μ4=>Z.nx ρ μ4):=by
 intro pins s σ H D I h
 refine Q6 hu ho hi hv hs pins s σ H D I ?_
 obtain ⟨ρ,θ,μ,Z,sm,h,f⟩:=h
 refine ⟨ρ,θ,μ,_,sm,h,fun d v H1 θ1 μ1 w1 g1 r1 h1=>⟨ρ,θ1,μ1,_,sm.grow w1 g1,h1,fun x vx H2 θ2 μ2 w2 g2 r2 h2=>⟨ρ,θ2,μ2,_,sm.grow w2 (g1.trans g2),h2,fun y vy H3 θ3 μ3 w3 g3 r3 h3=>?_⟩⟩⟩
 obtain ⟨a,H4,μ4,e,p,w4,g4,q⟩:=JF (n:=0) w3 (g3.rep r2) r3 ((g2.trans g3).rep r1) h3
 exact ⟨a,H4,e,p,f.nx σ H4 ρ θ3 μ4 (sm.grow w4 (((g1.trans g2).trans g3).trans g4)) (((g1.trans g2).trans g3).trans g4) q⟩
end
end DW
end
section
set_option maxHeartbeats 2000000
namespace DW
open PySem PySem.Spec PyProof.Rows L2
section
variable {X:Cx}
end
end DW
end
section
set_option maxHeartbeats 4000000
namespace DW
open PySem
section
variable {prog:Program} {w:World} {A:Around} {E:Value->Shared->Prop} {s:Shared}
noncomputable def Qa (h:Heap) (e it:Addr) (i:Nat):Prop:=(∃ old,IsEnum h e it i old) ∨
 ∃ (a:Nat) (b:Bool) (o:Obj) (z:Value),h.get? e=some { cls:=.type "enumerate",dict:=none,data:=.fields #[rawInt (a:Int),.bool b,.ref it,rawInt (i:Int),.none,z],slots:=#[] }/\h.get? a=some o/\a≠e/\a≠it
theorem Qa.kept {h h':Heap} {e it:Addr} {i:Nat} (hG:Qa h e it i) (k:∀ c o,h.get? c=some o->h'.get? c=some o):Qa h' e it i:=by
 rcases hG with ⟨old,q⟩ | ⟨a,b,o,z,q,qa,r⟩
 ·exact .inl ⟨old,k _ _ q⟩
 ·exact .inr ⟨a,b,o,z,k _ _ q,k _ _ qa,r⟩
end
end DW
end
section
set_option maxHeartbeats 2000000
namespace DW
open PySem PySem.Spec PyProof.Rows L2
section
variable {X:Cx}
end
end DW
end
section
set_option maxHeartbeats 2000000
namespace DW
open PySem PySem.Spec PyProof.Rows L2 PySem.SeqAt
section
variable {X:Cx}
end
end DW
end
section
set_option maxHeartbeats 2000000
namespace DW
open PySem PySem.Spec PyProof.Rows L2 PySem.SeqAt PySem.Builtin PySem.Builtin.Str
section
variable {X:Cx}
end
end DW
end
section
set_option maxHeartbeats 2000000
namespace DW
section
open PySem PySem.SeqAt
open AutoSeq1 (wpAny_loadPart')
open MeetsSeq MeetsSeq2 MeetsSeq3 SeqRoads2
end
open PySem PySem.Spec PyProof.Rows L2 PySem.SeqAt
section
variable {X:Cx}
end
end DW
end
section
set_option maxHeartbeats 4000000
namespace DW
open PySem PySem.Spec PyProof.Rows L2 PySem.SeqAt
open PySem.AutoSeq1 (wpAny_loadPart')
theorem IsItem.keep {h h':Heap} {v:Value} {x:Itm} (k:∀ b o,h.get? b=some o->h'.get? b=some o) (i:IsItem h v x):IsItem h' v x:=by
 obtain ⟨p,o,t,u,n,e,g,r⟩:=i
 exact ⟨p,o,t,u,n,e,k _ _ g,r⟩
section
variable {prog:Program} {w:World} {A:Around} {E:Value->Shared->Prop}
end
section
variable {X:Cx}
end
end DW
end
section
set_option maxHeartbeats 2000000
namespace DW
open PySem PySem.Spec PyProof.Rows L2
section
variable {X:Cx}
end
end DW
end
section
namespace DW
open PySem PySem.Spec PyProof.Rows L2
section
variable {X:Cx}
end
end DW
end
section
namespace DW
open PySem PySem.Spec PyProof.Rows L2
section
variable {X:Cx}
variable {σ:L2.St} {H:Hp} {pins:List (Addr×Obj)} {l:List Nat} {rest:List (Sem Value)} {Q:List Nat->Prop}
end
end DW
end
section
set_option maxHeartbeats 2000000
namespace DW
open PySem PySem.Spec PyProof.Rows L2
theorem jF {a b:String} (h:Str.ofString a=Str.ofString b):a=b:=by
 rw [Str.ofString_eq_toList,Str.ofString_eq_toList] at h
 have h1:a.toList.map Char.toNat=b.toList.map Char.toNat:=by
  have:=congrArg (fun s:Str=>s.cps.toList) h
  simpa using this
 have inj:∀ (x y:List Char),x.map Char.toNat=y.map Char.toNat->x=y:=by
  intro x
  induction x with
  | nil=>intro y e; cases y with | nil=>rfl | cons _ _=>simp at e
  | cons c x ih =>
   intro y e
   cases y with
   | nil=>simp at e
   | cons d y =>
    simp only [List.map_cons,List.cons.injEq] at e
    have:c=d:=Char.ext (UInt32.toNat_inj.mp e.1)
    rw [this,ih y e.2]
 exact String.ext (inj _ _ h1)
section
variable {K:PySem.W.Frag} {H:Hp} {θ:List Addr} {μ:Mem} {f:String} {d:D} {v:V}
theorem qw:∀ {fs:List (String×D)} {fs':List (Str×V)},fs'.map (·.1)=fs.map (fun p=>Str.ofString p.1)->eF K H θ μ (fs.map (·.2)) (fs'.map (·.2))->aR f fs=some d->∃ v,fs'.lookup (Str.ofString f)=some v/\Rp K H θ μ d v
 | [],_,_,_,h=>by simp [aR] at h
 | (g,e) :: fs,[],h1,_,_=>by simp at h1
 | (g,e) :: fs,(g',w) :: fs',h1,h2,h=>by
  simp only [List.map_cons,List.cons.injEq] at h1
  obtain ⟨v0,r,e0,r1,r2⟩:=h2.cons_inv
  simp only [List.map_cons,List.cons.injEq] at e0
  obtain ⟨rfl,rfl⟩:=e0
  unfold aR at h
  by_cases q:g=f
  ·rw [if_pos q] at h
   cases h
   refine ⟨w,?_,r1⟩
   rw [h1.1,q]; simp [List.lookup]
  ·rw [if_neg q] at h
   obtain ⟨v',k1,k2⟩:=qw h1.2 r2 h
   refine ⟨v',?_,k2⟩
   have:(Str.ofString f == g')=false:=by
    rw [h1.1]
    exact beq_eq_false_iff_ne.mpr fun z=>q (jF z.symm)
   simp only [List.lookup,this]; exact k1
theorem qx:∀ {fs:List (String×D)} {fs':List (Str×V)},fs'.map (·.1)=fs.map (fun p=>Str.ofString p.1)->aR f fs=none->fs'.lookup (Str.ofString f)=none
 | [],[],_,_=>rfl
 | [],_ :: _,h1,_=>by simp at h1
 | (g,e) :: fs,[],h1,_=>by simp at h1
 | (g,e) :: fs,(g',w) :: fs',h1,h=>by
  simp only [List.map_cons,List.cons.injEq] at h1
  unfold aR at h
  by_cases q:g=f
  ·rw [if_pos q] at h; cases h
  ·rw [if_neg q] at h
   have:(Str.ofString f == g')=false:=by
    rw [h1.1]
    exact beq_eq_false_iff_ne.mpr fun z=>q (jF z.symm)
   simp only [List.lookup,this]
   exact qx h1.2 h
theorem Eo (rv:Rp K H θ μ d v):∀ {fs:List (String×D)} {fs':List (Str×V)},fs'.map (·.1)=fs.map (fun p=>Str.ofString p.1)->eF K H θ μ (fs.map (·.2)) (fs'.map (·.2)) ->
  (jc (Str.ofString f) v fs').map (·.1)=(putD f d fs).map (fun p=>Str.ofString p.1)/\eF K H θ μ ((putD f d fs).map (·.2)) ((jc (Str.ofString f) v fs').map (·.2))
 | [],[],_,_=>⟨rfl,aG.one rv⟩
 | [],_ :: _,h1,_=>by simp at h1
 | (g,e) :: fs,[],h1,_=>by simp at h1
 | (g,e) :: fs,(g',w) :: fs',h1,h2=>by
  simp only [List.map_cons,List.cons.injEq] at h1
  obtain ⟨v0,r,e0,r1,r2⟩:=h2.cons_inv
  simp only [List.map_cons,List.cons.injEq] at e0
  obtain ⟨rfl,rfl⟩:=e0
  by_cases q:g=f
  ·have q':g'=Str.ofString f:=by rw [h1.1,q]
   unfold jc putD
   rw [if_pos q,if_pos q']
   exact ⟨by simp [h1.1,h1.2],aG.cons rv r2⟩
  ·have q':¬ g'=Str.ofString f:=by rw [h1.1]; exact fun z=>q (jF z)
   obtain ⟨k1,k2⟩:=Eo rv h1.2 r2
   unfold jc putD
   rw [if_neg q,if_neg q']
   exact ⟨by simp [h1.1,k1],aG.cons r1 k2⟩
theorem mH {c:String} {x:V} {n:Nat} {fs:List (String×D)} (wk:bY K H θ μ) (rd:Rp K H θ μ d x) (h:lJ μ c d=some (n,fs)) :
  ∃ a C dx fs',d = .loc n/\x = .ref a/\θ[n]? = some a/\μ[n]? = some (.ins c fs)/\PySem.W.nsIn K mainGlobals (Str.ofString c)=some (some (.ref C))/\H a=some (.ins C dx fs')/\fs'.map (·.1)=fs.map (fun p=>Str.ofString p.1)/\eF K H θ μ (fs.map (·.2)) (fs'.map (·.2)):=by
 cases d with
 | loc k =>
  obtain ⟨a,rfl,ha⟩:=bT rd
  simp only [lJ] at h
  split at h
  ·rename_i c' fs0 hn
   split at h
   ·rename_i e
    subst e
    cases h
    obtain ⟨C,dx,fs',h0,h1,h2,h3⟩:=wk.cell _ _ a hn ha
    exact ⟨a,C,dx,fs',rfl,rfl,ha,hn,h0,h1,h2,h3⟩
   ·cases h
  ·cases h
 | _=>simp [lJ] at h
end
section
variable {X:Cx}
theorem pU {o:Expr} {m:Str} {env:Env} (h:j6 o=true):attributeBase o m env (eval o env)=eval o env:=by
 cases o with
 | Call f as ks p=>rcases wj h with ⟨x,q,a,r,rfl,rfl⟩ | ⟨o,m',q,rfl⟩ <;> rfl
 | _=>first | rfl | exact (Bool.false_ne_true h).elim
theorem xW {o:Expr} {m:Str} {apos pos:Pos} {args:List Expr} {env:Env} (hbase:attributeBase o m env (eval o env)=eval o env) (hform:methodCallForm (args.length + ([]:List Keyword).length) (backTo pos (starEach args env)) (backToKw pos (keywordEach [] env))=true) (hline:(apos.endLine == pos.line)=true) :
  eval (.Call (.Attribute o m apos) args [] pos) env=(do
   let ov <- eval o env
   standAt apos.atName
   let (f,first) <- holding [ov] (getMethod ov m (do return (<- importBound o env).getD true))
   callWith pos f first (backTo pos (starEach args env)) (backToKw pos (keywordEach [] env))):=by
 have hpos:methodCallPos true o env apos pos=pure pos:=by unfold methodCallPos; simp [hline]
 rw [arm_eval_Call,hbase]
 unfold methodCall
 rw [hform]
 simp only [calleeOf,if_true,hpos,pure_bind]
theorem Rn {c f:String} {o:Expr} {wo:WE} {pos:Pos} (R:d9 X (.fld c f) K7) (he:PE X o (LE X.K wo)) (hb:j6 o=true):PE X (.Attribute o (Str.ofString f) pos) (LE X.K fun ρ μ Q=>wo ρ μ fun x μ1=>jB c f x μ1 Q):=by
 obtain ⟨C,hc,hC,hN⟩:=R
 refine PE.wk (VR he (pU hb)) fun σ H Q h=>?_
 obtain ⟨ρ,θ,μ,Qd,s,h,fi⟩:=h
 refine ⟨ρ,θ,μ,_,s,h,fun x v H1 θ1 μ1 w1 g1 r1 h1=>?_⟩
 unfold jB at h1
 split at h1
 ·rename_i n fs e
  split at h1
  ·rename_i d ed
   obtain ⟨a,C',dx,fs',rfl,rfl,ha,hn,h0,h2,h3,h4⟩:=mH w1 r1 e
   rw [hc] at h0; cases h0
   obtain ⟨v',k1,k2⟩:=qw h3 h4 ed
   exact ⟨a,C,dx,fs',v',rfl,h2,hC,hN,k1,(fi.mono g1).at w1 k2 h1⟩
  ·exact h1.elim
 ·exact h1.elim
theorem Gz {H:Hp} {θ:List Addr} {μ:Mem} {c:String} {n:Nat} {a C dx:Addr} {fs fs1:List (String×D)} {fs':List (Str×V)} (wk:bY X.K H θ μ) (ha:θ[n]? = some a) (hn:μ[n]? = some (.ins c fs))
  (h0:PySem.W.nsIn X.K mainGlobals (Str.ofString c)=some (some (.ref C))) (h3:fs'.map (·.1)=fs1.map (fun p=>Str.ofString p.1)) (h4:eF X.K H θ μ (fs1.map (·.2)) (fs'.map (·.2))) :
  bY X.K (upd H a (.ins C dx fs')) θ (μ.set n (.ins c fs1))/\aD H θ μ (upd H a (.ins C dx fs')) θ (μ.set n (.ins c fs1)):=by
 have g:aD H θ μ (upd H a (.ins C dx fs')) θ (μ.set n (.ins c fs1)):=aD.write hn ha (by simp) (by simp)
 exact ⟨wk.write (c':=.ins c fs1) hn ha (by simp) (by simp) (show iy X.K _ _ _ a (.ins c fs1) from ⟨C,dx,fs',h0,aN,h3,g.reps h4⟩),g⟩
theorem Q0 {EX:L2.St->XK} {c f:String} {o e:Expr} {wo we:WE} {pos pos':Pos} (R:d9 X (.fld c f) K7) (ho:PE X o (LE X.K wo)) (he:PE X e (LE X.K we)) (hs:swapsWith e (some (.Attribute o (Str.ofString f) pos')) pos.line X.env=pure false) :
  PS X (.Assign [.Attribute o (Str.ofString f) pos'] e pos) (LS X.K EX fun Z ρ μ=>we ρ μ fun v μ1=>wo ρ μ1 fun x μ2=>oG c f x v μ2 fun μ3=>Z.nx ρ μ3):=by
 obtain ⟨C,hc,hC,hN⟩:=R
 refine PS.wk (Vy ho he hs) fun D σ H h=>?_
 obtain ⟨ρ,θ,μ,Z,s,h,fi⟩:=h
 refine ⟨ρ,θ,μ,_,s,h,fun d v H1 θ1 μ1 w1 g1 r1 h1=>⟨ρ,θ1,μ1,_,s.grow w1 g1,h1,fun x vx H2 θ2 μ2 w2 g2 r2 h2=>?_⟩⟩
 unfold oG at h2
 split at h2
 ·rename_i n fs e'
  obtain ⟨a,C',dx,fs',rfl,rfl,ha,hn,h0,h3,h4,h5⟩:=mH w2 r2 e'
  rw [hc] at h0; cases h0
  obtain ⟨p1,p2⟩:=Eo (f:=f) (g2.rep r1) h4 h5
  obtain ⟨w3,g3⟩:=Gz (C:=C) (dx:=dx) w2 ha hn hc p1 p2
  have hl:fs'.length=fs.length:=by have:=congrArg List.length h4; simpa using this
  exact ⟨a,C,dx,fs',rfl,h3,hC,hN,by rw [hl]; exact h2.1,fi.nx σ _ ρ θ2 _ (s.grow w3 ((g1.trans g2).trans g3)) ((g1.trans g2).trans g3) h2.2⟩
 ·exact h2.elim
theorem LQ {c m:String} {sp:cU} {o:Expr} {wo:WE} {ws:WA} {pos apos:Pos} {e:Expr} {es:List Expr} (R:d9 X (.lD c m) sp) (ho:PE X o (LE X.K wo)) (hb:j6 o=true) (ha:PA X (e :: es) (LA X.K ws))
  (hs:starEach (e :: es) X.env=(false,eval e X.env) :: starEach es X.env) (hpl:(backTo pos (starEach es X.env)).any (·.1)=false)
  (hform:methodCallForm ((e :: es).length + ([]:List Keyword).length) (backTo pos (starEach (e :: es) X.env)) (backToKw pos (keywordEach [] X.env))=true) (hline:(apos.endLine == pos.line)=true) :
  PE X (.Call (.Attribute o (Str.ofString m) apos) (e :: es) [] pos) (LE X.K fun ρ μ Q=>wo ρ μ fun x μ1=>dY μ1 c m x/\ws ρ μ1 fun ds μ2=>sp (x :: ds) μ2 Q):=by
 obtain ⟨C,fa,fd,ps,k,hc,hC,hM,hbd,F,hr⟩:=R
 have base:PE X (.Call (.Attribute o (Str.ofString m) apos) (e :: es) [] pos) (Gv C (Str.ofString m) (low X.K sp) [] E0 (LE X.K wo) (LA X.K ws)):=by
  exact Rj ho hC hM F hr hbd .nil xP ha hs hpl (xW (pU hb) hform hline)
 refine PE.wk base fun σ H Q h=>?_
 obtain ⟨ρ,θ,μ,Qd,s,h,fi⟩:=h
 refine ⟨ρ,θ,μ,_,s,h,fun x v H1 θ1 μ1 w1 g1 r1 h1=>?_⟩
 obtain ⟨hi,h1⟩:=h1
 unfold dY at hi
 split at hi
 ·rename_i n fs e'
  obtain ⟨a,C',dx,fs',rfl,rfl,hθ,hn,h0,h3,h4,h5⟩:=mH w1 r1 e'
  rw [hc] at h0; cases h0
  refine ⟨a,dx,fs',rfl,h3,qx h4 hi,ρ,θ1,μ1,_,s.grow w1 g1,h1,fun ds vs H2 θ2 μ2 w2 g2 r2 h2=>?_⟩
  dsimp only
  rw [List.append_nil]
  exact ⟨.loc n :: ds,θ2,μ2,Qd,w2,aG.cons (g2.rep r1) r2,h2,fi.mono (g1.trans g2)⟩
 ·exact hi.elim
theorem Iz {c m:String} {sp:cU} {o:Expr} {wo:WE} {pos apos:Pos} (R:d9 X (.lD c m) sp) (ho:PE X o (LE X.K wo)) (hb:j6 o=true) (hline:(apos.endLine == pos.line)=true) :
  PE X (.Call (.Attribute o (Str.ofString m) apos) [] [] pos) (LE X.K fun ρ μ Q=>wo ρ μ fun x μ1=>dY μ1 c m x/\sp [x] μ1 Q):=by
 obtain ⟨C,fa,fd,ps,k,hc,hC,hM,hbd,F,hr⟩:=R
 have base:PE X (.Call (.Attribute o (Str.ofString m) apos) [] [] pos) (Gv C (Str.ofString m) (low X.K sp) [] E0 (LE X.K wo) Bh):=by
  exact LR ho hC hM F hr hbd .nil xP (xW (pU hb) rfl hline)
 refine PE.wk base fun σ H Q h=>?_
 obtain ⟨ρ,θ,μ,Qd,s,h,fi⟩:=h
 refine ⟨ρ,θ,μ,_,s,h,fun x v H1 θ1 μ1 w1 g1 r1 h1=>?_⟩
 obtain ⟨hi,h1⟩:=h1
 unfold dY at hi
 split at hi
 ·rename_i n fs e'
  obtain ⟨a,C',dx,fs',rfl,rfl,hθ,hn,h0,h3,h4,h5⟩:=mH w1 r1 e'
  rw [hc] at h0; cases h0
  exact ⟨a,dx,fs',rfl,h3,qx h4 hi,[.loc n],θ1,μ1,Qd,w1,aG.one r1,h1,fi.mono g1⟩
 ·exact hi.elim
theorem Cm {c:String} {sp:cU} {C:Addr} {H:Hp} {θ:List Addr} {μ:Mem} {ds:List D} {vs:List V} {Qd:QD} {Q:VK} (hc:PySem.W.nsIn X.K mainGlobals (Str.ofString c)=some (some (.ref C))) (w:bY X.K H θ μ) (r:eF X.K H θ μ ds vs)
  (h:sp (.loc μ.length :: ds) (μ ++ [.ins c []]) fun v μ2=>v = .non/\Qd (.loc μ.length) μ2) (fi:Fin X.K H θ μ Qd Q) (x dx:Addr) (hx:H x=none) (hdx:H dx=none) (hne:dx≠x) :
  low X.K sp (.ref x :: vs) (upd (upd H dx (.own x)) x (.ins C dx [])) (fun v H2=>v = .non/\Q (.ref x) H2) E0:=by
 have e1:=dI (o:=HO.own x) hdx
 have w1:bY X.K (upd H dx (.own x)) θ μ:=w.ext e1
 have g1:aD H θ μ (upd H dx (.own x)) θ μ:=aD.ext e1
 have hx1:(upd H dx (.own x)) x=none:=by rw [aL (Ne.symm hne)]; exact hx
 have g2:aD (upd H dx (.own x)) θ μ (upd (upd H dx (.own x)) x (.ins C dx [])) (θ ++ [x]) (μ ++ [.ins c []]):=aD.new w1 hx1
 have w2:bY X.K (upd (upd H dx (.own x)) x (.ins C dx [])) (θ ++ [x]) (μ ++ [.ins c []]):=w1.new (c:=.ins c []) hx1 (show iy X.K _ _ _ x (.ins c []) from ⟨C,dx,[],hc,aN,rfl,aG.nil⟩)
 have rl:Rp X.K (upd (upd H dx (.own x)) x (.ins C dx [])) (θ ++ [x]) (μ ++ [.ins c []]) (.loc μ.length) (.ref x):=by
  unfold Rep
  exact ⟨x,rfl,by rw [<- w.len]; simp⟩
 refine ⟨.loc μ.length :: ds,_,_,_,w2,aG.cons rl ((g1.trans g2).reps r),h,fun d v H' θ' μ' w' g' r' q=>?_⟩
 obtain ⟨rfl,q⟩:=q
 exact ⟨jK r',fi (.loc μ.length) (.ref x) H' θ' μ' w' ((g1.trans g2).trans g') (g'.rep rl) q⟩
theorem VL {c:String} {sp:cU} {ws:WA} {p pos:Pos} {e:Expr} {es:List Expr} (R:d9 X (.mk c) sp) (hg:Gl X (Str.ofString c)) (ha:PA X (e :: es) (LA X.K ws)) (hdb:(Str.ofString c == ("__debug__" : Str))=false)
  (hs:starEach (e :: es) X.env=(false,eval e X.env) :: starEach es X.env) (hpl:(backTo pos (starEach es X.env)).any (·.1)=false) :
  PE X (.Call (.Name (Str.ofString c) p) (e :: es) [] pos) (LE X.K fun ρ μ Q=>ws ρ μ fun ds μ1=>sp (.loc μ1.length :: ds) (μ1 ++ [.ins c []]) fun v μ2=>v = .non/\Q (.loc μ1.length) μ2):=by
 obtain ⟨C,fa,fd,ps,k,hc,hm,hM,hbd,F,hr⟩:=R
 refine PE.wk (Rk hM F hr hg hm hbd .nil xP ha hdb hs hpl) fun σ H Q h=>?_
 obtain ⟨ρ,θ,μ,Qd,s,h,fi⟩:=h
 refine ⟨ρ,θ,μ,_,s,h,fun ds vs H1 θ1 μ1 w1 g1 r1 h1=>fun x dx hx hdx hne=>?_⟩
 rw [List.append_nil]
 exact Cm hc w1 r1 h1 (fi.mono g1) x dx hx hdx hne
theorem Ri {c:String} {sp:cU} {p pos:Pos} (R:d9 X (.mk c) sp) (hg:Gl X (Str.ofString c)) (hdb:(Str.ofString c == ("__debug__" : Str))=false) :
  PE X (.Call (.Name (Str.ofString c) p) [] [] pos) (LE X.K fun ρ μ Q=>sp [.loc μ.length] (μ ++ [.ins c []]) fun v μ2=>v = .non/\Q (.loc μ.length) μ2):=by
 obtain ⟨C,fa,fd,ps,k,hc,hm,hM,hbd,F,hr⟩:=R
 refine PE.wk (Ma hM F hr hg hm hbd .nil xP hdb) fun σ H Q h=>?_
 obtain ⟨ρ,θ,μ,Qd,s,h,fi⟩:=h
 exact fun x dx hx hdx hne=>Cm hc s.yH aG.nil h fi x dx hx hdx hne
theorem Lr {EX:L2.St->XK} {c f:String} {op:Operator} {o e:Expr} {wo we:WE} {pos tpos:Pos} (hop:op = .Add∨op = .Sub) (R:d9 X (.fld c f) K7) (ho:PE X o (LE X.K wo)) (he:PE X e (LE X.K we)) :
  PS X (.AugAssign (.Attribute o (Str.ofString f) tpos) op e pos) (LS X.K EX fun Z ρ μ=>wo ρ μ fun x μ1=>jB c f x μ1 fun p J6=>we ρ J6 fun q μ2=>gO op p q fun v=>oG c f x v μ2 fun μ3=>Z.nx ρ μ3):=by
 obtain ⟨C,hc,hC,hN⟩:=R
 have key:∀ (rd:V->V->Hp->VK->Prop),TV X op rd->(∀ (p q:D) (k:D->Prop) (vp vq:V) (H:Hp) (θ:List Addr) (μ:Mem) (Q:VK),Rp X.K H θ μ p vp->Rp X.K H θ μ q vq->gO op p q k->(∀ i:Int,k (.int i)->Q (.int i) H)->rd vp vq H Q) ->
   PS X (.AugAssign (.Attribute o (Str.ofString f) tpos) op e pos) (LS X.K EX fun Z ρ μ=>wo ρ μ fun x μ1=>jB c f x μ1 fun p J6=>we ρ J6 fun q μ2=>gO op p q fun v=>oG c f x v μ2 fun μ3=>Z.nx ρ μ3):=by
  intro rd hrd low
  refine PS.wk (Ip ho he hrd) fun D σ H h=>?_
  obtain ⟨ρ,θ,μ,Z,s,h,fi⟩:=h
  refine ⟨ρ,θ,μ,_,s,h,fun x vx H1 θ1 μ1 w1 g1 r1 h1=>?_⟩
  unfold jB at h1
  split at h1
  ·rename_i n fs e'
   split at h1
   ·rename_i d ed
    obtain ⟨a,C',dx,fs',rfl,rfl,ha,hn,h0,h2,h3,h4⟩:=mH w1 r1 e'
    rw [hc] at h0; cases h0
    obtain ⟨v',k1,k2⟩:=qw h3 h4 ed
    refine ⟨a,C,dx,fs',v',rfl,h2,hC,hN,k1,ρ,θ1,μ1,_,s.grow w1 g1,h1,fun q vq H2 θ2 μ2 w2 g2 r2 h5=>?_⟩
    refine low d q _ v' vq H2 θ2 μ2 _ (g2.rep k2) r2 h5 fun i hi=>?_
    unfold oG at hi
    split at hi
    ·rename_i n2 fs2 e2
     obtain ⟨a2,C2,dx2,Zt,e3,e4,ha2,hn2,h02,h22,h32,h42⟩:=mH w2 (g2.rep r1) e2
     cases e4
     rw [hc] at h02; cases h02
     obtain ⟨p1,p2⟩:=Eo (f:=f) (bL (K:=X.K) (H:=H2) (θ:=θ2) (μ:=μ2) (i:=i)) h32 h42
     obtain ⟨w3,g3⟩:=Gz (C:=C) (dx:=dx2) w2 ha2 hn2 hc p1 p2
     have hl:Zt.length=fs2.length:=by have:=congrArg List.length h32; simpa using this
     exact ⟨dx2,Zt,h22,by rw [hl]; exact hi.1,fi.nx σ _ ρ θ2 _ (s.grow w3 ((g1.trans g2).trans g3)) ((g1.trans g2).trans g3) hi.2⟩
    ·exact hi.elim
   ·exact h1.elim
  ·exact h1.elim
 rcases hop with rfl | rfl
 ·refine key YF WY fun p q k vp vq H θ μ Q r1 r2 h hk=>?_
  cases p <;> cases q <;> first | exact h.elim | skip
  rename_i i j
  cases aC r1; cases aC r2
  exact ⟨i,j,rfl,rfl,hk _ h⟩
 ·refine key YB WX fun p q k vp vq H θ μ Q r1 r2 h hk=>?_
  cases p <;> cases q <;> first | exact h.elim | skip
  rename_i i j
  cases aC r1; cases aC r2
  exact ⟨i,j,rfl,rfl,hk _ h⟩
end
end DW
end
section
set_option maxHeartbeats 2000000
namespace DW
open PySem PySem.Spec PyProof.Rows L2
section
variable {X:Cx}
end
section
variable {X:Cx} {EX:L2.St->XK}
end
end DW
end
section
set_option maxHeartbeats 2000000
namespace DW
open PySem PySem.Spec PyProof.Rows L2
section
variable {X:Cx} {EX:L2.St->XK}
end
end DW
end
section
set_option maxHeartbeats 2000000
namespace DW
open PySem PySem.Spec PyProof.Rows L2
variable {X:Cx}
end DW
end
section
set_option maxHeartbeats 2000000
namespace DW
open PySem PySem.Spec PyProof.Rows L2
section
variable {prog:Program} {w:World} {A:Around} {E:Value->Shared->Prop} {s:Shared}
end
section
variable {X:Cx}
end
end DW
end
section
set_option maxHeartbeats 4000000
namespace DW
open PySem PySem.Spec PyProof.Rows L2
section
variable {X:Cx}
theorem Js {K:PySem.W.Frag} {H:Hp} {θ:List Addr} {μ:Mem} {d:D} {v:V} (wk:bY K H θ μ) (r:Rp K H θ μ d v) (h:isCell μ d=true):tyV K "list" v H:=by
 cases d with
 | loc n =>
  obtain ⟨a,rfl,ha⟩:=bT r
  simp only [isCell] at h
  split at h
  ·rename_i ds hn
   obtain ⟨xs,hx,_⟩:=wk.list hn ha
   exact .inl ⟨rfl,xs,.of hx⟩
  ·cases h
 | _=>cases h
theorem Hf {m:String} {wo:WE} {ws:WA} {σ:L2.St} {H:Hp} {Q:VK} (h:LE X.K (fun ρ μ Q=>wo ρ μ fun x μ1=>isCell μ1 x=true/\ws ρ μ1 fun ds μ2=>fP m x ds μ2 Q) σ H Q):tBM X.K "list" (Wi X.K (fP m)) (LE X.K wo) (LA X.K ws) σ H Q:=by
 obtain ⟨ρ,θ,μ,Qd,s,h,f⟩:=h
 refine ⟨ρ,θ,μ,_,s,h,fun x v H1 θ1 μ1 w1 g1 r1 h1=>⟨Js w1 r1 h1.1,ρ,θ1,μ1,_,s.grow w1 g1,h1.2,fun ds vs H2 θ2 μ2 w2 g2 r2 h2=>?_⟩⟩
 exact ⟨x,ds,θ2,μ2,Qd,w2,g2.rep r1,r2,h2,f.mono (g1.trans g2)⟩
theorem Aa {o:Expr} {m:Str} {env:Env} (h:j6 o=true) (hm:m=Str.ofString "append"∨m=Str.ofString "insert"):attributeBase o m env (eval o env)=eval o env:=by
 cases o with
 | Call f as ks p=>rcases wj h with ⟨x,q,a,r,rfl,rfl⟩ | ⟨o,m',q,rfl⟩ <;> rfl
 | _=>first | rfl | exact (Bool.false_ne_true h).elim
theorem FJ {c:Ctx} {cpos:Pos} {as:Es} {e:Expr} {es:List Expr} (h:jo c as (e :: es)=true) (h30:(e :: es).length < 30):((backTo cpos (starEach (e :: es) X.env)).all (fun x=>!x.1) && (backToKw cpos (keywordEach [] X.env)).all (fun x=>x.1.isSome)
   && decide ((e :: es).length + ([]:List Keyword).length + (if ([]:List Keyword).isEmpty then 0 else 1) < 30))=true:=by
 have h1:(backTo cpos (starEach (e :: es) X.env)).all (fun x=>!x.1)=true:=by
  have:=fZ (pos:=cpos) (env:=X.env) h
  rw [List.all_eq_not_any_not]
  simpa using this
 have h2:(backToKw cpos (keywordEach [] X.env)).all (fun x=>x.1.isSome)=true:=rfl
 rw [h1,h2]
 simpa using h30
noncomputable def isTup:Expr->Bool
 | .Tuple ..=>true
 | _=>false
theorem tO {c:Ctx} {is:List Nat} {tt:Bool} {t:Expr} {it:It} (h:Wf c is tt t=true) (hz:jR tt it=true):jR (isTup t) it=true:=by
 cases it with
 | zip l r =>
  simp only [jR] at hz ⊢
  subst hz
  cases t <;> first | rfl | exact (Bool.false_ne_true h).elim
 | enum l _ =>
  simp only [jR] at hz ⊢
  subst hz
  cases t <;> first | rfl | exact (Bool.false_ne_true h).elim
 | _=>rfl
theorem Nj {c:Ctx} {it:It} {a:Expr} (h:mI c it a=true):eG a=true:=by
 cases it with
 | seq e=>simp only [mI,Bool.and_eq_true] at h; exact h.2
 | enum l b =>
  cases b with
  | false =>
   obtain ⟨t,e,_⟩:=au h
   obtain ⟨p,q,rfl⟩:=cJ e
   rfl
  | true=>exact (Bool.false_ne_true h).elim
 | _ =>
  obtain ⟨t,e,_⟩:=au h
  obtain ⟨p,q,rfl⟩:=cJ e
  rfl
theorem lt_chain {p q:CmpOp} {wa wb wc:WE} {σ:L2.St} {H:Hp} {Q:Bool->Hp->Prop}
  (h:LT X.K (fun ρ μ Q=>wa ρ μ fun x μ1=>wb ρ μ1 fun y μ2=>bK p x y μ2 fun r μ3=>fU r μ3 fun t μ3=>if t=true then wc ρ μ3 fun z μ4=>bK q y z μ4 fun r μ5=>fU r μ5 Q else Q false μ3) σ H Q) :
  Gu (yK (rN X.K (bK p)) (rN X.K (bK q)) (LE X.K wa) (LE X.K wb) (LE X.K wc)) σ H Q:=by
 obtain ⟨ρ,θ,μ,Qd,s,h,f⟩:=h
 refine Cu (Q:=fun x H'=>∃ k,x = .bl k/\Q k H') ⟨ρ,θ,μ,fun r μ'=>fU r μ' Qd,s,h,fun r v H1 θ1 μ1 w1 g1 r1 h1=>?_⟩
 cases r with
 | bl b=>exact ⟨b,dR r1,f b H1 θ1 μ1 w1 g1 h1⟩
 | _=>exact h1.elim
theorem pw_no {a:Expr} {t:TT} (h:∀ op vs pos,a≠.BoolOp op vs pos):∀ op vs pos,a = .BoolOp op vs pos->PW X a t:=fun op vs pos e=>absurd e (h op vs pos)
end
theorem d7 {c:Ctx} {as:Es} {e:Expr} {es:List Expr} (h:jo c as (e :: es)=true):notStar e=true/\∃ es',jo c es' es=true:=by
 cases as with
 | nil=>exact (Bool.false_ne_true h).elim
 | cons e' es' =>
  simp only [jo,Bool.and_eq_true] at h
  exact ⟨h.1.2,es',h.2⟩
theorem Rr {X:Cx} {k:Const} {j:Nat} {pos:Pos} {d:D} (h:mC k d=true):PE X (.Constant k j pos) (LE X.K (wE (.cst d))):=by
 cases k <;> cases d <;> simp only [mC,Bool.false_eq_true,Bool.and_eq_true,beq_iff_eq] at h
 ·exact PE.wk VJ fun σ H Q q=>pq (fun _ _ _=>yP) q
 ·subst h; exact PE.wk YK fun σ H Q q=>pq (fun _ _ _=>gR) q
 ·subst h; exact PE.wk VP fun σ H Q q=>pq (fun _ _ _=>bL) q
 ·rename_i x y
  obtain ⟨h1,h2⟩:=h
  have h1:=of_decide_eq_true h1
  have h2:=of_decide_eq_true h2
  subst h1
  have e:x=⟨x.cps.toList.toArray⟩:=by simp
  refine PE.wk VG fun σ H Q q=>pq (fun _ _ _=>?_) q
  rw [e]
  exact uI (by rw [sizeLine_eq]; exact h2)
theorem ZK {c:Ctx} {it:It} {tt:Bool} (h:(c.calm || (uJ it && !tt))=true):c.calm=true∨uJ it=true:=by
 rcases Bool.or_eq_true_iff.mp h with h | h
 ·exact .inl h
 ·exact .inr (Bool.and_eq_true_iff.mp h).1
theorem ZJ {c:Ctx} {it:It} {tt:Bool} (h:(c.calm || (uJ it && !tt))=true):tt=true->c.calm=true:=fun z=>by
 subst z
 simpa using h
mutual
theorem sE:∀ (e:E) {X:Cx} {c:Ctx} {a:Expr},CtxOk X c->mE c e a=true->aP (d9 X) (jQ X) e->Snd X e a
 | .var i,X,c,a,C,h,_=>by
  have h:(opt (tY a) fun x=>c.at_ i x && c.vis x && !iI x)=true:=h
  obtain ⟨x,e,hh⟩:=au h
  obtain ⟨pos,rfl⟩:=qg e
  have h:=hh
  simp only [Bool.and_eq_true,Bool.not_eq_true'] at h
  obtain ⟨⟨h1,h2⟩,h3⟩:=h
  obtain ⟨o1,o2⟩:=gZ h3
  have pe:PE X (.Name x pos) (LE X.K (wE (.var i))):=PE.wk (Rh (by rw [C.N]; exact tL h1) (C.vis x h2) o1 o2) fun σ H Q q=>q
  refine ⟨pe,PT.wk (iG pe fun _=>rfl) fun σ H Q q=>?_,pw_no (fun _ _ _ z=>by cases z)⟩
  obtain ⟨ρ,θ,μ,Qd,s,q,f⟩:=q
  refine ⟨ρ,θ,μ,Qd,s,?_,f⟩
  simp only [wT] at q
  simp only [wE]
  split at q
  ·exact q
  ·exact q.elim
 | .cst d,X,c,a,C,h,_=>by
  have h:(opt (DX a) fun k=>mC k d)=true:=h
  obtain ⟨k,e,hh⟩:=au h
  obtain ⟨j,pos,rfl⟩:=DR e
  have h:=hh
  have pe:=Rr (X:=X) (j:=j) (pos:=pos) h
  refine ⟨pe,PT.wk (iG pe fun _=>rfl) fun σ H Q q=>?_,pw_no (fun _ _ _ z=>by cases z)⟩
  obtain ⟨ρ,θ,μ,Qd,s,q,f⟩:=q
  exact ⟨ρ,θ,μ,Qd,s,q,f⟩
 | .bin op l r,X,c,a,C,h,ok=>by
  have h:(opt (Ks a) fun t=>op == t.2.1 && mE c l t.1 && mE c r t.2.2)=true:=h
  obtain ⟨⟨l',op',r'⟩,e,hh⟩:=au h
  obtain ⟨pos,rfl⟩:=Az e
  have h:=hh
  simp only [Bool.and_eq_true,beq_iff_eq] at h
  obtain ⟨⟨rfl,h1⟩,h2⟩:=h
  exact ⟨PE.wk (Uc (Xm op) (sE l C h1 ok.1).pe (sE r C h2 ok.2).pe) fun σ H Q q=>nU q,cF,pw_no (fun _ _ _ z=>by cases z)⟩
 | .neg l,X,c,a,C,h,ok=>by
  have h:(opt (U6 a) fun t=>mE c l t)=true:=h
  obtain ⟨l',e,hh⟩:=au h
  obtain ⟨pos,rfl⟩:=Km e
  have h:=hh
  have S1:=sE l C h ok
  refine ⟨PE.wk (YH U9 S1.pe) fun σ H Q q=>?_,cF,pw_no (fun _ _ _ z=>by cases z)⟩
  obtain ⟨ρ,θ,μ,Qd,s,q,f⟩:=q
  refine ⟨ρ,θ,μ,_,s,q,fun x v H1 θ1 μ1 w1 g1 r1 h1=>?_⟩
  cases x with
  | int i=>exact ⟨i,aC r1,(f.mono g1).at w1 bL h1⟩
  | _=>exact h1.elim
 | .not l,X,c,a,C,h,ok=>by
  have h:(opt (U5 a) fun t=>mE c l t)=true:=h
  obtain ⟨l',e,hh⟩:=au h
  obtain ⟨pos,rfl⟩:=Kl e
  have h:=hh
  have S1:=sE l C h ok
  refine ⟨PE.wk (VH S1.pe) fun σ H Q q=>?_,PT.wk (Vv S1.pt) fun σ H Q q=>?_,pw_no (fun _ _ _ z=>by cases z)⟩
  ·obtain ⟨ρ,θ,μ,Qd,s,q,f⟩:=q
   refine ⟨ρ,θ,μ,_,s,q,fun x v H1 θ1 μ1 w1 g1 r1 h1=>?_⟩
   cases x with
   | bl b=>exact ⟨b,dR r1,(f.mono g1).at w1 gR h1⟩
   | _=>exact h1.elim
  ·obtain ⟨ρ,θ,μ,Qd,s,q,f⟩:=q
   exact ⟨ρ,θ,μ,_,s,q,fun b H1 θ1 μ1 w1 g1 h1=>f (!b) H1 θ1 μ1 w1 g1 h1⟩
 | .cmp op l r,X,c,a,C,h,ok=>by
  have h:(opt (Kr a) fun t=>op == t.2.1 && mE c l t.1 && mE c r t.2.2 && eG t.2.2)=true:=h
  obtain ⟨⟨l',op',r'⟩,e,hh⟩:=au h
  obtain ⟨pos,rfl⟩:=Ay e
  have h:=hh
  simp only [Bool.and_eq_true,beq_iff_eq] at h
  obtain ⟨⟨⟨rfl,h1⟩,h2⟩,h3⟩:=h
  have S1:=sE l C h1 ok.1
  have S2:=sE r C h2 ok.2
  obtain ⟨k,hr⟩:=C.room
  exact ⟨PE.wk (GP (qW hr op) S1.pe S2.pe (uE h3)) fun σ H Q q=>nU q,PT.wk (GD (qW hr op) S1.pe S2.pe (uE h3)) fun σ H Q q=>Ul (w:=wE (.cmp op l r)) (fun _ _ _ z=>nU z) q,pw_no (fun _ _ _ z=>by cases z)⟩
 | .rR n l r,X,c,a,C,h,ok=>by
  have h:(opt (Kr a) fun t=>(t.2.1 == (if n then CmpOp.NotEq else CmpOp.Eq)) && mE c l t.1 && mE c r t.2.2 && eG t.2.2)=true:=h
  obtain ⟨⟨l',op',r'⟩,e,hh⟩:=au h
  obtain ⟨pos,rfl⟩:=Ay e
  have h:=hh
  simp only [Bool.and_eq_true,beq_iff_eq] at h
  obtain ⟨⟨⟨rfl,h1⟩,h2⟩,h3⟩:=h
  have S1:=sE l C h1 ok.1
  have S2:=sE r C h2 ok.2
  obtain ⟨k,hr⟩:=C.room
  exact ⟨PE.wk (GP (Ou hr n) S1.pe S2.pe (uE h3)) fun σ H Q q=>nU q,PT.wk (GD (Ou hr n) S1.pe S2.pe (uE h3)) fun σ H Q q=>Ul (w:=wE (.rR n l r)) (fun _ _ _ z=>nU z) q,pw_no (fun _ _ _ z=>by cases z)⟩
 | .chain p q l m r,X,c,a,C,h,ok=>by
  have h:(opt (Kq a) fun t=>p == t.2.1 && q == t.2.2.1 && mE c l t.1 && mE c m t.2.2.2.1 && mE c r t.2.2.2.2 && eG t.2.2.2.2 && eG t.2.2.2.1)=true:=h
  obtain ⟨⟨l',p',q',m',r'⟩,e,hh⟩:=au h
  obtain ⟨pos,rfl⟩:=HX e
  have h:=hh
  simp only [Bool.and_eq_true,beq_iff_eq] at h
  obtain ⟨⟨⟨⟨⟨⟨rfl,rfl⟩,h1⟩,h2⟩,h3⟩,h4⟩,h5⟩:=h
  have S1:=sE l C h1 ok.1
  have S2:=sE m C h2 ok.2.1
  have S3:=sE r C h3 ok.2.2
  obtain ⟨k,hr⟩:=C.room
  have hm:lastMarks [p,q] [m',r']=false:=by
   show behindInMarks q r'=false
   exact uE h4
  exact ⟨PE.wk (Mq (qW hr p) (qW hr q) S1.pe S2.pe S3.pe hm) fun σ H Q z=>Cu z,PT.wk (Li (qW hr p) (qW hr q) S1.pe S2.pe S3.pe hm) fun σ H Q z=>lt_chain z,pw_no (fun _ _ _ z=>by cases z)⟩
 | .and x y,X,c,a,C,h,ok=>by
  have h:(opt (U8 a) fun t=>mE c x t.1 && mE c y t.2)=true:=h
  obtain ⟨⟨v,y'⟩,e,h⟩:=au h
  simp only [Bool.and_eq_true] at h
  have S1:=sE x C h.1 ok.1
  have S2:=sE y C h.2 ok.2
  rcases Ku e with ⟨pos,rfl⟩ | ⟨w,z,rest,pos,rfl,rfl⟩
  ·have pw:PW X (.BoolOp .And [v,y'] pos) (LT X.K (wT (.and x y))):=PW.wk (pw_and S1.pt (pw_and1 S2.pt)) fun σ H Q q=>Nm q
   exact ⟨PE.wk (Mt S1.pe (LK S2.pe)) fun σ H Q q=>Ny q,pw.pt,fun _ _ _ _=>pw⟩
  ·have pw:PW X (.BoolOp .And (v :: w :: z :: rest) pos) (LT X.K (wT (.and x y))):=PW.wk (pw_and S1.pt (S2.pw _ _ _ rfl)) fun σ H Q q=>Nm q
   exact ⟨PE.wk (Mt S1.pe S2.pe) fun σ H Q q=>Ny q,pw.pt,fun _ _ _ _=>pw⟩
 | .or x y,X,c,a,C,h,ok=>by
  have h:(opt (vOr a) fun t=>mE c x t.1 && mE c y t.2)=true:=h
  obtain ⟨⟨v,y'⟩,e,h⟩:=au h
  simp only [Bool.and_eq_true] at h
  have S1:=sE x C h.1 ok.1
  have S2:=sE y C h.2 ok.2
  rcases Qo e with ⟨pos,rfl⟩ | ⟨w,z,rest,pos,rfl,rfl⟩
  ·have pw:PW X (.BoolOp .Or [v,y'] pos) (LT X.K (wT (.or x y))):=PW.wk (pw_or S1.pt (pw_or1 S2.pt)) fun σ H Q q=>Uj q
   exact ⟨PE.wk (Ub S1.pe (LK S2.pe)) fun σ H Q q=>Um q,pw.pt,fun _ _ _ _=>pw⟩
  ·have pw:PW X (.BoolOp .Or (v :: w :: z :: rest) pos) (LT X.K (wT (.or x y))):=PW.wk (pw_or S1.pt (S2.pw _ _ _ rfl)) fun σ H Q q=>Uj q
   exact ⟨PE.wk (Ub S1.pe S2.pe) fun σ H Q q=>Um q,pw.pt,fun _ _ _ _=>pw⟩
 | .Sh t x y,X,c,a,C,h,ok=>by
  have h:(opt (vIf a) fun q=>mE c t q.1 && mE c x q.2.1 && mE c y q.2.2)=true:=h
  obtain ⟨⟨t',x',y'⟩,e,hh⟩:=au h
  obtain ⟨pos,rfl⟩:=Qp e
  have h:=hh
  simp only [Bool.and_eq_true] at h
  exact ⟨PE.wk (Mh (sE t C h.1.1 ok.1).pt (sE x C h.1.2 ok.2.1).pe (sE y C h.2 ok.2.2).pe) fun σ H Q q=>Wm q,cF,pw_no (fun _ _ _ z=>by cases z)⟩
 | .call x sp as,X,c,a,C,h,ok=>by
  have h:(opt (fV a) fun t=>x == t.1 && c.wU x && !iI x && jo c as t.2)=true:=h
  obtain ⟨⟨y,args⟩,e,hh⟩:=au h
  obtain ⟨p,pos,rfl⟩:=cJ e
  have h:=hh
  simp only [Bool.and_eq_true,Bool.not_eq_true',beq_iff_eq] at h
  obtain ⟨⟨⟨rfl,h1⟩,h2⟩,h3⟩:=h
  have pe:PE X (.Call (.Name x p) args [] pos) (LE X.K (wE (.call x sp as))):=by
   cases args with
   | nil =>
    cases as with
    | nil=>exact PE.wk (IV ok.1 (C.wU x h1) (gZ h2).1) fun σ H Q q=>q
    | cons e es=>exact (Bool.false_ne_true h3).elim
   | cons e es =>
    obtain ⟨hst,es',hes⟩:=d7 h3
    exact PE.wk (Mr ok.1 (C.wU x h1) (Qh as C h3 ok.2) (gZ h2).1 (bJ hst) (fZ hes)) fun σ H Q q=>q
  exact ⟨pe,PT.wk (iG pe fun _=>rfl) fun σ H Q q=>q,pw_no (fun _ _ _ z=>by cases z)⟩
 | .blt x as,X,c,a,C,h,ok=>by
  have h:(opt (fV a) fun t=>c.calm && za.contains x && Pn x == t.1 && aZ c t.1 && jo c as t.2 && !t.2.isEmpty)=true:=h
  obtain ⟨⟨y,args⟩,e,hh⟩:=au h
  obtain ⟨p,pos,rfl⟩:=cJ e
  have h:=hh
  simp only [Bool.and_eq_true,Bool.not_eq_true',beq_iff_eq,aZ] at h
  obtain ⟨⟨⟨⟨⟨hc,h0⟩,h1⟩,h2,h3⟩,h4⟩,h5⟩:=h
  cases args with
  | nil=>simp at h5
  | cons a1 es =>
   obtain ⟨hst,es',hes⟩:=d7 h4
   have pe:PE X (.Call (.Name y p) (a1 :: es) [] pos) (LE X.K (wE (.blt x as))):=PE.wk (Rw (as:=[]) (by simpa using h0) h1.symm (C.calm hc) (C.room) (C.wU y h2) (C.blt y h3) (Qh as C h4 ok) (bJ hst) (fZ hes)) fun σ H Q q=>q
   exact ⟨pe,PT.wk (iG pe fun _=>rfl) fun σ H Q q=>q,pw_no (fun _ _ _ z=>by cases z)⟩
 | .isin l t,X,c,a,C,h,ok=>by
  have h:(opt (fV a) fun q=>opt (Kg q.2) fun w=>opt (tY w.2) fun z=>(q.1 == Str.ofString "isinstance") && aZ c q.1 && ["int","bool","str","tuple","list","dict"].contains t && (z == Str.ofString t) && aZ c z && mE c l w.1 && notStar w.1)=true:=h
  obtain ⟨⟨y,args⟩,e,hh⟩:=au h
  obtain ⟨p,pos,rfl⟩:=cJ e
  have h:=hh
  obtain ⟨⟨l',zz⟩,e2,hh⟩:=au h
  obtain rfl:=Av e2
  have h:=hh
  obtain ⟨z,e3,h⟩:=au h
  obtain ⟨p2,e4⟩:=qg e3
  simp only at e4
  subst e4
  simp only [Bool.and_eq_true,beq_iff_eq,aZ] at h
  obtain ⟨⟨⟨⟨⟨⟨h0,h1,h2⟩,h3⟩,h4⟩,h5,h6⟩,h7⟩,h8⟩:=h
  have pe:PE X (.Call (.Name y p) [l',.Name z p2] [] pos) (LE X.K (wE (.isin l t))):=PE.wk (Mf (sE l C h7 ok).pe h0 (by simpa using h3) h4 (C.wU y h1) (C.wU z h5) (C.blt y h2) (C.blt z h6) (bJ h8)) fun σ H Q q=>q
  refine ⟨pe,PT.wk (iG pe fun _=>rfl) fun σ H Q q=>?_,pw_no (fun _ _ _ z=>by cases z)⟩
  obtain ⟨ρ,θ,μ,Qd,s,q,f⟩:=q
  refine ⟨ρ,θ,μ,_,s,q,fun r H1 θ1 μ1 w1 g1 h1=>f r H1 θ1 μ1 w1 g1 h1⟩
 | .isin l t (some ks),X,c,a,C,h,ok=>(Bool.false_ne_true h).elim
 | .meth m o as,X,c,a,C,h,ok=>by
  have h:(opt (Ax a) fun t=>(if t.2.2.1.isEmpty then false else ["append","insert"].contains m) && t.2.1 == Str.ofString m && j6 t.1 && t.2.2.2 && mE c o t.1 && jo c as t.2.2.1 && decide (t.2.2.1.length < 30))=true:=h
  obtain ⟨⟨o',m',args,ln⟩,e,hh⟩:=au h
  obtain ⟨apos,pos,rfl,e2⟩:=xr e
  have h:=hh
  simp only [Bool.and_eq_true,beq_iff_eq] at h
  obtain ⟨⟨⟨⟨⟨⟨h0,h2⟩,h3⟩,h4⟩,h5⟩,h6⟩,h7⟩:=h
  have hline:(apos.endLine == pos.line)=true:=by rw [<- e2]; exact h4
  refine ⟨?_,cF,pw_no (fun _ _ _ z=>by cases z)⟩
  subst h2
  cases args with
  | nil =>
   have:as = .nil:=by
    cases as with
    | nil=>rfl
    | cons e es=>exact (Bool.false_ne_true h6).elim
   subst this
   simp at h0
  | cons e es =>
   obtain ⟨hst,es',hes⟩:=d7 h6
   have h0':m = "append"∨m = "insert":=by simpa using h0
   have h7':=of_decide_eq_true h7
   rcases h0' with rfl | rfl
   ·exact PE.wk (Ud PySem.F.plainAttrs_list PySem.F.slot_list_append PySem.F.type_list_append Cg (sE o C h5 ok.1).pe (Qh as C h6 ok.2) (pU h3) (FJ h6 h7') hline (bJ hst) (fZ hes)) fun σ H Q q=>Hf q
   ·exact PE.wk (Ud PySem.F.plainAttrs_list PySem.F.slot_list_insert PySem.F.type_list_insert Ce (sE o C h5 ok.1).pe (Qh as C h6 ok.2) (pU h3) (FJ h6 h7') hline (bJ hst) (fZ hes)) fun σ H Q q=>Hf q
 | .cat m l r,X,c,a,C,h,ok=>by
  have h:(opt (Ks a) fun t=>t.2.1 == .Add && mE c l t.1 && mE c r t.2.2)=true:=h
  obtain ⟨⟨l',op',r'⟩,e,hh⟩:=au h
  obtain ⟨pos,rfl⟩:=Az e
  have h:=hh
  simp only [Bool.and_eq_true,beq_iff_eq] at h
  obtain ⟨⟨rfl,h1⟩,h2⟩:=h
  exact ⟨PE.wk (Uc (Xj m) (sE l C h1 ok.1).pe (sE r C h2 ok.2).pe) fun σ H Q q=>nU q,cF,pw_no (fun _ _ _ z=>by cases z)⟩
 | .fld cn f o,X,c,a,C,h,ok=>by
  have h:(opt (tZ a) fun t=>t.2 == Str.ofString f && j6 t.1 && mE c o t.1)=true:=h
  obtain ⟨⟨o',f'⟩,e,hh⟩:=au h
  obtain ⟨pos,rfl⟩:=qj e
  have h:=hh
  simp only [Bool.and_eq_true,beq_iff_eq] at h
  obtain ⟨⟨rfl,h2⟩,h3⟩:=h
  have pe:=Rn (pos:=pos) ok.1 (sE o C h3 ok.2).pe h2
  exact ⟨PE.wk pe fun σ H Q q=>q,PT.wk (iG pe fun _=>rfl) fun σ H Q q=>q,pw_no (fun _ _ _ z=>by cases z)⟩
 | .lD cn m sp o as,X,c,a,C,h,ok=>by
  have h:(opt (Ax a) fun t=>t.2.1 == Str.ofString m && j6 t.1 && t.2.2.2 && mE c o t.1 && jo c as t.2.2.1 && decide (t.2.2.1.length < 30))=true:=h
  obtain ⟨⟨o',m',args,ln⟩,e,hh⟩:=au h
  obtain ⟨apos,pos,rfl,e2⟩:=xr e
  have h:=hh
  simp only [Bool.and_eq_true,beq_iff_eq] at h
  obtain ⟨⟨⟨⟨⟨rfl,h3⟩,h4⟩,h5⟩,h6⟩,h7⟩:=h
  have hline:(apos.endLine == pos.line)=true:=by rw [<- e2]; exact h4
  have pe:PE X (.Call (.Attribute o' (Str.ofString m) apos) args [] pos) (LE X.K (wE (.lD cn m sp o as))):=by
   cases args with
   | nil =>
    have:as = .nil:=by
     cases as with
     | nil=>rfl
     | cons e es=>exact (Bool.false_ne_true h6).elim
    subst this
    exact PE.wk (Iz ok.1 (sE o C h5 ok.2.1).pe h3 hline) fun σ H Q q=>q
   | cons e es =>
    obtain ⟨hst,es',hes⟩:=d7 h6
    exact PE.wk (LQ ok.1 (sE o C h5 ok.2.1).pe h3 (Qh as C h6 ok.2.2) (bJ hst) (fZ hes) (FJ h6 (of_decide_eq_true h7)) hline) fun σ H Q q=>q
  exact ⟨pe,PT.wk (iG pe fun _=>rfl) fun σ H Q q=>q,pw_no (fun _ _ _ z=>by cases z)⟩
 | .mk x sp as,X,c,a,C,h,ok=>by
  have h:(opt (fV a) fun t=>Str.ofString x == t.1 && c.wU t.1 && !iI t.1 && jo c as t.2)=true:=h
  obtain ⟨⟨y,args⟩,e,hh⟩:=au h
  obtain ⟨p,pos,rfl⟩:=cJ e
  have h:=hh
  simp only [Bool.and_eq_true,Bool.not_eq_true',beq_iff_eq] at h
  obtain ⟨⟨⟨rfl,h1⟩,h2⟩,h3⟩:=h
  refine ⟨?_,cF,pw_no (fun _ _ _ z=>by cases z)⟩
  cases args with
  | nil =>
   cases as with
   | nil=>exact PE.wk (Ri ok.1 (C.wU _ h1) (gZ h2).1) fun σ H Q q=>q
   | cons e es=>exact (Bool.false_ne_true h3).elim
  | cons e es =>
   obtain ⟨hst,es',hes⟩:=d7 h3
   exact PE.wk (VL ok.1 (C.wU _ h1) (Qh as C h3 ok.2) (gZ h2).1 (bJ hst) (fZ hes)) fun σ H Q q=>q
 | .idx x y,X,c,a,C,h,ok=>by
  have h:(opt (tX a) fun t=>mE c x t.1 && mE c y t.2 && bV t.2)=true:=h
  obtain ⟨⟨x',y'⟩,e,hh⟩:=au h
  obtain ⟨pos,rfl⟩:=kh e
  have h:=hh
  simp only [Bool.and_eq_true] at h
  have pe:PE X (.Subscript x' y' pos) (LE X.K (wE (.idx x y))):=PE.wk (YJ W2 (sE x C h.1.1 ok.1).pe (sE y C h.1.2 ok.2).pe (uM h.2)) fun σ H Q q=>nU q
  exact ⟨pe,PT.wk (iG pe fun _=>rfl) fun σ H Q q=>q,pw_no (fun _ _ _ z=>by cases z)⟩
 | .tup as,X,c,a,C,h,ok=>by
  have h:(opt (Kh a) fun es=>jo c as es && decide (es.length<=16777216))=true:=h
  obtain ⟨es,e,hh⟩:=au h
  obtain ⟨k,pos,rfl⟩:=Aw e
  have h:=hh
  simp only [Bool.and_eq_true] at h
  refine ⟨PE.wk (VF (Qh as C h.1 ok)) fun σ H Q q=>?_,cF,pw_no (fun _ _ _ z=>by cases z)⟩
  obtain ⟨ρ,θ,μ,Qd,s,q,f⟩:=q
  refine ⟨ρ,θ,μ,_,s,q,fun ds vs H1 θ1 μ1 w1 g1 r1 h1=>⟨?_,fun p hp=>yV w1 (f.mono g1) r1 h1.2 hp⟩⟩
  rw [<- r1.length,<- jH]; exact h1.1
 | .lst m as,X,c,a,C,h,ok=>by
  have h:(opt (U7 a) fun es=>jo c as es && decide (es.length<=16777216))=true:=h
  obtain ⟨es,e,hh⟩:=au h
  obtain ⟨pos,rfl⟩:=Ko e
  have h:=hh
  simp only [Bool.and_eq_true] at h
  refine ⟨PE.wk (VN (Qh as C h.1 ok)) fun σ H Q q=>?_,cF,pw_no (fun _ _ _ z=>by cases z)⟩
  obtain ⟨ρ,θ,μ,Qd,s,q,f⟩:=q
  refine ⟨ρ,θ,μ,_,s,q,fun ds vs H1 θ1 μ1 w1 g1 r1 h1=>⟨?_,fun p hp=>sW w1 (f.mono g1) r1 h1.2 hp⟩⟩
  rw [<- r1.length,<- jH]; exact h1.1
 | .comp m n tt cap elt it cond,X,c,a,C,h,ok=>by
  have h:(opt (Kp a) fun t=>(c.calm || (uJ it && !tt)) && opt (rZ tt t.2.1) fun xs=>opt (fY c cap) fun cs=>n == xs.length && vW c t.2.2.2.2 (xs ++ cs) cs && jR tt it && mI c it t.2.2.1 && Wf (c.Ql (xs ++ cs) t.2.2.2.2.names) (List.range n) tt t.2.1 && mE (c.Ql (xs ++ cs) t.2.2.2.2.names) elt t.1 && jo (c.Ql (xs ++ cs) t.2.2.2.2.names) cond t.2.2.2.1 && decide (t.2.2.2.1.length<=1))=true:=h
  obtain ⟨⟨zO,tg,iter,ifs,scope⟩,e,hh⟩:=au h
  obtain ⟨pos,rfl⟩:=xu e
  have h:=hh
  simp only [Bool.and_eq_true] at h
  obtain ⟨hcm,h⟩:=h
  obtain ⟨xs,hxs,h⟩:=au h
  obtain ⟨cs,hcs,h⟩:=au h
  simp only [Bool.and_eq_true,beq_iff_eq] at h
  obtain ⟨⟨⟨⟨⟨⟨⟨hn,h1⟩,hz⟩,h2⟩,hg⟩,h3⟩,h4⟩,h5⟩:=h
  have h5:=of_decide_eq_true h5
  subst hn
  exact ⟨PE.wk (Rt (vV C hcs h1) (sI it C h2 ok.2.1 (tO hg hz) (ZK hcm)) (fun cl Ca s H ex=>GJ (ju C h1 cl Ca s H ex) (ZJ hcm) hg) (fun cl Ca s H ex=>sTs cond (ju C h1 cl Ca s H ex) h4 h5 ok.2.2) (fun cl Ca s H ex=>(sE elt (ju C h1 cl Ca s H ex) h3 ok.1).pe) (qN (Nj h2))) fun σ H Q q=>Hg (tgn hxs) q,cF,pw_no (fun _ _ _ z=>by cases z)⟩
 | .iz x,X,c,a,C,h,ok=>by
  have S:=sE x C h ok
  exact ⟨PE.wk (Rm S.pe) fun σ H Q q=>q,cF,fun op vs pos e=>fun wh pins s σ H Q I q=>by obtain ⟨_,_,_,_,_,q,_⟩:=q; exact q.elim⟩
 | .iz x (some i),X,c,a,C,h,ok=>(Bool.false_ne_true h).elim
 | .OD t,X,c,a,C,h,ok=>by
  obtain ⟨p,rfl⟩:=DP h
  exact ⟨PE.wk (Ml (t:=t)) fun σ H Q q=>q,cF,pw_no (fun _ _ _ z=>by cases z)⟩
 | .JH x y,X,c,a,C,h,ok=>by
  have h:(opt (tX a) fun t=>c.calm && mE c x t.1 && mE c y t.2 && bV t.2)=true:=h
  obtain ⟨⟨x',y'⟩,e,hh⟩:=au h
  obtain ⟨pos,rfl⟩:=kh e
  have h:=hh
  simp only [Bool.and_eq_true] at h
  obtain ⟨⟨⟨hc,h1⟩,h2⟩,h3⟩:=h
  obtain ⟨k,hr⟩:=C.room
  exact ⟨PE.wk (Mp (by have:=hr.units; lia) (sE x C h1 ok.1).pe (sE y C h2 ok.2).pe (uM h3)) fun σ H Q q=>q,cF,pw_no (fun _ _ _ z=>by cases z)⟩
theorem Qh:∀ (es:Es) {X:Cx} {c:Ctx} {as:List Expr},CtxOk X c->jo c es as=true->fX (d9 X) (jQ X) es->PA X as (LA X.K (wEs es))
 | .nil,X,c,as,C,h,_=>by
  have:as=[]:=by simpa [jo] using h
  subst this
  exact PA.wk Rx fun σ H Q q=>q
 | .cons e es,X,c,as,C,h,ok=>by
  cases as with
  | nil=>simp [jo] at h
  | cons a as =>
   simp only [jo,Bool.and_eq_true] at h
   exact PA.wk (Mu (sE e C h.1.1 ok.1).pe (Qh es C h.2 ok.2) (bJ h.1.2)) fun σ H Q q=>q
theorem sTs:∀ (es:Es) {X:Cx} {c:Ctx} {as:List Expr},CtxOk X c->jo c es as=true->as.length<=1->fX (d9 X) (jQ X) es->Xz X as (LT X.K (wTs es))
 | .nil,X,c,as,C,h,_,_=>by
  have:as=[]:=by simpa [jo] using h
  subst this
  intro pins s σ H Q I q
  obtain ⟨ρ,θ,μ,Qd,sm,q,f⟩:=q
  exact Q8 pins s σ H Q I (f true H θ μ sm.yH aD.refl q)
 | .cons e es,X,c,as,C,h,hl,ok=>by
  cases as with
  | nil=>simp [jo] at h
  | cons a as =>
   simp only [jo,Bool.and_eq_true] at h
   have:as=[]:=by
    cases as with
    | nil=>rfl
    | cons _ _=>simp at hl
   subst this
   have:es = .nil:=by
    cases es with
    | nil=>rfl
    | cons _ _=>simp [jo] at h
   subst this
   have S:=sE e C h.1.1 ok.1
   intro pins s σ H Q I q
   refine Q7 S.pt pins s σ H Q I ?_
   obtain ⟨ρ,θ,μ,Qd,sm,q,f⟩:=q
   exact ⟨ρ,θ,μ,Qd,sm,q,f⟩
theorem sI:∀ (it:It) {X:Cx} {c:Ctx} {a tg:Expr},CtxOk X c->mI c it a=true->RD (d9 X) (jQ X) it->jR (isTup tg) it=true->(c.calm=true∨uJ it=true)->PI X tg a (LI X.K (wI it))
 | .seq e,X,c,a,tg,C,h,ok,_,hcm=>by
  simp only [mI,Bool.and_eq_true] at h
  exact fun pins s σ H R I q=>Ra (C.calm (hcm.resolve_right Bool.false_ne_true)) (sE e C h.1 ok).pe pins s σ H R I q
 | .rng as,X,c,a,tg,C,h,ok,_,hcm=>by
  have h:(opt (fV a) fun t=>(t.1 == Str.ofString "range") && aZ c t.1 && jo c as t.2 && (t.2.length == 1 || t.2.length == 2))=true:=h
  obtain ⟨⟨y,args⟩,e,hh⟩:=au h
  obtain ⟨p,pos,rfl⟩:=cJ e
  have h:=hh
  simp only [Bool.and_eq_true,Bool.or_eq_true,beq_iff_eq,aZ] at h
  obtain ⟨⟨⟨h0,h1,h2⟩,h3⟩,h4⟩:=h
  have hA:=Qh as C h3 ok
  have hl:=CV h3
  match args,h3,h4,hA,hl with
  | [a1],h3,_,hA,hl =>
   have k1:=(d7 h3).1
   exact fun pins s σ H R I q=>Lx h0 (C.wU y h1) (C.blt y h2) hA (by rw [bJ k1]; rfl) pins s σ H R I (by simp only [wI,hl] at q; exact q)
  | [a1,a2],h3,_,hA,hl =>
   obtain ⟨k1,es2,hes⟩:=d7 h3
   have k2:=(d7 hes).1
   exact fun pins s σ H R I q=>Lw h0 (C.wU y h1) (C.blt y h2) hA (by rw [bJ k1,bJ k2]; rfl) (by rw [bJ k2]; rfl) pins s σ H R I (by simp only [wI,hl] at q; exact q)
  | [],_,h4,_,_=>simp at h4
  | _ :: _ :: _ :: _,_,h4,_,_=>simp at h4
 | .zip l r,X,c,a,tg,C,h,ok,ht,hcm=>by
  have h:(opt (fV a) fun t=>opt (Kg t.2) fun w=>(t.1 == Str.ofString "zip") && aZ c t.1 && mE c l w.1 && mE c r w.2 && notStar w.1 && notStar w.2)=true:=h
  obtain ⟨⟨y,args⟩,e,hh⟩:=au h
  obtain ⟨p,pos,rfl⟩:=cJ e
  have h:=hh
  obtain ⟨⟨l',r'⟩,e2,hh⟩:=au h
  obtain rfl:=Av e2
  have h:=hh
  simp only [Bool.and_eq_true,beq_iff_eq,aZ] at h
  obtain ⟨⟨⟨⟨⟨h0,h1,h2⟩,h3⟩,h4⟩,h5⟩,h6⟩:=h
  simp only [jR] at ht
  cases tg with
  | Tuple es k tp=>exact fun pins s σ H R I q=>Q9 (C.calm (hcm.resolve_right Bool.false_ne_true)) h0 (C.wU _ h1) (C.blt _ h2) (sE l C h3 ok.1).pe (sE r C h4 ok.2).pe (by rw [bJ h5,bJ h6]; rfl) (by rw [bJ h6]; rfl) pins s σ H R I q
  | _=>exact (Bool.false_ne_true ht).elim
 | .enum l,X,c,a,tg,C,h,ok,ht,hcm=>by
  have h:(opt (fV a) fun t=>match t.2 with | [l']=>(t.1 == Str.ofString "enumerate") && aZ c t.1 && mE c l l' && notStar l' | _=>false)=true:=h
  obtain ⟨⟨y,args⟩,e,hh⟩:=au h
  obtain ⟨p,pos,rfl⟩:=cJ e
  have h:=hh
  match args,h with
  | [l'],h =>
   simp only [Bool.and_eq_true,beq_iff_eq,aZ] at h
   obtain ⟨⟨⟨h0,h1,h2⟩,h3⟩,h5⟩:=h
   simp only [jR] at ht
   cases tg with
   | Tuple es k tp=>exact fun pins s σ H R I q=>Ly (C.calm (hcm.resolve_right Bool.false_ne_true)) h0 (C.wU _ h1) (C.blt _ h2) (sE l C h3 ok).pe (by rw [bJ h5]; rfl) pins s σ H R I q
   | _=>exact (Bool.false_ne_true ht).elim
  | [],h=>exact (Bool.false_ne_true h).elim
  | _ :: _ :: _,h=>exact (Bool.false_ne_true h).elim
 | .enum o true,X,c,a,tg,C,h,ok,ht,hcm=>(Bool.false_ne_true h).elim
 | .X3 l,X,c,a,tg,C,h,ok,_,hcm=>by
  have h:(opt (fV a) fun t=>match t.2 with | [l']=>(t.1 == Str.ofString "reversed") && aZ c t.1 && mE c l l' && notStar l' | _=>false)=true:=h
  obtain ⟨⟨y,args⟩,e,hh⟩:=au h
  obtain ⟨p,pos,rfl⟩:=cJ e
  have h:=hh
  match args,h with
  | [l'],h =>
   simp only [Bool.and_eq_true,beq_iff_eq,aZ] at h
   obtain ⟨⟨⟨h0,h1,h2⟩,h3⟩,h5⟩:=h
   exact fun pins s σ H R I q=>Rb (C.calm (hcm.resolve_right Bool.false_ne_true)) h0 (C.wU _ h1) (C.blt _ h2) (sE l C h3 ok).pe (by rw [bJ h5]; rfl) pins s σ H R I q
  | [],h=>exact (Bool.false_ne_true h).elim
  | _ :: _ :: _,h=>exact (Bool.false_ne_true h).elim
end
end DW
end
section
set_option maxHeartbeats 4000000
namespace DW
open PySem PySem.Spec PyProof.Rows L2
theorem Bj {t e:Expr} {n:Nat} {env:Env} (h:c7 e=true):swapsWithSole [t] e n env=pure false:=sy h
theorem Gh {o i:Expr} {pos:Pos} {env:Env} (h:bV i=true):∀ v,assign (.Subscript o i pos) env v=(do
   let ov <- holding [v] (eval o env)
   let iv <- holding [v,ov] (eval i env)
   standAt pos
   holding [v,ov,iv] (setItem ov iv v)
   release [v,ov,iv] []):=by
 intro v
 cases i <;> first | rfl | exact (Bool.false_ne_true h).elim
section
variable {X:Cx} {EX:L2.St->XK}
theorem Fd {i:Nat} {we:WE} {D:Ends} {σ:L2.St} {H:Hp} (h:LS X.K EX (fun Z ρ μ=>we ρ μ fun d μ1=>Z.nx (ρ.set i (some d)) μ1) D σ H):Ih (LE X.K we) (CK i) D σ H:=by
 obtain ⟨ρ,θ,μ,Z,s,h,f⟩:=h
 exact ⟨ρ,θ,μ,_,s,h,fun d v H1 θ1 μ1 w1 g1 r1 h1=>f.nx _ H1 _ θ1 μ1 ((s.grow w1 g1).set r1 i) g1 h1⟩
theorem Wh {bnd:D->dM->(dM->Prop)->Prop} {we:WE} {D:Ends} {σ:L2.St} {H:Hp} (h:LS X.K EX (fun Z ρ μ=>we ρ μ fun d μ1=>bnd d ρ fun ρ'=>Z.nx ρ' μ1) D σ H):Ih (LE X.K we) (LG X.K bnd) D σ H:=by
 obtain ⟨ρ,θ,μ,Z,s,h,f⟩:=h
 exact ⟨ρ,θ,μ,_,s,h,fun d v H1 θ1 μ1 w1 g1 r1 h1=>⟨d,ρ,θ1,μ1,_,s.grow w1 g1,r1,h1,fun σ' ρ' s' q=>f.nx σ' H1 ρ' θ1 μ1 s' g1 q⟩⟩
theorem Np {wo wi we:WE} {D:Ends} {σ:L2.St} {H:Hp} (h:LS X.K EX (fun Z ρ μ=>we ρ μ fun v μ1=>wo ρ μ1 fun x μ2=>wi ρ μ2 fun y μ3=>fH x y v μ3 fun μ4=>Z.nx ρ μ4) D σ H) :
  Ih (LE X.K we) (Zq (LE X.K wo) (LE X.K wi) (fun o i v H Q=>∃ x y z θ μ k,bY X.K H θ μ/\Rp X.K H θ μ x o/\Rp X.K H θ μ y i/\Rp X.K H θ μ z v/\fH x y z μ k/\∀ H' μ',bY X.K H' θ μ'->aD H θ μ H' θ μ'->k μ'->Q H')) D σ H:=by
 obtain ⟨ρ,θ,μ,Z,s,h,f⟩:=h
 refine ⟨ρ,θ,μ,_,s,h,fun d v H1 θ1 μ1 w1 g1 r1 h1=>⟨ρ,θ1,μ1,_,s.grow w1 g1,h1,fun x vx H2 θ2 μ2 w2 g2 r2 h2=>⟨ρ,θ2,μ2,_,s.grow w2 (g1.trans g2),h2,fun y vy H3 θ3 μ3 w3 g3 r3 h3=>?_⟩⟩⟩
 exact ⟨x,y,d,θ3,μ3,_,w3,g3.rep r2,r3,(g2.trans g3).rep r1,h3,fun H4 μ4 w4 g4 q=>f.nx σ H4 ρ θ3 μ4 (s.grow w4 (((g1.trans g2).trans g3).trans g4)) (((g1.trans g2).trans g3).trans g4) q⟩
theorem yL {tg v:Expr} {env:Env} (h:qu v=true):swappedStores [tg] v env=pure none:=by
 unfold swappedStores
 cases tg <;> first | rfl | (cases v <;> first | rfl | exact (Bool.false_ne_true h).elim)
end
structure Xw (X:Cx) (EX:L2.St->XK) (c:Ctx):Prop extends CtxOk X c where
 mt:Meets X EX
 lv:c.rs=true->∃ E,Leaves X E/\EX=fun _=>E
 st:c.calm=true->X.ex=[]/\X.stack=X.env :: X.outer/\X.env.frame=some X.env.locals
noncomputable def never:L2.St->XK:=fun _ _ _ _=>False
mutual
theorem sS:∀ (st:S) {X:Cx} {EX:L2.St->XK} {c:Ctx} {a:Stmt},Xw X EX c->mS c st a=true->X5 (d9 X) (jQ X) st->PS X a (LS X.K EX (wS st))
 | .set i e,X,EX,c,a,C,h,ok=>by
  replace h:(opt (uf a) fun t=>opt (tY t.1) fun x=>c.at_ i x && c.loc x && mE c e t.2 && (c7 t.2 || zu e))=true:=h
  obtain ⟨⟨tg,v⟩,e1,hh⟩:=au h
  obtain ⟨x,e2,hh⟩:=au hh
  obtain ⟨p,rfl⟩:=qg (a:=tg) e2
  obtain ⟨pos,rfl⟩:=kj e1
  replace h:=hh
  simp only [Bool.and_eq_true] at h
  obtain ⟨⟨⟨h1,h2⟩,h3⟩,h4⟩:=h
  obtain ⟨l1,l2⟩:=C.loc x h2
  have hN:X.N.Nodup:=by rw [C.N]; exact C.nd
  have hi:X.N[i]? = some x:=by rw [C.N]; exact tL h1
  have S:=sE e C.toCtxOk h3 ok
  by_cases hn:c7 v=true
  ·exact PS.wk (Ln hN hi l1 S.pe (sy hn) l2) fun D σ H q=>Fd q
  ·have h4:zu e=true:=by
    rcases Bool.or_eq_true_iff.mp h4 with z | z
    ·exact absurd z hn
    ·exact z
   cases e with
   | comp m n tt cap elt it cond =>
    have hv:mE c (.comp m n tt cap elt it cond) v=true->∃ zO tg iter ifs scope DN,v = .ListComp zO [⟨tg,iter,ifs,0⟩] scope DN/\((c.calm || (uJ it && !tt)) && opt (rZ tt tg) fun xs=>opt (fY c cap) fun cs=>n == xs.length && vW c scope (xs ++ cs) cs && jR tt it && mI c it iter && Wf (c.Ql (xs ++ cs) scope.names) (List.range n) tt tg && mE (c.Ql (xs ++ cs) scope.names) elt zO && jo (c.Ql (xs ++ cs) scope.names) cond ifs && decide (ifs.length<=1))=true:=fun z=>by
     obtain ⟨⟨zO,tg,iter,ifs,scope⟩,e,hh⟩:=au z
     obtain ⟨DN,e⟩:=xu e
     exact ⟨zO,tg,iter,ifs,scope,DN,e,hh⟩
    obtain ⟨zO,tg,iter,ifs,scope,DN,rfl,h9⟩:=hv h3
    replace h3:=h9
    have hsw:swapsWith (.ListComp zO [⟨tg,iter,ifs,0⟩] scope DN) (some (.Name x p)) pos.line X.env=pure (X.env.blockKind == .function && X.env.kindOf x == some .local && p.line == (Expr.ListComp zO [⟨tg,iter,ifs,0⟩] scope DN).pos.line && !(scope.names.any fun (n,k)=>n == x && (k == .local || k == .cell))):=rfl
    cases hb:(X.env.blockKind == .function && X.env.kindOf x == some .local && p.line == (Expr.ListComp zO [⟨tg,iter,ifs,0⟩] scope DN).pos.line && !(scope.names.any fun (n,k)=>n == x && (k == .local || k == .cell))) with
    | false =>
     rw [hb] at hsw
     exact PS.wk (Ln hN hi l1 S.pe hsw l2) fun D σ H q=>Fd q
    | true =>
     rw [hb] at hsw
     have hl:X.env.scope.names.lookup x=some .local:=by
      simp only [Bool.and_eq_true,beq_iff_eq] at hb
      exact hb.1.1.2
     simp only [Bool.and_eq_true] at h3
     obtain ⟨hcm,h3⟩:=h3
     obtain ⟨xs,hxs,h3⟩:=au h3
     obtain ⟨cs,hcs,h3⟩:=au h3
     simp only [Bool.and_eq_true,beq_iff_eq] at h3
     obtain ⟨⟨⟨⟨⟨⟨⟨hn,k1⟩,kz⟩,k2⟩,kg⟩,k3⟩,k4⟩,k5⟩:=h3
     have k5:=of_decide_eq_true k5
     subst hn
     have ok':aP (d9 X) (jQ X) elt/\RD (d9 X) (jQ X) it/\fX (d9 X) (jQ X) cond:=ok
     refine PS.wk (Ep (gt:=LG X.K fun d r k=>cZ (List.range xs.length) tt d r k) (tt:=LT X.K (wTs cond)) (te:=LE X.K (wE elt)) (wi:=LI X.K (wI it)) (vV C.toCtxOk hcs k1) (sI it C.toCtxOk k2 ok'.2.1 (tO kg kz) (ZK hcm)) (fun cl Ca s H ex=>GJ (ju C.toCtxOk k1 cl Ca s H ex) (ZJ hcm) kg) (fun cl Ca s H ex=>sTs cond (ju C.toCtxOk k1 cl Ca s H ex) k4 k5 ok'.2.2) (fun cl Ca s H ex=>(sE elt (ju C.toCtxOk k1 cl Ca s H ex) k3 ok'.1).pe) (qN (Nj k2)) hN hi hl hsw) fun D σ H q=>?_
     have q:=Fd (we:=wE (.comp m xs.length tt cap elt it cond)) q
     exact Hg (tgn hxs) q
   | _=>cases h4
 | .Ei is e,X,EX,c,a,C,h,ok=>by
  replace h:(opt (uf a) fun t=>opt (Kh t.1) fun ts=>c.calm && eO c is ts && mE c e t.2 && c7 t.2 && qu t.2)=true:=h
  obtain ⟨⟨tg,v⟩,e1,hh⟩:=au h
  obtain ⟨ts,e2,hh⟩:=au hh
  obtain ⟨k,p,rfl⟩:=Aw (a:=tg) e2
  obtain ⟨pos,rfl⟩:=kj e1
  replace h:=hh
  simp only [Bool.and_eq_true] at h
  obtain ⟨⟨⟨⟨hcm,h1⟩,h2⟩,h3⟩,h4⟩:=h
  have S:=sE e C.toCtxOk h2 ok
  exact PS.wk (Ls S.pe (GJ C.toCtxOk (is:=is) (tt:=true) (fun _=>hcm) h1) (Bj h3) (yL h4) rfl) fun D σ H q=>Wh q
 | .dput o i e,X,EX,c,a,C,h,ok=>by
  replace h:(opt (uf a) fun t=>opt (tX t.1) fun u=>c.calm && mE c o u.1 && mE c i u.2 && bV u.2 && mE c e t.2 && c7 t.2)=true:=h
  obtain ⟨⟨tg,v⟩,e1,hh⟩:=au h
  obtain ⟨⟨o',i'⟩,e2,hh⟩:=au hh
  obtain ⟨p,rfl⟩:=kh (a:=tg) e2
  obtain ⟨pos,rfl⟩:=kj e1
  replace h:=hh
  simp only [Bool.and_eq_true] at h
  obtain ⟨⟨⟨⟨⟨hc,h1⟩,h2⟩,h3⟩,h4⟩,h5⟩:=h
  obtain ⟨k,hr⟩:=C.room
  exact PS.wk (Lq (by have:=hr.units; lia) (sE o C.toCtxOk h1 ok.1).pe (sE i C.toCtxOk h2 ok.2.1).pe (sE e C.toCtxOk h4 ok.2.2).pe (sy h5)) fun D σ H q=>q
 | .rG op o i e,X,EX,c,a,C,h,ok=>by
  replace h:(opt (KJ a) fun t=>opt (tX t.1) fun u=>op == t.2.1 && (op == .Add || op == .Sub) && mE c o u.1 && mE c i u.2 && bV u.2 && mE c e t.2.2)=true:=h
  obtain ⟨⟨tg,op',v⟩,e1,hh⟩:=au h
  obtain ⟨⟨o',i'⟩,e2,hh⟩:=au hh
  obtain ⟨p,rfl⟩:=kh (a:=tg) e2
  obtain ⟨pos,rfl⟩:=Ba e1
  replace h:=hh
  simp only [Bool.and_eq_true,Bool.or_eq_true,beq_iff_eq] at h
  obtain ⟨⟨⟨⟨⟨rfl,h0⟩,h1⟩,h2⟩,h3⟩,h4⟩:=h
  have S1:=sE o C.toCtxOk h1 ok.1
  have S2:=sE i C.toCtxOk h2 ok.2.1
  have S3:=sE e C.toCtxOk h4 ok.2.2
  rcases h0 with rfl | rfl
  ·exact PS.wk (GF S1.pe S2.pe Hv S3.pe WW uF (yE h3)) fun D σ H q=>Cq Pr q
  ·exact PS.wk (GF S1.pe S2.pe Hv S3.pe WR uF (yE h3)) fun D σ H q=>Cq Pq q
 | .uG o i e,X,EX,c,a,C,h,ok=>by
  replace h:(opt (uf a) fun t=>opt (tX t.1) fun u=>mE c o u.1 && mE c i u.2 && bV u.2 && mE c e t.2 && c7 t.2)=true:=h
  obtain ⟨⟨tg,v⟩,e1,hh⟩:=au h
  obtain ⟨⟨o',i'⟩,e2,hh⟩:=au hh
  obtain ⟨p,rfl⟩:=kh (a:=tg) e2
  obtain ⟨pos,rfl⟩:=kj e1
  replace h:=hh
  simp only [Bool.and_eq_true] at h
  obtain ⟨⟨⟨⟨h1,h2⟩,h3⟩,h4⟩,h5⟩:=h
  exact PS.wk (Ls (sE e C.toCtxOk h4 ok.2.2).pe (VB (sE o C.toCtxOk h1 ok.1).pe (sE i C.toCtxOk h2 ok.2.1).pe uF (Gh h3)) (Bj h5) (by cases v <;> rfl) rfl) fun D σ H q=>Np q
 | .exp e,X,EX,c,a,C,h,ok=>by
  replace h:(opt (Vh a) fun v=>mE c e v && c7 v)=true:=h
  obtain ⟨v,e1,hh⟩:=au h
  obtain ⟨pos,rfl⟩:=KH e1
  replace h:=hh
  simp only [Bool.and_eq_true] at h
  refine PS.wk (Q5 (sE e C.toCtxOk h.1 ok).pe (sy h.2)) fun D σ H q=>?_
  obtain ⟨ρ,θ,μ,Z,s,q,f⟩:=q
  exact ⟨ρ,θ,μ,_,s,q,fun d v H1 θ1 μ1 w1 g1 r1 h1=>f.nx σ H1 ρ θ1 μ1 (s.grow w1 g1) g1 h1⟩
 | .ret e,X,EX,c,a,C,h,ok=>by
  replace h:(opt (Vf a) fun o=>opt o fun v=>mE c e v)=true:=h
  obtain ⟨o,e1,hh⟩:=au h
  obtain ⟨v,rfl,hh⟩:=au hh
  obtain ⟨pos,rfl⟩:=KC e1
  replace h:=hh
  refine PS.wk (Vw (sE e C.toCtxOk h ok).pe) fun D σ H q=>?_
  obtain ⟨ρ,θ,μ,Z,s,q,f⟩:=q
  exact ⟨ρ,θ,μ,_,s,q,f.rt⟩
 | .ite t x y,X,EX,c,a,C,h,ok=>by
  replace h:(opt (uIf a) fun u=>mE c t u.1 && u5 c x u.2.1 && u5 c y u.2.2)=true:=h
  obtain ⟨⟨t',x',y'⟩,e1,hh⟩:=au h
  obtain ⟨pos,rfl⟩:=Qu e1
  replace h:=hh
  simp only [Bool.and_eq_true] at h
  refine PS.wk (YG (sE t C.toCtxOk h.1.1 ok.1).pt (XS x C h.1.2 ok.2.1) (XS y C h.2 ok.2.2)) fun D σ H q=>?_
  obtain ⟨ρ,θ,μ,Z,s,q,f⟩:=q
  refine ⟨ρ,θ,μ,_,s,q,fun b H1 θ1 μ1 w1 g1 h1=>?_⟩
  cases b with
  | true=>exact ⟨ρ,θ1,μ1,Z,s.grow w1 g1,h1,f.mono g1⟩
  | false=>exact ⟨ρ,θ1,μ1,Z,s.grow w1 g1,h1,f.mono g1⟩
 | .for_ is tt it b,X,EX,c,a,C,h,ok=>by
  replace h:(opt (Vg a) fun u=>c.calm && Wf c is tt u.1 && mI c it u.2.1 && u5 c b u.2.2 && eG u.2.1 && jR tt it)=true:=h
  obtain ⟨⟨t',i',b'⟩,e1,hh⟩:=au h
  obtain ⟨pos,rfl⟩:=KD e1
  replace h:=hh
  simp only [Bool.and_eq_true] at h
  obtain ⟨⟨⟨⟨⟨hcm,h1⟩,h2⟩,h3⟩,h4⟩,hz⟩:=h
  exact PS.wk (QZ C.pas (C.calm hcm) (sI it C.toCtxOk h2 ok.1 (tO h1 hz) (.inl hcm)) (GJ C.toCtxOk (fun _=>hcm) h1) (XS b C h3 ok.2) (qN h4)) fun D σ H q=>q
 | .whl t b,X,EX,c,a,C,h,ok=>by
  replace h:(opt (Ve a) fun u=>mE c t u.1 && u5 c b u.2)=true:=h
  obtain ⟨⟨t',b'⟩,e1,hh⟩:=au h
  obtain ⟨pos,rfl⟩:=Kz e1
  replace h:=hh
  simp only [Bool.and_eq_true] at h
  exact PS.wk (QW C.pas (sE t C.toCtxOk h.1 ok.1).pt (XS b C h.2 ok.2)) fun D σ H q=>q
 | .Br cn f o e,X,EX,c,a,C,h,ok=>by
  replace h:(opt (uf a) fun t=>opt (tZ t.1) fun u=>u.2 == Str.ofString f && mE c o u.1 && mE c e t.2)=true:=h
  obtain ⟨⟨tg,v⟩,e1,hh⟩:=au h
  obtain ⟨⟨o',f'⟩,e2,hh⟩:=au hh
  obtain ⟨p,rfl⟩:=qj (a:=tg) e2
  obtain ⟨pos,rfl⟩:=kj e1
  replace h:=hh
  simp only [Bool.and_eq_true,beq_iff_eq] at h
  obtain ⟨⟨rfl,h1⟩,h2⟩:=h
  exact PS.wk (Q0 ok.1 (sE o C.toCtxOk h1 ok.2.1).pe (sE e C.toCtxOk h2 ok.2.2).pe (by cases v <;> rfl)) fun D σ H q=>q
 | .JZ cn f op o e,X,EX,c,a,C,h,ok=>by
  replace h:(opt (KJ a) fun t=>opt (tZ t.1) fun u=>u.2 == Str.ofString f && op == t.2.1 && (op == .Add || op == .Sub) && mE c o u.1 && mE c e t.2.2)=true:=h
  obtain ⟨⟨tg,op',v⟩,e1,hh⟩:=au h
  obtain ⟨⟨o',f'⟩,e2,hh⟩:=au hh
  obtain ⟨p,rfl⟩:=qj (a:=tg) e2
  obtain ⟨pos,rfl⟩:=Ba e1
  replace h:=hh
  simp only [Bool.and_eq_true,Bool.or_eq_true,beq_iff_eq] at h
  obtain ⟨⟨⟨⟨rfl,rfl⟩,h1⟩,h2⟩,h3⟩:=h
  exact PS.wk (Lr h1 ok.1 (sE o C.toCtxOk h2 ok.2.1).pe (sE e C.toCtxOk h3 ok.2.2).pe) fun D σ H q=>q
 | .Qj,X,EX,c,a,C,h,ok=>fun pins s σ H D I q=>by
  obtain ⟨ρ,θ,μ,Z,sm,q,f⟩:=q
  exact q.elim
theorem XS:∀ (st:Ss) {X:Cx} {EX:L2.St->XK} {c:Ctx} {as:List Stmt},Xw X EX c->u5 c st as=true->gk (d9 X) (jQ X) st->yF X as (LS X.K EX (wSs st))
 | .nil,X,EX,c,as,C,h,_=>by
  have:as=[]:=by simpa [u5] using h
  subst this
  refine yF.wk QV fun D σ H q=>?_
  obtain ⟨ρ,θ,μ,Z,s,q,f⟩:=q
  exact f.nx σ H ρ θ μ s aD.refl q
 | .cons s r,X,EX,c,as,C,h,ok=>by
  cases as with
  | nil=>simp [u5] at h
  | cons a as =>
   simp only [u5,Bool.and_eq_true] at h
   refine yF.wk (Lj (sS s C h.1 ok.1) (XS r C h.2 ok.2)) fun D σ H q=>?_
   obtain ⟨ρ,θ,μ,Z,sm,q,f⟩:=q
   refine ⟨ρ,θ,μ,_,sm,q,⟨fun σ' H' ρ' θ' μ' s' g' z=>⟨ρ',θ',μ',Z,s',z,f.mono g'⟩,f.rt,f.bk,f.ct,f.xc⟩⟩
end
end DW
end
section
set_option maxHeartbeats 2000000
namespace DW
open PySem PySem.Spec PyProof.Rows L2
structure Top where
 P:Program
 w:World
 K:PySem.W.Frag
 mg:Str->Option Value
 base:Heap
noncomputable def jw (T:Top) (k:Nat):Rf->cU->Prop
 | .fn x,sp=>∃ (fa:Addr) (fd:FuncData) (ps:List Str),T.mg x=some (.ref fa)/\PySem.W.keepIn T.K (.ref fa)=true/\Binds T.K fd ps []/\cD T.P T.w T.K T.mg T.base (oF T.P T.w) k fa fd ps (low T.K sp)
 | .lD c m,sp=>∃ (C fa:Addr) (fd:FuncData) (ps:List Str),PySem.W.nsIn T.K mainGlobals (Str.ofString c)=some (some (.ref C))/\Cls T.K C/\Meth T.K C (Str.ofString m) fa/\Binds T.K fd ps []/\cD T.P T.w T.K T.mg T.base (oF T.P T.w) k fa fd ps (low T.K sp)
 | .mk c,sp=>∃ (C fa:Addr) (fd:FuncData) (ps:List Str) (j:Nat),PySem.W.nsIn T.K mainGlobals (Str.ofString c)=some (some (.ref C))/\T.mg (Str.ofString c)=some (.ref C)/\Mk T.K C fa/\Binds T.K fd ps []/\cD T.P T.w T.K T.mg T.base (oF T.P T.w) j fa fd ps (low T.K sp)/\j + 1<=k
 | .fld c f,_=>∃ C:Addr,PySem.W.nsIn T.K mainGlobals (Str.ofString c)=some (some (.ref C))/\Cls T.K C/\gw T.K C (Str.ofString f)
 | .fnX x sp,_=>∃ (fa:Addr) (fd:FuncData) (ps:List Str),T.mg x=some (.ref fa)/\PySem.W.keepIn T.K (.ref fa)=true/\Binds T.K fd ps []/\cD T.P T.w T.K T.mg T.base (oF T.P T.w) k fa fd ps (Cr T.K sp)
 | .RK c m sp,_=>∃ (C fa:Addr) (fd:FuncData) (ps:List Str),PySem.W.nsIn T.K mainGlobals (Str.ofString c)=some (some (.ref C))/\Cls T.K C/\Meth T.K C (Str.ofString m) fa/\Binds T.K fd ps []/\cD T.P T.w T.K T.mg T.base (oF T.P T.w) k fa fd ps (Cr T.K sp)
 | .mkX c sp,_=>∃ (C fa:Addr) (fd:FuncData) (ps:List Str) (j:Nat),PySem.W.nsIn T.K mainGlobals (Str.ofString c)=some (some (.ref C))/\T.mg (Str.ofString c)=some (.ref C)/\Mk T.K C fa/\Binds T.K fd ps []/\cD T.P T.w T.K T.mg T.base (oF T.P T.w) j fa fd ps (Cr T.K sp)/\j + 1<=k
 | .fnM x,sp=>∃ (fa:Addr) (fd:FuncData) (ps:List Str),T.mg x=some (.ref fa)/\PySem.W.keepIn T.K (.ref fa)=true/\Binds T.K fd ps []/\cD T.P T.w T.K T.mg T.base (oF T.P T.w) 15 fa fd ps (low T.K sp)/\15<=k
 | .rsi c ks,_=>UJ T.P T.w T.K T.mg T.base c ks/\2<=k
 | .efl f tab,_=>Qc T.K f tab
 | .rse c,_=>PK T.K T.mg c
 | .lam,_=>False
 | .ZF x ks,_=>UW T.K T.mg x ks
 | .dsp x ks sp,_=>UL T.P T.w T.K T.mg T.base k x ks sp
 | .hdl P tab,_=>PX T.K T.mg P tab
 | .isx tt ts tab,_=>PN T.K T.mg tt ts tab
noncomputable abbrev bZ (T:Top) (k:Nat):Rf->cU->Prop:=jw T (k + 16)
noncomputable def ji (T:Top) (x:Str) (d:D):Prop:=∃ (u:Value) (v:V),T.mg x=some u/\RelV v u/\∀ H θ μ,Rp T.K H θ μ d v
theorem jw.up {T:Top} {j k:Nat} {x:Rf} {sp:cU} (h:jw T j x sp) (hk:j<=k):jw T k x sp:=by
 cases x with
 | fn x =>
  obtain ⟨fa,fd,ps,h1,h2,h3,h4⟩:=h
  exact ⟨fa,fd,ps,h1,h2,h3,h4.mono hk⟩
 | lD c m =>
  obtain ⟨C,fa,fd,ps,h0,h1,h2,h3,h4⟩:=h
  exact ⟨C,fa,fd,ps,h0,h1,h2,h3,h4.mono hk⟩
 | mk c =>
  obtain ⟨C,fa,fd,ps,i,h0,h1,h2,h3,h4,h5⟩:=h
  exact ⟨C,fa,fd,ps,i,h0,h1,h2,h3,h4,Nat.le_trans h5 hk⟩
 | fld c f=>exact h
 | fnX x sp =>
  obtain ⟨fa,fd,ps,h1,h2,h3,h4⟩:=h
  exact ⟨fa,fd,ps,h1,h2,h3,h4.mono hk⟩
 | RK c m sp =>
  obtain ⟨C,fa,fd,ps,h0,h1,h2,h3,h4⟩:=h
  exact ⟨C,fa,fd,ps,h0,h1,h2,h3,h4.mono hk⟩
 | mkX c sp =>
  obtain ⟨C,fa,fd,ps,i,h0,h1,h2,h3,h4,h5⟩:=h
  exact ⟨C,fa,fd,ps,i,h0,h1,h2,h3,h4,Nat.le_trans h5 hk⟩
 | fnM x =>
  obtain ⟨fa,fd,ps,h1,h2,h3,h4,h5⟩:=h
  exact ⟨fa,fd,ps,h1,h2,h3,h4,Nat.le_trans h5 hk⟩
 | rsi c ks=>exact ⟨h.1,Nat.le_trans h.2 hk⟩
 | efl f tab=>exact h
 | rse c=>exact h
 | lam=>exact h.elim
 | ZF x ks=>exact h
 | dsp x ks sp =>
  obtain ⟨a,h1,h2,h3,h4⟩:=h
  refine ⟨a,h1,h2,h3,fun ds μ Q X q=>?_⟩
  obtain ⟨t,r,fa,fd,ps,Du,e1,e2,e3,e4,e5⟩:=h4 ds μ Q X q
  exact ⟨t,r,fa,fd,ps,Du,e1,e2,e3,e4.mono hk,e5⟩
 | hdl P tab=>exact h
 | isx tt ts tab=>exact h
theorem bZ.up {T:Top} {j k:Nat} {x:Rf} {sp:cU} (h:bZ T j x sp) (hk:j<=k):bZ T k x sp:=jw.up h (Nat.add_le_add_right hk 16)
theorem Nq {K:PySem.W.Frag} {sp:rY} {vs:List V} {H:Hp} {Q:VK} {E:XK} (h:low K (O8 sp) vs H Q E):Cr K sp vs H Q E:=by
 obtain ⟨ds,θ,μ,Qd,w,r,h,f⟩:=h
 exact ⟨ds,θ,μ,Qd,_,w,r,h,f,fun _ _ _ _ _ _ _ _ z=>z.elim⟩
theorem bZ.calm {T:Top} {k:Nat} {x:Str} {sp:rY} (h:bZ T k (.fnX x sp) K7):bZ T k (.fn x) (O8 sp):=by
 obtain ⟨fa,fd,ps,h1,h2,h3,h4⟩:=h
 exact ⟨fa,fd,ps,h1,h2,h3,h4.imp fun _ _ _ _ z=>Nq z⟩
theorem Ij {K:PySem.W.Frag} {H:Hp} {θ:List Addr} {μ:Mem} {ds:List D} {vs:List V} (N:List Str) (w:bY K H θ μ) (r:eF K H θ μ ds vs):qY K (L2.start N vs) H (aH N ds) θ μ:=by
 have hl:=r.length
 refine ⟨w,by simp [L2.start,aH,hl],fun i d h=>?_⟩
 unfold aH at h
 by_cases hi:i < ds.length
 ·rw [List.getElem?_append_left (by simpa using hi),List.getElem?_map] at h
  cases e:ds[i]? with
  | none=>rw [e] at h; cases h
  | some d' =>
   rw [e] at h; cases h
   obtain ⟨v,e1,e2⟩:=r.get e
   refine ⟨v,?_,e2⟩
   unfold L2.start
   rw [List.getElem?_append_left (by simpa using (hl ▸ hi)),List.getElem?_map,e1]; rfl
 ·rw [List.getElem?_append_right (by simpa using hi),List.getElem?_replicate] at h
  split at h <;> cases h
section
variable {T:Top} {k:Nat} {x qual:Str} {st:Stmt} {f:Addr} {fd:FuncData} {N ps dW:List Str} {i:Ss} {sp:cU} {spx:rY}
theorem RT {A:Around} {outer:List Env} {s:Shared} {H:Hp} {E:XK} {cdv:Value} {scope:Scope} (hr:bM k (A.deeper (envOfC qual scope s.heap.objs.size f cdv))) {y:Rf} {Du:cU} (z:jw T k y Du):d9 (wX (oF T.P T.w) T.P T.w T.K T.mg T.base N qual scope f cdv A outer s H E) y Du:=by
 cases y with
 | fn y =>
  obtain ⟨fa,fd',ps',h1,h2,h3,h4⟩:=z
  exact ⟨fa,fd',ps',k,h1,h2,h3,h4,hr⟩
 | lD c m =>
  obtain ⟨C',fa,fd',ps',h0,h1,h2,h3,h4⟩:=z
  exact ⟨C',fa,fd',ps',k,h0,h1,h2,h3,h4,hr⟩
 | mk c =>
  obtain ⟨C',fa,fd',ps',j,h0,h1,h2,h3,h4,h5⟩:=z
  exact ⟨C',fa,fd',ps',j,h0,h1,h2,h3,h4,hr.mono h5⟩
 | fld c f=>exact z
 | fnX y sp =>
  obtain ⟨fa,fd',ps',h1,h2,h3,h4⟩:=z
  exact ⟨fa,fd',ps',k,h1,h2,h3,h4,hr⟩
 | RK c m sp =>
  obtain ⟨C',fa,fd',ps',h0,h1,h2,h3,h4⟩:=z
  exact ⟨C',fa,fd',ps',k,h0,h1,h2,h3,h4,hr⟩
 | mkX c sp =>
  obtain ⟨C',fa,fd',ps',j,h0,h1,h2,h3,h4,h5⟩:=z
  exact ⟨C',fa,fd',ps',j,h0,h1,h2,h3,h4,hr.mono h5⟩
 | fnM y =>
  obtain ⟨fa,fd',ps',h1,h2,h3,h4,h5⟩:=z
  exact ⟨fa,fd',ps',h1,h2,h3,h4,hr.mono h5⟩
 | rsi c ks=>exact ⟨z.1,hr.mono z.2⟩
 | efl f tab=>exact z
 | rse c=>exact z
 | lam=>exact z.elim
 | ZF x ks=>exact z
 | dsp x ks sp=>exact ⟨k,hr,z⟩
 | hdl P tab=>exact z
 | isx tt ts tab=>exact z
theorem Pk {PL:Rf->cU->Prop} {Vt:Sp} {cm:Bool} (hcm:cm=true->16<=k) (F:J5 T.K x qual st f fd) (S:dz N ps (aB st)) (hmt:u5 ⟨N,(aB st).names,dW,cm,true⟩ i (aU st)=true) (lQ:∀ y,dW.contains y=true->T.mg y=none)
  (ok:gk PL (ji T) i) (hPL:∀ (A:Around) (outer:List Env) (s:Shared) (H:Hp) (E:XK) (oc:Value) (od an:Option Addr) (osl:Array (Option Value)) (kV doc pm cdv ct:Value),T.K.lookup f=some ⟨oc,od,.func (PySem.W.fnOf x qual (eZ st) (aU st) (aB st) .none kV doc pm an cdv ct),osl⟩->bM k (A.deeper (envOfC qual (aB st) s.heap.objs.size f cdv))->∀ y Du,PL y Du->d9 (wX (oF T.P T.w) T.P T.w T.K T.mg T.base N qual (aB st) f cdv A outer s H E) y Du) (len:∀ vs H Q E,Vt vs H Q E->vs.length=ps.length)
  (hrun:∀ vs H Q E,Vt vs H Q E->∃ ds θ μ Z,bY T.K H θ μ/\eF T.K H θ μ ds vs/\wSs i Z (aH N ds) μ/\J2 T.K (fun _=>E) H θ μ Z { nx:=fun _ H'=>Q .non H',rt:=Q }) :
  cD T.P T.w T.K T.mg T.base (oF T.P T.w) (k + 1) f fd ps Vt:=by
 obtain ⟨oc,od,kV,doc,pm,an,cdv,ct,osl,rfl,lk,hcd⟩:=F.ex
 refine Us lk hcd S len fun A outer s H vs Q E hr h=>?_
 obtain ⟨ds,θ,μ,Z,yH,r,hs,fin⟩:=hrun vs H Q E h
 have L:=Jh (P:=T.P) (w:=T.w) (K:=T.K) (mg:=T.mg) (base:=T.base) (N:=N) (qual:=qual) (scope:=aB st) (f:=f) (cd:=cdv) (A:=A) (outer:=outer) (s:=s) (H:=H) (E:=E)
 have C:Xw (wX (oF T.P T.w) T.P T.w T.K T.mg T.base N qual (aB st) f cdv A outer s H E) (fun _=>E) ⟨N,(aB st).names,dW,cm,true⟩:=by
  refine ⟨⟨rfl,S.nd,fun y hy=>?_,fun y hy=>?_,fun y hy=>?_,fun y hy=>?_,fun y hy=>hy,fun y hy=>lQ y hy,fun z=>Option.isNone_iff_eq_none.mpr (hr.hd (hcm z)),⟨k,hr⟩,PassesOwn.leaving⟩,meets_of L,fun _=>⟨E,L,rfl⟩,fun _=>⟨rfl,rfl,rfl⟩⟩
  ·unfold Ctx.vis at hy
   split at hy
   ·rename_i z; exact .inl z
   ·rename_i z; exact .inr (.inl z)
   ·rename_i z; exact .inr (.inr z)
   ·cases hy
  ·unfold Ctx.loc at hy
   split at hy
   ·rename_i z; exact ⟨.inl z,.inl rfl⟩
   ·rename_i z; exact ⟨.inr z,.inl rfl⟩
   ·cases hy
  ·have hy':(aB st).names.lookup y=some .local:=by simpa [isLocal] using hy
   exact hy'
  ·unfold Ctx.wU at hy
   split at hy
   ·rename_i z; exact z
   ·cases hy
 refine ⟨LS T.K (fun _=>E) (wSs i),XS i C hmt (gk.mono i (fun y Du z=>?_) (fun y d z=>z) ok),?_⟩
 ·exact hPL A outer s H E _ _ _ _ _ _ _ _ _ lk hr y Du z
 ·exact ⟨aH N ds,θ,μ,Z,Ij N yH r,hs,fin⟩
theorem S7 {Vt:Sp} {cm:Bool} (hcm:cm=true->16<=k) (F:J5 T.K x qual st f fd) (S:dz N ps (aB st)) (hmt:u5 ⟨N,(aB st).names,dW,cm,true⟩ i (aU st)=true) (lQ:∀ y,dW.contains y=true->T.mg y=none)
  (ok:gk (jw T k) (ji T) i) (len:∀ vs H Q E,Vt vs H Q E->vs.length=ps.length)
  (hrun:∀ vs H Q E,Vt vs H Q E->∃ ds θ μ Z,bY T.K H θ μ/\eF T.K H θ μ ds vs/\wSs i Z (aH N ds) μ/\J2 T.K (fun _=>E) H θ μ Z { nx:=fun _ H'=>Q .non H',rt:=Q }) :
  cD T.P T.w T.K T.mg T.base (oF T.P T.w) (k + 1) f fd ps Vt:=Pk hcm F S hmt lQ ok (fun A outer s H E _ _ _ _ _ _ _ _ _ _ hr y Du z=>RT hr z) len hrun
theorem zJ (F:J5 T.K x qual st f fd) (S:dz N ps (aB st)) (hmt:u5 (Ctx.of N (aB st).names dW) i (aU st)=true) (lQ:∀ y,dW.contains y=true->T.mg y=none)
  (ok:gk (bZ T k) (ji T) i) (har:∀ ds μ Q,sp ds μ Q->ds.length=ps.length) (hk:Keeps N i sp):cD T.P T.w T.K T.mg T.base (oF T.P T.w) (k + 16 + 1) f fd ps (low T.K sp):=by
 refine S7 (fun _=>Nat.le_add_left 16 k) F S hmt lQ ok (fun vs H Q E h=>?_) fun vs H Q E h=>?_
 ·obtain ⟨ds,θ,μ,Qd,yH,r,hs,_⟩:=h
  rw [<- r.length]; exact har ds μ Qd hs
 ·obtain ⟨ds,θ,μ,Qd,yH,r,hs,fin⟩:=h
  refine ⟨ds,θ,μ,bO Qd,yH,r,hk ds μ Qd hs,⟨fun σ' H' ρ' θ' μ' s' g z=>?_,fin,fun _ _ _ _ _ _ _ z=>z.elim,fun _ _ _ _ _ _ _ z=>z.elim,fun _ _ _ _ _ _ _ _ _ _ z=>z.elim⟩⟩
  exact fin .non .non H' θ' μ' s'.yH g yP z
theorem Zw {y:Str} (F:J5 T.K x qual st f fd) (S:dz N ps (aB st)) (hmt:u5 (Ctx.of N (aB st).names dW) i (aU st)=true) (lQ:∀ y,dW.contains y=true->T.mg y=none)
  (ok:gk (bZ T k) (ji T) i) (har:∀ ds μ Q,sp ds μ Q->ds.length=ps.length) (hk:Keeps N i sp) (hm:T.mg y=some (.ref f)) (hb:Binds T.K fd ps []):bZ T (k + 1) (.fn y) sp :=
 ⟨f,fd,ps,hm,F.kp,hb,(zJ F S hmt lQ ok har hk).mono (by lia:k + 16 + 1<=k + 1 + 16)⟩
end
theorem uK {K:PySem.W.Frag} {H:Hp} {θ:List Addr} {L:Addr->Prop}:∀ ns:List Int,aG K H θ L (ns.map D.int) (ns.map V.int)
 | []=>aG.nil
 | n :: ns=>aG.cons (by unfold Rep; rfl) (uK ns)
theorem Ji {K:PySem.W.Frag} {H:Hp} {a:Addr} {ns:List Int} (hl:ns.length<=63) (hO:Only H) (hS:f9 K H a (ns.map V.int)):low K uy [.ref a] H (fun v _=>v = .bl true) fun _ _ _=>False:=by
 refine ⟨[.ro (ns.map D.int)],[],[],fun d _=>d = .bl true,⟨rfl,fun m n b h=>by simp at h,fun n b h=>by simp at h,fun n c b h=>by simp at h⟩,aG.one ?_,⟨ns,rfl,hl,fun _=>rfl⟩,fun d v H' θ' μ' w g r q=>?_⟩
 ·unfold Rep
  refine ⟨a,ns.map V.int,rfl,?_,uK ns⟩
  rcases hS with (h | ⟨o,h⟩) | h
  ·rcases hO a with z | ⟨o,xs,z⟩
   ·rw [h] at z; cases z
   ·rw [h] at z; cases z
  ·exact .inl ⟨o,h,fun ⟨n,c,e,_⟩=>by simp at e⟩
  ·exact .inr h
 ·subst q; exact dR r
theorem Nz {l:PySem.W.OpenLaw} {k:Nat} {q:Program} {loose:List Str} {XP:(Str->Option Value)->Heap->Prop} {YP:World->Heap->Prop} {d:DefRec} {K:Params->PySem.W.Frag} (hI:importsNone q=true) (hn:l.most=some 63) (hk:k<=200) (hdf:d.params.defaults=[])
  (hY:∀ (w:World) (h:Heap),YP w h->(K w.params).In h)
  (F:∀ (w:World) (mg:Str->Option Value) (fa:Addr) (h:Heap),(K w.params).In h->h.Ns mainGlobals mg->mg d.name=some (.ref fa) ->
   ∃ fd:FuncData,(∀ (s:Shared) (u:Value),BindsTo s fd ⟨[u],[]⟩ [("script",u)])/\∀ base:Heap,(K w.params).In base->base.Ns mainGlobals mg->cD l.prog w (K w.params) mg base (oF l.prog w) k fa fd ["script"] (low (K w.params) uy)) :
  PySem.W.WalkO q loose XP YP l.row.toRowW d [] (fun f vs=>PySem.call f vs):=by
 have hr:bM 200 callerA:=⟨fun _=>rfl,by decide,by decide,rfl⟩
 exact L2.Gp (n:=63) (k:=k) (x:="script") (CX:=fun w=>oF l.prog w) (sp:=fun w=>low (K w.params) uy) hI hn (by decide) hdf (hr.mono hk) hY F (fun _ _ a ns hl hO hS=>Ji hl hO hS) fun w _ _ _ _ z=>by
  obtain ⟨_,_,_,_,_,_,_,_,_,q⟩:=z
  exact q
section
variable {T:Top} {h:Heap} {k:Nat} {x:Str} {ks:List (List Nat)} {spx:rY}
end
section
variable {α:Type} {P:List α->Prop}
theorem len1 (h:∀ a,P [a]):∀ us:List α,us.length=1->P us
 | [a],_=>h a
theorem len2 (h:∀ a b,P [a,b]):∀ us:List α,us.length=2->P us
 | [a,b],_=>h a b
theorem Zc (h:∀ a b c,P [a,b,c]):∀ us:List α,us.length=3->P us
 | [a,b,c],_=>h a b c
end
noncomputable def aK (K:PySem.W.Frag) (x:Str) (st:Stmt):Prop:=∃ (f:Addr) (fd:FuncData),PySem.W.nsIn K mainGlobals x=some (some (.ref f))/\J5 K x x st f fd
theorem O2 {K:PySem.W.Frag} {x:Str} {st:Stmt} {f:Addr} {oc:Value} {od an:Option Addr} {osl:Array (Option Value)} {kV doc pm cdv ct:Value} (a:PySem.W.nsIn K mainGlobals x=some (some (.ref f)))
  (l:K.lookup f=some ⟨oc,od,.func (PySem.W.fnOf x x (eZ st) (aU st) (aB st) .none kV doc pm an cdv ct),osl⟩) (c:PySem.W.codeIn K cdv x=true) (k:PySem.W.keepIn K (.ref f)=true):aK K x st:=⟨f,_,a,Oq l c k⟩
noncomputable def wC (K:PySem.W.Frag):List Str->Prop
 | []=>True
 | x :: xs=>PySem.W.nsIn K mainGlobals x=some none/\wC K xs
theorem Hw {K:PySem.W.Frag} {h:Heap} {mg:Str->Option Value} (X:K.In h) (G:h.Ns mainGlobals mg):∀ {xs:List Str},wC K xs->∀ y,xs.contains y=true->mg y=none
 | [],_,y,h=>by simp at h
 | x :: xs,F,y,h=>by
  by_cases e:y=x
  ·subst e; exact PySem.W.mg_none_of X G F.1
  ·exact Hw X G F.2 y (by simpa [e] using h)
theorem cI {T:Top} {h:Heap} {k:Nat} {x:Str} {st:Stmt} {N ps dW:List Str} {i:Ss} {sp:cU} (D:aK T.K x st) (X:T.K.In h) (G:h.Ns mainGlobals T.mg) (S:dz N ps (aB st)) (hmt:u5 (Ctx.of N (aB st).names dW) i (aU st)=true) (lQ:∀ y,dW.contains y=true->T.mg y=none)
  (hbd:∀ (kV doc pm:Value) (an:Option Addr) (cdv ct:Value) (us:List Value),us.length=ps.length->bindArgs (PySem.W.fnOf x x (eZ st) (aU st) (aB st) .none kV doc pm an cdv ct) ⟨us,[]⟩=pure (ps.zip us))
  (har:∀ ds μ Q,sp ds μ Q->ds.length=ps.length) (hk:Keeps N i sp) (ok:gk (bZ T k) (ji T) i):bZ T (k + 1) (.fn x) sp:=by
 obtain ⟨f,fd,a,F⟩:=D
 exact Zw F S hmt lQ ok har hk (PySem.W.mg_of X G a) (F.binds hbd)
def spP (sp:Nat->cU):Nat->cU
 | 0=>K7
 | d + 1=>sp d
theorem G9 {K:PySem.W.Frag} {vs:List V} {H:Hp} {Q:VK} {E:XK} (h:low K K7 vs H Q E):False:=by
 obtain ⟨_,_,_,_,_,_,z,_⟩:=h
 exact z
noncomputable def ClsAt (K:PySem.W.Frag) (c:String):Prop:=∃ C:Addr,PySem.W.nsIn K mainGlobals (Str.ofString c)=some (some (.ref C))/\Cls K C/\PySem.W.makesIn K C=true/\PySem.W.keepIn K (.ref C)=true
theorem O7 {K:PySem.W.Frag} {c:String} {C:Addr} (a:PySem.W.nsIn K mainGlobals (Str.ofString c)=some (some (.ref C))) (pg:PySem.W.plainGet K C Str.empty=true) (hd:PySem.W.hasDictIn K C=true) (po:PySem.W.plainOver K C=true)
  (sa:PySem.W.findIn K (.ref C) "__setattr__" = some (some (.builtin "object.__setattr__"))) (mk:PySem.W.makesIn K C=true) (kc:PySem.W.keepIn K (.ref C)=true):ClsAt K c:=⟨C,a,⟨pg,hd,po,sa⟩,mk,kc⟩
noncomputable def Af (K:PySem.W.Frag) (c f:String):Prop:=∃ C:Addr,PySem.W.nsIn K mainGlobals (Str.ofString c)=some (some (.ref C))/\PySem.W.findIn K (.ref C) (Str.ofString f)=some none
theorem RJ {K:PySem.W.Frag} {c f:String} {C:Addr} (a:PySem.W.nsIn K mainGlobals (Str.ofString c)=some (some (.ref C))) (n:PySem.W.findIn K (.ref C) (Str.ofString f)=some none):Af K c f:=⟨C,a,n⟩
theorem Xc {T:Top} {k:Nat} {c f:String} (Cl:ClsAt T.K c) (N:Af T.K c f):bZ T k (.fld c f) K7:=by
 obtain ⟨C,h1,h2,_⟩:=Cl
 obtain ⟨C',h3,h4⟩:=N
 rw [h1] at h3; cases h3
 exact ⟨C,h1,h2,h4⟩
noncomputable def cQ (K:PySem.W.Frag) (c m:String) (q:Str) (st:Stmt):Prop:=∃ (C f:Addr) (fd:FuncData),PySem.W.nsIn K mainGlobals (Str.ofString c)=some (some (.ref C))/\PySem.W.findIn K (.ref C) (Str.ofString m)=some (some (.ref f))/\PySem.W.isFn K (.ref f)=true/\J5 K (Str.ofString m) q st f fd
theorem Nb {K:PySem.W.Frag} {c m:String} {q:Str} {st:Stmt} {C f:Addr} {oc:Value} {od an:Option Addr} {osl:Array (Option Value)} {kV doc pm cdv ct:Value} (a:PySem.W.nsIn K mainGlobals (Str.ofString c)=some (some (.ref C)))
  (b:PySem.W.findIn K (.ref C) (Str.ofString m)=some (some (.ref f))) (i:PySem.W.isFn K (.ref f)=true) (l:K.lookup f=some ⟨oc,od,.func (PySem.W.fnOf (Str.ofString m) q (eZ st) (aU st) (aB st) .none kV doc pm an cdv ct),osl⟩)
  (cd:PySem.W.codeIn K cdv q=true) (k:PySem.W.keepIn K (.ref f)=true):cQ K c m q st:=⟨C,f,_,a,b,i,Oq l cd k⟩
section
variable {T:Top} {k:Nat} {c m:String} {q:Str} {st:Stmt} {N ps dW:List Str} {i:Ss} {sp:cU} {spx:rY}
theorem jd (D:cQ T.K c m q st) (Cl:ClsAt T.K c) (S:dz N ps (aB st)) (hmt:u5 (Ctx.of N (aB st).names dW) i (aU st)=true) (lQ:∀ y,dW.contains y=true->T.mg y=none)
  (hbd:∀ (kV doc pm:Value) (an:Option Addr) (cdv ct:Value) (us:List Value),us.length=ps.length->bindArgs (PySem.W.fnOf (Str.ofString m) q (eZ st) (aU st) (aB st) .none kV doc pm an cdv ct) ⟨us,[]⟩=pure (ps.zip us))
  (har:∀ ds μ Q,sp ds μ Q->ds.length=ps.length) (hk:Keeps N i sp) (ok:gk (bZ T k) (ji T) i):bZ T (k + 1) (.lD c m) sp:=by
 obtain ⟨C,f,fd,h1,h2,h3,F⟩:=D
 obtain ⟨C',h4,h5,_⟩:=Cl
 rw [h1] at h4; cases h4
 exact ⟨C,f,fd,ps,h1,h5,⟨h2,h3,F.kp⟩,F.binds hbd,(zJ F S hmt lQ ok har hk).mono (by lia:k + 16 + 1<=k + 1 + 16)⟩
theorem G8 {i:Nat->Ss} {sp:Nat->cU} (D:cQ T.K c m q st) (Cl:ClsAt T.K c) (S:dz N ps (aB st)) (hmt:∀ d,u5 (Ctx.of N (aB st).names dW) (i d) (aU st)=true) (lQ:∀ y,dW.contains y=true->T.mg y=none)
  (hbd:∀ (kV doc pm:Value) (an:Option Addr) (cdv ct:Value) (us:List Value),us.length=ps.length->bindArgs (PySem.W.fnOf (Str.ofString m) q (eZ st) (aU st) (aB st) .none kV doc pm an cdv ct) ⟨us,[]⟩=pure (ps.zip us))
  (har:∀ d ds μ Q,sp d ds μ Q->ds.length=ps.length) (hk:∀ d,Keeps N (i d) (sp d)) (ok:∀ d j,k<=j->bZ T j (.lD c m) (spP sp d)->gk (bZ T j) (ji T) (i d)):∀ d,bZ T (k + d + 1) (.lD c m) (sp d)
 | 0=>by
  refine jd D Cl S (hmt 0) lQ hbd (har 0) (hk 0) (ok 0 k (Nat.le_refl _) ?_)
  obtain ⟨C,f,fd,h1,h2,h3,F⟩:=D
  obtain ⟨C',h4,h5,_⟩:=Cl
  rw [h1] at h4; cases h4
  exact ⟨C,f,fd,ps,h1,h5,⟨h2,h3,F.kp⟩,F.binds hbd,⟨fun _ _ _ _ z=>(G9 z).elim,fun _ _ _ _ _ _ _ _ _ _ _ _ _ z=>(G9 z).elim⟩⟩
 | d + 1=>jd D Cl S (hmt (d + 1)) lQ hbd (har (d + 1)) (hk (d + 1)) (ok (d + 1) (k + d + 1) (by lia) (G8 D Cl S hmt lQ hbd har hk ok d))
theorem Y7 {h:Heap} (X:T.K.In h) (G:h.Ns mainGlobals T.mg) (D:cQ T.K c "__init__" q st) (Cl:ClsAt T.K c) (S:dz N ps (aB st)) (hmt:u5 (Ctx.of N (aB st).names dW) i (aU st)=true) (lQ:∀ y,dW.contains y=true->T.mg y=none)
  (hbd:∀ (kV doc pm:Value) (an:Option Addr) (cdv ct:Value) (us:List Value),us.length=ps.length->bindArgs (PySem.W.fnOf (Str.ofString "__init__") q (eZ st) (aU st) (aB st) .none kV doc pm an cdv ct) ⟨us,[]⟩=pure (ps.zip us))
  (har:∀ ds μ Q,sp ds μ Q->ds.length=ps.length) (hk:Keeps N i sp) (ok:gk (bZ T k) (ji T) i):bZ T (k + 2) (.mk c) sp:=by
 obtain ⟨C,f,fd,h1,h2,h3,F⟩:=D
 obtain ⟨C',h4,h5,h6,h7⟩:=Cl
 rw [h1] at h4; cases h4
 exact ⟨C,f,fd,ps,k + 16 + 1,h1,PySem.W.mg_of X G h1,⟨h6,h2,h3,h7⟩,F.binds hbd,zJ F S hmt lQ ok har hk,by lia⟩
end
noncomputable def Xy (K:PySem.W.Frag) (c:String):Prop:=∃ C,PySem.W.nsIn K mainGlobals (Str.ofString c)=some (some (.ref C))/\PySem.W.excIn K C S8 "ValueError.__new__" = true
noncomputable def abY (K:PySem.W.Frag) (c:String):Prop:=∃ C,PySem.W.nsIn K mainGlobals (Str.ofString c)=some (some (.ref C))/\Ah K C
noncomputable def XD (K:PySem.W.Frag) (P:String) (tab:List String):Prop:=∃ CP,PySem.W.nsIn K mainGlobals (Str.ofString P)=some (some (.ref CP))/\∀ c∈tab,∃ C,PySem.W.nsIn K mainGlobals (Str.ofString c)=some (some (.ref C))/\PySem.W.exmOne K (.ref C) (.ref CP)=some true
noncomputable def jy (K:PySem.W.Frag):List String->List V->Prop
 | [],[]=>True
 | t :: ts,v :: vs=>((∃ C,v = .ref C/\PySem.W.nsIn K mainGlobals (Str.ofString t)=some (some (.ref C)))∨(v = .ty t/\PySem.W.nsIn K mainGlobals (Str.ofString t)=some none/\bootBuiltins (Str.ofString t)=some (.type t)/\Str.ofString t≠"__name__"))/\jy K ts vs
 | _,_=>False
noncomputable def XC (K:PySem.W.Frag) (tt:Bool) (ts:List String) (tab:List (String×Bool)):Prop:=∃ vs,jy K ts vs/\∀ p∈tab,∃ C,PySem.W.nsIn K mainGlobals (Str.ofString p.1)=some (some (.ref C))/\Ah K C /\
 (if tt=true then PySem.W.kitAny K (.ref C) (vs.map SX)=some p.2 else ∃ v,vs=[v]/\PySem.W.kitOne K (.ref C) (SX v)=some p.2)
section
variable {K:PySem.W.Frag} {h:Heap} {mg:Str->Option Value} (X:K.In h) (G:h.Ns mainGlobals mg)
include X G
theorem Xy.at {c:String} (r:Xy K c):PK K mg c:=by
 obtain ⟨C,h1,h2⟩:=r
 exact ⟨C,h1,PySem.W.mg_of X G h1,h2⟩
theorem XD.at {P:String} {tab:List String} (r:XD K P tab):PX K mg P tab:=by
 obtain ⟨C,h1,h2⟩:=r
 exact ⟨C,PySem.W.mg_of X G h1,h2⟩
theorem jy.at:∀ {ts:List String} {vs:List V},jy K ts vs->Ak mg ts vs
 | [],[],_=>trivial
 | [],_ :: _,r=>r.elim
 | _ :: _,[],r=>r.elim
 | t :: ts,v :: vs,r=>by
  refine ⟨?_,jy.at r.2⟩
  rcases r.1 with ⟨C,e,h1⟩ | ⟨e,h1,h2,h3⟩
  ·exact .inl ⟨C,e,PySem.W.mg_of X G h1⟩
  ·exact .inr ⟨e,PySem.W.mg_none_of X G h1,h2,h3⟩
theorem XC.at {tt:Bool} {ts:List String} {tab:List (String×Bool)} (r:XC K tt ts tab):PN K mg tt ts tab:=by
 obtain ⟨vs,h1,h2⟩:=r
 exact ⟨vs,jy.at X G h1,h2⟩
end
noncomputable def TY (K:PySem.W.Frag) (f:String):List String->Prop
 | []=>True
 | c :: cs=>(abY K c/\Af K c f/\∃ C,PySem.W.nsIn K mainGlobals (Str.ofString c)=some (some (.ref C))/\PySem.W.hasDictIn K C=true)/\TY K f cs
theorem TY.at {K:PySem.W.Frag} {f:String}:∀ {tab:List String},TY K f tab->Qc K f tab
 | [],_,c,m=>by simp at m
 | x :: tab,h,c,m=>by
  rcases List.mem_cons.mp m with rfl | m
  ·obtain ⟨⟨C,a1,a2⟩,⟨C',b1,b2⟩,C'',c1,c2⟩:=h.1
   rw [a1] at b1 c1; cases b1; cases c1
   exact ⟨C,a1,a2,b2,c2⟩
  ·exact TY.at h.2 c m
end DW
end
section
namespace DW
open PySem
noncomputable def tags:List (List Nat):=[[],[],[97],[98],[97,98],[98,97],[122],[97,98,99,100,101,102,103,104]]
noncomputable def keyOk (k:Int):Prop:=-(10 ^ 40) < k/\k < 10 ^ 40
noncomputable def Ag (x:Itm):Prop:=keyOk x.1/\x.2∈tags
noncomputable def dB (μ:Mem) (n:Nat):Prop:=∃ b:Int,μ[n]? = some (.lst [.int b])
noncomputable def bx (μ:Mem) (n:Nat) (b:Int):Mem:=μ.set n (.lst [.int b])
def jk:cU:=fun ds μ Q=>match ds with
 | [.ro xs,.int k]=>∃ ns:List Int,xs=ns.map D.int/\ns.length < 1000/\0<=k/\∀ c,Q (.int c) μ
 | _=>False
def mj:cU:=fun ds μ Q=>match ds with
 | [.int c,.int k]=>0<=k/\k < 1000/\∀ r,0<=r->r < 142857144->Q (.int r) μ
 | _=>False
def oU:cU:=fun ds μ Q=>match ds with
 | [.ro xs,.int k]=>∃ ns:List Int,xs=ns.map D.int/\ns.length < 1000/\0<=k/\∀ b,Q (.loc μ.length) (μ ++ [.lst [.int b]])
 | _=>False
def bh:cU:=fun ds μ Q=>match ds with
 | [.loc n,.int m]=>dB μ n/\0 < m/\m < 2 ^ 500/\∀ d b,0<=d->d < m->Q (.int d) (bx μ n b)
 | _=>False
def lY:cU:=fun ds μ Q=>match ds with
 | [.loc n]=>dB μ n/\∀ t b,t∈tags->Q (.str t) (bx μ n b)
 | _=>False
def mq:cU:=fun ds μ Q=>match ds with
 | [.loc n]=>dB μ n/\∀ k b,keyOk k->Q (.int k) (bx μ n b)
 | _=>False
def lZ:cU:=fun ds μ Q=>match ds with
 | [.loc n,.int m]=>dB μ n/\0<=m/\m < 1000/\∀ (r:List Itm) b,(r.length:Int)<=m->(∀ x∈r,Ag x)->Q (.lst (r.map aQ)) (bx μ n b)
 | _=>False
def G7:List Str:=["script","k"]
noncomputable def Hs:Ss:=(.cons (.ite (.cmp .Lt (.var 1) (.blt "len" (.cons (.var 0) .nil))) (.cons (.ret (.idx (.var 0) (.var 1))) .nil) .nil) (.cons (.ret (.cst (.int 0))) .nil))
def M6:List Str:=["cell","k","some","stir"]
noncomputable def Od:Ss:=(.cons (.set 2 (.lst false (.cons (.cst (.int 48271)) (.cons (.cst (.int 69621)) (.cons (.cst (.int 16807)) (.cons (.cst (.int 39373)) (.cons (.cst (.int 30269)) (.cons (.cst (.int 40014)) (.cons (.cst (.int 40692)) (.cons (.cst (.int 50021)) (.cons (.cst (.int 61687)) (.cons (.cst (.int 71993)) (.cons (.cst (.int 83869)) (.cons (.cst (.int 95561)) (.cons (.cst (.int 30307)) .nil))))))))))))))) (.cons (.set 3 (.bin .Add (.bin .Add (.bin .Mult (.bin .Add (.bin .Mod (.var 0) (.cst (.int 2147483647))) (.cst (.int 12345))) (.idx (.var 2) (.bin .Mod (.var 1) (.cst (.int 13))))) (.bin .Mult (.cst (.int 977)) (.var 1))) (.bin .Mult (.cst (.int 7919)) (.bin .FloorDiv (.var 1) (.cst (.int 13)))))) (.cons (.set 3 (.bin .Mod (.var 3) (.cst (.int 1000000007)))) (.cons (.ret (.bin .FloorDiv (.bin .Mod (.bin .Add (.bin .Mult (.var 3) (.var 3)) (.bin .Mult (.cst (.int 48271)) (.var 1))) (.cst (.int 1000000007))) (.cst (.int 7)))) .nil))))
def M8:List Str:=["script","k","cell","number","j"]
noncomputable def Og:Ss:=(.cons (.set 2 (.call "_law_cell" jk (.cons (.var 0) (.cons (.var 1) .nil)))) (.cons (.ite (.cmp .Eq (.bin .Mod (.var 2) (.cst (.int 2))) (.cst (.int 0))) (.cons (.ret (.lst true (.cons (.bin .FloorDiv (.blt "abs" (.cons (.var 2) .nil)) (.cst (.int 2))) .nil))) .nil) .nil) (.cons (.set 3 (.cst (.int 0))) (.cons (.for_ [4] false (.rng (.cons (.cst (.int 40)) .nil)) (.cons (.set 3 (.bin .Add (.bin .Mult (.var 3) (.cst (.int 142857143))) (.call "_law_mix" mj (.cons (.var 2) (.cons (.var 4) .nil))))) .nil)) (.cons (.ret (.lst true (.cons (.var 3) .nil))) .nil)))))
def G5:List Str:=["box","many","left","digit"]
noncomputable def Hq:Ss:=(.cons (.Ei [2,3] (.blt "divmod" (.cons (.idx (.var 0) (.cst (.int 0))) (.cons (.var 1) .nil)))) (.cons (.uG (.var 0) (.cst (.int 0)) (.var 2)) (.cons (.ret (.var 3)) .nil)))
def M4:List Str:=["box","some"]
noncomputable def Ob:Ss:=(.cons (.set 1 (.lst false (.cons (.cst (.str [])) (.cons (.cst (.str [])) (.cons (.cst (.str [97])) (.cons (.cst (.str [98])) (.cons (.cst (.str [97,98])) (.cons (.cst (.str [98,97])) (.cons (.cst (.str [122])) (.cons (.cst (.str [97,98,99,100,101,102,103,104])) .nil)))))))))) (.cons (.ret (.idx (.var 1) (.call "_law_take" bh (.cons (.var 0) (.cons (.cst (.int 8)) .nil))))) .nil))
def M7:List Str:=["box","way"]
noncomputable def Oe:Ss:=(.cons (.set 1 (.call "_law_take" bh (.cons (.var 0) (.cons (.cst (.int 8)) .nil)))) (.cons (.ite (.cmp .Eq (.var 1) (.cst (.int 7))) (.cons (.ret (.bin .Add (.bin .Sub (.call "_law_take" bh (.cons (.var 0) (.cons (.bin .Sub (.bin .Mult (.cst (.int 2)) (.bin .Pow (.cst (.int 10)) (.cst (.int 40)))) (.cst (.int 1))) .nil))) (.bin .Pow (.cst (.int 10)) (.cst (.int 40)))) (.cst (.int 1)))) .nil) .nil) (.cons (.ret (.bin .Sub (.call "_law_take" bh (.cons (.var 0) (.cons (.idx (.lst false (.cons (.cst (.int 3)) (.cons (.cst (.int 9)) (.cons (.cst (.int 9)) (.cons (.cst (.int 9)) (.cons (.cst (.int 30)) (.cons (.cst (.int 30)) (.cons (.cst (.int 4)) .nil)))))))) (.var 1)) .nil))) (.idx (.lst false (.cons (.cst (.int 0)) (.cons (.cst (.int 0)) (.cons (.cst (.int 4)) (.cons (.cst (.int 0)) (.cons (.cst (.int 15)) (.cons (.cst (.int 0)) (.cons (.cst (.int 2)) .nil)))))))) (.var 1)))) .nil)))
def M5:List Str:=["box","most"]
noncomputable def Oc:Ss:=(.cons (.ret (.comp false 1 false [0] (.tup (.cons (.call "_law_key" mq (.cons (.var 1) .nil)) (.cons (.call "_law_tag" lY (.cons (.var 1) .nil)) .nil))) (.rng (.cons (.call "_law_take" bh (.cons (.var 0) (.cons (.bin .Add (.var 1) (.cst (.int 1))) .nil))) .nil)) .nil)) .nil)
theorem cX {μ:Mem} {n:Nat} {b:Int} (h:dB μ n):dB (bx μ n b) n:=by
 obtain ⟨c,h⟩:=h
 exact ⟨b,by unfold bx; rw [List.getElem?_set_self (List.getElem?_eq_some_iff.mp h).1]⟩
theorem qK {μ:Mem} {b:Int}:dB (μ ++ [.lst [.int b]]) μ.length:=⟨b,by simp⟩
theorem nq {μ:Mem} {n:Nat} {b c:Int}:bx (bx μ n b) n c=bx μ n c:=by simp [bx]
theorem R7:Keeps G7 Hs jk:=by
 intro ds μ Q h
 unfold jk at h
 split at h
 ·obtain ⟨ns,rfl,hl,hk,h⟩:=h
  rename_i k
  simp [Hs,G7,aH,bO,wSs,wS,wT,wE,wEs,aX,lenOf,aq,bK,sX,fU]
  by_cases hk2:k < ns.length
  ·have e:n6 ns.length k=some k.toNat:=by simp [n6,hk,hk2]
   have h2:k.toNat < ns.length:=by lia
   simp [hk2,cL,aq,e,h2,h]
  ·simp [hk2,h]
 ·exact h.elim
theorem R5:Keeps G5 Hq bh:=by
 intro ds μ Q h
 unfold bh at h
 split at h
 ·obtain ⟨⟨b,hb⟩,h0,hm,h⟩:=h
  rename_i n m
  have hc:rJ m:=⟨h0,hm⟩
  simp [Hq,G5,aH,bO,wSs,wS,wT,wE,wEs,cL,aq,hb,n6,aX,hc,cZ,fH]
  exact h _ _ (Int.emod_nonneg _ (by lia)) (Int.emod_lt_of_pos _ h0)
 ·exact h.elim
theorem Wz:Keeps M6 Od mj:=by
 intro ds μ Q h
 unfold mj at h
 split at h
 ·obtain ⟨h0,hm,h⟩:=h
  rename_i c k
  have e:n6 13 (k % 13)=some (k % 13).toNat:=by
   have q1:0<=k % 13:=by lia
   have q2:k % 13 < 13:=by lia
   simp [n6,q1,q2]
  have hr:=h
  have Zj:(k % 13).toNat < 13:=by lia
  have hz:∃ z:Int,([D.int 48271,.int 69621,.int 16807,.int 39373,.int 30269,.int 40014,.int 40692,.int 50021,.int 61687,.int 71993,.int 83869,.int 95561,.int 30307]:List D)[(k % 13).toNat]? = some (.int z)/\0 < z/\z < 100000:=by
   generalize (k % 13).toNat=j at Zj
   match j,Zj with
   | 0,_=>exact ⟨_,rfl,by decide⟩
   | 1,_=>exact ⟨_,rfl,by decide⟩
   | 2,_=>exact ⟨_,rfl,by decide⟩
   | 3,_=>exact ⟨_,rfl,by decide⟩
   | 4,_=>exact ⟨_,rfl,by decide⟩
   | 5,_=>exact ⟨_,rfl,by decide⟩
   | 6,_=>exact ⟨_,rfl,by decide⟩
   | 7,_=>exact ⟨_,rfl,by decide⟩
   | 8,_=>exact ⟨_,rfl,by decide⟩
   | 9,_=>exact ⟨_,rfl,by decide⟩
   | 10,_=>exact ⟨_,rfl,by decide⟩
   | 11,_=>exact ⟨_,rfl,by decide⟩
   | 12,_=>exact ⟨_,rfl,by decide⟩
  obtain ⟨z,hz,z1,z2⟩:=hz
  simp [Od,M6,aH,bO,wSs,wS,wT,wE,wEs,cL,aq,newL,lim,gB,rJ,e]
  rw [hz]
  have m1:rH (c % 2147483647 + 12345) z:=.inr (by lia)
  have m2:rH 977 k:=.inl (by lia)
  have m3:rH 7919 (k / 13):=.inl (by lia)
  have m5:rH 48271 k:=.inl (by lia)
  simp only [m1,m2,m3,m5,true_and]
  generalize hv:((c % 2147483647 + 12345) * z + 977 * k + 7919 * (k / 13)) % 1000000007=v
  have m4:rH v v:=.inl (by lia)
  refine ⟨m4,h _ (by lia) (by lia)⟩
 ·exact h.elim
theorem WK:Keeps M8 Og oU:=by
 intro ds μ Q h
 unfold oU at h
 split at h
 ·obtain ⟨ns,rfl,hl,hk,h⟩:=h
  rename_i k
  simp [Og,M8,aH,bO,wSs,wS,wT,wE,wEs,wI,jk]
  refine ⟨ns,rfl,hl,hk,fun c=>?_⟩
  simp [gB,bK,flat,fU]
  by_cases hc:jz (.int (c % 2)) (.int 0)=true
  ·simp [hc,aX,rJ,lim,newL,h]
  ·simp only [hc,if_neg,Bool.false_eq_true,not_false_eq_true,rK,j4]
   refine ⟨by decide,by decide,?_⟩
   refine bF (fun ds ρ μ'=>μ'=μ/\(∀ d∈ds,∃ i:Int,d = .int i/\0<=i/\i < 1000)/\∃ v w,ρ=[some (.ro (ns.map D.int)),some (.int k),some (.int c),some (.int v),w]) ?_ ?_ _ _ _ ⟨rfl,?_,0,none,rfl⟩
   ·rintro d ds ρ μ' N hN ⟨rfl,hd,v,w,rfl⟩
    obtain ⟨i,rfl,i0,i1⟩:=hd d (by simp)
    refine ⟨trivial,?_⟩
    simp [cZ,gB,rH,mj,i0,i1]
    intro r _ _
    exact hN _ _ ⟨rfl,fun d q=>hd d (by simp [q]),_,_,rfl⟩
   ·rintro ρ μ' ⟨rfl,-,v,w,rfl⟩
    refine ⟨trivial,?_⟩
    simp [lim,newL]
    exact h _
   ·intro d hd
    simp only [dD,List.mem_map,List.mem_range] at hd
    obtain ⟨j,hj,rfl⟩:=hd
    exact ⟨_,rfl,by lia,by lia⟩
 ·exact h.elim
theorem Wx:Keeps M4 Ob lY:=by
 intro ds μ Q h
 unfold lY at h
 split at h
 ·obtain ⟨hb,h⟩:=h
  rename_i n
  simp [Ob,M4,aH,bO,wSs,wS,wT,wE,wEs,cL,aq,newL,lim,bh,hb]
  intro d b d0 d8
  have e:n6 8 d=some d.toNat:=by simp [n6,d0,d8]
  rw [e]
  have hd:d.toNat < 8:=by lia
  simp only [Option.bind_some]
  generalize d.toNat=j at hd
  match j,hd with
  | 0,_=>exact h _ _ (by decide)
  | 1,_=>exact h _ _ (by decide)
  | 2,_=>exact h _ _ (by decide)
  | 3,_=>exact h _ _ (by decide)
  | 4,_=>exact h _ _ (by decide)
  | 5,_=>exact h _ _ (by decide)
  | 6,_=>exact h _ _ (by decide)
  | 7,_=>exact h _ _ (by decide)
 ·exact h.elim
theorem WD:Keeps M7 Oe mq:=by
 intro ds μ Q h
 unfold mq at h
 split at h
 ·obtain ⟨hb,h⟩:=h
  rename_i n
  simp [Oe,M7,aH,bO,wSs,wS,wT,wE,wEs,bh,hb,bK,flat,fU]
  intro d b d0 d8
  have hb2:=cX (b:=b) hb
  by_cases h7:d=7
  ·subst h7
   simp [jz,gB,U0,rH,hb2,nq]
   intro a b' a0 a1
   exact h _ _ ⟨by lia,by lia⟩
  ·have e7:jz (.int d) (.int 7)=false:=by simp [jz,h7]
   have e:n6 7 d=some d.toNat:=by simp [n6,d0]; lia
   simp [e7,newL,cL,aq,lim,e]
   have hd:d.toNat < 7:=by lia
   generalize d.toNat=j at hd
   match j,hd with
   | 0,_=>simp [hb2,nq,gB]; intro a b' a0 a1; exact h _ _ ⟨by lia,by lia⟩
   | 1,_=>simp [hb2,nq,gB]; intro a b' a0 a1; exact h _ _ ⟨by lia,by lia⟩
   | 2,_=>simp [hb2,nq,gB]; intro a b' a0 a1; exact h _ _ ⟨by lia,by lia⟩
   | 3,_=>simp [hb2,nq,gB]; intro a b' a0 a1; exact h _ _ ⟨by lia,by lia⟩
   | 4,_=>simp [hb2,nq,gB]; intro a b' a0 a1; exact h _ _ ⟨by lia,by lia⟩
   | 5,_=>simp [hb2,nq,gB]; intro a b' a0 a1; exact h _ _ ⟨by lia,by lia⟩
   | 6,_=>simp [hb2,nq,gB]; intro a b' a0 a1; exact h _ _ ⟨by lia,by lia⟩
 ·exact h.elim
theorem Wy:Keeps M5 Oc lZ:=by
 intro ds μ Q h
 unfold lZ at h
 split at h
 ·obtain ⟨hb,m0,m1,h⟩:=h
  rename_i n m
  simp [Oc,M5,aH,bO,wSs,wS,wE,wEs,wI,wTs,gB,bh,hb,rK,j4]
  refine ⟨by lia,by lia,fun d b d0 d1=>⟨by simp only [lim]; lia,by lia,?_⟩⟩
  refine gH (fun ds acc μ'=>∃ (r:List Itm) (b:Int),acc=r.map aQ/\μ'=bx μ n b/\(∀ x∈r,Ag x)/\((r.length + ds.length:Nat):Int)<=m) ?_ ?_ _ _ _ ⟨[],b,rfl,rfl,by simp,?_⟩
  ·rintro d ds acc μ' Y N hY hN ⟨r,b,rfl,rfl,hr,hl⟩
   have hb2:=cX (b:=b) hb
   simp [bindC,mq,lY,hb2]
   intro k b2 hk
   simp only [nq]
   refine ⟨cX hb,fun t b3 ht=>⟨by decide,hY _ _ ⟨r ++ [(k,t)],b3,by simp [aQ],rfl,?_,?_⟩⟩⟩
   ·intro x hx
    simp at hx
    rcases hx with hx | rfl
    ·exact hr x hx
    ·exact ⟨hk,ht⟩
   ·simp at hl ⊢; lia
  ·rintro acc μ' ⟨r,b,rfl,rfl,hr,hl⟩
   refine ⟨trivial,?_⟩
   simp [newL]
   exact h _ _ (by simp at hl; lia) hr
  ·simp [dD]; lia
 ·exact h.elim
end DW
end
section
namespace DW
open PySem
noncomputable def ga (r:List Itm) (p:Nat):Nat:=match r[p]? with | some x=>((r.take p).filter fun y=>eE x y).length | none=>0
noncomputable def Jy (r:List Itm):List Int:=(List.range r.length).map fun p=>(ga r p:Int)
noncomputable def mx:List Int->Int
 | []=>0
 | i :: is=>is.foldl max i
def sH:cU:=fun ds μ Q=>∃ x y:Itm,ds=[aQ x,aQ y]/\Q (.bl (eE x y)) μ
def xJ:cU:=fun ds μ Q=>∃ x y:Itm,ds=[aQ x,aQ y]/\Q (.bl (eE x y)) μ
noncomputable def SN (μ:Mem) (n:Nat):Bool:=match μ[n]? with | some (.j9 _ _)=>true | _=>false
theorem Xh {μ:Mem} {n:Nat} (h:SN μ n=true):tyOf μ (.loc n)=some "dict":=by
 unfold SN at h
 simp only [tyOf]
 split at h
 ·rename_i e; rw [e]
 ·cases h
def qm:cU:=fun ds μ Q=>match ds with
 | [.int _]=>Q (.bl true) μ
 | [.loc n]=>SN μ n=true/\Q (.bl false) μ
 | [.ro _]=>False
 | [.Dw _ _]=>False
 | [_]=>Q (.bl false) μ
 | _=>False
noncomputable def posR (x:Itm) (l:List Itm):Nat->Nat
 | 0=>0
 | n + 1=>match l[n]? with | some y=>if eE x y=true then posR x l n else n + 1 | none=>n + 1
noncomputable def pH (x:Itm) (l:List Itm):List Itm:=l.take (posR x l l.length) ++ x :: l.drop (posR x l l.length)
noncomputable def Gy (r:List Itm):List Itm:=r.foldl (fun l x=>pH x l) []
def uz:cU:=fun ds μ Q=>∃ r:List Itm,ds=[.lst (r.map aQ)]/\r.length < 1000/\Q (.lst ((Gy r).map aQ)) (μ ++ [.gone])
def MP:List Str:=["one","other"]
noncomputable def Oa:Ss:=(.cons (.ret (.cmp .Lt (.var 0) (.var 1))) .nil)
def BX:List Str:=["one","other"]
noncomputable def CG:Ss:=(.cons (.ret (.or (.cmp .Lt (.idx (.var 0) (.cst (.int 0))) (.idx (.var 1) (.cst (.int 0)))) (.and (.cmp .Eq (.idx (.var 0) (.cst (.int 0))) (.idx (.var 1) (.cst (.int 0)))) (.cmp .Lt (.idx (.var 0) (.cst (.int 1))) (.idx (.var 1) (.cst (.int 1))))))) .nil)
def xV:List Str:=["row","found","item","at"]
noncomputable def yg:Ss:=(.cons (.set 1 (.lst true .nil)) (.cons (.for_ [2] false (.seq (.var 0)) (.cons (.set 3 (.blt "len" (.cons (.var 1) .nil))) (.cons (.whl (.and (.cmp .Gt (.var 3) (.cst (.int 0))) (.call "_law_under" xJ (.cons (.var 2) (.cons (.idx (.var 1) (.bin .Sub (.var 3) (.cst (.int 1)))) .nil)))) (.cons (.set 3 (.bin .Sub (.var 3) (.cst (.int 1)))) .nil)) (.cons (.exp (.meth "insert" (.var 1) (.cons (.var 3) (.cons (.var 2) .nil)))) .nil)))) (.cons (.ret (.iz (.var 1))) .nil)))
def o9:List Str:=["thing"]
noncomputable def pL:Ss:=(.cons (.ret (.and (.isin (.var 0) "int") (.not (.isin (.var 0) "bool")))) .nil)
theorem Ww:Keeps MP Oa sH:=by
 rintro ds μ Q ⟨x,y,rfl,h⟩
 simp [Oa,MP,aH,bO,wSs,wS,wT,wE,wEs,aQ,bK,sX,rM,jz,XR]
 by_cases e:x.1=y.1
 ·simp [eE,e] at h
  by_cases e2:x.2=y.2
  ·rw [e2,vf] at h
   simp [e,e2]; exact h
  ·simp [e,e2]; exact h
 ·simp [eE,e] at h
  simp [e]; exact h
theorem N5:Keeps BX CG xJ:=by
 rintro ds μ Q ⟨x,y,rfl,h⟩
 simp [CG,BX,aH,bO,wSs,wS,wT,wE,wEs,aQ,bK,cL,aq,n6,sX,fU,flat,jz]
 by_cases e:x.1=y.1
 ·simp [eE,e] at h
  simp [e]; exact h
 ·simp [eE,e] at h
  by_cases e2:x.1 < y.1
  ·simp [e2] at h ⊢; exact h
  ·simp [e2] at h ⊢; simp [e]; exact h
theorem NZ:Keeps o9 pL qm:=by
 intro ds μ Q h
 unfold qm at h
 split at h
 ·simpa [pL,o9,aH,bO,wSs,wS,wE,tV,tyOf,Jq,fU] using h
 ·simpa [pL,o9,aH,bO,wSs,wS,wE,tV,Xh h.1,Jq,fU] using h.2
 ·exact h.elim
 ·exact h.elim
 ·rename_i d h1 h2 h3 h4
  cases d with
  | int i=>exact absurd rfl (h1 i)
  | loc i=>exact absurd rfl (h2 i)
  | ro i=>exact absurd rfl (h3 i)
  | Dw i j=>exact absurd rfl (h4 i j)
  | _=>simpa [pL,o9,aH,bO,wSs,wS,wE,tV,tyOf,Jq,fU] using h
 ·exact h.elim
theorem yR (x:Itm) (l:List Itm):∀ n,posR x l n<=n
 | 0=>Nat.le_refl 0
 | n + 1=>by
  unfold posR
  split
  ·split
   ·exact Nat.le_succ_of_le (yR x l n)
   ·exact Nat.le_refl _
  ·exact Nat.le_refl _
theorem Cz (x:Itm) (l:List Itm):(pH x l).length=l.length + 1:=by
 have:=yR x l l.length
 simp [pH]; lia
theorem Jo:Keeps xV yg uz:=by
 rintro ds μ Q ⟨r,rfl,hl,h⟩
 simp [yg,xV,aH,bO,wSs,wS,wE,wEs,wI,newL,yI,lim]
 refine bF (fun ds ρ μ'=>∃ (l r2:List Itm) (u v:Option D),ds=r2.map aQ/\μ'=μ ++ [.lst (l.map aQ)]/\l.length + r2.length < 1000/\r2.foldl (fun l x=>pH x l) l=Gy r/\ρ=[some (.lst (r.map aQ)),some (.loc μ.length),u,v]) ?_ ?_ _ _ _ ⟨[],r,none,none,rfl,rfl,by simpa using hl,rfl,rfl⟩
 ·rintro d ds ρ μ' N hN ⟨l,r2,u,v,e,rfl,h1,h2,rfl⟩
  cases r2 with
  | nil=>simp at e
  | cons x r2 =>
   simp at e
   obtain ⟨rfl,rfl⟩:=e
   refine ⟨trivial,?_⟩
   simp [cZ,aX,lenOf,aq]
   refine ⟨fun m ρ μ'=>m<=l.length/\posR x l m=posR x l l.length/\μ'=μ ++ [.lst (l.map aQ)]/\ρ=[some (.lst (r.map aQ)),some (.loc μ.length),some (aQ x),some (.int m)],⟨l.length,by simp⟩,?_⟩
   rintro m ρ μ' ⟨hm,hq,rfl,rfl⟩
   simp [wT,wE,wEs,bK,fU,gB]
   cases m with
   | zero =>
    simp [isCell,fP,cV,lim]
    refine ⟨by simp at h1; lia,?_⟩
    refine hN _ _ ⟨pH x l,r2,_,_,rfl,?_,?_,?_,rfl⟩
    ·simp [pH,<- hq,posR]
    ·rw [Cz]; simp at h1; lia
    ·simpa using h2
   | succ m =>
    have hml:m < l.length:=by lia
    have e1:((m + 1:Nat):Int) - 1=(m:Int):=by lia
    have e2:(l.map aQ)[m]? = some (aQ l[m]):=by simp [hml]
    have e3:0 < ((m + 1:Nat):Int):=by lia
    simp only [e3,e1]
    simp [cL,aq,cu hml,e2,hml]
    have e4:posR x l (m + 1)=if eE x l[m]=true then posR x l m else m + 1:=by
     simp [posR,hml]
    refine ⟨x,l[m],rfl,?_⟩
    simp [iB,truth]
    by_cases hx:eE x l[m]=true
    ·simp [hx]
     refine ⟨m,by lia,by lia,?_,?_⟩
     ·rw [<- hq,e4,if_pos hx]
     ·simp
    ·simp [hx,isCell,fP,cV,lim]
     rw [if_neg hx] at e4
     refine ⟨by lia,by lia,by simp at h1; lia,?_⟩
     refine hN _ _ ⟨pH x l,r2,_,_,rfl,?_,?_,?_,rfl⟩
     ·have:((m:Int) + 1).toNat=m + 1:=by lia
      simp [pH,<- hq,e4,this,List.map_take,List.map_drop]
     ·rw [Cz]; simp at h1; lia
     ·simpa using h2
 ·rintro ρ μ' ⟨l,r2,u,v,e,rfl,h1,h2,rfl⟩
  cases r2 with
  | cons x r2=>simp at e
  | nil =>
   refine ⟨trivial,?_⟩
   simp at h2
   subst h2
   simpa [DK] using h
theorem Xa (r:List Itm):∀ i∈Jy r,0<=i:=by
 intro i hi
 simp [Jy] at hi
 obtain ⟨p,_,rfl⟩:=hi
 lia
end DW
end
section
namespace DW
theorem Ju (x:Itm) (l:List Itm):(pH x l).Perm (x :: l):=by
 unfold pH
 refine (List.perm_middle).trans ?_
 rw [List.take_append_drop]
theorem wJ (r:List Itm):∀ l:List Itm,(r.foldl (fun l x=>pH x l) l).Perm (l ++ r):=by
 induction r with
 | nil=>intro l; simp
 | cons x r ih =>
  intro l
  rw [List.foldl_cons]
  refine (ih _).trans (((Ju x l).append_right r).trans ?_)
  exact List.perm_middle.symm
theorem oO (r:List Itm):(Gy r).Perm r:=by simpa [Gy] using wJ r []
theorem xM (x:Itm) (l:List Itm):∀ n,n<=l.length->(∀ i (h:i < l.length),posR x l n<=i->i < n->eE x l[i]=true)/\(∀ i (h:i < l.length),i + 1=posR x l n->eE x l[i]=false)
 | 0,_=>⟨fun i h h1 h2=>by lia,fun i h h1=>by simp [posR] at h1⟩
 | n + 1,hn=>by
  have hl:n < l.length:=by lia
  have e:l[n]? = some l[n]:=List.getElem?_eq_getElem hl
  unfold posR
  rw [e]
  simp only
  by_cases c:eE x l[n]=true
  ·rw [if_pos c]
   obtain ⟨h1,h2⟩:=xM x l n (by lia)
   refine ⟨fun i h a b=>?_,h2⟩
   by_cases z:i=n
   ·subst z; exact c
   ·exact h1 i h a (by lia)
  ·rw [if_neg c]
   refine ⟨fun i h a b=>by lia,fun i h a=>?_⟩
   have:i=n:=by lia
   subst this
   simpa using c
theorem Cy (x:Itm) (l:List Itm) (h:aY l):aY (pH x l):=by
 obtain ⟨h1,h2⟩:=xM x l l.length (Nat.le_refl _)
 have hp:=yR x l l.length
 unfold pH
 generalize posR x l l.length=t at h1 h2 hp
 have hl:=List.pairwise_iff_getElem.mp h
 have lo:∀ y∈l.take t,eE x y=false:=by
  intro y hy
  obtain ⟨i,hi,rfl⟩:=List.mem_iff_getElem.mp hy
  have hi2:i < t/\i < l.length:=by simp at hi; lia
  rw [List.getElem_take]
  have hz:=h2 (t - 1) (by lia) (by lia)
  by_cases q:i=t - 1
  ·subst q; exact hz
  ·exact fK _ _ _ (hl i (t - 1) hi2.2 (by lia) (by lia)) hz
 have hi:∀ y∈l.drop t,eE y x=false:=by
  intro y hy
  obtain ⟨i,hi,rfl⟩:=List.mem_iff_getElem.mp hy
  rw [List.getElem_drop]
  have:t + i < l.length:=by simp at hi; lia
  exact lE _ _ (h1 (t + i) this (by lia) this)
 have parts:=h
 rw [<- List.take_append_drop t l] at parts
 obtain ⟨p1,p2,p3⟩:=List.pairwise_append.mp parts
 refine List.pairwise_append.mpr ⟨p1,List.pairwise_cons.mpr ⟨fun y hy=>hi y hy,p2⟩,fun a ha b hb=>?_⟩
 simp at hb
 rcases hb with rfl | hb
 ·exact lo a ha
 ·exact p3 a ha b hb
theorem uq (r:List Itm):aY (Gy r):=by
 have:∀ (r l:List Itm),aY l->aY (r.foldl (fun l x=>pH x l) l):=by
  intro r
  induction r with
  | nil=>intro l h; exact h
  | cons x r ih=>intro l h; exact ih _ (Cy x l h)
 exact this r [] .nil
theorem K4 {a r:List Itm} (p:a.Perm r) (h:aY a):a=Gy r:=kZ (p.trans (oO r).symm) h (uq r)
end DW
end
section
namespace DW
noncomputable def cnt (A:List Itm) (x:Itm):Nat:=(A.filter (eE x)).length
noncomputable def gf:List Itm->List Itm->List Int
 | _,[]=>[]
 | A,x :: l=>(cnt A x:Int) :: gf (A ++ [x]) l
theorem Uo:∀ (l A:List Itm),gf A l=(List.range l.length).map fun p=>(ga (A ++ l) (A.length + p):Int)
 | [],A=>rfl
 | x :: l,A=>by
  have h:=Uo l (A ++ [x])
  rw [gf,h,List.length_cons,List.range_succ_eq_map,List.map_cons,List.map_map]
  congr 1
  ·simp [ga,cnt]
  ·refine List.map_congr_left fun p _=>?_
   simp [Nat.add_assoc,Nat.add_comm 1 p]
theorem Oo (r:List Itm):Jy r=gf [] r:=by
 rw [Uo]
 simp [Jy]
noncomputable def Dv (l:List Int):Int:=l.foldr max 0
theorem yX:∀ l:List Int,0<=Dv l
 | []=>Int.le_refl _
 | i :: l=>by have:=yX l; show 0<=max i (Dv l); lia
theorem uW:∀ a b:List Int,Dv (a ++ b)=max (Dv a) (Dv b)
 | [],b=>by have:=yX b; show Dv b=max 0 (Dv b); lia
 | i :: a,b=>by
  show max i (Dv (a ++ b))=max (max i (Dv a)) (Dv b)
  rw [uW a b]; lia
theorem CN:∀ (l:List Int) (i:Int),0<=i->l.foldl max i=max i (Dv l)
 | [],i,h=>by show i=max i 0; lia
 | j :: l,i,h=>by
  rw [List.foldl_cons,CN l (max i j) (by lia)]
  show max (max i j) (Dv l)=max i (max j (Dv l)); lia
theorem Y5 (l:List Int) (h:∀ i∈l,0<=i):mx l=Dv l:=by
 cases l with
 | nil=>rfl
 | cons i l=>exact CN l i (h i (by simp))
theorem M9 (r:List Itm):mx (Jy r)=Dv (gf [] r):=by rw [Y5 _ (Xa r),Oo]
theorem O5 {A B:List Itm} (p:A.Perm B) (x:Itm):cnt A x=cnt B x:=(p.filter _).length_eq
theorem Di (A:List Itm) (x y:Itm):cnt (A ++ [x]) y=cnt A y + if eE y x=true then 1 else 0:=by
 unfold cnt
 rw [List.filter_append,List.length_append]
 by_cases h:eE y x=true
 ·simp [h]
 ·simp [h]
theorem Hu:∀ (l:List Itm) {A B:List Itm},A.Perm B->gf A l=gf B l
 | [],A,B,_=>rfl
 | x :: l,A,B,p=>by rw [gf,gf,O5 p,Hu l (p.append_right [x])]
theorem yh:∀ (B A C:List Itm),gf A (B ++ C)=gf A B ++ gf (A ++ B) C
 | [],A,C=>by simp [gf]
 | x :: B,A,C=>by simp [gf,yh B (A ++ [x]) C]
theorem O6 {x y:Itm} (h:eE x y=true):∀ A:List Itm,cnt A y<=cnt A x
 | []=>Nat.le_refl _
 | z :: A=>by
  have ih:=O6 h A
  unfold cnt at ih ⊢
  by_cases q:eE y z=true
  ·have q2:eE x z=true:=by
    cases q3:eE x z with
    | true=>rfl
    | false =>
     have:=fK z x y q3 (lE _ _ h)
     rw [q] at this; cases this
   rw [List.filter_cons_of_pos q,List.filter_cons_of_pos q2,List.length_cons,List.length_cons]
   lia
  ·rw [List.filter_cons_of_neg q]
   by_cases q2:eE x z=true
   ·rw [List.filter_cons_of_pos q2,List.length_cons]; lia
   ·rw [List.filter_cons_of_neg q2]; exact ih
theorem exchanged (A B:List Itm) (x y:Itm) (h:eE x y=true) :
  (Jy (A ++ y :: x :: B)).sum=(Jy (A ++ x :: y :: B)).sum + 1/\mx (Jy (A ++ x :: y :: B))<=mx (Jy (A ++ y :: x :: B))/\mx (Jy (A ++ y :: x :: B)) - 1<=mx (Jy (A ++ x :: y :: B))/\1<=mx (Jy (A ++ y :: x :: B))/\1<=(Jy (A ++ y :: x :: B)).sum:=by
 have e:gf (A ++ [y] ++ [x]) B=gf (A ++ [x] ++ [y]) B:=Hu B (by
  simp only [List.append_assoc]
  exact List.Perm.append_left A (List.Perm.swap x y []))
 have c1:cnt (A ++ [y]) x=cnt A x + 1:=by rw [Di,if_pos h]
 have c2:cnt (A ++ [x]) y=cnt A y:=by rw [Di,if_neg (by rw [lE _ _ h]; simp)]; rfl
 have c3:=O6 h A
 have nn:∀ l A,(0:Int)<=(gf A l).sum:=by
  intro l
  induction l with
  | nil=>intro A; exact Int.le_refl _
  | cons z l ih=>intro A; have:=ih (A ++ [z]); rw [gf,List.sum_cons]; lia
 have n1:=nn A []
 have n2:=nn B (A ++ [x] ++ [y])
 rw [M9,M9]
 simp only [Oo,yh,gf,List.nil_append,c1,c2,e,List.sum_append,List.sum_cons,uW]
 have m1:=yX (gf [] A)
 have m2:=yX (gf (A ++ [x] ++ [y]) B)
 simp only [Dv,List.foldr_cons] at m1 m2 ⊢
 lia
noncomputable def Adj (r:List Itm):Prop:=∀ i (h:i + 1 < r.length),eE (r[i + 1]'h) (r[i]'(by lia))=false
theorem nJ {r:List Itm} (h:aY r):Adj r:=fun i hi=>(List.pairwise_iff_getElem.mp h) i (i + 1) (by lia) hi (by lia)
end DW
end
section
namespace DW
open PySem
end DW
end
section
namespace DW.Dy
open PySem DW
theorem iR {r:List Itm} (h:∀ x∈r,Ag x):flat 60 (.lst (r.map aQ))=true:=by
 unfold flat
 induction r with
 | nil=>rfl
 | cons x r ih =>
  rw [List.map_cons,flats,ih fun y hy=>h y (by simp [hy])]
  have:flat 59 (aQ x)=true:=by
   have ht:=(h x (by simp)).2
   have:∀ t∈tags,t.all (· < 1114112)=true:=by decide
   simp [aQ,flat,flats]
   simpa using this _ ht
  simp [this]
mutual
theorem CW:∀ (n:Nat) (d:D),flat n d=true->jz d d=true
 | n,.non,_=>rfl
 | n,.bl b,_=>by simp [jz]
 | n,.int i,_=>by simp [jz]
 | n,.str x,_=>by simp [jz]
 | 0,.tup ds,h=>by simp [flat] at h
 | n + 1,.tup ds,h=>by rw [jz]; exact qO n ds (by simpa [flat] using h)
 | 0,.lst ds,h=>by simp [flat] at h
 | n + 1,.lst ds,h=>by rw [jz]; exact qO n ds (by simpa [flat] using h)
 | n,.ro ds,h=>by simp [flat] at h
 | n,.loc ds,h=>by simp [flat] at h
 | n,.j9 ks ds,h=>by simp [flat] at h
theorem qO:∀ (n:Nat) (ds:List D),flats n ds=true->wV ds ds=true
 | n,[],_=>rfl
 | n,d :: ds,h=>by
  simp only [flats,Bool.and_eq_true] at h
  simp [wV,CW n d h.1,qO n ds h.2]
end
end DW.Dy
end
section
namespace DW
open PySem DW.Dy
theorem JC {x:Itm} (h:Ag x):flat 60 (aQ x)=true:=by
 have:∀ t∈tags,t.all (· < 1114112)=true:=by decide
 have:=this _ h.2
 simp [aQ,flat,flats]
 simpa using this
end DW
end
section
namespace DW
open PySem
def dX:cU:=fun ds μ Q=>match ds with
 | [.int _]=>Q (.bl true) μ
 | [.loc n]=>SN μ n=true/\Q (.bl false) μ
 | [.ro _]=>False
 | [.Dw _ _]=>False
 | [_]=>Q (.bl false) μ
 | _=>False
def Ey:List Str:=["thing"]
noncomputable def Ft:Ss:=(.cons (.ret (.and (.isin (.var 0) "int") (.not (.isin (.var 0) "bool")))) .nil)
theorem Fo:Keeps Ey Ft dX:=by
 have e:dX=qm:=rfl
 rw [e]; exact NZ
end DW
end
section
namespace DW
open PySem DW.Dy
theorem qL {μ ν:Mem} {n:Nat} (h:dB μ n):dB (μ ++ ν) n:=by
 obtain ⟨c,h⟩:=h
 exact ⟨c,by rw [List.getElem?_append_left (List.getElem?_eq_some_iff.mp h).1]; exact h⟩
theorem Xk {μ ν:Mem} {n:Nat} {b:Int} (h:dB μ n):bx (μ ++ ν) n b=bx μ n b ++ ν:=by
 obtain ⟨c,h⟩:=h
 unfold bx
 rw [List.set_append_left _ _ (List.getElem?_eq_some_iff.mp h).1]
structure LL (μ:Mem) (b n:Nat) (ls:List Nat) (rs:List (List Itm)):Prop where
 lo:b<=n
 at_:μ[n]? = some (.lst (ls.map D.loc))
 len:ls.length=rs.length
 sub:∀ l∈ls,b<=l/\l≠n
 row:∀ (i l:Nat) (r:List Itm),ls[i]? = some l->rs[i]? = some r->μ[l]? = some (.lst (r.map aQ))
theorem LL.app {μ:Mem} {b n:Nat} {ls:List Nat} {rs:List (List Itm)} (h:LL μ b n ls rs) (ν:Mem):LL (μ ++ ν) b n ls rs :=
 ⟨h.lo,by rw [List.getElem?_append_left (List.getElem?_eq_some_iff.mp h.at_).1]; exact h.at_,h.len,h.sub,fun i l r h1 h2=>by
  have:=h.row i l r h1 h2
  rw [List.getElem?_append_left (List.getElem?_eq_some_iff.mp this).1]; exact this⟩
noncomputable def cO (rs:List (List Itm)):List D:=rs.map fun r=>.lst (r.map aQ)
theorem rC {α β:Type} {l:List α} {m:List β} {p:α×β} (h:p∈l.zip m):∃ i:Nat,l[i]? = some p.1/\m[i]? = some p.2:=by
 obtain ⟨i,hi,rfl⟩:=List.mem_iff_getElem.mp h
 refine ⟨i,?_⟩
 have h1:i < l.length/\i < m.length:=by simp at hi; lia
 simp [h1.1,h1.2]
noncomputable def dJ (st:List (List Itm)) (x:Itm):List (List Itm):=match st.getLast? with
 | none=>st ++ [[x]]
 | some l=>match l.getLast? with
  | none=>st ++ [[x]]
  | some y=>if eE x y=true then st ++ [[x]] else st.dropLast ++ [l ++ [x]]
noncomputable def aW (r:List Itm):List (List Itm):=r.foldl dJ []
theorem zW (st:List (List Itm)) (x:Itm):∃ a l,dJ st x=a ++ [l ++ [x]]:=by
 unfold dJ
 split
 ·exact ⟨st,[],by simp⟩
 ·rename_i l hl
  split
  ·exact ⟨st,[],by simp⟩
  ·split
   ·exact ⟨st,[],by simp⟩
   ·exact ⟨st.dropLast,l,rfl⟩
theorem vU (a:List (List Itm)) (l:List Itm) (y x:Itm):dJ (a ++ [l ++ [y]]) x=if eE x y=true then a ++ [l ++ [y]] ++ [[x]] else a ++ [l ++ [y] ++ [x]]:=by
 simp [dJ]
theorem Df (st:List (List Itm)) (x:Itm):(dJ st x).length<=st.length + 1/\(dJ st x).flatten=st.flatten ++ [x]:=by
 unfold dJ
 split
 ·simp
 ·rename_i l hl
  split
  ·simp
  ·split
   ·simp
   ·obtain ⟨a,rfl⟩:=List.getLast?_eq_some_iff.mp hl
    simp
theorem iJ (r:List Itm) (x:Itm):aW (r ++ [x])=dJ (aW r) x:=by simp [aW]
theorem snoc_ind {α:Type} {P:List α->Prop} (h0:P []) (h1:∀ l x,P l->P (l ++ [x])) (l:List α):P l:=by
 have:∀ l:List α,P l.reverse:=by
  intro l
  induction l with
  | nil=>exact h0
  | cons x l ih=>rw [List.reverse_cons]; exact h1 _ _ ih
 have:=this l.reverse
 rwa [List.reverse_reverse] at this
theorem uT (r:List Itm):(aW r).length<=r.length/\(aW r).flatten=r:=by
 refine snoc_ind (P:=fun r=>(aW r).length<=r.length/\(aW r).flatten=r) (by simp [aW]) (fun r x ih=>?_) r
 rw [iJ]
 obtain ⟨h1,h2⟩:=Df (aW r) x
 refine ⟨by simp; lia,by rw [h2,ih.2]⟩
theorem rB (r:List Itm) (y:Itm):∃ a l,aW (r ++ [y])=a ++ [l ++ [y]]:=by
 rw [iJ]; exact zW _ _
theorem R9 {α:Type} (xs:List α) (x:α):(n6 (xs ++ [x]).length (-1)).bind ((xs ++ [x])[·]?)=some x:=by
 have e:n6 (xs ++ [x]).length (-1)=some xs.length:=by
  have h1:¬ (0:Int)<=-1:=by decide
  have h2 : -(((xs ++ [x]).length:Nat):Int)<=-1:=by simp; lia
  have h3:((-1:Int) + ((xs ++ [x]).length:Int)).toNat=xs.length:=by simp; lia
  simp only [n6,h1,h2,if_true,if_false,h3]
 rw [e]; simp
end DW
end
section
namespace DW
open PySem
theorem KY (μ:Mem) (n:Nat) (ds:List D):bW μ (n + 1) (.tup ds) = .tup (ds.map (bW μ n)):=rfl
theorem uh (μ:Mem) (n:Nat) (ds:List D):bW μ (n + 1) (.lst ds) = .lst (ds.map (bW μ n)):=rfl
theorem um {μ:Mem} {k:Nat} {ds:List D} (h:μ[k]? = some (.lst ds)) (n:Nat):bW μ (n + 1) (.loc k) = .lst (ds.map (bW μ n)):=by
 show (match μ[k]? with | some (.lst ds)=>D.lst (ds.map (bW μ n)) | _=>.loc k)=_
 rw [h]
theorem K1 (μ:Mem) (n:Nat) (i:Int):bW μ n (.int i) = .int i:=by cases n <;> rfl
theorem KZ (μ:Mem) (n:Nat) (x:List Nat):bW μ n (.str x) = .str x:=by cases n <;> rfl
theorem QB (μ:Mem) (n:Nat) (x:Itm):bW μ n (aQ x)=aQ x:=by
 cases n with
 | zero=>rfl
 | succ n=>simp [aQ,KY,K1,KZ]
theorem Bf {α:Type} (μ:Mem) (n:Nat) (f:α->D) (h:∀ x,bW μ n (f x)=f x) (l:List α):(l.map f).map (bW μ n)=l.map f:=by
 rw [List.map_map]; exact List.map_congr_left fun x _=>h x
end DW
end
section
namespace DW.Dz
open PySem DW DW.Dy
noncomputable abbrev Hd:=Option Itm
noncomputable def hdD:Hd->D
 | none=>.non
 | some x=>aQ x
noncomputable def gY:Option Nat->D
 | none=>.non
 | some p=>.int (p:Int)
noncomputable def mid (s b:Nat):Nat:=s + (b - s + 1) / 2
theorem cW {s b:Nat} (h:1 < b - s):s < mid s b/\mid s b < b:=by unfold mid; lia
noncomputable def rW (hs:List Hd):Option Nat->Option Nat->Option Nat
 | none,r=>r
 | some p,none=>some p
 | some p,some q=>match hs[q]?.join,hs[p]?.join with
  | some y,some x=>if eE y x=true then some q else some p
  | _,_=>some p
noncomputable def gM (hs:List Hd) (s b:Nat):Option Nat :=
 if 1 < b - s then rW hs (gM hs s (mid s b)) (gM hs (mid s b) b) else if (hs[s]?.join).isSome=true/\s < b then some s else none
 termination_by b - s
 decreasing_by
 ·have:=cW (by assumption); lia
 ·have:=cW (by assumption); lia
noncomputable def nu (p s b:Nat):List (Nat×Nat) :=
 if 1 < b - s then (s,b) :: (if p < mid s b then nu p s (mid s b) else nu p (mid s b) b) else []
 termination_by b - s
 decreasing_by
 ·have:=cW (by assumption); lia
 ·have:=cW (by assumption); lia
noncomputable def Bl (x:Nat×Nat):D:=.tup [.int (x.1:Int),.int (x.2:Int)]
inductive yG:Nat->Nat->Nat->Nat->Prop
 | refl (s b:Nat):yG s b s b
 | left {s b s' b':Nat} (h:1 < b - s) (i:yG s (mid s b) s' b'):yG s b s' b'
 | right {s b s' b':Nat} (h:1 < b - s) (i:yG (mid s b) b s' b'):yG s b s' b'
theorem yG.sub {s b s' b':Nat} (h:yG s b s' b'):s<=s'/\b'<=b:=by
 induction h with
 | refl s b=>lia
 | left h i ih=>have:=cW h; lia
 | right h i ih=>have:=cW h; lia
theorem yG.l {s b s' b':Nat} (h:yG s b s' b') (hh:1 < b' - s'):yG s b s' (mid s' b'):=by
 induction h with
 | refl s b=>exact .left hh (.refl _ _)
 | left h i ih=>exact .left h (ih hh)
 | right h i ih=>exact .right h (ih hh)
theorem yG.r {s b s' b':Nat} (h:yG s b s' b') (hh:1 < b' - s'):yG s b (mid s' b') b':=by
 induction h with
 | refl s b=>exact .right hh (.refl _ _)
 | left h i ih=>exact .left h (ih hh)
 | right h i ih=>exact .right h (ih hh)
theorem gK {hs:List Hd} {s b:Nat} (h:1 < b - s):gM hs s b=rW hs (gM hs s (mid s b)) (gM hs (mid s b) b):=by rw [gM,if_pos h]
theorem gF {hs:List Hd} {s b:Nat} (h:¬ 1 < b - s):gM hs s b=if (hs[s]?.join).isSome=true/\s < b then some s else none:=by rw [gM,if_neg h]
noncomputable def Is (hs:List Hd) (p:Nat):Prop:=∃ x,hs[p]? = some (some x)
theorem Tp {hs:List Hd} {l r:Option Nat} {p:Nat} (h:rW hs l r=some p):l=some p∨r=some p:=by
 unfold rW at h
 split at h
 ·exact .inr h
 ·exact .inl h
 ·split at h
  ·split at h
   ·exact .inr h
   ·exact .inl h
  ·exact .inl h
theorem jN (hs:List Hd):∀ (n s b:Nat),b - s<=n->∀ p,gM hs s b=some p->Is hs p/\s<=p/\p < b
 | 0,s,b,hn,p,h=>by
  rw [gF (by lia)] at h
  split at h
  ·rename_i c; lia
  ·cases h
 | n + 1,s,b,hn,p,h=>by
  by_cases c:1 < b - s
  ·rw [gK c] at h
   have hm:=cW c
   rcases Tp h with h | h
   ·obtain ⟨h1,h2,h3⟩:=jN hs n s (mid s b) (by lia) p h; exact ⟨h1,by lia,by lia⟩
   ·obtain ⟨h1,h2,h3⟩:=jN hs n (mid s b) b (by lia) p h; exact ⟨h1,by lia,by lia⟩
  ·rw [gF c] at h
   split at h
   ·rename_i q
    cases h
    refine ⟨?_,by lia,q.2⟩
    obtain ⟨q1,_⟩:=q
    cases e:hs[s]? with
    | none=>rw [e] at q1; simp at q1
    | some o=>cases o with
     | none=>rw [e] at q1; simp at q1
     | some x=>exact ⟨x,e⟩
   ·cases h
theorem zZ (hs:List Hd) (p:Nat) (x:Hd):∀ (n s b:Nat),b - s<=n->¬ (s<=p/\p < b)->gM (hs.set p x) s b=gM hs s b
 | 0,s,b,hn,h=>by
  rw [gF (by lia),gF (by lia)]
  have:¬ s < b:=by lia
  simp [this]
 | n + 1,s,b,hn,h=>by
  by_cases c:1 < b - s
  ·have hm:=cW c
   rw [gK c,gK c,zZ hs p x n s (mid s b) (by lia) (by lia),zZ hs p x n (mid s b) b (by lia) (by lia)]
   cases e1:gM hs s (mid s b) with
   | none=>rfl
   | some q1 =>
    cases e2:gM hs (mid s b) b with
    | none=>rfl
    | some q2 =>
     obtain ⟨_,a1,a2⟩:=jN hs n s (mid s b) (by lia) q1 e1
     obtain ⟨_,a3,a4⟩:=jN hs n (mid s b) b (by lia) q2 e2
     have n1:(hs.set p x)[q1]? = hs[q1]?:=List.getElem?_set_ne (by lia)
     have n2:(hs.set p x)[q2]? = hs[q2]?:=List.getElem?_set_ne (by lia)
     simp only [rW,n1,n2]
  ·rw [gF c,gF c]
   by_cases c2:s < b
   ·have n1:(hs.set p x)[s]? = hs[s]?:=List.getElem?_set_ne (by lia)
    rw [n1]
   ·simp [c2]
theorem Gj {p:Nat}:∀ (n s b:Nat),b - s<=n->s<=p->p < b->∀ x∈nu p s b,yG s b x.1 x.2/\1 < x.2 - x.1/\x.1<=p/\p < x.2
 | 0,s,b,hn,h1,h2,x,hx=>by lia
 | n + 1,s,b,hn,h1,h2,x,hx=>by
  rw [nu] at hx
  by_cases c:1 < b - s
  ·have hm:=cW c
   rw [if_pos c] at hx
   rcases List.mem_cons.mp hx with rfl | hx
   ·exact ⟨.refl _ _,c,h1,h2⟩
   ·by_cases q:p < mid s b
    ·rw [if_pos q] at hx
     obtain ⟨i,r⟩:=Gj n s (mid s b) (by lia) h1 q x hx
     exact ⟨.left c i,r⟩
    ·rw [if_neg q] at hx
     obtain ⟨i,r⟩:=Gj n (mid s b) b (by lia) (by lia) h2 x hx
     exact ⟨.right c i,r⟩
  ·rw [if_neg c] at hx; simp at hx
theorem W0 {p s b s' b':Nat} (h:yG s b s' b') (hp:s'<=p/\p < b') (hh:1 < b' - s'):(s',b')∈nu p s b:=by
 induction h with
 | refl s b=>rw [nu,if_pos hh]; simp
 | left h i ih =>
  have:=i.sub
  rw [nu,if_pos h,if_pos (by lia)]
  exact List.mem_cons_of_mem _ (ih hp hh)
 | right h i ih =>
  have:=i.sub
  rw [nu,if_pos h,if_neg (by lia)]
  exact List.mem_cons_of_mem _ (ih hp hh)
theorem pW (p:Nat):∀ (n s b:Nat),b - s<=n->(nu p s b).length<=b - s
 | 0,s,b,hn=>by rw [nu,if_neg (by lia)]; simp
 | n + 1,s,b,hn=>by
  rw [nu]
  by_cases c:1 < b - s
  ·have hm:=cW c
   rw [if_pos c]
   by_cases q:p < mid s b
   ·rw [if_pos q]; have:=pW p n s (mid s b) (by lia); simp; lia
   ·rw [if_neg q]; have:=pW p n (mid s b) b (by lia); simp; lia
  ·rw [if_neg c]; simp
theorem wA (p:Nat):∀ (n s b:Nat),b - s<=n->(nu p s b).Pairwise (fun x y=>y.2 - y.1 < x.2 - x.1)/\∀ x∈nu p s b,x.2 - x.1<=b - s
 | 0,s,b,hn=>by rw [nu,if_neg (by lia)]; simp
 | n + 1,s,b,hn=>by
  rw [nu]
  by_cases c:1 < b - s
  ·have hm:=cW c
   rw [if_pos c]
   by_cases q:p < mid s b
   ·rw [if_pos q]
    obtain ⟨h1,h2⟩:=wA p n s (mid s b) (by lia)
    refine ⟨List.pairwise_cons.mpr ⟨fun y hy=>?_,h1⟩,fun x hx=>?_⟩
    ·have:=h2 y hy; show y.2 - y.1 < b - s; lia
    ·rcases List.mem_cons.mp hx with rfl | hx
     ·exact Nat.le_refl _
     ·have:=h2 x hx; lia
   ·rw [if_neg q]
    obtain ⟨h1,h2⟩:=wA p n (mid s b) b (by lia)
    refine ⟨List.pairwise_cons.mpr ⟨fun y hy=>?_,h1⟩,fun x hx=>?_⟩
    ·have:=h2 y hy; show y.2 - y.1 < b - s; lia
    ·rcases List.mem_cons.mp hx with rfl | hx
     ·exact Nat.le_refl _
     ·have:=h2 x hx; lia
  ·rw [if_neg c]; simp
noncomputable def Fr (S:List Nat) (μ μ':Mem):Prop:=μ.length<=μ'.length/\∀ m,m < μ.length->m ∉ S->μ'[m]? = μ[m]?
theorem Fr.refl {S:List Nat} {μ:Mem}:Fr S μ μ:=⟨Nat.le_refl _,fun _ _ _=>rfl⟩
theorem Fr.trans {S:List Nat} {μ μ' Am:Mem} (a:Fr S μ μ') (b:Fr S μ' Am):Fr S μ Am :=
 ⟨Nat.le_trans a.1 b.1,fun m hm hs=>(b.2 m (Nat.lt_of_lt_of_le hm a.1) hs).trans (a.2 m hm hs)⟩
theorem Fr.more {S S':List Nat} {μ μ':Mem} (a:Fr S μ μ') (h:∀ m∈S,m∈S'):Fr S' μ μ':=⟨a.1,fun m hm hs=>a.2 m hm fun z=>hs (h m z)⟩
theorem Fr.set {S:List Nat} {μ:Mem} {n:Nat} {c:Cell} (h:n∈S):Fr S μ (μ.set n c):=⟨by simp,fun m _ hs=>List.getElem?_set_ne fun e=>hs (by subst e; exact h)⟩
theorem Fr.app {S:List Nat} {μ ν:Mem}:Fr S μ (μ ++ ν):=⟨by simp,fun m hm _=>List.getElem?_append_left hm⟩
noncomputable abbrev WF:=Nat->Nat->Option (Option Nat)
structure p8 (μ:Mem) (o h w:Nat) (hs:List Hd) (f:WF) (n:Int):Prop where
 at_:μ[o]? = some (.ins "Contest" [("heads",.loc h),("winners",.loc w),("played",.int n)])
 hd:μ[h]? = some (.lst (hs.map hdD))
 wn:∃ ks ds,μ[w]? = some (.yq ks ds)/\ks.length=ds.length/\(ks.length:Int)<=n/\∀ s b:Nat,dZ ks ds [.inl (s:Int),.inl (b:Int)]=(f s b).map gY
 ne:o≠h/\o≠w/\h≠w
noncomputable def Z5 (hs:List Hd) (f:WF):Prop:=∀ s b,yG 0 hs.length s b->1 < b - s->f s b=some (gM hs s b)
noncomputable def HY (f:WF) (s b:Nat) (v:Option Nat):WF:=fun s' b'=>if s'=s/\b'=b then some v else f s' b'
theorem aJ {μ:Mem} {n:Nat} {c:Cell} (h:μ[n]? = some c):n < μ.length:=(List.getElem?_eq_some_iff.mp h).1
theorem p8.fr {μ μ':Mem} {o h w:Nat} {hs:List Hd} {f:WF} {n:Int} {S:List Nat} (C:p8 μ o h w hs f n) (F:Fr S μ μ') (ho:o ∉ S) (hh:h ∉ S) (hw:w ∉ S):p8 μ' o h w hs f n:=by
 obtain ⟨ks,ds,k1,k2⟩:=C.wn
 exact ⟨(F.2 o (aJ C.at_) ho).trans C.at_,(F.2 h (aJ C.hd) hh).trans C.hd,⟨ks,ds,(F.2 w (aJ k1) hw).trans k1,k2⟩,C.ne⟩
theorem JG {κ:Type} [DecidableEq κ] (k:κ) (d:D):∀ (ks:List κ) (ds:List D),ks.length=ds.length->∀ k',dZ (eY ks k) (fD ks ds k d) k'=if k'=k then some d else dZ ks ds k':=by
 have rep:∀ (ks:List κ) (ds:List D),ks.length=ds.length->∀ k',dZ ks (List.zipWith (fun q d'=>if q=k then d else d') ks ds) k'=if k'=k/\k∈ks then some d else dZ ks ds k':=by
  intro ks
  induction ks with
  | nil=>intro ds _ k'; simp [dZ]
  | cons q ks ih =>
   intro ds hl k'
   cases ds with
   | nil=>simp at hl
   | cons d' ds =>
    simp only [List.zipWith_cons_cons,dZ]
    by_cases c:q=k'
    ·subst c
     by_cases c2:q=k
     ·subst c2; simp
     ·simp [c2]
    ·rw [if_neg c,if_neg c,ih ds (by simpa using hl) k']
     by_cases c2:k'=k
     ·subst c2
      have:(k'∈q :: ks)<->k'∈ks:=by simp [Ne.symm c]
      simp [this]
     ·simp [c2]
 have app:∀ (ks:List κ) (ds:List D),ks.length=ds.length->k ∉ ks->∀ k',dZ (ks ++ [k]) (ds ++ [d]) k'=if k'=k then some d else dZ ks ds k':=by
  intro ks
  induction ks with
  | nil =>
   intro ds hl _ k'
   cases ds with
   | nil =>
    simp only [List.nil_append,dZ]
    by_cases c:k=k'
    ·subst c; simp
    ·rw [if_neg c,if_neg (Ne.symm c)]
   | cons _ _=>simp at hl
  | cons q ks ih =>
   intro ds hl hn k'
   cases ds with
   | nil=>simp at hl
   | cons d' ds =>
    simp only [List.mem_cons,not_or] at hn
    simp only [List.cons_append,dZ]
    by_cases c:q=k'
    ·subst c
     rw [if_pos rfl,if_pos rfl,if_neg (Ne.symm hn.1)]
    ·rw [if_neg c,if_neg c]
     exact ih ds (by simpa using hl) hn.2 k'
 intro ks ds hl k'
 unfold eY fD
 by_cases c:k∈ks
 ·rw [if_pos c,if_pos c,rep ks ds hl k']
  by_cases c2:k'=k
  ·simp [c2,c]
  ·simp [c2]
 ·rw [if_neg c,if_neg c]
  exact app ks ds hl c k'
theorem CZ {κ:Type} [DecidableEq κ] (k:κ) (d:D) (ks:List κ) (ds:List D) (hl:ks.length=ds.length):(eY ks k).length=(fD ks ds k d).length/\(eY ks k).length<=ks.length + 1:=by
 unfold eY fD
 split
 ·simp [hl]
 ·simp [hl]
noncomputable def aA (q:Nat):D:=.int (q:Int)
noncomputable def wv (hs:List Hd) (f:WF) (s b:Nat):Option Nat:=if 1 < b - s then (f s b).getD none else gM hs s b
def bD:cU:=fun ds μ Q=>match ds with
 | [.int i,.int n]=>Q (.bl (decide (0<=i/\i < n))) μ
 | _=>False
def oR:cU:=fun ds μ Q=>∃ s b:Nat,ds=[aA s,aA b]/\s<=b/\Q (aA (mid s b)) μ
def dO:cU:=fun ds μ Q=>∃ p m:Nat,ds=[aA p,aA m]/\p < m/\m<=1000/\Q (.lst ((nu p 0 m).map Bl)) (μ ++ [.gone])
def bB:cU:=fun ds μ Q=>∃ (o h w:Nat) (hs:List Hd) (f:WF) (n:Int) (p:Nat),ds=[.loc o,aA p]/\p8 μ o h w hs f n/\p < hs.length/\Q .non μ
def cN:cU:=fun ds μ Q=>∃ (o h w:Nat) (hs:List Hd) (f:WF) (n:Int) (s b:Nat),ds=[.loc o,aA s,aA b]/\p8 μ o h w hs f n/\s<=b/\b<=hs.length/\hs.length<=1000/\(1 < b - s->∃ v,f s b=some v)/\Q (gY (wv hs f s b)) μ
def iC:cU:=fun ds μ Q=>∃ (o h w:Nat) (hs:List Hd) (f:WF) (n:Int) (l r:Option Nat),ds=[.loc o,gY l,gY r]/\p8 μ o h w hs f n/\(∀ p,l=some p->Is hs p)/\(∀ p,r=some p->Is hs p)/\Q (gY (rW hs l r)) μ
def gj:cU:=fun ds μ Q=>∃ (o h w:Nat) (hs:List Hd) (f:WF) (n:Int) (s b:Nat),ds=[.loc o,aA s,aA b]/\p8 μ o h w hs f n/\1 < b - s/\b<=hs.length/\hs.length<=1000/\n < 10000 /\
 (1 < mid s b - s->f s (mid s b)=some (gM hs s (mid s b)))/\(1 < b - mid s b->f (mid s b) b=some (gM hs (mid s b) b))/\∀ μ',Fr [o,w] μ μ'->p8 μ' o h w hs (HY f s b (gM hs s b)) (n + 1)->Q .non μ'
def aM (d:Nat):cU:=fun ds μ Q=>∃ (o h w:Nat) (hs:List Hd) (f:WF) (n:Int) (s b:Nat),ds=[.loc o,aA s,aA b]/\p8 μ o h w hs f n/\b - s<=2 ^ d/\s<=b/\b<=hs.length/\hs.length<=1000/\n + ((b - s:Nat):Int) < 10000 /\
 ∀ μ' f',Fr [o,w] μ μ'->p8 μ' o h w hs f' (n + ((b - s - 1:Nat):Int))->(∀ s' b',yG s b s' b'->1 < b' - s'->f' s' b'=some (gM hs s' b'))->(∀ s' b',¬ (s<=s'/\b'<=b)->f' s' b'=f s' b')->Q .non μ'
def jU:cU:=fun ds μ Q=>∃ (o:Nat) (hs:List Hd),ds=[.loc o,.lst (hs.map hdD)]/\μ[o]? = some (.ins "Contest" [])/\hs.length<=64 /\
 ∀ μ' h w f,Fr [o] μ μ'->p8 μ' o h w hs f ((hs.length - 1:Nat):Int)->Z5 hs f->μ.length<=h->μ.length<=w->Q .non μ'
def fJ:cU:=fun ds μ Q=>∃ (o h w:Nat) (hs:List Hd) (f:WF) (n:Int),ds=[.loc o]/\p8 μ o h w hs f n/\Z5 hs f/\hs.length<=64/\Q (gY (gM hs 0 hs.length)) μ
def jV:cU:=fun ds μ Q=>∃ (o h w:Nat) (hs:List Hd) (f:WF) (n:Int) (p:Nat) (x:Hd),ds=[.loc o,aA p]/\p8 μ o h w hs f n/\hs[p]? = some x/\Q (hdD x) μ
def kW:cU:=fun ds μ Q=>∃ (o h w:Nat) (hs:List Hd) (f:WF) (n:Int) (p:Nat) (x:Hd),ds=[.loc o,aA p,hdD x]/\p8 μ o h w hs f n/\Z5 hs f/\p < hs.length/\hs.length<=64/\n < 5000 /\
 ∀ μ' f',Fr [o,h,w] μ μ'->p8 μ' o h w (hs.set p x) f' (n + ((nu p 0 hs.length).length:Int))->Z5 (hs.set p x) f'->Q .non μ'
def ux:cU:=fun ds μ Q=>∃ (o h w:Nat) (hs:List Hd) (f:WF) (n:Int) (p:Nat),ds=[.loc o,aA p]/\p8 μ o h w hs f n/\p < hs.length/\hs.length<=64/\Q (aA (nu p 0 hs.length).length) (μ ++ [.gone])
def uV:List Str:=["thing","many"]
noncomputable def vK:Ss:=(.cons (.ret (.and (.call "is_whole" dX (.cons (.var 0) .nil)) (.chain .LtE .Lt (.cst (.int 0)) (.var 0) (.var 1)))) .nil)
def GZ:List Str:=["start","behind"]
noncomputable def Hj:Ss:=(.cons (.ret (.bin .Add (.var 0) (.bin .FloorDiv (.bin .Add (.bin .Sub (.var 1) (.var 0)) (.cst (.int 1))) (.cst (.int 2))))) .nil)
def iK:List Str:=["place","many","told","start","behind","middle"]
noncomputable def iM:Ss:=(.cons (.set 2 (.lst true .nil)) (.cons (.set 3 (.cst (.int 0))) (.cons (.set 4 (.var 1)) (.cons (.whl (.cmp .Gt (.bin .Sub (.var 4) (.var 3)) (.cst (.int 1))) (.cons (.exp (.meth "append" (.var 2) (.cons (.tup (.cons (.var 3) (.cons (.var 4) .nil))) .nil))) (.cons (.set 5 (.call "midst" oR (.cons (.var 3) (.cons (.var 4) .nil)))) (.cons (.ite (.cmp .Lt (.var 0) (.var 5)) (.cons (.set 4 (.var 5)) .nil) (.cons (.set 3 (.var 5)) .nil)) .nil)))) (.cons (.ret (.iz (.var 2))) .nil)))))
def lB:List Str:=["self","heads"]
noncomputable def lN:Ss:=(.cons (.Br "Contest" "heads" (.var 0) (.blt "mlist" (.cons (.var 1) .nil))) (.cons (.Br "Contest" "winners" (.var 0) (.OD true)) (.cons (.Br "Contest" "played" (.var 0) (.cst (.int 0))) (.cons (.exp (.lD "Contest" "play_all" (aM 6) (.var 0) (.cons (.cst (.int 0)) (.cons (.blt "len" (.cons (.fld "Contest" "heads" (.var 0)) .nil)) .nil)))) .nil))))
def jW:List Str:=["self"]
noncomputable def jX:Ss:=(.cons (.ret (.lD "Contest" "winner" cN (.var 0) (.cons (.cst (.int 0)) (.cons (.blt "len" (.cons (.fld "Contest" "heads" (.var 0)) .nil)) .nil)))) .nil)
def lC:List Str:=["self","place"]
noncomputable def lO:Ss:=(.cons (.exp (.lD "Contest" "check_place" bB (.var 0) (.cons (.var 1) .nil))) (.cons (.ret (.idx (.fld "Contest" "heads" (.var 0)) (.var 1))) .nil))
def m8:List Str:=["self","place","head","start","behind"]
noncomputable def nj:Ss:=(.cons (.exp (.lD "Contest" "check_place" bB (.var 0) (.cons (.var 1) .nil))) (.cons (.uG (.fld "Contest" "heads" (.var 0)) (.var 1) (.var 2)) (.cons (.for_ [3,4] true (.X3 (.call "stretches_above" dO (.cons (.var 1) (.cons (.blt "len" (.cons (.fld "Contest" "heads" (.var 0)) .nil)) .nil)))) (.cons (.exp (.lD "Contest" "play" gj (.var 0) (.cons (.var 3) (.cons (.var 4) .nil)))) .nil)) .nil)))
def m7:List Str:=["self","place"]
noncomputable def ni:Ss:=(.cons (.exp (.lD "Contest" "check_place" bB (.var 0) (.cons (.var 1) .nil))) (.cons (.ret (.blt "len" (.cons (.call "stretches_above" dO (.cons (.var 1) (.cons (.blt "len" (.cons (.fld "Contest" "heads" (.var 0)) .nil)) .nil))) .nil))) .nil))
def fu:List Str:=["self","thing"]
noncomputable def fB:Ss:=(.cons (.ite (.not (.call "is_below" bD (.cons (.var 1) (.cons (.blt "len" (.cons (.fld "Contest" "heads" (.var 0)) .nil)) .nil)))) (.cons .Qj .nil) .nil) .nil)
def cj:List Str:=["self","start","behind","middle"]
noncomputable def cC (d:Nat):Ss:=(.cons (.ite (.cmp .Gt (.bin .Sub (.var 2) (.var 1)) (.cst (.int 1))) (.cons (.set 3 (.call "midst" oR (.cons (.var 1) (.cons (.var 2) .nil)))) (.cons (.exp (.lD "Contest" "play_all" (spP aM d) (.var 0) (.cons (.var 1) (.cons (.var 3) .nil)))) (.cons (.exp (.lD "Contest" "play_all" (spP aM d) (.var 0) (.cons (.var 3) (.cons (.var 2) .nil)))) (.cons (.exp (.lD "Contest" "play" gj (.var 0) (.cons (.var 1) (.cons (.var 2) .nil)))) .nil)))) .nil) .nil)
def lA:List Str:=["self","start","behind","middle"]
noncomputable def lM:Ss:=(.cons (.set 3 (.call "midst" oR (.cons (.var 1) (.cons (.var 2) .nil)))) (.cons (.dput (.fld "Contest" "winners" (.var 0)) (.tup (.cons (.var 1) (.cons (.var 2) .nil))) (.lD "Contest" "better" iC (.var 0) (.cons (.lD "Contest" "winner" cN (.var 0) (.cons (.var 1) (.cons (.var 3) .nil))) (.cons (.lD "Contest" "winner" cN (.var 0) (.cons (.var 3) (.cons (.var 2) .nil))) .nil)))) (.cons (.JZ "Contest" "played" .Add (.var 0) (.cst (.int 1))) .nil)))
def jm:List Str:=["self","start","behind","alone"]
noncomputable def jr:Ss:=(.cons (.ite (.cmp .Gt (.bin .Sub (.var 2) (.var 1)) (.cst (.int 1))) (.cons (.ret (.JH (.fld "Contest" "winners" (.var 0)) (.tup (.cons (.var 1) (.cons (.var 2) .nil))))) .nil) .nil) (.cons (.set 3 (.comp false 1 false [0] (.var 0) (.rng (.cons (.var 1) (.cons (.var 2) .nil))) (.cons (.cmp .IsNot (.idx (.fld "Contest" "heads" (.var 1)) (.var 0)) (.cst .non)) .nil))) (.cons (.ret (.Sh (.var 3) (.idx (.var 3) (.cst (.int 0))) (.cst .non))) .nil)))
def dg:List Str:=["self","left","right"]
noncomputable def dh:Ss:=(.cons (.ite (.or (.cmp .Is (.var 1) (.cst .non)) (.cmp .Is (.var 2) (.cst .non))) (.cons (.ret (.Sh (.cmp .Is (.var 1) (.cst .non)) (.var 2) (.var 1))) .nil) .nil) (.cons (.ret (.Sh (.call "less" sH (.cons (.idx (.fld "Contest" "heads" (.var 0)) (.var 2)) (.cons (.idx (.fld "Contest" "heads" (.var 0)) (.var 1)) .nil))) (.var 2) (.var 1))) .nil))
theorem Fp:Keeps uV vK bD:=by
 intro ds μ Q h
 unfold bD at h
 split at h
 ·rename_i i n
  simp [vK,uV,aH,bO,wSs,wS,wE,wEs,dX,fU,bK,sX]
  by_cases h0:0<=i
  ·simpa [h0] using h
  ·simpa [h0] using h
 ·exact h.elim
theorem RM {s b:Nat} (h:s<=b):(s:Int) + ((b:Int) - (s:Int) + 1) / 2=(mid s b:Nat):=by unfold mid; lia
theorem R0:Keeps GZ Hj oR:=by
 rintro ds μ Q ⟨s,b,rfl,hs,h⟩
 simp [Hj,GZ,aH,bO,wSs,wS,wE,wEs,gB,aA,rJ]
 rw [RM hs]; exact h
theorem pF:Keeps iK iM dO:=by
 rintro ds μ Q ⟨p,m,rfl,hp,hm,h⟩
 simp only [iM,iK,aH,bO,wSs,wS,wE,wEs,newL,List.map_cons,List.map_nil,List.length_cons,List.length_nil,List.cons_append,List.nil_append,List.getElem?_cons_zero,List.getElem?_cons_succ]
 refine ⟨by decide,?_⟩
 refine ⟨fun k ρ μ'=>∃ (acc:List (Nat×Nat)) (s b:Nat) (a:Option D),k=b - s/\s<=p/\p < b/\b<=m/\acc ++ nu p s b=nu p 0 m/\μ'=μ ++ [.lst (acc.map Bl)]/\ρ=[some (aA p),some (aA m),some (.loc μ.length),some (aA s),some (aA b),a],⟨m,[],0,m,none,by lia,by lia,hp,by lia,by simp,rfl,rfl⟩,?_⟩
 rintro k ρ μ' ⟨acc,s,b,a,rfl,h1,h2,h3,he,rfl,rfl⟩
 simp [wT,wE,wEs,gB,bK,fU,aA]
 by_cases c:1 < b - s
 ·have c':(1:Int) < (b:Int) - (s:Int):=by lia
  have hmd:=cW c
  rw [if_pos c']
  have hl:acc.length < 1000:=by
   have:=pW p m 0 m (by lia)
   rw [<- he,nu,if_pos c] at this
   simp at this; lia
  simp [wS,wSs,wE,wEs,isCell,fP,cV,lim]
  refine ⟨by lia,s,b,rfl,by lia,?_⟩
  have e1:acc ++ [(s,b)] ++ (if p < mid s b then nu p s (mid s b) else nu p (mid s b) b)=nu p 0 m:=by
   rw [<- he]; rw [nu.eq_1 p s b,if_pos c]; simp
  by_cases q:p < mid s b
  ·have q':(p:Int) < (mid s b:Int):=by lia
   rw [if_pos q] at e1
   simp [aA,sX,wT,wE,bK,fU,q']
   exact ⟨mid s b - s,by lia,acc ++ [(s,b)],s,mid s b,by lia,by lia,q,by lia,e1,by simp [Bl],rfl,rfl⟩
  ·have q':¬ (p:Int) < (mid s b:Int):=by lia
   rw [if_neg q] at e1
   simp [aA,sX,wT,wE,bK,fU,q']
   exact ⟨b - mid s b,by lia,acc ++ [(s,b)],mid s b,b,by lia,by lia,h2,by lia,e1,by simp [Bl],rfl,rfl⟩
 ·have c':¬ (1:Int) < (b:Int) - (s:Int):=by lia
  rw [if_neg c']
  rw [nu,if_neg c] at he
  simp at he
  subst he
  simpa [DK] using h
theorem p8.ins {μ:Mem} {o h w:Nat} {hs:List Hd} {f:WF} {n:Int} (C:p8 μ o h w hs f n):lJ μ "Contest" (.loc o)=some (o,[("heads",.loc h),("winners",.loc w),("played",.int n)]):=by simp [lJ,C.at_]
theorem j7:Keeps fu fB bB:=by
 rintro ds μ Q ⟨o,h,w,hs,f,n,p,rfl,C,hp,q⟩
 simpa [fB,fu,aH,bO,wSs,wS,wT,wE,wEs,aX,lenOf,aq,jB,C.ins,aR,C.hd,bD,aA,iB,truth,hp] using q
theorem vG:Keeps lC lO jV:=by
 rintro ds μ Q ⟨o,h,w,hs,f,n,p,x,rfl,C,hx,q⟩
 have hp:p < hs.length:=(List.getElem?_eq_some_iff.mp hx).1
 simp only [lO,lC,aH,bO,wSs,wS,wE,wEs,List.map_cons,List.map_nil,List.length_cons,List.length_nil,List.cons_append,List.nil_append,List.getElem?_cons_zero,List.getElem?_cons_succ]
 refine ⟨by simp [dY,C.ins,aR],o,h,w,hs,f,n,p,rfl,C,hp,?_⟩
 simp [jB,C.ins,aR,cL,aA,aq,C.hd,cu hp,hx]
 exact q
theorem qH:Keeps jm jr cN:=by
 rintro ds μ Q ⟨o,h,w,hs,f,n,s,b,rfl,C,sb,bl,hl,hf,q⟩
 simp [jr,jm,aH,bO,wSs,wS,wT,wE,wEs,gB,bK,fU,aA]
 by_cases c:1 < b - s
 ·have c':(1:Int) < (b:Int) - (s:Int):=by lia
  obtain ⟨v,hv⟩:=hf c
  obtain ⟨ks,ds,k1,k2,k3,k4⟩:=C.wn
  rw [if_pos c']
  have k5:=k4 s b
  rw [hv] at k5
  simp [jB,C.ins,aR,Gq,k1,pA,zf,k5,lim]
  simpa [wv,c,hv] using q
 ·have c':¬ (1:Int) < (b:Int) - (s:Int):=by lia
  rw [if_neg c']
  simp only [wv,if_neg c,gF c] at q
  simp [wI,wE,wEs,rK,j4,lim]
  refine ⟨by lia,?_⟩
  by_cases c2:s < b
  ·have e:b - s=1:=by lia
   have hs1:s < hs.length:=by lia
   have e2:hs[s]? = some hs[s]:=List.getElem?_eq_getElem hs1
   rw [e]
   simp [dD,fQ,bindC,wTs,wT,wE,jB,C.ins,aR,cL,aq,C.hd,cu hs1,hs1,bK,fU]
   cases hx:hs[s] with
   | none =>
    simp [e2,hx] at q
    simpa [hdD,gA,newL,iB,truth,lenOf,aq,gY] using q
   | some x =>
    simp [e2,hx,c2] at q
    simpa [hdD,aQ,gA,newL,iB,truth,lenOf,aq,gY,cL,n6] using q
  ·have e:b - s=0:=by lia
   rw [e]
   simp [c2] at q
   simpa [dD,fQ,newL,iB,truth,lenOf,aq,gY] using q
theorem qI:Keeps dg dh iC:=by
 rintro ds μ Q ⟨o,h,w,hs,f,n,l,r,rfl,C,hl,hr,q⟩
 cases l with
 | none =>
  simpa [dh,dg,aH,bO,wSs,wS,wT,wE,wEs,bK,fU,gY,gA,rW] using q
 | some p =>
  cases r with
  | none=>simpa [dh,dg,aH,bO,wSs,wS,wT,wE,wEs,bK,fU,gY,gA,rW] using q
  | some p2 =>
   obtain ⟨x,hx⟩:=hl p rfl
   obtain ⟨y,hy⟩:=hr p2 rfl
   have h1:p < hs.length:=(List.getElem?_eq_some_iff.mp hx).1
   have h2:p2 < hs.length:=(List.getElem?_eq_some_iff.mp hy).1
   simp [dh,dg,aH,bO,wSs,wS,wT,wE,wEs,bK,fU,gY,gA,jB,C.ins,aR,cL,aq,C.hd,cu h1,cu h2,hx,hy,hdD]
   refine ⟨y,x,rfl,?_⟩
   simp only [rW,hx,hy,Option.join_some] at q
   by_cases c:eE y x=true
   ·simpa [c,iB,truth,gY] using q
   ·simpa [c,iB,truth,gY] using q
theorem SQ {μ:Mem} {o h w:Nat} {hs:List Hd} {f:WF} {n:Int} (C:p8 μ o h w hs f n) {ks:List (List j8)} {ds:List D} (hw:μ[w]? = some (.yq ks ds)) (hl:ks.length=ds.length) (hn:(ks.length:Int)<=n) (hk:∀ s b:Nat,dZ ks ds [.inl (s:Int),.inl (b:Int)]=(f s b).map gY) (s b:Nat) (v:Option Nat) :
  p8 ((μ.set w (.yq (eY ks [.inl (s:Int),.inl (b:Int)]) (fD ks ds [.inl (s:Int),.inl (b:Int)] (gY v)))).set o (.ins "Contest" [("heads",.loc h),("winners",.loc w),("played",.int (n + 1))])) o h w hs (HY f s b v) (n + 1):=by
 obtain ⟨n1,n2,n3⟩:=C.ne
 have l1:=aJ C.at_
 have l3:=aJ hw
 refine ⟨by simp [l1],?_,⟨eY ks [.inl (s:Int),.inl (b:Int)],fD ks ds [.inl (s:Int),.inl (b:Int)] (gY v),?_,(CZ _ _ _ _ hl).1,?_,fun s' b'=>?_⟩,C.ne⟩
 ·rw [List.getElem?_set_ne n1,List.getElem?_set_ne (Ne.symm n3)]; exact C.hd
 ·rw [List.getElem?_set_ne n2]; simp [l3]
 ·have:=(CZ [Sum.inl (s:Int),Sum.inl (b:Int)] (gY v) ks ds hl).2; lia
 ·rw [JG _ _ ks ds hl,hk s' b']
  unfold HY
  by_cases c:s'=s/\b'=b
  ·obtain ⟨rfl,rfl⟩:=c; simp
  ·rw [if_neg c,if_neg]
   intro e
   apply c
   simp at e
   lia
theorem vC:Keeps lA lM gj:=by
 rintro ds μ Q ⟨o,h,w,hs,f,n,s,b,rfl,C,hsb,hb,hl,hn,f1,f2,q⟩
 have hm:=cW hsb
 obtain ⟨ks,ds,k1,k2,k3,k4⟩:=C.wn
 simp only [lM,lA,aH,bO,wSs,wS,wE,wEs,List.map_cons,List.map_nil,List.length_cons,List.length_nil,List.cons_append,List.nil_append,List.getElem?_cons_zero,List.getElem?_cons_succ]
 refine ⟨s,b,rfl,by lia,?_⟩
 have w1:wv hs f s (mid s b)=gM hs s (mid s b):=by
  unfold wv; split
  ·rename_i c; rw [f1 c]; rfl
  ·rfl
 have w2:wv hs f (mid s b) b=gM hs (mid s b) b:=by
  unfold wv; split
  ·rename_i c; rw [f2 c]; rfl
  ·rfl
 have isI:∀ m,aR m [("heads",D.loc h),("winners",D.loc w),("played",D.int n)]=none->dY μ "Contest" m (.loc o):=fun m hm=>by simp [dY,C.ins,hm]
 simp only [List.set_cons_succ,List.set_cons_zero,List.getElem?_cons_succ,List.getElem?_cons_zero,List.replicate]
 simp
 refine ⟨isI _ (by simp [aR]),isI _ (by simp [aR]),?_⟩
 refine ⟨o,h,w,hs,f,n,s,mid s b,rfl,C,by lia,by lia,hl,fun c=>⟨_,f1 c⟩,?_⟩
 rw [w1]
 refine ⟨isI _ (by simp [aR]),?_⟩
 refine ⟨o,h,w,hs,f,n,mid s b,b,rfl,C,by lia,by lia,hl,fun c=>⟨_,f2 c⟩,?_⟩
 rw [w2]
 refine ⟨o,h,w,hs,f,n,_,_,rfl,C,fun p e=>(jN hs (mid s b - s) s (mid s b) (Nat.le_refl _) p e).1,fun p e=>(jN hs (b - mid s b) (mid s b) b (Nat.le_refl _) p e).1,?_⟩
 rw [<- gK hsb]
 have C2:=SQ C k1 k2 k3 k4 s b (gM hs s b)
 obtain ⟨n1,n2,n3⟩:=C.ne
 have abz:lJ (μ.set w (.yq (eY ks [.inl (s:Int),.inl (b:Int)]) (fD ks ds [.inl (s:Int),.inl (b:Int)] (gY (gM hs s b))))) "Contest" (.loc o)=some (o,[("heads",.loc h),("winners",.loc w),("played",.int n)]):=by
  have:(μ.set w (Cell.yq (eY ks [.inl (s:Int),.inl (b:Int)]) (fD ks ds [.inl (s:Int),.inl (b:Int)] (gY (gM hs s b)))))[o]? = μ[o]?:=List.getElem?_set_ne (Ne.symm n2)
  simp [lJ,this,C.at_]
 simp [jB,C.ins,aR,Aq,k1,pA,zf,aA,lim]
 refine ⟨by lia,?_⟩
 simp [abz,aR,gO,oG,putD]
 refine q _ ?_ C2
 exact (Fr.set (by simp)).trans (Fr.set (by simp))
theorem rO:Keeps jW jX fJ:=by
 rintro ds μ Q ⟨o,h,w,hs,f,n,rfl,C,A,hl,q⟩
 simp only [jX,jW,aH,bO,wSs,wS,wE,wEs,List.map_cons,List.map_nil,List.length_cons,List.length_nil,List.cons_append,List.nil_append,List.getElem?_cons_zero]
 refine ⟨by simp [dY,C.ins,aR],?_⟩
 simp [jB,C.ins,aR,aX,lenOf,aq,C.hd]
 refine ⟨o,h,w,hs,f,n,0,hs.length,rfl,C,by lia,by lia,by lia,fun c=>⟨_,A _ _ (.refl _ _) c⟩,?_⟩
 have e:wv hs f 0 hs.length=gM hs 0 hs.length:=by
  unfold wv; split
  ·rename_i c; rw [A _ _ (.refl _ _) c]; rfl
  ·rfl
 rw [e]; exact q
theorem wO:Keeps m7 ni ux:=by
 rintro ds μ Q ⟨o,h,w,hs,f,n,p,rfl,C,hp,hl,q⟩
 simp only [ni,m7,aH,bO,wSs,wS,wE,wEs,List.map_cons,List.map_nil,List.length_cons,List.length_nil,List.cons_append,List.nil_append,List.getElem?_cons_zero,List.getElem?_cons_succ]
 refine ⟨by simp [dY,C.ins,aR],o,h,w,hs,f,n,p,rfl,C,hp,?_⟩
 simp [jB,C.ins,aR,aX,lenOf,aq,C.hd]
 refine ⟨p,hs.length,rfl,hp,by lia,?_⟩
 simpa [aA] using q
theorem nZ (d:Nat):Keeps cj (cC d) (aM d):=by
 rintro ds μ Q ⟨o,h,w,hs,f,n,s,b,rfl,C,hd,sb,hb,hl,hn,q⟩
 have isI:∀ {μ f n} m,p8 μ o h w hs f n->aR m [("heads",D.loc h),("winners",D.loc w),("played",D.int n)]=none->dY μ "Contest" m (.loc o):=fun m C hm=>by simp [dY,C.ins,hm]
 obtain ⟨ne1,ne2,ne3⟩:=C.ne
 simp [cC,cj,aH,bO,wSs,wS,wT,wE,wEs,gB,bK,fU,aA]
 by_cases c:1 < b - s
 ·have c':(1:Int) < (b:Int) - (s:Int):=by lia
  have hm:=cW c
  rw [if_pos c']
  refine ⟨s,b,rfl,by lia,isI _ C (by simp [aR]),?_⟩
  cases d with
  | zero=>lia
  | succ d =>
   have h2:2 ^ (d + 1)=2 * 2 ^ d:=by rw [Nat.pow_succ]; lia
   have h3:mid s b - s<=2 ^ d/\b - mid s b<=2 ^ d:=by unfold mid; lia
   refine ⟨o,h,w,hs,f,n,s,mid s b,rfl,C,h3.1,by lia,by lia,hl,by lia,fun μ1 f1 F1 C1 a1 b1=>?_⟩
   refine ⟨isI _ C1 (by simp [aR]),?_⟩
   refine ⟨o,h,w,hs,f1,_,mid s b,b,rfl,C1,h3.2,by lia,by lia,hl,by lia,fun μ2 f2 F2 C2 a2 b2=>?_⟩
   refine ⟨isI _ C2 (by simp [aR]),?_⟩
   have l1:1 < mid s b - s->f2 s (mid s b)=some (gM hs s (mid s b)):=fun c1=>by
    rw [b2 _ _ (by lia)]; exact a1 _ _ (.refl _ _) c1
   refine ⟨o,h,w,hs,f2,_,s,b,rfl,C2,c,hb,hl,by lia,l1,fun c1=>a2 _ _ (.refl _ _) c1,fun μ3 F3 C3=>?_⟩
   refine q μ3 _ ((F1.trans F2).trans F3) (by
    have e:n + ((mid s b - s - 1:Nat):Int) + ((b - mid s b - 1:Nat):Int) + 1=n + ((b - s - 1:Nat):Int):=by lia
    rw [e] at C3; exact C3) ?_ ?_
   ·intro s' b' it c1
    unfold HY
    by_cases e:s'=s/\b'=b
    ·rw [if_pos e,e.1,e.2]
    ·rw [if_neg e]
     cases it with
     | refl=>exact absurd ⟨rfl,rfl⟩ e
     | left _ i =>
      have:=i.sub
      rw [b2 _ _ (by lia)]; exact a1 _ _ i c1
     | right _ i=>exact a2 _ _ i c1
   ·intro s' b' hh
    unfold HY
    rw [if_neg (by rintro ⟨rfl,rfl⟩; exact hh ⟨Nat.le_refl _,Nat.le_refl _⟩),b2 _ _ (by lia),b1 _ _ (by lia)]
 ·have c':¬ (1:Int) < (b:Int) - (s:Int):=by lia
  rw [if_neg c']
  refine q μ f Fr.refl (by
   have e:n + ((b - s - 1:Nat):Int)=n:=by lia
   rw [e]; exact C) (fun s' b' it c1=>?_) fun _ _ _=>rfl
  have:=it.sub
  lia
theorem vD:Keeps lB lN jU:=by
 rintro ds μ Q ⟨o,hs,rfl,ho,h2,q⟩
 have lo:=aJ ho
 have e1:∀ ν:Mem,(μ ++ ν)[o]? = some (.ins "Contest" []):=fun ν=>by rw [List.getElem?_append_left lo]; exact ho
 have st:∀ (ν:Mem) (c:Cell),((μ.set o c) ++ ν)[o]? = some c:=fun ν c=>by rw [List.getElem?_append_left (by simpa using lo)]; simp [lo]
 simp [lN,lB,aH,bO,wSs,wS,wE,wEs,aX,aq,newL,oG,lJ,e1,putD]
 rw [List.set_append_left _ _ lo]
 simp [st]
 rw [List.set_append_left _ _ (by simpa using lo)]
 simp [st]
 rw [List.set_append_left _ _ (by simpa using lo)]
 have C:p8 (μ.set o (.ins "Contest" [("heads",.loc μ.length),("winners",.loc (μ.length + 1)),("played",.int 0)]) ++ [Cell.lst (hs.map hdD),Cell.yq [] []]) o μ.length (μ.length + 1) hs (fun _ _=>none) 0:=by
  refine ⟨st _ _,?_,⟨[],[],?_,rfl,by simp,fun _ _=>by simp [dZ]⟩,by lia,by lia,by lia⟩
  ·rw [List.getElem?_append_right (by simp)]; simp
  ·rw [List.getElem?_append_right (by simp)]; simp
 have p1:putD "winners" (D.loc (μ.length + 1)) [("heads",D.loc μ.length)]=[("heads",.loc μ.length),("winners",.loc (μ.length + 1))]:=by simp [putD]
 have p2:putD "played" (D.int 0) [("heads",D.loc μ.length),("winners",D.loc (μ.length + 1))]=[("heads",.loc μ.length),("winners",.loc (μ.length + 1)),("played",.int 0)]:=by simp [putD]
 rw [p1,p2]
 refine ⟨by simp,by simp [dY,C.ins,aR],?_⟩
 simp [C.ins,aR,jB,lenOf,aq,C.hd]
 refine ⟨o,μ.length,μ.length + 1,hs,_,0,0,hs.length,rfl,C,by lia,by lia,by lia,by lia,by lia,fun μ' f' F C' a b=>?_⟩
 refine q μ' μ.length (μ.length + 1) f' ?_ (by
  have e:(0:Int) + ((hs.length - 0 - 1:Nat):Int)=((hs.length - 1:Nat):Int):=by lia
  rw [e] at C'; exact C') (fun s b it c=>a s b it c) (Nat.le_refl _) (Nat.le_succ _)
 refine ⟨?_,fun m hm hS=>?_⟩
 ·have:=F.1; simp at this; lia
 ·have hS':m≠o:=by simpa using hS
  rw [F.2 m (by simp; lia) (by simp; lia),List.getElem?_append_left (by simpa using hm),List.getElem?_set_ne (Ne.symm hS')]
theorem wQ:Keeps m8 nj kW:=by
 rintro ds μ Q ⟨o,h,w,hs,f,n,p,x,rfl,C,A,hp,hl,hn,q⟩
 obtain ⟨ne1,ne2,ne3⟩:=C.ne
 simp only [nj,m8,aH,bO,wSs,wS,wE,wEs,List.map_cons,List.map_nil,List.length_cons,List.length_nil,List.cons_append,List.nil_append,List.getElem?_cons_zero,List.getElem?_cons_succ]
 refine ⟨by simp [dY,C.ins,aR],o,h,w,hs,f,n,p,rfl,C,hp,?_⟩
 have C1:p8 (μ.set h (.lst ((hs.set p x).map hdD))) o h w (hs.set p x) f n:=by
  obtain ⟨ks,ds,k1,k2⟩:=C.wn
  refine ⟨?_,?_,⟨ks,ds,?_,k2⟩,C.ne⟩
  ·rw [List.getElem?_set_ne (Ne.symm ne1)]; exact C.at_
  ·simp [aJ C.hd]
  ·rw [List.getElem?_set_ne ne3]; exact k1
 have abE:((hs.map hdD).set p (hdD x))=(hs.set p x).map hdD:=by rw [List.map_set]
 have g1:aR "heads" [("heads",D.loc h),("winners",D.loc w),("played",D.int n)]=some (.loc h):=by simp [aR]
 have lm:(hs.map hdD).length=hs.length:=by simp
 simp only [jB,C.ins,g1,fH,aA,C.hd,lm,cu hp,abE]
 simp only [wI,wE,wEs,jB,C1.ins,g1,aX,lenOf,aq,C1.hd,List.getElem?_cons_zero,List.getElem?_cons_succ,Option.map_some,List.length_map,List.length_set]
 refine ⟨p,hs.length,rfl,hp,by lia,?_⟩
 simp only [Ke,bA,aq]
 have C2:p8 (μ.set h (.lst ((hs.set p x).map hdD)) ++ [Cell.gone]) o h w (hs.set p x) f n:=C1.fr (S:=[]) Fr.app (by simp) (by simp) (by simp)
 have dsc:=(wA p hs.length 0 hs.length (by lia)).1
 have ain:=Gj (p:=p) hs.length 0 hs.length (by lia) (by lia) hp
 have ad3:=pW p hs.length 0 hs.length (by lia)
 have start:∀ s b,yG 0 hs.length s b->1 < b - s->(s,b) ∉ nu p 0 hs.length->f s b=some (gM (hs.set p x) s b):=fun s b it c hno=>by
  rw [zZ hs p x (b - s) s b (Nat.le_refl _) fun z=>hno (W0 it z c)]
  exact A s b it c
 have er:(nu p 0 hs.length).reverse.map Bl=((nu p 0 hs.length).map Bl).reverse:=by simp
 rw [<- List.map_reverse]
 refine bF (fun ds ρ μ'=>∃ (l dn:List (Nat×Nat)) (f':WF) (a c:Option D),ds=l.map Bl/\l.reverse ++ dn=nu p 0 hs.length/\Fr [o,w] (μ.set h (.lst ((hs.set p x).map hdD)) ++ [Cell.gone]) μ'/\p8 μ' o h w (hs.set p x) f' (n + (dn.length:Int)) /\
  (∀ s b,yG 0 hs.length s b->1 < b - s->(s,b) ∉ l->f' s b=some (gM (hs.set p x) s b))/\ρ=[some (.loc o),some (.int (p:Int)),some (hdD x),a,c]) ?_ ?_ _ _ _ ⟨(nu p 0 hs.length).reverse,[],f,none,none,rfl,by simp,Fr.refl,by simpa using C2,fun s b it c hno=>start s b it c (by simpa using hno),rfl⟩
 ·rintro d ds ρ μ1 N hN ⟨l,dn,f',a,c,e,hl2,F,C',al,rfl⟩
  cases l with
  | nil=>simp at e
  | cons y l =>
   obtain ⟨s,b⟩:=y
   simp only [List.map_cons,List.cons.injEq] at e
   obtain ⟨rfl,rfl⟩:=e
   refine ⟨by simp [bA,aq],?_⟩
   have hmem:(s,b)∈nu p 0 hs.length:=by rw [<- hl2]; simp
   have it:yG 0 hs.length s b:=(ain _ hmem).1
   have sb:1 < b - s:=(ain _ hmem).2.1
   have hsub:=it.sub
   have hm:=cW sb
   have big:∀ y∈l,b - s < y.2 - y.1:=fun y hy=>by
    rw [<- hl2] at dsc
    have:(l.reverse ++ (s,b) :: dn).Pairwise (fun x y=>y.2 - y.1 < x.2 - x.1):=by simpa using dsc
    exact (List.pairwise_append.mp this).2.2 y (by simpa using hy) (s,b) (by simp)
   simp [Bl,cZ]
   refine ⟨by simp [dY,C'.ins,aR],?_⟩
   have hlen:(hs.set p x).length=hs.length:=by simp
   have dl:dn.length<=64:=by
    have:=congrArg List.length hl2
    simp at this; lia
   refine ⟨o,h,w,hs.set p x,f',_,s,b,rfl,C',sb,by lia,by lia,by lia,fun c1=>al _ _ (it.l sb) c1 ?_,fun c1=>al _ _ (it.r sb) c1 ?_,fun μ2 F2 C2'=>?_⟩
   ·intro hmm
    rcases List.mem_cons.mp hmm with e | hmm
    ·simp only [Prod.mk.injEq] at e; lia
    ·have:=big _ hmm; simp only at this; lia
   ·intro hmm
    rcases List.mem_cons.mp hmm with e | hmm
    ·simp only [Prod.mk.injEq] at e; lia
    ·have:=big _ hmm; simp only at this; lia
   ·refine hN _ _ ⟨l,(s,b) :: dn,_,_,_,rfl,by simpa using hl2,F.trans F2,by
     have e:n + ((dn.length:Nat):Int) + 1=n + (((s,b) :: dn).length:Int):=by simp; lia
     rw [e] at C2'; exact C2',fun s' b' it' c1 hno=>?_,rfl⟩
    unfold HY
    by_cases e:s'=s/\b'=b
    ·rw [if_pos e,e.1,e.2]
    ·rw [if_neg e]
     refine al s' b' it' c1 fun hmm=>?_
     rcases List.mem_cons.mp hmm with e2 | hmm
     ·simp only [Prod.mk.injEq] at e2; exact e e2
     ·exact hno hmm
 ·rintro ρ μ1 ⟨l,dn,f',a,c,e,hl2,F,C',al,rfl⟩
  cases l with
  | cons y l=>simp at e
  | nil =>
   refine ⟨by simp [bA,aq],?_⟩
   simp at hl2
   subst hl2
   refine q μ1 f' ?_ C' fun s b it c1=>al s b (by simpa using it) c1 (by simp)
   refine ((Fr.set (S:=[o,h,w]) (by simp)).trans Fr.app).trans (F.more ?_)
   intro m hm
   simp at hm ⊢
   rcases hm with rfl | rfl
   ·exact .inl rfl
   ·exact .inr (.inr rfl)
end DW.Dz
end
section
namespace DW.Dz
open PySem DW DW.Dy
end DW.Dz
end
section
namespace DW.Dz
open PySem DW DW.Dy
noncomputable def one (hs:List Hd) (p:Nat):Option Nat:=if (hs[p]?.join).isSome=true then some p else none
noncomputable def fld (hs:List Hd) (l:List Nat) (a:Option Nat):Option Nat:=l.foldl (fun a p=>rW hs a (one hs p)) a
noncomputable def Lc (d:D):Prop:=(∃ n,d = .loc n)∨∃ l,d = .lst l
theorem oJ {μ:Mem} {d e:D} {ds:List D} {i:Int} {Q:QD} {p:Nat} (h:Lc d) (hs:aq μ d=some ds) (hi:n6 ds.length i=some p) (hp:ds[p]? = some e):cL d (.int i) μ Q=Q e μ:=by
 rcases h with ⟨n,rfl⟩ | ⟨l,rfl⟩
 ·simp [cL,hs,hi,hp]
 ·simp [cL,hs,hi,hp]
end DW.Dz
end
section
namespace DW.Dz
open PySem DW DW.Dy
noncomputable def Bef (x:Itm) (p:Nat) (y:Itm) (q:Nat):Prop:=eE y x=false/\(eE x y=true∨p < q)
theorem lU {hs:List Hd}:∀ (n s b:Nat),b - s<=n->gM hs s b=none->∀ q,s<=q->q < b->¬ Is hs q
 | 0,s,b,hn,h,q,h1,h2=>by lia
 | n + 1,s,b,hn,h,q,h1,h2=>by
  by_cases c:1 < b - s
  ·have hm:=cW c
   rw [gK c] at h
   have hl:gM hs s (mid s b)=none/\gM hs (mid s b) b=none:=by
    cases e1:gM hs s (mid s b) with
    | none=>rw [e1] at h; exact ⟨rfl,h⟩
    | some p1 =>
     rw [e1] at h
     cases e2:gM hs (mid s b) b with
     | none=>rw [e2] at h; cases h
     | some p2 =>
      rw [e2] at h
      simp only [rW] at h
      split at h
      ·split at h <;> cases h
      ·cases h
   by_cases cq:q < mid s b
   ·exact lU n s (mid s b) (by lia) hl.1 q h1 cq
   ·exact lU n (mid s b) b (by lia) hl.2 q (by lia) h2
  ·rw [gF c] at h
   have e:q=s:=by lia
   subst e
   rintro ⟨x,hx⟩
   rw [if_pos ⟨by simp [hx],by lia⟩] at h
   cases h
theorem jO {hs:List Hd}:∀ (n s b:Nat),b - s<=n->∀ p,gM hs s b=some p->∀ q,s<=q->q < b->q≠p->∀ x y,hs[p]? = some (some x)->hs[q]? = some (some y)->Bef x p y q
 | 0,s,b,hn,p,h,q,h1,h2,_,_,_,_,_=>by lia
 | n + 1,s,b,hn,p,h,q,h1,h2,hqp,x,y,hx,hy=>by
  by_cases c:1 < b - s
  ·have hm:=cW c
   rw [gK c] at h
   cases e1:gM hs s (mid s b) with
   | none =>
    rw [e1] at h
    by_cases cq:q < mid s b
    ·exact absurd ⟨y,hy⟩ (lU n s (mid s b) (by lia) e1 q h1 cq)
    ·exact jO n (mid s b) b (by lia) p h q (by lia) h2 hqp x y hx hy
   | some p1 =>
    rw [e1] at h
    cases e2:gM hs (mid s b) b with
    | none =>
     rw [e2] at h
     cases h
     by_cases cq:q < mid s b
     ·exact jO n s (mid s b) (by lia) p e1 q h1 cq hqp x y hx hy
     ·exact absurd ⟨y,hy⟩ (lU n (mid s b) b (by lia) e2 q (by lia) h2)
    | some p2 =>
     rw [e2] at h
     obtain ⟨⟨x1,hx1⟩,b1,b2⟩:=jN hs n s (mid s b) (by lia) p1 e1
     obtain ⟨⟨y2,hy2⟩,b3,b4⟩:=jN hs n (mid s b) b (by lia) p2 e2
     simp only [rW,hx1,hy2,Option.join_some] at h
     by_cases cc:eE y2 x1=true
     ·rw [if_pos cc] at h
      cases h
      rw [hy2] at hx; cases hx
      by_cases cq:q < mid s b
      ·have hle:eE y x1=false:=by
        by_cases e:q=p1
        ·subst e; rw [hx1] at hy; cases hy; exact sZ _
        ·exact (jO n s (mid s b) (by lia) p1 e1 q h1 cq e x1 y hx1 hy).1
       have lt:eE x y=true:=by
        cases e:eE x y with
        | true=>rfl
        | false =>
         have:=fK x1 y x hle e
         rw [cc] at this; cases this
       exact ⟨lE _ _ lt,.inl lt⟩
      ·exact jO n (mid s b) b (by lia) p e2 q (by lia) h2 hqp x y hy2 hy
     ·rw [if_neg cc] at h
      cases h
      rw [hx1] at hx; cases hx
      by_cases cq:q < mid s b
      ·exact jO n s (mid s b) (by lia) p e1 q h1 cq hqp x y hx1 hy
      ·have hle:eE y y2=false:=by
        by_cases e:q=p2
        ·subst e; rw [hy2] at hy; cases hy; exact sZ _
        ·exact (jO n (mid s b) b (by lia) p2 e2 q (by lia) h2 e y2 y hy2 hy).1
       exact ⟨fK x y2 y (by simpa using cc) hle,.inr (by lia)⟩
  ·rw [gF c] at h
   split at h
   ·rename_i z; cases h; lia
   ·cases h
end DW.Dz
end
section
namespace DW.Dz
open PySem DW DW.Dy
theorem Fr.new {S:List Nat} {μ0 μ μ':Mem} (a:Fr [] μ0 μ) (b:Fr S μ μ') (h:∀ m∈S,μ0.length<=m):Fr [] μ0 μ' :=
 ⟨Nat.le_trans a.1 b.1,fun m hm _=>by rw [b.2 m (Nat.lt_of_lt_of_le hm a.1) (fun z=>by have:=h m z; lia),a.2 m hm (by simp)]⟩
theorem Fr.Bs {μ0 μ:Mem} {t:Nat} (a:Fr [] μ0 μ) (c:Cell) (h:μ0.length<=t):Fr [] μ0 (μ.set t c):=a.new (S:=[t]) (Fr.set (by simp)) (by simpa using h)
theorem Fr.Bx {μ0 μ:Mem} (a:Fr [] μ0 μ) (ν:Mem):Fr [] μ0 (μ ++ ν):=a.trans Fr.app
theorem Fr.get {μ0 μ:Mem} {i:Nat} {c:Cell} (a:Fr [] μ0 μ) (g:μ0[i]? = some c):μ[i]? = some c:=by rw [a.2 i (aJ g) (by simp)]; exact g
theorem Fr.seq {μ0 μ:Mem} {d:D} {es:List D} (a:Fr [] μ0 μ) (g:aq μ0 d=some es):aq μ d=some es:=by
 cases d with
 | loc n =>
  simp only [aq] at g ⊢
  split at g
  ·rename_i q; rw [a.get q]; exact g
  ·cases g
 | _=>exact g
end DW.Dz
namespace DW.J0
open PySem DW DW.Dy DW.Dz
noncomputable def nA (μ:Mem) (d:D) (r:List Itm):Prop:=Lc d/\aq μ d=some (r.map aQ)
noncomputable def gq (μ:Mem) (d:D) (rs:List (List Itm)):Prop:=Lc d/\∃ es:List D,aq μ d=some es/\es.length=rs.length/\∀ (i:Nat) (e:D) (r:List Itm),es[i]? = some e->rs[i]? = some r->nA μ e r
theorem nA.fr {μ0 μ:Mem} {d:D} {r:List Itm} (h:nA μ0 d r) (a:Fr [] μ0 μ):nA μ d r:=⟨h.1,a.seq h.2⟩
theorem gq.fr {μ0 μ:Mem} {d:D} {rs:List (List Itm)} (h:gq μ0 d rs) (a:Fr [] μ0 μ):gq μ d rs:=by
 obtain ⟨h1,es,h2,h3,h4⟩:=h
 exact ⟨h1,es,a.seq h2,h3,fun i e r x y=>(h4 i e r x y).fr a⟩
theorem nH (μ:Mem) (rs:List (List Itm)):gq μ (.lst (cO rs)) rs:=by
 refine ⟨.inr ⟨_,rfl⟩,cO rs,rfl,by simp [cO],fun i e r x y=>?_⟩
 simp only [cO,List.getElem?_map,y,Option.map_some,Option.some.injEq] at x
 subst x
 exact ⟨.inr ⟨_,rfl⟩,rfl⟩
theorem vm {μ:Mem} {d:D} {es:List D} (hl:Lc d) (h:aq μ d=some es):bA μ d=some es:=by
 rcases hl with ⟨n,rfl⟩ | ⟨l,rfl⟩ <;> exact h
theorem nW {μ:Mem} {d:D} {es:List D} (hl:Lc d) (h:aq μ d=some es):lenOf μ d=some es.length:=by
 rcases hl with ⟨n,rfl⟩ | ⟨l,rfl⟩
 ·show Option.map (·.length) (aq μ (.loc n))=_; rw [h]; rfl
 ·show Option.map (·.length) (aq μ (.lst l))=_; rw [h]; rfl
theorem oH {μ:Mem} {d:D} {es:List D} {Q:QI} (hl:Lc d) (h:aq μ d=some es) (q:∀ g:Mem->Prop,(∀ μ',Fr [] μ μ'->g μ')->Q es g μ):yI d μ Q:=by
 rcases hl with ⟨n,rfl⟩ | ⟨l,rfl⟩
 ·simp only [aq] at h
  split at h
  ·rename_i ds e
   cases h
   simp only [yI,e]
   exact q _ fun μ' F=>F.get e
  ·cases h
 ·simp only [aq,Option.some.injEq] at h
  subst h
  exact q _ fun _ _=>trivial
theorem sU {μ:Mem} {d:D} {r:List Itm} {k:Nat} {Q:QD} (h:nA μ d r) (hk:k < r.length) (q:Q (aQ r[k]) μ):cL d (.int (k:Int)) μ Q:=by
 rw [oJ h.1 h.2 (p:=k) (e:=aQ r[k]) (by rw [List.length_map]; exact cu hk) (by simp [hk])]
 exact q
theorem uH {μ:Mem} {d:D} {rs:List (List Itm)} {k:Nat} {Q:QD} (h:gq μ d rs) (hk:k < rs.length) (q:∀ e,nA μ e rs[k]->Q e μ):cL d (.int (k:Int)) μ Q:=by
 obtain ⟨h1,es,h2,h3,h4⟩:=h
 have hk':k < es.length:=by lia
 rw [oJ h1 h2 (p:=k) (e:=es[k]) (cu hk') (by simp [hk'])]
 exact q _ (h4 k _ _ (List.getElem?_eq_getElem hk') (List.getElem?_eq_getElem hk))
noncomputable def hds (rs:List (List Itm)):List Hd:=rs.map List.head?
noncomputable def mZ:Nat->List (List Itm)->List (Itm×Nat)
 | 0,_=>[]
 | n + 1,rs=>match gM (hds rs) 0 (hds rs).length with
  | none=>[]
  | some p=>match rs[p]? with
   | some (x :: t)=>(x,p) :: mZ n (rs.set p t)
   | _=>[]
noncomputable def bI (rs:List (List Itm)):List (Itm×Nat):=mZ rs.flatten.length rs
noncomputable def yS (rs:List (List Itm)):List Itm:=(bI rs).map (·.1)
noncomputable def X4 (rs:List (List Itm)):List Nat:=(bI rs).map (·.2)
theorem vY {rs:List (List Itm)} {p:Nat} (h:gM (hds rs) 0 (hds rs).length=some p):p < rs.length/\∃ x t,rs[p]? = some (x :: t):=by
 obtain ⟨⟨x,hx⟩,_,hp⟩:=jN _ _ 0 _ (Nat.le_refl _) p h
 have hp':p < rs.length:=by simpa [hds] using hp
 refine ⟨hp',?_⟩
 simp only [hds,List.getElem?_map,List.getElem?_eq_getElem hp',Option.map_some,Option.some.injEq] at hx
 cases e:rs[p] with
 | nil=>rw [e] at hx; cases hx
 | cons y t=>exact ⟨y,t,by rw [List.getElem?_eq_getElem hp',e]⟩
theorem nM {n p:Nat} {rs:List (List Itm)} {x:Itm} {t:List Itm} (h:gM (hds rs) 0 (hds rs).length=some p) (e:rs[p]? = some (x :: t)):mZ (n + 1) rs=(x,p) :: mZ n (rs.set p t):=by
 rw [mZ,h]
 simp only [e]
theorem nP {n:Nat} {rs:List (List Itm)} (h:gM (hds rs) 0 (hds rs).length=none):mZ n rs=[]:=by
 cases n with
 | zero=>rfl
 | succ n=>rw [mZ,h]
theorem oV:∀ (rs:List (List Itm)) (p:Nat) (x:Itm) (t:List Itm),rs[p]? = some (x :: t)->(rs.set p t).flatten.length + 1=rs.flatten.length
 | [],p,x,t,h=>by simp at h
 | r :: rs,0,x,t,h=>by
  simp only [List.getElem?_cons_zero,Option.some.injEq] at h
  subst h
  simp only [List.set_cons_zero,List.flatten_cons,List.length_append,List.length_cons]; lia
 | r :: rs,p + 1,x,t,h=>by
  have:=oV rs p x t (by simpa using h)
  simp only [List.set_cons_succ,List.flatten_cons,List.length_append]; lia
theorem Sv (rs:List (List Itm)) (p:Nat) (t:List Itm):hds (rs.set p t)=(hds rs).set p t.head?:=by simp [hds,List.map_set]
noncomputable def Xx (rs rest:List (List Itm)) (tk:List Nat):Prop:=rest.length=rs.length/\tk.length=rs.length/\∀ (i:Nat) (r:List Itm),rs[i]? = some r->∃ k,tk[i]? = some k/\k<=r.length/\rest[i]? = some (r.drop k)
theorem Xx.start (rs:List (List Itm)):Xx rs rs (rs.map fun _=>0):=⟨rfl,by simp,fun i r h=>⟨0,by simp [h],Nat.zero_le _,by simpa using h⟩⟩
theorem Xx.step {rs rest:List (List Itm)} {tk:List Nat} {p:Nat} {x:Itm} {t:List Itm} (R:Xx rs rest tk) (hp:p < rs.length) (e:rest[p]? = some (x :: t)) :
  ∃ k,tk[p]? = some k/\k < rs[p].length/\rs[p][k]? = some x/\rs[p][k + 1]? = t.head?/\Xx rs (rest.set p t) (tk.set p (k + 1)):=by
 obtain ⟨R1,R2,R3⟩:=R
 obtain ⟨k,k1,k2,k3⟩:=R3 p _ (List.getElem?_eq_getElem hp)
 rw [e] at k3
 simp only [Option.some.injEq] at k3
 have hk:k < rs[p].length:=by
  rcases Nat.lt_or_ge k rs[p].length with q | q
  ·exact q
  ·rw [List.drop_eq_nil_of_le q] at k3; cases k3
 have e1:rs[p].drop k=rs[p][k] :: rs[p].drop (k + 1):=List.drop_eq_getElem_cons hk
 rw [e1] at k3
 simp only [List.cons.injEq] at k3
 obtain ⟨rfl,rfl⟩:=k3
 refine ⟨k,k1,hk,List.getElem?_eq_getElem hk,by rw [List.head?_drop],by simpa using R1,by simpa using R2,fun i r h=>?_⟩
 by_cases c:i=p
 ·subst c
  rw [List.getElem?_eq_getElem hp] at h
  simp only [Option.some.injEq] at h
  subst h
  refine ⟨k + 1,?_,hk,?_⟩
  ·rw [List.getElem?_set_self (by lia)]
  ·rw [List.getElem?_set_self (by lia)]
 ·obtain ⟨k',a,b,c'⟩:=R3 i r h
  exact ⟨k',by rw [List.getElem?_set_ne (Ne.symm c)]; exact a,b,by rw [List.getElem?_set_ne (Ne.symm c)]; exact c'⟩
def kJ:cU:=fun ds μ Q=>∃ (d:D) (r:List Itm),ds=[d]/\nA μ d r/\r.length < 1000/\∀ b:Bool,(b=true<->Adj r)->Q (.bl b) μ
def jT:cU:=fun ds μ Q=>∃ (d:D) (rs:List (List Itm)),ds=[d]/\gq μ d rs/\(∀ r∈rs,Adj r/\r.length < 1000)/\Q .non μ
def nG:cU:=fun ds μ Q=>∃ (d:D) (r:List Itm) (k:Nat),ds=[d,aA k]/\nA μ d r/\Q (hdD r[k]?) μ
def sG:cU:=fun ds μ Q=>∃ (d:D) (rs:List (List Itm)),ds=[d]/\gq μ d rs/\(∀ r∈rs,Adj r/\r.length < 1000)/\rs.length<=64/\rs.length * (rs.flatten.length + 1) < 5000/\rs.flatten.length < 5000 /\
 ∀ (μ':Mem) (a b:Nat),Fr [] μ μ'->μ.length<=a->μ.length<=b->a≠b->μ'[a]? = some (.lst ((yS rs).map aQ))->μ'[b]? = some (.lst ((X4 rs).map aA))->Q (.tup [.loc a,.loc b]) μ'
def o8:List Str:=["row","place"]
noncomputable def pK:Ss:=(.cons (.for_ [1] false (.rng (.cons (.cst (.int 1)) (.cons (.blt "len" (.cons (.var 0) .nil)) .nil))) (.cons (.ite (.call "less" sH (.cons (.idx (.var 0) (.var 1)) (.cons (.idx (.var 0) (.bin .Sub (.var 1) (.cst (.int 1)))) .nil))) (.cons (.ret (.cst (.bl false))) .nil) .nil) .nil)) (.cons (.ret (.cst (.bl true))) .nil))
def lu:List Str:=["runs","at","run"]
noncomputable def lK:Ss:=(.cons (.for_ [1,2] true (.enum (.var 0)) (.cons (.ite (.not (.call "rises" kJ (.cons (.var 2) .nil))) (.cons .Qj .nil) .nil) .nil)) .nil)
def xU:List Str:=["run","taken"]
noncomputable def yd:Ss:=(.cons (.ret (.Sh (.cmp .Lt (.var 1) (.blt "len" (.cons (.var 0) .nil))) (.idx (.var 0) (.var 1)) (.cst .non))) .nil)
def MN:List Str:=["runs","taken","contest","row","trace","number"]
noncomputable def yJ:Ss:=(.cons (.set 1 (.comp true 1 false [] (.cst (.int 0)) (.seq (.var 0)) .nil)) (.cons (.set 2 (.mk "Contest" jU (.cons (.comp false 1 false [] (.call "head_of" nG (.cons (.var 0) (.cons (.cst (.int 0)) .nil))) (.seq (.var 0)) .nil) .nil))) (.cons (.set 3 (.lst true .nil)) (.cons (.set 4 (.lst true .nil)) (.cons (.set 5 (.lD "Contest" "first" fJ (.var 2) .nil)) (.cons (.whl (.cmp .IsNot (.var 5) (.cst .non)) (.cons (.exp (.meth "append" (.var 3) (.cons (.lD "Contest" "head" jV (.var 2) (.cons (.var 5) .nil)) .nil))) (.cons (.exp (.meth "append" (.var 4) (.cons (.var 5) .nil))) (.cons (.rG .Add (.var 1) (.var 5) (.cst (.int 1))) (.cons (.exp (.lD "Contest" "put" kW (.var 2) (.cons (.var 5) (.cons (.call "head_of" nG (.cons (.idx (.var 0) (.var 5)) (.cons (.idx (.var 1) (.var 5)) .nil))) .nil)))) (.cons (.set 5 (.lD "Contest" "first" fJ (.var 2) .nil)) .nil)))))) (.cons (.ret (.tup (.cons (.var 3) (.cons (.var 4) .nil)))) .nil)))))))
noncomputable def N8:Ss:=(.cons (.exp (.call "check_rising" jT (.cons (.var 0) .nil))) yJ)
theorem zq:Keeps o8 pK kJ:=by
 rintro ds μ Q ⟨d,r,rfl,hd,hl,h⟩
 have Oh:=nW hd.1 hd.2
 simp [pK,o8,aH,bO,wSs,wS,wE,wEs,wI,wT,aX,Oh,rK,j4]
 refine ⟨⟨by simp only [lim]; lia,by lia⟩,?_⟩
 refine bF (fun ds ρ μ'=>∃ (m:Nat) (u:Option D),ds=(List.range' m (r.length - 1 - m)).map (fun (k:Nat)=>D.int (1 + (k:Int)))/\(∀ i (h:i + 1 < r.length),i < m->eE (r[i + 1]'h) (r[i]'(by lia))=false)/\μ'=μ/\ρ=[some d,u]) ?_ ?_ _ _ _ ⟨0,none,?_,fun i h1 h2=>by lia,rfl,rfl⟩
 ·rintro d' ds ρ μ' N hN ⟨m,u,e,hm,rfl,rfl⟩
  have hm2:m < r.length - 1:=by
   by_cases q:m < r.length - 1
   ·exact q
   ·rw [show r.length - 1 - m=0 by lia] at e; simp at e
  have e0:List.range' m (r.length - 1 - m)=m :: List.range' (m + 1) (r.length - 1 - (m + 1)):=by
   rw [show r.length - 1 - m=(r.length - 1 - (m + 1)) + 1 by lia,List.range'_succ]
  rw [e0] at e
  simp at e
  obtain ⟨rfl,rfl⟩:=e
  refine ⟨trivial,?_⟩
  have h1:m + 1 < r.length:=by lia
  have h2:m < r.length:=by lia
  have e1:(1 + (m:Int))=((m + 1:Nat):Int):=by lia
  have e2:1 + (m:Int) - 1=(m:Int):=by lia
  simp only [cZ,List.set_cons_zero,List.set_cons_succ,List.getElem?_cons_zero,List.getElem?_cons_succ,gB,e2]
  rw [e1]
  refine sU hd h1 (sU hd h2 ?_)
  refine ⟨r[m + 1],r[m],rfl,?_⟩
  simp [iB,truth]
  by_cases q:eE r[m + 1] r[m]=true
  ·rw [if_pos q]
   refine h false ⟨fun z=>Bool.noConfusion z,fun z=>?_⟩
   have:=z m h1
   rw [q] at this; cases this
  ·rw [if_neg q]
   refine hN _ _ ⟨m + 1,_,rfl,fun i a b=>?_,rfl,rfl⟩
   by_cases z:i=m
   ·subst z; simpa using q
   ·exact hm i a (by lia)
 ·rintro ρ μ' ⟨m,u,e,hm,rfl,rfl⟩
  have hm2:r.length - 1 - m=0:=by
   have:=congrArg List.length e
   simp at this
   lia
  exact ⟨trivial,h true ⟨fun _ i a=>hm i a (by lia),fun _=>rfl⟩⟩
 ·simp only [dD]
  rw [List.range_eq_range']
  congr 1
theorem Jm:Keeps xU yd nG:=by
 rintro ds μ Q ⟨d,r,k,rfl,hd,h⟩
 have Oh:=nW hd.1 hd.2
 simp only [yd,xU,aH,bO,wSs,wS,wT,wE,wEs,aA,aX,Oh,List.map_cons,List.map_nil,List.length_cons,List.length_nil,List.cons_append,List.nil_append,List.getElem?_cons_zero,List.getElem?_cons_succ,bK,sX,fU,List.length_map]
 by_cases c:k < r.length
 ·have c':(k:Int) < (r.length:Int):=by lia
  simp only [c',decide_true,if_true]
  refine sU hd c ?_
  rw [List.getElem?_eq_getElem c] at h
  exact h
 ·have c':¬ (k:Int) < (r.length:Int):=by lia
  simp only [c',decide_false,Bool.false_eq_true,if_false]
  rw [List.getElem?_eq_none (by lia)] at h
  exact h
theorem vB:Keeps lu lK jT:=by
 rintro ds μ Q ⟨d,rs,rfl,hd,ha,h⟩
 obtain ⟨h1,es,h2,h3,h4⟩:=hd
 have hls:=vm h1 h2
 simp only [lK,lu,aH,bO,wSs,wS,wE,wEs,wI,oK,hls,List.map_cons,List.map_nil,List.length_cons,List.length_nil,List.cons_append,List.nil_append,List.getElem?_cons_zero,List.replicate]
 refine bF (fun ds ρ μ'=>∃ (j:Nat) (a b:Option D),ds=cY j (es.drop j)/\μ'=μ/\ρ=[some d,a,b]) ?_ ?_ _ _ _ ⟨0,none,none,by simp,rfl,rfl⟩
 ·rintro d' ds ρ μ' N hN ⟨j,a,b,e,rfl,rfl⟩
  refine ⟨hls,?_⟩
  have hj:j < es.length:=by
   rcases Nat.lt_or_ge j es.length with q | q
   ·exact q
   ·rw [List.drop_eq_nil_of_le q] at e; simp [cY] at e
  rw [List.drop_eq_getElem_cons hj] at e
  simp only [cY,List.cons.injEq] at e
  obtain ⟨rfl,rfl⟩:=e
  simp only [cZ,List.zip_cons_cons,List.zip_nil_right,List.foldl_cons,List.foldl_nil,List.set_cons_zero,List.set_cons_succ,List.getElem?_cons_zero,List.getElem?_cons_succ,wT,wE,wEs]
  have hj':j < rs.length:=by lia
  have hr:=ha _ (List.getElem_mem hj')
  refine ⟨rfl,es[j],rs[j],rfl,h4 j _ _ (List.getElem?_eq_getElem hj) (List.getElem?_eq_getElem hj'),hr.2,fun b hb=>?_⟩
  have hb':b=true:=hb.mpr hr.1
  subst hb'
  simp only [iB,truth,Bool.not_true,Bool.false_eq_true,if_false,wSs]
  exact hN _ _ ⟨j + 1,_,_,rfl,rfl,rfl⟩
 ·rintro ρ μ' ⟨j,a,b,e,rfl,rfl⟩
  exact ⟨hls,h⟩
theorem zeros {es:List D} {rs:List (List Itm)} (h:es.length=rs.length):(es.map fun _=>D.int 0)=(rs.map fun _=>0).map aA:=by
 simp only [List.map_const',List.map_replicate,h,aA]
 rfl
theorem Fw {μ:Mem} {es:List D} {rs:List (List Itm)} (h3:es.length=rs.length):(es.zip rs).map (fun p=>hdD p.2[0]?)=(hds rs).map hdD:=by
 have e:(es.zip rs).map Prod.snd=rs:=List.map_snd_zip (by lia)
 rw [<- e]
 simp only [hds,List.map_map]
 rw [e]
 refine List.map_congr_left fun p _=>?_
 simp [List.head?_eq_getElem?]
theorem Ec {Z:jx} {μ:Mem} {d:D} {rs:List (List Itm)} (hd:gq μ d rs) (hn:rs.length<=64) (hm:rs.length * (rs.flatten.length + 1) < 5000) (hf:rs.flatten.length < 5000)
  (h:∀ (μ':Mem) (a b:Nat),Fr [] μ μ'->μ.length<=a->μ.length<=b->a≠b->μ'[a]? = some (.lst ((yS rs).map aQ))->μ'[b]? = some (.lst ((X4 rs).map aA))->Z.rt (.tup [.loc a,.loc b]) μ') :
  wSs yJ Z [some d,none,none,none,none,none] μ:=by
 have hd':=hd
 obtain ⟨h1,es,h2,h3,h4⟩:=hd'
 simp only [yJ,wSs,wS,wE,wEs,wI,List.map_cons,List.map_nil,List.length_cons,List.length_nil,List.cons_append,List.nil_append,List.getElem?_cons_zero,List.replicate]
 refine oH h1 h2 fun g hg=>?_
 refine jj (fun _=>true) (fun _=>D.int 0) (hg _ Fr.refl) _ _ ?_ ?_
 ·intro e he Y N z
  simpa [bindC,wTs] using z
 rw [List.filter_eq_self.mpr (by simp),List.nil_append,zeros h3]
 simp only [newL,List.set_cons_zero,List.set_cons_succ,List.getElem?_cons_zero,List.getElem?_cons_succ]
 have F1:Fr [] μ (μ ++ [Cell.lst ((rs.map fun _=>0).map aA)]):=Fr.app
 have t1:(μ ++ [Cell.lst ((rs.map fun _=>0).map aA)])[μ.length]? = some (.lst ((rs.map fun _=>0).map aA)):=by simp
 have l1:(μ ++ [Cell.lst ((rs.map fun _=>0).map aA)]).length=μ.length + 1:=by simp
 generalize μ ++ [Cell.lst ((rs.map fun _=>0).map aA)]=μ1 at F1 t1 l1
 refine oH h1 (F1.seq h2) fun g hg=>?_
 have ez:es=(es.zip rs).map Prod.fst:=(List.map_fst_zip (by lia)).symm
 rw [ez]
 refine tW Prod.fst (fun p=>hdD p.2[0]?) (hg _ Fr.refl) _ _ ?_ ?_
 ·intro p hp Y N z
  obtain ⟨i,i1,i2⟩:=rC hp
  simp only [bindC,wTs,wE,wEs,List.map_nil,List.getElem?_cons_zero,if_true]
  exact ⟨p.1,p.2,0,rfl,(h4 i _ _ i1 i2).fr F1,z⟩
 rw [List.nil_append,Fw (μ:=μ) h3]
 have lh:(hds rs).length=rs.length:=by simp [hds]
 refine ⟨μ1.length,hds rs,rfl,by simp,by lia,fun μ2 hh ww f F2 C A hlo wlo=>⟨rfl,?_⟩⟩
 have F2':Fr [] μ μ2:=(F1.Bx _).new F2 (by simp; lia)
 have o1:μ1.length=μ.length + 1:=l1
 have t2:μ2[μ.length]? = some (.lst ((rs.map fun _=>0).map aA)):=by
  rw [F2.2 μ.length (by simp; lia) (by simp; lia),List.getElem?_append_left (by lia)]; exact t1
 simp only [List.length_append,List.length_cons,List.length_nil] at hlo wlo
 rw [o1] at C hlo wlo ⊢
 have ne:=C.ne
 simp only [List.set_cons_zero,List.set_cons_succ,List.getElem?_cons_zero,List.getElem?_cons_succ,newL,List.length_append,List.length_cons,List.length_nil]
 refine ⟨by simp only [lim]; lia,by simp only [lim]; lia,?_⟩
 have hcl:=aJ C.hd
 obtain ⟨_,_,hw0,_⟩:=C.wn
 have wcl:=aJ hw0
 have ocl:=aJ C.at_
 have C2:p8 (μ2 ++ [Cell.lst []] ++ [Cell.lst []]) (μ.length + 1) hh ww (hds rs) f (((hds rs).length - 1:Nat):Int):=(C.fr (S:=[]) Fr.app (by simp) (by simp) (by simp)).fr (S:=[]) Fr.app (by simp) (by simp) (by simp)
 have F3:Fr [] μ (μ2 ++ [Cell.lst []] ++ [Cell.lst []]):=(F2'.Bx _).Bx _
 have t3:(μ2 ++ [Cell.lst []] ++ [Cell.lst []])[μ.length]? = some (.lst ((rs.map fun _=>0).map aA)):=by
  rw [List.append_assoc,List.getElem?_append_left (aJ t2)]; exact t2
 have a3:(μ2 ++ [Cell.lst []] ++ [Cell.lst []])[μ2.length]? = some (.lst ((([]:List (Itm×Nat)).map (·.1)).map aQ)):=by simp
 have b3:(μ2 ++ [Cell.lst []] ++ [Cell.lst []])[μ2.length + 1]? = some (.lst ((([]:List (Itm×Nat)).map (·.2)).map aA)):=by
  rw [List.getElem?_append_right (by simp)]; simp
 generalize μ2 ++ [Cell.lst []] ++ [Cell.lst []]=μ3 at C2 F3 t3 a3 b3
 have al:μ.length + 1 < μ2.length:=ocl
 generalize μ2.length=na at *
 refine ⟨by simp [dY,C2.ins,aR],_,hh,ww,hds rs,f,_,rfl,C2,A,by lia,?_⟩
 refine ⟨fun M ρ μ'=>∃ (rest:List (List Itm)) (tk:List Nat) (dn:List (Itm×Nat)) (f:WF) (n:Int),M=rest.flatten.length/\Xx rs rest tk/\dn ++ mZ M rest=bI rs/\dn.length + M=rs.flatten.length/\n<=((rs.length * (dn.length + 1):Nat):Int)/\0<=n/\Fr [] μ μ'/\p8 μ' (μ.length + 1) hh ww (hds rest) f n/\Z5 (hds rest) f /\
   μ'[μ.length]? = some (.lst (tk.map aA))/\μ'[na]? = some (.lst ((dn.map (·.1)).map aQ))/\μ'[na + 1]? = some (.lst ((dn.map (·.2)).map aA))/\ρ=[some d,some (.loc μ.length),some (.loc (μ.length + 1)),some (.loc na),some (.loc (na + 1)),some (gY (gM (hds rest) 0 (hds rest).length))],
  ⟨_,rs,_,[],f,_,rfl,Xx.start rs,by simp [bI],by simp,by simp; lia,by lia,F3,C2,A,t3,a3,b3,rfl⟩,?_⟩
 rintro M ρ μ' ⟨rest,tk,dn,f',n,rfl,R,ep,el,hnn,hn0,F,C',A',t',a',b',rfl⟩
 clear C2 C A F3 t3 a3 b3 F2' F2 t2 hw0 t1
 simp only [wT,wE,List.getElem?_cons_zero,List.getElem?_cons_succ,bK,fU]
 cases hb:gM (hds rest) 0 (hds rest).length with
 | none =>
  simp only [gY,gA,Bool.not_true,Bool.false_eq_true,if_false,List.getElem?_cons_zero,List.getElem?_cons_succ,List.length_cons,List.length_nil]
  rw [nP hb,List.append_nil] at ep
  subst ep
  refine ⟨by decide,h μ' na (na + 1) F (by lia) (by lia) (by lia) a' b'⟩
 | some p =>
  obtain ⟨hp,x,t,hx⟩:=vY hb
  have hp':p < rs.length:=by rw [<- R.1]; exact hp
  obtain ⟨k,k1,k2,k3,k4,R'⟩:=R.step hp' hx
  have sf:=oV rest p x t hx
  have hps:=nM (n:=(rest.set p t).flatten.length) hb hx
  rw [sf] at hps
  rw [hps] at ep
  have lr:(hds rest).length=rs.length:=by simp [hds,R.1]
  have hxd:(hds rest)[p]? = some (some x):=by simp [hds,hx]
  simp only [gY,gA,Bool.not_false,if_true,wSs,wS,wE,wEs,List.getElem?_cons_zero,List.getElem?_cons_succ]
  have ca:isCell μ' (.loc na)=true:=by simp [isCell,a']
  refine ⟨ca,by simp [dY,C'.ins,aR],_,hh,ww,hds rest,f',n,p,some x,rfl,C',hxd,?_⟩
  simp only [fP,a',cV,hdD,List.length_map]
  refine ⟨by simp only [lim]; lia,?_⟩
  have hal:na < μ'.length:=aJ a'
  have hbl:na + 1 < μ'.length:=aJ b'
  have ea:(dn.map (·.1)).map aQ ++ [aQ x]=((dn ++ [(x,p)]).map (·.1)).map aQ:=by simp
  rw [ea]
  have C4:=C'.fr (S:=[na]) (Fr.set (n:=na) (c:=.lst (((dn ++ [(x,p)]).map (·.1)).map aQ)) (by simp)) (by simp; lia) (by simp; lia) (by simp; lia)
  have F4:=F.Bs (.lst (((dn ++ [(x,p)]).map (·.1)).map aQ)) (t:=na) (by lia)
  have t4:(μ'.set na (.lst (((dn ++ [(x,p)]).map (·.1)).map aQ)))[μ.length]? = some (.lst (tk.map aA)):=by rw [List.getElem?_set_ne (by lia)]; exact t'
  have b4:(μ'.set na (.lst (((dn ++ [(x,p)]).map (·.1)).map aQ)))[na + 1]? = some (.lst ((dn.map (·.2)).map aA)):=by rw [List.getElem?_set_ne (by lia)]; exact b'
  have a4:(μ'.set na (.lst (((dn ++ [(x,p)]).map (·.1)).map aQ)))[na]? = some (.lst (((dn ++ [(x,p)]).map (·.1)).map aQ)):=List.getElem?_set_self hal
  generalize μ'.set na (.lst (((dn ++ [(x,p)]).map (·.1)).map aQ))=μ4 at C4 F4 t4 b4 a4
  have cb:isCell μ4 (.loc (na + 1))=true:=by simp [isCell,b4]
  refine ⟨cb,?_⟩
  simp only [b4,cV,List.length_map]
  refine ⟨by simp only [lim]; lia,?_⟩
  have hal:na < μ4.length:=aJ a4
  have hbl:na + 1 < μ4.length:=aJ b4
  have eb:(dn.map (·.2)).map aA ++ [D.int (p:Int)]=((dn ++ [(x,p)]).map (·.2)).map aA:=by simp [aA]
  rw [eb]
  have C5:=C4.fr (S:=[na + 1]) (Fr.set (n:=na + 1) (c:=.lst (((dn ++ [(x,p)]).map (·.2)).map aA)) (by simp)) (by simp; lia) (by simp; lia) (by simp; lia)
  have F5:=F4.Bs (.lst (((dn ++ [(x,p)]).map (·.2)).map aA)) (t:=na + 1) (by lia)
  have t5:(μ4.set (na + 1) (.lst (((dn ++ [(x,p)]).map (·.2)).map aA)))[μ.length]? = some (.lst (tk.map aA)):=by rw [List.getElem?_set_ne (by lia)]; exact t4
  have a5:(μ4.set (na + 1) (.lst (((dn ++ [(x,p)]).map (·.2)).map aA)))[na]? = some (.lst (((dn ++ [(x,p)]).map (·.1)).map aQ)):=by rw [List.getElem?_set_ne (by lia)]; exact a4
  have b5:(μ4.set (na + 1) (.lst (((dn ++ [(x,p)]).map (·.2)).map aA)))[na + 1]? = some (.lst (((dn ++ [(x,p)]).map (·.2)).map aA)):=List.getElem?_set_self hbl
  generalize μ4.set (na + 1) (.lst (((dn ++ [(x,p)]).map (·.2)).map aA))=μ5 at C5 F5 t5 b5 a5
  have htl:μ.length < μ5.length:=aJ t5
  have hpk:p < tk.length:=by rw [R.2.1]; exact hp'
  have ktk:tk[p]=k:=by rw [List.getElem?_eq_getElem hpk] at k1; exact Option.some.inj k1
  have kt:(tk.map aA)[((p:Int)).toNat]? = some (.int (k:Int)):=by simp [k1,aA]
  simp only [qZ,t5,kt,gO,fH,List.length_map,cu hpk]
  refine ⟨by lia,?_⟩
  have et:(tk.map aA).set p (D.int ((k:Int) + 1))=(tk.set p (k + 1)).map aA:=by
   rw [List.map_set]; simp [aA]
  rw [et]
  have C6:=C5.fr (S:=[μ.length]) (Fr.set (n:=μ.length) (c:=.lst ((tk.set p (k + 1)).map aA)) (by simp)) (by simp) (by simp; lia) (by simp; lia)
  have F6:=F5.Bs (.lst ((tk.set p (k + 1)).map aA)) (t:=μ.length) (Nat.le_refl _)
  have t6:(μ5.set μ.length (.lst ((tk.set p (k + 1)).map aA)))[μ.length]? = some (.lst ((tk.set p (k + 1)).map aA)):=List.getElem?_set_self htl
  have a6:(μ5.set μ.length (.lst ((tk.set p (k + 1)).map aA)))[na]? = some (.lst (((dn ++ [(x,p)]).map (·.1)).map aQ)):=by rw [List.getElem?_set_ne (by lia)]; exact a5
  have b6:(μ5.set μ.length (.lst ((tk.set p (k + 1)).map aA)))[na + 1]? = some (.lst (((dn ++ [(x,p)]).map (·.2)).map aA)):=by rw [List.getElem?_set_ne (by lia)]; exact b5
  generalize μ5.set μ.length (.lst ((tk.set p (k + 1)).map aA))=μ6 at C6 F6 t6 b6 a6
  refine ⟨by simp [dY,C6.ins,aR],?_⟩
  refine uH (hd.fr F6) hp' fun e he=>?_
  have abF:p < (tk.set p (k + 1)).length:=by simpa using hpk
  rw [oJ (ds:=(tk.set p (k + 1)).map aA) (p:=p) (e:=aA (k + 1)) (.inl ⟨_,rfl⟩) (by simp only [aq,t6]) (by rw [List.length_map]; exact cu abF) (by simp [hpk])]
  refine ⟨e,rs[p],k + 1,rfl,he,?_⟩
  rw [k4]
  have abl:=pW p (hds rest).length 0 (hds rest).length (by lia)
  have mb:rs.length * (dn.length + 1)<=rs.length * (rs.flatten.length + 1):=Nat.mul_le_mul_left _ (by lia)
  refine ⟨_,hh,ww,hds rest,f',n,p,t.head?,rfl,C6,A',by lia,by lia,by lia,fun μ7 f7 F7 C7 A7=>?_⟩
  rw [<- Sv] at C7 A7
  have F7':Fr [] μ μ7:=F6.new F7 (by simp; lia)
  have t7:μ7[μ.length]? = some (.lst ((tk.set p (k + 1)).map aA)):=by rw [F7.2 _ (aJ t6) (by simp; lia)]; exact t6
  have a7:μ7[na]? = some (.lst (((dn ++ [(x,p)]).map (·.1)).map aQ)):=by rw [F7.2 _ (aJ a6) (by simp; lia)]; exact a6
  have b7:μ7[na + 1]? = some (.lst (((dn ++ [(x,p)]).map (·.2)).map aA)):=by rw [F7.2 _ (aJ b6) (by simp; lia)]; exact b6
  simp only [List.set_cons_zero,List.set_cons_succ,List.getElem?_cons_zero,List.getElem?_cons_succ]
  have lr2:(hds (rest.set p t)).length=rs.length:=by simp [hds,R.1]
  refine ⟨by simp [dY,C7.ins,aR],_,hh,ww,_,f7,_,rfl,C7,A7,by lia,?_⟩
  refine ⟨(rest.set p t).flatten.length,by lia,rest.set p t,tk.set p (k + 1),dn ++ [(x,p)],f7,_,rfl,R',by simpa using ep,by rw [List.length_append]; show dn.length + 1 + _=_; lia,?_,by lia,F7',C7,A7,t7,a7,b7,rfl⟩
  have e9:(dn ++ [(x,p)]).length=dn.length + 1:=by simp
  rw [e9,Nat.mul_succ]
  lia
theorem Wv:Keeps MN N8 sG:=by
 rintro ds μ Q ⟨d,rs,rfl,hd,ha,hn,hm,hf,h⟩
 simp only [N8,MN,aH,bO,wSs,wS,wE,wEs,List.map_cons,List.map_nil,List.length_cons,List.length_nil,List.cons_append,List.nil_append,List.getElem?_cons_zero,List.replicate]
 exact ⟨d,rs,rfl,hd,ha,Ec hd hn hm hf h⟩
end DW.J0
end
section
namespace DW.J0
open PySem DW DW.Dy DW.Dz
noncomputable def PJ (m:Nat) (r:List Itm):Prop:=r.length<=m/\aY r/\∀ x∈r,Ag x
def Bo:cU:=fun ds μ Q=>∃ (n m s:Nat),ds=[.loc n,.int (m:Int),.int (s:Int)]/\dB μ n/\m < 64/\s < 100/\∀ (rs:List (List Itm)) (b:Int) (ν:Mem),rs.length<=m->(∀ r∈rs,PJ s r)->Q (.lst (cO rs)) (bx μ n b ++ ν)
def G6:List Str:=["box","most","size"]
noncomputable def Hr:Ss:=(.cons (.ret (.comp false 1 false [0,2] (.call "_law_sorted" uz (.cons (.call "_law_row" lZ (.cons (.var 1) (.cons (.var 2) .nil))) .nil)) (.rng (.cons (.call "_law_take" bh (.cons (.var 0) (.cons (.bin .Add (.var 1) (.cst (.int 1))) .nil))) .nil)) .nil)) .nil)
theorem R6:Keeps G6 Hr Bo:=by
 rintro ds μ Q ⟨n,m,s,rfl,hb,hm,hs,h⟩
 simp only [Hr,G6,aH,bO,wSs,wS,wE,wEs,wI,gB,List.map_cons,List.map_nil,List.length_cons,List.length_nil,List.cons_append,List.nil_append,List.getElem?_cons_zero,List.getElem?_cons_succ,List.replicate]
 refine ⟨hb,by lia,by lia,fun d b d0 d1=>?_⟩
 simp only [rK,j4]
 refine ⟨by simp only [lim]; lia,by lia,?_⟩
 refine gH (fun ds acc μ'=>∃ (rs:List (List Itm)) (b:Int) (ν:Mem),acc=cO rs/\μ'=bx μ n b ++ ν/\(∀ r∈rs,PJ s r)/\rs.length + ds.length<=m) ?_ ?_ _ _ _ ⟨[],b,[],rfl,by simp,by simp,?_⟩
 ·rintro d ds acc μ' Y N hY hN ⟨rs,b,ν,rfl,rfl,hr,hl⟩
  have hb2:dB (bx μ n b ++ ν) n:=qL (cX hb)
  refine ⟨trivial,?_⟩
  simp only [bindC,wTs,wE,wEs,List.map_cons,List.map_nil,List.getElem?_cons_zero,List.getElem?_cons_succ,Option.join_some,if_true]
  refine ⟨hb2,by lia,by lia,fun r b2 rl Le=>?_⟩
  refine ⟨r,rfl,by lia,hY _ _ ⟨rs ++ [Gy r],b2,ν ++ [.gone],by simp [cO],?_,?_,?_⟩⟩
  ·rw [Xk (cX hb),nq,List.append_assoc]
  ·intro q hq
   rcases List.mem_append.mp hq with hq | hq
   ·exact hr q hq
   ·have:q=Gy r:=by simpa using hq
    subst this
    exact ⟨by rw [(oO r).length_eq]; lia,uq r,fun x hx=>Le x ((oO r).mem_iff.mp hx)⟩
  ·simp at hl ⊢; lia
 ·rintro acc μ' ⟨rs,b,ν,rfl,rfl,hr,hl⟩
  exact ⟨trivial,h rs b ν (by simpa using hl) hr⟩
 ·simp [dD]; lia
theorem uP {μ:Mem} {g:Nat} {tk:List Nat} {k v:Nat} {Q:QD} (hg:μ[g]? = some (.lst (tk.map aA))) (hk:tk[k]? = some v) (q:Q (.int (v:Int)) μ):cL (.loc g) (.int (k:Int)) μ Q:=by
 have hl:k < tk.length:=(List.getElem?_eq_some_iff.mp hk).1
 rw [oJ (ds:=tk.map aA) (p:=k) (e:=aA v) (.inl ⟨_,rfl⟩) (by simp only [aq,hg]) (by rw [List.length_map]; exact cu hl) (by simp [hk])]
 exact q
theorem Pg {rs:List (List Itm)} (h:0 < rs.flatten.length):∃ p,gM (hds rs) 0 (hds rs).length=some p:=by
 cases e:gM (hds rs) 0 (hds rs).length with
 | some p=>exact ⟨p,rfl⟩
 | none =>
  exfalso
  have hq:=lU _ 0 _ (Nat.le_refl _) e
  have:∀ r∈rs,r=[]:=fun r hr=>by
   obtain ⟨i,hi,rfl⟩:=List.mem_iff_getElem.mp hr
   cases er:rs[i] with
   | nil=>rfl
   | cons x t=>exact absurd ⟨x,by simp [hds,hi,er]⟩ (hq i (Nat.zero_le _) (by simpa [hds] using hi))
  rw [List.flatten_eq_nil_iff.mpr this] at h
  simp at h
theorem Gw:∀ rs:List (List Itm),(rs.map fun r=>(r.length:Int)).sum=(rs.flatten.length:Int)
 | []=>rfl
 | r :: rs=>by
  have:=Gw rs
  simp only [List.map_cons,List.sum_cons,List.flatten_cons,List.length_append] at this ⊢
  lia
end DW.J0
end
section
namespace DW.J0
open PySem DW DW.Dy DW.Dz
noncomputable def dF:Nat->List (List Itm)->List (Itm×Nat)
 | _,[]=>[]
 | k,r :: rs=>r.map (fun x=>(x,k)) ++ dF (k + 1) rs
noncomputable def pairs (rs:List (List Itm)):List (Itm×Nat):=dF 0 rs
theorem pairs_len:∀ (rs:List (List Itm)) (k:Nat),(dF k rs).length=rs.flatten.length
 | [],_=>rfl
 | r :: rs,k=>by simp only [dF,List.length_append,List.length_map,List.flatten_cons,pairs_len rs (k + 1)]
theorem xR:∀ (rs:List (List Itm)) (k:Nat),(dF k rs).map (·.1)=rs.flatten
 | [],_=>rfl
 | r :: rs,k=>by simp [dF,xR rs (k + 1),Function.comp_def]
theorem xQ:∀ (rs:List (List Itm)) (k p:Nat) (x:Itm) (t:List Itm),rs[p]? = some (x :: t)->(dF k rs).Perm ((x,k + p) :: dF k (rs.set p t))
 | [],k,p,x,t,h=>by simp at h
 | r :: rs,k,0,x,t,h=>by
  simp only [List.getElem?_cons_zero,Option.some.injEq] at h
  subst h
  simp only [dF,List.set_cons_zero,List.map_cons,List.cons_append,Nat.add_zero]
  exact List.Perm.refl _
 | r :: rs,k,p + 1,x,t,h=>by
  have:=xQ rs (k + 1) p x t (by simpa using h)
  rw [show k + 1 + p=k + (p + 1) by lia] at this
  simp only [dF,List.set_cons_succ]
  exact (this.append_left _).trans List.perm_middle
theorem mF:∀ (rs:List (List Itm)) (k:Nat) (y:Itm) (q:Nat),(y,q)∈dF k rs->∃ i r,rs[i]? = some r/\y∈r/\q=k + i
 | [],k,y,q,h=>by simp [dF] at h
 | r :: rs,k,y,q,h=>by
  rw [dF] at h
  rcases List.mem_append.mp h with h | h
  ·obtain ⟨z,hz,e⟩:=List.mem_map.mp h
   simp only [Prod.mk.injEq] at e
   obtain ⟨rfl,rfl⟩:=e
   exact ⟨0,r,rfl,hz,rfl⟩
  ·obtain ⟨i,r',h1,h2,h3⟩:=mF rs (k + 1) y q h
   exact ⟨i + 1,r',h1,h2,by lia⟩
theorem Ot {rs:List (List Itm)} (h:gM (hds rs) 0 (hds rs).length=none):rs.flatten.length=0:=by
 rcases Nat.eq_zero_or_pos rs.flatten.length with q | q
 ·exact q
 ·obtain ⟨p,e⟩:=Pg q
  rw [e] at h; cases h
theorem nO:∀ (n:Nat) (rs:List (List Itm)),rs.flatten.length<=n->(mZ n rs).Perm (pairs rs)
 | 0,rs,h=>by
  have:pairs rs=[]:=List.length_eq_zero_iff.mp (by rw [pairs,pairs_len]; lia)
  rw [this]; exact List.Perm.refl _
 | n + 1,rs,h=>by
  cases hb:gM (hds rs) 0 (hds rs).length with
  | none =>
   have:pairs rs=[]:=List.length_eq_zero_iff.mp (by rw [pairs,pairs_len]; exact Ot hb)
   rw [nP hb,this]
  | some p =>
   obtain ⟨hp,x,t,hx⟩:=vY hb
   have sf:=oV rs p x t hx
   rw [nM hb hx]
   have h1:=nO n (rs.set p t) (by lia)
   have h2:=xQ rs 0 p x t hx
   rw [Nat.zero_add] at h2
   exact (h1.cons _).trans h2.symm
theorem iH (rs:List (List Itm)):(bI rs).Perm (pairs rs):=nO _ _ (Nat.le_refl _)
theorem xT (rs:List (List Itm)):(yS rs).Perm rs.flatten:=by
 have:=(iH rs).map (·.1)
 rw [pairs,xR] at this
 exact this
theorem BJ (rs:List (List Itm)):(bI rs).length=rs.flatten.length:=by rw [(iH rs).length_eq,pairs,pairs_len]
theorem V0 {rs:List (List Itm)} {q:Nat} (h:q∈X4 rs):q < rs.length:=by
 obtain ⟨⟨y,q'⟩,hy,e⟩:=List.mem_map.mp h
 obtain ⟨i,r,h1,h2,h3⟩:=mF rs 0 y q' ((iH rs).mem_iff.mp hy)
 have:=(List.getElem?_eq_some_iff.mp h1).1
 simp only at e
 lia
noncomputable def ple (u v:Itm×Nat):Prop:=eE v.1 u.1=false/\(u.1=v.1->u.2<=v.2)
theorem Ek {rs:List (List Itm)} {p:Nat} {x:Itm} {t:List Itm} (hr:∀ r∈rs,aY r) (e:rs[p]? = some (x :: t)):∀ r∈rs.set p t,aY r:=by
 intro r h
 rcases List.mem_or_eq_of_mem_set h with h | h
 ·exact hr r h
 ·subst h
  exact (List.pairwise_cons.mp (hr _ (List.mem_of_getElem? e))).2
theorem oX:∀ (n:Nat) (rs:List (List Itm)),rs.flatten.length<=n->(∀ r∈rs,aY r)->(mZ n rs).Pairwise ple
 | 0,rs,_,_=>List.Pairwise.nil
 | n + 1,rs,h,hr=>by
  cases hb:gM (hds rs) 0 (hds rs).length with
  | none=>rw [nP hb]; exact List.Pairwise.nil
  | some p =>
   obtain ⟨hp,x,t,hx⟩:=vY hb
   have sf:=oV rs p x t hx
   rw [nM hb hx]
   have hr':=Ek hr hx
   refine List.pairwise_cons.mpr ⟨fun v hv=>?_,oX n _ (by lia) hr'⟩
   obtain ⟨y,q⟩:=v
   obtain ⟨i,r,h1,h2,h3⟩:=mF _ 0 y q ((nO n (rs.set p t) (by lia)).mem_iff.mp hv)
   rw [Nat.zero_add] at h3
   subst h3
   by_cases c:q=p
   ·subst c
    rw [List.getElem?_set_self hp] at h1
    cases h1
    exact ⟨(List.pairwise_cons.mp (hr _ (List.mem_of_getElem? hx))).1 y h2,fun _=>Nat.le_refl _⟩
   ·rw [List.getElem?_set_ne (Ne.symm c)] at h1
    have hq:=(List.getElem?_eq_some_iff.mp h1).1
    cases r with
    | nil=>simp at h2
    | cons y0 t0 =>
     have hxh:(hds rs)[p]? = some (some x):=by simp [hds,hx]
     have hyh:(hds rs)[q]? = some (some y0):=by simp [hds,h1]
     have hbf:=jO _ 0 _ (Nat.le_refl _) p hb q (Nat.zero_le _) (by simpa [hds] using hq) c x y0 hxh hyh
     have hyy:eE y y0=false:=by
      rcases List.mem_cons.mp h2 with rfl | h2
      ·exact sZ y
      ·exact (List.pairwise_cons.mp (hr _ (List.mem_of_getElem? h1))).1 y h2
     refine ⟨fK _ _ _ hbf.1 hyy,fun e=>?_⟩
     rcases hbf.2 with z | z
     ·have e:x=y:=e
      rw [e,hyy] at z; cases z
     ·exact Nat.le_of_lt z
theorem mY {rs:List (List Itm)} (hr:∀ r∈rs,aY r):(bI rs).Pairwise ple:=oX _ _ (Nat.le_refl _) hr
theorem BL {rs:List (List Itm)} (hr:∀ r∈rs,aY r):aY (yS rs):=by
 refine List.pairwise_map.mpr ((mY hr).imp fun h=>h.1)
theorem BK {rs:List (List Itm)} (hr:∀ r∈rs,aY r):yS rs=Gy rs.flatten:=K4 (xT rs) (BL hr)
end DW.J0
end
section
namespace DW.Yb
open PySem DW DW.Dy DW.Dz DW.J0
theorem JB {rs:List (List Itm)} (h:∀ r∈rs,∀ x∈r,Ag x):flat 60 (.lst (cO rs))=true:=by
 simp only [flat,cO]
 induction rs with
 | nil=>rfl
 | cons r rs ih =>
  simp only [List.map_cons,flats,Bool.and_eq_true]
  refine ⟨?_,ih fun q hq=>h q (by simp [hq])⟩
  simp only [flat]
  have hr:=h r (by simp)
  clear ih h
  induction r with
  | nil=>rfl
  | cons x r ih =>
   have hx:=JC (hr x (by simp))
   simp only [aQ,flat,flats,Bool.and_true,Bool.true_and] at hx
   simp only [List.map_cons,flats,Bool.and_eq_true]
   refine ⟨?_,ih fun y hy=>hr y (by simp [hy])⟩
   simp [aQ,flat,flats]
   simpa using hx
theorem zK {m:Nat}:∀ {rs:List (List Itm)},(∀ r∈rs,r.length<=m)->rs.flatten.length<=rs.length * m
 | [],_=>by simp
 | r :: rs,h=>by
  have h1:=h r (by simp)
  have h2:=zK (rs:=rs) fun q hq=>h q (by simp [hq])
  simp only [List.flatten_cons,List.length_append,List.length_cons,Nat.add_mul,Nat.one_mul]
  lia
theorem aa1 {x y:D} {μ:Mem} {Q:QD} (q:Q x μ):cL (.tup [x,y]) (.int 0) μ Q:=by simpa [cL,aq,n6] using q
theorem aa0 {x y:D} {μ:Mem} {Q:QD} (q:Q y μ):cL (.tup [x,y]) (.int 1) μ Q:=by simpa [cL,aq,n6] using q
end DW.Yb
end
section
namespace DW.Z0
open PySem DW DW.Dy
def gP:cU:=fun ds μ Q=>∃ r:List Itm,ds=[.lst (r.map aQ)]/\r.length < 1000/\∀ ν n ls,LL (μ ++ ν) μ.length n ls (aW r)->Q (.loc n) (μ ++ ν)
def jl:List Str:=["row","runs","place","item"]
noncomputable def jq:Ss:=(.cons (.set 1 (.lst true .nil)) (.cons (.for_ [2,3] true (.enum (.var 0)) (.cons (.ite (.or (.cmp .Eq (.var 2) (.cst (.int 0))) (.call "less" sH (.cons (.var 3) (.cons (.idx (.var 0) (.bin .Sub (.var 2) (.cst (.int 1)))) .nil)))) (.cons (.exp (.meth "append" (.var 1) (.cons (.lst true .nil) .nil))) .nil) .nil) (.cons (.exp (.meth "append" (.idx (.var 1) (.neg (.cst (.int 1)))) (.cons (.var 3) .nil))) .nil))) (.cons (.ret (.var 1)) .nil)))
noncomputable def bC (μ:Mem) (c:List (List Itm)):Mem:=μ ++ .lst ((List.range c.length).map fun k=>D.loc (μ.length + 1 + k)) :: c.map fun l=>.lst (l.map aQ)
theorem mD (μ:Mem) (c:List (List Itm)):(bC μ c)[μ.length]? = some (.lst ((List.range c.length).map fun k=>D.loc (μ.length + 1 + k))):=by simp [bC]
theorem uQ (μ:Mem) (c:List (List Itm)) (i:Nat) (l:List Itm) (h:c[i]? = some l):(bC μ c)[μ.length + 1 + i]? = some (.lst (l.map aQ)):=by
 unfold bC
 rw [List.getElem?_append_right (by lia),show μ.length + 1 + i - μ.length=i + 1 by lia]
 simp [h]
theorem uR (μ:Mem) (c:List (List Itm)):(bC μ c).length=μ.length + 1 + c.length:=by simp [bC]; lia
theorem Ew (μ:Mem) (c:List (List Itm)) (l:List Itm):(bC μ c ++ [Cell.lst (l.map aQ)]).set μ.length (.lst ((List.range c.length).map (fun k=>D.loc (μ.length + 1 + k)) ++ [.loc (μ.length + 1 + c.length)]))=bC μ (c ++ [l]):=by
 unfold bC
 rw [List.append_assoc,List.set_append_right _ _ (Nat.le_refl _)]
 simp [List.range_succ]
theorem Eu (μ:Mem) (a:List (List Itm)) (l l':List Itm):(bC μ (a ++ [l])).set (μ.length + 1 + a.length) (.lst (l'.map aQ))=bC μ (a ++ [l']):=by
 unfold bC
 rw [List.set_append_right _ _ (by lia),show μ.length + 1 + a.length - μ.length=a.length + 1 by lia]
 simp
theorem Jb (μ:Mem) (c:List (List Itm)):LL (bC μ c) μ.length μ.length ((List.range c.length).map fun k=>μ.length + 1 + k) c:=by
 refine ⟨Nat.le_refl _,?_,by simp,fun l hl=>?_,fun i l r h1 h2=>?_⟩
 ·rw [mD]; simp
 ·simp at hl
  obtain ⟨k,hk,rfl⟩:=hl
  lia
 ·have hi:i < c.length:=(List.getElem?_eq_some_iff.mp h2).1
  have:l=μ.length + 1 + i:=by simp [hi] at h1; lia
  subst this
  exact uQ μ c i r h2
theorem qG:Keeps jl jq gP:=by
 rintro ds μ Q ⟨r,rfl,hl,h⟩
 simp [jq,jl,aH,bO,wSs,wS,wT,wE,wEs,wI,newL,lim,oK,bA,aq]
 refine bF (fun ds ρ μ'=>∃ (p s:List Itm) (u v:Option D),r=p ++ s/\ds=cY p.length (s.map aQ)/\μ'=bC μ (aW p)/\ρ=[some (.lst (r.map aQ)),some (.loc μ.length),u,v]) ?_ ?_ _ _ _ ⟨[],r,none,none,rfl,rfl,by simp [bC,aW],rfl⟩
 ·rintro d ds ρ μ' N hN ⟨p,s,u,v,er,e,rfl,rfl⟩
  cases s with
  | nil=>simp [cY] at e
  | cons x s =>
   simp [cY] at e
   obtain ⟨rfl,rfl⟩:=e
   refine ⟨by simp [bA,aq],?_⟩
   obtain ⟨h1,h2⟩:=uT p
   have hpl:p.length < 1000:=by rw [er] at hl; simp at hl; lia
   have fin:∀ u v,N [some (.lst (r.map aQ)),some (.loc μ.length),u,v] (bC μ (dJ (aW p) x)):=fun u v=>hN _ _ ⟨p ++ [x],s,u,v,by simp [er],by simp,by rw [iJ],rfl⟩
   have grow:∀ (a:List (List Itm)) (l:List Itm) (w:dM) (k:Mem->Prop),l.length < 1000->k (bC μ (a ++ [l ++ [x]])) ->
     cL (.loc μ.length) (.int (-1)) (bC μ (a ++ [l])) fun d μ1=>isCell μ1 d=true/\fP "append" d [aQ x] μ1 fun _ μ2=>k μ2:=by
    intro a l w k hll f
    have er':=uQ μ (a ++ [l]) a.length l (by simp)
    have eix:(n6 ((List.range (a ++ [l]).length).map fun k=>D.loc (μ.length + 1 + k)).length (-1)).bind (((List.range (a ++ [l]).length).map fun k=>D.loc (μ.length + 1 + k))[·]?)=some (.loc (μ.length + 1 + a.length)):=by
     have:=R9 ((List.range a.length).map fun k=>D.loc (μ.length + 1 + k)) (.loc (μ.length + 1 + a.length))
     simpa [List.range_succ] using this
    have eu:=Eu μ a l (l ++ [x])
    rw [List.map_append,List.map_cons,List.map_nil] at eu
    simp only [cL,aq,mD,eix,isCell,er',true_and,fP,cV,eu]
    exact ⟨by simp [lim]; lia,f⟩
   have new:∀ (c:List (List Itm)) (k:Mem->Prop),c.length < 1000->k (bC μ (c ++ [[]]))->isCell (bC μ c) (.loc μ.length)=true/\fP "append" (.loc μ.length) [.loc (bC μ c).length] (bC μ c ++ [Cell.lst []]) fun _ μ1=>k μ1:=fun c k hc f=>by
    have e1:(bC μ c ++ [Cell.lst []])[μ.length]? = some (.lst ((List.range c.length).map fun k=>D.loc (μ.length + 1 + k))):=by
     rw [List.getElem?_append_left (by rw [uR]; lia)]; exact mD _ _
    have e2:=Ew μ c []
    simp only [List.map_nil] at e2
    refine ⟨by simp only [isCell,mD],?_⟩
    simp only [fP,e1,cV,uR,e2]
    exact ⟨by simp [lim]; lia,f⟩
   rcases List.eq_nil_or_concat p with rfl | ⟨p,y,ep⟩
   ·simp [cZ,bK,flat,jz,fU]
    refine new _ _ (by simp [aW]) ?_
    refine grow [] [] [] _ (by simp) ?_
    have:=fin (some (.int 0)) (some (aQ x))
    simpa [aW,dJ] using this
   ·rw [List.concat_eq_append] at ep
    subst ep
    have e0:jz (.int ((p ++ [y]).length:Int)) (.int 0)=false:=by simp [jz]; lia
    have e1:((p ++ [y]).length:Int) - 1=(p.length:Int):=by simp
    have hix:n6 r.length (p.length:Int)=some p.length:=cu (by rw [er]; simp)
    have ey:(r.map aQ)[p.length]? = some (aQ y):=by rw [er]; simp
    obtain ⟨a,l,el⟩:=rB p y
    have hll:l.length + 1 < 1000:=by
     have:=congrArg List.length h2
     rw [el] at this
     simp at this hpl
     lia
    have fin':=fin (some (.int ((p ++ [y]).length:Int))) (some (aQ x))
    rw [el,vU] at fin'
    rw [el] at h1 ⊢
    generalize hk:(fun (μ1:Mem)=>N [some (.lst (r.map aQ)),some (.loc μ.length),some (.int ((p ++ [y]).length:Int)),some (aQ x)] μ1)=k
    have kf:∀ μ1,N [some (.lst (r.map aQ)),some (.loc μ.length),some (.int ((p ++ [y]).length:Int)),some (aQ x)] μ1=k μ1:=fun μ1=>by rw [<- hk]
    have g2:∀ a l,l.length < 1000->k (bC μ (a ++ [l ++ [x]]))->_:=fun a l=>grow a l [] k
    simp only [cZ,List.zip_cons_cons,List.zip_nil_right,List.foldl_cons,List.foldl_nil,List.set_cons_zero,List.set_cons_succ,List.getElem?_cons_zero,List.getElem?_cons_succ,bK,flat,fU,e0,Bool.false_eq_true,if_false,gB,e1]
    have ei:∀ {Q:QD} {μ'},Q (aQ y) μ'->cL (.lst (r.map aQ)) (.int (p.length:Int)) μ' Q:=fun {Q μ'} q=>by simp only [cL,aq,List.length_map,hix,Option.bind_some,ey]; exact q
    refine ⟨rfl,trivial,trivial,ei ⟨x,y,rfl,?_⟩⟩
    simp only [iB,truth,kf]
    by_cases c:eE x y=true
    ·rw [if_pos c]
     rw [if_pos c] at fin'
     have f2:=g2 (a ++ [l ++ [y]]) [] (by simp) (by rw [<- kf]; simpa using fin')
     exact new (a ++ [l ++ [y]]) _ (by simp at h1 hpl ⊢; lia) f2
    ·rw [if_neg c]
     rw [if_neg c] at fin'
     exact g2 a (l ++ [y]) (by simp; lia) (by rw [<- kf]; exact fin')
 ·rintro ρ μ' ⟨p,s,u,v,er,e,rfl,rfl⟩
  cases s with
  | cons x s=>simp [cY] at e
  | nil =>
   refine ⟨by simp [bA,aq],?_⟩
   simp only [List.append_nil] at er
   subst er
   exact h _ _ _ (Jb μ (aW r))
end DW.Z0
end
section
namespace DW.iV
open PySem DW DW.Dy DW.Dz DW.J0
noncomputable def sl (z:List (Itm×Nat)) (j:Nat):List Itm:=(z.filter fun u=>u.2 == j).map (·.1)
noncomputable def tM (z:List (Itm×Nat)) (m:Nat):List (List Itm):=(List.range m).map (sl z)
noncomputable def tkn (p:List (Itm×Nat)) (m:Nat):List Nat:=(List.range m).map fun j=>(sl p j).length
theorem HN (z:List (Itm×Nat)) (m:Nat):(tM z m).length=m:=by simp [tM]
theorem wz {z:List (Itm×Nat)} {m j:Nat} (h:j < m):(tM z m)[j]? = some (sl z j):=by simp [tM,h]
theorem nD {z:List (Itm×Nat)} {m j:Nat} (h:j < m):(tkn z m)[j]? = some (sl z j).length:=by simp [tkn,h]
theorem Qz (z:List (Itm×Nat)) (m:Nat):((tM z m).map fun _=>0)=tkn [] m:=by simp [tkn,tM,sl]
theorem K9 (p s:List (Itm×Nat)) (u:Itm×Nat):sl (p ++ u :: s) u.2=sl p u.2 ++ u.1 :: sl s u.2:=by simp [sl]
theorem K8 (p:List (Itm×Nat)) (u:Itm×Nat) (j:Nat):sl (p ++ [u]) j=sl p j ++ if u.2=j then [u.1] else []:=by
 unfold sl
 rw [List.filter_append,List.map_append]
 by_cases h:u.2=j
 ·simp [h]
 ·simp [h]
theorem Bd {p:List (Itm×Nat)} {u:Itm×Nat} {m:Nat}:(tkn p m).set u.2 ((sl p u.2).length + 1)=tkn (p ++ [u]) m:=by
 apply List.ext_getElem?
 intro i
 by_cases hi:i < m
 ·rw [nD hi,K8]
  by_cases h:u.2=i
  ·rw [h,List.getElem?_set_self (by simpa [tkn] using hi),if_pos rfl]; simp
  ·rw [List.getElem?_set_ne h,nD hi,if_neg h]; simp
 ·rw [List.getElem?_eq_none (by simp [tkn]; lia),List.getElem?_eq_none (by simp [tkn]; lia)]
theorem Dh (m:Nat):∀ z:List (Itm×Nat),(z.filter fun u=>decide (u.2 < m + 1)).length=(z.filter fun u=>decide (u.2 < m)).length + (z.filter fun u=>u.2 == m).length
 | []=>rfl
 | u :: z=>by
  have ih:=Dh m z
  simp only [List.filter_cons]
  by_cases h1:u.2 < m
  ·rw [decide_eq_true (show u.2 < m + 1 by lia),decide_eq_true h1,beq_false_of_ne (show u.2≠m by lia)]
   simp only [if_true,List.length_cons,Bool.false_eq_true,if_false]; lia
  ·by_cases h2:u.2=m
   ·have e3:(u.2 == m)=true:=by simp [h2]
    rw [decide_eq_true (show u.2 < m + 1 by lia),decide_eq_false h1,e3]
    simp only [if_true,List.length_cons,Bool.false_eq_true,if_false]; lia
   ·rw [decide_eq_false (show ¬ u.2 < m + 1 by lia),decide_eq_false h1,beq_false_of_ne h2]
    simp only [Bool.false_eq_true,if_false]; exact ih
theorem Ds (z:List (Itm×Nat)):∀ m,(tM z m).flatten.length=(z.filter fun u=>decide (u.2 < m)).length
 | 0=>by rw [List.filter_eq_nil_iff.mpr (by simp)]; simp [tM]
 | m + 1=>by
  rw [Dh,<- Ds z m]
  unfold tM
  rw [List.range_succ,List.map_append,List.flatten_append,List.length_append]
  simp [sl]
theorem Xr (z:List (Itm×Nat)) (m:Nat):(tM z m).flatten.length<=z.length:=by rw [Ds]; exact List.length_filter_le _ _
theorem Bq:∀ (rs:List (List Itm)) (k i:Nat) (r:List Itm),rs[i]? = some r->sl (dF k rs) (k + i)=r
 | [],k,i,r,h=>by simp at h
 | q :: rs,k,i,r,h=>by
  unfold sl
  simp only [dF,List.filter_append,List.map_append]
  cases i with
  | zero =>
   simp only [List.getElem?_cons_zero,Option.some.injEq] at h
   subst h
   have a1:(q.map fun x=>(x,k)).filter (fun u=>u.2 == k + 0)=q.map fun x=>(x,k):=List.filter_eq_self.mpr fun u hu=>by
    obtain ⟨x,_,rfl⟩:=List.mem_map.mp hu
    simp
   have a2:(dF (k + 1) rs).filter (fun u=>u.2 == k + 0)=[]:=List.filter_eq_nil_iff.mpr fun u hu=>by
    obtain ⟨j,r,_,_,e⟩:=mF rs (k + 1) u.1 u.2 hu
    simp; lia
   rw [a1,a2]
   simp [List.map_map,Function.comp_def]
  | succ i =>
   have a1:(q.map fun x=>(x,k)).filter (fun u=>u.2 == k + (i + 1))=[]:=List.filter_eq_nil_iff.mpr fun u hu=>by
    obtain ⟨x,_,rfl⟩:=List.mem_map.mp hu
    simp
   have ih:=Bq rs (k + 1) i r (by simpa using h)
   unfold sl at ih
   rw [show k + 1 + i=k + (i + 1) by lia] at ih
   rw [a1,ih]; rfl
theorem wu {rs:List (List Itm)} (hr:∀ r∈rs,aY r):tM (bI rs) rs.length=rs:=by
 apply List.ext_getElem?
 intro i
 by_cases hi:i < rs.length
 ·rw [wz hi,List.getElem?_eq_getElem hi]
  refine congrArg some (kZ ?_ ?_ (hr _ (List.getElem_mem hi)))
  ·have e:=Bq rs 0 i _ (List.getElem?_eq_getElem hi)
   rw [Nat.zero_add] at e
   conv=>rhs; rw [<- e]
   exact ((iH rs).filter _).map _
  ·show ((bI rs).filter _ |>.map _).Pairwise _
   exact List.pairwise_map.mpr (((mY hr).filter _).imp fun h=>h.1)
 ·rw [List.getElem?_eq_none (by rw [HN]; lia),List.getElem?_eq_none (by lia)]
theorem qt {rs:List (List Itm)}:∀ u∈bI rs,u.2 < rs.length:=fun u hu=>V0 (List.mem_map.mpr ⟨u,hu,rfl⟩)
def iZ:cU:=fun ds μ Q=>∃ r:List Itm,ds=[.lst (r.map aQ)]/\r.length < 300/\Q (.lst ((Gy r).map aQ)) μ
def o7:List Str:=["row"]
noncomputable def pJ:Ss:=(.cons (.ret (.blt "dsorted" (.cons (.var 0) .nil))) .nil)
theorem zp:Keeps o7 pJ iZ:=by
 rintro ds μ Q ⟨r,rfl,hl,q⟩
 simp only [pJ,o7,aH,bO,wSs,wS,wE,wEs,List.map_cons,List.map_nil,List.length_cons,List.length_nil,List.cons_append,List.nil_append,List.getElem?_cons_zero,List.replicate,aX,bA,aq]
 refine ⟨r,rfl,hl,fun r' hp hr=>?_⟩
 rw [K4 hp hr]; exact q
def iY:cU:=fun ds μ Q=>∃ (t c k:Nat) (d:D) (rs:List (List Itm)) (g:List Nat) (r:List Itm),ds=[aA t,d,.loc c]/\gq μ d rs/\μ[c]? = some (.lst (g.map aA))/\rs[t]? = some r/\g[t]? = some k/\k < r.length/\Q .non μ
def oZ:List Str:=["thing","runs","taken"]
noncomputable def pI:Ss:=(.cons (.ite (.not (.call "is_below" bD (.cons (.var 0) (.cons (.blt "len" (.cons (.var 1) .nil)) .nil)))) (.cons (.ret (.cst (.str [102,111,114,109]))) .nil) .nil) (.cons (.ite (.cmp .Eq (.idx (.var 2) (.var 0)) (.blt "len" (.cons (.idx (.var 1) (.var 0)) .nil))) (.cons (.ret (.cst (.str [101,109,112,116,121]))) .nil) .nil) (.cons (.ret (.cst .non)) .nil)))
theorem zm:Keeps oZ pI iY:=by
 rintro ds μ Q ⟨t,c,k,d,rs,g,r,rfl,hd,hc,hr,hk,hkr,h⟩
 have hd':=hd
 obtain ⟨h1,es,h2,h3,h4⟩:=hd'
 obtain ⟨ht,er⟩:=List.getElem?_eq_some_iff.mp hr
 subst er
 simp only [pI,oZ,aH,bO,wSs,wS,wT,wE,wEs,aX,nW h1 h2,List.map_cons,List.map_nil,List.length_cons,List.length_nil,List.cons_append,List.nil_append,List.getElem?_cons_zero,List.getElem?_cons_succ,List.replicate,aA,bD]
 have b1:decide (0<=(t:Int)/\(t:Int) < (es.length:Int))=true:=decide_eq_true (by lia)
 simp only [b1,iB,truth,Bool.not_true,Bool.false_eq_true,if_false]
 refine uP hc hk (uH hd ht fun e he=>?_)
 simp only [nW he.1 he.2,List.length_map,bK,flat,jz,fU]
 refine ⟨trivial,trivial,?_⟩
 have z:((k:Int) == (rs[t].length:Int))=false:=by simp; lia
 simpa [z] using h
theorem FN {j:Nat} {d:D} {ds:List D} {s:List (Itm×Nat)} (e:d :: ds=cY j ((s.map (·.2)).map aA)):∃ u s',s=u :: s'/\d = .tup [.int (j:Int),aA u.2]/\ds=cY (j + 1) ((s'.map (·.2)).map aA):=by
 cases s with
 | nil=>simp [cY] at e
 | cons u s =>
  simp only [List.map_cons,cY,List.cons.injEq] at e
  exact ⟨u,s,rfl,e.1,e.2⟩
def kI:cU:=fun ds μ Q=>∃ (d e:D) (z:List (Itm×Nat)) (m:Nat),ds=[d,e]/\gq μ d (tM z m)/\Lc e/\aq μ e=some ((z.map (·.2)).map aA)/\(∀ u∈z,u.2 < m)/\z.length < 1000/\m < 1000/\∀ μ',Fr [] μ μ'->Q (.lst ((z.map (·.1)).map aQ)) μ'
def uU:List Str:=["runs","trace","taken","row","at","thing","word"]
noncomputable def q8:Ss:=(.cons (.ite (.cmp .Lt (.blt "len" (.cons (.var 3) .nil)) (.blt "sum" (.cons (.comp false 1 false [] (.blt "len" (.cons (.var 0) .nil)) (.seq (.var 0)) .nil) .nil))) (.cons .Qj .nil) .nil) (.cons (.ret (.iz (.var 3))) .nil))
noncomputable def vJ:Ss:=(.cons (.set 2 (.comp true 1 false [] (.cst (.int 0)) (.seq (.var 0)) .nil)) (.cons (.set 3 (.lst true .nil)) (.cons (.for_ [4,5] true (.enum (.var 1)) (.cons (.set 6 (.call "wrong_word" iY (.cons (.var 5) (.cons (.var 0) (.cons (.var 2) .nil))))) (.cons (.ite (.cmp .IsNot (.var 6) (.cst .non)) (.cons .Qj .nil) .nil) (.cons (.exp (.meth "append" (.var 3) (.cons (.idx (.idx (.var 0) (.var 5)) (.idx (.var 2) (.var 5))) .nil))) (.cons (.rG .Add (.var 2) (.var 5) (.cst (.int 1))) .nil))))) q8)))
theorem Fl:Keeps uU vJ kI:=by
 rintro ds μ Q ⟨d,e,z,m,rfl,hd,W6,he2,hz,hl,hm,h⟩
 have hd':=hd
 obtain ⟨h1,es,h2,h3,h4⟩:=hd'
 simp only [vJ,uU,aH,bO,wSs,wS,wE,wEs,wI,List.map_cons,List.map_nil,List.length_cons,List.length_nil,List.cons_append,List.nil_append,List.getElem?_cons_zero,List.getElem?_cons_succ,List.replicate]
 refine oH h1 h2 fun g hg=>?_
 refine jj (fun _=>true) (fun _=>D.int 0) (hg _ Fr.refl) _ _ ?_ ?_
 ·intro e he Y N z
  simpa [bindC,wTs] using z
 rw [List.filter_eq_self.mpr (by simp),List.nil_append,zeros h3,Qz]
 simp only [newL,List.set_cons_zero,List.set_cons_succ,List.getElem?_cons_zero,List.getElem?_cons_succ,List.length_append,List.length_cons,List.length_nil]
 refine ⟨by simp only [lim]; lia,?_⟩
 have F1:Fr [] μ (μ ++ [Cell.lst ((tkn [] m).map aA)] ++ [Cell.lst []]):=(Fr.app).Bx _
 have t1:(μ ++ [Cell.lst ((tkn [] m).map aA)] ++ [Cell.lst []])[μ.length]? = some (.lst ((tkn [] m).map aA)):=by simp
 have a1:(μ ++ [Cell.lst ((tkn [] m).map aA)] ++ [Cell.lst []])[μ.length + 1]? = some (.lst ((([]:List (Itm×Nat)).map (·.1)).map aQ)):=by
  rw [List.append_assoc,List.getElem?_append_right (by lia)]; simp
 generalize μ ++ [Cell.lst ((tkn [] m).map aA)] ++ [Cell.lst []]=μ1 at F1 t1 a1
 have gd:∀ μ',Fr [] μ μ'->bA μ' e=some ((z.map (·.2)).map aA):=fun μ' F=>vm W6 (F.seq he2)
 simp only [oK,gd _ F1]
 refine bF (fun ds ρ μ'=>∃ (p s:List (Itm×Nat)) (a b c:Option D),z=p ++ s/\ds=cY p.length ((s.map (·.2)).map aA)/\Fr [] μ μ'/\μ'[μ.length]? = some (.lst ((tkn p m).map aA))/\μ'[μ.length + 1]? = some (.lst ((p.map (·.1)).map aQ))/\ρ=[some d,some e,some (.loc μ.length),some (.loc (μ.length + 1)),a,b,c]) ?_ ?_ _ _ _ ⟨[],z,none,none,none,rfl,rfl,F1,t1,a1,rfl⟩
 ·rintro d' ds ρ μ' N hN ⟨p,s,a,b,c,ez,e',F,t',a',rfl⟩
  refine ⟨gd _ F,?_⟩
  obtain ⟨u,s',rfl,rfl,rfl⟩:=FN e'
  have hu:u.2 < m:=hz u (by rw [ez]; simp)
  have lz:=congrArg List.length ez
  simp only [List.length_append,List.length_cons] at lz
  have esl:sl z u.2=sl p u.2 ++ u.1 :: sl s' u.2:=by rw [ez]; exact K9 p s' u
  simp only [cZ,List.zip_cons_cons,List.zip_nil_right,List.foldl_cons,List.foldl_nil,List.set_cons_zero,List.set_cons_succ,List.getElem?_cons_zero,List.getElem?_cons_succ,wSs,wS,wT,wE,wEs]
  refine ⟨rfl,u.2,μ.length,(sl p u.2).length,d,tM z m,tkn p m,sl z u.2,rfl,hd.fr F,t',wz hu,nD hu,by rw [esl]; simp,?_⟩
  have hum:u.2 < (tM z m).length:=by rw [HN]; exact hu
  have ca:isCell μ' (.loc (μ.length + 1))=true:=by simp [isCell,a']
  simp only [List.set_cons_zero,List.set_cons_succ,List.getElem?_cons_zero,List.getElem?_cons_succ,bK,gA,Bool.not_true,fU,Bool.false_eq_true,if_false,aA]
  refine ⟨ca,uH (hd.fr F) hum fun e9 he9=>?_⟩
  have er:(tM z m)[u.2]=sl z u.2:=by have:=wz (z:=z) hu; rw [List.getElem?_eq_getElem hum] at this; exact Option.some.inj this
  rw [er] at he9
  refine uP t' (nD hu) ?_
  have hx:(sl p u.2).length < (sl z u.2).length:=by rw [esl]; simp
  refine sU he9 hx ?_
  have ex:(sl z u.2)[(sl p u.2).length]=u.1:=by simp [esl]
  rw [ex]
  simp only [fP,a',cV,List.length_map]
  refine ⟨by simp only [lim]; lia,?_⟩
  have ea:(p.map (·.1)).map aQ ++ [aQ u.1]=((p ++ [u]).map (·.1)).map aQ:=by simp
  rw [ea]
  have hal:=aJ a'
  have F4:=F.Bs (.lst (((p ++ [u]).map (·.1)).map aQ)) (t:=μ.length + 1) (by lia)
  have t4:(μ'.set (μ.length + 1) (.lst (((p ++ [u]).map (·.1)).map aQ)))[μ.length]? = some (.lst ((tkn p m).map aA)):=by rw [List.getElem?_set_ne (by lia)]; exact t'
  have a4:(μ'.set (μ.length + 1) (.lst (((p ++ [u]).map (·.1)).map aQ)))[μ.length + 1]? = some (.lst (((p ++ [u]).map (·.1)).map aQ)):=List.getElem?_set_self hal
  generalize μ'.set (μ.length + 1) (.lst (((p ++ [u]).map (·.1)).map aQ))=μ4 at F4 t4 a4
  have kt:((tkn p m).map aA)[((u.2:Int)).toNat]? = some (.int ((sl p u.2).length:Int)):=by simp [nD hu,aA]
  have hpk:u.2 < (tkn p m).length:=by simp [tkn,hu]
  simp only [qZ,t4,kt,gO,fH,List.length_map,cu hpk]
  refine ⟨by lia,?_⟩
  have et:((tkn p m).map aA).set u.2 (D.int (((sl p u.2).length:Int) + 1))=(tkn (p ++ [u]) m).map aA:=by
   rw [<- Bd,List.map_set]; simp [aA]
  rw [et]
  have F5:=F4.Bs (.lst ((tkn (p ++ [u]) m).map aA)) (t:=μ.length) (Nat.le_refl _)
  refine hN _ _ ⟨p ++ [u],s',_,_,_,by rw [ez]; simp,by simp,F5,List.getElem?_set_self (aJ t4),by rw [List.getElem?_set_ne (by lia)]; exact a4,rfl⟩
 ·rintro ρ μ' ⟨p,s,a,b,c,ez,e',F,t',a',rfl⟩
  refine ⟨gd _ F,?_⟩
  have hs:s=[]:=by
   cases s with
   | nil=>rfl
   | cons u s=>simp [cY] at e'
  subst hs
  rw [List.append_nil] at ez
  subst ez
  have Oh:lenOf μ' (.loc (μ.length + 1))=some z.length:=by simp only [lenOf,aq,a',Option.map_some,List.length_map]
  simp only [q8,wSs,wS,wT,wE,wEs,wI,List.map_nil,List.getElem?_cons_zero,List.getElem?_cons_succ,aX,Oh]
  refine oH h1 (F.seq h2) fun g hg=>?_
  have ez2:es=(es.zip (tM z m)).map Prod.fst:=(List.map_fst_zip (by lia)).symm
  rw [ez2]
  refine tW Prod.fst (fun p=>D.int (p.2.length:Int)) (hg _ Fr.refl) _ _ ?_ ?_
  ·intro p hp Y N q
   obtain ⟨i,i1,i2⟩:=rC hp
   have:=(h4 i _ _ i1 i2).fr F
   simp only [bindC,wTs,wE,wEs,List.map_nil,List.getElem?_cons_zero,if_true,aX,nW this.1 this.2,List.length_map]
   exact q
  rw [List.nil_append]
  have em:(es.zip (tM z m)).map (fun p=>D.int (p.2.length:Int))=(tM z m).map fun r=>D.int (r.length:Int):=by
   have e9:(es.zip (tM z m)).map Prod.snd=tM z m:=List.map_snd_zip (by lia)
   conv=>rhs; rw [<- e9]
   rw [List.map_map]; rfl
  rw [em]
  simp only [newL,aq,Option.bind_some,yc,Gw,bK,sX,fU]
  have le:=Xr z m
  have nlt:¬ (z.length:Int) < ((tM z m).flatten.length:Int):=by lia
  simp only [nlt,decide_false,Bool.false_eq_true,if_false,DK,a']
  exact h _ (F.Bs _ (by lia))
def kO:cU:=fun ds μ Q=>∃ (d:D) (b:Nat) (rs:List (List Itm)),ds=[d,.loc b]/\gq μ d rs/\(∀ r∈rs,aY r/\r.length < 1000)/\rs.length<=64/\rs.length * (rs.flatten.length + 1) < 5000/\rs.flatten.length < 1000/\μ[b]? = some (.lst ((X4 rs).map aA))/\∀ μ',Fr [] μ μ'->Q .non μ'
def m6:List Str:=["runs","trace","right","taken","at","thing","word"]
noncomputable def kE:Ss:=(.cons (.set 3 (.comp true 1 false [] (.cst (.int 0)) (.seq (.var 0)) .nil)) (.cons (.for_ [4,5] true (.enum (.var 1)) (.cons (.set 6 (.call "wrong_word" iY (.cons (.var 5) (.cons (.var 0) (.cons (.var 3) .nil))))) (.cons (.ite (.and (.cmp .Is (.var 6) (.cst .non)) (.cmp .NotEq (.var 5) (.idx (.var 2) (.var 4)))) (.cons (.set 6 (.cst (.str [111,114,100,101,114]))) .nil) .nil) (.cons (.ite (.cmp .IsNot (.var 6) (.cst .non)) (.cons (.ret (.tup (.cons (.var 6) (.cons (.var 4) .nil)))) .nil) .nil) (.cons (.rG .Add (.var 3) (.var 5) (.cst (.int 1))) .nil))))) (.cons (.ite (.cmp .Lt (.blt "len" (.cons (.var 1) .nil)) (.blt "len" (.cons (.var 2) .nil))) (.cons (.ret (.tup (.cons (.cst (.str [102,101,119,101,114])) (.cons (.blt "len" (.cons (.var 1) .nil)) .nil)))) .nil) .nil) (.cons (.ret (.cst .non)) .nil))))
noncomputable def m9:Ss:=(.cons (.set 2 (.idx (.call "pour" sG (.cons (.var 0) .nil)) (.cst (.int 1)))) kE)
theorem wN:Keeps m6 m9 kO:=by
 rintro ds μ Q ⟨d,b,rs,rfl,hd,hr,hn,hm,hf,hb,h⟩
 have hd':=hd
 obtain ⟨h1,es,h2,h3,h4⟩:=hd'
 have hap:=wu (rs:=rs) fun r hr'=>(hr r hr').1
 have lp:=BJ rs
 simp only [m9,m6,aH,bO,wSs,wS,wE,wEs,List.map_cons,List.map_nil,List.length_cons,List.length_nil,List.cons_append,List.nil_append,List.getElem?_cons_zero,List.getElem?_cons_succ,List.replicate]
 refine ⟨d,rs,rfl,hd,fun r hr'=>⟨nJ (hr r hr').1,(hr r hr').2⟩,hn,hm,by lia,fun μ0 a2 b2 F0 _ _ _ _ hb2=>?_⟩
 refine Yb.aa0 ?_
 simp only [kE,wSs,wS,wE,wEs,wI,List.map_cons,List.map_nil,List.length_cons,List.length_nil,List.getElem?_cons_zero,List.getElem?_cons_succ,List.set_cons_zero,List.set_cons_succ]
 refine oH h1 (F0.seq h2) fun g hg=>?_
 refine jj (fun _=>true) (fun _=>D.int 0) (hg _ Fr.refl) _ _ ?_ ?_
 ·intro e he Y N z
  simpa [bindC,wTs] using z
 rw [List.filter_eq_self.mpr (by simp),List.nil_append,zeros h3]
 have etk:(rs.map fun _=>0)=tkn [] rs.length:=by simp [tkn,sl,List.map_const']
 rw [etk]
 simp only [newL,List.set_cons_zero,List.set_cons_succ,List.getElem?_cons_zero,List.getElem?_cons_succ,List.length_append,List.length_cons,List.length_nil]
 have F1:Fr [] μ0 (μ0 ++ [Cell.lst ((tkn [] rs.length).map aA)]):=Fr.app
 have t1:(μ0 ++ [Cell.lst ((tkn [] rs.length).map aA)])[μ0.length]? = some (.lst ((tkn [] rs.length).map aA)):=by simp
 generalize μ0 ++ [Cell.lst ((tkn [] rs.length).map aA)]=μ1 at F1 t1
 have tr:(X4 rs).map aA=((bI rs).map (·.2)).map aA:=rfl
 rw [tr] at hb hb2
 have hb0:=F0.get hb
 have gd:∀ μ',Fr [] μ0 μ'->bA μ' (.loc b)=some (((bI rs).map (·.2)).map aA):=fun μ' F=>by simp only [bA,aq,F.get hb0]
 simp only [oK,gd _ F1]
 refine bF (fun ds ρ μ'=>∃ (p s:List (Itm×Nat)) (a b3 c:Option D),bI rs=p ++ s/\ds=cY p.length ((s.map (·.2)).map aA)/\Fr [] μ0 μ'/\μ'[μ0.length]? = some (.lst ((tkn p rs.length).map aA))/\ρ=[some d,some (.loc b),some (.loc b2),some (.loc μ0.length),a,b3,c]) ?_ ?_ _ _ _ ⟨[],bI rs,none,none,none,rfl,rfl,F1,t1,rfl⟩
 ·rintro d' ds ρ μ' N hN ⟨p,s,a,b3,c,ez,e',F,t',rfl⟩
  refine ⟨gd _ F,?_⟩
  obtain ⟨u,s',rfl,rfl,rfl⟩:=FN e'
  have hu:u.2 < rs.length:=qt u (by rw [ez]; simp)
  have esl:sl (bI rs) u.2=sl p u.2 ++ u.1 :: sl s' u.2:=by rw [ez]; exact K9 p s' u
  have er:rs[u.2]? = some (sl (bI rs) u.2):=by
   conv=>lhs; rw [<- hap]
   exact wz hu
  have hat:((bI rs).map (·.2))[p.length]? = some u.2:=by rw [ez]; simp
  simp only [cZ,List.zip_cons_cons,List.zip_nil_right,List.foldl_cons,List.foldl_nil,List.set_cons_zero,List.set_cons_succ,List.getElem?_cons_zero,List.getElem?_cons_succ,wSs,wS,wT,wE,wEs]
  refine ⟨rfl,u.2,μ0.length,(sl p u.2).length,d,rs,tkn p rs.length,sl (bI rs) u.2,rfl,(hd.fr F0).fr F,t',er,nD hu,by rw [esl]; simp,?_⟩
  simp only [List.set_cons_zero,List.set_cons_succ,List.getElem?_cons_zero,List.getElem?_cons_succ,bK,gA,fU,if_true,aA]
  refine uP (F.get hb2) hat ?_
  simp only [bK,flat,jz,fU]
  refine ⟨trivial,trivial,?_⟩
  have kt:((tkn p rs.length).map aA)[((u.2:Int)).toNat]? = some (.int ((sl p u.2).length:Int)):=by simp [nD hu,aA]
  have hpk:u.2 < (tkn p rs.length).length:=by simp [tkn,hu]
  simp only [beq_self_eq_true,Bool.not_true,Bool.false_eq_true,if_false,List.getElem?_cons_zero,List.getElem?_cons_succ,bK,gA,fU,qZ,t',kt,gO,fH,List.length_map,cu hpk]
  refine ⟨by lia,?_⟩
  have et:((tkn p rs.length).map aA).set u.2 (D.int (((sl p u.2).length:Int) + 1))=(tkn (p ++ [u]) rs.length).map aA:=by
   rw [<- Bd,List.map_set]; simp [aA]
  rw [et]
  exact hN _ _ ⟨p ++ [u],s',_,_,_,by rw [ez]; simp,by simp,F.Bs _ (Nat.le_refl _),List.getElem?_set_self (aJ t'),rfl⟩
 ·rintro ρ μ' ⟨p,s,a,b3,c,ez,e',F,t',rfl⟩
  refine ⟨gd _ F,?_⟩
  have l1:lenOf μ' (.loc b)=some (bI rs).length:=by simp only [lenOf,aq,F.get hb0,Option.map_some,List.length_map]
  have l2:lenOf μ' (.loc b2)=some (bI rs).length:=by simp only [lenOf,aq,F.get hb2,Option.map_some,List.length_map]
  simp only [wT,wE,wEs,List.getElem?_cons_zero,List.getElem?_cons_succ,aX,l1,l2,bK,sX,fU,Int.lt_irrefl,decide_false,Bool.false_eq_true,if_false]
  exact h _ (F0.trans F)
def uw:cU:=fun ds μ Q=>∃ (d e:D) (z:List (Itm×Nat)) (m:Nat),ds=[d,e,aA m]/\nA μ d (z.map (·.1))/\Lc e/\aq μ e=some ((z.map (·.2)).map aA)/\(∀ u∈z,u.2 < m)/\z.length < 1000/\m < 1000/\∀ μ' R ls,Fr [] μ μ'->LL μ' μ.length R ls (tM z m)->Q (.loc R) μ'
def G4:List Str:=["row","trace","many","at","thing","runs","item","number"]
noncomputable def ug:Ss:=(.cons (.set 5 (.comp true 1 false [] (.lst true .nil) (.rng (.cons (.var 2) .nil)) .nil)) (.cons (.for_ [6,7] true (.zip (.var 0) (.var 1)) (.cons (.exp (.meth "append" (.idx (.var 5) (.var 7)) (.cons (.var 6) .nil))) .nil)) (.cons (.ret (.var 5)) .nil)))
noncomputable def Ho:Ss:=(.cons (.for_ [3,4] true (.enum (.var 1)) (.cons (.ite (.not (.call "is_below" bD (.cons (.var 4) (.cons (.var 2) .nil)))) (.cons .Qj .nil) .nil) .nil)) (.cons (.ite (.cmp .NotEq (.blt "len" (.cons (.var 1) .nil)) (.blt "len" (.cons (.var 0) .nil))) (.cons .Qj .nil) .nil) ug))
theorem Yc {d:D} {ds:List D} {s:List (Itm×Nat)} (e:d :: ds=jA ((s.map (·.1)).map aQ) ((s.map (·.2)).map aA)):∃ u s',s=u :: s'/\d = .tup [aQ u.1,aA u.2]/\ds=jA ((s'.map (·.1)).map aQ) ((s'.map (·.2)).map aA):=by
 cases s with
 | nil=>simp [jA] at e
 | cons u s =>
  simp only [List.map_cons,jA,List.cons.injEq] at e
  exact ⟨u,s,rfl,e.1,e.2⟩
theorem Bc {Q:QD} {μ:Mem} {z:List (Itm×Nat)} {d e:D} {m:Nat} {a3 a4:Option D} (hm:m < 1000) (hz:∀ u∈z,u.2 < m) (hl:z.length < 1000) (hd:nA μ d (z.map (·.1))) (W6:Lc e) (he2:aq μ e=some ((z.map (·.2)).map aA))
  (h:∀ μ' R ls,Fr [] μ μ'->LL μ' μ.length R ls (tM z m)->Q (.loc R) μ') :
  wSs ug (bO Q) [some d,some e,some (aA m),a3,a4,none,none,none] μ:=by
 simp only [ug,bO,wSs,wS,wE,wEs,wI,rK,j4,aA,newL,List.getElem?_cons_zero,List.getElem?_cons_succ,List.map_nil]
 refine ⟨by simp only [lim]; lia,by lia,?_⟩
 refine gH (fun ds acc μ'=>∃ j,j + ds.length=m/\acc=(List.range j).map (fun i=>D.loc (μ.length + i))/\μ'=μ ++ List.replicate j (.lst [])) ?_ ?_ _ _ _ ⟨0,by simp [dD],rfl,by simp⟩
 ·rintro d ds acc μ' Y N hY hN ⟨j,hj,rfl,rfl⟩
  refine ⟨trivial,?_⟩
  simp only [bindC,wTs,if_true]
  refine ⟨by simp [lim],hY _ _ ⟨j + 1,by simp at hj; lia,?_,?_⟩⟩
  ·rw [List.range_succ,List.map_append]; simp
  ·rw [List.replicate_succ']; simp
 ·rintro acc μ' ⟨j,hj,rfl,rfl⟩
  have hj:j=m:=by simpa using hj
  subst hj
  refine ⟨trivial,?_⟩
  simp only [List.set_cons_zero,List.set_cons_succ,List.getElem?_cons_zero,List.getElem?_cons_succ]
  have hR:(μ ++ List.replicate j (Cell.lst [])).length=μ.length + j:=by simp
  rw [hR]
  have F1:Fr [] μ (μ ++ List.replicate j (Cell.lst []) ++ [Cell.lst ((List.range j).map fun i=>D.loc (μ.length + i))]):=(Fr.app).Bx _
  have r1:(μ ++ List.replicate j (Cell.lst []) ++ [Cell.lst ((List.range j).map fun i=>D.loc (μ.length + i))])[μ.length + j]? = some (.lst ((List.range j).map fun i=>D.loc (μ.length + i))):=by rw [List.getElem?_append_right (by simp)]; simp
  have k1:∀ k,k < j->(μ ++ List.replicate j (Cell.lst []) ++ [Cell.lst ((List.range j).map fun i=>D.loc (μ.length + i))])[μ.length + k]? = some (.lst ((sl [] k).map aQ)):=fun k hk=>by
   rw [List.getElem?_append_left (by simp; lia),List.getElem?_append_right (by lia)]; simp [hk,sl]
  generalize μ ++ List.replicate j (Cell.lst []) ++ [Cell.lst ((List.range j).map fun i=>D.loc (μ.length + i))]=μ1 at F1 r1 k1
  have gd1:∀ μ',Fr [] μ μ'->bA μ' d=some ((z.map (·.1)).map aQ):=fun μ' F=>vm hd.1 (F.seq hd.2)
  have W9:∀ μ',Fr [] μ μ'->bA μ' e=some ((z.map (·.2)).map aA):=fun μ' F=>vm W6 (F.seq he2)
  simp only [Kd,gd1 _ F1,W9 _ F1]
  refine bF (fun ds ρ μ'=>∃ (p s:List (Itm×Nat)) (a6 a7:Option D),z=p ++ s/\ds=jA ((s.map (·.1)).map aQ) ((s.map (·.2)).map aA)/\ρ=[some d,some e,some (.int (j:Int)),a3,a4,some (.loc (μ.length + j)),a6,a7]/\Fr [] μ μ' /\
   μ'[μ.length + j]? = some (.lst ((List.range j).map fun i=>D.loc (μ.length + i)))/\∀ k,k < j->μ'[μ.length + k]? = some (.lst ((sl p k).map aQ))) ?_ ?_ _ _ _ ⟨[],z,none,none,rfl,rfl,rfl,F1,r1,k1⟩
  ·rintro d' ds ρ μ' N hN ⟨p,s,a6,a7,ez,e',rfl,F,hR2,hk⟩
   refine ⟨⟨gd1 _ F,W9 _ F⟩,?_⟩
   obtain ⟨u,s',rfl,rfl,rfl⟩:=Yc e'
   have hu:u.2 < j:=hz u (by rw [ez]; simp)
   have lz:=congrArg List.length ez
   simp only [List.length_append,List.length_cons] at lz
   simp only [cZ,List.zip_cons_cons,List.zip_nil_right,List.foldl_cons,List.foldl_nil,List.set_cons_zero,List.set_cons_succ,List.getElem?_cons_zero,List.getElem?_cons_succ,wSs,wS,wE,wEs,aA]
   refine ⟨rfl,?_⟩
   have hx:=hk u.2 hu
   simp only [cL,aq,hR2,List.length_map,List.length_range,cu hu,Option.bind_some,List.getElem?_map,List.getElem?_range hu,Option.map_some,isCell,hx,fP,cV]
   refine ⟨trivial,?_,hN _ _ ⟨p ++ [u],s',_,_,by rw [ez]; simp,rfl,rfl,F.Bs _ (by lia),?_,fun k hk2=>?_⟩⟩
   ·have:(sl p u.2).length<=p.length:=by
     unfold sl
     rw [List.length_map]
     exact List.length_filter_le _ _
    simp only [lim]; lia
   ·rw [List.getElem?_set_ne (by lia)]; exact hR2
   ·rw [K8]
    by_cases q:u.2=k
    ·subst q
     rw [List.getElem?_set_self (aJ hx)]
     simp
    ·rw [List.getElem?_set_ne (by lia),hk k hk2]
     simp [q]
  ·rintro ρ μ' ⟨p,s,a6,a7,ez,e',rfl,F,hR2,hk⟩
   have hs:s=[]:=by
    cases s with
    | nil=>rfl
    | cons u s=>simp [jA] at e'
   subst hs
   rw [List.append_nil] at ez
   subst ez
   refine ⟨⟨gd1 _ F,W9 _ F⟩,?_⟩
   simp only [List.getElem?_cons_zero,List.getElem?_cons_succ]
   refine h μ' (μ.length + j) ((List.range j).map (μ.length + ·)) F ⟨by lia,by rw [hR2,List.map_map]; rfl,by simp [tM],fun l hl=>?_,fun p l x h1 h2=>?_⟩
   ·simp only [List.mem_map,List.mem_range] at hl
    obtain ⟨a,ha,rfl⟩:=hl
    exact ⟨by lia,by lia⟩
   ·have hp:p < j:=by have:=(List.getElem?_eq_some_iff.mp h1).1; simpa using this
    rw [wz hp] at h2
    simp only [List.getElem?_map,List.getElem?_range hp,Option.map_some,Option.some.injEq] at h1 h2
    subst h1 h2
    exact hk p hp
theorem R4:Keeps G4 Ho uw:=by
 rintro ds μ Q ⟨d,e,z,m,rfl,hd,W6,he2,hz,hl,hm,h⟩
 have W9:bA μ e=some ((z.map (·.2)).map aA):=vm W6 he2
 simp only [Ho,G4,aH,bO,wSs,wS,wT,wE,wEs,wI,oK,W9,List.map_cons,List.map_nil,List.length_cons,List.length_nil,List.cons_append,List.nil_append,List.getElem?_cons_zero,List.getElem?_cons_succ,List.replicate]
 refine bF (fun ds ρ μ'=>∃ (p s:List (Itm×Nat)) (a b:Option D),z=p ++ s/\ds=cY p.length ((s.map (·.2)).map aA)/\μ'=μ/\ρ=[some d,some e,some (aA m),a,b,none,none,none]) ?_ ?_ _ _ _ ⟨[],z,none,none,rfl,rfl,rfl,rfl⟩
 ·rintro d' ds ρ μ' N hN ⟨p,s,a,b,ez,e',rfl,rfl⟩
  refine ⟨W9,?_⟩
  obtain ⟨u,s',rfl,rfl,rfl⟩:=FN e'
  have hu:u.2 < m:=hz u (by rw [ez]; simp)
  have b1:decide (0<=(u.2:Int)/\(u.2:Int) < (m:Int))=true:=decide_eq_true (by lia)
  simp only [cZ,List.zip_cons_cons,List.zip_nil_right,List.foldl_cons,List.foldl_nil,List.set_cons_zero,List.set_cons_succ,List.getElem?_cons_zero,List.getElem?_cons_succ,wSs,wS,wT,wE,wEs,aA,bD,b1,iB,truth,Bool.not_true,Bool.false_eq_true,if_false]
  exact ⟨rfl,hN _ _ ⟨p ++ [u],s',_,_,by rw [ez]; simp,by simp,rfl,rfl⟩⟩
 ·rintro ρ μ' ⟨p,s,a,b,ez,e',rfl,rfl⟩
  refine ⟨W9,?_⟩
  simp only [wSs,wS,wT,wE,wEs,aX,nW W6 he2,nW hd.1 hd.2,List.length_map,bK,jz,flat,List.getElem?_cons_zero,List.getElem?_cons_succ,fU,beq_self_eq_true,Bool.not_true,Bool.false_eq_true,if_false]
  exact ⟨trivial,trivial,Bc hm hz hl hd W6 he2 h⟩
end DW.iV
end
section
namespace DW.iV
open PySem DW DW.Dy DW.Dz DW.J0
noncomputable abbrev kJ:=J0.kJ
noncomputable abbrev o8:=J0.o8
noncomputable abbrev pK:=J0.pK
theorem zq:Keeps o8 pK kJ:=J0.zq
noncomputable abbrev gP:=Z0.gP
noncomputable abbrev jl:=Z0.jl
noncomputable abbrev jq:=Z0.jq
theorem qG:Keeps jl jq gP:=Z0.qG
theorem wK (r:List Itm):∀ l∈aW r,aY l:=by
 refine snoc_ind (P:=fun r=>∀ l∈aW r,aY l) (by simp [aW]) (fun r x ih=>?_) r
 rw [iJ]
 rcases List.eq_nil_or_concat r with rfl | ⟨p,y,ep⟩
 ·intro l hl
  have:l=[x]:=by simpa [aW,dJ] using hl
  subst this
  exact List.pairwise_singleton _ _
 ·rw [List.concat_eq_append] at ep
  subst ep
  obtain ⟨a,l0,el⟩:=rB p y
  rw [el] at ih ⊢
  rw [vU]
  by_cases c:eE x y=true
  ·rw [if_pos c]
   intro l hl
   rcases List.mem_append.mp hl with hl | hl
   ·exact ih l hl
   ·have:l=[x]:=by simpa using hl
    subst this
    exact List.pairwise_singleton _ _
  ·rw [if_neg c]
   have c:eE x y=false:=by simpa using c
   intro l hl
   rcases List.mem_append.mp hl with hl | hl
   ·exact ih l (List.mem_append.mpr (.inl hl))
   ·have:l=l0 ++ [y] ++ [x]:=by simpa using hl
    subst this
    have h1:=ih (l0 ++ [y]) (by simp)
    refine List.pairwise_append.mpr ⟨h1,List.pairwise_singleton _ _,fun u hu v hv=>?_⟩
    have:v=x:=by simpa using hv
    subst this
    rcases List.mem_append.mp hu with hu | hu
    ·exact fK _ _ _ ((List.pairwise_append.mp h1).2.2 u hu y (by simp)) c
    ·have:u=y:=by simpa using hu
     subst this
     exact c
theorem LL.runs {μ:Mem} {b n:Nat} {ls:List Nat} {rs:List (List Itm)} (h:LL μ b n ls rs):gq μ (.loc n) rs:=by
 refine ⟨.inl ⟨n,rfl⟩,ls.map D.loc,by simp only [aq,h.at_],by simp [h.len],fun i e r h1 h2=>?_⟩
 rw [List.getElem?_map] at h1
 obtain ⟨l,hl,rfl⟩:=Option.map_eq_some_iff.mp h1
 exact ⟨.inl ⟨l,rfl⟩,by simp only [aq,h.row i l r hl h2]⟩
theorem pG (μ:Mem) (n:Nat) (r:List Itm):(r.map aQ).map (bW μ n)=r.map aQ:=Bf μ n aQ (fun x=>QB μ n x) r
theorem vQ {μ:Mem} {x y v:D} {Q:QD} (hx:bW μ 8 x=v) (hy:bW μ 8 y=v) (hf:flat 60 v=true) (q:Q (.bl false) μ):Kf true x y μ Q:=by
 unfold Kf
 rw [hx,hy,CW 60 _ hf]
 exact ⟨hf,hf,q⟩
theorem uo (μ:Mem) (r:List Itm):bW μ 8 (.lst (r.map aQ)) = .lst (r.map aQ):=by rw [uh,pG]
theorem Ed {μ:Mem} {a:Nat} {r:List Itm} (h:μ[a]? = some (.lst (r.map aQ))):bW μ 8 (.loc a) = .lst (r.map aQ):=by rw [um h,pG]
theorem QC (μ:Mem) (rs:List (List Itm)):bW μ 8 (.lst (cO rs)) = .lst (cO rs):=by
 rw [uh]
 unfold cO
 rw [Bf μ 7 (fun r:List Itm=>D.lst (r.map aQ)) (fun r=>by rw [uh,pG]) rs]
theorem Yi {μ:Mem} {b n:Nat} {ls:List Nat} {rs:List (List Itm)} (h:LL μ b n ls rs):bW μ 8 (.loc n) = .lst (cO rs):=by
 rw [um h.at_]
 congr 1
 apply List.ext_getElem?
 intro i
 by_cases hi:i < rs.length
 ·have hl:i < ls.length:=by rw [h.len]; exact hi
  have e:=h.row i ls[i] rs[i] (List.getElem?_eq_getElem hl) (List.getElem?_eq_getElem hi)
  simp only [cO,List.getElem?_map,List.getElem?_eq_getElem hl,List.getElem?_eq_getElem hi,Option.map_some]
  rw [um e,pG]
 ·rw [List.getElem?_eq_none (by simp [h.len]; lia),List.getElem?_eq_none (by simp [cO]; lia)]
def G3:List Str:=["script","k","box","runs","row","trace","every","run","some","many","marks"]
noncomputable def Vm:Ss:=(.cons (.set 8 (.call "_law_row" lZ (.cons (.var 2) (.cons (.cst (.int 12)) .nil)))) (.cons (.ite (.rR true (.idx (.call "pour" sG (.cons (.call "natural" gP (.cons (.var 8) .nil)) .nil)) (.cst (.int 0))) (.call "sorted_row" iZ (.cons (.var 8) .nil))) (.cons (.ret (.cst (.bl false))) .nil) .nil) (.cons (.set 9 (.bin .Add (.cst (.int 1)) (.call "_law_take" bh (.cons (.var 2) (.cons (.cst (.int 5)) .nil))))) (.cons (.set 10 (.comp false 1 false [2,9] (.call "_law_take" bh (.cons (.var 1) (.cons (.var 2) .nil))) (.seq (.var 8)) .nil)) (.cons (.ite (.rR true (.call "together" kI (.cons (.call "apart" uw (.cons (.var 8) (.cons (.var 10) (.cons (.var 9) .nil)))) (.cons (.var 10) .nil))) (.var 8)) (.cons (.ret (.cst (.bl false))) .nil) .nil) .nil)))))
noncomputable def Vn:Ss:=(.cons (.ite (.or (.rR true (.var 4) (.call "sorted_row" iZ (.cons (.var 6) .nil))) (.cmp .IsNot (.call "first_wrong" kO (.cons (.var 3) (.cons (.var 5) .nil))) (.cst .non))) (.cons (.ret (.cst (.bl false))) .nil) .nil) (.cons (.ite (.or (.rR true (.call "together" kI (.cons (.var 3) (.cons (.var 5) .nil))) (.var 4)) (.rR true (.call "apart" uw (.cons (.var 4) (.cons (.var 5) (.cons (.blt "len" (.cons (.var 3) .nil)) .nil)))) (.var 3))) (.cons (.ret (.cst (.bl false))) .nil) .nil) Vm))
noncomputable def Hl:Ss:=(.cons (.for_ [1] false (.rng (.cons (.blt "max" (.cons (.cst (.int 1)) (.cons (.blt "min" (.cons (.blt "len" (.cons (.var 0) .nil)) (.cons (.cst (.int 5)) .nil))) .nil))) .nil)) (.cons (.set 2 (.call "_law_box" oU (.cons (.var 0) (.cons (.var 1) .nil)))) (.cons (.set 3 (.call "_law_runs" Bo (.cons (.var 2) (.cons (.idx (.lst false (.cons (.cst (.int 5)) (.cons (.cst (.int 5)) (.cons (.cst (.int 5)) (.cons (.cst (.int 5)) (.cons (.cst (.int 5)) (.cons (.cst (.int 16)) .nil))))))) (.call "_law_take" bh (.cons (.var 2) (.cons (.cst (.int 6)) .nil)))) (.cons (.cst (.int 6)) .nil))))) (.cons (.Ei [4,5] (.call "pour" sG (.cons (.var 3) .nil))) (.cons (.set 6 (.lst false .nil)) (.cons (.for_ [7] false (.seq (.var 3)) (.cons (.set 6 (.cat false (.var 6) (.var 7))) .nil)) Vn)))))) (.cons (.ret (.cst (.bl true))) .nil))
theorem Qx {Z:jx} {μ:Mem} {nb:Nat} {v0 v1 v3 v4 v5 v6 v7 v8 v9 v10:Option D} (hb:dB μ nb) (h:∀ μ' u8 u9 u10,Z.nx [v0,v1,some (.loc nb),v3,v4,v5,v6,v7,u8,u9,u10] μ') :
  wSs Vm Z [v0,v1,some (.loc nb),v3,v4,v5,v6,v7,v8,v9,v10] μ:=by
 simp only [Vm,wSs,wS,wT,wE,wEs,wI,List.set_cons_zero,List.set_cons_succ,List.getElem?_cons_zero,List.getElem?_cons_succ]
 refine ⟨hb,by decide,by decide,fun r b1 rl ok=>?_⟩
 have hb1:dB (bx μ nb b1) nb:=cX hb
 generalize bx μ nb b1=μ1 at hb1
 simp only [List.set_cons_zero,List.set_cons_succ,List.getElem?_cons_zero,List.getElem?_cons_succ]
 refine ⟨r,rfl,by lia,fun ν n ls L=>?_⟩
 obtain ⟨nl,nf⟩:=uT r
 have hb2:dB (μ1 ++ ν) nb:=qL hb1
 generalize μ1 ++ ν=μ2 at L hb2
 have rise:=wK r
 have mb:(aW r).length * ((aW r).flatten.length + 1)<=12 * (12 + 1):=Nat.mul_le_mul (by lia) (by rw [nf]; lia)
 have rl1:∀ l∈aW r,l.length < 1000:=fun l hl=>by
  have:l.length<=(aW r).flatten.length:=by
   obtain ⟨s,t,e⟩:=List.append_of_mem hl
   rw [e]; simp; lia
  rw [nf] at this
  lia
 refine ⟨_,aW r,rfl,LL.runs L,fun l hl=>⟨nJ (rise l hl),rl1 l hl⟩,by lia,by lia,by rw [nf]; lia,fun μ3 a b F3 _ _ _ ha _=>?_⟩
 refine Yb.aa1 ?_
 refine ⟨r,rfl,by lia,?_⟩
 have er:yS (aW r)=Gy r:=by rw [BK rise,nf]
 rw [er] at ha
 have oks:∀ x∈Gy r,Ag x:=fun x hx=>ok x ((oO r).mem_iff.mp hx)
 refine vQ (Ed ha) (uo _ _) (iR oks) ?_
 have hb3:dB μ3 nb:=by obtain ⟨v,hv⟩:=hb2; exact ⟨v,F3.get hv⟩
 simp only [fU,Bool.false_eq_true,if_false,List.getElem?_cons_zero,List.getElem?_cons_succ]
 refine ⟨hb3,by decide,by decide,fun q b4 q0 q5=>?_⟩
 have hb4:dB (bx μ3 nb b4) nb:=cX hb3
 generalize bx μ3 nb b4=μ4 at hb4
 obtain ⟨m,em,m1,m5⟩:∃ m:Nat,(1:Int) + q=(m:Int)/\1<=m/\m<=5:=⟨(1 + q).toNat,by lia,by lia,by lia⟩
 simp only [gB,em,List.set_cons_zero,List.set_cons_succ,List.getElem?_cons_zero,List.getElem?_cons_succ,yI,List.map_cons,List.map_nil]
 refine gH (fun ds acc μ'=>∃ ks:List Nat,acc=ks.map aA/\(∀ k∈ks,k < m)/\ks.length + ds.length=r.length/\dB μ' nb) ?_ ?_ _ _ _ ⟨[],rfl,by simp,by simp,hb4⟩
 ·rintro d ds acc μ' Y N hY hN ⟨ks,rfl,hk,hl,hb'⟩
  refine ⟨trivial,?_⟩
  simp only [bindC,wTs,wE,wEs,if_true,List.getElem?_cons_zero,List.getElem?_cons_succ,List.nil_append,List.cons_append]
  refine ⟨hb',by lia,by lia,fun k b5 k0 k5=>hY _ _ ⟨ks ++ [k.toNat],?_,?_,by simp at hl ⊢; lia,cX hb'⟩⟩
  ·have:k=((k.toNat:Nat):Int):=by lia
   simp only [List.map_append,List.map_cons,List.map_nil,aA,<- this]
  ·intro j hj
   rcases List.mem_append.mp hj with hj | hj
   ·exact hk j hj
   ·have:j=k.toNat:=by simpa using hj
    lia
 ·rintro acc μ' ⟨ks,rfl,hk,hl,hb'⟩
  refine ⟨trivial,?_⟩
  have hl:ks.length=r.length:=by simpa using hl
  have z1:(r.zip ks).map (·.1)=r:=List.map_fst_zip (by lia)
  have z2:(r.zip ks).map (·.2)=ks:=List.map_snd_zip (by lia)
  have zl:(r.zip ks).length=r.length:=by simp [hl]
  have zk:∀ u∈r.zip ks,u.2 < m:=fun u hu=>hk _ (by rw [<- z2]; exact List.mem_map.mpr ⟨u,hu,rfl⟩)
  simp only [newL,List.set_cons_zero,List.set_cons_succ,List.getElem?_cons_zero,List.getElem?_cons_succ]
  refine ⟨.lst (r.map aQ),.lst (ks.map aA),r.zip ks,m,rfl,⟨.inr ⟨_,rfl⟩,by simp only [aq,z1]⟩,.inr ⟨_,rfl⟩,by simp only [aq,z2],zk,by lia,by lia,fun μ5 R ls5 F5 L5=>?_⟩
  refine ⟨.loc R,.lst (ks.map aA),r.zip ks,m,rfl,LL.runs L5,.inr ⟨_,rfl⟩,by simp only [aq,z2],zk,by lia,by lia,fun μ6 F6=>?_⟩
  rw [z1]
  refine vQ (uo _ _) (uo _ _) (iR ok) ?_
  simp only [fU,Bool.false_eq_true,if_false]
  exact h _ _ _ _
theorem Qy {Z:jx} {μ:Mem} {nb a b:Nat} {rs:List (List Itm)} {v0 v1 v7 v8 v9 v10:Option D} (hb:dB μ nb) (Le:∀ r∈rs,PJ 6 r) (rl:rs.length<=16) (ha:μ[a]? = some (.lst ((yS rs).map aQ))) (hbt:μ[b]? = some (.lst ((X4 rs).map aA)))
  (h:∀ μ' u8 u9 u10,Z.nx [v0,v1,some (.loc nb),some (.lst (cO rs)),some (.loc a),some (.loc b),some (.lst (rs.flatten.map aQ)),v7,u8,u9,u10] μ') :
  wSs Vn Z [v0,v1,some (.loc nb),some (.lst (cO rs)),some (.loc a),some (.loc b),some (.lst (rs.flatten.map aQ)),v7,v8,v9,v10] μ:=by
 have ok:∀ r∈rs,∀ x∈r,Ag x:=fun r hr=>(Le r hr).2.2
 have Yz:∀ r∈rs,aY r:=fun r hr=>(Le r hr).2.1
 have fl:rs.flatten.length<=rs.length * 6:=Yb.zK fun r hr=>(Le r hr).1
 have mb:rs.length * (rs.flatten.length + 1)<=16 * (16 * 6 + 1):=Nat.mul_le_mul (by lia) (by lia)
 have ok2:∀ x∈yS rs,Ag x:=fun x hx=>by
  obtain ⟨r,hr,hx'⟩:=List.mem_flatten.mp ((xT rs).mem_iff.mp hx)
  exact ok r hr x hx'
 have lp:=BJ rs
 have hap:=wu Yz
 have hfl:=Yb.JB ok
 simp only [Vn,wSs,wS,wT,wE,wEs,List.set_cons_zero,List.set_cons_succ,List.getElem?_cons_zero,List.getElem?_cons_succ]
 refine ⟨rs.flatten,rfl,by lia,?_⟩
 rw [<- BK Yz]
 refine vQ (Ed ha) (uo _ _) (iR ok2) ?_
 simp only [fU,Bool.false_eq_true,if_false]
 refine ⟨_,b,rs,rfl,nH _ _,fun r hr=>⟨Yz r hr,by have:=(Le r hr).1; lia⟩,by lia,by lia,by lia,hbt,fun μ1 F1=>?_⟩
 simp only [bK,gA,Bool.not_true,fU,Bool.false_eq_true,if_false,List.getElem?_cons_zero,List.getElem?_cons_succ]
 have sb:aq μ1 (.loc b)=some (((bI rs).map (·.2)).map aA):=by simp only [aq,F1.get hbt]; rfl
 refine ⟨_,_,bI rs,rs.length,rfl,by rw [hap]; exact nH _ _,.inl ⟨b,rfl⟩,sb,qt,by lia,by lia,fun μ2 F2=>?_⟩
 have ha2:=F2.get (F1.get ha)
 refine vQ (uo _ (yS rs)) (Ed ha2) (iR ok2) ?_
 have elr:lenOf μ2 (.lst (cO rs))=some rs.length:=by simp [lenOf,aq,cO]
 simp only [fU,Bool.false_eq_true,if_false,aX,elr,List.getElem?_cons_zero,List.getElem?_cons_succ]
 refine ⟨_,_,bI rs,rs.length,rfl,⟨.inl ⟨a,rfl⟩,by simp only [aq,ha2]; rfl⟩,.inl ⟨b,rfl⟩,F2.seq sb,qt,by lia,by lia,fun μ3 R ls F3 L=>?_⟩
 rw [hap] at L
 refine vQ (Yi L) (QC _ _) hfl ?_
 simp only [fU,Bool.false_eq_true,if_false]
 have hb3:dB μ3 nb:=by obtain ⟨v,hv⟩:=hb; exact ⟨v,F3.get (F2.get (F1.get hv))⟩
 exact Qx hb3 h
theorem Zf:Keeps G3 Hl uy:=by
 rintro ds μ Q ⟨ns,rfl,hl,h⟩
 have hlo:(ns.length:Int)<=63:=by lia
 simp only [Hl,G3,aH,bO,wSs,wS,wE,wEs,wI,newL,aX,lenOf,aq,rK,j4,List.map_cons,List.map_nil,List.length_cons,List.length_nil,List.cons_append,List.nil_append,List.getElem?_cons_zero,List.length_map,Option.map_some]
 refine ⟨?_,?_,?_⟩
 ·simp only [lim]; split <;> split <;> lia
 ·split <;> split <;> lia
 refine bF (fun ds ρ μ'=>(∀ d∈ds,∃ i:Int,d = .int i/\0<=i)/\∃ v1 v2 v3 v4 v5 v6 v7 v8 v9 v10,ρ=[some (.ro (ns.map D.int)),v1,v2,v3,v4,v5,v6,v7,v8,v9,v10]) ?_ ?_ _ _ _ ⟨?_,none,none,none,none,none,none,none,none,none,none,rfl⟩
 ·rintro d ds ρ μ1 N hN ⟨hd,v1,v2,v3,v4,v5,v6,v7,v8,v9,v10,rfl⟩
  obtain ⟨k,rfl,k0⟩:=hd d (by simp)
  have nx:∀ ρ μ,(∃ v1 v2 v3 v4 v5 v6 v7 v8 v9 v10,ρ=[some (.ro (ns.map D.int)),v1,v2,v3,v4,v5,v6,v7,v8,v9,v10])->N ρ μ:=fun ρ μ q=>hN ρ μ ⟨fun d hd'=>hd d (by simp [hd']),q⟩
  refine ⟨trivial,?_⟩
  simp only [cZ,List.set_cons_zero,List.set_cons_succ,List.getElem?_cons_zero,List.getElem?_cons_succ]
  refine ⟨ns,rfl,by lia,k0,fun b0=>?_⟩
  simp only [List.set_cons_zero,List.set_cons_succ,List.getElem?_cons_zero,List.getElem?_cons_succ]
  refine ⟨by simp only [lim]; lia,qK,by decide,by decide,fun q b1 q0 q6=>?_⟩
  have hm:∃ m:Nat,m<=16/\∀ (P:QD) (μ':Mem),P (.int (m:Int)) μ'->cL (.lst [.int 5,.int 5,.int 5,.int 5,.int 5,.int 16]) (.int q) μ' P:=by
   have:q=0∨q=1∨q=2∨q=3∨q=4∨q=5:=by lia
   rcases this with rfl | rfl | rfl | rfl | rfl | rfl
   ·exact ⟨5,by lia,fun P μ' z=>by simpa [cL,aq,n6] using z⟩
   ·exact ⟨5,by lia,fun P μ' z=>by simpa [cL,aq,n6] using z⟩
   ·exact ⟨5,by lia,fun P μ' z=>by simpa [cL,aq,n6] using z⟩
   ·exact ⟨5,by lia,fun P μ' z=>by simpa [cL,aq,n6] using z⟩
   ·exact ⟨5,by lia,fun P μ' z=>by simpa [cL,aq,n6] using z⟩
   ·exact ⟨16,by lia,fun P μ' z=>by simpa [cL,aq,n6] using z⟩
  obtain ⟨m,m16,hmi⟩:=hm
  refine hmi _ _ ?_
  refine ⟨_,m,6,rfl,cX qK,by lia,by lia,fun rs b2 ν rl Le=>?_⟩
  have hb2:dB (bx (bx (μ1 ++ [Cell.lst [D.int b0]]) μ1.length b1) μ1.length b2 ++ ν) μ1.length:=qL (cX (cX qK))
  generalize bx (bx (μ1 ++ [Cell.lst [D.int b0]]) μ1.length b1) μ1.length b2 ++ ν=μ2 at hb2
  generalize μ1.length=nb at hb2
  have Yz:∀ r∈rs,aY r:=fun r hr=>(Le r hr).2.1
  have fl:rs.flatten.length<=rs.length * 6:=Yb.zK fun r hr=>(Le r hr).1
  have mb:rs.length * (rs.flatten.length + 1)<=16 * (16 * 6 + 1):=Nat.mul_le_mul (by lia) (by lia)
  simp only [List.set_cons_zero,List.set_cons_succ,List.getElem?_cons_zero,List.getElem?_cons_succ]
  refine ⟨_,rs,rfl,nH _ _,fun r hr=>⟨nJ (Yz r hr),by have:=(Le r hr).1; lia⟩,by lia,by lia,by lia,fun μ3 a b F al bl ab ha hb=>?_⟩
  have hb3:dB μ3 nb:=by obtain ⟨v,hv⟩:=hb2; exact ⟨v,F.get hv⟩
  simp only [List.zip_cons_cons,List.zip_nil_right,List.foldl_cons,List.foldl_nil,List.set_cons_zero,List.set_cons_succ,List.getElem?_cons_zero,List.getElem?_cons_succ,List.length_cons,List.length_nil,yI]
  refine ⟨trivial,by decide,?_⟩
  refine bF (fun ds ρ μ'=>∃ (p s:List (List Itm)) (v7:Option D),rs=p ++ s/\ds=cO s/\μ'=μ3/\ρ=[some (.ro (ns.map D.int)),some (.int k),some (.loc nb),some (.lst (cO rs)),some (.loc a),some (.loc b),some (.lst (p.flatten.map aQ)),v7,v8,v9,v10]) ?_ ?_ _ _ _ ⟨[],rs,v7,rfl,rfl,rfl,rfl⟩
  ·rintro d' ds' ρ μ' N2 hN2 ⟨p,s,u7,ep,e,rfl,rfl⟩
   refine ⟨trivial,?_⟩
   cases s with
   | nil=>simp [cO] at e
   | cons r s =>
    simp only [cO,List.map_cons,List.cons.injEq] at e
    obtain ⟨rfl,rfl⟩:=e
    have lz:=congrArg (fun l:List (List Itm)=>l.flatten.length) ep
    simp only [List.flatten_append,List.flatten_cons,List.length_append] at lz
    simp only [cZ,List.set_cons_zero,List.set_cons_succ,List.getElem?_cons_zero,List.getElem?_cons_succ,Qn,DG,newL,List.length_map]
    refine ⟨by simp only [lim]; lia,hN2 _ _ ⟨p ++ [r],s,some (.lst (r.map aQ)),by rw [ep]; simp,rfl,rfl,?_⟩⟩
    simp
  ·rintro ρ μ' ⟨p,s,u7,ep,e,rfl,rfl⟩
   refine ⟨trivial,?_⟩
   have hs:s=[]:=by
    cases s with
    | nil=>rfl
    | cons u s=>simp [cO] at e
   subst hs
   rw [List.append_nil] at ep
   subst ep
   exact Qy hb3 Le (by lia) ha hb fun μ' u8 u9 u10=>nx _ _ ⟨_,_,_,_,_,_,_,_,_,_,rfl⟩
 ·rintro ρ μ1 ⟨-,v1,v2,v3,v4,v5,v6,v7,v8,v9,v10,rfl⟩
  exact ⟨trivial,h _⟩
 ·intro d hd
  obtain ⟨i,rfl,h0,_⟩:=En hd
  exact ⟨i,rfl,h0⟩
end DW.iV
end
namespace DW.iV
open PySem L2 DW DW.Dy DW.Dz DW.J0
set_option hygiene false in
local macro_rules | `(tactic| trivial) => `(tactic| first | exact ⟨rfl, rfl, rfl, by decide +kernel, rfl, by decide +kernel, by decide +kernel⟩ | (intro _ _ _ _ _ _; first | exact len1 fun _ => rfl | exact len2 fun _ _ => rfl | exact Zc fun _ _ _ => rfl | exact adM fun _ _ _ _ => rfl | exact adL fun _ _ _ _ _ => rfl) | (intro _ _ _ h; first | (obtain ⟨_, rfl, _⟩ := h; rfl) | (obtain ⟨_, _, rfl, _⟩ := h; rfl) | (obtain ⟨_, _, _, rfl, _⟩ := h; rfl) | (obtain ⟨_, _, _, _, rfl, _⟩ := h; rfl) | (obtain ⟨_, _, _, _, _, rfl, _⟩ := h; rfl) | (obtain ⟨_, _, _, _, _, _, rfl, _⟩ := h; rfl) | (obtain ⟨_, _, _, _, _, _, _, rfl, _⟩ := h; rfl) | (obtain ⟨_, _, _, _, _, _, _, _, rfl, _⟩ := h; rfl) | (obtain ⟨_, _, _, _, _, _, _, _, _, rfl, _⟩ := h; rfl) | (obtain ⟨_, _, _, _, _, _, _, _, _, _, rfl, _⟩ := h; rfl) | (obtain ⟨_, _, _, _, _, _, _, _, _, _, _, rfl, _⟩ := h; rfl) | (obtain ⟨_, _, _, _, _, _, _, _, _, _, _, _, rfl, _⟩ := h; rfl) | (obtain ⟨_, _, _, _, _, _, _, _, _, _, _, _, _, rfl, _⟩ := h; rfl) | (obtain ⟨_, _, _, _, _, _, _, _, _, _, _, _, _, _, rfl, _⟩ := h; rfl)) | (intro _ _ _ _ h; first | (obtain ⟨_, rfl, _⟩ := h; rfl) | (obtain ⟨_, _, rfl, _⟩ := h; rfl) | (obtain ⟨_, _, _, rfl, _⟩ := h; rfl) | (obtain ⟨_, _, _, _, rfl, _⟩ := h; rfl) | (obtain ⟨_, _, _, _, _, rfl, _⟩ := h; rfl) | (obtain ⟨_, _, _, _, _, _, rfl, _⟩ := h; rfl) | (obtain ⟨_, _, _, _, _, _, _, rfl, _⟩ := h; rfl) | (obtain ⟨_, _, _, _, _, _, _, _, rfl, _⟩ := h; rfl) | (obtain ⟨_, _, _, _, _, _, _, _, _, rfl, _⟩ := h; rfl) | (obtain ⟨_, _, _, _, _, _, _, _, _, _, rfl, _⟩ := h; rfl) | (obtain ⟨_, _, _, _, _, _, _, _, _, _, _, rfl, _⟩ := h; rfl) | (obtain ⟨_, _, _, _, _, _, _, _, _, _, _, _, rfl, _⟩ := h; rfl) | (obtain ⟨_, _, _, _, _, _, _, _, _, _, _, _, _, rfl, _⟩ := h; rfl) | (obtain ⟨_, _, _, _, _, _, _, _, _, _, _, _, _, _, rfl, _⟩ := h; rfl)) | (intro _ _ _ h; rcases h with h | h <;> first | (obtain ⟨_, rfl, _⟩ := h; rfl) | (obtain ⟨_, _, rfl, _⟩ := h; rfl) | (obtain ⟨_, _, _, rfl, _⟩ := h; rfl) | (obtain ⟨_, _, _, _, rfl, _⟩ := h; rfl) | (obtain ⟨_, _, _, _, _, rfl, _⟩ := h; rfl) | (obtain ⟨_, _, _, _, _, _, rfl, _⟩ := h; rfl) | (obtain ⟨_, _, _, _, _, _, _, rfl, _⟩ := h; rfl) | (obtain ⟨_, _, _, _, _, _, _, _, rfl, _⟩ := h; rfl) | (obtain ⟨_, _, _, _, _, _, _, _, _, rfl, _⟩ := h; rfl) | (obtain ⟨_, _, _, _, _, _, _, _, _, _, rfl, _⟩ := h; rfl) | (obtain ⟨_, _, _, _, _, _, _, _, _, _, _, rfl, _⟩ := h; rfl) | (obtain ⟨_, _, _, _, _, _, _, _, _, _, _, _, rfl, _⟩ := h; rfl) | (obtain ⟨_, _, _, _, _, _, _, _, _, _, _, _, _, rfl, _⟩ := h; rfl) | (obtain ⟨_, _, _, _, _, _, _, _, _, _, _, _, _, _, rfl, _⟩ := h; rfl)) | (intro _ _ _ _ h; rcases h with h | h <;> first | (obtain ⟨_, rfl, _⟩ := h; rfl) | (obtain ⟨_, _, rfl, _⟩ := h; rfl) | (obtain ⟨_, _, _, rfl, _⟩ := h; rfl) | (obtain ⟨_, _, _, _, rfl, _⟩ := h; rfl) | (obtain ⟨_, _, _, _, _, rfl, _⟩ := h; rfl) | (obtain ⟨_, _, _, _, _, _, rfl, _⟩ := h; rfl) | (obtain ⟨_, _, _, _, _, _, _, rfl, _⟩ := h; rfl) | (obtain ⟨_, _, _, _, _, _, _, _, rfl, _⟩ := h; rfl) | (obtain ⟨_, _, _, _, _, _, _, _, _, rfl, _⟩ := h; rfl) | (obtain ⟨_, _, _, _, _, _, _, _, _, _, rfl, _⟩ := h; rfl) | (obtain ⟨_, _, _, _, _, _, _, _, _, _, _, rfl, _⟩ := h; rfl) | (obtain ⟨_, _, _, _, _, _, _, _, _, _, _, _, rfl, _⟩ := h; rfl) | (obtain ⟨_, _, _, _, _, _, _, _, _, _, _, _, _, rfl, _⟩ := h; rfl) | (obtain ⟨_, _, _, _, _, _, _, _, _, _, _, _, _, _, rfl, _⟩ := h; rfl)) | ((repeat' first | exact True.intro | refine And.intro ?_ ?_ | assumption | exact rfl | exact fun z => absurd z (by decide) | exact jw.up (by assumption) (by decide) | exact Xc (by assumption) (by assumption) | exact bZ.calm (jw.up (by assumption) (by decide)) | exact bZ.ac0 (jw.up (by assumption) (by decide)) | exact bZ.ac1 (jw.up (by assumption) (by decide)) | exact jw.mild (by assumption) | exact bZ.other (by assumption) (by assumption) (by assumption) (jw.up (by assumption) (by decide)) | exact XC.at (by assumption) (by assumption) (by assumption) | exact XD.at (by assumption) (by assumption) (by assumption) | exact Xy.at (by assumption) (by assumption) (by assumption)); done))
noncomputable def top (i:Nat):Stmt:=PySem.Challenge.pw_pourwright_k36_whole_led_and_led_back.main.body.getD i (.Pass ⟨0,0,0,0⟩)
noncomputable def dW:List Str:=["isinstance","int","bool","range","len","sorted","list","reversed","enumerate","sum","zip","abs","divmod","max","min"]
theorem Dq:∀ ds μ Q,dX ds μ Q->ds.length=(["thing"]:List Str).length:=by
 intro ds μ Q h
 unfold dX at h
 split at h <;> first | rfl | exact h.elim
theorem Pz:∀ ds μ Q,jk ds μ Q->ds.length=(["script","k"]:List Str).length:=by
 intro ds μ Q h
 unfold jk at h
 split at h <;> first | rfl | exact h.elim
theorem Tw:∀ ds μ Q,mj ds μ Q->ds.length=(["cell","k"]:List Str).length:=by
 intro ds μ Q h
 unfold mj at h
 split at h <;> first | rfl | exact h.elim
theorem Py:∀ ds μ Q,bh ds μ Q->ds.length=(["box","many"]:List Str).length:=by
 intro ds μ Q h
 unfold bh at h
 split at h <;> first | rfl | exact h.elim
theorem Dr:∀ ds μ Q,bD ds μ Q->ds.length=(["thing","many"]:List Str).length:=by
 intro ds μ Q h
 unfold bD at h
 split at h <;> first | rfl | exact h.elim
theorem TF:∀ ds μ Q,oU ds μ Q->ds.length=(["script","k"]:List Str).length:=by
 intro ds μ Q h
 unfold oU at h
 split at h <;> first | rfl | exact h.elim
theorem Tt:∀ ds μ Q,lY ds μ Q->ds.length=(["box"]:List Str).length:=by
 intro ds μ Q h
 unfold lY at h
 split at h <;> first | rfl | exact h.elim
theorem Tz:∀ ds μ Q,mq ds μ Q->ds.length=(["box"]:List Str).length:=by
 intro ds μ Q h
 unfold mq at h
 split at h <;> first | rfl | exact h.elim
theorem Tv:∀ ds μ Q,lZ ds μ Q->ds.length=(["box","most"]:List Str).length:=by
 intro ds μ Q h
 unfold lZ at h
 split at h <;> first | rfl | exact h.elim
noncomputable abbrev bH:Stmt:=inClass (top 16) 8
noncomputable def gW:List Str:=["self","start","behind"]
theorem mV:dz cj gW (aB bH):=⟨rfl,rfl,rfl,by decide +kernel,rfl,by decide +kernel,by decide +kernel⟩
theorem nR:∀ d,u5 (Ctx.of cj (aB bH).names dW) (cC d) (aU bH)=true:=by
 intro d
 kernel_rfl
theorem mW:∀ d ds μ Q,aM d ds μ Q->ds.length=gW.length:=by
 intro d ds μ Q h
 unfold aM at h
 obtain ⟨_,_,_,_,_,_,_,_,rfl,_⟩:=h; rfl
noncomputable abbrev Bt:Stmt:=top 38
noncomputable def Mv:List Str:=["script"]
theorem Vu:dz G3 Mv (aB Bt):=⟨rfl,rfl,rfl,by decide +kernel,rfl,by decide +kernel,by decide +kernel⟩
theorem Y9:u5 (Ctx.of G3 (aB Bt).names dW) Hl (aU Bt)=true:=by decide +kernel
theorem Xp:∀ ds μ Q,uy ds μ Q->ds.length=Mv.length:=by
 intro ds μ Q h
 unfold uy at h
 obtain ⟨_,rfl,_⟩:=h; rfl
set_option maxHeartbeats 0 in
theorem Fe {T:Top} {h:Heap} {f:Addr} {fd:FuncData} (X:T.K.In h) (G:h.Ns mainGlobals T.mg) (fr:wC T.K dW) (bN:ClsAt T.K "Contest") (jZ:Af T.K "Contest" "heads") (iT:Af T.K "Contest" "winners") (jt:Af T.K "Contest" "played") (oh:aK T.K "is_whole" (top 7)) (FQ:aK T.K "less" (top 8)) (jM:aK T.K "sorted_row" (top 10)) (zQ:aK T.K "midst" (top 14)) (fL:cQ T.K "Contest" "winner" "Contest.winner" (inClass (top 16) 10)) (qT:aK T.K "head_of" (top 19)) (zV:aK T.K "_law_cell" (top 28)) (FZ:aK T.K "_law_mix" (top 29)) (zT:aK T.K "_law_take" (top 31)) (vR:aK T.K "_law_under" (top 35)) (zP:aK T.K "rises" (top 9)) (ou:aK T.K "is_below" (top 12)) (fj:aK T.K "stretches_above" (top 15)) (gn:cQ T.K "Contest" "first" "Contest.first" (inClass (top 16) 1)) (fM:cQ T.K "Contest" "better" "Contest.better" (inClass (top 16) 11)) (qR:aK T.K "natural" (top 26)) (Gb:aK T.K "_law_box" (top 30)) (FT:aK T.K "_law_tag" (top 32)) (Ga:aK T.K "_law_key" (top 33)) (qU:aK T.K "_law_sorted" (top 36)) (cM:cQ T.K "Contest" "check_place" "Contest.check_place" (inClass (top 16) 7)) (ig:cQ T.K "Contest" "play" "Contest.play" (inClass (top 16) 9)) (g8:aK T.K "check_rising" (top 18)) (jL:aK T.K "wrong_word" (top 21)) (zR:aK T.K "apart" (top 24)) (FW:aK T.K "_law_row" (top 34)) (iw:cQ T.K "Contest" "head" "Contest.head" (inClass (top 16) 2)) (jg:cQ T.K "Contest" "put" "Contest.put" (inClass (top 16) 3)) (jf:cQ T.K "Contest" "way" "Contest.way" (inClass (top 16) 6)) (n8:aK T.K "together" (top 23)) (zU:aK T.K "_law_runs" (top 37)) (dU:cQ T.K "Contest" "play_all" "Contest.play_all" bH) (iu:cQ T.K "Contest" "__init__" "Contest.__init__" (inClass (top 16) 0)) (FP:aK T.K "pour" (top 20)) (je:aK T.K "first_wrong" (top 22)) (F:J5 T.K "law" "law" Bt f fd):cD T.P T.w T.K T.mg T.base (oF T.P T.w) 31 f fd Mv (low T.K uy):=by
 have hb:=Hw X G fr
 have Vc:=cI (k:=0) (ps:=["thing"]) oh X G (by trivial) (by decide +kernel) hb (by trivial) Dq Fo (by trivial)
 have aaS:=cI (k:=0) (ps:=["one","other"]) FQ X G (by trivial) (by decide +kernel) hb (by trivial) (by trivial) Ww (by trivial)
 have Qs:=cI (k:=0) (ps:=["row"]) jM X G (by trivial) (by decide +kernel) hb (by trivial) (by trivial) zp (by trivial)
 have Qt:=cI (k:=0) (ps:=["start","behind"]) zQ X G (by trivial) (by decide +kernel) hb (by trivial) (by trivial) R0 (by trivial)
 have H8:=jd (k:=0) (ps:=["self","start","behind"]) fL bN (by trivial) (by decide +kernel) hb (by trivial) (by trivial) qH (by trivial)
 have XM:=cI (k:=0) (ps:=["run","taken"]) qT X G (by trivial) (by decide +kernel) hb (by trivial) (by trivial) Jm (by trivial)
 have aac:=cI (k:=0) (ps:=["script","k"]) zV X G (by trivial) (by decide +kernel) hb (by trivial) Pz R7 (by trivial)
 have aaV:=cI (k:=0) (ps:=["cell","k"]) FZ X G (by trivial) (by decide +kernel) hb (by trivial) Tw Wz (by trivial)
 have Z8:=cI (k:=0) (ps:=["box","many"]) zT X G (by trivial) (by decide +kernel) hb (by trivial) Py R5 (by trivial)
 have Yh:=cI (k:=0) (ps:=["one","other"]) vR X G (by trivial) (by decide +kernel) hb (by trivial) (by trivial) N5 (by trivial)
 have Z6:=cI (k:=1) (ps:=["row"]) zP X G (by trivial) (by decide +kernel) hb (by trivial) (by trivial) zq (by trivial)
 have Vd:=cI (k:=1) (ps:=["thing","many"]) ou X G (by trivial) (by decide +kernel) hb (by trivial) Dr Fp (by trivial)
 have Gs:=cI (k:=1) (ps:=["place","many"]) fj X G (by trivial) (by decide +kernel) hb (by trivial) (by trivial) pF (by trivial)
 have J3:=jd (k:=1) (ps:=["self"]) gn bN (by trivial) (by decide +kernel) hb (by trivial) (by trivial) rO (by trivial)
 have H9:=jd (k:=1) (ps:=["self","left","right"]) fM bN (by trivial) (by decide +kernel) hb (by trivial) (by trivial) qI (by trivial)
 have XJ:=cI (k:=1) (ps:=["row"]) qR X G (by trivial) (by decide +kernel) hb (by trivial) (by trivial) qG (by trivial)
 have aaX:=cI (k:=1) (ps:=["script","k"]) Gb X G (by trivial) (by decide +kernel) hb (by trivial) TF WK (by trivial)
 have aaT:=cI (k:=1) (ps:=["box"]) FT X G (by trivial) (by decide +kernel) hb (by trivial) Tt Wx (by trivial)
 have aaW:=cI (k:=1) (ps:=["box"]) Ga X G (by trivial) (by decide +kernel) hb (by trivial) Tz WD (by trivial)
 have XQ:=cI (k:=1) (ps:=["row"]) qU X G (by trivial) (by decide +kernel) hb (by trivial) (by trivial) Jo (by trivial)
 have Al:=jd (k:=2) (ps:=["self","thing"]) cM bN (by trivial) (by decide +kernel) hb (by trivial) (by trivial) j7 (by trivial)
 have ud:=jd (k:=2) (ps:=["self","start","behind"]) ig bN (by trivial) (by decide +kernel) hb (by trivial) (by trivial) vC (by trivial)
 have Kv:=cI (k:=2) (ps:=["runs"]) g8 X G (by trivial) (by decide +kernel) hb (by trivial) (by trivial) vB (by trivial)
 have Qq:=cI (k:=2) (ps:=["thing","runs","taken"]) jL X G (by trivial) (by decide +kernel) hb (by trivial) (by trivial) zm (by trivial)
 have Z7:=cI (k:=2) (ps:=["row","trace","many"]) zR X G (by trivial) (by decide +kernel) hb (by trivial) (by trivial) R4 (by trivial)
 have aaU:=cI (k:=2) (ps:=["box","most"]) FW X G (by trivial) (by decide +kernel) hb (by trivial) Tv Wy (by trivial)
 have Ky:=jd (k:=3) (ps:=["self","place"]) iw bN (by trivial) (by decide +kernel) hb (by trivial) (by trivial) vG (by trivial)
 have Qg:=jd (k:=3) (ps:=["self","place","head"]) jg bN (by trivial) (by decide +kernel) hb (by trivial) (by trivial) wQ (by trivial)
 have Qf:=jd (k:=3) (ps:=["self","place"]) jf bN (by trivial) (by decide +kernel) hb (by trivial) (by trivial) wO (by trivial)
 have Vb:=cI (k:=3) (ps:=["runs","trace"]) n8 X G (by trivial) (by decide +kernel) hb (by trivial) (by trivial) Fl (by trivial)
 have Z9:=cI (k:=3) (ps:=["box","most","size"]) zU X G (by trivial) (by decide +kernel) hb (by trivial) (by trivial) R6 (by trivial)
 have nQ:∀ d j,3<=j->bZ T j (.lD "Contest" "play_all") (spP aM d)->gk (bZ T j) (ji T) (cC d):=by
  intro d j hj zz
  have wH:=Qt.up (show 1<=j by lia)
  have pY:=ud.up (show 3<=j by lia)
  trivial
 have DY:=G8 dU bN mV nR hb (fun _ _ _ _ _ _=>Zc fun _ _ _=>rfl) mW nZ nQ 6
 have Kw:=Y7 (k:=10) (ps:=["self","heads"]) X G iu bN (by trivial) (by decide +kernel) hb (by trivial) (by trivial) vD (by trivial)
 have aaR:=cI (k:=12) (ps:=["runs"]) FP X G (by trivial) (by decide +kernel) hb (by trivial) (by trivial) Wv (by trivial)
 have Qe:=cI (k:=13) (ps:=["runs","trace"]) je X G (by trivial) (by decide +kernel) hb (by trivial) (by trivial) wN (by trivial)
 have o_law:gk (bZ T 14) (ji T) Hl:=by
  trivial
 exact zJ F Vu Y9 hb o_law Xp Zf
end DW.iV
set_option hygiene false in
local macro_rules | `(tactic| decreasing_trivial) => `(tactic| first | (dsimp only [L2.KOf]; refine' DW.O2 ?a ?l ?c ?k; (case a => k_is); (case l => k_is); (case c => k_is); (case k => k_is)) | (dsimp only [L2.KOf]; refine' DW.Nb ?a ?b ?i ?l ?c ?k; (case a => k_is); (case b => k_is); (case i => k_is); (case l => k_is); (case c => k_is); (case k => k_is)) | (dsimp only [L2.KOf]; refine' DW.RJ ?a ?b; (case a => k_is); (case b => k_is)) | (dsimp only [L2.KOf]; refine' DW.O7 ?a ?b ?c ?d ?e ?f ?g; (case a => k_is); (case b => k_is); (case c => k_is); (case d => k_is); (case e => k_is); (case f => k_is); (case g => k_is)))
open PySem PySem.W PyProof.Rows
set_option maxRecDepth 100000 in
set_option maxHeartbeats 0 in
theorem PySem.Challenge.cw_pourwright_k36_whole_led_and_led_back_holds : PySem.Challenge.rw_pourwright_k36_whole_led_and_led_back.Holds := by
 w_on; o_law; k_head; (case hw=>w_witness2)
 k_fill
 refine DW.Nz (l:=PySem.Challenge.rw_pourwright_k36_whole_led_and_led_back) (k:=31) ?I rfl (by decide) rfl (fun w h Y=>by first | exact PySem.W.kIn_of Y | exact PySem.W.km_in_of Y) ?F
 case I=>kernel_rfl
 case F =>
  intro w mg fa h KX G hmg
  have oh:DW.aK (L2.KOf KX) "is_whole" (DW.iV.top 7):=by decreasing_trivial
  have FQ:DW.aK (L2.KOf KX) "less" (DW.iV.top 8):=by decreasing_trivial
  have jM:DW.aK (L2.KOf KX) "sorted_row" (DW.iV.top 10):=by decreasing_trivial
  have zQ:DW.aK (L2.KOf KX) "midst" (DW.iV.top 14):=by decreasing_trivial
  have fL:DW.cQ (L2.KOf KX) "Contest" "winner" "Contest.winner" (L2.inClass (DW.iV.top 16) 10):=by decreasing_trivial
  have qT:DW.aK (L2.KOf KX) "head_of" (DW.iV.top 19):=by decreasing_trivial
  have zV:DW.aK (L2.KOf KX) "_law_cell" (DW.iV.top 28):=by decreasing_trivial
  have FZ:DW.aK (L2.KOf KX) "_law_mix" (DW.iV.top 29):=by decreasing_trivial
  have zT:DW.aK (L2.KOf KX) "_law_take" (DW.iV.top 31):=by decreasing_trivial
  have vR:DW.aK (L2.KOf KX) "_law_under" (DW.iV.top 35):=by decreasing_trivial
  have zP:DW.aK (L2.KOf KX) "rises" (DW.iV.top 9):=by decreasing_trivial
  have ou:DW.aK (L2.KOf KX) "is_below" (DW.iV.top 12):=by decreasing_trivial
  have fj:DW.aK (L2.KOf KX) "stretches_above" (DW.iV.top 15):=by decreasing_trivial
  have gn:DW.cQ (L2.KOf KX) "Contest" "first" "Contest.first" (L2.inClass (DW.iV.top 16) 1):=by decreasing_trivial
  have fM:DW.cQ (L2.KOf KX) "Contest" "better" "Contest.better" (L2.inClass (DW.iV.top 16) 11):=by decreasing_trivial
  have qR:DW.aK (L2.KOf KX) "natural" (DW.iV.top 26):=by decreasing_trivial
  have Gb:DW.aK (L2.KOf KX) "_law_box" (DW.iV.top 30):=by decreasing_trivial
  have FT:DW.aK (L2.KOf KX) "_law_tag" (DW.iV.top 32):=by decreasing_trivial
  have Ga:DW.aK (L2.KOf KX) "_law_key" (DW.iV.top 33):=by decreasing_trivial
  have qU:DW.aK (L2.KOf KX) "_law_sorted" (DW.iV.top 36):=by decreasing_trivial
  have cM:DW.cQ (L2.KOf KX) "Contest" "check_place" "Contest.check_place" (L2.inClass (DW.iV.top 16) 7):=by decreasing_trivial
  have ig:DW.cQ (L2.KOf KX) "Contest" "play" "Contest.play" (L2.inClass (DW.iV.top 16) 9):=by decreasing_trivial
  have g8:DW.aK (L2.KOf KX) "check_rising" (DW.iV.top 18):=by decreasing_trivial
  have jL:DW.aK (L2.KOf KX) "wrong_word" (DW.iV.top 21):=by decreasing_trivial
  have zR:DW.aK (L2.KOf KX) "apart" (DW.iV.top 24):=by decreasing_trivial
  have FW:DW.aK (L2.KOf KX) "_law_row" (DW.iV.top 34):=by decreasing_trivial
  have iw:DW.cQ (L2.KOf KX) "Contest" "head" "Contest.head" (L2.inClass (DW.iV.top 16) 2):=by decreasing_trivial
  have jg:DW.cQ (L2.KOf KX) "Contest" "put" "Contest.put" (L2.inClass (DW.iV.top 16) 3):=by decreasing_trivial
  have jf:DW.cQ (L2.KOf KX) "Contest" "way" "Contest.way" (L2.inClass (DW.iV.top 16) 6):=by decreasing_trivial
  have n8:DW.aK (L2.KOf KX) "together" (DW.iV.top 23):=by decreasing_trivial
  have zU:DW.aK (L2.KOf KX) "_law_runs" (DW.iV.top 37):=by decreasing_trivial
  have dU:DW.cQ (L2.KOf KX) "Contest" "play_all" "Contest.play_all" DW.iV.bH:=by decreasing_trivial
  have iu:DW.cQ (L2.KOf KX) "Contest" "__init__" "Contest.__init__" (L2.inClass (DW.iV.top 16) 0):=by decreasing_trivial
  have FP:DW.aK (L2.KOf KX) "pour" (DW.iV.top 20):=by decreasing_trivial
  have je:DW.aK (L2.KOf KX) "first_wrong" (DW.iV.top 22):=by decreasing_trivial
  have ZG:DW.aK (L2.KOf KX) "law" DW.iV.Bt:=by decreasing_trivial
  have bN:DW.ClsAt (L2.KOf KX) "Contest":=by decreasing_trivial
  have jZ:DW.Af (L2.KOf KX) "Contest" "heads":=by decreasing_trivial
  have iT:DW.Af (L2.KOf KX) "Contest" "winners":=by decreasing_trivial
  have jt:DW.Af (L2.KOf KX) "Contest" "played":=by decreasing_trivial
  have fr:DW.wC (L2.KOf KX) DW.iV.dW:=by
   dsimp only [L2.KOf,DW.iV.dW,DW.wC]
   refine' ⟨?z0,?z1,?z2,?z3,?z4,?z5,?z6,?z7,?z8,?z9,?z10,?z11,?z12,?z13,?z14,trivial⟩
   (case z0=>k_is)
   (case z1=>k_is)
   (case z2=>k_is)
   (case z3=>k_is)
   (case z4=>k_is)
   (case z5=>k_is)
   (case z6=>k_is)
   (case z7=>k_is)
   (case z8=>k_is)
   (case z9=>k_is)
   (case z10=>k_is)
   (case z11=>k_is)
   (case z12=>k_is)
   (case z13=>k_is)
   (case z14=>k_is)
  obtain ⟨f,fd,e1,F⟩:=ZG
  have e2:=hmg.symm.trans (PySem.W.mg_of KX G e1)
  cases e2
  refine ⟨fd,?_,fun base _ _=>DW.iV.Fe (T:=⟨_,w,_,mg,base⟩) KX G fr bN jZ iT jt oh FQ jM zQ fL qT zV FZ zT vR zP ou fj gn fM qR Gb FT Ga qU cM ig g8 jL zR FW iw jg jf n8 zU dU iu FP je F⟩
  obtain ⟨oc,od,kV,doc,pm,an,cdv,ct,osl,rfl,lk,hcd⟩:=F.ex
  exact fun s u=>.of_eq rfl
#print axioms PySem.Challenge.cw_pourwright_k36_whole_led_and_led_back_holds
